import PyProof.Rows.All
import Wide.All
import Wide.FinOn
import Lean
import PyProof.EqAt
import PyProof.EqKinds
import PyProof.TupleCall
import PyProof.AttrMissHeap
import KE.KDictOf
import PyProof.SetRoads
import PyProof.CollectWalk
import PyProof.ZipIter
import PyProof.TupleIter
import PyProof.NeKinds
import PyProof.DictStraight
import PyProof.WalksMore
import KE.KDictList
import KE.KSortTup
import KE.KItemsList
import PyProof.EnumMake
import PyProof.EnumStmt
import PyProof.EnumFor
import PyProof.Rows.EnumRows
import KE.KFromBytes
import KE.KIsAll
import KE.KItem
import KE.KSortAsk
import KE.KTab
import KE.KxBytes
import Open.Claim
import Open.Fast
import Open.FastLooks
import Open.FastTabs
import Open.Head
import Open.Line
import Open.Recs
import Open.Row
import Open.Strs
import OpenK.KCall
import OpenK.KCls
import OpenK.KDescr
import OpenK.KFacts
import OpenK.KGet
import OpenK.KLine
import OpenK.KMake
import OpenK.KMore
import OpenK.KOwn
import OpenK.KRaise
import OpenK.KWalk
import OpenK.Peek
import Open.Tree
import PySem.Challenge.RW_castwright_k37_what_is_a_term
set_option Elab.async false
set_option linter.all false
set_option maxRecDepth 100000
set_option maxHeartbeats 4000000
set_option compiler.extract_closed false
noncomputable section
abbrev Yb:=@List.getElem?_cons_zero
abbrev Yc:=@List.getElem?_cons_succ
abbrev Yd:=@List.mem_cons_of_mem
abbrev Ye:=@List.mem_cons_self
abbrev Yg:=@List.length_cons
abbrev Yh:=@List.length_map
abbrev Yi:=@List.length_nil
abbrev Yj:=@List.length_append
abbrev Yk:=@List.set_cons_zero
abbrev Yl:=@List.set_cons_succ
abbrev Ym:=@List.map_cons
abbrev Yn:=@List.size_toArray
abbrev Yo:=@List.mem_cons
abbrev Yp:=@List.getElem?_eq_getElem
abbrev Yq:=@Bool.false_eq_true
abbrev Yr:=@Nat.le_refl
abbrev Ys:=@Nat.ne_of_lt
abbrev Yt:=@Nat.le_trans
abbrev Yu:=@Nat.lt_of_lt_of_le
abbrev Yv:=@List.append_assoc
abbrev Yw:=@List.nil_append
abbrev Yx:=@List.append_nil
abbrev Yy:=@List.map_append
abbrev Yz:=@List.mem_append
abbrev YA:=@List.mem_singleton
abbrev YB:=@List.map_map
abbrev YC:=@List.mem_map
abbrev YD:=@Option.map_some
abbrev YE:=@Option.some.inj
abbrev YF:=@Bool.not_true
abbrev YG:=@Bool.and_eq_true
abbrev YH:=@decide_eq_true
abbrev YI:=@List.getElem?_append_left
abbrev YJ:=@Nat.lt_irrefl
abbrev YK:=@List.mem_append_left
abbrev YL:=@List.mem_append_right
abbrev YM:=@Bool.not_false
abbrev YN:=@List.getElem?_map
abbrev YO:=@decide_eq_true_eq
abbrev YQ:=@Option.map_eq_some_iff
abbrev YR:=@List.nodup_cons
abbrev YS:=@Array.length_toList
abbrev YT:=@Bool.false_ne_true
abbrev YU:=@Nat.zero_le
abbrev YV:=@Ne.symm
abbrev YW:=@List.getElem?_eq_some_iff
abbrev YX:=@List.not_mem_nil
abbrev YY:=@List.getD_eq_getElem?_getD
abbrev YZ:=@List.flatMap_cons
abbrev Qa:=@Option.bind_eq_some_iff
abbrev Qb:=@PyProof.Rows.callWith_type1
abbrev Qc:=@List.getElem_mem
abbrev Qd:=@False.elim
abbrev Qe:=@List.cons.inj
abbrev Qf:=@congrArg
abbrev Qg:=@decide_eq_false
abbrev Qh:=@absurd
open PySem in
abbrev Qi:=@wpAny_bind
open PySem in
abbrev Qj:=@wpAny_pure
open PySem in
abbrev Qk:=@Heap.get?_push_of_some
open PySem in
abbrev Ql:=@Heap.lt_size
open PySem in
abbrev Qm:=@Heap.get?_push_size
open PySem in
abbrev Qn:=@Heap.size_push
set_option hygiene false in
local macro_rules | `(tactic| walk_at "pa")=>`(tactic| (simp only [Ah,Aa,Ac,Ab,gC,Yk,Yl,Yb,Yc]))
set_option hygiene false in
local macro_rules | `(tactic| walk_at "pb")=>`(tactic| (exact CD (b1:=false) (b2:=false) (b3:=true) rfl (by decide +kernel) (by decide +kernel) (by decide +kernel) rfl fun G1 c=>by simp only [Yq,if_false,if_true];exact lst (xs:=[t.enc]) c (show 1≤3 by decide) rfl fun Z z=>o rfl d z))
set_option hygiene false in
local macro_rules | `(tactic| walk_at "pc")=>`(tactic| (simp only [YG] at h'))
set_option hygiene false in
local macro_rules | `(tactic| walk_at "pd")=>`(tactic| (simp only [Yk,Yl]))
set_option hygiene false in
local macro_rules | `(tactic| walk_at "pe")=>`(tactic| (rcases Yo.mp h with rfl | h))
set_option hygiene false in
local macro_rules | `(tactic| walk_at "pf")=>`(tactic| (rcases Yo.mp a with rfl | a))
set_option hygiene false in
local macro_rules | `(tactic| walk_at "pg")=>`(tactic| (exact d.fpOk (Yr _) (d.hok.fresh (Yr _))))
set_option hygiene false in
local macro_rules | `(tactic| walk_at "ph")=>`(tactic| (exact HP r _ _ _ (fun z=>a (Yd _ z)) (by lia) h))
set_option hygiene false in
local macro_rules | `(tactic| walk_at "pi")=>`(tactic| (obtain ⟨⟨x,b⟩,⟨rfl,h⟩,q⟩:=q))
namespace L2
open PySem PySem.Spec PyProof.Rows
def HQ(s:Stmt)(j:Nat):Stmt:=match s with
 | .ClassDef _ _ _ body _ _ _ _ _ _ _=>body.getD j (.Pass ⟨0,0,0,0⟩)
 | _=>.Pass ⟨0,0,0,0⟩
def C8(s:Stmt):Arguments:=match s with
 | .FunctionDef _ a _ _ _ _ _ _ _ _=>a
 | _=>{posonlyargs:=[],args:=[],vararg:=none,kwonlyargs:=[],kw_defaults:=[],kwarg:=none,defaults:=[]}
def Be(s:Stmt):List Stmt:=match s with
 | .FunctionDef _ _ b _ _ _ _ _ _ _=>b
 | _=>[]
def Aq(s:Stmt):Scope:=match s with
 | .FunctionDef _ _ _ _ _ _ sc _ _ _=>sc
 | _=>{kind:=.function,names:=[],isGenerator:=false,isCoroutine:=false}
end L2
namespace KW
open PySem PySem.Spec PyProof.Rows L2
 def top (i:Nat):Stmt:=PySem.Challenge.pw_castwright_k37_what_is_a_term.main.body.getD i (.Pass ⟨0,0,0,0⟩)
abbrev pwS:Program:=PySem.Challenge.pw_castwright_k37_what_is_a_term
abbrev rwS:PySem.W.OpenLaw:=PySem.Challenge.rw_castwright_k37_what_is_a_term
noncomputable def vwS:Program:=PySem.W.view pwS [1,2,3,4,5,6,7,9,10,11,12,13,14,15,16,17,18,19,20,21,22,23,24,25,26,27,29,30,31,32,33,34,35,36,38,39,40,41,42,43,44,45,46,48,49,50,51,52,53,54,55,56,57,58,59,60,61,62,63,64,65,66,67,68,69,70,71,72,73,74,76,77,78,79,80,81,82,83,84,85,86,87,88,89,90,91,92,93,94,95,96]
abbrev en(P:Params)(k:Str)(t:Tok)(v:Value):DictEntry:=⟨PyData.keyHash P k,.str k t,v⟩
abbrev co(n:Str)(a l g r f e:Nat)(x y:Value)(z t u:Nat):Obj:=.mk (.type "code") Option.none (.fields #[.str n a,.str n (a+1),.str "/claim/cut.py" (a+2),.int l 0,.int g 0,.int 0 0,.int 0 0,.int 3 0,.ref r,.bool Bool.true,.int f 0,.ref e,.none,x,y,.ref z,.int t 0,.int l 0,.str "/claim/cut.py" u]) #[]
abbrev fo(n:Str)(s:Stmt)(q:Str)(t c:Nat):Obj:=.mk (.type "function") Option.none (.func (PySem.W.fnOf n n (C8 s) (Be s) (Aq s) .none .none .none (.str q t) Option.none (.ref c) .none)) #[]
noncomputable def KF:Params->PySem.W.Frag:=λP=>
 (nat_lit 2,.mk .none Option.none (.dict #[]) #[])::
 (nat_lit 3,.mk (.type "dict") Option.none (.dict #[en P "__name__" 165 (.str "law_castwright_k37_what_is_a_term" 858),en P "__doc__" 166 .none,en P "__package__" 167 .none,en P "__loader__" 168 (.builtin "__main__.__loader__#opaque"),en P "__spec__" 169 .none,en P "__annotations__" 170 (.ref 6),en P "__builtins__" 171 (.ref 4),en P "__file__" 173 (.str "/claim/cut.py" 172),en P "__cached__" 174 .none,en P "CastError" 206 (.ref 24),en P "NoKind" 222 (.ref 37),en P "NoTerm" 238 (.ref 49),en P "BadUse" 263 (.ref 68),en P "NoValue" 279 (.ref 80),en P "NoNumber" 295 (.ref 92),en P "BadNote" 311 (.ref 104),en P "MOST_KINDS" 315 (.int 40 314),en P "MOST_DEPTH" 317 (.int 8 316),en P "MOST_LETTERS" 319 (.int 8 318),en P "MARKS" 322 (.ref 107),en P "LENGTHS" 341 (.ref 108),en P "entry_of" 350 (.ref 115),en P "names_of" 356 (.ref 120),en P "names_of_both" 364 (.ref 127),en P "row_of" 370 (.ref 132),en P "is_kind" 377 (.ref 139),en P "is_made_of" 383 (.ref 144),en P "layer_within" 393 (.ref 151),en P "kinds_within" 399 (.ref 156),en P "has_form" 406 (.ref 163),en P "are_fields" 412 (.ref 168),en P "is_field" 419 (.ref 175),en P "is_name" 425 (.ref 180),en P "is_small_letter" 432 (.ref 187),en P "names_rise" 438 (.ref 192),en P "STEPS" 454 (.ref 193),en P "behind" 462 (.ref 205),en P "clash_of" 474 (.ref 212),en P "clash_of_rows" 484 (.ref 219),en P "clash_of_entries" 492 (.ref 226),en P "join_of" 498 (.ref 231),en P "join_of_rows" 504 (.ref 236),en P "join_of_entries" 512 (.ref 243),en P "SERVING" 525 (.ref 249),en P "does_serve" 533 (.ref 256),en P "lack_of" 541 (.ref 263),en P "lack_of_functions" 550 (.ref 270),en P "lack_of_rows" 560 (.ref 277),en P "lack_of_entries" 568 (.ref 284),en P "either_of" 576 (.ref 291),en P "either_of_rows" 582 (.ref 296),en P "either_of_entries" 591 (.ref 303),en P "MOST_TERMS" 595 (.int 40 594),en P "MOST_TERM_DEPTH" 597 (.int 10 596),en P "MOST_NUMBER" 599 (.int 99999999999999999999 598),en P "FORMS" 657 (.ref 304),en P "UNKNOWN" 670 (.ref 320),en P "terms_in" 677 (.ref 334),en P "judged" 684 (.ref 341),en P "check_term" 691 (.ref 348),en P "is_term" 698 (.ref 355),en P "count_of" 704 (.ref 360),en P "form_of" 711 (.ref 367),en P "parts_of" 717 (.ref 372),en P "has_term_form" 723 (.ref 377),en P "is_of_sort" 731 (.ref 384),en P "is_number" 738 (.ref 391),en P "are_term_fields" 744 (.ref 396),en P "is_term_field" 751 (.ref 403),en P "kind_of" 762 (.ref 410),en P "kind_of_use" 773 (.ref 417),en P "kind_of_part" 783 (.ref 424),en P "hold_part" 794 (.ref 431),en P "first_part_as" 805 (.ref 438),en P "kind_of_name" 814 (.ref 445),en P "kind_of_fun" 824 (.ref 452),en P "kind_of_rec" 836 (.ref 459),en P "kind_of_get" 846 (.ref 466),en P "kind_of_or" 857 (.ref 473),en P "_law_cell_at" 867 (.ref 480),en P "_law_whole" 874 (.ref 487),en P "_law_state" 883 (.ref 494),en P "_law_choice" 893 (.ref 501),en P "_law_told_kind" 903 (.ref 508),en P "_law_function" 915 (.ref 515),en P "_law_record" 927 (.ref 522),en P "_law_made" 937 (.ref 529),en P "_law_leaf" 947 (.ref 536),en P "_law_first" 953 (.ref 541),en P "_law_term" 959 (.ref 546),en P "_law_count" 965 (.ref 551),en P "_law_deep" 971 (.ref 556),en P "_law_parts" 977 (.ref 561),en P "_law_drawn_term" 988 (.ref 568),en P "_law_bad_term" 994 (.ref 573),en P "_law_marks" 1002 (.ref 580),en P "_law_refused" 1008 (.ref 585),en P "_law_told" 1018 (.ref 592),en P "_law_forty" 1028 (.ref 599),en P "law" 1034 (.ref 604)] 100) #[])::
 (nat_lit 15,.mk (.type "tuple") Option.none (.seq #[.type "ValueError"]) #[])::
 (nat_lit 22,.mk (.type "tuple") Option.none (.seq #[]) #[])::
 (nat_lit 23,.mk (.type "dict") Option.none (.dict #[en P "__module__" 196 (.str "castwright.errors" 187),en P "__firstlineno__" 200 (.int 2 199),en P "__static_attributes__" 201 (.ref 22),en P "__weakref__" 203 (.ref 25),en P "__doc__" 204 .none] 3) #[])::
 (nat_lit 24,.mk (.type "type") Option.none (.cls (.mk "CastError" [.type "ValueError"] [.ref 24,.type "ValueError",.type "Exception",.type "BaseException",.type "object"] 23 "CastError" Bool.true [] [.ref 37,.ref 49,.ref 68,.ref 80,.ref 92,.ref 104] Bool.false Option.none Bool.false)) #[Option.some (.ref 15),Option.none,Option.some (.str "CastError" 189),Option.some (.str "CastError" 197),Option.some (.builtin "ValueError.__new__"),Option.some (.bool Bool.true)])::
 (nat_lit 25,.mk (.type "getset_descriptor") Option.none (.fields #[.str "__weakref__" 202,.ref 24,.builtin "ExceptionGroup.__weakref__",.none]) #[])::
 (nat_lit 28,.mk (.type "tuple") Option.none (.seq #[.ref 24]) #[])::
 (nat_lit 35,.mk (.type "tuple") Option.none (.seq #[]) #[])::
 (nat_lit 36,.mk (.type "dict") Option.none (.dict #[en P "__module__" 214 (.str "castwright.errors" 187),en P "__firstlineno__" 218 (.int 4 217),en P "__static_attributes__" 219 (.ref 35),en P "__doc__" 220 .none] 2) #[])::
 (nat_lit 37,.mk (.type "type") Option.none (.cls (.mk "NoKind" [.ref 24] [.ref 37,.ref 24,.type "ValueError",.type "Exception",.type "BaseException",.type "object"] 36 "NoKind" Bool.true [] [] Bool.false Option.none Bool.false)) #[Option.some (.ref 28),Option.none,Option.some (.str "NoKind" 207),Option.some (.str "NoKind" 215),Option.some (.builtin "ValueError.__new__"),Option.some (.bool Bool.true)])::
 (nat_lit 40,.mk (.type "tuple") Option.none (.seq #[.ref 24]) #[])::
 (nat_lit 47,.mk (.type "tuple") Option.none (.seq #[]) #[])::
 (nat_lit 48,.mk (.type "dict") Option.none (.dict #[en P "__module__" 230 (.str "castwright.errors" 187),en P "__firstlineno__" 234 (.int 6 233),en P "__static_attributes__" 235 (.ref 47),en P "__doc__" 236 .none] 2) #[])::
 (nat_lit 49,.mk (.type "type") Option.none (.cls (.mk "NoTerm" [.ref 24] [.ref 49,.ref 24,.type "ValueError",.type "Exception",.type "BaseException",.type "object"] 48 "NoTerm" Bool.true [] [] Bool.false Option.none Bool.false)) #[Option.some (.ref 40),Option.none,Option.some (.str "NoTerm" 223),Option.some (.str "NoTerm" 231),Option.some (.builtin "ValueError.__new__"),Option.some (.bool Bool.true)])::
 (nat_lit 52,.mk (.type "tuple") Option.none (.seq #[.ref 24]) #[])::
 (nat_lit 64,.mk (.type "code") Option.none (.fields #[.str "__init__" 251,.str "BadUse.__init__" 252,.str "/claim/cut.py" 253,.int 10 0,.int 2 0,.int 0 0,.int 0 0,.int 3 0,.ref 59,.bool Bool.true,.int 181 0,.ref 60,.none,.ref 61,.ref 62,.ref 63,.int 256 0,.int 10 0,.str "/claim/cut.py" 257]) #[])::
 (nat_lit 65,.mk (.type "function") Option.none (.func (PySem.W.fnOf "__init__" "BadUse.__init__" (C8 (HQ (top 4) 0)) (Be (HQ (top 4) 0)) (Aq (HQ (top 4) 0)) .none .none .none (.str "castwright.errors" 187) Option.none (.ref 64) .none)) #[])::
 (nat_lit 66,.mk (.type "tuple") Option.none (.seq #[.str "path" 259]) #[])::
 (nat_lit 67,.mk (.type "dict") Option.none (.dict #[en P "__module__" 246 (.str "castwright.errors" 187),en P "__firstlineno__" 250 (.int 8 249),en P "__init__" 258 (.ref 65),en P "__static_attributes__" 260 (.ref 66),en P "__doc__" 261 .none] 2) #[])::
 (nat_lit 68,.mk (.type "type") Option.none (.cls (.mk "BadUse" [.ref 24] [.ref 68,.ref 24,.type "ValueError",.type "Exception",.type "BaseException",.type "object"] 67 "BadUse" Bool.true [] [] Bool.false Option.none Bool.false)) #[Option.some (.ref 52),Option.none,Option.some (.str "BadUse" 239),Option.some (.str "BadUse" 247),Option.some (.builtin "ValueError.__new__"),Option.some (.bool Bool.true)])::
 (nat_lit 71,.mk (.type "tuple") Option.none (.seq #[.ref 24]) #[])::
 (nat_lit 78,.mk (.type "tuple") Option.none (.seq #[]) #[])::
 (nat_lit 79,.mk (.type "dict") Option.none (.dict #[en P "__module__" 271 (.str "castwright.errors" 187),en P "__firstlineno__" 275 (.int 12 274),en P "__static_attributes__" 276 (.ref 78),en P "__doc__" 277 .none] 2) #[])::
 (nat_lit 80,.mk (.type "type") Option.none (.cls (.mk "NoValue" [.ref 24] [.ref 80,.ref 24,.type "ValueError",.type "Exception",.type "BaseException",.type "object"] 79 "NoValue" Bool.true [] [] Bool.false Option.none Bool.false)) #[Option.some (.ref 71),Option.none,Option.some (.str "NoValue" 264),Option.some (.str "NoValue" 272),Option.some (.builtin "ValueError.__new__"),Option.some (.bool Bool.true)])::
 (nat_lit 83,.mk (.type "tuple") Option.none (.seq #[.ref 24]) #[])::
 (nat_lit 90,.mk (.type "tuple") Option.none (.seq #[]) #[])::
 (nat_lit 91,.mk (.type "dict") Option.none (.dict #[en P "__module__" 287 (.str "castwright.errors" 187),en P "__firstlineno__" 291 (.int 14 290),en P "__static_attributes__" 292 (.ref 90),en P "__doc__" 293 .none] 2) #[])::
 (nat_lit 92,.mk (.type "type") Option.none (.cls (.mk "NoNumber" [.ref 24] [.ref 92,.ref 24,.type "ValueError",.type "Exception",.type "BaseException",.type "object"] 91 "NoNumber" Bool.true [] [] Bool.false Option.none Bool.false)) #[Option.some (.ref 83),Option.none,Option.some (.str "NoNumber" 280),Option.some (.str "NoNumber" 288),Option.some (.builtin "ValueError.__new__"),Option.some (.bool Bool.true)])::
 (nat_lit 95,.mk (.type "tuple") Option.none (.seq #[.ref 24]) #[])::
 (nat_lit 102,.mk (.type "tuple") Option.none (.seq #[]) #[])::
 (nat_lit 103,.mk (.type "dict") Option.none (.dict #[en P "__module__" 303 (.str "castwright.errors" 187),en P "__firstlineno__" 307 (.int 16 306),en P "__static_attributes__" 308 (.ref 102),en P "__doc__" 309 .none] 2) #[])::
 (nat_lit 104,.mk (.type "type") Option.none (.cls (.mk "BadNote" [.ref 24] [.ref 104,.ref 24,.type "ValueError",.type "Exception",.type "BaseException",.type "object"] 103 "BadNote" Bool.true [] [] Bool.false Option.none Bool.false)) #[Option.some (.ref 95),Option.none,Option.some (.str "BadNote" 296),Option.some (.str "BadNote" 304),Option.some (.builtin "ValueError.__new__"),Option.some (.bool Bool.true)])::
 (nat_lit 107,.mk (.type "tuple") Option.none (.seq #[.str "must" 320,.str "may" 321]) #[])::
 (nat_lit 108,.mk (.type "dict") Option.none (.dict #[en P "any" 323 (.int 1 324),en P "num" 325 (.int 1 326),en P "truth" 327 (.int 1 328),en P "to" 329 (.int 3 330),en P "box" 331 (.int 2 332),en P "row" 333 (.int 3 334)] 6) #[])::
 (nat_lit 114,co "entry_of" 342 24 2 109 181 110 (.ref 111) (.ref 112) 113 348 349)::
 (nat_lit 115,fo "entry_of" (top 14) "castwright.kinds" 312 114)::
 (nat_lit 119,co "names_of" 351 29 1 116 181 117 .none .none 118 354 355)::
 (nat_lit 120,fo "names_of" (top 15) "castwright.kinds" 312 119)::
 (nat_lit 126,co "names_of_both" 357 31 2 121 181 122 (.ref 123) (.ref 124) 125 362 363)::
 (nat_lit 127,fo "names_of_both" (top 16) "castwright.kinds" 312 126)::
 (nat_lit 131,co "row_of" 365 33 3 128 181 129 .none .none 130 368 369)::
 (nat_lit 132,fo "row_of" (top 17) "castwright.kinds" 312 131)::
 (nat_lit 138,co "is_kind" 371 36 1 133 181 134 (.ref 135) (.ref 136) 137 375 376)::
 (nat_lit 139,fo "is_kind" (top 18) "castwright.kinds" 312 138)::
 (nat_lit 143,co "is_made_of" 378 38 5 140 181 141 .none .none 142 381 382)::
 (nat_lit 144,fo "is_made_of" (top 19) "castwright.kinds" 312 143)::
 (nat_lit 150,co "layer_within" 384 51 2 145 181 146 (.ref 147) (.ref 148) 149 391 392)::
 (nat_lit 151,fo "layer_within" (top 20) "castwright.kinds" 312 150)::
 (nat_lit 155,co "kinds_within" 394 56 1 152 181 153 .none .none 154 397 398)::
 (nat_lit 156,fo "kinds_within" (top 21) "castwright.kinds" 312 155)::
 (nat_lit 162,co "has_form" 400 60 1 157 181 158 (.ref 159) (.ref 160) 161 404 405)::
 (nat_lit 163,fo "has_form" (top 22) "castwright.kinds" 312 162)::
 (nat_lit 167,co "are_fields" 407 66 1 164 181 165 .none .none 166 410 411)::
 (nat_lit 168,fo "are_fields" (top 23) "castwright.kinds" 312 167)::
 (nat_lit 174,co "is_field" 413 70 1 169 181 170 (.ref 171) (.ref 172) 173 417 418)::
 (nat_lit 175,fo "is_field" (top 24) "castwright.kinds" 312 174)::
 (nat_lit 179,co "is_name" 420 74 1 176 181 177 .none .none 178 423 424)::
 (nat_lit 180,fo "is_name" (top 25) "castwright.kinds" 312 179)::
 (nat_lit 186,co "is_small_letter" 426 78 1 181 181 182 (.ref 183) (.ref 184) 185 430 431)::
 (nat_lit 187,fo "is_small_letter" (top 26) "castwright.kinds" 312 186)::
 (nat_lit 191,co "names_rise" 433 80 1 188 181 189 .none .none 190 436 437)::
 (nat_lit 192,fo "names_rise" (top 27) "castwright.kinds" 312 191)::
 (nat_lit 193,.mk (.type "dict") Option.none (.dict #[en P "any" 441 (.ref 194),en P "num" 442 (.ref 195),en P "truth" 443 (.ref 196),en P "to" 444 (.ref 197),en P "box" 447 (.ref 198)] 5) #[])::
 (nat_lit 194,.mk (.type "tuple") Option.none (.seq #[]) #[])::
 (nat_lit 195,.mk (.type "tuple") Option.none (.seq #[]) #[])::
 (nat_lit 196,.mk (.type "tuple") Option.none (.seq #[]) #[])::
 (nat_lit 197,.mk (.type "tuple") Option.none (.seq #[.str "in" 445,.str "out" 446]) #[])::
 (nat_lit 198,.mk (.type "tuple") Option.none (.seq #[.str "inside" 448]) #[])::
 (nat_lit 204,co "behind" 455 84 2 199 181 200 (.ref 201) (.ref 202) 203 460 461)::
 (nat_lit 205,fo "behind" (top 30) "castwright.known" 439 204)::
 (nat_lit 211,co "clash_of" 463 86 2 206 181 207 (.ref 208) (.ref 209) 210 472 473)::
 (nat_lit 212,fo "clash_of" (top 31) "castwright.known" 439 211)::
 (nat_lit 218,co "clash_of_rows" 475 98 2 213 181 214 (.ref 215) (.ref 216) 217 482 483)::
 (nat_lit 219,fo "clash_of_rows" (top 32) "castwright.known" 439 218)::
 (nat_lit 225,co "clash_of_entries" 485 104 2 220 181 221 (.ref 222) (.ref 223) 224 490 491)::
 (nat_lit 226,fo "clash_of_entries" (top 33) "castwright.known" 439 225)::
 (nat_lit 230,co "join_of" 493 110 2 227 181 228 .none .none 229 496 497)::
 (nat_lit 231,fo "join_of" (top 34) "castwright.known" 439 230)::
 (nat_lit 235,co "join_of_rows" 499 116 2 232 181 233 .none .none 234 502 503)::
 (nat_lit 236,fo "join_of_rows" (top 35) "castwright.known" 439 235)::
 (nat_lit 242,co "join_of_entries" 505 120 2 237 181 238 (.ref 239) (.ref 240) 241 510 511)::
 (nat_lit 243,fo "join_of_entries" (top 36) "castwright.known" 439 242)::
 (nat_lit 244,.mk (.type "tuple") Option.none (.seq #[.str "none" 515,.str "none" 516]) #[])::
 (nat_lit 245,.mk (.type "tuple") Option.none (.seq #[.str "none" 517,.str "may" 518]) #[])::
 (nat_lit 246,.mk (.type "tuple") Option.none (.seq #[.str "must" 519,.str "must" 520]) #[])::
 (nat_lit 247,.mk (.type "tuple") Option.none (.seq #[.str "must" 521,.str "may" 522]) #[])::
 (nat_lit 248,.mk (.type "tuple") Option.none (.seq #[.str "may" 523,.str "may" 524]) #[])::
 (nat_lit 249,.mk (.type "tuple") Option.none (.seq #[.ref 244,.ref 245,.ref 246,.ref 247,.ref 248]) #[])::
 (nat_lit 255,co "does_serve" 526 126 2 250 181 251 (.ref 252) (.ref 253) 254 531 532)::
 (nat_lit 256,fo "does_serve" (top 39) "castwright.serving" 513 255)::
 (nat_lit 262,co "lack_of" 534 128 2 257 181 258 (.ref 259) (.ref 260) 261 539 540)::
 (nat_lit 263,fo "lack_of" (top 40) "castwright.serving" 513 262)::
 (nat_lit 269,co "lack_of_functions" 542 140 2 264 181 265 (.ref 266) (.ref 267) 268 548 549)::
 (nat_lit 270,fo "lack_of_functions" (top 41) "castwright.serving" 513 269)::
 (nat_lit 276,co "lack_of_rows" 551 145 2 271 181 272 (.ref 273) (.ref 274) 275 558 559)::
 (nat_lit 277,fo "lack_of_rows" (top 42) "castwright.serving" 513 276)::
 (nat_lit 283,co "lack_of_entries" 561 151 2 278 181 279 (.ref 280) (.ref 281) 282 566 567)::
 (nat_lit 284,fo "lack_of_entries" (top 43) "castwright.serving" 513 283)::
 (nat_lit 290,co "either_of" 569 157 2 285 181 286 (.ref 287) (.ref 288) 289 574 575)::
 (nat_lit 291,fo "either_of" (top 44) "castwright.serving" 513 290)::
 (nat_lit 295,co "either_of_rows" 577 167 2 292 181 293 .none .none 294 580 581)::
 (nat_lit 296,fo "either_of_rows" (top 45) "castwright.serving" 513 295)::
 (nat_lit 302,co "either_of_entries" 583 171 2 297 181 298 (.ref 299) (.ref 300) 301 589 590)::
 (nat_lit 303,fo "either_of_entries" (top 46) "castwright.serving" 513 302)::
 (nat_lit 304,.mk (.type "dict") Option.none (.dict #[en P "num" 600 (.ref 305),en P "truth" 602 (.ref 306),en P "name" 604 (.ref 307),en P "fun" 606 (.ref 308),en P "call" 610 (.ref 309),en P "rec" 613 (.ref 310),en P "get" 615 (.ref 311),en P "or" 618 (.ref 312),en P "if" 622 (.ref 313),en P "plus" 626 (.ref 314),en P "less" 629 (.ref 315),en P "new" 632 (.ref 316),en P "read" 634 (.ref 317),en P "write" 636 (.ref 318),en P "as" 639 (.ref 319)] 15) #[])::
 (nat_lit 305,.mk (.type "tuple") Option.none (.seq #[.str "number" 601]) #[])::
 (nat_lit 306,.mk (.type "tuple") Option.none (.seq #[.str "truth" 603]) #[])::
 (nat_lit 307,.mk (.type "tuple") Option.none (.seq #[.str "name" 605]) #[])::
 (nat_lit 308,.mk (.type "tuple") Option.none (.seq #[.str "name" 607,.str "kind" 608,.str "term" 609]) #[])::
 (nat_lit 309,.mk (.type "tuple") Option.none (.seq #[.str "term" 611,.str "term" 612]) #[])::
 (nat_lit 310,.mk (.type "tuple") Option.none (.seq #[.str "fields" 614]) #[])::
 (nat_lit 311,.mk (.type "tuple") Option.none (.seq #[.str "term" 616,.str "name" 617]) #[])::
 (nat_lit 312,.mk (.type "tuple") Option.none (.seq #[.str "term" 619,.str "name" 620,.str "term" 621]) #[])::
 (nat_lit 313,.mk (.type "tuple") Option.none (.seq #[.str "term" 623,.str "term" 624,.str "term" 625]) #[])::
 (nat_lit 314,.mk (.type "tuple") Option.none (.seq #[.str "term" 627,.str "term" 628]) #[])::
 (nat_lit 315,.mk (.type "tuple") Option.none (.seq #[.str "term" 630,.str "term" 631]) #[])::
 (nat_lit 316,.mk (.type "tuple") Option.none (.seq #[.str "term" 633]) #[])::
 (nat_lit 317,.mk (.type "tuple") Option.none (.seq #[.str "term" 635]) #[])::
 (nat_lit 318,.mk (.type "tuple") Option.none (.seq #[.str "term" 637,.str "term" 638]) #[])::
 (nat_lit 319,.mk (.type "tuple") Option.none (.seq #[.str "term" 640,.str "kind" 641]) #[])::
 (nat_lit 320,.mk (.type "dict") Option.none (.dict #[en P "to" 658 (.ref 323),en P "box" 662 (.ref 325),en P "row" 665 (.ref 327)] 3) #[])::
 (nat_lit 323,.mk (.type "tuple") Option.none (.seq #[.str "to" 659,.ref 321,.ref 322]) #[])::
 (nat_lit 325,.mk (.type "tuple") Option.none (.seq #[.str "box" 663,.ref 324]) #[])::
 (nat_lit 327,.mk (.type "tuple") Option.none (.seq #[.str "row" 666,.ref 326,.bool Bool.true]) #[])::
 (nat_lit 333,co "terms_in" 671 186 1 328 181 329 (.ref 330) (.ref 331) 332 675 676)::
 (nat_lit 334,fo "terms_in" (top 53) "castwright.terms" 592 333)::
 (nat_lit 340,co "judged" 678 189 1 335 181 336 (.ref 337) (.ref 338) 339 682 683)::
 (nat_lit 341,fo "judged" (top 54) "castwright.terms" 592 340)::
 (nat_lit 347,co "check_term" 685 192 1 342 181 343 (.ref 344) (.ref 345) 346 689 690)::
 (nat_lit 348,fo "check_term" (top 55) "castwright.terms" 592 347)::
 (nat_lit 354,co "is_term" 692 195 1 349 181 350 (.ref 351) (.ref 352) 353 696 697)::
 (nat_lit 355,fo "is_term" (top 56) "castwright.terms" 592 354)::
 (nat_lit 359,co "count_of" 699 197 1 356 181 357 .none .none 358 702 703)::
 (nat_lit 360,fo "count_of" (top 57) "castwright.terms" 592 359)::
 (nat_lit 366,co "form_of" 705 199 1 361 181 362 (.ref 363) (.ref 364) 365 709 710)::
 (nat_lit 367,fo "form_of" (top 58) "castwright.terms" 592 366)::
 (nat_lit 371,co "parts_of" 712 201 1 368 181 369 .none .none 370 715 716)::
 (nat_lit 372,fo "parts_of" (top 59) "castwright.terms" 592 371)::
 (nat_lit 376,co "has_term_form" 718 205 1 373 181 374 .none .none 375 721 722)::
 (nat_lit 377,fo "has_term_form" (top 60) "castwright.terms" 592 376)::
 (nat_lit 383,co "is_of_sort" 724 212 2 378 181 379 (.ref 380) (.ref 381) 382 729 730)::
 (nat_lit 384,fo "is_of_sort" (top 61) "castwright.terms" 592 383)::
 (nat_lit 390,co "is_number" 732 224 1 385 181 386 (.ref 387) (.ref 388) 389 736 737)::
 (nat_lit 391,fo "is_number" (top 62) "castwright.terms" 592 390)::
 (nat_lit 395,co "are_term_fields" 739 228 1 392 181 393 .none .none 394 742 743)::
 (nat_lit 396,fo "are_term_fields" (top 63) "castwright.terms" 592 395)::
 (nat_lit 402,co "is_term_field" 745 232 1 397 181 398 (.ref 399) (.ref 400) 401 749 750)::
 (nat_lit 403,fo "is_term_field" (top 64) "castwright.terms" 592 402)::
 (nat_lit 409,co "kind_of" 752 234 3 404 181 405 (.ref 406) (.ref 407) 408 760 761)::
 (nat_lit 410,fo "kind_of" (top 65) "castwright.terms" 592 409)::
 (nat_lit 416,co "kind_of_use" 763 258 3 411 181 412 (.ref 413) (.ref 414) 415 771 772)::
 (nat_lit 417,fo "kind_of_use" (top 66) "castwright.terms" 592 416)::
 (nat_lit 423,co "kind_of_part" 774 271 4 418 181 419 (.ref 420) (.ref 421) 422 781 782)::
 (nat_lit 424,fo "kind_of_part" (top 67) "castwright.terms" 592 423)::
 (nat_lit 430,co "hold_part" 784 273 5 425 181 426 (.ref 427) (.ref 428) 429 792 793)::
 (nat_lit 431,fo "hold_part" (top 68) "castwright.terms" 592 430)::
 (nat_lit 437,co "first_part_as" 795 276 4 432 181 433 (.ref 434) (.ref 435) 436 803 804)::
 (nat_lit 438,fo "first_part_as" (top 69) "castwright.terms" 592 437)::
 (nat_lit 444,co "kind_of_name" 806 283 3 439 181 440 (.ref 441) (.ref 442) 443 812 813)::
 (nat_lit 445,fo "kind_of_name" (top 70) "castwright.terms" 592 444)::
 (nat_lit 451,co "kind_of_fun" 815 287 3 446 181 447 (.ref 448) (.ref 449) 450 822 823)::
 (nat_lit 452,fo "kind_of_fun" (top 71) "castwright.terms" 592 451)::
 (nat_lit 458,co "kind_of_rec" 825 291 3 453 181 454 (.ref 455) (.ref 456) 457 834 835)::
 (nat_lit 459,fo "kind_of_rec" (top 72) "castwright.terms" 592 458)::
 (nat_lit 465,co "kind_of_get" 837 296 3 460 181 461 (.ref 462) (.ref 463) 464 844 845)::
 (nat_lit 466,fo "kind_of_get" (top 73) "castwright.terms" 592 465)::
 (nat_lit 472,co "kind_of_or" 847 301 3 467 181 468 (.ref 469) (.ref 470) 471 855 856)::
 (nat_lit 473,fo "kind_of_or" (top 74) "castwright.terms" 592 472)::
 (nat_lit 479,co "_law_cell_at" 860 310 2 474 181 475 (.ref 476) (.ref 477) 478 865 866)::
 (nat_lit 480,fo "_law_cell_at" (top 76) "law_castwright_k37_what_is_a_term" 858 479)::
 (nat_lit 486,co "_law_whole" 868 314 1 481 181 482 (.ref 483) (.ref 484) 485 872 873)::
 (nat_lit 487,fo "_law_whole" (top 77) "law_castwright_k37_what_is_a_term" 858 486)::
 (nat_lit 493,co "_law_state" 875 316 2 488 181 489 (.ref 490) (.ref 491) 492 881 882)::
 (nat_lit 494,fo "_law_state" (top 78) "law_castwright_k37_what_is_a_term" 858 493)::
 (nat_lit 500,co "_law_choice" 884 321 2 495 181 496 (.ref 497) (.ref 498) 499 891 892)::
 (nat_lit 501,fo "_law_choice" (top 79) "law_castwright_k37_what_is_a_term" 858 500)::
 (nat_lit 507,co "_law_told_kind" 894 330 1 502 181 503 (.ref 504) (.ref 505) 506 901 902)::
 (nat_lit 508,fo "_law_told_kind" (top 80) "law_castwright_k37_what_is_a_term" 858 507)::
 (nat_lit 514,co "_law_function" 904 339 4 509 181 510 (.ref 511) (.ref 512) 513 913 914)::
 (nat_lit 515,fo "_law_function" (top 81) "law_castwright_k37_what_is_a_term" 858 514)::
 (nat_lit 521,co "_law_record" 916 343 4 516 181 517 (.ref 518) (.ref 519) 520 925 926)::
 (nat_lit 522,fo "_law_record" (top 82) "law_castwright_k37_what_is_a_term" 858 521)::
 (nat_lit 528,co "_law_made" 928 349 4 523 181 524 (.ref 525) (.ref 526) 527 935 936)::
 (nat_lit 529,fo "_law_made" (top 83) "law_castwright_k37_what_is_a_term" 858 528)::
 (nat_lit 535,co "_law_leaf" 938 359 2 530 181 531 (.ref 532) (.ref 533) 534 945 946)::
 (nat_lit 536,fo "_law_leaf" (top 84) "law_castwright_k37_what_is_a_term" 858 535)::
 (nat_lit 540,co "_law_first" 948 364 5 537 181 538 .none .none 539 951 952)::
 (nat_lit 541,fo "_law_first" (top 85) "law_castwright_k37_what_is_a_term" 858 540)::
 (nat_lit 545,co "_law_term" 954 381 4 542 181 543 .none .none 544 957 958)::
 (nat_lit 546,fo "_law_term" (top 86) "law_castwright_k37_what_is_a_term" 858 545)::
 (nat_lit 550,co "_law_count" 960 411 1 547 181 548 .none .none 549 963 964)::
 (nat_lit 551,fo "_law_count" (top 87) "law_castwright_k37_what_is_a_term" 858 550)::
 (nat_lit 555,co "_law_deep" 966 413 1 552 181 553 .none .none 554 969 970)::
 (nat_lit 556,fo "_law_deep" (top 88) "law_castwright_k37_what_is_a_term" 858 555)::
 (nat_lit 560,co "_law_parts" 972 415 1 557 181 558 .none .none 559 975 976)::
 (nat_lit 561,fo "_law_parts" (top 89) "law_castwright_k37_what_is_a_term" 858 560)::
 (nat_lit 567,co "_law_drawn_term" 978 427 2 562 181 563 (.ref 564) (.ref 565) 566 986 987)::
 (nat_lit 568,fo "_law_drawn_term" (top 90) "law_castwright_k37_what_is_a_term" 858 567)::
 (nat_lit 572,co "_law_bad_term" 989 437 2 569 181 570 .none .none 571 992 993)::
 (nat_lit 573,fo "_law_bad_term" (top 91) "law_castwright_k37_what_is_a_term" 858 572)::
 (nat_lit 579,co "_law_marks" 995 465 1 574 181 575 (.ref 576) (.ref 577) 578 1000 1001)::
 (nat_lit 580,fo "_law_marks" (top 92) "law_castwright_k37_what_is_a_term" 858 579)::
 (nat_lit 584,co "_law_refused" 1003 468 2 581 181 582 .none .none 583 1006 1007)::
 (nat_lit 585,fo "_law_refused" (top 93) "law_castwright_k37_what_is_a_term" 858 584)::
 (nat_lit 591,co "_law_told" 1009 470 2 586 181 587 (.ref 588) (.ref 589) 590 1016 1017)::
 (nat_lit 592,fo "_law_told" (top 94) "law_castwright_k37_what_is_a_term" 858 591)::
 (nat_lit 598,co "_law_forty" 1019 480 0 593 181 594 (.ref 595) (.ref 596) 597 1026 1027)::
 (nat_lit 599,fo "_law_forty" (top 95) "law_castwright_k37_what_is_a_term" 858 598)::
 (nat_lit 603,co "law" 1029 486 1 600 181 601 .none .none 602 1032 1033)::
 (nat_lit 604,fo "law" (top 96) "law_castwright_k37_what_is_a_term" 858 603)::
 []
noncomputable def KL:List Addr:=2::3::15::22::23::24::25::28::35::36::37::40::47::48::49::52::64::65::66::67::68::71::78::79::80::83::90::91::92::95::102::103::104::107::108::114::115::119::120::126::127::131::132::138::139::143::144::150::151::155::156::162::163::167::168::174::175::179::180::186::187::191::192::193::194::195::196::197::198::204::205::211::212::218::219::225::226::230::231::235::236::242::243::244::245::246::247::248::249::255::256::262::263::269::270::276::277::283::284::290::291::295::296::302::303::304::305::306::307::308::309::310::311::312::313::314::315::316::317::318::319::320::323::325::327::333::334::340::341::347::348::354::355::359::360::366::367::371::372::376::377::383::384::390::391::395::396::402::403::409::410::416::417::423::424::430::431::437::438::444::445::451::452::458::459::465::466::472::473::479::480::486::487::493::494::500::501::507::508::514::515::521::522::528::529::535::536::540::541::545::546::550::551::555::556::560::561::567::568::572::573::579::580::584::585::591::592::598::599::603::604::[]
theorem kfe(P:Params):KL=(KF P).map (·.1):=by kernel_rfl
section
open PySem.W
abbrev OE(w:World):=openEnds treeTable pwS w 8748
abbrev FS(s:Shared):=openSeen vwS ["LENGTHS","STEPS","FORMS","UNKNOWN"] (importedModules pwS.main.body) (λs=>xlAt vwS [] s&&recOk (RowW.records rwS.row.toRowW) s) true s
abbrev OB(s:Shared):=(kHook KF KL kfe).obs s
abbrev VA(w:World):=(kHook KF KL kfe).val w
abbrev GD:=openGood vwS ["LENGTHS","STEPS","FORMS","UNKNOWN"]
abbrev LB(w:World):Prop:=(OE w).map (λs=>(FS s,OB s))=some (GD,VA w)
theorem mpp{α β γ:Type}{o:Option α}{f:α->β}{g:α->γ}{a:β}{b:γ}(h1:o.map f=some a)(h2:o.map g=some b):o.map (λs=>(f s,g s))=some (a,b):=by
 cases o with
 | none=>cases h1
 | some s=>exact Qf some (Prod.ext (YE h1) (YE h2))
theorem mpl{α β γ:Type}{o:Option α}{f:α->β}{g:α->γ}{a:β}{b:γ}(h:o.map (λs=>(f s,g s))=some (a,b)):o.map f=some a:=by
 cases o with
 | none=>cases h
 | some s=>exact Qf some (Prod.ext_iff.mp (YE h)).1
theorem mpr{α β γ:Type}{o:Option α}{f:α->β}{g:α->γ}{a:β}{b:γ}(h:o.map (λs=>(f s,g s))=some (a,b)):o.map g=some b:=by
 cases o with
 | none=>cases h
 | some s=>exact Qf some (Prod.ext_iff.mp (YE h)).2
theorem mpb{α:Type}{o:Option α}{k a b c d e f:α->Bool}(h1:o.map k=some true)(h2:o.map (λs=>a s&&b s&&c s&&d s&&e s&&f s)=some true):o.map (λs=>k s&&a s&&b s&&c s&&d s&&e s&&f s)=some true:=by
 cases o with
 | none=>cases h1
 | some s =>
  have x:k s=true:=YE h1
  have y:(a s&&b s&&c s&&d s&&e s&&f s)=true:=YE h2
  refine Qf some ?_
  show(k s&&a s&&b s&&c s&&d s&&e s&&f s)=true
  rw[x];exact y
def topRunT(tb:String->Option Builtin)(p:Program)(w:World)(n0:Nat)(ann:Option Value):Nat->SharedT->Thread->Option SharedT
 | 0,_,_=>none
 | n+1,s,t=>match through t with
  | true=>some s
  | false=>match stepOk n0 ann t with
   | false=>none
   | true=>match stepT (denote tb) p w s t with
    | some (s',t')=>topRunT tb p w n0 ann n s' t'
    | none=>none
theorem topRun_of{tb:String->Option Builtin}{p:Program}{w:World}{n0:Nat}{ann:Option Value}:∀{n:Nat}{s s':SharedT}{t:Thread},topRunT tb p w n0 ann n s t=some s'->topRun tb p w n0 ann n s.abs t=some s'.abs
 | 0,_,_,_,h=>by cases h
 | n+1,s,s',t,h=>by
  unfold topRunT at h
  unfold topRun
  cases he:through t with
  | true=>rw[he] at h;cases h;rfl
  | false=>
   rw[he] at h
   cases hk:stepOk n0 ann t with
   | false=>rw[hk] at h;cases h
   | true=>
    rw[hk] at h
    cases hs:stepT (denote tb) p w s t with
    | none=>rw[hs] at h;cases h
    | some r=>obtain ⟨s2,t2⟩:=r;rw[hs] at h;rw[stepT_spec hs];exact topRun_of h
def insAll:List Obj->BT->Nat->Option BT
 | [],t,_=>some t
 | o::l,t,n=>match ((t.ins n o).get n).isSome with
  | true=>insAll l (t.ins n o) (n+1)
  | false=>none
theorem insAll_of{life:Life}:∀(l:List Obj)(t:BT)(n:Nat)(t':BT),insAll l t n=some t'->absHeap t' (n+l.length) life=⟨(absHeap t n life).objs++l.toArray,life⟩
 | [],t,n,t',h=>by
  have h:some t=some t':=h
  cases h
  show absHeap t n life=_
  rw[Array.append_empty];rfl
 | o::l,t,n,t',h=>by
  unfold insAll at h
  cases hs:((t.ins n o).get n).isSome with
  | false=>rw[hs] at h;cases h
  | true=>
   rw[hs] at h
   have e:=insAll_of (life:=life) l _ _ _ h
   rw[List.length_cons,show n+(l.length+1)=n+1+l.length by omega,e,absHeap_ins hs]
   show Heap.mk ((absHeap t n life).objs.push o++l.toArray) life=_
   congr 1
   apply Array.ext'
   simp
def topFromT(tb:String->Option Builtin)(p:Program)(w:World)(N:Nat)(s:Shared):Option SharedT:=match s.heap.isNs mainGlobals&&s.gens.size==0 with
 | true=>(insAll s.heap.objs.toList .nil 0).bind λt=>(topRunT tb p w s.heap.objs.size (s.heap.nsMap mainGlobals "__annotations__") N ⟨t,s.heap.objs.size,s.heap.life,s.gens,s.drawn,s.toks,s.os⟩ (topStub p)).bind λs1=>match staticsOk (importedModules p.main.body) s.heap s1.abs.heap&&namesBound p s1.abs.heap&&gensDone s1.abs&&laidKept s.heap s1.abs.heap with
  | true=>some s1
  | false=>none
 | false=>none
theorem topFrom_of{tb:String->Option Builtin}{p:Program}{w:World}{N:Nat}{s:Shared}{s1:SharedT}(h:topFromT tb p w N s=some s1):topFrom tb p w N s=some s1.abs:=by
 unfold topFromT at h
 unfold topFrom
 cases h0:(s.heap.isNs mainGlobals&&s.gens.size==0) with
 | false=>rw[h0] at h;cases h
 | true=>
  rw[h0] at h
  obtain ⟨t,h1,h2⟩:=Option.bind_eq_some_iff.mp h
  obtain ⟨s2,h3,h4⟩:=Option.bind_eq_some_iff.mp h2
  have e:=insAll_of (life:=s.heap.life) _ _ _ _ h1
  have e2:(SharedT.mk t s.heap.objs.size s.heap.life s.gens s.drawn s.toks s.os).abs=s:=by
   rw[Nat.zero_add,Array.length_toList] at e
   show Shared.mk (absHeap t s.heap.objs.size s.heap.life) _ _ _ _=_
   rw[e]
   obtain ⟨⟨objs,life⟩,g,d,k,os⟩:=s
   show Shared.mk ⟨#[]++objs.toList.toArray,life⟩ g d k os=_
   simp
  have r:=topRun_of h3
  rw[e2] at r
  show (topRun tb p w _ _ N s (topStub p)).bind _=_
  rw[r]
  show (match staticsOk (importedModules p.main.body) s.heap s2.abs.heap&&namesBound p s2.abs.heap&&gensDone s2.abs&&laidKept s.heap s2.abs.heap with
   | true=>some s2.abs
   | false=>none)=_
  cases h5:(staticsOk (importedModules p.main.body) s.heap s2.abs.heap&&namesBound p s2.abs.heap&&gensDone s2.abs&&laidKept s.heap s2.abs.heap) with
  | false=>rw[h5] at h4;cases h4
  | true=>rw[h5] at h4;cases h4;rfl
def openEndsT(tb:String->Option Builtin)(p:Program)(w:World)(N:Nat):Option SharedT:=(fencedOpening tb p w N).bind (topFromT tb p w N)
theorem openT_of{tb:String->Option Builtin}{p:Program}{w:World}{N:Nat}{α:Type}{f:Shared->α}{v:α}(h:(openEndsT tb p w N).map (λs=>f s.abs)=some v):(openEnds tb p w N).map f=some v:=by
 obtain ⟨s,h1,h2⟩:=Option.map_eq_some_iff.mp h
 obtain ⟨s0,h3,h4⟩:=Option.bind_eq_some_iff.mp h1
 unfold openEnds
 rw[h3]
 show (topFrom tb p w N s0).map f=_
 rw[topFrom_of h4]
 exact congrArg some h2
theorem ST9T(w:World):(openEndsT treeTable pwS (w.withFollow "special-get-raises" false) 8748).map (λs=>(λs:Shared=>OB s) s.abs)=some (VA (w.withFollow "special-get-raises" false)):=by kernel_rfl
theorem ST(w:World):(OE (w.withFollow "special-get-raises" false)).map (λs=>OB s)=some (VA (w.withFollow "special-get-raises" false)):=openT_of (ST9T w)
theorem SU9T(w:World):(openEndsT treeTable pwS (w.withFollow "special-get-raises" false) 8748).map (λs=>(λs:Shared=>seen ((recsOf vwS).map (·.name)) (ownsOf vwS) [] {s with gens:=#[]}) s.abs)=some (expectedOf vwS):=by kernel_rfl
theorem SU(w:World):(OE (w.withFollow "special-get-raises" false)).map (λs=>seen ((recsOf vwS).map (·.name)) (ownsOf vwS) [] {s with gens:=#[]})=some (expectedOf vwS):=openT_of (SU9T w)
theorem Lb9T(w:World):(openEndsT treeTable pwS (w.withFollow "special-get-raises" false) 8748).map (λs=>(λs:Shared=>(s.heap.bltView,tabsOk vwS s)) s.abs)=some ((bltViewBooted,true)):=by kernel_rfl
theorem Lb(w:World):(OE (w.withFollow "special-get-raises" false)).map (λs=>(s.heap.bltView,tabsOk vwS s))=some ((bltViewBooted,true)):=openT_of (Lb9T w)
theorem SV9T(w:World):(openEndsT treeTable pwS (w.withFollow "special-get-raises" false) 8748).map (λs=>(λs:Shared=>s.heap.keysOk (looseW vwS ["LENGTHS","STEPS","FORMS","UNKNOWN"]) ((recsOf vwS).map (·.name)) ((litsOf vwS).map (·.1)) ((clssOf vwS (looseW vwS ["LENGTHS","STEPS","FORMS","UNKNOWN"])).map (·.name))) s.abs)=some (true):=by kernel_rfl
theorem SV(w:World):(OE (w.withFollow "special-get-raises" false)).map (λs=>s.heap.keysOk (looseW vwS ["LENGTHS","STEPS","FORMS","UNKNOWN"]) ((recsOf vwS).map (·.name)) ((litsOf vwS).map (·.1)) ((clssOf vwS (looseW vwS ["LENGTHS","STEPS","FORMS","UNKNOWN"])).map (·.name)))=some (true):=openT_of (SV9T w)
theorem SW9T(w:World):(openEndsT treeTable pwS (w.withFollow "special-get-raises" false) 8748).map (λs=>(λs:Shared=>s.heap.accountedOkI (importedModules pwS.main.body)&&s.heap.isNs mainGlobals&&s.heap.isNs builtinsNs&&tablesOk vwS s.heap&&(xlAt vwS [] s&&recOk (RowW.records rwS.row.toRowW) s)&&(s.gens.size==0)) s.abs)=some (true):=by kernel_rfl
theorem SW(w:World):(OE (w.withFollow "special-get-raises" false)).map (λs=>s.heap.accountedOkI (importedModules pwS.main.body)&&s.heap.isNs mainGlobals&&s.heap.isNs builtinsNs&&tablesOk vwS s.heap&&(xlAt vwS [] s&&recOk (RowW.records rwS.row.toRowW) s)&&(s.gens.size==0))=some (true):=openT_of (SW9T w)
theorem SX9T(w:World):(openEndsT treeTable pwS (w.withFollow "special-get-raises" false) 8748).map (λs=>(λs:Shared=>(pinSeenD vwS (drecsOf vwS) s,plainSeenE vwS (looseW vwS ["LENGTHS","STEPS","FORMS","UNKNOWN"]) s,plainSeenD vwS ["LENGTHS","STEPS","FORMS","UNKNOWN"] s,wideSeen vwS s,clsSeenW vwS ["LENGTHS","STEPS","FORMS","UNKNOWN"] s)) s.abs)=some ((pinGoodD (drecsOf vwS),plainGoodE vwS (looseW vwS ["LENGTHS","STEPS","FORMS","UNKNOWN"]),plainGoodD vwS ["LENGTHS","STEPS","FORMS","UNKNOWN"],wideGood vwS,clsGoodW vwS ["LENGTHS","STEPS","FORMS","UNKNOWN"])):=by kernel_rfl
theorem SX(w:World):(OE (w.withFollow "special-get-raises" false)).map (λs=>(pinSeenD vwS (drecsOf vwS) s,plainSeenE vwS (looseW vwS ["LENGTHS","STEPS","FORMS","UNKNOWN"]) s,plainSeenD vwS ["LENGTHS","STEPS","FORMS","UNKNOWN"] s,wideSeen vwS s,clsSeenW vwS ["LENGTHS","STEPS","FORMS","UNKNOWN"] s))=some ((pinGoodD (drecsOf vwS),plainGoodE vwS (looseW vwS ["LENGTHS","STEPS","FORMS","UNKNOWN"]),plainGoodD vwS ["LENGTHS","STEPS","FORMS","UNKNOWN"],wideGood vwS,clsGoodW vwS ["LENGTHS","STEPS","FORMS","UNKNOWN"])):=openT_of (SX9T w)
theorem lbf(w:World):LB (w.withFollow "special-get-raises" false):=mpp (mpp (SU w) (mpp (mpl (Lb w)) (mpp (mpb (SV w) (SW w)) (mpp (mpr (Lb w)) (SX w))))) (ST w)
theorem SY9T(w:World):(openEndsT treeTable pwS (w.withFollow "special-get-raises" true) 8748).map (λs=>(λs:Shared=>OB s) s.abs)=some (VA (w.withFollow "special-get-raises" true)):=by kernel_rfl
theorem SY(w:World):(OE (w.withFollow "special-get-raises" true)).map (λs=>OB s)=some (VA (w.withFollow "special-get-raises" true)):=openT_of (SY9T w)
theorem SZ9T(w:World):(openEndsT treeTable pwS (w.withFollow "special-get-raises" true) 8748).map (λs=>(λs:Shared=>seen ((recsOf vwS).map (·.name)) (ownsOf vwS) [] {s with gens:=#[]}) s.abs)=some (expectedOf vwS):=by kernel_rfl
theorem SZ(w:World):(OE (w.withFollow "special-get-raises" true)).map (λs=>seen ((recsOf vwS).map (·.name)) (ownsOf vwS) [] {s with gens:=#[]})=some (expectedOf vwS):=openT_of (SZ9T w)
theorem Lc9T(w:World):(openEndsT treeTable pwS (w.withFollow "special-get-raises" true) 8748).map (λs=>(λs:Shared=>(s.heap.bltView,tabsOk vwS s)) s.abs)=some ((bltViewBooted,true)):=by kernel_rfl
theorem Lc(w:World):(OE (w.withFollow "special-get-raises" true)).map (λs=>(s.heap.bltView,tabsOk vwS s))=some ((bltViewBooted,true)):=openT_of (Lc9T w)
theorem S09T(w:World):(openEndsT treeTable pwS (w.withFollow "special-get-raises" true) 8748).map (λs=>(λs:Shared=>s.heap.keysOk (looseW vwS ["LENGTHS","STEPS","FORMS","UNKNOWN"]) ((recsOf vwS).map (·.name)) ((litsOf vwS).map (·.1)) ((clssOf vwS (looseW vwS ["LENGTHS","STEPS","FORMS","UNKNOWN"])).map (·.name))) s.abs)=some (true):=by kernel_rfl
theorem S0(w:World):(OE (w.withFollow "special-get-raises" true)).map (λs=>s.heap.keysOk (looseW vwS ["LENGTHS","STEPS","FORMS","UNKNOWN"]) ((recsOf vwS).map (·.name)) ((litsOf vwS).map (·.1)) ((clssOf vwS (looseW vwS ["LENGTHS","STEPS","FORMS","UNKNOWN"])).map (·.name)))=some (true):=openT_of (S09T w)
theorem S19T(w:World):(openEndsT treeTable pwS (w.withFollow "special-get-raises" true) 8748).map (λs=>(λs:Shared=>s.heap.accountedOkI (importedModules pwS.main.body)&&s.heap.isNs mainGlobals&&s.heap.isNs builtinsNs&&tablesOk vwS s.heap&&(xlAt vwS [] s&&recOk (RowW.records rwS.row.toRowW) s)&&(s.gens.size==0)) s.abs)=some (true):=by kernel_rfl
theorem S1(w:World):(OE (w.withFollow "special-get-raises" true)).map (λs=>s.heap.accountedOkI (importedModules pwS.main.body)&&s.heap.isNs mainGlobals&&s.heap.isNs builtinsNs&&tablesOk vwS s.heap&&(xlAt vwS [] s&&recOk (RowW.records rwS.row.toRowW) s)&&(s.gens.size==0))=some (true):=openT_of (S19T w)
theorem S29T(w:World):(openEndsT treeTable pwS (w.withFollow "special-get-raises" true) 8748).map (λs=>(λs:Shared=>(pinSeenD vwS (drecsOf vwS) s,plainSeenE vwS (looseW vwS ["LENGTHS","STEPS","FORMS","UNKNOWN"]) s,plainSeenD vwS ["LENGTHS","STEPS","FORMS","UNKNOWN"] s,wideSeen vwS s,clsSeenW vwS ["LENGTHS","STEPS","FORMS","UNKNOWN"] s)) s.abs)=some ((pinGoodD (drecsOf vwS),plainGoodE vwS (looseW vwS ["LENGTHS","STEPS","FORMS","UNKNOWN"]),plainGoodD vwS ["LENGTHS","STEPS","FORMS","UNKNOWN"],wideGood vwS,clsGoodW vwS ["LENGTHS","STEPS","FORMS","UNKNOWN"])):=by kernel_rfl
theorem S2(w:World):(OE (w.withFollow "special-get-raises" true)).map (λs=>(pinSeenD vwS (drecsOf vwS) s,plainSeenE vwS (looseW vwS ["LENGTHS","STEPS","FORMS","UNKNOWN"]) s,plainSeenD vwS ["LENGTHS","STEPS","FORMS","UNKNOWN"] s,wideSeen vwS s,clsSeenW vwS ["LENGTHS","STEPS","FORMS","UNKNOWN"] s))=some ((pinGoodD (drecsOf vwS),plainGoodE vwS (looseW vwS ["LENGTHS","STEPS","FORMS","UNKNOWN"]),plainGoodD vwS ["LENGTHS","STEPS","FORMS","UNKNOWN"],wideGood vwS,clsGoodW vwS ["LENGTHS","STEPS","FORMS","UNKNOWN"])):=openT_of (S29T w)
theorem lbt(w:World):LB (w.withFollow "special-get-raises" true):=mpp (mpp (SZ w) (mpp (mpl (Lc w)) (mpp (mpb (S0 w) (S1 w)) (mpp (mpr (Lc w)) (S2 w))))) (SY w)
end
end KW
namespace L2
open PySem PySem.Spec PyProof.Rows
abbrev Key:=Sum Int Str
def EA:Key->Value->Bool
 | .inl k,v=>Value.isInt k v
 | .inr x,v=>Value.isStrOf x v
def S3(w:World):Key->Int
 | .inl k=>hashInt k
 | .inr x=>hashStr w x
theorem CF:∀{k:Key}{v:Value},EA k v=true->(∃ i t,k=Sum.inl i/\v=Value.int i t)\/(∃ x t,k=Sum.inr x/\v=Value.str x t)
 | .inl i,v,h=>by
  obtain⟨t,e⟩:=Value.isInt_shape (k:=i) (v:=v) h
  exact .inl ⟨i,t,rfl,e⟩
 | .inr x,v,h=>by
  obtain⟨t,e⟩:=Value.isStrOf_shape (x:=x) (v:=v) h
  exact .inr ⟨x,t,rfl,e⟩
theorem S4(x:Str)(t:Tok):EA (.inr x) (.str x t)=true:=by simp[EA,Value.isStrOf]
theorem S5(a b:Int):decide ((Sum.inl a:Key)=Sum.inl b)=(a==b):=by
 by_cases e:a=b
 ·subst e;simp
 ·have h:¬ (Sum.inl a:Key)=Sum.inl b:=λq=>e (Sum.inl.inj q)
  rw[Qg h]
  exact(beq_eq_false_iff_ne.mpr e).symm
theorem S6(a b:Str):decide ((Sum.inr a:Key)=Sum.inr b)=decide (a=b):=by
 by_cases e:a=b
 ·subst e;simp
 ·have h:¬ (Sum.inr a:Key)=Sum.inr b:=λq=>e (Sum.inr.inj q)
  rw[Qg h,Qg e]
theorem S7(a:Int)(b:Str):decide ((Sum.inl a:Key)=Sum.inr b)=false:=Qg (λq=>nomatch q)
theorem S8(a:Str)(b:Int):decide ((Sum.inr a:Key)=Sum.inl b)=false:=Qg (λq=>nomatch q)
def BH(prog:Program)(w:World):PySem.KeyKind prog w Key where
 is:=EA
 hash:=S3 w
 inj:=λv a b ha hb=>by
  rcases CF ha with⟨i,t,rfl,rfl⟩|⟨x,t,rfl,rfl⟩
  ·rcases CF hb with⟨j,u,rfl,e⟩|⟨y,u,rfl,e⟩
   ·injection e with e1 _;rw[e1]
   ·exact nomatch e
  ·rcases CF hb with⟨j,u,rfl,e⟩|⟨y,u,rfl,e⟩
   ·exact nomatch e
   ·injection e with e1 _;rw[e1]
 byValue:=λk v h=>by
  rcases CF h with⟨i,t,rfl,rfl⟩|⟨x,t,rfl,rfl⟩ <;> rfl
 pyHash:=λhv h=>by
  rcases CF hv with⟨i,t,rfl,rfl⟩|⟨x,t,rfl,rfl⟩
  ·exact wpAny_pyHash_int h
  ·exact wpAny_pyHash_str h
 eqBool:=λhu hv h=>by
  rcases CF hu with⟨i,t,rfl,rfl⟩|⟨x,t,rfl,rfl⟩
  ·rcases CF hv with⟨j,u,rfl,rfl⟩|⟨y,u,rfl,rfl⟩
   ·rw[S5]at h;exact wpAny_eqBool_int h
   ·rw[S7]at h;exact SeqAt.EqAt.int_str i t y u _ _ _ _ h
  ·rcases CF hv with⟨j,u,rfl,rfl⟩|⟨y,u,rfl,rfl⟩
   ·rw[S8]at h;exact SeqAt.EqAt.str_int x t j u _ _ _ _ h
   ·rw[S6]at h;exact wpAny_eqBool_str h
 «strs»:=λk x t v h=>by
  rcases CF h with⟨i,u,rfl,e⟩|⟨y,u,rfl,e⟩
  ·exact nomatch e
  ·injection e with e1 _
   subst e1
   cases v <;> rfl
theorem S9(prog:Program)(w:World)(x:Str)(t:Tok):(BH prog w).is (.inr x) (.str x t)=true:=S4 x t
inductive V where
 | non | bl (b:Bool)| int (i:Int)| str (x:Str)| byt (b:Array UInt8)| flt (b:UInt64)| ref (a:Addr)| ty (n:String)
 deriving DecidableEq
def RelV:V->Value->Prop
 | .non,u=>u=Value.none
 | .bl b,u=>u=Value.bool b
 | .int i,u=>∃ t,u=Value.int i t
 | .str x,u=>∃ t,u=Value.str x t
 | .byt b,u=>∃ t,u=Value.bytes b t
 | .flt b,u=>∃ t,u=Value.float b t
 | .ref a,u=>u=Value.ref a
 | .ty n,u=>u=Value.type n
abbrev Vals:List V->List Value->Prop:=Paired RelV
variable {us:List Value}
theorem Vals.length{xs:List V}(r:Vals xs us):xs.length=us.length:=Paired.length r
theorem Vals.get:∀{xs:List V}{us:List Value}{i:Nat}{x:V},Vals xs us->xs[i]?=some x->∃ u,us[i]?=some u/\RelV x u
 | _,_,_,_,.nil,e=>by simp at e
 | _,_,0,_,.cons r _,e=>by simp at e;subst e;exact⟨_,rfl,r⟩
 | _,_,i+1,x,.cons _ t,e=>by
  obtain⟨u,h1,h2⟩:=Vals.get (i:=i) (x:=x) t (by simpa using e)
  exact⟨u,by simpa using h1,h2⟩
theorem Vals.set{x:V}{u:Value}(r:RelV x u):∀{xs:List V}{us:List Value}(i:Nat),Vals xs us->Vals (xs.set i x) (us.set i u)
 | _,_,_,.nil=>.nil
 | _,_,0,.cons _ t=>.cons r t
 | _,_,i+1,.cons q t=>.cons q (Vals.set r i t)
theorem Vals.append:∀{xs ys:List V}{us a:List Value},Vals xs us->Vals ys a->Vals (xs++ys) (us++a)
 | _,_,_,_,.nil,s=>s
 | _,_,_,_,.cons r t,s=>.cons r (Vals.append t s)
theorem Vals.take:∀{xs:List V}{us:List Value}(n:Nat),Vals xs us->Vals (xs.take n) (us.take n)
 | _,_,0,_=>.nil
 | _,_,_+1,.nil=>.nil
 | _,_,n+1,.cons r t=>.cons r (Vals.take n t)
theorem Vals.drop:∀{xs:List V}{us:List Value}(n:Nat),Vals xs us->Vals (xs.drop n) (us.drop n)
 | _,_,0,r=>r
 | _,_,_+1,.nil=>.nil
 | _,_,n+1,.cons _ t=>Vals.drop n t
def Ld:Option V->Option Value->Prop
 | some v,some u=>RelV v u
 | none,none=>True
 | _,_=>False
def KV{κ:Type}:List (κ×V)->List (κ×Value)->Prop:=Paired λ(p:κ×V)(q:κ×Value)=>p.1=q.1/\RelV p.2 q.2
def kV:Key->V
 | .inl i=>.int i
 | .inr x=>.str x
inductive HO where
 | lst (xs:List V)
 | tup (xs:List V)
 | dK (kvs:List (Key×V))| dT (kvs:List (List Key×V))
 | set (S:Int->Bool) (n:Nat)
 | ins (C dx:Addr) (fs:List (Str×V))
 | own (x:Addr)
 | xd (fs:List (Str×V))
 | met (f x:Addr)
 | rng (lo hi:Int)
 | frz (o:Obj) (u:HO)
 | tbl (ps:Array Value)
 | ext (φ:Heap->Prop)
abbrev Hp:=Addr->Option HO
def upd(H:Hp)(a:Addr)(o:HO):Hp:=λb=>if b=a then some o else H b
variable {H:Hp}{a:Addr}{o:HO}
theorem BA:upd H a o a=some o:=by unfold upd;rw[if_pos rfl]
variable {b:Addr}
theorem AN(h:b≠a):upd H a o b=H b:=by unfold upd;rw[if_neg h]
theorem DL(h:H a=some o)(h':H b=none):a≠b:=by
 intro e;subst e;rw[h]at h';cases h'
def TupP(h:Heap)(a:Addr)(items:Array Value):Prop:=∃ o,h.get? a=some o/\o.cls=.type "tuple"/\o.dict=none/\∃ n,o.data=.seq items n
theorem TupP.new(h:Heap)(items:Array Value):TupP (h.push {cls:=.type "tuple",data:=.seq items}) h.objs.size items:=⟨_,Qm _ rfl,rfl,rfl,_,rfl⟩
variable {h:Heap}
theorem TupP.up{items:Array Value}(x:TupP h a items):IsTup h a items:=let⟨o,e,c,_,d⟩:=x;⟨o,e,c,d⟩
section
variable (P:Program) (w:World)
def ObjOk(H:Hp)(h:Heap)(a:Addr):HO->Prop
 | .lst xs=>xs.length<=sizeLine/\∃(its:List Value)(n:Nat),Vals xs its/\h.get? a=some {cls:=.type "list",data:=.seq its.toArray n}
 | .tup xs=>xs.length<=sizeLine/\∃ its:List Value,Vals xs its/\TupP h a its.toArray
 | .dK kvs=>kvs.length<=sizeLine/\(a==sysModules)=false/\∃ vs,KV kvs vs/\h.DictOf (BH P w) a vs
 | .dT kvs=>kvs.length<=sizeLine/\(a==sysModules)=false/\∃ xs:List (List Key×Addr×Value),
   Paired (λ(p:List Key×V)(q:List Key×Addr×Value)=>p.1=q.1/\H q.2.1=some (.tup (p.1.map kV))/\RelV p.2 q.2.2) kvs xs/\
   ∃ o es ep,h.get? a=some o/\o.ExactDict/\o.data=.dict es ep/\es.toList=xs.map (entryOfKey (tupleKind (BH P w)))/\(xs.map (·.1)).Nodup
 | .set S n=>h.SetOf (intKind P w) a S n
 | .ins C dx fs=>H dx=some (.own a)/\fs.length<=1000/\dx≠a/\h.get? a=some (PySem.W.instObj C dx)/\
   ∃ mA,h.Ns1 dx mA/\(∀ f,Ld (fs.lookup f) (mA f))/\PySem.Within mA (fs.map (·.1))
 | .own _=>∃ o,h.get? a=some o
 | .xd fs=>∃ mA,h.Ns1 a mA/\∀ f,Ld (fs.lookup f) (mA f)
 | .rng lo hi=>∃ t u v,h.get? a=some {cls:=.type "range",data:=.fields #[.int lo t,.int hi u,.int 1 v]}
 | .frz o u=>h.get? a=some o/\ObjOk H h a u
 | .tbl ps=>h.get? a=some {cls:=.none,data:=.fields ps}
 | .met f x=>h.get? a=some (PySem.W.methodObj (.ref f) (.ref x))
 | .ext φ=>φ h/\(∃ o,h.get? a=some o)/\∀ h1 h2:Heap,φ h1->(∀ o,h1.get? a=some o->h2.get? a=some o)->φ h2
def HOk(H:Hp)(h:Heap):Prop:=∀ a o,H a=some o->ObjOk P w H h a o
end
section
variable {P:Program} {w:World} {H H':Hp} {h h':Heap} {a:Addr} {o:HO}
theorem ObjOk.lt(x:ObjOk P w H h a o):a < h.objs.size:=by
 cases o with
 | lst xs=>obtain⟨_,_,_,_,e⟩:=x;exact Ql e
 | tup xs=>obtain⟨_,_,_,p⟩:=x;exact p.up.lt
 | dK b=>obtain⟨_,_,_,_,o,_,_,e,_⟩:=x;exact Ql e
 | dT b=>obtain⟨_,_,_,_,o,_,_,e,_⟩:=x;exact Ql e
 | set S n=>obtain⟨o,_,_,_,e,_⟩:=x;exact Ql e
 | ins C dx fs=>obtain⟨_,_,_,e,_⟩:=x;exact Ql e
 | own y=>obtain⟨_,e⟩:=x;exact Ql e
 | xd fs=>obtain⟨_,⟨_,_,_,e,_⟩,_⟩:=x;exact Ql e
 | rng lo hi=>obtain⟨_,_,_,e⟩:=x;exact Ql e
 | frz c u=>obtain⟨e,_⟩:=x;exact Ql e
 | tbl ps=>exact Ql (show h.get? a=some _ from x)
 | met f y=>exact Ql (show h.get? a=some _ from x)
 | ext φ=>obtain⟨_,⟨_,e⟩,_⟩:=x;exact Ql e
theorem Paired.mapP{α β:Type}{F G:α->β->Prop}:∀{d:List α}{c:List β},Paired F d c->(∀ a b,F a b->G a b)->Paired G d c
 | _,_,.nil,_=>.nil
 | _,_,.cons r t,f=>.cons (f _ _ r) (Paired.mapP t f)
theorem ObjOk.stay(x:ObjOk P w H h a o)(k:∀ b u,(b=a\/H b=some (.own a))->h.get? b=some u->h'.get? b=some u)
  (B:∀ b,H b=some (.own a)->H' b=some (.own a)) (s:∀ b xs,H b=some (.tup xs)->H' b=some (.tup xs)):ObjOk P w H' h' a o:=by
 induction o with
 | lst xs=>obtain⟨z,j,n,r,e⟩:=x;exact⟨z,j,n,r,k _ _ (.inl rfl) e⟩
 | tup xs=>obtain⟨z,j,r,g,e,c⟩:=x;exact⟨z,j,r,g,k _ _ (.inl rfl) e,c⟩
 | dK l=>obtain⟨z,y,vs,r,g,es,i,e,c⟩:=x;exact⟨z,y,vs,r,g,es,i,k _ _ (.inl rfl) e,c⟩
 | dT l =>
  obtain⟨z,y,xs,r,g,es,i,e,c⟩:=x
  exact⟨z,y,xs,Paired.mapP r λp q z=>⟨z.1,s _ _ z.2.1,z.2.2⟩,g,es,i,k _ _ (.inl rfl) e,c⟩
 | set S n=>obtain⟨g,es,i,t,e,c⟩:=x;exact⟨g,es,i,t,k _ _ (.inl rfl) e,c⟩
 | ins C dx fs =>
  obtain⟨d,z,ne,e,mA,⟨m,es,i,D,c⟩,r⟩:=x
  exact⟨B _ d,z,ne,k _ _ (.inl rfl) e,mA,⟨m,es,i,k _ _ (.inr d) D,c⟩,r⟩
 | own y=>obtain⟨g,e⟩:=x;exact⟨g,k _ _ (.inl rfl) e⟩
 | xd fs=>obtain⟨mA,⟨m,es,i,e,c⟩,r⟩:=x;exact⟨mA,⟨m,es,i,k _ _ (.inl rfl) e,c⟩,r⟩
 | rng lo hi=>obtain⟨t,u,v,e⟩:=x;exact⟨t,u,v,k _ _ (.inl rfl) e⟩
 | frz g u A=>obtain⟨e,q⟩:=x;exact⟨k _ _ (.inl rfl) e,A q⟩
 | tbl ps =>
  have e:h.get? a=some {cls:=.none,data:=.fields ps}:=x
  show h'.get? a=some {cls:=.none,data:=.fields ps}
  exact k a _ (.inl rfl) e
 | met f y =>
  have e:h.get? a=some (PySem.W.methodObj (.ref f) (.ref y)):=x
  show h'.get? a=some (PySem.W.methodObj (.ref f) (.ref y))
  exact k a _ (.inl rfl) e
 | ext φ=>obtain⟨p,⟨o,e⟩,st⟩:=x;exact⟨st _ _ p λo q=>k _ _ (.inl rfl) q,⟨o,k _ _ (.inl rfl) e⟩,st⟩
theorem HOk.lt(x:HOk P w H h)(e:H a=some o):a < h.objs.size:=(x a o e).lt
theorem HOk.fresh(x:HOk P w H h)(e:h.objs.size<=a):H a=none:=by
 cases q:H a with
 | none=>rfl
 | some u=>exact Qh (Yu (x.lt q) e) (YJ _)
theorem HOk.kept(x:HOk P w H h)(k:∀ b u,h.get? b=some u->h'.get? b=some u):HOk P w H h':=λa o e=>
 (x a o e).stay (λb u _ q=>k b u q) (λ_ q=>q) λ_ _ q=>q
theorem HOk.laid(x:HOk P w H h)(k:∀ b u,h.get? b=some u->h'.get? b=some u)(g:h.objs.size<=a)(new:ObjOk P w (upd H a o) h' a o):HOk P w (upd H a o) h':=λb u e=>by
 have d:=x.fresh g
 by_cases f:b=a
 ·subst f;rw[BA]at e;cases e;exact new
 ·rw[AN f]at e
  exact(x b u e).stay (λc v _ q=>k c v q) (λc q=>by rw[AN (DL q d)];exact q) λc xs q=>by rw[AN (DL q d)];exact q
end
def Rd(H:Hp)(a:Addr)(u:HO):Prop:=H a=some u\/∃ o,H a=some (.frz o u)
theorem Rd.of{u:HO}(h:H a=some u):Rd H a u:=.inl h
variable {P:Program}{w:World}
theorem Rd.ok{u:HO}(r:Rd H a u)(x:HOk P w H h):ObjOk P w H h a u:=by
 rcases r with r |⟨o,r⟩
 ·exact x a u r
 ·obtain⟨_,q⟩:=x a _ r
  exact q
def Mut:Option HO->Prop
 | some (.lst _)=>True
 | some (.dK _)=>True
 | some (.dT _)=>True
 | some (.set _ _)=>True
 | some (.ins _ _ _)=>True
 | some (.ext _)=>True
 | _=>False
section
variable {P:Program} {w:World} {H:Hp} {h h':Heap} {x e:Addr} {o':HO}
theorem HOk.write(ok:HOk P w H h)(g:Mut (H x))(m:e=x\/H e=some (.own x))(k:∀ b u,b≠e->h.get? b=some u->h'.get? b=some u)(j:∃ u,h'.get? e=some u)
  (new:ObjOk P w (upd H x o') h' x o'):HOk P w (upd H x o') h':=λb u q=>by
 have d:∀ c y,H c=some (.own y)->c≠x:=λc y r z=>by subst z;rw[r]at g;exact g
 have f:∀ c xs,H c=some (.tup xs)->c≠x:=λc xs r z=>by subst z;rw[r]at g;exact g
 by_cases i:b=x
 ·subst i;rw[BA]at q;cases q;exact new
 ·rw[AN i]at q
  by_cases a:b=e
  ·have l:H b=some (.own x):=by
    rcases m with z | z
    ·exact Qh (a.trans z) i
    ·rw[a];exact z
   rw[q]at l;cases l
   obtain⟨v,n⟩:=j
   exact⟨v,by rw[a];exact n⟩
  ·refine(ok b u q).stay (λc v hc r=>k c v ?_ r) (λc r=>by rw[AN (d c b r)];exact r) λc xs r=>by rw[AN (f c xs r)];exact r
   rcases hc with rfl | hc
   ·exact a
   ·rintro rfl
    rcases m with z | z
    ·exact d c b hc z
    ·rw[hc]at z;cases z;exact i rfl
end
structure Un(fs ex:List Addr)(H H':Hp)(h h':Heap):Prop where
 keep:∀ b o,h.get? b=some o->H b=none->b∉fs->b∉ex->h'.get? b=some o
 slot:∀ b o,h.get? b=some o->H b=none->b∈fs->b∉ex->∃ sl,h'.get? b=some {o with slots:=sl}
 free:∀ b o,h.get? b=some o->H b=none->b∉ex->H' b=none
 there:∀ b o,h.get? b=some o->b∉ex->∃ o',h'.get? b=some o'
 tups:∀ b xs,H b=some (.tup xs)->H' b=some (.tup xs)
 frzs:∀ b o u,H b=some (.frz o u)->H' b=some (.frz o u)
 tbls:∀ b ps,H b=some (.tbl ps)->∃ more,H' b=some (.tbl (ps++more))
section
variable {fs fs' ex ex':List Addr} {H H1 H2:Hp} {h h1 h2 h':Heap} {a x e:Addr} {o:HO}
theorem Un.any(u:Un fs ex H H1 h h1){a:Obj}(q:h.get? b=some a)(n:H b=none)(c:b∉ex):∃ e,h1.get? b=some {a with slots:=e}:=by
 by_cases d:b∈fs
 ·exact u.slot b a q n d c
 ·exact⟨a.slots,u.keep b a q n d c⟩
theorem Un.trans(a:Un fs ex H H1 h h1)(b:Un fs ex H1 H2 h1 h2):Un fs ex H H2 h h2 where
 keep:=λc d q n hc e=>b.keep c d (a.keep c d q n hc e) (a.free c d q n e) hc e
 slot:=λc d q n hc e=>by
  obtain⟨l,f⟩:=a.slot c d q n hc e
  obtain⟨i,g⟩:=b.slot c _ f (a.free c d q n e) hc e
  exact⟨i,g⟩
 free:=λc d q n e=>by
  obtain⟨o',f⟩:=a.there c d q e
  exact b.free c o' f (a.free c d q n e) e
 there:=λc d q e=>by
  obtain⟨o',f⟩:=a.there c d q e
  exact b.there c o' f e
 tups:=λc xs q=>b.tups c xs (a.tups c xs q)
 frzs:=λc d xs q=>b.frzs c d xs (a.frzs c d xs q)
 tbls:=λc ps q=>by
  obtain⟨j,f⟩:=a.tbls c ps q
  obtain⟨k,g⟩:=b.tbls c _ f
  exact⟨j++k,by rw[g,Array.append_assoc]⟩
theorem Un.kept(k:∀ b u,h.get? b=some u->h'.get? b=some u):Un fs ex H H h h' :=
 ⟨λb a q _ _ _=>k b a q,λb a q _ _ _=>⟨a.slots,k b a q⟩,λ_ _ _ n _=>n,λb a q _=>⟨a,k b a q⟩,λ_ _ q=>q,λ_ _ _ q=>q,λ_ ps q=>⟨#[],by rw[q];simp⟩⟩
theorem Un.refl:Un fs ex H H h h:=Un.kept λ_ _ q=>q
theorem Un.laid(k:∀ b u,h.get? b=some u->h'.get? b=some u)(d:h.objs.size<=a)(c:H a=none):Un fs ex H (upd H a o) h h' where
 keep:=λb u q _ _ _=>k b u q
 slot:=λb u q _ _ _=>⟨u.slots,k b u q⟩
 free:=λb u q n _=>by rw[AN (Ys (Yu (Ql q) d))];exact n
 there:=λb u q _=>⟨u,k b u q⟩
 tups:=λb xs q=>by rw[AN (DL q c)];exact q
 frzs:=λb u xs q=>by rw[AN (DL q c)];exact q
 tbls:=λb ps q=>⟨#[],by rw[AN (DL q c),q];simp⟩
theorem Un.write(c:Mut (H x))(j:e=x\/H e=some (.own x))(k:∀ b u,b≠e->h.get? b=some u->h'.get? b=some u)(d:∃ u,h'.get? e=some u):Un fs ex H (upd H x o) h h':=by
 have g:∀ b,H b=none->b≠x:=λb n z=>by subst z;rw[n]at c;exact c
 have i:∀ b,H b=none->b≠e:=λb n z=>by
  subst z
  rcases j with r | r
  ·exact g b n r
  ·rw[n]at r;cases r
 have f:∀ b u,H b=some u->¬ Mut (some u)->b≠x:=λb u q nm z=>by subst z;rw[q]at c;exact nm c
 refine⟨λb u q n _ _=>k b u (i b n) q,λb u q n _ _=>⟨u.slots,k b u (i b n) q⟩,λb u q n _=>by rw[AN (g b n)];exact n,λb u q _=>?_,
  λb xs q=>by rw[AN (f b _ q λz=>z)];exact q,λb u xs q=>by rw[AN (f b _ q λz=>z)];exact q,λb ps q=>⟨#[],by rw[AN (f b _ q λz=>z),q];simp⟩⟩
 by_cases a:b=e
 ·subst a;exact d
 ·exact⟨u,k b u a q⟩
theorem Un.mono(u:Un fs ex H H1 h h1)(e:∀ b∈fs,b∈fs')(d:∀ b∈ex,b∈ex'):Un fs' ex' H H1 h h1 :=
 ⟨λb c q n f a=>u.keep b c q n (λz=>f (e b z)) λz=>a (d b z),λ_ _ q n _ a=>u.any q n λz=>a (d _ z),λb c q n a=>u.free b c q n λz=>a (d b z),λb c q a=>u.there b c q λz=>a (d b z),u.tups,u.frzs,u.tbls⟩
end
def trk(h:Heap)(H:Hp):List Addr:=(List.range h.objs.size).filter λa=>(H a).isSome
def CG(h:Heap)(H:Hp):Heap:=PySem.W.hideAll h (trk h H)
theorem Ta(h:Heap)(H:Hp):(CG h H).objs.size=h.objs.size:=PySem.W.hideAll_size _ _
theorem Tc{o:Obj}(e:h.get? b=some o)(n:H b=none):(CG h H).get? b=some o :=
 PySem.W.hideAll_get _ e λa=>by
  have q:(H b).isSome=true:=(List.mem_filter.mp a).2
  rw[n]at q;simp at q
theorem Td{o:Obj}(e:(CG h H).get? b=some o):h.get? b=some o/\H b=none:=by
 have a:h.get? b=some o:=PySem.W.of_hideAll (trk h H) e
 refine⟨a,?_⟩
 cases q:H b with
 | none=>rfl
 | some x =>
  have c:b∈trk h H:=List.mem_filter.mpr ⟨List.mem_range.mpr (Ql a),by simp[q]⟩
  have z:(CG h H).get? b=none:=PySem.W.hideAll_none (trk h H) c
  rw[z]at e;cases e
def Tf(g h:Heap)(L:Addr):List (Addr×Obj):=(List.range h.objs.size).filterMap λa=>if a=L\/(g.get? a).isSome=true then none else(h.get? a).map λo=>(a,o)
def Ak(g h:Heap)(L d:Addr):List (Addr×Obj):=(Tf g h L).filter λp=>decide (p.1≠d)
structure Mod(K:PySem.W.Frag)(mg:Str->Option Value)(base:Heap):Prop where
 kin:K.In base
 glob:base.Ns mainGlobals mg
 blt:∃ mb,base.Ns builtinsNs mb/\∀ x:Str,x≠"__name__"->mb x=bootBuiltins x
 nolimit:base.NoLimit
structure Cx where
 prog:Program
 w:World
 K:PySem.W.Frag
 mg:Str->Option Value
 base:Heap
 A:Around
 N:List Str
 s₀:Shared
 H₀:Hp
 env:Env
 outer:List Env
 stack:List Env
 ex:List Addr
 fn:Str->Bool
 calm:Bool
 pn:List (Addr×Obj)
 xe:Value->Shared->Prop
def frs(l:List Env):List Addr:=l.filterMap (·.frame)
abbrev Cx.fs(X:Cx):List Addr:=frs X.outer
def Vis(sc:Scope)(x:Str):Prop:=sc.names.lookup x=some .local\/sc.names.lookup x=some .cell\/sc.names.lookup x=some .free
def Loc(sc:Scope)(x:Str):Prop:=sc.names.lookup x=some .local\/sc.names.lookup x=some .cell
def Le(env:Env)(h:Heap)(m:Str->Option Value)(x:Str)(u:Value):Prop :=
 (env.kindOf x=some .local/\m x=some u)\/((env.kindOf x=some .cell\/env.kindOf x=some .free)/\∃ c,env.cells.lookup x=some c/\h.IsCell c (some u))
structure Cx.Ok(X:Cx):Prop where
 mod:Mod X.K X.mg X.base
 kind:X.env.scope.kind=.function
 glob:X.env.globals=mainGlobals
 blt:X.env.builtins=builtinsNs
 above:X.s₀.heap.objs.size<=X.env.locals
 inj:∀ x y c,X.env.cells.lookup x=some c->X.env.cells.lookup y=some c->x=y
 has:∀ x,(X.env.kindOf x=some .cell\/X.env.kindOf x=some .free)->∃ c,X.env.cells.lookup x=some c
 cab:∀ x c,X.fn x=true->X.env.cells.lookup x=some c->X.s₀.heap.objs.size<=c
 hd:X.calm=true->X.A.handled=none
 frames:X.A.frames=some X.stack
 stk:X.stack=X.outer\/(X.stack=X.env::X.outer/\X.env.frame=some X.env.locals)
 exf:∀ b∈X.ex,b≠X.env.locals/\∀ x c,X.env.cells.lookup x=some c->c≠b
 bs:∀ b o,X.base.get? b=some o->X.s₀.heap.get? b=some o/\X.H₀ b=none
 bsz:X.base.objs.size<=X.s₀.heap.objs.size
 noex:∀ b o,X.base.get? b=some o->b∉X.ex
 exfs:∀ b∈X.ex,b∉X.fs
 funs:X.s₀.heap.FunFrames X.base X.outer
 frf:∀ b∈X.fs,X.H₀ b=none
structure Inv(X:Cx)(pins:List (Addr×Obj))(σ:List (Option V))(H:Hp)(s:Shared):Prop where
 ok:X.Ok
 os:s.os=X.s₀.os
 bare:AllBare s.gens
 base:Un X.fs X.ex X.H₀ H X.s₀.heap s.heap
 loc:∃ m,s.heap.Ns X.env.locals m/\∀(i:Nat)(x:Str)(v:V),X.N[i]?=some x->σ[i]?=some (some v)->Vis X.env.scope x->∃ u,RelV v u/\Le X.env s.heap m x u
 cell:∀ x c,X.env.cells.lookup x=some c->∃ v,s.heap.IsCell c v
 free:H X.env.locals=none
 freeC:∀ x c,X.env.cells.lookup x=some c->H c=none
 pin:∀ p∈X.pn++pins,s.heap.get? p.1=some p.2/\H p.1=none/\p.1≠X.env.locals/\p.1∉X.fs/\∀ v,p.2.data≠.cell v
 hok:HOk X.prog X.w H s.heap
 len:σ.length=X.N.length
section
variable {X:Cx} {pins:List (Addr×Obj)} {σ:List (Option V)} {H H':Hp} {s:Shared} {h':Heap}
theorem Cx.Ok.nofr(ok:X.Ok){o:Obj}(e:X.base.get? b=some o):b∉X.fs:=λa=>by
 have:=(ok.funs.mem a).1
 rw[e]at this;cases this
theorem Inv.bs(I:Inv X pins σ H s):∀ b o,X.base.get? b=some o->s.heap.get? b=some o/\H b=none:=λb o e=>
 ⟨I.base.keep b o (I.ok.bs b o e).1 (I.ok.bs b o e).2 (I.ok.nofr e) (I.ok.noex b o e),I.base.free b o (I.ok.bs b o e).1 (I.ok.bs b o e).2 (I.ok.noex b o e)⟩
theorem Inv.bk(I:Inv X pins σ H s):∀ b o,X.base.get? b=some o->s.heap.get? b=some o:=λb o e=>(I.bs b o e).1
theorem Inv.mod(I:Inv X pins σ H s):Mod X.K X.mg X.base:=I.ok.mod
theorem Inv.kIn(I:Inv X pins σ H s):X.K.In s.heap:=I.ok.mod.kin.keeps I.bk
theorem Inv.nolimit(I:Inv X pins σ H s):s.heap.NoLimit:=I.ok.mod.nolimit.keeps I.bk
theorem Inv.fr(I:Inv X pins σ H s):∃ m,Fr X.base X.env.locals s.heap m :=
 let⟨m,hn,_⟩:=I.loc
 ⟨m,hn,I.bk,Yt I.ok.bsz I.ok.above⟩
theorem Inv.lt(I:Inv X pins σ H s):X.env.locals < s.heap.objs.size:=let⟨_,hn,_⟩:=I.loc;hn.lt
theorem Inv.sz(I:Inv X pins σ H s):X.s₀.heap.objs.size<=s.heap.objs.size:=Yt I.ok.above (Nat.le_of_lt I.lt)
theorem Inv.nofs(I:Inv X pins σ H s)(h:s.heap.objs.size<=a):a∉X.fs:=λb=>by
 obtain⟨_,o,c,_⟩:=I.ok.funs.mem b
 exact Qh (Yu (Ql c) (Yt I.sz h)) (YJ _)
theorem Inv.cne(I:Inv X pins σ H s):∀ x c,X.env.cells.lookup x=some c->c≠X.env.locals:=λx c e z=>by
 obtain⟨v,o,d,hd⟩:=I.cell x c e
 obtain⟨m,⟨o',es,f,a,b,_⟩,_⟩:=I.loc
 rw[z,a]at d;cases d;rw[b]at hd;cases hd
theorem Inv.funs(I:Inv X pins σ H s):s.heap.FunFrames X.base X.outer:=by
 have all:∀(l:List Env),(∀ b∈frs l,b∈X.fs)->X.s₀.heap.FunFrames X.base l->s.heap.FunFrames X.base l:=by
  intro l
  induction l with
  | nil=>intro _ _;trivial
  | cons env r g =>
   intro f hl
   obtain⟨i,⟨L,o,c,j,h,hd⟩,k⟩:=hl
   have a:L∈X.fs:=f L (by unfold frs;rw[List.filterMap_cons,c];exact Ye)
   obtain⟨m,e⟩:=I.base.slot L o h (I.ok.frf L a) a λz=>I.ok.exfs L z a
   exact⟨i,⟨L,_,c,j,e,hd⟩,g (λb d=>f b (by unfold frs;rw[List.filterMap_cons,c];exact Yd _ d)) k⟩
 exact all X.outer (λ_ d=>d) I.ok.funs
theorem Inv.stack(I:Inv X pins σ H s):s.heap.FunFrames X.base X.stack:=by
 rcases I.ok.stk with e |⟨e,a⟩
 ·rw[e];exact I.funs
 ·rw[e]
  obtain⟨m,b,_⟩:=I.loc
  refine .cons (by rw[I.ok.kind];decide) a b ?_ I.funs
  exact Heap.get?_none_of_le (Yt I.ok.bsz I.ok.above)
theorem Inv.stkSub(I:Inv X pins σ H s):∀ b∈frs X.stack,b∈X.env.locals::X.fs:=λb a=>by
 rcases I.ok.stk with e |⟨e,c⟩
 ·rw[e]at a;exact Yd _ a
 ·rw[e]at a
  unfold frs at a
  rw[List.filterMap_cons,c]at a
  exact a
theorem Inv.stkFree(I:Inv X pins σ H s):∀ b∈frs X.stack,H b=none:=λb a=>by
 rcases Yo.mp (I.stkSub b a)with e | a
 ·rw[e];exact I.free
 ·obtain⟨_,o,c,_⟩:=I.ok.funs.mem a
  exact I.base.free b o c (I.ok.frf b a) λz=>I.ok.exfs b z a
variable {g':Array GenState}{t':Nat}{d':Drawn}{ch:List Addr}
theorem Inv.step(I:Inv X pins σ H s)
  (h:∀ b∈ch,(b∈X.ex\/X.s₀.heap.objs.size<=b)/\b≠X.env.locals/\(∀ x c,X.env.cells.lookup x=some c->c≠b)/\∀ p∈X.pn++pins,p.1≠b)
  (keep:∀ b o,b≠X.env.locals->b∉X.fs->b∉ch->s.heap.get? b=some o->H b=none->h'.get? b=some o)
  (slot:∀ b o,b≠X.env.locals->b∈X.fs->b∉ch->s.heap.get? b=some o->H b=none->∃ F,h'.get? b=some {o with slots:=F}) (free:∀ b o,b∉ch->s.heap.get? b=some o->H b=none->H' b=none)
  (there:∀ b o,b∉ch->s.heap.get? b=some o->∃ o',h'.get? b=some o')
  (tups:∀ b xs,H b=some (.tup xs)->H' b=some (.tup xs)) (frzs:∀ b o u,H b=some (.frz o u)->H' b=some (.frz o u)) (tbls:∀ b ps,H b=some (.tbl ps)->∃ D,H' b=some (.tbl (ps++D)))
  (ns:∀ m,s.heap.Ns X.env.locals m->h'.Ns X.env.locals m) (hok:HOk X.prog X.w H' h') (O:AllBare g'):
  Inv X pins σ H' {s with heap:=h',gens:=g',drawn:=d',toks:=t'}:=by
 have B:∀ b o,X.s₀.heap.get? b=some o->b≠X.env.locals:=λb o e=>Ys (Yu (Ql e) I.ok.above)
 have t:∀ b o,X.s₀.heap.get? b=some o->b∉X.ex->b∉ch:=λb o e a y=>by
  rcases(h b y).1 with z | z
  ·exact a z
  ·exact Qh (Yu (Ql e) z) (YJ _)
 have f:∀ x c,X.env.cells.lookup x=some c->∀ v,s.heap.IsCell c v->h'.IsCell c v:=by
  rintro x c e v ⟨o,A,hd⟩
  have g:c∉ch:=λz=>(h c z).2.2.1 x c e rfl
  by_cases hc:c∈X.fs
  ·obtain⟨F,q⟩:=slot c o (I.cne x c e) hc g A (I.freeC x c e)
   exact⟨_,q,hd⟩
  ·exact⟨o,keep c o (I.cne x c e) hc g A (I.freeC x c e),hd⟩
 refine⟨I.ok,I.os,O,⟨λb o e n y a=>?_,λb o e n y a=>?_,λb o e n a=>?_,λb o e a=>?_,λb xs e=>tups b xs (I.base.tups b xs e),λb o xs e=>frzs b o xs (I.base.frzs b o xs e),λb ps e=>?_⟩,?_,λx c e=>?_,?_,λx c e=>?_,λp J=>?_,hok,I.len⟩
 ·exact keep b o (B b o e) y (t b o e a) (I.base.keep b o e n y a) (I.base.free b o e n a)
 ·obtain⟨F,j⟩:=I.base.slot b o e n y a
  obtain⟨G,E⟩:=slot b _ (B b o e) y (t b o e a) j (I.base.free b o e n a)
  exact⟨G,E⟩
 ·obtain⟨o',j⟩:=I.base.there b o e a
  exact free b o' (t b o e a) j (I.base.free b o e n a)
 ·obtain⟨o',j⟩:=I.base.there b o e a
  exact there b o' (t b o e a) j
 ·obtain⟨N,j⟩:=I.base.tbls b ps e
  obtain⟨L,E⟩:=tbls b _ j
  exact⟨N++L,by rw[E,Array.append_assoc]⟩
 ·obtain⟨m,Q,hl⟩:=I.loc
  refine⟨m,ns m Q,λi x v j E P=>?_⟩
  obtain⟨u,r,l⟩:=hl i x v j E P
  refine⟨u,r,?_⟩
  rcases l with l |⟨k,c,e,z⟩
  ·exact .inl l
  ·exact .inr ⟨k,c,e,f x c e _ z⟩
 ·obtain⟨v,z⟩:=I.cell x c e
  exact⟨v,f x c e v z⟩
 ·obtain⟨m,⟨o,_,_,A,_⟩,_⟩:=I.loc
  exact free _ o (λz=>(h _ z).2.1 rfl) A I.free
 ·obtain⟨v,o,A,hd⟩:=I.cell x c e
  exact free c o (λz=>(h c z).2.2.1 x c e rfl) A (I.freeC x c e)
 ·obtain⟨e,n,ne,K,d⟩:=I.pin p J
  have g:p.1∉ch:=λz=>(h p.1 z).2.2.2 p J rfl
  exact⟨keep p.1 p.2 ne K g e n,free p.1 p.2 g e n,ne,K,d⟩
theorem Inv.un(I:Inv X pins σ H s)(u:Un X.fs [] H H' s.heap h')(hok:HOk X.prog X.w H' h'):Inv X pins σ H' {s with heap:=h',toks:=t'}:=by
 obtain⟨m,⟨o,es,i,f,r⟩,_⟩:=id I.loc
 obtain⟨j,g⟩:=u.any f I.free (by simp)
 exact I.step (g':=s.gens) (d':=s.drawn) (ch:=[]) (λ_ z=>nomatch z) (λb o _ d _ e n=>u.keep b o e n d (by simp)) (λb o _ d _ e n=>u.slot b o e n d (by simp)) (λb o _ e n=>u.free b o e n (by simp)) (λb o _ e=>u.there b o e (by simp)) u.tups u.frzs u.tbls (λk h=>by
  obtain⟨o',es',c,a,r'⟩:=h
  rw[f]at a;cases a
  exact⟨_,es',c,g,r'⟩) hok I.bare
theorem Inv.call(I:Inv X pins σ H s)(u:Un (frs X.stack) ch H H' s.heap h')(hok:HOk X.prog X.w H' h')(i:AllBare g')
  (d:∀ b∈ch,(b∈X.ex\/X.s₀.heap.objs.size<=b)/\b≠X.env.locals/\(∀ x c,X.env.cells.lookup x=some c->c≠b)/\∀ p∈X.pn++pins,p.1≠b):
  Inv X pins σ H' {s with heap:=h',gens:=g',drawn:=d',toks:=t'}:=by
 obtain⟨m,⟨o,es,l,h,r⟩,_⟩:=id I.loc
 obtain⟨q,f⟩:=u.any h I.free λz=>(d _ z).2.1 rfl
 exact I.step (ch:=ch) d (λb o f k hc e n=>u.keep b o e n (λz=>(Yo.mp (I.stkSub b z)).elim f k) hc) (λb o _ _ hc e n=>u.any e n hc) (λb o hc e n=>u.free b o e n hc) (λb o hc e=>u.there b o e hc) u.tups u.frzs u.tbls (λt j=>by
  obtain⟨o',es',g,a,r'⟩:=j
  rw[h]at a;cases a
  exact⟨_,es',g,f,r'⟩) hok i
theorem Inv.turned{it:Addr}(I:Inv X pins σ H s)(k:∀ b o,b≠it->s.heap.get? b=some o->h'.get? b=some o)(j:H it=none)(d:it≠X.env.locals)
  (h1:it∈X.ex\/X.s₀.heap.objs.size<=it) (h2:∀ x c,X.env.cells.lookup x=some c->c≠it) (l:∀ p∈X.pn++pins,p.1≠it):Inv X pins σ H {s with heap:=h',toks:=t'}:=by
 have a:∀ b u,H b=some u->b≠it:=λb u e z=>by rw[z,j]at e;cases e
 refine I.step (g':=s.gens) (d':=s.drawn) (ch:=[it]) (λb h=>?_) (λb o _ _ hc e _=>k b o (λz=>hc (by simp[z])) e) (λb o _ _ hc e _=>⟨o.slots,k b o (λz=>hc (by simp[z])) e⟩) (λ_ _ _ _ n=>n)
  (λb o hc e=>⟨o,k b o (λz=>hc (by simp[z])) e⟩) (λ_ _ e=>e) (λ_ _ _ e=>e) (λb ps e=>⟨#[],by rw[e];simp⟩) (λm g=>?_) (λb u e=>?_) I.bare
 ·have e:b=it:=by simpa using h
  subst e
  exact⟨h1,d,h2,l⟩
 ·obtain⟨o,es,f,i,r⟩:=g
  exact⟨o,es,f,k _ o (YV d) i,r⟩
 ·refine(I.hok b u e).stay (λc v hc q=>k c v ?_ q) (λ_ q=>q) λ_ _ q=>q
  rcases hc with z | z
  ·rw[z];exact a b u e
  ·exact a c _ z
theorem Inv.tok(I:Inv X pins σ H s)(t:Nat):Inv X pins σ H {s with toks:=t}:=I.un (h':=s.heap) (t':=t) Un.refl I.hok
theorem Inv.kept(I:Inv X pins σ H s)(k:∀ b u,s.heap.get? b=some u->h'.get? b=some u):Inv X pins σ H {s with heap:=h',toks:=t'}:=I.un (Un.kept k) (I.hok.kept k)
theorem Inv.laid(I:Inv X pins σ H s)(k:∀ b u,s.heap.get? b=some u->h'.get? b=some u)(c:s.heap.objs.size<=a)(new:ObjOk X.prog X.w (upd H a o) h' a o):
  Inv X pins σ (upd H a o) {s with heap:=h',toks:=t'}:=I.un (Un.laid k c (I.hok.fresh c)) (I.hok.laid k c new)
theorem Inv.write{x e:Addr}(I:Inv X pins σ H s)(c:Mut (H x))(d:e=x\/H e=some (.own x))(k:∀ b u,b≠e->s.heap.get? b=some u->h'.get? b=some u)(a:∃ u,h'.get? e=some u)
  (new:ObjOk X.prog X.w (upd H x o) h' x o):Inv X pins σ (upd H x o) {s with heap:=h',toks:=t'}:=I.un (Un.write c d k a) (I.hok.write c d k a new)
theorem Inv.pins_of{a:List (Addr×Obj)}(I:Inv X pins σ H s)(h:∀ p∈a,s.heap.get? p.1=some p.2/\H p.1=none/\p.1≠X.env.locals/\p.1∉X.fs/\∀ v,p.2.data≠.cell v):Inv X a σ H s :=
 ⟨I.ok,I.os,I.bare,I.base,I.loc,I.cell,I.free,I.freeC,λp b=>(Yz.mp b).elim (λz=>I.pin p (YK _ z)) (h p),I.hok,I.len⟩
variable {i:Nat}{x:Str}
theorem HR{N:List Str}(d:N.Nodup){j:Nat}(a:N[i]?=some x)(b:N[j]?=some x):i=j:=by
 obtain⟨h1,e⟩:=YW.mp a
 obtain⟨h2,c⟩:=YW.mp b
 exact(List.getElem_inj d).mp (e.trans c.symm)
variable {A:Around}{E:Value->Shared->Prop}{v:V}{u:Value}{Q:Unit->Shared->Prop}
theorem Tg{M:Model}(I:Inv X pins σ H s)(hN:X.N.Nodup)(hi:X.N[i]?=some x)(l:Loc X.env.scope x)(r:RelV v u)
  (h:∀ s',Inv X pins (σ.set i (some v)) H s'->(∃ a,Heap.SameBut a s.heap s'.heap/\(a=X.env.locals\/X.env.cells.lookup x=some a))->Q () s') (hf:X.fn x=true\/X.env.scope.names.lookup x=some .local:=by first | exact .inl rfl | exact .inr rfl | assumption):wpAny M A (storeName X.env x u) Q E s:=by
 obtain⟨m,hn,hl⟩:=id I.loc
 have K:(X.env.scope.kind==.class||(X.env.scope.kind==.module&&X.env.locals != X.env.globals))=false:=by rw[I.ok.kind];rfl
 have hiσ:i < σ.length:=by rw[I.len];exact(YW.mp hi).1
 have cne:=I.cne
 have tracked:∀{a:Addr}{h':Heap},(∃ o,s.heap.get? a=some o/\H a=none)->Heap.SameBut a s.heap h'->HOk X.prog X.w H h':=λ{a h'}ha f b ob e=>by
  obtain⟨_,_,t⟩:=ha
  refine(I.hok b ob e).stay (λc T hc q=>(f.2 c ?_).trans q) (λ_ q=>q) λ_ _ q=>q
  rintro rfl
  rcases hc with rfl | hc
  ·rw[t]at e;cases e
  ·rw[t]at hc;cases hc
 rcases l with D | D
 ·refine wpAny_storeName_local D hn (λh' U f=>?_) K
  obtain⟨oL,_,_,hoL,_⟩:=id hn
  refine h _ ⟨I.ok,I.os,I.bare,⟨λb o e n J l=>?_,λb o e n J l=>?_,I.base.free,λb o e l=>?_,I.base.tups,I.base.frzs,I.base.tbls⟩,⟨_,U,λj y v' g B e3=>?_⟩,λy c e=>?_,I.free,I.freeC,λp hp=>?_,tracked ⟨oL,hoL,I.free⟩ f,by simpa using I.len⟩ ⟨_,f,.inl rfl⟩
  ·exact(f.2 b (Ys (Yu (Ql e) I.ok.above))).trans (I.base.keep b o e n J l)
  ·obtain⟨Z,g⟩:=I.base.slot b o e n J l
   exact⟨Z,(f.2 b (Ys (Yu (Ql e) I.ok.above))).trans g⟩
  ·obtain⟨o',g⟩:=I.base.there b o e l
   exact⟨o',(f.2 b (Ys (Yu (Ql e) I.ok.above))).trans g⟩
  ·by_cases G:j=i
   ·subst G
    rw[hi]at g;cases g
    rw[List.getElem?_set_self hiσ]at B
    cases B
    exact⟨u,r,.inl ⟨D,by simp⟩⟩
   ·rw[List.getElem?_set_ne (YV G)]at B
    obtain⟨Y,r',q⟩:=hl j y v' g B e3
    refine⟨Y,r',?_⟩
    rcases q with⟨k,e⟩|⟨k,c,e,z⟩
    ·refine .inl ⟨k,?_⟩
     have:y≠x:=λe=>G (HR hN g (e▸hi))
     simp[this,e]
    ·exact .inr ⟨k,c,e,z.sameBut f (cne y c e)⟩
  ·obtain⟨T,z⟩:=I.cell y c e
   exact⟨T,z.sameBut f (cne y c e)⟩
  ·obtain⟨e,n,ne,nf,d⟩:=I.pin p hp
   exact⟨(f.2 p.1 ne).trans e,n,ne,nf,d⟩
 ·have F:X.fn x=true:=by
   rcases hf with z | z
   ·exact z
   ·rw[z]at D;cases D
  obtain⟨c,hc⟩:=I.ok.has x (.inl D)
  obtain⟨T,z⟩:=I.cell x c hc
  refine wpAny_storeName_cell I.ok.kind D hc z (λh' L f=>?_)
  obtain⟨oc,O,P⟩:=id z
  refine h {s with heap:=h'} ⟨I.ok,I.os,I.bare,⟨λb o e n J l=>?_,λb o e n J l=>?_,I.base.free,λb o e l=>?_,I.base.tups,I.base.frzs,I.base.tbls⟩,⟨m,hn.sameBut f (YV (cne x c hc)),λj y v' g B e3=>?_⟩,λy S e=>?_,I.free,I.freeC,λp hp=>?_,tracked ⟨oc,O,I.freeC x c hc⟩ f,by simpa using I.len⟩ ⟨c,f,.inr hc⟩
  ·exact(f.2 b (Ys (Yu (Ql e) (I.ok.cab x c F hc)))).trans (I.base.keep b o e n J l)
  ·obtain⟨Z,g⟩:=I.base.slot b o e n J l
   exact⟨Z,(f.2 b (Ys (Yu (Ql e) (I.ok.cab x c F hc)))).trans g⟩
  ·obtain⟨o',g⟩:=I.base.there b o e l
   exact⟨o',(f.2 b (Ys (Yu (Ql e) (I.ok.cab x c F hc)))).trans g⟩
  ·by_cases G:j=i
   ·subst G
    rw[hi]at g;cases g
    rw[List.getElem?_set_self hiσ]at B
    cases B
    exact⟨u,r,.inr ⟨.inl D,c,hc,L⟩⟩
   ·rw[List.getElem?_set_ne (YV G)]at B
    obtain⟨Y,r',q⟩:=hl j y v' g B e3
    refine⟨Y,r',?_⟩
    rcases q with q |⟨k,S,e,z'⟩
    ·exact .inl q
    ·refine .inr ⟨k,S,e,z'.sameBut f ?_⟩
     rintro rfl
     exact G (HR hN g (I.ok.inj _ _ _ e hc▸hi))
  ·by_cases R:S=c
   ·subst R;exact⟨_,L⟩
   ·obtain⟨w2,z2⟩:=I.cell y S e
    exact⟨w2,z2.sameBut f R⟩
  ·obtain⟨e,n,ne,nf,d⟩:=I.pin p hp
   refine⟨(f.2 p.1 ?_).trans e,n,ne,nf,d⟩
   intro q
   rw[q,O]at e
   have q':oc=p.2:=YE e
   exact d T (by rw[<- q'];exact P)
theorem E3{M:Model}(I:Inv X pins σ H s)(c:X.N.Nodup)(hi:X.N[i]?=some x)(b:Loc X.env.scope x)(r:RelV v u)
  (h:∀ s',Inv X pins (σ.set i (some v)) H s'->Q () s') (a:X.fn x=true\/X.env.scope.names.lookup x=some .local:=by first | exact .inl rfl | exact .inr rfl | assumption):wpAny M A (storeName X.env x u) Q E s :=
 Tg I c hi b r (λs' d _=>h s' d) a
theorem Inv.call'{s':Shared}(I:Inv X pins σ H s)(d:s'.os=s.os)(u:Un (frs X.stack) ch H H' s.heap s'.heap)(hok:HOk X.prog X.w H' s'.heap)(f:AllBare s'.gens)
  (a:∀ b∈ch,(b∈X.ex\/X.s₀.heap.objs.size<=b)/\b≠X.env.locals/\(∀ x c,X.env.cells.lookup x=some c->c≠b)/\∀ p∈X.pn++pins,p.1≠b):Inv X pins σ H' s':=by
 obtain⟨h',g',d',t',o'⟩:=s'
 have e:o'=s.os:=d
 subst e
 exact I.call (g':=g') (t':=t') (d':=d') u hok f a
end
abbrev XK:=Value->Option Addr->Hp->Prop
abbrev St:=List (Option V)
abbrev VK:=V->Hp->Prop
abbrev TE:=St->Hp->VK->Prop
abbrev TT:=St->Hp->(Bool->Hp->Prop)->Prop
abbrev TA:=St->Hp->(List V->Hp->Prop)->Prop
structure EB where
 nx:St->Hp->Prop
 rt:VK
 bk:St->Hp->Prop:=λ_ _=>False
 ct:St->Hp->Prop:=λ_ _=>False
abbrev TS:=EB->St->Hp->Prop
def EP(X:Cx)(pins:List (Addr×Obj))(σ:St)(Q:VK)(u:Value)(s':Shared):Prop:=∃ v H',Inv X pins σ H' s'/\RelV v u/\Q v H'
def TP(X:Cx)(pins:List (Addr×Obj))(σ:St)(Q:Bool->Hp->Prop)(b:Bool)(s':Shared):Prop:=∃ H',Inv X pins σ H' s'/\Q b H'
def AP(X:Cx)(pins:List (Addr×Obj))(σ:St)(Q:List V->Hp->Prop)(us:List Value)(s':Shared):Prop:=∃ vs H',Inv X pins σ H' s'/\Vals vs us/\Q vs H'
def SP(X:Cx)(pins:List (Addr×Obj))(D:EB)(f:Flow)(s':Shared):Prop :=
 match f with
 | .next=>∃ σ' H',Inv X pins σ' H' s'/\D.nx σ' H'
 | .brk=>∃ σ' H',Inv X pins σ' H' s'/\D.bk σ' H'
 | .cont=>∃ σ' H',Inv X pins σ' H' s'/\D.ct σ' H'
 | .ret u=>∃ v σ' H',Inv X pins σ' H' s'/\RelV v u/\D.rt v H'
def PE(X:Cx)(e:Expr)(t:TE):Prop :=
 ∀(pins:List (Addr×Obj))(s:Shared)(σ:St)(H:Hp)(Q:VK),Inv X pins σ H s->t σ H Q->wpAny (model X.prog X.w) X.A (eval e X.env) (EP X pins σ Q) X.xe s
def PT(X:Cx)(e:Expr)(t:TT):Prop :=
 ∀(pins:List (Addr×Obj))(s:Shared)(σ:St)(H:Hp)(Q:Bool->Hp->Prop),Inv X pins σ H s->t σ H Q->wpAny (model X.prog X.w) X.A (isTrue e X.env (eval e X.env)) (TP X pins σ Q) X.xe s
def PW(X:Cx)(e:Expr)(t:TT):Prop :=
 ∀(whole:Sem Value)(pins:List (Addr×Obj))(s:Shared)(σ:St)(H:Hp)(Q:Bool->Hp->Prop),Inv X pins σ H s->t σ H Q->wpAny (model X.prog X.w) X.A (isTrue e X.env whole) (TP X pins σ Q) X.xe s
variable {X:Cx}
theorem PW.pt{e:Expr}{t:TT}(h:PW X e t):PT X e t:=h _
def PA(X:Cx)(es:List Expr)(t:TA):Prop :=
 ∀(pos:Pos)(pins:List (Addr×Obj))(s:Shared)(σ:St)(H:Hp)(Q:List V->Hp->Prop),Inv X pins σ H s->t σ H Q->wpAny (model X.prog X.w) X.A (spliced (backTo pos (starEach es X.env))) (AP X pins σ Q) X.xe s
def PS(X:Cx)(st:Stmt)(t:TS):Prop :=
 ∀(pins:List (Addr×Obj))(s:Shared)(σ:St)(H:Hp)(D:EB),Inv X pins σ H s->t D σ H->wpAny (model X.prog X.w) X.A (exec st X.env) (SP X pins D) X.xe s
def PSs(X:Cx)(st:List Stmt)(t:TS):Prop :=
 ∀(pins:List (Addr×Obj))(s:Shared)(σ:St)(H:Hp)(D:EB),Inv X pins σ H s->t D σ H->wpAny (model X.prog X.w) X.A (execs st X.env) (SP X pins D) X.xe s
variable {A:Around}{E:Value->Shared->Prop}{s:Shared}
theorem thn{α:Type}{t:Sem α}{Q b:α->Shared->Prop}{M:Model}(h:wpAny M A t Q E s)(c:∀ a s,Q a s->b a s):wpAny M A t b E s:=wpAny_mono h c λ_ _ x=>x
section
variable {X:Cx}
variable {pins:List (Addr×Obj)}{σ:St}
theorem bin{a b:Expr}{ta tb:TE}(n:PE X a ta)(o:PE X b tb){R:V->V->Hp->Prop}(I:Inv X pins σ H s)(h:ta σ H λx H1=>tb σ H1 λy H2=>R x y H2)
  {α:Type} {Q:α->Shared->Prop} {f:Value->Value->Sem α}
  (k:∀ v u e x y H2,Inv X pins σ H2 e->RelV x v->RelV y u->R x y H2->wpAny (model X.prog X.w) X.A (f v u) Q X.xe e):
  wpAny (model X.prog X.w) X.A (eval a X.env) (λv d=>wpAny (model X.prog X.w) X.A (eval b X.env) (λu c=>wpAny (model X.prog X.w) X.A (f v u) Q X.xe c) X.xe d) X.xe s:=by
 refine thn (n pins s σ H _ I h) λv p g=>?_
 obtain⟨x,H1,l,r1,q1⟩:=g
 refine thn (o pins p σ H1 _ l q1) λu e i=>?_
 obtain⟨y,H2,j,m,q2⟩:=i
 exact k v u e x y H2 j r1 m q2
def Lf(i:Nat):TE:=λσ H Q=>∃ v,σ[i]?=some (some v)/\Q v H
def tC(v:V):TE:=λ_ H Q=>Q v H
variable {x:Str}{pos:Pos}
theorem Lg{i:Nat}(g:X.N[i]?=some x)(j:Vis X.env.scope x)(hd:(x==("__debug__":Str))=false:=by decide)(f:(x==("__classdict__":Str))=false:=by decide):PE X (.Name x pos) (Lf i):=by
 intro pins s σ H Q I h
 obtain⟨v,e,h⟩:=h
 obtain⟨m,n,hl⟩:=I.loc
 obtain⟨u,r,l⟩:=hl i x v g e j
 have b:EP X pins σ Q u s:=⟨v,H,I,r,h⟩
 rcases l with⟨d,k⟩|⟨d,c,hc,a⟩
 ·exact wpAny_Name (wpAny_loadName_local I.ok.kind d n k b) hd
 ·rcases d with d | d
  ·exact wpAny_Name (wpAny_loadName_cell I.ok.kind d hc a b) hd
  ·exact wpAny_Name (wpAny_loadName_free I.ok.kind d hc a b f) hd
theorem Th{i j pos}:PE X (.Constant (.int i) j pos) (tC (.int i)):=λ_ _ _ H _ I h=>wpAny_Constant_int ⟨.int i,H,I.tok _,⟨_,rfl⟩,h⟩
theorem Ti{b j pos}:PE X (.Constant (.bool b) j pos) (tC (.bl b)):=λ_ _ _ H _ I h=>Constant_bool ⟨.bl b,H,I,rfl,h⟩
theorem Tj{j pos}:PE X (.Constant .none j pos) (tC .non):=λ_ _ _ H _ I h=>Constant_none ⟨.non,H,I,rfl,h⟩
theorem Lh{x j pos}:PE X (.Constant (.str x) j pos) (tC (.str x)):=λ_ _ _ H _ I h=>Calls.Constant_str ⟨.str x,H,I.tok _,⟨_,rfl⟩,h⟩
def Gl(X:Cx)(x:Str):Prop:=X.env.kindOf x=some .globalImplicit
variable {u:Value}{Q:Value->Shared->Prop}
theorem C9(I:Inv X pins σ H s)(a:Gl X x)(b:X.mg x=some u)(h:Q u s)
  (hd:(x==("__debug__":Str))=false:=by decide):wpAny (model X.prog X.w) X.A (eval (.Name x pos) X.env) Q E s :=
 Calls.Name_function_global I.ok.kind a (Calls.loadGlobal_global (by rw[I.ok.glob];exact I.mod.glob.keeps I.bk) b h) hd
theorem DM(I:Inv X pins σ H s)(b:Gl X x)(c:X.mg x=none)(d:bootBuiltins x=some u)(h:Q u s)
  (a:x≠"__name__":=by decide) (hd:(x==("__debug__":Str))=false:=by decide):wpAny (model X.prog X.w) X.A (eval (.Name x pos) X.env) Q E s:=by
 obtain⟨mb,h1,h2⟩:=I.mod.blt
 exact Calls.Name_function_global I.ok.kind b (Calls.loadGlobal_builtin (by rw[I.ok.glob];exact I.mod.glob.keeps I.bk) c (by rw[I.ok.blt];exact h1.keeps I.bk) ((h2 x a).trans d) h) hd
variable {v:V}
theorem Li(a:Gl X x)(b:X.mg x=some u)(r:RelV v u)(hd:(x==("__debug__":Str))=false:=by decide):PE X (.Name x pos) (tC v):=
 λ_ _ _ H _ I h=>C9 I a b ⟨v,H,I,r,h⟩ hd
theorem Lj(b:Gl X x)(c:X.mg x=none)(d:bootBuiltins x=some u)(r:RelV v u)(a:x≠"__name__":=by decide)(hd:(x==("__debug__":Str))=false:=by decide):PE X (.Name x pos) (tC v):=
 λ_ _ _ H _ I h=>DM I b c d ⟨v,H,I,r,h⟩ a hd
def t2I(ta tb:TE)(k:Int->Int->Hp->Prop):St->Hp->Prop:=λσ H=>ta σ H λx H1=>tb σ H1 λy H2=>∃ i j,x=.int i/\y=.int j/\k i j H2
def Tl(ta tb:TE):TE:=λσ H Q=>t2I ta tb (λi j H2=>Q (.int (i - j)) H2) σ H
variable {a b:Expr} {ta tb:TE} {pos:Pos}
theorem AQ(f:PE X a ta)(g:PE X b tb):PE X (.BinOp a .Sub b pos) (Tl ta tb):=by
 intro pins s σ H Q I h
 refine wpAny_BinOp (bin f g I h λv u k x y H2 d c e q=>?_)
 obtain⟨i,j,rfl,rfl,q⟩:=q
 obtain⟨t,rfl⟩:=c
 obtain⟨t',rfl⟩:=e
 exact sub_int ⟨.int _,H2,d.tok _,⟨_,rfl⟩,q⟩
variable {tA tB':TT} {Ak:List Expr}
def Tn(t u:TT):TT:=λσ H Q=>t σ H λc H1=>if c=true then u σ H1 Q else Q false H1
def tOr(t u:TT):TT:=λσ H Q=>t σ H λc H1=>if c=true then Q true H1 else u σ H1 Q
def To(t:TT):TT:=λσ H Q=>t σ H λc H1=>Q (!c) H1
theorem Tp(b:PT X a tA):PW X (.BoolOp .And [a] pos) tA:=by
 intro f pins s σ H Q I h
 refine isTrue_and (thn (b pins s σ H Q I h) λc d e=>?_)
 cases c with
 | true=>exact isTrue_and_nil e
 | false=>exact e
theorem Tq(b:PT X a tA):PW X (.BoolOp .Or [a] pos) tA:=by
 intro f pins s σ H Q I h
 refine isTrue_or (thn (b pins s σ H Q I h) λc d e=>?_)
 cases c with
 | false=>exact isTrue_or_nil e
 | true=>exact e
theorem Ts(g:PT X a tA)(i:PW X (.BoolOp .And (b::Ak) pos) tB'):PW X (.BoolOp .And (a::b::Ak) pos) (Tn tA tB'):=by
 intro f pins s σ H Q I h
 refine isTrue_and (thn (g pins s σ H _ I h) λc j d=>?_)
 obtain⟨H1,e,q1⟩:=d
 cases c with
 | true=>exact i f pins j σ H1 Q e q1
 | false=>exact⟨H1,e,q1⟩
theorem Tt(g:PT X a tA)(i:PW X (.BoolOp .Or (b::Ak) pos) tB'):PW X (.BoolOp .Or (a::b::Ak) pos) (tOr tA tB'):=by
 intro f pins s σ H Q I h
 refine isTrue_or (thn (g pins s σ H _ I h) λc j d=>?_)
 obtain⟨H1,e,q1⟩:=d
 cases c with
 | true=>exact⟨H1,e,q1⟩
 | false=>exact i f pins j σ H1 Q e q1
theorem Tu(b:PT X a tA):PT X (.UnaryOp .Not a pos) (To tA):=by
 intro pins s σ H Q I h
 exact isTrue_not (b pins s σ H (λc H1=>Q (!c) H1) I h)
def Tv(ta tb:TE):TE:=λσ H Q=>ta σ H λx H1=>∃ c,x=.bl c/\if c=true then tb σ H1 Q else Q (.bl false) H1
def Tw(ta tb:TE):TE:=λσ H Q=>ta σ H λx H1=>∃ c,x=.bl c/\if c=true then Q (.bl true) H1 else tb σ H1 Q
def Tz(ta:TE):TE:=λσ H Q=>ta σ H λx H1=>∃ c,x=.bl c/\Q (.bl (!c)) H1
theorem TC{op}{t:TE}(h:PE X a t):PE X (.BoolOp op [a] pos) t:=λpins s σ H Q I hw=>BoolOp_one (h pins s σ H Q I hw)
theorem TD(f:PE X a ta)(g:PE X (.BoolOp .And (b::Ak) pos) tb):PE X (.BoolOp .And (a::b::Ak) pos) (Tv ta tb):=by
 intro pins s σ H Q I h
 refine BoolOp_and (thn (f pins s σ H _ I h) λv i d=>?_)
 obtain⟨x,H1,e,r1,q1⟩:=d
 obtain⟨c,rfl,q1⟩:=q1
 cases r1
 refine wpAny_truthy_bool ?_
 cases c with
 | true=>exact g pins i σ H1 Q e q1
 | false=>exact⟨.bl false,H1,e,rfl,q1⟩
theorem TF(f:PE X a ta)(g:PE X (.BoolOp .Or (b::Ak) pos) tb):PE X (.BoolOp .Or (a::b::Ak) pos) (Tw ta tb):=by
 intro pins s σ H Q I h
 refine BoolOp_or (thn (f pins s σ H _ I h) λv i d=>?_)
 obtain⟨x,H1,e,r1,q1⟩:=d
 obtain⟨c,rfl,q1⟩:=q1
 cases r1
 refine wpAny_truthy_bool ?_
 cases c with
 | false=>exact g pins i σ H1 Q e q1
 | true=>exact⟨.bl true,H1,e,rfl,q1⟩
theorem TH(e:PE X a ta):PE X (.UnaryOp .Not a pos) (Tz ta):=by
 intro pins s σ H Q I h
 refine UnaryOp_ (thn (e pins s σ H _ I h) λv f b=>?_)
 obtain⟨x,H1,d,r1,q1⟩:=b
 obtain⟨c,rfl,q1⟩:=q1
 cases r1
 exact not_of (wpAny_truthy_bool ⟨.bl (!c),H1,d,rfl,q1⟩)
end
def SqL(K:PySem.W.Frag)(H:Hp)(a:Addr)(xs:List V):Prop :=
 Rd H a (.lst xs)\/
  ∃(o:Obj)(its:Array Value)(n:Nat),K.lookup a=some o/\o.cls=.type "list"/\o.dict=none/\o.data=.seq its n/\its.size<=sizeLine/\Vals xs its.toList
def SqT(K:PySem.W.Frag)(H:Hp)(a:Addr)(xs:List V):Prop :=
 Rd H a (.tup xs)\/
  ∃(o:Obj)(its:Array Value)(n:Nat),K.lookup a=some o/\o.cls=.type "tuple"/\o.dict=none/\o.data=.seq its n/\its.size<=sizeLine/\Vals xs its.toList
def TJ:Value->Option V
 | .none=>some .non
 | .bool b=>some (.bl b)
 | .int i _=>some (.int i)
 | .str x _=>some (.str x)
 | .bytes b _=>some (.byt b)
 | .float b _=>some (.flt b)
 | .ref a=>some (.ref a)
 | .type n=>some (.ty n)
 | _=>none
variable {x:V}{u:Value}
theorem RelV.abs(r:RelV x u):TJ u=some x:=by
 cases x with
 | non=>cases r;rfl
 | bl _=>cases r;rfl
 | int _=>obtain⟨t,rfl⟩:=r;rfl
 | str _=>obtain⟨t,rfl⟩:=r;rfl
 | byt _=>obtain⟨t,rfl⟩:=r;rfl
 | flt _=>obtain⟨t,rfl⟩:=r;rfl
 | ref _=>cases r;rfl
 | ty _=>cases r;rfl
theorem RelV.inj{y:V}(r:RelV x u)(q:RelV y u):x=y:=YE (r.abs.symm.trans q.abs)
theorem Vals.inj:∀{xs ys:List V}{us:List Value},Vals xs us->Vals ys us->xs=ys
 | _,_,_,.nil,.nil=>rfl
 | _,_,_,.cons r t,.cons r' t'=>by rw[r.inj r',Vals.inj t t']
section
variable {X:Cx} {pins:List (Addr×Obj)} {σ:St} {H:Hp} {s:Shared} {a:Addr} {xs ys:List V}
variable {K:PySem.W.Frag}
theorem SqL.of(h:H a=some (.lst xs)):SqL K H a xs:=.inl (.inl h)
theorem SqT.of(h:H a=some (.tup xs)):SqT K H a xs:=.inl (.inl h)
theorem Inv.list(I:Inv X pins σ H s)(h:SqL X.K H a xs):∃ b:List Value,Vals xs b/\PlainL s.heap a b.toArray/\xs.length<=sizeLine:=by
 rcases h with h |⟨o,b,n,d,hc,hd,c,f,r⟩
 ·obtain⟨z,b,n,r,e⟩:=h.ok I.hok
  exact⟨b,r,⟨_,n,e,rfl,rfl,rfl⟩,z⟩
 ·refine⟨b.toList,r,⟨o,n,I.kIn a o d,hc,hd,by simpa using c⟩,?_⟩
  have e:=r.length
  simp only[YS]at e
  lia
theorem Inv.tupP(I:Inv X pins σ H s)(h:SqT X.K H a xs):∃ b:List Value,Vals xs b/\TupP s.heap a b.toArray/\xs.length<=sizeLine:=by
 rcases h with h |⟨o,b,n,d,hc,hd,c,f,r⟩
 ·obtain⟨z,b,r,p⟩:=h.ok I.hok
  exact⟨b,r,p,z⟩
 ·refine⟨b.toList,r,⟨o,I.kIn a o d,hc,hd,n,by simpa using c⟩,?_⟩
  have e:=r.length
  simp only[YS]at e
  lia
theorem Inv.tuple(I:Inv X pins σ H s)(h:SqT X.K H a xs):∃ b:List Value,Vals xs b/\IsTup s.heap a b.toArray/\xs.length<=sizeLine :=
 let⟨b,r,p,z⟩:=I.tupP h
 ⟨b,r,p.up,z⟩
theorem Inv.list_inj(I:Inv X pins σ H s)(h:SqL X.K H a xs)(h':SqL X.K H a ys):xs=ys:=by
 obtain⟨c,r,⟨o,n,e,_,_,d⟩,_⟩:=I.list h
 obtain⟨b,r',⟨o',i,f,_,_,g⟩,_⟩:=I.list h'
 rw[e]at f;cases f
 rw[d]at g
 injection g with d1 _
 have:c=b:=by simpa using Qf Array.toList d1
 subst this
 exact r.inj r'
theorem Inv.tuple_inj(I:Inv X pins σ H s)(h:SqT X.K H a xs)(h':SqT X.K H a ys):xs=ys:=by
 obtain⟨c,r,⟨o,e,_,n,d⟩,_⟩:=I.tuple h
 obtain⟨b,r',⟨o',f,_,i,g⟩,_⟩:=I.tuple h'
 rw[e]at f;cases f
 rw[d]at g
 injection g with d1 _
 have:c=b:=by simpa using Qf Array.toList d1
 subst this
 exact r.inj r'
end
abbrev Cx.wish(X:Cx)(E:Value->Shared->Prop):Cx:={X with xe:=E}
abbrev Cx.nox(X:Cx):Cx:=X.wish λ_ _=>False
theorem Cx.Ok.wish(ok:X.Ok)(E:Value->Shared->Prop):(X.wish E).Ok :=
 ⟨ok.mod,ok.kind,ok.glob,ok.blt,ok.above,ok.inj,ok.has,ok.cab,ok.hd,ok.frames,ok.stk,ok.exf,ok.bs,ok.bsz,ok.noex,ok.exfs,ok.funs,ok.frf⟩
theorem Cx.Ok.unwish(ok:(X.wish E).Ok):X.Ok :=
 ⟨ok.mod,ok.kind,ok.glob,ok.blt,ok.above,ok.inj,ok.has,ok.cab,ok.hd,ok.frames,ok.stk,ok.exf,ok.bs,ok.bsz,ok.noex,ok.exfs,ok.funs,ok.frf⟩
section
variable {X:Cx} {pins:List (Addr×Obj)} {σ:St} {H:Hp} {s:Shared} {E:Value->Shared->Prop}
theorem Inv.wish(I:Inv X pins σ H s)(E:Value->Shared->Prop):Inv (X.wish E) pins σ H s:=⟨I.ok.wish E,I.os,I.bare,I.base,I.loc,I.cell,I.free,I.freeC,I.pin,I.hok,I.len⟩
theorem Inv.unwish(I:Inv (X.wish E) pins σ H s):Inv X pins σ H s:=⟨I.ok.unwish,I.os,I.bare,I.base,I.loc,I.cell,I.free,I.freeC,I.pin,I.hok,I.len⟩
theorem SP.unwish{D:EB}{f:Flow}{s':Shared}(h:SP (X.wish E) pins D f s'):SP X pins D f s':=by
 cases f with
 | next=>obtain⟨σ',H',I,q⟩:=h;exact⟨σ',H',I.unwish,q⟩
 | brk=>obtain⟨σ',H',I,q⟩:=h;exact⟨σ',H',I.unwish,q⟩
 | cont=>obtain⟨σ',H',I,q⟩:=h;exact⟨σ',H',I.unwish,q⟩
 | ret u=>obtain⟨v,σ',H',I,r,q⟩:=h;exact⟨v,σ',H',I.unwish,r,q⟩
variable {e:Expr}
theorem PE.nox{t:TE}(h:PE X.nox e t):PE X e t:=λpins s σ H Q I hw=>
 wpAny_mono (h pins s σ H Q (I.wish _) hw) ((by rintro _ _ ⟨v,H',a,r,q⟩;exact⟨v,H',a.unwish,r,q⟩)) λ_ _ z=>Qd z
theorem PT.nox{t:TT}(h:PT X.nox e t):PT X e t:=λpins s σ H Q I hw=>
 wpAny_mono (h pins s σ H Q (I.wish _) hw) ((by rintro _ _ ⟨H',a,q⟩;exact⟨H',a.unwish,q⟩)) λ_ _ z=>Qd z
theorem PSs.nox{st:List Stmt}{t:TS}(h:PSs X.nox st t):PSs X st t:=λpins s σ H D I hw=>
 wpAny_mono (h pins s σ H D (I.wish _) hw) (λ_ _ q=>q.unwish) λ_ _ z=>Qd z
end
section
variable {X:Cx} {st:Stmt} {Ak:List Stmt} {t u:TS} {e:Expr} {te:TE} {pos:Pos}
def TK:TS:=λD σ H=>D.nx σ H
def TL(t u:TS):TS:=λD σ H=>t {D with nx:=u D} σ H
theorem TN:PSs X [] TK:=λ_ _ σ H _ I h=>wpAny_execs_nil ⟨σ,H,I,h⟩
theorem TQ(h1:PS X st t)(h2:PSs X Ak u):PSs X (st::Ak) (TL t u):=by
 intro pins s σ H D I h
 refine wpAny_execs_cons (thn (h1 pins s σ H {D with nx:=u D} I h) λf a q=>?_)
 cases f with
 | next =>
  obtain⟨σ',H',b,q⟩:=q
  exact h2 pins a σ' H' D b q
 | ret v=>exact q
 | brk=>exact q
 | cont=>exact q
theorem TR(h1:PS X st t):PSs X [st] t:=by
 intro pins s σ H D I h
 refine wpAny_execs_cons (thn (h1 pins s σ H D I h) λf a q=>?_)
 cases f with
 | next=>exact wpAny_execs_nil q
 | ret v=>exact q
 | brk=>exact q
 | cont=>exact q
theorem Inv.quiet{pins:List (Addr×Obj)}{σ:St}(I:Inv X pins σ H s):interactive X.env=false:=by simp[interactive,I.ok.kind]
def TU(te:TE):TS:=λD σ H=>te σ H λ_ H1=>D.nx σ H1
theorem TV(c:PE X e te)(a:swapsWith e none pos.line X.env=pure false:=by rfl):PS X (.Expr e pos) (TU te):=by
 intro pins s σ H D I h
 exact wpAny_Expr_any (thn (c pins s σ H _ I h) (by rintro v d ⟨x,H1,b,r1,q1⟩;exact⟨σ,H1,b,q1⟩)) I.quiet a
def TX(te:TE):TS:=λD σ H=>te σ H D.rt
theorem TY(b:PE X e te):PS X (.Return (some e) pos) (TX te):=by
 intro pins s σ H D I h
 exact wpAny_Return_some (thn (b pins s σ H _ I h) (by rintro v c ⟨x,H1,a,r1,q1⟩;exact⟨x,σ,H1,a,r1,q1⟩))
def TZ(c:TT)(t u:TS):TS:=λD σ H=>c σ H λb H1=>if b=true then t D σ H1 else u D σ H1
theorem T1{c:Expr}{a b:List Stmt}{tc:TT}(hc:PT X c tc)(i:PSs X a t)(j:PSs X b u):PS X (.If c a b pos) (TZ tc t u):=by
 intro pins s σ H D I h
 refine wpAny_If (thn (hc pins s σ H _ I h) λd g e=>?_)
 obtain⟨H1,f,q1⟩:=e
 cases d with
 | true=>exact i pins g σ H1 D f q1
 | false=>exact j pins g σ H1 D f q1
end
abbrev TG:=V->St->Hp->(St->Hp->Prop)->Prop
abbrev TGs:=List V->St->Hp->(St->Hp->Prop)->Prop
def PG(X:Cx)(target:Expr)(t:TG):Prop :=
 ∀(pins:List (Addr×Obj))(s:Shared)(σ:St)(H:Hp)(v:V)(u:Value)(Q:St->Hp->Prop),Inv X pins σ H s->RelV v u->t v σ H Q->
  wpAny (model X.prog X.w) X.A (assign target X.env u) (λ_ s'=>∃ σ' H',Inv X pins σ' H' s'/\Q σ' H') X.xe s
def PGs(X:Cx)(ts:List Expr)(t:TGs):Prop :=
 ∀(pins:List (Addr×Obj))(s:Shared)(σ:St)(H:Hp)(vs:List V)(us:List Value)(Q:St->Hp->Prop),Inv X pins σ H s->Vals vs us->t vs σ H Q->
  wpAny (model X.prog X.w) X.A (assignInOrder ((assignEach ts X.env).map (·.2)) us) (λ_ s'=>∃ σ' H',Inv X pins σ' H' s'/\Q σ' H') X.xe s
abbrev HS:=V->V->V->Hp->(Hp->Prop)->Prop
def Lk(X:Cx)(t:HS):Prop :=
 ∀(pins:List (Addr×Obj))(s:Shared)(σ:St)(H:Hp)(o i v:V)(ov iv u:Value)(Q:Hp->Prop),Inv X pins σ H s->RelV o ov->RelV i iv->RelV v u->t o i v H Q->
  wpAny (model X.prog X.w) X.A (setItem ov iv u) (λ_ s'=>∃ H',Inv X pins σ H' s'/\Q H') X.xe s
abbrev TIp:=V->V->Hp->VK->Prop
def PIp(X:Cx)(op:Operator)(t:TIp):Prop :=
 ∀(pins:List (Addr×Obj))(s:Shared)(σ:St)(H:Hp)(x y:V)(v u:Value)(Q:VK),Inv X pins σ H s->RelV x v->RelV y u->t x y H Q->
  wpAny (model X.prog X.w) X.A (inplaceOp op v u) (EP X pins σ Q) X.xe s
section
variable {X:Cx} {pos:Pos}
def CH(i:Nat):TG:=λv σ H Q=>Q (σ.set i (some v)) H
variable {i:Nat}
theorem DN{x:Str}(c:X.N.Nodup)(hi:X.N[i]?=some x)(b:Loc X.env.scope x)(a:X.fn x=true\/X.env.scope.names.lookup x=some .local:=by first | exact .inl rfl | exact .inr rfl | assumption):PG X (.Name x pos) (CH i):=by
 intro pins s σ H v u Q I r h
 exact wpAny_assign_Name (E3 I c hi b r (λs' d=>⟨_,H,d,h⟩) a)
def Ch:TGs:=λvs σ H Q=>vs=[]/\Q σ H
def BT(t:TG)(u:TGs):TGs:=λvs σ H Q=>∃ v r,vs=v::r/\t v σ H λσ' H'=>u r σ' H' Q
theorem Ll:PGs X [] Ch:=by
 intro pins s σ H vs a Q I r h
 obtain⟨e,h⟩:=h
 subst e
 cases r
 exact assignInOrder_nil ⟨σ,H,I,h⟩
variable {e:Expr}{es:List Expr}
theorem FU{t:TG}{u:TGs}(h1:PG X e t)(h2:PGs X es u)
  (b:(assignEach (e::es) X.env).map (·.2)=assign e X.env::(assignEach es X.env).map (·.2):=by rfl):PGs X (e::es) (BT t u):=by
 intro pins s σ H vs i Q I r h
 obtain⟨v,vr,d,h⟩:=h
 subst d
 cases r with
 | cons r c =>
  rw[b]
  refine assignInOrder_cons (thn (h1 pins s σ H _ _ _ I r h) λ_ g a=>?_)
  obtain⟨σ1,H1,f,q1⟩:=a
  exact h2 pins g σ1 H1 _ _ Q f c q1
def Cl(K:PySem.W.Frag)(n:Nat)(t:TGs):TG:=λv σ H Q=>∃ a xs,v=.ref a/\SqT K H a xs/\xs.length=n/\t xs σ H Q
theorem Lm{k:Nat}{t:TGs}{n:Nat}(hc:X.calm=true)(h:PGs X es t)
  (p:(assignEach es X.env).length=n:=by rfl) (c:(assignEach es X.env).findIdx? (·.1)=none:=by rfl):PG X (.Tuple es k pos) (Cl X.K n t):=by
 intro pins s σ H v u Q I r hw
 obtain⟨a,xs,j,i,hl,hw⟩:=hw
 subst j
 cases r
 obtain⟨m,d,f,q⟩:=I.tuple i
 refine assign_Tuple_tuple (I.ok.hd hc) f (by simp[p,<- hl,d.length]) c λh' g=>?_
 have l:Inv X pins σ H {s with heap:=h'}:=I.kept (t':=s.toks) λb o e=>g b o (Ys (Ql e)) e
 exact h pins _ σ H xs _ Q l (by simpa using d) hw
def T2(to ti:TE)(t:HS):TG:=λv σ H Q=>to σ H λo H1=>ti σ H1 λi H2=>t o i v H2 λH3=>Q σ H3
theorem T3{o i:Expr}{to f:TE}{t:HS}(p:PE X o to)(hi:PE X i f)(g:Lk X t)
  (w:∀ v,assign (.Subscript o i pos) X.env v=(do
   let a <- holding [v] (eval o X.env)
   let b <- holding [v,a] (eval i X.env)
   standAt pos
   holding [v,a,b] (setItem a b v)
   release [v,a,b] []):=by intro _;rfl):PG X (.Subscript o i pos) (T2 to f t):=by
 intro pins s σ H v u Q I r h
 rw[w]
 refine Qi (wpAny_holding (thn (p pins s σ H _ I h) λa z d=>?_))
 obtain⟨x,H1,n,r1,q1⟩:=d
 refine Qi (wpAny_holding (thn (hi pins z σ H1 _ n q1) λb l c=>?_))
 obtain⟨y,H2,m,q,q2⟩:=c
 refine Qi (wpAny_standAt (Qi (wpAny_holding (thn (g pins l σ H2 x y v a b u _ m r1 q r q2) λ_ A e=>?_))))
 obtain⟨k,j,q3⟩:=e
 exact wpAny_release ⟨σ,k,j,q3⟩
def HU(te:TE)(g:TG):TS:=λD σ H=>te σ H λx H1=>g x σ H1 D.nx
variable {te:TE}
theorem T4{tg:Expr}{g:TG}(c:PE X e te)(d:PG X tg g)(b:swapsWithSole [tg] e pos.line X.env=pure false:=by rfl)(hw:swappedStores [tg] e X.env=pure none:=by rfl)
  (h1:(assignEach [tg] X.env).map (·.2)=[assign tg X.env]:=by rfl):PS X (.Assign [tg] e pos) (HU te g):=by
 intro pins s σ H D I h
 refine wpAny_Assign_stores (thn (c pins s σ H _ I h) λv i a=>?_) b hw
 obtain⟨x,H1,f,r1,q1⟩:=a
 rw[h1]
 exact thn (d pins i σ H1 x v _ f r1 q1) λ_ j q=>q
variable {pos':Pos}
theorem T5{x:Str}(d:X.N.Nodup)(hi:X.N[i]?=some x)(f:Loc X.env.scope x)(c:PE X e te)(b:swapsWith e (some (.Name x pos')) pos.line X.env=pure false:=by rfl)(j:X.fn x=true\/X.env.scope.names.lookup x=some .local:=by first | exact .inl rfl | exact .inr rfl | assumption):
  PS X (.Assign [.Name x pos'] e pos) (HU te (CH i)):=by
 intro pins s σ H D I h
 refine wpAny_Assign_Name (thn (c pins s σ H _ I h) λv m a=>?_) b
 obtain⟨y,H1,k,r1,q1⟩:=a
 exact E3 k d hi f r1 (λl g=>⟨_,H1,g,q1⟩) j
def T6(i:Nat)(te:TE)(ti:TIp):TS:=λD σ H=>∃ x,σ[i]?=some (some x)/\te σ H λy H1=>ti x y H1 λz H2=>D.nx (σ.set i (some z)) H2
theorem T7{x:Str}{op:Operator}{p:TIp}(K:X.N.Nodup)(hi:X.N[i]?=some x)(o:Loc X.env.scope x)(J:PE X e te)(G:PIp X op p)(L:X.fn x=true\/X.env.scope.names.lookup x=some .local:=by first | exact .inl rfl | exact .inr rfl | assumption):
  PS X (.AugAssign (.Name x pos') op e pos) (T6 i te p):=by
 intro pins s σ H D I h
 obtain⟨v,q,h⟩:=h
 obtain⟨m,Q,hl⟩:=I.loc
 have n:Vis X.env.scope x:=by rcases o with k | k;exact .inl k;exact .inr (.inl k)
 obtain⟨u,r,l⟩:=hl i x v hi q n
 refine wpAny_AugAssign_Name ?_
 have go:wpAny (model X.prog X.w) X.A (eval e X.env) (λw f=>wpAny (model X.prog X.w) X.A (inplaceOp op u w) (λr g=>wpAny (model X.prog X.w) X.A (storeName X.env x r) (λ_=>SP X pins D .next) X.xe g) X.xe f) X.xe s:=by
  refine thn (J pins s σ H _ I h) λw B d=>?_
  obtain⟨y,H1,t,r1,q1⟩:=d
  refine thn (G pins B σ H1 v y u w _ t r r1 q1) λz R j=>?_
  obtain⟨T,H2,P,O,q2⟩:=j
  exact E3 P K hi o O (λS E=>⟨_,H2,E,q2⟩) L
 rcases l with⟨a,F⟩|⟨a,c,hc,b⟩
 ·exact wpAny_loadName_local I.ok.kind a Q F go
 ·rcases a with a | a
  ·exact wpAny_loadName_cell I.ok.kind a hc b go
  ·rcases o with k | k
   ·have:X.env.scope.names.lookup x=some .free:=a
    rw[k]at this;cases this
   ·have:X.env.scope.names.lookup x=some .free:=a
    rw[k]at this;cases this
end
section
variable {X:Cx} {pos:Pos}
def T8(c:TT)(tb:TS):TS:=λD σ H=>∃ W:Nat->St->Hp->Prop,(∃ m,W m σ H)/\∀ m σ H,W m σ H->
 c σ H λb H1=>if b=true then ∃ N:St->Hp->Prop,(∀ σ' H',N σ' H'->∃ m',m' < m/\W m' σ' H')/\tb {D with nx:=N,ct:=N,bk:=D.nx} σ H1 else D.nx σ H1
theorem T9{c:Expr}{body:List Stmt}{tc:TT}{tb:TS}(m:PassesOwn (model X.prog X.w) X.A X.env X.xe)(hc:PT X c tc)(y:PSs X body tb):PS X (.While c body [] pos) (T8 tc tb):=by
 intro pins s σ H D I h
 obtain⟨W,⟨r,x⟩,e⟩:=h
 refine wpAny_While (codeAny_whileLoop (λn s'=>∃ σ' H',Inv X pins σ' H' s'/\W n σ' H') ?_ r ⟨σ,H,I,x⟩)
 rintro n u ⟨σ1,H1,t,q⟩
 refine wpAny_passesOwn m (thn (hc pins u σ1 H1 _ t (e n σ1 H1 q)) λb z a=>?_)
 obtain⟨H2,p,q2⟩:=a
 cases b with
 | true =>
  obtain⟨N,o,q2⟩:=q2
  rw[if_pos rfl]
  refine wpAny_passesOwn m (thn (y pins z σ1 H2 _ p q2) λf B q3=>?_)
  cases f with
  | next =>
   obtain⟨σ3,d,g,i⟩:=q3
   obtain⟨l,j,k⟩:=o σ3 d i
   exact⟨l,j,σ3,d,g,k⟩
  | cont =>
   obtain⟨σ3,d,g,i⟩:=q3
   obtain⟨l,j,k⟩:=o σ3 d i
   exact⟨l,j,σ3,d,g,k⟩
  | brk=>exact q3
  | ret v=>exact q3
 | false =>
  rw[if_neg YT]
  exact wpAny_execs_nil ⟨σ1,H2,p,q2⟩
end
structure It where
 go:Nat->Hp->Prop
 yld:Nat->Hp->V->Hp->Prop
 stop:Nat->Hp->Prop
def Ce(X:Cx)(pins:List (Addr×Obj))(H:Hp)(b:Addr):Prop :=
 H b=none/\b≠X.env.locals/\b∉X.fs/\(b∈X.ex\/X.s₀.heap.objs.size<=b)/\(∀ x c,X.env.cells.lookup x=some c->c≠b)/\∀ p∈X.pn++pins,p.1≠b
theorem Inv.fpOk{pins:List (Addr×Obj)}{σ:St}{H':Hp}(I:Inv X pins σ H s)(a:s.heap.objs.size<=b)(d:H' b=none):Ce X pins H' b:=by
 refine⟨d,Nat.ne_of_gt (Yu I.lt a),I.nofs a,.inr (Yt I.sz a),λx c e z=>?_,λp f z=>?_⟩
 ·obtain⟨v,q⟩:=I.cell x c e
  exact Qh (Yu q.lt (by rw[z];exact a)) (YJ _)
 ·exact Qh (Yu (Ql (I.pin p f).1) (by rw[z];exact a)) (YJ _)
structure Da(P:Program)(w:World)(K:PySem.W.Frag)(tg:Expr)(J:It)(fp:List Addr)(it:Addr)(tn:Nat->Heap->Prop):Prop where
 mem:it∈fp
 obj:∀ i h,tn i h->∀ b∈fp,∃ o,h.get? b=some o/\∀ v,o.data≠.cell v
 keep:∀ i h h',tn i h->(∀ b∈fp,∀ o,h.get? b=some o->h'.get? b=some o)->tn i h'
 item:∀(X:Cx),X.prog=P->X.w=w->X.K=K->X.calm=true->∀(i:Nat)(pins:List (Addr×Obj))(s:Shared)(σ:St)(H:Hp)(E:Value->Shared->Prop),Inv X pins σ H s->(∀ b∈fp,Ce X pins H b)->tn i s.heap->J.go i H->
  wpAny (model P w) X.A (pyNext (.ref it)) (λr s1=>∃ u,r=some u/\
   wpAny (model P w) X.A (letOwnedTupleGo tg (.ref it) u) (λ_ s2=>∃ x H',Inv X pins σ H' s2/\RelV x u/\J.yld i H x H'/\tn (i+1) s2.heap/\∀ b∈fp,H' b=none) E s1) E s
 done:∀(X:Cx),X.prog=P->X.w=w->X.K=K->X.calm=true->∀(i:Nat)(pins:List (Addr×Obj))(s:Shared)(σ:St)(H:Hp)(E:Value->Shared->Prop),Inv X pins σ H s->(∀ b∈fp,Ce X pins H b)->tn i s.heap->J.stop i H->
  wpAny (model P w) X.A (pyNext (.ref it)) (λr s1=>r=none/\Inv X pins σ H s1) E s
 self:∀(A:Around)(i:Nat)(s:Shared)(Q:Value->Shared->Prop)(E:Value->Shared->Prop),tn i s.heap->Q (.ref it) s->wpAny (model P w) A (pyIter (.ref it)) Q E s
abbrev TI:=St->Hp->(It->Hp->Prop)->Prop
def PIE(X:Cx)(pins:List (Addr×Obj))(σ:St)(tg:Expr)(R:It->Hp->Prop)(itv:Value)(s2:Shared):Prop :=
 ∃(it:Addr)(fp:List Addr)(tn:Nat->Heap->Prop)(J:It)(H':Hp),itv=.ref it/\Inv X pins σ H' s2/\Da X.prog X.w X.K tg J fp it tn/\tn 0 s2.heap/\(∀ b∈fp,Ce X pins H' b)/\R J H'
def PI(X:Cx)(tg iter:Expr)(wi:TI):Prop :=
 ∀(pins:List (Addr×Obj))(s:Shared)(σ:St)(H:Hp)(R:It->Hp->Prop),Inv X pins σ H s->wi σ H R->
  wpAny (model X.prog X.w) X.A (eval iter X.env) (λv s1=>wpAny (model X.prog X.w) X.A (pyIter v) (PIE X pins σ tg R) X.xe s1) X.xe s
theorem HV{M:Model}{tg:Expr}{it:Addr}{o:Obj}{n:String}{vs:Array Value}{Q:Unit->Shared->Prop}(c:s.heap.get? it=some o)(hc:o.cls=.type n)(hd:o.data=.fields vs)
  (b:["enumerate","zip","dict_itemiterator","dict_reverseitemiterator","odict_iterator","itertools.zip_longest","itertools.pairwise"].contains n=false) (a:Q () s):wpAny M A (letOwnedTupleGo tg (.ref it) u) Q E s:=by
 unfold letOwnedTupleGo
 cases tg <;> first
  | exact Qj a
  |(cases u <;> first
    | exact Qj a
    |(refine Qi (wpAny_load c ?_)
      rw[hc,hd]
      show wpAny M A (if(["enumerate","zip","dict_itemiterator","dict_reverseitemiterator","odict_iterator","itertools.zip_longest","itertools.pairwise"].contains n&&vs[0]?==some (rawInt _))=true then _ else _) Q E s
      rw[if_neg (by intro h;rw[b,Bool.false_and]at h;cases h)]
      exact Qj a))
def Itl(K:PySem.W.Frag)(a:Addr):It :=
 ⟨λi H=>∃ xs x,SqL K H a xs/\xs[i]?=some x,λi H x H'=>H'=H/\∀ xs,SqL K H a xs->xs[i]?=some x,λi H=>∃ xs,SqL K H a xs/\xs.length<=i⟩
def Itt(K:PySem.W.Frag)(a:Addr):It :=
 ⟨λi H=>∃ xs x,SqT K H a xs/\xs[i]?=some x,λi H x H'=>H'=H/\∀ xs,SqT K H a xs->xs[i]?=some x,λi H=>∃ xs,SqT K H a xs/\xs.length<=i⟩
def Itr(lo:Int)(n:Nat):It:=⟨λi _=>i < n,λi H x H'=>H'=H/\x=.int (lo+i),λi _=>n<=i⟩
variable {K:PySem.W.Frag}
theorem Ln{tg:Expr}(a it:Addr):Da P w K tg (Itl K a) [it] it (λi h=>h.IsListIter it a i) where
 mem:=by simp
 obj:=λi h st b f=>by
  have e:b=it:=by simpa using f
  subst e
  obtain⟨o,e,c,d⟩:=st
  exact⟨o,e,λv z=>by rw[d]at z;cases z⟩
 keep:=λi h h' st k=>st.at λo e=>k it (by simp) o e
 item:=by
  intro X D hw t hc i pins s σ H E I l st B
  subst D hw t
  obtain⟨xs,x,j,F⟩:=B
  obtain⟨G,m,p,N⟩:=I.list j
  obtain⟨u,O,R⟩:=m.get F
  obtain⟨q,y,Q,n,A,r⟩:=l it (by simp)
  refine wpAny_pyNext_list_item st p.isList (x:=u) (by simpa using O) λh' g S=>?_
  have J:Inv X pins σ H {s with heap:=h'}:=I.turned (t':=s.toks) (λb o f e=>(S.2 b f).trans e) q y n A r
  obtain⟨o,e,c,d⟩:=id g
  exact⟨u,rfl,HV (s:={s with heap:=h'}) e c d (by decide) ⟨x,H,J,R,⟨rfl,λys L=>by rw[I.list_inj L j];exact F⟩,g,λb f=>(l b f).1⟩⟩
 done:=by
  intro X D hw t hc i pins s σ H E I l st B
  subst D hw t
  obtain⟨xs,j,F⟩:=B
  obtain⟨G,m,p,N⟩:=I.list j
  obtain⟨q,y,Q,n,A,r⟩:=l it (by simp)
  have hl:=m.length
  exact wpAny_pyNext_list_end (I.ok.hd hc) st p.isList (by simp;lia) λh' eb=>⟨rfl,I.turned (t':=s.toks) (λb o f e=>eb b o f e) q y n A r⟩
 self:=λ_ _ _ _ _ st h=>wpAny_pyIter_listiter st h
theorem Lo{tg:Expr}(a it:Addr):Da P w K tg (Itt K a) [it] it (λi h=>h.IsTupleIter it a i) where
 mem:=by simp
 obj:=λi h st b f=>by
  have e:b=it:=by simpa using f
  subst e
  obtain⟨o,e,c,d⟩:=st
  exact⟨o,e,λv z=>by rw[d]at z;cases z⟩
 keep:=λi h h' st k=>st.at λo e=>k it (by simp) o e
 item:=by
  intro X F hw y hc i pins s σ H E I m st D
  subst F hw y
  obtain⟨xs,x,l,G⟩:=D
  obtain⟨g,n,p,N⟩:=I.tuple l
  obtain⟨u,O,R⟩:=n.get G
  obtain⟨r,A,Q,q,B,t⟩:=m it (by simp)
  refine wpAny_pyNext_tuple_item st (show s.heap.IsTuple a g.toArray from p) (x:=u) (by simpa using O) λh' j S=>?_
  have J:Inv X pins σ H {s with heap:=h'}:=I.turned (t':=s.toks) (λb o f e=>(S.2 b f).trans e) r A q B t
  obtain⟨o,e,c,d⟩:=id j
  exact⟨u,rfl,HV (s:={s with heap:=h'}) e c d (by decide) ⟨x,H,J,R,⟨rfl,λys L=>by rw[I.tuple_inj L l];exact G⟩,j,λb f=>(m b f).1⟩⟩
 done:=by
  intro X F hw y hc i pins s σ H E I m st D
  subst F hw y
  obtain⟨xs,l,G⟩:=D
  obtain⟨g,n,p,N⟩:=I.tuple l
  obtain⟨r,A,Q,q,B,t⟩:=m it (by simp)
  have hl:=n.length
  exact wpAny_pyNext_tuple_end (I.ok.hd hc) st (show s.heap.IsTuple a g.toArray from p) (by simp;lia) λh' eb=>⟨rfl,I.turned (t':=s.toks) (λb o f e=>eb b o f e) r A q B t⟩
 self:=λ_ _ _ _ _ st h=>wpAny_pyIter_tupleiter st h
theorem Ua{tg:Expr}(it:Addr)(lo:Int)(n:Nat):Da P w K tg (Itr lo n) [it] it (λi h=>IsRangeIter h it (lo+(i:Nat)*1) ((n:Int) -(i:Nat)) 1) where
 mem:=by simp
 obj:=λi h st b a=>by
  have e:b=it:=by simpa using a
  subst e
  exact⟨_,st,λv z=>by
   have B:Data.fields _=Data.cell v:=z
   cases B⟩
 keep:=λi h h' st k=>k it (by simp) _ st
 item:=by
  intro X g hw m hc i pins s σ H E I d st f
  subst g hw m
  obtain⟨j,p,y,l,r,q⟩:=d it (by simp)
  have W:=Walks.range (prog:=X.prog) (w:=X.w) (I.ok.hd hc) it lo 1 n
  refine W.item i s _ _ f st λv h' tk u c A=>?_
  obtain⟨t,rfl⟩:=u
  have x:Inv X pins σ H {s with heap:=h',toks:=tk}:=I.turned (λb o a e=>A b o (by simpa using a) e) j p l r q
  refine⟨_,rfl,HV (s:={s with heap:=h',toks:=tk}) (n:="range_iterator") c rfl rfl (by decide) ⟨.int (lo+i),H,x,⟨t,?_⟩,⟨rfl,rfl⟩,c,λb a=>(d b a).1⟩⟩
  rw[Int.mul_one]
 done:=by
  intro X g hw m hc i pins s σ H E I d st f
  subst g hw m
  obtain⟨j,p,y,l,r,q⟩:=d it (by simp)
  exact wpAny_pyNext_range_end (I.ok.hd hc) st (by have:n<=i:=f;lia) λh' eb=>⟨rfl,I.turned (t':=s.toks) (λb o a e=>eb b o a e) j p l r q⟩
 self:=λ_ _ _ _ _ st h=>wpAny_pyIter_rangeiter st h
section
variable {X:Cx} {tg:Expr}
variable {pins:List (Addr×Obj)}{σ:St}
theorem Ub{R:It->Hp->Prop}{lo hi:Int}{t u v:Tok}{tk:Nat}(I:Inv X pins σ H s)(h1:-(2 ^ 62)<=lo)(h2:lo < 2 ^ 62)(h:-(2 ^ 62)<=hi)(g:hi < 2 ^ 62)
  (q:R (Itr lo (hi - lo).toNat) H):wpAny (model X.prog X.w) X.A (pyIter (.ref s.heap.objs.size)) (PIE X pins σ tg R) E {s with heap:=s.heap.push {cls:=.type "range",data:=.fields #[.int lo t,.int hi u,.int 1 v]},toks:=tk}:=by
 refine wpAny_pyIter_range (IsRange.new ..) (small_one h1 h2 h g) ?_
 have a:Inv X pins σ H {s with heap:=s.heap.push {cls:=.type "range",data:=.fields #[.int lo t,.int hi u,.int 1 v]},toks:=tk}:=I.kept λb o e=>Qk _ e
 refine⟨(s.heap.push {cls:=.type "range",data:=.fields #[.int lo t,.int hi u,.int 1 v]}).objs.size,[(s.heap.push {cls:=.type "range",data:=.fields #[.int lo t,.int hi u,.int 1 v]}).objs.size],_,_,H,rfl,
  a.kept (t':=tk) λb o e=>Qk _ e,Ua _ lo (hi - lo).toNat,?_,λb d=>?_,q⟩
 ·have c:lo+((0:Nat):Int)*1=lo:=by simp
  have f:(((hi - lo).toNat:Nat):Int) -((0:Nat):Int)=Builtin.Range.rangeSize lo hi 1:=by rw[rangeSize_one];split <;> lia
  show IsRangeIter _ _ (lo+((0:Nat):Int)*1) ((((hi - lo).toNat:Nat):Int) -((0:Nat):Int)) 1
  rw[c,f]
  exact Qm _ rfl
 ·have e:b=(s.heap.push {cls:=.type "range",data:=.fields #[.int lo t,.int hi u,.int 1 v]}).objs.size:=by simpa using d
  subst e
  exact a.fpOk (Yr _) (a.hok.fresh (Yr _))
def Uc(ta:TA):TI:=λσ H R=>ta σ H λvs H1=>∃ j:Int,vs=[.int j]/\-(2 ^ 62)<=j/\j < 2 ^ 62/\R (Itr 0 j.toNat) H1
variable {pos:Pos}
theorem Ud{a:Expr}{ta:TA}{p:Pos}(f:Gl X "range")(g:X.mg "range"=none)(k:PA X [a] ta)(c:starEach [a] X.env=[(false,eval a X.env)]:=by rfl):PI X tg (.Call (.Name "range" p) [a] [] pos) (Uc ta):=by
 intro pins s σ H R I h
 refine Call_ (DM I f g boot_range (Qb (thn (k pos pins s σ H _ I h) λm l b=>?_) c rfl))
 obtain⟨vs,H1,i,r1,q1⟩:=b
 obtain⟨j,e,q1,q2,q⟩:=q1
 subst e
 cases r1 with
 | cons r d =>
  cases d
  obtain⟨t,rfl⟩:=r
  exact call_range_1 (Ub i (by lia) (by lia) q1 q2 (by simpa using q))
def Ue(wi:TI)(g:TG)(tb:TS):TS:=λD σ H=>wi σ H λJ H1=>∃ W:Nat->Nat->St->Hp->Prop,(∃ m,W 0 m σ H1)/\∀ i m σ H,W i m σ H->
 (J.stop i H/\D.nx σ H)\/(J.go i H/\∃ N:St->Hp->Prop,(∀ σ' H',N σ' H'->∃ m',m' < m/\W (i+1) m' σ' H')/\∀ x H',J.yld i H x H'->g x σ H' λσ2 H2=>tb {D with nx:=N,ct:=N,bk:=D.nx} σ2 H2)
def EC(fp:List Addr)(h:Heap):List (Addr×Obj):=fp.filterMap λb=>(h.get? b).map λo=>(b,o)
variable {fp:List Addr}
theorem E4{o:Obj}(a:b∈fp)(e:h.get? b=some o):(b,o)∈EC fp h:=List.mem_filterMap.mpr ⟨b,a,by rw[e];rfl⟩
theorem Ug{p:Addr×Obj}(d:p∈EC fp h):p.1∈fp/\h.get? p.1=some p.2:=by
 obtain⟨b,c,e⟩:=List.mem_filterMap.mp d
 cases q:h.get? b with
 | none=>rw[q]at e;cases e
 | some o =>
  rw[q]at e
  have a:(b,o)=p:=YE e
  subst a
  exact⟨c,q⟩
theorem Inv.pinned(I:Inv X pins σ H s)(g:∀ b∈fp,Ce X pins H b)(i:∀ b∈fp,∃ o,s.heap.get? b=some o/\∀ v,o.data≠.cell v):Inv X (pins++EC fp s.heap) σ H s :=
 I.pins_of λp k=>(Yz.mp k).elim (λz=>I.pin p (YL _ z)) λz=>by
  obtain⟨c,e⟩:=Ug z
  obtain⟨f,h,j,_⟩:=g p.1 c
  obtain⟨o,a,d⟩:=i p.1 c
  rw[e]at a;cases a
  exact⟨e,f,h,j,d⟩
theorem Inv.unpinned{pl:List (Addr×Obj)}(I:Inv X (pins++pl) σ H s):Inv X pins σ H s:=I.pins_of λp a=>I.pin p (YL _ (YK _ a))
theorem Uh{iter:Expr}{body:List Stmt}{wi:TI}{g:TG}{tb:TS}(F:PassesOwn (model X.prog X.w) X.A X.env X.xe)(hc:X.calm=true)(hi:PI X tg iter wi)(hg:PG X tg g)(k:PSs X body tb)
  (hs:∀ x,foldedSetIterable iter X.env x=pure x:=by intro _;rfl):PS X (.For tg iter body [] pos) (Ue wi g tb):=by
 intro pins s σ H D I h
 refine wpAny_For (thn (hi pins s σ H _ I h) λv s1 h1=>thn h1 λitv s2 h2=>?_) hs
 obtain⟨it,E,Z,J,H2,e,I2,T,U,f2,W,⟨m0,w0⟩,B⟩:=h2
 subst e
 have l:∀{H':Hp},(∀ b∈E,H' b=none)->∀ b∈E,Ce X pins H' b:=λhn b k=>⟨hn b k,(f2 b k).2⟩
 refine codeAny_forLoop_any (λn s'=>∃ i σ' H',Inv X pins σ' H' s'/\Z i s'.heap/\(∀ b∈E,H' b=none)/\W i n σ' H') ?_ m0 ⟨0,σ,H2,I2,U,λb k=>(f2 b k).1,w0⟩
 rintro n s3 ⟨i,σ3,O,I3,y,L,w3⟩
 rcases B i n σ3 O w3 with⟨stop,qn⟩|⟨go,N,hN,step⟩
 ·refine wpAny_passesOwn F (thn (T.done X rfl rfl rfl hc i pins s3 σ3 O X.xe I3 (l L) y stop) λr s4 t=>?_)
  obtain⟨R,I4⟩:=t
  subst R
  exact wpAny_execs_nil ⟨σ3,O,I4,qn⟩
 ·refine wpAny_passesOwn F (thn (T.item X rfl rfl rfl hc i pins s3 σ3 O X.xe I3 (l L) y go) λr s4 q=>?_)
  obtain⟨u,R,h4⟩:=q
  subst R
  refine wpAny_passesOwn F (thn h4 λ_ s5 K=>?_)
  obtain⟨x,Y,I5,r5,y5,p,P⟩:=K
  have S:=I5.pinned (l P) (T.obj _ _ p)
  refine wpAny_passesOwn F (thn (hg _ s5 σ3 Y x u _ S r5 (step x Y y5)) λ_ s6 z=>?_)
  obtain⟨σ6,H6,I6,q6⟩:=z
  refine wpAny_passesOwn F (thn (k _ s6 σ6 H6 _ I6 q6) λf Q q7=>?_)
  have j:∀{σ7:St}{c:Hp},Inv X (pins++EC E s5.heap) σ7 c Q->N σ7 c->∃ m,m < n/\∃ i σ' H',Inv X pins σ' H' Q/\Z i Q.heap/\(∀ b∈E,H' b=none)/\W i m σ' H':=λ{σ7 c}a G=>by
   obtain⟨m',hm,w7⟩:=hN σ7 c G
   refine⟨m',hm,i+1,σ7,c,a.unpinned,T.keep _ _ _ p λb k o e=>(a.pin (b,o) (YL _ (YL _ (E4 k e)))).1,λb k=>?_,w7⟩
   obtain⟨o,e,d⟩:=T.obj _ _ p b k
   exact(a.pin (b,o) (YL _ (YL _ (E4 k e)))).2.1
  cases f with
  | next=>obtain⟨σ7,c,a,G⟩:=q7;exact j a G
  | cont=>obtain⟨σ7,c,a,G⟩:=q7;exact j a G
  | brk=>obtain⟨σ7,c,a,q7⟩:=q7;exact⟨σ7,c,a.unpinned,q7⟩
  | ret v=>obtain⟨x7,σ7,c,a,r7,q7⟩:=q7;exact⟨x7,σ7,c,a.unpinned,r7,q7⟩
end
abbrev R2:=V->V->Hp->VK->Prop
def OpR(X:Cx)(f:Value->Value->Sem Value)(r:R2):Prop :=
 ∀(pins:List (Addr×Obj))(s:Shared)(σ:St)(H:Hp)(x y:V)(v u:Value)(Q:VK),Inv X pins σ H s->RelV x v->RelV y u->r x y H Q->
  wpAny (model X.prog X.w) X.A (f v u) (EP X pins σ Q) X.xe s
def UnR(X:Cx)(f:Value->Sem Value)(r:V->Hp->VK->Prop):Prop :=
 ∀(pins:List (Addr×Obj))(s:Shared)(σ:St)(H:Hp)(x:V)(v:Value)(Q:VK),Inv X pins σ H s->RelV x v->r x H Q->
  wpAny (model X.prog X.w) X.A (f v) (EP X pins σ Q) X.xe s
def CallR(X:Cx)(f:Value)(r:List V->Hp->VK->Prop):Prop :=
 ∀(pins:List (Addr×Obj))(s:Shared)(σ:St)(H:Hp)(xs:List V)(us:List Value)(Q:VK),Inv X pins σ H s->Vals xs us->r xs H Q->
  wpAny (model X.prog X.w) X.A (call f us) (EP X pins σ Q) X.xe s
def Ui(X:Cx)(r:V->Hp->(Bool->Hp->Prop)->Prop):Prop :=
 ∀(pins:List (Addr×Obj))(s:Shared)(σ:St)(H:Hp)(x:V)(v:Value)(Q:Bool->Hp->Prop),Inv X pins σ H s->RelV x v->r x H Q->
  wpAny (model X.prog X.w) X.A (truthy v) (TP X pins σ Q) X.xe s
def tOp(r:R2)(ta tb:TE):TE:=λσ H Q=>ta σ H λx H1=>tb σ H1 λy H2=>r x y H2 Q
def tUn(r:V->Hp->VK->Prop)(ta:TE):TE:=λσ H Q=>ta σ H λx H1=>r x H1 Q
def rI(C:Int->Int->Prop)(g:Int->Int->V):R2:=λx y H Q=>∃ i j,x=.int i/\y=.int j/\C i j/\Q (g i j) H
def rI0(g:Int->Int->V):R2:=λx y H Q=>∃ i j,x=.int i/\y=.int j/\Q (g i j) H
def rU(g:Int->V):V->Hp->VK->Prop:=λx H Q=>∃ i,x=.int i/\Q (g i) H
section
variable {X:Cx} {a b c:Expr} {ta tb tc:TE} {pos:Pos}
variable {f:Value->Value->Sem Value}
theorem HX(n:PE X a ta)(o:PE X b tb){pins:List (Addr×Obj)}{σ:St}{R:V->V->Hp->Prop}(I:Inv X pins σ H s)
  (h:ta σ H λx H1=>tb σ H1 λy H2=>R x y H2) {Q:Value->Shared->Prop} 
  (k:∀ v u i x y H2,Inv X pins σ H2 i->RelV x v->RelV y u->R x y H2->wpAny (model X.prog X.w) X.A (f v u) Q X.xe i):
  wpAny (model X.prog X.w) X.A (eval a X.env) (λv d=>wpAny (model X.prog X.w) X.A (eval b X.env) (λu c=>wpAny (model X.prog X.w) X.A (f v u) Q X.xe c) X.xe d) X.xe s:=by
 refine thn (n pins s σ H _ I h) λv p g=>?_
 obtain⟨x,H1,l,r1,q1⟩:=g
 refine thn (o pins p σ H1 _ l q1) λu i e=>?_
 obtain⟨y,H2,j,m,q2⟩:=e
 exact k v u i x y H2 j r1 m q2
theorem Uj{op:Operator}{r:R2}(g:OpR X (binaryOp op) r)(i:PE X a ta)(j:PE X b tb):PE X (.BinOp a op b pos) (tOp r ta tb):=by
 intro pins s σ H Q I h
 exact wpAny_BinOp (HX i j I h λv u e x y H2 d c f q=>g pins e σ H2 x y v u Q d c f q)
theorem Uk{op:UnaryOp}{r:V->Hp->VK->Prop}(d:UnR X (unaryOp op) r)(c:PE X a ta):PE X (.UnaryOp op a pos) (tUn r ta):=by
 intro pins s σ H Q I h
 exact UnaryOp_ (thn (c pins s σ H _ I h) (by rintro v e ⟨x,H1,b,r1,q1⟩;exact d pins e σ H1 x v Q b r1 q1))
variable {g:Int->Int->Int}
theorem opI{C:Int->Int->Prop}
  (a:∀(i j:Int)(t u:Tok)(s:Shared)(Q:Value->Shared->Prop)(E:Value->Shared->Prop),C i j->Q (.int (g i j) s.toks) {s with toks:=s.toks+1}->wpAny (model X.prog X.w) X.A (f (.int i t) (.int j u)) Q E s):
  OpR X f (rI C λi j=>.int (g i j)):=by
 intro pins s σ H x y v u Q I c b h
 obtain⟨i,j,rfl,rfl,hc,q⟩:=h
 obtain⟨t,rfl⟩:=c
 obtain⟨t',rfl⟩:=b
 exact a i j t t' s _ _ hc ⟨.int (g i j),H,I.tok _,⟨_,rfl⟩,q⟩
theorem Lp
  (a:∀(i j:Int)(t u:Tok)(s:Shared)(Q:Value->Shared->Prop)(E:Value->Shared->Prop),Q (.int (g i j) s.toks) {s with toks:=s.toks+1}->wpAny (model X.prog X.w) X.A (f (.int i t) (.int j u)) Q E s):
  OpR X f (rI0 λi j=>.int (g i j)):=by
 intro pins s σ H x y v u Q I c b h
 obtain⟨i,j,rfl,rfl,q⟩:=h
 obtain⟨t,rfl⟩:=c
 obtain⟨t',rfl⟩:=b
 exact a i j t t' s _ _ ⟨.int (g i j),H,I.tok _,⟨_,rfl⟩,q⟩
theorem FV{g:Int->Int->Bool}
  (a:∀(i j:Int)(t u:Tok)(s:Shared)(Q:Value->Shared->Prop)(E:Value->Shared->Prop),Q (.bool (g i j)) s->wpAny (model X.prog X.w) X.A (f (.int i t) (.int j u)) Q E s):
  OpR X f (rI0 λi j=>.bl (g i j)):=by
 intro pins s σ H x y v u Q I c b h
 obtain⟨i,j,rfl,rfl,q⟩:=h
 obtain⟨t,rfl⟩:=c
 obtain⟨t',rfl⟩:=b
 exact a i j t t' s _ _ ⟨.bl (g i j),H,I,rfl,q⟩
theorem Ul{x y:Int}(a:0 < y)(h:y < 1267650600228229401496703205376):Builtin.divisionGoesByPylong x y=false:=by
 refine PyProof.noPylong_of_log2 ?_
 have h1:y.natAbs≠0:=by lia
 have h2:y.natAbs.log2 < 100:=(Nat.log2_lt h1).mpr (by lia)
 lia
def DO(i j:Int):Prop:=0 < j/\j < 1267650600228229401496703205376
def Dc(i j:Int):Prop:=0<=j/\j<=1000000/\i.natAbs < 2 ^ 64
def CMul(i j:Int):Prop:=(-(2 ^ 64) < i/\i < 2 ^ 64)\/(-(2 ^ 64) < j/\j < 2 ^ 64)
theorem CMul.ok{i j:Int}(h:CMul i j):IntMulOk i j:=by
 rcases h with⟨h1,h2⟩|⟨h1,h2⟩
 ·exact .of_left (intBits_le_64 h1 h2)
 ·exact .of_right (intBits_le_64 h1 h2)
theorem Um:OpR X (binaryOp .Add) (rI0 λi j=>.int (i+j)):=Lp λ_ _ _ _ _ _ _ q=>add_int q
theorem Uo:OpR X (binaryOp .Mult) (rI CMul λi j=>.int (i*j)):=opI λ_ _ _ _ _ _ _ hc q=>mul_int q hc.ok
theorem Up:OpR X (binaryOp .FloorDiv) (rI DO λi j=>.int (i / j)):=opI λi j _ _ _ _ _ hc q=>by
 have h1:(0:Int) < j:=hc.1
 have h2:j < 1267650600228229401496703205376:=hc.2
 exact floordiv_int (by lia) (by rw[Int.fdiv_eq_ediv_of_nonneg i (by lia)];exact q) (.inl (Ul h1 h2))
theorem Uq:OpR X (binaryOp .Mod) (rI (λ_ j=>0 < j) λi j=>.int (i % j)):=opI λi j _ _ _ _ _ hc q=>by
 have h1:(0:Int) < j:=hc
 exact mod_int' (by lia) (by rw[Int.fmod_eq_emod_of_nonneg i (by lia)];exact q)
theorem Ur:OpR X (binaryOp .Pow) (rI Dc λi j=>.int (i ^ j.toNat)):=opI λ_ _ _ _ _ _ _ hc q=>pow_int_small hc.1 hc.2.1 hc.2.2 q
theorem Us:OpR X (inplaceOp .Add) (rI0 λi j=>.int (i+j)):=Lp λ_ _ _ _ _ _ _ q=>iadd_int q
theorem unI{f:Value->Sem Value}{g:Int->Int}
  (a:∀(i:Int)(t:Tok)(s:Shared)(Q:Value->Shared->Prop)(E:Value->Shared->Prop),Q (.int (g i) s.toks) {s with toks:=s.toks+1}->wpAny (model X.prog X.w) X.A (f (.int i t)) Q E s):
  UnR X f (rU λi=>.int (g i)):=by
 intro pins s σ H x v Q I b h
 obtain⟨i,rfl,q⟩:=h
 obtain⟨t,rfl⟩:=b
 exact a i t s _ _ ⟨.int (g i),H,I.tok _,⟨_,rfl⟩,q⟩
theorem Ut:UnR X (unaryOp .USub) (rU λi=>.int (-i)):=unI λ_ _ _ _ _ q=>neg_int q
end
def DP:V->V->Bool
 | .non,.non=>true | .non,.int _=>true | .int _,.non=>true | .non,.bl _=>true | .bl _,.non=>true | .non,.str _=>true | .str _,.non=>true
 | .int _,.int _=>true | .bl _,.bl _=>true | .str _,.str _=>true | .byt _,.byt _=>true
 | .int _,.str _=>true | .str _,.int _=>true | .bl _,.str _=>true | .str _,.bl _=>true
 | _,_=>false
def rEq:R2:=λx y H Q=>DP x y=true/\Q (.bl (decide (x=y))) H
def rNe:R2:=λx y H Q=>DP x y=true/\Q (.bl (!decide (x=y))) H
theorem HY{i j:Int}:decide (V.int i=V.int j)=(i==j):=by
 rw[Bool.eq_iff_iff]
 simp
theorem HZ{i j:Bool}:decide (V.bl i=V.bl j)=(i==j):=by
 rw[Bool.eq_iff_iff]
 simp
theorem H9{i j:Str}:decide (V.str i=V.str j)=(i==j):=by
 rw[Bool.eq_iff_iff]
 simp
theorem Lq{i j:Array UInt8}:decide (V.byt i=V.byt j)=(i.toList==j.toList):=by
 rw[Bool.eq_iff_iff]
 cases i
 cases j
 simp
section
variable {X:Cx} {a b c:Expr} {ta tb tc:TE} {pos:Pos}
theorem AK{pins:List (Addr×Obj)}{σ:St}{Q:VK}{k a:Bool}(I:Inv X pins σ H s)(q:Q (.bl k) H)(e:k=a):EP X pins σ Q (.bool a) s:=by
 subst e
 exact⟨.bl k,H,I,rfl,q⟩
theorem Uu:OpR X (compareOp .Eq) rEq:=by
 intro pins s σ H x y v u Q I c a h
 obtain⟨b,q⟩:=h
 cases x with
 | non =>
  cases c
  cases y with
  | non=>cases a;exact PySem.EqNone.eq_none_none (AK I q (by simp))
  | bl j=>cases a;exact PySem.EqNone.eq_none_bool (AK I q (by simp))
  | int j=>obtain⟨t',rfl⟩:=a;exact PySem.EqNone.eq_none_int (AK I q (by simp))
  | str j=>obtain⟨t',rfl⟩:=a;exact PySem.EqNone.eq_none_str (AK I q (by simp))
  | _=>exact Qh (show false=true from b) YT
 | bl i =>
  cases c
  cases y with
  | non=>cases a;exact PySem.EqNone.eq_bool_none (AK I q (by simp))
  | bl j=>cases a;exact eq_bool (AK I q HZ)
  | str j=>obtain⟨t',rfl⟩:=a;exact PySem.EqMixed.eq_bool_str (AK I q (by simp))
  | _=>exact Qh (show false=true from b) YT
 | int i =>
  obtain⟨t,rfl⟩:=c
  cases y with
  | non=>cases a;exact PySem.EqNone.eq_int_none (AK I q (by simp))
  | int j=>obtain⟨t',rfl⟩:=a;exact eq_int (AK I q HY)
  | str j=>obtain⟨t',rfl⟩:=a;exact PySem.EqMixed.eq_int_str (AK I q (by simp))
  | _=>exact Qh (show false=true from b) YT
 | str i =>
  obtain⟨t,rfl⟩:=c
  cases y with
  | non=>cases a;exact PySem.EqNone.eq_str_none (AK I q (by simp))
  | bl j=>cases a;exact PySem.EqMixed.eq_str_bool (AK I q (by simp))
  | int j=>obtain⟨t',rfl⟩:=a;exact PySem.EqMixed.eq_str_int (AK I q (by simp))
  | str j=>obtain⟨t',rfl⟩:=a;exact eq_str (AK I q H9)
  | _=>exact Qh (show false=true from b) YT
 | byt i =>
  obtain⟨t,rfl⟩:=c
  cases y with
  | byt j=>obtain⟨t',rfl⟩:=a;exact PySem.W.eq_bytes (AK I q Lq)
  | _=>exact Qh (show false=true from b) YT
 | _=>cases y <;> exact Qh (show false=true from b) YT
theorem Uv:OpR X (compareOp .NotEq) rNe:=by
 intro pins s σ H x y v u Q I c a h
 obtain⟨b,q⟩:=h
 cases x with
 | non =>
  cases c
  cases y with
  | non=>cases a;exact PySem.EqNone.ne_none_none (AK I q (by simp))
  | bl j=>cases a;exact PySem.EqNone.ne_none_bool (AK I q (by simp))
  | int j=>obtain⟨t',rfl⟩:=a;exact PySem.EqNone.ne_none_int (AK I q (by simp))
  | str j=>obtain⟨t',rfl⟩:=a;exact PySem.EqNone.ne_none_str (AK I q (by simp))
  | _=>exact Qh (show false=true from b) YT
 | bl i =>
  cases c
  cases y with
  | non=>cases a;exact PySem.EqNone.ne_bool_none (AK I q (by simp))
  | bl j=>cases a;exact ne_bool (AK I q (Qf not HZ))
  | str j=>obtain⟨t',rfl⟩:=a;exact PySem.EqMixed.ne_bool_str (AK I q (by simp))
  | _=>exact Qh (show false=true from b) YT
 | int i =>
  obtain⟨t,rfl⟩:=c
  cases y with
  | non=>cases a;exact PySem.EqNone.ne_int_none (AK I q (by simp))
  | int j=>obtain⟨t',rfl⟩:=a;exact ne_int (AK I q (Qf not HY))
  | str j=>obtain⟨t',rfl⟩:=a;exact PySem.EqMixed.ne_int_str (AK I q (by simp))
  | _=>exact Qh (show false=true from b) YT
 | str i =>
  obtain⟨t,rfl⟩:=c
  cases y with
  | non=>cases a;exact PySem.EqNone.ne_str_none (AK I q (by simp))
  | bl j=>cases a;exact PySem.EqMixed.ne_str_bool (AK I q (by simp))
  | int j=>obtain⟨t',rfl⟩:=a;exact PySem.EqMixed.ne_str_int (AK I q (by simp))
  | str j=>obtain⟨t',rfl⟩:=a;exact ne_str (AK I q (Qf not H9))
  | _=>exact Qh (show false=true from b) YT
 | byt i =>
  obtain⟨t,rfl⟩:=c
  cases y with
  | byt j=>obtain⟨t',rfl⟩:=a;exact PySem.W.ne_bytes (AK I q (Qf not Lq))
  | _=>exact Qh (show false=true from b) YT
 | _=>cases y <;> exact Qh (show false=true from b) YT
theorem Uw:OpR X (compareOp .Lt) (rI0 λi j=>.bl (decide (i < j))):=FV λ_ _ _ _ _ _ _ q=>lt_int q
theorem Ux:OpR X (compareOp .LtE) (rI0 λi j=>.bl (decide (i<=j))):=FV λ_ _ _ _ _ _ _ q=>le_int q
theorem Uy:OpR X (compareOp .Gt) (rI0 λi j=>.bl (decide (j < i))):=FV λ_ _ _ _ _ _ _ q=>gt_int q
theorem Uz:OpR X (compareOp .GtE) (rI0 λi j=>.bl (decide (j<=i))):=FV λ_ _ _ _ _ _ _ q=>ge_int q
theorem UA:OpR X (compareOp .Lt) (λx y H Q=>∃ i j,x=.str i/\y=.str j/\Q (.bl (decide (i.cps.toList < j.cps.toList))) H):=by
 intro pins s σ H x y v u Q I b a h
 obtain⟨i,j,rfl,rfl,q⟩:=h
 obtain⟨t,rfl⟩:=b
 obtain⟨t',rfl⟩:=a
 exact lt_str (AK I q rfl)
theorem UB:OpR X (compareOp .Is) (λx y H Q=>y=.non/\Q (.bl (decide (x=.non))) H):=by
 intro pins s σ H x y v u Q I a b h
 obtain⟨rfl,q⟩:=h
 cases b
 refine is_none_gen (AK I q ?_)
 cases x <;> first
  |(cases a;rfl)
  |(obtain⟨t,rfl⟩:=a;rfl)
variable {r r':R2}
theorem OpR.or{f:Value->Value->Sem Value}(h:OpR X f r)(h':OpR X f r'):OpR X f (λx y H Q=>r x y H Q\/r' x y H Q):=by
 intro pins s σ H x y v u Q I b a q
 rcases q with q | q
 ·exact h pins s σ H x y v u Q I b a q
 ·exact h' pins s σ H x y v u Q I b a q
variable {op:CmpOp}
theorem fv(b:Expr)(h:op≠.In:=by decide)(h2:op≠.NotIn:=by decide):behindInMarks op b=false:=by
 have c:(op==CmpOp.In)=false:=by cases op <;> first | rfl | exact Qh rfl h
 have a:(op==CmpOp.NotIn)=false:=by cases op <;> first | rfl | exact Qh rfl h2
 cases b <;> simp[behindInMarks,c,a]
theorem UC(i:OpR X (compareOp op) r)(j:PE X a ta)(k:PE X b tb)(f:behindInMarks op b=false):PE X (.Compare a [op] [b] pos) (tOp r ta tb):=by
 intro pins s σ H Q I h
 exact wpAny_Compare1 (HX j k I h λv u e x y H2 d c g q=>i pins e σ H2 x y v u Q d c g q) f
def Lr(t:TE):TT:=λσ H Q=>t σ H λx H'=>∃ k,x=.bl k/\Q k H'
theorem UD(n:OpR X (compareOp op) r)(p:PE X a ta)(q:PE X b tb)(j:behindInMarks op b=false):PT X (.Compare a [op] [b] pos) (Lr (tOp r ta tb)):=by
 intro pins s σ H Q I h
 refine wpAny_isTrue_Compare1 (thn (p pins s σ H _ I h) λv t⟨x,H1,m,r1,q1⟩=>thn (q pins t σ H1 _ m q1) λu i⟨y,H2,l,o,q2⟩=>
  thn (n pins i σ H2 x y v u _ l r1 o q2) λc w⟨z,f,d,g,k,e,q3⟩=>?_) j
 subst e
 cases g
 exact wpAny_truthy_bool ⟨f,d,q3⟩
def Ia(r r':R2)(ta tb tc:TE):TE:=λσ H Q=>ta σ H λx H1=>tb σ H1 λy H2=>r x y H2 λz H3=>∃ k,z=.bl k/\
 (if k=true then tc σ H3 λw' H4=>r' y w' H4 Q else Q (.bl false) H3)
variable {op':CmpOp}
theorem UE(t:OpR X (compareOp op) r)(f:OpR X (compareOp op') r')(n:PE X a ta)(A:PE X b tb)(hc:PE X c tc)
  (q:lastMarks [op,op'] [b,c]=false:=by with_unfolding_all rfl):PE X (.Compare a [op,op'] [b,c] pos) (Ia r r' ta tb tc):=by
 intro pins s σ H Q I h
 refine Compare_chain (thn (n pins s σ H _ I h) λv o⟨x,H1,m,r1,q1⟩=>chain_link (thn (A pins o σ H1 _ m q1) λu B⟨y,H2,G,j,q2⟩=>
  thn (t pins B σ H2 x y v u _ G r1 j q2) λd D⟨z,i,g,p,k,e,q3⟩=>?_)) q
 subst e
 cases p
 refine wpAny_truthy_bool ?_
 cases k with
 | false=>exact ite_ff ⟨.bl false,i,g,rfl,q3⟩
 | true=>exact ite_tt (chain_last (thn (hc pins D σ i _ g q3) (by rintro E l ⟨K,w,J,F,q4⟩;exact f pins l σ w y K u E Q J j F q4)))
theorem UF(D:OpR X (compareOp op) r)(f:OpR X (compareOp op') r')(p:PE X a ta)(F:PE X b tb)(hc:PE X c tc)
  (B:lastMarks [op,op'] [b,c]=false:=by with_unfolding_all rfl):PT X (.Compare a [op,op'] [b,c] pos) (Lr (Ia r r' ta tb tc)):=by
 intro pins s σ H Q I h
 refine isTrue_chain (thn (p pins s σ H _ I h) λv q⟨x,H1,o,r1,q1⟩=>test_link (thn (F pins q σ H1 _ o q1) λu G⟨y,H2,O,j,q2⟩=>
  thn (D pins G σ H2 x y v u _ O r1 j q2) λd J⟨z,i,g,A,k,e,q3⟩=>?_)) B
 subst e
 cases A
 refine wpAny_truthy_bool ?_
 cases k with
 | false =>
  obtain⟨T,n,t⟩:=q3
  cases n
  exact ite_ff ⟨i,g,t⟩
 | true =>
  refine ite_tt (test_last (thn (hc pins J σ i _ g q3) λL l⟨S,E,R,N,q4⟩=>thn (f pins l σ E y S u L _ R j N q4) λY Z⟨U,m,w,K,k2,P,q5⟩=>?_))
  subst P
  cases K
  exact wpAny_truthy_bool ⟨m,w,q5⟩
def Ib(K:PySem.W.Frag)(x:V)(H:Hp)(k:Bool):Prop :=
 match x with
 | .non=>k=false
 | .bl b=>k=b
 | .int i=>k=(i != 0)
 | .str y=>y.length<=sizeLine/\k=((y.length:Int) != 0)
 | .byt y=>y.size<=sizeLine/\k=((y.size:Int) != 0)
 | .ref p=>(∃ xs,SqL K H p xs/\k=!xs.isEmpty)\/(∃ xs,SqT K H p xs/\k=!xs.isEmpty)\/∃ kvs,H p=some (.dK kvs)/\k=!kvs.isEmpty
 | _=>False
theorem UG{κ:Type}{a:List (κ×V)}{vs:List (κ×Value)}(r:KV a vs):(!vs.isEmpty)=!a.isEmpty:=by
 cases r <;> rfl
theorem Ls{xs:List V}{a:List Value}(r:Vals xs a):(!a.toArray.isEmpty)=!xs.isEmpty:=by
 cases r <;> simp
theorem ED:(sizeLine:Nat) < 2 ^ 63:=by rw[sizeLine_eq];decide
theorem UH:Ui X (λx H Q=>∃ k,Ib X.K x H k/\Q k H):=by
 intro pins s σ H x v Q I f h
 obtain⟨k,e,q⟩:=h
 have hl:=ED
 have u:sizeLine=16777216:=sizeLine_eq
 cases x with
 | non =>
  cases f
  have a:k=false:=e
  subst a
  exact truthy_none ⟨H,I,q⟩
 | bl b =>
  cases f
  have a:k=b:=e
  subst a
  exact wpAny_truthy_bool ⟨H,I,q⟩
 | int i =>
  obtain⟨t,rfl⟩:=f
  have a:k=(i != 0):=e
  subst a
  exact PySem.P.truthy_int ⟨H,I,q⟩
 | str y =>
  obtain⟨t,rfl⟩:=f
  obtain⟨n,a⟩:y.length<=sizeLine/\k=((y.length:Int) != 0):=e
  subst a
  exact PySem.P.truthy_str (by lia) ⟨H,I.tok _,q⟩
 | byt y =>
  obtain⟨t,rfl⟩:=f
  obtain⟨n,a⟩:y.size<=sizeLine/\k=((y.size:Int) != 0):=e
  subst a
  exact PySem.W.truthy_bytes (by lia) ⟨H,I.tok _,q⟩
 | ref p =>
  cases f
  have a:(∃ xs,SqL X.K H p xs/\k=!xs.isEmpty)\/(∃ xs,SqT X.K H p xs/\k=!xs.isEmpty)\/∃ c,H p=some (.dK c)/\k=!c.isEmpty:=e
  rcases a with⟨xs,g,a⟩|⟨xs,g,a⟩|⟨c,g,a⟩
  ·subst a
   obtain⟨j,r,pl,l⟩:=I.list g
   have d:=r.length
   exact wpAny_truthy_list pl.isList (by simp only[Yn];lia) ⟨H,I.tok _,by rw[Ls r];exact q⟩
  ·subst a
   obtain⟨j,r,pl,l⟩:=I.tuple g
   have d:=r.length
   exact truthy_tuple pl (by simp only[Yn];lia) ⟨H,I.tok _,by rw[Ls r];exact q⟩
  ·subst a
   obtain⟨l,o,vs,r,m⟩:c.length<=sizeLine/\(p==sysModules)=false/\∃ vs,KV c vs/\s.heap.DictOf (BH X.prog X.w) p vs:=I.hok p _ g
   have d:c.length=vs.length:=Paired.length r
   exact wpAny_truthy_dict o m (by lia) ⟨H,I.tok _,by rw[UG r];exact q⟩
 | _=>exact(show False from e).elim
theorem UI(e:PE X a ta)(c:∀ b,isTrue a X.env b=(do let v <- b;standAt a.pos;holding [v] (truthy v))):
  PT X a (λσ H Q=>ta σ H λx H'=>∃ k,Ib X.K x H' k/\Q k H'):=by
 intro pins s σ H Q I h
 exact isTrue_plain (thn (e pins s σ H _ I h) (by rintro v f ⟨x,H1,d,r1,q1⟩;exact UH pins f σ H1 x v Q d r1 q1)) (c _)
theorem UJ:OpR X (binaryOp .Add) (λx y H Q=>∃ i j,x=.str i/\y=.str j/\i.length+j.length<=sizeLine/\Q (.str (i++j)) H):=by
 intro pins s σ H x y v u Q I c b h
 obtain⟨i,j,rfl,rfl,a,q⟩:=h
 obtain⟨t,rfl⟩:=c
 obtain⟨t',rfl⟩:=b
 exact add_str (λt' tk=>⟨.str (i++j),H,I.tok _,⟨_,rfl⟩,q⟩) a
theorem UK:OpR X (inplaceOp .Add) (λx y H Q=>∃ i j,x=.str i/\y=.str j/\i.length+j.length<=sizeLine/\Q (.str (i++j)) H):=by
 intro pins s σ H x y v u Q I c b h
 obtain⟨i,j,rfl,rfl,a,q⟩:=h
 obtain⟨t,rfl⟩:=c
 obtain⟨t',rfl⟩:=b
 exact iadd_str (λt' tk=>⟨.str (i++j),H,I.tok _,⟨_,rfl⟩,q⟩) a
theorem Dd(r:Vals [x] us):∃ u,us=[u]/\RelV x u:=by
 cases r with
 | cons r1 a=>cases a;exact⟨_,rfl,r1⟩
theorem Ic{y:V}(r:Vals [x,y] us):∃ u a,us=[u,a]/\RelV x u/\RelV y a:=by
 cases r with
 | cons r1 d =>
  cases d with
  | cons c b=>cases b;exact⟨_,_,rfl,r1,c⟩
def Lu(K:PySem.W.Frag)(x:V)(H:Hp)(n:Nat):Prop :=
 match x with
 | .str y=>y.length<=sizeLine/\n=y.length
 | .byt y=>y.size<=sizeLine/\n=y.size
 | .ref p=>(∃ xs,SqL K H p xs/\n=xs.length)\/∃ xs,SqT K H p xs/\n=xs.length
 | _=>False
theorem UL:CallR X (.builtin "len") (λxs H Q=>∃ x n,xs=[x]/\Lu X.K x H n/\Q (.int n) H):=by
 intro pins s σ H xs k Q I r h
 obtain⟨x,n,rfl,e,q⟩:=h
 obtain⟨u,rfl,c⟩:=Dd r
 have hl:=ED
 have j:sizeLine=16777216:=sizeLine_eq
 cases x with
 | str y =>
  obtain⟨t,rfl⟩:=c
  obtain⟨g,b⟩:y.length<=sizeLine/\n=y.length:=e
  subst b
  exact len_str (by lia) ⟨.int _,H,I.tok _,⟨_,rfl⟩,q⟩
 | byt y =>
  obtain⟨t,rfl⟩:=c
  obtain⟨g,b⟩:y.size<=sizeLine/\n=y.size:=e
  subst b
  exact PySem.W.len_bytes (by lia) ⟨.int _,H,I.tok _,⟨_,rfl⟩,q⟩
 | ref p =>
  cases c
  have b:(∃ xs,SqL X.K H p xs/\n=xs.length)\/∃ xs,SqT X.K H p xs/\n=xs.length:=e
  rcases b with⟨xs,d,b⟩|⟨xs,d,b⟩
  ·subst b
   obtain⟨f,r',pl,i⟩:=I.list d
   have a:=r'.length
   exact Calls.call_len_list pl.isList (by simp only[Yn];lia) ⟨.int xs.length,H,I.tok _,⟨_,by simp only[Yn];rw[a]⟩,q⟩
  ·subst b
   obtain⟨f,r',pl,i⟩:=I.tuple d
   have a:=r'.length
   exact len_tuple pl (by simp only[Yn];lia) ⟨.int xs.length,H,I.tok _,⟨_,by simp only[Yn];rw[a]⟩,q⟩
 | _=>exact(show False from e).elim
end
section
variable {prog:Program} {w:World} {A:Around} {E:Value->Shared->Prop} {s:Shared} {K:PySem.W.Frag} {x dx C f:Addr} {mA:Str->Option Value} {name:Str} {v:Value}
end
section
variable {P:Program} {w:World} {H H':Hp} {h h':Heap} {a C dx:Addr} {fs fs':List (Str×V)}
end
structure Cls(K:PySem.W.Frag)(C:Addr):Prop where
 pg:PySem.W.plainGet K C Str.empty=true
 hd:PySem.W.hasDictIn K C=true
 po:PySem.W.plainOver K C=true
 sa:PySem.W.findIn K (.ref C) "__setattr__"=some (some (.builtin "object.__setattr__"))
theorem Cls.get{C:Addr}(c:Cls K C)(f:Str):PySem.W.plainGet K C f=true:=c.pg
structure UM(K:PySem.W.Frag)(C:Addr)(m:Str)(f:Addr):Prop where
 at_:PySem.W.findIn K (.ref C) m=some (some (.ref f))
 fn:PySem.W.isFn K (.ref f)=true
 kp:PySem.W.keepIn K (.ref f)=true
section
variable {X:Cx} {pins:List (Addr×Obj)} {σ:St} {H:Hp} {s:Shared} {a C dx:Addr} {fs:List (Str×V)} {f:Str} {v:V} {A:Around} {E:Value->Shared->Prop}
theorem Inv.made(I:Inv X pins σ H s):Inv X pins σ (upd (upd H s.heap.objs.size (.own (s.heap.objs.size+1))) (s.heap.objs.size+1) (.ins C s.heap.objs.size []))
  {s with heap:=(s.heap.push PySem.W.emptyDict).push (PySem.W.instObj C s.heap.objs.size)}:=by
 have c:(s.heap.push PySem.W.emptyDict).get? s.heap.objs.size=some PySem.W.emptyDict:=Qm s.heap rfl
 have h:((s.heap.push PySem.W.emptyDict).push (PySem.W.instObj C s.heap.objs.size)).get? (s.heap.objs.size+1)=some (PySem.W.instObj C s.heap.objs.size):=by
  have:=Qm (s.heap.push PySem.W.emptyDict) (o:=PySem.W.instObj C s.heap.objs.size) rfl
  rwa [Qn]at this
 have g:(s.heap.push PySem.W.emptyDict).Ns s.heap.objs.size (λ_=>none):=⟨PySem.W.emptyDict,#[],_,c,rfl,(λe d=>Qh d (by simp)),λ_=>rfl⟩
 have f:=I.laid (a:=s.heap.objs.size) (o:=.own (s.heap.objs.size+1)) (h':=s.heap.push PySem.W.emptyDict) (t':=s.toks) (λb u q=>Qk _ q) (Yr _) ⟨_,c⟩
 refine f.laid (a:=s.heap.objs.size+1) (o:=.ins C s.heap.objs.size []) (t':=s.toks) (λb u q=>Qk _ q) (Nat.le_of_eq (Qn _ _)) ?_
 have ne:s.heap.objs.size≠s.heap.objs.size+1:=Ys (Nat.lt_succ_self _)
 refine⟨by rw[AN ne,BA],YU _,ne,h,λ_=>none,(Heap.Ns1.of_empty g).at λo q=>Qk _ q,λ_=>True.intro,λy i=>Qh rfl i⟩
end
section
variable {X:Cx} {o e value:Expr} {f:Str} {pos pos' tpos:Pos} {ta tv:TE}
def Bi:V->V->Hp->VK->Prop:=λx y H Q=>∃ i j,x=.int i/\y=.int j/\Q (.int (i+j)) H
end
section
variable {X:Cx} {pins:List (Addr×Obj)} {σ:St} {H:Hp} {s:Shared} {A:Around} {E:Value->Shared->Prop} {Q:Value->Shared->Prop} {c:Value} {b:Bool}
end
structure Room(k:Nat)(A:Around):Prop where
 hd:A.handled=none
 dp:A.depth+3*k+5 < recursionLimit
 un:A.units+16*k+200 < cLine
variable {j k:Nat}
theorem Room.mono(r:Room k A)(h:j<=k):Room j A:=⟨r.hd,by have:=r.dp;lia,by have:=r.un;lia⟩
theorem Room.deeper(r:Room (k+1) A)(env:Env):Room k (A.deeper env):=
 ⟨r.hd,by have:=r.dp;show A.depth+1+3*k+5 < _;lia,by have:=r.un;show A.units+3+16*k+200 < _;lia⟩
theorem Room.in1(r:Room (k+1) A):Room k A.in1 :=
 ⟨r.hd,by have:=r.dp;show A.depth+3*k+5 < _;lia,by have:=r.un;show A.units+1+16*k+200 < _;lia⟩
theorem Room.depth(r:Room k A):A.depth < recursionLimit:=by have:=r.dp;lia
theorem Room.units(r:Room k A):A.units+64 < cLine:=by have:=r.un;lia
def EE:TA:=λ_ H Q=>Q [] H
def De(ta:TE)(tr:TA):TA:=λσ H Q=>ta σ H λx H1=>tr σ H1 λxs H2=>Q (x::xs) H2
section
variable {X:Cx} {e:Expr} {es:List Expr} {te:TE} {t:TA} {pos:Pos}
theorem E5:PA X [] EE:=λ_ _ _ _ H Q I h=>Calls.spliced_nil ⟨[],H,I,.nil,h⟩
theorem DQ(i:PE X e te)(j:PA X es t)(b:starEach (e::es) X.env=(false,eval e X.env)::starEach es X.env:=by rfl):PA X (e::es) (De te t):=by
 intro pos pins s σ H Q I h
 rw[b]
 show wpAny _ _ (spliced ((false,eval e X.env)::backTo pos (starEach es X.env))) _ _ s
 refine Calls.spliced_cons (thn (i pins s σ H _ I h) λu f a=>?_)
 obtain⟨x,H1,d,r1,q1⟩:=a
 exact thn (j pos pins f σ H1 _ d q1) (by rintro l k ⟨xs,H2,c,g,q2⟩;exact⟨x::xs,H2,c,.cons r1 g,q2⟩)
def UN(t:TA):TE:=λσ H Q=>t σ H λxs H1=>xs.length<=sizeLine/\∀ p,H1 p=none->Q (.ref p) (upd H1 p (.tup xs))
def UO(t:TA):TE:=λσ H Q=>t σ H λxs H1=>xs.length<=sizeLine/\∀ p,H1 p=none->Q (.ref p) (upd H1 p (.lst xs))
theorem UP{x1}(h:PA X es t):PE X (.Tuple es x1 pos) (UN t):=by
 intro pins s σ H Q I d
 refine wpAny_Tuple_spliced (thn (h pos pins s σ H _ I d) λg a⟨xs,H1,c,r,z,q⟩=>⟨by rw[<- r.length];exact z,?_⟩)
 have f:H1 a.heap.objs.size=none:=c.hok.fresh (Yr _)
 refine⟨.ref a.heap.objs.size,upd H1 a.heap.objs.size (.tup xs),c.laid (t':=a.toks) (λb u e=>Qk _ e) (Yr _) ?_,rfl,q _ f⟩
 exact⟨z,g,r,⟨_,Qm _ rfl,rfl,rfl,_,rfl⟩⟩
theorem UQ(h:PA X es t):PE X (.List es pos) (UO t):=by
 intro pins s σ H Q I d
 refine wpAny_List_spliced (thn (h pos pins s σ H _ I d) λg a⟨xs,H1,c,r,z,q⟩=>⟨by rw[<- r.length];exact z,?_⟩)
 have f:H1 a.heap.objs.size=none:=c.hok.fresh (Yr _)
 refine⟨.ref a.heap.objs.size,upd H1 a.heap.objs.size (.lst xs),c.laid (t':=a.toks) (λb u e=>Qk _ e) (Yr _) ?_,rfl,q _ f⟩
 exact⟨z,g,0,r,Qm _ rfl⟩
end
abbrev Sp:=List V->Hp->VK->XK->Prop
abbrev CXT:=List Env->Hp->Shared->XK->Value->Shared->Prop
structure Env0(P:Program)(w:World)(K:PySem.W.Frag)(mg:Str->Option Value)(base:Heap)(A:Around)(outer:List Env)(s:Shared)(H:Hp):Prop where
 frames:A.frames=some outer
 mod:Mod K mg base
 bs:∀ b o,base.get? b=some o->s.heap.get? b=some o/\H b=none
 bsz:base.objs.size<=s.heap.objs.size
 funs:s.heap.FunFrames base outer
 frf:∀ b∈frs outer,H b=none
 hok:HOk P w H s.heap
 bare:AllBare s.gens
def CE(outer:List Env)(P:Program)(w:World)(H:Hp)(s:Shared)(Q:VK)(u:Value)(s':Shared):Prop :=
 ∃ v H',s'.os=s.os/\AllBare s'.gens/\Un (frs outer) [] H H' s.heap s'.heap/\HOk P w H' s'.heap/\RelV v u/\Q v H'
def CR(CX:CXT)(outer:List Env)(P:Program)(w:World)(H:Hp)(s:Shared)(Q:VK)(E:XK)(r:Result)(s':Shared):Prop :=
 match r with
 | .ok (.ret u)=>CE outer P w H s Q u s'
 | .ok _=>False
 | .error e=>CX outer H s E e s'
structure FnOk(P:Program)(w:World)(K:PySem.W.Frag)(mg:Str->Option Value)(base:Heap)(CX:CXT)(k:Nat)(f:Addr)(fd:FuncData)(ps:List Str)(sp:Sp):Prop where
 len:∀ vs H Q E,sp vs H Q E->vs.length=ps.length
 run:∀(A:Around)(outer:List Env)(s:Shared)(H:Hp)(args:Args)(us:List Value)(vs:List V)(Q:VK)(E:XK),Room k A->Env0 P w K mg base A outer s H->BindsTo s fd args (ps.zip us)->Vals vs us->sp vs H Q E->
  codeAny (model P w) A (.call (.ref f) args) (CR CX outer P w H s Q E) s
variable {mg:Str->Option Value}{base:Heap}{CX:CXT}{f:Addr}{fd:FuncData}{ps:List Str}{sp:Sp}
theorem FnOk.mono(F:FnOk P w K mg base CX j f fd ps sp)(h:j<=k):
  FnOk P w K mg base CX k f fd ps sp:=⟨F.len,λA outer s H a c vs Q E b=>F.run A outer s H a c vs Q E (b.mono h)⟩
variable {outer:List Env}
theorem Env0.in1(e:Env0 P w K mg base A outer s H):
  Env0 P w K mg base A.in1 outer s H:=⟨e.frames,e.mod,e.bs,e.bsz,e.funs,e.frf,e.hok,e.bare⟩
section
variable {X:Cx} {pins:List (Addr×Obj)} {σ:St} {H:Hp} {s s':Shared}
theorem Inv.env0(I:Inv X pins σ H s):Env0 X.prog X.w X.K X.mg X.base X.A X.stack s H :=
 ⟨I.ok.frames,I.ok.mod,I.bs,Yt I.ok.bsz I.sz,I.stack,I.stkFree,I.hok,I.bare⟩
theorem Inv.after{Q:VK}(I:Inv X pins σ H s)(h:CE X.stack X.prog X.w H s Q u s'):EP X pins σ Q u s':=by
 obtain⟨v,H',os,bare,un,hok,r,q⟩:=h
 obtain⟨c,g,d,t,a⟩:=s'
 obtain rfl:a=s.os:=os
 exact⟨v,H',I.call (h':=c) (g':=g) (d':=d) (t':=t) (ch:=[]) un hok bare (λb z=>Qh z (by simp)),r,q⟩
end
def UR(sp:Sp)(dvs:List V)(E:XK)(t:TA):TE:=λσ H Q=>t σ H λvs H1=>sp (vs++dvs) H1 Q E
def Binds(K:PySem.W.Frag)(fd:FuncData)(ps:List Str)(ds:List Value):Prop :=
 ∀(s:Shared)(us:List Value),K.In s.heap->(us++ds).length=ps.length->BindsTo s fd ⟨us,[]⟩ (ps.zip (us++ds))
theorem Binds.all(h:∀ us:List Value,us.length=ps.length->bindArgs fd ⟨us,[]⟩=pure (ps.zip us)):Binds K fd ps []:=λs us _ hl=>by
 rw[Yx]at hl ⊢
 exact .of_eq (h us hl)
def US(CX:CXT)(X:Cx)(E:XK):Prop:=∀(pins:List (Addr×Obj))(σ:St)(H:Hp)(s:Shared)(e:Value)(s':Shared),Inv X pins σ H s->CX X.stack H s E e s'->X.xe e s'
section
variable {X:Cx} {CX:CXT} {k:Nat} {f C:Addr} {fd:FuncData} {ps:List Str} {sp:Sp} {dvs:List V} {ds:List Value} {E:XK} {x m:Str} {p pos apos:Pos} {e o:Expr} {es:List Expr} {ta:TE} {t:TA}
end
section
variable {X:Cx} {CX:CXT} {k:Nat} {f C:Addr} {fd:FuncData} {ps ks:List Str} {sp:Sp} {E:XK} {x m:Str} {p pos apos kpos:Pos} {e o:Expr} {es:List Expr} {kws:List Keyword} {te ta:TE} {t tk:TA} {nm:Option Str}
variable {g:List Value->List Value->List Value} {gV:List V->List V->List V}
end
structure Ay(N P:List Str)(sc:Scope):Prop where
 kind:sc.kind=.function
 co:sc.isCoroutine=false
 gen:sc.isGenerator=false
 nd:N.Nodup
 pre:N.take P.length=P
 par:∀ x∈P,sc.names.lookup x=some .local\/sc.names.lookup x=some .cell
 nofree:∀ y∈sc.names,y.2≠.free
theorem Lv{kindOf:Str->Option NameKind}{x:Str}:∀{binds:List (Str×Value)}{m:Str->Option Value},(∀ v,(x,v)∉binds)->bindL kindOf binds m x=m x
 | [],_,_=>rfl
 |(n,v)::r,m,h=>by
  unfold bindL
  rw[Lv λw hw=>h w (Yd _ hw)]
  split
  ·have:x≠n:=by rintro rfl;exact h v Ye
   simp[this]
  ·rfl
theorem Lw{kindOf:Str->Option NameKind}{x:Str}:∀{binds:List (Str×Value)}{m:Str->Option Value},(∀ v,(x,v)∉binds)->bindC kindOf binds m x=m x
 | [],_,_=>rfl
 |(n,v)::r,m,h=>by
  unfold bindC
  rw[Lw λw hw=>h w (Yd _ hw)]
  split
  ·rfl
  ·have:x≠n:=by rintro rfl;exact h v Ye
   simp[this]
theorem Lx{kindOf:Str->Option NameKind}{x:Str}{v:Value}:∀{P:List Str}{vs:List Value}{i:Nat}{m:Str->Option Value},P.Nodup->P[i]?=some x->vs[i]?=some v->kindOf x=some .local->
  bindL kindOf (P.zip vs) m x=some v
 | [],_,_,_,_,h,_,_=>by simp at h
 | _::_,[],_,_,_,_,h,_=>by simp at h
 | p::P,w::vs,0,m,nd,h1,h2,a=>by
  simp at h1 h2;subst h1;subst h2
  show bindL kindOf ((p,w)::P.zip vs) m p=_
  unfold bindL
  rw[Lv λv b=>(YR.mp nd).1 (List.of_mem_zip b).1,if_pos a]
  simp
 | p::P,w::vs,i+1,m,nd,h1,h2,a=>by
  show bindL kindOf ((p,w)::P.zip vs) m x=_
  unfold bindL
  exact Lx (i:=i) (YR.mp nd).2 (by simpa using h1) (by simpa using h2) a
theorem Ly{kindOf:Str->Option NameKind}{x:Str}{v:Value}:∀{P:List Str}{vs:List Value}{i:Nat}{m:Str->Option Value},P.Nodup->P[i]?=some x->vs[i]?=some v->kindOf x≠some .local->
  bindC kindOf (P.zip vs) m x=some v
 | [],_,_,_,_,h,_,_=>by simp at h
 | _::_,[],_,_,_,_,h,_=>by simp at h
 | p::P,w::vs,0,m,nd,h1,h2,a=>by
  simp at h1 h2;subst h1;subst h2
  show bindC kindOf ((p,w)::P.zip vs) m p=_
  unfold bindC
  rw[Lw λv b=>(YR.mp nd).1 (List.of_mem_zip b).1,if_neg a]
  simp
 | p::P,w::vs,i+1,m,nd,h1,h2,a=>by
  show bindC kindOf ((p,w)::P.zip vs) m x=_
  unfold bindC
  exact Ly (i:=i) (YR.mp nd).2 (by simpa using h1) (by simpa using h2) a
def BI(N:List Str)(vs:List V):St:=vs.map some++List.replicate (N.length - vs.length) none
def AW(CX:CXT)(P:Program)(w:World)(K:PySem.W.Frag)(mg:Str->Option Value)(base:Heap)(N:List Str)(qual:Str)(scope:Scope)(f:Addr)(cd:Value)(A:Around)(outer:List Env)(s:Shared)(H:Hp)(E:XK):Cx where
 prog:=P
 w:=w
 K:=K
 mg:=mg
 base:=base
 A:=A.deeper (envOfC qual scope s.heap.objs.size f cd)
 N:=N
 s₀:=s
 H₀:=H
 env:=envOfC qual scope s.heap.objs.size f cd
 outer:=outer
 stack:=envOfC qual scope s.heap.objs.size f cd::outer
 ex:=[]
 calm:=true
 fn:=λ_=>true
 pn:=[]
 xe:=λe s'=>wpAny (model P w) (A.deeper (envOfC qual scope s.heap.objs.size f cd)) (leaving (envOfC qual scope s.heap.objs.size f cd) e) (λ_ s''=>CX outer H s E e s'') (λe' s''=>CX outer H s E e' s'') s'
theorem Ie{a:Scope}{n:Nat}{x:Str}(h:a.names.lookup x=some .cell):∃ c,(cellsFrom n a.names []).lookup x=some c:=by
 have q:=PySem.W.cellsFrom_some a.names n [] (.inl h)
 exact Option.isSome_iff_exists.mp q
variable {N:List Str}{qual:Str}{scope:Scope}
theorem Lz{cd:Value}{t:Shared}{E:XK}{vs:List V}
  (S:Ay N ps scope) (hd:A.handled=none) (d:Env0 P w K mg base A outer s H) (hl:vs.length=ps.length) (r:Vals vs us)
  (x:InCallC s s.heap.objs.size (bindL (envOfC qual scope s.heap.objs.size f cd).kindOf (ps.zip us) λ_=>none) (cellsFrom (s.heap.objs.size+1) scope.names []) (bindC (envOfC qual scope s.heap.objs.size f cd).kindOf (ps.zip us) λ_=>none) t):
  Inv (AW CX P w K mg base N qual scope f cd A outer s H E) [] (BI N vs) H t:=by
 have F:ps.length<=N.length:=by have:=Qf List.length S.pre;rw[List.length_take]at this;lia
 obtain⟨h1,tk,rfl,B⟩:=x.done
 have g:∀ b:Addr,b∉(AW CX P w K mg base N qual scope f cd A outer s H E).ex:=λb z=>Qh (show b∈([]:List Addr)from z) (by simp)
 refine⟨⟨d.mod,S.kind,rfl,rfl,Yr _,λy z c h1 h2=>?_,λy j=>?_,λy c _ h=>?_,λ_=>hd,Around.frames_deeper d.frames,.inr ⟨rfl,rfl⟩,λb z=>Qh z (g b),d.bs,d.bsz,λb _ _=>g b,λb z=>Qh z (g b),d.funs,d.frf⟩,
  rfl,d.bare,Un.kept B,⟨_,x.toInCall.ns,λi y v h1 h2 I=>?_⟩,λy c h=>⟨_,x.cell y c h⟩,d.hok.fresh (Yr _),λy c h=>?_,λp m=>Qh (show p∈([]:List (Addr×Obj))from m) (by simp),d.hok.kept B,?_⟩
 ·exact name_of_addr x.apart (PySem.mem_of_lookup h1) (PySem.mem_of_lookup h2)
 ·have j:scope.names.lookup y=some .cell\/scope.names.lookup y=some .free:=j
  rcases j with j | j
  ·exact Ie j
  ·exact Qh rfl (S.nofree _ (PySem.mem_of_lookup j))
 ·exact Nat.le_of_lt (x.above y c (PySem.mem_of_lookup h))
 ·have hi:i < vs.length:=by
   unfold BI at h2
   by_cases hi:i < vs.length
   ·exact hi
   ·rw[List.getElem?_append_right (by simpa using hi)]at h2
    rw[List.getElem?_replicate]at h2
    split at h2 <;> cases h2
  have G:vs[i]?=some v:=by
   unfold BI at h2
   rw[YI (by simpa using hi),YN]at h2
   cases e:vs[i]? with
   | none=>rw[e]at h2;cases h2
   | some a=>rw[e]at h2;cases h2;rfl
  obtain⟨u,o,D⟩:=r.get G
  have m:ps[i]?=some y:=by
   rw[<- S.pre,List.getElem?_take_of_lt (by lia)];exact h1
  have l:ps.Nodup:=by rw[<- S.pre];exact S.nd.sublist (List.take_sublist _ _)
  refine⟨u,D,?_⟩
  rcases S.par y (List.mem_of_getElem? m)with k | k
  ·exact .inl ⟨k,Lx l m o k⟩
  ·obtain⟨c,e⟩:=Ie (n:=s.heap.objs.size+1) k
   refine .inr ⟨.inl k,c,e,?_⟩
   have q:=x.cell y c e
   rw[Ly l m o (by show scope.names.lookup y≠_;rw[k];decide)]at q
   exact q
 ·exact d.hok.fresh (Nat.le_of_lt (x.above y c (PySem.mem_of_lookup h)))
 ·unfold BI
  show _=N.length
  rw[Yj,Yh,List.length_replicate]
  lia
theorem E6{name:Str}{params:Arguments}{body:List Stmt}{F kV h pm cdv ct oc:Value}{G O:Option Addr}
  {B:Array (Option Value)}   (lk:K.lookup f=some ⟨oc,O,.func (PySem.W.fnOf name qual params body scope F kV h pm G cdv ct),B⟩) (m:PySem.W.codeIn K cdv qual=true) (S:Ay N ps scope)
  (len:∀ vs H Q E,sp vs H Q E->vs.length=ps.length)
  (a:∀(A:Around)(outer:List Env)(s:Shared)(H:Hp)(vs:List V)(Q:VK)(E:XK),Room k (A.deeper (envOfC qual scope s.heap.objs.size f cdv))->sp vs H Q E->
   ∃ t,PSs (AW CX P w K mg base N qual scope f cdv A outer s H E) body t/\t {nx:=λ_ H'=>Q .non H',rt:=Q} (BI N vs) H):
  FnOk P w K mg base CX (k+1) f (PySem.W.fnOf name qual params body scope F kV h pm G cdv ct) ps sp:=by
 refine⟨len,λA outer s H L T vs Q E z j Y r i=>?_⟩
 have hl:=len _ _ _ _ i
 have KX:K.In s.heap:=j.mod.kin.keeps λb o e=>(j.bs b o e).1
 have p:s.heap.NoLimit:=j.mod.nolimit.keeps λb o e=>(j.bs b o e).1
 have c:∀ y∈ps.zip T,scope.names.lookup y.1=some .local\/(scope.names.lookup y.1=some .cell/\((cellsFrom (s.heap.objs.size+1) scope.names []).lookup y.1).isSome=true):=by
  rintro⟨n,v⟩ R
  rcases S.par n (List.of_mem_zip R).1 with q | q
  ·exact .inl q
  ·exact .inr ⟨q,PySem.W.cellsFrom_some _ _ _ (.inl q)⟩
 refine codeAny_call_function z.depth (KX _ _ lk) rfl S.co S.gen rfl (PySem.W.codeRec_of KX m) (Y _ _ _ _ ?_)
 refine wpAny_newFunctionEnv_cells S.kind c λenv Z D x=>?_
 subst Z
 refine⟨p.keeps x.toInCall.keep,codeAny_func ?_⟩
 obtain⟨t,ht,U⟩:=a A outer s H vs Q E (z.deeper _) i
 have I:Inv (AW CX P w K mg base N qual scope f cdv A outer s H E) [] (BI N vs) H D:=Lz S z.hd j hl r x
 refine wpAny_mono (ht [] D (BI N vs) H _ I U) (λX s' d=>?_) λe s' d=>d
 have g:∀{σ':St}{H':Hp}{v:V}{u:Value},Inv (AW CX P w K mg base N qual scope f cdv A outer s H E) [] σ' H' s'->RelV v u->Q v H'->CE outer P w H s Q u s' :=
  λ{σ' H' v u}J l q=>⟨v,H',J.os,J.bare,J.base,J.hok,l,q⟩
 cases X with
 | ret u =>
  obtain⟨v,σ',H',J,l,q⟩:=d
  exact g J l q
 | next =>
  obtain⟨σ',H',J,q⟩:=d
  exact g (v:=V.non) (u:=Value.none) J rfl q
 | brk =>
  obtain⟨_,_,_,q⟩:=d
  exact Qd q
 | cont =>
  obtain⟨_,_,_,q⟩:=d
  exact Qd q
section
variable {X:Cx} {x:Str} {p pos:Pos} {e:Expr} {es:List Expr} {t:TA} {id T:String} {r:List V->Hp->VK->Prop}
def tCB(r:List V->Hp->VK->Prop)(t:TA):TE:=λσ H Q=>t σ H λvs H1=>r vs H1 Q
theorem UT(hc:CallR X (.builtin id) r)(d:Gl X x)(g:X.mg x=none)(f:bootBuiltins x=some (.builtin id))(k:PA X (e::es) t)(j:x≠"__name__":=by decide)(a:(x==("__debug__":Str))=false:=by decide)
  (c:starEach (e::es) X.env=(false,eval e X.env)::starEach es X.env:=by rfl) (b:(backTo pos (starEach es X.env)).any (·.1)=false:=by rfl):PE X (.Call (.Name x p) (e::es) [] pos) (tCB r t):=by
 intro pins s σ H Q I h
 refine wpAny_Call_Name_kw (DM I d g f ?_ j a)
 exact PyProof.Rows.callWith_builtin1 (thn (k pos pins s σ H _ I h) (by rintro m l ⟨vs,H1,i,r1,q1⟩;exact hc pins l σ H1 vs m Q i r1 q1)) c b
theorem UU(hc:CallR X (.type T) r)(d:Gl X x)(g:X.mg x=none)(f:bootBuiltins x=some (.type T))(k:PA X (e::es) t)(j:x≠"__name__":=by decide)(a:(x==("__debug__":Str))=false:=by decide)
  (c:starEach (e::es) X.env=(false,eval e X.env)::starEach es X.env:=by rfl) (b:(backTo pos (starEach es X.env)).any (·.1)=false:=by rfl):PE X (.Call (.Name x p) (e::es) [] pos) (tCB r t):=by
 intro pins s σ H Q I h
 refine wpAny_Call_Name_kw (DM I d g f ?_ j a)
 exact Qb (thn (k pos pins s σ H _ I h) (by rintro m l ⟨vs,H1,i,r1,q1⟩;exact hc pins l σ H1 vs m Q i r1 q1)) c b
end
end L2
namespace HT
open PySem PyProof.Rows
section
open PySem.SeqAt
open PySem.AutoSeq1 (wpAny_loadPart')
open PySem.MeetsSeq PySem.MeetsSeq2 PySem.MeetsSeq3
end
section
variable {prog:Program} {w:World} {A:Around} {E:Value->Shared->Prop} {s:Shared}
variable {t:Addr}{Q:Value->Shared->Prop}
theorem cat_tup{b:Addr}{vs a:List Value}(r:IsTup s.heap t vs.toArray)(u:IsTup s.heap b a.toArray)(l:vs≠[])
  (h1:a=[]->Q (.ref t) s) (h2:a≠[]->Q (.ref s.heap.objs.size) {s with heap:=s.heap.push {cls:=.type "tuple",data:=.seq (vs++a).toArray}})
  (k:vs.length+a.length<=sizeLine):wpAny (model prog w) A (binaryOp .Add (.ref t) (.ref b)) Q E s:=by
 obtain⟨⟨cls,p,data,o⟩,i,hc,n,hd⟩:=id r
 obtain⟨⟨q,h,j,g⟩,c,d,m,f⟩:=id u
 simp only at hc hd d f
 subst hc hd d f
 have e:vs.toArray++a.toArray=(vs++a).toArray:=by simp
 by_cases hw:a=[]
 ·exact concat_meets ⟨_,i,rfl⟩ ⟨_,c,rfl⟩ noFill_tuple_add seq_tuple_add PySem.F.slot_tuple_add PySem.F.entry_tuple_add (PySem.F.args_tuple_add_2 _ _)
   (tuple_addW1 t b vs.toArray a.toArray n m p h o g (by simpa using l) (by simp[hw])) ⟨i,c,h1 hw⟩
 ·refine concat_meets ⟨_,i,rfl⟩ ⟨_,c,rfl⟩ noFill_tuple_add seq_tuple_add PySem.F.slot_tuple_add PySem.F.entry_tuple_add (PySem.F.args_tuple_add_2 _ _)
   (tuple_addW2 t b vs.toArray a.toArray n m p h o g (by simpa using l) (by simpa using hw) (by rw[Yn,Yn];exact k)) ⟨i,c,?_⟩
  rw[e]
  exact h2 hw
def sIx(n d:Nat):Option Int->Nat
 | none=>d
 | some v=>if v < 0 then(v+(n:Int)).toNat else min v.toNat n
theorem sIx_none(n d:Nat):sIx n d none=d:=rfl
theorem sIx_nat(n d k:Nat):sIx n d (some (k:Int))=min k n:=by
 show(if(k:Int) < 0 then((k:Int)+(n:Int)).toNat else min (k:Int).toNat n)=min k n
 rw[if_neg (by lia),Int.toNat_natCast]
theorem UV(n d:Nat)(hd:d<=n)(o:Option Int):sIx n d o<=n:=by
 cases o with
 | none=>exact hd
 | some v =>
  show(if v < 0 then(v+(n:Int)).toNat else min v.toNat n)<=n
  by_cases a:v < 0
  ·rw[if_pos a];lia
  ·rw[if_neg a];exact Nat.min_le_right _ _
theorem LA(v:Int)(n d:Nat):(if v < 0 then max (v+(n:Int)) 0 else min v (n:Int))=((sIx n d (some v):Nat):Int):=by
 show(if v < 0 then max (v+(n:Int)) 0 else min v (n:Int))=(((if v < 0 then(v+(n:Int)).toNat else min v.toNat n):Nat):Int)
 by_cases a:v < 0
 ·simp only[if_pos a];lia
 ·simp only[if_neg a];lia
theorem UW(lo hi:Option Int)(n:Nat):Builtin.Slice.sliceAdjust lo hi 1 (n:Int)=(((sIx n 0 lo:Nat):Int),((sIx n n hi:Nat):Int)):=by
 have h1:¬ ((1:Int) < 0):=by lia
 unfold Builtin.Slice.sliceAdjust
 simp only[h1,if_false]
 refine Prod.ext ?_ ?_
 ·cases lo with
  | none=>rfl
  | some v=>exact LA v n 0
 ·cases hi with
  | none=>rfl
  | some v=>exact LA v n n
theorem UX(i j:Nat):Builtin.Slice.slicePlaces (i:Int) (j:Int) 1=j - i:=by
 unfold Builtin.Slice.slicePlaces
 have h1:(1:Int) > 0:=by lia
 simp only[h1,if_true,Int.ediv_one]
 split <;> lia
theorem LC{v:Value}{o:Option Int}{Q:Option Int->Shared->Prop}(p:IsPart v o)(h:Q o s):wpAny (model prog w) A (Builtin.Slice.slicePartIndex v) Q E s:=by
 cases p with
 | none=>exact slicePart_none h
 | int i t=>exact slicePart_int h
variable {vl vu:Value}{lo hi:Option Int}
theorem LD{c:Addr}{n:Nat}{Q:Int×Int×Nat->Shared->Prop}(d:s.heap.IsSliceOf c vl vu .none)(pl:IsPart vl lo)(e:IsPart vu hi)
  (h:Q (((sIx n 0 lo:Nat):Int),1,sIx n n hi - sIx n 0 lo) s):wpAny (model prog w) A (Builtin.Slice.sliceApplied (.ref c) (pure (n:Int))) Q E s:=by
 obtain⟨os,b,f,a⟩:=id d
 unfold Builtin.Slice.sliceApplied Builtin.Slice.sliceFields
 refine Qi (Qi (wpAny_field b a (x:=vl) rfl (Qi (wpAny_field b a (x:=vu) rfl (Qi (wpAny_field b a (x:=.none) rfl (Qj ?_)))))))
 refine Qi (slicePart_none ?_)
 show wpAny _ _ (if((1:Int)==0)=true then _ else _) _ _ s
 rw[if_neg (by decide)]
 refine Qi (LC pl (Qi (LC e (Qi (Qj ?_)))))
 show wpAny _ _ (match Builtin.Slice.sliceAdjust lo hi 1 (n:Int)with |(lo,hi)=>pure (lo,(1:Int),Builtin.Slice.slicePlaces lo hi 1)) _ _ s
 rw[UW lo hi n]
 show wpAny _ _ (pure (((sIx n 0 lo:Nat):Int),(1:Int),Builtin.Slice.slicePlaces ((sIx n 0 lo:Nat):Int) ((sIx n n hi:Nat):Int) 1)) _ _ s
 rw[UX]
 exact Qj h
theorem UY(xs:Array Value)(i k:Nat):((List.range k).filterMap λ(m:Nat)=>xs[((i:Int)+(m:Int)*1).toNat]?).toArray=((xs.toList.drop i).take k).toArray:=by
 have e:(λ(m:Nat)=>xs[((i:Int)+(m:Int)*1).toNat]?)=λm=>xs[i+m]?:=by
  funext m
  have:((i:Int)+(m:Int)*1).toNat=i+m:=by lia
  rw[this]
 rw[e]
 have:=pick_run xs i k
 rw[List.filterMap_map]at this
 have a:((λx=>xs[x]?)∘λx=>i+x)=λm=>xs[i+m]?:=rfl
 rw[a]at this
 rw[this]
theorem getItem_tuple_cut{f:Addr}{items:Array Value}(b:IsTup s.heap t items)(i:s.heap.IsSliceOf f vl vu .none)(pl:IsPart vl lo)(k:IsPart vu hi)
  (hw:¬ (sIx items.size 0 lo=0/\sIx items.size items.size hi=items.size))
  (h:Q (.ref s.heap.objs.size) {s with heap:=s.heap.push {cls:=.type "tuple",data:=.seq ((items.toList.drop (sIx items.size 0 lo)).take (sIx items.size items.size hi - sIx items.size 0 lo)).toArray}})
  (l:items.size<=sizeLine):wpAny (model prog w) A (getItem (.ref t) (.ref f)) Q E s:=by
 have a:sizeOk (.seq ((items.toList.drop (sIx items.size 0 lo)).take (sIx items.size items.size hi - sIx items.size 0 lo)).toArray):=by
  show((items.toList.drop (sIx items.size 0 lo)).take (sIx items.size items.size hi - sIx items.size 0 lo)).toArray.size<=sizeLine
  rw[Yn,List.length_take,List.length_drop,YS]
  lia
 have n:sIx items.size items.size hi<=items.size:=UV _ _ (Yr _) hi
 obtain⟨os,d,g,j⟩:=id i
 have e:s.TypeIs (.ref f) "slice":=⟨os,d,g⟩
 unfold getItem
 try with_reducible refine wpAny_holding ?_
 first | refine Qi (Qj ?_)| skip
 refine Qi (wpAny_sequenceKey b.typeIs (by decide) ?_)
 refine Qi (wpAny_callSpecial?_slot (name:=Str.ofString "__getitem__") b.typeIs PyProof.Rows.slot_tuple_getitem
  (wpAny_call_entry PyProof.Rows.slot_tuple_getitem b.typeIs entry_tuple_getitem ?_ (args_tuple_getitem _ _)))
 show wpAny _ _ (Builtin.Tuple.tupleItemsOf (.ref t) >>=_) _ _ s
 refine Qi (tupleItemsOf_ b ?_)
 refine Qi (wpAny_typeOf e ?_)
 rw[if_pos (by decide)]
 refine Qi (LD i pl k ?_)
 have c:¬ ((((sIx items.size 0 lo:Nat):Int)==0&&(1:Int)==1&&(sIx items.size items.size hi - sIx items.size 0 lo)==items.size)=true):=by
  intro q
  rw[YG,YG]at q
  have q1:((sIx items.size 0 lo:Nat):Int)=0:=eq_of_beq q.1.1
  have q2:sIx items.size items.size hi - sIx items.size 0 lo=items.size:=eq_of_beq q.2
  exact hw ⟨by lia,by lia⟩
 show wpAny _ _ (if(((sIx items.size 0 lo:Nat):Int)==0&&(1:Int)==1&&(sIx items.size items.size hi - sIx items.size 0 lo)==items.size)=true then _ else _) _ _ s
 rw[if_neg c,UY]
 first
  | exact Qi (m:=Builtin.Tuple.tupleExact _) (wpAny_newObj_type (Qj ⟨_,rfl,Qj h⟩) a)
  | exact Qi (m:=Builtin.Tuple.tupleExact _) (wpAny_newObj_type (Qi (Qj (Qj ⟨_,rfl,Qj h⟩))) a)
  | exact Qi (Qi (m:=Builtin.Tuple.tupleExact _) (wpAny_newObj_type (Qj (Qj ⟨_,rfl,Qj h⟩)) a))
  | exact Qi (Qi (m:=Builtin.Tuple.tupleExact _) (wpAny_newObj_type (Qj ⟨_,rfl,Qj h⟩) a))
end
end HT
namespace L2
open PySem PySem.Spec PyProof.Rows
abbrev TO:=St->Hp->(Option Int->Hp->Prop)->Prop
def PO(X:Cx)(e:Option Expr)(t:TO):Prop :=
 ∀(pins:List (Addr×Obj))(s:Shared)(σ:St)(H:Hp)(Q:Option Int->Hp->Prop),Inv X pins σ H s->t σ H Q->
  wpAny (model X.prog X.w) X.A (evalPart e X.env) (λu s'=>∃ o H',Inv X pins σ H' s'/\IsPart u o/\Q o H') X.xe s
def UZ:TO:=λ_ H Q=>Q none H
def U0(t:TE):TO:=λσ H Q=>t σ H λx H1=>∃ i,x=.int i/\Q (some i) H1
section
variable {X:Cx} {e:Expr} {te:TE} {lo hi:Option Expr} {tl th:TO} {pos p2:Pos}
theorem U1:PO X none UZ:=by
 intro pins s σ H Q I h
 rw[evalPart_none]
 exact Qj ⟨none,H,I,.none,h⟩
theorem U2(h:PE X e te):PO X (some e) (U0 te):=by
 intro pins s σ H Q I hw
 rw[evalPart_some]
 refine thn (h pins s σ H _ I hw) λu c a=>?_
 obtain⟨x,H1,b,r1,q1⟩:=a
 obtain⟨i,rfl,q⟩:=q1
 obtain⟨t,rfl⟩:=r1
 exact⟨some i,H1,b,.int i t,q⟩
def SlR(X:Cx)(r:V->Option Int->Option Int->Hp->VK->Prop):Prop :=
 ∀(pins:List (Addr×Obj))(s:Shared)(σ:St)(H:Hp)(x:V)(v vl vu:Value)(lo hi:Option Int)(sl:Addr)(Q:VK),Inv X pins σ H s->RelV x v->s.heap.IsSliceOf sl vl vu .none->IsPart vl lo->IsPart vu hi->r x lo hi H Q->
  ∃ T id,typeLookup (.type T) "__getitem__"=pure (some (.builtin id))/\s.TypeIs v T/\wpAny (model X.prog X.w) X.A (getItem v (.ref sl)) (EP X pins σ Q) X.xe s
variable {r:V->Option Int->Option Int->Hp->VK->Prop}
theorem SlR.or{r':V->Option Int->Option Int->Hp->VK->Prop}(h:SlR X r)(h':SlR X r'):SlR X (λx lo hi H Q=>r x lo hi H Q\/r' x lo hi H Q):=by
 intro pins s σ H x v vl vu lo hi d Q I c a pl b q
 rcases q with q | q
 ·exact h pins s σ H x v vl vu lo hi d Q I c a pl b q
 ·exact h' pins s σ H x v vl vu lo hi d Q I c a pl b q
def tSl(r:V->Option Int->Option Int->Hp->VK->Prop)(te:TE)(tl th:TO):TE:=λσ H Q=>te σ H λx H1=>tl σ H1 λl H2=>th σ H2 λu H3=>r x l u H3 Q
theorem LI(B:SlR X r)(i:PE X e te)(hl:PO X lo tl)(g:PO X hi th):PE X (.Subscript e (.Slice lo hi none p2) pos) (tSl r te tl th):=by
 intro pins s σ H Q I h
 refine Subscript_ (thn (i pins s σ H _ I h) λv z c=>?_)
 obtain⟨x,H1,p,r1,q1⟩:=c
 refine wpAny_Slice (thn (hl pins z σ H1 _ p q1) λvl o⟨l,H2,n,pl,q2⟩=>thn (g pins o σ H2 _ n q2) λvu a⟨u,d,f,m,q3⟩=>?_)
 rw[evalPart_none]
 refine Qj ?_
 have y:Inv X pins σ d {a with heap:=a.heap.push {cls:=.type "slice",data:=.fields #[vl,vu,.none]}}:=f.kept (t':=a.toks) λb D q=>Qk _ q
 obtain⟨T,id,t,j,k⟩:=B pins {a with heap:=a.heap.push {cls:=.type "slice",data:=.fields #[vl,vu,.none]}} σ d x v vl vu l u a.heap.objs.size Q y r1 (Heap.IsSliceOf.new ..) pl m q3
 show wpAny (model X.prog X.w) X.A (subscriptTail e (.Slice lo hi none p2) v (.ref a.heap.objs.size)) (EP X pins σ Q) X.xe {a with heap:=a.heap.push {cls:=.type "slice",data:=.fields #[vl,vu,.none]}}
 exact tail_any (ops:=[.ref a.heap.objs.size,v]) j t k (by with_unfolding_all rfl)
def Dg(xs:List V)(lo hi:Option Int):List V:=(xs.drop (HT.sIx xs.length 0 lo)).take (HT.sIx xs.length xs.length hi - HT.sIx xs.length 0 lo)
theorem LJ(xs:List V)(lo hi:Option Int):(Dg xs lo hi).length<=xs.length:=by
 unfold Dg
 rw[List.length_take,List.length_drop]
 lia
def Ig(K:PySem.W.Frag):V->Option Int->Option Int->Hp->VK->Prop:=λx lo hi H Q=>∃ a xs,x=.ref a/\SqT K H a xs/\
 ¬ (HT.sIx xs.length 0 lo=0/\HT.sIx xs.length xs.length hi=xs.length)/\∀ p,H p=none->Q (.ref p) (upd H p (.tup (Dg xs lo hi)))
theorem LK:SlR X (Ig X.K):=by
 intro pins s σ H x v vl vu lo hi m Q I j g pl i h
 obtain⟨a,xs,rfl,k,hw,q⟩:=h
 cases j
 obtain⟨d,r,e,f⟩:=I.tuple k
 have c:d.toArray.size=xs.length:=by rw[Yn];exact r.length.symm
 refine⟨"tuple",_,PyProof.Rows.slot_tuple_getitem.lookup,e.typeIs,?_⟩
 refine HT.getItem_tuple_cut e g pl i (by rw[c];exact hw) ?_ (by rw[c];exact f)
 rw[c]
 refine⟨.ref s.heap.objs.size,_,I.laid (t':=s.toks) (o:=.tup (Dg xs lo hi)) (λb l q=>Qk _ q) (Yr _) ?_,rfl,q _ (I.hok.fresh (Yr _))⟩
 exact⟨Yt (LJ xs lo hi) f,_,(r.drop (HT.sIx xs.length 0 lo)).take (HT.sIx xs.length xs.length hi - HT.sIx xs.length 0 lo),TupP.new _ _⟩
def Ih(K:PySem.W.Frag):R2:=λx y H Q=>∃ a b xs ys,x=.ref a/\y=.ref b/\SqT K H a xs/\SqT K H b ys/\xs≠[]/\xs.length+ys.length<=sizeLine/\
 (ys=[]->Q (.ref a) H)/\(ys≠[]->∀ p,H p=none->Q (.ref p) (upd H p (.tup (xs++ys))))
theorem Vals.nil_iff{xs:List V}{us:List Value}(r:Vals xs us):us=[]↔xs=[]:=by
 cases r with
 | nil=>simp
 | cons _ _=>simp
theorem U3:OpR X (binaryOp .Add) (Ih X.K):=by
 intro pins s σ H x y v u Q I f i h
 obtain⟨a,b,xs,ys,rfl,rfl,k,l,g,d,q1,q2⟩:=h
 cases f
 cases i
 obtain⟨j,r1,p1,_⟩:=I.tuple k
 obtain⟨e,c,p2,_⟩:=I.tuple l
 refine HT.cat_tup p1 p2 (λz=>g (r1.nil_iff.mp z)) (λz=>⟨.ref a,H,I,rfl,q1 (c.nil_iff.mp z)⟩) (λz=>?_) (by rw[<- r1.length,<- c.length];exact d)
 refine⟨.ref s.heap.objs.size,_,I.laid (t':=s.toks) (o:=.tup (xs++ys)) (λb m q=>Qk _ q) (Yr _) ?_,rfl,q2 (λw=>z (c.nil_iff.mpr w)) _ (I.hok.fresh (Yr _))⟩
 exact⟨by rw[Yj];exact d,_,r1.append c,TupP.new _ _⟩
end
def ixN(n:Nat)(i:Int):Option Nat:=if 0<=i then(if i < n then some i.toNat else none)else if -(n:Int)<=i then some (i+n).toNat else none
def atI{α:Type}(xs:List α)(i:Int):Option α:=(ixN xs.length i).bind λj=>xs[j]?
variable {i:Int}{j:Nat}
theorem LL{n:Nat}(h:ixN n i=some j):seqIndex? i n=some j/\j < n/\-(n:Int)<=i/\i < n:=by
 unfold ixN at h
 by_cases a:0<=i
 ·rw[if_pos a]at h
  by_cases h1:i < n
  ·rw[if_pos h1]at h
   have e:i.toNat=j:=YE h
   exact⟨by rw[seqIndex_of a h1,e],by lia,by lia,h1⟩
  ·rw[if_neg h1]at h;cases h
 ·rw[if_neg a]at h
  by_cases h1:-(n:Int)<=i
  ·rw[if_pos h1]at h
   have e:(i+n).toNat=j:=YE h
   exact⟨by rw[seqIndex_neg (by lia) h1,e],by lia,h1,by lia⟩
  ·rw[if_neg h1]at h;cases h
theorem Ii{α:Type}{xs:List α}{v:α}(h:atI xs i=some v):∃ j,seqIndex? i xs.length=some j/\xs[j]?=some v/\j < xs.length/\-(xs.length:Int)<=i/\i < xs.length:=by
 unfold atI at h
 cases e:ixN xs.length i with
 | none=>rw[e]at h;cases h
 | some j =>
  rw[e]at h
  obtain⟨h1,h2,b,a⟩:=LL e
  exact⟨j,h1,h,h2,b,a⟩
theorem DR{α:Type}{xs:List α}{v:α}(h:xs[j]?=some v):atI xs (j:Int)=some v:=by
 have a:j < xs.length:=(YW.mp h).1
 have e:ixN xs.length (j:Int)=some j:=by
  unfold ixN
  rw[if_pos (by lia),if_pos (by lia)];simp
 unfold atI;rw[e];exact h
def FW(b:Expr):Prop:=∀ o i,subscripted b false o i=operate [o,i] (getItem o i)
def IxR(X:Cx)(r:R2):Prop :=
 ∀(value slice:Expr)(pins:List (Addr×Obj))(s:Shared)(σ:St)(H:Hp)(x y:V)(v u:Value)(Q:VK),Inv X pins σ H s->RelV x v->RelV y u->r x y H Q->
  subscripted slice false v u=operate [v,u] (getItem v u)->wpAny (model X.prog X.w) X.A (subscriptTail value slice v u) (EP X pins σ Q) X.xe s
def MtR(X:Cx)(id:String)(r:V->List V->Hp->VK->Prop):Prop :=
 ∀(pins:List (Addr×Obj))(s:Shared)(σ:St)(H:Hp)(x:V)(xs:List V)(v:Value)(us:List Value)(Q:VK),Inv X pins σ H s->RelV x v->Vals xs us->r x xs H Q->
  wpAny (model X.prog X.w) X.A (call (.builtin id) (v::us)) (EP X pins σ Q) X.xe s
section
variable {X:Cx} {a b:Expr} {ta tb:TE} {pos:Pos}
variable {r:R2}
theorem IxR.or{r':R2}(h:IxR X r)(h':IxR X r'):IxR X (λx y H Q=>r x y H Q\/r' x y H Q):=by
 intro value slice pins s σ H x y v u Q I c b q a
 rcases q with q | q
 ·exact h value slice pins s σ H x y v u Q I c b q a
 ·exact h' value slice pins s σ H x y v u Q I c b q a
theorem MtR.or{id:String}{r r':V->List V->Hp->VK->Prop}(h:MtR X id r)(h':MtR X id r'):MtR X id (λx xs H Q=>r x xs H Q\/r' x xs H Q):=by
 intro pins s σ H x xs v c Q I b a q
 rcases q with q | q
 ·exact h pins s σ H x xs v c Q I b a q
 ·exact h' pins s σ H x xs v c Q I b a q
theorem U4(k:IxR X r)(i:PE X a ta)(j:PE X b tb)(c:FW b):PE X (.Subscript a b pos) (tOp r ta tb):=by
 intro pins s σ H Q I h
 exact Subscript_ (HX i j I h λv u f x y H2 e d g q=>k a b pins f σ H2 x y v u Q e d g q (c _ _))
def Ij(K:PySem.W.Frag):R2:=λx y H Q=>∃ p xs i v,x=.ref p/\y=.int i/\SqL K H p xs/\atI xs i=some v/\Q v H
def Ik(K:PySem.W.Frag):R2:=λx y H Q=>∃ p xs i v,x=.ref p/\y=.int i/\SqT K H p xs/\atI xs i=some v/\Q v H
def Il:R2:=λx y H Q=>∃ z i c,x=.str z/\y=.int i/\z.length<=sizeLine/\atI z.cps.toList i=some c/\Q (.str ⟨#[c]⟩) H
theorem U5:IxR X (Ij X.K):=by
 intro value slice pins s σ H x y v u Q I l o h e
 obtain⟨p,xs,i,z,rfl,rfl,n,k,q⟩:=h
 cases l
 obtain⟨t,rfl⟩:=o
 obtain⟨b,r,pl,B⟩:=I.list n
 obtain⟨j,h1,h2,D,A,m⟩:=Ii k
 obtain⟨w,g,d⟩:=r.get h2
 have hl:=r.length
 have E:=ED
 have a:EP X pins σ Q w s:=⟨z,H,I,d,q⟩
 by_cases f:0<=i
 ·have c:i.toNat=j:=by
   rw[seqIndex_of f m]at h1
   exact YE h1
  exact item_listR pl.isList f (by lia) (by rw[c];simpa using g) a e
 ·have c:(i+(b.toArray.size:Int)).toNat=j:=by
   rw[seqIndex_neg (by lia) A]at h1
   rw[Yn,<- hl]
   exact YE h1
  exact subscriptTail_builtinR (x:=w) pl.isList.typeIs slot_list_getitem.lookup
   (wpAny_getItem_list_neg (Q:=λr s'=>r=w/\EP X pins σ Q r s') pl.isList (by lia) (by rw[Yn] <;> lia) (by lia) (by rw[c];simpa using g) ⟨rfl,a⟩) e
theorem U6:IxR X (Ik X.K):=by
 intro value slice pins s σ H x y v u Q I e g h c
 obtain⟨p,xs,i,z,rfl,rfl,f,d,q⟩:=h
 cases e
 obtain⟨t,rfl⟩:=g
 obtain⟨k,r,pl,n⟩:=I.tuple f
 obtain⟨j,h1,h2,A,o,m⟩:=Ii d
 obtain⟨w,l,b⟩:=r.get h2
 have hl:=r.length
 have B:=ED
 have a:EP X pins σ Q w s:=⟨z,H,I,b,q⟩
 exact subscriptTail_builtinR (x:=w) pl.typeIs slot_tuple_getitem.lookup
  (getItem_tuple (j:=j) (Q:=λr s'=>r=w/\EP X pins σ Q r s') pl (by lia) (by lia) (by rw[Yn,<- hl];exact h1) (by simpa using l) ⟨rfl,a⟩) c
theorem U7:IxR X Il:=by
 intro value slice pins s σ H x y v u Q I d g h a
 obtain⟨z,i,c,rfl,rfl,m,b,q⟩:=h
 obtain⟨t,rfl⟩:=d
 obtain⟨t',rfl⟩:=g
 obtain⟨j,h1,h2,o,l,e⟩:=Ii b
 have hl:z.cps.toList.length=z.length:=by simp[Str.length]
 rw[hl]at h1 l e
 have n:=ED
 exact tail_any (typeIs_str s z t) slot_str_getitem.lookup (getItem_str (c:=c) (by
  have f:decide (i < -(2 ^ 63:Int))=false:=Qg (by lia)
  have k:decide (i>=2 ^ 63)=false:=Qg (by lia)
  rw[f,k,Bool.or_false]) (by rw[h1];simpa using h2) ⟨.str ⟨#[c]⟩,H,I.tok _,⟨_,rfl⟩,q⟩) a
theorem U8(a:List Value)(n j:Nat)(u:Value):Obj.mapSeq (·.setIfInBounds j u) {cls:=.type "list",data:=.seq a.toArray n}={cls:=.type "list",data:=.seq (a.set j u).toArray n}:=by
 simp[Obj.mapSeq]
variable {pins:List (Addr×Obj)}{σ:St}{H:Hp}{s:Shared}{p:Addr}{xs:List V}
theorem Inv.lst(I:Inv X pins σ H s)(h:H p=some (.lst xs)):
  ∃(a:List Value)(n:Nat),Vals xs a/\s.heap.get? p=some {cls:=.type "list",data:=.seq a.toArray n}/\xs.length<=sizeLine:=by
 obtain⟨z,a,n,r,e⟩:=I.hok p _ h
 exact⟨a,n,r,e,z⟩
theorem Inv.lstUpd{ys:List V}{a its':List Value}{n c:Nat}{f:Obj->Obj}(I:Inv X pins σ H s)(h:H p=some (.lst xs))
  (g:s.heap.get? p=some {cls:=.type "list",data:=.seq a.toArray n}) (d:f {cls:=.type "list",data:=.seq a.toArray n}={cls:=.type "list",data:=.seq its'.toArray c}) (r:Vals ys its') (i:ys.length<=sizeLine) (t:Nat):
  Inv X pins σ (upd H p (.lst ys)) {s with heap:=s.heap.update p f,toks:=t}:=by
 have e:(s.heap.update p f).get? p=some {cls:=.type "list",data:=.seq its'.toArray c}:=by
  rw[Heap.get?_update_self f g (by rw[d] <;> rfl),d]
 refine I.write (x:=p) (e:=p) (by rw[h];trivial) (.inl rfl) (λb u j q=>(Heap.get?_update_other _ _ (YV j)).trans q) ⟨_,e⟩ ?_
 exact⟨i,its',c,r,e⟩
def LN:V->V->V->Hp->(Hp->Prop)->Prop:=λo i v H Q=>∃ p xs k j,o=.ref p/\i=.int k/\H p=some (.lst xs)/\ixN xs.length k=some j/\Q (upd H p (.lst (xs.set j v)))
theorem U9:Lk X LN:=by
 intro pins s σ H o i v B A u Q I z w m h
 obtain⟨p,xs,k,j,rfl,rfl,l,x,q⟩:=h
 cases z
 obtain⟨t,rfl⟩:=w
 obtain⟨a,n,r,c,y⟩:=I.lst l
 obtain⟨h1,h2,g,f⟩:=LL x
 have hl:=r.length
 have D:=ED
 have d:Inv X pins σ (upd H p (.lst (xs.set j v))) {s with heap:=s.heap.update p (Obj.mapSeq (·.setIfInBounds j u))}:=
  I.lstUpd l c (U8 a n j u) (r.set m j) (by rw[List.length_set];exact y) s.toks
 by_cases e:0<=k
 ·have b:k.toNat=j:=by
   rw[seqIndex_of e f]at h1
   exact YE h1
  exact PySem.W.ki_setAt c e (by lia) (by rw[Yn,<- hl];exact f) (by rw[b];exact⟨_,d,q⟩)
 ·have b:(k+(a.toArray.size:Int)).toNat=j:=by
   rw[seqIndex_neg (by lia) g]at h1
   rw[Yn,<- hl]
   exact YE h1
  exact PySem.W.ki_setBack c (by lia) (by rw[Yn,<- hl];exact g) (by lia) (by rw[b];exact⟨_,d,q⟩)
theorem Va(lo hi:Option Int)(n:Nat):(sliceBounds lo hi none n).1=((HT.sIx n 0 lo:Nat):Int)/\(sliceBounds lo hi none n).2.1=((HT.sIx n n hi:Nat):Int)/\(sliceBounds lo hi none n).2.2=1:=by
 refine⟨?_,?_,rfl⟩
 ·cases lo with
  | none=>simp[sliceBounds,HT.sIx]
  | some i =>
   simp only[sliceBounds,HT.sIx,Option.getD_none,show(1:Int) > 0 by decide,if_true]
   by_cases h:i < 0
   ·simp only[h,if_true] <;> lia
   ·simp only[h,if_false] <;> lia
 ·cases hi with
  | none=>simp[sliceBounds,HT.sIx]
  | some i =>
   simp only[sliceBounds,HT.sIx,Option.getD_none,show(1:Int) > 0 by decide,if_true]
   by_cases h:i < 0
   ·simp only[h,if_true] <;> lia
   ·simp only[h,if_false] <;> lia
theorem Vb(a:List Value)(lo hi:Option Int):slicePick a.toArray lo hi none=((a.drop (HT.sIx a.length 0 lo)).take (HT.sIx a.length a.length hi - HT.sIx a.length 0 lo)).toArray:=by
 obtain⟨h1,h2,b⟩:=Va lo hi a.toArray.size
 unfold slicePick
 rw[h1,h2,b]
 simp only[sliceRange_one,pick_run,Yn] <;> rfl
def Io(K:PySem.W.Frag):V->Option Int->Option Int->Hp->VK->Prop:=λx lo hi H Q=>∃ a xs,x=.ref a/\SqL K H a xs/\∀ p,H p=none->Q (.ref p) (upd H p (.lst (Dg xs lo hi)))
theorem LO:SlR X (Io X.K):=by
 intro pins s σ H x v vl vu lo hi m Q I g e pl f h
 obtain⟨a,xs,rfl,i,q⟩:=h
 cases g
 obtain⟨j,r,d,k⟩:=I.list i
 have c:=r.length
 refine⟨"list",_,slot_list_getitem.lookup,d.isList.typeIs,?_⟩
 refine wpAny_getItem_list_slice d.isList e pl f .none (by simp) ?_ (by rw[Yn] <;> lia)
 rw[Vb,<- c]
 refine⟨.ref s.heap.objs.size,_,I.laid (t':=s.toks) (o:=.lst (Dg xs lo hi)) (λb l q=>Qk _ q) (Yr _) ?_,rfl,q _ (I.hok.fresh (Yr _))⟩
 exact⟨Yt (LJ xs lo hi) k,_,0,(r.drop (HT.sIx xs.length 0 lo)).take (HT.sIx xs.length xs.length hi - HT.sIx xs.length 0 lo),Qm _ rfl⟩
def Cr:V->Bool
 | .non=>true
 | .bl _=>true
 | .int _=>true
 | .str _=>true
 | _=>false
def eqV:V->V->Bool
 | .non,.non=>true
 | .bl a,.bl b=>a==b
 | .bl a,.int b=>(if a then 1 else 0)==b
 | .int a,.bl b=>a==(if b then 1 else 0)
 | .int a,.int b=>a==b
 | .str a,.str b=>a==b
 | _,_=>false
variable {y x:V}{u v:Value}
theorem E7{A:Around}(e:RelV y u)(c:RelV x v)(f:Cr y=true)(d:Cr x=true):SeqAt.EqAt A s u v (eqV y x):=by
 cases y with
 | non =>
  cases e
  cases x with
  | non=>cases c;exact SeqAt.EqAt.same _
  | bl b=>cases c;exact SeqAt.EqAt.none_bool b
  | int b=>obtain⟨t,rfl⟩:=c;exact SeqAt.EqAt.none_int b t
  | str b=>obtain⟨t,rfl⟩:=c;exact SeqAt.EqAt.none_str b t
  | _=>exact Qh (show false=true from d) YT
 | bl a =>
  cases e
  cases x with
  | non=>cases c;exact SeqAt.EqAt.bool_none a
  | bl b=>cases c;exact SeqAt.EqAt.bool_bool a b
  | int b=>obtain⟨t,rfl⟩:=c;exact SeqAt.EqAt.bool_int a b t
  | str b=>obtain⟨t,rfl⟩:=c;exact SeqAt.EqAt.bool_str a b t
  | _=>exact Qh (show false=true from d) YT
 | int a =>
  obtain⟨t',rfl⟩:=e
  cases x with
  | non=>cases c;exact SeqAt.EqAt.int_none a t'
  | bl b=>cases c;exact SeqAt.EqAt.int_bool a t' b
  | int b=>obtain⟨t,rfl⟩:=c;exact SeqAt.EqAt.int_int a t' b t
  | str b=>obtain⟨t,rfl⟩:=c;exact SeqAt.EqAt.int_str a t' b t
  | _=>exact Qh (show false=true from d) YT
 | str a =>
  obtain⟨t',rfl⟩:=e
  cases x with
  | non=>cases c;exact SeqAt.EqAt.str_none a t'
  | bl b=>cases c;exact SeqAt.EqAt.str_bool a t' b
  | int b=>obtain⟨t,rfl⟩:=c;exact SeqAt.EqAt.str_int a t' b t
  | str b=>obtain⟨t,rfl⟩:=c;exact SeqAt.EqAt.str_str a t' b t
  | _=>exact Qh (show false=true from d) YT
 | _=>exact Qh (show false=true from f) YT
def eqU(x:V)(u:Value):Bool:=match u with
 | .none=>eqV .non x
 | .bool b=>eqV (.bl b) x
 | .int i _=>eqV (.int i) x
 | .str z _=>eqV (.str z) x
 | _=>false
theorem LP(r:RelV y u)(f:Cr y=true):eqU x u=eqV y x:=by
 cases y with
 | non=>cases r;rfl
 | bl b=>cases r;rfl
 | int i=>obtain⟨t,rfl⟩:=r;rfl
 | str z=>obtain⟨t,rfl⟩:=r;rfl
 | _=>exact Qh (show false=true from f) YT
theorem Iq{x:V}:∀{xs:List V}{us:List Value},Vals xs us->xs.all Cr=true->us.any (eqU x)=xs.any λy=>eqV y x
 | _,_,.nil,_=>rfl
 | y::xs,u::us,.cons r t,f=>by
  rw[List.all_cons,YG]at f
  rw[List.any_cons,List.any_cons,LP r f.1,Iq t f.2]
theorem Ir{A:Around}{s:Shared}{x:V}{v:Value}(c:RelV x v)(b:Cr x=true):∀{xs:List V}{us:List Value},Vals xs us->xs.all Cr=true->∀ u∈us,SeqAt.EqAt A s u v (eqU x u)
 | _,_,.nil,_=>λu a=>by cases a
 | y::xs,u::us,.cons r t,f=>λd a=>by
  rw[List.all_cons,YG]at f
  walk_at "pf"
  ·rw[LP r f.1];exact E7 r c f.1 b
  ·exact Ir c b t f.2 d a
def inV(x:V)(xs:List V):Bool:=xs.any λy=>eqV y x
def rIn(K:PySem.W.Frag)(neg:Bool):R2:=λx y H Q=>∃ p xs,y=.ref p/\(SqL K H p xs\/SqT K H p xs)/\Cr x=true/\xs.all Cr=true/\Q (.bl (if neg then !inV x xs else inV x xs)) H
theorem Vc:OpR X (compareOp .In) (rIn X.K false):=by
 intro pins s σ H x y v u Q I d e h
 obtain⟨p,xs,rfl,b,c,fs,q⟩:=h
 cases e
 rcases b with b | b
 ·obtain⟨a,r,pl,f⟩:=I.list b
  refine SeqAt.in_listAt (eqU x) pl.isList (λw hw=>Ir d c r fs w (by simpa using hw)) ⟨.bl _,H,I,rfl,?_⟩
  rw[show a.toArray.any (eqU x)=a.any (eqU x) by simp,Iq r fs]
  exact q
 ·obtain⟨a,r,pl,f⟩:=I.tuple b
  refine SeqAt.in_tupleAt (eqU x) pl (λw hw=>Ir d c r fs w (by simpa using hw)) ⟨.bl _,H,I,rfl,?_⟩
  rw[show a.toArray.any (eqU x)=a.any (eqU x) by simp,Iq r fs]
  exact q
theorem CallR.or{f:Value}{r r':List V->Hp->VK->Prop}(h:CallR X f r)(h':CallR X f r'):CallR X f (λxs H Q=>r xs H Q\/r' xs H Q):=by
 intro pins s σ H xs b Q I a q
 rcases q with q | q
 ·exact h pins s σ H xs b Q I a q
 ·exact h' pins s σ H xs b Q I a q
theorem Vd:CallR X (.type "list") (λxs H Q=>∃ p ys,xs=[.ref p]/\(SqL X.K H p ys\/SqT X.K H p ys)/\∀ l,H l=none->Q (.ref l) (upd H l (.lst ys))):=by
 intro pins s σ H xs m Q I r h
 obtain⟨p,ys,rfl,f,q⟩:=h
 obtain⟨u,rfl,k⟩:=Dd r
 cases k
 have g:∀(a:List Value),Vals ys a->ys.length<=sizeLine->∀(h':Heap)(c:Nat),(∀ b o',s.heap.get? b=some o'->h'.get? b=some o')->
   h'.get? s.heap.objs.size=some {cls:=.type "list",dict:=none,data:=.seq a.toArray c,slots:=#[]}->EP X pins σ Q (.ref s.heap.objs.size) {s with heap:=h'}:=λa r' i h' c kp e=>
  ⟨.ref s.heap.objs.size,_,I.laid (t':=s.toks) kp (Yr _) (show ObjOk X.prog X.w _ h' _ (.lst ys)from⟨i,a,c,r',e⟩),rfl,q _ (I.hok.fresh (Yr _))⟩
 rcases f with f | f
 ·obtain⟨a,r',pl,i⟩:=I.list f
  have d:=r'.length
  obtain⟨o,j,hc,n,hd⟩:=pl.isList
  exact call_list_seq p (.inl rfl) j hc hd (λh' c kp e=>g a r' i h' c kp e) (by simp only[Yn] <;> lia)
 ·obtain⟨a,r',pl,i⟩:=I.tuple f
  have d:=r'.length
  obtain⟨o,j,hc,n,hd⟩:=pl
  exact call_list_seq p (.inr rfl) j hc hd (λh' c kp e=>g a r' i h' c kp e) (by simp only[Yn] <;> lia)
theorem Ve:CallR X (.type "tuple") (λxs H Q=>∃ p ys,xs=[.ref p]/\((SqL X.K H p ys/\∀ l,H l=none->Q (.ref l) (upd H l (.tup ys)))\/(SqT X.K H p ys/\Q (.ref p) H))):=by
 intro pins s σ H xs k Q I r h
 obtain⟨p,ys,rfl,h⟩:=h
 obtain⟨u,rfl,i⟩:=Dd r
 cases i
 rcases h with⟨c,q⟩|⟨c,q⟩
 ·obtain⟨a,r',pl,g⟩:=I.list c
  have d:=r'.length
  refine call_tuple_list pl.isList (λh' kp=>?_) (by simp only[Yn] <;> lia)
  have f:Inv X pins σ H {s with heap:=h'}:=I.kept (t':=s.toks) kp
  have j:Inv X pins σ (upd H h'.objs.size (.tup ys)) {s with heap:=h'.push {cls:=.type "tuple",data:=.seq a.toArray}}:=
   f.laid (t':=s.toks) (λb o e=>Qk _ e) (Yr _) (show ObjOk X.prog X.w _ _ _ (.tup ys)from⟨g,a,r',TupP.new _ _⟩)
  exact⟨.ref h'.objs.size,_,j,rfl,q _ (f.hok.fresh (Yr _))⟩
 ·obtain⟨a,r',pl,g⟩:=I.tuple c
  exact call_tuple_same pl ⟨.ref p,H,I,rfl,q⟩
def tyV(K:PySem.W.Frag)(T:String)(x:V)(H:Hp):Prop:=match x with
 | .str _=>T="str"
 | .int _=>T="int"
 | .ref p=>(T="list"/\∃ xs,SqL K H p xs)\/(T="tuple"/\∃ o,K.lookup p=some o/\o.cls=.type "tuple"/\o.dict=none)\/
   (T="dict"/\((∃ kvs,H p=some (.dK kvs))\/∃ kvs,H p=some (.dT kvs)))\/(T="set"/\∃ S n,H p=some (.set S n))
 | _=>False
theorem Vf{T:String}(I:Inv X pins σ H s)(r:RelV x v)(ty:tyV X.K T x H):
  s.TypeIs v T/\∀ a,v=.ref a->∃ g,s.heap.get? a=some g/\g.dict=none:=by
 cases x with
 | str z =>
  obtain⟨t,rfl⟩:=r
  cases(show T="str" from ty)
  exact⟨typeIs_str s z t,λ_ e=>nomatch e⟩
 | int i =>
  obtain⟨t,rfl⟩:=r
  cases(show T="int" from ty)
  exact⟨typeIs_int s i t,λ_ e=>nomatch e⟩
 | ref p =>
  cases r
  rcases ty with⟨rfl,xs,h⟩|⟨rfl,o,b,hc,hd⟩|⟨rfl,b⟩|⟨rfl,S,n,b⟩
  ·obtain⟨j,_,pl,_⟩:=I.list h
   refine⟨pl.isList.typeIs,λa e=>?_⟩
   cases e
   obtain⟨o,n,e,c,hd,_⟩:=pl
   exact⟨o,e,hd⟩
  ·refine⟨⟨o,I.kIn p o b,hc⟩,λa e=>?_⟩
   cases e
   exact⟨o,I.kIn _ o b,hd⟩
  ·have z:∃ o,s.heap.get? p=some o/\o.ExactDict:=by
    rcases b with⟨d,b⟩|⟨d,b⟩
    ·obtain⟨_,_,_,_,o,_,_,e,ex,_⟩:=I.hok p _ b
     exact⟨o,e,ex⟩
    ·obtain⟨_,_,_,_,o,_,_,e,ex,_⟩:=I.hok p _ b
     exact⟨o,e,ex⟩
   obtain⟨o,e,ex⟩:=z
   refine⟨⟨o,e,ex.1⟩,λa f=>?_⟩
   cases f
   exact⟨o,e,ex.2.1⟩
  ·obtain⟨o,_,_,_,e,ex,_⟩:=I.hok p _ b
   refine⟨⟨o,e,ex.1⟩,λa f=>?_⟩
   cases f
   exact⟨o,e,ex.2.1⟩
 | _=>exact Qd ty
def tBM(K:PySem.W.Frag)(T:String)(r:V->List V->Hp->VK->Prop)(to:TE)(t:TA):TE:=λσ H Q=>to σ H λx H1=>tyV K T x H1/\t σ H1 λxs H2=>r x xs H2 Q
variable {o e:Expr} {es:List Expr} {to:TE} {t:TA} {name:Str} {apos cpos:Pos} {T id:String} {r:V->List V->Hp->VK->Prop}
theorem Vg(pa:PlainAttrs T)(slot:Slot T name id)(f:typeOf (.builtin id)=pure (.type "method_descriptor"))(m:MtR X id r)(n:PE X o to)(q:PA X (e::es) t)
  (a:attributeBase o name X.env (eval o X.env)=eval o X.env:=by rfl)
  (d:((backTo cpos (starEach (e::es) X.env)).all (λx=>!x.1)&&(backToKw cpos (keywordEach [] X.env)).all (λx=>x.1.isSome)
   && decide ((e::es).length+([]:List Keyword).length+(if([]:List Keyword).isEmpty then 0 else 1) < 30))=true:=by rfl)
  (b:(apos.endLine==cpos.line)=true:=by rfl) (j:starEach (e::es) X.env=(false,eval e X.env)::starEach es X.env:=by rfl) (hplain:(backTo cpos (starEach es X.env)).any (·.1)=false:=by rfl):
  PE X (.Call (.Attribute o name apos) (e::es) [] cpos) (tBM X.K T r to t):=by
 intro pins s σ H Q I h
 refine wpAny_Call_method_late a d b rfl (thn (n pins s σ H _ I h) λv u c=>?_)
 obtain⟨x,H1,i,r1,ty,q1⟩:=c
 obtain⟨h1,h2⟩:=Vf i r1 ty
 refine⟨T,id,pa,slot,f,h1,h2,?_⟩
 have g:=q cpos pins u σ H1 _ i q1
 rw[j]at g ⊢
 refine Calls.callWith_builtin (by show(false||(backTo cpos (starEach es X.env)).any (·.1))=false;rw[hplain] <;> rfl) (Calls.evalArgs_plain ?_)
 exact thn g (by rintro w l ⟨vs,H2,k,p,q2⟩;exact m pins l σ H2 x vs v w Q k r1 p q2)
end
def MtM(X:Cx)(id:String)(r:V->List V->Hp->VK->Prop):Prop :=
 ∀(pins:List (Addr×Obj))(s:Shared)(σ:St)(H:Hp)(x:V)(xs:List V)(v:Value)(us:List Value)(Q:VK),Inv X pins σ H s->RelV x v->Vals xs us->r x xs H Q->
  wpAny (model X.prog X.w) X.A (call (.builtin id) (v::us)) (EP X pins σ Q) X.xe s
theorem Vals.one:∀{x:V}{us:List Value},Vals [x] us->∃ u,us=[u]/\RelV x u
 | _,_,.cons r .nil=>⟨_,rfl,r⟩
theorem Vals.two:∀{x y:V}{us:List Value},Vals [x,y] us->∃ u v,us=[u,v]/\RelV x u/\RelV y v
 | _,_,_,.cons r (.cons q .nil)=>⟨_,_,rfl,r,q⟩
theorem Vals.zero:∀{us:List Value},Vals [] us->us=[]
 | _,.nil=>rfl
theorem Vals.rep{xs:List V}{us:List Value}(h:Vals xs us):∀ k:Nat,Vals (List.replicate k xs).flatten (List.replicate k us).flatten
 | 0=>.nil
 | k+1=>by
  rw[List.replicate_succ,List.replicate_succ,List.flatten_cons,List.flatten_cons]
  exact Vals.append h (Vals.rep h k)
theorem LQ(b:List Value):∀(k:Nat)(a:List Value),
  List.foldl (λd f=>d++f) a.toArray (List.replicate k b.toArray)=(a++(List.replicate k b).flatten).toArray
 | 0,a=>by simp
 | k+1,a=>by
  have e:a.toArray++b.toArray=(a++b).toArray:=by simp
  have c:(a++b)++(List.replicate k b).flatten=a++(List.replicate (k+1) b).flatten:=by
   rw[List.replicate_succ,List.flatten_cons,Yv]
  rw[<- c,<- LQ b k (a++b),<- e,List.replicate_succ,List.foldl_cons]
section
variable {X:Cx} {pins:List (Addr×Obj)} {σ:St} {H:Hp} {s:Shared} {l b:Addr} {xs ys zs:List V}
variable {a:List Value}{n t':Nat}
theorem Inv.lset{its':List Value}{f:Array Value->Array Value}(I:Inv X pins σ H s)(h:H l=some (.lst xs))
  (e:s.heap.get? l=some {cls:=.type "list",data:=.seq a.toArray n}) (g:f a.toArray=its'.toArray) (d:Vals ys its') (b:ys.length<=sizeLine):
  Inv X pins σ (upd H l (.lst ys)) {s with heap:=s.heap.update l (Obj.mapSeq f),toks:=t'}:=by
 have q:=PySem.IsL.update e f
 rw[g]at q
 refine I.write (x:=l) (e:=l) (by rw[h];exact trivial) (.inl rfl) (λj u i c=>(Heap.get?_update_other s.heap (Obj.mapSeq f) (YV i)).trans c) ⟨_,q⟩ ?_
 exact⟨b,its',_,d,q⟩
theorem Inv.lnew(I:Inv X pins σ H s)(b:Vals ys a)(c:ys.length<=sizeLine):
  Inv X pins σ (upd H s.heap.objs.size (.lst ys)) {s with heap:=s.heap.push {cls:=.type "list",data:=.seq a.toArray},toks:=t'}:=
 I.laid (λ_ _ q=>Qk _ q) (Yr _) ⟨c,a,0,b,Qm _ rfl⟩
theorem Inv.fresh(I:Inv X pins σ H s):H s.heap.objs.size=none:=I.hok.fresh (Yr _)
theorem Inv.lstM(I:Inv X pins σ H s)(b:H l=some (.lst xs)):xs.length<=sizeLine/\∃(a:List Value)(n:Nat),Vals xs a/\xs.length=a.length/\s.heap.get? l=some {cls:=.type "list",data:=.seq a.toArray n}:=by
 obtain⟨z,a,n,r,e⟩:=I.hok l _ b
 exact⟨z,a,n,r,r.length,e⟩
theorem LR(h:n<=sizeLine):Builtin.List.listTooLong n=false:=by
 unfold Builtin.List.listTooLong
 exact Qg (by lia)
end
section
variable {X:Cx}
def Vh:V->List V->Hp->VK->Prop:=λx vs H Q=>∃ l xs y,x=.ref l/\vs=[y]/\H l=some (.lst xs)/\xs.length < sizeLine/\Q .non (upd H l (.lst (xs++[y])))
theorem Vi:MtM X "list.append" Vh:=by
 intro pins s σ H x vs v i Q I d c h
 obtain⟨l,xs,y,rfl,rfl,b,g,q⟩:=h
 cases d
 obtain⟨u,rfl,f⟩:=c.one
 obtain⟨z,a,n,r,hl,e⟩:=I.lstM b
 refine call_meets F.slot_list_append ⟨_,e,rfl⟩ F.entry_list_append (F.args_list_append_2 _ _) (PySem.list_append l a.toArray n u (by rw[Yn];lia)) ⟨e,?_⟩
 refine⟨.non,_,I.lset (its':=a++[u]) b e (by simp) (r.append (.cons f .nil)) ?_,rfl,q⟩
 rw[Yj,List.length_singleton]
 lia
def Vj:V->List V->Hp->VK->Prop:=λx vs H Q=>∃ l b xs zs,x=.ref l/\vs=[.ref b]/\H l=some (.lst xs)/\H b=some (.lst zs)/\xs.length+zs.length<=sizeLine/\Q .non (upd H l (.lst (xs++zs)))
theorem Vk:MtM X "list.extend" Vj:=by
 intro pins s σ H x vs v B Q I j i h
 obtain⟨l,b,xs,zs,rfl,rfl,g,o,y,q⟩:=h
 cases j
 obtain⟨u,rfl,k⟩:=i.one
 cases k
 obtain⟨z,c,n,r,hl,e⟩:=I.lstM g
 obtain⟨A,a,m,t,w,p⟩:=I.lstM o
 have f:c.toArray.size+a.toArray.size<=sizeLine:=by rw[Yn,Yn];lia
 have d:¬ (!c.toArray.isEmpty&&Builtin.List.listTooLong (c.toArray.size+a.toArray.size))=true:=by
  rw[LR f,Bool.and_false]
  exact YT
 refine call_meets F.slot_list_extend ⟨_,e,rfl⟩ F.entry_list_extend (F.args_list_extend_2 _ _)
  (AutoSeq1.list_extend_list_list_0 l c.toArray n b a.toArray m d (by rw[Yn];lia) (by lia)) ⟨e,p,?_⟩
 refine⟨.non,_,I.lset (its':=c++a) g e (by simp) (r.append t) ?_,rfl,q⟩
 rw[Yj]
 lia
def E8:R2:=λx y H Q=>∃ l b xs zs,x=.ref l/\y=.ref b/\H l=some (.lst xs)/\H b=some (.lst zs)/\xs.length+zs.length<=sizeLine/\∀ p,H p=none->Q (.ref p) (upd H p (.lst (xs++zs)))
theorem Vl:OpR X (binaryOp .Add) E8:=by
 intro pins s σ H x y v u Q I d g h
 obtain⟨l,b,xs,zs,rfl,rfl,j,i,t,q⟩:=h
 cases d
 cases g
 obtain⟨z,c,n,r,hl,e⟩:=I.lstM j
 obtain⟨w,a,p,m,o,k⟩:=I.lstM i
 refine PySem.P.add_list e k ?_ (by rw[Yn,Yn];lia)
 have f:c.toArray++a.toArray=(c++a).toArray:=by simp
 rw[f]
 exact⟨.ref _,_,I.lnew (t':=s.toks) (r.append m) (by rw[Yj];lia),rfl,q _ I.fresh⟩
def LS:R2:=λx y H Q=>∃ l k xs,x=.ref l/\y=.int k/\H l=some (.lst xs)/\-(2 ^ 63)<=k/\k < 2 ^ 63/\xs.length*k.toNat<=sizeLine/\
 ∀ p,H p=none->Q (.ref p) (upd H p (.lst (List.replicate k.toNat xs).flatten))
theorem Vm{α:Type}(xs:List α)(k:Nat):(List.replicate k xs).flatten.length=k*xs.length:=by
 induction k with
 | zero=>simp
 | succ k a=>rw[List.replicate_succ,List.flatten_cons,Yj,a,Nat.succ_mul,Nat.add_comm]
theorem Vn:OpR X (binaryOp .Mult) LS:=by
 intro pins s σ H x y v u Q I w A h
 obtain⟨l,k,xs,rfl,rfl,B,h1,h2,p,q⟩:=h
 cases w
 obtain⟨t,rfl⟩:=A
 obtain⟨z,b,n,r,hl,e⟩:=I.lstM B
 have d:b.toArray.size*k.toNat<=sizeLine:=by rw[Yn,<- hl];exact p
 have i:¬ b.toArray.size*k.toNat >(2 ^ 63 - 1) / 8:=by
  have:(sizeLine:Nat)<=(2 ^ 63 - 1) / 8:=by decide
  lia
 have g:¬ (!Builtin.List.listFitsIndex k)=true:=by
  rw[fitsIndex_both h1 h2]
  exact YT
 have c:¬ Builtin.List.listTooLong (b.toArray.size*k.toNat)=true:=by
  rw[LR d]
  exact YT
 have f:List.foldl (λj o=>j++o) #[] (List.replicate (if b.toArray.isEmpty=true then 0 else k.toNat) b.toArray)=(List.replicate k.toNat b).flatten.toArray:=by
  have D:∀ m:Nat,List.foldl (λj o=>j++o) #[] (List.replicate m b.toArray)=(List.replicate m b).flatten.toArray:=λm=>by
   have:=LQ b m []
   rw[Yw]at this
   exact this
  rw[D]
  cases b with
  | nil=>simp
  | cons a r'=>rw[if_neg (by simp)]
 refine wpAny_binaryOp_repeat_ref (T:="list") (U:="int") (by decide) ⟨_,e,rfl⟩ (λs'=>typeIs_int s' k t) noFill_list_mul F.fills_int_mul F.slot_int_rmul repeat_list F.slot_int_index.lookup
  (call_meets F.slot_int_rmul (typeIs_int s k t) F.entry_int_rmul (F.args_int_rmul_2 _ _) (int___rmul___int_list k t l b.toArray n)
   ⟨e,rfl,⟨_,e,rfl⟩,call_meets F.slot_list_mul ⟨_,e,rfl⟩ F.entry_list_mul (F.args_list_mul_2 _ _) (AutoListH.list___mul___list_int_3 l b.toArray n k t g i c) ⟨e,?_⟩⟩)
 rw[f]
 exact⟨.ref _,_,I.lnew (t':=s.toks) (r.rep k.toNat) (by rw[Vm,Nat.mul_comm];exact p),rfl,q _ I.fresh⟩
end
section
variable {prog:Program} {w:World} {A:Around} {E:Value->Shared->Prop} {s:Shared}
end
section
variable {X:Cx}
end
end L2
namespace Att
open PySem PySem.W PySem.Calls PyProof.Rows
variable {P:Params}{h:Heap}
theorem Vo:∀(ns:List Int)(vs:List Value),WellAll P h vs (ns.map WData.int)->IntsAre vs ns:=by
 intro ns
 induction ns with
 | nil =>
  intro vs w
  rw[List.map_nil]at w
  cases w
  exact .nil
 | cons n ns c =>
  intro vs w
  rw[Ym]at w
  cases w with
  | cons a b =>
   cases a
   exact .cons _ _ (c _ b)
variable {l:OpenLaw}{n:Nat}
theorem Vp(u:l.most=some n){args:List WData}{b:List Value}
  (c:l.row.toRowW.claim.pre args=true) (k:WellAll P h b args):
  ∃ a vs ns,b=[Value.ref a]/\args=[WData.list (ns.map WData.int)]/\h.get? a=some {cls:=.type "list",data:=.seq vs.toArray}/\IntsAre vs ns/\ns.length<=n:=by
 have j:WShape.hasAll [] args [.list .int]=true:=(pre_splitW c).1
 have hc:l.pre.holds [] {args:=args}=true:=(pre_splitW c).2
 obtain⟨d,r,rfl,h1,h2⟩:=hasAllW_cons j
 obtain rfl:=hasAllW_nil h2
 obtain⟨xs,rfl,t⟩:=hasW_list h1
 obtain⟨ns,rfl⟩:=items_int t
 have e:ns.length<=n:=by
  unfold OpenLaw.pre at hc
  have i:(WTm.not (.lt (.lit (.int (n:Int))) (.len (.arg 0)))).holds [] {args:=[.list (ns.map .int)]}=true:=by
   have i:=(holds_andW hc).1
   rw[u]at i
   exact i
  have g:=condW_of i (w_not (w_lt w_lit (w_len_list (w_arg rfl))))
  rw[Yh]at g
  refine Nat.le_of_not_lt λq=>?_
  have o:(n:Int) <((ns.length:Nat):Int):=by lia
  first
   |(rw[YH o]at g;exact Qh g (by decide))
   |(simp at g;lia)
 cases k with
 | cons m p =>
  cases p
  cases m with
  | list s f=>exact⟨_,_,ns,rfl,rfl,s,Vo ns _ f,e⟩
theorem Vq(l:OpenLaw)(args:List WData):l.row.toRowW.claim.post args (.bool true) args=true :=
 postW_of (r:=l.row.toRowW) (X:=(true==true))
  (show WShape.has [] (.bool true) .bool=true by first | rfl | decide | simp[WShape.has,WShape.arms,WShape.armsAll])
  (show(WTm.eq .res (.lit (.bool true))).value [] {args:=args,res:=some (.bool true),after:=args}=some (.bool (true==true))from w_eq_bool (w_res rfl) w_lit) rfl
theorem attach_call{q:Program}{loose:List Str}{XP:(Str->Option Value)->Heap->Prop}{YP:World->Heap->Prop}{d:DefRec}
  (I:l.most=some n) (s:d.params.defaults=[])
  (call:∀(w:World)(s₀ b:Shared)(mg mb:Str->Option Value)(i:Addr)(o:Obj)(pm cd c:Value)(a:Addr)(vs:List Value)(ns:List Int),
   Ground q loose [] XP w s₀ mg mb b.heap->YP w b.heap->
   b.heap.get? i=some o->o.data=.func (docDef d.name d.params d.body d.scope pm cd c)->b.heap.CodeRec cd d.name->mg d.name=some (.ref i)->
   b.heap.get? a=some {cls:=.type "list",data:=.seq vs.toArray}->IntsAre vs ns->ns.length<=n->b.gens=#[]->
   codeAny (model l.prog w) callerA (.call (.ref i) ⟨[.ref a],[]⟩) (λr s'=>r=.ok (.ret (.bool true))/\OldK b.heap s'.heap/\s'.os=b.os/\AllBare s'.gens) b):
  WalkO q loose XP YP l.row.toRowW d [] (λf vs=>PySem.call f vs):=by
 intro w s₀ b mg mb G Y i o pm cd c y kV D hd k v p F x t K j u H m z
 obtain rfl:y=.none:=Dflts.none v s
 obtain rfl:kV=.none:=Dflts.noKw v
 obtain⟨a,vs,ns,rfl,rfl,g,e,h⟩:=Vp I j m
 refine enter_call (codeAny_mono (call w s₀ b mg mb i o pm cd c a vs ns G Y D (fd_plain hd) k p g e h F) λr s' A=>?_)
 obtain⟨rfl,h2,J,E⟩:=A
 exact⟨.inl ⟨.bool true,.bool true,[],rfl,λ_=>rfl,.bool true,Vq l _,λ_=>⟨List.Pairwise.nil,λ_ B=>(nomatch B)⟩⟩,h2,J,E⟩
section
variable {prog:Program} {w:World} {A:Around} {E:Value->Shared->Prop} {s:Shared} {K:Frag}
end
end Att
namespace L2
open PySem PySem.Spec PyProof.Rows
theorem LU:∀{vs:List Value}{ns:List Int},IntsAre vs ns->Vals (ns.map V.int) vs
 | _,_,.nil=>.nil
 | _,_,.cons n t h=>.cons ⟨t,rfl⟩ (LU h)
def FX(H:Hp):Prop:=∀ b,H b=none\/∃ o xs,H b=some (.frz o (.lst xs))
variable {K:PySem.W.Frag}{k:Nat}{a:Addr}{x:Str}
theorem Vr{P:Program}{w:World}{mg mb:Str->Option Value}{CX:CXT}{J:Addr}{fd:FuncData}{sp:Sp}{c:Shared}{vs:List Value}{ns:List Int}
  (KX:K.In c.heap) (l:c.heap.Ns mainGlobals mg) (f:c.heap.Ns builtinsNs mb) (L:∀ x:Str,x≠"__name__"->mb x=bootBuiltins x) (t:c.heap.NoLimit) (hg:c.gens=#[])
  (E:c.heap.get? a=some {cls:=.type "list",data:=.seq vs.toArray}) (hi:IntsAre vs ns) (hl:ns.length<=sizeLine) (hr:Room k callerA)
  (F:∀ base:Heap,K.In base->base.Ns mainGlobals mg->FnOk P w K mg base CX k J fd [x] sp) (j:∀(s:Shared)(u:Value),BindsTo s fd ⟨[u],[]⟩ [(x,u)])
  (O:∀ H:Hp,FX H->SqL K H a (ns.map V.int)->sp [.ref a] H (λv _=>v=.bl true) λ_ _ _=>False)
  (N:∀ H e s',CX [] H c (λ_ _ _=>False) e s'->False):
  codeAny (model P w) callerA (.call (.ref J) ⟨[.ref a],[]⟩) (λr s'=>r=.ok (.ret (.bool true))/\OldK c.heap s'.heap/\s'.os=c.os/\AllBare s'.gens) c:=by
 have R:=LU hi
 have A:=hi.length
 have i:∀ H:Hp,FX H->SqL K H a (ns.map V.int)->HOk P w H c.heap->(∀ b,H b≠none->b=a)->(H a≠none->K.lookup a=none)->
   codeAny (model P w) callerA (.call (.ref J) ⟨[.ref a],[]⟩) (λr s'=>r=.ok (.ret (.bool true))/\OldK c.heap s'.heap/\s'.os=c.os/\AllBare s'.gens) c:=by
  intro H U hS hok T hK
  have base_of:∀{b:Addr}{o:Obj},c.heap.get? b=some o->H b=none->(CG c.heap H).get? b=some o:=λe n=>Tc e n
  have I:∀{b:Addr}{o:Obj}{es:Array DictEntry}{B:Nat},c.heap.get? b=some o->o.data=.dict es B->H b=none:=λ{b o es B}e d=>by
   cases q:H b with
   | none=>rfl
   | some u =>
    have G:b=a:=T b (by rw[q];simp)
    subst G
    rw[E]at e;cases e
    have d':Data.seq vs.toArray _=Data.dict es B:=d
    cases d'
  have g:∀{b:Addr}{m:Str->Option Value},c.heap.Ns b m->(CG c.heap H).Ns b m:=λ{b m}⟨o,es,B,e,d,r⟩=>⟨o,es,B,base_of e (I e d),d,r⟩
  have p:K.In (CG c.heap H):=λb o e=>base_of (KX b o e) (by
   cases q:H b with
   | none=>rfl
   | some u =>
    have G:b=a:=T b (by rw[q];simp)
    subst G
    rw[hK (by rw[q];simp)]at e;cases e)
  have hM:Mod K mg (CG c.heap H):=⟨p,g l,⟨mb,g f,L⟩,let⟨mc,h1,h2⟩:=t;⟨mc,g h1,h2⟩⟩
  have e0:Env0 P w K mg (CG c.heap H) callerA [] c H:=⟨rfl,hM,λb o e=>Td e,Nat.le_of_eq (Ta _ _),trivial,λb f=>Qh (show b∈([]:List Addr)from f) (by simp),hok,.of_eq hg⟩
  refine codeAny_mono ((F _ p (g l)).run callerA [] c H ⟨[.ref a],[]⟩ [.ref a] [.ref a] _ _ hr e0 (j c (.ref a)) (.cons rfl .nil) (O H U hS)) λr s' h=>?_
  cases r with
  | error e=>exact(N H e s' h).elim
  | ok Z =>
   cases Z with
   | next=>exact Qd h
   | brk=>exact Qd h
   | cont=>exact Qd h
   | ret u =>
    obtain⟨v,H',os,bare,un,y,r',q⟩:=h
    have Y:v=.bl true:=q
    subst Y
    obtain rfl:u=Value.bool true:=r'
    refine⟨rfl,OldK.of_keep λb o e=>?_,os,bare⟩
    cases q:H b with
    | none=>exact un.keep b o e q (by intro z;exact Qh (show b∈([]:List Addr)from z) (by simp)) (by simp)
    | some u =>
     rcases U b with z |⟨ob,xs,z⟩
     ·rw[q]at z;cases z
     ·have X:=un.frzs b ob _ z
      obtain⟨S,_⟩:=hok b _ z
      obtain⟨e2,_⟩:=y b _ X
      rw[e]at S;cases S
      exact e2
 cases Q:K.lookup a with
 | some o =>
  have e:=KX a o Q
  rw[E]at e
  cases e
  refine i (λ_=>none) (λ_=>.inl rfl) (.inr ⟨_,vs.toArray,_,Q,rfl,rfl,rfl,by rw[Yn,A];exact hl,by simpa using R⟩) (λb u z=>by have D:(none:Option HO)=some u:=z;cases D) (λb z=>Qh rfl z) λz=>Qh rfl z
 | none =>
  refine i (λb=>if b=a then some (.frz {cls:=.type "list",data:=.seq vs.toArray} (.lst (ns.map V.int)))else none) (λb=>?_) (.inl (.inr ⟨{cls:=.type "list",data:=.seq vs.toArray},if_pos rfl⟩)) (λb u z=>?_) (λb z=>?_) λ_=>Q
  ·by_cases f:b=a
   ·exact .inr ⟨_,_,if_pos f⟩
   ·exact .inl (if_neg f)
  ·by_cases f:b=a
   ·have D:=(if_pos f).symm.trans z
    cases D
    subst f
    exact⟨E,by rw[Yh];exact hl,vs,_,R,E⟩
   ·have D:=(if_neg f).symm.trans z
    cases D
  ·by_cases f:b=a
   ·exact f
   ·exact Qh (if_neg f) z
abbrev KOf{K:PySem.W.Frag}{h:Heap}(_:K.In h):PySem.W.Frag:=K
theorem Vs{l:PySem.W.OpenLaw}{n:Nat}{q:Program}{loose:List Str}{XP:(Str->Option Value)->Heap->Prop}{YP:World->Heap->Prop}{d:DefRec}{K:Params->PySem.W.Frag}{CX:World->CXT}{sp:World->Sp}
  (Q:l.most=some n) (A:n<=sizeLine) (t:d.params.defaults=[]) (P:Room k callerA)
  (D:∀(w:World)(h:Heap),YP w h->(K w.params).In h)
  (F:∀(w:World)(mg:Str->Option Value)(p:Addr)(h:Heap),(K w.params).In h->h.Ns mainGlobals mg->mg d.name=some (.ref p)->
   ∃ fd:FuncData,(∀(s:Shared)(u:Value),BindsTo s fd ⟨[u],[]⟩ [(x,u)])/\
    ∀ base:Heap,(K w.params).In base->base.Ns mainGlobals mg->FnOk l.prog w (K w.params) mg base (CX w) k p fd [x] (sp w))
  (z:∀(w:World)(H:Hp)(a:Addr)(ns:List Int),ns.length<=n->FX H->SqL (K w.params) H a (ns.map V.int)->sp w [.ref a] H (λv _=>v=.bl true) λ_ _ _=>False)
  (y:∀(w:World)(H:Hp)(s:Shared)(e:Value)(s':Shared),CX w [] H s (λ_ _ _=>False) e s'->False):
  PySem.W.WalkO q loose XP YP l.row.toRowW d [] (λf vs=>PySem.call f vs):=by
 refine Att.attach_call Q t λw s₀ m mg mb p o pm cd I a vs ns G Y R hd B r j i c N=>?_
 have KX:=D w _ Y
 obtain⟨fd,L,E⟩:=F w mg p _ KX G.T.g r
 exact Vr KX G.T.g G.T.b G.T.builtins G.T.nolimit N j i (Yt c A) P E L (λH O J=>z w H a ns c O J) λH e s'=>y w H m e s'
abbrev CX0:CXT:=λ_ _ _ _ _ _=>False
abbrev E0:XK:=λ_ _ _=>False
structure Fun(K:PySem.W.Frag)(x qual:Str)(st:Stmt)(f:Addr)(fd:FuncData):Prop where
 ex:∃(oc:Value)(od:Option Addr)(kV doc pm:Value)(an:Option Addr)(cdv ct:Value)(osl:Array (Option Value)),
  fd=PySem.W.fnOf x qual (C8 st) (Be st) (Aq st) .none kV doc pm an cdv ct/\K.lookup f=some ⟨oc,od,.func fd,osl⟩/\PySem.W.codeIn K cdv qual=true
 kp:PySem.W.keepIn K (.ref f)=true
section
variable {P:Program} {w:World} {K:PySem.W.Frag} {mg:Str->Option Value} {base:Heap}
variable {qual:Str}{st:Stmt}{f:Addr}{fd:FuncData}{ps:List Str}
theorem Fun.ok{N:List Str}{sp:Sp}(F:Fun K x qual st f fd)(S:Ay N ps (Aq st))(len:∀ vs H Q E,sp vs H Q E->vs.length=ps.length)
  (a:∀(cdv:Value)(A:Around)(outer:List Env)(s:Shared)(H:Hp)(vs:List V)(Q:VK)(E:XK),Room k (A.deeper (envOfC qual (Aq st) s.heap.objs.size f cdv))->sp vs H Q E->
   ∃ t,PSs (AW CX0 P w K mg base N qual (Aq st) f cdv A outer s H E).nox (Be st) t/\t {nx:=λ_ H'=>Q .non H',rt:=Q} (BI N vs) H):FnOk P w K mg base CX0 (k+1) f fd ps sp:=by
 obtain⟨l,m,kV,g,pm,j,cdv,ct,d,rfl,e,b⟩:=F.ex
 refine E6 e b S len λA outer s H vs Q E i c=>?_
 obtain⟨t,h,q⟩:=a cdv A outer s H vs Q E i c
 exact⟨t,h.nox,q⟩
theorem Fun.binds(F:Fun K x qual st f fd)
  (h:∀(kV a pm:Value)(b:Option Addr)(cdv ct:Value)(us:List Value),us.length=ps.length->bindArgs (PySem.W.fnOf x qual (C8 st) (Be st) (Aq st) .none kV a pm b cdv ct) ⟨us,[]⟩=pure (ps.zip us)):Binds K fd ps []:=by
 obtain⟨g,i,kV,a,pm,b,cdv,ct,c,rfl,e,d⟩:=F.ex
 exact .all (h kV a pm b cdv ct)
theorem LV{e:Value}{g d:Option Addr}{b:Array (Option Value)}{kV a pm cdv ct:Value}(l:K.lookup f=some ⟨e,g,.func (PySem.W.fnOf x qual (C8 st) (Be st) (Aq st) .none kV a pm d cdv ct),b⟩)
  (c:PySem.W.codeIn K cdv qual=true) (k:PySem.W.keepIn K (.ref f)=true):Fun K x qual st f (PySem.W.fnOf x qual (C8 st) (Be st) (Aq st) .none kV a pm d cdv ct):=⟨⟨e,g,kV,a,pm,d,cdv,ct,b,rfl,l,c⟩,k⟩
end
section
variable {X:Cx}
theorem pv(i:Nat){pos:Pos}(b:X.N[i]?=some x:=by rfl)(c:Vis X.env.scope x:=by first | exact Or.inl rfl | exact Or.inr (Or.inl rfl)| exact Or.inr (Or.inr rfl))(hd:(x==("__debug__":Str))=false:=by decide)
  (a:(x==("__classdict__":Str))=false:=by decide):PE X (.Name x pos) (Lf i):=Lg b c hd a
end
theorem A0{c A B:Prop}[Decidable c](h1:c->A)(h2:¬ c->B):if c then A else B:=by
 by_cases h:c
 ·rw[if_pos h]
  exact h1 h
 ·rw[if_neg h]
  exact h2 h
def Same(H H':Hp):Prop:=∀ b o,H b=some o->H' b=some o
theorem Same.refl(H:Hp):Same H H:=λ_ _ h=>h
variable {H:Hp}
theorem Same.trans{H1 H2:Hp}(a:Same H H1)(b:Same H1 H2):Same H H2:=λc o h=>b c o (a c o h)
variable {H':Hp}
theorem Same.free(e:Same H H'){l:Addr}(h:H' l=Option.none):H l=Option.none:=by
 cases q:H l with
 | none=>rfl
 | some o =>
  rw[e l o q]at h
  cases h
theorem Same.seq{xs:List V}(e:Same H H')(h:SqL K H a xs):SqL K H' a xs:=by
 rcases h with(h |⟨o,h⟩)| h
 ·exact .inl (.inl (e _ _ h))
 ·exact .inl (.inr ⟨o,e _ _ h⟩)
 ·exact .inr h
end L2
namespace L3
open PySem PySem.Spec PyProof.Rows L2
namespace Tb
def hop(M:Nat):Nat->Nat->Nat
 | 0,i=>i
 | n+1,i=>hop M n ((i*5+1) % M)
def cover(M:Nat):Bool:=(List.range M).all λi=>(List.range M).all λj=>(List.range M).any λn=>hop M n i==j
end Tb
def bt(w:World):Bool:=w.params.followText "set-order"
structure Tab(w:World)(es:Array (Int×Value))(t:SetTable)(ks:List Str):Prop where
 el:∀ e∈es.toList,∃ x u,e=(hashStr w x,Value.str x u)
 pm:(es.toList.map λe=>strOf e.2).Perm ks
 nd:ks.Nodup
 ft:t.fits es.size=true
 ld:bt w=false->t.led=true
 pl:t.plain=true->ks=[]
def SS(w:World)(h:Heap)(a:Addr)(ks:List Str):Prop:=∃ o es ep t,h.get? a=some o/\o.ExactSet/\o.data=.set es ep t/\Tab w es t ks
namespace Tab
variable {w:World} {es es':Array (Int×Value)} {t t':SetTable} {ks ks':List Str}
theorem len(T:Tab w es t ks):es.size=ks.length:=by
 have:=T.pm.length_eq
 rw[Yh,YS]at this
 exact this
theorem mem(T:Tab w es t ks)(k:Str):k∈ks↔∃ e∈es.toList,Value.isStrOf k e.2=true:=by
 rw[<- T.pm.mem_iff,YC]
 constructor
 ·rintro⟨e,a,rfl⟩
  obtain⟨x,u,rfl⟩:=T.el e a
  exact⟨_,a,by show Value.isStrOf x (.str x u)=true;simp[Value.isStrOf]⟩
 ·rintro⟨e,a,h⟩
  obtain⟨x,u,rfl⟩:=T.el e a
  refine⟨_,a,?_⟩
  obtain⟨t,b⟩:=Value.isStrOf_shape h
  injection b
end Tab
section
variable {prog:Program} {w:World} {A:Around} {E:Value->Shared->Prop} {s:Shared}
end
section
variable {prog:Program} {w:World} {A:Around} {E:Value->Shared->Prop} {s:Shared}
variable {h:Heap}{a:Addr}{ks:List Str}
theorem SS.kept{h':Heap}(S:SS w h a ks)(k:∀ o,h.get? a=some o->h'.get? a=some o):SS w h' a ks:=by
 obtain⟨o,es,c,t,b,r⟩:=S
 exact⟨o,es,c,t,k o b,r⟩
theorem SS.nd(S:SS w h a ks):ks.Nodup:=by
 obtain⟨o,es,c,t,b,_,_,T⟩:=S
 exact T.nd
end
section
variable {prog:Program} {w:World} {A:Around} {E:Value->Shared->Prop} {s:Shared}
end
section
variable {prog:Program} {w:World} {A:Around} {E:Value->Shared->Prop} {s:Shared}
end
section
variable {prog:Program} {w:World} {A:Around} {E:Value->Shared->Prop} {s:Shared}
end
section
variable {prog:Program} {w:World} {A:Around} {E:Value->Shared->Prop} {s:Shared}
end
end L3
namespace L2
open PySem PySem.Spec PyProof.Rows
section
variable {prog:Program} {w:World} {A:Around} {R:Result->Shared->Prop} {s:Shared}
theorem Vt{elt target iter:Expr}{ifs:List Expr}{scope:Scope}{pos:Pos}{it k:Value}{env:Env}{E':Value->Shared->Prop}(I:Nat->Shared->Prop)
  (l:∀ e s',E' e s'->notedBy (model prog w) A env (λe s'=>R (.error e) s') e s')
  (q:∀ n s,I n s->wpAny (model prog w) A (pyNext it) (λr a=>match r with
   | none=>R (.ok .next) a
   | some v=>wpAny (model prog w) A (letOwnedTupleGo target it v) (λ_ s₁'=>wpAny (model prog w) A (assign target env v) (λ_ d=>
     wpAny (model prog w) A (forIn ifs true λc r=>if r=true then do let ok <- isTrue c env (eval c env);pure (ForInStep.yield ok)else pure (ForInStep.yield r)) (λok b=>
      if ok=true then wpAny (model prog w) A (eval elt env) (λx f=>
       wpAny (model prog w) A (call (.builtin "list.append") [k,x]) (λ_ i=>∃ m,m < n/\I m i) E' f) E' b
      else ∃ m,m < n/\I m b) E' d) E' s₁') E' a) E' s)
  (n:Nat) (h:I n s):
  codeAny (model prog w) A (.compLoop (.ListComp elt [⟨target,iter,ifs,0⟩] scope pos) 0 it k env) R s:=by
 refine codeAny_loop rfl I (λn s u=>?_) n h
 show wpAny _ A ((compTurn (.ListComp elt [⟨target,iter,ifs,0⟩] scope pos) 0 it k env).onRaise (λx=>do noteFrame x env;theTreesLotGoes x)) _ _ s
 refine wpAny_noted ?_
 rw[compTurn_list]
 refine Qi (wpAny_standAt (Qi (wpAny_mono (q n s u) (λr a g=>?_) l)))
 cases r with
 | none=>exact Qj g
 | some v =>
  refine Qi (wpAny_mono g (λ_ s₁' h₁'=>?_) l)
  refine Qi (wpAny_mono h₁' (λ_ d o=>Qi (wpAny_mono o (λok b j=>?_) l)) l)
  cases ok with
  | false=>exact Qj ⟨rfl,j⟩
  | true =>
   exact Qi (Qi (wpAny_mono j (λx f t=>Qi (wpAny_mono t (λ_ i p=>Qj (Qj ⟨rfl,p⟩)) l)) l))
end
def PF(X:Cx)(ifs:List Expr)(t:TT):Prop :=
 ∀(pins:List (Addr×Obj))(s:Shared)(σ:St)(H:Hp)(Q:Bool->Hp->Prop),Inv X pins σ H s->t σ H Q->
  wpAny (model X.prog X.w) X.A (forIn ifs true λc r=>if r=true then do let ok <- isTrue c X.env (eval c X.env);pure (ForInStep.yield ok)else pure (ForInStep.yield r)) (TP X pins σ Q) X.xe s
def Vu:TT:=λ_ H Q=>Q true H
variable {X:Cx}
theorem Vv:PF X [] Vu:=λ_ _ _ H _ I h=>wpAny_tests_nil ⟨H,I,h⟩
theorem Vw{c:Expr}{t:TT}(hc:PT X c t):PF X [c] t:=λpins s σ H Q I h=>wpAny_tests_one (hc pins s σ H Q I h)
def cxB(X:Cx)(Nc:List Str)(scope:Scope)(cl:List (Str×Addr))(C:Addr)(fp:List Addr)(s:Shared)(H:Hp):Cx :=
 {X with N:=Nc,s₀:=s,H₀:=H,env:=compEnvC scope cl C X.env,outer:=X.stack,ex:=fp,fn:=λ_=>false,pn:=[],xe:=λ_ _=>False}
structure Blk(X:Cx)(Nc:List Str)(scope:Scope)(cl:List (Str×Addr))(cap:St->St):Prop where
 clos:closureFor scope X.env=pure cl
 kind:scope.kind=.function
 names:∀ x∈scope.names,x.2=.local->scope.names.lookup x.1=some .local
 nocell:∀ y∈scope.names,y.2≠.cell
 sub:∀ y c,cl.lookup y=some c->X.env.cells.lookup y=some c
 has:∀ y,((relabel scope X.env).names.lookup y=some .cell\/(relabel scope X.env).names.lookup y=some .free)->∃ c,cl.lookup y=some c
 take:∀(σ:St)(i:Nat)(y:Str)(v:V),Nc[i]?=some y->(cap σ)[i]?=some (some v)->Vis (relabel scope X.env) y->
  ((relabel scope X.env).names.lookup y=some .cell\/(relabel scope X.env).names.lookup y=some .free)/\Vis X.env.scope y/\X.env.scope.names.lookup y≠some .local/\∃ j:Nat,X.N[j]?=some y/\σ[j]?=some (some v)
 len:∀ σ:St,(cap σ).length=Nc.length
variable {scope:Scope}
theorem Vx{env:Env}(h:∀ y∈scope.names,y.2≠.free):relabel scope env=scope:=by
 unfold relabel
 rw[map_eq_self (l:=scope.names) (λx a=>by
  obtain⟨n,k⟩:=x
  have:(k==NameKind.free)=false:=by simpa using h _ a
  simp[this])]
variable {x:Str}
theorem Iu{names:List (Str×NameKind)}{k:NameKind}(h:names.lookup x=some k):(x,k)∈names:=PySem.mem_of_lookup h
theorem BB{Nc:List Str}(kind:scope.kind=.function)(all:∀ y∈scope.names,y.2≠.free/\y.2≠.cell)(names:∀ x∈scope.names,x.2=.local->scope.names.lookup x.1=some .local):
  Blk X Nc scope [] (λ_=>List.replicate Nc.length none) where
 clos:=closureFor_none λx a=>(all x a).1
 kind:=kind
 names:=names
 nocell:=λy b=>(all y b).2
 sub:=λy c h=>by cases h
 has:=λy h=>by
  rw[Vx λz d=>(all z d).1]at h
  rcases h with h | h
  ·exact Qh rfl (all _ (Iu h)).2
  ·exact Qh rfl (all _ (Iu h)).1
 take:=λσ i y v h1 h2 e=>by
  rw[List.getElem?_replicate]at h2
  split at h2 <;> cases h2
 len:=λσ=>List.length_replicate ..
def cOk(cap:St->St)(g:TG)(tt:TT)(te:TE)(K:List V->Hp->Prop)(σ:St)(J:It)(H1:Hp):Prop :=
 ∃ W:Nat->Nat->St->Hp->List V->Prop,(∃ m,W 0 m (cap σ) H1 [])/\∀ i m σ' H' ys,W i m σ' H' ys->
  (J.stop i H'/\K ys H')\/
  (J.go i H'/\ys.length < sizeLine/\∃ N:St->Hp->List V->Prop,(∀ σ2 H2 ys2,N σ2 H2 ys2->∃ m',m' < m/\W (i+1) m' σ2 H2 ys2)/\
   ∀ x H2,J.yld i H' x H2->g x σ' H2 λσ3 H3=>tt σ3 H3 λb H4=>if b=true then te σ3 H4 λy H5=>N σ3 H5 (ys++[y])else N σ3 H4 ys)
def FY(wi:TI)(cap:St->St)(g:TG)(tt:TT)(te:TE):TE:=λσ H Q=>wi σ H λJ H1=>cOk cap g tt te (λys H'=>∀ a,H' a=none->Q (.ref a) (upd H' a (.lst ys))) σ J H1
section
variable {X:Cx} {elt tg iter:Expr} {ifs:List Expr} {scope:Scope} {pos:Pos} {g:TG} {tt:TT} {te:TE} {Nc:List Str} {cap:St->St} {cl:List (Str×Addr)}
theorem LW(hc:X.calm=true)(B:Blk X Nc scope cl cap)(hg:∀ C fp s H,PG (cxB X Nc scope cl C fp s H) tg g)(ht:∀ C fp s H,PF (cxB X Nc scope cl C fp s H) ifs tt)(he:∀ C fp s H,PE (cxB X Nc scope cl C fp s H) elt te)
  {pins:List (Addr×Obj)} {σ:St} {H2:Hp} {P:Shared} {E:Value->Shared->Prop} {RR:Value->Addr->Result->Shared->Prop} {J:It} {fp:List Addr} {it:Addr} {tn:Nat->Heap->Prop} {K:List V->Hp->Prop}
  (F:Inv X pins σ H2 P) (T:Da X.prog X.w X.K tg J fp it tn) (st2:tn 0 P.heap) (f2:∀ b∈fp,Ce X pins H2 b) (w2:cOk cap g tt te K σ J H2)
  (fin:∀(D C:Addr)(s':Shared)(H':Hp)(ys:List V)(oC:Obj),H' D=none->K ys H'->Inv X pins σ (upd H' D (.lst ys)) s'->Ce X pins (upd H' D (.lst ys)) C->s'.heap.get? C=some oC->(∀ v,oC.data≠.cell v)->(∃ m,s'.heap.Ns C m)->RR (.ref D) C (.ok .next) s'):
  wpAny (model X.prog X.w) X.A (newList []) (λacc s₃=>wpAny (model X.prog X.w) X.A (newFunctionEnv scope X.env.globals cl [] X.env.qual none .none (some X.env)) (λcenv s₄=>
   codeAny (model X.prog X.w) X.A (.compStart (.ListComp elt [⟨tg,iter,ifs,0⟩] scope pos) 0 (.ref it) acc {cenv with scope:=relabel scope X.env}) (RR acc cenv.locals) s₄) E s₃) E P:=by
 refine wpAny_newObj_type (wpAny_newFunctionEnv B.nocell (by intro y hy;simp at hy) (λS G t=>?_) B.kind)
 dsimp only at G t ⊢
 generalize hP2:P.heap.push {cls:=.type "list",dict:=none,data:=.seq ([]:List Value).toArray}=P2 at G t ⊢
 generalize L:P.heap.objs.size=D at G t ⊢
 have hCs:P2.objs.size=D+1:=by rw[<- hP2,Qn,L]
 generalize hCC:P2.objs.size=C at G t hCs ⊢
 have hDC:D≠C:=Ys (by rw[hCs];exact Nat.lt_succ_self _)
 have Q:∀ b:Addr,b < D->b≠C:=λb h=>Ys (by rw[hCs];exact Nat.lt_succ_of_lt h)
 have leC:D<=C:=by rw[hCs];exact Nat.le_succ _
 have old:∀ b o,P.heap.get? b=some o->S.get? b=some o:=λb o e=>by
  have f:=Ql e
  rw[L]at f
  refine t.extBut b o (Q b f) (Qk _ ?_)
  rw[<- hP2]
  exact Qk _ e
 have hacc:S.get? D=some {cls:=.type "list",data:=.seq #[]}:=by
  refine t.extBut D _ hDC (Qk _ ?_)
  rw[<- hP2,<- L]
  exact Qm _ rfl
 have lt2:∀ b o,P.heap.get? b=some o->b < D:=λb o e=>by rw[<- L];exact Ql e
 have U:∀ b∈fp,b < D:=λb f=>by
  obtain⟨o,e,_⟩:=T.obj _ _ st2 b f
  exact lt2 b o e
 have celt:∀ x c,X.env.cells.lookup x=some c->c < D:=λx c e=>by
  obtain⟨v,z⟩:=F.cell x c e
  rw[<- L]
  exact z.lt
 have R:∀ p∈X.pn++pins,p.1 < D:=λp hp=>lt2 _ _ (F.pin p hp).1
 have fstk:∀ b∈fp,b∉frs X.stack:=λb f z=>(Yo.mp (F.stkSub b z)).elim (f2 b f).2.1 (f2 b f).2.2.1
 have hDn:H2 D=none:=F.hok.fresh (by rw[L];exact Yr _)
 have hCn:H2 C=none:=F.hok.fresh (by rw[L];exact leC)
 have sz0:X.s₀.heap.objs.size<=D:=by rw[<- L];exact F.sz
 let Xc:=cxB X Nc scope cl C fp P H2
 have okc:Xc.Ok:=by
  refine⟨F.ok.mod,?_,F.ok.glob,F.ok.blt,?_,λx y c h1 h2=>F.ok.inj x y c (B.sub x c h1) (B.sub y c h2),λx hx=>B.has x hx,(λx c h=>by cases h),F.ok.hd,F.ok.frames,.inl rfl,?_,F.bs,Yt F.ok.bsz F.sz,?_,fstk,F.stack,F.stkFree⟩
  ·exact B.kind
  ·show P.heap.objs.size<=C
   rw[L];exact leC
  ·intro b f
   refine⟨?_,λx c e=>?_⟩
   ·exact Q b (U b f)
   ·exact(f2 b f).2.2.2.2.1 x c (B.sub x c e)
  ·intro b o e f
   rcases(f2 b f).2.2.2.1 with z | z
   ·exact F.ok.noex b o e z
   ·exact Qh (Yu (Ql (F.ok.bs b o e).1) z) (YJ _)
 have I0:∀ tk,Inv Xc (X.pn++pins) (cap σ) H2 {P with heap:=S,toks:=tk}:=λtk=>by
  refine⟨okc,rfl,F.bare,Un.kept old,⟨_,G,λi y v h1 h2 h3=>?_⟩,λx c e=>?_,hCn,λx c e=>F.freeC x c (B.sub x c e),λp hp=>?_,F.hok.kept old,B.len σ⟩
  ·obtain⟨k1,k2,k3,j,k4,k5⟩:=B.take σ i y v h1 h2 h3
   obtain⟨m,hn,hl⟩:=F.loc
   obtain⟨u,r,l⟩:=hl j y v k4 k5 k2
   refine⟨u,r,.inr ⟨k1,?_⟩⟩
   rcases l with⟨l,_⟩|⟨_,c,e,z⟩
   ·exact Qh l k3
   ·obtain⟨c',e'⟩:=B.has y k1
    have:=B.sub y c' e'
    rw[e]at this;cases this
    obtain⟨oc,ec,dc⟩:=z
    exact⟨c,e',oc,old _ _ ec,dc⟩
  ·obtain⟨v,oc,ec,dc⟩:=F.cell x c (B.sub x c e)
   exact⟨v,oc,old _ _ ec,dc⟩
  ·have Y:p∈X.pn++pins:=by simpa[Xc,cxB]using hp
   obtain⟨e,n,ne,nf,d⟩:=F.pin p Y
   exact⟨old _ _ e,n,Q _ (R p Y),λz=>(Yo.mp (F.stkSub _ z)).elim ne nf,d⟩
 have fpc:∀{H':Hp}{o:Obj},(∀ b∈fp,H' b=none)->∀ b∈fp,Ce Xc ((X.pn++pins)++[(D,o)]) H' b:=λ{H' o}hn b f=>by
  refine⟨hn b f,Q b (U b f),fstk b f,.inl f,λx c e=>(f2 b f).2.2.2.2.1 x c (B.sub x c e),λp hp=>?_⟩
  ·have Y:p∈X.pn++pins\/p=(D,o):=by
    rcases Yz.mp hp with z | z
    ·cases z
    ·rcases Yz.mp z with z | z
     ·exact .inl z
     ·exact .inr (YA.mp z)
   rcases Y with z | z
   ·exact(f2 b f).2.2.2.2.2 p z
   ·subst z
    exact Nat.ne_of_gt (U b f)
 obtain⟨W,⟨m0,w0⟩,turn⟩:=w2
 have loop:∀ tk,codeAny (model X.prog X.w) X.A (.compLoop (.ListComp elt [⟨tg,iter,ifs,0⟩] scope pos) 0 (.ref it) (.ref D) Xc.env) (RR (.ref D) C) {P with heap:=S,toks:=tk}:=by
  intro tk
  refine Vt (E':=λ_ _=>False)
   (λn s'=>∃(i:Nat)(σ':St)(H':Hp)(ys:List V)(I:List Value)(k:Nat),Inv Xc (X.pn++pins) σ' H' s'/\tn i s'.heap/\(∀ b∈fp,H' b=none)/\H' D=none/\s'.heap.get? D=some {cls:=.type "list",data:=.seq I.toArray k}/\
    Vals ys I/\ys.length<=sizeLine/\W i n σ' H' ys) (λ_ _ z=>z.elim) ?_ m0
   ⟨0,cap σ,H2,[],[],0,I0 tk,T.keep _ _ _ st2 λb _ o e=>old b o e,λb f=>(f2 b f).1,hDn,hacc,.nil,YU _,w0⟩
  rintro n s3 ⟨i,σ3,Z,ys,I,k,I3,st3,fr3,hD3,o3,rv3,hz3,w3⟩
  have I3':Inv Xc ((X.pn++pins)++[(D,{cls:=.type "list",data:=.seq I.toArray k})]) σ3 Z s3:=I3.pins_of λp hp=>by
   have Y:p∈X.pn++pins\/p=(D,{cls:=.type "list",data:=.seq I.toArray k}):=by
    rcases Yz.mp hp with z | z
    ·exact .inl z
    ·exact .inr (YA.mp z)
   rcases Y with z | z
   ·exact I3.pin p (by simpa[Xc,cxB]using z)
   ·subst z
    refine⟨o3,hD3,hDC,λz=>?_,(λv z=>by cases z)⟩
    ·obtain⟨_,o,ho,_⟩:=F.stack.mem z
     exact Qh (lt2 _ _ ho) (YJ _)
  rcases turn i n σ3 Z ys w3 with⟨stop,qn⟩|⟨go,hlt,N,hN,step⟩
  ·refine thn (T.done Xc rfl rfl rfl hc i _ s3 σ3 Z _ I3' (fpc fr3) st3 stop) λr s4 zz1=>?_
   obtain⟨hr,I4⟩:=zz1
   subst hr
   have pD:=I4.pin (D,{cls:=.type "list",data:=.seq I.toArray k}) (by simp)
   obtain⟨m4,hn4,_⟩:=I4.loc
   obtain⟨oC,es,ep,eC,dC,rC⟩:=id hn4
   have hD4:Z D=none:=hD3
   have hC4:Z C=none:=I4.free
   have O:∀ b u,Z b=some u->upd Z D (.lst ys) b=some u:=λb u e=>by rw[AN (DL e hD4)];exact e
   have un:Un (frs X.stack) fp H2 (upd Z D (.lst ys)) P.heap s4.heap:=by
    have u:=I4.base
    refine⟨u.keep,u.slot,λb o e n hx=>?_,u.there,λb xs e=>O _ _ (u.tups b xs e),λb o v e=>O _ _ (u.frzs b o v e),λb ps e=>?_⟩
    ·rw[AN (Ys (lt2 b o e))]
     exact u.free b o e n hx
    ·obtain⟨more,q⟩:=u.tbls b ps e
     exact⟨more,O _ _ q⟩
   have hok:HOk X.prog X.w (upd Z D (.lst ys)) s4.heap:=λb u e=>by
    by_cases f:b=D
    ·subst f
     rw[BA]at e;cases e
     exact⟨hz3,I,k,rv3,pD.1⟩
    ·rw[AN f]at e
     exact(I4.hok b u e).stay (λ_ _ _ q=>q) (λc q=>O _ _ q) λc xs q=>O _ _ q
   have I5:Inv X pins σ (upd Z D (.lst ys)) s4:=F.call' (ch:=fp) I4.os un hok I4.bare λb f=>⟨(f2 b f).2.2.2.1,(f2 b f).2.1,(f2 b f).2.2.2.2.1,(f2 b f).2.2.2.2.2⟩
   refine fin D C s4 Z ys oC hD4 qn I5 ⟨?_,?_,λz=>?_,.inr (Yt sz0 leC),λx c e=>?_,λp hp=>?_⟩ eC (λv z=>by rw[dC]at z;cases z) ⟨m4,hn4⟩
   ·rw[AN (YV hDC)];exact hC4
   ·have:=F.lt
    rw[L]at this
    exact YV (Q _ this)
   ·exact F.nofs (a:=C) (by rw[L];exact leC) z
   ·exact Q _ (celt x c e)
   ·exact Q _ (R p hp)
  ·refine thn (T.item Xc rfl rfl rfl hc i _ s3 σ3 Z _ I3' (fpc fr3) st3 go) λr s4 zz2=>?_
   obtain⟨u,hr,h4⟩:=zz2
   subst hr
   refine thn h4 λ_ s5 zz3=>?_
   obtain⟨x,H5,I5,r5,y5,st5,fr5⟩:=zz3
   have I5':=I5.pinned (fpc fr5) (T.obj _ _ st5)
   refine thn (hg C fp P H2 _ s5 σ3 H5 x u _ I5' r5 (step x H5 y5)) λ_ s6 zz4=>?_
   obtain⟨σ6,H6,I6,q6⟩:=zz4
   refine thn (ht C fp P H2 _ s6 σ6 H6 _ I6 q6) λok s7 zz5=>?_
   obtain⟨H7,I7,q7⟩:=zz5
   have again:∀{σ8:St}{H8:Hp}{s8:Shared},Inv Xc (((X.pn++pins)++[(D,{cls:=.type "list",data:=.seq I.toArray k})])++EC fp s5.heap) σ8 H8 s8->
     tn (i+1) s8.heap/\(∀ b∈fp,H8 b=none)/\s8.heap.get? D=some {cls:=.type "list",data:=.seq I.toArray k}/\H8 D=none:=λ{σ8 H8 s8}I8=>by
    refine⟨T.keep _ _ _ st5 λb f o e=>(I8.pin (b,o) (YL _ (YL _ (E4 f e)))).1,λb f=>?_,?_⟩
    ·obtain⟨o,e,d⟩:=T.obj _ _ st5 b f
     exact(I8.pin (b,o) (YL _ (YL _ (E4 f e)))).2.1
    ·have:=I8.pin (D,{cls:=.type "list",data:=.seq I.toArray k}) (by simp)
     exact⟨this.1,this.2.1⟩
   cases ok with
   | false =>
    rw[if_neg YT]at q7 ⊢
    obtain⟨m',hm,w7⟩:=hN _ _ _ q7
    obtain⟨t7,f7,o7,d7⟩:=again I7
    exact⟨m',hm,i+1,σ6,H7,ys,I,k,I7.unpinned.unpinned,t7,f7,d7,o7,rv3,hz3,w7⟩
   | true =>
    rw[if_pos rfl]at q7 ⊢
    refine thn (he C fp P H2 _ s7 σ6 H7 _ I7 q7) λy s8 zz6=>?_
    obtain⟨yv,H8,I8,r8,q8⟩:=zz6
    obtain⟨m',hm,w8⟩:=hN _ _ _ q8
    obtain⟨t8,f8,o8,d8⟩:=again I8
    have hlen:=rv3.length
    refine wpAny_list_append_plain (s:=s8) (items:=I.toArray) ⟨k,o8⟩ (λh9 zz7 sb9=>?_) (by rw[Yn];lia)
    obtain⟨k9,l9⟩:=zz7
    have I9:Inv Xc (X.pn++pins) σ6 H8 {s8 with heap:=h9}:=by
     refine I8.unpinned.unpinned.turned (t':=s8.toks) (λb o f e=>(sb9.2 b f).trans e) d8 ?_ (.inr ?_) (λx c e=>?_) λp hp=>?_
     ·exact hDC
     ·show P.heap.objs.size<=D
      rw[L];exact Yr _
     ·exact Ys (celt x c (B.sub x c e))
     ·exact Ys (R p (by simpa[Xc,cxB]using hp))
    refine⟨m',hm,i+1,σ6,H8,ys++[yv],I++[y],k9,I9,?_,f8,d8,?_,rv3.append (.cons r8 .nil),?_,w8⟩
    ·refine T.keep _ _ _ t8 λb f o e=>?_
     exact(sb9.2 b (Ys (U b f))).trans e
    ·rw[l9]
     simp
    ·rw[Yj,List.length_singleton]
     lia
 have env_eq:Xc.env=compEnvC scope cl C X.env:=rfl
 exact codeAny_compStart_list (loop _) (T.self _ 0 _ _ _ (T.keep _ _ _ st2 λb _ o e=>old b o e) (loop _))
theorem LX{d:TI}(hc:X.calm=true)(hi:PI X tg iter d)(B:Blk X Nc scope cl cap)(t:∀ C fp s H,PG (cxB X Nc scope cl C fp s H) tg g)(u:∀ C fp s H,PF (cxB X Nc scope cl C fp s H) ifs tt)(y:∀ C fp s H,PE (cxB X Nc scope cl C fp s H) elt te)
  (k:∀ x,foldedSetIterable iter X.env x=pure x:=by intro _;rfl):PE X (.ListComp elt [⟨tg,iter,ifs,0⟩] scope pos) (FY d cap g tt te):=by
 intro pins s σ H Q I h
 rw[eval_ListComp]
 refine wpAny_comprehension_free (use:=none) rfl k B.clos B.kind B.names (thn (hi pins s σ H _ I h) λv S h1=>thn h1 λE s2 h2=>?_)
 obtain⟨Y,fp,P,J,H2,e,K,T,c,G,l⟩:=h2
 subst e
 refine LW (RR:=λa C=>compPost (model X.prog X.w) X.A X.xe none (EP X pins σ Q) a C) hc B t u y K T c G l ?_
 intro D C s' H' ys R L q z F U Z ⟨m,N⟩
 obtain⟨i,n,_,f,r,j⟩:=F
 exact⟨m,N,λh' O=>⟨.ref D,_,z.turned (t':=s'.toks) (λb o p e=>(O.2 b p).trans e) i n f r j,rfl,q D L⟩⟩
theorem Vy{z:TI}{i:Nat}{pos' a:Pos}(hN:X.N.Nodup)(f:X.N[i]?=some x)(R:X.env.scope.names.lookup x=some .local)(r:swapsWith (.ListComp elt [⟨tg,iter,ifs,0⟩] scope pos) (some (.Name x pos')) a.line X.env=pure true)
  (hc:X.calm=true) (hi:PI X tg iter z) (B:Blk X Nc scope cl cap) (hg:∀ C fp s H,PG (cxB X Nc scope cl C fp s H) tg g) (ht:∀ C fp s H,PF (cxB X Nc scope cl C fp s H) ifs tt) (he:∀ C fp s H,PE (cxB X Nc scope cl C fp s H) elt te)
  (U:∀ x,foldedSetIterable iter X.env x=pure x:=by intro _;rfl):PS X (.Assign [.Name x pos'] (.ListComp elt [⟨tg,iter,ifs,0⟩] scope pos) a) (HU (FY z cap g tt te) (CH i)):=by
 intro pins s σ H P I h
 rw[exec_Assign_Name_used _ _ _ _ r]
 refine Qi (wpAny_standAt (Qi ?_))
 show wpAny _ X.A (do let _ <- comprehension (.ListComp elt [⟨tg,iter,ifs,0⟩] scope pos) scope X.env _ (newList []) false (eval iter X.env) (some (assign (.Name x pos') X.env))) _ _ s
 refine Qi (wpAny_mono (wpAny_comprehension_free (use:=some (assign (.Name x pos') X.env)) (Q:=λ_ s'=>SP X pins P .next s') rfl U B.clos B.kind B.names
  (thn (hi pins s σ H _ I h) λv s1 h1=>thn h1 λitv s2 h2=>?_)) (λ_ s' Z=>Qj (Qj Z)) λ_ _ e=>e)
 obtain⟨it,fp,tn,J,H2,e,I2,T,u,f2,Y⟩:=h2
 subst e
 refine LW (RR:=λl C=>compPost (model X.prog X.w) X.A X.xe (some (assign (.Name x pos') X.env)) (λ_ s'=>SP X pins P .next s') l C) hc B hg ht he I2 T u f2 Y ?_
 intro D C s' H' ys j hD q I' F n dC ⟨m,hn⟩
 obtain⟨E,L,k,y,O,G⟩:=F
 have Ip:Inv X (pins++EC [C] s'.heap) σ (upd H' D (.lst ys)) s':=I'.pinned (fp:=[C]) (λb c=>by
  have e:b=C:=by simpa using c
  subst e
  exact⟨E,L,k,y,O,G⟩) λb c=>by
   have e:b=C:=by simpa using c
   subst e
   exact⟨j,n,dC⟩
 show wpAny _ X.A (assign (.Name x pos') X.env (.ref D)) _ _ _
 refine wpAny_assign_Name (E3 Ip hN f (.inl R) (v:=.ref D) rfl (λs3 K=>?_) (.inr R))
 have S:=K.pin (C,j) (YL _ (YL _ (E4 (by simp) n)))
 obtain⟨oC',es,ep,d,t,p⟩:=hn
 rw[n]at d;cases d
 refine⟨m,⟨j,es,ep,S.1,t,p⟩,λh' sb=>⟨_,_,K.unpinned.turned (t':=s3.toks) (λb o c e=>(sb.2 b c).trans e) E L y O G,q D hD⟩⟩
end
variable {P:Program}{w:World}{H:Hp}{h:Heap}{o:HO}
theorem ObjOk.at{a:Addr}(x:ObjOk P w H h a o):∃ u,h.get? a=some u:=by
 cases o with
 | lst xs=>obtain⟨_,_,_,_,e⟩:=x;exact⟨_,e⟩
 | tup xs=>obtain⟨_,_,_,c,e,_⟩:=x;exact⟨_,e⟩
 | dK b=>obtain⟨_,_,_,_,o,_,_,e,_⟩:=x;exact⟨_,e⟩
 | dT b=>obtain⟨_,_,_,_,o,_,_,e,_⟩:=x;exact⟨_,e⟩
 | set S n=>obtain⟨o,_,_,_,e,_⟩:=x;exact⟨_,e⟩
 | ins C dx fs=>obtain⟨_,_,_,e,_⟩:=x;exact⟨_,e⟩
 | own y=>obtain⟨_,e⟩:=x;exact⟨_,e⟩
 | xd fs=>obtain⟨_,⟨_,_,_,e,_⟩,_⟩:=x;exact⟨_,e⟩
 | rng lo hi=>obtain⟨_,_,_,e⟩:=x;exact⟨_,e⟩
 | frz c u=>obtain⟨e,_⟩:=x;exact⟨_,e⟩
 | tbl ps=>exact⟨_,(show h.get? a=some _ from x)⟩
 | met f y=>exact⟨_,(show h.get? a=some _ from x)⟩
 | ext φ=>obtain⟨_,⟨_,e⟩,_⟩:=x;exact⟨_,e⟩
structure Fly(P:Program)(w:World)(outer:List Env)(H0:Hp)(s0:Shared)(H':Hp)(e C:Addr)(s':Shared):Prop where
 os:s'.os=s0.os
 bare:AllBare s'.gens
 un:Un (frs outer) [] H0 H' s0.heap s'.heap
 hok:HOk P w H' s'.heap
 fly:∃(B:Heap)(a0:Value),Heap.FlyingW B outer e (.ref C) a0 s'.heap/\∀ b,b∉frs outer->((∃ o,s0.heap.get? b=some o)\/H' b≠none)->∃ o,B.get? b=some o
 new:s0.heap.get? e=none
 free:H' e=none
def CXe(P:Program)(w:World):CXT:=λouter H0 s0 E ev s'=>∃(e C:Addr)(H':Hp),ev=.ref e/\Fly P w outer H0 s0 H' e C s'/\E (.ref C) none H'
variable {outer:List Env}{h1 h':Heap}
theorem LY{s H':Hp}{B:Heap}(un:Un (frs outer) [] s H' h h1)(hok:HOk P w H' h1)(d:∀ b∈frs outer,H' b=none)
  (r:∀ b∈frs outer,∃ o,h1.get? b=some o/\∀ vs,o.data≠.fields vs) (y:B.StaysIn h1) (l:∀ b,b∉frs outer->((∃ o,h.get? b=some o)\/H' b≠none)->∃ o,B.get? b=some o)
  (st:B.StaysIn h') (up:h1.UpToSlots h'):Un (frs outer) [] s H' h h'/\HOk P w H' h':=by
 have exact_:∀ b o,b∉frs outer->((∃ o,h.get? b=some o)\/H' b≠none)->h1.get? b=some o->h'.get? b=some o:=λb o c k e=>by
  obtain⟨o',t⟩:=l b c k
  have:=y b o' t
  rw[e]at this;cases this
  exact st b _ t
 refine⟨⟨λb o q n c f=>exact_ b o c (.inl ⟨o,q⟩) (un.keep b o q n c f),λb o q n c f=>?_,un.free,λb o q f=>?_,un.tups,un.frzs,un.tbls⟩,λa o e=>?_⟩
 ·obtain⟨A,i⟩:=un.slot b o q n c f
  obtain⟨x,j,p⟩:=r b c
  rw[i]at j;cases j
  obtain⟨g,m⟩:=up b _ i p
  exact⟨g,m⟩
 ·obtain⟨o',i⟩:=un.there b o q f
  by_cases c:b∈frs outer
  ·obtain⟨x,j,p⟩:=r b c
   obtain⟨g,m⟩:=up b _ j p
   exact⟨_,m⟩
  ·exact⟨o',exact_ b o' c (.inl ⟨o,q⟩) i⟩
 ·refine(hok a o e).stay (λb u c q=>?_) (λ_ q=>q) λ_ _ q=>q
  have v:H' b≠none:=by
   rcases c with rfl | c
   ·rw[e];simp
   ·rw[c];simp
  exact exact_ b u (λz=>v (d b z)) (.inr v) q
section
variable {X:Cx} {pins:List (Addr×Obj)} {σ:St} {H H':Hp} {s s':Shared} {e C:Addr}
theorem Fly.inv(I:Inv X pins σ H s)(F:Fly X.prog X.w X.stack H s H' e C s'){B:Heap}{h:Value}(f:Heap.FlyingW B X.stack e (.ref C) h s'.heap)
  (d:∀ b,b∉frs X.stack->((∃ o,s.heap.get? b=some o)\/H' b≠none)->∃ o,B.get? b=some o) (st:B.StaysIn h') (up:s'.heap.UpToSlots h'):Inv X pins σ H' {s' with heap:=h'}:=by
 have a:∀ b∈frs X.stack,H' b=none:=λb c=>by
  obtain⟨_,o,g,_⟩:=I.stack.mem c
  exact F.un.free b o g (I.stkFree b c) (by simp)
 obtain⟨u,k⟩:=LY F.un F.hok a (λb c=>(f.2.2.1.mem c).2) f.1 d st up
 exact I.call' (s':={s' with heap:=h'}) (ch:=[]) F.os u k F.bare (λb z=>Qh z (by simp))
end
variable {K:PySem.W.Frag}{mg:Str->Option Value}{base:Heap}{N:List Str}{qual:Str}{f:Addr}{cd:Value}{A:Around}{s:Shared}{E:XK}
theorem Vz:
  US (CXe P w) (AW (CXe P w) P w K mg base N qual scope f cd A outer s H E) E:=by
 intro pins σ Hc r ev s' I ⟨e,C,H',m,F,q⟩
 subst m
 obtain⟨B,p,l,g⟩:=F.fly
 show wpAny _ _ (leaving _ (.ref e)) _ _ s'
 refine wpAny_leaves_onW I.ok.frames rfl l λh' h up=>?_
 have c:=F.inv I l g h.1 up
 refine⟨e,C,H',rfl,⟨c.os,c.bare,c.base,c.hok,⟨B,p,h,λb n d=>?_⟩,?_,F.free⟩,q⟩
 ·have j:b∉frs (AW (CXe P w) P w K mg base N qual scope f cd A outer s H E).stack:=λz=>by
   rcases Yo.mp (c.stkSub b z)with a | a
   ·rcases d with⟨o,k⟩| i
    ·have h1:=Ql k
     have h2:=I.ok.above
     rw[a]at h1
     exact Qh (Yu h1 h2) (YJ _)
    ·rw[a]at i;exact i c.free
   ·exact n a
  refine g b j ?_
  rcases d with⟨o,k⟩| i
  ·exact .inl (I.base.there b o k (by intro z;cases z))
  ·exact .inr i
 ·cases z:s.heap.get? e with
  | none=>rfl
  | some o =>
   obtain⟨o',a⟩:=I.base.there e o z (by intro z;cases z)
   rw[F.new]at a;cases a
variable {pins:List (Addr×Obj)}{σ:St}{e:Addr}
theorem VB
    {Hc:Hp} {g:Shared}  {C:Addr} {vs:List Value} (I:Inv (AW (CXe P w) P w K mg base N qual scope f cd A outer s H E) pins σ Hc g) (h:Heap.MadeExcOf g.heap h1 e (.ref C) vs) (q:E (.ref C) none Hc):
  (AW (CXe P w) P w K mg base N qual scope f cd A outer s H E).xe (.ref e) {g with heap:=h1}:=by
 have p:∀ env∈(AW (CXe P w) P w K mg base N qual scope f cd A outer s H E).stack,∀ b,env.frame=some b->b∈frs (AW (CXe P w) P w K mg base N qual scope f cd A outer s H E).stack:=λenv B b j=>List.mem_filterMap.mpr ⟨env,B,j⟩
 show wpAny _ _ (leaving _ (.ref e)) _ _ _
 refine wpAny_leaves_madeW (base:=PySem.W.hideAll g.heap (frs (AW (CXe P w) P w K mg base N qual scope f cd A outer s H E).stack)) I.ok.frames rfl (λb o z=>PySem.W.of_hideAll _ z) (PySem.W.funFrames_hide I.stack p) h λh' t y x v up=>?_
 have m:∀ b,b∉frs (AW (CXe P w) P w K mg base N qual scope f cd A outer s H E).stack->((∃ o,g.heap.get? b=some o)\/Hc b≠none)->∃ o,(PySem.W.hideAll g.heap (frs (AW (CXe P w) P w K mg base N qual scope f cd A outer s H E).stack)).get? b=some o:=λb j c=>by
  have:∃ o,g.heap.get? b=some o:=by
   rcases c with z | z
   ·exact z
   ·cases a:Hc b with
    | none=>exact Qh a z
    | some o=>exact(I.hok b o a).at
  obtain⟨o,i⟩:=this
  exact⟨o,PySem.W.hideAll_get _ i j⟩
 obtain⟨u,k⟩:=LY (P:=P) (w:=w) (Un.kept h.keeps) (I.hok.kept h.keeps) I.stkFree (λb j=>by
  obtain⟨_,o,i,d⟩:=I.stack.mem j
  exact⟨o,h.keeps _ _ i,d⟩) (λb o z=>h.keeps _ _ (PySem.W.of_hideAll _ z)) m y.1 up
 have l:=I.call' (s':={g with heap:=h'}) (ch:=[]) rfl u k I.bare (λb z=>Qh z (by simp))
 have en:Hc e=none:=by
  cases z:Hc e with
  | none=>rfl
  | some o =>
   obtain⟨o',a⟩:=(I.hok e o z).at
   rw[h.new]at a;cases a
 refine⟨e,C,Hc,rfl,⟨l.os,l.bare,l.base,l.hok,⟨_,_,y,λb j c=>?_⟩,?_,en⟩,q⟩
 ·have r:b∉frs (AW (CXe P w) P w K mg base N qual scope f cd A outer s H E).stack:=λz=>by
   rcases Yo.mp (l.stkSub b z)with a | a
   ·rcases c with⟨o,i⟩| n
    ·have h1:=Ql i
     have h2:=I.ok.above
     rw[a]at h1
     exact Qh (Yu h1 h2) (YJ _)
    ·rw[a]at n;exact n l.free
   ·exact j a
  refine m b r ?_
  rcases c with⟨o,i⟩| n
  ·exact .inl (I.base.there b o i (by intro z;cases z))
  ·exact .inr n
 ·cases z:s.heap.get? e with
  | none=>rfl
  | some o =>
   obtain⟨o',a⟩:=I.base.there e o z (by intro z;cases z)
   rw[h.new]at a;cases a
theorem VC{C:Addr}{c:List Value}{a:String}(X:K.In h)(q:PySem.W.excIn K C c a=true):
  ∃ bm N nm q bs hdct sn sub ab col dd k0 k1 k2 k3 k5 mN,h.get? C=some (excClassObj nm q C N bs bm hdct sn sub ab col dd k0 k1 k2 k3 k5 a)/\h.Ns N mN/\mN "__init__"=none/\OwnTail h c bm:=by
 unfold PySem.W.excIn at q
 split at q
 ·rename_i dd cd i o
  split at q
  ·rename_i p bm k0 k1 k2 k3 n k5 g f
   simp only[YG,beq_iff_eq,Bool.not_eq_true']at q
   obtain⟨⟨⟨⟨⟨rfl,rfl⟩,b⟩,k⟩,hok⟩,d⟩:=q
   obtain⟨nm,bs,m,ns,qn,hd,sn,sub,ab,col,j⟩:=cd
   dsimp only at g b hok d
   subst g b
   have e:i=#[k0,k1,k2,k3,some (.builtin n),k5]:=by
    obtain⟨l⟩:=i
    simp only at f
    rw[f]
   subst e
   exact⟨bm,ns,nm,qn,bs,hd,sn,sub,ab,col,dd,k0,k1,k2,k3,k5,_,X _ _ o,.of_isNs (PySem.W.isNs_of_in X hok),PySem.W.nsMap_none_of_in X hok d,PySem.W.tail_of_in X k⟩
  ·cases q
 ·cases q
def VD(C:Addr)(E:XK)(t:TA):TS:=λ_ σ H=>t σ H λvs H1=>vs.length<=sizeLine/\E (.ref C) none H1
section
variable {P:Program} {w:World} {K:PySem.W.Frag} {mg:Str->Option Value} {base:Heap} {N:List Str} {qual:Str} {scope:Scope} {f:Addr} {cd:Value} {A:Around} {outer:List Env} {s:Shared} {H:Hp} {E:XK}
theorem VE{C:Addr}{B b initId:String}{bm:List Value}{y cpos pos:Pos}{a:Expr}{Ak:List Expr}{t:TA}
  (u:Gl (AW (CXe P w) P w K mg base N qual scope f cd A outer s H E) x) (r:mg x=some (.ref C)) (q:PySem.W.excIn K C bm b=true) (FB:ExcBaseFacts B b initId bm)
  (n:PA (AW (CXe P w) P w K mg base N qual scope f cd A outer s H E) (a::Ak) t)
  (k:starEach (a::Ak) (AW (CXe P w) P w K mg base N qual scope f cd A outer s H E).env=(false,eval a (AW (CXe P w) P w K mg base N qual scope f cd A outer s H E).env)::starEach Ak (AW (CXe P w) P w K mg base N qual scope f cd A outer s H E).env:=by rfl)
  (hplain:(backTo cpos (starEach Ak (AW (CXe P w) P w K mg base N qual scope f cd A outer s H E).env)).any (·.1)=false:=by rfl) (hd:(x==("__debug__":Str))=false:=by decide):
  PS (AW (CXe P w) P w K mg base N qual scope f cd A outer s H E) (.Raise (some (.Call (.Name x y) (a::Ak) [] cpos)) none pos) (VD C E t):=by
 intro pins l σ Hc D I h
 obtain⟨tl,z,nm,p,bs,hdct,sn,sub,ab,col,dd,k0,k1,k2,k3,k5,mN,m,v,j,T⟩:=VC I.ok.mod.kin q
 refine wpAny_Raise_call_subT (C:=C) (nm:=nm) (q:=p) (N:=z) (bs:=bs) (bm:=tl) (hdct:=hdct) (sn:=sn) (sub:=sub) (ab:=ab) (col:=col) (dd:=dd) (k0:=k0) (k1:=k1) (k2:=k2) (k3:=k3) (k5:=k5)
  FB (mN:=mN) (T.hasType FB.hasBase) (I.ok.hd rfl) (by rw[k];show(false||(backTo cpos (starEach Ak _)).any (·.1))=false;rw[hplain];rfl) j (C9 I u r ⟨rfl,?_⟩ hd)
 have c:=n cpos pins l σ Hc _ I h
 rw[k]at c ⊢
 refine Calls.evalArgs_plain (thn c λo G g=>?_)
 obtain⟨vs,H1,d,r1,F,q1⟩:=g
 exact⟨rfl,by have:=r1.length;show o.length<=_;lia,d.bk _ _ m,v.keeps d.bk,T.keeps d.bk,λh' e i=>VB d i q1⟩
end
variable {D:Addr}
theorem VF{M:Model}{E:Value->Shared->Prop}{C:Addr}{i:Obj}{b:Bool}{Q:Bool->Shared->Prop}(X:K.In s.heap)(r:s.heap.get? e=some i)(a:i.cls=.ref C)
  (y:PySem.W.typeIn K (.ref D)=some (.type "type")) (f:(PySem.W.clsIn K D).isSome=true) (n:PySem.W.subIn K (.ref D) (.type "BaseException")=some true) (m:PySem.W.subIn K (.ref C) (.ref D)=some b) (h:Q b s):
  wpAny M A (excMatches (.ref e) (.ref D)) Q E s:=by
 obtain⟨c,g,d,t,os⟩:=s
 have l:PySem.W.Looks M c (isInstance (.ref D) (.type "tuple")) false:=(PySem.W.looks_typeIn X y).andThen (PySem.W.Looks.of_pure tc_notTuple)
 have x:PySem.W.Looks M c (isType (.ref D)) true:=by
  unfold PySem.W.clsIn at f
  split at f
  ·rename_i B H w u o
   intro G F z s' k q
   unfold isType loadHead
   exact Qi (wpAny_loadPart (k _ _ (X _ _ o)) (Qj q))
  ·cases f
 have j:PySem.W.Looks M c (isExcClass (.ref D)) true:=by
  unfold isExcClass
  refine x.andThen ?_
  rw[if_pos rfl]
  exact PySem.W.looks_subIn X n
 have v:PySem.W.Looks M c (typeOf (.ref e)) (.ref C):=by
  rw[<- a]
  exact(PySem.W.Looks.ld r).andThen .now
 have p:=PySem.W.looks_subIn (M:=M) X m
 unfold excMatches
 refine Qi (l.at ?_)
 rw[if_neg YT]
 show wpAny M A (forIn [Value.ref D] PUnit.unit _ >>=_) Q E _
 rw[List.forIn_cons]
 refine Qi (Qi (Qi (j.at ?_)))
 rw[if_neg (by decide)]
 refine Qj ?_
 refine Qj ?_
 refine Qi (v.at ?_)
 rw[List.forIn_cons]
 refine Qi (Qi (Qi (p.at ?_)))
 cases b with
 | true =>
  rw[if_pos rfl]
  exact Qj (Qj (Qj h))
 | false =>
  rw[if_neg YT]
  exact Qj (Qj (Qj h))
variable {i:Nat}{n:Str}
theorem Inv.gone{w:Option Value}{m:Str->Option Value}{tk:Nat}(I:Inv X pins σ H s)(D:X.N.Nodup)(hi:X.N[i]?=some n)
  (O:s.heap.Ns X.env.locals m) (hl:∀(i:Nat)(x:Str)(v:V),X.N[i]?=some x->σ[i]?=some (some v)->Vis X.env.scope x->∃ u,RelV v u/\Le X.env s.heap m x u) (l:h'.Ns X.env.locals (λx=>if x=n then w else m x)) (a:Heap.SameBut X.env.locals s.heap h'):
  Inv X pins (σ.set i none) H {s with heap:=h',toks:=tk}:=by
 have cne:=I.cne
 have hiσ:i < σ.length:=by rw[I.len];exact(YW.mp hi).1
 refine⟨I.ok,I.os,I.bare,⟨λb o e n t g=>?_,λb o e n t g=>?_,I.base.free,λb o e g=>?_,I.base.tups,I.base.frzs,I.base.tbls⟩,⟨_,l,λj y K f h J=>?_⟩,λy c e=>?_,I.free,I.freeC,λp L=>?_,λb E e=>?_,by simpa using I.len⟩
 ·exact(a.2 b (Ys (Yu (Ql e) I.ok.above))).trans (I.base.keep b o e n t g)
 ·obtain⟨F,f⟩:=I.base.slot b o e n t g
  exact⟨F,(a.2 b (Ys (Yu (Ql e) I.ok.above))).trans f⟩
 ·obtain⟨o',f⟩:=I.base.there b o e g
  exact⟨o',(a.2 b (Ys (Yu (Ql e) I.ok.above))).trans f⟩
 ·by_cases r:j=i
  ·subst r
   rw[List.getElem?_set_self hiσ]at h
   cases h
  ·rw[List.getElem?_set_ne (YV r)]at h
   obtain⟨B,r',q⟩:=hl j y K f h J
   refine⟨B,r',?_⟩
   rcases q with⟨k,e⟩|⟨k,c,e,z⟩
   ·refine .inl ⟨k,?_⟩
    have:y≠n:=λe=>r (HR D f (e▸hi))
    simp[this,e]
   ·exact .inr ⟨k,c,e,z.sameBut a (cne y c e)⟩
 ·obtain⟨A,z⟩:=I.cell y c e
  exact⟨A,z.sameBut a (cne y c e)⟩
 ·obtain⟨e,n,ne,G,d⟩:=I.pin p L
  exact⟨(a.2 p.1 ne).trans e,n,ne,G,d⟩
 ·refine(I.hok b E e).stay (λc A hc q=>(a.2 c ?_).trans q) (λ_ q=>q) λ_ _ q=>q
  rintro rfl
  rcases hc with hc | hc
  ·rw[<- hc,I.free]at e;cases e
  ·rw[I.free]at hc;cases hc
theorem Inv.track(I:Inv X pins σ H s)(k:H e=none)(j:e≠X.env.locals)(hc:∀ x c,X.env.cells.lookup x=some c->c≠e)(l:∀ p∈X.pn++pins,p.1≠e)
  (h:X.s₀.heap.get? e=none) (ok:ObjOk X.prog X.w (upd H e o) s.heap e o):Inv X pins σ (upd H e o) s:=by
 have a:∀ b u,H b=some u->upd H e o b=some u:=λb u z=>by rw[AN (DL z k)];exact z
 refine⟨I.ok,I.os,I.bare,⟨I.base.keep,I.base.slot,λb f z n i=>?_,I.base.there,λb xs z=>a _ _ (I.base.tups b xs z),λb f u z=>a _ _ (I.base.frzs b f u z),λb ps z=>?_⟩,I.loc,I.cell,?_,λx c z=>?_,λp z=>?_,λb u z=>?_,I.len⟩
 ·rw[AN (λq=>by rw[q,h]at z;cases z)]
  exact I.base.free b f z n i
 ·obtain⟨d,q⟩:=I.base.tbls b ps z
  exact⟨d,a _ _ q⟩
 ·rw[AN (YV j)];exact I.free
 ·rw[AN (hc x c z)];exact I.freeC x c z
 ·obtain⟨q1,q2,q3⟩:=I.pin p z
  exact⟨q1,by rw[AN (l p z)];exact q2,q3⟩
 ·by_cases g:b=e
  ·subst g
   rw[BA]at z;cases z
   exact ok
  ·rw[AN g]at z
   exact(I.hok b u z).stay (λ_ _ _ q=>q) (λc q=>a _ _ q) λc xs q=>a _ _ q
def cxH(X:Cx)(e:Addr):Cx:={X with A:=X.A.mark (some (.ref e)),calm:=false,xe:=λ_ _=>False}
theorem Inv.toH(I:Inv X pins σ H s):Inv (cxH X e) pins σ H s :=
 ⟨⟨I.ok.mod,I.ok.kind,I.ok.glob,I.ok.blt,I.ok.above,I.ok.inj,I.ok.has,I.ok.cab,(λz=>by cases z),I.ok.frames,I.ok.stk,I.ok.exf,I.ok.bs,I.ok.bsz,I.ok.noex,I.ok.exfs,I.ok.funs,I.ok.frf⟩,I.os,I.bare,I.base,I.loc,I.cell,I.free,I.freeC,I.pin,I.hok,I.len⟩
theorem Inv.ofH(ok:X.Ok)(I:Inv (cxH X e) pins σ H s):Inv X pins σ H s :=
 ⟨ok,I.os,I.bare,I.base,I.loc,I.cell,I.free,I.freeC,I.pin,I.hok,I.len⟩
def cxT(X:Cx)(pn:List (Addr×Obj))(xe:Value->Shared->Prop):Cx:={X with pn:=pn,xe:=xe}
variable {xe:Value->Shared->Prop}
theorem Inv.toT(I:Inv X pins σ H s):Inv (cxT X (X.pn++pins) xe) [] σ H s :=
 ⟨⟨I.ok.mod,I.ok.kind,I.ok.glob,I.ok.blt,I.ok.above,I.ok.inj,I.ok.has,I.ok.cab,I.ok.hd,I.ok.frames,I.ok.stk,I.ok.exf,I.ok.bs,I.ok.bsz,I.ok.noex,I.ok.exfs,I.ok.funs,I.ok.frf⟩,I.os,I.bare,I.base,I.loc,I.cell,I.free,I.freeC,(λp a=>I.pin p (by simpa[cxT]using a)),I.hok,I.len⟩
theorem Inv.ofT{a:List (Addr×Obj)}(ok:X.Ok)(I:Inv (cxT X (X.pn++pins) xe) a σ H s):Inv X pins σ H s :=
 ⟨ok,I.os,I.bare,I.base,I.loc,I.cell,I.free,I.freeC,(λp b=>I.pin p (YK _ b)),I.hok,I.len⟩
def B4(e C:Addr):Heap->Prop:=λh=>∃ ox,h.get? e=some ox/\ox.cls=.ref C
def EF(CX:CXT)(X:Cx)(Eσ:St->XK):Prop:=∀(pins:List (Addr×Obj))(σ:St)(H:Hp)(s:Shared)(e:Value)(s':Shared),Inv X pins σ H s->CX X.stack H s (Eσ σ) e s'->X.xe e s'
def VG(K:PySem.W.Frag)(D:Addr)(i:Nat)(tb:(St->XK)->TS)(th:TS):TS:=λDn σ H=>
 tb (λσ' Cv _ H'=>∃ C,Cv=.ref C/\PySem.W.subIn K (.ref C) (.ref D)=some true/\∀ e,H' e=none->
  th {nx:=λσ2 H2=>Dn.nx (σ2.set i none) H2,rt:=Dn.rt,bk:=λσ2 H2=>Dn.bk (σ2.set i none) H2,ct:=λσ2 H2=>Dn.ct (σ2.set i none) H2} (σ'.set i (some (.ref e))) (upd H' e (.ext (B4 e C)))) Dn σ H
variable {body:List Stmt}
theorem VH{g:List Stmt}{b0:Stmt}{np l pos:Pos}{tb:(St->XK)->TS}{th:TS}(hN:X.N.Nodup)(hi:X.N[i]?=some n)(hn:X.env.scope.names.lookup n=some .local)
  (frm:X.stack=X.env::X.outer) (frl:X.env.frame=some X.env.locals) (hex:X.ex=[]) (hgx:Gl X x) (hmx:X.mg x=some (.ref D)) (hD:PySem.W.typeIn X.K (.ref D)=some (.type "type")) (hT:(PySem.W.clsIn X.K D).isSome=true) (hB:PySem.W.subIn X.K (.ref D) (.type "BaseException")=some true)
  (hb:∀(Eσ:St->XK)(pn:List (Addr×Obj))(xe:Value->Shared->Prop),EF (CXe X.prog X.w) (cxT X pn xe) Eσ->PSs (cxT X pn xe) body (tb Eσ)) (hh:∀ e,PSs (cxH X e) (b0::g) th) (hdb:(x==("__debug__":Str))=false:=by decide):
  PS X (.Try body [.ExceptHandler (some (.Name x np)) (some n) (b0::g) l] [] [] pos) (VG X.K D i tb th):=by
 intro pins s σ H Dn I h
 refine wpAny_Try_except ?_
 let T:Value->Shared->Prop:=λev y=>wpAny (model X.prog X.w) X.A (noteFrame ev X.env) (λ_ s₂=>wpAny (model X.prog X.w) X.A (setFlight ev none) (λ_ s₃=>
  wpAny (model X.prog X.w) X.A (handleBy ev X.env [.ExceptHandler (some (.Name x np)) (some n) (b0::g) l]) (SP X pins Dn) X.xe s₃) X.xe s₂) X.xe y
 have ok:=I.ok
 refine wpAny_mono (hb _ (X.pn++pins) T ?_ [] s σ H Dn I.toT h) (λf y q=>?_) (λev y q=>q)
 ·intro pins' σ' H' s' ev E Y hcx
  obtain⟨e,C,H2,rfl,F,C',eC,hsub,q⟩:=hcx
  cases eC
  show T (.ref e) E
  obtain⟨B,a0,fl,cov⟩:=F.fly
  have fr:X.A.frames=some (X.env::X.outer):=by rw[<- frm];exact ok.frames
  have fl':Heap.FlyingW B (X.env::X.outer) e (.ref C) a0 E.heap:=by rw[<- frm];exact fl
  refine wpAny_looks_onW fr frl fl' λh₄ J t=>?_
  refine wpAny_landsW J λh₅ d L=>?_
  have I5:Inv X pins σ' H2 {E with heap:=h₅}:=Inv.ofT ok (F.inv Y fl cov d.1 (t.trans L))
  obtain⟨ob,hob,Z⟩:=d.there
  refine wpAny_handleBy_cons (codeAny_handlers_test (C9 (X:=cxH X e) I5.toH hgx hmx ?_ hdb)) (by intro q;cases q)
  refine VF I5.kIn hob Z hD hT hB hsub ?_
  refine codeAny_handlers_suite_as ?_
  refine lands_againW d λQ G R=>?_
  have I6:Inv X pins σ' H2 {E with heap:=Q}:=Inv.ofT ok (F.inv Y fl cov G.1 ((t.trans L).trans R))
  have old:∀ b o,s'.heap.get? b=some o->b≠e:=λb o z w=>by rw[w,F.new]at z;cases z
  obtain⟨oe,hoe,hoec⟩:=G.there
  have I7:Inv X pins σ' (upd H2 e (.ext (B4 e C))) {E with heap:=Q}:=by
   refine I6.track F.free ?_ (λx c z=>?_) (λp z=>?_) ?_ ⟨⟨oe,hoe,hoec⟩,⟨oe,hoe⟩,(by rintro g1 g2 ⟨ox,z1,z2⟩ k;exact⟨ox,k _ z1,z2⟩)⟩
   ·obtain⟨m,hm,_⟩:=Y.loc
    obtain⟨o,es,ep,ho,_⟩:=hm
    exact(old _ _ ho).symm
   ·obtain⟨v,o,ho,_⟩:=Y.cell x c z
    exact old _ _ ho
   ·exact old _ _ (Y.pin p (YK _ z)).1
   ·cases z:X.s₀.heap.get? e with
    | none=>rfl
    | some o =>
     obtain⟨o',e1⟩:=Y.base.there e o z (λw=>by
      have w':e∈X.ex:=w
      rw[hex]at w';cases w')
     rw[F.new]at e1;cases e1
  refine E3 (X:=cxH X e) I7.toH hN hi (.inl hn) (v:=.ref e) rfl (λs8 I8=>?_) (.inr hn)
  refine wpAny_mono (hh e pins s8 _ _ _ I8 (q e F.free)) (λf s9 q9=>?_) (λ_ _ z=>z.elim)
  have O:∀{σ9:St}{S:Hp}{K9:Shared->Prop},Inv (cxH X e) pins σ9 S s9->(∀ a,Inv X pins (σ9.set i none) S a->K9 a)->
    wpAny (model X.prog X.w) X.A (do bindName X.env n .none;unbindBehindTheSuite X.env n l) (λ_ a=>K9 a) X.xe s9:=λ{σ9 S K9}P k9=>by
   have I9':=Inv.ofH ok P
   obtain⟨m,hm,hl⟩:=id I9'.loc
   refine wpAny_nameGoes_keeps hn hm (by rw[ok.kind];rfl) λh' v hn' hs=>k9 _ (I9'.gone hN hi hm hl hn' hs)
  cases f with
  | next=>obtain⟨σ9,S,P,q9⟩:=q9;exact O P λa j=>⟨_,_,j,q9⟩
  | brk=>obtain⟨σ9,S,P,q9⟩:=q9;exact O P λa j=>⟨_,_,j,q9⟩
  | cont=>obtain⟨σ9,S,P,q9⟩:=q9;exact O P λa j=>⟨_,_,j,q9⟩
  | ret u=>obtain⟨v,σ9,S,P,r9,q9⟩:=q9;exact O P λa j=>⟨v,_,_,j,r9,q9⟩
 ·cases f with
  | next=>obtain⟨σ',H',U,q⟩:=q;exact wpAny_execs_nil ⟨σ',H',Inv.ofT ok U,q⟩
  | brk=>obtain⟨σ',H',U,q⟩:=q;exact⟨σ',H',Inv.ofT ok U,q⟩
  | cont=>obtain⟨σ',H',U,q⟩:=q;exact⟨σ',H',Inv.ofT ok U,q⟩
  | ret u=>obtain⟨v,σ',H',U,r,q⟩:=q;exact⟨v,σ',H',Inv.ofT ok U,r,q⟩
def LZ(sp:Sp)(dvs:List V)(Eσ:St->XK)(t:TA):TE:=λσ H Q=>t σ H λvs H1=>sp (vs++dvs) H1 Q (Eσ σ)
section
variable {X:Cx} {CX:CXT} {k:Nat} {f:Addr} {fd:FuncData} {ps:List Str} {sp:Sp} {dvs:List V} {ds:List Value} {Eσ:St->XK} {x:Str} {p pos:Pos} {e:Expr} {es:List Expr} {t:TA}
theorem VI(F:FnOk X.prog X.w X.K X.mg X.base CX k f fd ps sp)(D:Room k X.A)(m:Gl X x)(o:X.mg x=some (.ref f))(y:PySem.W.keepIn X.K (.ref f)=true)(B:Binds X.K fd ps ds)(hd:Vals dvs ds)(n:EF CX X Eσ)
  (z:PA X (e::es) t) (d:(x==("__debug__":Str))=false:=by decide) (l:starEach (e::es) X.env=(false,eval e X.env)::starEach es X.env:=by rfl) (g:(backTo pos (starEach es X.env)).any (·.1)=false:=by rfl):
  PE X (.Call (.Name x p) (e::es) [] pos) (LZ sp dvs Eσ t):=by
 intro pins s σ H Q I h
 refine wpAny_Call_Name_kw (C9 I m o ?_ d)
 refine PySem.W.callWith_K (h₀:=X.base) I.ok.mod.kin y (thn (z pos pins s σ H _ I h) λc i⟨vs,H1,b,r,q⟩=>⟨b.kIn,?_⟩) l g
 have j:Vals (vs++dvs) (c++ds):=r.append hd
 have hl:(c++ds).length=ps.length:=by rw[<- j.length];exact F.len _ _ _ _ q
 refine wpAny_call (codeAny_mono (F.run X.A X.stack i H1 ⟨c,[]⟩ (c++ds) (vs++dvs) Q (Eσ σ) D b.env0 (B i c b.kIn hl) j q) λr s' a=>?_)
 cases r with
 | error e=>exact n pins σ H1 i e s' b a
 | ok v =>
  cases v with
  | ret u=>exact b.after a
  | next=>exact Qd a
  | brk=>exact Qd a
  | cont=>exact Qd a
end
structure FZ(k:Nat)(A:Around):Prop where
 dp:A.depth+3*k+5 < recursionLimit
 un:A.units+16*k+200 < cLine
structure Iv(P:Program)(w:World)(K:PySem.W.Frag)(mg:Str->Option Value)(base:Heap)(CX:CXT)(k:Nat)(f:Addr)(fd:FuncData)(ps:List Str)(sp:Sp):Prop where
 len:∀ vs H Q E,sp vs H Q E->vs.length=ps.length
 run:∀(A:Around)(outer:List Env)(s:Shared)(H:Hp)(args:Args)(us:List Value)(vs:List V)(Q:VK)(E:XK),FZ k A->Env0 P w K mg base A outer s H->BindsTo s fd args (ps.zip us)->Vals vs us->sp vs H Q E->
  codeAny (model P w) A (.call (.ref f) args) (CR CX outer P w H s Q E) s
def cxN(P:Program)(w:World)(K:PySem.W.Frag)(mg:Str->Option Value)(base:Heap)(N:List Str)(qual:Str)(scope:Scope)(f:Addr)(cd:Value)(A:Around)(outer:List Env)(s:Shared)(H:Hp):Cx :=
 {AW CX0 P w K mg base N qual scope f cd A outer s H E0 with calm:=false,xe:=λ_ _=>False}
theorem VJ{CX:CXT}{k:Nat}{name:Str}{params:Arguments}{G kV j pm cdv ct oc:Value}{L T:Option Addr}
  {F:Array (Option Value)} {ps:List Str} {sp:Sp} (lk:K.lookup f=some ⟨oc,T,.func (PySem.W.fnOf name qual params body scope G kV j pm L cdv ct),F⟩) (p:PySem.W.codeIn K cdv qual=true) (S:Ay N ps scope)
  (len:∀ vs H Q E,sp vs H Q E->vs.length=ps.length)
  (d:∀(A:Around)(outer:List Env)(s:Shared)(H:Hp)(vs:List V)(Q:VK)(E:XK),sp vs H Q E->∃ t,PSs (cxN P w K mg base N qual scope f cdv A outer s H) body t/\t {nx:=λ_ H'=>Q .non H',rt:=Q} (BI N vs) H):
  Iv P w K mg base CX (k+1) f (PySem.W.fnOf name qual params body scope G kV j pm L cdv ct) ps sp:=by
 refine⟨len,λA outer s H O X vs Q E hr c hb r l=>?_⟩
 have hl:=len _ _ _ _ l
 have KX:K.In s.heap:=c.mod.kin.keeps λb o e=>(c.bs b o e).1
 have D:s.heap.NoLimit:=c.mod.nolimit.keeps λb o e=>(c.bs b o e).1
 have g:∀ y∈ps.zip X,scope.names.lookup y.1=some .local\/(scope.names.lookup y.1=some .cell/\((cellsFrom (s.heap.objs.size+1) scope.names []).lookup y.1).isSome=true):=by
  rintro⟨n,v⟩ U
  rcases S.par n (List.of_mem_zip U).1 with q | q
  ·exact .inl q
  ·exact .inr ⟨q,PySem.W.cellsFrom_some _ _ _ (.inl q)⟩
 refine codeAny_call_function (by have:=hr.dp;lia) (KX _ _ lk) rfl S.co S.gen rfl (PySem.W.codeRec_of KX p) (hb _ _ _ _ ?_)
 refine wpAny_newFunctionEnv_cells S.kind g λenv he B x=>?_
 subst he
 refine⟨D.keeps x.toInCall.keep,codeAny_func ?_⟩
 obtain⟨t,ht,Y⟩:=d A outer s H vs Q E l
 have R:Env0 P w K mg base {A with handled:=none} outer s H:=⟨c.frames,c.mod,c.bs,c.bsz,c.funs,c.frf,c.hok,c.bare⟩
 have a:Inv (AW CX0 P w K mg base N qual scope f cdv {A with handled:=none} outer s H E0) [] (BI N vs) H B:=Lz S rfl R hl r x
 have I:Inv (cxN P w K mg base N qual scope f cdv A outer s H) [] (BI N vs) H B :=
  ⟨⟨a.ok.mod,a.ok.kind,a.ok.glob,a.ok.blt,a.ok.above,a.ok.inj,a.ok.has,a.ok.cab,(λz=>by cases z),Around.frames_deeper c.frames,a.ok.stk,a.ok.exf,a.ok.bs,a.ok.bsz,a.ok.noex,a.ok.exfs,a.ok.funs,a.ok.frf⟩,a.os,a.bare,a.base,a.loc,a.cell,a.free,a.freeC,a.pin,a.hok,a.len⟩
 refine wpAny_mono (ht [] B (BI N vs) H _ I Y) (λZ s' h=>?_) λe s' h=>h.elim
 have i:∀{σ':St}{H':Hp}{v:V}{u:Value},Inv (cxN P w K mg base N qual scope f cdv A outer s H) [] σ' H' s'->RelV v u->Q v H'->CE outer P w H s Q u s' :=
  λ{σ' H' v u}J m q=>⟨v,H',J.os,J.bare,J.base,J.hok,m,q⟩
 cases Z with
 | ret u =>
  obtain⟨v,σ',H',J,m,q⟩:=h
  exact i J m q
 | next =>
  obtain⟨σ',H',J,q⟩:=h
  exact i (v:=V.non) (u:=Value.none) J rfl q
 | brk =>
  obtain⟨_,_,_,q⟩:=h
  exact Qd q
 | cont =>
  obtain⟨_,_,_,q⟩:=h
  exact Qd q
section
variable {X:Cx} {k:Nat} {f:Addr} {fd:FuncData} {ps:List Str} {sp:Sp} {x:Str} {p pos:Pos} {e:Expr} {es:List Expr} {t:TA}
theorem VL(F:Iv X.prog X.w X.K X.mg X.base CX0 k f fd ps sp)(B:FZ k X.A)(m:Gl X x)(n:X.mg x=some (.ref f))(v:PySem.W.keepIn X.K (.ref f)=true)(z:Binds X.K fd ps [])
  (y:PA X (e::es) t) (d:(x==("__debug__":Str))=false:=by decide) (l:starEach (e::es) X.env=(false,eval e X.env)::starEach es X.env:=by rfl) (g:(backTo pos (starEach es X.env)).any (·.1)=false:=by rfl):
  PE X (.Call (.Name x p) (e::es) [] pos) (UR sp [] E0 t):=by
 intro pins s σ H Q I h
 refine wpAny_Call_Name_kw (C9 I m n ?_ d)
 refine PySem.W.callWith_K (h₀:=X.base) I.ok.mod.kin v (thn (y pos pins s σ H _ I h) λb j⟨vs,H1,c,r,q⟩=>⟨c.kIn,?_⟩) l g
 have i:Vals (vs++[]) (b++[]):=r.append .nil
 have hl:(b++[]).length=ps.length:=by rw[<- i.length];exact F.len _ _ _ _ q
 refine wpAny_call (codeAny_mono (F.run X.A X.stack j H1 ⟨b,[]⟩ (b++[]) (vs++[]) Q E0 B c.env0 (z j b c.kIn hl) i q) λr s' a=>?_)
 cases r with
 | error e=>exact Qd a
 | ok o =>
  cases o with
  | ret u=>exact c.after a
  | next=>exact Qd a
  | brk=>exact Qd a
  | cont=>exact Qd a
end
end L2
namespace L3
open PySem PySem.Spec PyProof.Rows L2
abbrev St:=L2.St
inductive W where
 | non | bl (b:Bool)| int (i:Int)| str (x:Str)| tup (xs:List W)| rol (xs:List W)| ref (a:Addr)
inductive HW where
 | lst (xs:List W)| exc (C:Addr)| ins (C:Addr) (fs:List (Str×W))| dct (kvs:List (Key×W))
abbrev Sw:=List (Option W)
abbrev Hw:=Addr->Option HW
def put(H:Hw)(a:Addr)(o:HW):Hw:=λb=>if b=a then some o else H b
variable {a:Addr}{o:HW}
theorem Au{H:Hw}:put H a o a=some o:=by unfold put;rw[if_pos rfl]
theorem Bj{H:Hw}{b:Addr}(h:b≠a):put H a o b=H b:=by unfold put;rw[if_neg h]
section
variable (K:PySem.W.Frag)
def RoL(H:Hp)(a:Addr)(xs:List V):Prop:=(∃ o,H a=some (.frz o (.lst xs)))\/
 ∃(o:Obj)(its:Array Value)(n:Nat),K.lookup a=some o/\o.cls=.type "list"/\o.dict=none/\o.data=.seq its n/\its.size<=sizeLine/\Vals xs its.toList
theorem RoL.sq{H:Hp}{xs:List V}(h:RoL K H a xs):SqL K H a xs:=by
 rcases h with⟨o,h⟩| h
 ·exact .inl (.inr ⟨o,h⟩)
 ·exact .inr h
mutual
inductive Tr(H:Hp):V->W->Prop where
 | non:Tr H .non .non
 | bl (b:Bool):Tr H (.bl b) (.bl b)
 | int (i:Int):Tr H (.int i) (.int i)
 | str (x:Str):Tr H (.str x) (.str x)
 | tup {a:Addr} {vs:List V} {ws:List W}:SqT K H a vs->TrL H vs ws->Tr H (.ref a) (.tup ws)
 | rol {a:Addr} {vs:List V} {ws:List W}:RoL K H a vs->TrL H vs ws->Tr H (.ref a) (.rol ws)
 | ref (a:Addr):Tr H (.ref a) (.ref a)
inductive TrL(H:Hp):List V->List W->Prop where
 | nil:TrL H [] []
 | cons {v:V} {w:W} {vs:List V} {ws:List W}:Tr H v w->TrL H vs ws->TrL H (v::vs) (w::ws)
end
inductive TrP{α:Type}(H:Hp):List (α×V)->List (α×W)->Prop where
 | nil:TrP H [] []
 | cons {f:α} {v:V} {w:W} {vs:List (α×V)} {ws:List (α×W)}:Tr K H v w->TrP H vs ws->TrP H ((f,v)::vs) ((f,w)::ws)
structure Mono(H H':Hp):Prop where
 tup:∀ a vs,SqT K H a vs->SqT K H' a vs
 rol:∀ a vs,RoL K H a vs->RoL K H' a vs
def RelO2(H:Hp)(a:Addr):HW->Prop
 | .lst ws=>∃ vs,H a=some (.lst vs)/\TrL K H vs ws
 | .exc C=>H a=some (.ext (B4 a C))
 | .ins C ws=>∃ dx vs,H a=some (.ins C dx vs)/\TrP K H vs ws
 | .dct ws=>∃ vs,H a=some (.dK vs)/\TrP K H vs ws
def RelH(H:Hp)(G:Hw):Prop:=∀ a o,G a=some o->RelO2 K H a o
structure TrSt(H:Hp)(σ:St)(ω:Sw):Prop where
 len:σ.length=ω.length
 get:∀(i:Nat)(w:W),ω[i]?=some (some w)->∃ v,σ[i]?=some (some v)/\Tr K H v w
end
variable {K:PySem.W.Frag} {H H' H2:Hp}
theorem Mono.refl:Mono K H H:=⟨λ_ _ h=>h,λ_ _ h=>h⟩
theorem Mono.trans(m:Mono K H H')(b:Mono K H' H2):Mono K H H2:=⟨λa vs h=>b.tup a vs (m.tup a vs h),λa vs h=>b.rol a vs (m.rol a vs h)⟩
mutual
theorem Tr.mono(m:Mono K H H'){v:V}{w:W}(t:Tr K H v w):Tr K H' v w:=by
 cases t with
 | non=>exact .non
 | bl b=>exact .bl b
 | int i=>exact .int i
 | str x=>exact .str x
 | tup h l=>exact .tup (m.tup _ _ h) (TrL.mono m l)
 | rol h l=>exact .rol (m.rol _ _ h) (TrL.mono m l)
 | ref a=>exact .ref a
theorem TrL.mono(m:Mono K H H'){vs:List V}{a:List W}(t:TrL K H vs a):TrL K H' vs a:=by
 cases t with
 | nil=>exact .nil
 | cons h l=>exact .cons (Tr.mono m h) (TrL.mono m l)
end
theorem TrP.mono{α:Type}(m:Mono K H H'):∀{vs:List (α×V)}{a:List (α×W)},TrP K H vs a->TrP K H' vs a
 | _,_,.nil=>.nil
 | _,_,.cons r t=>.cons (r.mono m) (TrP.mono m t)
theorem RelO2.mono(m:Mono K H H')(e:H' a=H a):∀{o:HW},RelO2 K H a o->RelO2 K H' a o
 | .lst b,⟨vs,z,t⟩=>⟨vs,e.trans z,t.mono m⟩
 | .exc C,z=>(e.trans z:H' a=_)
 | .ins C b,⟨dx,vs,z,t⟩=>⟨dx,vs,e.trans z,t.mono m⟩
 | .dct b,⟨vs,z,t⟩=>⟨vs,e.trans z,t.mono m⟩
theorem RelO2.some:∀{o:HW},RelO2 K H a o->H a≠none
 | .lst b,⟨vs,z,t⟩,q=>by rw[q]at z;cases z
 | .exc C,z,q=>by rw[show H a=_ from z]at q;cases q
 | .ins C b,⟨dx,vs,z,t⟩,q=>by rw[q]at z;cases z
 | .dct b,⟨vs,z,t⟩,q=>by rw[q]at z;cases z
variable {σ:St}{ω:Sw}
theorem TrSt.mono(m:Mono K H H')(t:TrSt K H σ ω):TrSt K H' σ ω:=⟨t.len,λi w e=>let⟨v,e',r⟩:=t.get i w e;⟨v,e',r.mono m⟩⟩
variable {v:V}{w:W}
theorem TrSt.set(t:TrSt K H σ ω)(i:Nat)(r:Tr K H v w):TrSt K H (σ.set i (some v)) (ω.set i (some w)):=by
 refine⟨by simp[t.len],λj u e=>?_⟩
 by_cases h:i=j
 ·subst h
  by_cases hl:i < ω.length
  ·rw[List.getElem?_set_self hl]at e
   cases e
   exact⟨v,List.getElem?_set_self (by rw[t.len];exact hl),r⟩
  ·rw[List.getElem?_eq_none (by simp;lia)]at e;cases e
 ·rw[List.getElem?_set_ne h]at e
  obtain⟨b,a,r'⟩:=t.get j u e
  exact⟨b,by rw[List.getElem?_set_ne h];exact a,r'⟩
theorem TrSt.unset(t:TrSt K H σ ω)(i:Nat):TrSt K H (σ.set i none) (ω.set i none):=by
 refine⟨by simp[t.len],λj u e=>?_⟩
 by_cases h:i=j
 ·subst h
  by_cases hl:i < ω.length
  ·rw[List.getElem?_set_self hl]at e;cases e
  ·rw[List.getElem?_eq_none (by simp;lia)]at e;cases e
 ·rw[List.getElem?_set_ne h]at e
  obtain⟨b,a,r'⟩:=t.get j u e
  exact⟨b,by rw[List.getElem?_set_ne h];exact a,r'⟩
theorem TrL.length:∀{vs:List V}{a:List W},TrL K H vs a->vs.length=a.length
 | _,_,.nil=>rfl
 | _,_,.cons _ t=>Qf (·+1) t.length
theorem TrL.get:∀{vs:List V}{a:List W}{i:Nat}{w:W},TrL K H vs a->a[i]?=some w->∃ v,vs[i]?=some v/\Tr K H v w
 | _,_,_,_,.nil,e=>by simp at e
 | _,_,0,_,.cons r _,e=>by simp at e;subst e;exact⟨_,rfl,r⟩
 | _,_,i+1,w,.cons _ t,e=>by
  obtain⟨v,h1,h2⟩:=TrL.get (i:=i) (w:=w) t (by simpa using e)
  exact⟨v,by simpa using h1,h2⟩
theorem TrL.get':∀{vs:List V}{a:List W}{i:Nat}{v:V},TrL K H vs a->vs[i]?=some v->∃ w,a[i]?=some w/\Tr K H v w
 | _,_,_,_,.nil,e=>by simp at e
 | _,_,0,_,.cons r _,e=>by simp at e;subst e;exact⟨_,rfl,r⟩
 | _,_,i+1,v,.cons _ t,e=>by
  obtain⟨w,h1,h2⟩:=TrL.get' (i:=i) (v:=v) t (by simpa using e)
  exact⟨w,by simpa using h1,h2⟩
theorem TrL.append:∀{vs a:List V}{c b:List W},TrL K H vs c->TrL K H a b->TrL K H (vs++a) (c++b)
 | _,_,_,_,.nil,s=>s
 | _,_,_,_,.cons r t,s=>.cons r (t.append s)
theorem TrL.set{v:V}{w:W}(r:Tr K H v w):∀{vs:List V}{a:List W}(i:Nat),TrL K H vs a->TrL K H (vs.set i v) (a.set i w)
 | _,_,_,.nil=>.nil
 | _,_,0,.cons _ t=>.cons r t
 | _,_,i+1,.cons q t=>.cons q (TrL.set r i t)
theorem TrL.take:∀{vs:List V}{a:List W}(n:Nat),TrL K H vs a->TrL K H (vs.take n) (a.take n)
 | _,_,0,_=>.nil
 | _,_,_+1,.nil=>.nil
 | _,_,n+1,.cons r t=>.cons r (TrL.take n t)
theorem TrL.drop:∀{vs:List V}{a:List W}(n:Nat),TrL K H vs a->TrL K H (vs.drop n) (a.drop n)
 | _,_,0,r=>r
 | _,_,_+1,.nil=>.nil
 | _,_,n+1,.cons _ t=>TrL.drop n t
variable {vs:List V}
theorem Iw{b:Addr}{o:HO}(h:SqT K H a vs)(f:∀ xs,H b≠some (.tup xs))(d:∀ c xs,H b≠some (.frz c (.tup xs))):SqT K (upd H b o) a vs:=by
 rcases h with(h |⟨c,h⟩)| h
 ·exact .inl (.inl (by rw[AN (λe=>f _ (e▸h))];exact h))
 ·exact .inl (.inr ⟨c,by rw[AN (λe=>d _ _ (e▸h))];exact h⟩)
 ·exact .inr h
theorem Iy{b:Addr}{o:HO}(h:RoL K H a vs)(d:∀ c u,H b≠some (.frz c u)):RoL K (upd H b o) a vs:=by
 rcases h with⟨c,h⟩| h
 ·exact .inl ⟨c,by rw[AN (λe=>d _ _ (e▸h))];exact h⟩
 ·exact .inr h
variable {p:Addr}
theorem Mono.new(b:H p=none)(o:HO):Mono K H (upd H p o):=
 ⟨λa vs h=>Iw h (λxs e=>by rw[b]at e;cases e) (λc xs e=>by rw[b]at e;cases e),λa vs h=>Iy h (λc xs e=>by rw[b]at e;cases e)⟩
variable {xs:List V}
theorem Mono.lst(b:H p=some (.lst xs))(o:HO):Mono K H (upd H p o):=
 ⟨λa vs h=>Iw h (λxs e=>by rw[b]at e;cases e) (λc xs e=>by rw[b]at e;cases e),λa vs h=>Iy h (λc xs e=>by rw[b]at e;cases e)⟩
theorem Mono.was{o':HO}(b:H p=some o')(o:HO)(h1:∀ xs,o'≠.tup xs)(h2:∀ c u,o'≠.frz c u):Mono K H (upd H p o):=
 ⟨λa vs h=>Iw h (λxs e=>by rw[b]at e;exact h1 _ (YE e)) (λc xs e=>by rw[b]at e;exact h2 _ _ (YE e)),λa vs h=>Iy h (λc xs e=>by rw[b]at e;exact h2 _ _ (YE e))⟩
variable {G:Hw}
theorem RelH.no(r:RelH K H G)(a:H p=none):G p=none:=by
 cases e:G p with
 | none=>rfl
 | some o=>exact Qh a (r p o e).some
theorem RelH.mono0{o:HO}(r:RelH K H G)(b:H p=none):RelH K (upd H p o) G:=λa u e=>
 have q:=r a u e
 q.mono (Mono.new b o) (AN (by rintro rfl;exact q.some b))
theorem RelH.laid{o:HO}{u:HW}(r:RelH K H G)(m:Mono K H (upd H p o))(t:RelO2 K (upd H p o) p u):RelH K (upd H p o) (put G p u):=λa b e=>by
 by_cases h:a=p
 ·subst h
  rw[Au]at e;cases e
  exact t
 ·rw[Bj h]at e
  exact(r a _ e).mono m (AN h)
theorem RelH.new{b:List W}(r:RelH K H G)(a:H p=none)(t:TrL K H vs b):RelH K (upd H p (.lst vs)) (put G p (.lst b)):=
 r.laid (Mono.new a _) ⟨vs,BA,t.mono (Mono.new a _)⟩
theorem RelH.chg{b:List W}(r:RelH K H G)(a:H p=some (.lst xs))(t:TrL K H vs b):RelH K (upd H p (.lst vs)) (put G p (.lst b)):=
 r.laid (Mono.lst a _) ⟨vs,BA,t.mono (Mono.lst a _)⟩
abbrev Kw:=W->Hw->Prop
abbrev GE:=Sw->Hw->Kw->Prop
abbrev GT:=Sw->Hw->(Bool->Hw->Prop)->Prop
abbrev GA:=Sw->Hw->(List W->Hw->Prop)->Prop
structure Ew where
 nx:Sw->Hw->Prop
 rt:Kw
 bk:Sw->Hw->Prop
 ct:Sw->Hw->Prop
abbrev GS:=Ew->Sw->Hw->Prop
abbrev GG:=W->Sw->Hw->(Sw->Hw->Prop)->Prop
def GE.M(g:GE):Prop:=∀ ω G(Q Q':Kw),(∀ w G',Q w G'->Q' w G')->g ω G Q->g ω G Q'
def GT.M(g:GT):Prop:=∀ ω G(Q Q':Bool->Hw->Prop),(∀ w G',Q w G'->Q' w G')->g ω G Q->g ω G Q'
def GA.M(g:GA):Prop:=∀ ω G(Q Q':List W->Hw->Prop),(∀ w G',Q w G'->Q' w G')->g ω G Q->g ω G Q'
def GS.M(g:GS):Prop:=∀ ω G(D D':Ew),(∀ a b,D.nx a b->D'.nx a b)->(∀ a b,D.rt a b->D'.rt a b)->(∀ a b,D.bk a b->D'.bk a b)->(∀ a b,D.ct a b->D'.ct a b)->g D ω G->g D' ω G
def GG.M(g:GG):Prop:=∀ w ω G(Q Q':Sw->Hw->Prop),(∀ a b,Q a b->Q' a b)->g w ω G Q->g w ω G Q'
def dn(K:PySem.W.Frag)(H:Hp)(Q:VK):Kw:=λw G=>∀ v H',Mono K H H'->Tr K H' v w->RelH K H' G->Q v H'
def dnT(K:PySem.W.Frag)(H:Hp)(Q:Bool->Hp->Prop):Bool->Hw->Prop:=λb G=>∀ H',Mono K H H'->RelH K H' G->Q b H'
def dnA(K:PySem.W.Frag)(H:Hp)(Q:List V->Hp->Prop):List W->Hw->Prop:=λws G=>∀ vs H',Mono K H H'->TrL K H' vs ws->RelH K H' G->Q vs H'
def dnS(K:PySem.W.Frag)(H:Hp)(Q:St->Hp->Prop):Sw->Hw->Prop:=λω G=>∀ σ H',Mono K H H'->TrSt K H' σ ω->RelH K H' G->Q σ H'
def dnD(K:PySem.W.Frag)(H:Hp)(D:EB):Ew:=⟨dnS K H D.nx,dn K H D.rt,dnS K H D.bk,dnS K H D.ct⟩
theorem B5{Q:VK}(m:Mono K H H')(q:dn K H Q w G):dn K H' Q w G:=λv H2 a t r=>q v H2 (m.trans a) t r
theorem L0{Q:Bool->Hp->Prop}(m:Mono K H H'){w:Bool}(q:dnT K H Q w G):dnT K H' Q w G:=λH2 a r=>q H2 (m.trans a) r
theorem VM{Q:St->Hp->Prop}(m:Mono K H H'){w:Sw}(q:dnS K H Q w G):dnS K H' Q w G:=λv H2 a t r=>q v H2 (m.trans a) t r
def up(K:PySem.W.Frag)(g:GE):TE:=λσ H Q=>∃ ω G,TrSt K H σ ω/\RelH K H G/\g ω G (dn K H Q)
def upT(K:PySem.W.Frag)(g:GT):TT:=λσ H Q=>∃ ω G,TrSt K H σ ω/\RelH K H G/\g ω G (dnT K H Q)
def upA(K:PySem.W.Frag)(g:GA):TA:=λσ H Q=>∃ ω G,TrSt K H σ ω/\RelH K H G/\g ω G (dnA K H Q)
def upS(K:PySem.W.Frag)(B:Hp)(g:GS):TS:=λD σ H=>∃ ω G,TrSt K H σ ω/\RelH K H G/\Mono K B H/\g (dnD K B D) ω G
variable {X:Cx}{e:Expr}
theorem AQ{t t':TE}(h:PE X e t)(i:∀ σ H Q,t' σ H Q->t σ H Q):PE X e t':=λpins s σ H Q I q=>h pins s σ H Q I (i σ H Q q)
theorem F0{t t':TT}(h:PT X e t)(i:∀ σ H Q,t' σ H Q->t σ H Q):PT X e t':=λpins s σ H Q I q=>h pins s σ H Q I (i σ H Q q)
theorem L1{e:List Expr}{t t':TA}(h:PA X e t)(i:∀ σ H Q,t' σ H Q->t σ H Q):PA X e t':=λpos pins s σ H Q I q=>h pos pins s σ H Q I (i σ H Q q)
variable {t t':TS}
theorem Cs{e:Stmt}(h:PS X e t)(i:∀ D σ H,t' D σ H->t D σ H):PS X e t':=λpins s σ H D I q=>h pins s σ H D I (i D σ H q)
theorem Iz{e:List Stmt}(h:PSs X e t)(i:∀ D σ H,t' D σ H->t D σ H):PSs X e t':=λpins s σ H D I q=>h pins s σ H D I (i D σ H q)
section
variable {X:Cx} {a b c e:Expr} {es:List Expr} {pos:Pos} {ga gb gc:GE} {gt:GT} {gs:GA}
abbrev PEw(X:Cx)(e:Expr)(g:GE):Prop:=PE X e (up X.K g)
abbrev PTw(X:Cx)(e:Expr)(g:GT):Prop:=PT X e (upT X.K g)
abbrev PAw(X:Cx)(es:List Expr)(g:GA):Prop:=PA X es (upA X.K g)
abbrev PSw(X:Cx)(P:Hp->Prop)(st:Stmt)(g:GS):Prop:=∀ B,P B->PS X st (upS X.K B g)
abbrev CI(X:Cx)(P:Hp->Prop)(st:List Stmt)(g:GS):Prop:=∀ B,P B->PSs X st (upS X.K B g)
abbrev L4:Hp->Prop:=λ_=>True
abbrev atB(X:Cx):Hp->Prop:=λB=>B=X.H₀
def gC(w:W):GE:=λ_ G Q=>Q w G
def Ab(i:Nat):GE:=λω G Q=>match ω[i]? with | some (some w)=>Q w G | _=>False
theorem EG:GE.M (gC w):=λ_ _ _ _ h q=>h _ _ q
variable {i:Nat}
theorem VN:GE.M (Ab i):=λω G Q a h q=>by
 have z:Ab i ω G Q=(match ω[i]? with | some (some w)=>Q w G | _=>False):=rfl
 have b:Ab i ω G a=(match ω[i]? with | some (some w)=>a w G | _=>False):=rfl
 rw[z]at q
 rw[b]
 cases e:ω[i]? with
 | none=>rw[e]at q;exact q
 | some o =>
  cases o with
  | none=>rw[e]at q;exact q
  | some w=>rw[e]at q;exact h _ _ q
variable {x:Str}
theorem VO(c:X.N[i]?=some x)(d:Vis X.env.scope x)(hd:(x==("__debug__":Str))=false)(a:(x==("__classdict__":Str))=false):PEw X (.Name x pos) (Ab i):=
 AQ (Lg c d hd a) <| by
  rintro σ H Q ⟨ω,G,b,r,q⟩
  unfold Ab at q
  split at q
  ·rename_i w z
   obtain⟨v,e,t⟩:=b.get i w z
   exact⟨v,e,q v H .refl t r⟩
  ·exact q.elim
theorem VP{i:Int}{j}:PEw X (.Constant (.int i) j pos) (gC (.int i)):=AQ Th (by rintro σ H Q ⟨ω,G,a,r,q⟩;exact q _ H .refl (.int i) r)
theorem VQ{i:Bool}{j}:PEw X (.Constant (.bool i) j pos) (gC (.bl i)):=AQ Ti (by rintro σ H Q ⟨ω,G,a,r,q⟩;exact q _ H .refl (.bl i) r)
theorem VR{j}:PEw X (.Constant .none j pos) (gC .non):=AQ Tj (by rintro σ H Q ⟨ω,G,a,r,q⟩;exact q _ H .refl .non r)
theorem VS{i:Str}{j}:PEw X (.Constant (.str i) j pos) (gC (.str i)):=AQ Lh (by rintro σ H Q ⟨ω,G,a,r,q⟩;exact q _ H .refl (.str i) r)
theorem L5{u:Value}(a:Gl X x)(c:X.mg x=some u)(b:RelV v u)(t:∀ H,Tr X.K H v w)(hd:(x==("__debug__":Str))=false):PEw X (.Name x pos) (gC w):=
 AQ (Li a c b hd) (by rintro σ H Q ⟨ω,G,d,r,q⟩;exact q _ H .refl (t H) r)
abbrev RW2:=W->W->Hw->Kw->Prop
def RW2.M(r:RW2):Prop:=∀ x y G(Q Q':Kw),(∀ w G',Q w G'->Q' w G')->r x y G Q->r x y G Q'
def Ad(r:RW2)(ga gb:GE):GE:=λω G Q=>ga ω G λx G1=>gb ω G1 λy G2=>r x y G2 Q
variable {r:RW2}
theorem Cf(mr:r.M)(a:ga.M)(mb:gb.M):GE.M (Ad r ga gb):=λω G Q b h q=>a _ _ _ _ (λx G1 q1=>mb _ _ _ _ (λy G2 q2=>mr _ _ _ _ _ h q2) q1) q
variable {r2:R2}
theorem F1(mr:r.M)(f:ga.M)(mb:gb.M)
  (i:∀(x y:W)(v u:V)(G:Hw)(H:Hp)(Q:VK),Tr K H v x->Tr K H u y->RelH K H G->r x y G (dn K H Q)->r2 v u H Q) (σ:St) (H:Hp) (Q:VK) (h:up K (Ad r ga gb) σ H Q):tOp r2 (up K ga) (up K gb) σ H Q:=by
 obtain⟨ω,G,b,g,q⟩:=h
 refine⟨ω,G,b,g,f _ _ _ _ (λx G1 q1 v H1 c e r1=>?_) q⟩
 refine⟨ω,G1,b.mono c,r1,mb _ _ _ _ (λy G2 q2 u H2 d ty a=>?_) q1⟩
 exact i x y v u G2 H2 Q (e.mono d) ty a (mr _ _ _ _ _ (λw j z=>B5 (c.trans d) z) q2)
theorem EH{op:Operator}(c:OpR X (binaryOp op) r2)(mr:r.M)(d:ga.M)(mb:gb.M)(g:∀(x y:W)(v u:V)(G:Hw)(H:Hp)(Q:VK),Tr X.K H v x->Tr X.K H u y->RelH X.K H G->r x y G (dn X.K H Q)->r2 v u H Q)
  (e:PEw X a ga) (f:PEw X b gb):PEw X (.BinOp a op b pos) (Ad r ga gb):=AQ (Uj c e f) (F1 mr d mb g)
theorem VT{op:CmpOp}(d:OpR X (compareOp op) r2)(mr:r.M)(e:ga.M)(mb:gb.M)(h:∀(x y:W)(v u:V)(G:Hw)(H:Hp)(Q:VK),Tr X.K H v x->Tr X.K H u y->RelH X.K H G->r x y G (dn X.K H Q)->r2 v u H Q)
  (f:PEw X a ga) (g:PEw X b gb) (c:behindInMarks op b=false):PEw X (.Compare a [op] [b] pos) (Ad r ga gb):=AQ (UC d f g c) (F1 mr e mb h)
theorem L6(d:IxR X r2)(mr:r.M)(e:ga.M)(mb:gb.M)(h:∀(x y:W)(v u:V)(G:Hw)(H:Hp)(Q:VK),Tr X.K H v x->Tr X.K H u y->RelH X.K H G->r x y G (dn X.K H Q)->r2 v u H Q)
  (f:PEw X a ga) (g:PEw X b gb) (c:FW b):PEw X (.Subscript a b pos) (Ad r ga gb):=AQ (U4 d f g c) (F1 mr e mb h)
end
abbrev Xw:=Sw->Addr->Hw->Prop
abbrev XF:Xw:=λ_ _ _=>False
def upX(K:PySem.W.Frag)(ex:Xw):St->XK:=λσ Cv _ H'=>∃ C ω G,Cv=.ref C/\TrSt K H' σ ω/\RelH K H' G/\ex ω C G
abbrev CJ(X:Cx)(ex:Xw):Prop:=EF (CXe X.prog X.w) X (upX X.K ex)
theorem Un.mono'{fs b:List Addr}{h h':Heap}(u:Un fs b H H' h h'):Mono K H H':=by
 refine⟨λa vs q=>?_,λa vs q=>?_⟩
 ·rcases q with(q |⟨o,q⟩)| q
  ·exact .inl (.inl (u.tups a vs q))
  ·exact .inl (.inr ⟨o,u.frzs a o _ q⟩)
  ·exact .inr q
 ·rcases q with⟨o,q⟩| q
  ·exact .inl ⟨o,u.frzs a o _ q⟩
  ·exact .inr q
abbrev Spw:=List W->Hw->Kw->(Addr->Hw->Prop)->Prop
def dnX(K:PySem.W.Frag)(H:Hp)(E:XK):Addr->Hw->Prop:=λC G'=>∀ H',Mono K H H'->RelH K H' G'->E (.ref C) none H'
def CK(K:PySem.W.Frag)(sp:Spw):Sp:=λvs H Q E=>∃ ws G,TrL K H vs ws/\RelH K H G/\sp ws G (dn K H Q) (dnX K H E)
def Spw.M(sp:Spw):Prop:=∀ ws G(Q Q':Kw)(E E':Addr->Hw->Prop),(∀ w G',Q w G'->Q' w G')->(∀ w G',E w G'->E' w G')->sp ws G Q E->sp ws G Q' E'
structure Df(P:Program)(w:World)(K:PySem.W.Frag)(mg:Str->Option Value)(base:Heap)(x:Str)(k n:Nat)(sp:Spw):Prop where
 ex:∃(f:Addr)(fd:FuncData)(ps:List Str),mg x=some (.ref f)/\PySem.W.keepIn K (.ref f)=true/\Binds K fd ps []/\ps.length=n/\FnOk P w K mg base (CXe P w) k f fd ps (CK K sp)
 mono:sp.M
section
variable {X:Cx} {e:Expr} {es:List Expr} {pos p:Pos} {ga gb:GE} {gs:GA} {ex:Xw}
def Ac:GA:=λ_ G Q=>Q [] G
def Aa(g:GE)(gs:GA):GA:=λω G Q=>g ω G λx G1=>gs ω G1 λxs G2=>Q (x::xs) G2
theorem IA:GA.M Ac:=λ_ _ _ _ h q=>h _ _ q
theorem L7(b:ga.M)(a:gs.M):GA.M (Aa ga gs):=λω G Q c h q=>b _ _ _ _ (λx G1 q1=>a _ _ _ _ (λxs G2 q2=>h _ _ q2) q1) q
theorem VU:PAw X [] Ac:=L1 E5 (by rintro σ H Q ⟨ω,G,a,r,q⟩;exact q [] H .refl .nil r)
theorem VV(j:ga.M)(i:gs.M)(l:PEw X e ga)(g:PAw X es gs)(b:starEach (e::es) X.env=(false,eval e X.env)::starEach es X.env:=by rfl):PAw X (e::es) (Aa ga gs):=
 L1 (DQ l g b) (by rintro σ H Q ⟨ω,G,c,r,q⟩;exact⟨ω,G,c,r,j _ _ _ _ (λx G1 q1 v H1 d h r1=>⟨ω,G1,c.mono d,r1,i _ _ _ _ (λxs G2 q2 vs H2 f a k=>q2 _ H2 (d.trans f) (.cons (h.mono f) a) k) q1⟩) q⟩)
def Ah(sp:Spw)(ex:Xw)(gs:GA):GE:=λω G Q=>gs ω G λws G1=>sp ws G1 Q (ex ω)
variable {sp:Spw}
theorem IB(m:sp.M)(a:gs.M):GE.M (Ah sp ex gs):=λω G Q b h q=>a _ _ _ _ (λc G1 q1=>m _ _ _ _ _ _ h (λ_ _ z=>z) q1) q
theorem VW{x:Str}{k n:Nat}(D:Df X.prog X.w X.K X.mg X.base x k n sp)(I:Room k X.A)(u:Gl X x)(t:CJ X ex)(y:gs.M)(j:PAw X (e::es) gs)
  (c:(x==("__debug__":Str))=false:=by decide) (v:starEach (e::es) X.env=(false,eval e X.env)::starEach es X.env:=by rfl) (b:(backTo pos (starEach es X.env)).any (·.1)=false:=by rfl):
  PEw X (.Call (.Name x p) (e::es) [] pos) (Ah sp ex gs):=by
 obtain⟨f,fd,ps,o,E,s,_,F⟩:=D.ex
 refine AQ (VI F I u o E s .nil t j c v b) λσ H Q a=>?_
 obtain⟨ω,G,g,r,q⟩:=a
 refine⟨ω,G,g,r,y _ _ _ _ (λm G1 q1 vs H1 i d r1=>?_) q⟩
 refine⟨m,G1,by rw[Yx];exact d,r1,D.mono _ _ _ _ _ _ (λw h z=>B5 i z) (λC h z H2 l B=>?_) q1⟩
 exact⟨C,ω,h,rfl,(g.mono i).mono l,B,z⟩
end
def A3(N:List Str)(ws:List W):Sw:=ws.map some++List.replicate (N.length - ws.length) none
variable {N:List Str}
theorem E9{a:List W}(t:TrL K H vs a):TrSt K H (L2.BI N vs) (A3 N a):=by
 have hl:=t.length
 refine⟨by simp[L2.BI,A3,hl],λi w e=>?_⟩
 unfold A3 at e
 by_cases hi:i < a.length
 ·rw[YI (by simpa using hi),YN]at e
  cases z:a[i]? with
  | none=>rw[z]at e;cases e
  | some c =>
   rw[z]at e
   cases e
   obtain⟨v,b,r⟩:=t.get z
   exact⟨v,by unfold L2.BI;rw[YI (by simp;lia),YN,b];rfl,r⟩
 ·rw[List.getElem?_append_right (by simpa using hi),List.getElem?_replicate]at e
  split at e <;> cases e
def Sub(G G':Hw):Prop:=∀ a o,G a=some o->G' a=some o
theorem Sub.refl:Sub G G:=λ_ _ h=>h
theorem Sub.trans{G1 G2:Hw}(a:Sub G G1)(b:Sub G1 G2):Sub G G2:=λc o h=>b c o (a c o h)
variable {G':Hw}
theorem Sub.put(h:Sub G G')(b:G a=none):Sub G (put G' a o):=λc u z=>by
 rw[Bj (λe=>by rw[e,b]at z;cases z)]
 exact h c u z
theorem Sub.put2(h:Sub G G'):Sub (L3.put G a o) (L3.put G' a o):=λc u z=>by
 by_cases e:c=a
 ·subst e;rw[Au]at z ⊢;exact z
 ·rw[Bj e]at z ⊢;exact h c u z
theorem RelH.sub(r:RelH K H G')(s:Sub G G'):RelH K H G:=λa o e=>r a o (s a o e)
def Kw.C(Q:Kw):Prop:=∀ w G G',Sub G G'->Q w G->Q w G'
def Xc(E:Addr->Hw->Prop):Prop:=∀ w G G',Sub G G'->E w G->E w G'
theorem Fa{Q:VK}:Kw.C (dn K H Q):=λw G a s q v H2 m t r=>q v H2 m t (r.sub s)
theorem VX{E:XK}:Xc (dnX K H E):=λw G a s q H2 m r=>q H2 m (r.sub s)
def Av(Q:Kw):Ew:=⟨λ_ G=>Q .non G,Q,λ_ _=>False,λ_ _=>False⟩
section
variable {P:Program} {w:World} {mg:Str->Option Value} {base:Heap}
abbrev cxW(P:Program)(w:World)(K:PySem.W.Frag)(mg:Str->Option Value)(base:Heap)(N:List Str)(qual:Str)(scope:Scope)(f:Addr)(cd:Value)(A:Around)(outer:List Env)(s:Shared)(H:Hp)(E:XK):Cx :=
 AW (CXe P w) P w K mg base N qual scope f cd A outer s H E
theorem Fb{qual:Str}{scope:Scope}{f:Addr}{cd:Value}{A:Around}{outer:List Env}{s:Shared}{E:XK}:CJ (cxW P w K mg base N qual scope f cd A outer s H E) (λ_=>dnX K H E):=by
 intro pins σ Hc b ev s' I ⟨e,C,H',c,F,g,ω,G,a,d,r,q⟩
 cases a
 refine Vz pins σ Hc b ev s' I ⟨e,C,H',c,F,q H' ?_ r⟩
 exact(Un.mono' I.base).trans (Un.mono' F.un)
end
section
variable {X:Cx} {a b c e:Expr} {st:Stmt} {sts sts':List Stmt} {pos pos':Pos} {ga gb gc:GE} {gt gu:GT} {g1 g2:GS} {ex:Xw} {P:Hp->Prop}
def Ao:GS:=λD ω G=>D.nx ω G
def Af(g1 g2:GS):GS:=λD ω G=>g1 {D with nx:=g2 D} ω G
theorem VY:GS.M Ao:=λ_ _ _ _ h _ _ _ q=>h _ _ q
theorem VZ(c:g1.M)(d:g2.M):GS.M (Af g1 g2):=λω G D e h1 h2 a b q=>c _ _ {D with nx:=g2 D} _ (λ_ _ z=>d _ _ _ _ h1 h2 a b z) h2 a b q
theorem V0:CI X P [] Ao:=λB b=>Iz TN (by rintro D σ H ⟨ω,G,a,r,mb,q⟩;exact q σ H mb a r)
theorem V1(d:g1.M)(f:g2.M)(h1:PSw X P st g1)(h2:CI X P sts g2):CI X P (st::sts) (Af g1 g2):=λB b=>
 Iz (TQ (h1 B b) (h2 B b)) (by rintro D σ H ⟨ω,G,c,r,mb,q⟩;exact⟨ω,G,c,r,mb,d _ _ {dnD X.K B D with nx:=g2 (dnD X.K B D)} _ (λω' e z σ' H' m a r'=>⟨ω',e,a,r',m,z⟩) (λ_ _ z=>z) (λ_ _ z=>z) (λ_ _ z=>z) q⟩)
theorem V2(h1:PSw X P st g1):CI X P [st] g1:=λB a=>Iz (TR (h1 B a)) λD σ H z=>z
def Aj(i:Nat)(ga:GE):GS:=λD ω G=>ga ω G λw G1=>D.nx (ω.set i (some w)) G1
variable {i:Nat}
theorem IC(a:ga.M):GS.M (Aj i ga):=λω G D b h _ _ _ q=>a _ _ _ _ (λ_ _ z=>h _ _ z) q
theorem L8{x:Str}(c:X.N.Nodup)(hi:X.N[i]?=some x)(d:Loc X.env.scope x)(g:ga.M)(h:PEw X e ga)(b:swapsWith e (some (.Name x pos')) pos.line X.env=pure false)(f:X.fn x=true\/X.env.scope.names.lookup x=some .local):
  PSw X P (.Assign [.Name x pos'] e pos) (Aj i ga):=λB j=>
 Cs (T5 c hi d h b f) (by rintro D σ H ⟨ω,G,a,r,mb,q⟩;exact⟨ω,G,a,r,g _ _ _ _ (λw G1 z v H1 m t r1=>z _ H1 (mb.trans m) ((a.mono m).set i t) r1) q⟩)
def Ai(ga:GE):GS:=λD ω G=>ga ω G D.rt
theorem V3(a:ga.M):GS.M (Ai ga):=λω G D b _ h _ _ q=>a _ _ _ _ (λ_ _ z=>h _ _ z) q
theorem V4(c:ga.M)(a:PEw X e ga):PSw X P (.Return (some e) pos) (Ai ga):=λB d=>Cs (TY a) (by rintro D σ H ⟨ω,G,b,r,mb,q⟩;exact⟨ω,G,b,r,c _ _ _ _ (λw G1 z v H1 m t r1=>z v H1 (mb.trans m) t r1) q⟩)
def A8(ga:GE):GS:=λD ω G=>ga ω G λ_ G1=>D.nx ω G1
theorem V5(a:ga.M):GS.M (A8 ga):=λω G D b h _ _ _ q=>a _ _ _ _ (λ_ _ z=>h _ _ z) q
theorem V6(c:ga.M)(d:PEw X e ga)(b:swapsWith e none pos.line X.env=pure false):PSw X P (.Expr e pos) (A8 ga):=λB f=>
 Cs (TV d b) (by rintro D σ H ⟨ω,G,a,r,mb,q⟩;exact⟨ω,G,a,r,c _ _ _ _ (λw G1 z v H1 m t r1=>z _ H1 (mb.trans m) (a.mono m) r1) q⟩)
def gIf(gt:GT)(g1 g2:GS):GS:=λD ω G=>gt ω G λb G1=>if b=true then g1 D ω G1 else g2 D ω G1
theorem V7(e:gt.M)(d:g1.M)(f:g2.M):GS.M (gIf gt g1 g2):=λω G D g h1 h2 a c q=>e _ _ _ _ (λb G1 z=>by
 cases b with
 | true=>exact d _ _ _ _ h1 h2 a c z
 | false=>exact f _ _ _ _ h1 h2 a c z) q
theorem V8(e:gt.M)(f:g1.M)(g:g2.M)(hc:PTw X c gt)(h1:CI X P sts g1)(h2:CI X P sts' g2):PSw X P (.If c sts sts' pos) (gIf gt g1 g2):=λB d=>
 Cs (T1 hc (h1 B d) (h2 B d)) λD σ H⟨ω,G,a,r,mb,q⟩=>⟨ω,G,a,r,e _ _ _ _ (λb G1 z H1 m r1=>by
  cases b with
  | true=>exact⟨ω,G1,a.mono m,r1,mb.trans m,z⟩
  | false=>exact⟨ω,G1,a.mono m,r1,mb.trans m,z⟩) q⟩
def gTB(g:GE):GT:=λω G Q=>g ω G λw G1=>match w with | .bl b=>Q b G1 | _=>False
theorem L9(m:ga.M):GT.M (gTB ga):=λω G Q a h q=>m _ _ _ _ (λw G1 z=>by
 cases w <;> first | exact h _ _ z | exact z) q
theorem DS{b:Bool}(t:Tr K H v (.bl b)):v=.bl b:=by cases t;rfl
theorem Ma{b:Int}(t:Tr K H v (.int b)):v=.int b:=by cases t;rfl
theorem Mb{b:Str}(t:Tr K H v (.str b)):v=.str b:=by cases t;rfl
theorem V9{a:Addr}(t:Tr K H v (.ref a)):v=.ref a:=by cases t;rfl
theorem Mc(m:ga.M){f:Bool->Hp->Prop}(h:upT K (gTB ga) σ H f):up K ga σ H (λx H1=>∃ k,x=.bl k/\f k H1):=by
 obtain⟨ω,G,a,r,q⟩:=h
 refine⟨ω,G,a,r,m _ _ _ _ (λw G1 z v H1 c t r1=>?_) q⟩
 cases w with
 | bl b=>exact⟨b,DS t,z H1 c r1⟩
 | _=>exact z.elim
theorem Wa{op:CmpOp}{r:RW2}{r2:R2}(e:OpR X (compareOp op) r2)(mr:r.M)(c:ga.M)(mb:gb.M)(h:∀(x y:W)(v u:V)(G:Hw)(H:Hp)(Q:VK),Tr X.K H v x->Tr X.K H u y->RelH X.K H G->r x y G (dn X.K H Q)->r2 v u H Q)
  (f:PEw X a ga) (g:PEw X b gb) (d:behindInMarks op b=false):PTw X (.Compare a [op] [b] pos) (gTB (Ad r ga gb)):=
 F0 (UD e f g d) λσ H Q z=>F1 mr c mb h σ H _ (Mc (Cf mr c mb) z)
def BJ(w:W)(G:Hw):Option Bool:=match w with
 | .non=>some false
 | .bl b=>some b
 | .int i=>some (i != 0)
 | .tup xs=>some (!xs.isEmpty)
 | .rol xs=>some (!xs.isEmpty)
 | .ref a=>match G a with | some (.lst xs)=>some (!xs.isEmpty)| _=>none
 | .str _=>none
def AX(g:GE):GT:=λω G Q=>g ω G λw G1=>match BJ w G1 with | some b=>Q b G1 | none=>False
theorem Wb(m:ga.M):GT.M (AX ga):=λω G Q a h q=>m _ _ _ _ (λw G1 z=>by
 cases e:BJ w G1 with
 | none=>rw[e]at z;exact z
 | some b=>rw[e]at z;exact h _ _ z) q
theorem ID:∀{vs:List V}{a:List W},TrL K H vs a->vs.isEmpty=a.isEmpty
 | _,_,.nil=>rfl
 | _,_,.cons _ _=>rfl
theorem Wc{b:Bool}(t:Tr K H v w)(r:RelH K H G)(e:BJ w G=some b):Ib K v H b:=by
 cases t with
 | non=>cases e;rfl
 | bl c=>cases e;rfl
 | int i=>cases e;rfl
 | str x=>cases e
 | tup h l=>cases e;exact .inr (.inl ⟨_,h,by rw[ID l]⟩)
 | rol h l=>cases e;exact .inl ⟨_,h.sq,by rw[ID l]⟩
 | ref a =>
  unfold BJ at e
  dsimp only at e
  cases z:G a with
  | none=>rw[z]at e;cases e
  | some o =>
   rw[z]at e
   cases o with
   | exc C=>cases e
   | ins C fs=>cases e
   | dct f=>cases e
   | lst xs =>
    cases e
    obtain⟨vs,d,l⟩:=r a _ z
    exact .inl ⟨vs,SqL.of d,by rw[ID l]⟩
theorem Wd(g:ga.M)(h:PEw X e ga)(f:∀ a,isTrue e X.env a=(do let v <- a;standAt e.pos;holding [v] (truthy v)):=by intro _;rfl):PTw X e (AX ga):=
 F0 (UI h f) λσ H Q⟨ω,G,d,r,q⟩=>⟨ω,G,d,r,g _ _ _ _ (λw G1 z v H1 m t r1=>by
  cases c:BJ w G1 with
  | none=>rw[c]at z;exact z.elim
  | some b=>rw[c]at z;exact⟨b,Wc t r1 c,z H1 m r1⟩) q⟩
def gNt(g:GT):GT:=λω G Q=>g ω G λb G1=>Q (!b) G1
theorem We(m:gt.M):GT.M (gNt gt):=λω G Q a h q=>m _ _ _ _ (λw G1 z=>h _ _ z) q
theorem Wf(b:PTw X a gt):PTw X (.UnaryOp .Not a pos) (gNt gt):=F0 (Tu b) λσ H Q z=>z
abbrev PWw(X:Cx)(e:Expr)(g:GT):Prop:=PW X e (upT X.K g)
theorem F2{t t':TT}(h:PW X e t)(i:∀ σ H Q,t' σ H Q->t σ H Q):PW X e t':=λa pins s σ H Q I q=>h a pins s σ H Q I (i σ H Q q)
def Bu(g1 g2:GT):GT:=λω G Q=>g1 ω G λb G1=>if b=true then g2 ω G1 Q else Q false G1
def gOr(g1 g2:GT):GT:=λω G Q=>g1 ω G λb G1=>if b=true then Q true G1 else g2 ω G1 Q
theorem Wg(a:gt.M)(c:gu.M):GT.M (Bu gt gu):=λω G Q d h q=>a _ _ _ _ (λb G1 z=>by
 cases b with
 | true=>exact c _ _ _ _ h z
 | false=>exact h _ _ z) q
theorem Wh(a:gt.M)(c:gu.M):GT.M (gOr gt gu):=λω G Q d h q=>a _ _ _ _ (λb G1 z=>by
 cases b with
 | true=>exact h _ _ z
 | false=>exact c _ _ _ _ h z) q
variable {Ak:List Expr}
theorem Wi(b:PTw X a gt):PWw X (.BoolOp .And [a] pos) gt:=F2 (Tp b) λσ H Q z=>z
theorem Wj(b:PTw X a gt):PWw X (.BoolOp .Or [a] pos) gt:=F2 (Tq b) λσ H Q z=>z
theorem Wk(d:gt.M)(g:gu.M)(e:PTw X a gt)(f:PWw X (.BoolOp .And (b::Ak) pos) gu):PWw X (.BoolOp .And (a::b::Ak) pos) (Bu gt gu):=
 F2 (Ts e f) λσ H Q⟨ω,G,c,r,q⟩=>⟨ω,G,c,r,d _ _ _ _ (λb G1 z H1 m r1=>by
  cases b with
  | true=>exact⟨ω,G1,c.mono m,r1,g _ _ _ _ (λ_ _ z=>L0 m z) z⟩
  | false=>exact z H1 m r1) q⟩
theorem Wl(d:gt.M)(g:gu.M)(e:PTw X a gt)(f:PWw X (.BoolOp .Or (b::Ak) pos) gu):PWw X (.BoolOp .Or (a::b::Ak) pos) (gOr gt gu):=
 F2 (Tt e f) λσ H Q⟨ω,G,c,r,q⟩=>⟨ω,G,c,r,d _ _ _ _ (λb G1 z H1 m r1=>by
  cases b with
  | true=>exact z H1 m r1
  | false=>exact⟨ω,G1,c.mono m,r1,g _ _ _ _ (λ_ _ z=>L0 m z) z⟩) q⟩
variable {op:BoolOp}
theorem Wn{vs:List Expr}(h:PWw X (.BoolOp op vs pos) gt):PTw X (.BoolOp op vs pos) gt:=PW.pt h
def Bn(ga gb:GE):GE:=λω G Q=>ga ω G λx G1=>match x with | .bl c=>if c=true then gb ω G1 Q else Q (.bl false) G1 | _=>False
def Ct(ga gb:GE):GE:=λω G Q=>ga ω G λx G1=>match x with | .bl c=>if c=true then Q (.bl true) G1 else gb ω G1 Q | _=>False
def Cu(ga:GE):GE:=λω G Q=>ga ω G λx G1=>match x with | .bl c=>Q (.bl (!c)) G1 | _=>False
theorem Wo(a:ga.M)(mb:gb.M):GE.M (Bn ga gb):=λω G Q b h q=>a _ _ _ _ (λx G1 z=>by
 cases x with
 | bl c =>
  cases c with
  | true=>exact mb _ _ _ _ h z
  | false=>exact h _ _ z
 | _=>exact z) q
theorem Wp(a:ga.M)(mb:gb.M):GE.M (Ct ga gb):=λω G Q b h q=>a _ _ _ _ (λx G1 z=>by
 cases x with
 | bl c =>
  cases c with
  | true=>exact h _ _ z
  | false=>exact mb _ _ _ _ h z
 | _=>exact z) q
theorem Wq(a:ga.M):GE.M (Cu ga):=λω G Q b h q=>a _ _ _ _ (λx G1 z=>by
 cases x with
 | bl c=>exact h _ _ z
 | _=>exact z) q
theorem Wr(h:PEw X a ga):PEw X (.BoolOp op [a] pos) ga:=TC h
theorem Ws(g:ga.M)(mb:gb.M)(e:PEw X a ga)(f:PEw X (.BoolOp .And (b::Ak) pos) gb):PEw X (.BoolOp .And (a::b::Ak) pos) (Bn ga gb):=
 AQ (TD e f) λσ H Q⟨ω,G,d,r,q⟩=>⟨ω,G,d,r,g _ _ _ _ (λx G1 z v H1 m t r1=>by
  cases x with
  | bl c =>
   refine⟨c,DS t,?_⟩
   cases c with
   | true=>exact⟨ω,G1,d.mono m,r1,mb _ _ _ _ (λ_ _ z=>B5 m z) z⟩
   | false=>exact z _ H1 m (.bl false) r1
  | _=>exact z.elim) q⟩
theorem Wt(g:ga.M)(mb:gb.M)(e:PEw X a ga)(f:PEw X (.BoolOp .Or (b::Ak) pos) gb):PEw X (.BoolOp .Or (a::b::Ak) pos) (Ct ga gb):=
 AQ (TF e f) λσ H Q⟨ω,G,d,r,q⟩=>⟨ω,G,d,r,g _ _ _ _ (λx G1 z v H1 m t r1=>by
  cases x with
  | bl c =>
   refine⟨c,DS t,?_⟩
   cases c with
   | true=>exact z _ H1 m (.bl true) r1
   | false=>exact⟨ω,G1,d.mono m,r1,mb _ _ _ _ (λ_ _ z=>B5 m z) z⟩
  | _=>exact z.elim) q⟩
theorem Wu(e:ga.M)(b:PEw X a ga):PEw X (.UnaryOp .Not a pos) (Cu ga):=
 AQ (TH b) λσ H Q⟨ω,G,d,r,q⟩=>⟨ω,G,d,r,e _ _ _ _ (λx G1 z v H1 m t r1=>by
  cases x with
  | bl c=>exact⟨c,DS t,z _ H1 m (.bl _) r1⟩
  | _=>exact z.elim) q⟩
variable {es:List Expr} {gs:GA}
def Ae(gs:GA):GE:=λω G Q=>gs ω G λws G1=>ws.length<=sizeLine/\Q (.tup ws) G1
def An(gs:GA):GE:=λω G Q=>gs ω G λws G1=>ws.length<=sizeLine/\∀ p,G1 p=none->Q (.ref p) (put G1 p (.lst ws))
theorem Wv(m:gs.M):GE.M (Ae gs):=λω G Q a h q=>m _ _ _ _ (λb G1 z=>⟨z.1,h _ _ z.2⟩) q
theorem Ww(m:gs.M):GE.M (An gs):=λω G Q b h q=>m _ _ _ _ (λc G1 z=>⟨z.1,λp a=>h _ _ (z.2 p a)⟩) q
theorem Wx{x1}(m:gs.M)(h:PAw X es gs):PEw X (.Tuple es x1 pos) (Ae gs):=
 AQ (UP h) λσ H Q⟨ω,G,b,r,q⟩=>⟨ω,G,b,r,m _ _ _ _ (λd G1 z vs H1 c t r1=>⟨by rw[t.length];exact z.1,λp a=>
  z.2 _ _ (c.trans (Mono.new a _)) (.tup (SqT.of BA) (t.mono (Mono.new a _))) (r1.mono0 a)⟩) q⟩
theorem Wy(m:gs.M)(h:PAw X es gs):PEw X (.List es pos) (An gs):=
 AQ (UQ h) λσ H Q⟨ω,G,b,r,q⟩=>⟨ω,G,b,r,m _ _ _ _ (λd G1 z vs H1 c t r1=>⟨by rw[t.length];exact z.1,λp a=>
  z.2 p (r1.no a) _ _ (c.trans (Mono.new a _)) (.ref p) (r1.new a t)⟩) q⟩
end
def Cg(z:Str):List V:=z.cps.toList.map λc=>V.str ⟨#[c]⟩
def Itk(xs:List V):It:=⟨λi _=>i < xs.length,λi H x H'=>H'=H/\xs[i]?=some x,λi _=>xs.length<=i⟩
variable {P:Program}
theorem Wz{w:World}{tg:Expr}(B:∀ it u,letOwnedTupleGo tg it u=pure ())(it:Addr)(z:Str)(t:Tok):Da P w K tg (Itk (Cg z)) [it] it (λi h=>h.IsStrIter it "str_ascii_iterator" z t i) where
 mem:=by simp
 obj:=λi h st b a=>by
  have e:b=it:=by simpa using a
  subst e
  obtain⟨o,e,c,d⟩:=st
  exact⟨o,e,λv z=>by rw[d]at z;cases z⟩
 keep:=λi h h' st k=>by
  obtain⟨o,e,c,d⟩:=st
  exact⟨o,k it (by simp) o e,c,d⟩
 item:=by
  intro X j hw p hc i pins s σ H E I f st g
  subst j hw p
  obtain⟨m,q,G,n,y,x⟩:=f it (by simp)
  have W:=Walks.strAscii (prog:=X.prog) (w:=X.w) (I.ok.hd hc) it z t
  have hi:i < z.cps.size:=by simpa[Cg,Itk]using g
  refine W.item i s _ _ hi st λv h' tk D l J=>?_
  obtain⟨c,t',r,rfl⟩:=D
  have F:Inv X pins σ H {s with heap:=h',toks:=tk}:=I.turned (λb o a e=>J b o (by simpa using a) e) m q n y x
  exact⟨_,rfl,wpAny_of_eq (B _ _) ⟨.str ⟨#[c]⟩,H,F,⟨_,rfl⟩,⟨rfl,by simp[Cg,r]⟩,l,λb a=>(f b a).1⟩⟩
 done:=by
  intro X j hw p hc i pins s σ H E I f st g
  subst j hw p
  obtain⟨m,q,G,n,y,x⟩:=f it (by simp)
  have hi:z.cps.size<=i:=by simpa[Cg,Itk]using g
  exact wpAny_pyNext_ascii_end (I.ok.hd hc) st (by simp[hi]) λh' eb=>⟨rfl,I.turned (t':=s.toks) (λb o a e=>eb b o a e) m q n y x⟩
 self:=λA i s Q E st h=>wpAny_pyIter_striter_ascii st h
theorem WA{w:World}{tg:Expr}(B:∀ it u,letOwnedTupleGo tg it u=pure ())(it:Addr)(z:Str)(t:Tok):Da P w K tg (Itk (Cg z)) [it] it (λi h=>h.IsStrIter it "str_iterator" z t i) where
 mem:=by simp
 obj:=λi h st b a=>by
  have e:b=it:=by simpa using a
  subst e
  obtain⟨o,e,c,d⟩:=st
  exact⟨o,e,λv z=>by rw[d]at z;cases z⟩
 keep:=λi h h' st k=>by
  obtain⟨o,e,c,d⟩:=st
  exact⟨o,k it (by simp) o e,c,d⟩
 item:=by
  intro X j hw p hc i pins s σ H E I f st g
  subst j hw p
  obtain⟨m,q,G,n,y,x⟩:=f it (by simp)
  have W:=Walks.strWide (prog:=X.prog) (w:=X.w) (I.ok.hd hc) it z t
  have hi:i < z.cps.size:=by simpa[Cg,Itk]using g
  refine W.item i s _ _ hi st λv h' tk D l J=>?_
  obtain⟨c,t',r,rfl⟩:=D
  have F:Inv X pins σ H {s with heap:=h',toks:=tk}:=I.turned (λb o a e=>J b o (by simpa using a) e) m q n y x
  exact⟨_,rfl,wpAny_of_eq (B _ _) ⟨.str ⟨#[c]⟩,H,F,⟨_,rfl⟩,⟨rfl,by simp[Cg,r]⟩,l,λb a=>(f b a).1⟩⟩
 done:=by
  intro X j hw p hc i pins s σ H E I f st g
  subst j hw p
  obtain⟨m,q,G,n,y,x⟩:=f it (by simp)
  have hi:z.cps.size<=i:=by simpa[Cg,Itk]using g
  exact wpAny_pyNext_wide_end (I.ok.hd hc) st (by simp[hi]) λh' eb=>⟨rfl,I.turned (t':=s.toks) (λb o a e=>eb b o a e) m q n y x⟩
 self:=λA i s Q E st h=>wpAny_pyIter_striter_wide st h
def WB(K:PySem.W.Frag)(tl:TE):TI:=λσ H R=>tl σ H λx H1=>(∃ a,x=.ref a/\(∃ xs,SqL K H1 a xs)/\R (Itl K a) H1)\/(∃ a,x=.ref a/\(∃ xs,SqT K H1 a xs)/\R (Itt K a) H1)\/(∃ z,x=.str z/\R (Itk (Cg z)) H1)
variable {l:Expr}
theorem WC{tg:Expr}{tl:TE}(k:∀ it u,letOwnedTupleGo tg it u=pure ())(hl:PE X l tl):PI X tg l (WB X.K tl):=by
 intro pins s σ H R I h
 refine thn (hl pins s σ H _ I h) λv c i=>?_
 obtain⟨x,H1,d,r1,q1⟩:=i
 rcases q1 with⟨a,e,⟨xs,j⟩,q⟩|⟨a,e,⟨xs,j⟩,q⟩|⟨z,e,q⟩
 ·subst e
  cases r1
  obtain⟨f,r,p,w⟩:=d.list j
  refine wpAny_pyIter_list p.isList ?_
  refine⟨c.heap.objs.size,[c.heap.objs.size],_,_,H1,rfl,d.kept (t':=c.toks) λb o e=>Qk _ e,Ln a _,⟨_,Qm _ rfl,rfl,rfl⟩,λb g=>?_,q⟩
  have e:b=c.heap.objs.size:=by simpa using g
  subst e
  walk_at "pg"
 ·subst e
  cases r1
  obtain⟨f,r,p,w⟩:=d.tuple j
  refine wpAny_pyIter_tuple (show c.heap.IsTuple a f.toArray from p) ?_
  refine⟨c.heap.objs.size,[c.heap.objs.size],_,_,H1,rfl,d.kept (t':=c.toks) λb o e=>Qk _ e,Lo a _,⟨_,Qm _ rfl,rfl,rfl⟩,λb g=>?_,q⟩
  have e:b=c.heap.objs.size:=by simpa using g
  subst e
  walk_at "pg"
 ·subst e
  obtain⟨t,rfl⟩:=r1
  have m:∀ b∈[c.heap.objs.size],Ce X pins H1 b:=λb g=>by
   have e:b=c.heap.objs.size:=by simpa using g
   subst e
   walk_at "pg"
  cases n:z.cps.all (· < 128)
  ·exact wpAny_pyIter_wide n ⟨c.heap.objs.size,[c.heap.objs.size],_,_,H1,rfl,d.kept (t':=c.toks) λb o e=>Qk _ e,WA k _ z t,⟨_,Qm _ rfl,rfl,rfl⟩,m,q⟩
  ·exact wpAny_pyIter_ascii n ⟨c.heap.objs.size,[c.heap.objs.size],_,_,H1,rfl,d.kept (t':=c.toks) λb o e=>Qk _ e,Wz k _ z t,⟨_,Qm _ rfl,rfl,rfl⟩,m,q⟩
abbrev GI:=Sw->Hw->(List W->(Hw->Prop)->Hw->Prop)->Prop
def GI.M(g:GI):Prop:=∀ ω G(R R':List W->(Hw->Prop)->Hw->Prop),(∀ ws gd G',R ws gd G'->R' ws gd G')->g ω G R->g ω G R'
def DT(z:Str):List W:=z.cps.toList.map λc=>W.str ⟨#[c]⟩
theorem WD{z:Str}:TrL K H (Cg z) (DT z):=by
 unfold Cg DT
 generalize z.cps.toList=l
 induction l with
 | nil=>exact .nil
 | cons c l a=>exact .cons (.str _) a
def yes:Hw->Prop:=λ_=>True
def holds(a:Addr)(ws:List W):Hw->Prop:=λG=>G a=some (.lst ws)
def AO(ga:GE):GI:=λω G R=>ga ω G λw G1=>match w with
 | .tup ws=>R ws yes G1
 | .rol ws=>R ws yes G1
 | .str z=>R (DT z) yes G1
 | .ref a=>match G1 a with | some (.lst ws)=>R ws (holds a ws) G1 | _=>False
 | _=>False
variable {ga:GE}
theorem WE(m:ga.M):GI.M (AO ga):=λω G R d h q=>m _ _ _ _ (λw G1 z=>by
 cases w with
 | tup b=>exact h _ _ _ z
 | rol b=>exact h _ _ _ z
 | str x=>exact h _ _ _ z
 | ref a =>
  dsimp only at z ⊢
  cases e:G1 a with
  | none=>rw[e]at z;exact z
  | some o =>
   rw[e]at z
   cases o with
   | lst b=>exact h _ _ _ z
   | exc C=>exact z
   | ins C fs=>exact z
   | dct c=>exact z
 | _=>exact z) q
structure DU(K:PySem.W.Frag)(H1:Hp)(J:It)(ws:List W)(gd:Hw->Prop):Prop where
 go:∀(i:Nat)(H:Hp)(G:Hw),Mono K H1 H->RelH K H G->gd G->i < ws.length->J.go i H
 yld:∀(i:Nat)(H:Hp)(G:Hw)(x:V)(H':Hp),Mono K H1 H->RelH K H G->gd G->J.yld i H x H'->i < ws.length->Mono K H H'/\RelH K H' G/\∃ w,ws[i]?=some w/\Tr K H' x w
 stop:∀(H:Hp)(G:Hw),Mono K H1 H->RelH K H G->gd G->J.stop ws.length H
variable {i:Nat}
theorem F3{x:V}{a:List W}(r:RelH K H G)(e:H'=H)(h:∃ w,a[i]?=some w/\Tr K H x w):Mono K H H'/\RelH K H' G/\∃ w,a[i]?=some w/\Tr K H' x w:=by
 subst e;exact⟨.refl,r,h⟩
variable {b:Hw->Prop}{H1:Hp}
theorem F4{c:List W}(h:∀ H G,Mono K H1 H->RelH K H G->b G->∃ vs,SqL K H a vs/\TrL K H vs c):DU K H1 (Itl K a) c b where
 go:=λi H G m r g hi=>by
  obtain⟨vs,q,t⟩:=h H G m r g
  have hl:=t.length
  exact⟨vs,vs[i]'(by lia),q,by simp⟩
 yld:=λi H G x H' m r g y hi=>by
  obtain⟨vs,q,t⟩:=h H G m r g
  obtain⟨w,e,d⟩:=t.get' (y.2 vs q)
  exact F3 r y.1 ⟨w,e,d⟩
 stop:=λH G m r g=>by
  obtain⟨vs,q,t⟩:=h H G m r g
  exact⟨vs,q,Nat.le_of_eq t.length⟩
theorem Me{b:List W}{c:Hw->Prop}(q:SqT K H1 a vs)(t:TrL K H1 vs b):DU K H1 (Itt K a) b c where
 go:=λi H G m r g hi=>by
  have hl:=t.length
  exact⟨vs,vs[i]'(by lia),m.tup _ _ q,by simp⟩
 yld:=λi H G x H' m r g y hi=>by
  obtain⟨w,e,d⟩:=(t.mono m).get' (y.2 vs (m.tup _ _ q))
  exact F3 r y.1 ⟨w,e,d⟩
 stop:=λH G m r g=>⟨vs,m.tup _ _ q,Nat.le_of_eq t.length⟩
theorem WF{a:List W}(t:TrL K H1 vs a):DU K H1 (Itk vs) a b where
 go:=λi H G m r g hi=>by show i < vs.length;rw[t.length];exact hi
 yld:=λi H G x H' m r g y hi=>by
  obtain⟨w,e,c⟩:=(t.mono m).get' y.2
  exact F3 r y.1 ⟨w,e,c⟩
 stop:=λH G m r g=>by show vs.length<=a.length;exact Nat.le_of_eq t.length
def PIw(X:Cx)(tg l:Expr)(gi:GI):Prop:=∃ wi:TI,PI X tg l wi/\∀(σ:St)(H:Hp)(ω:Sw)(G:Hw)(R:List W->(Hw->Prop)->Hw->Prop)(R0:It->Hp->Prop),TrSt X.K H σ ω->RelH X.K H G->gi ω G R->
 (∀ ws gd G1 H1 J,R ws gd G1->Mono X.K H H1->RelH X.K H1 G1->gd G1->DU X.K H1 J ws gd->R0 J H1)->wi σ H R0
theorem WG{tg:Expr}(f:∀ it u,letOwnedTupleGo tg it u=pure ())(n:ga.M)(hl:PEw X l ga):PIw X tg l (AO ga):=by
 refine⟨_,WC f hl,λσ H ω G R y d r q k=>⟨ω,G,d,r,n _ _ _ _ (λw G1 z v H1 m t r1=>?_) q⟩⟩
 cases t with
 | tup h l=>exact .inr (.inl ⟨_,rfl,⟨_,h⟩,k _ _ _ H1 _ z m r1 trivial (Me h l)⟩)
 | rol h l=>exact .inl ⟨_,rfl,⟨_,h.sq⟩,k _ _ _ H1 _ z m r1 trivial (F4 λH2 G2 c _ _=>⟨_,(c.rol _ _ h).sq,l.mono c⟩)⟩
 | str x=>exact .inr (.inr ⟨x,rfl,k _ _ _ H1 _ z m r1 trivial (WF WD)⟩)
 | ref a =>
  dsimp only at z
  cases e:G1 a with
  | none=>rw[e]at z;exact z.elim
  | some o =>
   rw[e]at z
   cases o with
   | exc C=>exact z.elim
   | ins C fs=>exact z.elim
   | dct g=>exact z.elim
   | lst s =>
    obtain⟨vs,j,t1⟩:=r1 a _ e
    exact .inl ⟨a,rfl,⟨vs,SqL.of j⟩,k _ _ _ H1 _ z m r1 e (F4 λH2 G2 c p g2=>let⟨vs,e2,t2⟩:=p a _ g2;⟨vs,SqL.of e2,t2⟩)⟩
 | non=>exact z.elim
 | bl b=>exact z.elim
 | int i=>exact z.elim
structure TgW(X:Cx)(tg:Expr)(gg:GG):Prop where
 ex:∃ g:TG,PG X tg g/\∀(x:V)(w:W)(σ:St)(ω:Sw)(H:Hp)(G:Hw)(Q:St->Hp->Prop),Tr X.K H x w->TrSt X.K H σ ω->RelH X.K H G->gg w ω G (dnS X.K H Q)->g x σ H Q
 mono:gg.M
def gNm(i:Nat):GG:=λw ω G Q=>Q (ω.set i (some w)) G
variable {x:Str}
theorem Mf{p:Pos}(d:X.N.Nodup)(hi:X.N[i]?=some x)(b:Loc X.env.scope x)(a:X.fn x=true\/X.env.scope.names.lookup x=some .local):TgW X (.Name x p) (gNm i) where
 ex:=⟨_,DN d hi b a,λx w σ ω H G Q t c r q=>q _ H .refl (c.set i t) r⟩
 mono:=λ_ _ _ _ _ h q=>h _ _ q
def A9(i j:Nat):GG:=λw ω G Q=>match w with | .tup [a,b]=>Q ((ω.set i (some a)).set j (some b)) G | _=>False
def Bv(gd:Hw->Prop)(gg:GG)(gb:GS)(D:Ew):List W->Sw->Hw->Prop
 | [],ω,G=>gd G/\D.nx ω G
 | x::xs,ω,G=>gd G/\gg x ω G λω1 G1=>gb {nx:=Bv gd gg gb D xs,rt:=D.rt,bk:=D.nx,ct:=Bv gd gg gb D xs} ω1 G1
def Bo(gi:GI)(gg:GG)(gb:GS):GS:=λD ω G=>gi ω G λws gd G1=>Bv gd gg gb D ws ω G1
theorem IE{d:Hw->Prop}{c:GG}{gb:GS}(mg:c.M)(mb:gb.M){D e:Ew}(h1:∀ a b,D.nx a b->e.nx a b)(h2:∀ a b,D.rt a b->e.rt a b):∀(f:List W)(ω:Sw)(G:Hw),Bv d c gb D f ω G->Bv d c gb e f ω G
 | [],ω,G,q=>⟨q.1,h1 _ _ q.2⟩
 | x::xs,ω,G,q=>⟨q.1,mg _ _ _ _ _ (λω1 G1 z=>mb _ _ {nx:=Bv d c gb D xs,rt:=D.rt,bk:=D.nx,ct:=Bv d c gb D xs} _ (λa b y=>IE mg mb h1 h2 xs a b y) h2 h1 (λa b y=>IE mg mb h1 h2 xs a b y) z) q.2⟩
variable {gi:GI}{gb:GS}
theorem WH{a:GG}(c:gi.M)(mg:a.M)(mb:gb.M):GS.M (Bo gi a gb):=λω G D e h1 h2 f g q=>c _ _ _ _ (λb d G1 z=>IE mg mb h1 h2 b ω G1 z) q
variable {c:GG}{D:Ew}
theorem WI{a:List W}(q:Bv b c gb D a ω G):b G:=by
 cases a with
 | nil=>exact q.1
 | cons w a=>exact q.1
variable {iter:Expr}{body:List Stmt}{pos:Pos}
theorem WJ{P:Hp->Prop}{tg:Expr}{p:GG}(hp:PassesOwn (model X.prog X.w) X.A X.env X.xe)(hc:X.calm=true)(mi:gi.M)(mb:gb.M)(hi:PIw X tg iter gi)(hg:TgW X tg p)(hb:CI X L4 body gb)
  (hs:∀ x,foldedSetIterable iter X.env x=pure x:=by intro _;rfl):PSw X P (.For tg iter body [] pos) (Bo gi p gb):=by
 intro B hB
 obtain⟨wi,S,hi⟩:=hi
 obtain⟨g,N,T⟩:=hg.ex
 have mg:=hg.mono
 have v:PSs X body (λD σ H=>∃ t,upS X.K t gb D σ H):=(by rintro pins s σ H D I ⟨t,z⟩;exact hb t trivial pins s σ H D I z)
 refine Cs (Uh hp hc S N v hs) λD σ H E=>?_
 obtain⟨ω,G,U,r,u,q⟩:=E
 refine hi σ H ω G _ _ U r q λd gd G1 H1 J z Z r1 hgd F=>?_
 have l:=u.trans Z
 refine⟨λi m σ' H'=>m=d.length - i/\i<=d.length/\Mono X.K H1 H'/\∃ ω' k,TrSt X.K H' σ' ω'/\RelH X.K H' k/\Bv gd p gb (dnD X.K B D) (d.drop i) ω' k,⟨d.length,by simp,YU _,.refl,ω,G1,U.mono Z,r1,by simpa using z⟩,?_⟩
 rintro i m σ' H' ⟨rfl,hle,j,ω',k,o,r',n⟩
 have c:=WI n
 by_cases f:i < d.length
 ·refine .inr ⟨F.go i H' k j r' c f,λσ2 H2=>Mono X.K H1 H2/\∃ ω2 G2,TrSt X.K H2 σ2 ω2/\RelH X.K H2 G2/\Bv gd p gb (dnD X.K B D) (d.drop (i+1)) ω2 G2,
   (by rintro σ2 H2 ⟨y1,y2⟩;exact⟨d.length -(i+1),by lia,rfl,f,y1,y2⟩),λx H2 y=>?_⟩
  obtain⟨Y,ry,w,ew,tw⟩:=F.yld i H' k x H2 j r' c y f
  have j:=j.trans Y
  have ed:d.drop i=w::d.drop (i+1):=by
   obtain⟨h',e'⟩:=YW.mp ew
   rw[<- e'];exact List.drop_eq_getElem_cons h'
  rw[ed]at n
  refine T x w σ' ω' _ k _ tw (o.mono Y) ry (mg _ _ _ _ _ (λω1 O z1 σ1 H3 m3 L r3=>?_) n.2)
  exact⟨H1,ω1,O,L,r3,j.trans m3,mb _ _ _ _ (λa b y σ4 H4 Q h R=>⟨Q,a,b,h,R,y⟩) (λa b y=>B5 l y) (λa b y=>VM l y) (λa b y σ4 H4 Q h R=>⟨Q,a,b,h,R,y⟩) z1⟩
 ·have e:i=d.length:=by lia
  subst e
  rw[List.drop_length]at n
  exact .inl ⟨F.stop H' k j r' c,n.2 σ' H' (l.trans j) o r'⟩
def AY(gd:Hw->Prop)(gg:GG)(gt:GT)(ge:GE)(R:List W->Hw->Prop):List W->Sw->Hw->List W->Prop
 | [],_,G,ys=>gd G/\R ys G
 | x::xs,ω,G,ys=>gd G/\ys.length < sizeLine/\gg x ω G λω1 G1=>gt ω1 G1 λb G2=>if b=true then ge ω1 G2 λy G3=>AY gd gg gt ge R xs ω1 G3 (ys++[y])else AY gd gg gt ge R xs ω1 G2 ys
def AI(gi:GI)(n:Nat)(gg:GG)(gt:GT)(ge:GE):GE:=λω G Q=>gi ω G λws gd G1=>AY gd gg gt ge (λys G2=>∀ p,G2 p=none->Q (.ref p) (put G2 p (.lst ys))) ws (List.replicate n none) G1 []
theorem F5{i:Hw->Prop}{d:GG}{gt:GT}{ge:GE}(mg:d.M)(e:gt.M)(c:ge.M){R f:List W->Hw->Prop}(h:∀ a b,R a b->f a b):∀(g:List W)(ω:Sw)(G:Hw)(ys:List W),AY i d gt ge R g ω G ys->AY i d gt ge f g ω G ys
 | [],ω,G,ys,q=>⟨q.1,h _ _ q.2⟩
 | x::xs,ω,G,ys,q=>⟨q.1,q.2.1,mg _ _ _ _ _ (λω1 G1 z=>e _ _ _ _ (λb G2 j=>by
   cases b with
   | true=>exact c _ _ _ _ (λy l k=>F5 mg e c h xs ω1 l _ k) j
   | false=>exact F5 mg e c h xs ω1 G2 _ j) z) q.2.2⟩
variable {n:Nat}{gt:GT}{ge:GE}
theorem WK{a:GG}(c:gi.M)(mg:a.M)(d:gt.M)(b:ge.M):GE.M (AI gi n a gt ge):=λω G Q i h q=>
 c _ _ _ _ (λf g G1 z=>F5 mg d b (λys G2 z p e=>h _ _ (z p e)) _ _ _ _ z) q
variable {ys:List W}
theorem Mg{R:List W->Hw->Prop}{a:List W}(q:AY b c gt ge R a ω G ys):b G:=by
 cases a with
 | nil=>exact q.1
 | cons w a=>exact q.1
def AJ:GT:=λ_ G Q=>Q true G
theorem WL:GT.M AJ:=λ_ _ _ _ h q=>h _ _ q
abbrev PFw(X:Cx)(ifs:List Expr)(g:GT):Prop:=PF X ifs (upT X.K g)
theorem WM:PFw X [] AJ:=(by rintro pins s σ H Q I ⟨ω,G,a,r,q⟩;exact Vv pins s σ H Q I (q H .refl r))
theorem WN{c:Expr}{g:GT}(h:PTw X c g):PFw X [c] g:=Vw h
theorem WO(h:σ=List.replicate n none):TrSt K H σ (List.replicate n none):=by
 subst h
 refine⟨by simp,λi w e=>?_⟩
 rw[List.getElem?_replicate]at e
 split at e <;> cases e
variable {Nc:List Str}
theorem WP{t:GG}{T:TI}{g:TG}(N:∀(σ:St)(H:Hp)(ω:Sw)(G:Hw)(R:List W->(Hw->Prop)->Hw->Prop)(S:It->Hp->Prop),TrSt X.K H σ ω->RelH X.K H G->gi ω G R->
   (∀ a o G1 H1 J,R a o G1->Mono X.K H H1->RelH X.K H1 G1->o G1->DU X.K H1 J a o->S J H1)->T σ H S)
  (O:∀(x:V)(w:W)(σ:St)(ω:Sw)(H:Hp)(G:Hw)(Q:St->Hp->Prop),Tr X.K H x w->TrSt X.K H σ ω->RelH X.K H G->t w ω G (dnS X.K H Q)->g x σ H Q) (mg:t.M) (mt:gt.M) (me:ge.M) (σ:St) (H:Hp) (Q:VK) (h:up X.K (AI gi Nc.length t gt ge) σ H Q):
  FY T (λ_=>List.replicate Nc.length none) g (upT X.K gt) (up X.K ge) σ H Q:=by
 obtain⟨ω,G,ts,r,q⟩:=h
 refine N σ H ω G _ _ ts r q λa o G1 H1 J z m1 r1 hgd B=>?_
 refine⟨λi m σ' H' vs=>m=a.length - i/\i<=a.length/\Mono X.K H1 H'/\∃ ω' k ys,TrSt X.K H' σ' ω'/\RelH X.K H' k/\TrL X.K H' vs ys/\AY o t gt ge (λys G2=>∀ p,G2 p=none->dn X.K H Q (.ref p) (put G2 p (.lst ys))) (a.drop i) ω' k ys,
  ⟨a.length,by simp,YU _,.refl,_,G1,[],WO rfl,r1,.nil,by simpa using z⟩,?_⟩
 rintro i m σ' H' vs ⟨rfl,hle,j,ω',k,ys,I,r',tv,n⟩
 have c:=Mg n
 by_cases d:i < a.length
 ·have hw:∃ w,a[i]?=some w:=⟨a[i],by simp[d]⟩
  obtain⟨w0,v⟩:=hw
  have ed:a.drop i=w0::a.drop (i+1):=by
   obtain⟨h',e'⟩:=YW.mp v
   rw[<- e'];exact List.drop_eq_getElem_cons h'
  rw[ed]at n
  refine .inr ⟨B.go i H' k j r' c d,by rw[tv.length];exact n.2.1,λσ2 H2 s=>Mono X.K H1 H2/\∃ ω2 G2 u,TrSt X.K H2 σ2 ω2/\RelH X.K H2 G2/\TrL X.K H2 s u/\AY o t gt ge (λys G2=>∀ p,G2 p=none->dn X.K H Q (.ref p) (put G2 p (.lst ys))) (a.drop (i+1)) ω2 G2 u,
   (by rintro σ2 H2 s ⟨y1,y2⟩;exact⟨a.length -(i+1),by lia,rfl,d,y1,y2⟩),λx H2 y=>?_⟩
  obtain⟨D,ry,w,U,tw⟩:=B.yld i H' k x H2 j r' c y d
  have j:=j.trans D
  have tv:=tv.mono D
  rw[v]at U;cases U
  refine O x _ σ' ω' _ k _ tw (I.mono D) ry (mg _ _ _ _ _ (λω1 E z1 σ1 H3 A f r3=>?_) n.2.2)
  refine⟨ω1,E,f,r3,mt _ _ _ _ (λb Y P H4 l Z=>?_) z1⟩
  cases b with
  | true=>exact⟨ω1,Y,f.mono l,Z,me _ _ _ _ (λy5 G5 z5 v5 H5 L t5 r5=>⟨((j.trans A).trans l).trans L,ω1,G5,_,(f.mono l).mono L,r5,(((tv.mono A).mono l).mono L).append (.cons t5 .nil),z5⟩) P⟩
  | false=>exact⟨(j.trans A).trans l,ω1,Y,_,f.mono l,Z,(tv.mono A).mono l,P⟩
 ·have e:i=a.length:=by lia
  subst e
  rw[List.drop_length]at n
  exact .inl ⟨B.stop H' k j r' c,λp F=>n.2 p (r'.no F) _ _ ((m1.trans j).trans (Mono.new F _)) (.ref p) (r'.new F tv)⟩
structure TgU(X:Cx)(Nc:List Str)(scope:Scope)(tg:Expr)(gg:GG):Prop where
 ex:∃ g:TG,(∀ C fp s H,PG (cxB X Nc scope [] C fp s H) tg g)/\∀(x:V)(w:W)(σ:St)(ω:Sw)(H:Hp)(G:Hw)(Q:St->Hp->Prop),Tr X.K H x w->TrSt X.K H σ ω->RelH X.K H G->gg w ω G (dnS X.K H Q)->g x σ H Q
 mono:gg.M
variable {scope:Scope}
theorem BX{p:Pos}(d:Nc.Nodup)(hi:Nc[i]?=some x)(a:scope.names.lookup x=some .local):TgU X Nc scope (.Name x p) (gNm i) where
 ex:=⟨CH i,λC b s H=>DN (X:=cxB X Nc scope [] C b s H) d hi (.inl (lookup_relabel_local a)) (.inr (lookup_relabel_local a)),λx w σ ω H G Q t c r q=>q _ H .refl (c.set i t) r⟩
 mono:=λ_ _ _ _ _ h q=>h _ _ q
variable {j:Nat}
theorem Mh:GG.M (A9 i j):=λw ω G Q a h q=>by
 unfold A9 at q ⊢
 split
 ·exact h _ _ q
 ·rename_i z
  split at q
  ·exact(z _ _ rfl).elim
  ·exact q
theorem IF{y:Str}{p g:Pos}{k:Nat}(hc:X.calm=true)(c:Nc.Nodup)(hi:Nc[i]?=some x)(d:scope.names.lookup x=some .local)(m:Nc[j]?=some y)(e:scope.names.lookup y=some .local):
  TgU X Nc scope (.Tuple [.Name x p,.Name y g] k pos) (A9 i j) where
 ex:=⟨Cl X.K 2 (BT (CH i) (BT (CH j) Ch)),λC n s H=>Lm (X:=cxB X Nc scope [] C n s H) hc (FU (DN c hi (.inl (lookup_relabel_local d)) (.inr (lookup_relabel_local d))) (FU (DN c m (.inl (lookup_relabel_local e)) (.inr (lookup_relabel_local e))) Ll)),
  λv w σ ω H G Q t f r q=>by
   unfold A9 at q
   split at q
   ·rename_i a b
    cases t with
    | tup h l =>
     cases l with
     | cons ta l =>
      cases l with
      | cons tb l =>
       cases l
       exact⟨_,_,rfl,h,rfl,_,_,rfl,_,_,rfl,rfl,q _ H .refl ((f.set i ta).set j tb) r⟩
   ·exact q.elim⟩
 mono:=Mh
theorem WQ{elt tg:Expr}{ifs:List Expr}{e:GG}(hc:X.calm=true)(hi:PIw X tg iter gi)(B:Blk X Nc scope [] (λ_=>List.replicate Nc.length none))
  (d:TgU X Nc scope tg e) (k:gt.M) (i:∀ C fp s H,PFw (cxB X Nc scope [] C fp s H) ifs gt) (j:ge.M) (h:∀ C fp s H,PEw (cxB X Nc scope [] C fp s H) elt ge) (f:∀ x,foldedSetIterable iter X.env x=pure x):
  PEw X (.ListComp elt [⟨tg,iter,ifs,0⟩] scope pos) (AI gi Nc.length e gt ge):=by
 obtain⟨l,a,hi⟩:=hi
 obtain⟨g,c,b⟩:=d.ex
 exact AQ (LX hc a B c i h f) (WP hi b d.mono k j)
def Az(C:Int->Int->Prop)(f:Int->Int->Int):RW2:=λx y G Q=>match x,y with
 | .int i,.int j=>C i j/\Q (.int (f i j)) G
 | _,_=>False
theorem Dh{C:Int->Int->Prop}{f:Int->Int->Int}:RW2.M (Az C f):=λx y G Q a h q=>by
 cases x <;> cases y <;> first | exact q | exact⟨q.1,h _ _ q.2⟩
theorem F6{C:Int->Int->Prop}{f:Int->Int->Int}(x y:W)(v u:V)(G:Hw)(H:Hp)(Q:VK)(a:Tr K H v x)(ty:Tr K H u y)(r:RelH K H G)(q:Az C f x y G (dn K H Q)):rI C (λi j=>.int (f i j)) v u H Q:=by
 cases a <;> first | exact q.elim |(cases ty <;> first | exact q.elim | exact⟨_,_,rfl,rfl,q.1,q.2 _ H .refl (.int _) r⟩)
def Bi:RW2:=λx y G Q=>match x,y with
 | .int i,.int j=>Q (.int (i+j)) G
 | .str a,.str b=>a.length+b.length<=sizeLine/\Q (.str (a++b)) G
 | .ref a,.ref b=>(match G a,G b with
  | some (.lst xs),some (.lst ys)=>xs.length+ys.length<=sizeLine/\∀ p,G p=none->Q (.ref p) (put G p (.lst (xs++ys)))
  | _,_=>False)
 | _,_=>False
theorem WR:RW2.M Bi:=λx y G Q g h q=>by
 cases x <;> cases y <;> first | exact q | exact h _ _ q | exact⟨q.1,h _ _ q.2⟩| skip
 rename_i a b
 unfold Bi at q ⊢
 dsimp only at q ⊢
 cases c:G a with
 | none=>rw[c]at q;exact q
 | some d =>
  cases eb:G b with
  | none=>rw[c,eb]at q;cases d <;> exact q
  | some e =>
   rw[c,eb]at q
   cases d <;> cases e <;> first | exact q | exact⟨q.1,λp f=>h _ _ (q.2 p f)⟩
theorem WS:OpR X (binaryOp .Add) (λx y H Q=>(rI0 λi j=>.int (i+j)) x y H Q\/(∃ i j,x=.str i/\y=.str j/\i.length+j.length<=sizeLine/\Q (.str (i++j)) H)\/E8 x y H Q):=OpR.or Um (OpR.or UJ Vl)
theorem WT(x y:W)(v u:V)(G:Hw)(H:Hp)(Q:VK)(k:Tr K H v x)(ty:Tr K H u y)(r:RelH K H G)(q:Bi x y G (dn K H Q)):
  (rI0 λi j=>.int (i+j)) v u H Q\/(∃ i j,v=.str i/\u=.str j/\i.length+j.length<=sizeLine/\Q (.str (i++j)) H)\/E8 v u H Q:=by
 cases k with
 | int i=>cases ty <;> first | exact q.elim | exact .inl ⟨_,_,rfl,rfl,q _ H .refl (.int _) r⟩
 | str i=>cases ty <;> first | exact q.elim | exact .inr (.inl ⟨_,_,rfl,rfl,q.1,q.2 _ H .refl (.str _) r⟩)
 | ref a =>
  cases ty <;> try exact q.elim
  rename_i b
  unfold Bi at q
  dsimp only at q
  cases c:G a with
  | none=>rw[c]at q;exact q.elim
  | some f =>
   cases eb:G b with
   | none=>rw[c,eb]at q;cases f <;> exact q.elim
   | some g =>
    rw[c,eb]at q
    cases f <;> cases g <;> try exact q.elim
    obtain⟨vs,h,t1⟩:=r a _ c
    obtain⟨m,l,e⟩:=r b _ eb
    exact .inr (.inr ⟨a,b,vs,m,rfl,rfl,h,l,by rw[t1.length,e.length];exact q.1,λp d=>q.2 p (r.no d) _ _ (Mono.new d _) (.ref p) (r.new d (t1.append e))⟩)
 | _=>exact q.elim
def AU(f:Int->Int->Bool):RW2:=λx y G Q=>match x,y with
 | .int i,.int j=>Q (.bl (f i j)) G
 | _,_=>False
variable {f:Int->Int->Bool}
theorem Mi:RW2.M (AU f):=λx y G Q a h q=>by
 cases x <;> cases y <;> first | exact q | exact h _ _ q
theorem Mj(x y:W)(v u:V)(G:Hw)(H:Hp)(Q:VK)(a:Tr K H v x)(ty:Tr K H u y)(r:RelH K H G)(q:AU f x y G (dn K H Q)):rI0 (λi j=>.bl (f i j)) v u H Q:=by
 cases a <;> first | exact q.elim |(cases ty <;> first | exact q.elim | exact⟨_,_,rfl,rfl,q _ H .refl (.bl _) r⟩)
def opt(o:Option W)(f:W->Prop):Prop:=match o with | some w=>f w | none=>False
theorem IG{o:Option W}{f a:W->Prop}(h:∀ w,f w->a w)(q:opt o f):opt o a:=by
 cases o with
 | none=>exact q
 | some w=>exact h _ q
theorem Cw{o:Option W}{f:W->Prop}(q:opt o f):∃ w,o=some w/\f w:=by
 cases o with
 | none=>exact q.elim
 | some w=>exact⟨w,rfl,q⟩
def Ag(f:W->W->Hw->Option W):RW2:=λx y G Q=>opt (f x y G) λw=>Q w G
theorem Di{f:W->W->Hw->Option W}:RW2.M (Ag f):=λx y G Q a h q=>IG (λw z=>h _ _ z) q
def ixW(x y:W)(G:Hw):Option W:=match x,y with
 | .tup xs,.int i=>atI xs i
 | .rol xs,.int i=>atI xs i
 | .ref a,.int i=>(match G a with | some (.lst xs)=>atI xs i | _=>none)
 | .str z,.int i=>if z.length<=sizeLine then(atI z.cps.toList i).map λc=>.str ⟨#[c]⟩else none
 | _,_=>none
theorem IH{a:List W}{i:Int}(t:TrL K H vs a)(e:atI a i=some w):∃ v,atI vs i=some v/\Tr K H v w:=by
 unfold atI at e ⊢
 rw[t.length]
 cases z:ixN a.length i with
 | none=>rw[z]at e;cases e
 | some j =>
  rw[z]at e
  exact t.get e
theorem WU:IxR X (λx y H Q=>Ij X.K x y H Q\/Ik X.K x y H Q\/Il x y H Q):=IxR.or U5 (IxR.or U6 U7)
theorem WV(x y:W)(v u:V)(G:Hw)(H:Hp)(Q:VK)(m:Tr K H v x)(ty:Tr K H u y)(r:RelH K H G)(q:Ag ixW x y G (dn K H Q)):Ij K v u H Q\/Ik K v u H Q\/Il v u H Q:=by
 obtain⟨w,e,f⟩:=Cw q
 cases ty with
 | int i =>
  cases m with
  | tup h l =>
   obtain⟨j,b,t'⟩:=IH l e
   exact .inr (.inl ⟨_,_,_,_,rfl,rfl,h,b,f _ H .refl t' r⟩)
  | rol h l =>
   obtain⟨j,b,t'⟩:=IH l e
   exact .inl ⟨_,_,_,_,rfl,rfl,h.sq,b,f _ H .refl t' r⟩
  | str z =>
   unfold ixW at e;dsimp only at e
   split at e
   ·rename_i n
    cases d:atI z.cps.toList i with
    | none=>rw[d]at e;cases e
    | some c =>
     rw[d]at e;cases e
     exact .inr (.inr ⟨z,i,c,rfl,rfl,n,d,f _ H .refl (.str _) r⟩)
   ·cases e
  | ref a =>
   unfold ixW at e;dsimp only at e
   cases g:G a with
   | none=>rw[g]at e;cases e
   | some o =>
    rw[g]at e
    cases o with
    | exc C=>cases e
    | ins C fs=>cases e
    | dct k=>cases e
    | lst p =>
     obtain⟨vs,d,l⟩:=r a _ g
     obtain⟨j,b,t'⟩:=IH l e
     exact .inl ⟨_,_,_,_,rfl,rfl,SqL.of d,b,f _ H .refl t' r⟩
  | _=>cases e
 | _=>cases x <;> cases e
structure Em(X:Cx)(e:Expr)(g:GE):Prop where
 p:PEw X e g
 m:g.M
structure Tm(X:Cx)(e:Expr)(g:GT):Prop where
 p:PTw X e g
 m:g.M
structure Wm(X:Cx)(e:Expr)(g:GT):Prop where
 p:PWw X e g
 m:g.M
structure Am(X:Cx)(es:List Expr)(g:GA):Prop where
 p:PAw X es g
 m:g.M
structure Sm(X:Cx)(P:Hp->Prop)(s:Stmt)(g:GS):Prop where
 p:PSw X P s g
 m:g.M
structure Ssm(X:Cx)(P:Hp->Prop)(s:List Stmt)(g:GS):Prop where
 p:CI X P s g
 m:g.M
structure Im(X:Cx)(tg l:Expr)(g:GI):Prop where
 p:PIw X tg l g
 m:g.M
def place(N:List Str)(x:Str):Option Nat:=N.findIdx? (·==x)
theorem Mk(h:place N x=some i):N[i]?=some x:=by
 unfold place at h
 obtain⟨hi,e,_⟩:=List.findIdx?_eq_some_iff_getElem.mp h
 rw[Yp hi,eq_of_beq e]
def seen(sc:Scope)(x:Str):Bool:=match sc.names.lookup x with | some .local=>true | some .cell=>true | some .free=>true | _=>false
theorem Ml{a:Scope}(h:seen a x=true):Vis a x:=by
 unfold seen at h
 split at h <;> first |(rename_i e;exact .inl e)|(rename_i e;exact .inr (.inl e))|(rename_i e;exact .inr (.inr e))| cases h
def EI(sc:Scope)(x:Str):Bool:=match sc.names.lookup x with | some .local=>true | _=>false
theorem EJ{a:Scope}(h:EI a x=true):a.names.lookup x=some .local:=by
 unfold EI at h
 split at h
 ·rename_i e;exact e
 ·cases h
section
variable {X:Cx} {a b c e f:Expr} {es Ak:List Expr} {st:Stmt} {sts sts':List Stmt} {pos pos' p:Pos} {ga gb gc:GE} {gt gu:GT} {gs:GA} {g1 g2:GS} {ex:Xw} {P:Hp->Prop}
theorem DV{i:Int}{j}:Em X (.Constant (.int i) j pos) (gC (.int i)):=⟨VP,EG⟩
theorem WW{i:Bool}{j}:Em X (.Constant (.bool i) j pos) (gC (.bl i)):=⟨VQ,EG⟩
theorem WX{j}:Em X (.Constant .none j pos) (gC .non):=⟨VR,EG⟩
theorem WY{i:Str}{j}:Em X (.Constant (.str i) j pos) (gC (.str i)):=⟨VS,EG⟩
theorem WZ(c:Em X a ga)(d:Em X b gb):Em X (.BinOp a .Sub b pos) (Ad (Az (λ_ _=>True) λi j=>i - j) ga gb):=
 ⟨EH (r2:=rI (λ_ _=>True) λi j=>.int (i - j)) (opI λ_ _ _ _ _ _ _ _ q=>sub_int q) Dh c.m d.m F6 c.p d.p,Cf Dh c.m d.m⟩
theorem W0(c:Em X a ga)(d:Em X b gb):Em X (.BinOp a .FloorDiv b pos) (Ad (Az DO λi j=>i / j) ga gb):=⟨EH Up Dh c.m d.m F6 c.p d.p,Cf Dh c.m d.m⟩
theorem W1(c:Em X a ga)(d:Em X b gb):Em X (.BinOp a .Mod b pos) (Ad (Az (λ_ j=>0 < j) λi j=>i % j) ga gb):=⟨EH Uq Dh c.m d.m F6 c.p d.p,Cf Dh c.m d.m⟩
theorem W2(c:Em X a ga)(d:Em X b gb):Em X (.BinOp a .Pow b pos) (Ad (Az Dc λi j=>i ^ j.toNat) ga gb):=⟨EH Ur Dh c.m d.m F6 c.p d.p,Cf Dh c.m d.m⟩
theorem Mm(e:FW b)(c:Em X a ga)(d:Em X b gb):Em X (.Subscript a b pos) (Ad (Ag ixW) ga gb):=⟨L6 WU Di c.m d.m WV c.p d.p e,Cf Di c.m d.m⟩
theorem W3{k}(h:Am X es gs):Em X (.Tuple es k pos) (Ae gs):=⟨Wx h.m h.p,Wv h.m⟩
theorem F7(h:Am X es gs):Em X (.List es pos) (An gs):=⟨Wy h.m h.p,Ww h.m⟩
variable {op:BoolOp}
theorem II(h:Em X a ga):Em X (.BoolOp op [a] pos) ga:=⟨Wr h.p,h.m⟩
theorem IJ(c:Em X a ga)(d:Em X (.BoolOp .And (b::Ak) pos) gb):Em X (.BoolOp .And (a::b::Ak) pos) (Bn ga gb):=⟨Ws c.m d.m c.p d.p,Wo c.m d.m⟩
theorem W4(c:Em X a ga)(d:Em X (.BoolOp .Or (b::Ak) pos) gb):Em X (.BoolOp .Or (a::b::Ak) pos) (Ct ga gb):=⟨Wt c.m d.m c.p d.p,Wp c.m d.m⟩
theorem W5(b:Em X a ga):Em X (.UnaryOp .Not a pos) (Cu ga):=⟨Wu b.m b.p,Wq b.m⟩
theorem Bf:Am X [] Ac:=⟨VU,IA⟩
theorem AL(c:starEach (e::es) X.env=(false,eval e X.env)::starEach es X.env)(b:Em X e ga)(a:Am X es gs):Am X (e::es) (Aa ga gs):=⟨VV b.m a.m b.p a.p c,L7 b.m a.m⟩
theorem BY{k:Nat}{sp:Spw}(D:Df X.prog X.w X.K X.mg X.base x k n sp)(h:Room k X.A)(f:Gl X x)(g:CJ X ex)(a:(x==("__debug__":Str))=false)(d:starEach (e::es) X.env=(false,eval e X.env)::starEach es X.env)(b:(backTo pos (starEach es X.env)).any (·.1)=false)
  (c:Am X (e::es) gs):Em X (.Call (.Name x p) (e::es) [] pos) (Ah sp ex gs):=⟨VW D h f g c.m c.p a d b,IB D.mono c.m⟩
theorem IK(c:∀ a,isTrue e X.env a=(do let v <- a;standAt e.pos;holding [v] (truthy v)))(b:Em X e ga):Tm X e (AX ga):=⟨Wd b.m b.p c,Wb b.m⟩
theorem IL(b:Tm X a gt):Tm X (.UnaryOp .Not a pos) (gNt gt):=⟨Wf b.p,We b.m⟩
theorem Mn{vs:List Expr}(h:Wm X (.BoolOp op vs pos) gt):Tm X (.BoolOp op vs pos) gt:=⟨Wn h.p,h.m⟩
theorem W6(h:Tm X a gt):Wm X (.BoolOp .And [a] pos) gt:=⟨Wi h.p,h.m⟩
theorem W7(h:Tm X a gt):Wm X (.BoolOp .Or [a] pos) gt:=⟨Wj h.p,h.m⟩
theorem W8(c:Tm X a gt)(d:Wm X (.BoolOp .And (b::Ak) pos) gu):Wm X (.BoolOp .And (a::b::Ak) pos) (Bu gt gu):=⟨Wk c.m d.m c.p d.p,Wg c.m d.m⟩
theorem Mo(c:Tm X a gt)(d:Wm X (.BoolOp .Or (b::Ak) pos) gu):Wm X (.BoolOp .Or (a::b::Ak) pos) (gOr gt gu):=⟨Wl c.m d.m c.p d.p,Wh c.m d.m⟩
theorem DW:Ssm X P [] Ao:=⟨V0,VY⟩
theorem AR(h:Sm X P st g1):Ssm X P [st] g1:=⟨V2 h.p,h.m⟩
theorem AC(h1:Sm X P st g1)(h2:Ssm X P sts g2):Ssm X P (st::sts) (Af g1 g2):=⟨V1 h1.m h2.m h1.p h2.p,VZ h1.m h2.m⟩
theorem Ba(a:Em X e ga):Sm X P (.Return (some e) pos) (Ai ga):=⟨V4 a.m a.p,V3 a.m⟩
theorem DX(b:swapsWith e none pos.line X.env=pure false)(a:Em X e ga):Sm X P (.Expr e pos) (A8 ga):=⟨V6 a.m a.p b,V5 a.m⟩
theorem Dj(hc:Tm X c gt)(h1:Ssm X P sts g1)(h2:Ssm X P sts' g2):Sm X P (.If c sts sts' pos) (gIf gt g1 g2):=⟨V8 hc.m h1.m h2.m hc.p h1.p h2.p,V7 hc.m h1.m h2.m⟩
theorem W9{tg:Expr}(a:∀ it u,letOwnedTupleGo tg it u=pure ())(hl:Em X l ga):Im X tg l (AO ga):=⟨WG a hl.m hl.p,WE hl.m⟩
theorem Mp{tg:Expr}{c:GG}{gb:GS}(e:PassesOwn (model X.prog X.w) X.A X.env X.xe)(hc:X.calm=true)(d:∀ x,foldedSetIterable iter X.env x=pure x)(hi:Im X tg iter gi)(b:TgW X tg c)(a:Ssm X L4 sts gb):Sm X P (.For tg iter sts [] pos) (Bo gi c gb):=
 ⟨WJ e hc hi.m a.m hi.p b a.p d,WH hi.m b.mono a.m⟩
end
theorem Xa{bs:List Bool}{a:List Value}(r:Vals (bs.map V.bl) a){v:Value}(e:a.toArray[i]?=some v):v=.bool (bs.getD i false):=by
 have c:a[i]?=some v:=by simpa using e
 have hl:=r.length
 rw[Yh]at hl
 have hi:i < a.length:=(YW.mp c).1
 have b:bs[i]?=some (bs[i]'(by lia)):=Yp _
 obtain⟨u,d,r1⟩:=r.get (i:=i) (x:=.bl (bs[i]'(by lia))) (by rw[YN,b];rfl)
 rw[c]at d;cases d
 rw[YY,b]
 exact r1
theorem Xb{bs:List Bool}:(List.range bs.length).all (λi=>bs.getD i false)=bs.all id:=by
 rw[Bool.eq_iff_iff]
 simp only[List.all_eq_true,List.mem_range,id]
 constructor
 ·intro h b a
  obtain⟨i,hi,e⟩:=List.mem_iff_getElem.mp a
  have:=h i hi
  rw[YY,Yp hi]at this
  rw[<- e];exact this
 ·intro h i hi
  rw[YY,Yp hi]
  exact h _ (Qc hi)
section
variable {X:Cx}
theorem Xd(hc:X.calm=true):CallR X (.builtin "all") (λxs H Q=>∃(p:Addr)(bs:List Bool),xs=[.ref p]/\SqL X.K H p (bs.map V.bl)/\Q (.bl (bs.all id)) H):=by
 intro pins s σ H xs j Q I r h
 obtain⟨p,bs,rfl,a,q⟩:=h
 obtain⟨u,rfl,d⟩:=Dd r
 cases d
 obtain⟨c,r',pl,g⟩:=I.list a
 have hl:=r'.length
 rw[Yh]at hl
 obtain⟨o,n,e,_⟩:=id pl
 refine call_all_walk (wpAny_pyIter_list pl.isList ⟨s.heap.objs.size,_,_,_,_,_,λi=>bs.getD i false,rfl,Walks.list (A:=X.A.in1) (I.ok.hd hc) _ p (Ys (Ql e)) c.toArray,
  ⟨⟨_,Qm _ rfl,rfl,rfl⟩,pl.isList.push _⟩,λi v s Q E f a=>by rw[Xa r' f];exact wpAny_truthy_bool a,λh' tk k=>?_⟩)
 refine⟨.bl (bs.all id),H,I.kept (t':=tk) λb o e=>k b o (by simpa using Ys (Ql e)) (Qk _ e),?_,q⟩
 show Value.bool _=_
 rw[Yn,<- hl,Xb]
theorem IM{ns:List Int}{a:List Value}(r:Vals (ns.map V.int) a){v:Value}(e:a.toArray[i]?=some v):∃ t,v=.int (ns.getD i 0) t:=by
 have c:a[i]?=some v:=by simpa using e
 have hl:=r.length
 rw[Yh]at hl
 have hi:i < a.length:=(YW.mp c).1
 have b:ns[i]?=some (ns[i]'(by lia)):=Yp _
 obtain⟨u,d,r1⟩:=r.get (i:=i) (x:=.int (ns[i]'(by lia))) (by rw[YN,b];rfl)
 rw[c]at d;cases d
 rw[YY,b]
 exact r1
theorem Xe(hc:X.calm=true):CallR X (.builtin "sum") (λxs H Q=>∃(p:Addr)(ns:List Int),xs=[.ref p]/\SqL X.K H p (ns.map V.int)/\PyProof.Rows.SumFits ns/\Q (.int ns.sum) H):=by
 intro pins s σ H xs x Q I r h
 obtain⟨p,ns,rfl,g,l,q⟩:=h
 obtain⟨u,rfl,f⟩:=Dd r
 cases f
 obtain⟨c,r',pl,w⟩:=I.list g
 have hl:=r'.length
 rw[Yh]at hl
 obtain⟨o,n,e,_⟩:=id pl
 refine call_sum_walk (wpAny_pyIter_list pl.isList ⟨s.heap.objs.size,_,_,_,_,_,λi=>ns.getD i 0,rfl,Walks.list (A:=X.A.in1) (I.ok.hd hc) _ p (Ys (Ql e)) c.toArray,
  ⟨⟨_,Qm _ rfl,rfl,rfl⟩,pl.isList.push _⟩,λb m=>?_,λi v t=>IM r' t,λj d=>?_,λh' tk t' k=>?_⟩)
 ·rw[Qn]
  rcases Yo.mp m with a | a
  ·rw[a];exact Nat.lt_succ_self _
  ·rw[YA.mp a];exact Nat.lt_succ_of_lt (Ql e)
 ·rw[Yn,<- hl]at d
  have:=l j d
  rw[preSum_getD]
  exact this
 ·refine⟨.int ns.sum,H,I.kept (t':=tk) λb o e=>k b o (by simpa using Ys (Ql e)) (Qk _ e),⟨t',?_⟩,q⟩
  rw[Yn,<- hl,preSum_getD,List.take_length]
end
abbrev RWc:=List W->Hw->Kw->Prop
def RWc.M(r:RWc):Prop:=∀ ws G(Q Q':Kw),(∀ w G',Q w G'->Q' w G')->r ws G Q->r ws G Q'
def gB(r:RWc)(gs:GA):GE:=λω G Q=>gs ω G λws G1=>r ws G1 Q
variable {r:RWc}{gs:GA}
theorem Mq(mr:r.M)(a:gs.M):GE.M (gB r gs):=λω G Q b h q=>a _ _ _ _ (λc G1 z=>mr _ _ _ _ h z) q
theorem Mr{r1:List V->Hp->VK->Prop}(mr:r.M)(d:gs.M)(f:∀ a vs G H Q,TrL K H vs a->RelH K H G->r a G (dn K H Q)->r1 vs H Q)(σ:St)(H:Hp)(Q:VK)(h:up K (gB r gs) σ H Q):tCB r1 (upA K gs) σ H Q:=by
 obtain⟨ω,G,c,e,q⟩:=h
 exact⟨ω,G,c,e,d _ _ _ _ (λa G1 z vs H1 m t b=>f a vs G1 H1 Q t b (mr _ _ _ _ (λw g y=>B5 m y) z)) q⟩
section
variable {X:Cx} {x:Str} {p pos:Pos} {e:Expr} {es:List Expr} {gs:GA} {r:RWc} {r1:List V->Hp->VK->Prop} {id T:String}
theorem Xf(hc:CallR X (.builtin id) r1)(mr:r.M)(k:∀ d vs G H Q,TrL X.K H vs d->RelH X.K H G->r d G (dn X.K H Q)->r1 vs H Q)(h:Gl X x)(i:X.mg x=none)(g:bootBuiltins x=some (.builtin id))(j:x≠"__name__")(a:(x==("__debug__":Str))=false)
  (f:starEach (e::es) X.env=(false,eval e X.env)::starEach es X.env) (b:(backTo pos (starEach es X.env)).any (·.1)=false) (c:Am X (e::es) gs):Em X (.Call (.Name x p) (e::es) [] pos) (gB r gs):=
 ⟨AQ (UT hc h i g c.p j a f b) (Mr mr c.m k),Mq mr c.m⟩
theorem Xg(hc:CallR X (.type T) r1)(mr:r.M)(k:∀ d vs G H Q,TrL X.K H vs d->RelH X.K H G->r d G (dn X.K H Q)->r1 vs H Q)(h:Gl X x)(i:X.mg x=none)(g:bootBuiltins x=some (.type T))(j:x≠"__name__")(a:(x==("__debug__":Str))=false)
  (f:starEach (e::es) X.env=(false,eval e X.env)::starEach es X.env) (b:(backTo pos (starEach es X.env)).any (·.1)=false) (c:Am X (e::es) gs):Em X (.Call (.Name x p) (e::es) [] pos) (gB r gs):=
 ⟨AQ (UU hc h i g c.p j a f b) (Mr mr c.m k),Mq mr c.m⟩
end
def rF(f:List W->Hw->Option W):RWc:=λws G Q=>opt (f ws G) λw=>Q w G
theorem F8{f:List W->Hw->Option W}:RWc.M (rF f):=λb G Q a h q=>IG (λw z=>h _ _ z) q
def Dk:List W->Option (List Bool)
 | []=>some []
 | .bl b::r=>(Dk r).map (b::·)
 | _=>none
theorem Ms:∀{a:List W}{bs:List Bool}{vs:List V},Dk a=some bs->TrL K H vs a->vs=bs.map V.bl
 | [],bs,vs,e,t=>by cases e;cases t;rfl
 | w::a,bs,vs,e,t=>by
  cases t with
  | cons c t =>
   cases w with
   | bl b =>
    unfold Dk at e
    cases z:Dk a with
    | none=>rw[z]at e;cases e
    | some d =>
     rw[z]at e;cases e
     rw[DS c,Ms z t];rfl
   | _=>cases e
def Dl:List W->Option (List Int)
 | []=>some []
 | .int b::r=>(Dl r).map (b::·)
 | _=>none
theorem IN:∀{a:List W}{bs:List Int}{vs:List V},Dl a=some bs->TrL K H vs a->vs=bs.map V.int
 | [],bs,vs,e,t=>by cases e;cases t;rfl
 | w::a,bs,vs,e,t=>by
  cases t with
  | cons c t =>
   cases w with
   | int b =>
    unfold Dl at e
    cases z:Dl a with
    | none=>rw[z]at e;cases e
    | some d =>
     rw[z]at e;cases e
     rw[Ma c,IN z t];rfl
   | _=>cases e
def CL(G:Hw)(w:W):Option (List W):=match w with
 | .ref a=>(match G a with | some (.lst xs)=>some xs | _=>none)
 | _=>none
theorem Fc{xs:List W}(r:RelH K H G)(t:Tr K H v w)(e:CL G w=some xs):∃ a vs,v=.ref a/\w=.ref a/\G a=some (.lst xs)/\H a=some (.lst vs)/\TrL K H vs xs:=by
 cases t with
 | ref a =>
  unfold CL at e;dsimp only at e
  cases z:G a with
  | none=>rw[z]at e;cases e
  | some o =>
   rw[z]at e
   cases o with
   | lst ys=>cases e;obtain⟨vs,b,t1⟩:=r a _ z;exact⟨a,vs,rfl,rfl,z,b,t1⟩
   | exc C=>cases e
   | ins C fs=>cases e
   | dct c=>cases e
 | _=>cases e
def BC(ws:List W)(G:Hw):Option W:=match ws with | [w]=>(CL G w).bind λxs=>(Dk xs).map λbs=>.bl (bs.all id)| _=>none
theorem Xh(b:List W)(vs:List V)(G:Hw)(H:Hp)(Q:VK)(t:TrL K H vs b)(r:RelH K H G)(q:rF BC b G (dn K H Q)):∃(p:Addr)(bs:List Bool),vs=[.ref p]/\SqL K H p (bs.map V.bl)/\Q (.bl (bs.all id)) H:=by
 obtain⟨w,e,c⟩:=Cw q
 unfold BC at e
 split at e
 ·rename_i l
  cases t with
  | cons f t =>
   cases t
   obtain⟨xs,i,k⟩:=Qa.mp e
   obtain⟨bs,j,h⟩:=YQ.mp k
   obtain⟨a,m,rfl,rfl,_,g,d⟩:=Fc r f i
   subst h
   have:=Ms j d
   subst this
   exact⟨a,bs,rfl,SqL.of g,c _ H .refl (.bl _) r⟩
 ·cases e
def Cy:RWc:=λws G Q=>match ws with
 | [w]=>(match(CL G w).bind Dl with | some ns=>PyProof.Rows.SumFits ns/\Q (.int ns.sum) G | none=>False)
 | _=>False
theorem Xi:RWc.M Cy:=λb G Q a h q=>by
 unfold Cy at q ⊢
 split at q
 ·split at q
  ·exact⟨q.1,h _ _ q.2⟩
  ·exact q.elim
 ·exact q.elim
theorem Xj(b:List W)(vs:List V)(G:Hw)(H:Hp)(Q:VK)(t:TrL K H vs b)(r:RelH K H G)(q:Cy b G (dn K H Q)):∃(p:Addr)(ns:List Int),vs=[.ref p]/\SqL K H p (ns.map V.int)/\PyProof.Rows.SumFits ns/\Q (.int ns.sum) H:=by
 unfold Cy at q
 split at q
 ·rename_i i
  split at q
  ·rename_i ns e
   cases t with
   | cons d t =>
    cases t
    obtain⟨xs,g,h⟩:=Qa.mp e
    obtain⟨a,j,rfl,rfl,_,f,c⟩:=Fc r d g
    have:=IN h c
    subst this
    exact⟨a,ns,rfl,SqL.of f,q.1,q.2 _ H .refl (.int _) r⟩
  ·exact q.elim
 ·exact q.elim
def BK(w:W)(G:Hw):Option W:=match w with
 | .tup xs=>some (.int xs.length)
 | .rol xs=>some (.int xs.length)
 | .str z=>if z.length<=sizeLine then some (.int z.length)else none
 | .ref a=>(match G a with | some (.lst xs)=>some (.int xs.length)| _=>none)
 | _=>none
def AM(ws:List W)(G:Hw):Option W:=match ws with | [w]=>BK w G | _=>none
theorem Xk(c:List W)(vs:List V)(G:Hw)(H:Hp)(Q:VK)(t:TrL K H vs c)(r:RelH K H G)(q:rF AM c G (dn K H Q)):∃ x n,vs=[x]/\Lu K x H n/\Q (.int n) H:=by
 obtain⟨w,e,b⟩:=Cw q
 unfold AM at e
 split at e
 ·cases t with
  | cons f t =>
   cases t
   cases f with
   | tup h l=>cases e;exact⟨_,_,rfl,.inr ⟨_,h,rfl⟩,by rw[l.length];exact b _ H .refl (.int _) r⟩
   | rol h l=>cases e;exact⟨_,_,rfl,.inl ⟨_,h.sq,rfl⟩,by rw[l.length];exact b _ H .refl (.int _) r⟩
   | str z =>
    unfold BK at e;dsimp only at e
    split at e
    ·rename_i i;cases e;exact⟨_,_,rfl,⟨i,rfl⟩,b _ H .refl (.int _) r⟩
    ·cases e
   | ref a =>
    unfold BK at e;dsimp only at e
    cases z:G a with
    | none=>rw[z]at e;cases e
    | some o =>
     rw[z]at e
     cases o with
     | exc C=>cases e
     | ins C fs=>cases e
     | dct d=>cases e
     | lst xs =>
      cases e
      obtain⟨j,g,t1⟩:=r a _ z
      exact⟨_,_,rfl,.inl ⟨_,SqL.of g,rfl⟩,by rw[t1.length];exact b _ H .refl (.int _) r⟩
   | _=>cases e
 ·cases e
mutual
def eqD:W->W->Option Bool
 | .tup xs,.tup ys=>Bp xs ys
 | .non,.non=>some true
 | .bl a,.bl b=>some (a==b)
 | .bl a,.int b=>some ((if a then 1 else 0)==b)
 | .int a,.bl b=>some (a==(if b then 1 else 0))
 | .int a,.int b=>some (a==b)
 | .str a,.str b=>some (a==b)
 | .non,.int _=>some false
 | .int _,.non=>some false
 | .int _,.str _=>some false
 | .str _,.int _=>some false
 | .bl _,.str _=>some false
 | .str _,.bl _=>some false
 | .non,.str _=>some false
 | .str _,.non=>some false
 | .non,.bl _=>some false
 | .bl _,.non=>some false
 | .tup _,.str _=>some false
 | .str _,.tup _=>some false
 | .tup _,.bl _=>some false
 | .bl _,.tup _=>some false
 | .tup _,.int _=>some false
 | .int _,.tup _=>some false
 | _,_=>none
def Bp:List W->List W->Option Bool
 | [],[]=>some true
 | [],_::_=>some false
 | _::_,[]=>some false
 | x::xs,y::ys=>match eqD x y,Bp xs ys with
  | some a,some b=>some (a&&b)
  | _,_=>none
end
mutual
def dpW:W->Nat
 | .tup xs=>dpL xs+1
 | _=>0
def dpL:List W->Nat
 | []=>0
 | x::xs=>max (dpW x) (dpL xs)
end
def Fd:W->Option V
 | .non=>some .non
 | .bl b=>some (.bl b)
 | .int i=>some (.int i)
 | .str x=>some (.str x)
 | _=>none
theorem Mt{f:V}(t:Tr K H v w)(e:Fd w=some f):v=f/\Cr v=true:=by
 cases t <;> first | cases e;exact⟨rfl,rfl⟩| cases e
theorem F9:∀{xs ys:List W}{b:Bool},Bp xs ys=some b->∃ e:Nat->Bool,(∀(i:Nat)x y,xs[i]?=some x->ys[i]?=some y->eqD x y=some (e i))/\b=((List.range (min xs.length ys.length)).all e&&xs.length==ys.length)
 | [],[],b,h=>by
  cases(show some true=some b from h)
  exact⟨λ_=>true,λi x y h1 h2=>by simp at h1,by simp⟩
 | [],_::_,b,h=>by
  cases(show some false=some b from h)
  exact⟨λ_=>true,λi x y h1 h2=>by simp at h1,by simp⟩
 | _::_,[],b,h=>by
  cases(show some false=some b from h)
  exact⟨λ_=>true,λi x y h1 h2=>by simp at h2,by simp⟩
 | x::xs,y::ys,b,h=>by
  have h':(match eqD x y,Bp xs ys with | some a,some b=>some (a&&b)| _,_=>none)=some b:=by rw[<- h];rfl
  cases d:eqD x y with
  | none=>rw[d]at h';cases h'
  | some a =>
   cases g:Bp xs ys with
   | none=>rw[d,g]at h';cases h'
   | some c =>
    rw[d,g]at h'
    cases h'
    obtain⟨f,o,hc⟩:=F9 g
    refine⟨λi=>match i with | 0=>a | j+1=>f j,λi k n h1 h2=>?_,?_⟩
    ·cases i with
     | zero=>simp at h1 h2;subst h1;subst h2;exact d
     | succ j=>exact o j k n (by simpa using h1) (by simpa using h2)
    ·have m:min (x::xs).length (y::ys).length=min xs.length ys.length+1:=by simp only[Yg];lia
     rw[m,List.range_succ_eq_map,List.all_cons,List.all_map,hc]
     have l:((x::xs).length==(y::ys).length)=(xs.length==ys.length):=by simp
     rw[l,Bool.and_assoc]
     rfl
theorem Mu:∀(xs:List W),(∀ x∈xs,eqD x x=some true\/eqD x x=none)->Bp xs xs=some true\/Bp xs xs=none
 | [],_=>.inl rfl
 | x::xs,h=>by
  have e:Bp (x::xs) (x::xs)=(match eqD x x,Bp xs xs with | some a,some b=>some (a&&b)| _,_=>none):=rfl
  rw[e]
  rcases h x Ye with h1 | h1
  ·rcases Mu xs (λy c=>h y (Yd _ c))with h2 | h2
   ·rw[h1,h2];exact .inl rfl
   ·rw[h1,h2];exact .inr rfl
  ·rw[h1];exact .inr rfl
theorem Mv:∀(x:W),eqD x x=some true\/eqD x x=none
 | .non=>.inl rfl
 | .bl b=>.inl (by show some (b==b)=_;simp)
 | .int b=>.inl (by show some (b==b)=_;simp)
 | .str b=>.inl (by show some (b==b)=_;simp)
 | .tup xs=>Mu xs (λx _=>Mv x)
 | .rol _=>.inr rfl
 | .ref _=>.inr rfl
theorem EK:∀{xs:List W}{x:W},x∈xs->dpW x<=dpL xs
 | y::xs,x,h=>by
  have e:dpL (y::xs)=max (dpW y) (dpL xs):=rfl
  rw[e]
  walk_at "pe"
  ·exact Nat.le_max_left ..
  ·exact Yt (EK h) (Nat.le_max_right ..)
theorem Xl:∀(c:List W)(ys:List W)(vs:List V),(∀(v:V)(w y:W),w∈c->Tr K H v w->Tr K H v y->eqD w y≠none->w=y)->TrL K H vs c->TrL K H vs ys->Bp c ys≠none->c=ys:=by
 intro c
 induction c with
 | nil =>
  intro ys vs _ l d _
  cases l
  cases d
  rfl
 | cons w c f =>
  intro ys vs h l d ne
  cases l with
  | cons t l =>
   cases d with
   | @cons _ y _ ys t' d =>
    have e:Bp (w::c) (y::ys)=(match eqD w y,Bp c ys with | some a,some b=>some (a&&b)| _,_=>none):=rfl
    have h1:eqD w y≠none:=λz=>ne (by rw[e,z])
    have h2:Bp c ys≠none:=λz=>ne (by rw[e,z];cases eqD w y <;> rfl)
    rw[h _ w y Ye t t' h1,f ys _ (λv w y g=>h v w y (Yd _ g)) l d h2]
variable {pins:List (Addr×Obj)}{s:Shared}
theorem Xm(I:Inv X pins σ H s)(n:Nat):∀(v:V)(w y:W),dpW w < n->Tr X.K H v w->Tr X.K H v y->eqD w y≠none->w=y:=by
 induction n with
 | zero=>intro v w y h;exact Qh h (Nat.not_lt_zero _)
 | succ n g =>
  intro v w y h i ty ne
  cases i with
  | tup j l =>
   rename_i a vs d
   generalize b:V.ref a=vr at ty
   cases ty with
   | tup c m =>
    cases b
    have e:=I.tuple_inj j c
    subst e
    have f:dpL d+1 < n+1:=h
    rw[Xl d _ _ (λv w y k=>g v w y (by have:=EK k;lia)) l m ne]
   | rol _ _=>exact Qh rfl ne
   | ref _=>exact Qh rfl ne
   | non=>cases b
   | bl _=>cases b
   | int _=>cases b
   | str _=>cases b
  | rol _ _=>exact Qh (by cases y <;> rfl) ne
  | ref _=>exact Qh (by cases y <;> rfl) ne
  | non=>cases ty;rfl
  | bl _=>cases ty;rfl
  | int _=>cases ty;rfl
  | str _=>cases ty;rfl
theorem Xn(I:Inv X pins σ H s)(n:Nat):∀(w y:W)(v u:V)(vv F:Value)(b:Bool)(A:Around),dpW w < n->Tr X.K H v w->Tr X.K H u y->RelV v vv->RelV u F->eqD w y=some b->A.units+n < cLine->SeqAt.EqAt A s vv F b:=by
 induction n with
 | zero=>intro w _ _ _ _ _ _ _ h;exact Qh h (Nat.not_lt_zero _)
 | succ n S =>
  intro w y v u vv F b A h tw ty i m e hu
  cases tw with
  | tup k l =>
   cases ty with
   | tup p E =>
    rename_i a vs o O us ys
    cases i
    cases m
    by_cases q:a=O
    ·subst q
     have R:=Xm I (dpW (.tup o)+1) _ _ _ (Nat.lt_succ_self _) (.tup k l) (.tup p E) (by rw[e];simp)
     cases R
     rcases Mv (.tup o)with z | z
     ·rw[e]at z;cases z;exact SeqAt.EqAt.same _
     ·rw[e]at z;cases z
    ·obtain⟨d,r1,p1,_⟩:=I.tuple k
     obtain⟨g,N,p2,_⟩:=I.tuple p
     obtain⟨f,U,T⟩:=F9 (show Bp o ys=some b from e)
     have l1:=r1.length
     have l2:=N.length
     have l3:=l.length
     have l4:=E.length
     refine SeqAt.EqAt.of_refs q ?_
     have key:=SeqAt.RcAt.tuples (A:=A) (s:=s) (e:=f) (show s.heap.IsTuple a d.toArray from p1) (show s.heap.IsTuple O g.toArray from p2) (by lia) (λj h1 h2=>?_)
     ·rw[T]
      have P:d.toArray.size=o.length:=by rw[Yn];lia
      have e2:g.toArray.size=ys.length:=by rw[Yn];lia
      rw[P,e2]at key
      exact key
     ·have G:j < o.length:=by rw[Yn]at h1;lia
      have L:j < ys.length:=by rw[Yn]at h2;lia
      obtain⟨v1,g1,t1⟩:=l.get (Yp G)
      obtain⟨v2,g2,Y⟩:=E.get (Yp L)
      obtain⟨u1,g3,x⟩:=r1.get g1
      obtain⟨Q,g4,B⟩:=N.get g2
      have r:d.toArray[j]=u1:=by
       have z:d[j]?=some d[j]:=Yp (by lia)
       rw[g3]at z
       have J:=YE z
       rw[J];simp
      have D:g.toArray[j]=Q:=by
       have z:g[j]?=some g[j]:=Yp (by lia)
       rw[g4]at z
       have J:=YE z
       rw[J];simp
      rw[r,D]
      have hd:dpW (o[j])<=dpL o:=EK (Qc G)
      have Z:dpL o+1 < n+1:=h
      exact S _ _ _ _ _ _ _ A.in1 (by lia) t1 Y x B (U j _ _ (Yp G) (Yp L)) (by show A.units+1+n < cLine;lia)
   | str _ =>
    cases e;cases i;obtain⟨t,rfl⟩:=m
    obtain⟨d,r1,p1,_⟩:=I.tuple k
    exact SeqAt.EqAt.tuple_str (A:=A) _ _ p1 (by lia)
   | bl _ =>
    cases e;cases i;cases m
    obtain⟨d,r1,p1,_⟩:=I.tuple k
    exact SeqAt.EqAt.tuple_bool _ p1 (by lia)
   | int _ =>
    cases e;cases i;obtain⟨t,rfl⟩:=m
    obtain⟨d,r1,p1,_⟩:=I.tuple k
    exact SeqAt.EqAt.tuple_int (A:=A) _ _ p1 (by lia)
   | _=>cases e
  | non=>cases ty <;> cases e <;> exact E7 i m rfl rfl
  | bl c =>
   cases ty with
   | tup k l =>
    cases e;cases i;cases m
    obtain⟨d,r1,p1,_⟩:=I.tuple k
    exact SeqAt.EqAt.bool_tuple _ p1 (by lia)
   | _=>cases e <;> exact E7 i m rfl rfl
  | int c =>
   cases ty with
   | tup k l =>
    cases e;cases m;obtain⟨t,rfl⟩:=i
    obtain⟨d,r1,p1,_⟩:=I.tuple k
    exact SeqAt.EqAt.int_tuple (A:=A) _ _ p1 (by lia)
   | _=>cases e <;> exact E7 i m rfl rfl
  | str c =>
   cases ty with
   | tup k l =>
    cases e;cases m;obtain⟨t,rfl⟩:=i
    obtain⟨d,r1,p1,_⟩:=I.tuple k
    exact SeqAt.EqAt.str_tuple (A:=A) _ _ p1 (by lia)
   | _=>cases e <;> exact E7 i m rfl rfl
  | rol _ _=>cases y <;> cases e
  | ref _=>cases y <;> cases e
def rSq(K:PySem.W.Frag)(neg:Bool):R2:=λv u H Q=>∃(a b:Addr)(vs us:List V)(ws ys:List W)(c:Bool),v=.ref a/\u=.ref b/\((SqT K H a vs/\SqT K H b us)\/(SqL K H a vs/\SqL K H b us))/\TrL K H vs ws/\TrL K H us ys/\dpL ws < 90/\Bp ws ys=some c/\Q (.bl (c != neg)) H
section
variable {X:Cx} {pins:List (Addr×Obj)} {σ:St} {H:Hp} {s:Shared}
theorem Ga(I:Inv X pins σ H s){A:Around}{us:List V}{b:List W}{a its':List Value}(r1:Vals vs a)(r2:Vals us its')(t1:TrL X.K H vs b)(t2:TrL X.K H us ys)(hd:dpL b < 90)(u:A.units+100 < cLine){f:Nat->Bool}
  (o:∀(i:Nat)x y,b[i]?=some x->ys[i]?=some y->eqD x y=some (f i)) (j:Nat) (h1:j < a.toArray.size) (h2:j < its'.toArray.size):SeqAt.EqAt A.in1 s a.toArray[j] its'.toArray[j] (f j):=by
 have w:=r1.length
 have t:=r2.length
 have B:=t1.length
 have q:=t2.length
 have l:j < b.length:=by rw[Yn]at h1;lia
 have m:j < ys.length:=by rw[Yn]at h2;lia
 obtain⟨v,g1,c⟩:=t1.get (Yp l)
 obtain⟨r,g2,k⟩:=t2.get (Yp m)
 obtain⟨p,g3,e⟩:=r1.get g1
 obtain⟨n,g4,g⟩:=r2.get g2
 have d:a.toArray[j]=p:=by
  have z:a[j]?=some a[j]:=Yp (by lia)
  rw[g3]at z
  rw[YE z];simp
 have h:its'.toArray[j]=n:=by
  have z:its'[j]?=some its'[j]:=Yp (by lia)
  rw[g4]at z
  rw[YE z];simp
 rw[d,h]
 exact Xn I 99 _ _ _ _ _ _ _ A.in1 (by have:=EK (Qc l);lia) c k e g (o j _ _ (Yp l) (Yp m)) (by show A.units+1+99 < cLine;lia)
end
theorem Xo(r:X.A.units+100 < cLine):OpR X (compareOp .Eq) (rSq X.K false):=by
 intro pins s σ H x y v u Q I z E h
 obtain⟨a,b,vs,G,m,ys,c,rfl,rfl,B,t1,o,hd,e,q⟩:=h
 cases z
 cases E
 obtain⟨f,t,n⟩:=F9 e
 have J:=t1.length
 have F:=o.length
 have j:∀ d:Bool,d=c->EP X pins σ Q (.bool d) s:=λd hd=>by subst hd;exact⟨.bl d,H,I,rfl,by simpa using q⟩
 rcases B with⟨h1,h2⟩|⟨h1,h2⟩
 ·obtain⟨i,r1,p1,_⟩:=I.tuple h1
  obtain⟨g,k,p2,_⟩:=I.tuple h2
  have D:=r1.length
  have w:=k.length
  refine SeqAt.eq_tupleAt (e:=f) (show s.heap.IsTuple a i.toArray from p1) (show s.heap.IsTuple b g.toArray from p2) (by lia) (Ga I r1 k t1 o hd r t) (j _ ?_)
  have l:i.toArray.size=m.length:=by rw[Yn];lia
  have p:g.toArray.size=ys.length:=by rw[Yn];lia
  rw[l,p,n]
 ·obtain⟨i,r1,p1,_⟩:=I.list h1
  obtain⟨g,k,p2,_⟩:=I.list h2
  have D:=r1.length
  have w:=k.length
  have l:i.toArray.size=m.length:=by rw[Yn];lia
  have p:g.toArray.size=ys.length:=by rw[Yn];lia
  by_cases hl:m.length=ys.length
  ·refine SeqAt.eq_listAt (e:=f) p1.isList p2.isList (by lia) (by lia) (Ga I r1 k t1 o hd r t) (j _ ?_)
   rw[l,n,hl];simp
  ·refine SeqAt.eq_list_lengthsAt p1.isList p2.isList (by rw[l,p];simpa using hl) (by lia) (j _ ?_)
   rw[n];simp[hl]
theorem Xp(r:X.A.units+100 < cLine):OpR X (compareOp .NotEq) (rSq X.K true):=by
 intro pins s σ H x y v u Q I z E h
 obtain⟨a,b,vs,G,m,ys,c,rfl,rfl,B,t1,o,hd,e,q⟩:=h
 cases z
 cases E
 obtain⟨f,t,n⟩:=F9 e
 have J:=t1.length
 have F:=o.length
 have j:∀ d:Bool,d=!c->EP X pins σ Q (.bool d) s:=λd hd=>by subst hd;exact⟨.bl _,H,I,rfl,by simpa using q⟩
 rcases B with⟨h1,h2⟩|⟨h1,h2⟩
 ·obtain⟨i,r1,p1,_⟩:=I.tuple h1
  obtain⟨g,k,p2,_⟩:=I.tuple h2
  have D:=r1.length
  have w:=k.length
  refine SeqAt.RcNeAt.tuples (e:=f) (show s.heap.IsTuple a i.toArray from p1) (show s.heap.IsTuple b g.toArray from p2) (by lia) (Ga I r1 k t1 o hd r t) _ _ _ _ (j _ ?_)
  have l:i.toArray.size=m.length:=by rw[Yn];lia
  have p:g.toArray.size=ys.length:=by rw[Yn];lia
  rw[l,p,n]
 ·obtain⟨i,r1,p1,_⟩:=I.list h1
  obtain⟨g,k,p2,_⟩:=I.list h2
  have D:=r1.length
  have w:=k.length
  have l:i.toArray.size=m.length:=by rw[Yn];lia
  have p:g.toArray.size=ys.length:=by rw[Yn];lia
  by_cases hl:m.length=ys.length
  ·refine SeqAt.RcNeAt.lists (e:=f) p1.isList p2.isList (by lia) (by lia) (Ga I r1 k t1 o hd r t) _ _ _ _ (j _ ?_)
   rw[l,n,hl];simp
  ·refine SeqAt.RcNeAt.lists_lengths p1.isList p2.isList (by rw[l,p];simpa using hl) (by lia) _ _ _ _ (j _ ?_)
   rw[n];simp[hl]
def eqW(x y:W)(G:Hw):Option Bool:=match x,y with
 | .tup xs,.tup ys=>if dpL xs < 90 then Bp xs ys else none
 | .ref a,.ref b=>(match G a,G b with
  | some (.lst xs),some (.lst ys)=>if dpL xs < 90 then Bp xs ys else none
  | _,_=>none)
 | .int a,.int b=>some (a==b)
 | .bl a,.bl b=>some (a==b)
 | .str a,.str b=>some (a==b)
 | .non,.non=>some true
 | .int _,.non=>some false
 | .non,.int _=>some false
 | .int _,.str _=>some false
 | .str _,.int _=>some false
 | .bl _,.str _=>some false
 | .str _,.bl _=>some false
 | .non,.str _=>some false
 | .str _,.non=>some false
 | .non,.bl _=>some false
 | .bl _,.non=>some false
 | _,_=>none
def eqF(neg:Bool)(x y:W)(G:Hw):Option W:=(eqW x y G).map λc=>.bl (c != neg)
theorem Xq(c:Bool):(c != true)=!c:=by cases c <;> rfl
theorem Mw(f:Bool)(x y:W)(v u:V)(G:Hw)(H:Hp)(Q:VK)(A:Tr K H v x)(ty:Tr K H u y)(r:RelH K H G)(q:Ag (eqF f) x y G (dn K H Q)):(DP v u=true/\Q (.bl (decide (v=u) != f)) H)\/rSq K f v u H Q:=by
 obtain⟨w,e,n⟩:=Cw q
 obtain⟨c,d,B⟩:=YQ.mp e
 subst B
 have qq:=n (.bl (c != f)) H .refl (.bl _) r
 have h:∀{i j:V},decide (i=j)=c->DP i j=true->(DP i j=true/\Q (.bl (decide (i=j) != f)) H)\/rSq K f i j H Q:=λ{i j}h1 h2=>.inl ⟨h2,by rw[h1];exact qq⟩
 cases A with
 | tup t l =>
  cases ty with
  | tup k z =>
   unfold eqW at d;dsimp only at d
   split at d
   ·rename_i hd
    exact .inr ⟨_,_,_,_,_,_,c,rfl,rfl,.inl ⟨t,k⟩,l,z,hd,d,qq⟩
   ·cases d
  | _=>cases d
 | ref a =>
  cases ty with
  | ref b =>
   unfold eqW at d;dsimp only at d
   cases g:G a with
   | none=>rw[g]at d;cases d
   | some m =>
    cases eb:G b with
    | none=>rw[g,eb]at d;cases m <;> cases d
    | some p =>
     rw[g,eb]at d
     cases m <;> cases p <;> try cases d
     dsimp only at d
     split at d
     ·rename_i hd
      obtain⟨vs,s,t1⟩:=r a _ g
      obtain⟨E,D,o⟩:=r b _ eb
      exact .inr ⟨_,_,_,_,_,_,c,rfl,rfl,.inr ⟨SqL.of s,SqL.of D⟩,t1,o,hd,d,qq⟩
     ·cases d
  | _=>cases d
 | rol _ _=>cases y <;> cases d
 | non=>cases ty <;> cases d <;> exact h (by simp) rfl
 | bl b=>cases ty <;> cases d <;> exact h (by first | exact HZ | simp) rfl
 | int b=>cases ty <;> cases d <;> exact h (by first | exact HY | simp) rfl
 | str b=>cases ty <;> cases d <;> exact h (by first | exact H9 | simp) rfl
theorem Xr(c:X.A.units+100 < cLine):OpR X (compareOp .Eq) (λx y H Q=>(DP x y=true/\Q (.bl (decide (x=y) != false)) H)\/rSq X.K false x y H Q):=by
 intro pins s σ H x y v u Q I b a h
 rcases h with⟨h1,h2⟩| h
 ·exact Uu pins s σ H x y v u Q I b a ⟨h1,by simpa using h2⟩
 ·exact Xo c pins s σ H x y v u Q I b a h
theorem Xs(c:X.A.units+100 < cLine):OpR X (compareOp .NotEq) (λx y H Q=>(DP x y=true/\Q (.bl (decide (x=y) != true)) H)\/rSq X.K true x y H Q):=by
 intro pins s σ H x y v u Q I b a h
 rcases h with⟨h1,h2⟩| h
 ·exact Uv pins s σ H x y v u Q I b a ⟨h1,by rw[<- Xq];exact h2⟩
 ·exact Xp c pins s σ H x y v u Q I b a h
section
variable {X:Cx} {a b c e:Expr} {es Ak:List Expr} {pos pos' p:Pos} {ga gb gc:GE} {gt gu:GT} {gs:GA}
def CM(G:Hw)(w:W):Option (List W):=match w with
 | .tup xs=>some xs
 | .rol xs=>some xs
 | .ref a=>(match G a with | some (.lst xs)=>some xs | _=>none)
 | _=>none
theorem IP{xs:List W}(r:RelH K H G)(t:Tr K H v w)(e:CM G w=some xs):∃ a vs,v=.ref a/\(SqL K H a vs\/SqT K H a vs)/\TrL K H vs xs:=by
 cases t with
 | tup h l=>cases e;exact⟨_,_,rfl,.inr h,l⟩
 | rol h l=>cases e;exact⟨_,_,rfl,.inl h.sq,l⟩
 | ref a =>
  unfold CM at e;dsimp only at e
  cases z:G a with
  | none=>rw[z]at e;cases e
  | some o =>
   rw[z]at e
   cases o with
   | lst ys=>cases e;obtain⟨vs,b,t1⟩:=r a _ z;exact⟨a,vs,rfl,.inl (SqL.of b),t1⟩
   | exc C=>cases e
   | ins C fs=>cases e
   | dct c=>cases e
 | _=>cases e
def DY:List W->Option (List V)
 | []=>some []
 | w::ws=>(Fd w).bind λv=>(DY ws).map (v::·)
theorem Mx:∀{a:List W}{vs us:List V},DY a=some us->TrL K H vs a->vs=us/\vs.all Cr=true
 | [],vs,us,e,t=>by cases e;cases t;exact⟨rfl,rfl⟩
 | w::a,vs,us,e,t=>by
  cases t with
  | cons b t =>
   obtain⟨f,c,h⟩:=Qa.mp (show(Fd w).bind (λv=>(DY a).map (v::·))=some us from e)
   obtain⟨fs,g,d⟩:=YQ.mp h
   obtain⟨h1,h2⟩:=Mt b c
   obtain⟨j,i⟩:=Mx g t
   subst d
   exact⟨by rw[h1,j],by rw[List.all_cons,h2,i];rfl⟩
def inF(neg:Bool)(x y:W)(G:Hw):Option W:=(Fd x).bind λv=>(CM G y).bind λxs=>(DY xs).map λus=>.bl (if neg then !inV v us else inV v us)
theorem Xu(b:Bool)(x y:W)(v u:V)(G:Hw)(H:Hp)(Q:VK)(j:Tr K H v x)(ty:Tr K H u y)(r:RelH K H G)(q:Ag (inF b) x y G (dn K H Q)):rIn K b v u H Q:=by
 obtain⟨w,e,c⟩:=Cw q
 obtain⟨f,i,l⟩:=Qa.mp e
 obtain⟨xs,k,h⟩:=Qa.mp l
 obtain⟨p,g,m⟩:=YQ.mp h
 subst m
 obtain⟨h1,h2⟩:=Mt j i
 obtain⟨a,vs,rfl,d,t⟩:=IP r ty k
 obtain⟨n,o⟩:=Mx g t
 subst h1;subst n
 exact⟨a,vs,rfl,d,h2,o,c _ H .refl (.bl _) r⟩
end
section
variable {X:Cx} {P:Hp->Prop} {a b c e o i:Expr} {sts:List Stmt} {pos pos':Pos} {ga gb gc gv go gi:GE} {gt:GT} {g:GS} {gs:GA}
def Gb(gt:GT)(g:GS):GS:=λD ω G=>∃ W:Nat->Sw->Hw->Prop,(∃ m,W m ω G)/\∀ m ω G,W m ω G->
 gt ω G λb G1=>if b=true then g {nx:=λω' G'=>∃ m',m' < m/\W m' ω' G',rt:=D.rt,bk:=D.nx,ct:=λω' G'=>∃ m',m' < m/\W m' ω' G'} ω G1 else D.nx ω G1
theorem Xv(e:gt.M)(mb:g.M):GS.M (Gb gt g):=λω G D h h1 h2 i j⟨W,f,a⟩=>⟨W,f,λm ω G w=>e _ _ _ _ (λb G1 z=>by
 cases b with
 | true=>exact mb _ _ {nx:=λω' d=>∃ c,c < m/\W c ω' d,rt:=D.rt,bk:=D.nx,ct:=λω' d=>∃ c,c < m/\W c ω' d} _ (λ_ _ y=>y) h2 h1 (λ_ _ y=>y) z
 | false=>exact h1 _ _ z) (a m ω G w)⟩
theorem Xx(x:PassesOwn (model X.prog X.w) X.A X.env X.xe)(t:gt.M)(mb:g.M)(hc:PTw X c gt)(v:CI X P sts g):PSw X P (.While c sts [] pos) (Gb gt g):=λB u=>
 Cs (T9 x hc (v B u)) <| by
  rintro D σ H ⟨ω,G,p,r,k,W,⟨s,E⟩,i⟩
  refine⟨λm σ' H'=>Mono X.K B H'/\∃ ω' e,TrSt X.K H' σ' ω'/\RelH X.K H' e/\W m ω' e,⟨s,k,ω,G,p,r,E⟩,?_⟩
  rintro m σ' H' ⟨o,ω',e,h,r',q⟩
  refine⟨ω',e,h,r',t _ _ _ _ (λb G1 z H1 j r1=>?_) (i m ω' e q)⟩
  cases b with
  | true =>
   rw[if_pos rfl]
   refine⟨λσ2 H2=>∃ d,d < m/\Mono X.K B H2/\∃ ω2 G2,TrSt X.K H2 σ2 ω2/\RelH X.K H2 G2/\W d ω2 G2,(by rintro σ2 H2 ⟨d,h1,h2⟩;exact⟨d,h1,h2⟩),ω',G1,h.mono j,r1,o.trans j,?_⟩
   exact mb _ _ {nx:=λω' e=>∃ d,d < m/\W d ω' e,rt:=(dnD X.K B D).rt,bk:=(dnD X.K B D).nx,ct:=λω' e=>∃ d,d < m/\W d ω' e} _
    ((by rintro a b ⟨d,h1,h2⟩ σ2 H2 n f l;exact⟨d,h1,n,a,b,f,l,h2⟩)) (λa b y=>y) (λa b y=>y) ((by rintro a b ⟨d,h1,h2⟩ σ2 H2 n f l;exact⟨d,h1,n,a,b,f,l,h2⟩)) z
  | false =>
   rw[if_neg YT]
   exact z σ' H1 (o.trans j) (h.mono j) r1
theorem My(b:PassesOwn (model X.prog X.w) X.A X.env X.xe)(hc:Tm X c gt)(a:Ssm X P sts g):Sm X P (.While c sts [] pos) (Gb gt g):=⟨Xx b hc.m a.m hc.p a.p,Xv hc.m a.m⟩
def DZ(ω:Sw)(i:Nat):Option W:=match ω[i]? with | some (some w)=>some w | _=>none
theorem Xy(ts:TrSt K H σ ω)(e:DZ ω n=some w):∃ v,σ[n]?=some (some v)/\Tr K H v w:=by
 unfold DZ at e
 split at e
 ·rename_i u z
  cases e
  exact ts.get n _ z
 ·cases e
def Ci(n:Nat)(r:RW2)(ga:GE):GS:=λD ω G=>opt (DZ ω n) λx=>ga ω G λy G1=>r x y G1 λz G2=>D.nx (ω.set n (some z)) G2
theorem Xz{r:RW2}(mr:r.M)(b:ga.M):GS.M (Ci n r ga):=λω G D c h1 _ _ _ q=>IG (λx q=>b _ _ _ _ (λy G1 z=>mr _ _ _ _ _ (λw G2 a=>h1 _ _ a) z) q) q
theorem XA{op:Operator}{r:RW2}{r2:R2}(l:OpR X (inplaceOp op) r2)(mr:r.M)(f:∀(x y:W)(v u:V)(G:Hw)(H:Hp)(Q:VK),Tr X.K H v x->Tr X.K H u y->RelH X.K H G->r x y G (dn X.K H Q)->r2 v u H Q)
  (d:X.N.Nodup) (hi:X.N[n]?=some x) (g:Loc X.env.scope x) (k:X.fn x=true\/X.env.scope.names.lookup x=some .local) (p:ga.M) (A:PEw X e ga):PSw X P (.AugAssign (.Name x pos') op e pos) (Ci n r ga):=λB O=>
 Cs (T7 d hi g A (λpins s σ H x y v u Q I r1 r2 h=>l pins s σ H x y v u Q I r1 r2 h) k) <| by
  rintro D σ H ⟨ω,G,a,F,mb,q⟩
  obtain⟨w,j,q⟩:=Cw q
  obtain⟨v,o,t⟩:=Xy a j
  refine⟨v,o,ω,G,a,F,p _ _ _ _ (λy G1 z u H1 m i r1=>?_) q⟩
  exact f w y v u G1 H1 _ (t.mono m) i r1 (mr _ _ _ _ _ (λJ G2 E L H2 b c r2=>E _ H2 ((mb.trans m).trans b) (((a.mono m).mono b).set n c) r2) z)
def Cj:RW2:=λx y G Q=>match x,y with
 | .int i,.int j=>Q (.int (i+j)) G
 | .str a,.str b=>a.length+b.length<=sizeLine/\Q (.str (a++b)) G
 | _,_=>False
theorem Mz:RW2.M Cj:=λx y G Q a h q=>by
 cases x <;> cases y <;> first | exact q | exact h _ _ q | exact⟨q.1,h _ _ q.2⟩
theorem XB(x y:W)(v u:V)(G:Hw)(H:Hp)(Q:VK)(a:Tr K H v x)(ty:Tr K H u y)(r:RelH K H G)(q:Cj x y G (dn K H Q)):
  (rI0 λi j=>.int (i+j)) v u H Q\/(∃ i j,v=.str i/\u=.str j/\i.length+j.length<=sizeLine/\Q (.str (i++j)) H):=by
 cases a with
 | int i=>cases ty <;> first | exact q.elim | exact .inl ⟨_,_,rfl,rfl,q _ H .refl (.int _) r⟩
 | str i=>cases ty <;> first | exact q.elim | exact .inr ⟨_,_,rfl,rfl,q.1,q.2 _ H .refl (.str _) r⟩
 | _=>exact q.elim
def Cz(o k v:W)(G:Hw)(Q:Hw->Prop):Prop:=match o,k with
 | .ref a,.int j=>(match G a with
  | some (.lst xs)=>(match ixN xs.length j with | some n=>Q (put G a (.lst (xs.set n v)))| none=>False)
  | _=>False)
 | _,_=>False
variable {k:W}{Q:Hw->Prop}
theorem MA{o v:W}(q:Cz o k v G Q):∃ a j xs n,o=.ref a/\k=.int j/\G a=some (.lst xs)/\ixN xs.length j=some n/\Q (put G a (.lst (xs.set n v))):=by
 unfold Cz at q
 split at q
 ·split at q
  ·rename_i xs e
   split at q
   ·rename_i n b;exact⟨_,_,xs,n,rfl,rfl,e,b,q⟩
   ·exact q.elim
  ·exact q.elim
 ·exact q.elim
theorem IQ{v:W}{a:Addr}{j:Int}{xs:List W}(e:G a=some (.lst xs))(b:ixN xs.length j=some n)(q:Q (put G a (.lst (xs.set n v)))):Cz (.ref a) (.int j) v G Q:=by
 unfold Cz
 dsimp only
 rw[e]
 dsimp only
 rw[b]
 exact q
theorem XD{o v:W}{b:Hw->Prop}(h:∀ G,Q G->b G)(q:Cz o k v G Q):Cz o k v G b:=by
 obtain⟨a,j,xs,n,rfl,rfl,e,c,q⟩:=MA q
 exact IQ e c (h _ q)
theorem XE{o v:W}{x y u:V}{Pq:Hw->Prop}{R:Hp->Prop}(h:Tr K H x v)(ty:Tr K H y o)(g:Tr K H u k)(r:RelH K H G)(q:Cz o k v G Pq)(f:∀ d c,Mono K H c->RelH K c d->Pq d->R c):LN y u x H R:=by
 obtain⟨a,j,xs,n,rfl,rfl,e,i,q⟩:=MA q
 cases ty
 cases g
 obtain⟨vs,b,t⟩:=r a _ e
 exact⟨a,vs,j,n,rfl,rfl,b,by rw[t.length];exact i,f _ _ (Mono.lst b _) (r.chg b (TrL.set h n t)) q⟩
def BL(gv go gi:GE):GS:=λD ω G=>gv ω G λv G1=>go ω G1 λo G2=>gi ω G2 λk G3=>Cz o k v G3 λG4=>D.nx ω G4
theorem XG(b:gv.M)(mo:go.M)(a:gi.M):GS.M (BL gv go gi):=λω G D e h1 _ _ _ q=>
 b _ _ _ _ (λv G1 z=>mo _ _ _ _ (λo G2 z=>a _ _ _ _ (λk c z=>XD (λd z=>h1 _ _ z) z) z) z) q
theorem XH(l:∀ v,assign (.Subscript o i pos') X.env v=(do
   let ov <- holding [v] (eval o X.env)
   let iv <- holding [v,ov] (eval i X.env)
   standAt pos'
   holding [v,ov,iv] (setItem ov iv v)
   release [v,ov,iv] [])) (s:swapsWithSole [.Subscript o i pos'] e pos.line X.env=pure false) (hw:swappedStores [.Subscript o i pos'] e X.env=pure none)
  (h1:(assignEach [.Subscript o i pos'] X.env).map (·.2)=[assign (.Subscript o i pos') X.env]) (g:Em X e gv) (f:Em X o go) (hi:Em X i gi):Sm X P (.Assign [.Subscript o i pos'] e pos) (BL gv go gi):=
 ⟨λB L=>Cs (T4 g.p (T3 f.p hi.p U9 l) s hw h1) λD σ H⟨ω,G,a,r,mb,q⟩=>⟨ω,G,a,r,g.m _ _ _ _ (λv G1 z x H1 c I r1=>
  ⟨ω,G1,a.mono c,r1,f.m _ _ _ _ (λO G2 n y H2 b ty A=>
   ⟨ω,G2,(a.mono c).mono b,A,hi.m _ _ _ _ (λk J j u K d F t=>
    XE ((I.mono b).mono d) (ty.mono d) F t j (λN w h E q4=>q4 σ w ((((mb.trans c).trans b).trans d).trans h) ((((a.mono c).mono b).mono d).mono h) E)) n⟩) z⟩) q⟩,XG g.m f.m hi.m⟩
abbrev GO:=Sw->Hw->(Option Int->Hw->Prop)->Prop
def GO.M(g:GO):Prop:=∀ ω G(Q Q':Option Int->Hw->Prop),(∀ w G',Q w G'->Q' w G')->g ω G Q->g ω G Q'
def dnO(K:PySem.W.Frag)(H:Hp)(Q:Option Int->Hp->Prop):Option Int->Hw->Prop:=λb G=>∀ H',Mono K H H'->RelH K H' G->Q b H'
def upO(K:PySem.W.Frag)(g:GO):TO:=λσ H Q=>∃ ω G,TrSt K H σ ω/\RelH K H G/\g ω G (dnO K H Q)
structure Om(X:Cx)(e:Option Expr)(g:GO):Prop where
 p:PO X e (upO X.K g)
 m:g.M
def Bk:GO:=λ_ G Q=>Q none G
def Bl(ga:GE):GO:=λω G Q=>ga ω G λw G1=>match w with | .int j=>Q (some j) G1 | _=>False
theorem XI:Om X none Bk:=⟨(by rintro pins s σ H Q I ⟨ω,G,a,r,q⟩;exact U1 pins s σ H Q I (q H .refl r)),λ_ _ _ _ h q=>h _ _ q⟩
theorem XJ(h:Em X e ga):Om X (some e) (Bl ga):=⟨λpins s σ H Q I⟨ω,G,a,r,q⟩=>U2 h.p pins s σ H Q I ⟨ω,G,a,r,h.m _ _ _ _ (λw G1 z v H1 m t r1=>by
  cases w with
  | int j=>exact⟨j,Ma t,z H1 m r1⟩
  | _=>exact z.elim) q⟩,λω G Q c b q=>h.m _ _ _ _ (λw G1 z=>by cases w <;> first | exact b _ _ z | exact z) q⟩
def Bw{α:Type}(xs:List α)(lo hi:Option Int):List α:=(xs.drop (HT.sIx xs.length 0 lo)).take (HT.sIx xs.length xs.length hi - HT.sIx xs.length 0 lo)
def slW(w:W)(lo hi:Option Int)(G:Hw)(Q:Kw):Prop:=match w with
 | .tup xs=>¬ (HT.sIx xs.length 0 lo=0/\HT.sIx xs.length xs.length hi=xs.length)/\Q (.tup (Bw xs lo hi)) G
 | .rol xs=>∀ p,G p=none->Q (.ref p) (put G p (.lst (Bw xs lo hi)))
 | .ref a=>(match G a with | some (.lst xs)=>∀ p,G p=none->Q (.ref p) (put G p (.lst (Bw xs lo hi)))| _=>False)
 | _=>False
variable {lo hi:Option Int}
theorem Gc{Q c:Kw}(h:∀ w G',Q w G'->c w G')(q:slW w lo hi G Q):slW w lo hi G c:=by
 cases w with
 | tup xs=>exact⟨q.1,h _ _ q.2⟩
 | rol xs=>exact λp b=>h _ _ (q p b)
 | ref a =>
  unfold slW at q ⊢
  dsimp only at q ⊢
  cases e:G a with
  | none=>rw[e]at q;exact q.elim
  | some d =>
   rw[e]at q
   cases d with
   | lst xs=>exact λp b=>h _ _ (q p b)
   | exc C=>exact q.elim
   | ins C fs=>exact q.elim
   | dct f=>exact q.elim
 | _=>exact q.elim
theorem TrL.cut{a:List W}(t:TrL K H vs a)(lo hi:Option Int):TrL K H (Dg vs lo hi) (Bw a lo hi):=by
 unfold Dg Bw
 rw[t.length]
 exact(t.drop _).take _
theorem Gd{Q:VK}(t:Tr K H v w)(r:RelH K H G)(q:slW w lo hi G (dn K H Q)):Ig K v lo hi H Q\/Io K v lo hi H Q:=by
 cases t with
 | tup h l =>
  refine .inl ⟨_,_,rfl,h,by rw[l.length];exact q.1,λp b=>?_⟩
  exact q.2 _ _ (Mono.new b _) (.tup (SqT.of BA) ((l.cut lo hi).mono (Mono.new b _))) (r.mono0 b)
 | rol h l=>exact .inr ⟨_,_,rfl,h.sq,λp b=>q p (r.no b) _ _ (Mono.new b _) (.ref p) (r.new b (l.cut lo hi))⟩
 | ref a =>
  unfold slW at q
  dsimp only at q
  cases e:G a with
  | none=>rw[e]at q;exact q.elim
  | some f =>
   rw[e]at q
   cases f with
   | lst xs =>
    obtain⟨vs,c,l⟩:=r a _ e
    exact .inr ⟨_,_,rfl,SqL.of c,λp b=>q p (r.no b) _ _ (Mono.new b _) (.ref p) (r.new b (l.cut lo hi))⟩
   | exc C=>exact q.elim
   | ins C fs=>exact q.elim
   | dct d=>exact q.elim
 | _=>exact q.elim
def gSl(ga:GE)(gl gh:GO):GE:=λω G Q=>ga ω G λw G1=>gl ω G1 λlo G2=>gh ω G2 λhi G3=>slW w lo hi G3 Q
theorem XM{lo hi:Option Expr}{j gh:GO}{p2:Pos}(f:Em X e ga)(hl:Om X lo j)(d:Om X hi gh):Em X (.Subscript e (.Slice lo hi none p2) pos) (gSl ga j gh):=
 ⟨AQ (LI (SlR.or LK LO) f.p hl.p d.p) λσ H Q⟨ω,G,b,r,q⟩=>⟨ω,G,b,r,f.m _ _ _ _ (λw G1 z v H1 c t r1=>⟨ω,G1,b.mono c,r1,hl.m _ _ _ _ (λl G2 g H2 i s=>
   ⟨ω,G2,(b.mono c).mono i,s,d.m _ _ _ _ (λh n a x k o=>Gd ((t.mono i).mono k) o (Gc (λw y z=>B5 ((c.trans i).trans k) z) a)) g⟩) z⟩) q⟩,
  λω G Q A h q=>f.m _ _ _ _ (λw G1 z=>hl.m _ _ _ _ (λl G2 g=>d.m _ _ _ _ (λu n a=>Gc h a) g) z) q⟩
end
abbrev UpW(K:PySem.W.Frag)(r:RW2)(r2:R2):Prop:=∀(x y:W)(v u:V)(G:Hw)(H:Hp)(Q:VK),Tr K H v x->Tr K H u y->RelH K H G->r x y G (dn K H Q)->r2 v u H Q
structure Cop(X:Cx)(op:CmpOp)(r:RW2):Prop where
 ex:∃ r2,OpR X (compareOp op) r2/\UpW X.K r r2
 m:r.M
def A2(a b:Str):Bool:=decide (a.cps.toList < b.cps.toList)
def AS(f:Int->Int->Bool)(g:Str->Str->Bool):RW2:=λx y G Q=>match x,y with
 | .int i,.int j=>Q (.bl (f i j)) G
 | .str i,.str j=>Q (.bl (g i j)) G
 | _,_=>False
variable {g:Str->Str->Bool}
theorem MB:RW2.M (AS f g):=λx y G Q a h q=>by
 cases x <;> cases y <;> first | exact q | exact h _ _ q
theorem MC:UpW K (AS f g) (λx y H Q=>rI0 (λi j=>.bl (f i j)) x y H Q\/∃ i j,x=.str i/\y=.str j/\Q (.bl (g i j)) H):=λx y v u G H Q a ty r q=>by
 cases a with
 | int i=>cases ty <;> first | exact q.elim | exact .inl ⟨_,_,rfl,rfl,q _ H .refl (.bl _) r⟩
 | str i=>cases ty <;> first | exact q.elim | exact .inr ⟨_,_,rfl,rfl,q _ H .refl (.bl _) r⟩
 | _=>exact q.elim
theorem XN:OpR X (compareOp .LtE) (λx y H Q=>∃ i j,x=.str i/\y=.str j/\Q (.bl (!A2 j i)) H):=by
 intro pins s σ H x y v u Q I b a h
 obtain⟨i,j,rfl,rfl,q⟩:=h
 obtain⟨t,rfl⟩:=b
 obtain⟨t',rfl⟩:=a
 exact PySem.P.le_str ⟨.bl _,H,I,rfl,q⟩
theorem XO:Cop X .Lt (AS (λi j=>decide (i < j)) A2):=⟨⟨_,OpR.or Uw UA,MC⟩,MB⟩
theorem IR:Cop X .LtE (AS (λi j=>decide (i<=j)) (λa b=>!A2 b a)):=⟨⟨_,OpR.or Ux XN,MC⟩,MB⟩
theorem XQ:Cop X .Gt (AU λi j=>decide (j < i)):=⟨⟨_,Uy,Mj⟩,Mi⟩
theorem XR:Cop X .GtE (AU λi j=>decide (j<=i)):=⟨⟨_,Uz,Mj⟩,Mi⟩
theorem MD(a:X.A.units+100 < cLine):Cop X .Eq (Ag (eqF false)):=⟨⟨_,Xr a,Mw false⟩,Di⟩
theorem ME(a:X.A.units+100 < cLine):Cop X .NotEq (Ag (eqF true)):=⟨⟨_,Xs a,Mw true⟩,Di⟩
theorem XS:Cop X .In (Ag (inF false)):=⟨⟨_,Vc,Xu false⟩,Di⟩
section
variable {X:Cx} {op op':CmpOp} {r r':RW2} {a b c e:Expr} {es:List Expr} {pos:Pos} {ga gb gc:GE}
theorem MF(C:Cop X op r)(e:behindInMarks op b=false)(c:Em X a ga)(d:Em X b gb):Em X (.Compare a [op] [b] pos) (Ad r ga gb):=
 let⟨_,h1,h2⟩:=C.ex
 ⟨VT h1 C.m c.m d.m h2 c.p d.p e,Cf C.m c.m d.m⟩
theorem MG(C:Cop X op r)(e:behindInMarks op b=false)(c:Em X a ga)(d:Em X b gb):Tm X (.Compare a [op] [b] pos) (gTB (Ad r ga gb)):=
 let⟨_,h1,h2⟩:=C.ex
 ⟨Wa h1 C.m c.m d.m h2 c.p d.p e,L9 (Cf C.m c.m d.m)⟩
def BZ(r r':RW2)(ga gb gc:GE):GE:=λω G Q=>ga ω G λx G1=>gb ω G1 λy G2=>r x y G2 λz G3=>match z with
 | .bl k=>if k=true then gc ω G3 λw G4=>r' y w G4 Q else Q (.bl false) G3
 | _=>False
theorem IS(mr:r.M)(a:r'.M)(c:ga.M)(mb:gb.M)(d:gc.M):GE.M (BZ r r' ga gb gc):=λω G Q g h q=>
 c _ _ _ _ (λx G1 z=>mb _ _ _ _ (λy G2 z=>mr _ _ _ _ _ (λb e z=>by
  cases b with
  | bl k =>
   cases k with
   | true=>exact d _ _ _ _ (λw f z=>a _ _ _ _ _ h z) z
   | false=>exact h _ _ z
  | _=>exact z) z) z) q
theorem MH{r2 a:R2}(u:UpW K r r2)(t:UpW K r' a)(mr:r.M)(g:r'.M)(p:ga.M)(mb:gb.M)(F:gc.M)(σ:St)(H:Hp)(Q:VK)(h:up K (BZ r r' ga gb gc) σ H Q):Ia r2 a (up K ga) (up K gb) (up K gc) σ H Q:=by
 obtain⟨ω,G,f,N,q⟩:=h
 refine⟨ω,G,f,N,p _ _ _ _ (λx G1 m v H1 c L r1=>⟨ω,G1,f.mono c,r1,mb _ _ _ _ (λy G2 s i H2 b ty r2=>?_) m⟩) q⟩
 refine u x y v i G2 H2 _ (L.mono b) ty r2 (mr _ _ _ _ _ (λk z e P A d tk j=>?_) s)
 cases k with
 | bl k =>
  refine⟨k,DS tk,?_⟩
  cases k with
  | true =>
   rw[if_pos rfl]
   refine⟨ω,z,((f.mono c).mono b).mono d,j,F _ _ _ _ (λw E o D B l I J=>?_) e⟩
   exact t y w i D E B Q ((ty.mono d).mono l) I J (g _ _ _ _ _ (λR O n=>B5 (((c.trans b).trans d).trans l) n) o)
  | false =>
   rw[if_neg YT]
   exact e _ A ((c.trans b).trans d) (.bl false) j
 | _=>exact e.elim
theorem MI(C:Cop X op r)(f:Cop X op' r')(g:lastMarks [op,op'] [b,c]=false)(d:Em X a ga)(e:Em X b gb)(hc:Em X c gc):Em X (.Compare a [op,op'] [b,c] pos) (BZ r r' ga gb gc):=
 let⟨_,h1,h2⟩:=C.ex
 let⟨_,h3,h4⟩:=f.ex
 ⟨AQ (UE h1 h3 d.p e.p hc.p g) (MH h2 h4 C.m f.m d.m e.m hc.m),IS C.m f.m d.m e.m hc.m⟩
theorem XT(C:Cop X op r)(f:Cop X op' r')(g:lastMarks [op,op'] [b,c]=false)(d:Em X a ga)(e:Em X b gb)(hc:Em X c gc):Tm X (.Compare a [op,op'] [b,c] pos) (gTB (BZ r r' ga gb gc)):=
 let⟨_,h1,h2⟩:=C.ex
 let⟨_,h3,h4⟩:=f.ex
 ⟨F0 (UF h1 h3 d.p e.p hc.p g) λσ H Q z=>MH h2 h4 C.m f.m d.m e.m hc.m σ H _ (Mc (IS C.m f.m d.m e.m hc.m) z),L9 (IS C.m f.m d.m e.m hc.m)⟩
end
abbrev UpC(K:PySem.W.Frag)(r:RWc)(r1:List V->Hp->VK->Prop):Prop:=∀ ws vs G H Q,TrL K H vs ws->RelH K H G->r ws G (dn K H Q)->r1 vs H Q
structure Blt(X:Cx)(f:Value)(r:RWc):Prop where
 ex:∃ r1,CallR X f r1/\UpC X.K r r1
 m:r.M
section
variable {X:Cx} {x:Str} {p pos:Pos} {e:Expr} {es:List Expr} {gs:GA} {r:RWc} {id T:String}
theorem B0(f:bootBuiltins x=some (.builtin id))(B:Blt X (.builtin id) r)(d:Gl X x)(g:X.mg x=none)(h:x≠"__name__")(a:(x==("__debug__":Str))=false)
  (c:starEach (e::es) X.env=(false,eval e X.env)::starEach es X.env) (b:(backTo pos (starEach es X.env)).any (·.1)=false) (i:Am X (e::es) gs):Em X (.Call (.Name x p) (e::es) [] pos) (gB r gs):=
 let⟨_,h1,h2⟩:=B.ex
 Xf h1 B.m h2 d g f h a c b i
theorem Fe(f:bootBuiltins x=some (.type T))(B:Blt X (.type T) r)(d:Gl X x)(g:X.mg x=none)(h:x≠"__name__")(a:(x==("__debug__":Str))=false)
  (c:starEach (e::es) X.env=(false,eval e X.env)::starEach es X.env) (b:(backTo pos (starEach es X.env)).any (·.1)=false) (i:Am X (e::es) gs):Em X (.Call (.Name x p) (e::es) [] pos) (gB r gs):=
 let⟨_,h1,h2⟩:=B.ex
 Xg h1 B.m h2 d g f h a c b i
end
theorem XU:Blt X (.builtin "len") (rF AM):=⟨⟨_,UL,Xk⟩,F8⟩
theorem D1(hc:X.calm=true):Blt X (.builtin "all") (rF BC):=⟨⟨_,Xd hc,Xh⟩,F8⟩
theorem IT(hc:X.calm=true):Blt X (.builtin "sum") Cy:=⟨⟨_,Xe hc,Xj⟩,Xi⟩
def CN:RWc:=λws G Q=>match ws with
 | [w]=>(match CM G w with | some xs=>∀ p,G p=none->Q (.ref p) (put G p (.lst xs))| none=>False)
 | _=>False
theorem XW:RWc.M CN:=λc G Q b h q=>by
 unfold CN at q ⊢
 split at q
 ·split at q
  ·exact λp a=>h _ _ (q p a)
  ·exact q.elim
 ·exact q.elim
theorem XX:UpC K CN (λxs H Q=>∃ p ys,xs=[.ref p]/\(SqL K H p ys\/SqT K H p ys)/\∀ l,H l=none->Q (.ref l) (upd H l (.lst ys))):=λg vs G H Q t r q=>by
 unfold CN at q
 split at q
 ·rename_i h
  split at q
  ·rename_i xs e
   cases t with
   | cons c t =>
    cases t
    obtain⟨a,f,rfl,d,l⟩:=IP r c e
    exact⟨a,f,rfl,d,λp b=>q p (r.no b) _ _ (Mono.new b _) (.ref p) (r.new b l)⟩
  ·exact q.elim
 ·exact q.elim
theorem XY:Blt X (.type "list") CN:=⟨⟨_,Vd,XX⟩,XW⟩
def B6(ws:List W)(G:Hw):Option W:=match ws with | [w]=>(CM G w).map W.tup | _=>none
theorem XZ:UpC K (rF B6) (λxs H Q=>∃ p ys,xs=[.ref p]/\((SqL K H p ys/\∀ l,H l=none->Q (.ref l) (upd H l (.tup ys)))\/(SqT K H p ys/\Q (.ref p) H))):=λj vs G H Q t r q=>by
 obtain⟨w,e,d⟩:=Cw q
 unfold B6 at e
 split at e
 ·obtain⟨xs,h,i⟩:=YQ.mp e
  subst i
  cases t with
  | cons g t =>
   cases t
   obtain⟨a,f,rfl,b,l⟩:=IP r g h
   rcases b with b | b
   ·exact⟨a,f,rfl,.inl ⟨b,λp c=>d _ _ (Mono.new c _) (.tup (SqT.of BA) (l.mono (Mono.new c _))) (r.mono0 c)⟩⟩
   ·exact⟨a,f,rfl,.inr ⟨b,d _ H .refl (.tup b l) r⟩⟩
 ·cases e
theorem IU:Blt X (.type "tuple") (rF B6):=⟨⟨_,Ve,XZ⟩,F8⟩
def B1:List Int->Int
 | []=>0
 | [x]=>x
 | x::y::r=>max x (B1 (y::r))
theorem MJ:∀{ns:List Int}{m:Int},m∈ns->m<=B1 ns
 | [x],m,h=>by rw[YA.mp h];exact Int.le_refl _
 | x::y::r,m,h=>by
  show m<=max x (B1 (y::r))
  walk_at "pe"
  ·exact Int.le_max_left ..
  ·exact Int.le_trans (MJ h) (Int.le_max_right ..)
theorem MK:∀{ns:List Int},ns≠[]->B1 ns∈ns
 | [x],_=>YA.mpr rfl
 | x::y::r,_=>by
  show max x (B1 (y::r))∈x::y::r
  rcases Int.le_total x (B1 (y::r))with z | z
  ·rw[Int.max_eq_right z];exact Yd _ (MK (by simp))
  ·rw[Int.max_eq_left z];exact Ye
theorem X0{ns:List Int}(h:0 < ns.length):ns.getD (argBest (λi j=>decide (ns.getD i 0 > ns.getD j 0)) (ns.length - 1)) 0=B1 ns:=by
 obtain⟨h1,h2⟩:=argBest_gt (λi=>ns.getD i 0) (ns.length - 1)
 have b:ns≠[]:=by intro z;rw[z]at h;simp at h
 have a:argBest (λi j=>decide (ns.getD i 0 > ns.getD j 0)) (ns.length - 1) < ns.length:=by lia
 refine Int.le_antisymm (MJ ?_) ?_
 ·rw[YY,Yp a]
  exact Qc _
 ·obtain⟨i,hi,e⟩:=List.mem_iff_getElem.mp (MK b)
  have:=h2 i (by lia)
  rw[<- e]
  have z:ns.getD i 0=ns[i]:=by rw[YY,Yp hi];rfl
  rw[<- z]
  exact this
theorem X1(hc:X.calm=true):CallR X (.builtin "max") (λxs H Q=>∃(p:Addr)(ns:List Int),xs=[.ref p]/\SqL X.K H p (ns.map V.int)/\0 < ns.length/\Q (.int (B1 ns)) H):=by
 intro pins s σ H xs w Q I r h
 obtain⟨p,ns,rfl,j,a,q⟩:=h
 obtain⟨u,rfl,g⟩:=Dd r
 cases g
 obtain⟨d,r',pl,m⟩:=I.list j
 have hl:=r'.length
 rw[Yh]at hl
 obtain⟨o,n,e,_⟩:=id pl
 refine call_max_walk (wpAny_pyIter_list pl.isList ⟨s.heap.objs.size,_,_,_,_,_,_,rfl,Walks.list (A:=X.A.in1) (I.ok.hd hc) _ p (Ys (Ql e)) d.toArray,
  ⟨⟨_,Qm _ rfl,rfl,rfl⟩,pl.isList.push _⟩,λb l=>?_,by rw[Yn,<- hl];exact a,CmpOf.ints_gt (λi=>ns.getD i 0) (λi v f=>IM r' f),λv h' tk f k=>?_⟩)
 ·rw[Qn]
  rcases Yo.mp l with c | c
  ·rw[c];exact Nat.lt_succ_self _
  ·rw[YA.mp c];exact Nat.lt_succ_of_lt (Ql e)
 ·obtain⟨t,rfl⟩:=IM r' f
  refine⟨.int (B1 ns),H,I.kept (t':=tk) λb o e=>k b o (by simpa using Ys (Ql e)) (Qk _ e),⟨t,?_⟩,q⟩
  rw[Yn,<- hl,X0 a]
def Ff(ws:List W)(G:Hw):Option W:=match ws with
 | [w]=>((CL G w).bind Dl).bind λns=>if 0 < ns.length then some (.int (B1 ns))else none
 | _=>none
theorem X2:UpC K (rF Ff) (λxs H Q=>∃(p:Addr)(ns:List Int),xs=[.ref p]/\SqL K H p (ns.map V.int)/\0 < ns.length/\Q (.int (B1 ns)) H):=λl vs G H Q t r q=>by
 obtain⟨w,e,d⟩:=Cw q
 unfold Ff at e
 split at e
 ·obtain⟨ns,j,c⟩:=Qa.mp e
  obtain⟨xs,k,i⟩:=Qa.mp j
  split at c
  ·rename_i b
   cases c
   cases t with
   | cons g t =>
    cases t
    obtain⟨a,m,rfl,rfl,_,h,f⟩:=Fc r g k
    have:=IN i f
    subst this
    exact⟨a,ns,rfl,SqL.of h,b,d _ H .refl (.int _) r⟩
  ·cases c
 ·cases e
theorem ML(hc:X.calm=true):Blt X (.builtin "max") (rF Ff):=⟨⟨_,X1 hc,X2⟩,F8⟩
structure Mth(X:Cx)(T:String)(name:Str)(id:String)(pre:W->Hw->Prop)(r:W->List W->Hw->Kw->Prop):Prop where
 pa:PlainAttrs T
 slot:Slot T name id
 ty:typeOf (.builtin id)=pure (.type "method_descriptor")
 ex:∃ r2,MtR X id r2/\∀(o:W)(ws:List W)(v:V)(vs:List V)(G:Hw)(H:Hp)(Q:VK),Tr X.K H v o->TrL X.K H vs ws->RelH X.K H G->r o ws G (dn X.K H Q)->r2 v vs H Q
 pr:∀(o:W)(v:V)(G:Hw)(H:Hp),Tr X.K H v o->RelH X.K H G->pre o G->tyV X.K T v H
 m:∀ o ws G(Q Q':Kw),(∀ w G',Q w G'->Q' w G')->r o ws G Q->r o ws G Q'
def gMt(pre:W->Hw->Prop)(r:W->List W->Hw->Kw->Prop)(go:GE)(gs:GA):GE:=λω G Q=>go ω G λo G1=>pre o G1/\gs ω G1 λws G2=>r o ws G2 Q
section
variable {X:Cx} {o e:Expr} {es:List Expr} {go:GE} {gs:GA} {name:Str} {apos cpos:Pos} {T id:String} {pre:W->Hw->Prop} {r:W->List W->Hw->Kw->Prop}
theorem EL(M:Mth X T name id pre r)(a:attributeBase o name X.env (eval o X.env)=eval o X.env)
  (c:((backTo cpos (starEach (e::es) X.env)).all (λx=>!x.1)&&(backToKw cpos (keywordEach [] X.env)).all (λx=>x.1.isSome)&&decide ((e::es).length+([]:List Keyword).length+(if([]:List Keyword).isEmpty then 0 else 1) < 30))=true)
  (b:(apos.endLine==cpos.line)=true) (t:starEach (e::es) X.env=(false,eval e X.env)::starEach es X.env) (hplain:(backTo cpos (starEach es X.env)).any (·.1)=false) (f:Em X o go) (i:Am X (e::es) gs):
  Em X (.Call (.Attribute o name apos) (e::es) [] cpos) (gMt pre r go gs):=
 let⟨_,h1,h2⟩:=M.ex
 ⟨AQ (Vg M.pa M.slot M.ty h1 f.p i.p a c b t hplain) λσ H Q⟨ω,G,k,A,q⟩=>⟨ω,G,k,A,f.m _ _ _ _ (λd G1 z v H1 l tv r1=>⟨M.pr d v G1 H1 tv r1 z.1,
   ω,G1,k.mono l,r1,i.m _ _ _ _ (λn G2 j vs H2 s g u=>h2 d n v vs G2 H2 Q (tv.mono s) g u (M.m _ _ _ _ _ (λw B y=>B5 (l.trans s) y) j)) z.2⟩) q⟩,
  λω G Q D h q=>f.m _ _ _ _ (λd G1 z=>⟨z.1,i.m _ _ _ _ (λn G2 j=>M.m _ _ _ _ _ h j) z.2⟩) q⟩
end
def Dm(o:W)(G:Hw):Prop:=∃ xs,CL G o=some xs
theorem MM{o:W}(t:Tr K H v o)(r:RelH K H G)(h:Dm o G):tyV K "list" v H:=by
 obtain⟨xs,e⟩:=h
 obtain⟨a,vs,rfl,_,_,b,_⟩:=Fc r t e
 exact .inl ⟨rfl,_,SqL.of b⟩
def Do(o:W)(G:Hw)(f:List W->Option (List W))(Q:Kw):Prop:=match o with
 | .ref a=>(match G a with | some (.lst xs)=>(match f xs with | some ys=>Q .non (put G a (.lst ys))| none=>False)| _=>False)
 | _=>False
variable {Q:Kw}
theorem IV{o:W}{f:List W->Option (List W)}(q:Do o G f Q):∃ a xs ys,o=.ref a/\G a=some (.lst xs)/\f xs=some ys/\Q .non (put G a (.lst ys)):=by
 unfold Do at q
 split at q
 ·split at q
  ·rename_i xs e
   split at q
   ·rename_i ys b;exact⟨_,xs,ys,rfl,e,b,q⟩
   ·exact q.elim
  ·exact q.elim
 ·exact q.elim
theorem IW{f:List W->Option (List W)}{xs:List W}(e:G a=some (.lst xs))(b:f xs=some ys)(q:Q .non (put G a (.lst ys))):Do (.ref a) G f Q:=by
 unfold Do
 dsimp only
 rw[e]
 dsimp only
 rw[b]
 exact q
theorem MN{o:W}{f:List W->Option (List W)}{b:Kw}(h:∀ w G',Q w G'->b w G')(q:Do o G f Q):Do o G f b:=by
 obtain⟨a,xs,ys,rfl,e,c,q⟩:=IV q
 exact IW e c (h _ _ q)
def D2(o:W)(ws:List W)(G:Hw)(Q:Kw):Prop:=match ws with
 | [y]=>Do o G (λxs=>if xs.length < sizeLine then some (xs++[y])else none) Q
 | _=>False
theorem X3:Mth X "list" "append" "list.append" Dm D2 where
 pa:=PySem.F.plainAttrs_list
 slot:=PySem.F.slot_list_append
 ty:=PySem.F.type_list_append
 ex:=⟨_,Vi,λo g v vs G H Q tv f r q=>by
  unfold D2 at q
  split at q
  ·obtain⟨a,xs,ys,rfl,e,d,q⟩:=IV q
   split at d
   ·rename_i b
    cases d
    cases tv
    cases f with
    | cons ty t =>
     cases t
     obtain⟨i,c,l⟩:=r a _ e
     exact⟨a,i,_,rfl,rfl,c,by rw[l.length];exact b,q _ _ (Mono.lst c _) .non (r.chg c (l.append (.cons ty .nil)))⟩
   ·cases d
  ·exact q.elim⟩
 pr:=λo v G H t r h=>MM t r h
 m:=λo g G Q j h q=>by
  unfold D2 at q ⊢
  split at q
  ·exact MN h q
  ·exact q.elim
def D3(o:W)(ws:List W)(G:Hw)(Q:Kw):Prop:=match ws with
 | [y]=>Do o G (λxs=>(CL G y).bind λzs=>if xs.length+zs.length<=sizeLine then some (xs++zs)else none) Q
 | _=>False
theorem MO:Mth X "list" "extend" "list.extend" Dm D3 where
 pa:=PySem.F.plainAttrs_list
 slot:=PySem.F.slot_list_extend
 ty:=PySem.F.type_list_extend
 ex:=⟨_,Vk,λo k v vs G H Q tv i r q=>by
  unfold D3 at q
  split at q
  ·obtain⟨a,xs,ys,rfl,e,s,q⟩:=IV q
   obtain⟨zs,p,d⟩:=Qa.mp s
   split at d
   ·rename_i c
    cases d
    cases tv
    cases i with
    | cons ty t =>
     cases t
     obtain⟨u,f,l⟩:=r a _ e
     obtain⟨b,g,rfl,_,_,n,j⟩:=Fc r ty p
     exact⟨a,b,u,g,rfl,rfl,f,n,by rw[l.length,j.length];exact c,q _ _ (Mono.lst f _) .non (r.chg f (l.append j))⟩
   ·cases d
  ·exact q.elim⟩
 pr:=λo v G H t r h=>MM t r h
 m:=λo k G Q w h q=>by
  unfold D3 at q ⊢
  split at q
  ·exact MN h q
  ·exact q.elim
def IX(C:Addr)(E:Addr->Hw->Prop)(gs:GA):GS:=λ_ ω G=>gs ω G λws G1=>ws.length<=sizeLine/\E C G1
section
variable {P:Program} {w:World} {mg:Str->Option Value} {base:Heap} {N:List Str} {qual:Str} {scope:Scope} {f:Addr} {cd:Value} {A:Around} {outer:List Env} {s:Shared} {E:XK} {Pb:Hp->Prop}
theorem X4{C:Addr}{B b initId:String}{bm:List Value}{o cpos:Pos}{a:Expr}{Ak:List Expr}(l:mg x=some (.ref C))(q:PySem.W.excIn K C bm b=true)(FB:ExcBaseFacts B b initId bm)
  (g:Gl (cxW P w K mg base N qual scope f cd A outer s H E) x)
  (i:starEach (a::Ak) (cxW P w K mg base N qual scope f cd A outer s H E).env=(false,eval a (cxW P w K mg base N qual scope f cd A outer s H E).env)::starEach Ak (cxW P w K mg base N qual scope f cd A outer s H E).env)
  (hplain:(backTo cpos (starEach Ak (cxW P w K mg base N qual scope f cd A outer s H E).env)).any (·.1)=false) (hd:(x==("__debug__":Str))=false) (c:Am (cxW P w K mg base N qual scope f cd A outer s H E) (a::Ak) gs):
  Sm (cxW P w K mg base N qual scope f cd A outer s H E) Pb (.Raise (some (.Call (.Name x o) (a::Ak) [] cpos)) none pos) (IX C (dnX K H E) gs):=by
 refine⟨λu k pins n σ Hc D I h=>?_,λω G D y _ _ _ _ q=>q⟩
 obtain⟨ω,G,e,r,mb,d⟩:=h
 exact VE g l q FB c.p i hplain hd pins n σ Hc D I ⟨ω,G,e,r,c.m _ _ _ _ (λv G1 z vs H1 j t r1=>⟨by rw[t.length];exact z.1,z.2 H1 ((Un.mono' I.base).trans j) r1⟩) d⟩
end
theorem RelH.newX{C:Addr}(r:RelH K H G)(b:H p=none):RelH K (upd H p (.ext (B4 p C))) (put G p (.exc C)):=λa u e=>by
 by_cases h:a=p
 ·subst h
  rw[Au]at e;cases e
  exact BA
 ·rw[Bj h]at e
  exact r.mono0 b a u e
structure Ge(D D':Ew):Prop where
 nx:∀ a b,D.nx a b->D'.nx a b
 rt:∀ a b,D.rt a b->D'.rt a b
 bk:∀ a b,D.bk a b->D'.bk a b
 ct:∀ a b,D.ct a b->D'.ct a b
theorem GS.M.le{g:GS}(m:g.M){a:Ew}(h:Ge D a)(q:g D ω G):g a ω G:=m ω G D a h.nx h.rt h.bk h.ct q
def Gf(i:Nat)(D:Ew):Ew:={nx:=λω G=>D.nx (ω.set i none) G,rt:=D.rt,bk:=λω G=>D.bk (ω.set i none) G,ct:=λω G=>D.ct (ω.set i none) G}
def MP(K:PySem.W.Frag)(C0:Addr)(i:Nat)(gb:Xw->GS)(gh:GS):GS:=λD ω G=>
 gb (λω' C G'=>PySem.W.subIn K (.ref C) (.ref C0)=some true/\∀ e,G' e=none->gh (Gf i D) (ω'.set i (some (.ref e))) (put G' e (.exc C))) D ω G
def IY(K:PySem.W.Frag)(C0:Addr)(i:Nat)(gb:Xw->GS)(gh:GS):GS:=λD ω G=>∃ D0,Ge D0 D/\MP K C0 i gb gh D0 ω G
theorem X5{c:List Stmt}{b0:Stmt}{n:Str}{np l:Pos}{u:Addr}{gb:Xw->GS}{gh:GS}(O:X.mg x=some (.ref u))(hD:PySem.W.typeIn X.K (.ref u)=some (.type "type"))(hT:(PySem.W.clsIn X.K u).isSome=true)(hB:PySem.W.subIn X.K (.ref u) (.type "BaseException")=some true)
  (hN:X.N.Nodup) (hi:place X.N n=some i) (hn:EI X.env.scope n=true) (R:X.stack=X.env::X.outer) (Z:X.env.frame=some X.env.locals) (Y:X.ex=[]) (T:Gl X x) (Q:(x==("__debug__":Str))=false)
  (hb:∀(ex:Xw)(pn:List (Addr×Obj))(xe:Value->Shared->Prop),CJ (cxT X pn xe) ex->Ssm (cxT X pn xe) (atB X) body (gb ex)) (hh:∀ e,Ssm (cxH X e) (atB X) (b0::c) gh):
  Sm X (atB X) (.Try body [.ExceptHandler (some (.Name x np)) (some n) (b0::c) l] [] [] pos) (IY X.K u i gb gh):=by
 refine⟨λB g=>?_,(by rintro ω G D D' h1 h2 h3 h4 ⟨f,le,q⟩;exact⟨f,⟨λa b z=>h1 a b (le.nx a b z),λa b z=>h2 a b (le.rt a b z),λa b z=>h3 a b (le.bk a b z),λa b z=>h4 a b (le.ct a b z)⟩,q⟩)⟩
 have o:B=X.H₀:=g
 let tb:(St->XK)->TS:=λEσ Dn σ H=>∃(ex:Xw)(f:Ew)(ω:Sw)(G:Hw),TrSt X.K H σ ω/\RelH X.K H G/\Mono X.K B H/\
  (∀ σ' C H' ω' k,Mono X.K B H'->TrSt X.K H' σ' ω'->RelH X.K H' k->ex ω' C k->Eσ σ' (.ref C) none H')/\Ge f (dnD X.K B Dn)/\gb ex f ω G
 have hbody':∀(Eσ:St->XK)(pn:List (Addr×Obj))(xe:Value->Shared->Prop),EF (CXe X.prog X.w) (cxT X pn xe) Eσ->PSs (cxT X pn xe) body (tb Eσ):=by
  intro Eσ pn xe hp pins s σ H Dn I ⟨ex,f,ω,G,J,r,mb,A,P,q⟩
  have pw:CJ (cxT X pn xe) ex:=by
   intro j σ' H1 s1 ev s' I1 ⟨e,C,H',ee,F,C',ω',k,eC,h,r',q'⟩
   cases eC
   exact hp j σ' H1 s1 ev s' I1 ⟨e,C,H',ee,F,A σ' C H' ω' k (by rw[o];exact(Un.mono' I1.base).trans (Un.mono' F.un)) h r' q'⟩
  have S:=hb ex pn xe pw
  exact S.p B g pins s σ H Dn I ⟨ω,G,J,r,mb,S.m.le P q⟩
 refine Cs (VH (tb:=tb) (th:=upS X.K B gh) hN (Mk hi) (EJ hn) R Z Y T O hD hT hB hbody' (λe=>(hh e).p B g) Q) λD σ H L=>?_
 obtain⟨ω,G,J,r,mb,f,le,q⟩:=L
 refine⟨_,f,ω,G,J,r,mb,λσ' C H' ω' k m' h r' z=>?_,le,q⟩
 refine⟨C,rfl,z.1,λe E=>⟨ω'.set i (some (.ref e)),put k e (.exc C),(h.mono (Mono.new E _)).set i (.ref e),r'.newX E,m'.trans (Mono.new E _),?_⟩⟩
 have U:Ge (Gf i f) (dnD X.K B {nx:=λσ2 H2=>D.nx (σ2.set i none) H2,rt:=D.rt,bk:=λσ2 H2=>D.bk (σ2.set i none) H2,ct:=λσ2 H2=>D.ct (σ2.set i none) H2}):=by
  refine⟨λa b y σ2 H2 t d v=>?_,λa b y=>le.rt a b y,λa b y σ2 H2 t d v=>?_,λa b y σ2 H2 t d v=>?_⟩
  ·exact le.nx _ _ y (σ2.set i none) H2 t (d.unset i) v
  ·exact le.bk _ _ y (σ2.set i none) H2 t (d.unset i) v
  ·exact le.ct _ _ y (σ2.set i none) H2 t (d.unset i) v
 exact(hh e).m.le U (z.2 e (r'.no E))
structure DfN(P:Program)(w:World)(K:PySem.W.Frag)(mg:Str->Option Value)(base:Heap)(x:Str)(k n:Nat)(sp:Spw):Prop where
 ex:∃(f:Addr)(fd:FuncData)(ps:List Str),mg x=some (.ref f)/\PySem.W.keepIn K (.ref f)=true/\Binds K fd ps []/\ps.length=n/\Iv P w K mg base CX0 k f fd ps (CK K sp)
 mono:sp.M
section
variable {X:Cx} {e:Expr} {es:List Expr} {pos p:Pos} {gs:GA}
theorem X6{k:Nat}{sp:Spw}(D:DfN X.prog X.w X.K X.mg X.base x k n sp)(y:FZ k X.A)(j:Gl X x)(a:(x==("__debug__":Str))=false)(i:starEach (e::es) X.env=(false,eval e X.env)::starEach es X.env)(b:(backTo pos (starEach es X.env)).any (·.1)=false)
  (g:Am X (e::es) gs):Em X (.Call (.Name x p) (e::es) [] pos) (Ah sp (λ_ _ _=>False) gs):=by
 obtain⟨f,fd,ps,s,u,v,_,F⟩:=D.ex
 refine⟨AQ (VL F y j s u v g.p a i b) λσ H Q c=>?_,IB D.mono g.m⟩
 obtain⟨ω,G,h,r,q⟩:=c
 refine⟨ω,G,h,r,g.m _ _ _ _ (λl G1 q1 vs H1 o d r1=>?_) q⟩
 exact⟨l,G1,by rw[Yx];exact d,r1,D.mono _ _ _ _ _ _ (λw t z=>B5 o z) (λC t z=>z.elim) q1⟩
end
def tyN(w:W)(G:Hw):Option String:=match w with
 | .non=>some "NoneType"
 | .bl _=>some "bool"
 | .int _=>some "int"
 | .str _=>some "str"
 | .tup _=>some "tuple"
 | .rol _=>some "list"
 | .ref a=>(match G a with | some (.lst _)=>some "list" | _=>none)
def Bq(n T:String):Bool:=n==T||(n=="bool"&&T=="int")
variable {T:String}
theorem D4{n:String}(b:n∈["NoneType","bool","int","str","tuple","list"])(a:T∈["tuple","list","str","int","bool","dict"]):PySem.W.kitOne K (.type n) (.type T)=some (Bq n T):=by
 simp only[Yo,YX,or_false]at b a
 rcases b with rfl | rfl | rfl | rfl | rfl | rfl <;> rcases a with rfl | rfl | rfl | rfl | rfl | rfl <;> kernel_rfl
def AV(T:String)(ge:GE):GE:=λω G Q=>ge ω G λw G1=>match tyN w G1 with | some n=>Q (.bl (Bq n T)) G1 | none=>False
theorem X7(m:ge.M):GE.M (AV T ge):=λω G Q a h q=>m _ _ _ _ (λw G1 z=>by
 cases e:tyN w G1 with
 | none=>rw[e]at z;exact z
 | some n=>rw[e]at z;exact h _ _ z) q
theorem X8{u:Value}{n:String}{Q:Value->Shared->Prop}{E:Value->Shared->Prop}(I:Inv X pins σ H s)(b:RelV v u)(t:Tr X.K H v w)(r:RelH X.K H G)(e:tyN w G=some n)
  (c:T∈["tuple","list","str","int","bool","dict"]) (h:∀ tk,Q (.bool (Bq n T)) {s with toks:=tk}):wpAny (model X.prog X.w) X.A (call (.builtin "isinstance") [u,.type T]) Q E s:=by
 cases t with
 | non=>cases e;cases(show u=Value.none from b);exact PySem.W.kia_one PySem.W.kitx_none I.kIn True.intro (D4 (by simp) c) (λz=>nomatch z) h
 | bl y=>cases e;cases(show u=Value.bool y from b);exact PySem.W.kia_one PySem.W.kitx_bool I.kIn True.intro (D4 (by simp) c) (λz=>nomatch z) h
 | int i=>cases e;obtain⟨t,rfl⟩:=b;exact PySem.W.kia_one PySem.W.kitx_int I.kIn True.intro (D4 (by simp) c) (λz=>nomatch z) h
 | str y=>cases e;obtain⟨t,rfl⟩:=b;exact PySem.W.kia_one PySem.W.kitx_str I.kIn True.intro (D4 (by simp) c) (λz=>nomatch z) h
 | tup f l =>
  cases e
  cases b
  obtain⟨d,_,p,_⟩:=I.tuple f
  obtain⟨o,h1,h2,_⟩:=p
  exact PySem.W.kia_one PySem.W.kitx_tuple I.kIn ⟨o,h1,h2⟩ (D4 (by simp) c) (λz=>nomatch z) h
 | rol f l =>
  cases e
  cases b
  obtain⟨d,_,p,_⟩:=I.list f.sq
  obtain⟨o,h1,h2,_⟩:=p.isList
  exact PySem.W.kia_one PySem.W.kitx_list I.kIn ⟨o,h1,h2⟩ (D4 (by simp) c) (λz=>nomatch z) h
 | ref a =>
  unfold tyN at e
  dsimp only at e
  cases g:G a with
  | none=>rw[g]at e;cases e
  | some o =>
   rw[g]at e
   cases o with
   | exc C=>cases e
   | ins C fs=>cases e
   | dct j=>cases e
   | lst xs =>
    cases e
    cases b
    obtain⟨vs,k,_⟩:=r a _ g
    obtain⟨d,_,p,_⟩:=I.list (SqL.of k)
    obtain⟨o,h1,h2,_⟩:=p.isList
    exact PySem.W.kia_one PySem.W.kitx_list I.kIn ⟨o,h1,h2⟩ (D4 (by simp) c) (λz=>nomatch z) h
theorem MQ:bootBuiltins "isinstance"=some (.builtin "isinstance"):=by decide +kernel
section
variable {X:Cx} {e:Expr} {p pc pos:Pos} {ge:GE}
theorem Fg{c:Str}(A:T∈["tuple","list","str","int","bool","dict"])(D:bootBuiltins c=some (.type T))(f:X.mg c=none)(j:X.mg "isinstance"=none)(i:Gl X "isinstance")(g:Gl X c)(E:c≠"__name__")(hd:(c==("__debug__":Str))=false)
  (l:starEach [e,.Name c pc] X.env=[(false,eval e X.env),(false,eval (.Name c pc) X.env)]) (a:starEach [.Name c pc] X.env=[(false,eval (.Name c pc) X.env)]) (h:Em X e ge):Em X (.Call (.Name "isinstance" p) [e,.Name c pc] [] pos) (AV T ge):=by
 refine⟨λpins s σ H Q I d=>?_,X7 h.m⟩
 obtain⟨ω,G,o,r,q⟩:=d
 have pa:PA X [e,.Name c pc] (De (up X.K ge) (De (tC (.ty T)) EE)):=DQ h.p (DQ (Lj g f D rfl E hd) E5 (by rw[a];rfl)) (by rw[l,a])
 refine wpAny_Call_Name_kw (DM I i j MQ ?_ (by decide) (by decide))
 refine PyProof.Rows.callWith_builtin1 (thn (pa pos pins s σ H (λvs H1=>∃ v w G1 n,vs=[v,.ty T]/\Tr X.K H1 v w/\RelH X.K H1 G1/\tyN w G1=some n/\Q (.bl (Bq n T)) H1) I ?_) λL J⟨vs,H1,k,r1,v,w,G1,n,y,tv,B,b,qq⟩=>?_) (by rw[l,a]) (by rw[a];rfl)
 ·refine⟨ω,G,o,r,h.m _ _ _ _ (λw G1 z v H1 m t r1=>?_) q⟩
  cases b:tyN w G1 with
  | none=>rw[b]at z;exact z.elim
  | some n=>rw[b]at z;exact⟨v,w,G1,n,rfl,t,r1,b,z _ H1 m (.bl _) r1⟩
 ·subst y
  obtain⟨u,F,rfl,x,rt⟩:=Ic r1
  cases rt
  exact X8 k x tv B b A λtk=>⟨.bl _,H1,k.tok tk,rfl,qq⟩
end
structure D5(K:PySem.W.Frag)(C:Addr):Prop where
 ga:PySem.W.findIn K (.ref C) "__getattribute__"=some (some (.builtin "BaseException.__getattribute__"))
 gh:PySem.W.findIn K (.ref C) "__getattr__"=some none
 cl:(PySem.W.clsIn K C).isSome=true
 fc:PySem.W.findIn K (.ref C) "__class__"=some (some (.builtin "object.__class__"))
 sp:PySem.W.specialIn K (.builtin "object.__class__") "__get__"=some (some (.builtin "getset_descriptor.__get__"))
 tk:PySem.W.takesIn K (.builtin "object.__class__")=some true
 mr:PySem.W.mroIn K C (.type "object")=some true
 mb:PySem.W.mroIn K C (.type "BaseException")=some true
end L3
namespace L3
open PySem PySem.W PySem.Spec PySem.Calls PyProof.Rows PySem.Builtin PySem.Builtin.ObjectAttr PySem.Builtin.Getset_descriptor
section
variable {prog:Program} {w:World} {A:Around} {E:Value->Shared->Prop} {s:Shared} {K:Frag} {x C:Addr} {name:Str}
variable {h:Heap}
theorem Fh{M:Model}(I:L2.B4 x C h):Looks M h (typeOf (.ref x)) (.ref C):=by
 obtain⟨a,e,c⟩:=I
 rw[<- c];exact(Looks.ld e).andThen .now
variable {a:Value}
theorem X9{M:Model}{g:Value}(X:K.In h)(i:findIn K (.ref C) name=some (some a))(c:specialIn K a "__get__"=some (some g))(d:takesIn K a=some true):Looks M h (find (.ref x) (.ref C) name) (.bind g a):=by
 have e:=looks_findIn (M:=M) X i
 have f:Looks M h (getOf (some a)) (some g):=looks_specialIn X c
 have b:Looks M h (dataDescriptor? (some a) (some g)) (some (g,a)):=(looks_takesIn (M:=M) X d).andThen .now
 exact e.andThen (f.andThen (b.andThen (Looks.tag .now)))
variable {R:Result->Shared->Prop}
theorem Y0(X:K.In s.heap)(I:L2.B4 x C s.heap)(b:mroIn K C (.type "object")=some true)
  (h:R (.ok (.ret (.ref C))) s):codeAny (model prog w) A (.call (.builtin "getset_descriptor.__get__") ⟨[.builtin "object.__class__",.ref x,a],[]⟩) R s:=by
 obtain⟨e,d,c,tt,os⟩:=s
 have LT:=Fh (M:=model prog w) I
 have LM:=looks_mroIn (M:=model prog w) X b
 refine codeAny_call_builtin KF.slot_gs.plain KF.entry_gs (KF.slot_gs.check _ _ _ _ _ _ _ _ KF.type_class (KF.args_gs _ _ _) (?_:wpAny _ _ _ _ _ _))
 (unfold Builtin.«getset_descriptor.__get__» descrGet);(rw[dga_obj]);(refine Qi (Qj ?_))
 (unfold descrGetter descrCheckInstance descrNameAndClass isInstance);(simp only[KF.owner_class]);(repeat lk)
 refine⟨Code.quiet_builtin _ (by decide +kernel),(codeAny_builtin KF.entry_class ?_:codeAny _ _ _ _ _)⟩
 (unfold Builtin.«object.__class__» shownTypeOf);(repeat lk)
 exact h
theorem Y1{M:Model}{Q:Unit->Shared->Prop}(X:K.In s.heap)(I:L2.B4 x C s.heap)(b:mroIn K C (.type "BaseException")=some true)(f:Q () s):
  wpAny M A (checkBuiltinCall "BaseException.__getattribute__" ⟨[.ref x,a],[]⟩) Q E s:=by
 obtain⟨h,g,e,tt,os⟩:=s
 have LT:=Fh (M:=M) I
 have LM:=looks_mroIn (M:=M) X b
 have c:builtinKind "BaseException.__getattribute__"=some .slot:=by decide +kernel
 have sp:splitId "BaseException.__getattribute__"=some ("BaseException","__getattribute__"):=by decide +kernel
 have d:=F.args_bexc_ga (.ref x) a
 simp only[checkBuiltinCall,c,sp]
 refine Qi ?_
 unfold isInstance
 repeat lk
 repeat (any_goals (first | assumption | wp_step))
theorem Y2{tk:Tok}(XC:D5 K C)(X:K.In s.heap)(I:L2.B4 x C s.heap)(h:R (.ok (.ret (.ref C))) s):
  codeAny (model prog w) A (.call (.builtin "BaseException.__getattribute__") ⟨[.ref x,.str "__class__" tk],[]⟩) R s:=by
 refine codeAny_call_builtin F.attr_Exception.ga.plain F.entry_bexc_ga (Y1 X I XC.mb ?_)
 obtain⟨a,b,c,tt,os⟩:=s
 have LT:=Fh (M:=model prog w) I
 have LF:=X9 (M:=model prog w) (x:=x) X XC.fc XC.sp XC.tk
 (unfold Builtin.«object.__getattribute__»)
 repeat (first | with_reducible refine wpAny_call (Y0 X I XC.mr ?_)| lk | wp_step)
 all_goals exact h
theorem Y3{Q:Option Value->Shared->Prop}(XC:D5 K C)(X:K.In s.heap)(I:L2.B4 x C s.heap)(h:Q (some (.ref C)) {s with toks:=s.toks+1}):wpAny (model prog w) A (getAttr? (.ref x) "__class__") Q E s:=by
 obtain⟨a,b,c,tt,os⟩:=s
 have LT:=Fh (M:=model prog w) I
 have LG:=looks_findIn (M:=model prog w) X XC.ga
 have LH:=looks_findIn (M:=model prog w) X XC.gh
 unfold getAttr? getAttrBy? getAttrBy
 refine Qi (wpAny_mkText (Qi (wpAny_attempt (wpAny_holding (Qi (LT.at (Qi (LG.at (?_:wpAny _ _ _ _ _ _)))))))))
 show wpAny _ _ (getAttrByItsOwn _ _ _ _ _ _) _ _ _
 unfold getAttrByItsOwn callGetattribute boundAndCalled
 refine Qi ((LH:Looks _ _ (hookBefore (.ref C)) none).at (Qi (wpAny_attempt (wpAny_holding ?_))))
 show wpAny _ _ (bindSpecial (.builtin "BaseException.__getattribute__") (.ref x) >>=_) _ _ _
 refine Qi (wpAny_of_eq (F.attr_Exception.ga.bind _) ?_)
 refine wpAny_call (Y2 (s:=⟨a,b,c,tt+1,os⟩) XC X I ?_)
 first
  | exact Qj (handed_on rfl (Qj h))
  | exact Qj (Qj h)
  | exact Qj h
theorem Y4(XC:D5 K C):KitX K (.ref x) (.ref C) (L2.B4 x C) where
 ty:=λ_ _ _ I=>Fh I
 it:=λ_ _ X _=>by
  have hc:=XC.cl
  unfold clsIn at hc
  split at hc
  ·rename_i _ _ _ _ a
   intro f l g s' k q
   unfold isType loadHead
   exact Qi (wpAny_loadPart (k _ _ (X _ _ a)) (Qj q))
  ·cases hc
 ne:=λh c j d n i X b=>by
  have hc:=XC.cl
  refine Bool.eq_false_iff.mpr λq=>?_
  have e:C=c:=Value.ref.inj (beq_iff_eq.mp q)
  subst e
  unfold clsIn at hc
  split at hc
  ·rename_i _ _ _ _ a
   have z:=(X _ _ a).symm.trans b
   cases z
  ·cases hc
 ca:=λX I k=>Y3 XC X I k
end
end L3
namespace L3
open PySem PySem.Spec PyProof.Rows L2
variable {K:PySem.W.Frag} {H H' H2:Hp}
def B2(K:PySem.W.Frag)(cv:Value)(ge:GE):GE:=λω G Q=>ge ω G λw G1=>match w with
 | .ref a=>(match G1 a with | some (.exc C)=>∃ b,D5 K C/\PySem.W.kitOne K (.ref C) cv=some b/\Q (.bl b) G1 | _=>False)
 | _=>False
theorem Y5{cv:Value}{ge:GE}(m:ge.M):GE.M (B2 K cv ge):=λω G Q f h q=>m _ _ _ _ (λw G1 z=>by
 cases w with
 | ref a =>
  dsimp only at z ⊢
  cases e:G1 a with
  | none=>rw[e]at z;exact z
  | some o =>
   rw[e]at z
   cases o with
   | lst xs=>exact z
   | ins C fs=>exact z
   | dct d=>exact z
   | exc C=>obtain⟨b,h1,h2,c⟩:=z;exact⟨b,h1,h2,h _ _ c⟩
 | _=>exact z) q
section
variable {X:Cx} {e:Expr} {p pc pos:Pos} {ge:GE}
variable {c:Str}
theorem MR{cv:V}{f:Value}(S:RelV cv f)(hc:PE X (.Name c pc) (tC cv))(n:X.mg "isinstance"=none)(k:Gl X "isinstance")
  (x:starEach [e,.Name c pc] X.env=[(false,eval e X.env),(false,eval (.Name c pc) X.env)]) (d:starEach [.Name c pc] X.env=[(false,eval (.Name c pc) X.env)]) (i:∀ u,RelV cv u->u=f) (h:Em X e ge):Em X (.Call (.Name "isinstance" p) [e,.Name c pc] [] pos) (B2 X.K f ge):=by
 refine⟨λpins s σ H Q I g=>?_,Y5 h.m⟩
 obtain⟨ω,G,y,r,q⟩:=g
 have pa:PA X [e,.Name c pc] (De (up X.K ge) (De (tC cv) EE)):=DQ h.p (DQ hc E5 (by rw[d];rfl)) (by rw[x,d])
 refine wpAny_Call_Name_kw (DM I k n MQ ?_ (by decide) (by decide))
 refine PyProof.Rows.callWith_builtin1 (thn (pa pos pins s σ H (λvs H1=>∃ a C b,vs=[.ref a,cv]/\H1 a=some (.ext (B4 a C))/\D5 X.K C/\PySem.W.kitOne X.K (.ref C) f=some b/\Q (.bl b) H1) I ?_) λR P⟨vs,H1,j,r1,a,C,b,B,D,L,F,qq⟩=>?_) (by rw[x,d]) (by rw[d];rfl)
 ·refine⟨ω,G,y,r,h.m _ _ _ _ (λw G1 z v H1 m t r1=>?_) q⟩
  cases w with
  | ref a =>
   dsimp only at z
   cases l:G1 a with
   | none=>rw[l]at z;exact z.elim
   | some o =>
    rw[l]at z
    cases o with
    | lst xs=>exact z.elim
    | ins C fs=>exact z.elim
    | dct J=>exact z.elim
    | exc C =>
     obtain⟨b,h1,h2,N⟩:=z
     have E:H1 a=some (.ext (B4 a C)):=r1 a _ l
     exact⟨a,C,b,by rw[V9 t],E,h1,h2,N _ H1 m (.bl _) r1⟩
  | _=>exact z.elim
 ·subst B
  obtain⟨u,O,rfl,A,rt⟩:=Ic r1
  cases A
  rw[i _ rt]
  obtain⟨h1,_⟩:=j.hok a _ D
  exact PySem.W.kia_one (Y4 L) j.kIn h1 F (λz=>nomatch z) λtk=>⟨.bl b,H1,j.tok tk,rfl,qq⟩
theorem EM{C:Addr}(a:X.mg c=some (.ref C))(g:X.mg "isinstance"=none)(f:Gl X "isinstance")(b:Gl X c)(hd:(c==("__debug__":Str))=false)
  (i:starEach [e,.Name c pc] X.env=[(false,eval e X.env),(false,eval (.Name c pc) X.env)]) (d:starEach [.Name c pc] X.env=[(false,eval (.Name c pc) X.env)]) (h:Em X e ge):Em X (.Call (.Name "isinstance" p) [e,.Name c pc] [] pos) (B2 X.K (.ref C) ge):=
 MR (cv:=.ref C) rfl (Li b a rfl hd) g f i d (λ_ z=>z) h
theorem Y6{T:String}(j:bootBuiltins c=some (.type T))(a:X.mg c=none)(g:X.mg "isinstance"=none)(f:Gl X "isinstance")(b:Gl X c)(k:c≠"__name__")(hd:(c==("__debug__":Str))=false)
  (i:starEach [e,.Name c pc] X.env=[(false,eval e X.env),(false,eval (.Name c pc) X.env)]) (d:starEach [.Name c pc] X.env=[(false,eval (.Name c pc) X.env)]) (h:Em X e ge):Em X (.Call (.Name "isinstance" p) [e,.Name c pc] [] pos) (B2 X.K (.type T) ge):=
 MR (cv:=.ty T) rfl (Lj b a j rfl k hd) g f i d (λ_ z=>z) h
end
theorem Y7{n:Nat}{a:Hw->Prop}{H1:Hp}:DU K H1 (Itr 0 n) ((List.range n).map λi:Nat=>W.int i) a where
 go:=λi H G m r g hi=>by show i < n;simpa using hi
 yld:=λi H G x H' m r g y hi=>by
  obtain⟨e,ex⟩:=y
  subst ex
  have b:i < n:=by simpa using hi
  refine F3 r e ⟨.int i,by simp[b],?_⟩
  rw[Int.zero_add];exact .int _
 stop:=λH G m r g=>by show n<=_;simp
def Bx(gs:GA):GI:=λω G R=>gs ω G λws G1=>match ws with
 | [.int j]=>-(2 ^ 62)<=j/\j < 2 ^ 62/\R ((List.range j.toNat).map λi:Nat=>W.int i) yes G1
 | _=>False
variable {gs:GA}
theorem Y8(m:gs.M):GI.M (Bx gs):=λω G R a h q=>m _ _ _ _ (λb G1 z=>by
 split at z
 ·exact⟨z.1,z.2.1,h _ _ _ z.2.2⟩
 ·exact z.elim) q
variable {X:Cx}
theorem Y9{tg a:Expr}{p pos:Pos}(g:X.mg "range"=none)(e:Gl X "range")(c:starEach [a] X.env=[(false,eval a X.env)])(b:Am X [a] gs):Im X tg (.Call (.Name "range" p) [a] [] pos) (Bx gs):=by
 refine⟨⟨_,Ud e g b.p c,λσ H ω G R i d r q k=>⟨ω,G,d,r,b.m _ _ _ _ (λh G1 z vs H1 m t r1=>?_) q⟩⟩,Y8 b.m⟩
 split at z
 ·cases t with
  | cons f t=>cases t;cases f;exact⟨_,rfl,z.1,z.2.1,k _ _ _ H1 _ z.2.2 m r1 trivial Y7⟩
 ·exact z.elim
theorem Inv.turneds{pins:List (Addr×Obj)}{σ:St}{s:Shared}{h':Heap}{t':Nat}{fp:List Addr}(I:Inv X pins σ H s)(a:∀ b∈fp,Ce X pins H b)(k:∀ b o,b∉fp->s.heap.get? b=some o->h'.get? b=some o):Inv X pins σ H {s with heap:=h',toks:=t'}:=by
 have d:∀ b u,H b=some u->b∉fp:=λb u e z=>by rw[(a b z).1]at e;cases e
 refine I.step (g':=s.gens) (d':=s.drawn) (ch:=fp) (λb f=>⟨(a b f).2.2.2.1,(a b f).2.1,(a b f).2.2.2.2.1,(a b f).2.2.2.2.2⟩) (λb o _ _ hc e _=>k b o hc e) (λb o _ _ hc e _=>⟨o.slots,k b o hc e⟩) (λ_ _ _ _ n=>n)
  (λb o hc e=>⟨o,k b o hc e⟩) (λ_ _ e=>e) (λ_ _ _ e=>e) (λb ps e=>⟨#[],by rw[e];simp⟩) (λm h=>?_) (λb u e=>?_) I.bare
 ·obtain⟨o,es,g,i,r⟩:=h
  exact⟨o,es,g,k _ o (λz=>(a _ z).2.1 rfl) i,r⟩
 ·refine(I.hok b u e).stay (λc v hc q=>k c v ?_ q) (λ_ q=>q) λ_ _ q=>q
  rcases hc with z | z
  ·rw[z];exact d b u e
  ·exact d c _ z
def rdL(G:Hw)(w:W):Option (List W):=match w with
 | .rol xs=>some xs
 | .ref a=>(match G a with | some (.lst xs)=>some xs | _=>none)
 | _=>none
theorem Za{G:Hw}{w:W}{xs:List W}{v:V}(r:RelH K H G)(t:Tr K H v w)(e:rdL G w=some xs):∃ a vs,v=.ref a/\SqL K H a vs/\TrL K H vs xs:=by
 cases t with
 | rol h l=>cases e;exact⟨_,_,rfl,h.sq,l⟩
 | ref a =>
  unfold rdL at e;dsimp only at e
  cases z:G a with
  | none=>rw[z]at e;cases e
  | some o =>
   rw[z]at e
   cases o with
   | lst ys=>cases e;obtain⟨vs,b,t1⟩:=r a _ z;exact⟨a,vs,rfl,SqL.of b,t1⟩
   | exc C=>cases e
   | ins C fs=>cases e
   | dct c=>cases e
 | _=>cases e
def Br:List W->List W->List W
 | x::xs,y::ys=>.tup [x,y]::Br xs ys
 | _,_=>[]
theorem IZ:∀(xs ys:List W),(Br xs ys).length=min xs.length ys.length
 | [],_=>by simp[Br]
 | _::_,[]=>by simp[Br]
 | _::xs,_::ys=>by simp only[Br,Yg,IZ xs ys];lia
theorem MS:∀(xs ys:List W)(i:Nat){x y:W},xs[i]?=some x->ys[i]?=some y->(Br xs ys)[i]?=some (.tup [x,y])
 | [],_,_,_,_,h,_=>by simp at h
 | _::_,[],_,_,_,_,h=>by simp at h
 | a::xs,b::ys,0,x,y,h,h'=>by simp at h h';subst h;subst h';rfl
 | a::xs,b::ys,i+1,x,y,h,h'=>by
  have:=MS xs ys i (x:=x) (y:=y) (by simpa using h) (by simpa using h')
  simpa[Br]using this
theorem Zb:bootBuiltins "len"=some (.builtin "len"):=by decide +kernel
theorem D6:bootBuiltins "all"=some (.builtin "all"):=by decide +kernel
theorem Ja:bootBuiltins "sum"=some (.builtin "sum"):=by decide +kernel
theorem MT:bootBuiltins "max"=some (.builtin "max"):=by decide +kernel
theorem MU:bootBuiltins "list"=some (.type "list"):=by decide +kernel
theorem Gg:bootBuiltins "tuple"=some (.type "tuple"):=by decide +kernel
theorem MV:bootBuiltins "int"=some (.type "int"):=by decide +kernel
theorem Zc:bootBuiltins "str"=some (.type "str"):=by decide +kernel
theorem Zd:bootBuiltins "bool"=some (.type "bool"):=by decide +kernel
theorem Ze:bootBuiltins "ValueError"=some (.type "ValueError"):=by decide +kernel
section
variable {X:Cx} {P:Hp->Prop} {a b c e:Expr} {es:List Expr} {pos pos' p:Pos} {ga gb ge:GE} {gt:GT}
variable {x:Str}{i:Nat}
theorem Zf(hi:X.N[i]?=some x)(a:seen X.env.scope x=true)(hd:(x==("__debug__":Str))=false)(hc:(x==("__classdict__":Str))=false):Em X (.Name x pos) (Ab i):=⟨VO hi (Ml a) hd hc,VN⟩
theorem D7(d:X.N.Nodup)(hi:X.N[i]?=some x)(b:EI X.env.scope x=true)(c:swapsWith e (some (.Name x pos')) pos.line X.env=pure false)(a:Em X e ga):Sm X P (.Assign [.Name x pos'] e pos) (Aj i ga):=
 ⟨L8 d hi (.inl (EJ b)) a.m a.p c (.inr (EJ b)),IC a.m⟩
theorem Zg{n:Nat}(c:X.N.Nodup)(hi:X.N[n]?=some x)(b:EI X.env.scope x=true)(a:Em X e ga):Sm X P (.AugAssign (.Name x pos') .Add e pos) (Ci n Cj ga):=
 ⟨XA (OpR.or Us UK) Mz XB c hi (.inl (EJ b)) (.inr (EJ b)) a.m a.p,Xz Mz a.m⟩
def Glb(K:PySem.W.Frag)(mg:Str->Option Value)(x:Str)(w:W):Prop:=∃ v u,mg x=some u/\RelV v u/\∀ H,Tr K H v w
theorem D8{w:W}(h:Glb X.K X.mg x w)(a:Gl X x)(hd:(x==("__debug__":Str))=false):Em X (.Name x pos) (gC w):=
 let⟨_,_,h1,h2,h3⟩:=h
 ⟨L5 a h1 h2 h3 hd,EG⟩
structure Fm(X:Cx)(ifs:List Expr)(g:GT):Prop where
 p:PFw X ifs g
 m:g.M
theorem Bs:Fm X [] AJ:=⟨WM,WL⟩
theorem Zh(h:Tm X c gt):Fm X [c] gt:=⟨WN h.p,h.m⟩
theorem BD{elt tg iter:Expr}{ifs:List Expr}{scope:Scope}{Nc:List Str}{gi:GI}{e:GG}(hc:X.calm=true)(B:Blk X Nc scope [] (λ_=>List.replicate Nc.length none))(g:∀ x,foldedSetIterable iter X.env x=pure x)(hi:Im X tg iter gi)
  (a:TgU X Nc scope tg e) (c:∀ C fp s H,Fm (cxB X Nc scope [] C fp s H) ifs gt) (b:∀ C fp s H,Em (cxB X Nc scope [] C fp s H) elt ge):Em X (.ListComp elt [⟨tg,iter,ifs,0⟩] scope pos) (AI gi Nc.length e gt ge):=
 have f:gt.M:=(c 0 [] X.s₀ X.H₀).m
 have d:ge.M:=(b 0 [] X.s₀ X.H₀).m
 ⟨WQ hc hi.p B a f (λC fp s H=>(c C fp s H).p) d (λC fp s H=>(b C fp s H).p) g,WK hi.m a.mono f d⟩
theorem CO:CJ X (λ_ _ _=>False):=(by rintro pins σ H s ev s' I ⟨e,C,H',d,F,c,ω,G,a,b,r,q⟩;exact q.elim)
variable {k:Nat}{A:Around}
theorem AT(a:Room k A):A.units+100 < cLine:=by have:=a.un;lia
theorem Zi{j:Nat}{e:Option Value}(a:Room k A)(h:j<=k):FZ j (A.mark e):=⟨by have:=a.dp;show A.depth+3*j+5 < recursionLimit;lia,by have:=a.un;show A.units+16*j+200 < cLine;lia⟩
end
def D9:List (Str×Int)->Str->W
 | [],_=>.non
 |(x,i)::D,z=>if z=x then .int i else D9 D z
def Jb(mg:Str->Option Value)(base:Heap)(x:Str)(D:List (Str×Int)):Prop:=∃ d,mg x=some (.ref d)/\KTD.TextTab base d (D.map λp=>(p.1,KTD.Dat.flat (.int p.2)))
theorem MW:∀{D:List (Str×Int)}{z:Str}{d:KTD.Dat},KTD.datumAt z (D.map λp=>(p.1,KTD.Dat.flat (.int p.2)))=some d->∃ i,d=.flat (.int i)/\D9 D z=.int i
 | [],_,_,h=>by cases h
 |(x,i)::D,z,d,h=>by
  have h':(if decide (z=x)=true then some (KTD.Dat.flat (.int i))else KTD.datumAt z (D.map λp=>(p.1,KTD.Dat.flat (.int p.2))))=some d:=h
  unfold D9
  by_cases a:z=x
  ·rw[if_pos (YH a)]at h'
   cases h'
   exact⟨i,rfl,if_pos a⟩
  ·rw[if_neg (by simpa using a)]at h'
   rw[if_neg a]
   exact MW h'
theorem MX:∀{D:List (Str×Int)}{z:Str},KTD.datumAt z (D.map λp=>(p.1,KTD.Dat.flat (.int p.2)))=none->D9 D z=.non
 | [],_,_=>rfl
 |(x,i)::D,z,h=>by
  have h':(if decide (z=x)=true then some (KTD.Dat.flat (.int i))else KTD.datumAt z (D.map λp=>(p.1,KTD.Dat.flat (.int p.2))))=none:=h
  unfold D9
  by_cases a:z=x
  ·rw[if_pos (YH a)]at h';cases h'
  ·rw[if_neg (by simpa using a)]at h'
   rw[if_neg a]
   exact MX h'
def EN(D:List (Str×Int))(gk:GE):GE:=λω G Q=>gk ω G λw G1=>match w with | .str z=>Q (D9 D z) G1 | _=>False
theorem Zj{x:Str}{D:List (Str×Int)}{e:Expr}{j apos cpos:Pos}{l:GE}(h:Jb X.mg X.base x D)(P:Gl X x)(hd:(x==("__debug__":Str))=false)(c:attributeBase (.Name x j) "get" X.env (eval (.Name x j) X.env)=eval (.Name x j) X.env)
  (g:((backTo cpos (starEach [e] X.env)).all (λx=>!x.1)&&(backToKw cpos (keywordEach [] X.env)).all (λx=>x.1.isSome)&&decide ([e].length+([]:List Keyword).length+(if([]:List Keyword).isEmpty then 0 else 1) < 30))=true)
  (f:(apos.endLine==cpos.line)=true) (A:starEach [e] X.env=(false,eval e X.env)::starEach [] X.env) (hplain:(backTo cpos (starEach [] X.env)).any (·.1)=false) (n:Em X e l):
  Em X (.Call (.Attribute (.Name x j) "get" apos) [e] [] cpos) (EN D l):=by
 refine⟨λpins s σ H Q I⟨ω,G,E,r,q⟩=>?_,λω G Q Q' O q=>n.m _ _ _ _ (λw G1 z=>by cases w <;> first | exact O _ _ z | exact z) q⟩
 obtain⟨d,N,T⟩:=h
 have b:KTD.Here X.base s.heap d (D.map λp=>(p.1,KTD.Dat.flat (.int p.2))):=⟨T,I.bk⟩
 refine wpAny_Call_method_late c g f rfl (C9 I P N ⟨"dict","dict.get",PySem.F.plainAttrs_dict,PySem.F.slot_dict_get,PySem.F.type_dict_get,b.typeIs,b.noDict,?_⟩ hd)
 have pa:PA X [e] (De (up X.K l) EE):=DQ n.p E5 A
 have B:=pa cpos pins s σ H (λvs H1=>∃ z,vs=[.str z]/\∀ v,Tr X.K H1 v (D9 D z)->Q v H1) I ⟨ω,G,E,r,n.m _ _ _ _ (λw G1 z v H1 m t r1=>by
  cases w with
  | str y=>exact⟨y,by rw[Mb t],λv tv=>z v H1 m tv r1⟩
  | _=>exact z.elim) q⟩
 rw[A]at B ⊢
 refine Calls.callWith_builtin (by show(false||(backTo cpos (starEach [] X.env)).any (·.1))=false;rw[hplain] <;> rfl) (Calls.evalArgs_plain ?_)
 refine thn B λus R k=>?_
 obtain⟨vs,H2,o,S,z,J,q2⟩:=k
 subst J
 obtain⟨u,rfl,Y⟩:=Dd S
 obtain⟨t,rfl⟩:=Y
 have a:KTD.Here X.base R.heap d (D.map λp=>(p.1,KTD.Dat.flat (.int p.2))):=⟨T,o.bk⟩
 refine call_meetsIn PySem.F.slot_dict_get a.typeIs PySem.F.entry_dict_get (PySem.F.args_dict_get_2 _ _) (KTD.meets_get1 (h₀:=X.base) (D:=D.map λp=>(p.1,KTD.Dat.flat (.int p.2)))) ⟨a,λdd v L U=>?_,λhn=>?_⟩
 ·obtain⟨i,rfl,Z⟩:=MW L
  obtain⟨t2,rfl⟩:=PyProof.V.Flat.int_inv U
  exact⟨.int i,H2,o.tok _,⟨_,rfl⟩,q2 _ (by rw[Z];exact .int i)⟩
 ·exact⟨.non,H2,o.tok _,rfl,q2 _ (by rw[MX hn];exact .non)⟩
def Fn(K:PySem.W.Frag)(mg:Str->Option Value)(st:Stmt)(x:Str)(ps:List Str):Prop:=∃ f fd,mg x=some (.ref f)/\Fun K x x st f fd/\Binds K fd ps []
section
variable {P:Program} {w:World} {mg:Str->Option Value} {base:Heap}
variable {x:Str}{k n:Nat}{sp:Spw}
theorem Df.le{j:Nat}(D:Df P w K mg base x j n sp)(h:j<=k):Df P w K mg base x k n sp :=
 ⟨let⟨f,fd,ps,h1,h2,h3,h4,F⟩:=D.ex;⟨f,fd,ps,h1,h2,h3,h4,F.mono h⟩,D.mono⟩
variable {st:Stmt}{N ps:List Str}{g:GS}
theorem mk0(Fx:Fn K mg st x ps)(i:ps.length=n)(S:Ay N ps (Aq st))(d:sp.M)(len:∀ c G Q E,sp c G Q E->c.length=n)
  (j:∀{f:Addr}{cdv:Value}{A:Around}{outer:List Env}{s:Shared}{H:Hp}{E:XK},Room k (A.deeper (envOfC x (Aq st) s.heap.objs.size f cdv))->Ssm (cxW P w K mg base N x (Aq st) f cdv A outer s H E).nox (λB=>B=H) (Be st) g)
  (ok:∀ c G(Q:Kw)(E:Addr->Hw->Prop),Kw.C Q->sp c G Q E->g (Av Q) (A3 N c) G):Df P w K mg base x (k+1) n sp:=by
 obtain⟨f,fd,h1,F,y⟩:=Fx
 refine⟨⟨f,fd,ps,h1,F.kp,y,i,?_⟩,d⟩
 obtain⟨O,R,kV,u,pm,L,cdv,ct,l,rfl,o,e⟩:=F.ex
 refine E6 o e S ((by rintro vs H Q E ⟨c,G,t,r,q⟩;rw[t.length,i];exact len c G _ _ q)) λA outer s H vs Q E I h=>?_
 obtain⟨c,G,t,r,q⟩:=h
 have D:=j (cdv:=cdv) (outer:=outer) (H:=H) (E:=E) I
 refine⟨_,(D.p H rfl).nox,A3 N c,G,E9 t,r,.refl,?_⟩
 exact D.m _ _ (Av (dn K H Q)) _ (λa b z σ H2 m J v=>z _ H2 m Tr.non v) (λa b z=>z) (λa b z=>z.elim) (λa b z=>z.elim) (ok c G _ _ Fa q)
theorem mkX{g:(Addr->Hw->Prop)->GS}(Fx:Fn K mg st x ps)(i:ps.length=n)(S:Ay N ps (Aq st))(d:sp.M)(len:∀ c G Q E,sp c G Q E->c.length=n)
  (j:∀{f:Addr}{cdv:Value}{A:Around}{outer:List Env}{s:Shared}{H:Hp}{E:XK},Room k (A.deeper (envOfC x (Aq st) s.heap.objs.size f cdv))->Ssm (cxW P w K mg base N x (Aq st) f cdv A outer s H E) (λB=>B=H) (Be st) (g (dnX K H E)))
  (ok:∀ c G(Q:Kw)(E:Addr->Hw->Prop),Kw.C Q->Xc E->sp c G Q E->g E (Av Q) (A3 N c) G):Df P w K mg base x (k+1) n sp:=by
 obtain⟨f,fd,h1,F,y⟩:=Fx
 refine⟨⟨f,fd,ps,h1,F.kp,y,i,?_⟩,d⟩
 obtain⟨O,R,kV,u,pm,L,cdv,ct,l,rfl,o,e⟩:=F.ex
 refine E6 o e S ((by rintro vs H Q E ⟨c,G,t,r,q⟩;rw[t.length,i];exact len c G _ _ q)) λA outer s H vs Q E I h=>?_
 obtain⟨c,G,t,r,q⟩:=h
 have D:=j (cdv:=cdv) (outer:=outer) (H:=H) (E:=E) I
 refine⟨_,D.p H rfl,A3 N c,G,E9 t,r,.refl,?_⟩
 exact D.m _ _ (Av (dn K H Q)) _ (λa b z σ H2 m J v=>z _ H2 m Tr.non v) (λa b z=>z) (λa b z=>z.elim) (λa b z=>z.elim) (ok c G _ _ Fa VX q)
theorem mkN(Fx:Fn K mg st x ps)(i:ps.length=n)(S:Ay N ps (Aq st))(d:sp.M)(len:∀ c G Q E,sp c G Q E->c.length=n)
  (j:∀{f:Addr}{cdv:Value}{A:Around}{outer:List Env}{s:Shared}{H:Hp},Ssm (cxN P w K mg base N x (Aq st) f cdv A outer s H) (λB=>B=H) (Be st) g)
  (ok:∀ c G(Q:Kw)(E:Addr->Hw->Prop),Kw.C Q->sp c G Q E->g (Av Q) (A3 N c) G):DfN P w K mg base x (k+1) n sp:=by
 obtain⟨f,fd,h1,F,y⟩:=Fx
 refine⟨⟨f,fd,ps,h1,F.kp,y,i,?_⟩,d⟩
 obtain⟨L,O,kV,u,pm,J,cdv,ct,l,rfl,o,e⟩:=F.ex
 refine VJ o e S ((by rintro vs H Q E ⟨c,G,t,r,q⟩;rw[t.length,i];exact len c G _ _ q)) λA outer s H vs Q E h=>?_
 obtain⟨c,G,t,r,q⟩:=h
 have D:=j (f:=f) (cdv:=cdv) (A:=A) (outer:=outer) (s:=s) (H:=H)
 refine⟨_,D.p H rfl,A3 N c,G,E9 t,r,.refl,?_⟩
 exact D.m _ _ (Av (dn K H Q)) _ (λa b z σ H2 m I v=>z _ H2 m Tr.non v) (λa b z=>z) (λa b z=>z.elim) (λa b z=>z.elim) (ok c G _ _ Fa q)
end
end L3
namespace L3
open PySem PySem.Spec PyProof.Rows L2
def By{α:Type}(n:Nat)(js:List Nat)(l:List (Option α)):List (Option α):=List.replicate n none++js.map λj=>(l[j]?).getD none
variable {n:Nat}{js:List Nat}
theorem Jc{α:Type}{l:List (Option α)}:(By n js l).length=n+js.length:=by simp[By]
variable {i:Nat}
theorem MY{α:Type}{l:List (Option α)}{v:α}(h:(By n js l)[i]?=some (some v)):∃ m j,i=n+m/\js[m]?=some j/\l[j]?=some (some v):=by
 unfold By at h
 by_cases hi:i < n
 ·rw[YI (by simpa using hi),List.getElem?_replicate]at h
  split at h <;> cases h
 ·rw[List.getElem?_append_right (by simpa using Nat.le_of_not_lt hi),List.length_replicate,YN]at h
  cases a:js[i - n]? with
  | none=>rw[a]at h;cases h
  | some j =>
   rw[a]at h
   refine⟨i - n,j,by lia,a,?_⟩
   have h':(l[j]?).getD none=some v:=YE h
   cases e:l[j]? with
   | none=>rw[e]at h';cases h'
   | some o=>rw[e]at h';exact Qf some h'
variable {j:Nat}
theorem Zk{α:Type}{m:Nat}{l:List (Option α)}{v:α}(h1:js[m]?=some j)(h2:l[j]?=some (some v)):(By n js l)[n+m]?=some (some v):=by
 unfold By
 rw[List.getElem?_append_right (by simp),List.length_replicate,YN]
 have:n+m - n=m:=by lia
 rw[this,h1]
 show some ((l[j]?).getD none)=_
 rw[h2];rfl
variable {K:PySem.W.Frag}
theorem TrSt.cap{H:Hp}{σ:St}{ω:Sw}(t:TrSt K H σ ω)(n:Nat)(js:List Nat):TrSt K H (By n js σ) (By n js ω):=by
 refine⟨by rw[Jc,Jc],λi w e=>?_⟩
 obtain⟨m,j,rfl,h1,h2⟩:=MY e
 obtain⟨v,a,r⟩:=t.get j w h2
 exact⟨v,Zk h1 a,r⟩
def CP(env:Env):List (Str×NameKind)->List (Str×Addr)->List (Str×Addr)
 | [],cs=>cs
 |(n,k)::r,cs=>CP env r (if k=.free then(n,(env.cells.lookup n).getD 0)::cs else cs)
theorem MZ{env:Env}:∀(l:List (Str×NameKind))(a:List (Str×Addr)),(∀ y∈l,y.2=.free->∃ c,env.cells.lookup y.1=some c)->
  (forIn l a λ(x:Str×NameKind)r=>if(x.2==NameKind.free)=true then do let c <- cellOf env x.1;pure (ForInStep.yield ((x.1,c)::r))else pure (ForInStep.yield r):Sem (List (Str×Addr)))=pure (CP env l a)
 | [],a,_=>by simp[CP]
 |(n,k)::r,a,h=>by
  have d:=λa=>MZ r a λy f=>h y (Yd _ f)
  rw[List.forIn_cons]
  by_cases b:k=.free
  ·obtain⟨c,hc⟩:=h (n,k) Ye b
   subst b
   have e:cellOf env n=pure c:=by unfold cellOf;rw[hc]
   simp only[beq_self_eq_true,if_true,e,pure_bind,CP,hc,Option.getD_some]
   exact d _
  ·have:(k==NameKind.free)=false:=by simpa using b
   simp only[this,Yq,if_false,pure_bind,CP,b]
   exact d _
theorem M0{env:Env}{y:Str}{c:Addr}:∀(l:List (Str×NameKind))(a:List (Str×Addr)),(CP env l a).lookup y=some c->a.lookup y=some c\/((y,NameKind.free)∈l/\c=(env.cells.lookup y).getD 0)
 | [],a,h=>.inl h
 |(n,k)::r,a,h=>by
  rcases M0 r _ h with q |⟨q1,q2⟩
  ·split at q
   ·rename_i b
    subst b
    rw[List.lookup_cons]at q
    split at q
    ·rename_i e
     have d:y=n:=beq_iff_eq.mp e
     subst d
     exact .inr ⟨Ye,(YE q).symm⟩
    ·exact .inl q
   ·exact .inl q
  ·exact .inr ⟨Yd _ q1,q2⟩
theorem M1{env:Env}{y:Str}:∀(l:List (Str×NameKind))(a:List (Str×Addr)),(∃ c,a.lookup y=some c)->∃ c,(CP env l a).lookup y=some c
 | [],a,h=>h
 |(n,k)::r,a,h=>M1 r _ (by
  split
  ·rw[List.lookup_cons]
   split
   ·exact⟨_,rfl⟩
   ·exact h
  ·exact h)
theorem M2{env:Env}{y:Str}:∀(l:List (Str×NameKind))(a:List (Str×Addr)),(y,NameKind.free)∈l->∃ c,(CP env l a).lookup y=some c
 | [],a,h=>by cases h
 |(n,k)::r,a,h=>by
  rcases Yo.mp h with h | h
  ·cases h
   refine M1 r _ ⟨(env.cells.lookup y).getD 0,?_⟩
   rw[if_pos rfl,List.lookup_cons,beq_self_eq_true]
  ·exact M2 r _ h
variable {scope:Scope}{y:Str}
theorem M3{env:Env}{k:NameKind}(nocell:∀ z∈scope.names,z.2≠.cell)(h:(relabel scope env).names.lookup y=some k)(b:k=.cell\/k=.free):(y,NameKind.free)∈scope.names:=by
 have m:=Iu h
 unfold relabel at m
 obtain⟨⟨n,c⟩,a,e⟩:=YC.mp m
 dsimp only at e
 split at e
 ·rename_i hc
  cases e
  simp only[YG,beq_iff_eq]at hc
  rw[hc.1.1]at a
  exact a
 ·cases e
  rcases b with rfl | rfl
  ·exact Qh rfl (nocell _ a)
  ·exact a
theorem M4{env:Env}(a:env.scope.kind=.function):∀{names:List (Str×NameKind)}{x:Str},names.lookup x=some .free->env.kindOf x=some .cell->
  (names.map λ(n,k)=>if(k==NameKind.free&&env.scope.kind==.function&&env.kindOf n==some .cell)then(n,NameKind.cell)else(n,k)).lookup x=some .cell
 | [],_,h,_=>by cases h
 |(n,k)::r,x,h,f=>by
  rw[List.lookup_cons]at h
  rw[Ym]
  split at h
  ·rename_i e
   have g:x=n:=beq_iff_eq.mp e
   subst g
   cases h
   have c:(NameKind.free==NameKind.free&&env.scope.kind==ScopeKind.function&&env.kindOf x==some NameKind.cell)=true:=by rw[a,f];rfl
   dsimp only
   rw[if_pos c,List.lookup_cons,beq_self_eq_true]
  ·rename_i e
   have i:=M4 a (names:=r) h f
   rw[List.lookup_cons]
   have d:(x==(if(k==NameKind.free&&env.scope.kind==ScopeKind.function&&env.kindOf n==some NameKind.cell)=true then(n,NameKind.cell)else(n,k)).1)=false:=by
    split <;> exact e
   dsimp only at d ⊢
   split
   ·rename_i b;rw[d]at b;cases b
   ·exact i
variable {X:Cx}
theorem Gh{own fr:List Str}{scX:Scope}(kind:scope.kind=.function)(names:∀ x∈scope.names,x.2=.local->scope.names.lookup x.1=some .local)(nocell:∀ y∈scope.names,y.2≠.cell)
  (s:∀ y∈scope.names,y.2=.free->y.1∈fr) (A:∀ y∈fr,scope.names.lookup y=some .free) (d:X.env.scope=scX) (f:scX.kind=.function) (g:X.env.cells=cellsFrom n scX.names []) (r:∀ y∈fr,scX.names.lookup y=some .cell)
  (t:js.map (λj=>X.N[j]?)=fr.map some):Blk X (own++fr) scope (CP X.env scope.names []) (By own.length js):=by
 have b:∀ y∈fr,∃ c,X.env.cells.lookup y=some c:=λy a=>by
  rw[g]
  exact Ie (r y a)
 have k:js.length=fr.length:=by have:=Qf List.length t;simpa using this
 refine⟨?_,kind,names,nocell,λy c h=>?_,λy h=>?_,λσ i y v h1 h2 D=>?_,λσ=>by rw[Jc,Yj,k]⟩
 ·have:=MZ (env:=X.env) scope.names [] λy a o=>b _ (s y a o)
  unfold closureFor
  simp only[bind_pure]
  exact this
 ·rcases M0 _ _ h with q |⟨q1,q2⟩
  ·cases q
  ·obtain⟨B,e⟩:=b y (s _ q1 rfl)
   rw[e]at q2 ⊢
   exact Qf some q2.symm
 ·refine M2 _ _ ?_
  rcases h with h | h
  ·exact M3 nocell h (.inl rfl)
  ·exact M3 nocell h (.inr rfl)
 ·obtain⟨m,j,rfl,u,w⟩:=MY h2
  rw[List.getElem?_append_right (by lia)]at h1
  have:own.length+m - own.length=m:=by lia
  rw[this]at h1
  have a:y∈fr:=List.mem_of_getElem? h1
  have q:=Qf (λl=>l[m]?) t
  simp only[YN,u,h1,YD]at q
  have p:X.env.scope.names.lookup y=some .cell:=by rw[d];exact r y a
  refine⟨.inl (M4 (by rw[d];exact f) (A y a) p),.inr (.inl p),(by rw[p];intro z;cases z),j,YE q,w⟩
def B3(gi:GI)(n:Nat)(js:List Nat)(gg:GG)(gt:GT)(ge:GE):GE:=λω G Q=>gi ω G λws gd G1=>AY gd gg gt ge (λys G2=>∀ p,G2 p=none->Q (.ref p) (put G2 p (.lst ys))) ws (By n js ω) G1 []
variable {gi:GI}{gt:GT}{ge:GE}
theorem Jd{a:GG}(c:gi.M)(mg:a.M)(d:gt.M)(b:ge.M):GE.M (B3 gi n js a gt ge):=λω G Q i h q=>
 c _ _ _ _ (λf g G1 z=>F5 mg d b (λys G2 z p e=>h _ _ (z p e)) _ _ _ _ z) q
theorem M5{u:GG}{Y:TI}{g:TG}(O:∀(σ:St)(H:Hp)(ω:Sw)(G:Hw)(R:List W->(Hw->Prop)->Hw->Prop)(U:It->Hp->Prop),TrSt X.K H σ ω->RelH X.K H G->gi ω G R->
   (∀ a s G1 H1 J,R a s G1->Mono X.K H H1->RelH X.K H1 G1->s G1->DU X.K H1 J a s->U J H1)->Y σ H U)
  (P:∀(x:V)(w:W)(σ:St)(ω:Sw)(H:Hp)(G:Hw)(Q:St->Hp->Prop),Tr X.K H x w->TrSt X.K H σ ω->RelH X.K H G->u w ω G (dnS X.K H Q)->g x σ H Q) (mg:u.M) (mt:gt.M) (me:ge.M) (σ:St) (H:Hp) (Q:VK) (h:up X.K (B3 gi n js u gt ge) σ H Q):
  FY Y (By n js) g (upT X.K gt) (up X.K ge) σ H Q:=by
 obtain⟨ω,G,S,r,q⟩:=h
 refine O σ H ω G _ _ S r q λa s G1 H1 J z m1 r1 hgd D=>?_
 refine⟨λi m σ' H' vs=>m=a.length - i/\i<=a.length/\Mono X.K H1 H'/\∃ ω' k ys,TrSt X.K H' σ' ω'/\RelH X.K H' k/\TrL X.K H' vs ys/\AY s u gt ge (λys G2=>∀ p,G2 p=none->dn X.K H Q (.ref p) (put G2 p (.lst ys))) (a.drop i) ω' k ys,
  ⟨a.length,by simp,YU _,.refl,_,G1,[],(S.mono m1).cap n js,r1,.nil,by simpa using z⟩,?_⟩
 rintro i m σ' H' vs ⟨rfl,hle,j,ω',k,ys,L,r',tv,o⟩
 have c:=Mg o
 by_cases d:i < a.length
 ·have hw:∃ w,a[i]?=some w:=⟨a[i],by simp[d]⟩
  obtain⟨w0,A⟩:=hw
  have ed:a.drop i=w0::a.drop (i+1):=by
   obtain⟨h',e'⟩:=YW.mp A
   rw[<- e'];exact List.drop_eq_getElem_cons h'
  rw[ed]at o
  refine .inr ⟨D.go i H' k j r' c d,by rw[tv.length];exact o.2.1,λσ2 H2 t=>Mono X.K H1 H2/\∃ ω2 G2 v,TrSt X.K H2 σ2 ω2/\RelH X.K H2 G2/\TrL X.K H2 t v/\AY s u gt ge (λys G2=>∀ p,G2 p=none->dn X.K H Q (.ref p) (put G2 p (.lst ys))) (a.drop (i+1)) ω2 G2 v,
   (by rintro σ2 H2 t ⟨y1,y2⟩;exact⟨a.length -(i+1),by lia,rfl,d,y1,y2⟩),λx H2 y=>?_⟩
  obtain⟨E,ry,w,Z,tw⟩:=D.yld i H' k x H2 j r' c y d
  have j:=j.trans E
  have tv:=tv.mono E
  rw[A]at Z;cases Z
  refine P x _ σ' ω' _ k _ tw (L.mono E) ry (mg _ _ _ _ _ (λω1 F z1 σ1 H3 B f r3=>?_) o.2.2)
  refine⟨ω1,F,f,r3,mt _ _ _ _ (λb G4 T H4 l r4=>?_) z1⟩
  cases b with
  | true=>exact⟨ω1,G4,f.mono l,r4,me _ _ _ _ (λy5 G5 z5 v5 H5 N t5 r5=>⟨((j.trans B).trans l).trans N,ω1,G5,_,(f.mono l).mono N,r5,(((tv.mono B).mono l).mono N).append (.cons t5 .nil),z5⟩) T⟩
  | false=>exact⟨(j.trans B).trans l,ω1,G4,_,f.mono l,r4,(tv.mono B).mono l,T⟩
 ·have e:i=a.length:=by lia
  subst e
  rw[List.drop_length]at o
  exact .inl ⟨D.stop H' k j r' c,λp I=>o.2 p (r'.no I) _ _ ((m1.trans j).trans (Mono.new I _)) (.ref p) (r'.new I tv)⟩
structure TgC(X:Cx)(Nc:List Str)(scope:Scope)(cl:List (Str×Addr))(tg:Expr)(gg:GG):Prop where
 ex:∃ g:TG,(∀ C fp s H,PG (cxB X Nc scope cl C fp s H) tg g)/\∀(x:V)(w:W)(σ:St)(ω:Sw)(H:Hp)(G:Hw)(Q:St->Hp->Prop),Tr X.K H x w->TrSt X.K H σ ω->RelH X.K H G->gg w ω G (dnS X.K H Q)->g x σ H Q
 mono:gg.M
variable {Nc:List Str}{cl:List (Str×Addr)}{x:Str}{p:Pos}
theorem M6(d:Nc.Nodup)(hi:Nc[i]?=some x)(a:scope.names.lookup x=some .local):TgC X Nc scope cl (.Name x p) (gNm i) where
 ex:=⟨CH i,λC b s H=>DN (X:=cxB X Nc scope cl C b s H) d hi (.inl (lookup_relabel_local a)) (.inr (lookup_relabel_local a)),λx w σ ω H G Q t c r q=>q _ H .refl (c.set i t) r⟩
 mono:=λ_ _ _ _ _ h q=>h _ _ q
variable {pos:Pos}
theorem M7{g:Pos}{k:Nat}(hc:X.calm=true)(c:Nc.Nodup)(hi:Nc[i]?=some x)(d:scope.names.lookup x=some .local)(m:Nc[j]?=some y)(e:scope.names.lookup y=some .local):
  TgC X Nc scope cl (.Tuple [.Name x p,.Name y g] k pos) (A9 i j) where
 ex:=⟨Cl X.K 2 (BT (CH i) (BT (CH j) Ch)),λC n s H=>Lm (X:=cxB X Nc scope cl C n s H) hc (FU (DN c hi (.inl (lookup_relabel_local d)) (.inr (lookup_relabel_local d))) (FU (DN c m (.inl (lookup_relabel_local e)) (.inr (lookup_relabel_local e))) Ll)),
  λv w σ ω H G Q t f r q=>by
   unfold A9 at q
   split at q
   ·rename_i a b
    cases t with
    | tup h l =>
     cases l with
     | cons ta l =>
      cases l with
      | cons tb l =>
       cases l
       exact⟨_,_,rfl,h,rfl,_,_,rfl,_,_,rfl,rfl,q _ H .refl ((f.set i ta).set j tb) r⟩
   ·exact q.elim⟩
 mono:=Mh
section
variable {X:Cx} {P:Hp->Prop} {e:Expr} {pos pos':Pos} {ga ge:GE} {gt:GT}
theorem M8{elt tg iter:Expr}{ifs:List Expr}{i:GG}(hc:X.calm=true)(B:Blk X Nc scope cl (By n js))(k:∀ x,foldedSetIterable iter X.env x=pure x)(hi:Im X tg iter gi)
  (a:TgC X Nc scope cl tg i) (f:∀ C fp s H,Fm (cxB X Nc scope cl C fp s H) ifs gt) (e:∀ C fp s H,Em (cxB X Nc scope cl C fp s H) elt ge):Em X (.ListComp elt [⟨tg,iter,ifs,0⟩] scope pos) (B3 gi n js i gt ge):=by
 have j:gt.M:=(f 0 [] X.s₀ X.H₀).m
 have h:ge.M:=(e 0 [] X.s₀ X.H₀).m
 refine⟨?_,Jd hi.m a.mono j h⟩
 obtain⟨l,b,hi⟩:=hi.p
 obtain⟨g,d,c⟩:=a.ex
 exact AQ (LX hc b B d (λC fp s H=>(f C fp s H).p) (λC fp s H=>(e C fp s H).p) k) (M5 hi c a.mono j h)
def Je(sc:Scope)(x:Str):Bool:=match sc.names.lookup x with | some .cell=>true | _=>false
theorem Zl{a:Scope}(h:Je a x=true):a.names.lookup x=some .cell:=by
 unfold Je at h
 split at h
 ·assumption
 ·cases h
theorem Zm(c:X.N.Nodup)(hi:X.N[i]?=some x)(d:Je X.env.scope x=true)(f:X.fn x=true)(b:swapsWith e (some (.Name x pos')) pos.line X.env=pure false)(a:Em X e ga):Sm X P (.Assign [.Name x pos'] e pos) (Aj i ga):=
 ⟨L8 c hi (.inr (Zl d)) a.m a.p b (.inl f),IC a.m⟩
end
section
variable {prog:Program} {w:World} {A:Around} {E:Value->Shared->Prop} {s:Shared}
theorem Zn{t b:Addr}{h:List Value}{Q:Value->Shared->Prop}(k:IsTup s.heap t #[])(p:IsTup s.heap b h.toArray)(h1:Q (.ref b) s):wpAny (model prog w) A (binaryOp .Add (.ref t) (.ref b)) Q E s:=by
 obtain⟨⟨cls,o,data,m⟩,i,hc,n,hd⟩:=id k
 obtain⟨⟨j,g,e,f⟩,a,c,l,d⟩:=id p
 simp only at hc hd c d
 subst hc hd c d
 exact concat_meets ⟨_,i,rfl⟩ ⟨_,a,rfl⟩ noFill_tuple_add seq_tuple_add PySem.F.slot_tuple_add PySem.F.entry_tuple_add (PySem.F.args_tuple_add_2 _ _) (tuple_addW0 t b #[] h.toArray n l o g m f rfl) ⟨i,a,h1⟩
end
def Jf(K:PySem.W.Frag):R2:=λx y H Q=>∃ a b ys,x=.ref a/\y=.ref b/\SqT K H a []/\SqT K H b ys/\Q (.ref b) H
theorem Zo:OpR X (binaryOp .Add) (Jf X.K):=by
 intro pins s σ H x y v u Q I d e h
 obtain⟨a,b,ys,rfl,rfl,g,i,q⟩:=h
 cases d
 cases e
 obtain⟨f,r1,p1,_⟩:=I.tuple g
 obtain⟨c,j,p2,_⟩:=I.tuple i
 cases r1
 exact Zn p1 p2 ⟨.ref b,H,I,rfl,q⟩
def AD:RW2:=λx y G Q=>match x,y with
 | .tup xs,.tup ys=>xs.length+ys.length<=sizeLine/\Q (.tup (xs++ys)) G
 | x,y=>Bi x y G Q
variable {G:Hw}{Q:Kw}
theorem M9{xs ys:List W}:AD (.tup xs) (.tup ys) G Q=(xs.length+ys.length<=sizeLine/\Q (.tup (xs++ys)) G):=rfl
theorem Na{x y:W}(a:¬((∃ xs,x=.tup xs)/\∃ ys,y=.tup ys)):AD x y G Q=Bi x y G Q:=by
 cases x <;> cases y <;> first | rfl | exact Qh ⟨⟨_,rfl⟩,⟨_,rfl⟩⟩ a
theorem Nb:RW2.M AD:=λx y G Q b h q=>by
 by_cases a:(∃ xs,x=.tup xs)/\∃ ys,y=.tup ys
 ·obtain⟨⟨xs,rfl⟩,⟨ys,rfl⟩⟩:=a
  exact⟨q.1,h _ _ q.2⟩
 ·rw[Na a]at q ⊢
  exact WR _ _ _ _ _ h q
theorem Zp:OpR X (binaryOp .Add) (λx y H Q=>((rI0 λi j=>.int (i+j)) x y H Q\/(∃ i j,x=.str i/\y=.str j/\i.length+j.length<=sizeLine/\Q (.str (i++j)) H)\/E8 x y H Q)\/Jf X.K x y H Q\/Ih X.K x y H Q):=OpR.or WS (OpR.or Zo U3)
theorem Zq(x y:W)(v u:V)(G:Hw)(H:Hp)(Q:VK)(k:Tr K H v x)(ty:Tr K H u y)(r:RelH K H G)(q:AD x y G (dn K H Q)):
  ((rI0 λi j=>.int (i+j)) v u H Q\/(∃ i j,v=.str i/\u=.str j/\i.length+j.length<=sizeLine/\Q (.str (i++j)) H)\/E8 v u H Q)\/Jf K v u H Q\/Ih K v u H Q:=by
 by_cases l:(∃ xs,x=.tup xs)/\∃ ys,y=.tup ys
 ·obtain⟨⟨xs,rfl⟩,⟨ys,rfl⟩⟩:=l
  rw[M9]at q
  cases k with
  | tup f c =>
   cases ty with
   | tup g d =>
    rename_i a vs b m
    cases c with
    | nil=>exact .inr (.inl ⟨a,b,m,rfl,rfl,f,g,by simpa using q.2 _ H .refl (.tup g d) r⟩)
    | cons t1 c =>
     refine .inr (.inr ⟨a,b,_,m,rfl,rfl,f,g,by simp,?_,λe=>?_,λe p h=>?_⟩)
     ·rw[(TrL.cons t1 c).length,d.length];exact q.1
     ·subst e
      cases d
      have:=q.2 (.ref a) H .refl (by simpa using Tr.tup f (.cons t1 c)) r
      exact this
     ·exact q.2 _ _ (Mono.new h _) (.tup (SqT.of BA) (((TrL.cons t1 c).append d).mono (Mono.new h _))) (r.mono0 h)
 ·refine .inl (WT x y v u G H Q k ty r ?_)
  rwa [Na l]at q
theorem Ea{a b:Expr}{ga gb:GE}(c:Em X a ga)(d:Em X b gb):Em X (.BinOp a .Add b pos) (Ad AD ga gb):=⟨EH Zp Nb c.m d.m Zq c.p d.p,Cf Nb c.m d.m⟩
end L3
namespace L3
open PySem PySem.Spec PyProof.Rows L2
variable {K:PySem.W.Frag} {H H' H2:Hp}
theorem TrP.lookup{α:Type}[BEq α]:∀{vs:List (α×V)}{b:List (α×W)}{f:α}{w:W},TrP K H vs b->b.lookup f=some w->∃ v,vs.lookup f=some v/\Tr K H v w
 | _,_,_,_,.nil,e=>by cases e
 | _,_,f,w,.cons (f:=g) r t,e=>by
  rw[List.lookup_cons]at e ⊢
  cases a:f==g with
  | true=>rw[a]at e;cases e;exact⟨_,rfl,r⟩
  | false=>rw[a]at e;exact t.lookup e
theorem TrP.length{α:Type}:∀{vs:List (α×V)}{a:List (α×W)},TrP K H vs a->vs.length=a.length
 | _,_,.nil=>rfl
 | _,_,.cons _ t=>Qf (·+1) t.length
section
variable {X:Cx} {P:Hp->Prop} {o e value:Expr} {es:List Expr} {f m:Str} {C:Addr} {pos pos' tpos apos p:Pos} {ga gv:GE} {gs:GA} {ex:Xw}
theorem Mono.ins{p C dx:Addr}{xs:List (Str×V)}(a:H p=some (.ins C dx xs))(o:HO):Mono K H (upd H p o):=Mono.was a _ (λ_ z=>by cases z) (λ_ _ z=>by cases z)
structure DfM(P:Program)(w:World)(K:PySem.W.Frag)(mg:Str->Option Value)(base:Heap)(C:Addr)(m:Str)(k n:Nat)(sp:Spw):Prop where
 ex:∃(f:Addr)(fd:FuncData)(ps:List Str),UM K C m f/\Binds K fd ps []/\ps.length=n/\FnOk P w K mg base (CXe P w) k f fd ps (CK K sp)
 mono:sp.M
theorem Zr{CX:CXT}{k:Nat}{f:Addr}{fd:FuncData}{ps:List Str}{sp:Sp}{Eσ:L2.St->XK}{pins:List (Addr×Obj)}{σ:L2.St}{s:Shared}{Q:VK}{us:List Value}{vs:List V}(F:FnOk X.prog X.w X.K X.mg X.base CX k f fd ps sp)(i:Room k X.A)(g:Binds X.K fd ps [])(c:EF CX X Eσ)
  (I:Inv X pins σ H s) (r:Vals vs us) (h:sp vs H Q (Eσ σ)):wpAny (model X.prog X.w) X.A (call (.ref f) us) (EP X pins σ Q) X.xe s:=by
 have hl:(us++([]:List Value)).length=ps.length:=by rw[Yx,<- r.length];exact F.len _ _ _ _ h
 have b:=g s us I.kIn hl
 rw[Yx]at b
 refine wpAny_call (codeAny_mono (F.run X.A X.stack s H ⟨us,[]⟩ us vs Q (Eσ σ) i I.env0 b r h) λr s' a=>?_)
 cases r with
 | error e=>exact c pins σ H s e s' I a
 | ok d =>
  cases d with
  | ret u=>exact I.after a
  | next=>exact Qd a
  | brk=>exact Qd a
  | cont=>exact Qd a
end
section
variable {X:Cx} {P:Hp->Prop} {o e value:Expr} {es:List Expr} {f m:Str} {C:Addr} {pos pos' tpos apos p:Pos} {ga gv:GE} {gs:GA} {ex:Xw}
end
section
variable {P:Program} {w:World} {mg:Str->Option Value} {base:Heap} {C:Addr}
variable {m:Str}{k n:Nat}{sp:Spw}
theorem DfM.le{j:Nat}(D:DfM P w K mg base C m j n sp)(h:j<=k):DfM P w K mg base C m k n sp :=
 ⟨let⟨f,fd,ps,h1,h2,h3,F⟩:=D.ex;⟨f,fd,ps,h1,h2,h3,F.mono h⟩,D.mono⟩
theorem Nd{qual:Str}{st:Stmt}{f:Addr}{fd:FuncData}{N ps:List Str}{g:GS}(F:Fun K m qual st f fd)(u:ps.length=n)(S:Ay N ps (Aq st))(len:∀ c G Q E,sp c G Q E->c.length=n)
  (i:∀{f:Addr}{cdv:Value}{A:Around}{outer:List Env}{s:Shared}{H:Hp}{E:XK},Room k (A.deeper (envOfC qual (Aq st) s.heap.objs.size f cdv))->Ssm (cxW P w K mg base N qual (Aq st) f cdv A outer s H E).nox (λB=>B=H) (Be st) g)
  (ok:∀ c G(Q:Kw)(E:Addr->Hw->Prop),Kw.C Q->sp c G Q E->g (Av Q) (A3 N c) G):FnOk P w K mg base (CXe P w) (k+1) f fd ps (CK K sp):=by
 obtain⟨I,J,kV,l,pm,y,cdv,ct,h,rfl,j,d⟩:=F.ex
 refine E6 j d S ((by rintro vs H Q E ⟨c,G,t,r,q⟩;rw[t.length,u];exact len c G _ _ q)) λA outer s H vs Q E v e=>?_
 obtain⟨c,G,t,r,q⟩:=e
 have D:=i (cdv:=cdv) (outer:=outer) (H:=H) (E:=E) v
 refine⟨_,(D.p H rfl).nox,A3 N c,G,E9 t,r,.refl,?_⟩
 exact D.m _ _ (Av (dn K H Q)) _ (λa b z σ H2 m x o=>z _ H2 m Tr.non o) (λa b z=>z) (λa b z=>z.elim) (λa b z=>z.elim) (ok c G _ _ Fa q)
end
def isStr(o:W)(_:Hw):Prop:=∃ x,o=.str x
end L3
namespace HT
open PySem PySem.Spec PyProof.Rows
section
variable {prog:Program} {w:World} {A:Around} {E:Value->Shared->Prop} {s:Shared}
theorem getItem_tuple_whole{t e:Addr}{items:Array Value}{vl vu:Value}{lo hi:Option Int}{Q:Value->Shared->Prop}(a:IsTup s.heap t items)(g:s.heap.IsSliceOf e vl vu .none)(pl:IsPart vl lo)(j:IsPart vu hi)
  (hw:sIx items.size 0 lo=0/\sIx items.size items.size hi=items.size) (h:Q (.ref t) s):wpAny (model prog w) A (getItem (.ref t) (.ref e)) Q E s:=by
 obtain⟨os,c,f,i⟩:=id g
 have d:s.TypeIs (.ref e) "slice":=⟨os,c,f⟩
 unfold getItem
 try with_reducible refine wpAny_holding ?_
 first | refine Qi (Qj ?_)| skip
 refine Qi (wpAny_sequenceKey a.typeIs (by decide) ?_)
 refine Qi (wpAny_callSpecial?_slot (name:=Str.ofString "__getitem__") a.typeIs PyProof.Rows.slot_tuple_getitem
  (wpAny_call_entry PyProof.Rows.slot_tuple_getitem a.typeIs entry_tuple_getitem ?_ (args_tuple_getitem _ _)))
 show wpAny _ _ (Builtin.Tuple.tupleItemsOf (.ref t) >>=_) _ _ s
 refine Qi (tupleItemsOf_ a ?_)
 refine Qi (wpAny_typeOf d ?_)
 rw[if_pos (by decide)]
 refine Qi (LD g pl j ?_)
 have b:(((sIx items.size 0 lo:Nat):Int)==0&&(1:Int)==1&&(sIx items.size items.size hi - sIx items.size 0 lo)==items.size)=true:=by
  rw[hw.1,hw.2]
  simp
 show wpAny _ _ (if(((sIx items.size 0 lo:Nat):Int)==0&&(1:Int)==1&&(sIx items.size items.size hi - sIx items.size 0 lo)==items.size)=true then _ else _) _ _ s
 rw[if_pos b]
 have k:=a.typeIs
 unfold Builtin.Tuple.tupleIsExact
 repeat (any_goals (first | assumption | wp_step))
 exact⟨_,rfl,Qj h⟩
end
end HT
namespace L3
open PySem PySem.Spec PyProof.Rows L2
variable {K:PySem.W.Frag} {H H' H2:Hp}
def Nf(K:PySem.W.Frag):V->Option Int->Option Int->Hp->VK->Prop:=λx lo hi H Q=>∃ a xs,x=.ref a/\SqT K H a xs/\(HT.sIx xs.length 0 lo=0/\HT.sIx xs.length xs.length hi=xs.length)/\Q (.ref a) H
variable {X:Cx}
theorem Zs:SlR X (Nf X.K):=by
 intro pins s σ H x v vl vu lo hi j Q I g e pl f h
 obtain⟨a,xs,rfl,i,hw,q⟩:=h
 cases g
 obtain⟨c,r,d,k⟩:=I.tuple i
 have b:c.toArray.size=xs.length:=by rw[Yn];exact r.length.symm
 refine⟨"tuple",_,PyProof.Rows.slot_tuple_getitem.lookup,d.typeIs,?_⟩
 exact HT.getItem_tuple_whole d e pl f (by rw[b];exact hw) ⟨.ref a,H,I,rfl,q⟩
def Ng:V->Option Int->Option Int->Hp->VK->Prop:=λx lo hi H Q=>∃ z,x=.str z/\z.length<=sizeLine/\Q (.str (Txt.slice z lo hi)) H
theorem Zt:SlR X Ng:=by
 intro pins s σ H x v vl vu lo hi o Q I m g pl f h
 obtain⟨z,rfl,e,q⟩:=h
 obtain⟨t,rfl⟩:=m
 obtain⟨os,b,d,a⟩:=id g
 refine⟨"str",_,F.slot_str_getitem.lookup,typeIs_str _ _ _,?_⟩
 have c:∀ t' k,EP X pins σ Q (.str (Txt.slice z lo hi) t') {s with toks:=k}:=λt' k=>⟨.str _,H,I.tok k,⟨t',rfl⟩,q⟩
 cases pl with
 | none =>
  cases f with
  | none=>exact wpAny_getItem_str_slice (l:=none) (u:=none) (st:=none) ⟨os,b,d,a⟩ rfl (post_val_or_str ⟨Yt (Txt.slice_le z _ _) e,c⟩)
  | int j u=>exact wpAny_getItem_str_slice (l:=none) (u:=some (j,u)) (st:=none) ⟨os,b,d,a⟩ rfl (post_val_or_str ⟨Yt (Txt.slice_le z _ _) e,c⟩)
 | int i u =>
  cases f with
  | none=>exact wpAny_getItem_str_slice (l:=some (i,u)) (u:=none) (st:=none) ⟨os,b,d,a⟩ rfl (post_val_or_str ⟨Yt (Txt.slice_le z _ _) e,c⟩)
  | int j n=>exact wpAny_getItem_str_slice (l:=some (i,u)) (u:=some (j,n)) (st:=none) ⟨os,b,d,a⟩ rfl (post_val_or_str ⟨Yt (Txt.slice_le z _ _) e,c⟩)
def slA(w:W)(lo hi:Option Int)(G:Hw)(Q:Kw):Prop:=match w with
 | .tup xs=>Q (.tup (Bw xs lo hi)) G
 | .str z=>z.length<=sizeLine/\Q (.str (Txt.slice z lo hi)) G
 | w=>slW w lo hi G Q
variable {w:W}{lo hi:Option Int}{G:Hw}
theorem Nh{Q c:Kw}(h:∀ w G',Q w G'->c w G')(q:slA w lo hi G Q):slA w lo hi G c:=by
 cases w with
 | tup xs=>exact h _ _ q
 | str z=>exact⟨q.1,h _ _ q.2⟩
 | non=>exact Qd q
 | bl b=>exact Qd q
 | int i=>exact Qd q
 | rol xs=>exact Gc (w:=.rol xs) (lo:=lo) (hi:=hi) (G:=G) h q
 | ref a=>exact Gc (w:=.ref a) (lo:=lo) (hi:=hi) (G:=G) h q
theorem Zu{v:V}{Q:VK}(t:Tr K H v w)(r:RelH K H G)(q:slA w lo hi G (dn K H Q)):((Ig K v lo hi H Q\/Io K v lo hi H Q)\/Nf K v lo hi H Q)\/Ng v lo hi H Q:=by
 cases t with
 | tup h l =>
  rename_i a vs c
  by_cases hw:HT.sIx c.length 0 lo=0/\HT.sIx c.length c.length hi=c.length
  ·refine .inl (.inr ⟨a,vs,rfl,h,by rw[l.length];exact hw,?_⟩)
   refine q _ H .refl ?_ r
   have e:Bw c lo hi=c:=by unfold Bw;rw[hw.1,hw.2];simp
   rw[e]
   exact .tup h l
  ·exact .inl (.inl (Gd (.tup h l) r ⟨hw,q⟩))
 | str z=>exact .inr ⟨z,rfl,q.1,q.2 _ H .refl (.str _) r⟩
 | non=>exact Qd q
 | bl b=>exact Qd q
 | int i=>exact Qd q
 | rol h l=>exact .inl (.inl (Gd (.rol h l) r q))
 | ref a=>exact .inl (.inl (Gd (.ref a) r q))
section
variable {X:Cx} {a b e:Expr} {ga gb:GE} {pos:Pos}
def Ck(ga:GE)(gl gh:GO):GE:=λω G Q=>ga ω G λw G1=>gl ω G1 λlo G2=>gh ω G2 λhi G3=>slA w lo hi G3 Q
theorem Zv{lo hi:Option Expr}{j gh:GO}{p2:Pos}(f:Em X e ga)(hl:Om X lo j)(d:Om X hi gh):Em X (.Subscript e (.Slice lo hi none p2) pos) (Ck ga j gh):=
 ⟨AQ (LI (SlR.or (SlR.or (SlR.or LK LO) Zs) Zt) f.p hl.p d.p) λσ H Q⟨ω,G,b,r,q⟩=>⟨ω,G,b,r,f.m _ _ _ _ (λw G1 z v H1 c t r1=>⟨ω,G1,b.mono c,r1,hl.m _ _ _ _ (λl G2 g H2 i s=>
   ⟨ω,G2,(b.mono c).mono i,s,d.m _ _ _ _ (λh n a x k o=>Zu ((t.mono i).mono k) o (Nh (λw y z=>B5 ((c.trans i).trans k) z) a)) g⟩) z⟩) q⟩,
  λω G Q A h q=>f.m _ _ _ _ (λw G1 z=>hl.m _ _ _ _ (λl G2 g=>d.m _ _ _ _ (λu n a=>Nh h a) g) z) q⟩
end
theorem StrsAre.len:∀{vs:List Value}{ys:List Str},StrsAre vs ys->vs.length=ys.length
 | _,_,.nil=>rfl
 | _,_,.cons _ _ r=>Qf (·+1) (StrsAre.len r)
section
variable {prog:Program} {w:World} {A:Around} {E:Value->Shared->Prop} {s:Shared}
end
def BO:RW2:=λx y G Q=>match x,y with
 | .int i,.int j=>CMul i j/\Q (.int (i*j)) G
 | .str x,.int n=>MulOk x n/\Q (.str (Txt.mul x n)) G
 | .ref a,.int k=>(match G a with
  | some (.lst xs)=>-(2 ^ 63)<=k/\k < 2 ^ 63/\xs.length*k.toNat<=sizeLine/\∀ p,G p=none->Q (.ref p) (put G p (.lst (List.replicate k.toNat xs).flatten))
  | _=>False)
 | _,_=>False
theorem Ni:RW2.M BO:=λx y G Q c h q=>by
 cases x <;> cases y <;> first | exact q | exact⟨q.1,h _ _ q.2⟩| skip
 rename_i a k
 unfold BO at q ⊢
 dsimp only at q ⊢
 cases e:G a with
 | none=>rw[e]at q;exact q
 | some o =>
  rw[e]at q
  cases o <;> first | exact q | exact⟨q.1,q.2.1,q.2.2.1,λp b=>h _ _ (q.2.2.2 p b)⟩
def Nj:R2:=λx y H Q=>∃ z n,x=.str z/\y=.int n/\MulOk z n/\Q (.str (Txt.mul z n)) H
theorem Zw:OpR X (binaryOp .Mult) Nj:=by
 intro pins s σ H x y v u Q I b a h
 obtain⟨z,n,rfl,rfl,ok,q⟩:=h
 obtain⟨t,rfl⟩:=b
 obtain⟨c,rfl⟩:=a
 exact SB.mul ok λt' k=>⟨.str _,H,I.tok k,⟨t',rfl⟩,q⟩
theorem TrL.rep{vs:List V}{a:List W}(t:TrL K H vs a):∀ k:Nat,TrL K H (List.replicate k vs).flatten (List.replicate k a).flatten
 | 0=>.nil
 | k+1=>by
  rw[List.replicate_succ,List.replicate_succ,List.flatten_cons,List.flatten_cons]
  exact t.append (t.rep k)
theorem Zx(x y:W)(v u:V)(G:Hw)(H:Hp)(Q:VK)(f:Tr K H v x)(ty:Tr K H u y)(r:RelH K H G)(q:BO x y G (dn K H Q)):(rI CMul λi j=>.int (i*j)) v u H Q\/Nj v u H Q\/LS v u H Q:=by
 cases f with
 | int i=>cases ty <;> first | exact q.elim | exact .inl ⟨_,_,rfl,rfl,q.1,q.2 _ H .refl (.int _) r⟩
 | str z=>cases ty <;> first | exact q.elim | exact .inr (.inl ⟨_,_,rfl,rfl,q.1,q.2 _ H .refl (.str _) r⟩)
 | ref a =>
  cases ty <;> try exact q.elim
  unfold BO at q
  dsimp only at q
  cases b:G a with
  | none=>rw[b]at q;exact q.elim
  | some d =>
   rw[b]at q
   cases d <;> try exact q.elim
   obtain⟨vs,e,t1⟩:=r a _ b
   exact .inr (.inr ⟨a,_,vs,rfl,rfl,e,q.1,q.2.1,by rw[t1.length];exact q.2.2.1,λp c=>q.2.2.2 p (r.no c) _ _ (Mono.new c _) (.ref p) (r.new c (t1.rep _))⟩)
 | _=>exact q.elim
variable {ga:GE}{pos:Pos}
theorem Nk{a b:Expr}{gb:GE}(c:Em X a ga)(d:Em X b gb):Em X (.BinOp a .Mult b pos) (Ad BO ga gb):=⟨EH (OpR.or Uo (OpR.or Zw Vn)) Ni c.m d.m Zx c.p d.p,Cf Ni c.m d.m⟩
def Zy(K:PySem.W.Frag)(tl:TE):TI:=λσ H R=>tl σ H λx H1=>(∃ a,x=.ref a/\(∃ xs,SqL K H1 a xs)/\R (Itl K a) H1)\/(∃ a,x=.ref a/\(∃ xs,SqT K H1 a xs)/\R (Itt K a) H1)
variable {l:Expr}
theorem Zz{tg:Expr}{tl:TE}(hl:PE X l tl):PI X tg l (Zy X.K tl):=by
 intro pins s σ H R I h
 refine thn (hl pins s σ H _ I h) λv c g=>?_
 obtain⟨x,H1,d,r1,q1⟩:=g
 rcases q1 with⟨a,e,⟨xs,i⟩,q⟩|⟨a,e,⟨xs,i⟩,q⟩
 ·subst e
  cases r1
  obtain⟨f,k,p,m⟩:=d.list i
  refine wpAny_pyIter_list p.isList ?_
  refine⟨c.heap.objs.size,[c.heap.objs.size],_,_,H1,rfl,d.kept (t':=c.toks) λb o e=>Qk _ e,Ln a _,⟨_,Qm _ rfl,rfl,rfl⟩,λb j=>?_,q⟩
  have e:b=c.heap.objs.size:=by simpa using j
  subst e
  walk_at "pg"
 ·subst e
  cases r1
  obtain⟨f,k,p,m⟩:=d.tuple i
  refine wpAny_pyIter_tuple (show c.heap.IsTuple a f.toArray from p) ?_
  refine⟨c.heap.objs.size,[c.heap.objs.size],_,_,H1,rfl,d.kept (t':=c.toks) λb o e=>Qk _ e,Lo a _,⟨_,Qm _ rfl,rfl,rfl⟩,λb j=>?_,q⟩
  have e:b=c.heap.objs.size:=by simpa using j
  subst e
  walk_at "pg"
def EO(ga:GE):GI:=λω G R=>ga ω G λw G1=>match w with
 | .tup ws=>R ws yes G1
 | .rol ws=>R ws yes G1
 | .ref a=>match G1 a with | some (.lst ws)=>R ws (holds a ws) G1 | _=>False
 | _=>False
theorem ZA(m:ga.M):GI.M (EO ga):=λω G R c h q=>m _ _ _ _ (λw G1 z=>by
 cases w with
 | tup b=>exact h _ _ _ z
 | rol b=>exact h _ _ _ z
 | ref a =>
  dsimp only at z ⊢
  cases e:G1 a with
  | none=>rw[e]at z;exact z
  | some o =>
   rw[e]at z
   cases o <;> first | exact h _ _ _ z | exact z
 | _=>exact z) q
theorem ZC{tg:Expr}(hl:Em X l ga):Im X tg l (EO ga):=by
 refine⟨⟨_,Zz hl.p,λσ H ω G R i c r q k=>⟨ω,G,c,r,hl.m _ _ _ _ (λw G1 z v H1 m t r1=>?_) q⟩⟩,ZA hl.m⟩
 cases t with
 | tup h l=>exact .inr ⟨_,rfl,⟨_,h⟩,k _ _ _ H1 _ z m r1 trivial (Me h l)⟩
 | rol h l=>exact .inl ⟨_,rfl,⟨_,h.sq⟩,k _ _ _ H1 _ z m r1 trivial (F4 λH2 G2 b _ _=>⟨_,(b.rol _ _ h).sq,l.mono b⟩)⟩
 | ref a =>
  dsimp only at z
  cases e:G1 a with
  | none=>rw[e]at z;exact z.elim
  | some o =>
   rw[e]at z
   cases o with
   | lst g =>
    obtain⟨vs,d,t1⟩:=r1 a _ e
    exact .inl ⟨a,rfl,⟨vs,SqL.of d⟩,k _ _ _ H1 _ z m r1 e (F4 λH2 G2 b f g2=>let⟨vs,e2,t2⟩:=f a _ g2;⟨vs,SqL.of e2,t2⟩)⟩
   | _=>exact z.elim
 | _=>exact z.elim
variable {x:Str}
theorem Nl{P:Hp->Prop}{elt tg iter:Expr}{ifs:List Expr}{scope:Scope}{pos' a:Pos}{i:Nat}{Nc:List Str}{n:Nat}{js:List Nat}{cl:List (Str×Addr)}{gi:GI}{y:GG}{gt:GT}{ge:GE}(I:X.N.Nodup)(c:X.N[i]?=some x)(J:EI X.env.scope x=true)
  (f:swapsWith (.ListComp elt [⟨tg,iter,ifs,0⟩] scope pos) (some (.Name x pos')) a.line X.env=pure true) (hc:X.calm=true) (B:Blk X Nc scope cl (By n js)) (F:∀ x,foldedSetIterable iter X.env x=pure x) (hi:Im X tg iter gi)
  (b:TgC X Nc scope cl tg y) (E:∀ C fp s H,Fm (cxB X Nc scope cl C fp s H) ifs gt) (A:∀ C fp s H,Em (cxB X Nc scope cl C fp s H) elt ge):
  Sm X P (.Assign [.Name x pos'] (.ListComp elt [⟨tg,iter,ifs,0⟩] scope pos) a) (Aj i (B3 gi n js y gt ge)):=by
 have j:gt.M:=(E 0 [] X.s₀ X.H₀).m
 have h:ge.M:=(A 0 [] X.s₀ X.H₀).m
 refine⟨λQ O=>?_,IC (Jd hi.m b.mono j h)⟩
 obtain⟨L,k,l⟩:=hi.p
 obtain⟨g,e,o⟩:=b.ex
 refine Cs (Vy (tt:=upT X.K gt) (te:=up X.K ge) I c (EJ J) f hc k B e (λC fp s H=>(E C fp s H).p) (λC fp s H=>(A C fp s H).p) F) λD σ H d=>?_
 obtain⟨ω,G,u,r,mb,q⟩:=d
 refine M5 l o b.mono j h σ H _ ⟨ω,G,u,r,Jd hi.m b.mono j h _ _ _ _ (λw G1 z v H1 m t r1=>?_) q⟩
 exact z _ H1 (mb.trans m) ((u.mono m).set i t) r1
section
variable {X:Cx} {CX:CXT} {k:Nat} {f:Addr} {fd:FuncData} {ps:List Str} {sp:Sp} {Eσ:St->XK} {x:Str} {p pos:Pos} {e:Expr} {es:List Expr} {t:TA}
variable {i:Nat}
theorem ZD{E:Value->Shared->Prop}{pins:List (Addr×Obj)}{s:Shared}{σ:St}{v:V}{Q:Value->Shared->Prop}(I:Inv X pins σ H s)(g:X.N[i]?=some x)(h:Vis X.env.scope x)(e:σ[i]?=some (some v))(hd:(x==("__debug__":Str))=false)(f:(x==("__classdict__":Str))=false)
  (b:∀ u,RelV v u->Q u s):wpAny (model X.prog X.w) X.A (eval (.Name x pos) X.env) Q E s:=by
 obtain⟨m,k,hl⟩:=I.loc
 obtain⟨u,r,l⟩:=hl i x v g e h
 rcases l with⟨d,j⟩|⟨d,c,hc,a⟩
 ·exact wpAny_Name (wpAny_loadName_local I.ok.kind d k j (b u r)) hd
 ·rcases d with d | d
  ·exact wpAny_Name (wpAny_loadName_cell I.ok.kind d hc a (b u r)) hd
  ·exact wpAny_Name (wpAny_loadName_free I.ok.kind d hc a (b u r) f) hd
theorem ZE(F:FnOk X.prog X.w X.K X.mg X.base CX k f fd ps sp)(J:Room k X.A)(v:X.N[i]?=some x)(y:Vis X.env.scope x)(D:PySem.W.keepIn X.K (.ref f)=true)(G:Binds X.K fd ps [])(z:EF CX X Eσ)
  (E:PA X (e::es) t) (d:(x==("__debug__":Str))=false) (j:(x==("__classdict__":Str))=false) (o:starEach (e::es) X.env=(false,eval e X.env)::starEach es X.env) (g:(backTo pos (starEach es X.env)).any (·.1)=false):
  PE X (.Call (.Name x p) (e::es) [] pos) (λσ H Q=>σ[i]?=some (some (.ref f))/\LZ sp [] Eσ t σ H Q):=by
 intro pins s σ H Q I ⟨hi,h⟩
 refine wpAny_Call_Name_kw (ZD I v y hi d j λu n=>?_)
 cases n
 refine PySem.W.callWith_K (h₀:=X.base) I.ok.mod.kin D (thn (E pos pins s σ H _ I h) λc l⟨vs,H1,b,r,q⟩=>⟨b.kIn,?_⟩) o g
 have m:Vals (vs++[]) (c++[]):=r.append .nil
 have hl:(c++[]).length=ps.length:=by rw[<- m.length];exact F.len _ _ _ _ q
 refine wpAny_call (codeAny_mono (F.run X.A X.stack l H1 ⟨c,[]⟩ (c++[]) (vs++[]) Q (Eσ σ) J b.env0 (G l c b.kIn hl) m q) λr s' a=>?_)
 cases r with
 | error e=>exact z pins σ H1 l e s' b a
 | ok B =>
  cases B with
  | ret u=>exact b.after a
  | next=>exact Qd a
  | brk=>exact Qd a
  | cont=>exact Qd a
end
def fAt(mg:Str->Option Value)(x:Str):Addr:=match mg x with | some (.ref f)=>f | _=>0
theorem Nm{mg:Str->Option Value}{f:Addr}(h:mg x=some (.ref f)):fAt mg x=f:=by unfold fAt;rw[h]
section
variable {X:Cx} {e:Expr} {es:List Expr} {pos p:Pos} {ga gb:GE} {gs:GA} {ex:Xw}
def CQ(i:Nat)(f:Addr)(sp:Spw)(ex:Xw)(gs:GA):GE:=λω G Q=>ω[i]?=some (some (.ref f))/\gs ω G λws G1=>sp ws G1 Q (ex ω)
variable {i:Nat}{sp:Spw}
theorem ZF{f:Addr}(m:sp.M)(a:gs.M):GE.M (CQ i f sp ex gs):=λω G Q b h q=>⟨q.1,a _ _ _ _ (λc G1 q1=>m _ _ _ _ _ _ h (λ_ _ z=>z) q1) q.2⟩
variable {y:Str}{k n:Nat}
theorem ZG(D:Df X.prog X.w X.K X.mg X.base y k n sp)(P:Room k X.A)(I:X.N[i]?=some x)(R:Vis X.env.scope x)(B:CJ X ex)(J:gs.M)(m:PAw X (e::es) gs)
  (g:(x==("__debug__":Str))=false) (d:(x==("__classdict__":Str))=false) (E:starEach (e::es) X.env=(false,eval e X.env)::starEach es X.env) (c:(backTo pos (starEach es X.env)).any (·.1)=false):
  PEw X (.Call (.Name x p) (e::es) [] pos) (CQ i (fAt X.mg y) sp ex gs):=by
 obtain⟨f,fd,ps,t,O,u,_,F⟩:=D.ex
 rw[Nm t]
 refine AQ (ZE F P I R O u B m g d E c) λσ H Q b=>?_
 obtain⟨ω,G,a,r,q0,q⟩:=b
 obtain⟨v,ev,tv⟩:=a.get i _ q0
 cases tv
 refine⟨ev,ω,G,a,r,J _ _ _ _ (λs G1 q1 vs H1 l h r1=>?_) q⟩
 refine⟨s,G1,by rw[Yx];exact h,r1,D.mono _ _ _ _ _ _ (λw j z=>B5 l z) (λC j z H2 o L=>?_) q1⟩
 exact⟨C,ω,j,rfl,(a.mono l).mono o,L,z⟩
theorem Nn(D:Df X.prog X.w X.K X.mg X.base y k n sp)(j:Room k X.A)(hi:place X.N x=some i)(g:seen X.env.scope x=true)(h:CJ X ex)(a:(x==("__debug__":Str))=false)(c:(x==("__classdict__":Str))=false)(f:starEach (e::es) X.env=(false,eval e X.env)::starEach es X.env)(b:(backTo pos (starEach es X.env)).any (·.1)=false)
  (d:Am X (e::es) gs):Em X (.Call (.Name x p) (e::es) [] pos) (CQ i (fAt X.mg y) sp ex gs):=⟨ZG D j (Mk hi) (Ml g) h d.m d.p a c f b,ZF D.mono d.m⟩
theorem Gi(D:Df X.prog X.w X.K X.mg X.base x k n sp)(b:Gl X x)(hd:(x==("__debug__":Str))=false):Em X (.Name x pos) (gC (.ref (fAt X.mg x))):=by
 obtain⟨f,fd,ps,a,c,d,_,F⟩:=D.ex
 rw[Nm a]
 exact⟨L5 (v:=.ref f) b a rfl (λH=>.ref f) hd,EG⟩
end
end L3
namespace L3
open PySem PySem.Spec PyProof.Rows L2
theorem ZH{t:SetTable}{n:Nat}(h1:t.place.size=n)(h2:t.dummies=#[])(a:n<=t.mask):t.fits n=true:=by
 unfold SetTable.fits SetTable.fill
 rw[h2,h1]
 simp
 exact a
section
variable {prog:Program} {w:World} {A:Around} {E:Value->Shared->Prop} {s:Shared}
end
section
variable {prog:Program} {w:World} {A:Around} {E:Value->Shared->Prop} {s:Shared}
end
section
variable {prog:Program} {w:World} {A:Around} {E:Value->Shared->Prop} {s:Shared}
structure Bare(led:Bool)(n:Nat)(t:SetTable):Prop where
 pl:t.place=#[]
 dm:t.dummies=#[]
 cv:Tb.cover (t.mask+1)=true
 rm:n<=t.mask
 ld:t.led=led
theorem Bare.fits{led:Bool}{n:Nat}{t:SetTable}(B:Bare led n t):t.fits 0=true:=ZH (by rw[B.pl];rfl) B.dm (YU _)
end
section
variable {prog:Program} {w:World} {A:Around} {E:Value->Shared->Prop} {s:Shared}
variable {a:Addr}{ks:List Str}
theorem SS.ty(S:SS w s.heap a ks):s.TypeIs (.ref a) "set":=by
 obtain⟨o,es,d,t,c,b,_⟩:=S
 exact⟨o,c,b.1⟩
theorem SS.new(S:SS w s.heap a ks)(o:Obj):SS w (s.heap.push o) a ks:=S.kept λ_ e=>Qk _ e
theorem SS.lt(S:SS w s.heap a ks):a < s.heap.objs.size:=by
 obtain⟨o,es,c,t,b,_⟩:=S
 exact Ql b
theorem SS.same{h h':Heap}{b:Addr}(S:SS w h a ks)(d:a≠b)(c:Heap.SameBut b h h'):SS w h' a ks:=S.kept λo e=>by rw[c.2 a d];exact e
end
section
variable {prog:Program} {w:World} {A:Around} {E:Value->Shared->Prop} {s:Shared}
abbrev Itr(first:Value)(i:Nat)(a:Addr)(n ep:Nat):Obj:={cls:=.type "set_iterator",data:=.fields #[first,.int i 0,.ref a,.int n 0,.int ep 0]}
inductive Md(w:World)(a T:Addr)(es:Array (Int×Value))(ep:Nat)(t:SetTable)(l:List (Int×Value))(h:Heap):Value->Nat->Prop where
 | drawn {ps:List Nat} {oT:Obj} {c i:Nat}:h.get? T=some oT->oT.data=.seq (ps.map λp:Nat=>rawInt p).toArray c->ps.length=l.length->(∀(j p:Nat),ps[j]?=some p->∃ e,es[p]?=some e/\l[j]?=some e)->Md w a T es ep t l h (.ref T) i
 | text {k i:Nat}:bt w=true->l=(pickOrder (w.params.setOrder a ep) es).toList->Md w a T es ep t l h (.int k 0) i
 | few {k i:Nat}:bt w=false->t.led=true->es.size<=1->l=es.toList->(i=0->k=0)->(∀ j:Nat,i=1->t.place[0]?=some j->k=j+1)->Md w a T es ep t l h (.int k 0) i
theorem Md.at{a T:Addr}{es:Array (Int×Value)}{d:Nat}{t:SetTable}{l:List (Int×Value)}{h h':Heap}{v:Value}{i:Nat}(M:Md w a T es d t l h v i)(k:∀ o,h.get? T=some o->h'.get? T=some o):Md w a T es d t l h' v i:=by
 cases M with
 | drawn h1 h2 c b=>exact .drawn (k _ h1) h2 c b
 | text h1 h2=>exact .text h1 h2
 | few h1 h2 c b e f=>exact .few h1 h2 c b e f
end
section
variable {prog:Program} {w:World} {A:Around} {E:Value->Shared->Prop} {s:Shared}
end
section
variable {prog:Program} {w:World} {A:Around} {E:Value->Shared->Prop} {s:Shared}
end
theorem ZI{α:Type}{es:Array α}:∀{ys:List Nat},(∀ p∈ys,p < es.size)->(ys.filterMap (es[·]?)).length=ys.length/\∀(j p:Nat),ys[j]?=some p->∃ e,es[p]?=some e/\(ys.filterMap (es[·]?))[j]?=some e
 | [],_=>⟨rfl,λj p h=>by simp at h⟩
 | y::ys,h=>by
  have b:es[y]?=some (es[y]'(h y Ye)):=Array.getElem?_eq_getElem _
  obtain⟨h1,h2⟩:=ZI (ys:=ys) λp c=>h p (Yd _ c)
  rw[List.filterMap_cons,b]
  refine⟨by simp[h1],λj p a=>?_⟩
  cases j with
  | zero =>
   simp only[Yb,Option.some.injEq]at a
   subst a
   exact⟨_,b,rfl⟩
  | succ j =>
   simp only[Yc]at a ⊢
   exact h2 j p a
section
variable {prog:Program} {w:World} {A:Around} {E:Value->Shared->Prop} {s:Shared}
end
section
variable {prog:Program} {w:World} {A:Around} {E:Value->Shared->Prop} {s:Shared}
end
end L3
namespace L3
open PySem PySem.Spec PyProof.Rows L2
variable {K:PySem.W.Frag} {H H' H2:Hp}
section
variable {X:Cx} {e eb:Expr} {p1 p2 p3 q1 q2 q3 qb:Pos} {ta tb:TE}
end
end L3
namespace L3
open PySem PySem.Spec PyProof.Rows L2
def Dp{α:Type}(kvs:List (Key×α))(x:Str)(d:α):α:=((kvs.find? λy=>decide (y.1=Sum.inr x)).map (·.2)).getD d
theorem Jg{α:Type}{k:Key}{v d:α}{a:List (Key×α)}{x:Str}:Dp ((k,v)::a) x d=if k=Sum.inr x then v else Dp a x d:=by
 unfold Dp
 rw[List.find?_cons]
 by_cases h:k=Sum.inr x
 ·simp[h]
 ·simp[h]
theorem Np{x:Str}{d:V}{r:Value}(c:RelV d r):∀{a:List (Key×V)}{vs:List (Key×Value)},KV a vs->RelV (Dp a x d) ((valueAt vs (Sum.inr x)).getD r)
 | _,_,.nil=>c
 |(k,v)::a,(g,i)::vs,.cons ⟨e,f⟩ t=>by
  have b:=Np (x:=x) c t
  cases(show k=g from e)
  rw[Jg]
  unfold valueAt at b ⊢
  rw[List.find?_cons]
  by_cases h:k=Sum.inr x
  ·simp[h];exact f
  ·simp[h];exact b
theorem Nq{K:PySem.W.Frag}{H:Hp}{x:Str}{d:V}{w:W}(b:Tr K H d w):∀{vs:List (Key×V)}{a:List (Key×W)},TrP K H vs a->Tr K H (Dp vs x d) (Dp a x w)
 | _,_,.nil=>b
 |(k,v)::vs,(_,u)::a,.cons tv t=>by
  rw[Jg,Jg]
  split
  ·exact tv
  ·exact Nq b t
def ZJ(o:W)(ws:List W)(G:Hw)(Q:Kw):Prop:=∃ p kvs x d,o=.ref p/\ws=[.str x,d]/\G p=some (.dct kvs)/\Q (Dp kvs x d) G
def Jh(o:W)(G:Hw):Prop:=∃ p kvs,o=.ref p/\G p=some (.dct kvs)
variable {X:Cx}
theorem ZK:MtR X "dict.get" (λv vs H Q=>∃ p a x d,v=.ref p/\vs=[.str x,d]/\H p=some (.dK a)/\Q (Dp a x d) H):=by
 intro pins s σ H x vs v j Q I f e h
 obtain⟨p,a,x,d,rfl,rfl,g,q⟩:=h
 cases f
 cases e with
 | cons r1 t =>
  cases t with
  | cons i t =>
   cases t
   obtain⟨t,rfl⟩:=r1
   obtain⟨z,hd,vs,b,c⟩:a.length<=sizeLine/\(p==sysModules)=false/\∃ vs,KV a vs/\s.heap.DictOf (BH X.prog X.w) p vs:=I.hok p _ g
   refine call_meetsIn PySem.F.slot_dict_get c.typeIs PySem.F.entry_dict_get (PySem.F.args_dict_get_3 _ _ _) (meets_dict_get_default (BH X.prog X.w) p (k:=Sum.inr x) (by simp[BH,EA,Value.isStrOf]) hd _) ⟨_,c.mapOf,?_⟩
   exact⟨_,H,I.tok _,Np i b,q⟩
theorem Nr:Mth X "dict" "get" "dict.get" Jh ZJ where
 pa:=PySem.F.plainAttrs_dict
 slot:=PySem.F.slot_dict_get
 ty:=PySem.F.type_dict_get
 ex:=⟨_,ZK,λo i v vs G H Q tv c r q=>by
  obtain⟨p,a,x,d,rfl,rfl,e,q⟩:=q
  cases tv
  cases c with
  | cons t1 t =>
   cases t with
   | cons g t =>
    cases t
    cases t1
    obtain⟨f,b,l⟩:=r p _ e
    exact⟨p,f,x,_,rfl,rfl,b,q _ _ .refl (Nq g l) r⟩⟩
 pr:=λo v G H t r h=>by
  obtain⟨p,a,rfl,e⟩:=h
  cases t
  obtain⟨f,b,l⟩:=r p _ e
  exact .inr (.inr (.inl ⟨rfl,.inl ⟨f,b⟩⟩))
 m:=(by rintro o i G Q k h ⟨p,a,x,d,h1,h2,j,q⟩;exact⟨p,a,x,d,h1,h2,j,h _ _ q⟩)
section
variable {X:Cx} {e:Expr} {p1 p3 q1 q3:Pos} {ta:TE}
end
end L3
namespace L3
open PySem PySem.Spec PyProof.Rows L2
variable {K:PySem.W.Frag} {H H' H2:Hp}
section
variable {prog:Program} {w:World} {A:Around} {E:Value->Shared->Prop} {s:Shared}
variable {it l:Addr}{i:Nat}{xs:Array Value}{x:Value}{Q:Value->Shared->Prop}
theorem ZL(u:s.heap.IsTupleIter it l i)(v:s.heap.IsTuple l xs)(f:xs[i]?=some x)(e:∀ h',h'.IsTupleIter it l (i+1)->Heap.SameBut it s.heap h'->Q x {s with heap:=h'}):
  wpAny (model prog w) A (Builtin.SmallTypes.nextOf (.ref it)) Q E s:=by
 obtain⟨j,b,c,a⟩:=id u
 obtain⟨g,el,_,h,d⟩:=v
 unfold Builtin.SmallTypes.nextOf
 refine Qi (wpAny_callSpecial?_slot (name:=Str.ofString "__next__") u.typeIs PySem.F.slot_tuple_iterator_next (wpAny_call_entry PySem.F.slot_tuple_iterator_next u.typeIs PySem.F.entry_tuple_iterator_next ?_ (PySem.F.args_tuple_iterator_next_1 _)))
 refine Qi (m:=field (.ref it) 0) (wpAny_field b a (x:=.ref l) rfl ?_)
 show wpAny (model prog w) _ (if(Value.ref l==Value.none)=true then _ else _) _ E s
 rw[if_neg (show ¬ ((Value.ref l==Value.none)=true)from YT)];refine Qi (m:=field (.ref it) 1) (wpAny_field b a (x:=.int i 0) rfl ?_)
 refine Qi (m:=seqItems? (.ref l)) (wpAny_seqItems el d ?_)
 simp only[Int.toNat_natCast];rw[f]
 refine Qi (wpAny_setField b a (by simp) (Qj ⟨x,rfl,Qj (e _ ⟨_,Heap.get?_update_self _ b (Obj.isFreed_of_fields (Obj.data_mapFields a _)),(Obj.cls_mapFields ..).trans c,?_⟩ (Heap.SameBut.update ..))⟩))
 rw[Obj.data_mapFields a];simp[rawInt]
theorem ZM(g:A.handled=none)(u:s.heap.IsTupleIter it l i)(v:s.heap.IsTuple l xs)(f:xs[i]?=none)
  (h:∀ h' e,Heap.ExtBut it s.heap h'->(∃ o,h'.get? e=some o/\o.cls=.type "StopIteration")->E (.ref e) {s with heap:=h'}):wpAny (model prog w) A (Builtin.SmallTypes.nextOf (.ref it)) Q E s:=by
 obtain⟨p,c,j,b⟩:=id u
 obtain⟨k,el,_,n,d⟩:=v
 unfold Builtin.SmallTypes.nextOf
 refine Qi (wpAny_callSpecial?_slot (name:=Str.ofString "__next__") u.typeIs PySem.F.slot_tuple_iterator_next (wpAny_call_entry PySem.F.slot_tuple_iterator_next u.typeIs PySem.F.entry_tuple_iterator_next ?_ (PySem.F.args_tuple_iterator_next_1 _)))
 refine Qi (m:=field (.ref it) 0) (wpAny_field c b (x:=.ref l) rfl ?_)
 show wpAny (model prog w) _ (if(Value.ref l==Value.none)=true then _ else _) _ E s
 rw[if_neg (show ¬ ((Value.ref l==Value.none)=true)from YT)];refine Qi (m:=field (.ref it) 1) (wpAny_field c b (x:=.int i 0) rfl ?_)
 refine Qi (m:=seqItems? (.ref l)) (wpAny_seqItems el d ?_)
 simp only[Int.toNat_natCast];rw[f]
 refine Qi (wpAny_rule (Qi (wpAny_setField c b (by simp) ?_)));refine Qi (m:=newExc (.type "StopIteration") []) ?_
 simp only[newExc,newTuple]
 refine Qi (wpAny_newObj_type ?_ (by size_fits));refine Qi (m:=firstArgMember _ _) (wpAny_of_eq (a:=Value.none) (by first | rfl |(simp only[firstArgMember];rfl)) (wpAny_newObj_type ?_ (by size_fits)))
 simp only[raiseNew]
 refine Qi (wpAny_handled ?_);rw[show A.in1.handled=none from g]
 refine Qi (Qj (wpAny_throw ?_))
 exact h _ _ (((Heap.SameBut.update ..).extBut.push _).push _) ⟨_,Qm _ rfl,rfl⟩
variable {h h':Heap}{a:Addr}
theorem tat{t:Addr}(x:h.IsTupleIter a t i)(k:∀ o,h.get? a=some o->h'.get? a=some o):h'.IsTupleIter a t i:=by
 obtain⟨o,e,r⟩:=x
 exact⟨o,k o e,r⟩
def itN(t:Bool):String:=bif t then "tuple_iterator" else "list_iterator"
def ItX(t:Bool)(h:Heap)(a l:Addr)(i:Nat):Prop:=∃ o,h.get? a=some o/\o.cls=.type (itN t)/\o.data=.fields #[.ref l,.int i 0]
def SqH(t:Bool)(h:Heap)(l:Addr)(xs:Array Value):Prop:=match t with | true=>h.IsTuple l xs | false=>h.IsList l xs
variable {t:Bool}
theorem ItX.at(x:ItX t h a l i)(k:∀ o,h.get? a=some o->h'.get? a=some o):ItX t h' a l i:=by
 obtain⟨o,e,r⟩:=x
 exact⟨o,k o e,r⟩
variable {b:Addr}
theorem ItX.extBut(x:ItX t h a l i)(k:Heap.ExtBut b h h')(n:a≠b):ItX t h' a l i:=x.at λo e=>k a o n e
theorem SqH.at(x:SqH t h l xs)(k:∀ o,h.get? l=some o->h'.get? l=some o):SqH t h' l xs:=by
 cases t
 ·obtain⟨o,e,r⟩:=x
  exact⟨o,k o e,r⟩
 ·obtain⟨o,e,r⟩:=x
  exact⟨o,k o e,r⟩
theorem SqH.extBut(x:SqH t h l xs)(k:Heap.ExtBut b h h')(n:l≠b):SqH t h' l xs:=x.at λo e=>k l o n e
theorem SqH.lt(x:SqH t h l xs):l < h.objs.size:=by
 cases t
 ·obtain⟨o,e,r⟩:=x
  exact Ql e
 ·obtain⟨o,e,r⟩:=x
  exact Ql e
theorem Ji(u:ItX t s.heap it l i)(v:SqH t s.heap l xs)(a:xs[i]?=some x)(b:∀ h',ItX t h' it l (i+1)->Heap.SameBut it s.heap h'->Q x {s with heap:=h'}):
  wpAny (model prog w) A (Builtin.SmallTypes.nextOf (.ref it)) Q E s:=by
 cases t
 ·exact wpAny_nextOf_list_item u v a b
 ·exact ZL u v a b
theorem Nt(b:A.handled=none)(u:ItX t s.heap it l i)(v:SqH t s.heap l xs)(c:xs[i]?=none)
  (a:∀ h' e,Heap.ExtBut it s.heap h'->(∃ o,h'.get? e=some o/\o.cls=.type "StopIteration")->E (.ref e) {s with heap:=h'}):wpAny (model prog w) A (Builtin.SmallTypes.nextOf (.ref it)) Q E s:=by
 cases t
 ·exact wpAny_nextOf_list_end b u v c a
 ·exact ZM b u v c a
theorem Nu(v:SqH t s.heap l xs)(a:Q (.ref s.heap.objs.size) {s with heap:=s.heap.push {cls:=.type (itN t),data:=.fields #[.ref l,.int 0 0]}}):wpAny (model prog w) A (pyIter (.ref l)) Q E s:=by
 cases t
 ·exact wpAny_pyIter_list v a
 ·exact wpAny_pyIter_tuple v a
variable {t2:Bool}{z B I:Addr}{k1 k2:Nat}{ys:Array Value}
theorem ZN{t1:Bool}{TI TO G K:Addr}{y a b:Value}(D:ZipApart z TI TO B G K I)(J:IsZip s.heap z TI TO .none)(Z:IsPair s.heap TI (.ref B) (.ref G))(Y:IsPair s.heap TO a b)
  (u1:ItX t1 s.heap B K k1) (u2:ItX t2 s.heap G I k2) (v1:SqH t1 s.heap K xs) (v2:SqH t2 s.heap I ys) (hx:xs[k1]?=some x) (hy:ys[k2]?=some y)
  (hQ:∀ h',IsZip h' z TI TO (rawInt s.heap.objs.size)->IsPair h' TO x y->ItX t1 h' B K (k1+1)->ItX t2 h' G I (k2+1)->IsPair h' s.heap.objs.size x y->(∀ c o,c≠z->c≠TO->c≠B->c≠G->s.heap.get? c=some o->h'.get? c=some o)->Q (.ref s.heap.objs.size) {s with heap:=h'}):
  wpAny (model prog w) A (Builtin.«zip.__next__» ⟨[.ref z],[]⟩) (λU s'=>∃ v,U=.done (.ret v)/\Q v s') E s:=by
 refine Qi (m:=field (.ref z) 2) (wpAny_field J rfl (x:=.bool false) rfl ?_)
 refine Qi (m:=field (.ref z) 3) (wpAny_field J rfl (x:=.ref TI) rfl (Qi (m:=seqItems? (.ref TI)) (wpAny_seqItems Z rfl ?_)))
 refine Qi (m:=Builtin.SmallTypes.ownedTupleIsFree (.ref z)) ?_
 unfold Builtin.SmallTypes.ownedTupleIsFree
 refine Qi (m:=field (.ref z) 0) (wpAny_field J rfl (x:=.none) rfl (Qj ?_));simp only[if_true]
 refine Qi (wpAny_rule (Qi (wpAny_field J rfl (x:=.ref TO) rfl (Qi (wpAny_setField_rec J (by simp) λR l f=>?_)))))
 replace l:IsZip R z TI TO .ellipsis:=l
 refine Qi ?_
 simp only[List.zipIdx_cons,List.zipIdx_nil,List.forIn_cons,List.forIn_nil]
 refine Qi (Qi (wpAny_onRaise ?_));refine Qi (m:=Builtin.SmallTypes.nextOf (.ref B)) ?_
 refine Ji (u1.extBut f.extBut D.i1z) (v1.extBut f.extBut D.l1z) hx λO w1 h=>Qj ?_
 have hTO₂:IsPair O TO a b:=h.extBut _ _ D.TOi1 (f.extBut _ _ D.TOz Y)
 refine Qi (wpAny_seqItems hTO₂ rfl (Qi (wpAny_updateSeq_pair hTO₂ λN hTO₃ g=>?_)))
 replace hTO₃:IsPair N TO x b:=hTO₃
 refine Qi (wpAny_letGo (Qj ?_));refine Qi (Qi (wpAny_onRaise ?_));refine Qi (m:=Builtin.SmallTypes.nextOf (.ref G)) ?_
 refine Ji (((u2.extBut f.extBut D.i2z).extBut h.extBut D.i12.symm).extBut g.extBut D.TOi2.symm) (((v2.extBut f.extBut D.l2z).extBut h.extBut D.l2i1).extBut g.extBut D.l2TO) hy λS w2 j=>Qj ?_
 have hTO₄:IsPair S TO x b:=j.extBut _ _ D.TOi2 hTO₃
 refine Qi (wpAny_seqItems hTO₄ rfl (Qi (wpAny_updateSeq_pair hTO₄ λd hTO₅ i=>?_)))
 replace hTO₅:IsPair d TO x y:=hTO₅
 refine Qi (wpAny_letGo (Qj (Qj ?_)));refine Qi (wpAny_seqItems hTO₅ rfl (Qi (wpAny_newTuple ?_ (by show(2:Nat)<=sizeLine;decide))))
 have T:d.objs.size=s.heap.objs.size:=by rw[i.1,j.1,g.1,h.1,f.1]
 have r:IsZip d z TI TO .ellipsis:=i.extBut _ _ D.TOz.symm (j.extBut _ _ D.i2z.symm (g.extBut _ _ D.TOz.symm (h.extBut _ _ D.i1z.symm l)))
 have X:ItX t1 d B K (k1+1):=((w1.extBut g.extBut D.TOi1.symm).extBut j.extBut D.i12).extBut i.extBut D.TOi1.symm
 have w2':ItX t2 d G I (k2+1):=w2.extBut i.extBut D.TOi2.symm
 refine Qi (m:=Builtin.SmallTypes.ownedTupleHandOut (.ref z) (.ref d.objs.size)) ?_
 unfold Builtin.SmallTypes.ownedTupleHandOut
 have F:IsZip (d.push {cls:=.type "tuple",data:=.seq #[x,y]}) z TI TO .ellipsis:=Qk _ r
 refine Qi (wpAny_setField_rec F (by simp) λL n t=>?_)
 replace n:IsZip L z TI TO (rawInt d.objs.size):=n
 refine wpAny_setField_rec n (by simp) λp k q=>?_
 replace k:IsZip p z TI TO (rawInt d.objs.size):=k
 have P:d.objs.size≠z:=Nat.ne_of_gt (Ql r)
 have u:∀ c o,c≠z->d.get? c=some o->p.get? c=some o:=λc o H e=>q.extBut _ _ H (t.extBut _ _ H (Qk _ e))
 have hT₈:IsPair p d.objs.size x y:=q.extBut _ _ P (t.extBut _ _ P (Qm _ rfl))
 rw[T]at k hT₈
 refine Qj ⟨_,rfl,(?_:Q (.ref d.objs.size) _)⟩
 rw[T]
 exact hQ p k (u _ _ D.TOz hTO₅) (X.at λo e=>u _ o D.i1z e) (w2'.at λo e=>u _ o D.i2z e) hT₈ λc o H c2 c3 c4 e=>u c o H (i.extBut _ _ c2 (j.extBut _ _ c4 (g.extBut _ _ c2 (h.extBut _ _ c3 (f.extBut _ _ H e)))))
theorem ZO{t1:Bool}{TI TO S N:Addr}{a b:Value}{Q:Fin->Shared->Prop}(Z:A.handled=none)(D:ZipApart z TI TO B I S N)(y:IsZip s.heap z TI TO .none)(T:IsPair s.heap TI (.ref B) (.ref I))(P:IsPair s.heap TO a b)
  (u1:ItX t1 s.heap B S k1) (u2:ItX t2 s.heap I N k2) (Y:SqH t1 s.heap S xs) (v2:SqH t2 s.heap N ys) (J:xs[k1]?=none\/ys[k2]?=none)
  (X:∀ h' e,(∀ c o,c≠z->c≠TO->c≠B->c≠I->s.heap.get? c=some o->h'.get? c=some o)->(∃ o,h'.get? e=some o/\o.cls=.type "StopIteration")->E (.ref e) {s with heap:=h'}):wpAny (model prog w) A (Builtin.«zip.__next__» ⟨[.ref z],[]⟩) Q E s:=by
 refine Qi (m:=field (.ref z) 2) (wpAny_field y rfl (x:=.bool false) rfl ?_)
 refine Qi (m:=field (.ref z) 3) (wpAny_field y rfl (x:=.ref TI) rfl (Qi (m:=seqItems? (.ref TI)) (wpAny_seqItems T rfl ?_)))
 refine Qi (m:=Builtin.SmallTypes.ownedTupleIsFree (.ref z)) ?_
 unfold Builtin.SmallTypes.ownedTupleIsFree
 refine Qi (m:=field (.ref z) 0) (wpAny_field y rfl (x:=.none) rfl (Qj ?_));simp only[if_true]
 refine Qi (wpAny_rule (Qi (wpAny_field y rfl (x:=.ref TO) rfl (Qi (wpAny_setField_rec y (by simp) λF h d=>?_)))))
 replace h:IsZip F z TI TO .ellipsis:=h
 refine Qi ?_
 simp only[List.zipIdx_cons,List.zipIdx_nil,List.forIn_cons,List.forIn_nil]
 refine Qi (Qi (wpAny_onRaise ?_));refine Qi (m:=Builtin.SmallTypes.nextOf (.ref B)) ?_
 cases U:xs[k1]? with
 | none =>
  refine Nt Z (u1.extBut d.extBut D.i1z) (Y.extBut d.extBut D.l1z) U λl e f K=>?_
  obtain⟨O,i,j⟩:=K
  have r:IsZip l z TI TO .ellipsis:=f _ _ D.i1z.symm h
  have u:e≠z:=λq=>by subst q;rw[r]at i;cases i;simp at j
  exact wpAny_setField_rec r (by simp) λt _ g=>X t e (λc o v _ L _ q=>g.extBut _ _ v (f _ _ L (d.extBut _ _ v q))) ⟨O,g.extBut _ _ u i,j⟩
 | some x =>
  have hy:ys[k2]?=none:=by
   rcases J with q | q
   ·rw[U]at q;cases q
   ·exact q
  refine Ji (u1.extBut d.extBut D.i1z) (Y.extBut d.extBut D.l1z) U λl w1 f=>Qj ?_
  have hTO₂:IsPair l TO a b:=f.extBut _ _ D.TOi1 (d.extBut _ _ D.TOz P)
  refine Qi (wpAny_seqItems hTO₂ rfl (Qi (wpAny_updateSeq_pair hTO₂ λt hTO₃ g=>?_)))
  refine Qi (wpAny_letGo (Qj ?_));refine Qi (Qi (wpAny_onRaise ?_));refine Qi (m:=Builtin.SmallTypes.nextOf (.ref I)) ?_
  refine Nt Z (((u2.extBut d.extBut D.i2z).extBut f.extBut D.i12.symm).extBut g.extBut D.TOi2.symm) (((v2.extBut d.extBut D.l2z).extBut f.extBut D.l2i1).extBut g.extBut D.l2TO) hy λG e p R=>?_
  obtain⟨O,i,j⟩:=R
  have k:IsZip G z TI TO .ellipsis:=p _ _ D.i2z.symm (g.extBut _ _ D.TOz.symm (f.extBut _ _ D.i1z.symm h))
  have u:e≠z:=λq=>by subst q;rw[k]at i;cases i;simp at j
  exact wpAny_setField_rec k (by simp) λH _ n=>X H e (λc o v c2 L c4 q=>n.extBut _ _ v (p _ _ c4 (g.extBut _ _ c2 (f.extBut _ _ L (d.extBut _ _ v q))))) ⟨O,n.extBut _ _ u i,j⟩
abbrev zX1(t1:Bool)(h:Heap)(l1:Addr):Heap:=h.push {cls:=.type (itN t1),data:=.fields #[.ref l1,.int 0 0]}
abbrev zX2(t1 t2:Bool)(h:Heap)(l1 l2:Addr):Heap:=(zX1 t1 h l1).push {cls:=.type (itN t2),data:=.fields #[.ref l2,.int 0 0]}
abbrev zX3(t1 t2:Bool)(h:Heap)(l1 l2:Addr):Heap:=(zX2 t1 t2 h l1 l2).push {cls:=.type "tuple",data:=.seq #[.ref h.objs.size,.ref (zX1 t1 h l1).objs.size]}
abbrev zX4(t1 t2:Bool)(h:Heap)(l1 l2:Addr):Heap:=(zX3 t1 t2 h l1 l2).push {cls:=.type "tuple",data:=.seq #[.none,.none]}
abbrev zX5(t1 t2:Bool)(h:Heap)(l1 l2:Addr):Heap:=(zX4 t1 t2 h l1 l2).push {cls:=.type "zip",data:=.fields #[.none,.bool false,.bool false,.ref (zX2 t1 t2 h l1 l2).objs.size,.ref (zX3 t1 t2 h l1 l2).objs.size]}
theorem ZP(t1 t2:Bool)(a b:Addr)(xs ys:Array Value):Meets (Builtin.«zip.__new__» ⟨[.type "zip",.ref a,.ref b],[]⟩) (λ_ R s=>SqH t1 s.heap a xs/\SqH t2 s.heap b ys/\R (.ok (.ret (.ref (zX4 t1 t2 s.heap a b).objs.size))) {s with heap:=zX5 t1 t2 s.heap a b}):=
 .of_wp λprog w A R s h=>by
  obtain⟨j,g,d,tk,os⟩:=s
  obtain⟨k,l,h⟩:=h
  have i:=sub_zip
  have f:SqH t1 (Shared.heap ⟨j,g,d,tk,os⟩) a xs:=k
  have c:SqH t2 (Shared.heap ⟨j.push {cls:=.type (itN t1),data:=.fields #[.ref a,.int 0 0]},g,d,tk,os⟩) b ys:=l.at λ_ e=>Qk _ e
  wp_walk using Nu f,Nu c
  exact⟨_,rfl,h⟩
theorem ZQ{t1:Bool}(j:SqH t1 s.heap a xs)(l:SqH t2 s.heap b ys)
  (h:∀ h',IsZip h' (s.heap.objs.size+4) (s.heap.objs.size+2) (s.heap.objs.size+3) .none->IsPair h' (s.heap.objs.size+2) (.ref s.heap.objs.size) (.ref (s.heap.objs.size+1))->IsPair h' (s.heap.objs.size+3) .none .none->ItX t1 h' s.heap.objs.size a 0->ItX t2 h' (s.heap.objs.size+1) b 0->h'.objs.size=s.heap.objs.size+5->(∀ c o,s.heap.get? c=some o->h'.get? c=some o)->Q (.ref (s.heap.objs.size+4)) {s with heap:=h'}):
  wpAny (model prog w) A (call (.type "zip") [.ref a,.ref b]) Q E s:=by
 refine callType_new PySem.F.called_zip (by decide) (PySem.F.typeCall_zip_2 _ _) (PySem.F.newCall_zip_2 _ _) (λobj=>PySem.F.args_object_init_3 obj _ _) PySem.F.entry_zip_new (ZP t1 t2 a b xs ys) ⟨j,l,?_⟩
 have e:(zX1 t1 s.heap a).objs.size=s.heap.objs.size+1:=Qn ..
 have i:(zX2 t1 t2 s.heap a b).objs.size=s.heap.objs.size+2:=by rw[Qn,e]
 have d:(zX3 t1 t2 s.heap a b).objs.size=s.heap.objs.size+3:=by rw[Qn,i]
 have f:(zX4 t1 t2 s.heap a b).objs.size=s.heap.objs.size+4:=by rw[Qn,d]
 have k:(zX5 t1 t2 s.heap a b).objs.size=s.heap.objs.size+5:=by rw[Qn,f]
 have g:(zX5 t1 t2 s.heap a b).get? (zX4 t1 t2 s.heap a b).objs.size=some _:=Qm _ rfl
 have g4:(zX5 t1 t2 s.heap a b).get? (zX3 t1 t2 s.heap a b).objs.size=some _:=Qk _ (Qm _ rfl)
 have g3:(zX5 t1 t2 s.heap a b).get? (zX2 t1 t2 s.heap a b).objs.size=some _:=Qk _ (Qk _ (Qm _ rfl))
 have g2:(zX5 t1 t2 s.heap a b).get? (zX1 t1 s.heap a).objs.size=some _:=Qk _ (Qk _ (Qk _ (Qm _ rfl)))
 have g1:(zX5 t1 t2 s.heap a b).get? s.heap.objs.size=some _:=Qk _ (Qk _ (Qk _ (Qk _ (Qm _ rfl))))
 rw[i,d,f]at g
 rw[e,i]at g3
 rw[d]at g4
 rw[e]at g2
 rw[f]
 exact⟨⟨_,g,rfl⟩,h _ g g3 g4 ⟨_,g1,rfl,rfl⟩ ⟨_,g2,rfl,rfl⟩ k λc o x=>Qk _ (Qk _ (Qk _ (Qk _ (Qk _ x))))⟩
end
def SqX(t:Bool)(K:PySem.W.Frag)(H:Hp)(a:Addr)(xs:List V):Prop:=match t with | true=>SqT K H a xs | false=>SqL K H a xs
variable {t:Bool}{X:Cx}{pins:List (Addr×Obj)}{σ:St}{s:Shared}{xs:List V}
theorem EQ{a:Addr}(I:Inv X pins σ H s)(h:SqX t X.K H a xs):∃ b:List Value,Vals xs b/\SqH t s.heap a b.toArray:=by
 cases t
 ·obtain⟨b,r,p,_⟩:=I.list h
  exact⟨b,r,p.isList⟩
 ·obtain⟨b,r,p,_⟩:=I.tuple h
  exact⟨b,r,p⟩
theorem Nv{a:Addr}{ys:List V}(I:Inv X pins σ H s)(h:SqX t X.K H a xs)(h':SqX t X.K H a ys):xs=ys:=by
 cases t
 ·exact I.list_inj h h'
 ·exact I.tuple_inj h h'
def Nw(t1 t2:Bool)(K:PySem.W.Frag)(l1 l2:Addr):It :=
 ⟨λi H=>∃ xs ys,SqX t1 K H l1 xs/\SqX t2 K H l2 ys/\i < xs.length/\i < ys.length,
  λi H v H'=>∃ T x y,H T=none/\v=.ref T/\H'=upd H T (.tup [x,y])/\∀ xs ys,SqX t1 K H l1 xs->SqX t2 K H l2 ys->xs[i]?=some x/\ys[i]?=some y,
  λi H=>∃ xs ys,SqX t1 K H l1 xs/\SqX t2 K H l2 ys/\i=min xs.length ys.length⟩
variable {t2:Bool}{k:Nat}{tpos:Pos}
theorem ZR{t1:Bool}{P:Program}{w:World}{L:List Expr}{z TI TO r t l1 Y:Addr}(D:ZipApart z TI TO r t l1 Y):
  Da P w K (.Tuple L k tpos) (Nw t1 t2 K l1 Y) [z,TI,TO,r,t] z (λi h=>IsZip h z TI TO .none/\IsPair h TI (.ref r) (.ref t)/\(∃ a b,IsPair h TO a b)/\ItX t1 h r l1 i/\ItX t2 h t Y i):=
 have obj:∀{i h},(IsZip h z TI TO .none/\IsPair h TI (.ref r) (.ref t)/\(∃ a b,IsPair h TO a b)/\ItX t1 h r l1 i/\ItX t2 h t Y i)->∀ b∈[z,TI,TO,r,t],∃ o,h.get? b=some o/\∀ v,o.data≠.cell v:=λst b d=>by
  obtain⟨n,f,⟨a,c,g⟩,⟨o1,e1,_,d1⟩,⟨o2,e2,_,d2⟩⟩:=st
  simp only[Yo,YX,or_false]at d
  rcases d with rfl | rfl | rfl | rfl | rfl
  ·exact⟨_,n,λv z=>by cases z⟩
  ·exact⟨_,f,λv z=>by cases z⟩
  ·exact⟨_,g,λv z=>by cases z⟩
  ·exact⟨o1,e1,λv z=>by rw[d1]at z;cases z⟩
  ·exact⟨o2,e2,λv z=>by rw[d2]at z;cases z⟩
 {mem:=by simp
  obj:=λi h st=>obj st
  keep:=λi h h' st S=>by
   obtain⟨n,f,⟨a,c,g⟩,h1,h2⟩:=st
   exact⟨S z (by simp) _ n,S TI (by simp) _ f,⟨a,c,S TO (by simp) _ g⟩,h1.at λo e=>S r (by simp) o e,h2.at λo e=>S t (by simp) o e⟩
  item:=by
   intro X hP hw hK hc i pins s σ H E I hf st hg
   have ob:=obj st
   subst hP hw hK
   obtain⟨xs,ys,hx,Z,hix,hiy⟩:=hg
   obtain⟨B,r1,G⟩:=EQ I hx
   obtain⟨u,r2,J⟩:=EQ I Z
   obtain⟨n,f,⟨a,b,g⟩,h1,h2⟩:=st
   have R:s.TypeIs (.ref z) "zip":=⟨_,n,rfl⟩
   have gx:xs[i]?=some xs[i]:=Yp hix
   have gy:ys[i]?=some ys[i]:=Yp hiy
   obtain⟨u1,q1,rv1⟩:=r1.get gx
   obtain⟨u2,q2,rv2⟩:=r2.get gy
   unfold pyNext
   refine Qi (wpAny_attempt (wpAny_callSpecial?_slot (name:=Str.ofString "__next__") R PySem.F.slot_zip_next (wpAny_call_entry PySem.F.slot_zip_next R PySem.F.entry_zip_next (ZN D n f g h1 h2 G J (x:=u1) (y:=u2) (by simpa using q1) (by simpa using q2) λh' a1 a2 a3 a4 a5 hk=>Qj ?_) (PySem.F.args_zip_next_1 _))))
   refine⟨_,rfl,wpAny_letOwnedTupleGo_zip a1 λh2 hz' j=>?_⟩
   have lt:∀{b:Addr}{o:Obj},s.heap.get? b=some o->b≠s.heap.objs.size:=λe=>Ys (Ql e)
   have l:∀ b,b∉[z,TI,TO,r,t]->b≠z/\b≠TO/\b≠r/\b≠t:=λb d=>⟨λe=>d (by simp[e]),λe=>d (by simp[e]),λe=>d (by simp[e]),λe=>d (by simp[e])⟩
   have I1:Inv X pins σ H {s with heap:=h2}:=Inv.turneds (t':=s.toks) I hf λb o d e=>j.extBut _ _ (l b d).1 (hk b o (l b d).1 (l b d).2.1 (l b d).2.2.1 (l b d).2.2.2 e)
   have O:H s.heap.objs.size=none:=I.hok.fresh (Yr _)
   have hTz:s.heap.objs.size≠z:=YV (lt n)
   have I2:Inv X pins σ (upd H s.heap.objs.size (.tup [xs[i],ys[i]])) {s with heap:=h2}:=by
    refine I1.track O ?_ (λx c e=>?_) (λp hp=>?_) ?_ ⟨by show 2<=sizeLine;decide,[u1,u2],.cons rv1 (.cons rv2 .nil),⟨_,j.extBut _ _ hTz a5,rfl,rfl,_,rfl⟩⟩
    ·obtain⟨m,⟨o,es,ep,N,_⟩,_⟩:=I.loc
     exact YV (lt N)
    ·obtain⟨v,o,N,_⟩:=I.cell x c e
     exact lt N
    ·exact lt (I.pin p hp).1
    ·cases e:X.s₀.heap.get? s.heap.objs.size with
     | none=>rfl
     | some o=>exact Qh (Yu (Ql e) I.sz) (YJ _)
   refine⟨.ref s.heap.objs.size,_,I2,rfl,⟨_,_,_,O,rfl,rfl,λxs' ys' hx' hy'=>?_⟩,⟨hz',j.extBut _ _ D.TIz (hk _ _ D.TIz D.TITO D.TIi1 D.TIi2 f),⟨_,_,j.extBut _ _ D.TOz a2⟩,a3.extBut j.extBut D.i1z,a4.extBut j.extBut D.i2z⟩,λb d=>?_⟩
   ·rw[Nv I hx' hx,Nv I hy' Z];exact⟨gx,gy⟩
   ·obtain⟨o,e,_⟩:=ob b d
    rw[AN (lt e)];exact(hf b d).1
  done:=by
   intro X hP hw hK hc i pins s σ H E I hf st hg
   subst hP hw hK
   obtain⟨xs,ys,hx,Z,hi⟩:=hg
   obtain⟨B,r1,G⟩:=EQ I hx
   obtain⟨u,r2,J⟩:=EQ I Z
   have n1:=r1.length
   have n2:=r2.length
   obtain⟨n,f,⟨a,b,g⟩,h1,h2⟩:=st
   have R:s.TypeIs (.ref z) "zip":=⟨_,n,rfl⟩
   have U:B.toArray[i]?=none\/u.toArray[i]?=none:=by
    rcases Nat.le_total xs.length ys.length with q | q
    ·exact .inl (Array.getElem?_eq_none (by simp only[Yn];lia))
    ·exact .inr (Array.getElem?_eq_none (by simp only[Yn];lia))
   unfold pyNext
   refine Qi (wpAny_attempt (wpAny_callSpecial?_slot (name:=Str.ofString "__next__") R PySem.F.slot_zip_next (wpAny_call_entry PySem.F.slot_zip_next R PySem.F.entry_zip_next (ZO (I.ok.hd hc) D n f g h1 h2 G J U λh' e hk he=>?_) (PySem.F.args_zip_next_1 _))))
   obtain⟨o,N,hc⟩:=he
   exact Qi (wpAny_isInstance (T:="StopIteration") (b:=true) ⟨o,N,hc⟩ isSubtype_stop (Qj ⟨rfl,Inv.turneds (t':=s.toks) I hf λb o d e=>hk b o (λe=>d (by simp[e])) (λe=>d (by simp[e])) (λe=>d (by simp[e])) (λe=>d (by simp[e])) e⟩))
  self:=λA i s Q E st h=>wpAny_pyIter_zip st.1 h}
def ZS(t1 t2:Bool)(K:PySem.W.Frag)(ta:TA):TI:=λσ H R=>ta σ H λvs H1=>∃ a b xs ys,vs=[.ref a,.ref b]/\SqX t1 K H1 a xs/\SqX t2 K H1 b ys/\R (Nw t1 t2 K a b) H1
variable {a b:Expr}{p pos:Pos}
theorem ZT{t1:Bool}{ta:TA}{f:List Expr}(F:Gl X "zip")(E:X.mg "zip"=none)(B:PA X [a,b] ta)(D:starEach [a,b] X.env=[(false,eval a X.env),(false,eval b X.env)])(j:starEach [b] X.env=[(false,eval b X.env)]):
  PI X (.Tuple f k tpos) (.Call (.Name "zip" p) [a,b] [] pos) (ZS t1 t2 X.K ta):=by
 intro pins s σ H R I h
 refine Call_ (DM I F E boot_zip (Qb (thn (B pos pins s σ H _ I h) λQ w l=>?_) (by rw[D,j]) (by rw[j];rfl)))
 obtain⟨vs,H1,d,r1,q1⟩:=l
 obtain⟨S,P,xs,ys,e,J,A,q⟩:=q1
 subst e
 obtain⟨u,O,rfl,L,r⟩:=Ic r1
 cases L
 cases r
 obtain⟨z,_,g⟩:=EQ d J
 obtain⟨y,_,i⟩:=EQ d A
 refine ZQ g i λh' v n m o t N G=>wpAny_pyIter_zip v ?_
 refine⟨_,_,_,_,H1,rfl,d.kept (t':=w.toks) G,ZR (zipApart_new g.lt i.lt),⟨v,n,⟨_,_,m⟩,o,t⟩,λb x=>?_,q⟩
 have c:w.heap.objs.size<=b:=by
  simp only[Yo,YX,or_false]at x
  rcases x with rfl | rfl | rfl | rfl | rfl
  ·exact Nat.le_add_right _ 4
  ·exact Nat.le_add_right _ 2
  ·exact Nat.le_add_right _ 3
  ·exact Yr _
  ·exact Nat.le_add_right _ 1
 exact d.fpOk c (d.hok.fresh c)
variable {v:V}
theorem ZU{xs:List W}(t:Tr K H v (.tup xs)):∃ a vs,v=.ref a/\SqT K H a vs/\TrL K H vs xs:=by
 cases t with
 | tup h l=>exact⟨_,_,rfl,h,l⟩
def rdX(t:Bool)(G:Hw)(x:W):Option (List W):=match t,x with | true,.tup xs=>some xs | true,_=>none | false,x=>rdL G x
theorem Gj{G:Hw}{x:W}{xs:List W}(r:RelH K H G)(b:Tr K H v x)(e:rdX t G x=some xs):∃ a vs,v=.ref a/\SqX t K H a vs/\TrL K H vs xs:=by
 cases t
 ·exact Za r b e
 ·unfold rdX at e
  split at e
  ·cases e;exact ZU b
  ·cases e
  ·rename_i h;cases h
def Nx(t1 t2:Bool)(gs:GA):GI:=λω G R=>gs ω G λws G1=>∃ x y xs ys,ws=[x,y]/\rdX t1 G1 x=some xs/\rdX t2 G1 y=some ys/\R (Br xs ys) (λG=>rdX t1 G x=some xs/\rdX t2 G y=some ys) G1
variable {gs:GA}
theorem ZV{t1:Bool}(m:gs.M):GI.M (Nx t1 t2 gs):=λω G R c h q=>m _ _ _ _ ((by rintro d G1 ⟨x,y,xs,ys,e,b,a,z⟩;exact⟨x,y,xs,ys,e,b,a,h _ _ _ z⟩)) q
theorem Ny(t1 t2:Bool){s:List Expr}(hm:X.mg "zip"=none)(hg:Gl X "zip")(hs:starEach [a,b] X.env=[(false,eval a X.env),(false,eval b X.env)])(I:starEach [b] X.env=[(false,eval b X.env)])(A:Am X [a,b] gs):
  Im X (.Tuple s k tpos) (.Call (.Name "zip" p) [a,b] [] pos) (Nx t1 t2 gs):=by
 refine⟨⟨_,ZT (t1:=t1) (t2:=t2) hg hm A.p hs I,λσ H ω G R R0 U r q kk=>⟨ω,G,U,r,A.m _ _ _ _ (λws G1 z vs H1 m t r1=>?_) q⟩⟩,ZV A.m⟩
 obtain⟨x,y,xs,ys,rfl,L,S,z⟩:=z
 cases t with
 | cons Q t =>
  cases t with
  | cons ty t =>
   cases t
   obtain⟨N,u,rfl,w,l1⟩:=Gj r1 Q L
   obtain⟨P,F,rfl,D,l2⟩:=Gj r1 ty S
   have two:∀{e h},Mono X.K H1 e->RelH X.K e h->(rdX t1 h x=some xs/\rdX t2 h y=some ys)->∃ d c,SqX t1 X.K e N d/\TrL X.K e d xs/\SqX t2 X.K e P c/\TrL X.K e c ys:=λ{e h}g f g3=>by
    obtain⟨b1,d,e3,o,l⟩:=Gj f (Q.mono g) g3.1
    obtain⟨b2,c,e4,j,n⟩:=Gj f (ty.mono g) g3.2
    cases e3;cases e4
    exact⟨d,c,o,l,j,n⟩
   refine⟨N,P,u,F,rfl,w,D,kk _ _ _ H1 _ z m r1 ⟨L,S⟩ ⟨λi e h g f g3 hi=>?_,λi e h v H4 g f g3 Z hi=>?_,λe h g f g3=>?_⟩⟩
   ·obtain⟨d,c,o,l,j,n⟩:=two g f g3
    rw[IZ]at hi
    exact⟨d,c,o,j,by rw[l.length];lia,by rw[n.length];lia⟩
   ·obtain⟨d,c,o,l,j,n⟩:=two g f g3
    obtain⟨T,v1,Y,O,rfl,rfl,hv⟩:=Z
    obtain⟨g1,g2⟩:=hv _ _ o j
    obtain⟨w1,q1,B⟩:=l.get' g1
    obtain⟨w2,q2,E⟩:=n.get' g2
    have J:Mono X.K e (upd e T (.tup [v1,Y])):=Mono.new O _
    exact⟨J,f.mono0 O,_,MS _ _ i q1 q2,.tup (SqT.of BA) (.cons (B.mono J) (.cons (E.mono J) .nil))⟩
   ·obtain⟨d,c,o,l,j,n⟩:=two g f g3
    exact⟨d,c,o,j,by rw[IZ,l.length,n.length]⟩
theorem Nz{tg e:Expr}{gi a:GI}(h:Im X tg e gi)(m:GI.M a)(i:∀ ω G R,a ω G R->gi ω G R):Im X tg e a:=by
 obtain⟨⟨d,p,f⟩,_⟩:=h
 exact⟨⟨d,p,λσ H ω G R c b r q g=>f σ H ω G R c b r (i _ _ _ q) g⟩,m⟩
def ER(gs:GA):GI:=λω G R=>gs ω G λws G1=>∃ xs ys,ws=[.tup xs,.tup ys]/\R (Br xs ys) yes G1
theorem ZW(m:gs.M):GI.M (ER gs):=λω G R a h q=>m _ _ _ _ ((by rintro b G1 ⟨xs,ys,e,z⟩;exact⟨xs,ys,e,h _ _ _ z⟩)) q
variable {c:List Expr}
theorem NA(h:X.mg "zip"=none)(g:Gl X "zip")(f:starEach [a,b] X.env=[(false,eval a X.env),(false,eval b X.env)])(d:starEach [b] X.env=[(false,eval b X.env)])(e:Am X [a,b] gs):
  Im X (.Tuple c k tpos) (.Call (.Name "zip" p) [a,b] [] pos) (ER gs):=
 Nz (Ny true true h g f d e) (ZW e.m) λω G R q=>e.m _ _ _ _ (by
  rintro i G1 ⟨xs,ys,rfl,z⟩
  refine⟨_,_,xs,ys,rfl,rfl,rfl,?_⟩
  rw[show(λG=>rdX true G (.tup xs)=some xs/\rdX true G (.tup ys)=some ys)=yes from funext λ_=>propext ⟨λ_=>trivial,λ_=>⟨rfl,rfl⟩⟩]
  exact z) q
def CS(gs:GA):GI:=λω G R=>gs ω G λws G1=>match ws with
 | [x,y]=>(match rdL G1 x,rdL G1 y with
  | some xs,some ys=>R (Br xs ys) (λG=>rdL G x=some xs/\rdL G y=some ys) G1
  | _,_=>False)
 | _=>False
theorem NC{gs:GA}{R:List W->(Hw->Prop)->Hw->Prop}{a:List W}{G1:Hw}(z:match a with
 | [x,y]=>(match rdL G1 x,rdL G1 y with
  | some xs,some ys=>R (Br xs ys) (λG=>rdL G x=some xs/\rdL G y=some ys) G1
  | _,_=>False)
 | _=>False):∃ x y xs ys,a=[x,y]/\rdL G1 x=some xs/\rdL G1 y=some ys/\R (Br xs ys) (λG=>rdL G x=some xs/\rdL G y=some ys) G1:=by
 split at z
 ·rename_i x y
  split at z
  ·rename_i xs ys c b;exact⟨x,y,xs,ys,rfl,c,b,z⟩
  ·exact z.elim
 ·exact z.elim
theorem ZX(m:gs.M):GI.M (CS gs):=λω G R c h q=>m _ _ _ _ (λd G1 z=>by
 obtain⟨x,y,xs,ys,rfl,b,a,z⟩:=NC (gs:=gs) z
 dsimp only
 rw[b,a]
 exact h _ _ _ z) q
theorem ZY(h:X.mg "zip"=none)(g:Gl X "zip")(f:starEach [a,b] X.env=[(false,eval a X.env),(false,eval b X.env)])(d:starEach [b] X.env=[(false,eval b X.env)])(e:Am X [a,b] gs):
  Im X (.Tuple c k tpos) (.Call (.Name "zip" p) [a,b] [] pos) (CS gs):=
 Nz (Ny false false h g f d e) (ZX e.m) λω G R q=>e.m _ _ _ _ (by
  intro l G1 z
  obtain⟨x,y,xs,ys,rfl,i,j,z⟩:=NC (gs:=gs) z
  exact⟨x,y,xs,ys,rfl,i,j,z⟩) q
end L3
namespace L3
open PySem PySem.Spec PyProof.Rows L2
abbrev Eb(h:Heap)(T:Addr)(a b c:Value):Prop:=h.get? T=some {cls:=.type "tuple",data:=.seq #[a,b,c]}
section
variable {prog:Program} {w:World} {A:Around} {E:Value->Shared->Prop} {s:Shared}
def St3(n l1 l2 l3:Nat)(f0:Value)(i:Nat)(h:Heap):Prop:=IsZip h (n+5) (n+3) (n+4) f0/\Eb h (n+3) (.ref n) (.ref (n+1)) (.ref (n+2))/\(∃ a b c,Eb h (n+4) a b c)/\h.IsListIter n l1 i/\h.IsListIter (n+1) l2 i/\h.IsListIter (n+2) l3 i
end
end L3
namespace L3
open PySem PySem.Spec PyProof.Rows L2
variable {K:PySem.W.Frag} {H H' H2:Hp}
section
variable {prog:Program} {w:World} {A:Around} {E:Value->Shared->Prop} {s:Shared}
theorem St3.at{n j l g:Nat}{m:Value}{i:Nat}{h h':Heap}(st:St3 n j l g m i h)(k:∀(c:Nat)o,n<=c->c<=n+5->h.get? c=some o->h'.get? c=some o):St3 n j l g m i h':=by
 obtain⟨s,d,⟨a,b,c,f⟩,q,r,p⟩:=st
 exact⟨k _ _ (by lia) (by lia) s,k _ _ (by lia) (by lia) d,⟨a,b,c,k _ _ (by lia) (by lia) f⟩,q.at λo e=>k _ o (by lia) (by lia) e,r.at λo e=>k _ o (by lia) (by lia) e,p.at λo e=>k _ o (by lia) (by lia) e⟩
end
def Fi(w:W):Bool:=match w with | .non=>true | _=>false
def isF(neg:Bool)(x y:W)(_:Hw):Option W:=match y with | .non=>some (.bl (Fi x != neg))| _=>none
theorem ZZ{v:V}{x:W}(t:Tr K H v x):decide (v=.non)=Fi x:=by cases t <;> rfl
theorem Z0{u:V}(t:Tr K H u .non):u=.non:=by cases t;rfl
theorem Z1(a:Bool)(x y:W)(v u:V)(G:Hw)(H:Hp)(Q:VK)(c:Tr K H v x)(ty:Tr K H u y)(r:RelH K H G)(q:Ag (isF a) x y G (dn K H Q)):u=.non/\Q (.bl (Fi x != a)) H:=by
 obtain⟨w,e,b⟩:=Cw q
 cases y with
 | non=>cases e;exact⟨Z0 ty,b _ H .refl (.bl _) r⟩
 | _=>cases e
theorem Z2{X:Cx}:Cop X .Is (Ag (isF false)):=⟨⟨_,UB,λx y v u G H Q a ty r q=>by
 obtain⟨h1,h2⟩:=Z1 false x y v u G H Q a ty r q
 refine⟨h1,?_⟩
 rw[ZZ a];simpa using h2⟩,Di⟩
section
variable {prog:Program} {w:World} {A:Around} {E:Value->Shared->Prop} {s:Shared}
def St3T(n l1 l2 l3:Nat)(f0:Value)(i:Nat)(h:Heap):Prop:=IsZip h (n+5) (n+3) (n+4) f0/\Eb h (n+3) (.ref n) (.ref (n+1)) (.ref (n+2))/\(∃ a b c,Eb h (n+4) a b c)/\h.IsTupleIter n l1 i/\h.IsTupleIter (n+1) l2 i/\h.IsTupleIter (n+2) l3 i
theorem St3T.at{n j l g:Nat}{m:Value}{i:Nat}{h h':Heap}(st:St3T n j l g m i h)(k:∀(c:Nat)o,n<=c->c<=n+5->h.get? c=some o->h'.get? c=some o):St3T n j l g m i h':=by
 obtain⟨s,d,⟨a,b,c,f⟩,q,r,p⟩:=st
 exact⟨k _ _ (by lia) (by lia) s,k _ _ (by lia) (by lia) d,⟨a,b,c,k _ _ (by lia) (by lia) f⟩,tat q λo e=>k _ o (by lia) (by lia) e,tat r λo e=>k _ o (by lia) (by lia) e,tat p λo e=>k _ o (by lia) (by lia) e⟩
end
section
variable {prog:Program} {w:World} {A:Around} {E:Value->Shared->Prop} {s:Shared}
end
def Jj(K:PySem.W.Frag)(mg:Str->Option Value)(base:Heap)(x:Str)(D:List (Str×List Str)):Prop:=∃ d,mg x=some (.ref d)/\KTD.TabOf (λss v=>∃ a,v=.ref a/\∀ H:Hp,SqT K H a (ss.map V.str)) base d D
theorem ND(H:Hp):∀ ss:List Str,TrL K H (ss.map V.str) (ss.map W.str)
 | []=>.nil
 | s::ss=>.cons (.str _) (ND H ss)
variable {x:Str}{D:List (Str×List Str)}
theorem Z3{h base:Heap}{mg:Str->Option Value}(X:K.In h)(G:h.Ns mainGlobals mg)(B:K.In base){d:Addr}{o:Obj}{es:Array DictEntry}{b:Nat}(e:PySem.W.nsIn K mainGlobals x=some (some (.ref d)))(l:K.lookup d=some o)
  (hd:(d==sysModules)=false) (c:o.ExactDict) (f:o.data=.dict es b) (g:KTD.Rows (λss v=>∃ a,v=.ref a/\∀ H:Hp,SqT K H a (ss.map V.str)) es.toList D):Jj K mg base x D :=
 ⟨d,PySem.W.mg_of X G e,hd,o,es,b,B _ _ l,c,f,g⟩
theorem BM{e:DictEntry}{t:Tok}{a:Addr}{ts:List (Str×Tok)}{dd:Option Addr}{n:Nat}{c:Array (Option Value)}{es:List DictEntry}(h1:e.key=.str x t)(h2:e.val=.ref a)(l:K.lookup a=some ⟨.type "tuple",none,.seq ((ts.map λp=>Value.str p.1 p.2).toArray) n,c⟩)(b:ts.length<=1000)
  (r:KTD.Rows (λss v=>∃ a,v=.ref a/\∀ H:Hp,SqT K H a (ss.map V.str)) es D):KTD.Rows (λss v=>∃ a,v=.ref a/\∀ H:Hp,SqT K H a (ss.map V.str)) (e::es) ((x,ts.map (·.1))::D):=by
 refine .cons h1 ⟨a,h2,λH=>.inr ⟨_,_,n,l,rfl,rfl,rfl,?_,?_⟩⟩ r
 ·simp only[Yn,Yh]
  exact Yt b (by decide)
 ·have vs:∀ ts:List (Str×Tok),Vals ((ts.map (·.1)).map V.str) (ts.map λp=>Value.str p.1 p.2):=λts=>by
   induction ts with
   | nil=>exact .nil
   | cons p ts d=>exact .cons ⟨p.2,rfl⟩ d
  simpa using vs ts
end L3
namespace L3
open PySem PySem.Spec PyProof.Rows L2
abbrev Z4(h:Heap)(z TI TO:Addr)(f0:Value)(b:Bool):Prop:=h.get? z=some {cls:=.type "zip",dict:=none,data:=.fields #[f0,.bool b,.bool false,.ref TI,.ref TO],slots:=#[]}
section
variable {prog:Program} {w:World} {A:Around} {E:Value->Shared->Prop} {s:Shared}
def Hd3(n l1 l2 l3 i:Nat)(h:Heap):Prop:=(∃(T:Nat)(o:Obj)(b:Bool),Z4 h (n+5) (n+3) (n+4) (rawInt T) b/\h.get? T=some o/\(T < n\/n+5 < T))/\Eb h (n+3) (.ref n) (.ref (n+1)) (.ref (n+2))/\h.IsListIter n l1 i/\h.IsListIter (n+1) l2 i/\h.IsListIter (n+2) l3 i
def Cm3(n l1 l2 l3 i:Nat)(h:Heap):Prop:=(i=0/\St3 n l1 l2 l3 .none 0 h)\/Hd3 n l1 l2 l3 i h
theorem Cm3.zip{n a c d i:Nat}{h:Heap}(st:Cm3 n a c d i h):∃ o,h.get? (n+5)=some o/\o.cls=.type "zip":=by
 rcases st with⟨_,st⟩| st
 ·exact⟨_,st.1,rfl⟩
 ·obtain⟨⟨T,o,b,e,_⟩,_⟩:=st
  exact⟨_,e,rfl⟩
end
section
variable {prog:Program} {w:World} {A:Around} {E:Value->Shared->Prop} {s:Shared}
end
end L3
namespace L3
open PySem PySem.Spec PyProof.Rows L2
variable {K:PySem.W.Frag} {H H' H2:Hp}
section
variable {prog:Program} {w:World} {A:Around} {E:Value->Shared->Prop} {s:Shared}
def St3M(n l1 l2 l3:Nat)(f0:Value)(i:Nat)(h:Heap):Prop:=IsZip h (n+5) (n+3) (n+4) f0/\Eb h (n+3) (.ref n) (.ref (n+1)) (.ref (n+2))/\(∃ a b c,Eb h (n+4) a b c)/\h.IsListIter n l1 i/\h.IsTupleIter (n+1) l2 i/\h.IsTupleIter (n+2) l3 i
theorem St3M.at{n j l g:Nat}{m:Value}{i:Nat}{h h':Heap}(st:St3M n j l g m i h)(k:∀(c:Nat)o,n<=c->c<=n+5->h.get? c=some o->h'.get? c=some o):St3M n j l g m i h':=by
 obtain⟨s,d,⟨a,b,c,f⟩,q,r,p⟩:=st
 exact⟨k _ _ (by lia) (by lia) s,k _ _ (by lia) (by lia) d,⟨a,b,c,k _ _ (by lia) (by lia) f⟩,q.at λo e=>k _ o (by lia) (by lia) e,tat r λo e=>k _ o (by lia) (by lia) e,tat p λo e=>k _ o (by lia) (by lia) e⟩
end
end L3
namespace L3
open PySem PySem.Spec PyProof.Rows L2
end L3
namespace L3
open PySem PySem.Spec PyProof.Rows L2
variable {K:PySem.W.Frag} {H H' H2:Hp}
def atT{α:Type}(kvs:List (Key×α))(x:Str):Option α:=(kvs.find? λy=>decide (y.1=Sum.inr x)).map (·.2)
variable {k:Key}
theorem Jk{α:Type}{v:α}{a:List (Key×α)}{x:Str}:atT ((k,v)::a) x=if k=Sum.inr x then some v else atT a x:=by
 unfold atT
 rw[List.find?_cons]
 by_cases h:k=Sum.inr x
 ·simp[h]
 ·simp[h]
theorem NE{x:Str}:∀{a:List (Key×V)}{vs:List (Key×Value)},KV a vs->(atT a x=none/\valueAt vs (Sum.inr x)=none)\/∃ v u,atT a x=some v/\valueAt vs (Sum.inr x)=some u/\RelV v u
 | _,_,.nil=>.inl ⟨rfl,rfl⟩
 |(k,v)::a,(d,f)::vs,.cons ⟨e,c⟩ t=>by
  have b:=NE (x:=x) t
  cases(show k=d from e)
  rw[Jk]
  unfold valueAt at b ⊢
  rw[List.find?_cons]
  by_cases h:k=Sum.inr x
  ·simp only[h,if_true,decide_true]
   exact .inr ⟨v,f,rfl,rfl,c⟩
  ·simp only[h,if_false,decide_false];exact b
theorem NF{x:Str}:∀{vs:List (Key×V)}{a:List (Key×W)},TrP K H vs a->(atT vs x=none/\atT a x=none)\/∃ v w,atT vs x=some v/\atT a x=some w/\Tr K H v w
 | _,_,.nil=>.inl ⟨rfl,rfl⟩
 |(k,v)::vs,(_,u)::a,.cons tv t=>by
  rw[Jk,Jk]
  by_cases h:k=Sum.inr x
  ·rw[if_pos h,if_pos h];exact .inr ⟨_,_,rfl,rfl,tv⟩
  ·rw[if_neg h,if_neg h];exact NF t
def inK(neg:Bool)(x y:W)(G:Hw):Option W:=match x,y with
 | .str z,.ref p=>(match G p with | some (.dct kvs)=>some (.bl ((atT kvs z).isSome != neg))| _=>none)
 | _,_=>none
def NG:R2:=λx y H Q=>∃ p kvs z v,x=.ref p/\y=.str z/\H p=some (.dK kvs)/\atT kvs z=some v/\Q v H
variable {X:Cx}
theorem Z5:IxR X NG:=by
 intro value slice pins s σ H x y v u Q I i j h f
 obtain⟨p,a,z,v,rfl,rfl,l,b,q⟩:=h
 cases i
 obtain⟨t,rfl⟩:=j
 obtain⟨_,hd,vs,d,e⟩:a.length<=sizeLine/\(p==sysModules)=false/\∃ vs,KV a vs/\s.heap.DictOf (BH X.prog X.w) p vs:=I.hok p _ l
 rcases NE (x:=z) d with⟨c,_⟩|⟨n,u,c,m,g⟩
 ·rw[c]at b;cases b
 ·rw[c]at b
  cases b
  refine subscriptTail_builtinR (x:=u) e.typeIs PySem.F.slot_dict_getitem.lookup ?_ f
  exact wpAny_getItem_of (knd:=BH X.prog X.w) (k:=Sum.inr z) (Q:=λr s'=>r=u/\EP X pins σ Q r s') (by simp[BH,EA,Value.isStrOf]) e.mapOf m ⟨rfl,_,H,I.tok _,g,q⟩
def ixK(x y:W)(G:Hw):Option W:=match x,y with
 | .ref p,.str z=>(match G p with | some (.dct kvs)=>atT kvs z | _=>none)
 | _,_=>none
theorem Z6(x y:W)(v u:V)(G:Hw)(H:Hp)(Q:VK)(f:Tr K H v x)(ty:Tr K H u y)(r:RelH K H G)(q:Ag ixK x y G (dn K H Q)):NG v u H Q:=by
 obtain⟨w,e,c⟩:=Cw q
 unfold ixK at e
 split at e
 ·rename_i p z
  split at e
  ·rename_i d b
   cases f
   cases ty
   obtain⟨i,g,l⟩:=r p _ b
   rcases NF (x:=z) l with⟨_,a⟩|⟨v,u,a,h,tv⟩
   ·rw[a]at e;cases e
   ·rw[h]at e
    cases e
    exact⟨p,i,z,v,rfl,rfl,g,a,c _ H .refl tv r⟩
  ·cases e
 ·cases e
variable {pos:Pos}
theorem Z7{a b:Expr}{ga gb:GE}(e:FW b)(c:Em X a ga)(d:Em X b gb):Em X (.Subscript a b pos) (Ad (Ag ixK) ga gb):=⟨L6 Z5 Di c.m d.m Z6 c.p d.p e,Cf Di c.m d.m⟩
def CA{α:Type}(kvs:List (Key×α))(k:Key)(v:α):List (Key×α):=if kvs.any (λkv=>decide (kv.1=k))then kvs.map (λkv=>if kv.1=k then(kv.1,v)else kv)else kvs++[(k,v)]
theorem Z8{α:Type}(a:List (Key×α))(k:Key)(v:α):(CA a k v).length<=a.length+1:=by unfold CA;split <;> simp
theorem NH{k:Key}:∀{a:List (Key×V)}{vs:List (Key×Value)},KV a vs->a.any (λkv=>decide (kv.1=k))=vs.any (λkv=>decide (kv.1=k))
 | _,_,.nil=>rfl
 | _,_,.cons ⟨e,_⟩ t=>by rw[List.any_cons,List.any_cons,NH t,e]
theorem NI{k:Key}{v:V}{u:Value}(r:RelV v u):∀{c:List (Key×V)}{vs:List (Key×Value)},KV c vs->KV (c.map λkv=>if kv.1=k then(kv.1,v)else kv) (vs.map λkv=>if kv.1=k then(kv.1,u)else kv)
 | _,_,.nil=>.nil
 |(a,x)::_,(b,y)::_,.cons ⟨e,d⟩ t=>by
  cases(show a=b from e)
  rw[Ym,Ym]
  refine .cons ?_ (NI r t)
  by_cases h:a=k
  ·rw[if_pos h,if_pos h];exact⟨rfl,r⟩
  ·rw[if_neg h,if_neg h];exact⟨rfl,d⟩
theorem NJ{k:Key}{v:V}{u:Value}(r:RelV v u):∀{a:List (Key×V)}{vs:List (Key×Value)},KV a vs->KV (a++[(k,v)]) (vs++[(k,u)])
 | _,_,.nil=>.cons ⟨rfl,r⟩ .nil
 | _,_,.cons h t=>.cons h (NJ r t)
variable {v:V}
theorem Z9{u:Value}(r:RelV v u){a:List (Key×V)}{vs:List (Key×Value)}(h:KV a vs):KV (CA a k v) (stored vs k u):=by
 unfold CA stored
 rw[NH h]
 split
 ·exact NI r h
 ·exact NJ r h
theorem NK{k:Key}:∀{vs:List (Key×V)}{a:List (Key×W)},TrP K H vs a->vs.any (λkv=>decide (kv.1=k))=a.any (λkv=>decide (kv.1=k))
 | _,_,.nil=>rfl
 | _,_,.cons _ t=>by rw[List.any_cons,List.any_cons,NK t]
theorem Jl{k:Key}{v:V}{w:W}(r:Tr K H v w):∀{vs:List (Key×V)}{b:List (Key×W)},TrP K H vs b->TrP K H (vs.map λkv=>if kv.1=k then(kv.1,v)else kv) (b.map λkv=>if kv.1=k then(kv.1,w)else kv)
 | _,_,.nil=>.nil
 |(a,x)::_,(_,y)::_,.cons tv t=>by
  rw[Ym,Ym]
  by_cases h:a=k
  ·simp only[h,if_true];exact .cons r (Jl r t)
  ·simp only[h,if_false];exact .cons tv (Jl r t)
theorem NM{k:Key}{v:V}{w:W}(r:Tr K H v w):∀{vs:List (Key×V)}{a:List (Key×W)},TrP K H vs a->TrP K H (vs++[(k,v)]) (a++[(k,w)])
 | _,_,.nil=>.cons r .nil
 | _,_,.cons h t=>.cons h (NM r t)
theorem aa{w:W}(r:Tr K H v w){vs:List (Key×V)}{a:List (Key×W)}(h:TrP K H vs a):TrP K H (CA vs k v) (CA a k w):=by
 unfold CA
 rw[NK h]
 split
 ·exact Jl r h
 ·exact NM r h
theorem Jm:∀{vs:List (Key×V)}{a:List (Key×W)},TrP K H vs a->vs.length=a.length
 | _,_,.nil=>rfl
 | _,_,.cons _ t=>by rw[Yg,Yg,Jm t]
def ac:TE:=λ_ H Q=>∀ l,H l=none->Q (.ref l) (upd H l (.dK []))
theorem ae:PE X (.Dict [] [] pos) ac:=by
 intro pins s σ H Q I h
 refine wpAny_Dict_empty ?_
 have big:sysModules < s.heap.objs.size:=by
  have h:mainGlobals < s.heap.objs.size:=(I.mod.glob.keeps I.bk).lt
  exact Nat.lt_trans (by decide) h
 have a:=I.hok.fresh (Yr s.heap.objs.size)
 have J:Inv X pins σ (upd H s.heap.objs.size (.dK [])) {s with heap:=s.heap.push {cls:=.type "dict",data:=.dict #[]},toks:=s.toks}:=I.laid (t':=s.toks) (λb u e=>Qk _ e) (Yr _) (show ObjOk X.prog X.w _ _ _ (.dK _)from⟨YU _,by simpa using Nat.ne_of_gt big,[],.nil,Heap.DictOf.new s.heap⟩)
 exact⟨.ref _,_,J,rfl,h _ a⟩
def NO:GE:=λ_ G Q=>∀ l,G l=none->Q (.ref l) (put G l (.dct []))
theorem af:Em X (.Dict [] [] pos) NO:=by
 refine⟨AQ ae λσ H Q⟨ω,G,b,r,q⟩l hl=>?_,λω G Q a h q l hl=>h _ _ (q l hl)⟩
 exact q l (r.no hl) _ _ (Mono.new hl _) (.ref l) (RelH.laid r (Mono.new hl _) ⟨_,BA,.nil⟩)
end L3
namespace L3
open PySem PySem.Spec PyProof.Rows L2
section
variable {prog:Program} {w:World} {A:Around} {E:Value->Shared->Prop} {s:Shared}
end
def ES(g:GE):GE:=λω G Q=>g ω G λx G1=>∃ i,x=.int i/\Q (.int (-i)) G1
variable {g:GE}
theorem ag(m:g.M):GE.M (ES g):=λω G Q a h q=>m _ _ _ _ (by rintro x G1 ⟨i,e,z⟩;exact⟨i,e,h _ _ z⟩) q
theorem NP{X:Cx}{a:Expr}{pos:Pos}(h:Em X a g):Em X (.UnaryOp .USub a pos) (ES g):=
 ⟨AQ (Uk Ut h.p) λσ H Q⟨ω,G,b,r,q⟩=>⟨ω,G,b,r,h.m _ _ _ _ (λx G1 z v H1 m t r1=>by
  obtain⟨i,rfl,z⟩:=z
  cases t
  exact⟨_,rfl,z _ _ m (.int _) r1⟩) q⟩,ag h.m⟩
end L3
namespace L3
open PySem PySem.Spec PyProof.Rows L2
variable {K:PySem.W.Frag} {H H' H2:Hp}
section
variable {X:Cx} {e:Expr} {p pc pd pt pos:Pos} {ge:GE}
end
end L3
namespace L3
open PySem PySem.Spec PyProof.Rows L2
def ev{α:Type}(lt:Nat->Nat->Bool)(n:Nat):PySem.W.KasT α->Option α
 | .ret a=>some a
 | .ask i j k=>if i≠j/\i < n/\j < n then ev lt n (k (lt i j))else none
section
variable {prog:Program} {w:World} {A:Around} {E:Value->Shared->Prop} {s:Shared}
end
end L3
namespace L3
open PySem PySem.Spec PyProof.Rows L2
variable {K:PySem.W.Frag} {H H' H2:Hp}
end L3
namespace L3
open PySem PySem.Spec PyProof.Rows L2
section
variable {prog:Program} {w:World} {A:Around} {E:Value->Shared->Prop} {s:Shared}
end
section
variable {X:Cx} {e:Expr} {p3 pa q1 q3:Pos} {ta:TE}
end
end L3
namespace L3
open PySem PySem.Spec PyProof.Rows L2
variable {K:PySem.W.Frag} {H H' H2:Hp}
end L3
namespace L3
open PySem PySem.Spec PyProof.Rows L2
section
variable {prog:Program} {w:World} {A:Around} {E:Value->Shared->Prop} {s:Shared}
end
section
variable {prog:Program} {w:World} {A:Around} {E:Value->Shared->Prop} {s:Shared}
end
end L3
namespace L3
open PySem PySem.Spec PyProof.Rows L2
variable {K:PySem.W.Frag} {H H' H2:Hp}
section
variable {X:Cx} {e eb:Expr} {p1 p2 p3 q1 q2 q3 qb:Pos} {ta tb:TE}
end
end L3
namespace L3
open PySem PySem.Spec PyProof.Rows L2
section
variable {prog:Program} {w:World} {A:Around} {E:Value->Shared->Prop} {s:Shared}
end
end L3
namespace L3
open PySem PySem.Spec PyProof.Rows L2
variable {K:PySem.W.Frag} {H H' H2:Hp}
section
variable {prog:Program} {w:World} {A:Around} {E:Value->Shared->Prop} {s:Shared}
end
def prs(X:Cx)(pos:Pos):List (Option Expr)->List Expr->List (Sem Value×Sem Value)
 | some k::ks,v::vs=>(eval k X.env,do let x <- eval v X.env;standAt pos;pure x)::prs X pos ks vs
 | _,_=>[]
def KVs:List Str->List V->List (Value×Value)->Prop
 | [],[],[]=>True
 | k::ks,v::vs,p::ps=>(∃ t,p.1=.str k t)/\RelV v p.2/\KVs ks vs ps
 | _,_,_=>False
def PD(X:Cx)(pos:Pos)(kes:List (Option Expr))(ves:List Expr)(ks:List Str)(t:TA):Prop :=
 ∀(pins:List (Addr×Obj))(s:Shared)(σ:St)(H:Hp)(Q:List V->Hp->Prop),Inv X pins σ H s->t σ H Q->wpAny (model X.prog X.w) X.A (evalPairs (prs X pos kes ves)) (λps s'=>∃ vs H',Inv X pins σ H' s'/\KVs ks vs ps/\Q vs H') X.xe s
variable {X:Cx}{pos:Pos}
theorem ah:PD X pos [] [] [] EE:=λ_ _ _ H Q I h=>evalPairs_nil ⟨[],H,I,trivial,h⟩
variable {v:Expr}{b:List Expr}{k:Str}{ks:List Str}{t:TA}
theorem ai{f:Expr}{c:List (Option Expr)}{te:TE}(w:PE X f (tC (.str k)))(z:PE X v te)(y:PD X pos c b ks t):PD X pos (some f::c) (v::b) (k::ks) (De te t):=by
 intro pins s σ H Q I h
 refine evalPairs_cons (thn (w pins s σ H (λu H'=>u=.str k/\H'=H) I ⟨rfl,rfl⟩) λa i d=>?_)
 obtain⟨A,H1,g,n,rfl,rfl⟩:=d
 refine Qi (thn (z pins i σ _ _ g h) λx r e=>Qi (wpAny_standAt (Qj ?_)))
 obtain⟨q,H2,p,l,q2⟩:=e
 exact thn (y pins r σ H2 _ p q2) (by rintro ps B ⟨vs,j,o,m,q3⟩;exact⟨q::vs,j,o,⟨n,l,m⟩,q3⟩)
variable {a:List (Option Expr)}
theorem NQ{t':TA}(h:PD X pos a b ks t)(i:∀ σ H Q,t' σ H Q->t σ H Q):PD X pos a b ks t':=λpins s σ H Q I q=>h pins s σ H Q I (i σ H Q q)
def kvW{α:Type}:List Str->List α->List (Key×α)
 | k::ks,v::vs=>(Sum.inr k,v)::kvW ks vs
 | _,_=>[]
theorem KVs.len:∀{ks:List Str}{vs:List V}{ps:List (Value×Value)},KVs ks vs ps->vs.length=ks.length/\ps.length=ks.length
 | [],[],[],_=>⟨rfl,rfl⟩
 | k::ks,v::vs,p::ps,h=>by
  obtain⟨a,b⟩:=KVs.len h.2.2
  simp only[Yg];lia
theorem NR{α:Type}:∀{ks:List Str}{vs:List α},(kvW ks vs).length<=ks.length
 | [],vs=>by cases vs <;> exact Yr _
 | k::ks,[]=>YU _
 | k::ks,v::vs=>by have:=NR (ks:=ks) (vs:=vs);simp only[kvW,Yg];lia
theorem KVs.carries{P:Program}{w:World}:∀{ks:List Str}{vs:List V}{ps:List (Value×Value)},KVs ks vs ps->Carries (BH P w) ps (kvW ks (ps.map (·.2)))
 | [],[],[],_=>trivial
 | k::ks,v::vs,(a,x)::ps,h=>by
  obtain⟨⟨t,e⟩,_,h⟩:=h
  have b:a=.str k t:=e
  subst b
  exact⟨S9 _ _ _ _,rfl,h.carries⟩
theorem KVs.kv:∀{ks:List Str}{vs:List V}{ps:List (Value×Value)},KVs ks vs ps->KV (kvW ks vs) (kvW ks (ps.map (·.2)))
 | [],[],[],_=>.nil
 | k::ks,v::vs,(a,x)::ps,h=>.cons ⟨rfl,h.2.1⟩ h.2.2.kv
theorem aj{a:List (Key×Value)}{k:Key}{v:Value}(h:∀ y∈a,y.1≠k):stored a k v=a++[(k,v)]:=by
 unfold stored
 rw[if_neg]
 intro z
 obtain⟨y,b,e⟩:=List.any_eq_true.mp z
 exact h y b (of_decide_eq_true e)
theorem NS:∀(ks:List Str)(vs:List Value)(a:List (Key×Value)),ks.Nodup->(∀ y∈a,∀ k∈ks,y.1≠Sum.inr k)->merged a (kvW ks vs)=a++kvW ks vs
 | [],vs,a,_,_=>by cases vs <;> simp[kvW,merged]
 | k::ks,[],a,_,_=>by simp[kvW,merged]
 | k::ks,v::vs,a,g,d=>by
  obtain⟨n1,f⟩:=YR.mp g
  show merged (stored a (Sum.inr k) v) (kvW ks vs)=a++(Sum.inr k,v)::kvW ks vs
  rw[aj λy b=>d y b k Ye,NS ks vs _ f λy b j c=>?_,Yv]
  ·rfl
  ·rcases Yz.mp b with b | b
   ·exact d y b j (Yd _ c)
   ·rw[YA.mp b]
    intro e
    exact n1 (by rw[Sum.inr.inj e];exact c)
def ak(ks:List Str)(t:TA):TE:=λσ H Q=>t σ H λvs H1=>ks.Nodup/\∀ l,H1 l=none->Q (.ref l) (upd H1 l (.dK (kvW ks vs)))
theorem al{d:List (Option Expr)}{a:List Expr}(m:(evalEachOpt d X.env).zip ((evalEach a X.env).map λv=>do let x <- v;standAt pos;pure x)=(prs X pos d a).map λp=>(some p.1,p.2))(K:prs X pos d a≠[])(hl:(prs X pos d a).length<=15)(l:ks.length<=15)(f:PD X pos d a ks t):PE X (.Dict d a pos) (ak ks t):=by
 intro pins s σ H Q I h
 have n:∀ b:Addr,s.heap.objs.size<=b->H b=none:=λb k=>I.hok.fresh k
 refine wpAny_Dict_pairs (knd:=BH X.prog X.w) m K hl ?_
 have r:(s.heap.push {cls:=.type "dict",data:=.dict #[]}).get? s.heap.objs.size=some {cls:=.type "dict",data:=.dict #[]}:=Qm _ rfl
 have y:Inv X pins σ H {s with heap:=s.heap.push {cls:=.type "dict",data:=.dict #[]}}:=I.kept (t':=s.toks) λb u e=>Qk _ e
 have D:Inv X (pins++[(s.heap.objs.size,{cls:=.type "dict",data:=.dict #[]})]) σ H {s with heap:=s.heap.push {cls:=.type "dict",data:=.dict #[]}}:=y.pins_of λp f=>by
  rcases Yz.mp f with z | z
  ·exact y.pin p (YL _ z)
  ·rw[YA.mp z]
   exact⟨r,n _ (Yr _),Nat.ne_of_gt I.lt,I.nofs (Yr _),λv z=>by cases z⟩
 refine thn (f _ _ σ H _ D h) λps i g=>?_
 obtain⟨vs,G,B,kv,N,q⟩:=g
 have pd:=B.pin (s.heap.objs.size,{cls:=.type "dict",data:=.dict #[]}) (by simp)
 refine⟨kvW ks (ps.map (·.2)),kv.carries,⟨_,#[],0,pd.1,⟨rfl,rfl,rfl⟩,rfl,λ_ J=>by simp at J,Pairs.nil,List.nodup_nil⟩,λh' A O=>?_⟩
 rw[NS ks _ [] N (λ_ E=>by cases E),Yw]at A
 have L:=B.unpinned
 have big:sysModules < s.heap.objs.size:=by
  have h:mainGlobals < s.heap.objs.size:=(I.mod.glob.keeps I.bk).lt
  exact Nat.lt_trans (by decide) h
 have F:Inv X pins σ G {i with heap:=h',toks:=i.toks+ps.length}:=by
  refine L.turned (t':=i.toks+ps.length) (λb o k e=>(O.2 b k).trans e) pd.2.1 pd.2.2.1 (.inr I.sz) (λx c e=>?_) λp f=>?_
  ·obtain⟨v,o,j,_⟩:=I.cell x c e
   exact Ys (Ql j)
  ·exact Ys (Ql (I.pin p f).1)
 refine⟨.ref s.heap.objs.size,_,F.track (o:=.dK (kvW ks vs)) pd.2.1 pd.2.2.1 (λx c e=>?_) (λp f=>Ys (Ql (I.pin p f).1)) ?_ ⟨Yt NR (Yt l (by decide)),by simpa using Nat.ne_of_gt big,_,kv.kv,A⟩,rfl,q _ pd.2.1⟩
 ·obtain⟨v,o,j,_⟩:=I.cell x c e
  exact Ys (Ql j)
 ·cases e:X.s₀.heap.get? s.heap.objs.size with
  | none=>rfl
  | some o=>exact Qh (Yu (Ql e) I.sz) (YJ _)
structure Pm(X:Cx)(pos:Pos)(kes:List (Option Expr))(ves:List Expr)(ks:List Str)(g:GA):Prop where
 p:PD X pos kes ves ks (upA X.K g)
 m:g.M
theorem NT:Pm X pos [] [] [] Ac:=⟨NQ ah (by rintro σ H Q ⟨ω,G,a,r,q⟩;exact q [] H .refl .nil r),IA⟩
variable {gs:GA}
theorem Fj{kp:Pos}{j}{ga:GE}(c:Em X v ga)(e:Pm X pos a b ks gs):Pm X pos (some (.Constant (.str k) j kp)::a) (v::b) (k::ks) (Aa ga gs):=
 ⟨NQ (ai Lh c.p e.p) (by rintro σ H Q ⟨ω,G,f,r,q⟩;exact⟨ω,G,f,r,c.m _ _ _ _ (λx G1 q1 v H1 g i r1=>⟨ω,G1,f.mono g,r1,e.m _ _ _ _ (λxs G2 q2 vs H2 h d l=>q2 _ H2 (g.trans h) (.cons (i.mono h) d) l) q1⟩) q⟩),L7 c.m e.m⟩
def ET(ks:List Str)(gs:GA):GE:=λω G Q=>gs ω G λws G1=>ks.Nodup/\∀ l,G1 l=none->Q (.ref l) (put G1 l (.dct (kvW ks ws)))
theorem am(m:gs.M):GE.M (ET ks gs):=λω G Q a h q=>m _ _ _ _ (by rintro b G1 ⟨e,z⟩;exact⟨e,λl hl=>h _ _ (z l hl)⟩) q
theorem NU:∀{ks:List Str}{vs:List V}{b:List W},TrL K H vs b->TrP K H (kvW ks vs) (kvW ks b)
 | [],_,_,t=>by cases t <;> exact .nil
 | k::ks,_,_,.nil=>.nil
 | k::ks,_,_,.cons a t=>.cons a (NU t)
theorem NV(c:(evalEachOpt a X.env).zip ((evalEach b X.env).map λv=>do let x <- v;standAt pos;pure x)=(prs X pos a b).map λp=>(some p.1,p.2))(h:prs X pos a b≠[])(hl:(prs X pos a b).length<=15)(e:ks.length<=15)(d:Pm X pos a b ks gs):Em X (.Dict a b pos) (ET ks gs):=by
 refine⟨AQ (al c h hl e d.p) λσ H Q⟨ω,G,f,r,q⟩=>⟨ω,G,f,r,d.m _ _ _ _ (λj G1 z vs H1 g tv r1=>?_) q⟩,am d.m⟩
 obtain⟨i,z⟩:=z
 exact⟨i,λl hl=>z l (r1.no hl) _ _ (g.trans (Mono.new hl _)) (.ref l) (RelH.laid r1 (Mono.new hl _) ⟨_,BA,NU (tv.mono (Mono.new hl _))⟩)⟩
section
variable {prog:Program} {w:World} {A:Around} {E:Value->Shared->Prop} {s:Shared}
variable {h₀:Heap}{tk:Tok}
theorem ao{δ:Type}{R:δ->Value->Prop}{a:Addr}{D:List (Str×δ)}{Q:Option Value->Shared->Prop}(T:KTD.TabOf R h₀ a D)(n:∀ b o,h₀.get? b=some o->s.heap.get? b=some o)
  (h1:∀ d v,KTD.datumAt k D=some d->R d v->Q (some v) {s with toks:=s.toks+1}) (h2:KTD.datumAt k D=none->Q none {s with toks:=s.toks+1}):wpAny (model prog w) A (dictGet a (.str k tk)) Q E s:=by
 obtain⟨_,o,es,p,f,hc,hd,h⟩:=T
 have f:=n _ _ f
 unfold dictGet
 try with_reducible refine wpAny_holding ?_
 refine Qi (wpAny_pyHash_str (Qi (KTD.kt_dictFind_strs (s:={s with toks:=s.toks+1}) f hd (by obtain⟨l⟩:=es;simpa using h.exact) ?_)))
 have c:Q (findBy (λk v=>v.isStr k) es k) {s with toks:=s.toks+1}:=by
  have m:findBy (λk v=>v.isStr k) es k=(es.toList.find? λe=>e.key.isStr k).map (·.val):=by
   obtain⟨l⟩:=es
   simp[findBy]
  rw[m]
  cases g:KTD.datumAt k D with
  | none=>rw[h.find_none g];exact h2 g
  | some d=>obtain⟨v,e,j⟩:=h.find_some g;rw[e];exact h1 d v g j
 rw[findBy_of_findIdx?]at c
 cases hi:es.findIdx? λe=>e.key.isStr k with
 | none=>rw[hi]at c;exact Qj c
 | some i=>rw[hi]at c;exact Qi (wpAny_dictEntries (s:={s with toks:=s.toks+1}) f hd (Qj c))
theorem ap{δ:Type}{R:δ->Value->Prop}{a:Addr}{D:List (Str×δ)}:MeetsIn prog w (Builtin.«dict.get» ⟨[.ref a,.str k tk],[]⟩) (λ_ Z s=>(KTD.TabOf R h₀ a D/\∀ b o,h₀.get? b=some o->s.heap.get? b=some o)/\(∀ d v,KTD.datumAt k D=some d->R d v->Z (.ok (.ret v)) {s with toks:=s.toks+1})/\(KTD.datumAt k D=none->Z (.ok (.ret .none)) {s with toks:=s.toks+1})):=
 .of_wp λA Z s⟨⟨T,c⟩,h1,h2⟩=>by
  show wpAny _ _ (dictGet a (.str k tk) >>=_) _ _ s
  refine Qi (ao T c (λd v e g=>Qj ⟨v,rfl,h1 d v e g⟩) λf=>?_)
  show wpAny _ _ (Builtin.Dict.missed a (.str k tk) >>=_) _ _ _
  exact Qi (wpAny_missed_other T.1 (Qj ⟨.none,rfl,h2 f⟩))
end
def Ec(D:List (Str×List Str))(z:Str):W:=match KTD.datumAt z D with | some ss=>.tup (ss.map W.str)| none=>.non
def Gk(D:List (Str×List Str))(gk:GE):GE:=λω G Q=>gk ω G λw G1=>match w with | .str z=>Q (Ec D z) G1 | _=>False
theorem aq{x:Str}{D:List (Str×List Str)}{e:Expr}{i apos cpos:Pos}{n:GE}(h:Jj X.K X.mg X.base x D)(U:Gl X x)(hd:(x==("__debug__":Str))=false)(a:attributeBase (.Name x i) "get" X.env (eval (.Name x i) X.env)=eval (.Name x i) X.env)
  (g:((backTo cpos (starEach [e] X.env)).all (λx=>!x.1)&&(backToKw cpos (keywordEach [] X.env)).all (λx=>x.1.isSome)&&decide ([e].length+([]:List Keyword).length+(if([]:List Keyword).isEmpty then 0 else 1) < 30))=true)
  (c:(apos.endLine==cpos.line)=true) (A:starEach [e] X.env=(false,eval e X.env)::starEach [] X.env) (hplain:(backTo cpos (starEach [] X.env)).any (·.1)=false) (f:Em X e n):
  Em X (.Call (.Attribute (.Name x i) "get" apos) [e] [] cpos) (Gk D n):=by
 refine⟨λpins s σ H Q I⟨ω,G,J,r,q⟩=>?_,λω G Q Q' S q=>f.m _ _ _ _ (λw G1 z=>by cases w <;> first | exact S _ _ z | exact z) q⟩
 obtain⟨d,R,T⟩:=h
 have ty:∀{s:Shared},(∀ b o,X.base.get? b=some o->s.heap.get? b=some o)->s.TypeIs (.ref d) "dict":=λf=>by
  obtain⟨_,o,_,_,l,hc,_⟩:=T
  exact⟨o,f _ _ l,hc.1⟩
 have nd:∀ b,Value.ref d=.ref b->∃ E,s.heap.get? b=some E/\E.dict=none:=λb e=>by
  injection e with e;subst e
  obtain⟨_,o,_,_,l,hc,_⟩:=T
  exact⟨o,I.bk _ _ l,hc.2.1⟩
 refine wpAny_Call_method_late a g c rfl (C9 I U R ⟨"dict","dict.get",PySem.F.plainAttrs_dict,PySem.F.slot_dict_get,PySem.F.type_dict_get,ty I.bk,nd,?_⟩ hd)
 have pa:PA X [e] (De (up X.K n) EE):=DQ f.p E5 A
 have B:=pa cpos pins s σ H (λvs H1=>∃ z,vs=[.str z]/\∀ v,Tr X.K H1 v (Ec D z)->Q v H1) I ⟨ω,G,J,r,f.m _ _ _ _ (λw G1 z v H1 m t r1=>by
  cases w with
  | str y=>exact⟨y,by rw[Mb t],λv tv=>z v H1 m tv r1⟩
  | _=>exact z.elim) q⟩
 rw[A]at B ⊢
 refine Calls.callWith_builtin (by show(false||(backTo cpos (starEach [] X.env)).any (·.1))=false;rw[hplain] <;> rfl) (Calls.evalArgs_plain ?_)
 refine thn B λus s2 k=>?_
 obtain⟨vs,H2,j,Y,z,N,q2⟩:=k
 subst N
 obtain⟨u,rfl,ru⟩:=Dd Y
 obtain⟨t,rfl⟩:=ru
 refine call_meetsIn PySem.F.slot_dict_get (ty j.bk) PySem.F.entry_dict_get (PySem.F.args_dict_get_2 _ _) (ap (h₀:=X.base) (D:=D)) ⟨⟨T,j.bk⟩,λL v O Z=>?_,λhn=>?_⟩
 ·obtain⟨b,rfl,P⟩:=Z
  exact⟨.ref b,H2,j.tok _,rfl,q2 _ (by unfold Ec;rw[O];exact .tup (P H2) (ND H2 L))⟩
 ·exact⟨.non,H2,j.tok _,rfl,q2 _ (by unfold Ec;rw[hn];exact .non)⟩
end L3
namespace L3
open PySem PySem.Spec PyProof.Rows L2
end L3
namespace L3
open PySem PySem.Spec PyProof.Rows L2
variable {K:PySem.W.Frag} {H H' H2:Hp}
end L3
namespace L3
open PySem PySem.Spec PyProof.Rows L2
end L3
namespace L2
open PySem PySem.Spec PyProof.Rows
end L2
namespace L3
open PySem PySem.Spec PyProof.Rows L2
end L3
namespace L3
open PySem PySem.Spec PyProof.Rows L2
variable {K:PySem.W.Frag} {H H' H2:Hp}
def B7{α:Type}:List (Key×α)->List (Key×α)->List (Key×α)
 | d,[]=>d
 | d,kv::r=>B7 (CA d kv.1 kv.2) r
theorem NW{α:Type}:∀(r d:List (Key×α)),(B7 d r).length<=d.length+r.length
 | [],d=>Yr _
 | kv::r,d=>by
  have h1:=NW r (CA d kv.1 kv.2)
  have h2:=Z8 d kv.1 kv.2
  show(B7 (CA d kv.1 kv.2) r).length<=d.length+(r.length+1)
  lia
theorem NX:∀{d:List (Key×V)}{us:List (Key×Value)},KV d us->∀{c:List (Key×V)}{vs:List (Key×Value)},KV c vs->KV (B7 c d) (merged vs us)
 | _,_,.nil,_,_,h=>h
 |(a,x)::d,(b,y)::us,.cons ⟨e,f⟩ t,c,vs,h=>by
  cases(show a=b from e)
  exact NX t (Z9 f h)
theorem NY:∀{c:List (Key×V)}{us:List (Key×W)},TrP K H c us->∀{b:List (Key×V)}{vs:List (Key×W)},TrP K H b vs->TrP K H (B7 b c) (B7 vs us)
 | _,_,.nil,_,_,h=>h
 |(a,x)::c,(_,y)::us,.cons tv t,b,vs,h=>NY t (aa tv h)
def NZ(o:W)(ws:List W)(G:Hw)(Q:Kw):Prop:=∃ p q kvs ms,o=.ref p/\ws=[.ref q]/\p≠q/\G p=some (.dct kvs)/\G q=some (.dct ms)/\kvs.length+ms.length<=sizeLine/\Q .non (put G p (.dct (B7 kvs ms)))
variable {X:Cx}
theorem ar:MtR X "dict.update" (λv vs H Q=>∃ p q a d,v=.ref p/\vs=[.ref q]/\p≠q/\H p=some (.dK a)/\H q=some (.dK d)/\a.length+d.length<=sizeLine/\Q .non (upd H p (.dK (B7 a d)))):=by
 intro pins s σ H x vs v l Q I t r h
 obtain⟨p,q0,a,d,rfl,rfl,i,m,y,hl,q⟩:=h
 cases t
 obtain⟨u,rfl,D⟩:=r.one
 cases D
 obtain⟨_,hd,vs,f,n⟩:a.length<=sizeLine/\(p==sysModules)=false/\∃ vs,KV a vs/\s.heap.DictOf (BH X.prog X.w) p vs:=I.hok p _ m
 obtain⟨_,k,l,c,j⟩:d.length<=sizeLine/\(q0==sysModules)=false/\∃ vs,KV d vs/\s.heap.DictOf (BH X.prog X.w) q0 vs:=I.hok q0 _ y
 have J:=Paired.length f
 have G:=Paired.length c
 refine call_meetsIn PySem.F.slot_dict_update n.typeIs PySem.F.entry_dict_update (PySem.F.args_dict_update_2 _ _) (meets_dict_update (BH X.prog X.w) p q0 i k) ⟨vs,l,n,j,by lia,λh' g _ E=>?_⟩
 have B:∃ o,h'.get? p=some o:=by obtain⟨o,_,_,z,_⟩:=g;exact⟨o,z⟩
 refine⟨.non,_,I.write (t':=s.toks) (x:=p) (e:=p) (o:=.dK (B7 a d)) (by rw[m];trivial) (.inl rfl) (λb w A e=>(E.2 b A).trans e) B ?_,rfl,q⟩
 have:=NW d a
 exact⟨by lia,hd,_,NX c f,g⟩
theorem N0:Mth X "dict" "update" "dict.update" Jh NZ where
 pa:=PySem.F.plainAttrs_dict
 slot:=PySem.F.slot_dict_update
 ty:=PySem.F.type_dict_update
 ex:=⟨_,ar,λo i v vs G H Q tv d r q=>by
  obtain⟨p,q0,a,c,rfl,rfl,b,n,s,hl,q⟩:=q
  cases tv
  cases d with
  | cons t1 t =>
   cases t
   cases t1
   obtain⟨g,e,l⟩:=r p _ n
   obtain⟨vs,k,f⟩:=r q0 _ s
   have m:Mono X.K H (upd H p (.dK (B7 g vs))):=Mono.was e _ (λ_ z=>by cases z) (λ_ _ z=>by cases z)
   exact⟨p,q0,g,vs,rfl,rfl,b,e,k,by rw[Jm l,Jm f];exact hl,q _ _ m .non (RelH.laid (u:=.dct (B7 a c)) r m ⟨_,BA,(NY f l).mono m⟩)⟩⟩
 pr:=Nr.pr
 m:=(by rintro o i G Q A h ⟨p,q0,a,c,h1,h2,x,w,j,y,q⟩;exact⟨p,q0,a,c,h1,h2,x,w,j,y,h _ _ q⟩)
end L3
namespace L3
open PySem PySem.Spec PyProof.Rows L2
variable {x:Str}{k n:Nat}
theorem au{X:Cx}{ex:Xw}{p pos:Pos}{sp:Spw}(D:Df X.prog X.w X.K X.mg X.base x k n sp)(o:Room k X.A)(d:Gl X x)(m:CJ X ex)(a:(x==("__debug__":Str))=false):Em X (.Call (.Name x p) [] [] pos) (Ah sp ex Ac):=by
 refine⟨?_,IB D.mono IA⟩
 intro pins s σ H Q I h
 obtain⟨f,fd,ps,g,j,l,_,F⟩:=D.ex
 obtain⟨ω,G,c,r,q⟩:=h
 refine wpAny_Call_Name_kw (C9 I d g ?_ a)
 refine PySem.W.callWith_K0 I.kIn j (Zr (us:=[]) (vs:=[]) F o l m I .nil ?_)
 refine⟨[],G,.nil,r,D.mono _ _ _ _ _ _ (λw b z=>z) (λC b z H2 e i=>?_) q⟩
 exact⟨C,ω,b,rfl,c.mono e,i,z⟩
section
variable {α:Type} {x y z:α} {xs:List α}
theorem BE:atI (x::xs) 0=some x:=DR (j:=0) (xs:=x::xs) rfl
theorem B8:atI (x::y::xs) 1=some y:=DR (j:=1) (xs:=x::y::xs) rfl
theorem Dq:atI (x::y::z::xs) 2=some z:=DR (j:=2) (xs:=x::y::z::xs) rfl
end
theorem Ap{w:W}{f:W->Prop}:opt (some w) f=f w:=rfl
variable {p:Addr}{o:HW}
theorem AF{G:Hw}(h:G p=none):Sub G (put G p o):=Sub.refl.put h
theorem Bb{G G':Hw}(s:Sub G G')(h:G' p=none):Sub G (put G' p o):=s.trans (AF h)
variable {xs:List W}
theorem B9{G:Hw}(h:G p=some (.lst xs)):CL G (.ref p)=some xs:=by unfold CL;dsimp only;rw[h]
theorem Jn{G:Hw}(h:G p=some (.lst xs)):CM G (.ref p)=some xs:=by unfold CM;dsimp only;rw[h]
theorem N1{G:Hw}(h:G p=some (.lst xs)):rdL G (.ref p)=some xs:=by unfold rdL;dsimp only;rw[h]
theorem Gm{G:Hw}{i:Int}(h:G p=some (.lst xs)):ixW (.ref p) (.int i) G=atI xs i:=by unfold ixW;dsimp only;rw[h]
theorem Dr:∀ bs:List Bool,Dk (bs.map W.bl)=some bs
 | []=>rfl
 | b::bs=>by show(Dk (bs.map W.bl)).map (b::·)=_;rw[Dr bs];rfl
theorem Jo:∀ bs:List Int,Dl (bs.map W.int)=some bs
 | []=>rfl
 | b::bs=>by show(Dl (bs.map W.int)).map (b::·)=_;rw[Jo bs];rfl
theorem N2:∀ bs:List Str,DY (bs.map W.str)=some (bs.map V.str)
 | []=>rfl
 | b::bs=>by show(Fd (.str b)).bind (λv=>(DY (bs.map W.str)).map (v::·))=_;rw[N2 bs];rfl
theorem N3(s:Str):∀ bs:List Str,inV (.str s) (bs.map V.str)=bs.any (·==s)
 | []=>rfl
 | b::bs=>by
  show(eqV (.str b) (.str s)||inV (.str s) (bs.map V.str))=_
  rw[N3 s bs];rfl
theorem Ed{c:Hw->Prop}{ge:GE}{R:List W->Hw->Prop}{f:W->W}{G:Hw}(b:c G):∀(a:List W)(o:Option W)(ys:List W),(∀ x∈a,∀ Q:Kw,Q (f x) G->ge [some x] G Q)->
  ys.length+a.length<=sizeLine->R (ys++a.map f) G->AY c (gNm 0) AJ ge R a [o] G ys
 | [],o,ys,_,_,r=>⟨b,by simpa using r⟩
 | x::a,o,ys,h,hl,r=>by
  refine⟨b,by simp only[Yg]at hl;lia,?_⟩
  show ge [some x] G λy d=>AY c (gNm 0) AJ ge R a [some x] d (ys++[y])
  refine h x Ye _ (Ed b a (some x) (ys++[f x]) (λy e=>h y (Yd _ e)) ?_ ?_)
  ·simp only[Yj,Yg,Yi]at hl ⊢;lia
  ·simpa[Yv]using r
theorem N4{c:Hw->Prop}{ge:GE}{R:List W->Hw->Prop}{f:W->W->W}{G:Hw}(b:c G):∀(a:List (W×W))(o o':Option W)(ys:List W),(∀ x∈a,∀ Q:Kw,Q (f x.1 x.2) G->ge [some x.1,some x.2] G Q)->
  ys.length+a.length<=sizeLine->R (ys++a.map λx=>f x.1 x.2) G->AY c (A9 0 1) AJ ge R (a.map λx=>W.tup [x.1,x.2]) [o,o'] G ys
 | [],o,o',ys,_,_,r=>⟨b,by simpa using r⟩
 | x::a,o,o',ys,h,hl,r=>by
  refine⟨b,by simp only[Yg]at hl;lia,?_⟩
  show ge [some x.1,some x.2] G λy d=>AY c (A9 0 1) AJ ge R (a.map λx=>W.tup [x.1,x.2]) [some x.1,some x.2] d (ys++[y])
  refine h x Ye _ (N4 b a (some x.1) (some x.2) (ys++[f x.1 x.2]) (λy e=>h y (Yd _ e)) ?_ ?_)
  ·simp only[Yj,Yg,Yi]at hl ⊢;lia
  ·simpa[Yv]using r
theorem N5:∀(xs ys:List W),Br xs ys=(xs.zip ys).map λx=>W.tup [x.1,x.2]
 | [],_=>by simp[Br]
 | _::_,[]=>by simp[Br]
 | x::xs,y::ys=>by simp[Br,N5 xs ys]
def spR{α:Type}(A:α->List W->Hw->Prop)(f:α->W):Spw:=λws G Q _=>∃ x,A x ws G/\Q (f x) G
theorem A7{α:Type}{A:α->List W->Hw->Prop}{f:α->W}:Spw.M (spR A f):=(by rintro b G Q a E c h _ ⟨x,h1,q⟩;exact⟨x,h1,h _ _ q⟩)
def spL{α:Type}(A:α->List W->Hw->Prop)(f:α->List W):Spw:=λws G Q _=>∃ x,A x ws G/\∀ p,G p=none->Q (.ref p) (put G p (.lst (f x)))
theorem Gn{α:Type}{A:α->List W->Hw->Prop}{f:α->List W}:Spw.M (spL A f):=(by rintro c G Q b E d h _ ⟨x,h1,q⟩;exact⟨x,h1,λp a=>h _ _ (q p a)⟩)
theorem EU{α:Type}(xs:List α):Bw xs (some 1) none=xs.drop 1:=by
 have e:HT.sIx xs.length 0 (some 1)=min 1 xs.length:=HT.sIx_nat xs.length 0 1
 unfold Bw
 rw[e,HT.sIx_none]
 cases xs with
 | nil=>rfl
 | cons x xs =>
  have a:min 1 (x::xs).length=1:=by simp only[Yg];lia
  rw[a]
  show(xs.take ((xs.length+1) - 1))=xs
  rw[Nat.add_sub_cancel,List.take_length]
theorem Fk{α:Type}(x:α)(xs:List α):¬ (HT.sIx (x::xs).length 0 (some 1)=0/\HT.sIx (x::xs).length (x::xs).length none=(x::xs).length):=by
 have e:HT.sIx (x::xs).length 0 (some 1)=min 1 (x::xs).length:=HT.sIx_nat (x::xs).length 0 1
 intro h
 have:=h.1
 rw[e]at this
 simp only[Yg]at this
 lia
theorem av{G:Hw}{lo hi:Option Int}{Q:Kw}(h:G p=some (.lst xs))(q:∀ p1,G p1=none->Q (.ref p1) (put G p1 (.lst (Bw xs lo hi)))):slW (.ref p) lo hi G Q:=by
 unfold slW
 dsimp only
 rw[h]
 exact q
theorem Cm{G:Hw}{q:Addr}(h:G p=some o)(h':G q=none):p≠q:=by intro e;rw[e,h']at h;cases h
theorem Bt(h:n<=100000):n<=sizeLine:=Yt h (by decide)
theorem Fo(h:n<=100000):n < sizeLine:=Nat.lt_of_le_of_lt h (by decide)
section
variable {P:Program} {w:World} {K:PySem.W.Frag} {mg:Str->Option Value} {base:Heap}
theorem ok0{st:Stmt}{f:Addr}{fd:FuncData}{N ps:List Str}{sp:Spw}{g:GS}(F:Fun K x x st f fd)(S:Ay N ps (Aq st))(len:∀ c G Q E,sp c G Q E->c.length=ps.length)
  (i:∀{f:Addr}{cdv:Value}{A:Around}{outer:List Env}{s:Shared}{H:Hp}{E:XK},Room k (A.deeper (envOfC x (Aq st) s.heap.objs.size f cdv))->Ssm (cxW P w K mg base N x (Aq st) f cdv A outer s H E).nox (λB=>B=H) (Be st) g)
  (ok:∀ c G(Q:Kw)(E:Addr->Hw->Prop),Kw.C Q->sp c G Q E->g (Av Q) (A3 N c) G):FnOk P w K mg base (CXe P w) (k+1) f fd ps (CK K sp):=by
 obtain⟨y,I,kV,l,pm,v,cdv,ct,h,rfl,j,d⟩:=F.ex
 refine E6 j d S ((by rintro vs H Q E ⟨c,G,t,r,q⟩;rw[t.length];exact len c G _ _ q)) λA outer s H vs Q E o e=>?_
 obtain⟨c,G,t,r,q⟩:=e
 have D:=i (cdv:=cdv) (outer:=outer) (H:=H) (E:=E) o
 refine⟨_,(D.p H rfl).nox,A3 N c,G,E9 t,r,.refl,?_⟩
 exact D.m _ _ (Av (dn K H Q)) _ (λa b z σ H2 m u n=>z _ H2 m Tr.non n) (λa b z=>z) (λa b z=>z.elim) (λa b z=>z.elim) (ok c G _ _ Fa q)
end
def Gp:Spw:=λws _ Q _=>∃ ns:List Int,ws=[.rol (ns.map W.int)]/\ns.length<=63/\∀ G',Q (.bl true) G'
theorem N6{K:PySem.W.Frag}{H:Hp}:∀ ns:List Int,TrL K H (ns.map V.int) (ns.map W.int)
 | []=>.nil
 | n::ns=>.cons (.int n) (N6 ns)
variable {K:PySem.W.Frag}{H:Hp}
theorem aw{a:Addr}{ns:List Int}(hl:ns.length<=63)(d:FX H)(b:SqL K H a (ns.map V.int)):CK K Gp [.ref a] H (λv _=>v=.bl true) (λ_ _ _=>False):=by
 have c:RoL K H a (ns.map V.int):=by
  rcases b with(h |⟨o,h⟩)| h
  ·rcases d a with z |⟨o,xs,z⟩
   ·rw[z]at h;cases h
   ·rw[z]at h;cases h
  ·exact .inl ⟨o,h⟩
  ·exact .inr h
 exact⟨[.rol (ns.map W.int)],λ_=>none,.cons (.rol c (N6 ns)) .nil,(λa o e=>by cases e),ns,rfl,hl,λf v H' m t r=>DS t⟩
theorem ax{P:Program}{w:World}{s:Shared}{e:Value}{s':Shared}(h:CXe P w [] H s (λ_ _ _=>False) e s'):False:=by
 obtain⟨_,_,_,_,_,q⟩:=h
 exact q
section
variable {K:PySem.W.Frag} {h:Heap} {mg:Str->Option Value} (X:K.In h) (G:h.Ns mainGlobals mg)
include X G
theorem ay{st:Stmt}{ps:List Str}{f:Addr}{g:Value}{i e:Option Addr}{d:Array (Option Value)}{kV a pm cdv ct:Value}(h:PySem.W.nsIn K mainGlobals x=some (some (.ref f)))
  (l:K.lookup f=some ⟨g,i,.func (PySem.W.fnOf x x (C8 st) (Be st) (Aq st) .none kV a pm e cdv ct),d⟩) (c:PySem.W.codeIn K cdv x=true) (k:PySem.W.keepIn K (.ref f)=true)
  (b:∀(kV a pm:Value)(e:Option Addr)(cdv ct:Value)(us:List Value),us.length=ps.length->bindArgs (PySem.W.fnOf x x (C8 st) (Be st) (Aq st) .none kV a pm e cdv ct) ⟨us,[]⟩=pure (ps.zip us)):Fn K mg st x ps :=
 ⟨f,_,PySem.W.mg_of X G h,LV l c k,(LV l c k).binds b⟩
theorem EV{i:Int}{t:Tok}(e:PySem.W.nsIn K mainGlobals x=some (some (.int i t))):Glb K mg x (.int i):=⟨.int i,.int i t,PySem.W.mg_of X G e,⟨t,rfl⟩,λH=>.int i⟩
theorem az{d:Addr}{ts:List (Str×Tok)}{dd:Option Addr}{f:Array (Option Value)}(e:PySem.W.nsIn K mainGlobals x=some (some (.ref d)))(l:K.lookup d=some ⟨.type "tuple",none,.seq ((ts.map λp=>Value.str p.1 p.2).toArray) n,f⟩)(b:ts.length<=1000):
  Glb K mg x (.tup (ts.map λp=>.str p.1)):=by
 have vs:∀ ts:List (Str×Tok),Vals (ts.map λp=>V.str p.1) (ts.map λp=>Value.str p.1 p.2):=λts=>by
  induction ts with
  | nil=>exact .nil
  | cons p ts a=>exact .cons ⟨p.2,rfl⟩ a
 have c:∀(H:Hp)(ts:List (Str×Tok)),TrL K H (ts.map λp=>V.str p.1) (ts.map λp=>W.str p.1):=λH ts=>by
  induction ts with
  | nil=>exact .nil
  | cons p ts a=>exact .cons (.str _) a
 refine⟨.ref d,.ref d,PySem.W.mg_of X G e,rfl,λH=>.tup (.inr ⟨_,_,n,l,rfl,rfl,rfl,?_,by simpa using vs ts⟩) (c H ts)⟩
 simp only[Yn,Yh]
 exact Yt b (by decide)
end
theorem aA{h base:Heap}{mg:Str->Option Value}(X:K.In h)(G:h.Ns mainGlobals mg)(B:K.In base){d:Addr}{o:Obj}{es:Array DictEntry}{a:Nat}{D:List (Str×Int)}(e:PySem.W.nsIn K mainGlobals x=some (some (.ref d)))(l:K.lookup d=some o)
  (hd:(d==sysModules)=false) (b:o.ExactDict) (c:o.data=.dict es a) (f:KTD.Rows (KTD.Dat.At base) es.toList (D.map λp=>(p.1,KTD.Dat.flat (.int p.2)))):Jb mg base x D :=
 ⟨d,PySem.W.mg_of X G e,hd,o,es,a,B _ _ l,b,c,f⟩
variable {b:Bool}
theorem Fp{C D:Addr}(a:(Value.ref C==Value.ref D)=false)(c:(PySem.W.clsIn K D).isSome=true)(h1:PySem.W.typeIn K (.ref D)=some (.type "type"))(h2:PySem.W.subIn K (.ref C) (.ref D)=some b):PySem.W.kitOne K (.ref C) (.ref D)=some b:=by
 unfold PySem.W.kitOne PySem.W.kitCls
 rw[if_neg (by rw[a];exact YT)]
 dsimp only
 rw[if_pos (by rw[c,h1];rfl)]
 exact h2
theorem aB{C:Addr}:PySem.W.kitOne K (.ref C) (.ref C)=some true:=by
 unfold PySem.W.kitOne
 rw[if_pos (by simp)]
theorem aC{C:Addr}{T:String}(a:PySem.W.kitMeta T=true)(h2:PySem.W.subIn K (.ref C) (.type T)=some b):PySem.W.kitOne K (.ref C) (.type T)=some b:=by
 unfold PySem.W.kitOne PySem.W.kitCls
 rw[if_neg (by intro h;cases beq_iff_eq.mp h)]
 dsimp only
 rw[if_pos a]
 exact h2
theorem aD{l:PySem.W.OpenLaw}{q:Program}{loose:List Str}{XP:(Str->Option Value)->Heap->Prop}{YP:World->Heap->Prop}{d:DefRec}{K:Params->PySem.W.Frag}(o:Room k callerA)(m:l.most=some 63)(b:d.params.defaults=[])
  (g:∀(w:World)(h:Heap),YP w h->(K w.params).In h)
  (F:∀(w:World)(mg:Str->Option Value)(c:Addr)(h:Heap),(K w.params).In h->h.Ns mainGlobals mg->mg d.name=some (.ref c)->
   ∃ fd:FuncData,(∀(s:Shared)(u:Value),BindsTo s fd ⟨[u],[]⟩ [("script",u)])/\∀ base:Heap,(K w.params).In base->base.Ns mainGlobals mg->FnOk l.prog w (K w.params) mg base (CXe l.prog w) k c fd ["script"] (CK (K w.params) Gp)):
  PySem.W.WalkO q loose XP YP l.row.toRowW d [] (λf vs=>PySem.call f vs):=
 L2.Vs (n:=63) (k:=k) (x:="script") (CX:=λw=>CXe l.prog w) (sp:=λw=>CK (K w.params) Gp) m (by decide) b o g F (λw H a ns hl i j=>aw hl i j) λw H s e s' z=>ax z
theorem Ee{α:Type}{o:Option α}{x:α}(h:o=some x):o.isSome=true:=by rw[h];rfl
variable {us:List Value}
theorem ln0(h:us.length=0):us=[]:=List.length_eq_zero_iff.mp h
theorem ln1(h:us.length=n+1):∃ a r,us=a::r/\r.length=n:=by
 cases us with
 | nil=>cases h
 | cons a r=>exact⟨a,r,rfl,Nat.succ.inj h⟩
end L3
namespace KW
open PySem L2 L3
mutual
inductive Kd where
 | any | num | truth
 | to (a b:Kd)| box (a:Kd)| row (fs:Fs) (o:Bool)
inductive Fs where
 | nil | cons (n:Str) (m:Bool) (k:Kd) (r:Fs)
end
def mark(m:Bool):Str:=if m then "must" else "may"
mutual
def Kd.enc:Kd->W
 | .any=>.tup [.str "any"]
 | .num=>.tup [.str "num"]
 | .truth=>.tup [.str "truth"]
 | .to a b=>.tup [.str "to",a.enc,b.enc]
 | .box a=>.tup [.str "box",a.enc]
 | .row fs o=>.tup [.str "row",.tup fs.enc,.bl o]
def Fs.enc:Fs->List W
 | .nil=>[]
 | .cons n m k r=>.tup [.str n,.str (mark m),k.enc]::r.enc
end
def Fs.kinds:Fs->List Kd
 | .nil=>[]
 | .cons _ _ k r=>k::r.kinds
def Fs.names:Fs->List Str
 | .nil=>[]
 | .cons n _ _ r=>n::r.names
def Kd.kids:Kd->List Kd
 | .to a b=>[a,b]
 | .box a=>[a]
 | .row fs _=>fs.kinds
 | _=>[]
mutual
def Kd.cnt:Kd->Nat
 | .to a b=>1+(a.cnt+b.cnt)
 | .box a=>1+a.cnt
 | .row fs _=>1+fs.cnt
 | _=>1
def Fs.cnt:Fs->Nat
 | .nil=>0
 | .cons _ _ k r=>k.cnt+r.cnt
end
mutual
def Kd.dp:Kd->Nat
 | .to a b=>1+max a.dp b.dp
 | .box a=>1+a.dp
 | .row fs _=>1+fs.dp
 | _=>1
def Fs.dp:Fs->Nat
 | .nil=>0
 | .cons _ _ k r=>max k.dp r.dp
end
mutual
def Kd.all:Kd->List Kd
 | .to a b=>.to a b::(a.all++b.all)
 | .box a=>.box a::a.all
 | .row fs o=>.row fs o::fs.all
 | .any=>[.any]
 | .num=>[.num]
 | .truth=>[.truth]
def Fs.all:Fs->List Kd
 | .nil=>[]
 | .cons _ _ k r=>k.all++r.all
end
def Bc:List Kd->Nat
 | []=>0
 | k::r=>k.cnt+Bc r
def dpL:List Kd->Nat
 | []=>0
 | k::r=>max k.dp (dpL r)
theorem Jp:∀ fs:Fs,fs.cnt=Bc fs.kinds
 | .nil=>rfl
 | .cons _ _ k r=>by show k.cnt+r.cnt=k.cnt+Bc r.kinds;rw[Jp r]
theorem N7:∀ fs:Fs,fs.dp=dpL fs.kinds
 | .nil=>rfl
 | .cons _ _ k r=>by show max k.dp r.dp=max k.dp (dpL r.kinds);rw[N7 r]
theorem Jq(k:Kd):k.cnt=1+Bc k.kids:=by
 cases k with
 | to a b=>show 1+(a.cnt+b.cnt)=1+(a.cnt+(b.cnt+0));lia
 | box a=>show 1+a.cnt=1+(a.cnt+0);lia
 | row fs o=>show 1+fs.cnt=1+Bc fs.kinds;rw[Jp]
 | _=>rfl
theorem N8(k:Kd):k.dp=1+dpL k.kids:=by
 cases k with
 | to a b=>show 1+max a.dp b.dp=1+max a.dp (max b.dp 0);lia
 | box a=>show 1+a.dp=1+max a.dp 0;lia
 | row fs o=>show 1+fs.dp=1+dpL fs.kinds;rw[N7]
 | _=>rfl
theorem N9:∀(l m:List Kd),Bc (l++m)=Bc l+Bc m
 | [],m=>by simp[Bc]
 | k::l,m=>by show k.cnt+Bc (l++m)=k.cnt+Bc l+Bc m;rw[N9 l m];lia
theorem Oa:∀(l m:List Kd),dpL (l++m)=max (dpL l) (dpL m)
 | [],m=>by simp[dpL]
 | k::l,m=>by show max k.dp (dpL (l++m))=max (max k.dp (dpL l)) (dpL m);rw[Oa l m];lia
theorem aE(k:Kd):1<=k.cnt:=by rw[Jq];lia
theorem Ob:∀ l:List Kd,Bc l=l.length+Bc (l.flatMap Kd.kids)
 | []=>rfl
 | k::l=>by
  show k.cnt+Bc l=(l.length+1)+Bc ((k::l).flatMap Kd.kids)
  rw[YZ,N9,Ob l,Jq k];lia
theorem Oc:∀ l:List Kd,l≠[]->dpL l=1+dpL (l.flatMap Kd.kids)
 | [],h=>Qh rfl h
 | [k],_=>by
  show max k.dp 0=1+dpL ([k].flatMap Kd.kids)
  rw[YZ,List.flatMap_nil,Yx,N8];lia
 | k::a::l,_=>by
  have b:=Oc (a::l) (by simp)
  show max k.dp (dpL (a::l))=1+dpL ((k::a::l).flatMap Kd.kids)
  rw[YZ,Oa,b,N8 k];lia
theorem Od:∀ l:List Kd,l.length<=Bc l
 | []=>Yr _
 | k::l=>by have:=Od l;have:=aE k;show l.length+1<=k.cnt+Bc l;lia
theorem Oe:∀{l:List Kd}{k:Kd},k∈l->k.cnt<=Bc l
 | a::l,k,h=>by
  show k.cnt<=a.cnt+Bc l
  walk_at "pe"
  ·lia
  ·have:=Oe h;lia
theorem EK:∀{l:List Kd}{k:Kd},k∈l->k.dp<=dpL l
 | a::l,k,h=>by
  show k.dp<=max a.dp (dpL l)
  walk_at "pe"
  ·lia
  ·have:=EK h;lia
theorem Of:∀ fs:Fs,fs.enc.length=fs.kinds.length
 | .nil=>rfl
 | .cons _ _ k r=>by show r.enc.length+1=r.kinds.length+1;rw[Of r]
def Kd.unk:Kd->Bool
 | .any=>true
 | .row _ o=>o
 | _=>false
def Kd.fb:Kd->Bool
 | .to _ _=>true
 | .box _=>true
 | _=>false
def Kd.known(k:Kd):Bool:=!(k.all.any Kd.unk)
def Kd.data(k:Kd):Bool:=!(k.all.any Kd.fb)
def Kd.hd:Kd->Str
 | .any=>"any"
 | .num=>"num"
 | .truth=>"truth"
 | .to _ _=>"to"
 | .box _=>"box"
 | .row _ _=>"row"
def Kd.own:Kd->List Str
 | .row _ o=>if o then["row","open"]else["row"]
 | k=>[k.hd]
def Fq(z:Str):Bool:=!A2 z "a"&&!A2 "z" z
def AA(n:Str):Bool:=decide (1<=n.length)&&decide (n.length<=8)&&n.cps.toList.all λc=>Fq ⟨#[c]⟩
def Bz:List Str->Bool
 | a::b::r=>A2 a b&&Bz (b::r)
 | _=>true
mutual
def Kd.ok:Kd->Bool
 | .to a b=>a.ok&&b.ok
 | .box a=>a.ok
 | .row fs _=>Bz fs.names&&fs.ok
 | _=>true
def Fs.ok:Fs->Bool
 | .nil=>true
 | .cons n _ k r=>AA n&&k.ok&&r.ok
end
theorem Og:∀{fs:Fs},fs.ok=true->∀ c∈fs.kinds,c.ok=true
 | .nil,_,c,hc=>by cases hc
 | .cons n m k r,h,c,hc=>by
  have h':(AA n&&k.ok&&r.ok)=true:=h
  walk_at "pc"
  rcases Yo.mp hc with rfl | hc
  ·exact h'.1.2
  ·exact Og h'.2 c hc
theorem aF{k:Kd}(h:k.ok=true):∀ c∈k.kids,c.ok=true:=by
 intro c hc
 cases k with
 | to a b =>
  have h':(a.ok&&b.ok)=true:=h
  walk_at "pc"
  have d:c=a\/c=b:=by simpa[Kd.kids]using hc
  rcases d with rfl | rfl
  ·exact h'.1
  ·exact h'.2
 | box a=>have d:c=a:=by simpa[Kd.kids]using hc
          subst d;exact h
 | row fs o =>
  have h':(Bz fs.names&&fs.ok)=true:=h
  walk_at "pc"
  exact Og h'.2 c hc
 | _=>cases hc
theorem Bm(n:Bool)(i j:Int)(G:Hw):eqF n (.int i) (.int j) G=some (.bl ((i==j) != n)):=rfl
theorem BP(n:Bool)(i j:Str)(G:Hw):eqF n (.str i) (.str j) G=some (.bl ((i==j) != n)):=rfl
open PySem PySem.Spec PyProof.Rows L2 L3
abbrev Jr:Stmt:=top 26
abbrev Js:Stmt:=top 27
abbrev Jt:Stmt:=top 25
abbrev Ju:Stmt:=top 24
abbrev Jv:Stmt:=top 23
abbrev Jw:Stmt:=top 22
abbrev Jx:Stmt:=top 21
abbrev Jy:Stmt:=top 20
abbrev Gq:Stmt:=top 19
abbrev Jz:Stmt:=top 18
abbrev JA:Stmt:=top 58
abbrev JB:Stmt:=top 59
abbrev JC:Stmt:=top 62
abbrev JD:Stmt:=top 64
abbrev JE:Stmt:=top 63
abbrev JF:Stmt:=top 61
abbrev JG:Stmt:=top 60
abbrev JH:Stmt:=top 56
abbrev Ft:Stmt:=top 55
abbrev JI:Stmt:=top 57
abbrev Fu:Stmt:=top 53
abbrev Fv:Stmt:=top 54
abbrev aG:Stmt:=top 65
abbrev JJ:Stmt:=top 76
abbrev JK:Stmt:=top 77
abbrev JL:Stmt:=top 78
abbrev JM:Stmt:=top 79
abbrev JN:Stmt:=top 80
abbrev JO:Stmt:=top 81
abbrev JP:Stmt:=top 82
abbrev JQ:Stmt:=top 83
abbrev JR:Stmt:=top 84
abbrev Gr:Stmt:=top 85
abbrev Gs:Stmt:=top 86
abbrev JS:Stmt:=top 87
abbrev JT:Stmt:=top 88
abbrev JU:Stmt:=top 89
abbrev JV:Stmt:=top 90
abbrev JW:Stmt:=top 91
abbrev Gu:Stmt:=top 92
abbrev Gv:Stmt:=top 93
abbrev JX:Stmt:=top 94
abbrev JY:Stmt:=top 95
abbrev EW:Stmt:=top 96
def Oh:List (Str×Int):=[("any",1),("num",1),("truth",1),("to",3),("box",2),("row",3)]
def AB:List (Str×List Str):=[("num",["number"]),("truth",["truth"]),("name",["name"]),("fun",["name","kind","term"]),("call",["term","term"]),("rec",["fields"]),("get",["term","name"]),("or",["term","name","term"]),("if",["term","term","term"]),("plus",["term","term"]),("less",["term","term"]),("new",["term"]),("read",["term"]),("write",["term","term"]),("as",["term","kind"])]
structure Adr where
 CastError:Addr
 NoKind:Addr
 NoTerm:Addr
 BadUse:Addr
 NoValue:Addr
 NoNumber:Addr
 BadNote:Addr
structure Fns(K:PySem.W.Frag)(mg:Str->Option Value):Prop where
 aH:Fn K mg Jr "is_small_letter" ["sign"]
 aI:Fn K mg Js "names_rise" ["names"]
 aJ:Fn K mg Jt "is_name" ["thing"]
 aK:Fn K mg Ju "is_field" ["thing"]
 aL:Fn K mg Jv "are_fields" ["thing"]
 aM:Fn K mg Jw "has_form" ["thing"]
 aN:Fn K mg Jx "kinds_within" ["kind"]
 aO:Fn K mg Jy "layer_within" ["layer","things_within"]
 aP:Fn K mg Gq "is_made_of" ["thing","is_formed","things_within","most","deepest"]
 aQ:Fn K mg Jz "is_kind" ["thing"]
 aR:Fn K mg JA "form_of" ["word"]
 aS:Fn K mg JB "parts_of" ["term"]
 aT:Fn K mg JC "is_number" ["thing"]
 aU:Fn K mg JD "is_term_field" ["thing"]
 aV:Fn K mg JE "are_term_fields" ["thing"]
 aW:Fn K mg JF "is_of_sort" ["thing","sort"]
 aX:Fn K mg JG "has_term_form" ["thing"]
 aY:Fn K mg JH "is_term" ["thing"]
 aZ:Fn K mg Ft "check_term" ["thing"]
 Oi:Fn K mg JI "count_of" ["term"]
 a6:Fn K mg Fu "terms_in" ["term"]
 a7:Fn K mg Fv "judged" ["term"]
 a8:Fn K mg aG "kind_of" ["term","names","path"]
 a9:Fn K mg JJ "_law_cell_at" ["script","k"]
 ba:Fn K mg JK "_law_whole" ["found"]
 bd:Fn K mg JL "_law_state" ["script","k"]
 be:Fn K mg JM "_law_choice" ["state","many"]
 bf:Fn K mg JN "_law_told_kind" ["state"]
 bg:Fn K mg JO "_law_function" ["state","deep","names","want"]
 bh:Fn K mg JP "_law_record" ["state","deep","names","want"]
 bi:Fn K mg JQ "_law_made" ["state","deep","names","want"]
 bj:Fn K mg JR "_law_leaf" ["state","want"]
 bn:Fn K mg Gr "_law_first" ["state","deep","names","head","want"]
 Oj:Fn K mg Gs "_law_term" ["state","deep","names","want"]
 Ol:Fn K mg JS "_law_count" ["term"]
 On:Fn K mg JT "_law_deep" ["term"]
 bo:Fn K mg JU "_law_parts" ["term"]
 bp:Fn K mg JV "_law_drawn_term" ["script","k"]
 bq:Fn K mg JW "_law_bad_term" ["state","good"]
 br:Fn K mg Gu "_law_marks" ["e"]
 bu:Fn K mg Gv "_law_refused" ["marks","which"]
 bv:Fn K mg JX "_law_told" ["way","term"]
 bw:Fn K mg JY "_law_forty" []
 bx:Fn K mg EW "law" ["script"]
structure Bls(mg:Str->Option Value):Prop where
 bz:mg "ValueError"=none
 Ef:mg "all"=none
 bA:mg "bool"=none
 Oo:mg "int"=none
 Ca:mg "isinstance"=none
 bB:mg "len"=none
 Oq:mg "list"=none
 Ot:mg "max"=none
 bC:mg "range"=none
 bD:mg "str"=none
 JZ:mg "sum"=none
 Gw:mg "tuple"=none
 J0:mg "zip"=none
structure Tx(K:PySem.W.Frag)(mg:Str->Option Value)(base:Heap)(a:Adr):Prop extends Fns K mg,Bls mg where
 Ou:mg "CastError"=some (.ref a.CastError)
 Ov:mg "NoKind"=some (.ref a.NoKind)
 J1:mg "NoTerm"=some (.ref a.NoTerm)
 Ow:mg "BadUse"=some (.ref a.BadUse)
 Ox:mg "NoValue"=some (.ref a.NoValue)
 Oy:mg "NoNumber"=some (.ref a.NoNumber)
 Oz:mg "BadNote"=some (.ref a.BadNote)
 OA:PySem.W.excIn K a.NoTerm [.type "ValueError",.type "Exception",.type "BaseException",.type "object"] "ValueError.__new__"=true
 OC:PySem.W.typeIn K (.ref a.CastError)=some (.type "type")
 OD:(PySem.W.clsIn K a.CastError).isSome=true
 OF:PySem.W.subIn K (.ref a.CastError) (.type "BaseException")=some true
 OG:Glb K mg "MARKS" (.tup [(.str "must"),(.str "may")])
 OH:Glb K mg "MOST_DEPTH" (.int 8)
 OI:Glb K mg "MOST_KINDS" (.int 40)
 OJ:Glb K mg "MOST_LETTERS" (.int 8)
 OK:Glb K mg "MOST_NUMBER" (.int 99999999999999999999)
 OL:Glb K mg "MOST_TERMS" (.int 40)
 OM:Glb K mg "MOST_TERM_DEPTH" (.int 10)
 ON:Jb mg base "LENGTHS" Oh
 OO:Jj K mg base "FORMS" AB
 OP:PySem.W.subIn K (.ref a.NoTerm) (.ref a.CastError)=some true
 OQ:D5 K a.NoTerm
 OR:PySem.W.kitOne K (.ref a.NoTerm) (.ref a.NoKind)=some false
 OS:PySem.W.kitOne K (.ref a.NoTerm) (.ref a.NoTerm)=some true
 OT:PySem.W.kitOne K (.ref a.NoTerm) (.ref a.BadUse)=some false
 OU:PySem.W.kitOne K (.ref a.NoTerm) (.ref a.NoValue)=some false
 OV:PySem.W.kitOne K (.ref a.NoTerm) (.ref a.NoNumber)=some false
 OW:PySem.W.kitOne K (.ref a.NoTerm) (.ref a.BadNote)=some false
 OX:PySem.W.kitOne K (.ref a.NoTerm) (.type "ValueError")=some true
def Dn(P:Program)(w:World)(K:PySem.W.Frag)(mg:Str->Option Value)(base:Heap)(N:List Str)(x:Str)(st:Stmt)(k:Nat)(g:GS):Prop:=∀{f:Addr}{cdv:Value}{A:Around}{outer:List Env}{s:Shared}{H:Hp}{E:XK},Room k (A.deeper (envOfC x (Aq st) s.heap.objs.size f cdv))->Ssm (cxW P w K mg base N x (Aq st) f cdv A outer s H E).nox (λB=>B=H) (Be st) g
variable {K:PySem.W.Frag}{mg:Str->Option Value}{base:Heap}{x:Str}{st:Stmt}{N ps:List Str}{k n:Nat}{sp:Spw}
theorem mk0{P:Program}{w:World}{g:GS}(Fx:Fn K mg st x ps)(c:ps.length=n)(S:Ay N ps (Aq st))(b:sp.M)(len:∀ a G Q E,sp a G Q E->a.length=n)(d:Dn P w K mg base N x st k g)(ok:∀ a G(Q:Kw)(E:Addr->Hw->Prop),Kw.C Q->sp a G Q E->g (Av Q) (A3 N a) G):Df P w K mg base x (k+1) n sp:=L3.mk0 Fx c S b len d ok
set_option hygiene false in
local macro_rules | `(tactic| walk_at "s") => `(tactic| exact ⟨rfl, rfl, rfl, by decide +kernel, rfl, by decide +kernel, by decide +kernel⟩)
set_option hygiene false in
local macro_rules | `(tactic| walk_at "c") => `(tactic| first | exact MD hu | exact ME hu | exact XS | exact cop_nin | exact XQ | exact XO | exact XR | exact IR | exact Z2 | exact cop_isn | exact cop_inT hu | exact cop_nInT hu | exact cop_nInU hu | exact cop_isB | exact cop_isT | exact cop_geS | exact cop_inN hu | exact cop_inK | exact cop_ninK | exact cop_inS)
set_option hygiene false in
local macro_rules | `(tactic| walk_at "b") => `(tactic| first | refine B0 D6 (D1 rfl) rfl T.Ef (by decide) rfl rfl rfl ?_ | refine Fe MV (blt_int) rfl T.Oo (by decide) rfl rfl rfl ?_ | refine B0 Zb (XU) rfl T.bB (by decide) rfl rfl rfl ?_ | refine Fe MU (XY) rfl T.Oq (by decide) rfl rfl rfl ?_ | refine B0 MT (ML rfl) rfl T.Ot (by decide) rfl rfl rfl ?_ | refine B0 Ja (IT rfl) rfl T.JZ (by decide) rfl rfl rfl ?_ | refine Fe Gg (IU) rfl T.Gw (by decide) rfl rfl rfl ?_ | refine Fg (T := "tuple") (by decide) Gg T.Gw T.Ca rfl rfl (by decide) rfl rfl rfl ?_ | refine Fg (T := "list") (by decide) MU T.Oq T.Ca rfl rfl (by decide) rfl rfl rfl ?_ | refine Fg (T := "str") (by decide) Zc T.bD T.Ca rfl rfl (by decide) rfl rfl rfl ?_ | refine Fg (T := "int") (by decide) MV T.Oo T.Ca rfl rfl (by decide) rfl rfl rfl ?_ | refine Fg (T := "bool") (by decide) Zd T.bA T.Ca rfl rfl (by decide) rfl rfl rfl ?_ | refine Zj T.ON rfl rfl rfl rfl rfl rfl rfl ?_ | refine EL X3 rfl rfl rfl rfl rfl ?_ ?_ | refine EL MO rfl rfl rfl rfl rfl ?_ ?_ | refine EL N0 rfl rfl rfl rfl rfl ?_ ?_ | refine EL Nr rfl rfl rfl rfl rfl ?_ ?_ | exact D8 T.OG rfl rfl | exact D8 T.OH rfl rfl | exact D8 T.OI rfl rfl | exact D8 T.OJ rfl rfl | exact D8 T.OK rfl rfl | exact D8 T.OL rfl rfl | exact D8 T.OM rfl rfl)
set_option hygiene false in
local macro_rules | `(tactic| walk_at "v") => `(tactic| (first | (show Am _ _ _; first | exact Bf | refine AL rfl ?_ ?_) | (show Em _ _ _; first | exact Zf rfl rfl rfl rfl | exact DV | exact WY | refine Mm (fun _ _ => rfl) ?_ ?_ | refine BY (by assumption) (hr.mono (by assumption)) rfl CO rfl rfl rfl ?_ | refine W3 ?_ | refine F7 ?_ | exact WW | refine MF (by walk_at "c") rfl ?_ ?_ | refine Ea ?_ ?_ | refine WZ ?_ ?_ | refine W1 ?_ ?_ | refine em_mul ?_ ?_ | refine Nk ?_ ?_ | refine W0 ?_ ?_ | refine W2 ?_ ?_ | walk_at "b" | exact WX | refine em_ite ?_ ?_ ?_ | refine IJ ?_ ?_ | refine W4 ?_ ?_ | refine II ?_ | refine W5 ?_ | refine em_add ?_ ?_ | refine Zv ?_ ?_ ?_ | refine XM ?_ ?_ ?_ | refine MI (by walk_at "c") (by walk_at "c") rfl ?_ ?_ ?_ | refine Z7 (fun _ _ => rfl) ?_ ?_ | exact af | refine em_sortI rfl T.n_sorted rfl rfl rfl rfl ?_ | refine em_sortUD rfl T.n_sorted T.n_set rfl rfl rfl rfl rfl ?_ ?_) | (show Tm _ _ _; first | refine MG (by walk_at "c") rfl ?_ ?_ | refine IL ?_ | refine Mn ?_ | refine IK (fun _ => rfl) ?_ | refine XT (by walk_at "c") (by walk_at "c") rfl ?_ ?_ ?_) | (show Ssm _ _ _ _; first | refine AC ?_ ?_ | exact DW | refine AR ?_) | (show Sm _ _ _ _; first | refine Ba ?_ | refine D7 hN rfl rfl rfl ?_ | refine Dj ?_ ?_ ?_ | refine DX rfl ?_ | refine Mp PassesOwn.never rfl (fun _ => rfl) ?_ ?_ ?_ | refine My PassesOwn.never ?_ ?_ | refine Zg hN rfl rfl ?_ | refine XH (fun _ => rfl) rfl rfl rfl ?_ ?_ ?_ | refine sm_asg rfl rfl rfl ?_ ?_ | refine Zm hN rfl rfl rfl rfl ?_ | exact sm_pass | exact sm_never | refine sm_setK (fun _ => rfl) rfl rfl rfl ?_ ?_ ?_) | (show Wm _ _ _; first | refine W8 ?_ ?_ | refine Mo ?_ ?_ | refine W6 ?_ | refine W7 ?_) | (show Im _ _ _ _; first | refine ZC ?_ | refine W9 (fun _ _ => rfl) ?_ | refine Y9 T.bC rfl rfl ?_) | (show Om _ _ _; first | exact XI | refine XJ ?_) | (show Fm _ _ _; first | exact Bs | refine Zh ?_) | exact Mf hN rfl (.inl rfl) (.inr rfl) | exact tg_three rfl hN rfl (.inl rfl) (.inr rfl) rfl (.inl rfl) (.inr rfl) rfl (.inl rfl) (.inr rfl) | exact tg_two rfl hN rfl (.inl rfl) (.inr rfl) rfl (.inl rfl) (.inr rfl) | exact tg_two rfl hN rfl (.inr rfl) (.inl rfl) rfl (.inl rfl) (.inr rfl) | exact Mf hN rfl (.inr rfl) (.inl rfl)) <;> walk_at "v")
set_option hygiene false in
local macro_rules | `(tactic| walk_at "z") => `(tactic| (intro f cdv A outer s H E hr; have hu := AT hr; walk_at "v"))
variable {P:Program} {w:World} {K:PySem.W.Frag} {mg:Str->Option Value} {base:Heap} {a:Adr}
abbrev OY:List Str:=["sign"]
theorem OZ:Ay OY ["sign"] (Aq Jr):=by walk_at "s"
def O0:GS:=(Ai (BZ (AS (λi j=>decide (i<=j)) (λa b=>!A2 b a)) (AS (λi j=>decide (i<=j)) (λa b=>!A2 b a)) (gC (.str "a")) (Ab 0) (gC (.str "z"))))
theorem bE(T:Tx K mg base a):Dn P w K mg base OY "is_small_letter" Jr k (O0):=by
 have hN:=OZ.nd
 walk_at "z"
abbrev O1:List Str:=["names"]
theorem O2:Ay O1 ["names"] (Aq Js):=by walk_at "s"
def O3:GS:=(Ai (gB (rF BC) (Aa (AI (CS (Aa (Ab 0) (Aa (gSl (Ab 0) (Bl (gC (.int 1))) Bk) Ac))) 2 (A9 0 1) AJ (Ad (AS (λi j=>decide (i < j)) A2) (Ab 0) (Ab 1))) Ac)))
theorem bF(T:Tx K mg base a):Dn P w K mg base O1 "names_rise" Js k (O3):=λ{f cdv A outer s H E}hr=>
 have hu:=AT hr
 have hN:=O2.nd
 (AR (Ba (B0 D6 (D1 rfl) rfl T.Ef (by decide) rfl rfl rfl (AL rfl (BD (Nc:=["one","other"]) rfl (BB rfl (by decide +kernel) (by decide +kernel)) (λ_=>rfl) (ZY T.J0 rfl rfl rfl (by walk_at "v")) (IF (i:=0) (j:=1) rfl (by decide) rfl rfl rfl rfl) (λC fp s1 H1=>Bs) (λC fp s1 H1=>(by walk_at "v"))) Bf))))
abbrev O4:List Str:=["thing"]
theorem O5:Ay O4 ["thing"] (Aq Jt):=by walk_at "s"
def O6(Gx:Spw):GS:=(Af (gIf (gOr (gNt (AX (AV "str" (Ab 0)))) (gNt (gTB (BZ (AS (λi j=>decide (i<=j)) (λa b=>!A2 b a)) (AS (λi j=>decide (i<=j)) (λa b=>!A2 b a)) (gC (.int 1)) (gB (rF AM) (Aa (Ab 0) Ac)) (gC (.int 8)))))) (Ai (gC (.bl false))) Ao) (Ai (gB (rF BC) (Aa (AI (AO (Ab 0)) 1 (gNm 0) AJ (Ah Gx XF (Aa (Ab 0) Ac))) Ac))))
theorem O7(T:Tx K mg base a){Fw:Nat}{Gx:Spw}(fw:Df P w K mg base "is_small_letter" Fw 1 Gx)(fx:Fw<=k):Dn P w K mg base O4 "is_name" Jt k (O6 Gx):=λ{f cdv A outer s H E}hr=>
 have hu:=AT hr
 have hN:=O5.nd
 (AC (by walk_at "v") (AR (Ba (B0 D6 (D1 rfl) rfl T.Ef (by decide) rfl rfl rfl (AL rfl (BD (Nc:=["sign"]) rfl (BB rfl (by decide +kernel) (by decide +kernel)) (λ_=>rfl) (by walk_at "v") (BX (i:=0) (by decide) rfl rfl) (λC fp s1 H1=>Bs) (λC fp s1 H1=>(by walk_at "v"))) Bf)))))
abbrev O8:List Str:=["thing"]
theorem O9:Ay O8 ["thing"] (Aq Ju):=by walk_at "s"
def Pa(BQ:Spw):GS:=(Af (gIf (gOr (gNt (AX (AV "tuple" (Ab 0)))) (gTB (Ad (Ag (eqF true)) (gB (rF AM) (Aa (Ab 0) Ac)) (gC (.int 3))))) (Ai (gC (.bl false))) Ao) (Ai (Bn (Ah BQ XF (Aa (Ad (Ag ixW) (Ab 0) (gC (.int 0))) Ac)) (Ad (Ag (inF false)) (Ad (Ag ixW) (Ab 0) (gC (.int 1))) (gC (.tup [(.str "must"),(.str "may")]))))))
variable {BQ:Spw}
theorem bG(T:Tx K mg base a){Cb:Nat}(Pc:Df P w K mg base "is_name" Cb 1 BQ)(Pd:Cb<=k):Dn P w K mg base O8 "is_field" Ju k (Pa BQ):=by
 have hN:=O9.nd
 walk_at "z"
abbrev Pe:List Str:=["thing"]
theorem Pf:Ay Pe ["thing"] (Aq Jv):=by walk_at "s"
def Pg(Gy:Spw)(CT:Spw):GS:=(Af (gIf (gNt (AX (AV "tuple" (Ab 0)))) (Ai (gC (.bl false))) Ao) (Ai (Bn (gB (rF BC) (Aa (AI (AO (Ab 0)) 1 (gNm 0) AJ (Ah Gy XF (Aa (Ab 0) Ac))) Ac)) (Ah CT XF (Aa (AI (AO (Ab 0)) 1 (gNm 0) AJ (Ad (Ag ixW) (Ab 0) (gC (.int 0)))) Ac)))))
variable {CT:Spw}
theorem bH(T:Tx K mg base a){Gz:Nat}{Gy:Spw}(fy:Df P w K mg base "is_field" Gz 1 Gy)(fz:Gz<=k){Ds:Nat}(J2:Df P w K mg base "names_rise" Ds 1 CT)(J3:Ds<=k):Dn P w K mg base Pe "are_fields" Jv k (Pg Gy CT):=λ{f cdv A outer s H E}hr=>
 have hu:=AT hr
 have hN:=Pf.nd
 (AC (by walk_at "v") (AR (Ba (IJ (B0 D6 (D1 rfl) rfl T.Ef (by decide) rfl rfl rfl (AL rfl (BD (Nc:=["part"]) rfl (BB rfl (by decide +kernel) (by decide +kernel)) (λ_=>rfl) (by walk_at "v") (BX (i:=0) (by decide) rfl rfl) (λC fp s1 H1=>Bs) (λC fp s1 H1=>(by walk_at "v"))) Bf)) (II (BY J2 (hr.mono J3) rfl CO rfl rfl rfl (AL rfl (BD (Nc:=["part"]) rfl (BB rfl (by decide +kernel) (by decide +kernel)) (λ_=>rfl) (by walk_at "v") (BX (i:=0) (by decide) rfl rfl) (λC fp s1 H1=>Bs) (λC fp s1 H1=>(by walk_at "v"))) Bf)))))))
local macro_rules | `(tactic| walk_at "rd") => `(tactic| ((try dsimp only [Af,gIf,Ai,Aj,A8,Ao,Ab,gC,Ad,gTB,AX,gNt,Bu,gOr,Bn,Ct,Cu,Ae,An,Aa,Ac,Ah,gB,rF,Ag,AV,gMt,Ci,BZ,AS,AU,Az,L3.Bi,Cj,gSl,Bl,Bk,AI,AO,CS,Av,A3,List.map_cons,List.map_nil,List.length_cons,List.length_nil,List.cons_append,List.nil_append,List.getElem?_cons_zero,List.getElem?_cons_succ,List.set_cons_zero,List.set_cons_succ,List.replicate,BJ,tyN,Ap,BE,B8,Dq,ixW,Bm,BP,AM,BK,BC,List.getElem?_nil]); (try simp only [Af,gIf,Ai,Aj,A8,Ao,Ab,gC,Ad,gTB,AX,gNt,Bu,gOr,Bn,Ct,Cu,Ae,An,Aa,Ac,Ah,gB,rF,Ag,AV,gMt,Ci,BZ,AS,AU,Az,L3.Bi,Cj,gSl,Bl,Bk,AI,AO,CS,Av,A3,List.map_cons,List.map_nil,List.length_cons,List.length_nil,List.cons_append,List.nil_append,List.getElem?_cons_zero,List.getElem?_cons_succ,List.set_cons_zero,List.set_cons_succ,List.replicate,BJ,tyN,Ap,BE,B8,Dq,ixW,Bm,BP,AM,BK,BC,List.getElem?_nil])))
abbrev bI:Spw:=spR (λ(z:Str)ws _=>ws=[.str z]) λz=>.bl (Fq z)
theorem Fw(T:Tx K mg base a):Df P w K mg base "is_small_letter" 1 1 bI:=by
 refine mk0 T.aH rfl OZ A7 ((by rintro b G Q E ⟨z,e,_⟩;rw[e];rfl)) (bE T) λb G Q E c q=>?_
 obtain⟨z,rfl,q⟩:=q
 unfold O0
 walk_at "rd"
 dsimp only at q
 unfold Fq at q
 refine A0 (λh=>?_) (λh=>?_)
 ·rw[h]at q;simpa using q
 ·rw[Bool.eq_false_iff.mpr h]at q;simpa using q
theorem Ph:∀ ns:List Str,Bz ns=((ns.zip (ns.drop 1)).map λx=>A2 x.1 x.2).all id
 | []=>rfl
 | [_]=>rfl
 | a::b::r=>by
  show(A2 a b&&Bz (b::r))=_
  rw[Ph (b::r)];rfl
abbrev bJ:Spw:=spR (λ(ns:List Str)ws G=>∃ p,ws=[.ref p]/\G p=some (.lst (ns.map W.str))/\ns.length<=1000) λns=>.bl (Bz ns)
def ltW(x y:W):W:=match x,y with | .str a,.str b=>.bl (A2 a b)| _,_=>.non
theorem Ds(T:Tx K mg base a):Df P w K mg base "names_rise" 1 1 bJ:=by
 refine mk0 T.aI rfl O2 A7 ((by rintro i G Q E ⟨ns,⟨p,e,_⟩,_⟩;rw[e];rfl)) (bF T) λi G Q E m q=>?_
 obtain⟨ns,⟨p,rfl,g,hl⟩,q⟩:=q
 unfold O3
 walk_at "rd"
 refine av g λp1 h1=>?_
 have b:=Cm g h1
 have c:rdL (put G p1 (.lst (Bw (ns.map W.str) (some 1) none))) (.ref p)=some (ns.map W.str):=N1 (by rw[Bj b];exact g)
 have d:rdL (put G p1 (.lst (Bw (ns.map W.str) (some 1) none))) (.ref p1)=some (Bw (ns.map W.str) (some 1) none):=N1 Au
 simp only[c,d]
 rw[EU,<- List.map_drop,N5,List.zip_map,YB]
 have l:((λx:W×W=>W.tup [x.1,x.2])∘Prod.map W.str W.str)=(λx:W×W=>W.tup [x.1,x.2])∘λx:Str×Str=>(W.str x.1,W.str x.2):=rfl
 rw[l,<- YB]
 refine N4 (f:=ltW) ⟨by rw[EU,<- List.map_drop]at c;exact c,by rw[EU,<- List.map_drop]at d;exact d⟩ _ none none [] (λx j o h=>?_) ?_ ?_
 ·obtain⟨y,n,rfl⟩:=YC.mp j
  exact h
 ·rw[Yh,List.length_zip]
  exact Bt (by simp only[Yi];lia)
 ·intro p2 h2
  rw[YB]
  have k:((λx:W×W=>ltW x.1 x.2)∘λx:Str×Str=>(W.str x.1,W.str x.2))=W.bl∘λx:Str×Str=>A2 x.1 x.2:=rfl
  rw[k,<- YB,Yw]
  simp only[B9 Au,Option.bind_some,Dr,YD,Ap]
  rw[<- Ph]
  exact m _ _ _ (Bb (AF h1) h2) q
def orS(s1 s2:Spw):Spw:=λws G Q E=>s1 ws G Q E\/s2 ws G Q E
theorem bK{b a:Spw}(h1:b.M)(h2:a.M):Spw.M (orS b a):=λc G Q e E d h h' q=>q.elim (λq=>.inl (h1 _ _ _ _ _ _ h h' q)) (λq=>.inr (h2 _ _ _ _ _ _ h h' q))
theorem mk2{c d:Spw}{g1 g2:GS}(Fx:Fn K mg st x ps)(e:ps.length=n)(S:Ay N ps (Aq st))(y:c.M)(p:d.M)(v:∀ a G Q E,c a G Q E->a.length=n)(o:∀ a G Q E,d a G Q E->a.length=n)(D:Dn P w K mg base N x st k g1)(I:Dn P w K mg base N x st k g2)(u:∀ a G(Q:Kw)(E:Addr->Hw->Prop),Kw.C Q->c a G Q E->g1 (Av Q) (A3 N a) G)(z:∀ a G(Q:Kw)(E:Addr->Hw->Prop),Kw.C Q->d a G Q E->g2 (Av Q) (A3 N a) G):Df P w K mg base x (k+1) n (orS c d):=by
 obtain⟨f,fd,h1,F,J⟩:=Fx
 have A:=Nd (P:=P) (w:=w) (base:=base) F e S v D u
 have B:=Nd (P:=P) (w:=w) (base:=base) F e S o I z
 refine⟨⟨f,fd,_,h1,F.kp,J,e,⟨λvs H Q E⟨a,G,t,r,q⟩=>?_,λh outer s H b g vs Q E l j i m⟨a,G,t,r,q⟩=>?_⟩⟩,bK y p⟩
 ·rcases q with q | q
  ·exact A.len vs H Q E ⟨a,G,t,r,q⟩
  ·exact B.len vs H Q E ⟨a,G,t,r,q⟩
 ·rcases q with q | q
  ·exact A.run h outer s H b g vs Q E l j i m ⟨a,G,t,r,q⟩
  ·exact B.run h outer s H b g vs Q E l j i m ⟨a,G,t,r,q⟩
abbrev bL:Spw:=spR (λ(i:Int)ws _=>ws=[.int i]) λ_=>.bl false
abbrev bM:Spw:=spR (λ(z:Str)ws _=>ws=[.str z]/\z.length<=100000) λz=>.bl (AA z)
def Pi(x:W):W:=match x with | .str z=>.bl (Fq z)| _=>.non
theorem Cb(T:Tx K mg base a):Df P w K mg base "is_name" 2 1 (orS bM bL):=by
 refine mk2 T.aJ rfl O5 A7 A7 (by rintro h G Q E ⟨z,⟨e,_⟩,_⟩;rw[e];rfl) (by rintro h G Q E ⟨z,e,_⟩;rw[e];rfl) (O7 T (Fw T) (Yr _)) (O7 T (Fw T) (Yr _)) (λh G Q E j q=>?_) (λh G Q E j q=>by obtain⟨i,rfl,q⟩:=q;exact Eq.mpr (by kernel_rfl) q)
 obtain⟨z,⟨rfl,l⟩,q⟩:=q
 unfold O6
 walk_at "rd"
 have g:z.length<=sizeLine:=Bt l
 have n:Bq "str" "str"=true:=by decide
 simp only[n,g,if_true,Ap,YF,Yq,if_false]
 unfold AA at q
 by_cases h1:1<=z.length
 ·by_cases k:z.length<=8
  ·have b:(1:Int)<=(z.length:Int):=by lia
   have d:(z.length:Int)<=8:=by lia
   simp only[b,d,decide_true,if_true,YF,Yq,if_false]
   refine Ed (f:=Pi) trivial (DT z) none [] (λx o t m=>?_) ?_ ?_
   ·obtain⟨c,hc,rfl⟩:=YC.mp o
    exact⟨_,rfl,m⟩
   ·rw[DT,Yh]
    exact Bt (by show 0+z.cps.toList.length<=100000;rw[Nat.zero_add];simpa[Str.length]using l)
   ·intro p s
    have r:(DT z).map Pi=(z.cps.toList.map λc=>Fq ⟨#[c]⟩).map W.bl:=by
     unfold DT;rw[YB,YB];rfl
    rw[Yw,r]
    simp only[B9 Au,Option.bind_some,Dr,YD,Ap]
    rw[List.all_map]
    simp only[h1,k,decide_true,Bool.true_and]at q
    exact j _ _ _ (AF s) q
  ·have b:(1:Int)<=(z.length:Int):=by lia
   have d:¬ (z.length:Int)<=8:=by lia
   simp only[h1,k,decide_true,decide_false,Bool.true_and,Bool.false_and]at q
   simp only[b,d,decide_true,decide_false,if_true,YM,Yq,if_false]
   exact q
 ·have b:¬ (1:Int)<=(z.length:Int):=by lia
  simp only[h1,decide_false,Bool.false_and]at q
  simp only[b,decide_false,if_true,YM,Yq,if_false]
  exact q
set_option hygiene false in
set_option hygiene false in
set_option hygiene false in
set_option hygiene false in
set_option hygiene false in
abbrev Pj:List Str:=["thing"]
theorem Pk:Ay Pj ["thing"] (Aq Jw):=by walk_at "s"
def Pl(GB:Spw):GS:=(Af (gIf (gOr (gNt (AX (AV "tuple" (Ab 0)))) (gOr (gTB (Ad (Ag (eqF false)) (gB (rF AM) (Aa (Ab 0) Ac)) (gC (.int 0)))) (gNt (AX (AV "str" (Ad (Ag ixW) (Ab 0) (gC (.int 0)))))))) (Ai (gC (.bl false))) Ao) (Af (gIf (gTB (Ad (Ag (eqF true)) (gB (rF AM) (Aa (Ab 0) Ac)) (EN Oh (Ad (Ag ixW) (Ab 0) (gC (.int 0)))))) (Ai (gC (.bl false))) Ao) (Ai (Ct (Ad (Ag (eqF true)) (Ad (Ag ixW) (Ab 0) (gC (.int 0))) (gC (.str "row"))) (Bn (Ah GB XF (Aa (Ad (Ag ixW) (Ab 0) (gC (.int 1))) Ac)) (AV "bool" (Ad (Ag ixW) (Ab 0) (gC (.int 2)))))))))
theorem bN(T:Tx K mg base a){GC:Nat}{GB:Spw}(fA:Df P w K mg base "are_fields" GC 1 GB)(fB:GC<=k):Dn P w K mg base Pj "has_form" Jw k (Pl GB):=by
 have hN:=Pk.nd
 walk_at "z"
abbrev Pn:List Str:=["kind"]
theorem Po:Ay Pn ["kind"] (Aq Jx):=by walk_at "s"
def Pp:GS:=(Af (gIf (gTB (Ad (Ag (eqF false)) (Ad (Ag ixW) (Ab 0) (gC (.int 0))) (gC (.str "row")))) (Ai (AI (AO (Ad (Ag ixW) (Ab 0) (gC (.int 1)))) 1 (gNm 0) AJ (Ad (Ag ixW) (Ab 0) (gC (.int 2))))) Ao) (Ai (gB (CN) (Aa (gSl (Ab 0) (Bl (gC (.int 1))) Bk) Ac))))
theorem bO(T:Tx K mg base a):Dn P w K mg base Pn "kinds_within" Jx k (Pp):=λ{f cdv A outer s H E}hr=>
 have hu:=AT hr
 have hN:=Po.nd
 (AC (Dj (by walk_at "v") (AR (Ba (BD (Nc:=["field"]) rfl (BB rfl (by decide +kernel) (by decide +kernel)) (λ_=>rfl) (by walk_at "v") (BX (i:=0) (by decide) rfl rfl) (λC fp s1 H1=>Bs) (λC fp s1 H1=>(by walk_at "v"))))) DW) (by walk_at "v"))
abbrev Pr:List Str:=["layer","things_within","found","thing"]
theorem Ps:Ay Pr ["layer","things_within"] (Aq Jy):=by walk_at "s"
def bP(mg:Str->Option Value)(nm:Str)(sp_fn:Spw):GS:=(Af (Aj 2 (An Ac)) (Af (Bo (AO (Ab 0)) (gNm 3) (A8 (gMt Dm D3 (Ab 2) (Aa (CQ 1 (fAt mg nm) sp_fn XF (Aa (Ab 3) Ac)) Ac)))) (Ai (Ab 2))))
variable {nm:Str}{k_fn:Nat}{sp_fn:Spw}
theorem bQ(T:Tx K mg base a)(D_fn:Df P w K mg base nm k_fn 1 sp_fn)(h_fn:k_fn<=k):Dn P w K mg base Pr "layer_within" Jy k (bP mg nm sp_fn):=λ{f cdv A outer s H E}hr=>
 have hu:=AT hr
 have hN:=Ps.nd
 (AC (by walk_at "v") (AC (Mp PassesOwn.never rfl (λ_=>rfl) (by walk_at "v") (by walk_at "v") (AR (DX rfl (EL MO rfl rfl rfl rfl rfl (by walk_at "v") (AL rfl (Nn (i:=1) D_fn (hr.mono h_fn) rfl rfl CO rfl rfl rfl rfl (by walk_at "v")) Bf))))) (by walk_at "v")))
abbrev Pt:List Str:=["thing","is_formed","things_within","most","deepest","layer","count","depth"]
theorem Pu:Ay Pt ["thing","is_formed","things_within","most","deepest"] (Aq Gq):=by walk_at "s"
def bR(mg:Str->Option Value)(nm:Str)(sp_fn:Spw)(GF:Spw):GS:=(Af (Aj 5 (An (Aa (Ab 0) Ac))) (Af (Aj 6 (gC (.int 0))) (Af (Aj 7 (gC (.int 0))) (Af (Gb (gTB (Ad (AU λi j=>decide (j < i)) (gB (rF AM) (Aa (Ab 5) Ac)) (gC (.int 0)))) (Af (Ci 6 Cj (gB (rF AM) (Aa (Ab 5) Ac))) (Af (Ci 7 Cj (gC (.int 1))) (Af (gIf (gOr (gTB (Ad (AU λi j=>decide (j < i)) (Ab 6) (Ab 3))) (gTB (Ad (AU λi j=>decide (j < i)) (Ab 7) (Ab 4)))) (Ai (gC (.bl false))) Ao) (Af (gIf (gNt (AX (gB (rF BC) (Aa (B3 (AO (Ab 5)) 1 [1] (gNm 0) AJ (CQ 1 (fAt mg nm) sp_fn XF (Aa (Ab 0) Ac))) Ac)))) (Ai (gC (.bl false))) Ao) (Aj 5 (Ah GF XF (Aa (Ab 5) (Aa (Ab 2) Ac))))))))) (Ai (gC (.bl true)))))))
theorem bS(T:Tx K mg base a)(D_fn:Df P w K mg base nm k_fn 1 sp_fn)(h_fn:k_fn<=k){GH:Nat}{GF:Spw}(fC:Df P w K mg base "layer_within" GH 2 GF)(fD:GH<=k):Dn P w K mg base Pt "is_made_of" Gq k (bR mg nm sp_fn GF):=λ{f cdv A outer s H E}hr=>
 have hu:=AT hr
 have hN:=Pu.nd
 (AC (by walk_at "v") (AC (by walk_at "v") (AC (by walk_at "v") (AC (My PassesOwn.never (by walk_at "v") (AC (by walk_at "v") (AC (by walk_at "v") (AC (by walk_at "v") (AC (Dj (IL (IK (λ_=>rfl) (B0 D6 (D1 rfl) rfl T.Ef (by decide) rfl rfl rfl (AL rfl (M8 rfl (Gh (own:=["part"]) (fr:=["is_formed"]) (js:=[1]) (scX:=Aq Gq) (n:=s.heap.objs.size+1) rfl (by decide +kernel) (by decide +kernel) (by decide +kernel) (by decide +kernel) rfl rfl rfl (by decide +kernel) rfl) (λ_=>rfl) (by walk_at "v") (M6 (i:=0) (by decide) rfl rfl) (λC fp s1 H1=>Bs) (λC fp s1 H1=>(Nn (i:=1) D_fn (hr.mono h_fn) rfl rfl CO rfl rfl rfl rfl (by walk_at "v")))) Bf)))) (by walk_at "v") DW) (by walk_at "v")))))) (by walk_at "v")))))
abbrev Pv:List Str:=["thing"]
theorem Pw:Ay Pv ["thing"] (Aq Jz):=by walk_at "s"
def bT(mg:Str->Option Value)(J4:Spw)(J5:Spw)(CU:Spw):GS:=(Ai (Ah CU XF (Aa (Ab 0) (Aa (gC (.ref (fAt mg "has_form"))) (Aa (gC (.ref (fAt mg "kinds_within"))) (Aa (gC (.int 40)) (Aa (gC (.int 8)) Ac)))))))
variable {CU:Spw}
theorem bU(T:Tx K mg base a){Fy:Nat}{J4:Spw}(bV:Df P w K mg base "has_form" Fy 1 J4)(fE:Fy<=k){Fz:Nat}{J5:Spw}(bW:Df P w K mg base "kinds_within" Fz 1 J5)(fF:Fz<=k){Dt:Nat}(J6:Df P w K mg base "is_made_of" Dt 5 CU)(J7:Dt<=k):Dn P w K mg base Pv "is_kind" Jz k (bT mg J4 J5 CU):=λ{f cdv A outer s H E}hr=>
 have hu:=AT hr
 have hN:=Pw.nd
 (AR (Ba (BY J6 (hr.mono J7) rfl CO rfl rfl rfl (AL rfl (by walk_at "v") (AL rfl (Gi bV rfl rfl) (AL rfl (Gi bW rfl rfl) (by walk_at "v")))))))
local macro_rules | `(tactic| walk_at "rd") => `(tactic| ((try dsimp only [Af,gIf,Ai,Aj,A8,Ao,Ab,gC,Ad,gTB,AX,gNt,Bu,gOr,Bn,Ct,Cu,Ae,An,Aa,Ac,Ah,gB,rF,Ag,AV,gMt,Ci,DZ,BZ,AS,AU,Az,L3.Bi,Cj,gSl,Bl,Bk,AI,AO,CS,Bx,Bo,EN,BL,Av,A3,List.map_cons,List.map_nil,List.length_cons,List.length_nil,List.cons_append,List.nil_append,List.getElem?_cons_zero,List.getElem?_cons_succ,List.set_cons_zero,List.set_cons_succ,List.replicate,BJ,tyN,Ap,BE,B8,Dq,ixW,Bm,BP,AM,BK,BC,B6,List.getElem?_nil]); (try simp only [Af,gIf,Ai,Aj,A8,Ao,Ab,gC,Ad,gTB,AX,gNt,Bu,gOr,Bn,Ct,Cu,Ae,An,Aa,Ac,Ah,gB,rF,Ag,AV,gMt,Ci,DZ,BZ,AS,AU,Az,L3.Bi,Cj,gSl,Bl,Bk,AI,AO,CS,Bx,Bo,EN,BL,Av,A3,List.map_cons,List.map_nil,List.length_cons,List.length_nil,List.cons_append,List.nil_append,List.getElem?_cons_zero,List.getElem?_cons_succ,List.set_cons_zero,List.set_cons_succ,List.replicate,BJ,tyN,Ap,BE,B8,Dq,ixW,Bm,BP,AM,BK,BC,B6,List.getElem?_nil])))
abbrev bX:Spw:=spR (λ(x:Str×Bool×W)ws _=>ws=[.tup [.str x.1,.str (mark x.2.1),x.2.2]]/\AA x.1=true) λ_=>.bl true
theorem J8{n:Str}(h:AA n=true):n.length<=8:=by
 unfold AA at h
 simp only[YG,YO]at h
 exact h.1.2
theorem bY(b:Bool)(G:Hw):inF false (.str (mark b)) (.tup [.str "must",.str "may"]) G=some (.bl true):=by cases b <;> kernel_rfl
theorem Gz(T:Tx K mg base a):Df P w K mg base "is_field" 3 1 bX:=by
 refine mk0 T.aK rfl O9 A7 ((by rintro d G Q E ⟨x,⟨e,_⟩,_⟩;rw[e];rfl)) (bG T (Cb T) (Yr _)) λd G Q E g q=>?_
 obtain⟨⟨n,b,k⟩,⟨rfl,c⟩,q⟩:=q
 have hl:n.length<=8:=J8 c
 dsimp only at q c
 unfold Pa
 walk_at "rd"
 have f:Bq "tuple" "tuple"=true:=by decide
 simp only[f,YF,Yq,if_false]
 refine .inl ⟨n,⟨rfl,by lia⟩,?_⟩
 dsimp only
 rw[c]
 simp only[if_true,bY,Ap]
 exact q
theorem bZ(k:Kd):∃ xs,k.enc=.tup (.str k.hd::xs):=by cases k <;> exact⟨_,rfl⟩
abbrev b5:Spw:=spR (λ(fs:Fs)ws _=>ws=[.tup fs.enc]/\fs.ok=true/\Bz fs.names=true/\fs.cnt<=1000) λ_=>.bl true
def J9(x:W):W:=match x with | .tup (n::_)=>n | _=>.non
theorem Ka:∀{fs:Fs}{x:W},fs.ok=true->x∈fs.enc->∃ n b k,x=.tup [.str n,.str (mark b),k]/\AA n=true
 | .nil,x,_,h=>by cases h
 | .cons n m k r,x,a,h=>by
  have h':(AA n&&k.ok&&r.ok)=true:=a
  walk_at "pc"
  walk_at "pe"
  ·exact⟨n,m,k.enc,rfl,h'.1.1⟩
  ·exact Ka h'.2 h
theorem Px:∀ fs:Fs,fs.enc.map J9=fs.names.map W.str
 | .nil=>rfl
 | .cons n m k r=>by show W.str n::r.enc.map J9=W.str n::r.names.map W.str;rw[Px r]
theorem Py:∀ fs:Fs,fs.names.length=fs.enc.length
 | .nil=>rfl
 | .cons n m k r=>by show r.names.length+1=r.enc.length+1;rw[Py r]
theorem Pz(fs:Fs):fs.enc.length<=fs.cnt:=by rw[Of,Jp];exact Od _
theorem GC(T:Tx K mg base a):Df P w K mg base "are_fields" 4 1 b5:=by
 refine mk0 T.aL rfl Pf A7 ((by rintro m G Q E ⟨x,⟨e,_⟩,_⟩;rw[e];rfl)) (bH T (Gz T) (Yr _) (Ds T) (by lia)) λm G Q E s q=>?_
 obtain⟨fs,⟨rfl,i,r,hc⟩,q⟩:=q
 have hl:=Pz fs
 unfold Pg
 walk_at "rd"
 have o:Bq "tuple" "tuple"=true:=by decide
 simp only[o,YF,Yq,if_false]
 refine Ed (f:=λ_=>.bl true) trivial fs.enc none [] (λx g l d=>?_) (by simp only[Yi];exact Bt (by lia)) ?_
 ·obtain⟨n,b,k,rfl,j⟩:=Ka i g
  exact⟨⟨n,b,k⟩,⟨rfl,j⟩,d⟩
 ·intro p t
  rw[Yw,show(λ_:W=>W.bl true)=W.bl∘(λ_=>true)from rfl,<- YB]
  simp only[B9 Au,Option.bind_some,Dr,YD,Ap]
  have c:(fs.enc.map λ_=>true).all id=true:=by simp
  rw[c]
  simp only[if_true]
  refine Ed (f:=J9) trivial fs.enc none [] (λx g l d=>?_) (by simp only[Yi];exact Bt (by lia)) ?_
  ·obtain⟨n,b,k,rfl,j⟩:=Ka i g
   show Ad (Ag ixW) (Ab 0) (gC (.int 0)) [some (W.tup [.str n,.str (mark b),k])] _ l
   exact d
  ·intro p2 h
   rw[Yw,Px]
   refine⟨fs.names,⟨p2,rfl,Au,by rw[Py];lia⟩,?_⟩
   dsimp only
   rw[r]
   exact s _ _ _ (Bb (AF t) h) q
def noK(x:W):Prop:=x=.tup [.str "nun"]\/x=.tup [.str "num",.int 1]
def KFm(x:W)(b:Bool):Prop:=(∃ k:Kd,x=k.enc/\k.ok=true/\k.cnt<=1000/\b=true)\/(noK x/\b=false)
abbrev b6:Spw:=spR (λ(x:W×Bool)ws _=>ws=[x.1]/\KFm x.1 x.2) λx=>.bl x.2
theorem Fy(T:Tx K mg base a):Df P w K mg base "has_form" 5 1 b6:=by
 refine mk0 T.aM rfl Pk A7 ((by rintro d G Q E ⟨x,⟨e,_⟩,_⟩;rw[e];rfl)) (bN T (GC T) (Yr _)) λd G Q E l q=>?_
 walk_at "pi"
 rcases h with⟨k,rfl,i,hc,rfl⟩|⟨rfl | rfl,rfl⟩
 rotate_left
 ·exact Eq.mpr (by kernel_rfl) q
 ·exact Eq.mpr (by kernel_rfl) q
 have f:Bq "tuple" "tuple"=true:=by decide
 have c:Bq "bool" "bool"=true:=by decide
 have g:Bq "str" "str"=true:=by decide
 unfold Pl
 cases k with
 | any =>
  exact Eq.mpr (by kernel_rfl) q
 | num =>
  exact Eq.mpr (by kernel_rfl) q
 | truth =>
  exact Eq.mpr (by kernel_rfl) q
 | to x y =>
  exact Eq.mpr (by kernel_rfl) q
 | box x =>
  exact Eq.mpr (by kernel_rfl) q
 | row fs o =>
  have h':(Bz fs.names&&fs.ok)=true:=i
  walk_at "pc"
  have j:1+fs.cnt<=1000:=hc
  simp only[Kd.enc];walk_at "rd"
  simp only[f,g,YF,Yq,if_false]
  refine⟨fs,⟨rfl,h'.2,h'.1,by lia⟩,?_⟩
  simp only[if_true,c]
  exact q
def Kb(x:W):W:=match x with | .tup [_,_,k]=>k | _=>.non
theorem PB:∀ fs:Fs,fs.enc.map Kb=fs.kinds.map Kd.enc
 | .nil=>rfl
 | .cons n m k r=>by show k.enc::r.enc.map Kb=k.enc::r.kinds.map Kd.enc;rw[PB r]
theorem PC:∀{fs:Fs}{x:W},x∈fs.enc->∃ n b k,x=.tup [.str n,.str (mark b),k]
 | .nil,x,h=>by cases h
 | .cons n m k r,x,h=>by
  walk_at "pe"
  ·exact⟨n,m,k.enc,rfl⟩
  ·exact PC h
abbrev b7:Spw:=spL (λ(k:Kd)ws _=>ws=[k.enc]/\k.cnt<=20000) λk=>k.kids.map Kd.enc
theorem Fz(T:Tx K mg base a):Df P w K mg base "kinds_within" 1 1 b7:=by
 refine mk0 T.aN rfl Po Gn ((by rintro d G Q E ⟨x,⟨e,_⟩,_⟩;rw[e];rfl)) (bO T) λd G Q E j q=>?_
 obtain⟨k,⟨rfl,hc⟩,q⟩:=q
 unfold Pp
 cases k with
 | row fs o =>
  have h:1+fs.cnt<=20000:=hc
  have hl:=Pz fs
  simp only[Kd.enc];walk_at "rd"
  refine Ed (f:=Kb) trivial fs.enc none [] (λx g i c=>?_) (by simp only[Yi];exact Bt (by lia)) ?_
  ·obtain⟨n,b,k,rfl⟩:=PC g
   show Ad (Ag ixW) (Ab 0) (gC (.int 2)) [some (W.tup [.str n,.str (mark b),k])] _ i
   exact c
  ·rw[Yw,PB]
   exact q
 | any=>exact And.intro (Fk _ _) q
 | num=>exact And.intro (Fk _ _) q
 | truth=>exact And.intro (Fk _ _) q
 | to x y=>exact And.intro (Fk _ _) q
 | box x=>exact And.intro (Fk _ _) q
variable {G:Hw}{p:Addr}{xs zs:List W}{Q:Kw}
theorem b8{r:Addr}(a:G p=some (.lst xs))(b:G r=some (.lst zs))(hl:xs.length+zs.length<=sizeLine)(q:Q .non (put G p (.lst (xs++zs)))):D3 (.ref p) [.ref r] G Q:=by
 unfold D3
 refine IW a ?_ q
 rw[B9 b,Option.bind_some,if_pos hl]
theorem PH(h:G p=some (.lst xs)):Dm (.ref p) G:=⟨xs,B9 h⟩
local macro_rules | `(tactic| walk_at "rd") => `(tactic| ((try dsimp only [Af,gIf,Ai,Aj,A8,Ao,Ab,gC,Ad,gTB,AX,gNt,Bu,gOr,Bn,Ct,Cu,Ae,An,Aa,Ac,Ah,gB,rF,Ag,AV,gMt,Ci,DZ,BZ,AS,AU,Az,L3.Bi,Cj,gSl,Bl,Bk,AI,AO,CS,Bx,Bo,EN,BL,CQ,B3,By,Av,A3,List.map_cons,List.map_nil,List.length_cons,List.length_nil,List.cons_append,List.nil_append,List.getElem?_cons_zero,List.getElem?_cons_succ,List.set_cons_zero,List.set_cons_succ,List.replicate,BJ,tyN,Ap,BE,B8,Dq,ixW,Bm,BP,AM,BK,BC,B6,List.getElem?_nil]); (try simp only [Af,gIf,Ai,Aj,A8,Ao,Ab,gC,Ad,gTB,AX,gNt,Bu,gOr,Bn,Ct,Cu,Ae,An,Aa,Ac,Ah,gB,rF,Ag,AV,gMt,Ci,DZ,BZ,AS,AU,Az,L3.Bi,Cj,gSl,Bl,Bk,AI,AO,CS,Bx,Bo,EN,BL,CQ,B3,By,Av,A3,List.map_cons,List.map_nil,List.length_cons,List.length_nil,List.cons_append,List.nil_append,List.getElem?_cons_zero,List.getElem?_cons_succ,List.set_cons_zero,List.set_cons_succ,List.replicate,BJ,tyN,Ap,BE,B8,Dq,ixW,Bm,BP,AM,BK,BC,B6,List.getElem?_nil])))
inductive Al{α:Type}(F:W->α->Prop):List W->List α->Prop
 | nil:Al F [] []
 | cons {x:W} {y:α} {l:List W} {m:List α}:F x y->Al F l m->Al F (x::l) (y::m)
theorem Al.map{α β:Type}{F:W->α->Prop}{e:β->W}{f:β->α}:∀{l:List β},(∀ x∈l,F (e x) (f x))->Al F (l.map e) (l.map f)
 | [],_=>.nil
 | x::_,h=>.cons (h x Ye) (Al.map λy a=>h y (Yd _ a))
variable {l:List W}
theorem Al.len{α:Type}{F:W->α->Prop}{m:List α}(h:Al F l m):m.length=l.length:=by
 induction h with
 | nil=>rfl
 | cons _ _ a=>rw[Yg,Yg,a]
abbrev PJ(sp:Spw)(F:W->Bool->Prop):Prop:=∀ x b G Q E,F x b->Q (.bl b) G->sp [x] G Q E
abbrev Kc(sp:Spw)(F:W->List W->Prop):Prop:=∀ x ps G Q E,F x ps->(∀ r,G r=none->Q (.ref r) (put G r (.lst ps)))->sp [x] G Q E
variable {F:W->List W->Prop}{D:Ew}
theorem b9{q0 i:Addr}{k0:W}{items:List W}(g:p≠q0)(q:Kc sp F){c:List (List W)}(t:Al F l c):∀(o:Option W)(G:Hw)(a:List W),a.length+c.flatten.length<=20000->G p=some (.lst a)->G q0=some (.lst items)->
  (∀ o' G',G' p=some (.lst (a++c.flatten))->(∀ b,b≠p->∀ u,G b=some u->G' b=some u)->D.nx [some k0,some (.ref i),some (.ref p),o'] G')->
  Bv (holds q0 items) (gNm 3) (A8 (gMt Dm D3 (Ab 2) (Aa (CQ 1 i sp XF (Aa (Ab 3) Ac)) Ac))) D l [some k0,some (.ref i),some (.ref p),o] G:=by
 induction t with
 | nil=>exact λo G a _ f e d=>⟨e,d o G (by rw[List.flatten_nil,Yx];exact f) λ_ _ _ h=>h⟩
 | @cons x ps l c h t n =>
  intro o G a hl f e d
  rw[List.flatten_cons,Yj]at hl
  refine⟨e,PH f,rfl,q _ _ _ _ _ h λr j=>?_⟩
  simp only[Ac]
  refine b8 (by rw[Bj (Cm f j)];exact f) Au (Bt (by lia)) ?_
  refine n (some x) _ (a++ps) (by rw[Yj];lia) Au (by rw[Bj (YV g),Bj (Cm e j)];exact e) λo' G' h1 h2=>?_
  refine d o' G' (by rw[h1,List.flatten_cons,Yv]) λb m u k=>h2 b m u ?_
  rw[Bj m,Bj (Cm k j)];exact k
abbrev cb(mg:Str->Option Value)(nm:Str)(F:W->List W->Prop):Spw:=spL (λ(x:List W×List (List W))ws G=>∃ p,ws=[.ref p,.ref (fAt mg nm)]/\G p=some (.lst x.1)/\Al F x.1 x.2/\x.2.flatten.length<=20000) λx=>x.2.flatten
variable {i:Nat}{gb:GS}{ω:Sw}
theorem cc{a:GG}{Ak:GS}(h1:ω[i]?=some (some (.ref p)))(h:G p=some (.lst xs))(q:Bv (holds p xs) a gb {D with nx:=Ak D} xs ω G):Af (Bo (AO (Ab i)) a gb) Ak D ω G:=by
 unfold Af Bo AO Ab
 rw[h1];dsimp only
 rw[h];exact q
variable {j:Nat}
theorem GH(T:Tx K mg base a)(D:Df P w K mg base nm j 1 sp)(m:Kc sp F):Df P w K mg base "layer_within" (j+1) 2 (cb mg nm F):=by
 refine mk0 T.aO rfl Ps Gn ((by rintro k G Q E ⟨x,⟨p,e,_⟩,_⟩;rw[e];rfl)) (bQ T D (Yr _)) λk G Q E n q=>?_
 obtain⟨⟨l,o⟩,⟨q0,rfl,i,hl,s⟩,q⟩:=q
 refine And.intro (show 0<=sizeLine by decide) λp h=>?_
 have g:p≠q0:=YV (Cm i h)
 have c:put G p (.lst []) q0=some (.lst l):=AF h _ _ i
 dsimp only
 show Af (Bo _ _ _) _ (Av Q) [some (.ref q0),some (.ref (fAt mg nm)),some (.ref p),none] _
 refine cc rfl c ?_
 refine b9 g m hl none _ [] (by rw[Yi];lia) Au c λo' r h1 h2=>?_
 refine n _ _ _ (λb u d=>?_) (q p h)
 by_cases f:b=p
 ·subst f
  rw[Au]at d;cases d
  exact h1
 ·rw[Bj f]at d
  exact h2 b f u (by rw[Bj f];exact d)
theorem GJ{α:Type}{enc f:α->W}{b:Hw->Prop}{ge:GE}{R:List W->Hw->Prop}{G:Hw}{cst:Sw}(a:b G):∀(l:List α)(o:Option W)(ys:List W),(∀ x∈l,∀ Q:Kw,Q (f x) G->ge (some (enc x)::cst) G Q)->
  ys.length+l.length<=sizeLine->R (ys++l.map f) G->AY b (gNm 0) AJ ge R (l.map enc) (o::cst) G ys
 | [],o,ys,_,_,r=>⟨a,by simpa using r⟩
 | x::l,o,ys,h,hl,r=>by
  refine⟨a,by simp only[Yg]at hl;lia,?_⟩
  show ge (some (enc x)::cst) G λy d=>AY b (gNm 0) AJ ge R (l.map enc) (some (enc x)::cst) d (ys++[y])
  refine h x Ye _ (GJ a l (some (enc x)) (ys++[f x]) (λy c=>h y (Yd _ c)) ?_ ?_)
  ·simp only[Yj,Yg,Yi]at hl ⊢;lia
  ·simpa[Yv]using r
inductive Md(F:W->Bool->Prop)(L:W->List W->Prop)(mo de:Nat):Nat->Nat->Nat->List W->Bool->Prop
 | nil {c d:Nat}:Md F L mo de 0 c d [] true
 | big {c d:Nat} {x:W} {l:List W}:l.length < 1000->mo < c+(l.length+1)\/de < d+1->Md F L mo de 0 c d (x::l) false
 | bad {c d:Nat} {x:W} {l:List W} {bs:List Bool}:l.length < 1000->c+(l.length+1)<=mo->d+1<=de->Al F (x::l) bs->bs.all id=false->Md F L mo de 0 c d (x::l) false
 | step {n c d:Nat} {x:W} {l:List W} {bs:List Bool} {pss:List (List W)} {b:Bool}:l.length < 1000->c+(l.length+1)<=mo->d+1<=de->Al F (x::l) bs->bs.all id=true->Al L (x::l) pss->pss.flatten.length<=20000->Md F L mo de n (c+(l.length+1)) (d+1) pss.flatten b->Md F L mo de (n+1) c d (x::l) b
variable {R:List W->Hw->Prop}
theorem PK{F:W->Bool->Prop}{d:Hw->Prop}{e:Addr}(g:PJ sp F)(c:d G){bs:List Bool}(t:Al F l bs):∀(o:Option W)(a:List Bool),a.length+bs.length<=1000->R ((a++bs).map W.bl) G->
  AY d (gNm 0) AJ (CQ 1 e sp XF (Aa (Ab 0) Ac)) R l [o,some (.ref e)] G (a.map W.bl):=by
 induction t with
 | nil=>exact λo a _ r=>⟨c,by rw[Yx]at r;exact r⟩
 | @cons x b l bs h t f =>
  intro o a hl r
  rw[Yg]at hl
  refine⟨c,by rw[Yh];exact Fo (by lia),rfl,g _ _ _ _ _ h ?_⟩
  have z:=f (some x) (a++[b]) (by rw[Yj];exact(show a.length+1+bs.length<=1000 by lia)) (by rw[Yv];exact r)
  rw[Yy]at z
  exact z
abbrev ce(mg:Str->Option Value)(n1 n2:Str)(F:W->Bool->Prop)(L:W->List W->Prop)(mo de:Nat):Spw:=spR (λ(x:W×Bool)ws _=>ws=[x.1,.ref (fAt mg n1),.ref (fAt mg n2),.int mo,.int de]/\∃ n,Md F L mo de n 0 0 [x.1] x.2) λx=>.bl x.2
theorem Dt(T:Tx K mg base a){n1 t:Str}{I D:Spw}{F:W->Bool->Prop}{L:W->List W->Prop}{mo de:Nat}(X:Df P w K mg base n1 j 1 I)(O:Df P w K mg base t i 1 D)(hi:i < j)(B:PJ I F)(Y:Kc D L):Df P w K mg base "is_made_of" (j+1) 5 (ce mg n1 t F L mo de):=by
 refine mk0 T.aP rfl Pu A7 ((by rintro R G Q E ⟨x,⟨e,_⟩,_⟩;rw[e];rfl)) (bS T X (Yr _) (GH T O Y) hi) λR G Q E r q=>?_
 obtain⟨⟨x,b⟩,⟨rfl,n,s⟩,q⟩:=q
 dsimp only at s q
 refine And.intro (show 1<=sizeLine by decide) λp S=>?_
 refine Exists.intro (λm ω H=>∃(l:List W)(p:Addr)(c d:Nat),ω=[some x,some (.ref (fAt mg n1)),some (.ref (fAt mg t)),some (.int mo),some (.int de),some (.ref p),some (.int c),some (.int d)]/\H p=some (.lst l)/\Sub G H/\Md F L mo de m c d l b) ⟨⟨n,[x],p,0,0,rfl,Au,AF S,s⟩,?_⟩
 rintro m ω G1 ⟨l,p,c,d,rfl,hl,k,s⟩
 walk_at "rd"
 simp only[hl,Ap]
 have A:∀(y:W)(l:List W),decide ((0:Int) <((y::l).length:Nat))=true:=λy l=>YH (by rw[Yg];lia)
 cases s with
 | nil=>exact r _ _ _ k q
 | @big _ _ y l J h =>
  rw[if_pos (A y l)]
  by_cases g:(mo:Int) < c+((y::l).length:Nat)
  ·rw[if_pos (YH g),if_pos trivial];exact r _ _ _ k q
  ·rw[Yg]at g
   rw[Yg,if_neg (by rw[YO];exact g),if_pos (YH (by lia))];exact r _ _ _ k q
 | @bad _ _ y l bs J h1 h2 o u =>
  rw[if_pos (A y l),if_neg (by rw[YO,Yg];lia),if_neg (by rw[YO];lia)]
  refine PK B hl o none [] (by rw[o.len,Yg,Yi];lia) λp1 f=>?_
  simp only[Yw,B9 Au,Option.bind_some,Dr,YD,Ap,u,YM,if_true]
  exact r _ _ _ (Bb k f) q
 | @step n _ _ y l bs v _ J h1 h2 o u Z U N =>
  rw[if_pos (A y l),if_neg (by rw[YO,Yg];lia),if_neg (by rw[YO];lia)]
  refine PK B hl o none [] (by rw[o.len,Yg,Yi];lia) λp1 f=>?_
  simp only[Yw,B9 Au,Option.bind_some,Dr,YD,Ap,u,YF,Yq,if_false]
  refine⟨(y::l,v),⟨p,rfl,AF f _ _ hl,Z,U⟩,λp2 z=>⟨n,Nat.lt_succ_self n,_,p2,_,_,?_,Au,Bb (Bb k f) z,N⟩⟩
  simp only[Yg,Int.natCast_add,Int.natCast_one]
theorem Ke{α:Type}{enc:α->W}{kids:α->List α}{cl a:List α->Nat}{F:W->Bool->Prop}{L:W->List W->Prop}{mo de:Nat}{ok:α->Prop}(f:∀ l,cl l=l.length+cl (l.flatMap kids))(q:∀ l,l≠[]->a l=1+a (l.flatMap kids))(p:cl []=0)(t:a []=0)(h:∀ x,ok x->F (enc x) true/\L (enc x) ((kids x).map enc)/\∀ y∈kids x,ok y):∀(n:Nat)(l:List α)(c d:Nat),a l<=n->(∀ x∈l,ok x)->cl l<=1000->c<=mo->d<=de->∃ m,Md F L mo de m c d (l.map enc) (decide (c+cl l<=mo/\d+a l<=de))
 | _,[],c,d,_,_,_,hc,hd=>⟨0,by
  rw[YH (show c+cl []<=mo/\d+a []<=de by rw[p,t];exact⟨hc,hd⟩)];exact .nil⟩
 | n,x::l,c,d,o,i,hl,hc,hd=>by
  have h1:=f (x::l)
  have h2:=q (x::l) (by simp)
  have u:=f ((x::l).flatMap kids)
  have e:(l.map enc).length=l.length:=Yh _
  rw[Yg]at h1
  by_cases g:mo < c+(l.length+1)\/de < d+1
  ·rw[Qg (by lia)]
   exact⟨0,.big (by lia) (by rw[e];exact g)⟩
  ·match n,o with
   | 0,o=>lia
   | n+1,o =>
   obtain⟨m,r⟩:=Ke (mo:=mo) (de:=de) f q p t h n ((x::l).flatMap kids) (c+(l.length+1)) (d+1) (by lia) (λy j=>by obtain⟨z,b,j⟩:=List.mem_flatMap.mp j;exact(h z (i z b)).2.2 y j) (by lia) (by lia) (by lia)
   rw[show decide (c+(l.length+1)+cl ((x::l).flatMap kids)<=mo/\d+1+a ((x::l).flatMap kids)<=de)=decide (c+cl (x::l)<=mo/\d+a (x::l)<=de) by rw[decide_eq_decide];lia]at r
   have s:((x::l).map λk=>(kids k).map enc).flatten=((x::l).flatMap kids).map enc:=by rw[List.map_flatMap];rfl
   refine⟨m+1,Md.step (bs:=(x::l).map λ_=>true) (by lia) (by rw[e];lia) (by lia) (Al.map (l:=x::l) (e:=enc) λz b=>(h z (i z b)).1) (by simp) (Al.map (l:=x::l) (e:=enc) λz b=>(h z (i z b)).2.1) ?_ ?_⟩
   ·rw[s,Yh];lia
   ·rw[s,e];exact r
def BF(k:Kd):Bool:=decide (k.cnt<=40/\k.dp<=8)
def KLs(x:W)(ps:List W):Prop:=∃ k:Kd,x=k.enc/\k.cnt<=20000/\ps=k.kids.map Kd.enc
def KB(x:W)(b:Bool):Prop:=(∃ k:Kd,x=k.enc/\k.ok=true/\k.cnt<=1000/\b=BF k)\/(noK x/\b=false)
variable {b:Bool}
theorem cf{x:W}(h:KB x b):∃ m,Md KFm KLs 40 8 m 0 0 [x] b:=by
 rcases h with⟨k,rfl,d,hc,rfl⟩|⟨h,rfl⟩
 ·have z:=Ke (F:=KFm) (L:=KLs) (mo:=40) (de:=8) (ok:=λk:Kd=>k.ok=true/\k.cnt<=1000) Ob Oc rfl rfl (λk h=>⟨.inl ⟨k,rfl,h.1,h.2,rfl⟩,⟨k,rfl,by have:=h.2;lia,rfl⟩,λy a=>⟨aF h.1 y a,by have:=h.2;have:=Jq k;have:=Oe a;lia⟩⟩) k.dp [k] 0 0 (by show max k.dp 0<=_;lia) (λx c=>by rw[YA.mp c];exact⟨d,hc⟩) (by show k.cnt+0<=_;lia) (by decide) (by decide)
  rw[show decide (0+Bc [k]<=40/\0+dpL [k]<=8)=BF k by unfold BF;rw[decide_eq_decide];show 0+(k.cnt+0)<=40/\0+max k.dp 0<=8↔_;lia]at z
  exact z
 ·exact⟨0,.bad (bs:=[false]) (by decide) (by decide) (by decide) (.cons (.inr ⟨h,rfl⟩) .nil) rfl⟩
abbrev cg:Spw:=spR (λ(x:W×Bool)ws _=>ws=[x.1]/\KB x.1 x.2) λx=>.bl x.2
theorem GK(T:Tx K mg base a):Df P w K mg base "is_kind" 7 1 cg:=by
 refine mk0 T.aQ rfl Pw A7 ((by rintro d G Q E ⟨x,⟨e,_⟩,_⟩;rw[e];rfl)) (bU T (Fy T) (by lia) (Fz T) (by lia) (Dt T (F:=KFm) (L:=KLs) (mo:=40) (de:=8) (Fy T) (Fz T) (by lia) (λx b G Q E h q=>⟨(x,b),⟨rfl,h⟩,q⟩) (λx ps G Q E⟨k,e,hc,c⟩q=>⟨k,⟨by rw[e],hc⟩,by rw[c]at q;exact q⟩)) (Yr _)) λd G Q E f q=>?_
 walk_at "pi"
 exact Exists.intro (x,b) ⟨⟨rfl,cf h⟩,q⟩
set_option hygiene false in
set_option hygiene false in
set_option hygiene false in
set_option hygiene false in
set_option hygiene false in
abbrev PL:List Str:=["word"]
theorem PM:Ay PL ["word"] (Aq JA):=by walk_at "s"
def PN:GS:=(Ai (Gk AB (Ab 0)))
theorem ci(T:Tx K mg base a):Dn P w K mg base PL "form_of" JA k (PN):=λ{f cdv A outer s H E}hr=>
 have hu:=AT hr
 have hN:=PM.nd
 (AR (Ba (aq T.OO rfl rfl rfl rfl rfl rfl rfl (by walk_at "v"))))
abbrev Kf:List Str:=["term"]
theorem PP:Ay Kf ["term"] (Aq JB):=by walk_at "s"
def Kg(CV:Spw):GS:=(Af (gIf (gTB (Ad (Ag (eqF false)) (Ad (Ag ixW) (Ab 0) (gC (.int 0))) (gC (.str "rec")))) (Ai (AI (AO (Ad (Ag ixW) (Ab 0) (gC (.int 1)))) 1 (gNm 0) AJ (Ad (Ag ixW) (Ab 0) (gC (.int 1))))) Ao) (Ai (AI (ER (Aa (Ah CV XF (Aa (Ad (Ag ixW) (Ab 0) (gC (.int 0))) Ac)) (Aa (Ck (Ab 0) (Bl (gC (.int 1))) Bk) Ac))) 2 (A9 0 1) (gTB (Ad (Ag (eqF false)) (Ab 0) (gC (.str "term")))) (Ab 1))))
variable {CV:Spw}
theorem cj(T:Tx K mg base a){Du:Nat}(ck:Df P w K mg base "form_of" Du 1 CV)(cm:Du<=k):Dn P w K mg base Kf "parts_of" JB k (Kg CV):=λ{f cdv A outer s H E}hr=>
 have hu:=AT hr
 have hN:=PP.nd
 (AC (Dj (by walk_at "v") (AR (Ba (BD (Nc:=["field"]) rfl (BB rfl (by decide +kernel) (by decide +kernel)) (λ_=>rfl) (by walk_at "v") (BX (i:=0) (by decide) rfl rfl) (λC fp s1 H1=>Bs) (λC fp s1 H1=>(by walk_at "v"))))) DW) (AR (Ba (BD (Nc:=["sort","thing"]) rfl (BB rfl (by decide +kernel) (by decide +kernel)) (λ_=>rfl) (NA T.J0 rfl rfl rfl (by walk_at "v")) (IF (i:=0) (j:=1) rfl (by decide) rfl rfl rfl rfl) (λC fp s1 H1=>(by walk_at "v")) (λC fp s1 H1=>(by walk_at "v"))))))
abbrev PQ:List Str:=["thing"]
theorem PR:Ay PQ ["thing"] (Aq JC):=by walk_at "s"
def PU:GS:=(Af (gIf (gOr (gNt (AX (AV "int" (Ab 0)))) (AX (AV "bool" (Ab 0)))) (Ai (gC (.bl false))) Ao) (Ai (BZ (AS (λi j=>decide (i<=j)) (λa b=>!A2 b a)) (AS (λi j=>decide (i<=j)) (λa b=>!A2 b a)) (ES (gC (.int 99999999999999999999))) (Ab 0) (gC (.int 99999999999999999999)))))
theorem cn(T:Tx K mg base a):Dn P w K mg base PQ "is_number" JC k (PU):=λ{f cdv A outer s H E}hr=>
 have hu:=AT hr
 have hN:=PR.nd
 (AC (by walk_at "v") (AR (Ba (MI IR IR rfl (NP (by walk_at "v")) (by walk_at "v") (by walk_at "v")))))
abbrev PV:List Str:=["thing"]
theorem PX:Ay PV ["thing"] (Aq JD):=by walk_at "s"
def PY(BQ:Spw):GS:=(Ai (Bn (AV "tuple" (Ab 0)) (Bn (Ad (Ag (eqF false)) (gB (rF AM) (Aa (Ab 0) Ac)) (gC (.int 2))) (Ah BQ XF (Aa (Ad (Ag ixW) (Ab 0) (gC (.int 0))) Ac)))))
theorem cp(T:Tx K mg base a){Cb:Nat}(Pc:Df P w K mg base "is_name" Cb 1 BQ)(Pd:Cb<=k):Dn P w K mg base PV "is_term_field" JD k (PY BQ):=by
 have hN:=PX.nd
 walk_at "z"
abbrev PZ:List Str:=["thing"]
theorem P0:Ay PZ ["thing"] (Aq JE):=by walk_at "s"
def Kh(GL:Spw)(CT:Spw):GS:=(Af (gIf (gNt (AX (AV "tuple" (Ab 0)))) (Ai (gC (.bl false))) Ao) (Ai (Bn (gB (rF BC) (Aa (AI (AO (Ab 0)) 1 (gNm 0) AJ (Ah GL XF (Aa (Ab 0) Ac))) Ac)) (Ah CT XF (Aa (AI (AO (Ab 0)) 1 (gNm 0) AJ (Ad (Ag ixW) (Ab 0) (gC (.int 0)))) Ac)))))
theorem cq(T:Tx K mg base a){GM:Nat}{GL:Spw}(fG:Df P w K mg base "is_term_field" GM 1 GL)(fH:GM<=k){Ds:Nat}(J2:Df P w K mg base "names_rise" Ds 1 CT)(J3:Ds<=k):Dn P w K mg base PZ "are_term_fields" JE k (Kh GL CT):=λ{f cdv A outer s H E}hr=>
 have hu:=AT hr
 have hN:=P0.nd
 (AC (by walk_at "v") (AR (Ba (IJ (B0 D6 (D1 rfl) rfl T.Ef (by decide) rfl rfl rfl (AL rfl (BD (Nc:=["part"]) rfl (BB rfl (by decide +kernel) (by decide +kernel)) (λ_=>rfl) (by walk_at "v") (BX (i:=0) (by decide) rfl rfl) (λC fp s1 H1=>Bs) (λC fp s1 H1=>(by walk_at "v"))) Bf)) (II (BY J2 (hr.mono J3) rfl CO rfl rfl rfl (AL rfl (BD (Nc:=["part"]) rfl (BB rfl (by decide +kernel) (by decide +kernel)) (λ_=>rfl) (by walk_at "v") (BX (i:=0) (by decide) rfl rfl) (λC fp s1 H1=>Bs) (λC fp s1 H1=>(by walk_at "v"))) Bf)))))))
abbrev P1:List Str:=["thing","sort"]
theorem P3:Ay P1 ["thing","sort"] (Aq JF):=by walk_at "s"
def P4(GN:Spw)(BQ:Spw)(GP:Spw)(GQ:Spw):GS:=(Af (gIf (gTB (Ad (Ag (eqF false)) (Ab 1) (gC (.str "number")))) (Ai (Ah GN XF (Aa (Ab 0) Ac))) Ao) (Af (gIf (gTB (Ad (Ag (eqF false)) (Ab 1) (gC (.str "truth")))) (Ai (AV "bool" (Ab 0))) Ao) (Af (gIf (gTB (Ad (Ag (eqF false)) (Ab 1) (gC (.str "name")))) (Ai (Ah BQ XF (Aa (Ab 0) Ac))) Ao) (Af (gIf (gTB (Ad (Ag (eqF false)) (Ab 1) (gC (.str "kind")))) (Ai (Ah GP XF (Aa (Ab 0) Ac))) Ao) (Af (gIf (gTB (Ad (Ag (eqF false)) (Ab 1) (gC (.str "fields")))) (Ai (Ah GQ XF (Aa (Ab 0) Ac))) Ao) (Ai (gC (.bl true))))))))
theorem cr(T:Tx K mg base a){GR:Nat}{GN:Spw}(fI:Df P w K mg base "is_number" GR 1 GN)(fJ:GR<=k){Cb:Nat}(Pc:Df P w K mg base "is_name" Cb 1 BQ)(Pd:Cb<=k){GK:Nat}{GP:Spw}(fK:Df P w K mg base "is_kind" GK 1 GP)(fL:GK<=k){GU:Nat}{GQ:Spw}(fM:Df P w K mg base "are_term_fields" GU 1 GQ)(fN:GU<=k):Dn P w K mg base P1 "is_of_sort" JF k (P4 GN BQ GP GQ):=by
 have hN:=P3.nd
 walk_at "z"
abbrev P5:List Str:=["thing","form"]
theorem P6:Ay P5 ["thing"] (Aq JG):=by walk_at "s"
def Ki(CV:Spw)(GV:Spw):GS:=(Af (gIf (gOr (gNt (AX (AV "tuple" (Ab 0)))) (gOr (gTB (Ad (Ag (eqF false)) (gB (rF AM) (Aa (Ab 0) Ac)) (gC (.int 0)))) (gNt (AX (AV "str" (Ad (Ag ixW) (Ab 0) (gC (.int 0)))))))) (Ai (gC (.bl false))) Ao) (Af (Aj 1 (Ah CV XF (Aa (Ad (Ag ixW) (Ab 0) (gC (.int 0))) Ac))) (Af (gIf (gOr (gTB (Ad (Ag (isF false)) (Ab 1) (gC .non))) (gTB (Ad (Ag (eqF true)) (gB (rF AM) (Aa (Ab 0) Ac)) (Ad (AD) (gC (.int 1)) (gB (rF AM) (Aa (Ab 1) Ac)))))) (Ai (gC (.bl false))) Ao) (Ai (gB (rF BC) (Aa (AI (ER (Aa (Ck (Ab 0) (Bl (gC (.int 1))) Bk) (Aa (Ab 1) Ac))) 2 (A9 0 1) AJ (Ah GV XF (Aa (Ab 0) (Aa (Ab 1) Ac)))) Ac))))))
theorem cu(T:Tx K mg base a){Du:Nat}(ck:Df P w K mg base "form_of" Du 1 CV)(cm:Du<=k){GW:Nat}{GV:Spw}(fO:Df P w K mg base "is_of_sort" GW 2 GV)(fP:GW<=k):Dn P w K mg base P5 "has_term_form" JG k (Ki CV GV):=λ{f cdv A outer s H E}hr=>
 have hu:=AT hr
 have hN:=P6.nd
 (AC (by walk_at "v") (AC (by walk_at "v") (AC (by walk_at "v") (AR (Ba (B0 D6 (D1 rfl) rfl T.Ef (by decide) rfl rfl rfl (AL rfl (BD (Nc:=["part","sort"]) rfl (BB rfl (by decide +kernel) (by decide +kernel)) (λ_=>rfl) (NA T.J0 rfl rfl rfl (by walk_at "v")) (IF (i:=0) (j:=1) rfl (by decide) rfl rfl rfl rfl) (λC fp s1 H1=>Bs) (λC fp s1 H1=>(by walk_at "v"))) Bf)))))))
abbrev P7:List Str:=["thing"]
theorem P8:Ay P7 ["thing"] (Aq JH):=by walk_at "s"
def cw(mg:Str->Option Value)(Kj:Spw)(Dv:Spw)(CU:Spw):GS:=(Ai (Ah CU XF (Aa (Ab 0) (Aa (gC (.ref (fAt mg "has_term_form"))) (Aa (gC (.ref (fAt mg "parts_of"))) (Aa (gC (.int 40)) (Aa (gC (.int 10)) Ac)))))))
variable {Dv:Spw}
theorem cx(T:Tx K mg base a){FA:Nat}{Kj:Spw}(cy:Df P w K mg base "has_term_form" FA 1 Kj)(fQ:FA<=k){CW:Nat}(P9:Df P w K mg base "parts_of" CW 1 Dv)(cz:CW<=k){Dt:Nat}(J6:Df P w K mg base "is_made_of" Dt 5 CU)(J7:Dt<=k):Dn P w K mg base P7 "is_term" JH k (cw mg Kj Dv CU):=λ{f cdv A outer s H E}hr=>
 have hu:=AT hr
 have hN:=P8.nd
 (AR (Ba (BY J6 (hr.mono J7) rfl CO rfl rfl rfl (AL rfl (by walk_at "v") (AL rfl (Gi cy rfl rfl) (AL rfl (Gi P9 rfl rfl) (by walk_at "v")))))))
abbrev Qo:List Str:=["thing"]
theorem Qp:Ay Qo ["thing"] (Aq Ft):=by walk_at "s"
def Kk(K:PySem.W.Frag)(a:Adr)(GX:Spw)(E:Addr->Hw->Prop):GS:=(gIf (gNt (AX (Ah GX (λ_=>E) (Aa (Ab 0) Ac)))) (IX a.NoTerm E (Aa (gC (.str "this is no term")) Ac)) Ao)
variable {f:Addr}{cdv:Value}{A:Around}{outer:List Env}{s:Shared}{H:Hp}
theorem cA(T:Tx K mg base a){GY:Nat}{GX:Spw}(cB:Df P w K mg base "is_term" GY 1 GX)(cC:GY<=k){E:XK}(hr:Room k (A.deeper (envOfC "check_term" (Aq Ft) s.heap.objs.size f cdv))):Ssm (cxW P w K mg base Qo "check_term" (Aq Ft) f cdv A outer s H E) (λB=>B=H) (Be Ft) (Kk K a GX (dnX K H E)):=
 have hu:=AT hr
 have hN:=Qp.nd
 (AR (Dj (IL (IK (λ_=>rfl) (BY cB (hr.mono cC) rfl Fb rfl rfl rfl (by walk_at "v")))) (AR (X4 T.J1 T.OA PySem.F.excBase_ValueError rfl rfl rfl rfl (by walk_at "v"))) DW))
abbrev Qq:List Str:=["term"]
theorem Qr:Ay Qq ["term"] (Aq JI):=by walk_at "s"
def Qs(Dv:Spw)(CY:Spw):GS:=(Ai (Ad (AD) (gC (.int 1)) (gB (Cy) (Aa (AI (AO (Ah Dv XF (Aa (Ab 0) Ac))) 1 (gNm 0) AJ (Ah CY XF (Aa (Ab 0) Ac))) Ac))))
variable {CY:Spw}
theorem cD(T:Tx K mg base a){CW:Nat}(P9:Df P w K mg base "parts_of" CW 1 Dv)(cz:CW<=k){Dw:Nat}(Qt:Df P w K mg base "count_of" Dw 1 CY)(Qu:Dw<=k):Dn P w K mg base Qq "count_of" JI k (Qs Dv CY):=λ{f cdv A outer s H E}hr=>
 have hu:=AT hr
 have hN:=Qr.nd
 (AR (Ba (Ea DV (B0 Ja (IT rfl) rfl T.JZ (by decide) rfl rfl rfl (AL rfl (BD (Nc:=["part"]) rfl (BB rfl (by decide +kernel) (by decide +kernel)) (λ_=>rfl) (by walk_at "v") (BX (i:=0) (by decide) rfl rfl) (λC fp s1 H1=>Bs) (λC fp s1 H1=>(by walk_at "v"))) Bf)))))
abbrev Qv:List Str:=["term"]
theorem Qw:Ay Qv ["term"] (Aq Fu):=by walk_at "s"
def Kl(CZ:Spw)(CY:Spw)(E:Addr->Hw->Prop):GS:=(Af (A8 (Ah CZ (λ_=>E) (Aa (Ab 0) Ac))) (Ai (Ah CY (λ_=>E) (Aa (Ab 0) Ac))))
variable {CZ:Spw}
theorem cE(T:Tx K mg base a){Dx:Nat}(Km:Df P w K mg base "check_term" Dx 1 CZ)(Kn:Dx<=k){Dw:Nat}(Qt:Df P w K mg base "count_of" Dw 1 CY)(Qu:Dw<=k){E:XK}(hr:Room k (A.deeper (envOfC "terms_in" (Aq Fu) s.heap.objs.size f cdv))):Ssm (cxW P w K mg base Qv "terms_in" (Aq Fu) f cdv A outer s H E) (λB=>B=H) (Be Fu) (Kl CZ CY (dnX K H E)):=
 have hu:=AT hr
 have hN:=Qw.nd
 (AC (DX rfl (BY Km (hr.mono Kn) rfl Fb rfl rfl rfl (by walk_at "v"))) (AR (Ba (BY Qt (hr.mono Qu) rfl Fb rfl rfl rfl (by walk_at "v")))))
abbrev Qx:List Str:=["term"]
theorem Qy:Ay Qx ["term"] (Aq Fv):=by walk_at "s"
def Qz(CZ:Spw)(GZ:Spw)(E:Addr->Hw->Prop):GS:=(Af (A8 (Ah CZ (λ_=>E) (Aa (Ab 0) Ac))) (Ai (Ah GZ (λ_=>E) (Aa (Ab 0) (Aa NO (Aa (Ae Ac) Ac))))))
theorem cF(T:Tx K mg base a){Dx:Nat}(Km:Df P w K mg base "check_term" Dx 1 CZ)(Kn:Dx<=k){k_kind_of:Nat}{GZ:Spw}(cG:Df P w K mg base "kind_of" k_kind_of 3 GZ)(cH:k_kind_of<=k){E:XK}(hr:Room k (A.deeper (envOfC "judged" (Aq Fv) s.heap.objs.size f cdv))):Ssm (cxW P w K mg base Qx "judged" (Aq Fv) f cdv A outer s H E) (λB=>B=H) (Be Fv) (Qz CZ GZ (dnX K H E)):=
 have hu:=AT hr
 have hN:=Qy.nd
 (AC (DX rfl (BY Km (hr.mono Kn) rfl Fb rfl rfl rfl (by walk_at "v"))) (AR (Ba (BY cG (hr.mono cH) rfl Fb rfl rfl rfl (by walk_at "v")))))
mutual
inductive Te where
 | nd (w:Str) (r:As)
 | raw (v:W)
inductive As where
 | nil | num (i:Int) (r:As)| tru (b:Bool) (r:As)| nam (x:Str) (r:As)| knd (k:Kd) (r:As)| trm (t:Te) (r:As)| fld (f:Fl) (r:As)
inductive Fl where
 | nil | cons (x:Str) (t:Te) (r:Fl)
end
mutual
def Te.enc:Te->W
 | .nd w r=>.tup (.str w::r.enc)
 | .raw v=>v
def As.enc:As->List W
 | .nil=>[]
 | .num i r=>.int i::r.enc
 | .tru b r=>.bl b::r.enc
 | .nam x r=>.str x::r.enc
 | .knd k r=>k.enc::r.enc
 | .trm t r=>t.enc::r.enc
 | .fld f r=>.tup f.enc::r.enc
def Fl.enc:Fl->List W
 | .nil=>[]
 | .cons x t r=>.tup [.str x,t.enc]::r.enc
end
def Fl.names:Fl->List Str
 | .nil=>[]
 | .cons x _ r=>x::r.names
def Fl.terms:Fl->List Te
 | .nil=>[]
 | .cons _ t r=>t::r.terms
def As.sorts:As->List Str
 | .nil=>[]
 | .num _ r=>"number"::r.sorts
 | .tru _ r=>"truth"::r.sorts
 | .nam _ r=>"name"::r.sorts
 | .knd _ r=>"kind"::r.sorts
 | .trm _ r=>"term"::r.sorts
 | .fld _ r=>"fields"::r.sorts
def As.parts:As->List Te
 | .nil=>[]
 | .num _ r=>r.parts
 | .tru _ r=>r.parts
 | .nam _ r=>r.parts
 | .knd _ r=>r.parts
 | .trm t r=>t::r.parts
 | .fld f r=>f.terms++r.parts
def Te.parts:Te->List Te
 | .nd _ r=>r.parts
 | .raw _=>[]
mutual
def Te.cnt:Te->Nat
 | .nd _ r=>1+r.cnt
 | .raw _=>1
def As.cnt:As->Nat
 | .nil=>0
 | .num _ r=>r.cnt
 | .tru _ r=>r.cnt
 | .nam _ r=>r.cnt
 | .knd _ r=>r.cnt
 | .trm t r=>t.cnt+r.cnt
 | .fld f r=>f.cnt+r.cnt
def Fl.cnt:Fl->Nat
 | .nil=>0
 | .cons _ t r=>t.cnt+r.cnt
end
mutual
def Te.dp:Te->Nat
 | .nd _ r=>1+r.dp
 | .raw _=>1
def As.dp:As->Nat
 | .nil=>0
 | .num _ r=>r.dp
 | .tru _ r=>r.dp
 | .nam _ r=>r.dp
 | .knd _ r=>r.dp
 | .trm t r=>max t.dp r.dp
 | .fld f r=>max f.dp r.dp
def Fl.dp:Fl->Nat
 | .nil=>0
 | .cons _ t r=>max t.dp r.dp
end
abbrev NB:Int:=99999999999999999999
mutual
def Te.ok:Te->Bool
 | .nd w r=>decide (KTD.datumAt w AB=some r.sorts)&&r.ok
 | .raw _=>false
def As.ok:As->Bool
 | .nil=>true
 | .num i r=>decide (-NB<=i/\i<=NB)&&r.ok
 | .tru _ r=>r.ok
 | .nam x r=>AA x&&r.ok
 | .knd k r=>(k.ok&&BF k)&&r.ok
 | .trm t r=>t.ok&&r.ok
 | .fld f r=>(Bz f.names&&f.ok)&&r.ok
def Fl.ok:Fl->Bool
 | .nil=>true
 | .cons x t r=>(AA x&&t.ok)&&r.ok
end
def AZ:List Te->Nat
 | []=>0
 | t::r=>t.cnt+AZ r
def tdp:List Te->Nat
 | []=>0
 | t::r=>max t.dp (tdp r)
theorem Ko:∀(l m:List Te),AZ (l++m)=AZ l+AZ m
 | [],m=>by simp[AZ]
 | v::l,m=>by show v.cnt+AZ (l++m)=v.cnt+AZ l+AZ m;rw[Ko l m];lia
theorem Kp:∀(l m:List Te),tdp (l++m)=max (tdp l) (tdp m)
 | [],m=>by simp[tdp]
 | v::l,m=>by show max v.dp (tdp (l++m))=max (max v.dp (tdp l)) (tdp m);rw[Kp l m];lia
theorem QA:∀ f:Fl,f.cnt=AZ f.terms/\f.dp=tdp f.terms
 | .nil=>⟨rfl,rfl⟩
 | .cons _ t r=>by
  obtain⟨a,b⟩:=QA r
  exact⟨by show t.cnt+r.cnt=t.cnt+AZ r.terms;rw[a],by show max t.dp r.dp=max t.dp (tdp r.terms);rw[b]⟩
theorem Dy:∀ r:As,r.cnt=AZ r.parts/\r.dp=tdp r.parts
 | .nil=>⟨rfl,rfl⟩
 | .num _ r=>Dy r
 | .tru _ r=>Dy r
 | .nam _ r=>Dy r
 | .knd _ r=>Dy r
 | .trm t r=>by
  obtain⟨a,b⟩:=Dy r
  exact⟨by show t.cnt+r.cnt=t.cnt+AZ r.parts;rw[a],by show max t.dp r.dp=max t.dp (tdp r.parts);rw[b]⟩
 | .fld f r=>by
  obtain⟨a,b⟩:=Dy r
  obtain⟨c,d⟩:=QA f
  exact⟨by show f.cnt+r.cnt=AZ (f.terms++r.parts);rw[Ko,a,c],by show max f.dp r.dp=tdp (f.terms++r.parts);rw[Kp,b,d]⟩
theorem Eg(t:Te):t.cnt=1+AZ t.parts:=by
 cases t with
 | nd w r=>show 1+r.cnt=_;rw[(Dy r).1];rfl
 | raw v=>rfl
theorem FC(t:Te):t.dp=1+tdp t.parts:=by
 cases t with
 | nd w r=>show 1+r.dp=_;rw[(Dy r).2];rfl
 | raw v=>rfl
theorem G0(t:Te):1<=t.cnt:=by rw[Eg];lia
theorem Kq(t:Te):1<=t.dp:=by rw[FC];lia
theorem Kr:∀ l:List Te,AZ l=l.length+AZ (l.flatMap Te.parts)
 | []=>rfl
 | v::l=>by
  show v.cnt+AZ l=(l.length+1)+AZ ((v::l).flatMap Te.parts)
  rw[YZ,Ko,Kr l,Eg v];lia
theorem Ks:∀ l:List Te,l≠[]->tdp l=1+tdp (l.flatMap Te.parts)
 | [],h=>Qh rfl h
 | [v],_=>by
  show max v.dp 0=1+tdp ([v].flatMap Te.parts)
  rw[YZ,List.flatMap_nil,Yx,FC];lia
 | v::u::l,_=>by
  have a:=Ks (u::l) (by simp)
  show max v.dp (tdp (u::l))=1+tdp ((v::u::l).flatMap Te.parts)
  rw[YZ,Kp,a,FC v];lia
theorem Ha:∀ l:List Te,l.length<=AZ l
 | []=>Yr _
 | v::l=>by have:=Ha l;have:=G0 v;show l.length+1<=v.cnt+AZ l;lia
theorem FD:∀{l:List Te}{v:Te},v∈l->v.cnt<=AZ l
 | u::l,v,h=>by
  show v.cnt<=u.cnt+AZ l
  walk_at "pe"
  ·lia
  ·have:=FD h;lia
theorem QB:∀{l:List Te}{v:Te},v∈l->v.dp<=tdp l
 | u::l,v,h=>by
  show v.dp<=max u.dp (tdp l)
  walk_at "pe"
  ·lia
  ·have:=QB h;lia
theorem Dz:∀ r:As,r.enc.length=r.sorts.length
 | .nil=>rfl
 | .num _ r=>Qf (·+1) (Dz r)
 | .tru _ r=>Qf (·+1) (Dz r)
 | .nam _ r=>Qf (·+1) (Dz r)
 | .knd _ r=>Qf (·+1) (Dz r)
 | .trm _ r=>Qf (·+1) (Dz r)
 | .fld _ r=>Qf (·+1) (Dz r)
theorem QC:∀{f:Fl},f.ok=true->∀ c∈f.terms,c.ok=true
 | .nil,_,c,hc=>by cases hc
 | .cons x t r,h,c,hc=>by
  have h':((AA x&&t.ok)&&r.ok)=true:=h
  walk_at "pc"
  rcases Yo.mp hc with rfl | hc
  ·exact h'.1.2
  ·exact QC h'.2 c hc
theorem Eh:∀{r:As},r.ok=true->∀ c∈r.parts,c.ok=true
 | .nil,_,c,hc=>by cases hc
 | .num i r,h,c,hc=>by
  have h':(decide (-NB<=i/\i<=NB)&&r.ok)=true:=h
  walk_at "pc"
  exact Eh h'.2 c hc
 | .tru _ r,h,c,hc=>Eh (r:=r) h c hc
 | .nam x r,h,c,hc=>by
  have h':(AA x&&r.ok)=true:=h
  walk_at "pc"
  exact Eh h'.2 c hc
 | .knd k r,h,c,hc=>by
  have h':((k.ok&&BF k)&&r.ok)=true:=h
  walk_at "pc"
  exact Eh h'.2 c hc
 | .trm t r,h,c,hc=>by
  have h':(t.ok&&r.ok)=true:=h
  walk_at "pc"
  rcases Yo.mp hc with rfl | hc
  ·exact h'.1
  ·exact Eh h'.2 c hc
 | .fld f r,h,c,hc=>by
  have h':((Bz f.names&&f.ok)&&r.ok)=true:=h
  walk_at "pc"
  rcases Yz.mp hc with hc | hc
  ·exact QC h'.1.2 c hc
  ·exact Eh h'.2 c hc
variable {r:As}
theorem Ei{w:Str}(h:(Te.nd w r).ok=true):KTD.datumAt w AB=some r.sorts/\r.ok=true:=by
 have h':(decide (KTD.datumAt w AB=some r.sorts)&&r.ok)=true:=h
 simp only[YG,YO]at h'
 exact h'
variable {t:Te}
theorem FE(h:t.ok=true):∀ c∈t.parts,c.ok=true:=by
 cases t with
 | nd w r=>exact Eh (Ei h).2
 | raw v=>cases h
def Te.fm:Te->Prop
 | .nd w r=>KTD.datumAt w AB=some r.sorts
 | .raw _=>False
def Hb(x:W):W:=match x with | .tup [_,k]=>k | _=>.non
abbrev QD:Spw:=spR (λ(z:Str)ws _=>ws=[.str z]) λz=>Ec AB z
theorem Du(T:Tx K mg base a):Df P w K mg base "form_of" 1 1 QD:=by
 refine mk0 T.aR rfl PM A7 (λb G Q E⟨x,e,_⟩=>by rw[e];rfl) (ci T) λb G Q E c q=>?_
 obtain⟨z,rfl,q⟩:=q
 unfold PN
 show Gk AB (Ab 0) [some (.str z)] G _
 simp only[Gk,Ab,Yb]
 exact q
variable {ss:List Str}
theorem QE{w:Str}(h:KTD.datumAt w AB=some ss):Ec AB w=.tup (ss.map W.str):=by unfold Ec;rw[h]
theorem Hd{δ:Type}:∀{D:List (Str×δ)}{k:Str}{d:δ},KTD.datumAt k D=some d->(k,d)∈D
 | [],k,d,h=>by cases h
 |(x,e)::D,k,d,h=>by
  have h':(if decide (k=x)=true then some e else KTD.datumAt k D)=some d:=h
  by_cases a:k=x
  ·rw[if_pos (YH a)]at h'
   cases h'
   rw[a];exact Ye
  ·rw[if_neg (by simp[a])]at h'
   exact Yd _ (Hd h')
theorem cI:(AB.all λp=>decide (p.1="rec")||!p.2.contains ("fields":Str))=true:=by decide +kernel
theorem cJ:(AB.all λp=>!decide (p.1="rec")||decide (p.2=[("fields":Str)]))=true:=by decide +kernel
theorem Kt{w:Str}(h:KTD.datumAt w AB=some r.sorts):(w="rec"->∃ f,r=.fld f .nil)/\(w≠"rec"->("fields":Str)∉r.sorts):=by
 have b:=Hd h
 have h1:=List.all_eq_true.mp cI _ b
 have h2:=List.all_eq_true.mp cJ _ b
 simp only[Bool.or_eq_true,Bool.not_eq_true',YO,decide_eq_false_iff_not]at h1 h2
 constructor
 ·intro e
  have a:r.sorts=[("fields":Str)]:=h2.resolve_left λz=>z e
  cases r with
  | fld f r =>
   have c:("fields":Str)::r.sorts=[("fields":Str)]:=a
   injection c with _ h5
   cases r with
   | nil=>exact⟨f,rfl⟩
   | num _ _=>cases h5
   | tru _ _=>cases h5
   | nam _ _=>cases h5
   | knd _ _=>cases h5
   | trm _ _=>cases h5
   | fld _ _=>cases h5
  | nil=>cases a
  | num _ _=>exact Qh (Qe a).1 (by decide +kernel)
  | tru _ _=>exact Qh (Qe a).1 (by decide +kernel)
  | nam _ _=>exact Qh (Qe a).1 (by decide +kernel)
  | knd _ _=>exact Qh (Qe a).1 (by decide +kernel)
  | trm _ _=>exact Qh (Qe a).1 (by decide +kernel)
 ·intro e z
  have a:=h1.resolve_left e
  rw[List.contains_iff_mem.mpr z]at a
  cases a
theorem Ku:∀ f:Fl,f.enc.map Hb=f.terms.map Te.enc
 | .nil=>rfl
 | .cons x t r=>by show t.enc::r.enc.map Hb=t.enc::r.terms.map Te.enc;rw[Ku r]
abbrev gTe:GT:=gTB (Ad (Ag (eqF false)) (Ab 0) (gC (.str "term")))
variable {v:W}
theorem cK{s:Str}{Q:Bool->Hw->Prop}(q:Q (s=="term") G):gTe [some (.str s),some v] G Q:=by
 simp only[gTe,gTB,Ad,Ag,Ab,gC,Yb,BP,Ap]
 cases h:(s=="term")with
 | true=>rw[h]at q;exact q
 | false=>rw[h]at q;exact q
variable {ys:List W}
theorem FG{s:Str}{o o':Option W}(hl:ys.length < 1000)(h:AY yes (A9 0 1) gTe (Ab 1) R zs [some (.str s),some v] G (if(s=="term")=true then ys++[v]else ys)):
  AY yes (A9 0 1) gTe (Ab 1) R (.tup [.str s,v]::zs) [o,o'] G ys:=by
 refine⟨trivial,Fo (by lia),?_⟩
 show gTe [some (.str s),some v] G _
 refine cK ?_
 cases e:(s=="term")with
 | true =>
  rw[e]at h
  rw[if_pos rfl]
  exact h
 | false =>
  rw[e]at h
  rw[if_neg (by decide)]
  exact h
theorem HP{G:Hw}{R:List W->Hw->Prop}:∀(r:As)(o o':Option W)(ys:List W),("fields":Str)∉r.sorts->ys.length+r.enc.length<=1000->R (ys++r.parts.map Te.enc) G->
  AY yes (A9 0 1) gTe (Ab 1) R (Br (r.sorts.map W.str) r.enc) [o,o'] G ys
 | .nil,o,o',ys,_,_,h=>⟨trivial,by have h':R (ys++[]) G:=h;rw[Yx]at h';exact h'⟩
 | .num i r,o,o',ys,a,hl,h=>by
  have b:ys.length+(r.enc.length+1)<=1000:=hl
  refine FG (s:="number") (v:=.int i) (by lia) ?_
  rw[if_neg (by decide +kernel)]
  walk_at "ph"
 | .tru i r,o,o',ys,a,hl,h=>by
  have b:ys.length+(r.enc.length+1)<=1000:=hl
  refine FG (s:="truth") (v:=.bl i) (by lia) ?_
  rw[if_neg (by decide +kernel)]
  walk_at "ph"
 | .nam i r,o,o',ys,a,hl,h=>by
  have b:ys.length+(r.enc.length+1)<=1000:=hl
  refine FG (s:="name") (v:=.str i) (by lia) ?_
  rw[if_neg (by decide +kernel)]
  walk_at "ph"
 | .knd i r,o,o',ys,a,hl,h=>by
  have b:ys.length+(r.enc.length+1)<=1000:=hl
  refine FG (s:="kind") (v:=i.enc) (by lia) ?_
  rw[if_neg (by decide +kernel)]
  walk_at "ph"
 | .trm t r,o,o',ys,a,hl,h=>by
  have b:ys.length+(r.enc.length+1)<=1000:=hl
  refine FG (s:="term") (v:=t.enc) (by lia) ?_
  rw[if_pos (by decide +kernel)]
  refine HP r _ _ _ (λz=>a (Yd _ z)) (by rw[Yj];simp only[Yg,Yi];lia) ?_
  rw[Yv];exact h
 | .fld f r,o,o',ys,a,_,_=>Qh Ye a
theorem Kv:∀ f:Fl,f.enc.length<=f.cnt
 | .nil=>Yr _
 | .cons _ t r=>by have:=Kv r;have:=G0 t;show r.enc.length+1<=t.cnt+r.cnt;lia
theorem cL:(AB.all λp=>decide (p.2.length<=3))=true:=by decide +kernel
theorem QF{w:Str}(h:KTD.datumAt w AB=some r.sorts):r.sorts.length<=3:=of_decide_eq_true (List.all_eq_true.mp cL _ (Hd h))
theorem Kx:∀{f:Fl}{x:W},x∈f.enc->∃ n v,x=.tup [.str n,v]
 | .nil,x,h=>by cases h
 | .cons n t r,x,h=>by
  walk_at "pe"
  ·exact⟨n,t.enc,rfl⟩
  ·exact Kx h
abbrev QG:Spw:=spL (λ(t:Te)ws _=>ws=[t.enc]/\t.fm/\t.cnt<=20000) λt=>t.parts.map Te.enc
theorem cM(b:List W)(G:Hw)(Q:Kw)(E:Addr->Hw->Prop)(_:Kw.C Q)(q:QG b G Q E):Kg QD (Av Q) (A3 Kf b) G:=by
 obtain⟨t,⟨rfl,c,hc⟩,q⟩:=q
 cases t with
 | raw v=>exact c.elim
 | nd w r =>
 have h1:KTD.datumAt w AB=some r.sorts:=c
 have i:=QF h1
 have hl:=Dz r
 unfold Kg
 show Af (gIf _ _ Ao) _ (Av Q) [some (.tup (.str w::r.enc))] G
 simp only[Af,gIf,gTB,Ad,Ag,Ab,gC,Yb,ixW,BE,Ap,BP]
 by_cases e:w="rec"
 ·rw[show(w==("rec":Str))=true by simp[e]]
  obtain⟨f,rfl⟩:=(Kt h1).1 e
  have g:1+(f.cnt+0)<=20000:=hc
  have j:=Kv f
  simp only[show(true != false)=true from rfl,if_true,Ai,AI,AO,Ad,Ag,Ab,gC,Yb,As.enc,ixW,B8,Ap,Av,List.replicate]
  refine Ed (f:=Hb) trivial f.enc none [] (λx d h a=>?_) (by simp only[Yi];exact Bt (by lia)) ?_
  ·obtain⟨n,u,rfl⟩:=Kx d
   show Ad (Ag ixW) (Ab 0) (gC (.int 1)) [some (W.tup [.str n,u])] _ h
   simp only[Ad,Ag,Ab,gC,Yb,ixW,B8,Ap]
   exact a
  ·rw[Yw,Ku]
   have a:∀ p,G p=none->Q (.ref p) (put G p (.lst ((f.terms++[]).map Te.enc))):=q
   rw[Yx]at a
   exact a
 ·rw[show(w==("rec":Str))=false by simpa using e]
  simp only[show(false != false)=false from rfl,Yq,if_false,Ao,Ai,AI,ER,Ah,Ck,Bl,Bk,Aa,Ac,Ad,Ag,Ab,gC,Yb,ixW,BE,Ap,Av,List.replicate]
  refine⟨w,rfl,?_⟩
  show slA (.tup (.str w::r.enc)) (some 1) none G _
  show ∃ xs ys,_
  refine⟨r.sorts.map W.str,r.enc,?_,?_⟩
  ·rw[EU];dsimp only;rw[QE h1];rfl
  ·exact HP r none none [] ((Kt h1).2 e) (by simp only[Yi];lia) (by rw[Yw];exact q)
theorem CW(T:Tx K mg base a):Df P w K mg base "parts_of" 2 1 QG:=mk0 (k:=1) T.aS rfl PP Gn (λb G Q E⟨x,⟨e,_⟩,_⟩=>by rw[e];rfl) (cj T (Du T) (Yr _)) cM
theorem cN:Bq "int" "int"=true:=by decide
theorem QH:Bq "int" "bool"=false:=by decide
theorem QI:Bq "bool" "bool"=true:=by decide
theorem He:Bq "tuple" "tuple"=true:=by decide
theorem cO:Bq "str" "str"=true:=by decide
theorem cP:Bq "bool" "int"=true:=by decide
theorem cQ:Bq "str" "bool"=false:=by decide
theorem cR:Bq "str" "int"=false:=by decide
def NuB(x:W)(b:Bool):Prop:=(∃ i:Int,x=.int i/\b=decide (-NB<=i/\i<=NB))\/(∃ c:Bool,x=.bl c/\b=false)\/(∃ z:Str,x=.str z/\b=false)
abbrev cS:Spw:=spR (λ(x:W×Bool)ws _=>ws=[x.1]/\NuB x.1 x.2) λx=>.bl x.2
theorem GR(T:Tx K mg base a):Df P w K mg base "is_number" 1 1 cS:=by
 refine mk0 T.aT rfl PR A7 (λd G Q E⟨x,⟨e,_⟩,_⟩=>by rw[e];rfl) (cn T) λd G Q E f q=>?_
 walk_at "pi"
 dsimp only at h q
 unfold PU
 rcases h with⟨i,rfl,rfl⟩|⟨c,rfl,rfl⟩|⟨z,rfl,rfl⟩
 ·walk_at "rd"
  simp only[cN,QH,YF,Yq,if_false,ES,gC]
  refine⟨99999999999999999999,rfl,?_⟩
  by_cases h1:-NB<=i
  ·rw[if_pos (YH h1)]
   by_cases h2:i<=NB
   ·rw[YH ⟨h1,h2⟩]at q
    rw[YH (show i<=(99999999999999999999:Int)from h2)];exact q
   ·rw[Qg (λz=>h2 z.2)]at q
    rw[Qg (show ¬ i<=(99999999999999999999:Int)from h2)];exact q
  ·rw[Qg (λz=>h1 z.1)]at q
   rw[if_neg (by rw[YO];exact h1)]
   exact q
 ·walk_at "rd"
  simp only[cP,QI,YF,Yq,if_false,if_true]
  exact q
 ·walk_at "rd"
  simp only[cR,YM,if_true]
  exact q
def TfB(x:W)(b:Bool):Prop:=(∃(n:Str)(u:W),x=.tup [.str n,u]/\n.length<=100/\b=AA n)\/(x=.tup [.str "a"]/\b=false)
abbrev cT:Spw:=spR (λ(x:W×Bool)ws _=>ws=[x.1]/\TfB x.1 x.2) λx=>.bl x.2
theorem GM(T:Tx K mg base a):Df P w K mg base "is_term_field" 3 1 cT:=by
 refine mk0 T.aU rfl PX A7 (λc G Q E⟨x,⟨e,_⟩,_⟩=>by rw[e];rfl) (cp T (Cb T) (Yr _)) λc G Q E d q=>?_
 walk_at "pi"
 dsimp only at h q
 rcases h with⟨n,u,rfl,hl,rfl⟩|⟨rfl,rfl⟩
 ·unfold PY
  walk_at "rd"
  simp only[He,if_true]
  exact .inl ⟨n,⟨rfl,by lia⟩,q⟩
 ·exact Eq.mpr (by kernel_rfl) q
def Ej(l:List (Str×W)):List W:=l.map λx=>.tup [.str x.1,x.2]
def TsB(x:W)(b:Bool):Prop:=(∃ l:List (Str×W),x=.tup (Ej l)/\(∀ y∈l,y.1.length<=100)/\l.length<=1000/\b=(l.all (λy=>AA y.1)&&Bz (l.map (·.1))))\/(x=.tup [.tup [.str "a"]]/\b=false)
abbrev cU:Spw:=spR (λ(x:W×Bool)ws _=>ws=[x.1]/\TsB x.1 x.2) λx=>.bl x.2
theorem GU(T:Tx K mg base a):Df P w K mg base "are_term_fields" 4 1 cU:=by
 refine mk0 T.aV rfl P0 A7 (λn G Q E⟨x,⟨e,_⟩,_⟩=>by rw[e];rfl) (cq T (GM T) (Yr _) (Ds T) (by lia)) λn G Q E i q=>?_
 walk_at "pi"
 dsimp only at h q
 rcases h with⟨l,rfl,o,hl,rfl⟩|⟨rfl,rfl⟩
 ·unfold Kh
  walk_at "rd"
  simp only[He,YF,Yq,if_false]
  refine GJ (enc:=λx:Str×W=>.tup [.str x.1,x.2]) (f:=λx=>.bl (AA x.1)) (cst:=[]) trivial l none [] (λx k m d=>?_) (by simp only[Yi];exact Bt (by lia)) ?_
  ·exact⟨(.tup [.str x.1,x.2],AA x.1),⟨rfl,.inl ⟨x.1,x.2,rfl,o x k,rfl⟩⟩,d⟩
  ·intro p c
   rw[Yw,show(λx:Str×W=>W.bl (AA x.1))=W.bl∘(λx=>AA x.1)from rfl,<- YB]
   simp only[B9 Au,Option.bind_some,Dr,YD,Ap]
   rw[List.all_map]
   cases e:l.all (id∘λx=>AA x.1)with
   | false =>
    have g:l.all (λy=>AA y.1)=false:=e
    rw[g,Bool.false_and]at q
    simp only[Yq,if_false]
    exact i _ _ _ (AF c) q
   | true =>
    have g:l.all (λy=>AA y.1)=true:=e
    rw[g,Bool.true_and]at q
    simp only[if_true]
    refine GJ (enc:=λx:Str×W=>.tup [.str x.1,x.2]) (f:=λx=>.str x.1) (cst:=[]) trivial l none [] (λx k m d=>?_) (by simp only[Yi];exact Bt (by lia)) ?_
    ·show Ad (Ag ixW) (Ab 0) (gC (.int 0)) [some (W.tup [.str x.1,x.2])] _ m
     walk_at "rd"
     exact d
    ·intro p2 j
     rw[Yw]
     refine⟨l.map (·.1),⟨p2,rfl,by rw[Au,YB];rfl,by rw[Yh];lia⟩,?_⟩
     exact i _ _ _ (Bb (AF c) j) q
 ·unfold Kh
  show Af (gIf _ _ Ao) _ (Av Q) [some (.tup [.tup [.str "a"]])] G
  walk_at "rd"
  simp only[He,YF,Yq,if_false]
  refine⟨trivial,by decide,?_⟩
  simp only[gNm,AJ,if_true,Yk,Ab,Yb]
  refine⟨(.tup [.str "a"],false),⟨rfl,.inr ⟨rfl,rfl⟩⟩,trivial,λp c=>?_⟩
  simp only[B9 Au,Option.bind_some,Yw,show Dk [W.bl false]=some [false]from rfl,YD,Ap,show[false].all id=false from rfl,Yq,if_false]
  exact i _ _ _ (AF c) q
def flL:Fl->List (Str×W)
 | .nil=>[]
 | .cons x t r=>(x,t.enc)::flL r
theorem QJ:∀ f:Fl,f.enc=Ej (flL f)
 | .nil=>rfl
 | .cons x t r=>by show _::r.enc=_::Ej (flL r);rw[QJ r]
theorem QK:∀ f:Fl,(flL f).map (·.1)=f.names
 | .nil=>rfl
 | .cons x t r=>by show x::(flL r).map (·.1)=x::r.names;rw[QK r]
theorem QL:∀{f:Fl},f.ok=true->∀ x∈flL f,AA x.1=true
 | .nil,_,x,h=>by cases h
 | .cons n t r,a,x,h=>by
  have h':((AA n&&t.ok)&&r.ok)=true:=a
  walk_at "pc"
  walk_at "pe"
  ·exact h'.1.1
  ·exact QL h'.2 x h
theorem QM:∀ f:Fl,(flL f).length<=f.cnt
 | .nil=>Yr _
 | .cons _ t r=>by have:=QM r;have:=G0 t;show(flL r).length+1<=t.cnt+r.cnt;lia
inductive Os:W->Str->Bool->Prop
 | num {x:W} {b:Bool} (h:NuB x b):Os x "number" b
 | tru (b:Bool):Os (.bl b) "truth" true
 | truB (i:Int):Os (.int i) "truth" false
 | truS (x:Str):Os (.str x) "truth" false
 | nam (x:Str) (h:x.length<=100):Os (.str x) "name" (AA x)
 | namI (i:Int):Os (.int i) "name" false
 | knd {x:W} {b:Bool} (h:KB x b):Os x "kind" b
 | trm (x:W):Os x "term" true
 | fld {x:W} {b:Bool} (h:TsB x b):Os x "fields" b
def Ky:Spw:=λws G Q _=>∃ v s b,ws=[v,.str s]/\Os v s b/\Q (.bl b) G
theorem cV:Spw.M Ky:=(by rintro c G Q a E d h _ ⟨v,s,b,h1,h2,q⟩;exact⟨v,s,b,h1,h2,h _ _ q⟩)
variable {e:GE}
theorem QN{s t:Str}{Ak:GS}(h1:ω[1]?=some (some (.str s)))(h:if s=t then e ω G D.rt else Ak D ω G):Af (gIf (gTB (Ad (Ag (eqF false)) (Ab 1) (gC (.str t)))) (Ai e) Ao) Ak D ω G:=by
 simp only[Af,gIf,gTB,Ad,Ag,Ab,h1,gC,BP,Ap,Ai,Ao]
 by_cases z:s=t
 ·rw[if_pos z]at h
  rw[show(s==t)=true by simp[z]];exact h
 ·rw[if_neg z]at h
  rw[show(s==t)=false by simpa using z];exact h
theorem GW(T:Tx K mg base a):Df P w K mg base "is_of_sort" 8 2 Ky:=by
 refine mk0 (k:=7) T.aW rfl P3 cV (λd G Q E⟨_,_,_,e,_⟩=>by rw[e];rfl) (cr T (GR T) (by lia) (Cb T) (by lia) (GK T) (by lia) (GU T) (by lia)) λd G Q E f q=>?_
 obtain⟨v,s,b,rfl,h,q⟩:=q
 unfold P4
 show Af _ _ (Av Q) [some v,some (.str s)] G
 have no:∀{s t:Str}{e:GE}{Ak:GS}{D:Ew}{ω:Sw},s≠t->ω[1]?=some (some (.str s))->Ak D ω G->Af (gIf (gTB (Ad (Ag (eqF false)) (Ab 1) (gC (.str t)))) (Ai e) Ao) Ak D ω G:=λh h1 h2=>QN h1 (by rw[if_neg h];exact h2)
 have c:∀{s:Str}{e:GE}{Ak:GS}{D:Ew}{ω:Sw},ω[1]?=some (some (.str s))->e ω G D.rt->Af (gIf (gTB (Ad (Ag (eqF false)) (Ab 1) (gC (.str s)))) (Ai e) Ao) Ak D ω G:=λh1 h2=>QN h1 (by rw[if_pos rfl];exact h2)
 cases h with
 | num h=>exact c rfl ⟨(v,b),⟨rfl,h⟩,q⟩
 | tru b =>
  refine no (by decide +kernel) rfl (c rfl ?_)
  simp only[AV,Ab,Yb,tyN,QI,Ap]
  exact q
 | truB b =>
  refine no (by decide +kernel) rfl (c rfl ?_)
  simp only[AV,Ab,Yb,tyN,QH,Ap]
  exact q
 | truS b =>
  refine no (by decide +kernel) rfl (c rfl ?_)
  simp only[AV,Ab,Yb,tyN,cQ,Ap]
  exact q
 | nam x h=>exact no (by decide +kernel) rfl (no (by decide +kernel) rfl (c rfl (.inl ⟨x,⟨rfl,by lia⟩,q⟩)))
 | namI i=>exact no (by decide +kernel) rfl (no (by decide +kernel) rfl (c rfl (.inr ⟨i,rfl,q⟩)))
 | knd h=>exact no (by decide +kernel) rfl (no (by decide +kernel) rfl (no (by decide +kernel) rfl (c rfl ⟨(v,b),⟨rfl,h⟩,q⟩)))
 | trm t=>exact no (by decide +kernel) rfl (no (by decide +kernel) rfl (no (by decide +kernel) rfl (no (by decide +kernel) rfl (no (by decide +kernel) rfl q))))
 | fld h=>exact no (by decide +kernel) rfl (no (by decide +kernel) rfl (no (by decide +kernel) rfl (no (by decide +kernel) rfl (c rfl ⟨(v,b),⟨rfl,h⟩,q⟩))))
def As.prs:As->List (W×Str)
 | .nil=>[]
 | .num i r=>(.int i,"number")::r.prs
 | .tru b r=>(.bl b,"truth")::r.prs
 | .nam x r=>(.str x,"name")::r.prs
 | .knd k r=>(k.enc,"kind")::r.prs
 | .trm t r=>(t.enc,"term")::r.prs
 | .fld f r=>(.tup f.enc,"fields")::r.prs
theorem Ek:∀{r:As},r.ok=true->r.cnt<=1000->∀ x∈r.prs,Os x.1 x.2 true
 | .nil,_,_,x,a=>by cases a
 | .num i r,h,hc,x,a=>by
  have h':(decide (-NB<=i/\i<=NB)&&r.ok)=true:=h
  walk_at "pc"
  walk_at "pf"
  ·exact .num (.inl ⟨i,rfl,h'.1.symm⟩)
  ·exact Ek (r:=r) h'.2 hc x a
 | .tru b r,h,hc,x,a=>by
  walk_at "pf"
  ·exact .tru b
  ·exact Ek (r:=r) h hc x a
 | .nam n r,h,hc,x,a=>by
  have h':(AA n&&r.ok)=true:=h
  walk_at "pc"
  walk_at "pf"
  ·have:=Os.nam n (Yt (J8 h'.1) (by decide));rw[h'.1]at this;exact this
  ·exact Ek (r:=r) h'.2 hc x a
 | .knd k r,h,hc,x,a=>by
  have h':((k.ok&&BF k)&&r.ok)=true:=h
  walk_at "pc"
  walk_at "pf"
  ·have g:k.cnt<=40/\k.dp<=8:=of_decide_eq_true h'.1.2
   exact .knd (.inl ⟨k,rfl,h'.1.1,by lia,h'.1.2.symm⟩)
  ·exact Ek (r:=r) h'.2 hc x a
 | .trm t r,h,hc,x,a=>by
  have h':(t.ok&&r.ok)=true:=h
  have c:t.cnt+r.cnt<=1000:=hc
  walk_at "pc"
  walk_at "pf"
  ·exact .trm _
  ·exact Ek (r:=r) h'.2 (by lia) x a
 | .fld f r,h,hc,x,a=>by
  have h':((Bz f.names&&f.ok)&&r.ok)=true:=h
  have c:f.cnt+r.cnt<=1000:=hc
  walk_at "pc"
  walk_at "pf"
  ·have d:=QL h'.1.2
   refine .fld (.inl ⟨flL f,by rw[<- QJ],λy e=>Yt (J8 (d y e)) (by decide),by have:=QM f;lia,?_⟩)
   rw[QK,h'.1.1,List.all_eq_true.mpr d];rfl
  ·exact Ek (r:=r) h'.2 (by lia) x a
theorem EX:∀ r:As,r.prs.length=r.sorts.length
 | .nil=>rfl
 | .num _ r=>Qf (·+1) (EX r)
 | .tru _ r=>Qf (·+1) (EX r)
 | .nam _ r=>Qf (·+1) (EX r)
 | .knd _ r=>Qf (·+1) (EX r)
 | .trm _ r=>Qf (·+1) (EX r)
 | .fld _ r=>Qf (·+1) (EX r)
theorem QO{G:Hw}{R:List W->Hw->Prop}:∀(l:List (W×Str×Bool))(o o':Option W)(ys:List W),(∀ x∈l,Os x.1 x.2.1 x.2.2)->ys.length+l.length<=1000->R (ys++l.map λx=>.bl x.2.2) G->
  AY yes (A9 0 1) AJ (Ah Ky XF (Aa (Ab 0) (Aa (Ab 1) Ac))) R (l.map λx=>.tup [x.1,.str x.2.1]) [o,o'] G ys
 | [],o,o',ys,_,_,h=>⟨trivial,by rw[List.map_nil,Yx]at h;exact h⟩
 | x::l,o,o',ys,a,hl,h=>by
  rw[Yg]at hl
  refine⟨trivial,Fo (by lia),?_⟩
  simp only[A9,AJ,if_true,Yk,Yl,Ah,Aa,Ac,Ab,Yb,Yc]
  refine⟨x.1,x.2.1,x.2.2,rfl,a x Ye,?_⟩
  refine QO l _ _ _ (λz b=>a z (Yd _ b)) (by rw[Yj];simp only[Yg,Yi];lia) ?_
  rw[Yv];exact h
theorem AE{ge:GE}{Ak:GS}(h:ge ω G λw G1=>Ak D (ω.set i (some w)) G1):Af (Aj i ge) Ak D ω G:=h
theorem FH{c:GT}{s Ak:GS}(h:∀ Z:Bool->Hw->Prop,Z false G->c ω G Z)(h2:Ak D ω G):Af (gIf c s Ao) Ak D ω G:=by
 simp only[Af,gIf]
 refine h _ ?_
 simp only[Yq,if_false,Ao]
 exact h2
def FF(w:Str)(xs:List W)(b:Bool):Prop:=∃ ss,KTD.datumAt w AB=some ss/\((xs.length≠ss.length/\b=false)\/∃ l:List (W×Str×Bool),xs=l.map (·.1)/\ss=l.map (·.2.1)/\(∀ x∈l,Os x.1 x.2.1 x.2.2)/\b=l.all (·.2.2))
def TF0(x:W):Prop:=x=.tup []\/x=.int 1\/x=.tup [.str "nom",.int 1]
def TFm(x:W)(b:Bool):Prop:=(∃ w xs,x=.tup (.str w::xs)/\FF w xs b/\xs.length<=10)\/(TF0 x/\b=false)
abbrev cW:Spw:=spR (λ(x:W×Bool)ws _=>ws=[x.1]/\TFm x.1 x.2) λx=>.bl x.2
theorem QP:∀ l:List (W×Str×Bool),Br (l.map (·.1)) ((l.map (·.2.1)).map W.str)=l.map λx=>.tup [x.1,.str x.2.1]
 | []=>rfl
 | _::l=>Qf (_::·) (QP l)
theorem FA(T:Tx K mg base a):Df P w K mg base "has_term_form" 9 1 cW:=by
 refine mk0 (k:=8) T.aX rfl P6 A7 (λf G Q E⟨_,⟨e,_⟩,_⟩=>by rw[e];rfl) (cu T (Du T) (by lia) (GW T) (by lia)) λf G Q E j q=>?_
 walk_at "pi"
 dsimp only at h q
 rcases h with⟨w,xs,rfl,⟨d,h1,n⟩,g⟩|⟨rfl | rfl | rfl,rfl⟩
 rotate_left
 ·exact Eq.mpr (by kernel_rfl) q
 ·exact Eq.mpr (by kernel_rfl) q
 ·unfold Ki
  show Af (gIf _ _ Ao) _ (Av Q) [some (.tup [.str "nom",.int 1]),none] G
  refine FH (λZ c=>Eq.mpr (by kernel_rfl) c) ?_
  refine AE ?_
  simp only[Ah,Aa,Ac,Ad,Ag,Ab,gC,Yb,ixW,BE,Ap]
  refine⟨"nom",rfl,?_⟩
  exact Eq.mpr (by kernel_rfl) q
 unfold Ki
 show Af (gIf _ _ Ao) _ (Av Q) [some (.tup (.str w::xs)),none] G
 refine FH (λZ c=>?_) ?_
 ·simp only[gOr,gNt,AX,AV,Ab,Yb,tyN,BJ,Ap,He,cO,YF,Yq,if_false,gTB,Ad,Ag,gB,rF,Aa,Ac,AM,BK,gC,Bm,ixW,BE]
  have m:((((W.str w::xs).length:Nat):Int)==0)=false:=by simp only[Yg];simpa using(show ¬ ((xs.length:Int)+1=0) by lia)
  simp only[m,bne_self_eq_false,Yq,if_false]
  exact c
 refine AE ?_
 simp only[Ah,Aa,Ac,Ad,Ag,Ab,gC,Yb,ixW,BE,Ap]
 refine⟨w,rfl,?_⟩
 dsimp only
 rw[QE h1]
 walk_at "pd"
 rcases n with⟨i,rfl⟩|⟨l,rfl,rfl,hl,rfl⟩
 ·simp only[Af,gIf,gOr,gTB,Ad,Ag,Ab,gC,Yb,Yc,isF,Fi,Ap,Yq,if_false,gB,rF,Aa,Ac,AM,BK,AD,L3.Bi]
  rw[if_neg (by decide),Bm,Ap]
  have e:((((W.str w::xs).length:Nat):Int)==1+(((d.map W.str).length:Nat):Int))=false:=by
   rw[Yh,Yg];simpa using(show ¬ ((xs.length:Int)+1=1+d.length) by lia)
  rw[e]
  exact q
 refine FH (λZ c=>?_) ?_
 ·simp only[gOr,gTB,Ad,Ag,Ab,gC,Yb,Yc,isF,Fi,Ap,Yq,if_false,gB,rF,Aa,Ac,AM,BK,AD,L3.Bi]
  rw[if_neg (by decide),Bm,Ap]
  have e:((((W.str w::l.map (·.1)).length:Nat):Int)==1+((((l.map (·.2.1)).map W.str).length:Nat):Int))=true:=by
   rw[Yh,Yh,Yg,Yh];simpa using(show(l.length:Int)+1=1+l.length by lia)
  rw[e]
  exact c
 rw[Yh]at g
 simp only[Ai,gB,rF,AI,ER,Ck,Bl,Bk,Aa,Ac,Ab,gC,Yb,Yc,Av,List.replicate]
 refine⟨l.map (·.1),(l.map (·.2.1)).map W.str,?_,?_⟩
 ·rw[EU];rfl
 rw[QP]
 refine QO l none none [] hl (by simp only[Yi];lia) λp o=>?_
 rw[Yw,show(λx:W×Str×Bool=>W.bl x.2.2)=W.bl∘(λx=>x.2.2)from rfl,<- YB]
 simp only[BC,B9 Au,Option.bind_some,Dr,YD,Ap]
 rw[List.all_map]
 exact j _ _ _ (AF o) q
theorem BR:∀ r:As,r.prs.map (·.1)=r.enc/\r.prs.map (·.2)=r.sorts
 | .nil=>⟨rfl,rfl⟩
 | .num _ r=>⟨Qf (_::·) (BR r).1,Qf (_::·) (BR r).2⟩
 | .tru _ r=>⟨Qf (_::·) (BR r).1,Qf (_::·) (BR r).2⟩
 | .nam _ r=>⟨Qf (_::·) (BR r).1,Qf (_::·) (BR r).2⟩
 | .knd _ r=>⟨Qf (_::·) (BR r).1,Qf (_::·) (BR r).2⟩
 | .trm _ r=>⟨Qf (_::·) (BR r).1,Qf (_::·) (BR r).2⟩
 | .fld _ r=>⟨Qf (_::·) (BR r).1,Qf (_::·) (BR r).2⟩
theorem cX{w:Str}(b:(Te.nd w r).ok=true)(hc:(Te.nd w r).cnt<=1000):FF w r.enc true/\r.enc.length<=10:=by
 obtain⟨h1,h2⟩:=Ei b
 have e:=QF h1
 have d:1+r.cnt<=1000:=hc
 obtain⟨p1,p2⟩:=BR r
 refine⟨⟨r.sorts,h1,.inr ⟨r.prs.map λx=>(x.1,x.2,true),?_,?_,?_,?_⟩⟩,by rw[Dz];lia⟩
 ·rw[YB];exact p1.symm
 ·rw[YB];exact p2.symm
 ·intro x a
  obtain⟨y,c,rfl⟩:=YC.mp a
  exact Ek h2 (by lia) y c
 ·simp
theorem QQ(a:t.ok=true)(hc:t.cnt<=1000):TFm t.enc true:=by
 cases t with
 | nd w r =>
  obtain⟨h1,h2⟩:=cX a hc
  exact .inl ⟨w,r.enc,rfl,h1,h2⟩
 | raw v=>cases a
def tg(t:Te):Prop:=t.ok=true/\t.cnt<=40/\t.dp<=10
def TPs(x:W)(ps:List W):Prop:=∃ t:Te,x=t.enc/\t.fm/\t.cnt<=1000/\ps=t.parts.map Te.enc
inductive OkR:Te->Prop
 | raw {v:W}:TFm v false->OkR (.raw v)
 | nd {w:Str} {r:As}:TFm (Te.nd w r).enc true->KTD.datumAt w AB=some r.sorts->(∀ c∈r.parts,OkR c)->OkR (.nd w r)
inductive EY:Te->Prop
 | raw (v:W):EY (.raw v)
 | part {t c:Te}:c∈t.parts->EY c->EY t
theorem Kz:∀(n:Nat)(t:Te),t.cnt<=n->t.ok=true->t.cnt<=1000->OkR t
 | 0,t,h,_,_=>by have:=G0 t;lia
 | n+1,.raw v,_,h,_=>by cases h
 | n+1,.nd w r,d,b,hc=>.nd (QQ b hc) (Ei b).1 λc a=>by
  have h1:=Eg (.nd w r)
  have h2:=FD (show c∈(Te.nd w r).parts from a)
  exact Kz n c (by lia) (FE b c a) (by lia)
def FI:Te->Bool
 | .nd _ _=>true
 | .raw _=>false
theorem QR(h:OkR t):TFm t.enc (FI t):=by cases h <;> assumption
theorem QS(h:OkR t)(a:FI t=true):t.fm/\∀ c∈t.parts,OkR c:=by
 cases h with
 | raw _=>cases a
 | nd _ h1 h2=>exact⟨h1,h2⟩
theorem QT:∀(n:Nat)(l:List Te)(c d:Nat),tdp l<=n->(∀ x∈l,OkR x)->AZ l<=1000->(∃ x∈l,EY x)->∃ m,Md TFm TPs 40 10 m c d (l.map Te.enc) false
 | _,[],c,d,_,_,_,⟨x,r,_⟩=>by cases r
 | n,x::l,c,d,p,j,hl,i=>by
  have h1:=Kr (x::l)
  have h2:=Ks (x::l) (by simp)
  have e:(l.map Te.enc).length=l.length:=Yh _
  have t:=Ha ((x::l).flatMap Te.parts)
  rw[Yg]at h1
  by_cases g:40 < c+(l.length+1)\/10 < d+1
  ·exact⟨0,.big (by lia) (by rw[e];exact g)⟩
  ·cases b:(x::l).all FI with
   | false =>
    refine⟨0,.bad (bs:=(x::l).map FI) (by lia) (by rw[e];lia) (by lia) (Al.map (l:=x::l) (e:=Te.enc) λz a=>QR (j z a)) ?_⟩
    rw[List.all_map];exact b
   | true =>
    have o:=List.all_eq_true.mp b
    match n,p with
    | 0,p=>lia
    | n+1,p =>
    obtain⟨m,s⟩:=QT n ((x::l).flatMap Te.parts) (c+(l.length+1)) (d+1) (by lia) (λy h=>by obtain⟨z,a,h⟩:=List.mem_flatMap.mp h;exact(QS (j z a) (o z a)).2 y h) (by lia) (by
     obtain⟨y,h,i⟩:=i
     cases i with
     | raw v=>have:=o _ h;cases this
     | part hc i=>exact⟨_,List.mem_flatMap.mpr ⟨y,h,hc⟩,i⟩)
    have q:((x::l).map λk=>k.parts.map Te.enc).flatten=((x::l).flatMap Te.parts).map Te.enc:=by rw[List.map_flatMap];rfl
    refine⟨m+1,Md.step (bs:=(x::l).map FI) (by lia) (by rw[e];lia) (by lia) (Al.map (l:=x::l) (e:=Te.enc) λz a=>QR (j z a)) (by rw[List.all_map];exact b) (Al.map (l:=x::l) (e:=Te.enc) (f:=λk=>k.parts.map Te.enc) λz a=>⟨z,rfl,(QS (j z a) (o z a)).1,by have:=FD a;lia,rfl⟩) ?_ ?_⟩
    ·rw[q,Yh];lia
    ·rw[q,e];exact s
def El(x:W):Prop:=∃ t:Te,x=t.enc/\t.cnt<=1000/\((t.ok=true/\¬ (t.cnt<=40/\t.dp<=10))\/(OkR t/\EY t))
def TB(x:W)(b:Bool):Prop:=(∃ t:Te,x=t.enc/\tg t/\b=true)\/(El x/\b=false)
theorem QU(h:t.ok=true):t.fm:=by
 cases t with
 | nd w r=>exact(Ei h).1
 | raw v=>cases h
theorem QV(c:t.ok=true)(hc:t.cnt<=1000):∃ m,Md TFm TPs 40 10 m 0 0 [t.enc] (decide (t.cnt<=40/\t.dp<=10)):=by
 have z:=Ke (F:=TFm) (L:=TPs) (mo:=40) (de:=10) (ok:=λt:Te=>t.ok=true/\t.cnt<=1000) Kr Ks rfl rfl (λt h=>⟨QQ h.1 h.2,⟨t,rfl,QU h.1,h.2,rfl⟩,λy a=>⟨FE h.1 y a,by have:=h.2;have:=Eg t;have:=FD a;lia⟩⟩) t.dp [t] 0 0 (by show max t.dp 0<=_;lia) (λx b=>by rw[YA.mp b];exact⟨c,hc⟩) (by show t.cnt+0<=_;lia) (by decide) (by decide)
 rw[show decide (0+AZ [t]<=40/\0+tdp [t]<=10)=decide (t.cnt<=40/\t.dp<=10) by rw[decide_eq_decide];show 0+(t.cnt+0)<=40/\0+max t.dp 0<=10↔_;lia]at z
 exact z
theorem cY{x:W}(h:TB x b):∃ m,Md TFm TPs 40 10 m 0 0 [x] b:=by
 rcases h with⟨t,rfl,⟨a,hc⟩,rfl⟩|⟨⟨t,rfl,hc,⟨a,h⟩|⟨h1,h2⟩⟩,rfl⟩
 ·have:=QV a (by lia);rw[YH hc]at this;exact this
 ·have:=QV a hc;rw[Qg h]at this;exact this
 ·exact QT t.dp [t] 0 0 (by show max t.dp 0<=_;lia) (λx c=>by rw[YA.mp c];exact h1) (by show t.cnt+0<=_;lia) ⟨t,Ye,h2⟩
abbrev cZ:Spw:=spR (λ(x:W×Bool)ws _=>ws=[x.1]/\TB x.1 x.2) λx=>.bl x.2
theorem GY(T:Tx K mg base a):Df P w K mg base "is_term" 11 1 cZ:=by
 refine mk0 (k:=10) T.aY rfl P8 A7 ((by rintro f G Q E ⟨x,⟨e,_⟩,_⟩;rw[e];rfl)) (cx T (FA T) (by lia) (CW T) (by lia) (Dt T (F:=TFm) (L:=TPs) (mo:=40) (de:=10) (FA T) (CW T) (by lia) (λx b G Q E h q=>⟨(x,b),⟨rfl,h⟩,q⟩) (λx ps G Q E⟨t,e,c,hc,d⟩q=>⟨t,⟨by rw[e],c,by lia⟩,by rw[d]at q;exact q⟩)) (by lia)) λf G Q E g q=>?_
 walk_at "pi"
 exact Exists.intro (x,b) ⟨⟨rfl,cY h⟩,q⟩
def QW(C:Addr):Spw:=λws G Q E=>(∃ t:Te,ws=[t.enc]/\tg t/\Q .non G)\/∃ x:W,ws=[x]/\El x/\E C G
theorem c0{C:Addr}:Spw.M (QW C):=(by
 rintro b G Q a E c h h' (⟨t,h1,h2,q⟩|⟨t,h1,h2,q⟩)
 ·exact .inl ⟨t,h1,h2,h _ _ q⟩
 ·exact .inr ⟨t,h1,h2,h' _ _ q⟩)
theorem Dx(T:Tx K mg base a):Df P w K mg base "check_term" 12 1 (QW a.NoTerm):=by
 refine mkX (k:=11) T.aZ rfl Qp c0 (by rintro b G Q E (⟨x,e,_⟩|⟨x,e,_⟩) <;> rw[e] <;> rfl) (g:=λE=>Kk K a _ E) (cA T (GY T) (by lia)) λb G Q E c d q=>?_
 unfold Kk
 rcases q with⟨t,rfl,h,q⟩|⟨x,rfl,h,q⟩
 ·walk_at "rd"
  refine⟨(t.enc,true),⟨rfl,.inl ⟨t,rfl,h,rfl⟩⟩,?_⟩
  simp only[YF,Yq,if_false]
  exact q
 ·walk_at "rd"
  refine⟨(x,false),⟨rfl,.inr ⟨h,rfl⟩⟩,?_⟩
  simp only[YM,if_true]
  unfold IX
  walk_at "rd"
  exact⟨by decide,q⟩
theorem KA:∀ a:List Nat,(a.map λc:Nat=>(c:Int)).sum=((a.sum:Nat):Int)
 | []=>rfl
 | c::a=>by rw[Ym,List.sum_cons,List.sum_cons,KA a];lia
theorem QX:∀(a:List Nat)(j:Nat),(a.take j).sum<=a.sum
 | [],j=>by simp
 | c::a,0=>by simp
 | c::a,j+1=>by have:=QX a j;rw[List.take_succ_cons,List.sum_cons,List.sum_cons];lia
theorem QY:∀{a:List Nat}{c:Nat},c∈a->c<=a.sum
 | d::a,c,h=>by
  rw[List.sum_cons]
  walk_at "pe"
  ·lia
  ·have:=QY h;lia
theorem QZ{i:Int}(a:0<=i)(h1:i<=1000000):InLong i:=by unfold InLong;lia
theorem c7(a:List Nat)(h:a.sum<=1000000):PyProof.Rows.SumFits (a.map λc:Nat=>(c:Int)):=by
 intro j b
 rw[Yh]at b
 refine⟨?_,?_⟩
 ·have e:(a.map λc:Nat=>(c:Int)).getD j 0=(a[j]:Int):=by rw[YY,YN,Yp b];rfl
  have:=QY (Qc b)
  rw[e];exact QZ (by lia) (by lia)
 ·rw[<- List.map_take,KA]
  have:=QX a (j+1)
  exact QZ (by lia) (by lia)
theorem c8{a:List Nat}(h:a.sum<=1000000)(b:G p=some (.lst (a.map λc:Nat=>W.int (c:Int))))(q:Q (.int (a.sum:Nat)) G):Cy [.ref p] G Q:=by
 unfold Cy
 simp only[B9 b,Option.bind_some]
 rw[show(a.map λc:Nat=>W.int (c:Int))=(a.map λc:Nat=>(c:Int)).map W.int by rw[YB];rfl,L3.Jo]
 dsimp only
 refine⟨c7 a h,?_⟩
 rw[KA]
 exact q
theorem Q0:∀ l:List Te,AZ l=(l.map Te.cnt).sum
 | []=>rfl
 | t::l=>by rw[Ym,List.sum_cons,<- Q0 l];rfl
theorem FJ(Fx:Fn K mg st x ps)(m:sp.M)(no:∀ a G Q E,¬ sp a G Q E):Df P w K mg base x k ps.length sp:=by
 obtain⟨f,fd,h1,F,c⟩:=Fx
 exact⟨⟨f,fd,_,h1,F.kp,c,rfl,⟨(by rintro vs H Q E ⟨a,G,t,r,q⟩;exact Qh q (no _ _ _ _)),(by rintro A outer s H b d vs Q E _ _ _ _ ⟨a,G,t,r,q⟩;exact Qh q (no _ _ _ _))⟩⟩,m⟩
def Q1:Spw:=λ_ _ _ _=>False
theorem c9:Spw.M Q1:=λ_ _ _ _ _ _ _ _ z=>z
theorem Hf{α:Type}{enc f:α->W}{b:Hw->Prop}{ge:GE}{R:List W->Hw->Prop}{G:Hw}(a:b G):∀(l:List α)(o:Option W)(ys:List W),(∀ x∈l,∀ Q:Kw,Q (f x) G->ge [some (enc x)] G Q)->
  ys.length+l.length<=sizeLine->R (ys++l.map f) G->AY b (gNm 0) AJ ge R (l.map enc) [o] G ys
 | [],o,ys,_,_,r=>⟨a,by simpa using r⟩
 | x::l,o,ys,h,hl,r=>by
  refine⟨a,by simp only[Yg]at hl;lia,?_⟩
  show ge [some (enc x)] G λy d=>AY b (gNm 0) AJ ge R (l.map enc) [some (enc x)] d (ys++[y])
  refine h x Ye _ (Hf a l (some (enc x)) (ys++[f x]) (λy c=>h y (Yd _ c)) ?_ ?_)
  ·simp only[Yj,Yg,Yi]at hl ⊢;lia
  ·simpa[Yv]using r
theorem KC{c:Te}(h:c∈t.parts):c.dp+1<=t.dp:=by rw[FC t];have:=QB h;lia
theorem KD{c:Te}(h:c∈t.parts):c.cnt+1<=t.cnt:=by rw[Eg t];have:=FD h;lia
abbrev da(n:Nat):Spw:=spR (λ(t:Te)ws _=>ws=[t.enc]/\t.ok=true/\t.dp<=n/\t.cnt<=1000) λt=>.int (t.cnt:Nat)
theorem db:1000000<=sizeLine:=by decide
theorem Q2{d:Hw}(e:Sub G d)(l:d p=some (.lst (t.parts.map Te.enc)))(hc:t.cnt<=1000000)(k:Kw.C Q)(h:∀ c∈t.parts,∀ G Q E,Q (.int (c.cnt:Nat)) G->sp [c.enc] G Q E)(q:Q (.int (t.cnt:Nat)) G):
  AY (holds p (t.parts.map Te.enc)) (gNm 0) AJ (Ah sp XF (Aa (Ab 0) Ac)) (λys G2=>∀ r,G2 r=none->Cy [.ref r] (put G2 r (.lst ys)) λw i=>AD (.int 1) w i Q) (t.parts.map Te.enc) [none] d []:=by
 have n:=Eg t
 have hl:=Ha t.parts
 have a:=Q0 t.parts
 refine Hf (enc:=Te.enc) (f:=λc=>.int (c.cnt:Nat)) l t.parts none [] (λx j o g=>h x j _ _ _ g) (by simp only[Yi];exact Yt (m:=1000000) (by lia) db) λp2 b=>?_
 rw[Yw,show(t.parts.map λc=>W.int (c.cnt:Nat))=(t.parts.map Te.cnt).map λc:Nat=>W.int (c:Int) by rw[YB];rfl]
 refine c8 (by lia) Au ?_
 show Q (.int (1+((t.parts.map Te.cnt).sum:Nat))) _
 rw[<- a,show(1:Int)+((AZ t.parts:Nat):Int)=((t.cnt:Nat):Int) by lia]
 exact k _ _ _ (Bb e b) q
theorem Dw(T:Tx K mg base a):∀ n:Nat,Df P w K mg base "count_of" (n+2) 1 (da n)
 | 0=>FJ T.Oi A7 λd G Q E⟨t,⟨_,_,hd,_⟩,_⟩=>by have:=Kq t;lia
 | n+1=>by
  refine mk0 (k:=n+2) T.Oi rfl Qr A7 (λd G Q E⟨x,⟨e,_⟩,_⟩=>by rw[e];rfl) (cD T (CW T) (by lia) (Dw T n) (Yr _)) λd G Q E g q=>?_
  obtain⟨t,⟨rfl,f,hd,hc⟩,q⟩:=q
  unfold Qs
  simp only[Ai,Ad,gC,gB,AI,AO,Aa,Ac]
  refine⟨t,⟨rfl,QU f,by lia⟩,λp h=>?_⟩
  simp only[Au]
  exact Q2 (AF h) Au (by lia) g (λc b G Q E q=>⟨c,⟨rfl,FE f c b,by have:=KC b;lia,by have:=KD b;lia⟩,q⟩) q
def Q3(C:Addr):Spw:=λws G Q E=>(∃ t:Te,ws=[t.enc]/\tg t/\Q (.int (t.cnt:Nat)) G)\/∃ x:W,ws=[x]/\El x/\E C G
theorem df{C:Addr}:Spw.M (Q3 C):=(by
 rintro b G Q a E c h h' (⟨t,h1,h2,q⟩|⟨t,h1,h2,q⟩)
 ·exact .inl ⟨t,h1,h2,h _ _ q⟩
 ·exact .inr ⟨t,h1,h2,h' _ _ q⟩)
theorem DA(T:Tx K mg base a):Df P w K mg base "terms_in" 13 1 (Q3 a.NoTerm):=by
 refine mkX (k:=12) T.a6 rfl Qw df (by rintro b G Q E (⟨x,e,_⟩|⟨x,e,_⟩) <;> rw[e] <;> rfl) (g:=λE=>Kl _ _ E) (cE T (Dx T) (by lia) (Dw T 10) (by lia)) λb G Q E c d q=>?_
 unfold Kl
 rcases q with⟨t,rfl,h,q⟩|⟨x,rfl,h,q⟩
 ·exact .inl ⟨t,rfl,h,t,⟨rfl,h.1,h.2.2,by have:=h.2.1;lia⟩,q⟩
 ·exact .inr ⟨x,rfl,h,q⟩
def Q4(C:Addr):Spw:=λws G Q E=>∃ x:W,ws=[x]/\El x/\E C G
theorem dg{C:Addr}:Spw.M (Q4 C):=(by rintro b G Q a E c h h' ⟨t,h1,h2,q⟩;exact⟨t,h1,h2,h' _ _ q⟩)
theorem Hg(T:Tx K mg base a):Df P w K mg base "judged" 13 1 (Q4 a.NoTerm):=by
 refine mkX (k:=12) T.a7 rfl Qy dg (by rintro b G Q E ⟨x,e,_⟩;rw[e];rfl) (g:=λE=>Qz _ Q1 E) (cF T (Dx T) (by lia) (FJ T.a8 c9 λ_ _ _ _ h=>h) (YU _)) λb G Q E c d q=>?_
 obtain⟨x,rfl,h,q⟩:=q
 exact .inr ⟨x,rfl,h,q⟩
set_option hygiene false in
set_option hygiene false in
set_option hygiene false in
set_option hygiene false in
set_option hygiene false in
abbrev Q5:List Str:=["script","k"]
theorem Q6:Ay Q5 ["script","k"] (Aq JJ):=by walk_at "s"
def Q7:GS:=(Af (gIf (gTB (Ad (AS (λi j=>decide (i < j)) A2) (Ab 1) (gB (rF AM) (Aa (Ab 0) Ac)))) (Ai (Ad (Ag ixW) (Ab 0) (Ab 1))) Ao) (Ai (gC (.int 0))))
theorem dh(T:Tx K mg base a):Dn P w K mg base Q5 "_law_cell_at" JJ k (Q7):=by
 have hN:=Q6.nd
 walk_at "z"
abbrev Q8:List Str:=["found"]
theorem Q9:Ay Q8 ["found"] (Aq JK):=by walk_at "s"
def di:GS:=(Ai (Bn (AV "int" (Ab 0)) (Cu (AV "bool" (Ab 0)))))
theorem dj(T:Tx K mg base a):Dn P w K mg base Q8 "_law_whole" JK k (di):=by
 have hN:=Q9.nd
 walk_at "z"
abbrev Ra:List Str:=["script","k","cell"]
theorem Rb:Ay Ra ["script","k"] (Aq JL):=by walk_at "s"
def Rc(Hh:Spw):GS:=(Af (Aj 2 (Ah Hh XF (Aa (Ab 0) (Aa (Ab 1) Ac)))) (Af (gIf (gTB (Ad (AU λi j=>decide (j<=i)) (Ab 2) (Ad (Az Dc λi j=>i ^ j.toNat) (gC (.int 10)) (gC (.int 18))))) (Ai (An (Aa (Ad (Az (λ_ _=>True) λi j=>i - j) (Ab 2) (Ad (Az Dc λi j=>i ^ j.toNat) (gC (.int 10)) (gC (.int 18)))) (Aa (gC (.bl true)) Ac)))) Ao) (Ai (An (Aa (Ad (Az (λ_ j=>0 < j) λi j=>i % j) (Ab 2) (gC (.int 2147483647))) (Aa (gC (.bl false)) Ac))))))
theorem dk(T:Tx K mg base a){Hi:Nat}{Hh:Spw}(fR:Df P w K mg base "_law_cell_at" Hi 2 Hh)(fS:Hi<=k):Dn P w K mg base Ra "_law_state" JL k (Rc Hh):=by
 have hN:=Rb.nd
 walk_at "z"
abbrev Re:List Str:=["state","many","mixed","found"]
theorem Rf:Ay Re ["state","many"] (Aq JM):=by walk_at "s"
def Rg:GS:=(Af (gIf (AX (Ad (Ag ixW) (Ab 0) (gC (.int 1)))) (Af (Aj 3 (Ad (Az (λ_ j=>0 < j) λi j=>i % j) (Ad (Ag ixW) (Ab 0) (gC (.int 0))) (Ab 1))) (Af (BL (Ad (Az DO λi j=>i / j) (Ad (Ag ixW) (Ab 0) (gC (.int 0))) (Ab 1)) (Ab 0) (gC (.int 0))) (Ai (Ab 3)))) Ao) (Af (BL (Ad (Az (λ_ j=>0 < j) λi j=>i % j) (Ad (AD) (Ad (BO) (Ad (Ag ixW) (Ab 0) (gC (.int 0))) (gC (.int 48271))) (gC (.int 29))) (gC (.int 2147483647))) (Ab 0) (gC (.int 0))) (Af (Aj 2 (Ad (Az (λ_ j=>0 < j) λi j=>i % j) (Ad (AD) (Ad (AD) (Ad (BO) (Ad (Ag ixW) (Ab 0) (gC (.int 0))) (Ad (Ag ixW) (Ab 0) (gC (.int 0)))) (Ad (BO) (gC (.int 39373)) (Ad (Ag ixW) (Ab 0) (gC (.int 0))))) (gC (.int 7))) (gC (.int 2147483629)))) (Af (Aj 2 (Ad (Az (λ_ j=>0 < j) λi j=>i % j) (Ad (AD) (Ad (BO) (Ab 2) (Ab 2)) (Ad (BO) (gC (.int 16807)) (Ab 2))) (gC (.int 2147483587)))) (Ai (Ad (Az (λ_ j=>0 < j) λi j=>i % j) (Ad (Az DO λi j=>i / j) (Ab 2) (gC (.int 8))) (Ab 1)))))))
theorem dq(T:Tx K mg base a):Dn P w K mg base Re "_law_choice" JM k (Rg):=by
 have hN:=Rf.nd
 walk_at "z"
abbrev Rh:List Str:=["state","num","plain","some"]
theorem Ri:Ay Rh ["state"] (Aq JN):=by walk_at "s"
def Rj(Aw:Spw):GS:=(Af (Aj 1 (Ae (Aa (gC (.str "num")) Ac))) (Af (Aj 2 (Ae (Aa (gC (.str "to")) (Aa (Ab 1) (Aa (Ab 1) Ac))))) (Af (Aj 3 (An (Aa (Ab 1) (Aa (Ab 1) (Aa (Ae (Aa (gC (.str "truth")) Ac)) (Aa (Ae (Aa (gC (.str "any")) Ac)) (Aa (Ae (Aa (gC (.str "box")) (Aa (Ab 1) Ac))) (Aa (Ae (Aa (gC (.str "box")) (Aa (Ae (Aa (gC (.str "any")) Ac)) Ac))) (Aa (Ab 2) (Aa (Ae (Aa (gC (.str "to")) (Aa (Ae (Aa (gC (.str "any")) Ac)) (Aa (Ab 1) Ac)))) Ac)))))))))) (Af (Aj 3 (Ad (AD) (Ab 3) (An (Aa (Ae (Aa (gC (.str "row")) (Aa (Ae (Aa (Ae (Aa (gC (.str "a")) (Aa (gC (.str "must")) (Aa (Ab 1) Ac)))) Ac)) (Aa (gC (.bl false)) Ac)))) (Aa (Ae (Aa (gC (.str "row")) (Aa (Ae (Aa (Ae (Aa (gC (.str "a")) (Aa (gC (.str "may")) (Aa (Ab 1) Ac)))) (Aa (Ae (Aa (gC (.str "b")) (Aa (gC (.str "must")) (Aa (Ab 1) Ac)))) Ac))) (Aa (gC (.bl false)) Ac)))) Ac))))) (Af (Aj 3 (Ad (AD) (Ab 3) (An (Aa (Ae (Aa (gC (.str "row")) (Aa (Ae Ac) (Aa (gC (.bl true)) Ac)))) (Aa (Ae (Aa (gC (.str "row")) (Aa (Ae (Aa (Ae (Aa (gC (.str "a")) (Aa (gC (.str "must")) (Aa (Ae (Aa (gC (.str "truth")) Ac)) Ac)))) Ac)) (Aa (gC (.bl true)) Ac)))) (Aa (Ae (Aa (gC (.str "to")) (Aa (Ab 2) (Aa (Ab 1) Ac)))) Ac)))))) (Af (Aj 3 (Ad (AD) (Ab 3) (An (Aa (Ae (Aa (gC (.str "to")) (Aa (Ab 1) (Aa (Ab 2) Ac)))) (Aa (Ae (Aa (gC (.str "box")) (Aa (Ab 2) Ac))) (Aa (Ae (Aa (gC (.str "row")) (Aa (Ae (Aa (Ae (Aa (gC (.str "a")) (Aa (gC (.str "must")) (Aa (Ab 2) Ac)))) (Aa (Ae (Aa (gC (.str "b")) (Aa (gC (.str "may")) (Aa (Ab 1) Ac)))) Ac))) (Aa (gC (.bl true)) Ac)))) Ac)))))) (Af (Aj 3 (Ad (AD) (Ab 3) (An (Aa (Ae (Aa (gC (.str "row")) (Aa (Ae (Aa (Ae (Aa (gC (.str "b")) (Aa (gC (.str "may")) (Aa (Ae (Aa (gC (.str "any")) Ac)) Ac)))) Ac)) (Aa (gC (.bl false)) Ac)))) (Aa (Ae (Aa (gC (.str "to")) (Aa (Ae (Aa (gC (.str "row")) (Aa (Ae Ac) (Aa (gC (.bl true)) Ac)))) (Aa (Ae (Aa (gC (.str "any")) Ac)) Ac)))) Ac))))) (Ai (Ad (Ag ixW) (Ab 3) (Ah Aw XF (Aa (Ab 0) (Aa (gC (.int 18)) Ac))))))))))))
variable {Aw:Spw}
theorem dr(T:Tx K mg base a){AH:Nat}(DB:Df P w K mg base "_law_choice" AH 2 Aw)(DC:AH<=k):Dn P w K mg base Rh "_law_told_kind" JN k (Rj Aw):=by
 have hN:=Ri.nd
 walk_at "z"
abbrev Rk:List Str:=["state","deep","names","want","name","kind"]
theorem Rl:Ay Rk ["state","deep","names","want"] (Aq JO):=by walk_at "s"
def Rm(Aw:Spw)(C1:Spw)(AG:Spw):GS:=(Af (Aj 4 (Ad (Ag ixW) (An (Aa (gC (.str "x")) (Aa (gC (.str "y")) (Aa (gC (.str "xy")) Ac)))) (Ah Aw XF (Aa (Ab 0) (Aa (gC (.int 3)) Ac))))) (Af (Aj 5 (Ah C1 XF (Aa (Ab 0) Ac))) (Ai (Ae (Aa (gC (.str "fun")) (Aa (Ab 4) (Aa (Ab 5) (Aa (Ah AG XF (Aa (Ab 0) (Aa (Ad (Az (λ_ _=>True) λi j=>i - j) (Ab 1) (gC (.int 1))) (Aa (Ad (AD) (Ab 2) (An (Aa (Ae (Aa (Ab 4) (Aa (Ad (Ag ixW) (Ab 5) (gC (.int 0))) Ac))) Ac))) (Aa (Ab 3) Ac))))) Ac))))))))
variable {C1 AG:Spw}
theorem dt(T:Tx K mg base a){AH:Nat}(DB:Df P w K mg base "_law_choice" AH 2 Aw)(DC:AH<=k){DD:Nat}(du:Df P w K mg base "_law_told_kind" DD 1 C1)(dv:DD<=k){Bg:Nat}(FK:Df P w K mg base "_law_term" Bg 4 AG)(FL:Bg<=k):Dn P w K mg base Rk "_law_function" JO k (Rm Aw C1 AG):=by
 have hN:=Rl.nd
 walk_at "z"
abbrev Rn:List Str:=["state","deep","names","want","fields","name"]
theorem Ro:Ay Rn ["state","deep","names","want"] (Aq JP):=by walk_at "s"
def Rp(AG:Spw)(Aw:Spw):GS:=(Af (Aj 4 (An (Aa (Ae (Aa (gC (.str "a")) (Aa (Ah AG XF (Aa (Ab 0) (Aa (Ad (Az (λ_ _=>True) λi j=>i - j) (Ab 1) (gC (.int 1))) (Aa (Ab 2) (Aa (Ab 3) Ac))))) Ac))) Ac))) (Af (Bo (AO (An (Aa (gC (.str "ab")) (Aa (gC (.str "b")) Ac)))) (gNm 5) (gIf (Bu (gTB (Ad (Ag (eqF false)) (Ah Aw XF (Aa (Ab 0) (Aa (gC (.int 3)) Ac))) (gC (.int 0)))) (gTB (Ad (AU λi j=>decide (j < i)) (Ad (Ag ixW) (Ab 0) (gC (.int 2))) (gC (.int 1))))) (A8 (gMt Dm D2 (Ab 4) (Aa (Ae (Aa (Ab 5) (Aa (Ah AG XF (Aa (Ab 0) (Aa (Ad (Az (λ_ _=>True) λi j=>i - j) (Ab 1) (gC (.int 1))) (Aa (Ab 2) (Aa (gC (.str "num")) Ac))))) Ac))) Ac))) Ao)) (Ai (Ae (Aa (gC (.str "rec")) (Aa (gB (rF B6) (Aa (Ck (Ab 4) (Bl (Ad (Az DO λi j=>i / j) (Ah Aw XF (Aa (Ab 0) (Aa (gC (.int 8)) Ac))) (gC (.int 7)))) Bk) Ac)) Ac))))))
theorem dw(T:Tx K mg base a){Bg:Nat}(FK:Df P w K mg base "_law_term" Bg 4 AG)(FL:Bg<=k){AH:Nat}(DB:Df P w K mg base "_law_choice" AH 2 Aw)(DC:AH<=k):Dn P w K mg base Rn "_law_record" JP k (Rp AG Aw):=by
 have hN:=Ro.nd
 walk_at "z"
abbrev Rq:List Str:=["state","deep","names","want"]
theorem Rr:Ay Rq ["state","deep","names","want"] (Aq JQ):=by walk_at "s"
def Zip(AG:Spw)(Aw:Spw)(C2:Spw)(C3:Spw):GS:=(Af (gIf (gTB (Ad (Ag (eqF false)) (Ab 3) (gC (.str "truth")))) (Ai (Ae (Aa (gC (.str "less")) (Aa (Ah AG XF (Aa (Ab 0) (Aa (Ad (Az (λ_ _=>True) λi j=>i - j) (Ab 1) (gC (.int 1))) (Aa (Ab 2) (Aa (gC (.str "num")) Ac))))) (Aa (Ah AG XF (Aa (Ab 0) (Aa (Ad (Az (λ_ _=>True) λi j=>i - j) (Ab 1) (gC (.int 1))) (Aa (Ab 2) (Aa (gC (.str "num")) Ac))))) Ac))))) Ao) (Af (gIf (gTB (Ad (Ag (eqF false)) (Ab 3) (gC (.str "row")))) (Ai (Ah C2 XF (Aa (Ab 0) (Aa (Ab 1) (Aa (Ab 2) (Aa (Ad (Ag ixW) (An (Aa (gC (.str "num")) (Aa (gC (.str "truth")) (Aa (gC (.str "box")) Ac)))) (Ah Aw XF (Aa (Ab 0) (Aa (gC (.int 3)) Ac)))) Ac)))))) Ao) (Af (gIf (gTB (Ad (Ag (eqF false)) (Ab 3) (gC (.str "box")))) (Ai (Ae (Aa (gC (.str "new")) (Aa (Ah AG XF (Aa (Ab 0) (Aa (Ad (Az (λ_ _=>True) λi j=>i - j) (Ab 1) (gC (.int 1))) (Aa (Ab 2) (Aa (Ad (Ag ixW) (An (Aa (gC (.str "num")) (Aa (gC (.str "row")) Ac))) (Ah Aw XF (Aa (Ab 0) (Aa (gC (.int 2)) Ac)))) Ac))))) Ac)))) Ao) (Af (gIf (gTB (Ad (Ag (eqF false)) (Ab 3) (gC (.str "to")))) (Ai (Ah C3 XF (Aa (Ab 0) (Aa (Ab 1) (Aa (Ab 2) (Aa (gC (.str "num")) Ac)))))) Ao) (Ai (Ae (Aa (gC (.str "plus")) (Aa (Ah AG XF (Aa (Ab 0) (Aa (Ad (Az (λ_ _=>True) λi j=>i - j) (Ab 1) (gC (.int 1))) (Aa (Ab 2) (Aa (gC (.str "num")) Ac))))) (Aa (Ah AG XF (Aa (Ab 0) (Aa (Ad (Az (λ_ _=>True) λi j=>i - j) (Ab 1) (gC (.int 1))) (Aa (Ab 2) (Aa (gC (.str "num")) Ac))))) Ac)))))))))
variable {C2 C3:Spw}
theorem dy(T:Tx K mg base a){Bg:Nat}(FK:Df P w K mg base "_law_term" Bg 4 AG)(FL:Bg<=k){AH:Nat}(DB:Df P w K mg base "_law_choice" AH 2 Aw)(DC:AH<=k){DE:Nat}(dz:Df P w K mg base "_law_record" DE 4 C2)(dA:DE<=k){DF:Nat}(dB:Df P w K mg base "_law_function" DF 4 C3)(dD:DF<=k):Dn P w K mg base Rq "_law_made" JQ k (Zip AG Aw C2 C3):=by
 have hN:=Rr.nd
 walk_at "z"
theorem dE{ns:List Int}{k:Int}(c:0<=k)(h:k <(ns.length:Int)):∃ v:Int,atI (ns.map W.int) k=some (.int v):=by
 have a:k.toNat < ns.length:=by lia
 have b:k=((k.toNat:Nat):Int):=by lia
 refine⟨ns[k.toNat],?_⟩
 have q:atI (ns.map W.int) ((k.toNat:Nat):Int)=some (.int ns[k.toNat]):=DR (by rw[YN,Yp a] <;> rfl)
 rw[<- b]at q
 exact q
def Rt:Spw:=λws G Q _=>∃(ns:List Int)(k:Int),ws=[.rol (ns.map W.int),.int k]/\0<=k/\∀ v:Int,Q (.int v) G
theorem dF:Spw.M Rt:=(by rintro b G Q a E c h _ ⟨ns,k,h1,h2,q⟩;exact⟨ns,k,h1,h2,λv=>h _ _ (q v)⟩)
theorem Hi(T:Tx K mg base a):Df P w K mg base "_law_cell_at" 1 2 Rt:=by
 refine mk0 T.a9 rfl Q6 dF ((by rintro d G Q E ⟨ns,k,e,_⟩;rw[e];rfl)) (dh T) λd G Q E f q=>?_
 obtain⟨ns,k,rfl,c,q⟩:=q
 unfold Q7
 show Af _ _ (Av Q) [some (.rol (ns.map W.int)),some (.int k)] G
 by_cases b:k <((ns.map W.int).length:Int)
 ·obtain⟨v,e⟩:=dE c (by simpa using b)
  simp only[Af,gIf,gTB,Ad,AS,gB,rF,AM,BK,Aa,Ac,Ab,Yb,Yc,Ap,b,decide_true,if_true,Ag,ixW,e,Ai]
  exact q v
 ·simp only[Af,gIf,gTB,Ad,AS,gB,rF,AM,BK,Aa,Ac,Ab,Yb,Yc,Ap,b,decide_false,Yq,if_false,Ao,Ai,gC]
  exact q 0
def Ru:Spw:=λws G Q _=>∃(ns:List Int)(k:Int),ws=[.rol (ns.map W.int),.int k]/\0<=k/\∀ p(x:Int)(b:Bool),G p=none->Q (.ref p) (put G p (.lst [.int x,.bl b]))
theorem dG:Spw.M Ru:=(by rintro c G Q b E d h _ ⟨ns,k,h1,h2,q⟩;exact⟨ns,k,h1,h2,λp x y a=>h _ _ (q p x y a)⟩)
theorem Rv:Dc 10 18:=⟨by decide,by decide,by decide⟩
theorem DG(T:Tx K mg base a):Df P w K mg base "_law_state" 2 2 Ru:=by
 refine mk0 (k:=1) T.bd rfl Rb dG ((by rintro d G Q E ⟨ns,k,e,_⟩;rw[e];rfl)) (dk T (Hi T) (Yr _)) λd G Q E f q=>?_
 obtain⟨ns,k,rfl,c,q⟩:=q
 unfold Rc
 show Af _ _ (Av Q) [some (.rol (ns.map W.int)),some (.int k),none] G
 refine⟨ns,k,rfl,c,λv=>?_⟩
 walk_at "rd"
 refine⟨Rv,?_⟩
 refine A0 (λh=>?_) (λh=>?_)
 ·exact⟨Rv,trivial,by decide,λp b=>q p _ _ b⟩
 ·exact⟨by decide,by decide,λp b=>q p _ _ b⟩
def Co:Spw:=λws G Q _=>∃(s:Addr)(m x:Int)(b:Bool)(l:List W),ws=[.ref s,.int m]/\0 < m/\m < 1267650600228229401496703205376/\G s=some (.lst (.int x::.bl b::l))/\∀ r x':Int,0<=r->r < m->Q (.int r) (put G s (.lst (.int x'::.bl b::l)))
theorem dH:Spw.M Co:=(by rintro g G Q j E i h _ ⟨s,m,x,b,l,h1,h2,f,e,q⟩;exact⟨s,m,x,b,l,h1,h2,f,e,λr a c d=>h _ _ (q r a c d)⟩)
theorem dI(n:Nat):ixN (n+1) 0=some 0:=by unfold ixN;rw[if_pos (Int.le_refl 0),if_pos (by lia)];rfl
theorem dJ(n:Nat):ixN (n+3) 2=some 2:=by unfold ixN;rw[if_pos (by decide),if_pos (by lia)];rfl
theorem Rw{s:Addr}{x:W}{Q:Hw->Prop}(h:G s=some (.lst (x::l)))(q:Q (put G s (.lst (v::l)))):Cz (.ref s) (.int 0) v G Q:=IQ h (dI l.length) q
variable {y z:W}
theorem Rx{s:Addr}{x:W}{Q:Hw->Prop}(h:G s=some (.lst [x,y,z]))(q:Q (put G s (.lst [x,y,v]))):Cz (.ref s) (.int 2) v G Q:=IQ h (dJ 0) q
theorem ix0{s:Addr}{x:W}(h:G s=some (.lst (x::l))):ixW (.ref s) (.int 0) G=some x:=by rw[Gm h];exact BE
theorem ix1{s:Addr}{x:W}(h:G s=some (.lst (x::y::l))):ixW (.ref s) (.int 1) G=some y:=by rw[Gm h];exact B8
theorem ix2{s:Addr}{x:W}(h:G s=some (.lst (x::y::z::l))):ixW (.ref s) (.int 2) G=some z:=by rw[Gm h];exact Dq
variable {m:Int}
theorem Ry{x:Int}(a:0<=x)(h1:x < m)(b:m<=2147483647):-(2 ^ 64) < x/\x < 2 ^ 64:=by
 have:(2:Int) ^ 64=18446744073709551616:=by decide
 rw[this];lia
theorem AH(T:Tx K mg base a):Df P w K mg base "_law_choice" 1 2 Co:=by
 refine mk0 T.be rfl Rf dH ((by rintro k G Q E ⟨s,m,x,b,l,e,_⟩;rw[e];rfl)) (dq T) λk G Q E r q=>?_
 obtain⟨s,m,x,b,l,rfl,c,i,f,q⟩:=q
 unfold Rg
 show Af (gIf _ _ Ao) _ (Av Q) [some (.ref s),some (.int m),none,none] G
 simp only[Af,gIf,AX,Ad,Ag,Ab,gC,Yb,Yc,ix1 f,Ap,BJ]
 cases b with
 | true =>
  simp only[if_true,Af,Aj,BL,Ad,Az,Ag,Ab,gC,Ai,Av,Yb,Yc,Yk,Yl,ix0 f,Ap]
  refine⟨c,?_⟩
  refine⟨⟨c,i⟩,?_⟩
  refine Rw f ?_
  exact q _ _ (Int.emod_nonneg _ (by lia)) (Int.emod_lt_of_pos _ c)
 | false =>
  simp only[Yq,if_false,Ao,Af,BL,Ad,Az,Ag,gC,Ab,Yb,Yc,ix0 f,Ap,BO,AD,L3.Bi]
  refine⟨.inr ⟨by decide,by decide⟩,by decide,?_⟩
  refine Rw f ?_
  generalize h:(x*48271+29) % 2147483647=d
  have p:0<=d:=by rw[<- h];exact Int.emod_nonneg _ (by decide)
  have n:d < 2147483647:=by rw[<- h];exact Int.emod_lt_of_pos _ (by decide)
  have h2:put G s (.lst (.int d::.bl false::l)) s=some (.lst (.int d::.bl false::l)):=Au
  simp only[Aj,Ad,Az,Ag,gC,Ab,Yb,Yc,Yk,Yl,ix0 h2,Ap,Ai,Av,BO,AD,L3.Bi]
  refine⟨.inl (Ry p n (by decide)),.inl ⟨by decide,by decide⟩,by decide,?_⟩
  generalize g:(d*d+39373*d+7) % 2147483629=x3
  have j:0<=x3:=by rw[<- g];exact Int.emod_nonneg _ (by decide)
  have o:x3 < 2147483629:=by rw[<- g];exact Int.emod_lt_of_pos _ (by decide)
  refine⟨.inl (Ry j o (by decide)),.inl ⟨by decide,by decide⟩,(show(0:Int) < 2147483587 by decide),?_⟩
  refine⟨⟨by decide,by decide⟩,c,?_⟩
  exact q _ _ (Int.emod_nonneg _ (by lia)) (Int.emod_lt_of_pos _ c)
theorem sz(h:Nat.ble n 100=true):n<=sizeLine:=Bt (Yt (Nat.le_of_ble_eq_true h) (by decide))
theorem KG{i j:Int}:AD (.int i) (.int j) G Q=Q (.int (i+j)) G:=rfl
def St(f:Bool)(s:Addr)(G:Hw):Prop:=∃(x:Int)(b:Bool)(c:Int),G s=some (.lst (.int x::.bl b::if f then[.int c]else[]))
def Hs(f:Bool)(s:Addr)(G G':Hw):Prop:=St f s G'/\∀ b,b≠s->∀ u,G b=some u->G' b=some u
variable {f:Bool} {s p:Addr} {G G1 G2:Hw} {o:HW}
theorem Hs.trans(h:Hs f s G G1)(h':Hs f s G1 G2):Hs f s G G2:=⟨h'.1,λb a u c=>h'.2 b a u (h.2 b a u c)⟩
theorem Hs.refl(h:St f s G):Hs f s G G:=⟨h,λ_ _ _ h=>h⟩
theorem St.put(h:St f s G)(a:G p=none):St f s (put G p o):=by
 obtain⟨x,b,c,e⟩:=h
 exact⟨x,b,c,by rw[Bj (Cm e a)];exact e⟩
theorem Hs.put(h:Hs f s G G1)(a:G1 p=none):Hs f s G (put G1 p o):=⟨h.1.put a,λb d u c=>AF a _ _ (h.2 b d u c)⟩
theorem Hs.ne(h:St f s G)(a:G p=none):p≠s:=by
 obtain⟨x,b,c,e⟩:=h
 exact YV (Cm e a)
theorem Hs.new(h:St f s G)(a:G p=none):Hs f s G (L3.put G p o):=(Hs.refl h).put a
variable {Z:Kw}{E:Addr->Hw->Prop}
theorem Bh(g:0 < m)(h:m<=1000000000000000000000)(a:St f s G)(k:∀(r:Int)(G':Hw),0<=r->r < m->Hs f s G G'->Z (.int r) G'):Co [.ref s,.int m] G Z E:=by
 obtain⟨x,b,c,a⟩:=a
 exact⟨s,m,x,b,_,rfl,g,by lia,a,λr d h1 h2=>k r _ h1 h2 ⟨⟨d,b,c,Au⟩,λb i u e=>by rw[Bj i];exact e⟩⟩
theorem BG{r:Int}(h:G p=some (.lst xs))(b:0<=r)(h1:r <(xs.length:Int)):∃ x∈xs,ixW (.ref p) (.int r) G=some x:=by
 obtain⟨k,rfl⟩:∃ k:Nat,r=(k:Int):=⟨r.toNat,by lia⟩
 have a:k < xs.length:=by lia
 refine⟨xs[k],Qc a,?_⟩
 rw[Gm h]
 exact L2.DR (Yp a)
theorem KH(j:m=(xs.length:Int))(h:0 < m)(h1:m<=1000)(a:St f s G)(k:∀ x∈xs,∀ G',Hs f s G G'->Z x G'):xs.length<=sizeLine/\∀ p,G p=none->Co [.ref s,.int m] (L3.put G p (.lst xs)) (λw G'=>Ag ixW (.ref p) w G' Z) E:=by
 refine⟨Bt (by lia),λp c=>?_⟩
 have b:=Hs.ne a c
 refine Bh h (by lia) (a.put c) λr G' g r1 d=>?_
 obtain⟨x,i,e⟩:=BG (d.2 p b _ Au) g (by lia)
 show opt (ixW (.ref p) (.int r) G') _
 rw[e,Ap]
 exact k x i G' ((Hs.new a c).trans d)
theorem DH(e:m=(ss.length:Int))(c:0 < m)(h1:m<=1000)(a:St f s G)(k:∀ x∈ss,∀ G',Hs f s G G'->Z (.str x) G'):(ss.map W.str).length<=sizeLine/\∀ p,G p=none->Co [.ref s,.int m] (L3.put G p (.lst (ss.map W.str))) (λw G'=>Ag ixW (.ref p) w G' Z) E :=
 KH (by rw[Yh];exact e) c h1 a λx d G' b=>by
  obtain⟨y,g,rfl⟩:=YC.mp d
  exact k y g G' b
def En{α:Type}(f:Bool)(A:α->Addr->List W->Hw->Prop)(R:α->Addr->W->Hw->Prop):Spw:=λws G Q _=>∃ a s,A a s ws G/\St f s G/\∀ r G',R a s r G'->Hs f s G G'->Q r G'
theorem C4{α:Type}{A:α->Addr->List W->Hw->Prop}{R:α->Addr->W->Hw->Prop}:Spw.M (En f A R):=(by rintro e G Q i E g h _ ⟨a,s,h1,h2,q⟩;exact⟨a,s,h1,h2,λr c b d=>h _ _ (q r c b d)⟩)
variable {q:Addr}
theorem Rz(h:G p=some (.lst xs))(h':G q=some (.lst ys))(hl:xs.length+ys.length<=sizeLine)(z:∀ r,G r=none->Q (.ref r) (L3.put G r (.lst (xs++ys)))):AD (.ref p) (.ref q) G Q:=by
 show L3.Bi (.ref p) (.ref q) G Q
 unfold L3.Bi
 dsimp only
 rw[h,h']
 exact⟨hl,z⟩
theorem DI(h:G p=some (.lst xs))(h':G q=some (.lst ys))(hl:xs.length+ys.length<=100000)(z:∀ r,G r=none->Q (.ref r) (L3.put G r (.lst (xs++ys)))):AD (.ref p) (.ref q) G Q:=Rz h h' (Bt hl) z
variable {gs:GA}
theorem KI{Ak:GS}(a:St f s G)(c:∀ Z:List W->Hw->Prop,Z xs G->gs ω G Z)(hl:xs.length<=100)(z:∀ p G',Hs f s G G'->p≠s->G' p=some (.lst xs)->Ak D (ω.set i (some (.ref p))) G'):Af (Aj i (An gs)) Ak D ω G :=
 AE (c _ ⟨Bt (by lia),λp b=>z p _ (Hs.new a b) (Hs.ne a b) Au⟩)
theorem EZ{Ak:GS}{d:Hw}(c:Hs f s d G)(hi:ω[i]?=some (some (.ref p)))(h:G p=some (.lst xs))(g:∀ Z:List W->Hw->Prop,Z ys G->gs ω G Z)(hl:xs.length+ys.length<=100)(z:∀ b G',Hs f s d G'->b≠s->G' b=some (.lst (xs++ys))->Ak D (ω.set i (some (.ref b))) G'):Af (Aj i (Ad AD (Ab i) (An gs))) Ak D ω G:=by
 refine AE ?_
 simp only[Ad,Ab,hi]
 refine g _ ⟨Bt (by lia),λp2 a=>?_⟩
 refine DI (AF a _ _ h) Au (by lia) λr e=>?_
 exact z r _ ((c.put a).put e) (Hs.ne (c.1.put a) e) Au
def kdl:List Kd:=[.num,.num,.truth,.any,.box .num,.box .any,.to .num .num,.to .any .num,.row (.cons "a" true .num .nil) false,.row (.cons "a" false .num (.cons "b" true .num .nil)) false,.row .nil true,.row (.cons "a" true .truth .nil) true,.to (.to .num .num) .num,.to .num (.to .num .num),.box (.to .num .num),.row (.cons "a" true (.to .num .num) (.cons "b" false .num .nil)) true,.row (.cons "b" false .any .nil) false,.to (.row .nil true) .any]
abbrev KOk(k:Kd):Prop:=k.ok=true/\BF k=true
theorem dL:∀ k∈kdl,KOk k:=by
 have h:(kdl.all λk=>k.ok&&BF k)=true:=by decide +kernel
 intro k a
 have:=List.all_eq_true.mp h k a
 simp only[YG]at this
 exact this
set_option hygiene false in
local macro_rules | `(tactic| walk_at "cl") => `(tactic| (simp only [Ae, gC, Aa, Ac, Ab, Yb, Yc, Yk, Yl]; repeat (first | exact z | refine ⟨sz rfl, ?_⟩)))
abbrev dM(f:Bool):Spw:=En f (λ(_:Unit)s ws _=>ws=[.ref s]) λ_ _ r _=>∃ k:Kd,r=k.enc/\KOk k
theorem DD(T:Tx K mg base a):Df P w K mg base "_law_told_kind" 2 1 (dM f):=by
 refine mk0 (k:=1) T.bf rfl Ri C4 (λws G Q E⟨_,s,e,_⟩=>by rw[e];rfl) (dr T (AH T) (Yr _)) λws G Q E hC q=>?_
 obtain⟨_,s,rfl,hs,q⟩:=q
 unfold Rj
 show Af (Aj 1 _) _ (Av Q) [some (.ref s),none,none,none] G
 refine AE ⟨by decide,?_⟩
 refine AE ⟨by decide,?_⟩
 refine KI (xs:=(kdl.take 8).map Kd.enc) hs (λZ z=>by walk_at "cl") (by decide) λp G h hne hp=>?_
 refine EZ (ys:=((kdl.drop 8).take 2).map Kd.enc) h rfl hp (λZ z=>by walk_at "cl") (by decide) λp G h hne hp=>?_
 refine EZ (ys:=((kdl.drop 10).take 3).map Kd.enc) h rfl hp (λZ z=>by walk_at "cl") (by decide) λp G h hne hp=>?_
 refine EZ (ys:=((kdl.drop 13).take 3).map Kd.enc) h rfl hp (λZ z=>by walk_at "cl") (by decide) λp G h hne hp=>?_
 refine EZ (ys:=((kdl.drop 16).take 2).map Kd.enc) h rfl hp (λZ z=>by walk_at "cl") (by decide) λp G h hne hp=>?_
 have hp:G p=some (.lst (kdl.map Kd.enc)):=hp
 simp only[Ai,Ad,Ah,Aa,Ac,Ab,gC,Yk,Yl,Yb,Yc]
 refine Bh (by decide) (by decide) h.1 λr G2 r0 r1 h2=>?_
 obtain⟨x,hx,e⟩:=BG (h2.2 p hne _ hp) r0 (by rw[Yh];exact r1)
 show opt (ixW (.ref p) (.int r) G2) _
 rw[e,Ap]
 obtain⟨k,hk,rfl⟩:=YC.mp hx
 exact q _ _ ⟨k,rfl,dL k hk⟩ (h.trans h2)
set_option hygiene false in
set_option hygiene false in
set_option hygiene false in
set_option hygiene false in
set_option hygiene false in
abbrev RA:List Str:=["state","want","number","some"]
theorem Hj:Ay RA ["state","want"] (Aq JR):=by walk_at "s"
def RB(Aw:Spw):GS:=(Af (Aj 2 (Ad (BO) (Ad (Ag ixW) (An (Aa (gC (.int 1)) (Aa (ES (gC (.int 1))) Ac))) (Ah Aw XF (Aa (Ab 0) (Aa (gC (.int 2)) Ac)))) (Ah Aw XF (Aa (Ab 0) (Aa (Ad (Ag ixW) (An (Aa (gC (.int 9)) (Aa (Ad (Az Dc λi j=>i ^ j.toNat) (gC (.int 10)) (gC (.int 20))) Ac))) (Ad (Az DO λi j=>i / j) (Ah Aw XF (Aa (Ab 0) (Aa (gC (.int 9)) Ac))) (gC (.int 8)))) Ac))))) (Af (Aj 3 (ET ["num","truth","row"] (Aa (Ae (Aa (gC (.str "num")) (Aa (Ab 2) Ac))) (Aa (Ae (Aa (gC (.str "truth")) (Aa (Ad (Ag (eqF false)) (Ah Aw XF (Aa (Ab 0) (Aa (gC (.int 2)) Ac))) (gC (.int 1))) Ac))) (Aa (Ae (Aa (gC (.str "rec")) (Aa (Ae Ac) Ac))) Ac))))) (Af (A8 (gMt Jh NZ (Ab 3) (Aa (ET ["box","to"] (Aa (Ae (Aa (gC (.str "new")) (Aa (Ae (Aa (gC (.str "num")) (Aa (Ab 2) Ac))) Ac))) (Aa (Ae (Aa (gC (.str "fun")) (Aa (gC (.str "x")) (Aa (Ae (Aa (gC (.str "num")) Ac)) (Aa (Ae (Aa (gC (.str "name")) (Aa (gC (.str "x")) Ac))) Ac))))) Ac))) Ac))) (Ai (Ad (Ag ixK) (Ab 3) (Ab 1))))))
theorem dN(T:Tx K mg base a){AH:Nat}(DB:Df P w K mg base "_law_choice" AH 2 Aw)(DC:AH<=k):Dn P w K mg base RA "_law_leaf" JR k (RB Aw):=λ{f cdv A outer s H E}hr=>
 have hu:=AT hr
 have hN:=Hj.nd
 (AC (D7 (i:=2) Hj.nd rfl rfl rfl (Nk (Mm (λ_ _=>rfl) (F7 (AL rfl DV (AL rfl (NP DV) Bf))) (by walk_at "v")) (by walk_at "v"))) (AC (D7 (i:=3) Hj.nd rfl rfl rfl (NV (ks:=["num","truth","row"]) (by rfl) (by intro h;cases h) (by exact(by decide:3<=15)) (by decide) (Fj (by walk_at "v") (Fj (by walk_at "v") (Fj (by walk_at "v") NT))))) (AC (DX rfl (EL N0 rfl rfl rfl rfl rfl (by walk_at "v") (AL rfl (NV (ks:=["box","to"]) (by rfl) (by intro h;cases h) (by exact(by decide:2<=15)) (by decide) (Fj (by walk_at "v") (Fj (by walk_at "v") NT))) Bf))) (by walk_at "v"))))
abbrev RC:List Str:=["state","deep","names","head","want","known","some","found"]
theorem KJ:Ay RC ["state","deep","names","head","want"] (Aq Gr):=by walk_at "s"
def RD(Aw:Spw)(C3:Spw)(C2:Spw)(AG:Spw):GS:=(Af (Aj 5 (B3 (EO (Ab 2)) 2 [3] (A9 0 1) (gTB (Ad (Ag (inF false)) (Ab 1) (An (Aa (Ab 2) (Aa (gC (.str "any")) Ac))))) (Ab 0))) (Af (gIf (Bu (gTB (Ad (Ag (eqF true)) (Ab 5) (An Ac))) (gTB (Ad (AU λi j=>decide (j < i)) (Ah Aw XF (Aa (Ab 0) (Aa (gC (.int 3)) Ac))) (gC (.int 0))))) (Aj 7 (Ae (Aa (gC (.str "name")) (Aa (Ad (Ag ixW) (Ab 5) (Ah Aw XF (Aa (Ab 0) (Aa (gB (rF AM) (Aa (Ab 5) Ac)) Ac)))) Ac)))) (gIf (gTB (Ad (Ag (eqF false)) (Ab 3) (gC (.str "to")))) (Aj 7 (Ah C3 XF (Aa (Ab 0) (Aa (Ab 1) (Aa (Ab 2) (Aa (Ab 4) Ac)))))) (gIf (gTB (Ad (Ag (eqF false)) (Ab 3) (gC (.str "row")))) (Aj 7 (Ah C2 XF (Aa (Ab 0) (Aa (Ab 1) (Aa (Ab 2) (Aa (Ab 4) Ac)))))) (Aj 7 (Ae (Aa (gC (.str "new")) (Aa (Ah AG XF (Aa (Ab 0) (Aa (Ad (Az (λ_ _=>True) λi j=>i - j) (Ab 1) (gC (.int 1))) (Aa (Ab 2) (Aa (Ab 4) Ac))))) Ac))))))) (Af (Aj 6 (An (Aa (Ae (Aa (gC (.str "any")) Ac)) (Aa (Ae (Aa (gC (.str "any")) Ac)) Ac)))) (Af (gIf (gTB (Ad (Ag (eqF false)) (Ab 3) (gC (.str "row")))) (Af (Aj 6 (Ad (AD) (Ab 6) (An (Aa (Ae (Aa (gC (.str "row")) (Aa (Ae Ac) (Aa (gC (.bl true)) Ac)))) (Aa (Ae (Aa (gC (.str "row")) (Aa (Ae (Aa (Ae (Aa (gC (.str "b")) (Aa (gC (.str "must")) (Aa (Ae (Aa (gC (.str "num")) Ac)) Ac)))) Ac)) (Aa (gC (.bl true)) Ac)))) Ac))))) (Aj 6 (Ad (AD) (Ab 6) (An (Aa (Ae (Aa (gC (.str "row")) (Aa (Ae (Aa (Ae (Aa (gC (.str "a")) (Aa (gC (.str "may")) (Aa (Ae (Aa (gC (.str "any")) Ac)) Ac)))) Ac)) (Aa (gC (.bl true)) Ac)))) (Aa (Ae (Aa (gC (.str "row")) (Aa (Ae (Aa (Ae (Aa (gC (.str "ab")) (Aa (gC (.str "may")) (Aa (Ae (Aa (gC (.str "num")) Ac)) Ac)))) Ac)) (Aa (gC (.bl true)) Ac)))) Ac)))))) Ao) (Af (gIf (gTB (Ad (Ag (eqF false)) (Ah Aw XF (Aa (Ab 0) (Aa (gC (.int 4)) Ac))) (gC (.int 1)))) (Aj 7 (Ae (Aa (gC (.str "as")) (Aa (Ab 7) (Aa (Ad (Ag ixW) (Ab 6) (Ah Aw XF (Aa (Ab 0) (Aa (gB (rF AM) (Aa (Ab 6) Ac)) Ac)))) Ac))))) Ao) (Ai (Ab 7)))))))
theorem dO(T:Tx K mg base a){AH:Nat}(DB:Df P w K mg base "_law_choice" AH 2 Aw)(DC:AH<=k){DF:Nat}(dB:Df P w K mg base "_law_function" DF 4 C3)(dD:DF<=k){DE:Nat}(dz:Df P w K mg base "_law_record" DE 4 C2)(dA:DE<=k){Bg:Nat}(FK:Df P w K mg base "_law_term" Bg 4 AG)(FL:Bg<=k):Dn P w K mg base RC "_law_first" Gr k (RD Aw C3 C2 AG):=λ{f cdv A outer s H E}hr=>
 have hu:=AT hr
 have hN:=KJ.nd
 (AC (Nl (i:=5) KJ.nd rfl rfl rfl rfl (Gh (own:=["name","there"]) (fr:=["head"]) (js:=[3]) (scX:=Aq Gr) (n:=s.heap.objs.size+1) rfl (by decide +kernel) (by decide +kernel) (by decide +kernel) (by decide +kernel) rfl rfl rfl (by decide +kernel) rfl) (λ_=>rfl) (by walk_at "v") (M7 (i:=0) (j:=1) rfl (by decide) rfl rfl rfl rfl) (λC fp s1 H1=>(by walk_at "v")) (λC fp s1 H1=>(by walk_at "v"))) (by walk_at "v"))
abbrev RE:List Str:=["state","deep","names","want","pick","known","one","wanted","first","head"]
theorem KM:Ay RE ["state","deep","names","want"] (Aq Gs):=by walk_at "s"
def RF(Aw:Spw)(Hk:Spw)(Hl:Spw)(Eo:Spw)(AG:Spw)(C1:Spw):GS:=(Af (BL (Ad (Az (λ_ _=>True) λi j=>i - j) (Ad (Ag ixW) (Ab 0) (gC (.int 2))) (gC (.int 1))) (Ab 0) (gC (.int 2))) (Af (gIf (gOr (gTB (Ad (Ag (eqF false)) (Ab 3) (gC (.str "any")))) (gTB (Ad (Ag (eqF false)) (Ah Aw XF (Aa (Ab 0) (Aa (gC (.int 30)) Ac))) (gC (.int 1))))) (Aj 3 (Ad (Ag ixW) (An (Aa (gC (.str "num")) (Aa (gC (.str "truth")) (Aa (gC (.str "row")) (Aa (gC (.str "box")) (Aa (gC (.str "to")) Ac)))))) (Ah Aw XF (Aa (Ab 0) (Aa (gC (.int 5)) Ac))))) Ao) (Af (Aj 4 (Ah Aw XF (Aa (Ab 0) (Aa (gC (.int 10)) Ac)))) (Af (Aj 5 (B3 (EO (Ab 2)) 2 [3] (A9 0 1) (gTB (Ad (Ag (inF false)) (Ab 1) (An (Aa (Ab 2) (Aa (gC (.str "any")) Ac))))) (Ab 0))) (Af (gIf (Bu (gTB (Ad (Ag (eqF false)) (Ab 4) (gC (.int 0)))) (gTB (Ad (Ag (eqF true)) (Ab 5) (An Ac)))) (Ai (Ae (Aa (gC (.str "name")) (Aa (Ad (Ag ixW) (Ad (AD) (Ab 5) (An (Aa (gC (.str "z")) Ac))) (Ad (Az DO λi j=>i / j) (Ah Aw XF (Aa (Ab 0) (Aa (Ad (AD) (Ad (BO) (gC (.int 8)) (gB (rF AM) (Aa (Ab 5) Ac))) (gC (.int 1))) Ac))) (gC (.int 8)))) Ac)))) Ao) (Af (gIf (gOr (gTB (Ad (AS (λi j=>decide (i < j)) A2) (Ab 1) (gC (.int 3)))) (gTB (Ad (AS (λi j=>decide (i < j)) A2) (Ad (Ag ixW) (Ab 0) (gC (.int 2))) (gC (.int 4))))) (Ai (Ah Hk XF (Aa (Ab 0) (Aa (Ab 3) Ac)))) Ao) (Af (gIf (gTB (Ad (AS (λi j=>decide (i < j)) A2) (Ab 4) (gC (.int 3)))) (Ai (Ah Hl XF (Aa (Ab 0) (Aa (Ab 1) (Aa (Ab 2) (Aa (Ab 3) Ac)))))) Ao) (Af (gIf (gTB (Ad (Ag (inF false)) (Ab 4) (An (Aa (gC (.int 4)) (Aa (gC (.int 9)) Ac))))) (Af (Aj 8 (Ah Eo XF (Aa (Ab 0) (Aa (Ab 1) (Aa (Ab 2) (Aa (gC (.str "to")) (Aa (Ab 3) Ac))))))) (Af (Aj 9 (Ad (Ag ixW) (An (Aa (gC (.str "num")) (Aa (gC (.str "to")) (Aa (gC (.str "row")) (Aa (gC (.str "box")) Ac))))) (Ah Aw XF (Aa (Ab 0) (Aa (gC (.int 4)) Ac))))) (Af (gIf (gTB (Ad (Ag (eqF false)) (Ad (Ag ixW) (Ab 8) (gC (.int 0))) (gC (.str "fun")))) (Aj 9 (Ad (Ag ixW) (Ad (Ag ixW) (Ab 8) (gC (.int 2))) (gC (.int 0)))) Ao) (Ai (Ae (Aa (gC (.str "call")) (Aa (Ab 8) (Aa (Ah AG XF (Aa (Ab 0) (Aa (Ad (Az (λ_ _=>True) λi j=>i - j) (Ab 1) (gC (.int 1))) (Aa (Ab 2) (Aa (Ab 9) Ac))))) Ac)))))))) Ao) (Af (gIf (gTB (Ad (Ag (eqF false)) (Ab 4) (gC (.int 5)))) (Ai (Ae (Aa (gC (.str "get")) (Aa (Ah Eo XF (Aa (Ab 0) (Aa (Ab 1) (Aa (Ab 2) (Aa (gC (.str "row")) (Aa (Ab 3) Ac)))))) (Aa (Ad (Ag ixW) (An (Aa (gC (.str "a")) (Aa (gC (.str "a")) (Aa (gC (.str "b")) (Aa (gC (.str "ab")) Ac))))) (Ah Aw XF (Aa (Ab 0) (Aa (gC (.int 4)) Ac)))) Ac))))) Ao) (Af (Aj 6 (Ah AG XF (Aa (Ab 0) (Aa (Ad (Az (λ_ _=>True) λi j=>i - j) (Ab 1) (gC (.int 1))) (Aa (Ab 2) (Aa (Ab 3) Ac)))))) (Af (gIf (gTB (Ad (Ag (eqF false)) (Ab 4) (gC (.int 3)))) (Ai (Ae (Aa (gC (.str "if")) (Aa (Ah AG XF (Aa (Ab 0) (Aa (Ad (Az (λ_ _=>True) λi j=>i - j) (Ab 1) (gC (.int 1))) (Aa (Ab 2) (Aa (gC (.str "truth")) Ac))))) (Aa (Ab 6) (Aa (Ah AG XF (Aa (Ab 0) (Aa (Ad (Az (λ_ _=>True) λi j=>i - j) (Ab 1) (gC (.int 1))) (Aa (Ab 2) (Aa (Ab 3) Ac))))) Ac)))))) Ao) (Af (gIf (gTB (Ad (Ag (eqF false)) (Ab 4) (gC (.int 6)))) (Ai (Ae (Aa (gC (.str "or")) (Aa (Ah Eo XF (Aa (Ab 0) (Aa (Ad (Az (λ_ _=>True) λi j=>i - j) (Ab 1) (gC (.int 1))) (Aa (Ab 2) (Aa (gC (.str "row")) (Aa (Ab 3) Ac)))))) (Aa (Ad (Ag ixW) (An (Aa (gC (.str "a")) (Aa (gC (.str "b")) (Aa (gC (.str "c")) Ac)))) (Ah Aw XF (Aa (Ab 0) (Aa (gC (.int 3)) Ac)))) (Aa (Ab 6) Ac)))))) Ao) (Af (gIf (gTB (Ad (Ag (eqF false)) (Ab 4) (gC (.int 7)))) (Af (Aj 8 (Ah Eo XF (Aa (Ab 0) (Aa (Ab 1) (Aa (Ab 2) (Aa (gC (.str "box")) (Aa (Ab 3) Ac))))))) (Ai (Ad (Ag ixW) (An (Aa (Ae (Aa (gC (.str "read")) (Aa (Ab 8) Ac))) (Aa (Ae (Aa (gC (.str "write")) (Aa (Ab 8) (Aa (Ab 6) Ac)))) Ac))) (Ah Aw XF (Aa (Ab 0) (Aa (gC (.int 2)) Ac)))))) Ao) (Af (Aj 7 (An (Aa (Ae (Aa (gC (.str "as")) (Aa (Ab 6) (Aa (Ae (Aa (gC (.str "any")) Ac)) Ac)))) (Aa (Ae (Aa (gC (.str "as")) (Aa (Ae (Aa (gC (.str "as")) (Aa (Ab 6) (Aa (Ae (Aa (gC (.str "any")) Ac)) Ac)))) (Aa (Ah C1 XF (Aa (Ab 0) Ac)) Ac)))) Ac)))) (Ai (Ad (Ag ixW) (Ab 7) (Ah Aw XF (Aa (Ab 0) (Aa (gC (.int 2)) Ac)))))))))))))))))))
theorem dP(T:Tx K mg base a){AH:Nat}(DB:Df P w K mg base "_law_choice" AH 2 Aw)(DC:AH<=k){Hm:Nat}{Hk:Spw}(fT:Df P w K mg base "_law_leaf" Hm 2 Hk)(fU:Hm<=k){Hn:Nat}{Hl:Spw}(fV:Df P w K mg base "_law_made" Hn 4 Hl)(fW:Hn<=k){Ho:Nat}{Eo:Spw}(fX:Df P w K mg base "_law_first" Ho 5 Eo)(fY:Ho<=k){Bg:Nat}(FK:Df P w K mg base "_law_term" Bg 4 AG)(FL:Bg<=k){DD:Nat}(du:Df P w K mg base "_law_told_kind" DD 1 C1)(dv:DD<=k):Dn P w K mg base RE "_law_term" Gs k (RF Aw Hk Hl Eo AG C1):=λ{f cdv A outer s H E}hr=>
 have hu:=AT hr
 have hN:=KM.nd
 (AC (by walk_at "v") (AC (by walk_at "v") (AC (by walk_at "v") (AC (Nl (i:=5) KM.nd rfl rfl rfl rfl (Gh (own:=["name","head"]) (fr:=["want"]) (js:=[3]) (scX:=Aq Gs) (n:=s.heap.objs.size+1) rfl (by decide +kernel) (by decide +kernel) (by decide +kernel) (by decide +kernel) rfl rfl rfl (by decide +kernel) rfl) (λ_=>rfl) (by walk_at "v") (M7 (i:=0) (j:=1) rfl (by decide) rfl rfl rfl rfl) (λC fp s1 H1=>(by walk_at "v")) (λC fp s1 H1=>(by walk_at "v"))) (by walk_at "v")))))
def TmB(c d:Nat)(t:Te):Prop:=t.ok=true/\t.cnt<=c/\t.dp<=d
variable {c d:Nat}
theorem TmB.mono{a d':Nat}(h:TmB c d t)(hc:c<=a)(hd:d<=d'):TmB a d' t:=⟨h.1,Yt h.2.1 hc,Yt h.2.2 hd⟩
theorem BS{w:Str}(h:KTD.datumAt w AB=some r.sorts)(h2:r.ok=true):(Te.nd w r).ok=true:=by
 show(decide (KTD.datumAt w AB=some r.sorts)&&r.ok)=true
 rw[YH h,h2];rfl
theorem KN{k:Kd}(h:TmB c d t)(a:KOk k):TmB (c+1) (d+1) (.nd "as" (.trm t (.knd k .nil))):=by
 obtain⟨h1,h2,b⟩:=h
 refine⟨BS (show KTD.datumAt ("as":Str) AB=some [("term":Str),"kind"] by decide +kernel) ?_,?_,?_⟩
 ·show(t.ok&&((k.ok&&BF k)&&true))=true;rw[h1,a.1,a.2];rfl
 ·show 1+(t.cnt+0)<=_;lia
 ·show 1+max t.dp 0<=_;lia
variable {u:Te}
theorem KO{w:Str}{b a:Nat}(hw:KTD.datumAt w AB=some [("term":Str),"term"])(h:TmB b d t)(h':TmB a d u):TmB (b+a+1) (d+1) (.nd w (.trm t (.trm u .nil))):=by
 obtain⟨h1,h2,c⟩:=h
 obtain⟨g1,g2,g3⟩:=h'
 refine⟨BS hw ?_,?_,?_⟩
 ·show(t.ok&&(u.ok&&true))=true;rw[h1,g1];rfl
 ·show 1+(t.cnt+(u.cnt+0))<=_;lia
 ·show 1+max t.dp (max u.dp 0)<=_;lia
theorem Hq{w:Str}(hw:KTD.datumAt w AB=some [("term":Str)])(h:TmB c d t):TmB (c+1) (d+1) (.nd w (.trm t .nil)):=by
 obtain⟨h1,h2,a⟩:=h
 refine⟨BS hw ?_,?_,?_⟩
 ·show(t.ok&&true)=true;rw[h1];rfl
 ·show 1+(t.cnt+0)<=_;lia
 ·show 1+max t.dp 0<=_;lia
theorem dQ(h:TmB c d t)(a:AA x=true):TmB (c+1) (d+1) (.nd "get" (.trm t (.nam x .nil))):=by
 obtain⟨h1,h2,b⟩:=h
 refine⟨BS (show KTD.datumAt ("get":Str) AB=some [("term":Str),"name"] by decide +kernel) ?_,?_,?_⟩
 ·show(t.ok&&(AA x&&true))=true;rw[h1,a];rfl
 ·show 1+(t.cnt+0)<=_;lia
 ·show 1+max t.dp 0<=_;lia
theorem dR{b a:Nat}(h:TmB b d t)(c:AA x=true)(h':TmB a d u):TmB (b+a+1) (d+1) (.nd "or" (.trm t (.nam x (.trm u .nil)))):=by
 obtain⟨h1,h2,e⟩:=h
 obtain⟨g1,g2,g3⟩:=h'
 refine⟨BS (show KTD.datumAt ("or":Str) AB=some [("term":Str),"name","term"] by decide +kernel) ?_,?_,?_⟩
 ·show(t.ok&&(AA x&&(u.ok&&true)))=true;rw[h1,c,g1];rfl
 ·show 1+(t.cnt+(u.cnt+0))<=_;lia
 ·show 1+max t.dp (max u.dp 0)<=_;lia
theorem dS{v:Te}(h:TmB c d t)(h':TmB c d u)(a:TmB c d v):TmB (3*c+1) (d+1) (.nd "if" (.trm t (.trm u (.trm v .nil)))):=by
 obtain⟨h1,h2,g⟩:=h
 obtain⟨g1,g2,g3⟩:=h'
 obtain⟨b,f,e⟩:=a
 refine⟨BS (show KTD.datumAt ("if":Str) AB=some [("term":Str),"term","term"] by decide +kernel) ?_,?_,?_⟩
 ·show(t.ok&&(u.ok&&(v.ok&&true)))=true;rw[h1,g1,b];rfl
 ·show 1+(t.cnt+(u.cnt+(v.cnt+0)))<=_;lia
 ·show 1+max t.dp (max u.dp (max v.dp 0))<=_;lia
theorem RG{k:Kd}(b:AA x=true)(a:KOk k)(h:TmB c d t):TmB (c+1) (d+1) (.nd "fun" (.nam x (.knd k (.trm t .nil)))):=by
 obtain⟨h1,h2,e⟩:=h
 refine⟨BS (show KTD.datumAt ("fun":Str) AB=some [("name":Str),"kind","term"] by decide +kernel) ?_,?_,?_⟩
 ·show(AA x&&((k.ok&&BF k)&&(t.ok&&true)))=true;rw[h1,b,a.1,a.2];rfl
 ·show 1+(t.cnt+0)<=_;lia
 ·show 1+max t.dp 0<=_;lia
theorem KP(a:AA x=true):TmB 1 1 (.nd "name" (.nam x .nil)):=by
 refine⟨BS (show KTD.datumAt ("name":Str) AB=some [("name":Str)] by decide +kernel) ?_,Yr 1,Yr 1⟩
 show(AA x&&true)=true;rw[a];rfl
theorem dU(b:Bool):TmB 1 1 (.nd "truth" (.tru b .nil)):=⟨BS (show KTD.datumAt ("truth":Str) AB=some [("truth":Str)] by decide +kernel) rfl,Yr 1,Yr 1⟩
theorem RH(l:List Str)(s:Str)(h:G p=some (.lst xs))(e:xs=l.map W.str):inF false (.str s) (.ref p) G=some (.bl (l.any (·==s))):=by
 unfold inF
 show(CM G (.ref p)).bind _=_
 rw[Jn h,e]
 show((DY (l.map W.str)).map _)=_
 rw[N2]
 show some (W.bl (inV (.str s) (l.map V.str)))=_
 rw[N3]
variable {s p:Addr} {G G1 G2:Hw} {n d:Nat}
theorem dV{i:Int}(h:-NB<=i/\i<=NB):TmB 1 1 (.nd "num" (.num i .nil)):=by
 refine⟨BS (show KTD.datumAt ("num":Str) AB=some [("number":Str)] by decide +kernel) ?_,Yr 1,Yr 1⟩
 show(decide (-NB<=i/\i<=NB)&&true)=true
 rw[YH h];rfl
theorem RI{f:Fl}(h1:Bz f.names=true)(h2:f.ok=true)(hc:f.cnt<=c)(hd:f.dp<=d):TmB (c+1) (d+1) (.nd "rec" (.fld f .nil)):=by
 refine⟨BS (show KTD.datumAt ("rec":Str) AB=some [("fields":Str)] by decide +kernel) ?_,?_,?_⟩
 ·show((Bz f.names&&f.ok)&&true)=true;rw[h1,h2];rfl
 ·show 1+(f.cnt+0)<=_;lia
 ·show 1+max f.dp 0<=_;lia
abbrev Hr(x:Str×Str):W:=.tup [.str x.1,.str x.2]
def NL(s:Addr)(G:Hw)(p:Addr)(ns:List (Str×Str))(d:Nat):Prop:=p≠s/\G p=some (.lst (ns.map Hr))/\(∀ x∈ns,AA x.1=true)/\ns.length+d<=12
variable {ns:List (Str×Str)}
theorem NL.keep(h:NL s G p ns d)(a:Hs true s G G1):NL s G1 p ns d:=⟨h.1,a.2 _ h.1 _ h.2.1,h.2.2⟩
theorem NL.less{e:Nat}(h:NL s G p ns d)(a:e<=d):NL s G p ns e:=⟨h.1,h.2.1,h.2.2.1,by have:=h.2.2.2;lia⟩
def bc:Nat->Nat
 | 0=>2
 | n+1=>4*bc n+3
theorem bc2:∀ n,2<=bc n
 | 0=>Yr _
 | n+1=>by show 2<=4*bc n+3;lia
abbrev TO(d:Nat)(t:Te):Prop:=TmB (bc d) (2+3*d) t
def HD6:List Str:=["num","truth","row","box","to","any"]
abbrev Ar:Type:=Nat×List (Str×Str)×Addr×Str
abbrev A4(n:Nat)(x:Ar)(s:Addr)(ws:List W)(G:Hw):Prop:=ws=[.ref s,.int (x.1:Nat),.ref x.2.2.1,.str x.2.2.2]/\x.1 < n/\NL s G x.2.2.1 x.2.1 x.1/\x.2.2.2∈HD6
abbrev Cp(n:Nat):Spw:=En true (A4 n) λx _ r _=>∃ t:Te,r=t.enc/\TO x.1 t
abbrev Ht(n:Nat)(c:Nat->Nat):Spw:=En true (λx s ws G=>A4 (n+1) x s ws G/\1<=x.1) λx _ r _=>∃ t:Te,r=t.enc/\TmB (c (bc (x.1 - 1))) (3*x.1) t
abbrev KQ(n:Nat):Spw:=En true (λ(x:Ar×Str)s ws G=>ws=[.ref s,.int (x.1.1:Nat),.ref x.1.2.2.1,.str x.2,.str x.1.2.2.2]/\(x.1.1 < n+1/\NL s G x.1.2.2.1 x.1.2.1 x.1.1/\x.1.2.2.2∈HD6)/\1<=x.1.1/\x.2∈(["to","row","box"]:List Str)) λx _ r _=>∃ t:Te,r=t.enc/\TmB (3*bc (x.1.1 - 1)+2) (3*x.1.1+1) t
variable {pn:Addr}
theorem C5{i:Int}{w:Str}(hi:i=((d:Nat):Int))(hd:d < n)(a:St true s G)(b:NL s G pn ns d)(hw:w∈HD6)(k:∀ t G',TO d t->Hs true s G G'->Z t.enc G'):Cp n [.ref s,.int i,.ref pn,.str w] G Z E:=by
 subst hi
 exact⟨(d,ns,pn,w),s,⟨rfl,hd,b,hw⟩,a,λr G'⟨t,e,c⟩h=>by rw[e];exact k t G' c h⟩
theorem FM{c:Nat->Nat}{w:Str}(hd:d+1 < n+1)(a:St true s G)(b:NL s G pn ns (d+1))(hw:w∈HD6)(k:∀ t G',TmB (c (bc d)) (3*(d+1)) t->Hs true s G G'->Z t.enc G'):Ht n c [.ref s,.int ((d+1:Nat):Int),.ref pn,.str w] G Z E :=
 ⟨(d+1,ns,pn,w),s,⟨⟨rfl,hd,b,hw⟩,by show 1<=d+1;lia⟩,a,λr G'⟨t,e,f⟩h=>by rw[e];exact k t G' f h⟩
theorem RJ(k:Kd)(G:Hw):ixW k.enc (.int 0) G=some (.str k.hd):=by
 obtain⟨xs,e⟩:=bZ k
 rw[e];exact BE
theorem dW(k:Kd):k.hd∈HD6:=by
 cases k with
 | any=>exact(by decide +kernel:("any":Str)∈HD6)
 | num=>exact(by decide +kernel:("num":Str)∈HD6)
 | truth=>exact(by decide +kernel:("truth":Str)∈HD6)
 | to x y=>exact(by decide +kernel:("to":Str)∈HD6)
 | box x=>exact(by decide +kernel:("box":Str)∈HD6)
 | row fs o=>exact(by decide +kernel:("row":Str)∈HD6)
set_option hygiene false in
local macro_rules | `(tactic| walk_at "sm") => `(tactic| try simp only [Ai, Ad, An, Ae, Ah, Aa, Ac, Ab, gC, Yk, Yl, Yb, Yc])
theorem Ep(d:Nat):(((d+1:Nat):Int) - 1)=((d:Nat):Int):=by lia
theorem DF(T:Tx K mg base a)(hk:2<=k)(D:Df P w K mg base "_law_term" k 4 (Cp n)):Df P w K mg base "_law_function" (k+1) 4 (Ht n λc=>c+1):=by
 refine mk0 T.bg rfl Rl C4 (by rintro ws G Q E ⟨_,s,⟨⟨e,_⟩,_⟩,_⟩;rw[e];rfl) (dt T (AH T) (by lia) (DD T (f:=true)) hk D (Yr _)) λws G Q E hC q=>?_
 obtain⟨⟨d,ns,pn,wn⟩,s,⟨⟨rfl,hd,hn,hw⟩,h1⟩,hs,q⟩:=q
 obtain⟨d,rfl⟩:∃ e,d=e+1:=⟨d - 1,by lia⟩
 dsimp only at hd hn hw q
 unfold Rm
 show Af (Aj 4 _) _ (Av Q) [some (.ref s),some (.int ((d+1:Nat):Int)),some (.ref pn),some (.str wn),none,none] G
 refine AE ?_
 walk_at "sm"
 refine DH (ss:=["x","y","xy"]) rfl (by decide) (by decide) hs λnm hnm G1 h1=>?_
 refine AE ?_
 walk_at "sm"
 refine⟨(),s,rfl,h1.1,λr G2⟨k,e,hk⟩h2=>?_⟩
 subst e
 have h2:=h1.trans h2
 walk_at "sm"
 have okn:AA nm=true:=by
  have:(["x","y","xy"]:List Str).all AA=true:=by decide +kernel
  exact List.all_eq_true.mp this nm hnm
 refine⟨trivial,?_⟩
 simp only[Ag,RJ,Ap]
 refine⟨sz rfl,sz rfl,λp2 hp2=>?_⟩
 have hn2:=hn.keep h2
 refine DI (AF hp2 _ _ hn2.2.1) Au (by rw[Yh];have:=hn2.2.2.2;simp only[Yg,Yi];lia) λp3 hp3=>?_
 have h3:=(h2.put (o:=.lst [.tup [.str nm,.str k.hd]]) hp2).put (o:=.lst (ns.map Hr++[.tup [.str nm,.str k.hd]])) hp3
 refine C5 (d:=d) (ns:=ns++[(nm,k.hd)]) (Ep d) (by lia) h3.1 ⟨Hs.ne (h2.1.put hp2) hp3,by rw[Au,Yy];rfl,λx hx=>?_,?_⟩ hw λt G4 ht h4=>?_
 ·rcases Yz.mp hx with hx | hx
  ·exact hn.2.2.1 x hx
  ·rw[YA.mp hx];exact okn
 ·rw[Yj];have:=hn.2.2.2;simp only[Yg,Yi];lia
 ·exact⟨sz rfl,q _ _ ⟨_,rfl,(RG okn hk ht).mono (by show bc d+1<=bc (d+1 - 1)+1;rw[Nat.add_sub_cancel];exact Yr _) (by lia)⟩ (h3.trans h4)⟩
theorem dX{α:Type}(xs:List α)(i:Nat):Bw xs (some (i:Int)) none=xs.drop i:=by
 unfold Bw
 rw[HT.sIx_none,HT.sIx_nat]
 rcases Nat.le_total i xs.length with h | h
 ·rw[Nat.min_eq_left h]
  exact List.take_of_length_le (by rw[List.length_drop];exact Yr _)
 ·rw[Nat.min_eq_right h,List.drop_of_length_le (Yr _),List.drop_of_length_le h];simp
theorem Hs.set(h:Hs f s G G1)(g:G p=none)(a:p≠s):Hs f s G (L3.put G1 p o):=by
 obtain⟨⟨x,b,c,e⟩,h⟩:=h
 exact⟨⟨x,b,c,by rw[Bj (YV a)];exact e⟩,λb i u d=>by rw[Bj (Cm d g)];exact h b i u d⟩
theorem Hs.old(h:Hs f s G G1)(b:G1 p=none):p≠s/\G p=none:=by
 have a:=Hs.ne h.1 b
 refine⟨a,?_⟩
 cases e:G p with
 | none=>rfl
 | some u=>rw[h.2 p a u e]at b;cases b
theorem dY(a:G p=some (.lst xs))(hl:xs.length < sizeLine)(q:Q .non (put G p (.lst (xs++[y])))):D2 (.ref p) [y] G Q:=by
 unfold D2
 refine IW a ?_ q
 rw[if_pos hl]
theorem RK(h:St true s G):∃ c:Int,ixW (.ref s) (.int 2) G=some (.int c):=by
 obtain⟨x,b,c,e⟩:=h
 exact⟨c,ix2 e⟩
def BU:List (Str×Te)->Fl
 | []=>.nil
 | x::l=>.cons x.1 x.2 (BU l)
abbrev Er(x:Str×Te):W:=.tup [.str x.1,x.2.enc]
theorem RL:∀ l:List (Str×Te),(BU l).enc=l.map Er
 | []=>rfl
 | x::l=>by show _::(BU l).enc=_::l.map Er;rw[RL l]
theorem RM:∀ l:List (Str×Te),(BU l).names=l.map (·.1)
 | []=>rfl
 | x::l=>by show _::(BU l).names=_::l.map (·.1);rw[RM l]
theorem RN{c e:Nat}:∀ l:List (Str×Te),(∀ x∈l,AA x.1=true/\TmB c e x.2)->(BU l).ok=true/\(BU l).cnt<=l.length*c/\(BU l).dp<=e
 | [],_=>⟨rfl,YU _,YU _⟩
 | x::l,h=>by
  obtain⟨h1,h2,b⟩:=RN l λy a=>h y (Yd _ a)
  obtain⟨g1,g2,g3,g4⟩:=h x Ye
  refine⟨?_,?_,?_⟩
  ·show((AA x.1&&x.2.ok)&&(BU l).ok)=true;rw[g1,g2,h1];rfl
  ·show x.2.cnt+(BU l).cnt<=(l.length+1)*c;rw[Nat.add_mul];lia
  ·show max x.2.dp (BU l).dp<=e;lia
abbrev gRB(n:Nat):GS:=gIf (Bu (gTB (Ad (Ag (eqF false)) (Ah Co XF (Aa (Ab 0) (Aa (gC (.int 3)) Ac))) (gC (.int 0)))) (gTB (Ad (AU λi j=>decide (j < i)) (Ad (Ag ixW) (Ab 0) (gC (.int 2))) (gC (.int 1))))) (A8 (gMt Dm D2 (Ab 4) (Aa (Ae (Aa (Ab 5) (Aa (Ah (Cp n) XF (Aa (Ab 0) (Aa (Ad (Az (λ_ _=>True) λi j=>i - j) (Ab 1) (gC (.int 1))) (Aa (Ab 2) (Aa (gC (.str "num")) Ac))))) Ac))) Ac))) Ao
theorem KR{D:Ew}{q0 b pn:Addr}{ns:List (Str×Str)}{items:List W}{y:W}{z:Hw}(hd:d < n)(H:NL s z pn ns d)(u:q0≠s)(g:b≠s)(e:q0≠b)(k:z b=none):∀(i:List Str)(l:List (Str×Te))(o:Option W)(G:Hw),Hs true s z G->G q0=some (.lst items)->G b=some (.lst (l.map Er))->l.length+i.length<=10->(∀ x∈l,TO d x.2)->
  (∀(f:List (Str×Te))(o':Option W)(G':Hw),Hs true s z G'->G' b=some (.lst (f.map Er))->(∀ x∈f,TO d x.2)->(∃ p:List Str,p.Sublist i/\f.map (·.1)=l.map (·.1)++p)->D.nx [some (.ref s),some (.int ((d+1:Nat):Int)),some (.ref pn),some y,some (.ref b),o'] G')->
  Bv (holds q0 items) (gNm 5) (gRB n) D (i.map W.str) [some (.ref s),some (.int ((d+1:Nat):Int)),some (.ref pn),some y,some (.ref b),o] G
 | [],l,o,G,h,hi,v,_,hl,a=>⟨hi,a l o G h v hl ⟨[],List.Sublist.refl _,by rw[Yx]⟩⟩
 | m::i,l,o,G,h,hi,v,q,hl,a=>by
  rw[Yg]at q
  refine⟨hi,?_⟩
  show gRB n _ [some (.ref s),some (.int ((d+1:Nat):Int)),some (.ref pn),some y,some (.ref b),some (.str m)] G
  simp only[gRB,gIf,Bu,gTB,Ad,Ag,Ah,Aa,Ac,Ab,gC,Yb,Yc]
  refine Bh (by decide) (by decide) h.1 λr G1 _ _ h1=>?_
  have j:=h.trans h1
  have skip:Bv (holds q0 items) (gNm 5) (gRB n) D (i.map W.str) [some (.ref s),some (.int ((d+1:Nat):Int)),some (.ref pn),some y,some (.ref b),some (.str m)] G1 :=
   KR hd H u g e k i l _ G1 j (h1.2 _ u _ hi) (h1.2 _ g _ v) (by lia) hl λf o' G' F J E⟨p,B,A⟩=>a f o' G' F J E ⟨p,B.trans (List.sublist_cons_self _ _),A⟩
  simp only[Bm,Ap]
  refine A0 (λ_=>?_) (λ_=>?_)
  ·obtain⟨c,hc⟩:=RK h1.1
   simp only[hc,Ap,AU]
   refine A0 (λ_=>?_) (λ_=>skip)
   simp only[A8,gMt,Ae,Aa,Ac,Ad,Ah,Ab,gC,Yb,Yc]
   refine⟨PH (h1.2 _ g _ v),trivial,?_⟩
   refine C5 (d:=d) (Ep d) hd h1.1 (H.keep j) (by decide +kernel) λt G2 K h2=>⟨sz rfl,?_⟩
   have I:=j.trans h2
   refine dY (h2.2 _ g _ (h1.2 _ g _ v)) (Fo (by rw[Yh];lia)) ?_
   refine KR hd H u g e k i (l++[(m,t)]) _ _ (I.set k g) (by rw[Bj e];exact h2.2 _ u _ (h1.2 _ u _ hi)) (by rw[Au,Yy];rfl) (by rw[Yj];simp only[Yg,Yi];lia) (λx w=>?_) λf o' G' F J E⟨p,B,A⟩=>a f o' G' F J E ⟨m::p,B.cons_cons m,by rw[A,Yy,Yv];rfl⟩
   rcases Yz.mp w with w | w
   ·exact hl x w
   ·rw[YA.mp w];exact K
  ·exact skip
theorem dZ{a:List Str}(h:a.Sublist ["ab","b"]):∀ j:Nat,j<=1->Bz ((("a":Str)::a).drop j)=true/\(("a":Str)::a).all AA=true:=by
 have h2:a=[]\/a=[("ab":Str)]\/a=[("b":Str)]\/a=[("ab":Str),"b"]:=by
  rcases List.sublist_cons_iff.mp h with h1 |⟨r,rfl,h1⟩
  ·rcases List.sublist_cons_iff.mp h1 with h2 |⟨r,rfl,h2⟩
   ·exact .inl (List.sublist_nil.mp h2)
   ·rw[List.sublist_nil.mp h2];exact .inr (.inr (.inl rfl))
  ·rcases List.sublist_cons_iff.mp h1 with h2 |⟨r,rfl,h2⟩
   ·rw[List.sublist_nil.mp h2];exact .inr (.inl rfl)
   ·rw[List.sublist_nil.mp h2];exact .inr (.inr (.inr rfl))
 intro j b
 obtain rfl | rfl:j=0\/j=1:=by lia
 ·rcases h2 with rfl | rfl | rfl | rfl <;> exact⟨by decide +kernel,by decide +kernel⟩
 ·rcases h2 with rfl | rfl | rfl | rfl <;> exact⟨by decide +kernel,by decide +kernel⟩
theorem KS(h:G p=some (.lst xs)):B6 [.ref p] G=some (.tup xs):=by unfold B6;dsimp only;rw[Jn h];rfl
theorem DE(T:Tx K mg base a)(hk:2<=k)(D:Df P w K mg base "_law_term" k 4 (Cp n)):Df P w K mg base "_law_record" (k+1) 4 (Ht n λc=>3*c+1):=by
 refine mk0 T.bh rfl Ro C4 (by rintro ws G Q E ⟨_,s,⟨⟨e,_⟩,_⟩,_⟩;rw[e];rfl) (dw T D (Yr _) (AH T) (by lia)) λws G Q E hC q=>?_
 obtain⟨⟨d,ns,pn,wn⟩,s,⟨⟨rfl,hd,hn,hw⟩,h1⟩,hs,q⟩:=q
 obtain⟨d,rfl⟩:∃ e,d=e+1:=⟨d - 1,by lia⟩
 dsimp only at hd hn hw q
 unfold Rp
 show Af (Aj 4 _) _ (Av Q) [some (.ref s),some (.int ((d+1:Nat):Int)),some (.ref pn),some (.str wn),none,none] G
 refine AE ?_
 walk_at "sm"
 refine⟨trivial,?_⟩
 refine C5 (d:=d) (Ep d) (by lia) hs (hn.less (by lia)) hw λt G1 ht h1=>⟨sz rfl,sz rfl,λpf hpf=>?_⟩
 obtain⟨hf,hf0⟩:=h1.old hpf
 have h2:=h1.put (o:=.lst [.tup [.str "a",t.enc]]) hpf
 have f2:put G1 pf (.lst [.tup [.str "a",t.enc]]) pf=some (.lst [.tup [.str "a",t.enc]]):=Au
 generalize put G1 pf (.lst [.tup [.str "a",t.enc]])=G2 at h2 f2 ⊢
 simp only[Af,Bo,AO,An,Aa,Ac,gC]
 refine⟨sz rfl,λq0 hq0=>?_⟩
 have h3:=h2.put (o:=.lst [.str "ab",.str "b"]) hq0
 have f3:=AF (o:=.lst [.str "ab",.str "b"]) hq0 _ _ f2
 have g3:put G2 q0 (.lst [.str "ab",.str "b"]) q0=some (.lst [.str "ab",.str "b"]):=Au
 have hq:=Hs.ne h2.1 hq0
 have hfq:=YV (Cm f2 hq0)
 generalize put G2 q0 (.lst [.str "ab",.str "b"])=G3 at h3 f3 g3 ⊢
 rw[g3]
 refine KR (n:=n) (d:=d) (by lia) (hn.less (by lia)) hq hf hfq hf0 ["ab","b"] [("a",t)] _ G3 h3 g3 f3 (show 1+2<=10 by decide) (λx hx=>by rw[YA.mp hx];exact ht) λl' o' G4 h4 f4 hl'⟨sb,b1,b2⟩=>?_
 simp only[Ai,Ae,gB,rF,Ck,Bl,Bk,Ad,Ah,Aa,Ac,Ab,gC,Yk,Yl,Yb,Yc]
 refine Bh (by decide) (by decide) h4.1 λr G5 r0 r1 h5=>?_
 have f5:=h5.2 _ hf _ f4
 have h5:=h4.trans h5
 refine⟨⟨by decide,by decide⟩,?_⟩
 obtain⟨j,hj,ej⟩:∃ j:Nat,j<=1/\r / 7=(j:Int):=⟨(r / 7).toNat,by lia,by lia⟩
 rw[show(λi j:Int=>i / j) r 7=(j:Int)from ej]
 show slA (.ref pf) (some (j:Int)) none G5 _
 show(match G5 pf with | some (.lst xs)=>∀ p,G5 p=none->_ | _=>False)
 rw[f5]
 dsimp only
 intro p6 hp6
 have ec:Bw (l'.map Er) (some (j:Int)) none=(l'.drop j).map Er:=by rw[dX,List.map_drop]
 rw[ec,KS Au,Ap]
 obtain⟨b3,b4⟩:=dZ b1 j hj
 have b2:l'.map (·.1)=("a":Str)::sb:=b2
 have hlen:l'.length<=3:=by
  have e:=Qf List.length b2
  have:=b1.length_le
  rw[Yh,Yg]at e
  simp only[Yg,Yi]at this
  lia
 have hmem:∀ x∈l'.drop j,AA x.1=true/\TmB (bc d) (2+3*d) x.2:=λx hx=>by
  have hx':=List.mem_of_mem_drop hx
  refine⟨List.all_eq_true.mp b4 _ ?_,hl' x hx'⟩
  rw[<- b2];exact List.mem_map_of_mem hx'
 obtain⟨o1,o2,o3⟩:=RN _ hmem
 have hc:(BU (l'.drop j)).cnt<=3*bc d:=Yt o2 (Nat.mul_le_mul_right _ (by rw[List.length_drop];lia))
 refine⟨sz rfl,q _ _ ⟨.nd "rec" (.fld (BU (l'.drop j)) .nil),?_,(RI (by rw[RM,List.map_drop,b2];exact b3) o1 hc o3).mono (by show 3*bc d+1<=3*bc (d+1 - 1)+1;rw[Nat.add_sub_cancel];exact Yr _) (by lia)⟩ (h5.put hp6)⟩
 show W.tup [.str "rec",.tup ((l'.drop j).map Er)]=.tup [.str "rec",.tup (BU (l'.drop j)).enc]
 rw[RL]
set_option hygiene false in
def Tst(s:Addr)(ω:Sw)(G:Hw)(gt:GT):Prop:=∀ Z:Bool->Hw->Prop,(∀ b G',Hs true s G G'->Z b G')->gt ω G Z
variable {ω:Sw}
theorem Es{t:Str}{a:Bool}(b:St true s G)(h:ω[i]?=some (some (.str x))):Tst s ω G (gTB (Ad (Ag (eqF a)) (Ab i) (gC (.str t)))):=λZ z=>by
 simp only[gTB,Ad,Ag,Ab,h,gC,BP,Ap];exact z _ _ (Hs.refl b)
theorem FN{x t:Int}(a:St true s G)(h:ω[i]?=some (some (.int x))):Tst s ω G (gTB (Ad (Ag (eqF false)) (Ab i) (gC (.int t)))):=λZ z=>by
 simp only[gTB,Ad,Ag,Ab,h,gC,Bm,Ap];exact z _ _ (Hs.refl a)
theorem d0{x t:Int}(a:St true s G)(h:ω[i]?=some (some (.int x))):Tst s ω G (gTB (Ad (AS (λi j=>decide (i < j)) A2) (Ab i) (gC (.int t)))):=λZ z=>by
 simp only[gTB,Ad,AS,Ab,h,gC];exact z _ _ (Hs.refl a)
theorem d3{t:Int}(a:St true s G)(h:ω[0]?=some (some (.ref s))):Tst s ω G (gTB (Ad (AS (λi j=>decide (i < j)) A2) (Ad (Ag ixW) (Ab 0) (gC (.int 2))) (gC (.int t)))):=λZ z=>by
 obtain⟨c,hc⟩:=RK a
 simp only[gTB,Ad,AS,Ag,Ab,h,gC,hc,Ap];exact z _ _ (Hs.refl a)
theorem d4{t:Int}(b:0 < m/\m<=1000)(a:St true s G)(h:ω[0]?=some (some (.ref s))):Tst s ω G (gTB (Ad (Ag (eqF false)) (Ah Co XF (Aa (Ab 0) (Aa (gC (.int m)) Ac))) (gC (.int t)))):=λZ z=>by
 simp only[gTB,Ad,Ag,Ah,Aa,Ac,Ab,h,gC]
 refine Bh b.1 (by lia) a λr G1 _ _ h1=>?_
 simp only[Bm,Ap];exact z _ _ h1
theorem d5{t:Int}(b:0 < m/\m<=1000)(a:St true s G)(h:ω[0]?=some (some (.ref s))):Tst s ω G (gTB (Ad (AU λi j=>decide (j < i)) (Ah Co XF (Aa (Ab 0) (Aa (gC (.int m)) Ac))) (gC (.int t)))):=λZ z=>by
 simp only[gTB,Ad,AU,Ah,Aa,Ac,Ab,h,gC]
 exact Bh b.1 (by lia) a λr G1 _ _ h1=>z _ _ h1
theorem d6{x:Int}(a:St true s G)(h:ω[i]?=some (some (.int x))):Tst s ω G (gTB (Ad (Ag (inF false)) (Ab i) (An (Aa (gC (.int 4)) (Aa (gC (.int 9)) Ac))))):=λZ z=>by
 simp only[gTB,Ad,Ag,Ab,h,gC,An,Aa,Ac]
 refine⟨sz rfl,λp b=>?_⟩
 have e:inF false (.int x) (.ref p) (put G p (.lst [.int 4,.int 9]))=some (.bl (inV (.int x) [.int 4,.int 9])):=by
  unfold inF
  show(CM _ (.ref p)).bind _=_
  rw[Jn Au];rfl
 rw[e,Ap]
 exact z _ _ (Hs.new a b)
variable {gt:GT}
theorem DJ{Ak:GS}(h:Tst s ω G gt)(h1:∀ G',Hs true s G G'->e ω G' D.rt)(h2:∀ G',Hs true s G G'->Ak D ω G'):Af (gIf gt (Ai e) Ao) Ak D ω G:=by
 simp only[Af,gIf]
 exact h _ λb G' a=>A0 (λ_=>h1 G' a) (λ_=>h2 G' a)
theorem d9{Ak:GS}(h:Tst s ω G gt)(h1:∀ G',Hs true s G G'->e ω G' λw G2=>Ak D (ω.set i (some w)) G2)(h2:∀ G',Hs true s G G'->Ak D ω G'):Af (gIf gt (Aj i e) Ao) Ak D ω G:=by
 simp only[Af,gIf]
 exact h _ λb G' a=>A0 (λ_=>h1 G' a) (λ_=>h2 G' a)
theorem KU{x Ak:GS}(h:Tst s ω G gt)(h1:∀ G',Hs true s G G'->x {D with nx:=Ak D} ω G')(h2:∀ G',Hs true s G G'->Ak D ω G'):Af (gIf gt x Ao) Ak D ω G:=by
 simp only[Af,gIf]
 exact h _ λb G' a=>A0 (λ_=>h1 G' a) (λ_=>h2 G' a)
theorem KY{q0:Addr}{items:List W}{w:Str}{R:List W->Hw->Prop}{j:Hw}(g:q0≠s):∀(l:List (Str×Str))(e d:Option W)(ks:List Str)(G:Hw),Hs true s j G->G q0=some (.lst items)->(∀ x∈l,AA x.1=true)->ks.length+l.length<=12->(∀ k∈ks,AA k=true)->
  (∀(ks':List Str)(G':Hw),Hs true s j G'->(∀ k∈ks',AA k=true)->ks'.length<=12->R (ks'.map W.str) G')->
  AY (holds q0 items) (A9 0 1) (gTB (Ad (Ag (inF false)) (Ab 1) (An (Aa (Ab 2) (Aa (gC (.str "any")) Ac))))) (Ab 0) R (l.map Hr) [e,d,some (.str w)] G (ks.map W.str)
 | [],e,d,ks,G,h,hi,_,hl,c,r=>⟨hi,r ks G h c (by rw[Yi]at hl;lia)⟩
 | x::l,e,d,ks,G,h,hi,f,hl,c,r=>by
  rw[Yg]at hl
  refine⟨hi,Fo (by rw[Yh];lia),?_⟩
  simp only[A9,Hr,Yk,Yl,gTB,Ad,Ag,Ab,An,Aa,Ac,gC,Yb,Yc]
  refine⟨sz rfl,λp m=>?_⟩
  rw[RH (G:=put G p (.lst [.str w,.str "any"])) (p:=p) (xs:=[.str w,.str "any"]) [w,"any"] x.2 Au rfl,Ap]
  have h2:=h.put (o:=.lst [.str w,.str "any"]) m
  have i:=AF (o:=.lst [.str w,.str "any"]) m _ _ hi
  have b:∀ y∈l,AA y.1=true:=λy n=>f y (Yd _ n)
  refine A0 (λ_=>?_) (λ_=>?_)
  ·have z:=KY (w:=w) g l (some (.str x.1)) (some (.str x.2)) (ks++[x.1]) _ h2 i b (by rw[Yj];simp only[Yg,Yi];lia) (λk a=>by
    rcases Yz.mp a with a | a
    ·exact c k a
    ·rw[YA.mp a];exact f x Ye) r
   rw[Yy]at z
   exact z
  ·exact KY g l _ _ ks _ h2 i b (by lia) c r
abbrev gKn:GE:=B3 (EO (Ab 2)) 2 [3] (A9 0 1) (gTB (Ad (Ag (inF false)) (Ab 1) (An (Aa (Ab 2) (Aa (gC (.str "any")) Ac))))) (Ab 0)
theorem RO{w:Str}{Ak:GS}(e:St true s G)(a:NL s G pn ns d)(h2:ω[2]?=some (some (.ref pn)))(f:ω[3]?=some (some (.str w)))(k:∀(p:Addr)(ks:List Str)(G':Hw),Hs true s G G'->p≠s->G' p=some (.lst (ks.map W.str))->(∀ k∈ks,AA k=true)->ks.length<=12->Ak D (ω.set 5 (some (.ref p))) G'):Af (Aj 5 gKn) Ak D ω G:=by
 refine AE ?_
 simp only[gKn,B3,EO,Ab,h2,a.2.1,By,Ym,List.map_nil,f,Option.getD_some,List.replicate]
 refine KY a.1 ns none none [] G (Hs.refl e) a.2.1 a.2.2.1 (by have:=a.2.2.2;simp only[Yi];lia) (λk b=>by cases b) λks' G' h b hl p c=>?_
 exact k p ks' _ (h.put c) (Hs.ne h.1 c) Au b hl
variable {s p:Addr} {G G1 G2:Hw} {n d:Nat} {ω:Sw}
set_option hygiene false in
abbrev HD5:List Str:=["num","truth","row","box","to"]
abbrev RP:Spw:=En true (λ(w:Str)s ws _=>ws=[.ref s,.str w]/\w∈HD5) λ_ _ r _=>∃ t:Te,r=t.enc/\TmB 2 2 t
theorem Hm(T:Tx K mg base a):Df P w K mg base "_law_leaf" 2 2 RP:=by
 refine mk0 (k:=1) T.bj rfl Hj C4 (λL G Q E⟨_,s,⟨e,_⟩,_⟩=>by rw[e];rfl) (dN T (AH T) (Yr _)) λL G Q E hC q=>?_
 obtain⟨I,s,⟨rfl,hw⟩,J,q⟩:=q
 unfold RB
 show Af (Aj 2 _) _ (Av Q) [some (.ref s),some (.str I),none,none] G
 refine AE ?_
 simp only[Ad,An,Ah,Aa,Ac,Ab,gC,ES,Yb,Yc]
 refine⟨1,rfl,?_⟩
 refine KH (xs:=[.int 1,.int (-1)]) rfl (by decide) (by decide) J λx H G1 h1=>?_
 obtain⟨i,rfl,hi⟩:∃ i:Int,x=.int i/\(i=1\/i=-1):=by
  simp only[Yo,YX,or_false]at H
  rcases H with rfl | rfl
  ·exact⟨1,rfl,.inl rfl⟩
  ·exact⟨-1,rfl,.inr rfl⟩
 refine⟨⟨by decide,by decide,by decide⟩,sz rfl,λp2 h=>?_⟩
 have h2:=h1.put (o:=.lst [.int 9,.int ((10:Int) ^ (20:Int).toNat)]) h
 refine Bh (by decide) (by decide) h2.1 λr N r0 r1 l=>⟨⟨by decide,by decide⟩,?_⟩
 obtain⟨m,A,e⟩:=BG (l.2 p2 (Hs.ne h1.1 h) _ Au) (r:=r / 8) (by lia) (by show r / 8 < 2;lia)
 have l:=h2.trans l
 show opt (ixW (.ref p2) (.int (r / 8)) N) _
 rw[e,Ap]
 obtain⟨j,rfl,Z,j1⟩:∃ j:Int,m=.int j/\0 < j/\j<=100000000000000000000:=by
  simp only[Yo,YX,or_false]at A
  rcases A with rfl | rfl
  ·exact⟨9,rfl,by decide,by decide⟩
  ·exact⟨_,rfl,by decide,by decide⟩
 refine Bh Z (by lia) l.1 λv G4 v0 v1 n=>?_
 have n:=l.trans n
 have y:(2:Int) ^ 64=18446744073709551616:=by decide
 refine⟨.inl (by rw[y];lia),?_⟩
 have F:-NB<=i*v/\i*v<=NB:=by
  show(-99999999999999999999:Int)<=i*v/\i*v<=(99999999999999999999:Int)
  rcases hi with rfl | rfl <;> lia
 generalize i*v=num at F ⊢
 refine AE ?_
 simp only[ET,Ad,Ae,Ah,Aa,Ac,Ab,gC,Ag,Yk,Yl,Yb,Yc]
 refine⟨sz rfl,?_⟩
 refine Bh (by decide) (by decide) n.1 λU D _ _ u=>?_
 have u:=n.trans u
 simp only[Bm,Ap]
 generalize((U==1) != false)=bb
 refine⟨sz rfl,sz rfl,sz rfl,by decide,λd g=>?_⟩
 obtain⟨X,R⟩:=u.old g
 have B:=u.put (o:=.dct (kvW ["num","truth","row"] [.tup [.str "num",.int num],.tup [.str "truth",.bl bb],.tup [.str "rec",.tup []]])) g
 have p:put D d (.dct (kvW ["num","truth","row"] [.tup [.str "num",.int num],.tup [.str "truth",.bl bb],.tup [.str "rec",.tup []]])) d=_:=Au
 generalize put D d (.dct (kvW ["num","truth","row"] [.tup [.str "num",.int num],.tup [.str "truth",.bl bb],.tup [.str "rec",.tup []]]))=G6 at B p ⊢
 simp only[Af,A8,gMt,ET,Ae,Aa,Ac,Ab,gC,Yk,Yl,Yb,Yc]
 refine⟨⟨d,_,rfl,p⟩,sz rfl,sz rfl,sz rfl,sz rfl,sz rfl,by decide,λO c=>?_⟩
 refine⟨d,O,_,_,rfl,rfl,Cm p c,AF c _ _ p,Au,sz rfl,?_⟩
 have Y:=(B.put (o:=.dct (kvW ["box","to"] [.tup [.str "new",.tup [.str "num",.int num]],.tup [.str "fun",.str "x",.tup [.str "num"],.tup [.str "name",.str "x"]]])) c).set (o:=.dct (B7 (kvW ["num","truth","row"] [.tup [.str "num",.int num],.tup [.str "truth",.bl bb],.tup [.str "rec",.tup []]]) (kvW ["box","to"] [.tup [.str "new",.tup [.str "num",.int num]],.tup [.str "fun",.str "x",.tup [.str "num"],.tup [.str "name",.str "x"]]]))) R X
 simp only[Ai,Ad,Ag,Ab,Yb,Yc,ixK,Au]
 have z:=dV F
 have b:∀ t:Te,TmB 2 2 t->Q t.enc _:=λt S=>q _ _ ⟨t,rfl,S⟩ Y
 simp only[HD5,Yo,YX,or_false]at hw
 rcases hw with rfl | rfl | rfl | rfl | rfl
 ·exact Eq.mpr (by kernel_rfl) (b (.nd "num" (.num num .nil)) (z.mono (by decide) (by decide)))
 ·exact Eq.mpr (by kernel_rfl) (b (.nd "truth" (.tru bb .nil)) ((dU bb).mono (by decide) (by decide)))
 ·exact Eq.mpr (by kernel_rfl) (b (.nd "rec" (.fld .nil .nil)) ((RI (f:=.nil) rfl rfl (Yr 0) (Yr 0)).mono (by decide) (by decide)))
 ·exact Eq.mpr (by kernel_rfl) (b (.nd "new" (.trm (.nd "num" (.num num .nil)) .nil)) (Hq (by decide +kernel) z))
 ·exact Eq.mpr (by kernel_rfl) (b (.nd "fun" (.nam "x" (.knd .num (.trm (.nd "name" (.nam "x" .nil)) .nil)))) (RG (by decide +kernel) ⟨rfl,rfl⟩ (KP (by decide +kernel))))
theorem hd6(h:(ss.all λx=>HD6.contains x)=true)(a:x∈ss):x∈HD6:=List.contains_iff_mem.mp (List.all_eq_true.mp h x a)
theorem Hn(T:Tx K mg base a)(hk:2<=k)(D:Df P w K mg base "_law_term" k 4 (Cp n)):Df P w K mg base "_law_made" (k+2) 4 (Ht n λc=>3*c+1):=by
 refine mk0 (k:=k+1) T.bi rfl Rr C4 (by rintro ws G Q E ⟨_,s,⟨⟨e,_⟩,_⟩,_⟩;rw[e];rfl) (dy T D (by lia) (AH T) (by lia) (DE T hk D) (Yr _) (DF T hk D) (Yr _)) λws G Q E hC q=>?_
 obtain⟨⟨d,ns,pn,wn⟩,s,⟨⟨rfl,hd,hn,hw⟩,h1⟩,hs,q⟩:=q
 obtain⟨d,rfl⟩:∃ e,d=e+1:=⟨d - 1,by lia⟩
 dsimp only at hd hn hw q
 rw[Nat.add_sub_cancel]at q
 have hb:=bc2 d
 unfold Zip
 show Af (gIf _ _ Ao) _ (Av Q) [some (.ref s),some (.int ((d+1:Nat):Int)),some (.ref pn),some (.str wn)] G
 have two:∀{w:Str}{G1:Hw},KTD.datumAt w AB=some [("term":Str),"term"]->Hs true s G G1->Ae (Aa (gC (.str w)) (Aa (Ah (Cp n) XF (Aa (Ab 0) (Aa (Ad (Az (λ_ _=>True) λi j=>i - j) (Ab 1) (gC (.int 1))) (Aa (Ab 2) (Aa (gC (.str "num")) Ac))))) (Aa (Ah (Cp n) XF (Aa (Ab 0) (Aa (Ad (Az (λ_ _=>True) λi j=>i - j) (Ab 1) (gC (.int 1))) (Aa (Ab 2) (Aa (gC (.str "num")) Ac))))) Ac))) [some (.ref s),some (.int ((d+1:Nat):Int)),some (.ref pn),some (.str wn)] G1 Q:=λ{w G1}hw h1=>by
  walk_at "sm"
  refine⟨trivial,?_⟩
  refine C5 (d:=d) (Ep d) (by lia) h1.1 ((hn.keep h1).less (by lia)) (by decide +kernel) λt G2 ht h2=>⟨trivial,?_⟩
  have h2:=h1.trans h2
  refine C5 (d:=d) (Ep d) (by lia) h2.1 ((hn.keep h2).less (by lia)) (by decide +kernel) λu G3 hu h3=>⟨sz rfl,?_⟩
  exact q _ _ ⟨.nd w (.trm t (.trm u .nil)),rfl,(KO hw ht hu).mono (by lia) (by lia)⟩ (h2.trans h3)
 refine DJ (Es hs rfl) (λG1 h1=>two (by decide +kernel) h1) λG1 h1=>?_
 refine DJ (Es h1.1 rfl) (λG2 h2=>?_) λG2 h2=>?_
 ·have h2:=h1.trans h2
  walk_at "sm"
  refine DH (ss:=["num","truth","box"]) rfl (by decide) (by decide) h2.1 λx hx G3 h3=>?_
  have h3:=h2.trans h3
  exact FM (by lia) h3.1 (hn.keep h3) (hd6 (by decide +kernel) hx) λt G4 ht h4=>q _ _ ⟨t,rfl,ht⟩ (h3.trans h4)
 have h2:=h1.trans h2
 refine DJ (Es h2.1 rfl) (λG3 h3=>?_) λG3 h3=>?_
 ·have h3:=h2.trans h3
  walk_at "sm"
  refine⟨trivial,?_⟩
  refine DH (ss:=["num","row"]) rfl (by decide) (by decide) h3.1 λx hx G4 h4=>?_
  have h4:=h3.trans h4
  refine C5 (d:=d) (Ep d) (by lia) h4.1 ((hn.keep h4).less (by lia)) (hd6 (by decide +kernel) hx) λt G5 ht h5=>⟨sz rfl,?_⟩
  exact q _ _ ⟨.nd "new" (.trm t .nil),rfl,(Hq (by decide +kernel) ht).mono (by lia) (by lia)⟩ (h4.trans h5)
 have h3:=h2.trans h3
 refine DJ (Es h3.1 rfl) (λG4 h4=>?_) λG4 h4=>?_
 ·have h4:=h3.trans h4
  walk_at "sm"
  exact FM (c:=λc=>c+1) (by lia) h4.1 (hn.keep h4) (by decide +kernel) λt G5 ht h5=>q _ _ ⟨t,rfl,ht.mono (by show bc d+1<=3*bc d+1;lia) (Yr _)⟩ (h4.trans h5)
 exact two (by decide +kernel) (h3.trans h4)
theorem ea:∀ xs:List W,Bp xs []=some xs.isEmpty
 | []=>rfl
 | _::_=>rfl
theorem RQ:∀ ks:List Str,L3.dpL (ks.map W.str) < 90
 | []=>by decide
 | k::ks=>by
  have:=RQ ks
  show max (dpW (.str k)) (L3.dpL (ks.map W.str)) < 90
  have:dpW (.str k)=0:=rfl
  lia
variable {ks:List Str}
theorem ef(h:G q=some (.lst (ks.map W.str)))(h':G p=some (.lst [])):eqF true (.ref q) (.ref p) G=some (.bl (!ks.isEmpty)):=by
 have e:eqW (.ref q) (.ref p) G=some ks.isEmpty:=by
  unfold eqW
  simp only[h,h']
  rw[if_pos (RQ ks),ea]
  cases ks <;> rfl
 unfold eqF
 rw[e]
 cases ks <;> rfl
def RS:List Kd:=[.any,.any]
def FO:List Kd:=[.any,.any,.row .nil true,.row (.cons "b" true .num .nil) true,.row (.cons "a" false .any .nil) true,.row (.cons "ab" false .num .nil) true]
theorem CB{x Ak:GS}(T:GS->Prop)(h1:T Ak)(h2:∀ r,T r->Af x r D ω G):Af x Ak D ω G:=h2 _ h1
theorem eg:∀ k∈FO,KOk k:=by
 have h:(FO.all λk=>k.ok&&BF k)=true:=by decide +kernel
 intro k a
 have:=List.all_eq_true.mp h k a
 simp only[YG]at this
 exact this
set_option hygiene false in
theorem KZ(h:G p=some (.lst xs)):AM [.ref p] G=some (.int (xs.length:Nat)):=by
 unfold AM BK
 dsimp only
 rw[h]
theorem RT(c:G p=some (.lst xs))(a:p≠s)(h:0 < xs.length)(h1:xs.length<=1000)(d:St true s G)(k:∀ x∈xs,∀ G',Hs true s G G'->Z x G'):opt (AM [.ref p] G) λw=>Co [.ref s,w] G (λw G'=>Ag ixW (.ref p) w G' Z) E:=by
 rw[KZ c,Ap]
 refine Bh (by lia) (by lia) d λr G' f r1 b=>?_
 obtain⟨x,g,e⟩:=BG (b.2 p a _ c) f r1
 show opt (ixW (.ref p) (.int r) G') _
 rw[e,Ap]
 exact k x g G' b
theorem RU{x y:GS}(h:Tst s ω G gt)(h1:∀ G',Hs true s G G'->x D ω G')(h2:∀ G',Hs true s G G'->y D ω G'):gIf gt x y D ω G:=h _ λb G' a=>A0 (λ_=>h1 G' a) (λ_=>h2 G' a)
theorem RV{Z:Bool->Hw->Prop}(b:St true s G)(c:ω[i]?=some (some (.ref p)))(d:G p=some (.lst (ks.map W.str)))(z:∀ G',Hs true s G G'->Z (!ks.isEmpty) G'):gTB (Ad (Ag (eqF true)) (Ab i) (An Ac)) ω G Z:=by
 simp only[gTB,Ad,Ag,Ab,c,An,Ac]
 refine⟨sz rfl,λe a=>?_⟩
 rw[ef (AF a _ _ d) Au,Ap]
 exact z _ (Hs.new b a)
theorem eh{x y Ak:GS}(c:St true s G)(f:ω[0]?=some (some (.ref s)))(d:ω[5]?=some (some (.ref p)))(g:G p=some (.lst (ks.map W.str)))(e:ks≠[]->∀ G',Hs true s G G'->x {D with nx:=Ak D} ω G')(a:∀ G',Hs true s G G'->y {D with nx:=Ak D} ω G'):Af (gIf (Bu (gTB (Ad (Ag (eqF true)) (Ab 5) (An Ac))) (gTB (Ad (AU λi j=>decide (j < i)) (Ah Co XF (Aa (Ab 0) (Aa (gC (.int 3)) Ac))) (gC (.int 0))))) x y) Ak D ω G:=by
 simp only[Af,gIf,Bu]
 refine RV c d g λG1 h1=>?_
 cases ks with
 | nil=>exact a G1 h1
 | cons k ks =>
  refine d5 (by decide) h1.1 f _ λb G2 h2=>?_
  exact A0 (λ_=>e (by simp) G2 (h1.trans h2)) (λ_=>a G2 (h1.trans h2))
theorem Ho(T:Tx K mg base a)(hk:2<=k)(D:Df P w K mg base "_law_term" k 4 (Cp n)):Df P w K mg base "_law_first" (k+2) 5 (KQ n):=by
 refine mk0 (k:=k+1) T.bn rfl KJ C4 (by rintro ws G Q E ⟨_,s,⟨e,_⟩,_⟩;rw[e];rfl) (dO T (AH T) (by lia) (DF T hk D) (Yr _) (DE T hk D) (Yr _) D (by lia)) λws G Q E hC q=>?_
 obtain⟨⟨⟨d,ns,pn,wn⟩,hd0⟩,s,⟨rfl,⟨hd,hn,hw⟩,h1,hh⟩,hs,q⟩:=q
 dsimp only at h1
 obtain⟨d,rfl⟩:∃ e,d=e+1:=⟨d - 1,by lia⟩
 dsimp only at hd hn hw q hh
 rw[Nat.add_sub_cancel]at q
 have hb:=bc2 d
 unfold RD
 show Af (Aj 5 gKn) _ (Av Q) [some (.ref s),some (.int ((d+1:Nat):Int)),some (.ref pn),some (.str hd0),some (.str wn),none,none,none] G
 refine RO hs hn rfl rfl λp5 ks G1 h1 n5 f5 hks l5=>?_
 walk_at "pd"
 refine CB (λr=>∀(t:Te)G',TmB (3*bc d+1) (3*(d+1)) t->Hs true s G G'->r (Av Q) [some (.ref s),some (.int ((d+1:Nat):Int)),some (.ref pn),some (.str hd0),some (.str wn),some (.ref p5),none,some t.enc] G') (λt G2 ht h2=>?_) λAk tail=>?_
 ·refine KI (xs:=RS.map Kd.enc) h2.1 (λZ z=>by walk_at "cl") (by decide) λp6 G3 h3 n6 f6=>?_
  have h3:=h2.trans h3
  walk_at "pd"
  refine CB (λr=>∀(p6:Addr)(G':Hw)(xs:List Kd),Hs true s G G'->p6≠s->G' p6=some (.lst (xs.map Kd.enc))->(∀ k∈xs,k∈FO)->0 < xs.length->xs.length<=10->r (Av Q) [some (.ref s),some (.int ((d+1:Nat):Int)),some (.ref pn),some (.str hd0),some (.str wn),some (.ref p5),some (.ref p6),some t.enc] G') (λp6 G4 xs h4 n6 f6 hxs x0 x1=>?_) λAk tail=>?_
  ·refine d9 (d4 (by decide) h4.1 rfl) (λG5 h5=>?_) λG5 h5=>?_
   ·have f6:=h5.2 _ n6 _ f6
    have h5:=h4.trans h5
    simp only[Ae,Ad,Ah,gB,rF,Aa,Ac,Ab,gC,Yk,Yl,Yb,Yc]
    refine RT f6 n6 (by rw[Yh];exact x0) (by rw[Yh];lia) h5.1 λx hx G6 h6=>⟨sz rfl,?_⟩
    obtain⟨k,hk,rfl⟩:=YC.mp hx
    exact q _ _ ⟨.nd "as" (.trm t (.knd k .nil)),rfl,(KN ht (eg k (hxs k hk))).mono (by lia) (by lia)⟩ (h5.trans h6)
   ·exact q _ _ ⟨t,rfl,ht.mono (by lia) (by lia)⟩ (h4.trans h5)
  ·refine KU (Es h3.1 rfl) (λG4 h4=>?_) λG4 h4=>?_
   ·have f6:=h4.2 _ n6 _ f6
    have h4:=h3.trans h4
    refine EZ (ys:=((FO.drop 2).take 2).map Kd.enc) h4 rfl f6 (λZ z=>by walk_at "cl") (by decide) λp6 G5 h5 n6 f6=>?_
    simp only[Yk,Yl,Aj,Ad,Ab,Yb,Yc,An]
    simp only[Ae,gC,Aa,Ac]
    refine⟨sz rfl,sz rfl,sz rfl,sz rfl,sz rfl,sz rfl,sz rfl,sz rfl,sz rfl,λp7 hp7=>?_⟩
    refine DI (AF hp7 _ _ f6) Au (by decide) λp8 hp8=>?_
    exact tail p8 _ FO ((h5.put hp7).put hp8) (Hs.ne (h5.1.put hp7) hp8) Au (λk hk=>hk) (by decide) (by decide)
   ·exact tail p6 _ RS (h3.trans h4) n6 (h4.2 _ n6 _ f6) (λk hk=>List.mem_of_mem_take (i:=2) hk) (by decide) (by decide)
 ·refine eh h1.1 rfl rfl f5 (λhne G2 h2=>?_) λG2 h2=>?_
  ·have f5:=h2.2 _ n5 _ f5
   have h2:=h1.trans h2
   simp only[Aj,Ae,Ad,Ah,gB,rF,Aa,Ac,Ab,gC,Yk,Yl,Yb,Yc]
   refine RT f5 n5 (by rw[Yh];exact List.length_pos_iff.mpr hne) (by rw[Yh];lia) h2.1 λx hx G3 h3=>⟨sz rfl,?_⟩
   obtain⟨k,hk,rfl⟩:=YC.mp hx
   exact tail (.nd "name" (.nam k .nil)) _ ((KP (hks k hk)).mono (by lia) (by lia)) (h2.trans h3)
  ·have h2:=h1.trans h2
   refine RU (Es h2.1 rfl) (λG3 h3=>?_) λG3 h3=>?_
   ·have h3:=h2.trans h3
    simp only[Aj,Ah,Aa,Ac,Ab,Yk,Yl,Yb,Yc]
    exact FM (c:=λc=>c+1) (by lia) h3.1 (hn.keep h3) hw λt G4 ht h4=>tail t _ (ht.mono (by show bc d+1<=3*bc d+1;lia) (Yr _)) (h3.trans h4)
   have h3:=h2.trans h3
   refine RU (Es h3.1 rfl) (λG4 h4=>?_) λG4 h4=>?_
   ·have h4:=h3.trans h4
    simp only[Aj,Ah,Aa,Ac,Ab,Yk,Yl,Yb,Yc]
    exact FM (c:=λc=>3*c+1) (by lia) h4.1 (hn.keep h4) hw λt G5 ht h5=>tail t _ ht (h4.trans h5)
   ·have h4:=h3.trans h4
    simp only[Aj,Ae,Ad,Ah,Aa,Ac,Ab,gC,Yk,Yl,Yb,Yc]
    refine⟨trivial,?_⟩
    refine C5 (d:=d) (Ep d) (by lia) h4.1 ((hn.keep h4).less (by lia)) hw λt G5 ht h5=>⟨sz rfl,?_⟩
    exact tail (.nd "new" (.trm t .nil)) _ ((Hq (by decide +kernel) ht).mono (by lia) (by lia)) (h4.trans h5)
set_option hygiene false in
theorem RW{i:Int}{hd w:Str}(hi:i=((d+1:Nat):Int))(a:d+1 < n+1)(b:St true s G)(g:NL s G pn ns (d+1))(hw:w∈HD6)(f:hd∈(["to","row","box"]:List Str))(k:∀ t G',TmB (3*bc d+2) (3*(d+1)+1) t->Hs true s G G'->Z t.enc G'):KQ n [.ref s,.int i,.ref pn,.str hd,.str w] G Z E:=by
 subst hi
 exact⟨((d+1,ns,pn,w),hd),s,⟨rfl,⟨a,g,hw⟩,by show 1<=d+1;lia,f⟩,b,λr G'⟨t,e,c⟩h=>by rw[e];exact k t G' c h⟩
theorem ei{w:Str}(h:w∈HD5):w∈HD6:=List.mem_of_mem_take (i:=5) h
theorem ek{w:Str}(h:w∈HD6)(a:w≠"any"):w∈HD5:=by
 simp only[HD6,Yo,YX,or_false]at h
 simp only[HD5,Yo,YX,or_false]
 rcases h with h | h | h | h | h | h
 ·exact .inl h
 ·exact .inr (.inl h)
 ·exact .inr (.inr (.inl h))
 ·exact .inr (.inr (.inr (.inl h)))
 ·exact .inr (.inr (.inr (.inr h)))
 ·exact Qh h a
theorem em(b:t.ok=true)(G:Hw):∃ x:Str,ixW t.enc (.int 0) G=some (.str x)/\(x="fun"->∃(k:Kd),ixW t.enc (.int 2) G=some k.enc):=by
 cases t with
 | raw v=>cases b
 | nd w r =>
  refine⟨w,BE,λe=>?_⟩
  subst e
  have h:=(Ei b).1
  have h2:r.sorts=[("name":Str),"kind","term"]:=(YE ((show KTD.datumAt ("fun":Str) AB=some [("name":Str),"kind","term"] by decide +kernel).symm.trans h)).symm
  cases r with
  | nam x r =>
   have a:r.sorts=[("kind":Str),"term"]:=(Qe h2).2
   cases r with
   | knd k r=>exact⟨k,Dq⟩
   | nil=>cases a
   | num _ _=>exact Qh (Qe a).1 (by decide +kernel)
   | tru _ _=>exact Qh (Qe a).1 (by decide +kernel)
   | nam _ _=>exact Qh (Qe a).1 (by decide +kernel)
   | trm _ _=>exact Qh (Qe a).1 (by decide +kernel)
   | fld _ _=>exact Qh (Qe a).1 (by decide +kernel)
  | nil=>cases h2
  | num _ _=>exact Qh (Qe h2).1 (by decide +kernel)
  | tru _ _=>exact Qh (Qe h2).1 (by decide +kernel)
  | knd _ _=>exact Qh (Qe h2).1 (by decide +kernel)
  | trm _ _=>exact Qh (Qe h2).1 (by decide +kernel)
  | fld _ _=>exact Qh (Qe h2).1 (by decide +kernel)
abbrev oms(s:Addr)(d:Nat)(pn:Addr)(w:Str)(o4 o5 o6 o7 o8 o9:Option W):Sw:=[some (.ref s),some (.int (d:Nat)),some (.ref pn),some (.str w),o4,o5,o6,o7,o8,o9]
theorem Bg(T:Tx K mg base a):∀ n:Nat,Df P w K mg base "_law_term" (3*n+3) 4 (Cp n)
 | 0=>FJ T.Oj C4 λws G Q E⟨x,s,⟨_,hd,_⟩,_⟩=>by lia
 | n+1=>by
  have D:=Bg T n
  refine mk0 (k:=3*n+5) T.Oj rfl KM C4 (by rintro ws G Q E ⟨_,s,⟨e,_⟩,_⟩;rw[e];rfl) (dP T (AH T) (by lia) (Hm T) (by lia) (Hn T (by lia) D) (by lia) (Ho T (by lia) D) (by lia) D (by lia) (DD T (f:=true)) (by lia)) λws G Q E hC q=>?_
  obtain⟨⟨d,ns,pn,wn⟩,s,⟨rfl,hd,hn,hw⟩,hs,q⟩:=q
  dsimp only at hd hn hw q
  have q:∀(t:Te)G',TO d t->Hs true s G G'->Q t.enc G':=λt G' h1 h2=>q _ _ ⟨t,rfl,h1⟩ h2
  have hb2:=bc2 d
  unfold RF
  show Af (BL _ _ _) _ (Av Q) (oms s d pn wn none none none none none none) G
  refine CB (λr=>∀ G',Hs true s G G'->r (Av Q) (oms s d pn wn none none none none none none) G') (λG1 h1=>?_) λAk tail=>?_
  rotate_left
  ·obtain⟨x,b,c,e⟩:=hs
   have e:G s=some (.lst [.int x,.bl b,.int c]):=e
   simp only[Af,BL,Ad,Ag,Ab,gC,Yb,ix2 e,Ap]
   refine⟨trivial,Rx e (tail _ ⟨⟨x,b,_,Au⟩,λb hb u hu=>by rw[Bj hb];exact hu⟩)⟩
  refine CB (λr=>∀ w G',w∈HD5->Hs true s G G'->r (Av Q) (oms s d pn w none none none none none none) G') (λwn G2 hw h2=>?_) λAk tail=>?_
  rotate_left
  ·have set5:∀ G2,Hs true s G G2->(Aj 3 (Ad (Ag ixW) (An (Aa (gC (.str "num")) (Aa (gC (.str "truth")) (Aa (gC (.str "row")) (Aa (gC (.str "box")) (Aa (gC (.str "to")) Ac)))))) (Ah Co XF (Aa (Ab 0) (Aa (gC (.int 5)) Ac))))) {Av Q with nx:=Ak (Av Q)} (oms s d pn wn none none none none none none) G2:=λG2 h2=>by
    simp only[Aj,Ad,An,Ah,Aa,Ac,Ab,gC,Yb,Yc]
    exact DH (ss:=HD5) rfl (by decide) (by decide) h2.1 λx hx G3 h3=>tail x G3 hx (h2.trans h3)
   by_cases hany:wn="any"
   ·simp only[Af,gIf,gOr,gTB,Ad,Ag,Ab,gC,Yb,Yc,BP,Ap]
    rw[show(wn==("any":Str))=true by simp[hany]]
    exact set5 G1 h1
   ·simp only[Af,gIf,gOr,gTB,Ad,Ag,Ab,gC,Yb,Yc,BP,Ap]
    rw[show(wn==("any":Str))=false by simpa using hany]
    simp only[show(false != false)=false from rfl,Yq,if_false]
    simp only[Ah,Aa,Ac,Ab,gC,Yb]
    refine Bh (by decide) (by decide) h1.1 λr G2 _ _ h2=>?_
    simp only[Bm,Ap]
    exact A0 (λ_=>set5 G2 (h1.trans h2)) (λ_=>tail wn G2 (ek hw hany) (h1.trans h2))
  refine AE ?_
  walk_at "sm"
  refine Bh (by decide) (by decide) h2.1 λBG G3 _ _ h3=>?_
  have h3:=h2.trans h3
  refine RO h3.1 (hn.keep h3) rfl rfl λp5 ks G4 h4 n5 f5 hks l5=>?_
  have h4:=h3.trans h4
  walk_at "pd"
  have hw6:=ei hw
  refine CB (λr=>∀ G',Hs true s G G'->r (Av Q) (oms s d pn wn (some (.int BG)) (some (.ref p5)) none none none none) G') (λG5 h5=>?_) λAk tail=>?_
  rotate_left
  ·simp only[Af,gIf,Bu]
   refine FN h4.1 rfl _ λb G5 h5=>?_
   refine A0 (λ_=>?_) (λ_=>?_)
   ·refine RV h5.1 rfl (h5.2 _ n5 _ f5) λG6 h6=>?_
    have f6:=h6.2 _ n5 _ (h5.2 _ n5 _ f5)
    have h6:=(h4.trans h5).trans h6
    refine A0 (λ_=>?_) (λ_=>tail G6 h6)
    simp only[Ai,Ae,Ad,An,Ah,gB,rF,Aa,Ac,Ab,gC,Yb,Yc]
    refine⟨sz rfl,λp7 hp7=>?_⟩
    refine DI (AF hp7 _ _ f6) Au (by rw[Yh];simp only[Yg,Yi];lia) λp8 hp8=>?_
    have h8:=(h6.put (o:=.lst [.str "z"]) hp7).put (o:=.lst (ks.map W.str++[.str "z"])) hp8
    have f8:put (put G6 p7 (.lst [.str "z"])) p8 (.lst (ks.map W.str++[.str "z"])) p8=some (.lst ((ks++[("z":Str)]).map W.str)):=by rw[Au,Yy];rfl
    have f8':=AF (o:=.lst (ks.map W.str++[.str "z"])) hp8 _ _ (AF (o:=.lst [.str "z"]) hp7 _ _ f6)
    have n8:=Hs.ne (h6.1.put (o:=.lst [.str "z"]) hp7) hp8
    generalize put (put G6 p7 (.lst [.str "z"])) p8 (.lst (ks.map W.str++[.str "z"]))=G8 at h8 f8 f8' ⊢
    rw[KZ f8',Ap,Yh]
    refine⟨.inl ⟨by decide,by decide⟩,?_⟩
    rw[show(8:Int)*((ks.length:Nat):Int)=((8*ks.length:Nat):Int) by lia]
    dsimp only
    rw[KG]
    refine Bh (by lia) (by lia) h8.1 λr G9 r0 r1 h9=>⟨⟨by decide,by decide⟩,?_⟩
    obtain⟨x,hx,e⟩:=KW.BG (h9.2 _ n8 _ f8) (r:=r / 8) (by lia) (by rw[Yh,Yj];simp only[Yg,Yi];lia)
    show opt (ixW (.ref p8) (.int (r / 8)) G9) _
    rw[e,Ap]
    obtain⟨k,hk,rfl⟩:=YC.mp hx
    have okk:AA k=true:=by
     rcases Yz.mp hk with hk | hk
     ·exact hks k hk
     ·rw[YA.mp hk];decide +kernel
    exact⟨sz rfl,q (.nd "name" (.nam k .nil)) _ ((KP okk).mono (by lia) (by lia)) (h8.trans h9)⟩
   ·exact tail G5 (h4.trans h5)
  have leaf:∀ G6,Hs true s G G6->Ah RP XF (Aa (Ab 0) (Aa (Ab 3) Ac)) (oms s d pn wn (some (.int BG)) (some (.ref p5)) none none none none) G6 Q:=λG6 h6=>by
   simp only[Ah,Aa,Ac,Ab,Yb,Yc]
   exact⟨wn,s,⟨rfl,hw⟩,h6.1,λr G7⟨t,e,ht⟩h7=>by rw[e];exact q t _ (ht.mono (by lia) (by lia)) (h6.trans h7)⟩
  refine CB (λr=>∀ G',3<=d->Hs true s G G'->r (Av Q) (oms s d pn wn (some (.int BG)) (some (.ref p5)) none none none none) G') (λG6 hd3 h6=>?_) λAk tail=>?_
  rotate_left
  ·simp only[Af,gIf,gOr]
   have e:∀ Z:Bool->Hw->Prop,Z (decide ((d:Int) < 3)) G5->gTB (Ad (AS (λi j=>decide (i < j)) A2) (Ab 1) (gC (.int 3))) (oms s d pn wn (some (.int BG)) (some (.ref p5)) none none none none) G5 Z:=λZ z=>z
   refine e _ ?_
   by_cases h3:(d:Int) < 3
   ·rw[YH h3];exact leaf G5 h5
   ·rw[Qg h3]
    refine d3 h5.1 rfl _ λb G6 h6=>?_
    exact A0 (λ_=>leaf G6 (h5.trans h6)) (λ_=>tail G6 (by lia) (h5.trans h6))
  obtain⟨d,rfl⟩:∃ e,d=e+3:=⟨d - 3,by lia⟩
  have ed:bc (d+3)=4*bc (d+2)+3:=rfl
  have ed1:bc (d+2)=4*bc (d+1)+3:=rfl
  have hb:=bc2 (d+1)
  have q:∀(t:Te)G',TmB (4*bc (d+2)+3) (3*d+11) t->Hs true s G G'->Q t.enc G':=λt G' h=>q t G' (h.mono (Yr _) (by lia))
  have sb:(((d+3:Nat):Int) - 1)=((d+2:Nat):Int):=by lia
  refine DJ (d0 h6.1 rfl) (λG7 h7=>?_) λG7 h7=>?_
  ·have h7:=h6.trans h7
   walk_at "sm"
   exact FM (d:=d+2) (c:=λc=>3*c+1) (by lia) h7.1 (hn.keep h7) hw6 λt G8 ht h8=>q t _ (ht.mono (by show 3*bc (d+2)+1<=4*bc (d+2)+3;lia) (by lia)) (h7.trans h8)
  have h7:=h6.trans h7
  have tm:∀{w:Str}{G8:Hw}{Z:Kw}{E:Addr->Hw->Prop},w∈HD6->Hs true s G G8->(∀ t G',TmB (bc (d+2)) (3*d+8) t->Hs true s G8 G'->Z t.enc G')->Cp n [.ref s,.int (((d+3:Nat):Int) - 1),.ref pn,.str w] G8 Z E:=λhw h8 k=>C5 (d:=d+2) sb (by lia) h8.1 ((hn.keep h8).less (by lia)) hw λt G' ht=>k t G' (ht.mono (Yr _) (by lia))
  have fi:∀{hd w:Str}{G8:Hw}{Z:Kw}{E:Addr->Hw->Prop},hd∈(["to","row","box"]:List Str)->w∈HD6->Hs true s G G8->(∀ t G',TmB (3*bc (d+2)+2) (3*d+10) t->Hs true s G8 G'->Z t.enc G')->KQ n [.ref s,.int ((d+3:Nat):Int),.ref pn,.str hd,.str w] G8 Z E:=λhh hw h8 k=>RW (d:=d+2) rfl (by lia) h8.1 (hn.keep h8) hw hh λt G' ht=>k t G' (ht.mono (Yr _) (by lia))
  refine CB (λr=>∀ G',Hs true s G G'->r (Av Q) (oms s (d+3) pn wn (some (.int BG)) (some (.ref p5)) none none none none) G') (λG8 h8=>?_) λAk tail=>?_
  rotate_left
  ·refine KU (d6 h7.1 rfl) (λG8 h8=>?_) λG8 h8=>tail G8 (h7.trans h8)
   have h8:=h7.trans h8
   refine AE ?_
   walk_at "sm"
   refine fi (by decide +kernel) hw6 h8 λt G9 ht h9=>?_
   have h9:=h8.trans h9
   refine AE ?_
   walk_at "sm"
   refine DH (ss:=["num","to","row","box"]) rfl (by decide) (by decide) h9.1 λx hx G10 h10=>?_
   have h10:=h9.trans h10
   have call:∀(x:Str),x∈HD6->(Ai (Ae (Aa (gC (.str "call")) (Aa (Ab 8) (Aa (Ah (Cp n) XF (Aa (Ab 0) (Aa (Ad (Az (λ_ _=>True) λi j=>i - j) (Ab 1) (gC (.int 1))) (Aa (Ab 2) (Aa (Ab 9) Ac))))) Ac))))) {Av Q with nx:=Ak (Av Q)} (oms s (d+3) pn wn (some (.int BG)) (some (.ref p5)) none none (some t.enc) (some (.str x))) G10:=λx hx=>by
    walk_at "sm"
    refine⟨trivial,tm hx h10 λu G11 hu h11=>⟨sz rfl,?_⟩⟩
    exact q (.nd "call" (.trm t (.trm u .nil))) _ ((KO (by decide +kernel) ht (hu.mono (Yr _) (by lia))).mono (by lia) (by lia)) (h10.trans h11)
   obtain⟨y,hy1,hy2⟩:=em ht.1 G10
   simp only[Af,gIf,gTB,Ad,Ag,Ab,gC,Yk,Yl,Yb,Yc,hy1,BP,Ap]
   by_cases ey:y="fun"
   ·obtain⟨k,hk⟩:=hy2 ey
    rw[show(y==("fun":Str))=true by simp[ey]]
    simp only[show(true != false)=true from rfl,if_true,Aj,Ad,Ag,Ab,gC,Yk,Yl,Yb,Yc,hk,RJ,Ap]
    exact call k.hd (dW k)
   ·rw[show(y==("fun":Str))=false by simpa using ey]
    simp only[show(false != false)=false from rfl,Yq,if_false,Ao]
    exact call x (hd6 (by decide +kernel) hx)
  refine DJ (FN h8.1 rfl) (λG9 h9=>?_) λG9 h9=>?_
  ·have h9:=h8.trans h9
   walk_at "sm"
   refine fi (by decide +kernel) hw6 h9 λt G10 ht h10=>?_
   have h10:=h9.trans h10
   refine DH (ss:=["a","a","b","ab"]) rfl (by decide) (by decide) h10.1 λx hx G11 h11=>⟨sz rfl,?_⟩
   have okx:AA x=true:=List.all_eq_true.mp (show(["a","a","b","ab"]:List Str).all AA=true by decide +kernel) x hx
   exact q (.nd "get" (.trm t (.nam x .nil))) _ ((dQ ht okx).mono (by lia) (by lia)) (h10.trans h11)
  have h9:=h8.trans h9
  refine AE ?_
  walk_at "sm"
  refine⟨trivial,tm hw6 h9 λone G10 hone h10=>?_⟩
  have h10:=h9.trans h10
  refine DJ (FN h10.1 rfl) (λG11 h11=>?_) λG11 h11=>?_
  ·have h11:=h10.trans h11
   walk_at "sm"
   refine⟨trivial,tm (by decide +kernel) h11 λt G12 ht h12=>⟨trivial,?_⟩⟩
   have h12:=h11.trans h12
   refine tm hw6 h12 λu G13 hu h13=>⟨sz rfl,?_⟩
   exact q (.nd "if" (.trm t (.trm one (.trm u .nil)))) _ ((dS ht hone hu).mono (by lia) (by lia)) (h12.trans h13)
  have h11:=h10.trans h11
  refine DJ (FN h11.1 rfl) (λG12 h12=>?_) λG12 h12=>?_
  ·have h12:=h11.trans h12
   walk_at "sm"
   refine⟨trivial,RW (d:=d+1) sb (by lia) h12.1 ((hn.keep h12).less (by lia)) hw6 (by decide +kernel) λt G13 ht h13=>?_⟩
   have h13:=h12.trans h13
   refine DH (ss:=["a","b","c"]) rfl (by decide) (by decide) h13.1 λx hx G14 h14=>⟨sz rfl,?_⟩
   have okx:AA x=true:=List.all_eq_true.mp (show(["a","b","c"]:List Str).all AA=true by decide +kernel) x hx
   exact q (.nd "or" (.trm t (.nam x (.trm one .nil)))) _ ((dR (ht.mono (Yr _) (show _<=3*d+8 by lia)) okx hone).mono (by lia) (by lia)) (h13.trans h14)
  have h12:=h11.trans h12
  refine KU (FN h12.1 rfl) (λG13 h13=>?_) λG13 h13=>?_
  ·have h13:=h12.trans h13
   refine AE ?_
   walk_at "sm"
   refine fi (by decide +kernel) hw6 h13 λt G14 ht h14=>?_
   have h14:=h13.trans h14
   walk_at "sm"
   refine⟨sz rfl,sz rfl,KH (xs:=[.tup [.str "read",t.enc],.tup [.str "write",t.enc,one.enc]]) rfl (by decide) (by decide) h14.1 λx hx G15 h15=>?_⟩
   have h15:=h14.trans h15
   simp only[Yo,YX,or_false]at hx
   rcases hx with rfl | rfl
   ·exact q (.nd "read" (.trm t .nil)) _ ((Hq (by decide +kernel) ht).mono (by lia) (by lia)) h15
   ·exact q (.nd "write" (.trm t (.trm one .nil))) _ ((KO (by decide +kernel) ht (hone.mono (Yr _) (by lia))).mono (by lia) (by lia)) h15
  have h13:=h12.trans h13
  refine AE ?_
  walk_at "sm"
  refine⟨sz rfl,sz rfl,sz rfl,sz rfl,?_⟩
  refine⟨(),s,rfl,h13.1,λr G14⟨k,e,hk⟩h14=>?_⟩
  subst e
  have h14:=h13.trans h14
  refine⟨sz rfl,sz rfl,λp15 hp15=>?_⟩
  have h15:=h14.put (o:=.lst [.tup [.str "as",one.enc,.tup [.str "any"]],.tup [.str "as",.tup [.str "as",one.enc,.tup [.str "any"]],k.enc]]) hp15
  refine Bh (by decide) (by decide) h15.1 λr G16 r0 r1 h16=>?_
  obtain⟨x,hx,e⟩:=KW.BG (h16.2 _ (Hs.ne h14.1 hp15) _ Au) r0 r1
  have h16:=h15.trans h16
  show opt (ixW (.ref p15) (.int r) G16) _
  rw[e,Ap]
  have as1:=KN hone (show KOk .any from⟨rfl,rfl⟩)
  simp only[Yo,YX,or_false]at hx
  rcases hx with rfl | rfl
  ·exact q (.nd "as" (.trm one (.knd .any .nil))) _ (as1.mono (by lia) (by lia)) h16
  ·exact q (.nd "as" (.trm (.nd "as" (.trm one (.knd .any .nil))) (.knd k .nil))) _ ((KN as1 hk).mono (by lia) (by lia)) h16
set_option hygiene false in
set_option hygiene false in
set_option hygiene false in
set_option hygiene false in
set_option hygiene false in
abbrev RX:List Str:=["term"]
theorem RY:Ay RX ["term"] (Aq JS):=by walk_at "s"
def RZ(C6:Spw)(BN:Spw):GS:=(Ai (Ad (AD) (gC (.int 1)) (gB (Cy) (Aa (AI (AO (Ah C6 XF (Aa (Ab 0) Ac))) 1 (gNm 0) AJ (Ah BN XF (Aa (Ab 0) Ac))) Ac))))
variable {C6 BN:Spw}
theorem eo(T:Tx K mg base a){DK:Nat}(er:Df P w K mg base "_law_parts" DK 1 C6)(et:DK<=k){Cc:Nat}(R1:Df P w K mg base "_law_count" Cc 1 BN)(R3:Cc<=k):Dn P w K mg base RX "_law_count" JS k (RZ C6 BN):=λ{f cdv A outer s H E}hr=>
 have hu:=AT hr
 have hN:=RY.nd
 (AR (Ba (Ea DV (B0 Ja (IT rfl) rfl T.JZ (by decide) rfl rfl rfl (AL rfl (BD (Nc:=["part"]) rfl (BB rfl (by decide +kernel) (by decide +kernel)) (λ_=>rfl) (by walk_at "v") (BX (i:=0) (by decide) rfl rfl) (λC fp s1 H1=>Bs) (λC fp s1 H1=>(by walk_at "v"))) Bf)))))
abbrev R4:List Str:=["term"]
theorem R5:Ay R4 ["term"] (Aq JT):=by walk_at "s"
def R6(C6:Spw)(BV:Spw):GS:=(Ai (Ad (AD) (gC (.int 1)) (gB (rF Ff) (Aa (Ad (AD) (AI (AO (Ah C6 XF (Aa (Ab 0) Ac))) 1 (gNm 0) AJ (Ah BV XF (Aa (Ab 0) Ac))) (An (Aa (gC (.int 0)) Ac))) Ac))))
variable {BV:Spw}
theorem eu(T:Tx K mg base a){DK:Nat}(er:Df P w K mg base "_law_parts" DK 1 C6)(et:DK<=k){Cd:Nat}(R7:Df P w K mg base "_law_deep" Cd 1 BV)(R8:Cd<=k):Dn P w K mg base R4 "_law_deep" JT k (R6 C6 BV):=λ{f cdv A outer s H E}hr=>
 have hu:=AT hr
 have hN:=R5.nd
 (AR (Ba (Ea DV (B0 MT (ML rfl) rfl T.Ot (by decide) rfl rfl rfl (AL rfl (Ea (BD (Nc:=["part"]) rfl (BB rfl (by decide +kernel) (by decide +kernel)) (λ_=>rfl) (by walk_at "v") (BX (i:=0) (by decide) rfl rfl) (λC fp s1 H1=>Bs) (λC fp s1 H1=>(by walk_at "v"))) (by walk_at "v")) Bf)))))
abbrev R9:List Str:=["term"]
theorem Sa:Ay R9 ["term"] (Aq JU):=by walk_at "s"
def Sb:GS:=(Af (gIf (gTB (Ad (Ag (eqF false)) (Ad (Ag ixW) (Ab 0) (gC (.int 0))) (gC (.str "rec")))) (Ai (AI (AO (Ad (Ag ixW) (Ab 0) (gC (.int 1)))) 1 (gNm 0) AJ (Ad (Ag ixW) (Ab 0) (gC (.int 1))))) Ao) (Af (gIf (gTB (Ad (Ag (inF false)) (Ad (Ag ixW) (Ab 0) (gC (.int 0))) (An (Aa (gC (.str "num")) (Aa (gC (.str "truth")) (Aa (gC (.str "name")) Ac)))))) (Ai (An Ac)) Ao) (Af (gIf (gTB (Ad (Ag (eqF false)) (Ad (Ag ixW) (Ab 0) (gC (.int 0))) (gC (.str "fun")))) (Ai (An (Aa (Ad (Ag ixW) (Ab 0) (gC (.int 3))) Ac))) Ao) (Af (gIf (gTB (Ad (Ag (inF false)) (Ad (Ag ixW) (Ab 0) (gC (.int 0))) (An (Aa (gC (.str "get")) (Aa (gC (.str "as")) (Aa (gC (.str "new")) (Aa (gC (.str "read")) Ac))))))) (Ai (An (Aa (Ad (Ag ixW) (Ab 0) (gC (.int 1))) Ac))) Ao) (Af (gIf (gTB (Ad (Ag (eqF false)) (Ad (Ag ixW) (Ab 0) (gC (.int 0))) (gC (.str "or")))) (Ai (An (Aa (Ad (Ag ixW) (Ab 0) (gC (.int 1))) (Aa (Ad (Ag ixW) (Ab 0) (gC (.int 3))) Ac)))) Ao) (Ai (gB (CN) (Aa (Ck (Ab 0) (Bl (gC (.int 1))) Bk) Ac))))))))
theorem ez(T:Tx K mg base a):Dn P w K mg base R9 "_law_parts" JU k (Sb):=λ{f cdv A outer s H E}hr=>
 have hu:=AT hr
 have hN:=Sa.nd
 (AC (Dj (by walk_at "v") (AR (Ba (BD (Nc:=["pair"]) rfl (BB rfl (by decide +kernel) (by decide +kernel)) (λ_=>rfl) (by walk_at "v") (BX (i:=0) (by decide) rfl rfl) (λC fp s1 H1=>Bs) (λC fp s1 H1=>(by walk_at "v"))))) DW) (by walk_at "v"))
abbrev Sd:List Str:=["script","k","state","deep","term"]
theorem Se:Ay Sd ["script","k"] (Aq JV):=by walk_at "s"
def Sf(C7:Spw)(Aw:Spw)(AG:Spw)(BN:Spw)(BV:Spw):GS:=(Af (Aj 2 (Ad (AD) (Ah C7 XF (Aa (Ab 0) (Aa (Ab 1) Ac))) (An (Aa (gC (.int 8)) Ac)))) (Af (Aj 3 (gC (.int 4))) (Af (gIf (gTB (Ad (Ag (eqF false)) (Ah Aw XF (Aa (Ab 2) (Aa (gC (.int 4)) Ac))) (gC (.int 1)))) (Af (BL (gC (.int 24)) (Ab 2) (gC (.int 2))) (Aj 3 (gC (.int 9)))) Ao) (Af (Aj 4 (Ah AG XF (Aa (Ab 2) (Aa (Ab 3) (Aa (An Ac) (Aa (Ad (Ag ixW) (An (Aa (gC (.str "num")) (Aa (gC (.str "truth")) (Aa (gC (.str "row")) (Aa (gC (.str "box")) (Aa (gC (.str "to")) Ac)))))) (Ah Aw XF (Aa (Ab 2) (Aa (gC (.int 5)) Ac)))) Ac)))))) (Af (gIf (gOr (gTB (Ad (AU λi j=>decide (j < i)) (Ah BN XF (Aa (Ab 4) Ac)) (gC (.int 40)))) (gTB (Ad (AU λi j=>decide (j < i)) (Ah BV XF (Aa (Ab 4) Ac)) (gC (.int 10))))) (Aj 4 (Ae (Aa (gC (.str "num")) (Aa (gC (.int 0)) Ac)))) Ao) (Ai (Ab 4)))))))
variable {C7:Spw}
theorem eA(T:Tx K mg base a){DG:Nat}(eB:Df P w K mg base "_law_state" DG 2 C7)(eD:DG<=k){AH:Nat}(DB:Df P w K mg base "_law_choice" AH 2 Aw)(DC:AH<=k){Bg:Nat}(FK:Df P w K mg base "_law_term" Bg 4 AG)(FL:Bg<=k){Cc:Nat}(R1:Df P w K mg base "_law_count" Cc 1 BN)(R3:Cc<=k){Cd:Nat}(R7:Df P w K mg base "_law_deep" Cd 1 BV)(R8:Cd<=k):Dn P w K mg base Sd "_law_drawn_term" JV k (Sf C7 Aw AG BN BV):=by
 have hN:=Se.nd
 walk_at "z"
theorem Et(h:r.sorts=[]):r=.nil:=by cases r <;> first | rfl | cases h
theorem Eu(h:r.sorts=("term":Str)::ss):∃ t r',r=.trm t r'/\r'.sorts=ss:=by cases r <;> first | exact⟨_,_,rfl,(Qe h).2⟩| exact Qh (Qe h).1 (by decide +kernel)| cases h
theorem eE(h:r.sorts=("number":Str)::ss):∃ t r',r=.num t r'/\r'.sorts=ss:=by cases r <;> first | exact⟨_,_,rfl,(Qe h).2⟩| exact Qh (Qe h).1 (by decide +kernel)| cases h
theorem eF(h:r.sorts=("truth":Str)::ss):∃ t r',r=.tru t r'/\r'.sorts=ss:=by cases r <;> first | exact⟨_,_,rfl,(Qe h).2⟩| exact Qh (Qe h).1 (by decide +kernel)| cases h
theorem Hu(h:r.sorts=("name":Str)::ss):∃ t r',r=.nam t r'/\r'.sorts=ss:=by cases r <;> first | exact⟨_,_,rfl,(Qe h).2⟩| exact Qh (Qe h).1 (by decide +kernel)| cases h
theorem Sg(h:r.sorts=("kind":Str)::ss):∃ t r',r=.knd t r'/\r'.sorts=ss:=by cases r <;> first | exact⟨_,_,rfl,(Qe h).2⟩| exact Qh (Qe h).1 (by decide +kernel)| cases h
theorem eG{w:Str}(h:KTD.datumAt w AB=some r.sorts)(g:w≠"rec"):(w="num"/\∃ i,r=.num i .nil)\/(w="truth"/\∃ b,r=.tru b .nil)\/(w="name"/\∃ x,r=.nam x .nil)\/(w="fun"/\∃ x k t,r=.nam x (.knd k (.trm t .nil)))\/(w="get"/\∃ t x,r=.trm t (.nam x .nil))\/(w="or"/\∃ t x u,r=.trm t (.nam x (.trm u .nil)))\/(w="if"/\∃ t u v,r=.trm t (.trm u (.trm v .nil)))\/(w="as"/\∃ t k,r=.trm t (.knd k .nil))\/((w="new"\/w="read")/\∃ t,r=.trm t .nil)\/((w="call"\/w="plus"\/w="less"\/w="write")/\∃ t u,r=.trm t (.trm u .nil)):=by
 have f:=Hd h
 have two:∀{r:As},r.sorts=[("term":Str),"term"]->∃ t u,r=.trm t (.trm u .nil):=λe=>by
  obtain⟨t,r1,rfl,a⟩:=Eu e
  obtain⟨u,d,rfl,c⟩:=Eu a
  rw[Et c];exact⟨t,u,rfl⟩
 have one:∀{r:As},r.sorts=[("term":Str)]->∃ t,r=.trm t .nil:=λe=>by
  obtain⟨t,r1,rfl,a⟩:=Eu e
  rw[Et a];exact⟨t,rfl⟩
 simp only[AB,Yo,Prod.mk.injEq,YX,or_false]at f
 rcases f with⟨rfl,e⟩|⟨rfl,e⟩|⟨rfl,e⟩|⟨rfl,e⟩|⟨rfl,e⟩|⟨rfl,e⟩|⟨rfl,e⟩|⟨rfl,e⟩|⟨rfl,e⟩|⟨rfl,e⟩|⟨rfl,e⟩|⟨rfl,e⟩|⟨rfl,e⟩|⟨rfl,e⟩|⟨rfl,e⟩
 ·obtain⟨i,r1,rfl,a⟩:=eE e
  rw[Et a];exact .inl ⟨rfl,i,rfl⟩
 ·obtain⟨i,r1,rfl,a⟩:=eF e
  rw[Et a];exact .inr (.inl ⟨rfl,i,rfl⟩)
 ·obtain⟨i,r1,rfl,a⟩:=Hu e
  rw[Et a];exact .inr (.inr (.inl ⟨rfl,i,rfl⟩))
 ·obtain⟨x,r1,rfl,a⟩:=Hu e
  obtain⟨k,d,rfl,c⟩:=Sg a
  obtain⟨t,rfl⟩:=one c
  exact .inr (.inr (.inr (.inl ⟨rfl,x,k,t,rfl⟩)))
 ·exact .inr (.inr (.inr (.inr (.inr (.inr (.inr (.inr (.inr ⟨.inl rfl,two e⟩))))))))
 ·exact Qh rfl g
 ·obtain⟨t,r1,rfl,a⟩:=Eu e
  obtain⟨x,d,rfl,c⟩:=Hu a
  rw[Et c];exact .inr (.inr (.inr (.inr (.inl ⟨rfl,t,x,rfl⟩))))
 ·obtain⟨t,r1,rfl,a⟩:=Eu e
  obtain⟨x,d,rfl,c⟩:=Hu a
  obtain⟨u,rfl⟩:=one c
  exact .inr (.inr (.inr (.inr (.inr (.inl ⟨rfl,t,x,u,rfl⟩)))))
 ·obtain⟨t,r1,rfl,a⟩:=Eu e
  obtain⟨u,v,rfl⟩:=two a
  exact .inr (.inr (.inr (.inr (.inr (.inr (.inl ⟨rfl,t,u,v,rfl⟩))))))
 ·exact .inr (.inr (.inr (.inr (.inr (.inr (.inr (.inr (.inr ⟨.inr (.inl rfl),two e⟩))))))))
 ·exact .inr (.inr (.inr (.inr (.inr (.inr (.inr (.inr (.inr ⟨.inr (.inr (.inl rfl)),two e⟩))))))))
 ·exact .inr (.inr (.inr (.inr (.inr (.inr (.inr (.inr (.inl ⟨.inl rfl,one e⟩))))))))
 ·exact .inr (.inr (.inr (.inr (.inr (.inr (.inr (.inr (.inl ⟨.inr rfl,one e⟩))))))))
 ·exact .inr (.inr (.inr (.inr (.inr (.inr (.inr (.inr (.inr ⟨.inr (.inr (.inr rfl)),two e⟩))))))))
 ·obtain⟨t,r1,rfl,a⟩:=Eu e
  obtain⟨k,d,rfl,c⟩:=Sg a
  rw[Et c];exact .inr (.inr (.inr (.inr (.inr (.inr (.inr (.inl ⟨rfl,t,k,rfl⟩)))))))
theorem Hv{w t:Str}{Ak:GS}(a:ω[0]?=some (some (.tup (.str w::xs))))(c:(w==t)=b)(h:if b=true then e ω G D.rt else Ak D ω G):Af (gIf (gTB (Ad (Ag (eqF false)) (Ad (Ag ixW) (Ab 0) (gC (.int 0))) (gC (.str t)))) (Ai e) Ao) Ak D ω G:=by
 simp only[Af,gIf,gTB,Ad,Ag,Ab,a,gC,ixW,BE,Ap,BP,Ai,Ao,c]
 cases b <;> exact h
theorem Sh{w:Str}{l:List Str}{Ak:GS}(a:ω[0]?=some (some (.tup (.str w::xs))))(f:∀ Z:List W->Hw->Prop,Z (l.map W.str) G->gs ω G Z)(hl:l.length<=100)(d:l.any (·==w)=b)(h:∀ G',Sub G G'->if b=true then e ω G' D.rt else Ak D ω G'):Af (gIf (gTB (Ad (Ag (inF false)) (Ad (Ag ixW) (Ab 0) (gC (.int 0))) (An gs))) (Ai e) Ao) Ak D ω G:=by
 simp only[Af,gIf,gTB,Ad,Ag,Ab,a,gC,ixW,BE,Ap,An,Ai,Ao]
 refine f _ ⟨Bt (by rw[Yh];lia),λp c=>?_⟩
 rw[RH l w Au rfl,Ap,d]
 have:=h _ (AF (o:=.lst (l.map W.str)) c)
 cases b <;> exact this
abbrev eH:Spw:=spL (λ(t:Te)ws _=>ws=[t.enc]/\t.ok=true/\t.cnt<=1000000) λt=>t.parts.map Te.enc
set_option hygiene false in
abbrev gIx(i:Int):GE:=Ad (Ag ixW) (Ab 0) (gC (.int i))
abbrev gLs:GE:=gB CN (Aa (Ck (Ab 0) (Bl (gC (.int 1))) Bk) Ac)
theorem CD{w:Str}{b1 b2 b3 b4:Bool}(h0:ω[0]?=some (some (.tup (.str w::xs))))(e1:(["num","truth","name"]:List Str).any (·==w)=b1)(e2:(w=="fun")=b2)(e3:(["get","as","new","read"]:List Str).any (·==w)=b3)(e4:(w=="or")=b4)
  (h:∀ G',Sub G G'->if b1=true then An Ac ω G' Q else if b2=true then An (Aa (gIx 3) Ac) ω G' Q else if b3=true then An (Aa (gIx 1) Ac) ω G' Q else if b4=true then An (Aa (gIx 1) (Aa (gIx 3) Ac)) ω G' Q else gLs ω G' Q):
  Af (gIf (gTB (Ad (Ag (inF false)) (gIx 0) (An (Aa (gC (.str "num")) (Aa (gC (.str "truth")) (Aa (gC (.str "name")) Ac)))))) (Ai (An Ac)) Ao) (Af (gIf (gTB (Ad (Ag (eqF false)) (gIx 0) (gC (.str "fun")))) (Ai (An (Aa (gIx 3) Ac))) Ao) (Af (gIf (gTB (Ad (Ag (inF false)) (gIx 0) (An (Aa (gC (.str "get")) (Aa (gC (.str "as")) (Aa (gC (.str "new")) (Aa (gC (.str "read")) Ac))))))) (Ai (An (Aa (gIx 1) Ac))) Ao) (Af (gIf (gTB (Ad (Ag (eqF false)) (gIx 0) (gC (.str "or")))) (Ai (An (Aa (gIx 1) (Aa (gIx 3) Ac)))) Ao) (Ai gLs)))) (Av Q) ω G:=by
 refine Sh (l:=["num","truth","name"]) h0 (λZ z=>by walk_at "cl") (by decide) e1 λG1 s1=>A0 (λe=>?_) (λe=>?_)
 ·have:=h G1 s1;rw[if_pos e]at this;exact this
 refine Hv h0 e2 (A0 (λe'=>?_) (λe'=>?_))
 ·have:=h G1 s1;rw[if_neg e,if_pos e']at this;exact this
 refine Sh (l:=["get","as","new","read"]) h0 (λZ z=>by walk_at "cl") (by decide) e3 λG2 s2=>A0 (λf=>?_) (λf=>?_)
 ·have:=h G2 (s1.trans s2);rw[if_neg e,if_neg e',if_pos f]at this;exact this
 refine Hv h0 e4 (A0 (λf'=>?_) (λf'=>?_))
 ·have:=h G2 (s1.trans s2);rw[if_neg e,if_neg e',if_neg f,if_pos f']at this;exact this
 ·have:=h G2 (s1.trans s2);rw[if_neg e,if_neg e',if_neg f,if_neg f']at this;exact this
theorem DK(T:Tx K mg base a):Df P w K mg base "_law_parts" 1 1 eH:=by
 refine mk0 (k:=0) T.bo rfl Sa Gn (λH G Q E⟨x,⟨e,_⟩,_⟩=>by rw[e];rfl) (ez T) λH G Q E J q=>?_
 obtain⟨t,⟨rfl,A,hc⟩,q⟩:=q
 have l:∀{G':Hw}{p:Addr},Sub G G'->G' p=none->Q (.ref p) (put G' p (.lst (t.parts.map Te.enc))):=λ{G' p}m g=>J _ _ _ (Sub.put2 m) (q p (by
  cases e:G p with
  | none=>rfl
  | some u=>rw[m _ _ e]at g;cases g))
 cases t with
 | raw v=>cases A
 | nd w r =>
 unfold Sb
 show Af (gIf _ _ Ao) _ (Av Q) [some (.tup (.str w::r.enc))] G
 by_cases B:w="rec"
 ·subst B
  obtain⟨f,rfl⟩:=(Kt (Ei A).1).1 rfl
  refine Hv (b:=true) rfl (by decide +kernel) ?_
  rw[if_pos rfl]
  have L:1+(f.cnt+0)<=1000000:=hc
  have O:=Kv f
  simp only[AI,AO,Ad,Ag,Ab,gC,Yb,As.enc,ixW,B8,Ap,List.replicate]
  refine Ed (f:=Hb) trivial f.enc none [] (λx I N D=>?_) (by simp only[Yi];exact Yt (show 0+f.enc.length<=1000000 by lia) (by decide)) λp g=>?_
  ·obtain⟨n,u,rfl⟩:=Kx I
   show Ad (Ag ixW) (Ab 0) (gC (.int 1)) [some (W.tup [.str n,u])] _ N
   simp only[Ad,Ag,Ab,gC,Yb,ixW,B8,Ap]
   exact D
  ·rw[Yw,Ku]
   have:=l (G':=G) (p:=p) (λ_ _ h=>h) g
   have this:Q (.ref p) (put G p (.lst ((f.terms++[]).map Te.enc))):=this
   rw[Yx]at this
   exact this
 refine Hv (b:=false) rfl (by simpa using B) ?_
 rw[if_neg (by decide)]
 have j:∀{G':Hw},Sub G G'->r.enc=r.parts.map Te.enc->gB CN (Aa (Ck (Ab 0) (Bl (gC (.int 1))) Bk) Ac) [some (.tup (.str w::r.enc))] G' Q:=λ{G'}m e=>by
  simp only[gB,Ck,Bl,Bk,Aa,Ac,Ab,gC,Yb,slA]
  rw[EU]
  show ∀ p,G' p=none->Q (.ref p) (put G' p (.lst r.enc))
  intro p g
  rw[e];exact l m g
 have lst:∀{G':Hw}{xs:List W}{gs:GA},Sub G G'->xs.length<=3->xs=r.parts.map Te.enc->(∀ Z:List W->Hw->Prop,Z xs G'->gs [some (.tup (.str w::r.enc))] G' Z)->An gs [some (.tup (.str w::r.enc))] G' Q:=λ{G' xs gs}m hl e F=>F _ ⟨Bt (by lia),λp g=>by rw[e];exact l m g⟩
 have d:∀{x:W}{xs:List W}{G':Hw},ixW (.tup (.str w::x::xs)) (.int 1) G'=some x:=λ{x xs G'}=>B8
 have s:∀{x y z:W}{xs:List W}{G':Hw},ixW (.tup (.str w::x::y::z::xs)) (.int 3) G'=some z:=λ{x y z xs G'}=>(show atI (.str w::x::y::z::xs) ((3:Nat):Int)=some z from L2.DR rfl)
 have o:∀{x:W}{i:Int}{ω:Sw}{G':Hw}{Z:Kw},ω=[some (.tup (.str w::r.enc))]->ixW (.tup (.str w::r.enc)) (.int i) G'=some x->Z x G'->gIx i ω G' Z:=λ{x i ω G' Z}h e z=>by
  simp only[gIx,Ad,Ag,Ab,gC,h,Yb,e,Ap];exact z
 rcases eG (Ei A).1 B with⟨rfl,i,rfl⟩|⟨rfl,i,rfl⟩|⟨rfl,i,rfl⟩|⟨rfl,x,k,t,rfl⟩|⟨rfl,t,x,rfl⟩|⟨rfl,t,x,u,rfl⟩|⟨rfl,t,u,v,rfl⟩|⟨rfl,t,k,rfl⟩|⟨hw,t,rfl⟩|⟨hw,t,u,rfl⟩
 ·exact CD (b1:=true) rfl (by decide +kernel) rfl rfl rfl λG1 c=>by simp only[Yq,if_false,if_true];exact lst (xs:=[]) c (by decide) rfl λZ z=>z
 ·exact CD (b1:=true) rfl (by decide +kernel) rfl rfl rfl λG1 c=>by simp only[Yq,if_false,if_true];exact lst (xs:=[]) c (by decide) rfl λZ z=>z
 ·exact CD (b1:=true) rfl (by decide +kernel) rfl rfl rfl λG1 c=>by simp only[Yq,if_false,if_true];exact lst (xs:=[]) c (by decide) rfl λZ z=>z
 ·exact CD (b1:=false) (b2:=true) rfl (by decide +kernel) (by decide +kernel) rfl rfl λG1 c=>by simp only[Yq,if_false,if_true];exact lst (xs:=[t.enc]) c (show 1<=3 by decide) rfl λZ z=>o rfl s z
 ·walk_at "pb"
 ·exact CD (b1:=false) (b2:=false) (b3:=false) (b4:=true) rfl (by decide +kernel) (by decide +kernel) (by decide +kernel) (by decide +kernel) λG1 c=>by simp only[Yq,if_false,if_true];exact lst (xs:=[t.enc,u.enc]) c (show 2<=3 by decide) rfl λZ z=>o rfl d (o rfl s z)
 ·exact CD (b1:=false) (b2:=false) (b3:=false) (b4:=false) rfl (by decide +kernel) (by decide +kernel) (by decide +kernel) (by decide +kernel) λG1 c=>by simp only[Yq,if_false,if_true];exact j c rfl
 ·walk_at "pb"
 ·rcases hw with rfl | rfl <;> exact CD (b1:=false) (b2:=false) (b3:=true) rfl (by decide +kernel) (by decide +kernel) (by decide +kernel) rfl λG1 c=>by simp only[Yq,if_false,if_true];exact lst (xs:=[t.enc]) c (show 1<=3 by decide) rfl λZ z=>o rfl d z
 ·rcases hw with rfl | rfl | rfl | rfl <;> exact CD (b1:=false) (b2:=false) (b3:=false) (b4:=false) rfl (by decide +kernel) (by decide +kernel) (by decide +kernel) (by decide +kernel) λG1 c=>by simp only[Yq,if_false,if_true];exact j c rfl
abbrev eI(n:Nat):Spw:=spR (λ(t:Te)ws _=>ws=[t.enc]/\t.ok=true/\t.dp<=n/\t.cnt<=1000000) λt=>.int (t.cnt:Nat)
theorem Cc(T:Tx K mg base a):∀ n:Nat,Df P w K mg base "_law_count" (n+1) 1 (eI n)
 | 0=>FJ T.Ol A7 λd G Q E⟨t,⟨_,_,hd,_⟩,_⟩=>by have:=Kq t;lia
 | n+1=>by
  refine mk0 (k:=n+1) T.Ol rfl RY A7 (λd G Q E⟨x,⟨e,_⟩,_⟩=>by rw[e];rfl) (eo T (DK T) (by lia) (Cc T n) (Yr _)) λd G Q E g q=>?_
  obtain⟨t,⟨rfl,f,hd,hc⟩,q⟩:=q
  unfold RZ
  simp only[Ai,Ad,gC,gB,AI,AO,Aa,Ac]
  refine⟨t,⟨rfl,f,hc⟩,λp h=>?_⟩
  simp only[Au]
  exact Q2 (AF h) Au hc g (λc b G Q E q=>⟨c,⟨rfl,FE f c b,by have:=KC b;lia,by have:=KD b;lia⟩,q⟩) q
theorem Si:∀ l:List Te,B1 ((l.map λc=>(c.dp:Int))++[0])=(tdp l:Int)
 | []=>rfl
 | [c]=>by show max (c.dp:Int) 0=((max c.dp 0:Nat):Int);lia
 | c::a::l=>by
  have b:=Si (a::l)
  show max (c.dp:Int) (B1 (((a::l).map λc=>(c.dp:Int))++[0]))=((max c.dp (tdp (a::l)):Nat):Int)
  rw[b];lia
abbrev eJ(n:Nat):Spw:=spR (λ(t:Te)ws _=>ws=[t.enc]/\t.ok=true/\t.dp<=n/\t.cnt<=1000000) λt=>.int (t.dp:Nat)
theorem Cd(T:Tx K mg base a):∀ n:Nat,Df P w K mg base "_law_deep" (n+1) 1 (eJ n)
 | 0=>FJ T.On A7 λi G Q E⟨t,⟨_,_,hd,_⟩,_⟩=>by have:=Kq t;lia
 | n+1=>by
  refine mk0 (k:=n+1) T.On rfl R5 A7 (λi G Q E⟨x,⟨e,_⟩,_⟩=>by rw[e];rfl) (eu T (DK T) (by lia) (Cd T n) (Yr _)) λi G Q E s q=>?_
  obtain⟨t,⟨rfl,l,hd,hc⟩,q⟩:=q
  have z:=Eg t
  have hl:=Ha t.parts
  have u:t.parts.length+1<=sizeLine:=Yt (show t.parts.length+1<=1000000 by lia) (by decide)
  unfold R6
  simp only[Ai,Ad,gC,gB,AI,AO,Aa,Ac]
  refine⟨t,⟨rfl,l,hc⟩,λp v=>?_⟩
  simp only[Au]
  refine Hf (enc:=Te.enc) (f:=λc=>.int (c.dp:Nat)) Au t.parts none [] (λc b A r=>⟨c,⟨rfl,FE l c b,by have:=KC b;lia,by have:=KD b;lia⟩,r⟩) (by simp only[Yi];lia) λp2 h=>?_
  rw[Yw]
  have j:=Bb (o:=.lst (t.parts.map λc=>W.int (c.dp:Nat))) (AF (o:=.lst (t.parts.map Te.enc)) v) h
  have m:put (put G p (.lst (t.parts.map Te.enc))) p2 (.lst (t.parts.map λc=>W.int (c.dp:Nat))) p2=some (.lst (t.parts.map λc=>W.int (c.dp:Nat))):=Au
  generalize put (put G p (.lst (t.parts.map Te.enc))) p2 (.lst (t.parts.map λc=>W.int (c.dp:Nat)))=G2 at j m ⊢
  simp only[An,Aa,Ac]
  refine⟨sz rfl,λp3 d=>?_⟩
  refine Rz (AF d _ _ m) Au (by rw[Yh];exact u) λy g=>?_
  have e:(t.parts.map λc:Te=>W.int (c.dp:Nat))++[W.int 0]=((t.parts.map λc:Te=>(c.dp:Int))++[0]).map W.int:=by rw[Yy,YB];rfl
  simp only[rF,Ff,B9 Au,Option.bind_some,e,L3.Jo]
  rw[if_pos (by rw[Yj];simp only[Yg,Yi];lia),Ap,Si]
  show Q (.int (1+((tdp t.parts:Nat):Int))) _
  rw[show(1:Int)+((tdp t.parts:Nat):Int)=((t.dp:Nat):Int) by rw[FC t];lia]
  exact s _ _ _ (Bb (Bb j d) g) q
def Sj:Spw:=λws G Q _=>∃(ns:List Int)(k:Int),ws=[.rol (ns.map W.int),.int k]/\0<=k/\∀(t:Te)G',tg t->Sub G G'->Q t.enc G'
theorem eK:Spw.M Sj:=(by rintro e G Q d E f h _ ⟨ns,k,h1,h2,q⟩;exact⟨ns,k,h1,h2,λt c a b=>h _ _ (q t c a b)⟩)
theorem bc9:bc 9<=1000000:=by decide
theorem Hx(T:Tx K mg base a):Df P w K mg base "_law_drawn_term" 34 2 Sj:=by
 refine mk0 (k:=33) T.bp rfl Se eK (λZ G Q E⟨_,_,e,_⟩=>by rw[e];rfl) (eA T (DG T) (by lia) (AH T) (by lia) (Bg T 10) (by lia) (Cc T 29) (by lia) (Cd T 29) (by lia)) λZ G Q E hC q=>?_
 obtain⟨ns,k,rfl,hk,q⟩:=q
 unfold Sf
 show Af (Aj 2 _) _ (Av Q) [some (.rol (ns.map W.int)),some (.int k),none,none,none] G
 refine AE ?_
 simp only[Ad,Ah,An,Aa,Ac,Ab,gC,Yb,Yc]
 refine⟨ns,k,rfl,hk,λp x b S=>⟨sz rfl,λp2 i=>?_⟩⟩
 refine DI (AF i _ _ Au) Au (by simp only[Yg,Yi];lia) λs D=>?_
 have N:=Bb (o:=.lst ([.int x,.bl b]++[.int 8])) (Bb (o:=.lst [.int 8]) (AF (o:=.lst [.int x,.bl b]) S) i) D
 have v:put (put (put G p (.lst [.int x,.bl b])) p2 (.lst [.int 8])) s (.lst ([.int x,.bl b]++[.int 8])) s=some (.lst [.int x,.bl b,.int 8]):=Au
 have J:G s=none:=by
  cases e:G s with
  | none=>rfl
  | some u=>rw[Bb (o:=.lst [.int 8]) (AF (o:=.lst [.int x,.bl b]) S) i _ _ e]at D;cases D
 generalize put (put (put G p (.lst [.int x,.bl b])) p2 (.lst [.int 8])) s (.lst ([.int x,.bl b]++[.int 8]))=G1 at N v ⊢
 have H:St true s G1:=⟨x,b,8,v⟩
 have f:∀{G2:Hw},Hs true s G1 G2->Sub G G2:=λh b u A=>h.2 b (Cm A J) u (N b u A)
 walk_at "pd"
 refine AE ?_
 simp only[gC,Yk,Yl]
 refine CB (λr=>∀(d:Nat)G',d<=9->Hs true s G1 G'->r (Av Q) [some (.rol (ns.map W.int)),some (.int k),some (.ref s),some (.int (d:Nat)),none] G') (λd G2 hd h2=>?_) λAk g=>?_
 rotate_left
 ·simp only[Af,gIf,gTB,Ad,Ag,Ah,Aa,Ac,Ab,gC,Yb,Yc]
  refine Bh (by decide) (by decide) H λr G2 _ _ h2=>?_
  simp only[Bm,Ap]
  refine A0 (λ_=>?_) (λ_=>g 4 G2 (by decide) h2)
  obtain⟨y,c,z,e⟩:=h2.1
  simp only[BL,Aj,Ab,gC,Yk,Yl,Yb,Yc]
  refine Rx (show G2 s=some (.lst [.int y,.bl c,.int z])from e) (g 9 _ (by decide) ⟨⟨y,c,24,Au⟩,λb R u A=>by rw[Bj R];exact h2.2 b R u A⟩)
 refine AE ?_
 simp only[Ad,Ah,An,Aa,Ac,Ab,gC,Yb,Yc]
 refine⟨sz rfl,λpn j=>?_⟩
 have X:=h2.put (o:=.lst []) j
 have O:=Hs.ne h2.1 j
 refine DH (ss:=["num","truth","row","box","to"]) rfl (by decide) (by decide) X.1 λwn F G4 l=>?_
 have f4:=l.2 _ O _ (show put G2 pn (.lst []) pn=some (.lst [])from Au)
 have l:=X.trans l
 refine C5 (d:=d) (n:=10) (ns:=[]) rfl (by lia) l.1 ⟨O,f4,λx hx=>(by cases hx),by show 0+d<=12;lia⟩ (hd6 (by decide +kernel) F) λt G5 ht B=>?_
 have B:=l.trans B
 have hbc:bc d<=bc 9:=by
  have:∀ m:Nat,bc d<=bc (d+m):=λm=>by
   induction m with
   | zero=>exact Yr _
   | succ m ih=>exact Yt ih (show bc (d+m)<=4*bc (d+m)+3 by lia)
  have U:=this (9 - d)
  rw[show d+(9 - d)=9 by lia]at U
  exact U
 have Y:=bc9
 obtain⟨t1,L,I⟩:=ht
 have I:t.dp<=29:=by lia
 have L:t.cnt<=1000000:=by lia
 simp only[Af,gIf,gOr,gTB,Ad,AU,Ah,Aa,Ac,Ab,gC,Yk,Yl,Yb,Yc]
 refine⟨t,⟨rfl,t1,I,L⟩,?_⟩
 have zero:Q (.tup [.str "num",.int 0]) G5:=q (.nd "num" (.num 0 .nil)) _ ⟨by decide +kernel,by decide,by decide⟩ (f B)
 refine A0 (λ_=>⟨sz rfl,zero⟩) (λv=>?_)
 refine⟨t,⟨rfl,t1,I,L⟩,?_⟩
 refine A0 (λ_=>⟨sz rfl,zero⟩) (λe2=>?_)
 simp only[YO]at v e2
 exact q t _ ⟨t1,by lia,by lia⟩ (f B)
set_option hygiene false in
set_option hygiene false in
set_option hygiene false in
set_option hygiene false in
set_option hygiene false in
abbrev Sk:List Str:=["state","good","one","far","some","fields","deep","k","way","bad","around","five","six"]
theorem K0:Ay Sk ["state","good"] (Aq JW):=by walk_at "s"
def Sl(Aw:Spw):GS:=(Af (Aj 2 (Ae (Aa (gC (.str "num")) (Aa (gC (.int 1)) Ac)))) (Af (Aj 3 (Ad (AD) (Ad (Az Dc λi j=>i ^ j.toNat) (gC (.int 10)) (gC (.int 20))) (Ah Aw XF (Aa (Ab 0) (Aa (Ad (Az Dc λi j=>i ^ j.toNat) (gC (.int 10)) (gC (.int 9))) Ac))))) (Af (Aj 4 (An (Aa (Ae Ac) (Aa (Ae (Aa (gC (.str "nom")) (Aa (gC (.int 1)) Ac))) (Aa (Ae (Aa (gC (.str "num")) Ac)) (Aa (Ae (Aa (gC (.str "num")) (Aa (Ab 3) Ac))) (Aa (Ae (Aa (gC (.str "num")) (Aa (Ad (Az (λ_ _=>True) λi j=>i - j) (gC (.int 0)) (Ab 3)) Ac))) (Aa (Ae (Aa (gC (.str "num")) (Aa (gC (.bl true)) Ac))) (Aa (Ae (Aa (gC (.str "num")) (Aa (gC (.str "1")) Ac))) (Aa (Ae (Aa (gC (.str "truth")) (Aa (gC (.int 1)) Ac))) Ac)))))))))) (Af (Aj 4 (Ad (AD) (Ab 4) (An (Aa (Ae (Aa (gC (.str "name")) (Aa (gC (.str "")) Ac))) (Aa (Ae (Aa (gC (.str "name")) (Aa (gC (.str "X")) Ac))) (Aa (Ae (Aa (gC (.str "name")) (Aa (gC (.str "abcdefghi")) Ac))) (Aa (Ae (Aa (gC (.str "name")) (Aa (gC (.int 1)) Ac))) (Aa (Ae (Aa (gC (.str "truth")) (Aa (gC (.str "yes")) Ac))) (Aa (Ae (Aa (gC (.str "call")) (Aa (Ab 2) Ac))) Ac))))))))) (Af (Aj 4 (Ad (AD) (Ab 4) (An (Aa (Ae (Aa (gC (.str "fun")) (Aa (gC (.str "x")) (Aa (Ae (Aa (gC (.str "nun")) Ac)) (Aa (Ab 2) Ac))))) (Aa (Ae (Aa (gC (.str "fun")) (Aa (gC (.str "x")) (Aa (Ab 2) (Aa (Ab 2) Ac))))) (Aa (Ae (Aa (gC (.str "fun")) (Aa (gC (.str "X")) (Aa (Ae (Aa (gC (.str "num")) Ac)) (Aa (Ab 2) Ac))))) (Aa (Ae (Aa (gC (.str "rec")) Ac)) Ac))))))) (Af (Aj 4 (Ad (AD) (Ab 4) (An (Aa (Ae (Aa (gC (.str "rec")) (Aa (Ae (Aa (Ae (Aa (gC (.str "b")) (Aa (Ab 2) Ac))) (Aa (Ae (Aa (gC (.str "a")) (Aa (Ab 2) Ac))) Ac))) Ac))) (Aa (Ae (Aa (gC (.str "rec")) (Aa (Ae (Aa (Ae (Aa (gC (.str "a")) (Aa (Ab 2) Ac))) (Aa (Ae (Aa (gC (.str "a")) (Aa (Ab 2) Ac))) Ac))) Ac))) (Aa (Ae (Aa (gC (.str "rec")) (Aa (Ae (Aa (Ae (Aa (gC (.str "a")) Ac)) Ac)) Ac))) Ac)))))) (Af (Aj 4 (Ad (AD) (Ab 4) (An (Aa (Ae (Aa (gC (.str "rec")) (Aa (Ae (Aa (Ae (Aa (gC (.str "A")) (Aa (Ab 2) Ac))) Ac)) Ac))) (Aa (Ae (Aa (gC (.str "get")) (Aa (Ab 2) Ac))) (Aa (Ae (Aa (gC (.str "get")) (Aa (Ab 2) (Aa (gC (.str "A")) Ac)))) (Aa (Ae (Aa (gC (.str "or")) (Aa (Ab 2) (Aa (gC (.str "a")) Ac)))) (Aa (Ae (Aa (gC (.str "if")) (Aa (Ab 2) (Aa (Ab 2) Ac)))) Ac)))))))) (Af (Aj 4 (Ad (AD) (Ab 4) (An (Aa (Ae (Aa (gC (.str "plus")) (Aa (Ab 2) Ac))) (Aa (Ae (Aa (gC (.str "less")) (Aa (Ab 2) (Aa (Ab 2) (Aa (Ab 2) Ac))))) (Aa (Ae (Aa (gC (.str "new")) Ac)) (Aa (Ae (Aa (gC (.str "read")) (Aa (gC (.int 1)) Ac))) (Aa (Ae (Aa (gC (.str "as")) (Aa (Ab 2) (Aa (Ab 2) Ac)))) (Aa (Ae (Aa (gC (.str "as")) (Aa (Ab 2) Ac))) Ac))))))))) (Af (Aj 5 (gB (rF B6) (Aa (AI (Bx (Aa (gC (.int 20)) Ac)) 1 (gNm 0) AJ (Ae (Aa (Ad (AD) (gC (.str "a")) (Ad (Ag ixW) (gC (.str "abcdefghijklmnopqrst")) (Ab 0))) (Aa (gC (.str "may")) (Aa (Ae (Aa (gC (.str "box")) (Aa (Ae (Aa (gC (.str "num")) Ac)) Ac))) Ac))))) Ac))) (Af (Aj 6 (Ae (Aa (gC (.str "num")) Ac))) (Af (Bo (Bx (Aa (gC (.int 8)) Ac)) (gNm 7) (Aj 6 (Ae (Aa (gC (.str "box")) (Aa (Ab 6) Ac))))) (Af (Aj 4 (Ad (AD) (Ab 4) (An (Aa (Ae (Aa (gC (.str "fun")) (Aa (gC (.str "x")) (Aa (Ae (Aa (gC (.str "row")) (Aa (Ab 5) (Aa (gC (.bl true)) Ac)))) (Aa (Ab 2) Ac))))) (Aa (Ae (Aa (gC (.str "as")) (Aa (Ab 2) (Aa (Ae (Aa (gC (.str "row")) (Aa (Ab 5) (Aa (gC (.bl false)) Ac)))) Ac)))) Ac))))) (Af (Aj 4 (Ad (AD) (Ab 4) (An (Aa (Ae (Aa (gC (.str "fun")) (Aa (gC (.str "x")) (Aa (Ab 6) (Aa (Ab 2) Ac))))) (Aa (Ae (Aa (gC (.str "as")) (Aa (Ab 2) (Aa (Ab 6) Ac)))) Ac))))) (Af (Aj 8 (Ah Aw XF (Aa (Ab 0) (Aa (gC (.int 6)) Ac)))) (Af (gIf (gTB (Ad (Ag (eqF false)) (Ab 8) (gC (.int 0)))) (Af (Aj 9 (Ab 2)) (Af (Bo (Bx (Aa (Ad (AD) (gC (.int 10)) (Ah Aw XF (Aa (Ab 0) (Aa (gC (.int 3)) Ac)))) Ac)) (gNm 7) (Aj 9 (Ad (Ag ixW) (An (Aa (Ae (Aa (gC (.str "new")) (Aa (Ab 9) Ac))) (Aa (Ae (Aa (gC (.str "read")) (Aa (Ab 9) Ac))) (Aa (Ae (Aa (gC (.str "as")) (Aa (Ab 9) (Aa (Ae (Aa (gC (.str "any")) Ac)) Ac)))) Ac)))) (Ad (Az (λ_ j=>0 < j) λi j=>i % j) (Ab 7) (gC (.int 3)))))) (Ai (Ab 9)))) Ao) (Af (gIf (gTB (Ad (Ag (eqF false)) (Ab 8) (gC (.int 1)))) (Af (Aj 11 (Ae (Aa (gC (.str "if")) (Aa (Ae (Aa (gC (.str "truth")) (Aa (gC (.bl true)) Ac))) (Aa (Ae (Aa (gC (.str "plus")) (Aa (Ab 2) (Aa (Ab 2) Ac)))) (Aa (Ab 2) Ac)))))) (Af (Aj 12 (Ae (Aa (gC (.str "if")) (Aa (Ab 11) (Aa (Ab 11) (Aa (Ab 11) Ac)))))) (Ai (Ae (Aa (gC (.str "write")) (Aa (Ab 12) (Aa (Ae (Aa (gC (.str "plus")) (Aa (Ab 12) (Aa (Ae (Aa (gC (.str "num")) (Aa (gC (.int 2)) Ac))) Ac)))) Ac))))))) Ao) (Af (Aj 9 (Ad (Ag ixW) (Ab 4) (Ah Aw XF (Aa (Ab 0) (Aa (gB (rF AM) (Aa (Ab 4) Ac)) Ac))))) (Af (Aj 10 (An (Aa (Ab 9) (Aa (Ae (Aa (gC (.str "new")) (Aa (Ab 9) Ac))) (Aa (Ae (Aa (gC (.str "plus")) (Aa (Ab 1) (Aa (Ab 9) Ac)))) (Aa (Ae (Aa (gC (.str "rec")) (Aa (Ae (Aa (Ae (Aa (gC (.str "a")) (Aa (Ab 9) Ac))) Ac)) Ac))) (Aa (Ae (Aa (gC (.str "if")) (Aa (Ab 9) (Aa (Ab 2) (Aa (Ab 2) Ac))))) Ac))))))) (Ai (Ad (Ag ixW) (Ad (AD) (Ab 10) (An (Aa (Ae (Aa (gC (.str "call")) (Aa (Ae (Aa (gC (.str "fun")) (Aa (gC (.str "x")) (Aa (Ae (Aa (gC (.str "any")) Ac)) (Aa (Ab 9) Ac))))) (Aa (Ab 2) Ac)))) Ac))) (Ah Aw XF (Aa (Ab 0) (Aa (gC (.int 6)) Ac)))))))))))))))))))))))
theorem eL(T:Tx K mg base a){AH:Nat}(DB:Df P w K mg base "_law_choice" AH 2 Aw)(DC:AH<=k):Dn P w K mg base Sk "_law_bad_term" JW k (Sl Aw):=λ{f cdv A outer s H E}hr=>
 have hu:=AT hr
 have hN:=K0.nd
 (AC (by walk_at "v") (AC (by walk_at "v") (AC (by walk_at "v") (AC (by walk_at "v") (AC (by walk_at "v") (AC (by walk_at "v") (AC (by walk_at "v") (AC (by walk_at "v") (AC (D7 (i:=5) K0.nd rfl rfl rfl (Fe Gg (IU) rfl T.Gw (by decide) rfl rfl rfl (AL rfl (BD (Nc:=["k"]) rfl (BB rfl (by decide +kernel) (by decide +kernel)) (λ_=>rfl) (by walk_at "v") (BX (i:=0) (by decide) rfl rfl) (λC fp s1 H1=>Bs) (λC fp s1 H1=>(by walk_at "v"))) Bf))) (by walk_at "v"))))))))))
set_option hygiene false in
abbrev n1:W:=.tup [.str "num",.int 1]
abbrev t1:Te:=.nd "num" (.num 1 .nil)
def Bd(x:W):Prop:=∃ t:Te,x=t.enc/\OkR t/\EY t/\t.cnt<=2
theorem Hy{x:W}(h:TFm x false):Bd x:=⟨.raw x,rfl,.raw h,.raw x,(show 1<=2 by decide)⟩
theorem CC{w:Str}(h:KTD.datumAt w AB=some ss)(hl:Nat.beq xs.length ss.length=false)(h2:Nat.ble xs.length 10=true):Bd (.tup (.str w::xs)):=
 Hy (.inl ⟨w,xs,rfl,⟨ss,h,.inl ⟨(λe=>by rw[e,Nat.beq_refl]at hl;cases hl),rfl⟩⟩,Nat.le_of_ble_eq_true h2⟩)
theorem A5{w:Str}(l:List (W×Str×Bool))(h:KTD.datumAt w AB=some (l.map (·.2.1)))(b:∀ x∈l,Os x.1 x.2.1 x.2.2)(a:l.all (·.2.2)=false)(hl:Nat.ble l.length 10=true):Bd (.tup (.str w::l.map (·.1))):=
 Hy (.inl ⟨w,_,rfl,⟨_,h,.inr ⟨l,rfl,rfl,b,a.symm⟩⟩,by rw[Yh];exact Nat.le_of_ble_eq_true hl⟩)
theorem A6{x:W×Str×Bool}(h:Os x.1 x.2.1 x.2.2):∀ z∈[x],Os z.1 z.2.1 z.2.2:=λz a=>by rw[YA.mp a];exact h
theorem BW{x:W×Str×Bool}{l:List (W×Str×Bool)}(h:Os x.1 x.2.1 x.2.2)(h2:∀ z∈l,Os z.1 z.2.1 z.2.2):∀ z∈x::l,Os z.1 z.2.1 z.2.2:=λz a=>by
 walk_at "pf"
 ·exact h
 ·exact h2 z a
theorem E1(h:Nat.ble x.length 100=true)(e:AA x=b):Os (.str x) "name" b:=by
 have:=Os.nam x (Nat.le_of_ble_eq_true h);rw[e]at this;exact this
theorem FP{k:Kd}(a:k.ok=true)(hc:Nat.ble k.cnt 1000=true)(c:BF k=b):Os k.enc "kind" b:=.knd (.inl ⟨k,rfl,a,Nat.le_of_ble_eq_true hc,c.symm⟩)
theorem Hz{l:List (Str×W)}(h:∀ y∈l,y.1.length<=100)(hl:Nat.ble l.length 1000=true)(e:(l.all (λy=>AA y.1)&&Bz (l.map (·.1)))=b):Os (.tup (Ej l)) "fields" b:=.fld (.inl ⟨l,rfl,h,Nat.le_of_ble_eq_true hl,e.symm⟩)
def LBd(s:Addr)(G:Hw)(p:Addr)(k:Nat):Prop:=p≠s/\∃ xs:List W,G p=some (.lst xs)/\xs.length=k/\∀ x∈xs,Bd x
theorem eM{Ak:GS}(b:St false s G)(c:∀ Z:List W->Hw->Prop,Z xs G->gs ω G Z)(hl:xs.length<=100)(d:∀ x∈xs,Bd x)(z:∀ p G',Hs false s G G'->LBd s G' p xs.length->Ak D (ω.set i (some (.ref p))) G'):Af (Aj i (An gs)) Ak D ω G :=
 KI b c hl λp G' h a e=>z p G' h ⟨a,xs,e,rfl,d⟩
theorem Ex{Ak:GS}{f:Hw}(g:Hs false s f G)(hi:ω[i]?=some (some (.ref p)))(d:LBd s G p k)(j:∀ Z:List W->Hw->Prop,Z ys G->gs ω G Z)(hl:k+ys.length<=100)(n:∀ x∈ys,Bd x)(z:∀ c G',Hs false s f G'->LBd s G' c (k+ys.length)->Ak D (ω.set i (some (.ref c))) G'):Af (Aj i (Ad AD (Ab i) (An gs))) Ak D ω G:=by
 obtain⟨m,xs,d,rfl,l⟩:=d
 refine EZ g hi d j hl λc G' h b e=>z c G' h ⟨b,_,e,Yj,λx a=>?_⟩
 rcases Yz.mp a with a | a
 ·exact l x a
 ·exact n x a
def K1(i:Nat):Str:=("a":Str)++⟨#[("abcdefghijklmnopqrst":Str).cps.toList.getD i 0]⟩
def mkF(e:Fs):List Str->Fs
 | []=>e
 | x::l=>.cons x false (.box .num) (mkF e l)
abbrev fdW(x:Str):W:=.tup [.str x,.str "may",.tup [.str "box",.tup [.str "num"]]]
theorem K2(e:Fs):∀ l:List Str,(mkF e l).enc=l.map fdW++e.enc
 | []=>rfl
 | x::l=>by show fdW x::(mkF e l).enc=fdW x::(l.map fdW++e.enc);rw[K2 e l]
abbrev nms(n:Nat):List Str:=(List.range n).map K1
abbrev k20(b:Bool):Kd:=.row (mkF .nil (nms 20)) b
theorem Sn:∀ b,(k20 b).ok=true/\BF (k20 b)=false/\Nat.ble (k20 b).cnt 1000=true:=by decide +kernel
theorem So(b:Bool):(k20 b).enc=.tup [.str "row",.tup ((nms 20).map fdW),.bl b]:=by
 show W.tup [.str "row",.tup (mkF .nil (nms 20)).enc,.bl b]=_
 rw[K2];show _=_;rw[show Fs.enc .nil=[]from rfl,Yx]
abbrev k9:Kd:=.box (.box (.box (.box (.box (.box (.box (.box .num)))))))
theorem Sq{z:Str}(d:z.length<=sizeLine)(j:n<=20)(c:∀ i,i < n->z.cps.toList[i]?=some (("abcdefghijklmnopqrst":Str).cps.toList.getD i 0))(q:∀ p,G p=none->Q (.ref p) (put G p (.lst ((nms n).map fdW)))):AI (Bx (Aa (gC (.int (n:Nat))) Ac)) 1 (gNm 0) AJ (Ae (Aa (Ad (AD) (gC (.str "a")) (Ad (Ag ixW) (gC (.str z)) (Ab 0))) (Aa (gC (.str "may")) (Aa (Ae (Aa (gC (.str "box")) (Aa (Ae (Aa (gC (.str "num")) Ac)) Ac))) Ac)))) ω G Q:=by
 simp only[AI,Bx,Aa,Ac,gC]
 have a:(2:Int) ^ 62=4611686018427387904:=by decide
 refine⟨by rw[a];lia,by rw[a];lia,?_⟩
 rw[show((n:Nat):Int).toNat=n by lia]
 refine Hf (enc:=λi:Nat=>W.int i) (f:=λi=>fdW (K1 i)) trivial (List.range n) none [] (λi hi h b=>?_) (by rw[List.length_range];exact Bt (by simp only[Yi];lia)) λp g=>?_
 ·have hi:=List.mem_range.mp hi
  simp only[Ae,Ad,Ag,Ab,Aa,Ac,gC,Yb]
  have e:ixW (.str z) (.int (i:Int)) G=some (.str ⟨#[("abcdefghijklmnopqrst":Str).cps.toList.getD i 0]⟩):=by
   unfold ixW
   dsimp only
   rw[if_pos d,L2.DR (c i hi)];rfl
  rw[e,Ap]
  exact⟨sz rfl,sz rfl,sz rfl,sz rfl,b⟩
 ·rw[Yw,show(List.range n).map (λi=>fdW (K1 i))=(nms n).map fdW by rw[YB];rfl]
  exact q p g
abbrev omb(s:Addr)(t:Te)(far:Int)(o4 o5 o6 o7 o8 o9 o10 o11 o12:Option W):Sw:=[some (.ref s),some t.enc,some n1,some (.int far),o4,o5,o6,o7,o8,o9,o10,o11,o12]
def K3:Nat->Kd->Kd
 | 0,k=>k
 | n+1,k=>K3 n (.box k)
theorem Sr{D:Ew}{t:Te}{far:Int}{i g f j a b c:Option W}:∀(l:List W)(k:Kd)(d:Option W),(∀ e,D.nx (omb s t far i g (some (K3 l.length k).enc) e f j a b c) G)->Bv yes (gNm 7) (Aj 6 (Ae (Aa (gC (.str "box")) (Aa (Ab 6) Ac)))) D l (omb s t far i g (some k.enc) d f j a b c) G
 | [],k,d,h=>⟨trivial,h d⟩
 | x::l,k,d,h=>⟨trivial,sz rfl,Sr l (.box k) (some x) h⟩
theorem Ss{D:Ew}{t0:Te}{far:Int}{y v q n f d g:Option W}{u:Hw}:∀(l:List Nat)(t:Te)(m:Nat)(k:Option W)(G:Hw),Hs false s u G->t.ok=true->t.dp=m->t.cnt=m->(∀(t':Te)(c:Option W)(G':Hw),Hs false s u G'->t'.ok=true->t'.dp=m+l.length->t'.cnt=m+l.length->D.nx (omb s t0 far y v q c n (some t'.enc) f d g) G')->
  Bv yes (gNm 7) (Aj 9 (Ad (Ag ixW) (An (Aa (Ae (Aa (gC (.str "new")) (Aa (Ab 9) Ac))) (Aa (Ae (Aa (gC (.str "read")) (Aa (Ab 9) Ac))) (Aa (Ae (Aa (gC (.str "as")) (Aa (Ab 9) (Aa (Ae (Aa (gC (.str "any")) Ac)) Ac)))) Ac)))) (Ad (Az (λ_ j=>0 < j) λi j=>i % j) (Ab 7) (gC (.int 3))))) D (l.map λi:Nat=>W.int i) (omb s t0 far y v q k n (some t.enc) f d g) G
 | [],t,m,k,G,h,h1,h2,z,b=>⟨trivial,b t k G h h1 h2 z⟩
 | i::l,t,m,k,G,h,h1,h2,z,b=>by
  refine⟨trivial,?_⟩
  simp only[gNm,Aj,Ad,An,Ae,Aa,Ac,Ab,gC,Yk,Yl,Yb,Yc]
  refine⟨sz rfl,sz rfl,sz rfl,sz rfl,sz rfl,λp F=>⟨(show(0:Int) < 3 by decide),?_⟩⟩
  have E:=h.put (o:=.lst [.tup [.str "new",t.enc],.tup [.str "read",t.enc],.tup [.str "as",t.enc,.tup [.str "any"]]]) F
  obtain⟨x,a,e⟩:=KW.BG (G:=put G p (.lst [.tup [.str "new",t.enc],.tup [.str "read",t.enc],.tup [.str "as",t.enc,.tup [.str "any"]]])) (p:=p) (r:=(i:Int) % 3) Au (by lia) (by show(i:Int) % 3 < 3;lia)
  show opt (ixW (.ref p) (.int ((i:Int) % 3)) _) _
  rw[e,Ap]
  have one:∀{w:Str},KTD.datumAt w AB=some [("term":Str)]->(Te.nd w (.trm t .nil)).ok=true/\(Te.nd w (.trm t .nil)).dp=m+1/\(Te.nd w (.trm t .nil)).cnt=m+1:=λhw=>⟨BS hw (by show(t.ok&&true)=true;rw[h1];rfl),by show 1+max t.dp 0=m+1;lia,by show 1+(t.cnt+0)=m+1;lia⟩
  obtain⟨t',ex,g1,g2,g3⟩:∃ t':Te,x=t'.enc/\t'.ok=true/\t'.dp=m+1/\t'.cnt=m+1:=by
   simp only[Yo,YX,or_false]at a
   rcases a with a | a | a
   ·exact⟨.nd "new" (.trm t .nil),a,one (by decide +kernel)⟩
   ·exact⟨.nd "read" (.trm t .nil),a,one (by decide +kernel)⟩
   ·exact⟨.nd "as" (.trm t (.knd .any .nil)),a,BS (show KTD.datumAt ("as":Str) AB=some [("term":Str),"kind"] by decide +kernel) (by show(t.ok&&((Kd.ok .any&&BF .any)&&true))=true;rw[h1];rfl),by show 1+max t.dp 0=m+1;lia,by show 1+(t.cnt+0)=m+1;lia⟩
  subst ex
  exact Ss l t' (m+1) (some (.int i)) _ E g1 g2 g3 λI c G' B J A H=>b I c G' B J (by rw[A,Yg];lia) (by rw[H,Yg];lia)
theorem HA{w:Str}(h:KTD.datumAt w AB=some r.sorts)(hl:Nat.ble r.enc.length 10=true)(b:∀ x∈r.prs,Os x.1 x.2 true)(d:∀ c∈r.parts,OkR c):OkR (.nd w r):=by
 obtain⟨p1,p2⟩:=BR r
 refine .nd (.inl ⟨w,r.enc,rfl,⟨r.sorts,h,.inr ⟨r.prs.map λx=>(x.1,x.2,true),?_,?_,?_,?_⟩⟩,Nat.le_of_ble_eq_true hl⟩) h d
 ·rw[YB];exact p1.symm
 ·rw[YB];exact p2.symm
 ·intro x a
  obtain⟨y,e,rfl⟩:=YC.mp a
  exact b y e
 ·simp
theorem Ax{α:Type}{P:α->Prop}{x:α}{l:List α}(h:P x)(h2:∀ y∈l,P y):∀ y∈x::l,P y:=λy a=>by
 walk_at "pf"
 ·exact h
 ·exact h2 y a
theorem A1{α:Type}{P:α->Prop}:∀ y∈([]:List α),P y:=λy a=>by cases a
theorem K4:OkR t1:=Kz 1 t1 (by decide) (by decide +kernel) (by decide)
abbrev K5:Int:=100000000000000000000
theorem Su{i:Int}(h:K5<=i\/i<=-K5):Os (.int i) "number" false:=.num (.inl ⟨i,rfl,by
 have h':(100000000000000000000:Int)<=i\/i<=-(100000000000000000000:Int):=h
 rw[Qg];intro z
 have a:(-99999999999999999999:Int)<=i:=z.1
 have b:i<=(99999999999999999999:Int):=z.2
 lia⟩)
abbrev eN:Spw:=En false (λ(t:Te)s ws _=>ws=[.ref s,t.enc]/\tg t) λ_ _ r _=>El r
abbrev FQ:Te:=.nd "if" (.trm (.nd "truth" (.tru true .nil)) (.trm (.nd "plus" (.trm t1 (.trm t1 .nil))) (.trm t1 .nil)))
abbrev six:Te:=.nd "if" (.trm FQ (.trm FQ (.trm FQ .nil)))
abbrev eO:Te:=.nd "write" (.trm six (.trm (.nd "plus" (.trm six (.trm (.nd "num" (.num 2 .nil)) .nil))) .nil))
theorem eP{Ak:GS}(b:∀ Z:List W->Hw->Prop,Z [.int (n:Nat)] G->gs ω G Z)(c:n<=1000)(h:Bv yes (gNm i) gb {D with nx:=Ak D} ((List.range n).map λi:Nat=>W.int i) ω G):Af (Bo (Bx gs) (gNm i) gb) Ak D ω G:=by
 simp only[Af,Bo,Bx]
 refine b _ ?_
 have a:(2:Int) ^ 62=4611686018427387904:=by decide
 refine⟨by rw[a];lia,by rw[a];lia,?_⟩
 rw[show((n:Nat):Int).toNat=n by lia]
 exact h
theorem Sv{j x:Int}{a Ak:GS}(h:ω[i]?=some (some (.int x)))(h1:a {D with nx:=Ak D} ω G)(h2:Ak D ω G):Af (gIf (gTB (Ad (Ag (eqF false)) (Ab i) (gC (.int j)))) a Ao) Ak D ω G:=by
 simp only[Af,gIf,gTB,Ad,Ag,Ab,h,gC,Bm,Ap,Ao]
 exact A0 (λ_=>h1) (λ_=>h2)
theorem HB(T:Tx K mg base a):Df P w K mg base "_law_bad_term" 2 2 eN:=by
 refine mk0 (k:=1) T.bq rfl K0 C4 (λws G Q E⟨_,s,⟨e,_⟩,_⟩=>by rw[e];rfl) (eL T (AH T) (Yr _)) λws G Q E hC q=>?_
 obtain⟨t,s,⟨rfl,ht⟩,hs,q⟩:=q
 unfold Sl
 show Af (Aj 2 _) _ (Av Q) [some (.ref s),some t.enc,none,none,none,none,none,none,none,none,none,none,none] G
 refine AE ⟨sz rfl,?_⟩
 refine AE ?_
 simp only[Ad,Ah,Aa,Ac,Ab,gC,Yk,Yl,Yb,Yc]
 refine⟨⟨by decide,by decide,by decide⟩,⟨by decide,by decide,by decide⟩,?_⟩
 refine Bh (by decide) (by decide) hs λr G1 r0 _ h1=>?_
 rw[KG]
 have hfar:K5<=(10:Int) ^ (20:Int).toNat+r:=by
  have e:(10:Int) ^ (20:Int).toNat=100000000000000000000:=by decide
  show(100000000000000000000:Int)<=_
  rw[e];lia
 generalize(10:Int) ^ (20:Int).toNat+r=far at hfar ⊢
 have tr:Os n1 "term" true:=.trm _
 have nx:Os (.str "x") "name" true:=E1 rfl (by decide +kernel)
 refine eM (xs:=[.tup [],.tup [.str "nom",.int 1],.tup [.str "num"],.tup [.str "num",.int far],.tup [.str "num",.int (0 - far)],.tup [.str "num",.bl true],.tup [.str "num",.str "1"],.tup [.str "truth",.int 1]]) h1.1 (λZ z=>?_) (show 8<=100 by decide) ?_ λp G2 h2 l2=>?_
 ·simp only[Ae,gC,Aa,Ac,Ab,Ad,Yb,Yc,Yk,Yl]
  exact⟨sz rfl,sz rfl,sz rfl,sz rfl,trivial,sz rfl,sz rfl,sz rfl,sz rfl,z⟩
 ·have num:KTD.datumAt ("num":Str) AB=some [("number":Str)]:=by decide +kernel
  refine Ax (Hy (.inr ⟨.inl rfl,rfl⟩)) (Ax (Hy (.inr ⟨.inr (.inr rfl),rfl⟩)) (Ax (CC num rfl rfl) (Ax (A5 [(.int far,"number",false)] num (A6 (Su (.inl hfar))) rfl rfl) (Ax (A5 [(.int (0 - far),"number",false)] num (A6 (Su (.inr (by have:(100000000000000000000:Int)<=far:=hfar;show 0 - far<=-(100000000000000000000:Int);lia)))) rfl rfl) (Ax (A5 [(.bl true,"number",false)] num (A6 (.num (.inr (.inl ⟨true,rfl,rfl⟩)))) rfl rfl) (Ax (A5 [(.str "1","number",false)] num (A6 (.num (.inr (.inr ⟨"1",rfl,rfl⟩)))) rfl rfl) (Ax (A5 [(.int 1,"truth",false)] (by decide +kernel) (A6 (.truB 1)) rfl rfl) A1)))))))
 have h2:=h1.trans h2
 have name:KTD.datumAt ("name":Str) AB=some [("name":Str)]:=by decide +kernel
 refine Ex (ys:=[.tup [.str "name",.str ""],.tup [.str "name",.str "X"],.tup [.str "name",.str "abcdefghi"],.tup [.str "name",.int 1],.tup [.str "truth",.str "yes"],.tup [.str "call",n1]]) h2 rfl l2 (λZ z=>by walk_at "cl") (show 8+6<=100 by decide) ?_ λp G2 h2 l2=>?_
 ·exact Ax (A5 [(.str "","name",false)] name (A6 (E1 rfl (by decide +kernel))) rfl rfl) (Ax (A5 [(.str "X","name",false)] name (A6 (E1 rfl (by decide +kernel))) rfl rfl) (Ax (A5 [(.str "abcdefghi","name",false)] name (A6 (E1 rfl (by decide +kernel))) rfl rfl) (Ax (A5 [(.int 1,"name",false)] name (A6 (.namI 1)) rfl rfl) (Ax (A5 [(.str "yes","truth",false)] (by decide +kernel) (A6 (.truS "yes")) rfl rfl) (Ax (CC (ss:=["term","term"]) (by decide +kernel) rfl rfl) A1)))))
 have fun':KTD.datumAt ("fun":Str) AB=some [("name":Str),"kind","term"]:=by decide +kernel
 have kno:Os n1 "kind" false:=.knd (.inr ⟨.inr rfl,rfl⟩)
 refine Ex (ys:=[.tup [.str "fun",.str "x",.tup [.str "nun"],n1],.tup [.str "fun",.str "x",n1,n1],.tup [.str "fun",.str "X",.tup [.str "num"],n1],.tup [.str "rec"]]) h2 rfl l2 (λZ z=>by walk_at "cl") (show 14+4<=100 by decide) ?_ λp G2 h2 l2=>?_
 ·exact Ax (A5 [(.str "x","name",true),(.tup [.str "nun"],"kind",false),(n1,"term",true)] fun' (BW nx (BW (.knd (.inr ⟨.inl rfl,rfl⟩)) (A6 tr))) rfl rfl) (Ax (A5 [(.str "x","name",true),(n1,"kind",false),(n1,"term",true)] fun' (BW nx (BW kno (A6 tr))) rfl rfl) (Ax (A5 [(.str "X","name",false),(.tup [.str "num"],"kind",true),(n1,"term",true)] fun' (BW (E1 rfl (by decide +kernel)) (BW (FP (k:=.num) rfl rfl rfl) (A6 tr))) rfl rfl) (Ax (CC (ss:=["fields"]) (by decide +kernel) rfl rfl) A1)))
 have rec':KTD.datumAt ("rec":Str) AB=some [("fields":Str)]:=by decide +kernel
 have l100:∀{x y:Str},x.length<=100->y.length<=100->∀ z∈[(x,n1),(y,n1)],z.1.length<=100:=λh h'=>Ax h (Ax h' A1)
 refine Ex (ys:=[.tup [.str "rec",.tup [.tup [.str "b",n1],.tup [.str "a",n1]]],.tup [.str "rec",.tup [.tup [.str "a",n1],.tup [.str "a",n1]]],.tup [.str "rec",.tup [.tup [.str "a"]]]]) h2 rfl l2 (λZ z=>by walk_at "cl") (show 18+3<=100 by decide) ?_ λp G2 h2 l2=>?_
 ·exact Ax (A5 [(.tup (Ej [("b",n1),("a",n1)]),"fields",false)] rec' (A6 (Hz (l100 (by decide) (by decide)) rfl (by decide +kernel))) rfl rfl) (Ax (A5 [(.tup (Ej [("a",n1),("a",n1)]),"fields",false)] rec' (A6 (Hz (l100 (by decide) (by decide)) rfl (by decide +kernel))) rfl rfl) (Ax (A5 [(.tup [.tup [.str "a"]],"fields",false)] rec' (A6 (.fld (.inr ⟨rfl,rfl⟩))) rfl rfl) A1))
 refine Ex (ys:=[.tup [.str "rec",.tup [.tup [.str "A",n1]]],.tup [.str "get",n1],.tup [.str "get",n1,.str "A"],.tup [.str "or",n1,.str "a"],.tup [.str "if",n1,n1]]) h2 rfl l2 (λZ z=>by walk_at "cl") (show 21+5<=100 by decide) ?_ λp G2 h2 l2=>?_
 ·exact Ax (A5 [(.tup (Ej [("A",n1)]),"fields",false)] rec' (A6 (Hz (Ax (show("A":Str).length<=100 by decide) A1) rfl (by decide +kernel))) rfl rfl) (Ax (CC (ss:=["term","name"]) (by decide +kernel) rfl rfl) (Ax (A5 [(n1,"term",true),(.str "A","name",false)] (by decide +kernel) (BW tr (A6 (E1 rfl (by decide +kernel)))) rfl rfl) (Ax (CC (ss:=["term","name","term"]) (by decide +kernel) rfl rfl) (Ax (CC (ss:=["term","term","term"]) (by decide +kernel) rfl rfl) A1))))
 refine Ex (ys:=[.tup [.str "plus",n1],.tup [.str "less",n1,n1,n1],.tup [.str "new"],.tup [.str "read",.int 1],.tup [.str "as",n1,n1],.tup [.str "as",n1]]) h2 rfl l2 (λZ z=>by walk_at "cl") (show 26+6<=100 by decide) ?_ λp G2 h2 l2=>?_
 ·have rd:Bd (.tup [.str "read",.int 1]):=⟨.nd "read" (.trm (.raw (.int 1)) .nil),rfl,HA (show KTD.datumAt ("read":Str) AB=some [("term":Str)] by decide +kernel) rfl (Ax (.trm _) A1) (Ax (.raw (.inr ⟨.inr (.inl rfl),rfl⟩)) A1),.part (c:=.raw (.int 1)) Ye (.raw _),(show 2<=2 by decide)⟩
  exact Ax (CC (ss:=["term","term"]) (by decide +kernel) rfl rfl) (Ax (CC (ss:=["term","term"]) (by decide +kernel) rfl rfl) (Ax (CC (ss:=["term"]) (by decide +kernel) rfl rfl) (Ax rd (Ax (A5 [(n1,"term",true),(n1,"kind",false)] (by decide +kernel) (BW tr (A6 kno)) rfl rfl) (Ax (CC (ss:=["term","kind"]) (by decide +kernel) rfl rfl) A1)))))
 refine AE ?_
 simp only[gB,rF,Aa,Ac]
 refine Sq (n:=20) (by decide) (by decide) (by decide +kernel) λp5 hp5=>?_
 rw[KS Au,Ap]
 have l2:LBd s (put G2 p5 (.lst ((nms 20).map fdW))) p 32:=by
  obtain⟨a1,xs,a2,a3⟩:=l2
  exact⟨a1,xs,AF hp5 _ _ a2,a3⟩
 have h2:=h2.put (o:=.lst ((nms 20).map fdW)) hp5
 generalize put G2 p5 (.lst ((nms 20).map fdW))=G2 at h2 l2 ⊢
 walk_at "pd"
 refine AE ⟨sz rfl,?_⟩
 walk_at "pd"
 refine eP (n:=8) (λZ z=>z) (by decide) ?_
 refine Sr (t:=t) (far:=far) _ .num _ λo7=>?_
 have e9:(K3 ((List.range 8).map λi:Nat=>W.int i).length .num).enc=k9.enc:=rfl
 rw[e9]
 dsimp only
 obtain⟨ko,kg,kc⟩:=Sn true
 obtain⟨ko',kg',kc'⟩:=Sn false
 have as':KTD.datumAt ("as":Str) AB=some [("term":Str),"kind"]:=by decide +kernel
 have o20:Os (.tup [.str "row",.tup ((nms 20).map fdW),.bl true]) "kind" false:=by have:=FP ko kc kg;rw[So]at this;exact this
 have o20':Os (.tup [.str "row",.tup ((nms 20).map fdW),.bl false]) "kind" false:=by have:=FP ko' kc' kg';rw[So]at this;exact this
 have o9:Os k9.enc "kind" false:=FP rfl rfl rfl
 refine Ex (ys:=[.tup [.str "fun",.str "x",.tup [.str "row",.tup ((nms 20).map fdW),.bl true],n1],.tup [.str "as",n1,.tup [.str "row",.tup ((nms 20).map fdW),.bl false]]]) h2 rfl l2 (λZ z=>by walk_at "cl") (show 32+2<=100 by decide) ?_ λp G2 h2 l2=>?_
 ·exact Ax (A5 [(.str "x","name",true),(.tup [.str "row",.tup ((nms 20).map fdW),.bl true],"kind",false),(n1,"term",true)] fun' (BW nx (BW o20 (A6 tr))) rfl rfl) (Ax (A5 [(n1,"term",true),(.tup [.str "row",.tup ((nms 20).map fdW),.bl false],"kind",false)] as' (BW tr (A6 o20')) rfl rfl) A1)
 refine Ex (ys:=[.tup [.str "fun",.str "x",k9.enc,n1],.tup [.str "as",n1,k9.enc]]) h2 rfl l2 (λZ z=>by walk_at "cl") (show 34+2<=100 by decide) ?_ λp G2 h2 l2=>?_
 ·exact Ax (A5 [(.str "x","name",true),(k9.enc,"kind",false),(n1,"term",true)] fun' (BW nx (BW o9 (A6 tr))) rfl rfl) (Ax (A5 [(n1,"term",true),(k9.enc,"kind",false)] as' (BW tr (A6 o9)) rfl rfl) A1)
 walk_at "pd"
 refine AE ?_
 walk_at "pa"
 refine Bh (by decide) (by decide) h2.1 λway G3 _ _ h3=>?_
 have l3:LBd s G3 p 36:=by
  obtain⟨a1,xs,a2,a3⟩:=l2
  exact⟨a1,xs,h3.2 _ a1 _ a2,a3⟩
 have h3:=h2.trans h3
 refine Sv rfl ?_ ?_
 ·refine AE ?_
  simp only[Ab,Yk,Yl,Yb,Yc]
  refine CB (λr=>∀(D:Ew)(t':Te)o7 G',D.rt=Q->Hs false s G G'->t'.ok=true->11<=t'.dp->t'.cnt<=100->r D (omb s t far (some (.ref p)) (some (.tup ((nms 20).map fdW))) (some k9.enc) o7 (some (.int way)) (some t'.enc) none none none) G') (λD t' o7 G4 hD h4 g1 g2 g3=>?_) λAk tail=>?_
  ·simp only[Ai,Ab,Yb,Yc,hD]
   exact q _ _ ⟨t',rfl,by lia,.inl ⟨g1,λz=>by lia⟩⟩ h4
  ·simp only[Af,Bo,Bx,Ad,Ah,Aa,Ac,Ab,gC,Yb,Yc]
   refine Bh (by decide) (by decide) h3.1 λr G4 r0 r1 h4=>?_
   have h4:=h3.trans h4
   rw[KG]
   have e62:(2:Int) ^ 62=4611686018427387904:=by decide
   refine⟨by rw[e62];lia,by rw[e62];lia,?_⟩
   refine Ss (t0:=t) (far:=far) _ t1 1 _ G4 h4 (by decide +kernel) rfl rfl λt' o7' G' a1 a2 a3 a4=>tail _ t' o7' G' rfl a1 a2 ?_ ?_
   ·rw[a3,List.length_range];lia
   ·rw[a4,List.length_range];lia
 refine Sv rfl ?_ ?_
 ·refine AE ?_
  simp only[Ae,Aa,Ac,Ab,gC,Yk,Yl,Yb,Yc]
  refine⟨sz rfl,sz rfl,sz rfl,?_⟩
  refine AE ?_
  simp only[Ai,Ae,Aa,Ac,Ab,gC,Yk,Yl,Yb,Yc]
  refine⟨sz rfl,sz rfl,sz rfl,sz rfl,?_⟩
  exact q _ _ ⟨eO,rfl,by decide,.inl ⟨by decide +kernel,by decide⟩⟩ h3
 refine AE ?_
 simp only[Ad,Ah,gB,rF,Aa,Ac,Ab,gC,Yk,Yl,Yb,Yc]
 obtain⟨n3,xs,f3,x3,hx3⟩:=l3
 rw[KZ f3,Ap,x3]
 refine Bh (by decide) (by decide) h3.1 λr G4 r0 r1 h4=>?_
 obtain⟨x,hx,e⟩:=KW.BG (h4.2 _ n3 _ f3) r0 (by rw[x3];exact r1)
 have h4:=h3.trans h4
 show opt (ixW (.ref p) (.int r) G4) _
 rw[e,Ap]
 obtain⟨b,rfl,b1,b2,b3⟩:=hx3 x hx
 refine AE ?_
 simp only[An,Ae,Aa,Ac,Ab,gC,Yk,Yl,Yb,Yc]
 refine⟨sz rfl,sz rfl,sz rfl,sz rfl,sz rfl,sz rfl,sz rfl,λp5 hp5=>?_⟩
 have h5:=h4.put (o:=.lst [b.enc,.tup [.str "new",b.enc],.tup [.str "plus",t.enc,b.enc],.tup [.str "rec",.tup [.tup [.str "a",b.enc]]],.tup [.str "if",b.enc,n1,n1]]) hp5
 simp only[Ai,Ad,Ah,An,Ae,Aa,Ac,Ab,gC,Yk,Yl,Yb,Yc]
 refine⟨sz rfl,sz rfl,sz rfl,sz rfl,λp6 hp6=>?_⟩
 refine DI (AF hp6 _ _ Au) Au (show 5+1<=100000 by decide) λp7 hp7=>?_
 have h6:=h5.put (o:=.lst [.tup [.str "call",.tup [.str "fun",.str "x",.tup [.str "any"],b.enc],n1]]) hp6
 have h7:=h6.put (o:=.lst ([b.enc,.tup [.str "new",b.enc],.tup [.str "plus",t.enc,b.enc],.tup [.str "rec",.tup [.tup [.str "a",b.enc]]],.tup [.str "if",b.enc,n1,n1]]++[.tup [.str "call",.tup [.str "fun",.str "x",.tup [.str "any"],b.enc],n1]])) hp7
 refine Bh (by decide) (by decide) h7.1 λr8 G8 r80 r81 h8=>?_
 obtain⟨y,hy,e8⟩:=KW.BG (h8.2 _ (Hs.ne h6.1 hp7) _ Au) r80 (show r8 < 6 from r81)
 show opt (ixW (.ref p7) (.int r8) G8) _
 rw[e8,Ap]
 refine q _ _ ?_ (h7.trans h8)
 have gt:OkR t:=Kz _ t (Yr _) ht.1 (by have:=ht.2.1;lia)
 have gc:=ht.2.1
 have ctx:∀{w:Str}{r:As},KTD.datumAt w AB=some r.sorts->Nat.ble r.enc.length 10=true->(∀ x∈r.prs,Os x.1 x.2 true)->(∀ c∈r.parts,OkR c)->b∈r.parts->r.cnt<=100->El (Te.nd w r).enc:=λ{w r}c1 c2 c3 c4 c5 c6=>⟨.nd w r,rfl,by show 1+r.cnt<=1000;lia,.inr ⟨HA c1 c2 c3 c4,.part c5 b2⟩⟩
 have mm:∀{α:Type}{x:α}{l:List α},x∈x::l:=Ye
 simp only[List.cons_append,Yw,Yo,YX,or_false]at hy
 rcases hy with rfl | rfl | rfl | rfl | rfl | rfl
 ·exact⟨b,rfl,by lia,.inr ⟨b1,b2⟩⟩
 ·exact ctx (w:="new") (r:=.trm b .nil) (show KTD.datumAt ("new":Str) AB=some [("term":Str)] by decide +kernel) rfl (Ax (.trm _) A1) (Ax b1 A1) mm (show b.cnt+0<=100 by lia)
 ·exact ctx (w:="plus") (r:=.trm t (.trm b .nil)) (show KTD.datumAt ("plus":Str) AB=some [("term":Str),"term"] by decide +kernel) rfl (Ax (.trm _) (Ax (.trm _) A1)) (Ax gt (Ax b1 A1)) (Yd _ mm) (show t.cnt+(b.cnt+0)<=100 by lia)
 ·exact ctx (w:="rec") (r:=.fld (.cons "a" b .nil) .nil) (show KTD.datumAt ("rec":Str) AB=some [("fields":Str)] by decide +kernel) rfl (Ax (Hz (l:=[("a",b.enc)]) (Ax (show("a":Str).length<=100 by decide) A1) rfl (by show(AA "a"&&true&&Bz ["a"])=true;decide +kernel)) A1) (Ax b1 A1) mm (show b.cnt+0+0<=100 by lia)
 ·exact ctx (w:="if") (r:=.trm b (.trm t1 (.trm t1 .nil))) (show KTD.datumAt ("if":Str) AB=some [("term":Str),"term","term"] by decide +kernel) rfl (Ax (.trm _) (Ax (.trm _) (Ax (.trm _) A1))) (Ax b1 (Ax K4 (Ax K4 A1))) mm (show b.cnt+(1+(1+0))<=100 by lia)
 ·have inner:OkR (.nd "fun" (.nam "x" (.knd .any (.trm b .nil)))):=HA (show KTD.datumAt ("fun":Str) AB=some [("name":Str),"kind","term"] by decide +kernel) rfl (Ax nx (Ax (FP (k:=.any) rfl rfl rfl) (Ax (.trm _) A1))) (Ax b1 A1)
  refine⟨.nd "call" (.trm (.nd "fun" (.nam "x" (.knd .any (.trm b .nil)))) (.trm t1 .nil)),rfl,?_,.inr ⟨HA (show KTD.datumAt ("call":Str) AB=some [("term":Str),"term"] by decide +kernel) rfl (Ax (.trm _) (Ax (.trm _) A1)) (Ax inner (Ax K4 A1)),.part mm (.part (c:=b) mm b2)⟩⟩
  show 1+(1+(b.cnt+0)+(1+0))<=1000
  lia
set_option hygiene false in
set_option hygiene false in
set_option hygiene false in
set_option hygiene false in
set_option hygiene false in
abbrev Sx:List Str:=["e","marks"]
theorem Sy:Ay Sx ["e"] (Aq Gu):=by walk_at "s"
def Sz(K:PySem.W.Frag)(a:Adr):GS:=(Af (Aj 1 (An (Aa (B2 K (.ref a.NoKind) (Ab 0)) (Aa (B2 K (.ref a.NoTerm) (Ab 0)) (Aa (B2 K (.ref a.BadUse) (Ab 0)) (Aa (B2 K (.ref a.NoValue) (Ab 0)) Ac)))))) (Ai (Ad (AD) (Ab 1) (An (Aa (B2 K (.ref a.NoNumber) (Ab 0)) (Aa (B2 K (.ref a.BadNote) (Ab 0)) (Aa (B2 K (.type "ValueError") (Ab 0)) Ac)))))))
theorem eQ{k:Nat}(T:Tx K mg base a){f:Addr}{s:Shared}{E:XK}:Ssm (cxN P w K mg base Sx "_law_marks" (Aq Gu) f cdv A outer s H) (λB=>B=H) (Be Gu) (Sz K a):=
 (AC (D7 (i:=1) Sy.nd rfl rfl rfl (F7 (AL rfl (EM T.Ov T.Ca rfl rfl rfl rfl rfl (by walk_at "v")) (AL rfl (EM T.J1 T.Ca rfl rfl rfl rfl rfl (by walk_at "v")) (AL rfl (EM T.Ow T.Ca rfl rfl rfl rfl rfl (by walk_at "v")) (AL rfl (EM T.Ox T.Ca rfl rfl rfl rfl rfl (by walk_at "v")) Bf)))))) (AR (Ba (Ea (by walk_at "v") (F7 (AL rfl (EM T.Oy T.Ca rfl rfl rfl rfl rfl (by walk_at "v")) (AL rfl (EM T.Oz T.Ca rfl rfl rfl rfl rfl (by walk_at "v")) (AL rfl (Y6 Ze T.bz T.Ca rfl rfl (by decide) rfl rfl rfl (by walk_at "v")) Bf))))))))
abbrev SA:List Str:=["marks","which"]
theorem SC:Ay SA ["marks","which"] (Aq Gv):=by walk_at "s"
def SD:GS:=(Ai (Ad (Ag (eqF false)) (Ab 0) (Ad (AD) (B3 (Bx (Aa (gC (.int 6)) Ac)) 1 [1] (gNm 0) AJ (Ad (Ag (eqF false)) (Ab 0) (Ab 1))) (An (Aa (gC (.bl true)) Ac)))))
theorem eR(T:Tx K mg base a):Dn P w K mg base SA "_law_refused" Gv k (SD):=λ{f cdv A outer s H E}hr=>
 have hu:=AT hr
 have hN:=SC.nd
 (AR (Ba (MF (MD hu) rfl (by walk_at "v") (Ea (M8 rfl (Gh (own:=["k"]) (fr:=["which"]) (js:=[1]) (scX:=Aq Gv) (n:=s.heap.objs.size+1) rfl (by decide +kernel) (by decide +kernel) (by decide +kernel) (by decide +kernel) rfl rfl rfl (by decide +kernel) rfl) (λ_=>rfl) (by walk_at "v") (M6 (i:=0) (by decide) rfl rfl) (λC fp s1 H1=>Bs) (λC fp s1 H1=>(by walk_at "v"))) (by walk_at "v")))))
abbrev SE:List Str:=["way","term","marks","e"]
theorem HC:Ay SE ["way","term"] (Aq JX):=by walk_at "s"
def SF(K:PySem.W.Frag)(a:Adr)(Cq:Spw)(HD:Spw)(HE:Spw):GS:=(Af (Aj 2 (An Ac)) (Af (IY K a.CastError 3 (λex=>(gIf (gTB (Ad (Ag (eqF false)) (Ab 0) (gC (.int 0)))) (A8 (Ah Cq ex (Aa (Ab 1) Ac))) (A8 (Ah HD ex (Aa (Ab 1) Ac))))) (Aj 2 (Ah HE XF (Aa (Ab 3) Ac)))) (Ai (Ab 2))))
variable {Cq:Spw}
theorem eS(T:Tx K mg base a){DA:Nat}(K6:Df P w K mg base "terms_in" DA 1 Cq)(K7:DA<=k){Hg:Nat}{HD:Spw}(eT:Df P w K mg base "judged" Hg 1 HD)(eU:Hg<=k){HF:Nat}{HE:Spw}(eV:DfN P w K mg base "_law_marks" HF 1 HE)(eW:HF<=k):Dn P w K mg base SE "_law_told" JX k (SF K a Cq HD HE):=λ{f cdv A outer s H E}hr=>
 have hu:=AT hr
 have hN:=HC.nd
 (AC (by walk_at "v") (AC (X5 (i:=3) T.Ou T.OC T.OD T.OF HC.nd rfl rfl rfl rfl rfl rfl rfl (λex pn xe hp=>(AR (Dj (by walk_at "v") (AR (DX rfl (BY K6 (hr.mono K7) rfl hp rfl rfl rfl (by walk_at "v")))) (AR (DX rfl (BY eT (hr.mono eU) rfl hp rfl rfl rfl (by walk_at "v"))))))) (λe=>(AR (D7 (i:=2) HC.nd rfl rfl rfl (X6 eV (Zi hr eW) rfl rfl rfl rfl (by walk_at "v")))))) (by walk_at "v")))
abbrev SG:List Str:=["one","pair","five","six"]
theorem SH:Ay SG [] (Aq JY):=by walk_at "s"
def SI:GS:=(Af (Aj 0 (Ae (Aa (gC (.str "num")) (Aa (gC (.int 1)) Ac)))) (Af (Aj 1 (Ae (Aa (gC (.str "plus")) (Aa (Ab 0) (Aa (Ab 0) Ac))))) (Af (Aj 2 (Ae (Aa (gC (.str "if")) (Aa (Ae (Aa (gC (.str "truth")) (Aa (gC (.bl true)) Ac))) (Aa (Ab 1) (Aa (Ab 0) Ac)))))) (Af (Aj 3 (Ae (Aa (gC (.str "if")) (Aa (Ab 2) (Aa (Ab 2) (Aa (Ab 2) Ac)))))) (Ai (Ae (Aa (gC (.str "if")) (Aa (Ab 2) (Aa (Ab 3) (Aa (Ae (Aa (gC (.str "plus")) (Aa (Ab 2) (Aa (Ae (Aa (gC (.str "plus")) (Aa (Ab 1) (Aa (Ab 1) Ac)))) Ac)))) Ac))))))))))
theorem eX(T:Tx K mg base a):Dn P w K mg base SG "_law_forty" JY k (SI):=by
 have hN:=SH.nd
 walk_at "z"
abbrev SJ:List Str:=["script","term","found","state","good","bad","fields","wide"]
theorem K8:Ay SJ ["script"] (Aq EW):=by walk_at "s"
def SK(HG:Spw)(Cq:Spw)(HH:Spw)(BN:Spw)(C7:Spw)(BV:Spw)(HI:Spw)(HJ:Spw)(FR:Spw)(FT:Spw):GS:=(Af (Aj 1 (Ah HG XF (Aa (Ab 0) (Aa (gC (.int 0)) Ac)))) (Af (Aj 2 (Ah Cq XF (Aa (Ab 1) Ac))) (Af (gIf (gOr (gNt (AX (Ah HH XF (Aa (Ab 2) Ac)))) (gTB (Ad (Ag (eqF true)) (Ab 2) (Ah BN XF (Aa (Ab 1) Ac))))) (Ai (gC (.bl false))) Ao) (Af (Aj 3 (Ah C7 XF (Aa (Ab 0) (Aa (gC (.int 1)) Ac)))) (Af (Aj 4 (Ab 1)) (Af (gIf (gOr (gTB (Ad (AU λi j=>decide (j < i)) (Ah BN XF (Aa (Ab 4) Ac)) (gC (.int 20)))) (gTB (Ad (AU λi j=>decide (j < i)) (Ah BV XF (Aa (Ab 4) Ac)) (gC (.int 6))))) (Aj 4 (Ae (Aa (gC (.str "num")) (Aa (gC (.int 3)) Ac)))) Ao) (Af (Aj 5 (Ah HI XF (Aa (Ab 3) (Aa (Ab 4) Ac)))) (Af (Aj 6 (gB (rF B6) (Aa (AI (Bx (Aa (gC (.int 19)) Ac)) 1 (gNm 0) AJ (Ae (Aa (Ad (AD) (gC (.str "a")) (Ad (Ag ixW) (gC (.str "abcdefghijklmnopqrs")) (Ab 0))) (Aa (gC (.str "may")) (Aa (Ae (Aa (gC (.str "box")) (Aa (Ae (Aa (gC (.str "num")) Ac)) Ac))) Ac))))) Ac))) (Af (Aj 7 (Ae (Aa (gC (.str "row")) (Aa (Ad (AD) (Ab 6) (Ae (Aa (Ae (Aa (gC (.str "b")) (Aa (gC (.str "must")) (Aa (Ae (Aa (gC (.str "any")) Ac)) Ac)))) Ac))) (Aa (gC (.bl true)) Ac))))) (Af (gIf (gOr (gTB (Ad (Ag (eqF true)) (Ah Cq XF (Aa (Ah HJ XF Ac) Ac)) (gC (.int 40)))) (gTB (Ad (Ag (eqF true)) (Ah Cq XF (Aa (Ae (Aa (gC (.str "as")) (Aa (Ae (Aa (gC (.str "num")) (Aa (gC (.int 1)) Ac))) (Aa (Ab 7) Ac)))) Ac)) (gC (.int 2))))) (Ai (gC (.bl false))) Ao) (Ai (Bn (Ah FT XF (Aa (Ah FR XF (Aa (gC (.int 0)) (Aa (Ab 5) Ac))) (Aa (gC (.int 1)) Ac))) (Ah FT XF (Aa (Ah FR XF (Aa (gC (.int 1)) (Aa (Ab 5) Ac))) (Aa (gC (.int 1)) Ac)))))))))))))))
theorem eY(T:Tx K mg base a){Hx:Nat}{HG:Spw}(fZ:Df P w K mg base "_law_drawn_term" Hx 2 HG)(f9:Hx<=k){DA:Nat}(K6:Df P w K mg base "terms_in" DA 1 Cq)(K7:DA<=k){HK:Nat}{HH:Spw}(gf:Df P w K mg base "_law_whole" HK 1 HH)(gj:HK<=k){Cc:Nat}(R1:Df P w K mg base "_law_count" Cc 1 BN)(R3:Cc<=k){DG:Nat}(eB:Df P w K mg base "_law_state" DG 2 C7)(eD:DG<=k){Cd:Nat}(R7:Df P w K mg base "_law_deep" Cd 1 BV)(R8:Cd<=k){HB:Nat}{HI:Spw}(gm:Df P w K mg base "_law_bad_term" HB 2 HI)(gn:HB<=k){HL:Nat}{HJ:Spw}(eZ:Df P w K mg base "_law_forty" HL 0 HJ)(e5:HL<=k){HM:Nat}{FR:Spw}(gp:Df P w K mg base "_law_told" HM 2 FR)(gq:HM<=k){HN:Nat}{FT:Spw}(gr:Df P w K mg base "_law_refused" HN 2 FT)(gw:HN<=k){f:Addr}{s:Shared}{E:XK}(hr:Room k (A.deeper (envOfC "law" (Aq EW) s.heap.objs.size f cdv))):Ssm (cxW P w K mg base SJ "law" (Aq EW) f cdv A outer s H E).nox (λB=>B=H) (Be EW) (SK HG Cq HH BN C7 BV HI HJ FR FT):=
 have hu:=AT hr
 have hN:=K8.nd
 (AC (by walk_at "v") (AC (by walk_at "v") (AC (by walk_at "v") (AC (by walk_at "v") (AC (by walk_at "v") (AC (by walk_at "v") (AC (by walk_at "v") (AC (D7 (i:=6) K8.nd rfl rfl rfl (Fe Gg (IU) rfl T.Gw (by decide) rfl rfl rfl (AL rfl (BD (Nc:=["k"]) rfl (BB rfl (by decide +kernel) (by decide +kernel)) (λ_=>rfl) (by walk_at "v") (BX (i:=0) (by decide) rfl rfl) (λC fp s1 H1=>Bs) (λC fp s1 H1=>(by walk_at "v"))) Bf))) (AC (by walk_at "v") (AC (Dj (Mn (Mo (MG (ME hu) rfl (BY K6 (hr.mono K7) rfl CO rfl rfl rfl (AL rfl (au eZ (hr.mono e5) rfl CO rfl) Bf)) DV) (by walk_at "v"))) (by walk_at "v") DW) (by walk_at "v")))))))))))
abbrev e6:Spw:=spR (λ(i:Int)ws _=>ws=[.int i]) λ_=>.bl true
theorem HK(T:Tx K mg base a):Df P w K mg base "_law_whole" 1 1 e6:=by
 refine mk0 T.ba rfl Q9 A7 (λb G Q E⟨_,e,_⟩=>by rw[e];rfl) (dj T) λb G Q E c q=>?_
 obtain⟨i,rfl,q⟩:=q
 exact Eq.mpr (by kernel_rfl) q
abbrev due:List W:=[.bl false,.bl true,.bl false,.bl false,.bl false,.bl false,.bl true]
def SL(a:Adr):Spw:=λws G Q _=>∃ e,ws=[.ref e]/\G e=some (.exc a.NoTerm)/\∀ p,G p=none->Q (.ref p) (put G p (.lst due))
theorem e7:Spw.M (SL a):=λd G Q c E f h _⟨e,h1,h2,q⟩=>⟨e,h1,h2,λp b=>h _ _ (q p b)⟩
theorem Ey{e C:Addr}{cv:Value}(c:G e=some (.exc C))(hω:ω[0]?=some (some (.ref e)))(d:D5 K C)(a:PySem.W.kitOne K (.ref C) cv=some b)(q:Q (.bl b) G):B2 K cv (Ab 0) ω G Q:=by
 unfold B2 Ab
 rw[hω]
 dsimp only
 rw[c]
 exact⟨b,d,a,q⟩
theorem fe{G':Hw}(h:L3.Sub G G')(a:G' p=none):G p=none:=by
 cases e:G p with
 | none=>rfl
 | some u=>rw[h _ _ e]at a;cases a
theorem HF(T:Tx K mg base a):DfN P w K mg base "_law_marks" 1 1 (SL a):=by
 refine mkN T.br rfl Sy e7 (λm G Q E⟨e,h,_⟩=>by rw[h];rfl) (eQ (k:=0) (E:=λ_ _ _=>True) T) λm G Q E n q=>?_
 obtain⟨e,rfl,f,q⟩:=q
 have c:=T.OQ
 unfold Sz
 show Af _ _ (Av Q) [some (.ref e),none] G
 simp only[Af,Aj,An,Aa,Ac,Ai,Av]
 refine Ey f rfl c T.OR (Ey f rfl c T.OS (Ey f rfl c T.OT (Ey f rfl c T.OU ?_)))
 refine⟨sz rfl,λp l=>?_⟩
 have b:=AF (o:=.lst [.bl false,.bl true,.bl false,.bl false]) l _ _ f
 have j:put G p (.lst [.bl false,.bl true,.bl false,.bl false]) p=some (.lst [.bl false,.bl true,.bl false,.bl false]):=Au
 have g:=AF (o:=.lst [.bl false,.bl true,.bl false,.bl false]) l
 generalize put G p (.lst [.bl false,.bl true,.bl false,.bl false])=G1 at b j g ⊢
 simp only[Ad,Ab,An,Aa,Ac,Yb,Yc,Yk,Yl]
 refine Ey b rfl c T.OV (Ey b rfl c T.OW (Ey b rfl c T.OX ?_))
 refine⟨sz rfl,λp2 d=>DI (AF d _ _ j) Au (by decide) λp3 i=>?_⟩
 exact n _ _ _ (Sub.put2 (Bb g d)) (q p3 (fe (Bb g d) i))
def SM:Spw:=λws G Q _=>∃(i:Int)(x:W),ws=[.int i,x]/\El x/\∀ p G',L3.Sub G G'->G' p=some (.lst due)->Q (.ref p) G'
theorem ff:Spw.M SM:=(by rintro c G Q e E d h _ ⟨i,x,h1,h2,q⟩;exact⟨i,x,h1,h2,λp a z b=>h _ _ (q p a z b)⟩)
theorem HM(T:Tx K mg base a):Df P w K mg base "_law_told" 14 2 SM:=by
 refine mk0 (k:=13) T.bv rfl HC ff (λj G Q E⟨_,_,e,_⟩=>by rw[e];rfl) (eS T (DA T) (by lia) (Hg T) (by lia) (HF T) (by lia)) λj G Q E m q=>?_
 obtain⟨i,x,rfl,h,q⟩:=q
 unfold SF
 show Af (Aj 2 (An _)) (Af (IY _ _ _ _ _) (Ai _)) (Av Q) [some (.int i),some x,none,none] G
 simp only[Af,Aj,An,Ac,Yk,Yl]
 refine⟨sz rfl,λl d=>?_⟩
 refine⟨_,⟨λ_ _ z=>z,λ_ _ z=>z,λ_ _ z=>z,λ_ _ z=>z⟩,?_⟩
 have g:=AF (o:=.lst []) d
 simp only[MP,gIf,gTB,Ad,Ag,gC,Aj,A8,Ah,Aa,Ac,Ab,Yb,Yc,Yk,Yl,Bm,Ap]
 have b:PySem.W.subIn K (.ref a.NoTerm) (.ref a.CastError)=some true:=T.OP
 refine A0 (λ_=>.inr ⟨x,rfl,h,b,λe c=>?_⟩) (λ_=>⟨x,rfl,h,b,λe c=>?_⟩)
 ·refine⟨e,rfl,Au,λp f=>?_⟩
  simp only[Gf,Ai,Ab,Av,Yb,Yc,Yk,Yl]
  exact q p _ (Bb (Bb g c) f) Au
 ·refine⟨e,rfl,Au,λp f=>?_⟩
  simp only[Gf,Ai,Ab,Av,Yb,Yc,Yk,Yl]
  exact q p _ (Bb (Bb g c) f) Au
theorem fg{r:Addr}(h1:G p=some (.lst due))(h2:G r=some (.lst due)):eqF false (.ref p) (.ref r) G=some (.bl true):=by
 have:eqW (.ref p) (.ref r) G=some true:=by
  unfold eqW
  simp only[h1,h2]
  decide
 unfold eqF
 rw[this];rfl
def SN:Spw:=λws G Q _=>∃ p,ws=[.ref p,.int 1]/\G p=some (.lst due)/\∀ G',L3.Sub G G'->Q (.bl true) G'
theorem fh:Spw.M SN:=(by rintro c G Q b E d h _ ⟨p,h1,h2,q⟩;exact⟨p,h1,h2,λa z=>h _ _ (q a z)⟩)
theorem HN(T:Tx K mg base a):Df P w K mg base "_law_refused" 1 2 SN:=by
 refine mk0 T.bu rfl SC fh (λk G Q E⟨_,e,_⟩=>by rw[e];rfl) (eR T) λk G Q E m q=>?_
 obtain⟨p,rfl,l,q⟩:=q
 unfold SD
 show Ai _ (Av Q) [some (.ref p),some (.int 1)] G
 simp only[Ai,Ad,B3,Bx,By,An,Aa,Ac,Ab,gC,Yb,Yc,Ym,List.map_nil,Option.getD_some,List.replicate]
 refine⟨by decide,by decide,?_⟩
 refine GJ (enc:=λi:Nat=>W.int i) (f:=λi=>.bl ((((i:Nat):Int)==1) != false)) (cst:=[some (.int 1)]) trivial (List.range 6) none [] (λi _ n j=>?_) (sz rfl) λp2 d=>?_
 ·simp only[Ad,Ag,Ab,Yb,Yc,Bm,Ap]
  exact j
 have h2:=AF (o:=.lst ([]++(List.range 6).map λi:Nat=>W.bl ((((i:Nat):Int)==1) != false))) d
 refine⟨sz rfl,λp3 b=>DI (AF b _ _ Au) Au (by decide) λh c=>?_⟩
 have g:=Bb (o:=.lst (([]++(List.range 6).map λi:Nat=>W.bl ((((i:Nat):Int)==1) != false))++[.bl true])) (Bb (o:=.lst [.bl true]) h2 b) c
 show opt (eqF false (.ref p) (.ref h) _) _
 rw[fg (g _ _ l) Au,Ap]
 exact q _ g
abbrev SO:Te:=.nd "plus" (.trm t1 (.trm t1 .nil))
abbrev La:Te:=.nd "if" (.trm FQ (.trm six (.trm (.nd "plus" (.trm FQ (.trm (.nd "plus" (.trm SO (.trm SO .nil))) .nil))) .nil)))
def SQ:Spw:=λws G Q _=>ws=[]/\Q La.enc G
theorem fj:Spw.M SQ:=(by rintro b G Q a E c h _ ⟨h1,q⟩;exact⟨h1,h _ _ q⟩)
theorem HL(T:Tx K mg base a):Df P w K mg base "_law_forty" 1 0 SQ:=by
 refine mk0 T.bw rfl SH fj (λb G Q E⟨e,_⟩=>by rw[e];rfl) (eX T) λb G Q E c q=>?_
 obtain⟨rfl,q⟩:=q
 unfold SI
 show Af (Aj 0 _) _ (Av Q) [none,none,none,none] G
 refine AE ⟨sz rfl,?_⟩
 refine AE ⟨sz rfl,?_⟩
 refine AE ⟨sz rfl,sz rfl,?_⟩
 refine AE ⟨sz rfl,?_⟩
 exact⟨sz rfl,sz rfl,sz rfl,q⟩
abbrev Ez:Kd:=.row (mkF (.cons "b" true .any .nil) (nms 19)) true
theorem SR:Ez.ok=true/\BF Ez=true:=by decide +kernel
theorem fk:Ez.enc=.tup [.str "row",.tup ((nms 19).map fdW++[.tup [.str "b",.str "must",.tup [.str "any"]]]),.bl true]:=by
 show W.tup [.str "row",.tup (mkF (.cons "b" true .any .nil) (nms 19)).enc,.bl true]=_
 rw[K2];rfl
theorem fq(T:Tx K mg base a){f:Addr}{fd:FuncData}(F:Fun K "law" "law" EW f fd):FnOk P w K mg base (CXe P w) 36 f fd ["script"] (CK K Gp):=by
 refine ok0 F K8 (λA G Q E⟨ns,e,_⟩=>by rw[e];rfl) (eY (k:=35) T (Hx T) (by lia) (DA T) (by lia) (HK T) (by lia) (Cc T 10) (by lia) (DG T) (by lia) (Cd T 10) (by lia) (HB T) (by lia) (HL T) (by lia) (HM T) (by lia) (HN T) (by lia)) λA G Q E I q=>?_
 obtain⟨ns,rfl,m,q⟩:=q
 unfold SK
 show Af (Aj 1 _) _ (Av Q) [some (.rol (ns.map W.int)),none,none,none,none,none,none,none] G
 refine AE ?_
 walk_at "pa"
 refine⟨ns,0,rfl,by decide,λt G1 d L=>?_⟩
 refine AE ?_
 walk_at "pa"
 refine .inl ⟨t,rfl,d,?_⟩
 have h:t.cnt<=1000000:=by have:=d.2.1;lia
 refine FH (λZ j=>?_) ?_
 ·simp only[gOr,gNt,AX,gTB,Ad,Ag,Ah,Aa,Ac,Ab,Yb,Yc]
  refine⟨_,rfl,?_⟩
  simp only[BJ,Ap,YF,Yq,if_false]
  refine⟨t,⟨rfl,d.1,d.2.2,h⟩,?_⟩
  simp only[Bm,beq_self_eq_true,show(true != true)=false from rfl,Ap]
  exact j
 refine AE ?_
 walk_at "pa"
 refine⟨ns,1,rfl,by decide,λs x b N=>?_⟩
 have i:St false s (put G1 s (.lst [.int x,.bl b])):=⟨x,b,0,Au⟩
 generalize put G1 s (.lst [.int x,.bl b])=G2 at i ⊢
 refine AE ?_
 simp only[Ab,Yk,Yl,Yb,Yc]
 refine CB (λr=>∀ u:Te,tg u->r (Av Q) [some (.rol (ns.map W.int)),some t.enc,some (.int (t.cnt:Nat)),some (.ref s),some u.enc,none,none,none] G2) (λu y=>?_) λAk g=>?_
 rotate_left
 ·simp only[Af,gIf,gOr,gTB,Ad,AU,Ah,Aa,Ac,Ab,gC,Yb,Yc]
  have c:Aj 4 (Ae (Aa (gC (.str "num")) (Aa (gC (.int 3)) Ac))) {Av Q with nx:=Ak (Av Q)} [some (.rol (ns.map W.int)),some t.enc,some (.int (t.cnt:Nat)),some (.ref s),some t.enc,none,none,none] G2:=⟨sz rfl,g (.nd "num" (.num 3 .nil)) ⟨by decide +kernel,by decide,by decide⟩⟩
  refine⟨t,⟨rfl,d.1,d.2.2,h⟩,A0 (λ_=>c) λ_=>?_⟩
  refine⟨t,⟨rfl,d.1,d.2.2,h⟩,A0 (λ_=>c) λ_=>g t d⟩
 refine AE ?_
 walk_at "pa"
 refine⟨u,s,⟨rfl,y⟩,i,λx B l h3=>?_⟩
 refine AE ?_
 simp only[gB,rF,Aa,Ac]
 refine Sq (n:=19) (by decide) (by decide) (by decide +kernel) λz v=>?_
 rw[KS Au,Ap]
 generalize put B z (.lst ((nms 19).map fdW))=G4
 refine AE ?_
 simp only[Ad,Ae,Aa,Ac,Ab,gC,Yk,Yl,Yb,Yc]
 refine⟨sz rfl,sz rfl,sz rfl,?_⟩
 rw[M9]
 refine⟨sz rfl,sz rfl,?_⟩
 refine FH (λZ j=>?_) ?_
 ·simp only[gOr,gTB,Ad,Ag,Ah,Ae,Aa,Ac,Ab,gC,Yb,Yc]
  refine⟨rfl,.inl ⟨La,rfl,⟨by decide +kernel,by decide,by decide⟩,?_⟩⟩
  dsimp only
  rw[show eqF true (.int ((La.cnt:Nat):Int)) (.int 40) G4=some (.bl false)from rfl,Ap]
  simp only[Yq,if_false]
  refine⟨sz rfl,sz rfl,.inl ⟨.nd "as" (.trm t1 (.knd Ez .nil)),?_,⟨BS (show KTD.datumAt ("as":Str) AB=some [("term":Str),"kind"] by decide +kernel) (by show(t1.ok&&((Ez.ok&&BF Ez)&&true))=true;rw[SR.1,SR.2];decide +kernel),show 2<=40 by decide,show 2<=10 by decide⟩,?_⟩⟩
  ·show _=[W.tup [.str "as",n1,Ez.enc]]
   rw[fk]
  ·exact j
 simp only[Ai,Bn,Ah,Aa,Ac,Ab,gC,Yb,Yc]
 refine⟨0,x,rfl,l,λH S R D=>⟨H,rfl,D,λY X=>?_⟩⟩
 simp only[BJ,Ap,if_true]
 exact⟨1,x,rfl,l,λp J s8 o=>⟨p,rfl,o,λU O=>q _⟩⟩
theorem E2{e:DictEntry}{i:Int}{t u:Tok}{es:List DictEntry}{D:List (Str×KTD.Dat)}(h1:e.key=.str x t)(h2:e.val=.int i u)(r:KTD.Rows (KTD.Dat.At base) es D):KTD.Rows (KTD.Dat.At base) (e::es) ((x,KTD.Dat.flat (.int i))::D):=
 .cons h1 (by rw[h2];exact PyProof.V.Flat.int i u) r
theorem fu{h:Heap}(X:K.In h)(G:h.Ns mainGlobals mg)(FF:Fns K mg)(NN:Bls mg){d c b e i g f:Addr}{v5:Addr}{Q v7:Tok}{v8:Nat}{v9:Array (Option Value)}{ja:Tok}{jb:Tok}{jc:Tok}{jd:Tok}{je:Tok}{jf:Tok}{jh:Nat}{n s m u v w:DictEntry}{jo jp jq jr js jt ju jv jw jx jy jz:Tok}{x:Addr}{jB:Nat}{j:DictEntry}{jD:Tok}{jE:Addr}{jF:Nat}{jG:Array (Option Value)}{O:Tok}{D:DictEntry}{jJ:Tok}{jK:Addr}{jL:Nat}{jM:Array (Option Value)}{jN:Tok}{o:DictEntry}{jP:Tok}{jQ:Addr}{jR:Nat}{jS:Array (Option Value)}{N:Tok}{z:DictEntry}{jV:Tok}{P:Addr}{jX:Nat}{jY:Array (Option Value)}{jZ:Tok}{j0:Tok}{j1:Tok}{t:DictEntry}{j3:Tok}{j4:Addr}{j5:Nat}{j6:Array (Option Value)}{j7:Tok}{j8:Tok}{E:DictEntry}{pa:Tok}{T:Addr}{pc:Nat}{pd:Array (Option Value)}{pe:Tok}{r:DictEntry}{pg:Tok}{ph:Addr}{pi:Nat}{pj:Array (Option Value)}{pk:Tok}{pl:Tok}{pn:DictEntry}{po:Tok}{pp:Addr}{pq:Nat}{pr:Array (Option Value)}{ps:Tok}{pt:Tok}{U:Tok}{pv:DictEntry}{pw:Tok}{px:Addr}{py:Nat}{pz:Array (Option Value)}{pA:Tok}{R:Tok}{pC:Tok}{k:DictEntry}{pE:Tok}{pF:Addr}{pG:Nat}{pH:Array (Option Value)}{Y:Tok}{L:Tok}{q:DictEntry}{pL:Tok}{pM:Addr}{pN:Nat}{pO:Array (Option Value)}{S:Tok}{pQ:Tok}{A:DictEntry}{pS:Tok}{H:Addr}{pU:Nat}{pV:Array (Option Value)}{pW:Tok}{y:DictEntry}{pY:Tok}{pZ:Addr}{p0:Nat}{p1:Array (Option Value)}{p2:Tok}{p3:DictEntry}{p4:Tok}{J:Addr}{p6:Nat}{p7:Array (Option Value)}{I:Tok}{p9:Tok}{l:DictEntry}{zb:Tok}{Z:Addr}{zd:Nat}{ze:Array (Option Value)}{zf:Tok}{F:Tok}{zh zi zj zk zl zm zn:ClassData}
  (qa:PySem.W.nsIn K mainGlobals "CastError"=some (some (.ref d)))
  (qb:PySem.W.nsIn K mainGlobals "NoKind"=some (some (.ref c)))
  (qc:PySem.W.nsIn K mainGlobals "NoTerm"=some (some (.ref b)))
  (qd:PySem.W.nsIn K mainGlobals "BadUse"=some (some (.ref e)))
  (qe:PySem.W.nsIn K mainGlobals "NoValue"=some (some (.ref i)))
  (qf:PySem.W.nsIn K mainGlobals "NoNumber"=some (some (.ref g)))
  (qg:PySem.W.nsIn K mainGlobals "BadNote"=some (some (.ref f)))
  (qh:PySem.W.excIn K b [.type "ValueError",.type "Exception",.type "BaseException",.type "object"] "ValueError.__new__"=true)
  (qi:PySem.W.nsIn K mainGlobals "MARKS"=some (some (.ref v5)))
  (qj:K.lookup v5=some ⟨.type "tuple",none,.seq #[.str "must" Q,.str "may" v7] v8,v9⟩)
  (qk:PySem.W.nsIn K mainGlobals "MOST_DEPTH"=some (some (.int 8 ja)))
  (ql:PySem.W.nsIn K mainGlobals "MOST_KINDS"=some (some (.int 40 jb)))
  (qm:PySem.W.nsIn K mainGlobals "MOST_LETTERS"=some (some (.int 8 jc)))
  (qn:PySem.W.nsIn K mainGlobals "MOST_NUMBER"=some (some (.int 99999999999999999999 jd)))
  (qo:PySem.W.nsIn K mainGlobals "MOST_TERMS"=some (some (.int 40 je)))
  (qp:PySem.W.nsIn K mainGlobals "MOST_TERM_DEPTH"=some (some (.int 10 jf)))
  (qq:PySem.W.nsIn K mainGlobals "LENGTHS"=some (some (.ref p)))
  (qr:K.lookup p=some ⟨.type "dict",none,.dict #[n,s,m,u,v,w] jh,#[]⟩)
  (qs:(p==sysModules)=false)
  (qt:n.key=.str "any" jo)
  (qu:n.val=.int 1 jp)
  (qv:s.key=.str "num" jq)
  (qw:s.val=.int 1 jr)
  (qx:m.key=.str "truth" js)
  (qy:m.val=.int 1 jt)
  (qz:u.key=.str "to" ju)
  (qA:u.val=.int 3 jv)
  (qB:v.key=.str "box" jw)
  (qC:v.val=.int 2 jx)
  (qD:w.key=.str "row" jy)
  (qE:w.val=.int 3 jz)
  (qF:PySem.W.nsIn K mainGlobals "FORMS"=some (some (.ref x)))
  (qG:K.lookup x=some ⟨.type "dict",none,.dict #[j,D,o,z,t,E,r,pn,pv,k,q,A,y,p3,l] jB,#[]⟩)
  (qH:(x==sysModules)=false)
  (qI:j.key=.str "num" jD)
  (qJ:j.val=.ref jE)
  (qK:K.lookup jE=some ⟨.type "tuple",none,.seq #[.str "number" O] jF,jG⟩)
  (qL:D.key=.str "truth" jJ)
  (qM:D.val=.ref jK)
  (qN:K.lookup jK=some ⟨.type "tuple",none,.seq #[.str "truth" jN] jL,jM⟩)
  (qO:o.key=.str "name" jP)
  (qP:o.val=.ref jQ)
  (qQ:K.lookup jQ=some ⟨.type "tuple",none,.seq #[.str "name" N] jR,jS⟩)
  (qR:z.key=.str "fun" jV)
  (qS:z.val=.ref P)
  (qT:K.lookup P=some ⟨.type "tuple",none,.seq #[.str "name" jZ,.str "kind" j0,.str "term" j1] jX,jY⟩)
  (qU:t.key=.str "call" j3)
  (qV:t.val=.ref j4)
  (qW:K.lookup j4=some ⟨.type "tuple",none,.seq #[.str "term" j7,.str "term" j8] j5,j6⟩)
  (qX:E.key=.str "rec" pa)
  (qY:E.val=.ref T)
  (qZ:K.lookup T=some ⟨.type "tuple",none,.seq #[.str "fields" pe] pc,pd⟩)
  (q0:r.key=.str "get" pg)
  (q1:r.val=.ref ph)
  (q2:K.lookup ph=some ⟨.type "tuple",none,.seq #[.str "term" pk,.str "name" pl] pi,pj⟩)
  (q3:pn.key=.str "or" po)
  (q4:pn.val=.ref pp)
  (q5:K.lookup pp=some ⟨.type "tuple",none,.seq #[.str "term" ps,.str "name" pt,.str "term" U] pq,pr⟩)
  (q6:pv.key=.str "if" pw)
  (q7:pv.val=.ref px)
  (q8:K.lookup px=some ⟨.type "tuple",none,.seq #[.str "term" pA,.str "term" R,.str "term" pC] py,pz⟩)
  (q9:k.key=.str "plus" pE)
  (va:k.val=.ref pF)
  (vb:K.lookup pF=some ⟨.type "tuple",none,.seq #[.str "term" Y,.str "term" L] pG,pH⟩)
  (vc:q.key=.str "less" pL)
  (vd:q.val=.ref pM)
  (ve:K.lookup pM=some ⟨.type "tuple",none,.seq #[.str "term" S,.str "term" pQ] pN,pO⟩)
  (vf:A.key=.str "new" pS)
  (vg:A.val=.ref H)
  (vh:K.lookup H=some ⟨.type "tuple",none,.seq #[.str "term" pW] pU,pV⟩)
  (vi:y.key=.str "read" pY)
  (vj:y.val=.ref pZ)
  (vk:K.lookup pZ=some ⟨.type "tuple",none,.seq #[.str "term" p2] p0,p1⟩)
  (vl:p3.key=.str "write" p4)
  (vm:p3.val=.ref J)
  (vn:K.lookup J=some ⟨.type "tuple",none,.seq #[.str "term" I,.str "term" p9] p6,p7⟩)
  (vo:l.key=.str "as" zb)
  (vp:l.val=.ref Z)
  (vq:K.lookup Z=some ⟨.type "tuple",none,.seq #[.str "term" zf,.str "kind" F] zd,ze⟩)
  (vr:PySem.W.clsIn K f=some zh)
  (vs:PySem.W.clsIn K e=some zi)
  (vt:PySem.W.clsIn K d=some zj)
  (vu:PySem.W.clsIn K c=some zk)
  (vv:PySem.W.clsIn K g=some zl)
  (vw:PySem.W.clsIn K b=some zm)
  (vx:PySem.W.clsIn K i=some zn)
  (vy:PySem.W.typeIn K (.ref f)=some (.type "type"))
  (vz:PySem.W.typeIn K (.ref e)=some (.type "type"))
  (vA:PySem.W.typeIn K (.ref d)=some (.type "type"))
  (vB:PySem.W.typeIn K (.ref c)=some (.type "type"))
  (vC:PySem.W.typeIn K (.ref g)=some (.type "type"))
  (vD:PySem.W.typeIn K (.ref i)=some (.type "type"))
  (vE:PySem.W.subIn K (.ref d) (.type "BaseException")=some true)
  (vF:PySem.W.subIn K (.ref b) (.ref d)=some true)
  (vG:PySem.W.subIn K (.ref b) (.ref c)=some false)
  (vH:PySem.W.subIn K (.ref b) (.ref e)=some false)
  (vI:PySem.W.subIn K (.ref b) (.ref i)=some false)
  (vJ:PySem.W.subIn K (.ref b) (.ref g)=some false)
  (vK:PySem.W.subIn K (.ref b) (.ref f)=some false)
  (vL:PySem.W.subIn K (.ref b) (.type "ValueError")=some true)
  (vM:(Value.ref b==Value.ref f)=false)
  (vN:(Value.ref b==Value.ref e)=false)
  (vO:(Value.ref b==Value.ref c)=false)
  (vP:(Value.ref b==Value.ref g)=false)
  (vQ:(Value.ref b==Value.ref i)=false)
  (vR:PySem.W.findIn K (.ref b) "__getattribute__"=some (some (.builtin "BaseException.__getattribute__")))
  (vS:PySem.W.findIn K (.ref b) "__getattr__"=some none)
  (vT:PySem.W.findIn K (.ref b) "__class__"=some (some (.builtin "object.__class__")))
  (vU:PySem.W.mroIn K b (.type "object")=some true)
  (vV:PySem.W.mroIn K b (.type "BaseException")=some true)
  (vW:PySem.W.specialIn K (.builtin "object.__class__") "__get__"=some (some (.builtin "getset_descriptor.__get__")))
  (vX:PySem.W.takesIn K (.builtin "object.__class__")=some true):
  ∃ a:Adr,∀ base:Heap,K.In base->Tx K mg base a:=by
 refine⟨⟨d,c,b,e,i,g,f⟩,λbase B=>?_⟩
 exact{
  toFns:=FF
  toBls:=NN
  Ou:=PySem.W.mg_of X G qa
  Ov:=PySem.W.mg_of X G qb
  J1:=PySem.W.mg_of X G qc
  Ow:=PySem.W.mg_of X G qd
  Ox:=PySem.W.mg_of X G qe
  Oy:=PySem.W.mg_of X G qf
  Oz:=PySem.W.mg_of X G qg
  OA:=qh
  OC:=vA
  OD:=Ee vt
  OF:=vE
  OG:=az X G (dd:=none) (ts:=[("must",Q),("may",v7)]) qi qj (by simp)
  OH:=EV X G qk
  OI:=EV X G ql
  OJ:=EV X G qm
  OK:=EV X G qn
  OL:=EV X G qo
  OM:=EV X G qp
  ON:=aA X G B qq qr qs ⟨rfl,rfl,rfl⟩ rfl (E2 qt qu (E2 qv qw (E2 qx qy (E2 qz qA (E2 qB qC (E2 qD qE .nil))))))
  OO:=Z3 X G B qF qG qH ⟨rfl,rfl,rfl⟩ rfl (BM (dd:=none) (ts:=[("number",O)]) qI qJ qK (by simp) (BM (dd:=none) (ts:=[("truth",jN)]) qL qM qN (by simp) (BM (dd:=none) (ts:=[("name",N)]) qO qP qQ (by simp) (BM (dd:=none) (ts:=[("name",jZ),("kind",j0),("term",j1)]) qR qS qT (by simp) (BM (dd:=none) (ts:=[("term",j7),("term",j8)]) qU qV qW (by simp) (BM (dd:=none) (ts:=[("fields",pe)]) qX qY qZ (by simp) (BM (dd:=none) (ts:=[("term",pk),("name",pl)]) q0 q1 q2 (by simp) (BM (dd:=none) (ts:=[("term",ps),("name",pt),("term",U)]) q3 q4 q5 (by simp) (BM (dd:=none) (ts:=[("term",pA),("term",R),("term",pC)]) q6 q7 q8 (by simp) (BM (dd:=none) (ts:=[("term",Y),("term",L)]) q9 va vb (by simp) (BM (dd:=none) (ts:=[("term",S),("term",pQ)]) vc vd ve (by simp) (BM (dd:=none) (ts:=[("term",pW)]) vf vg vh (by simp) (BM (dd:=none) (ts:=[("term",p2)]) vi vj vk (by simp) (BM (dd:=none) (ts:=[("term",I),("term",p9)]) vl vm vn (by simp) (BM (dd:=none) (ts:=[("term",zf),("kind",F)]) vo vp vq (by simp) .nil)))))))))))))))
  OP:=vF
  OQ:=⟨vR,vS,Ee vw,vT,vW,vX,vU,vV⟩
  OR:=Fp vO (Ee vu) vB vG
  OS:=aB
  OT:=Fp vN (Ee vs) vz vH
  OU:=Fp vQ (Ee vx) vD vI
  OV:=Fp vP (Ee vv) vC vJ
  OW:=Fp vM (Ee vr) vy vK
  OX:=aC (by decide +kernel) vL}
end KW
open PySem PySem.W PyProof.Rows
set_option hygiene false in
local macro_rules | `(tactic| walk_at "fb") => `(tactic| (intro _ _ _ _ _ _ us hl; first | (obtain rfl := L3.ln0 hl; rfl) | (obtain ⟨_, _, rfl, g0⟩ := L3.ln1 hl; first | (obtain rfl := L3.ln0 g0; rfl) | (obtain ⟨_, _, rfl, g1⟩ := L3.ln1 g0; first | (obtain rfl := L3.ln0 g1; rfl) | (obtain ⟨_, _, rfl, g2⟩ := L3.ln1 g1; first | (obtain rfl := L3.ln0 g2; rfl) | (obtain ⟨_, _, rfl, g3⟩ := L3.ln1 g2; first | (obtain rfl := L3.ln0 g3; rfl) | (obtain ⟨_, _, rfl, g4⟩ := L3.ln1 g3; obtain rfl := L3.ln0 g4; rfl)))))))
set_option hygiene false in
local macro_rules | `(tactic| walk_at "fk") => `(tactic| (dsimp only [L2.KOf]; refine' L3.ay KX G ?e ?l ?c ?k ?b; (case e => k_is); (case l => k_is); (case c => k_is); (case k => k_is); (case b => walk_at "fb")))
set_option maxRecDepth 100000 in
set_option maxHeartbeats 0 in
theorem PySem.Challenge.cw_castwright_k37_what_is_a_term_holds : PySem.Challenge.rw_castwright_k37_what_is_a_term.Holds := by
 show KW.rwS.Holds
 w_on;o_law
 refine holds_open (r:=KW.rwS.row) (q:=KW.vwS) (loose:=["LENGTHS","STEPS","FORMS","UNKNOWN"]) (N:=8748)
  (Yf:=(kHook KW.KF KW.KL KW.kfe).obs) (Ya:=(kHook KW.KF KW.KL KW.kfe).val) (YP:=(kHook KW.KF KW.KL KW.kfe).says)
  (Xt:=λs=>xlAt KW.vwS [] s&&recOk (RowW.records KW.rwS.row.toRowW) s)
  (XP:=XL KW.vwS []) ?hl (kHook KW.KF KW.KL KW.kfe).of (kHook KW.KF KW.KL KW.kfe).keeps ?g1 XL.keeps rfl rfl rfl ?g2 rfl
  ?g3 (by decide +kernel) ?g4 ?hw ?hc
 case g1=>exact λs e=>xl_of s (Bool.and_eq_true_iff.mp e).1
 case g2=>exact λs e=>recFacts_of (Bool.and_eq_true_iff.mp e).2
 case g3=>first | assumption | decide +kernel
 case g4=>exact⟨rfl,rfl,rfl,rfl,rfl,by decide +kernel⟩
 case hw=>w_witness2
 case hl=>exact byRow2 "special-get-raises" KW.lbf KW.lbt
 k_fill
 refine L3.aD (l:=KW.rwS) (k:=36) ⟨rfl,by decide,by decide⟩ rfl rfl (λw h Y=>PySem.W.kIn_of Y) ?F
 case F =>
  intro w mg fa h KX G hmg
  have FF:KW.Fns (L2.KOf KX) mg:=by constructor <;> walk_at "fk"
  have NN:KW.Bls mg:=by constructor <;> exact PySem.W.mg_none_of KX G (by k_is)
  have T:∃ a:KW.Adr,∀ base:Heap,(L2.KOf KX).In base->KW.Tx (L2.KOf KX) mg base a:=by
   dsimp only[L2.KOf]at *
   refine' KW.fu KX G FF NN ?qa ?qb ?qc ?qd ?qe ?qf ?qg ?qh ?qi ?qj ?qk ?ql ?qm ?qn ?qo ?qp ?qq ?qr ?qs ?qt ?qu ?qv ?qw ?qx ?qy ?qz ?qA ?qB ?qC ?qD ?qE ?qF ?qG ?qH ?qI ?qJ ?qK ?qL ?qM ?qN ?qO ?qP ?qQ ?qR ?qS ?qT ?qU ?qV ?qW ?qX ?qY ?qZ ?q0 ?q1 ?q2 ?q3 ?q4 ?q5 ?q6 ?q7 ?q8 ?q9 ?va ?vb ?vc ?vd ?ve ?vf ?vg ?vh ?vi ?vj ?vk ?vl ?vm ?vn ?vo ?vp ?vq ?vr ?vs ?vt ?vu ?vv ?vw ?vx ?vy ?vz ?vA ?vB ?vC ?vD ?vE ?vF ?vG ?vH ?vI ?vJ ?vK ?vL ?vM ?vN ?vO ?vP ?vQ ?vR ?vS ?vT ?vU ?vV ?vW ?vX
   (case qa=>k_is)
   (case qb=>k_is)
   (case qc=>k_is)
   (case qd=>k_is)
   (case qe=>k_is)
   (case qf=>k_is)
   (case qg=>k_is)
   (case qh=>k_exc)
   (case qi=>k_is)
   (case qj=>k_is)
   (case qk=>k_is)
   (case ql=>k_is)
   (case qm=>k_is)
   (case qn=>k_is)
   (case qo=>k_is)
   (case qp=>k_is)
   (case qq=>k_is)
   (case qr=>k_is)
   (case qs=>decide)
   (case qt=>exact rfl)
   (case qu=>exact rfl)
   (case qv=>exact rfl)
   (case qw=>exact rfl)
   (case qx=>exact rfl)
   (case qy=>exact rfl)
   (case qz=>exact rfl)
   (case qA=>exact rfl)
   (case qB=>exact rfl)
   (case qC=>exact rfl)
   (case qD=>exact rfl)
   (case qE=>exact rfl)
   (case qF=>k_is)
   (case qG=>k_is)
   (case qH=>decide)
   (case qI=>exact rfl)
   (case qJ=>exact rfl)
   (case qK=>k_is)
   (case qL=>exact rfl)
   (case qM=>exact rfl)
   (case qN=>k_is)
   (case qO=>exact rfl)
   (case qP=>exact rfl)
   (case qQ=>k_is)
   (case qR=>exact rfl)
   (case qS=>exact rfl)
   (case qT=>k_is)
   (case qU=>exact rfl)
   (case qV=>exact rfl)
   (case qW=>k_is)
   (case qX=>exact rfl)
   (case qY=>exact rfl)
   (case qZ=>k_is)
   (case q0=>exact rfl)
   (case q1=>exact rfl)
   (case q2=>k_is)
   (case q3=>exact rfl)
   (case q4=>exact rfl)
   (case q5=>k_is)
   (case q6=>exact rfl)
   (case q7=>exact rfl)
   (case q8=>k_is)
   (case q9=>exact rfl)
   (case va=>exact rfl)
   (case vb=>k_is)
   (case vc=>exact rfl)
   (case vd=>exact rfl)
   (case ve=>k_is)
   (case vf=>exact rfl)
   (case vg=>exact rfl)
   (case vh=>k_is)
   (case vi=>exact rfl)
   (case vj=>exact rfl)
   (case vk=>k_is)
   (case vl=>exact rfl)
   (case vm=>exact rfl)
   (case vn=>k_is)
   (case vo=>exact rfl)
   (case vp=>exact rfl)
   (case vq=>k_is)
   (case vr=>k_is)
   (case vs=>k_is)
   (case vt=>k_is)
   (case vu=>k_is)
   (case vv=>k_is)
   (case vw=>k_is)
   (case vx=>k_is)
   (case vy=>k_is)
   (case vz=>k_is)
   (case vA=>k_is)
   (case vB=>k_is)
   (case vC=>k_is)
   (case vD=>k_is)
   (case vE=>k_is)
   (case vF=>k_is)
   (case vG=>k_is)
   (case vH=>k_is)
   (case vI=>k_is)
   (case vJ=>k_is)
   (case vK=>k_is)
   (case vL=>k_is)
   (case vM=>decide)
   (case vN=>decide)
   (case vO=>decide)
   (case vP=>decide)
   (case vQ=>decide)
   (case vR=>k_is)
   (case vS=>k_is)
   (case vT=>k_is)
   (case vU=>k_is)
   (case vV=>k_is)
   (case vW=>k_is)
   (case vX=>k_is)
  obtain⟨a,T⟩:=T
  obtain⟨f,fd,hm,F,_⟩:=FF.bx
  have e0:=hmg.symm.trans hm
  cases e0
  obtain⟨oc,od,kV,doc,pm,an,cdv,ct,osl,rfl,lk,hcd⟩:=F.ex
  exact⟨_,λs u=>.of_eq rfl,λbase kb nb=>KW.fq (T base kb) F⟩
