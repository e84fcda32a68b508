import PyProof.Rows.All
import Wide.All
import Wide.FinOn
import Lean
import PyProof.EqAt
import PyProof.EqKinds
import PyProof.TupleCall
import PyProof.AttrMissHeap
import KE.KDictOf
import PyProof.SetRoads
import PyProof.CollectWalk
import PyProof.ZipIter
import PyProof.TupleIter
import PyProof.NeKinds
import PyProof.DictStraight
import PyProof.WalksMore
import KE.KDictList
import KE.KSortTup
import KE.KItemsList
import PyProof.EnumMake
import PyProof.EnumStmt
import PyProof.EnumFor
import PyProof.Rows.EnumRows
import KE.KIntText
import PyProof.FitsInt
import KE.IntText
import KE.IntTextLaws
import KE.IntTextText
import KE.KFromBytes
import KE.KIsAll
import KE.KItem
import KE.KSortAsk
import KE.KTab
import KE.KxBytes
import Open.Claim
import Open.Head
import Open.Line
import Open.Row
import OpenK.KCall
import OpenK.KCls
import OpenK.KDescr
import OpenK.KFacts
import OpenK.KGet
import OpenK.KLine
import OpenK.KMake
import OpenK.KMore
import OpenK.KOwn
import OpenK.KRaise
import OpenK.KWalk
import OpenK.Peek
import Open.Tree
import PySem.Challenge.RW_castwright_k86_texts_that_write_no_term
set_option Elab.async false
set_option linter.all false
set_option maxRecDepth 100000
set_option maxHeartbeats 4000000
set_option hygiene false
set_option compiler.extract_closed false
theorem Qzz(n:Nat)(h:n<=9:=by decide):n<=PySem.sizeLine:=Nat.le_trans h (by decide)
noncomputable section
abbrev Yb:=@List.getElem?_cons_zero
abbrev Yc:=@List.getElem?_cons_succ
abbrev Yd:=@List.mem_cons_of_mem
abbrev Ye:=@List.mem_cons_self
abbrev Yg:=@List.length_cons
abbrev Yh:=@List.length_map
abbrev Yi:=@List.length_nil
abbrev Yj:=@List.length_append
abbrev Yk:=@List.set_cons_zero
abbrev Yl:=@List.set_cons_succ
abbrev Ym:=@List.map_cons
abbrev Yn:=@List.size_toArray
abbrev Yo:=@List.mem_cons
abbrev Yp:=@List.getElem?_eq_getElem
abbrev Yq:=@Bool.false_eq_true
abbrev Yr:=@Nat.le_refl
abbrev Ys:=@Nat.ne_of_lt
abbrev Yt:=@Nat.le_trans
abbrev Yu:=@Nat.lt_of_lt_of_le
abbrev Yv:=@List.append_assoc
abbrev Yw:=@List.nil_append
abbrev Yx:=@List.append_nil
abbrev Yy:=@List.map_append
abbrev Yz:=@List.mem_append
abbrev YA:=@List.mem_singleton
abbrev YB:=@List.map_map
abbrev YC:=@List.mem_map
abbrev YD:=@Option.map_some
abbrev YE:=@Option.some.inj
abbrev YF:=@Bool.and_eq_true
abbrev YG:=@decide_eq_true
abbrev YH:=@List.map_nil
abbrev YI:=@List.getElem?_append_left
abbrev YJ:=@Nat.lt_irrefl
abbrev YK:=@List.mem_append_left
abbrev YL:=@List.mem_append_right
abbrev YM:=@List.getElem?_map
abbrev YN:=@decide_eq_true_eq
abbrev YO:=@Option.map_eq_some_iff
abbrev YQ:=@List.nodup_cons
abbrev YR:=@Array.length_toList
abbrev YS:=@Bool.false_ne_true
abbrev YT:=@Nat.zero_le
abbrev YU:=@Ne.symm
abbrev YV:=@List.getElem?_eq_some_iff
abbrev YW:=@Nat.le_add_right
abbrev YX:=@List.not_mem_nil
abbrev YY:=@List.getD_eq_getElem?_getD
abbrev YZ:=@List.flatMap_cons
abbrev Qa:=@Option.bind_eq_some_iff
abbrev Qb:=@PyProof.Rows.callWith_type1
abbrev Qc:=@List.getElem_mem
abbrev Qd:=@False.elim
abbrev Qe:=@Bool.and_eq_true_iff
abbrev Qf:=@List.cons.inj
abbrev Qg:=@congrArg
abbrev Qh:=@of_decide_eq_true
abbrev Qi:=@decide_eq_false
abbrev Qj:=@absurd
open PySem in
abbrev Qk:=@wpAny_bind
open PySem in
abbrev Ql:=@wpAny_pure
open PySem in
abbrev Qm:=@Heap.get?_push_of_some
open PySem in
abbrev Qn:=@Heap.lt_size
open PySem in
abbrev Qo:=@Heap.get?_push_size
open PySem in
abbrev Qp:=@Heap.size_push
open PySem in
abbrev Qq:=@Heap.SameBut.update
local macro_rules | `(tactic| walk_at "pa")=>`(tactic| (simp only [bt1,bt2,bt3,bt4,Yq,if_false,if_true,Bool.not_true,Bool.not_false]))
local macro_rules | `(tactic| walk_at "pb")=>`(tactic| (exact En (b1:=false) (b2:=false) (b3:=true) rfl (by decide +kernel) (by decide +kernel) (by decide +kernel) rfl fun G1 d=>by simp only [Yq,if_false,if_true];exact lst (xs:=[t.enc]) d (show 1≤3 by decide) rfl fun Z z=>s rfl g z))
local macro_rules | `(tactic| walk_at "pc")=>`(tactic| (refine Qk (wpAny_callSpecial?_slot u.typeIs PySem.F.slot_tuple_iterator_next (wpAny_call_entry PySem.F.slot_tuple_iterator_next u.typeIs PySem.F.entry_tuple_iterator_next ?_ (PySem.F.args_tuple_iterator_next_1 _)))))
local macro_rules | `(tactic| walk_at "pd")=>`(tactic| (refine Qk (wpAny_callSpecial?_slot a.typeIs F.slot_tuple_iterator_next (wpAny_call_entry F.slot_tuple_iterator_next a.typeIs F.entry_tuple_iterator_next ?_ (F.args_tuple_iterator_next_1 _)))))
local macro_rules | `(tactic| walk_at "pe")=>`(tactic| (simp only [Ai,Ad,Aa,Ac,Ab,gC,Yk,Yl,Yb,Yc]))
local macro_rules | `(tactic| walk_at "pf")=>`(tactic| (simp only [Ai,Aa,Ac,Ab,gC,Yk,Yl,Yb,Yc]))
local macro_rules | `(tactic| walk_at "pg")=>`(tactic| (simp only [Cy,B,Yw,Yx,Yv]))
local macro_rules | `(tactic| walk_at "ph")=>`(tactic| (rcases Yo.mp h with rfl | h))
local macro_rules | `(tactic| walk_at "pi")=>`(tactic| (simp only [Ak,Aq,gB,rF,Ad,Af,Ab,gC,Aa,Ac,Yb,Yc,As.enc]))
local macro_rules | `(tactic| walk_at "pj")=>`(tactic| (obtain ⟨⟨x,b⟩,⟨rfl,h⟩,q⟩:=q))
namespace L2
open PySem PySem.Spec PyProof.Rows
def Cz(s:Stmt)(j:Nat):Stmt:=match s with
 | .ClassDef _ _ _ body _ _ _ _ _ _ _=>body.getD j (.Pass ⟨0,0,0,0⟩)
 | _=>.Pass ⟨0,0,0,0⟩
def CA(s:Stmt):Arguments:=match s with
 | .FunctionDef _ a _ _ _ _ _ _ _ _=>a
 | _=>{posonlyargs:=[],args:=[],vararg:=none,kwonlyargs:=[],kw_defaults:=[],kwarg:=none,defaults:=[]}
def AS(s:Stmt):List Stmt:=match s with
 | .FunctionDef _ _ b _ _ _ _ _ _ _=>b
 | _=>[]
def Ao(s:Stmt):Scope:=match s with
 | .FunctionDef _ _ _ _ _ _ sc _ _ _=>sc
 | _=>{kind:=.function,names:=[],isGenerator:=false,isCoroutine:=false}
end L2
namespace KZ
open PySem PySem.Spec PyProof.Rows L2
 def top (i:Nat):Stmt:=PySem.Challenge.pw_castwright_k86_texts_that_write_no_term.main.body.getD i (.Pass ⟨0,0,0,0⟩)
abbrev pwS:Program:=PySem.Challenge.pw_castwright_k86_texts_that_write_no_term
abbrev rwS:PySem.W.OpenLaw:=PySem.Challenge.rw_castwright_k86_texts_that_write_no_term
theorem wsd:rwS.wellSaid=true:=by kernel_rfl
noncomputable def vwS:Program:=PySem.W.view pwS [1,2,3,4,5,6,7,9,10,11,12,13,14,15,16,17,18,19,20,21,22,23,25,27,28,29,30,31,32,33,34,36,37,38,39,40,41,42,43,44,45,46,47,48,49,50,51,53,54,55,56,57,58,59,60,61,62,63,65,66,67,68,69,70,71,72,73,74,75,76,77,78,79,80,81,82,83,84,85,86,87,88]
abbrev en(P:Params)(k:Str)(t:Tok)(v:Value):DictEntry:=⟨PyData.keyHash P k,.str k t,v⟩
abbrev co(n:Str)(a l g r f e:Nat)(x y:Value)(z t u:Nat):Obj:=.mk (.type "code") Option.none (.fields #[.str n a,.str n (a+1),.str "/claim/cut.py" (a+2),.int l 0,.int g 0,.int 0 0,.int 0 0,.int 3 0,.ref r,.bool Bool.true,.int f 0,.ref e,.none,x,y,.ref z,.int t 0,.int l 0,.str "/claim/cut.py" u]) #[]
abbrev fo(n:Str)(s:Stmt)(q:Str)(t c:Nat):Obj:=.mk (.type "function") Option.none (.func (PySem.W.fnOf n n (CA s) (AS s) (Ao s) .none .none .none (.str q t) Option.none (.ref c) .none)) #[]
abbrev fma(n q:Str)(s:Stmt)(c:Nat):Obj:=.mk (.type "function") Option.none (.func (PySem.W.fnOf n q (CA s) (AS s) (Ao s) .none .none .none (.str "castwright.errors" 187) Option.none (.ref c) .none)) #[]
abbrev fob(n:Str)(s:Stmt)(c:Nat):Obj:=fo n s "castwright.kinds" 312 c
abbrev fmc(n q:Str)(s:Stmt)(c:Nat):Obj:=.mk (.type "function") Option.none (.func (PySem.W.fnOf n q (CA s) (AS s) (Ao s) .none .none .none (.str "castwright.reader" 410) Option.none (.ref c) .none)) #[]
abbrev fod(n:Str)(s:Stmt)(c:Nat):Obj:=fo n s "castwright.kindnotes" 489 c
abbrev foe(n:Str)(s:Stmt)(c:Nat):Obj:=fo n s "castwright.terms" 559 c
abbrev fof(n:Str)(s:Stmt)(c:Nat):Obj:=fo n s "castwright.termnotes" 701 c
abbrev fog(n:Str)(s:Stmt)(c:Nat):Obj:=fo n s "law_castwright_k86_texts_that_write_no_term" 800 c
abbrev cm(n q:Str)(a l g r f e:Nat)(x y:Value)(z t u:Nat):Obj:=.mk (.type "code") Option.none (.fields #[.str n a,.str q (a+1),.str "/claim/cut.py" (a+2),.int l 0,.int g 0,.int 0 0,.int 0 0,.int 3 0,.ref r,.bool Bool.true,.int f 0,.ref e,.none,x,y,.ref z,.int t 0,.int l 0,.str "/claim/cut.py" u]) #[]
noncomputable def KF:Params->PySem.W.Frag:=λP=>
 (nat_lit 2,.mk .none Option.none (.dict #[]) #[])::
 (nat_lit 3,.mk (.type "dict") Option.none (.dict #[en P "__name__" 165 (.str "law_castwright_k86_texts_that_write_no_term" 800),en P "__doc__" 166 .none,en P "__package__" 167 .none,en P "__loader__" 168 (.builtin "__main__.__loader__#opaque"),en P "__spec__" 169 .none,en P "__annotations__" 170 (.ref 6),en P "__builtins__" 171 (.ref 4),en P "__file__" 173 (.str "/claim/cut.py" 172),en P "__cached__" 174 .none,en P "CastError" 206 (.ref 24),en P "NoKind" 222 (.ref 37),en P "NoTerm" 238 (.ref 49),en P "BadUse" 263 (.ref 68),en P "NoValue" 279 (.ref 80),en P "NoNumber" 295 (.ref 92),en P "BadNote" 311 (.ref 104),en P "MOST_KINDS" 315 (.int 40 314),en P "MOST_DEPTH" 317 (.int 8 316),en P "MOST_LETTERS" 319 (.int 8 318),en P "MARKS" 322 (.ref 107),en P "LENGTHS" 341 (.ref 108),en P "is_kind" 348 (.ref 115),en P "is_made_of" 354 (.ref 120),en P "layer_within" 364 (.ref 127),en P "kinds_within" 370 (.ref 132),en P "has_form" 377 (.ref 139),en P "are_fields" 383 (.ref 144),en P "is_field" 390 (.ref 151),en P "is_name" 396 (.ref 156),en P "is_small_letter" 403 (.ref 163),en P "names_rise" 409 (.ref 168),en P "Reader" 488 (.ref 227),en P "written" 497 (.ref 238),en P "row_written" 503 (.ref 243),en P "field_written" 511 (.ref 250),en P "kind_from" 520 (.ref 257),en P "function_from" 530 (.ref 264),en P "box_from" 539 (.ref 271),en P "row_from" 548 (.ref 278),en P "field_from" 558 (.ref 285),en P "MOST_TERMS" 562 (.int 40 561),en P "MOST_TERM_DEPTH" 564 (.int 10 563),en P "MOST_FIGURES" 566 (.int 20 565),en P "MOST_NUMBER" 568 (.int 99999999999999999999 567),en P "FORMS" 626 (.ref 286),en P "terms_in" 633 (.ref 308),en P "check_term" 640 (.ref 315),en P "is_term" 647 (.ref 322),en P "count_of" 653 (.ref 327),en P "form_of" 660 (.ref 334),en P "parts_of" 666 (.ref 339),en P "has_term_form" 672 (.ref 344),en P "is_of_sort" 680 (.ref 351),en P "is_number" 687 (.ref 358),en P "are_term_fields" 693 (.ref 363),en P "is_term_field" 700 (.ref 370),en P "term_shown" 709 (.ref 377),en P "term_read" 718 (.ref 384),en P "gap_ahead_of" 726 (.ref 391),en P "term_written" 736 (.ref 398),en P "thing_written" 742 (.ref 403),en P "term_from" 755 (.ref 410),en P "thing_from" 764 (.ref 417),en P "number_from" 773 (.ref 424),en P "truth_from" 781 (.ref 431),en P "fields_from" 790 (.ref 438),en P "term_field_from" 799 (.ref 445),en P "_law_cell_at" 809 (.ref 452),en P "_law_state" 818 (.ref 459),en P "_law_choice" 828 (.ref 466),en P "_law_told_kind" 838 (.ref 473),en P "_law_function" 850 (.ref 480),en P "_law_record" 862 (.ref 487),en P "_law_made" 872 (.ref 494),en P "_law_leaf" 882 (.ref 501),en P "_law_first" 888 (.ref 506),en P "_law_term" 894 (.ref 511),en P "_law_count" 900 (.ref 516),en P "_law_deep" 906 (.ref 521),en P "_law_parts" 912 (.ref 526),en P "_law_drawn_term" 923 (.ref 533),en P "_law_kind_text" 934 (.ref 540),en P "_law_text" 940 (.ref 545),en P "_law_bad_term" 946 (.ref 550),en P "_law_marks" 954 (.ref 557),en P "_law_refused" 960 (.ref 562),en P "_law_odd" 970 (.ref 569),en P "_law_told" 981 (.ref 576),en P "_law_spoilt" 992 (.ref 583),en P "_law_forty" 1002 (.ref 590),en P "law" 1020 (.ref 597)] 91) #[])::
 (nat_lit 15,.mk (.type "tuple") Option.none (.seq #[.type "ValueError"]) #[])::
 (nat_lit 22,.mk (.type "tuple") Option.none (.seq #[]) #[])::
 (nat_lit 23,.mk (.type "dict") Option.none (.dict #[en P "__module__" 196 (.str "castwright.errors" 187),en P "__firstlineno__" 200 (.int 2 199),en P "__static_attributes__" 201 (.ref 22),en P "__weakref__" 203 (.ref 25),en P "__doc__" 204 .none] 3) #[])::
 (nat_lit 24,.mk (.type "type") Option.none (.cls (.mk "CastError" [.type "ValueError"] [.ref 24,.type "ValueError",.type "Exception",.type "BaseException",.type "object"] 23 "CastError" Bool.true [] [.ref 37,.ref 49,.ref 68,.ref 80,.ref 92,.ref 104] Bool.false Option.none Bool.false)) #[Option.some (.ref 15),Option.none,Option.some (.str "CastError" 189),Option.some (.str "CastError" 197),Option.some (.builtin "ValueError.__new__"),Option.some (.bool Bool.true)])::
 (nat_lit 25,.mk (.type "getset_descriptor") Option.none (.fields #[.str "__weakref__" 202,.ref 24,.builtin "ExceptionGroup.__weakref__",.none]) #[])::
 (nat_lit 28,.mk (.type "tuple") Option.none (.seq #[.ref 24]) #[])::
 (nat_lit 35,.mk (.type "tuple") Option.none (.seq #[]) #[])::
 (nat_lit 36,.mk (.type "dict") Option.none (.dict #[en P "__module__" 214 (.str "castwright.errors" 187),en P "__firstlineno__" 218 (.int 4 217),en P "__static_attributes__" 219 (.ref 35),en P "__doc__" 220 .none] 2) #[])::
 (nat_lit 37,.mk (.type "type") Option.none (.cls (.mk "NoKind" [.ref 24] [.ref 37,.ref 24,.type "ValueError",.type "Exception",.type "BaseException",.type "object"] 36 "NoKind" Bool.true [] [] Bool.false Option.none Bool.false)) #[Option.some (.ref 28),Option.none,Option.some (.str "NoKind" 207),Option.some (.str "NoKind" 215),Option.some (.builtin "ValueError.__new__"),Option.some (.bool Bool.true)])::
 (nat_lit 40,.mk (.type "tuple") Option.none (.seq #[.ref 24]) #[])::
 (nat_lit 47,.mk (.type "tuple") Option.none (.seq #[]) #[])::
 (nat_lit 48,.mk (.type "dict") Option.none (.dict #[en P "__module__" 230 (.str "castwright.errors" 187),en P "__firstlineno__" 234 (.int 6 233),en P "__static_attributes__" 235 (.ref 47),en P "__doc__" 236 .none] 2) #[])::
 (nat_lit 49,.mk (.type "type") Option.none (.cls (.mk "NoTerm" [.ref 24] [.ref 49,.ref 24,.type "ValueError",.type "Exception",.type "BaseException",.type "object"] 48 "NoTerm" Bool.true [] [] Bool.false Option.none Bool.false)) #[Option.some (.ref 40),Option.none,Option.some (.str "NoTerm" 223),Option.some (.str "NoTerm" 231),Option.some (.builtin "ValueError.__new__"),Option.some (.bool Bool.true)])::
 (nat_lit 52,.mk (.type "tuple") Option.none (.seq #[.ref 24]) #[])::
 (nat_lit 64,cm "__init__" "BadUse.__init__" 251 10 2 59 181 60 (.ref 61) (.ref 62) 63 256 257)::
 (nat_lit 65,fma "__init__" "BadUse.__init__" (Cz (top 4) 0) 64)::
 (nat_lit 66,.mk (.type "tuple") Option.none (.seq #[.str "path" 259]) #[])::
 (nat_lit 67,.mk (.type "dict") Option.none (.dict #[en P "__module__" 246 (.str "castwright.errors" 187),en P "__firstlineno__" 250 (.int 8 249),en P "__init__" 258 (.ref 65),en P "__static_attributes__" 260 (.ref 66),en P "__doc__" 261 .none] 2) #[])::
 (nat_lit 68,.mk (.type "type") Option.none (.cls (.mk "BadUse" [.ref 24] [.ref 68,.ref 24,.type "ValueError",.type "Exception",.type "BaseException",.type "object"] 67 "BadUse" Bool.true [] [] Bool.false Option.none Bool.false)) #[Option.some (.ref 52),Option.none,Option.some (.str "BadUse" 239),Option.some (.str "BadUse" 247),Option.some (.builtin "ValueError.__new__"),Option.some (.bool Bool.true)])::
 (nat_lit 71,.mk (.type "tuple") Option.none (.seq #[.ref 24]) #[])::
 (nat_lit 78,.mk (.type "tuple") Option.none (.seq #[]) #[])::
 (nat_lit 79,.mk (.type "dict") Option.none (.dict #[en P "__module__" 271 (.str "castwright.errors" 187),en P "__firstlineno__" 275 (.int 12 274),en P "__static_attributes__" 276 (.ref 78),en P "__doc__" 277 .none] 2) #[])::
 (nat_lit 80,.mk (.type "type") Option.none (.cls (.mk "NoValue" [.ref 24] [.ref 80,.ref 24,.type "ValueError",.type "Exception",.type "BaseException",.type "object"] 79 "NoValue" Bool.true [] [] Bool.false Option.none Bool.false)) #[Option.some (.ref 71),Option.none,Option.some (.str "NoValue" 264),Option.some (.str "NoValue" 272),Option.some (.builtin "ValueError.__new__"),Option.some (.bool Bool.true)])::
 (nat_lit 83,.mk (.type "tuple") Option.none (.seq #[.ref 24]) #[])::
 (nat_lit 90,.mk (.type "tuple") Option.none (.seq #[]) #[])::
 (nat_lit 91,.mk (.type "dict") Option.none (.dict #[en P "__module__" 287 (.str "castwright.errors" 187),en P "__firstlineno__" 291 (.int 14 290),en P "__static_attributes__" 292 (.ref 90),en P "__doc__" 293 .none] 2) #[])::
 (nat_lit 92,.mk (.type "type") Option.none (.cls (.mk "NoNumber" [.ref 24] [.ref 92,.ref 24,.type "ValueError",.type "Exception",.type "BaseException",.type "object"] 91 "NoNumber" Bool.true [] [] Bool.false Option.none Bool.false)) #[Option.some (.ref 83),Option.none,Option.some (.str "NoNumber" 280),Option.some (.str "NoNumber" 288),Option.some (.builtin "ValueError.__new__"),Option.some (.bool Bool.true)])::
 (nat_lit 95,.mk (.type "tuple") Option.none (.seq #[.ref 24]) #[])::
 (nat_lit 102,.mk (.type "tuple") Option.none (.seq #[]) #[])::
 (nat_lit 103,.mk (.type "dict") Option.none (.dict #[en P "__module__" 303 (.str "castwright.errors" 187),en P "__firstlineno__" 307 (.int 16 306),en P "__static_attributes__" 308 (.ref 102),en P "__doc__" 309 .none] 2) #[])::
 (nat_lit 104,.mk (.type "type") Option.none (.cls (.mk "BadNote" [.ref 24] [.ref 104,.ref 24,.type "ValueError",.type "Exception",.type "BaseException",.type "object"] 103 "BadNote" Bool.true [] [] Bool.false Option.none Bool.false)) #[Option.some (.ref 95),Option.none,Option.some (.str "BadNote" 296),Option.some (.str "BadNote" 304),Option.some (.builtin "ValueError.__new__"),Option.some (.bool Bool.true)])::
 (nat_lit 107,.mk (.type "tuple") Option.none (.seq #[.str "must" 320,.str "may" 321]) #[])::
 (nat_lit 108,.mk (.type "dict") Option.none (.dict #[en P "any" 323 (.int 1 324),en P "num" 325 (.int 1 326),en P "truth" 327 (.int 1 328),en P "to" 329 (.int 3 330),en P "box" 331 (.int 2 332),en P "row" 333 (.int 3 334)] 6) #[])::
 (nat_lit 114,co "is_kind" 342 24 1 109 181 110 (.ref 111) (.ref 112) 113 346 347)::
 (nat_lit 115,fob "is_kind" (top 14) 114)::
 (nat_lit 119,co "is_made_of" 349 26 5 116 181 117 .none .none 118 352 353)::
 (nat_lit 120,fob "is_made_of" (top 15) 119)::
 (nat_lit 126,co "layer_within" 355 39 2 121 181 122 (.ref 123) (.ref 124) 125 362 363)::
 (nat_lit 127,fob "layer_within" (top 16) 126)::
 (nat_lit 131,co "kinds_within" 365 44 1 128 181 129 .none .none 130 368 369)::
 (nat_lit 132,fob "kinds_within" (top 17) 131)::
 (nat_lit 138,co "has_form" 371 48 1 133 181 134 (.ref 135) (.ref 136) 137 375 376)::
 (nat_lit 139,fob "has_form" (top 18) 138)::
 (nat_lit 143,co "are_fields" 378 54 1 140 181 141 .none .none 142 381 382)::
 (nat_lit 144,fob "are_fields" (top 19) 143)::
 (nat_lit 150,co "is_field" 384 58 1 145 181 146 (.ref 147) (.ref 148) 149 388 389)::
 (nat_lit 151,fob "is_field" (top 20) 150)::
 (nat_lit 155,co "is_name" 391 62 1 152 181 153 .none .none 154 394 395)::
 (nat_lit 156,fob "is_name" (top 21) 155)::
 (nat_lit 162,co "is_small_letter" 397 66 1 157 181 158 (.ref 159) (.ref 160) 161 401 402)::
 (nat_lit 163,fob "is_small_letter" (top 22) 162)::
 (nat_lit 167,co "names_rise" 404 68 1 164 181 165 .none .none 166 407 408)::
 (nat_lit 168,fob "names_rise" (top 23) 167)::
 (nat_lit 181,cm "__init__" "Reader.__init__" 424 73 2 176 181 177 (.ref 178) (.ref 179) 180 429 430)::
 (nat_lit 182,fmc "__init__" "Reader.__init__" (Cz (top 25) 0) 181)::
 (nat_lit 188,cm "sees" "Reader.sees" 432 77 2 183 181 184 (.ref 185) (.ref 186) 187 437 438)::
 (nat_lit 189,fmc "sees" "Reader.sees" (Cz (top 25) 1) 188)::
 (nat_lit 195,cm "takes" "Reader.takes" 440 80 2 190 181 191 (.ref 192) (.ref 193) 194 445 446)::
 (nat_lit 196,fmc "takes" "Reader.takes" (Cz (top 25) 2) 195)::
 (nat_lit 202,cm "wants" "Reader.wants" 448 86 2 197 181 198 (.ref 199) (.ref 200) 201 453 454)::
 (nat_lit 203,fmc "wants" "Reader.wants" (Cz (top 25) 3) 202)::
 (nat_lit 209,cm "wants_end" "Reader.wants_end" 456 90 1 204 181 205 (.ref 206) (.ref 207) 208 460 461)::
 (nat_lit 210,fmc "wants_end" "Reader.wants_end" (Cz (top 25) 4) 209)::
 (nat_lit 216,cm "word" "Reader.word" 463 94 1 211 181 212 (.ref 213) (.ref 214) 215 468 469)::
 (nat_lit 217,fmc "word" "Reader.word" (Cz (top 25) 5) 216)::
 (nat_lit 223,cm "figures" "Reader.figures" 471 100 1 218 181 219 (.ref 220) (.ref 221) 222 476 477)::
 (nat_lit 224,fmc "figures" "Reader.figures" (Cz (top 25) 6) 223)::
 (nat_lit 225,.mk (.type "tuple") Option.none (.seq #[.str "place" 479,.str "text" 480]) #[])::
 (nat_lit 226,.mk (.type "dict") Option.none (.dict #[en P "__module__" 419 (.str "castwright.reader" 410),en P "__firstlineno__" 423 (.int 71 422),en P "__init__" 431 (.ref 182),en P "sees" 439 (.ref 189),en P "takes" 447 (.ref 196),en P "wants" 455 (.ref 203),en P "wants_end" 462 (.ref 210),en P "word" 470 (.ref 217),en P "figures" 478 (.ref 224),en P "__static_attributes__" 481 (.ref 225),en P "__dict__" 483 (.ref 228),en P "__weakref__" 485 (.ref 229),en P "__doc__" 486 .none] 4) #[])::
 (nat_lit 227,.mk (.type "type") Option.none (.cls (.mk "Reader" [.type "object"] [.ref 227,.type "object"] 226 "Reader" Bool.true [] [] Bool.false Option.none Bool.false)) #[Option.none,Option.none,Option.some (.str "Reader" 412),Option.some (.str "Reader" 420),Option.some (.builtin "object.__new__"),Option.some (.bool Bool.true)])::
 (nat_lit 228,.mk (.type "getset_descriptor") Option.none (.fields #[.str "__dict__" 482,.ref 227,.builtin "function.__dict__",.builtin "function.__dict__#set"]) #[])::
 (nat_lit 229,.mk (.type "getset_descriptor") Option.none (.fields #[.str "__weakref__" 484,.ref 227,.builtin "ExceptionGroup.__weakref__",.none]) #[])::
 (nat_lit 237,co "written" 491 106 1 232 181 233 (.ref 234) (.ref 235) 236 495 496)::
 (nat_lit 238,fod "written" (top 27) 237)::
 (nat_lit 242,co "row_written" 498 114 1 239 181 240 .none .none 241 501 502)::
 (nat_lit 243,fod "row_written" (top 28) 242)::
 (nat_lit 249,co "field_written" 504 119 1 244 181 245 (.ref 246) (.ref 247) 248 509 510)::
 (nat_lit 250,fod "field_written" (top 29) 249)::
 (nat_lit 256,co "kind_from" 512 122 2 251 181 252 (.ref 253) (.ref 254) 255 518 519)::
 (nat_lit 257,fod "kind_from" (top 30) 256)::
 (nat_lit 263,co "function_from" 521 135 2 258 181 259 (.ref 260) (.ref 261) 262 528 529)::
 (nat_lit 264,fod "function_from" (top 31) 263)::
 (nat_lit 270,co "box_from" 531 141 2 265 181 266 (.ref 267) (.ref 268) 269 537 538)::
 (nat_lit 271,fod "box_from" (top 32) 270)::
 (nat_lit 277,co "row_from" 540 145 2 272 181 273 (.ref 274) (.ref 275) 276 546 547)::
 (nat_lit 278,fod "row_from" (top 33) 277)::
 (nat_lit 284,co "field_from" 549 156 2 279 181 280 (.ref 281) (.ref 282) 283 556 557)::
 (nat_lit 285,fod "field_from" (top 34) 284)::
 (nat_lit 286,.mk (.type "dict") Option.none (.dict #[en P "num" 569 (.ref 287),en P "truth" 571 (.ref 288),en P "name" 573 (.ref 289),en P "fun" 575 (.ref 290),en P "call" 579 (.ref 291),en P "rec" 582 (.ref 292),en P "get" 584 (.ref 293),en P "or" 587 (.ref 294),en P "if" 591 (.ref 295),en P "plus" 595 (.ref 296),en P "less" 598 (.ref 297),en P "new" 601 (.ref 298),en P "read" 603 (.ref 299),en P "write" 605 (.ref 300),en P "as" 608 (.ref 301)] 15) #[])::
 (nat_lit 287,.mk (.type "tuple") Option.none (.seq #[.str "number" 570]) #[])::
 (nat_lit 288,.mk (.type "tuple") Option.none (.seq #[.str "truth" 572]) #[])::
 (nat_lit 289,.mk (.type "tuple") Option.none (.seq #[.str "name" 574]) #[])::
 (nat_lit 290,.mk (.type "tuple") Option.none (.seq #[.str "name" 576,.str "kind" 577,.str "term" 578]) #[])::
 (nat_lit 291,.mk (.type "tuple") Option.none (.seq #[.str "term" 580,.str "term" 581]) #[])::
 (nat_lit 292,.mk (.type "tuple") Option.none (.seq #[.str "fields" 583]) #[])::
 (nat_lit 293,.mk (.type "tuple") Option.none (.seq #[.str "term" 585,.str "name" 586]) #[])::
 (nat_lit 294,.mk (.type "tuple") Option.none (.seq #[.str "term" 588,.str "name" 589,.str "term" 590]) #[])::
 (nat_lit 295,.mk (.type "tuple") Option.none (.seq #[.str "term" 592,.str "term" 593,.str "term" 594]) #[])::
 (nat_lit 296,.mk (.type "tuple") Option.none (.seq #[.str "term" 596,.str "term" 597]) #[])::
 (nat_lit 297,.mk (.type "tuple") Option.none (.seq #[.str "term" 599,.str "term" 600]) #[])::
 (nat_lit 298,.mk (.type "tuple") Option.none (.seq #[.str "term" 602]) #[])::
 (nat_lit 299,.mk (.type "tuple") Option.none (.seq #[.str "term" 604]) #[])::
 (nat_lit 300,.mk (.type "tuple") Option.none (.seq #[.str "term" 606,.str "term" 607]) #[])::
 (nat_lit 301,.mk (.type "tuple") Option.none (.seq #[.str "term" 609,.str "kind" 610]) #[])::
 (nat_lit 307,co "terms_in" 627 167 1 302 181 303 (.ref 304) (.ref 305) 306 631 632)::
 (nat_lit 308,foe "terms_in" (top 41) 307)::
 (nat_lit 314,co "check_term" 634 170 1 309 181 310 (.ref 311) (.ref 312) 313 638 639)::
 (nat_lit 315,foe "check_term" (top 42) 314)::
 (nat_lit 321,co "is_term" 641 173 1 316 181 317 (.ref 318) (.ref 319) 320 645 646)::
 (nat_lit 322,foe "is_term" (top 43) 321)::
 (nat_lit 326,co "count_of" 648 175 1 323 181 324 .none .none 325 651 652)::
 (nat_lit 327,foe "count_of" (top 44) 326)::
 (nat_lit 333,co "form_of" 654 177 1 328 181 329 (.ref 330) (.ref 331) 332 658 659)::
 (nat_lit 334,foe "form_of" (top 45) 333)::
 (nat_lit 338,co "parts_of" 661 179 1 335 181 336 .none .none 337 664 665)::
 (nat_lit 339,foe "parts_of" (top 46) 338)::
 (nat_lit 343,co "has_term_form" 667 183 1 340 181 341 .none .none 342 670 671)::
 (nat_lit 344,foe "has_term_form" (top 47) 343)::
 (nat_lit 350,co "is_of_sort" 673 190 2 345 181 346 (.ref 347) (.ref 348) 349 678 679)::
 (nat_lit 351,foe "is_of_sort" (top 48) 350)::
 (nat_lit 357,co "is_number" 681 202 1 352 181 353 (.ref 354) (.ref 355) 356 685 686)::
 (nat_lit 358,foe "is_number" (top 49) 357)::
 (nat_lit 362,co "are_term_fields" 688 206 1 359 181 360 .none .none 361 691 692)::
 (nat_lit 363,foe "are_term_fields" (top 50) 362)::
 (nat_lit 369,co "is_term_field" 694 210 1 364 181 365 (.ref 366) (.ref 367) 368 698 699)::
 (nat_lit 370,foe "is_term_field" (top 51) 369)::
 (nat_lit 376,co "term_shown" 703 213 1 371 181 372 (.ref 373) (.ref 374) 375 707 708)::
 (nat_lit 377,fof "term_shown" (top 53) 376)::
 (nat_lit 383,co "term_read" 710 216 1 378 181 379 (.ref 380) (.ref 381) 382 716 717)::
 (nat_lit 384,fof "term_read" (top 54) 383)::
 (nat_lit 390,co "gap_ahead_of" 719 223 2 385 181 386 (.ref 387) (.ref 388) 389 724 725)::
 (nat_lit 391,fof "gap_ahead_of" (top 55) 390)::
 (nat_lit 397,co "term_written" 727 227 1 392 181 393 (.ref 394) (.ref 395) 396 734 735)::
 (nat_lit 398,fof "term_written" (top 56) 397)::
 (nat_lit 402,co "thing_written" 737 234 2 399 181 400 .none .none 401 740 741)::
 (nat_lit 403,fof "thing_written" (top 57) 402)::
 (nat_lit 409,co "term_from" 743 246 2 404 181 405 (.ref 406) (.ref 407) 408 753 754)::
 (nat_lit 410,fof "term_from" (top 58) 409)::
 (nat_lit 416,co "thing_from" 756 260 3 411 181 412 (.ref 413) (.ref 414) 415 762 763)::
 (nat_lit 417,fof "thing_from" (top 59) 416)::
 (nat_lit 423,co "number_from" 765 272 1 418 181 419 (.ref 420) (.ref 421) 422 771 772)::
 (nat_lit 424,fof "number_from" (top 60) 423)::
 (nat_lit 430,co "truth_from" 774 280 1 425 181 426 (.ref 427) (.ref 428) 429 779 780)::
 (nat_lit 431,fof "truth_from" (top 61) 430)::
 (nat_lit 437,co "fields_from" 782 285 2 432 181 433 (.ref 434) (.ref 435) 436 788 789)::
 (nat_lit 438,fof "fields_from" (top 62) 437)::
 (nat_lit 444,co "term_field_from" 791 292 2 439 181 440 (.ref 441) (.ref 442) 443 797 798)::
 (nat_lit 445,fof "term_field_from" (top 63) 444)::
 (nat_lit 451,co "_law_cell_at" 802 297 2 446 181 447 (.ref 448) (.ref 449) 450 807 808)::
 (nat_lit 452,fog "_law_cell_at" (top 65) 451)::
 (nat_lit 458,co "_law_state" 810 301 2 453 181 454 (.ref 455) (.ref 456) 457 816 817)::
 (nat_lit 459,fog "_law_state" (top 66) 458)::
 (nat_lit 465,co "_law_choice" 819 306 2 460 181 461 (.ref 462) (.ref 463) 464 826 827)::
 (nat_lit 466,fog "_law_choice" (top 67) 465)::
 (nat_lit 472,co "_law_told_kind" 829 315 1 467 181 468 (.ref 469) (.ref 470) 471 836 837)::
 (nat_lit 473,fog "_law_told_kind" (top 68) 472)::
 (nat_lit 479,co "_law_function" 839 324 4 474 181 475 (.ref 476) (.ref 477) 478 848 849)::
 (nat_lit 480,fog "_law_function" (top 69) 479)::
 (nat_lit 486,co "_law_record" 851 328 4 481 181 482 (.ref 483) (.ref 484) 485 860 861)::
 (nat_lit 487,fog "_law_record" (top 70) 486)::
 (nat_lit 493,co "_law_made" 863 334 4 488 181 489 (.ref 490) (.ref 491) 492 870 871)::
 (nat_lit 494,fog "_law_made" (top 71) 493)::
 (nat_lit 500,co "_law_leaf" 873 344 2 495 181 496 (.ref 497) (.ref 498) 499 880 881)::
 (nat_lit 501,fog "_law_leaf" (top 72) 500)::
 (nat_lit 505,co "_law_first" 883 349 5 502 181 503 .none .none 504 886 887)::
 (nat_lit 506,fog "_law_first" (top 73) 505)::
 (nat_lit 510,co "_law_term" 889 366 4 507 181 508 .none .none 509 892 893)::
 (nat_lit 511,fog "_law_term" (top 74) 510)::
 (nat_lit 515,co "_law_count" 895 396 1 512 181 513 .none .none 514 898 899)::
 (nat_lit 516,fog "_law_count" (top 75) 515)::
 (nat_lit 520,co "_law_deep" 901 398 1 517 181 518 .none .none 519 904 905)::
 (nat_lit 521,fog "_law_deep" (top 76) 520)::
 (nat_lit 525,co "_law_parts" 907 400 1 522 181 523 .none .none 524 910 911)::
 (nat_lit 526,fog "_law_parts" (top 77) 525)::
 (nat_lit 532,co "_law_drawn_term" 913 412 2 527 181 528 (.ref 529) (.ref 530) 531 921 922)::
 (nat_lit 533,fog "_law_drawn_term" (top 78) 532)::
 (nat_lit 539,co "_law_kind_text" 924 422 1 534 181 535 (.ref 536) (.ref 537) 538 932 933)::
 (nat_lit 540,fog "_law_kind_text" (top 79) 539)::
 (nat_lit 544,co "_law_text" 935 433 1 541 181 542 .none .none 543 938 939)::
 (nat_lit 545,fog "_law_text" (top 80) 544)::
 (nat_lit 549,co "_law_bad_term" 941 451 2 546 181 547 .none .none 548 944 945)::
 (nat_lit 550,fog "_law_bad_term" (top 81) 549)::
 (nat_lit 556,co "_law_marks" 947 479 1 551 181 552 (.ref 553) (.ref 554) 555 952 953)::
 (nat_lit 557,fog "_law_marks" (top 82) 556)::
 (nat_lit 561,co "_law_refused" 955 482 2 558 181 559 .none .none 560 958 959)::
 (nat_lit 562,fog "_law_refused" (top 83) 561)::
 (nat_lit 568,co "_law_odd" 961 484 1 563 181 564 (.ref 565) (.ref 566) 567 968 969)::
 (nat_lit 569,fog "_law_odd" (top 84) 568)::
 (nat_lit 575,co "_law_told" 971 500 2 570 181 571 (.ref 572) (.ref 573) 574 979 980)::
 (nat_lit 576,fog "_law_told" (top 85) 575)::
 (nat_lit 582,co "_law_spoilt" 982 511 2 577 181 578 (.ref 579) (.ref 580) 581 990 991)::
 (nat_lit 583,fog "_law_spoilt" (top 86) 582)::
 (nat_lit 589,co "_law_forty" 993 520 0 584 181 585 (.ref 586) (.ref 587) 588 1000 1001)::
 (nat_lit 590,fog "_law_forty" (top 87) 589)::
 (nat_lit 596,co "law" 1003 526 1 591 181 592 (.ref 593) (.ref 594) 595 1018 1019)::
 (nat_lit 597,fog "law" (top 88) 596)::
 []
noncomputable def KL:List Addr:=2::3::15::22::23::24::25::28::35::36::37::40::47::48::49::52::64::65::66::67::68::71::78::79::80::83::90::91::92::95::102::103::104::107::108::114::115::119::120::126::127::131::132::138::139::143::144::150::151::155::156::162::163::167::168::181::182::188::189::195::196::202::203::209::210::216::217::223::224::225::226::227::228::229::237::238::242::243::249::250::256::257::263::264::270::271::277::278::284::285::286::287::288::289::290::291::292::293::294::295::296::297::298::299::300::301::307::308::314::315::321::322::326::327::333::334::338::339::343::344::350::351::357::358::362::363::369::370::376::377::383::384::390::391::397::398::402::403::409::410::416::417::423::424::430::431::437::438::444::445::451::452::458::459::465::466::472::473::479::480::486::487::493::494::500::501::505::506::510::511::515::516::520::521::525::526::532::533::539::540::544::545::549::550::556::557::561::562::568::569::575::576::582::583::589::590::596::597::[]
theorem kfe(P:Params):KL=(KF P).map (·.1):=by kernel_rfl
section
open PySem.W
abbrev OE(w:World):=openEnds treeTable pwS w 8768
abbrev FS(s:Shared):=openSeen vwS ["LENGTHS","FORMS"] (importedModules pwS.main.body) (λs=>xlAt vwS [] s&&recOk (RowW.records rwS.row.toRowW) s) true s
abbrev OB(s:Shared):=(kHook KF KL kfe).obs s
abbrev VA(w:World):=(kHook KF KL kfe).val w
abbrev GD:=openGood vwS ["LENGTHS","FORMS"]
abbrev LB(w:World):Prop:=(OE w).map (λs=>(FS s,OB s))=some (GD,VA w)
theorem mpp{α β γ:Type}{o:Option α}{f:α->β}{g:α->γ}{a:β}{b:γ}(h1:o.map f=some a)(h2:o.map g=some b):o.map (λs=>(f s,g s))=some (a,b):=by
 cases o with
 | none=>cases h1
 | some s=>exact Qg some (Prod.ext (YE h1) (YE h2))
theorem mpl{α β γ:Type}{o:Option α}{f:α->β}{g:α->γ}{a:β}{b:γ}(h:o.map (λs=>(f s,g s))=some (a,b)):o.map f=some a:=by
 cases o with
 | none=>cases h
 | some s=>exact Qg some (Prod.ext_iff.mp (YE h)).1
theorem mpr{α β γ:Type}{o:Option α}{f:α->β}{g:α->γ}{a:β}{b:γ}(h:o.map (λs=>(f s,g s))=some (a,b)):o.map g=some b:=by
 cases o with
 | none=>cases h
 | some s=>exact Qg some (Prod.ext_iff.mp (YE h)).2
theorem mpb{α:Type}{o:Option α}{k a b c d e f:α->Bool}(h1:o.map k=some true)(h2:o.map (λs=>a s&&b s&&c s&&d s&&e s&&f s)=some true):o.map (λs=>k s&&a s&&b s&&c s&&d s&&e s&&f s)=some true:=by
 cases o with
 | none=>cases h1
 | some s =>
  have x:k s=true:=YE h1;have y:(a s&&b s&&c s&&d s&&e s&&f s)=true:=YE h2;refine Qg some ?_;show(k s&&a s&&b s&&c s&&d s&&e s&&f s)=true;rw[x];exact y
def topRunT(tb:String->Option Builtin)(p:Program)(w:World)(n0:Nat)(ann:Option Value):Nat->SharedT->Thread->Option SharedT
 | 0,_,_=>none
 | n+1,s,t=>match through t with
  | true=>some s
  | false=>match stepOk n0 ann t with
   | false=>none
   | true=>match stepT (denote tb) p w s t with
    | some (s',t')=>topRunT tb p w n0 ann n s' t'
    | none=>none
theorem topRun_of{tb:String->Option Builtin}{p:Program}{w:World}{n0:Nat}{ann:Option Value}:∀{n:Nat}{s s':SharedT}{t:Thread},topRunT tb p w n0 ann n s t=some s'->topRun tb p w n0 ann n s.abs t=some s'.abs
 | 0,_,_,_,h=>by cases h
 | n+1,s,s',t,h=>by
  unfold topRunT at h
  unfold topRun
  cases he:through t with
  | true=>rw[he] at h;cases h;rfl
  | false=>
   rw[he] at h
   cases hk:stepOk n0 ann t with
   | false=>rw[hk] at h;cases h
   | true=>
    rw[hk] at h
    cases hs:stepT (denote tb) p w s t with
    | none=>rw[hs] at h;cases h
    | some r=>obtain ⟨s2,t2⟩:=r;rw[hs] at h;rw[stepT_spec hs];exact topRun_of h
def insAll:List Obj->BT->Nat->Option BT
 | [],t,_=>some t
 | o::l,t,n=>match ((t.ins n o).get n).isSome with
  | true=>insAll l (t.ins n o) (n+1)
  | false=>none
theorem insAll_of{life:Life}:∀(l:List Obj)(t:BT)(n:Nat)(t':BT),insAll l t n=some t'->absHeap t' (n+l.length) life=⟨(absHeap t n life).objs++l.toArray,life⟩
 | [],t,n,t',h=>by
  have h:some t=some t':=h
  cases h
  show absHeap t n life=_
  rw[Array.append_empty];rfl
 | o::l,t,n,t',h=>by
  unfold insAll at h
  cases hs:((t.ins n o).get n).isSome with
  | false=>rw[hs] at h;cases h
  | true=>
   rw[hs] at h
   have e:=insAll_of (life:=life) l _ _ _ h
   rw[List.length_cons,show n+(l.length+1)=n+1+l.length by omega,e,absHeap_ins hs]
   show Heap.mk ((absHeap t n life).objs.push o++l.toArray) life=_
   congr 1
   apply Array.ext'
   simp
def topFromT(tb:String->Option Builtin)(p:Program)(w:World)(N:Nat)(s:Shared):Option SharedT:=match s.heap.isNs mainGlobals&&s.gens.size==0 with
 | true=>(insAll s.heap.objs.toList .nil 0).bind λt=>(topRunT tb p w s.heap.objs.size (s.heap.nsMap mainGlobals "__annotations__") N ⟨t,s.heap.objs.size,s.heap.life,s.gens,s.drawn,s.toks,s.os⟩ (topStub p)).bind λs1=>match staticsOk (importedModules p.main.body) s.heap s1.abs.heap&&namesBound p s1.abs.heap&&gensDone s1.abs&&laidKept s.heap s1.abs.heap with
  | true=>some s1
  | false=>none
 | false=>none
theorem topFrom_of{tb:String->Option Builtin}{p:Program}{w:World}{N:Nat}{s:Shared}{s1:SharedT}(h:topFromT tb p w N s=some s1):topFrom tb p w N s=some s1.abs:=by
 unfold topFromT at h
 unfold topFrom
 cases h0:(s.heap.isNs mainGlobals&&s.gens.size==0) with
 | false=>rw[h0] at h;cases h
 | true=>
  rw[h0] at h
  obtain ⟨t,h1,h2⟩:=Option.bind_eq_some_iff.mp h
  obtain ⟨s2,h3,h4⟩:=Option.bind_eq_some_iff.mp h2
  have e:=insAll_of (life:=s.heap.life) _ _ _ _ h1
  have e2:(SharedT.mk t s.heap.objs.size s.heap.life s.gens s.drawn s.toks s.os).abs=s:=by
   rw[Nat.zero_add,Array.length_toList] at e
   show Shared.mk (absHeap t s.heap.objs.size s.heap.life) _ _ _ _=_
   rw[e]
   obtain ⟨⟨objs,life⟩,g,d,k,os⟩:=s
   show Shared.mk ⟨#[]++objs.toList.toArray,life⟩ g d k os=_
   simp
  have r:=topRun_of h3
  rw[e2] at r
  show (topRun tb p w _ _ N s (topStub p)).bind _=_
  rw[r]
  show (match staticsOk (importedModules p.main.body) s.heap s2.abs.heap&&namesBound p s2.abs.heap&&gensDone s2.abs&&laidKept s.heap s2.abs.heap with
   | true=>some s2.abs
   | false=>none)=_
  cases h5:(staticsOk (importedModules p.main.body) s.heap s2.abs.heap&&namesBound p s2.abs.heap&&gensDone s2.abs&&laidKept s.heap s2.abs.heap) with
  | false=>rw[h5] at h4;cases h4
  | true=>rw[h5] at h4;cases h4;rfl
def openEndsT(tb:String->Option Builtin)(p:Program)(w:World)(N:Nat):Option SharedT:=(fencedOpening tb p w N).bind (topFromT tb p w N)
theorem openT_of{tb:String->Option Builtin}{p:Program}{w:World}{N:Nat}{α:Type}{f:Shared->α}{v:α}(h:(openEndsT tb p w N).map (λs=>f s.abs)=some v):(openEnds tb p w N).map f=some v:=by
 obtain ⟨s,h1,h2⟩:=Option.map_eq_some_iff.mp h
 obtain ⟨s0,h3,h4⟩:=Option.bind_eq_some_iff.mp h1
 unfold openEnds
 rw[h3]
 show (topFrom tb p w N s0).map f=_
 rw[topFrom_of h4]
 exact congrArg some h2
theorem aC9T(w:World):(openEndsT treeTable pwS (w.withFollow "special-get-raises" false) 8768).map (λs=>(λs:Shared=>OB s) s.abs)=some (VA (w.withFollow "special-get-raises" false)):=by kernel_rfl
theorem aC(w:World):(OE (w.withFollow "special-get-raises" false)).map (λs=>OB s)=some (VA (w.withFollow "special-get-raises" false)):=openT_of (aC9T w)
theorem aD9T(w:World):(openEndsT treeTable pwS (w.withFollow "special-get-raises" false) 8768).map (λs=>(λs:Shared=>seen ((recsOf vwS).map (·.name)) (ownsOf vwS) [] {s with gens:=#[]}) s.abs)=some (expectedOf vwS):=by kernel_rfl
theorem aD(w:World):(OE (w.withFollow "special-get-raises" false)).map (λs=>seen ((recsOf vwS).map (·.name)) (ownsOf vwS) [] {s with gens:=#[]})=some (expectedOf vwS):=openT_of (aD9T w)
theorem P89T(w:World):(openEndsT treeTable pwS (w.withFollow "special-get-raises" false) 8768).map (λs=>(λs:Shared=>(s.heap.bltView,tabsOk vwS s)) s.abs)=some ((bltViewBooted,true)):=by kernel_rfl
theorem P8(w:World):(OE (w.withFollow "special-get-raises" false)).map (λs=>(s.heap.bltView,tabsOk vwS s))=some ((bltViewBooted,true)):=openT_of (P89T w)
theorem aE9T(w:World):(openEndsT treeTable pwS (w.withFollow "special-get-raises" false) 8768).map (λs=>(λs:Shared=>s.heap.keysOk (looseW vwS ["LENGTHS","FORMS"]) ((recsOf vwS).map (·.name)) ((litsOf vwS).map (·.1)) ((clssOf vwS (looseW vwS ["LENGTHS","FORMS"])).map (·.name))) s.abs)=some (true):=by kernel_rfl
theorem aE(w:World):(OE (w.withFollow "special-get-raises" false)).map (λs=>s.heap.keysOk (looseW vwS ["LENGTHS","FORMS"]) ((recsOf vwS).map (·.name)) ((litsOf vwS).map (·.1)) ((clssOf vwS (looseW vwS ["LENGTHS","FORMS"])).map (·.name)))=some (true):=openT_of (aE9T w)
theorem aF9T(w:World):(openEndsT treeTable pwS (w.withFollow "special-get-raises" false) 8768).map (λs=>(λs:Shared=>s.heap.accountedOkI (importedModules pwS.main.body)&&s.heap.isNs mainGlobals&&s.heap.isNs builtinsNs&&tablesOk vwS s.heap&&(xlAt vwS [] s&&recOk (RowW.records rwS.row.toRowW) s)&&(s.gens.size==0)) s.abs)=some (true):=by kernel_rfl
theorem aF(w:World):(OE (w.withFollow "special-get-raises" false)).map (λs=>s.heap.accountedOkI (importedModules pwS.main.body)&&s.heap.isNs mainGlobals&&s.heap.isNs builtinsNs&&tablesOk vwS s.heap&&(xlAt vwS [] s&&recOk (RowW.records rwS.row.toRowW) s)&&(s.gens.size==0))=some (true):=openT_of (aF9T w)
theorem aG9T(w:World):(openEndsT treeTable pwS (w.withFollow "special-get-raises" false) 8768).map (λs=>(λs:Shared=>(pinSeenD vwS (drecsOf vwS) s,plainSeenE vwS (looseW vwS ["LENGTHS","FORMS"]) s,plainSeenD vwS ["LENGTHS","FORMS"] s,wideSeen vwS s,clsSeenW vwS ["LENGTHS","FORMS"] s)) s.abs)=some ((pinGoodD (drecsOf vwS),plainGoodE vwS (looseW vwS ["LENGTHS","FORMS"]),plainGoodD vwS ["LENGTHS","FORMS"],wideGood vwS,clsGoodW vwS ["LENGTHS","FORMS"])):=by kernel_rfl
theorem aG(w:World):(OE (w.withFollow "special-get-raises" false)).map (λs=>(pinSeenD vwS (drecsOf vwS) s,plainSeenE vwS (looseW vwS ["LENGTHS","FORMS"]) s,plainSeenD vwS ["LENGTHS","FORMS"] s,wideSeen vwS s,clsSeenW vwS ["LENGTHS","FORMS"] s))=some ((pinGoodD (drecsOf vwS),plainGoodE vwS (looseW vwS ["LENGTHS","FORMS"]),plainGoodD vwS ["LENGTHS","FORMS"],wideGood vwS,clsGoodW vwS ["LENGTHS","FORMS"])):=openT_of (aG9T w)
theorem lbf(w:World):LB (w.withFollow "special-get-raises" false):=mpp (mpp (aD w) (mpp (mpl (P8 w)) (mpp (mpb (aE w) (aF w)) (mpp (mpr (P8 w)) (aG w))))) (aC w)
theorem aH9T(w:World):(openEndsT treeTable pwS (w.withFollow "special-get-raises" true) 8768).map (λs=>(λs:Shared=>OB s) s.abs)=some (VA (w.withFollow "special-get-raises" true)):=by kernel_rfl
theorem aH(w:World):(OE (w.withFollow "special-get-raises" true)).map (λs=>OB s)=some (VA (w.withFollow "special-get-raises" true)):=openT_of (aH9T w)
theorem aI9T(w:World):(openEndsT treeTable pwS (w.withFollow "special-get-raises" true) 8768).map (λs=>(λs:Shared=>seen ((recsOf vwS).map (·.name)) (ownsOf vwS) [] {s with gens:=#[]}) s.abs)=some (expectedOf vwS):=by kernel_rfl
theorem aI(w:World):(OE (w.withFollow "special-get-raises" true)).map (λs=>seen ((recsOf vwS).map (·.name)) (ownsOf vwS) [] {s with gens:=#[]})=some (expectedOf vwS):=openT_of (aI9T w)
theorem P99T(w:World):(openEndsT treeTable pwS (w.withFollow "special-get-raises" true) 8768).map (λs=>(λs:Shared=>(s.heap.bltView,tabsOk vwS s)) s.abs)=some ((bltViewBooted,true)):=by kernel_rfl
theorem P9(w:World):(OE (w.withFollow "special-get-raises" true)).map (λs=>(s.heap.bltView,tabsOk vwS s))=some ((bltViewBooted,true)):=openT_of (P99T w)
theorem aJ9T(w:World):(openEndsT treeTable pwS (w.withFollow "special-get-raises" true) 8768).map (λs=>(λs:Shared=>s.heap.keysOk (looseW vwS ["LENGTHS","FORMS"]) ((recsOf vwS).map (·.name)) ((litsOf vwS).map (·.1)) ((clssOf vwS (looseW vwS ["LENGTHS","FORMS"])).map (·.name))) s.abs)=some (true):=by kernel_rfl
theorem aJ(w:World):(OE (w.withFollow "special-get-raises" true)).map (λs=>s.heap.keysOk (looseW vwS ["LENGTHS","FORMS"]) ((recsOf vwS).map (·.name)) ((litsOf vwS).map (·.1)) ((clssOf vwS (looseW vwS ["LENGTHS","FORMS"])).map (·.name)))=some (true):=openT_of (aJ9T w)
theorem aK9T(w:World):(openEndsT treeTable pwS (w.withFollow "special-get-raises" true) 8768).map (λs=>(λs:Shared=>s.heap.accountedOkI (importedModules pwS.main.body)&&s.heap.isNs mainGlobals&&s.heap.isNs builtinsNs&&tablesOk vwS s.heap&&(xlAt vwS [] s&&recOk (RowW.records rwS.row.toRowW) s)&&(s.gens.size==0)) s.abs)=some (true):=by kernel_rfl
theorem aK(w:World):(OE (w.withFollow "special-get-raises" true)).map (λs=>s.heap.accountedOkI (importedModules pwS.main.body)&&s.heap.isNs mainGlobals&&s.heap.isNs builtinsNs&&tablesOk vwS s.heap&&(xlAt vwS [] s&&recOk (RowW.records rwS.row.toRowW) s)&&(s.gens.size==0))=some (true):=openT_of (aK9T w)
theorem aM9T(w:World):(openEndsT treeTable pwS (w.withFollow "special-get-raises" true) 8768).map (λs=>(λs:Shared=>(pinSeenD vwS (drecsOf vwS) s,plainSeenE vwS (looseW vwS ["LENGTHS","FORMS"]) s,plainSeenD vwS ["LENGTHS","FORMS"] s,wideSeen vwS s,clsSeenW vwS ["LENGTHS","FORMS"] s)) s.abs)=some ((pinGoodD (drecsOf vwS),plainGoodE vwS (looseW vwS ["LENGTHS","FORMS"]),plainGoodD vwS ["LENGTHS","FORMS"],wideGood vwS,clsGoodW vwS ["LENGTHS","FORMS"])):=by kernel_rfl
theorem aM(w:World):(OE (w.withFollow "special-get-raises" true)).map (λs=>(pinSeenD vwS (drecsOf vwS) s,plainSeenE vwS (looseW vwS ["LENGTHS","FORMS"]) s,plainSeenD vwS ["LENGTHS","FORMS"] s,wideSeen vwS s,clsSeenW vwS ["LENGTHS","FORMS"] s))=some ((pinGoodD (drecsOf vwS),plainGoodE vwS (looseW vwS ["LENGTHS","FORMS"]),plainGoodD vwS ["LENGTHS","FORMS"],wideGood vwS,clsGoodW vwS ["LENGTHS","FORMS"])):=openT_of (aM9T w)
theorem lbt(w:World):LB (w.withFollow "special-get-raises" true):=mpp (mpp (aI w) (mpp (mpl (P9 w)) (mpp (mpb (aJ w) (aK w)) (mpp (mpr (P9 w)) (aM w))))) (aH w)
end
end KZ
namespace L2
open PySem PySem.Spec PyProof.Rows
abbrev Key:=Sum Int Str
def GB:Key->Value->Bool
 | .inl k,v=>Value.isInt k v
 | .inr x,v=>Value.isStrOf x v
def aN(w:World):Key->Int
 | .inl k=>hashInt k
 | .inr x=>hashStr w x
theorem Eo:∀{k:Key}{v:Value},GB k v=true->(∃ i t,k=Sum.inl i/\v=Value.int i t)\/(∃ x t,k=Sum.inr x/\v=Value.str x t)
 | .inl i,v,h=>by
  obtain⟨t,e⟩:=Value.isInt_shape h;exact .inl ⟨i,t,rfl,e⟩
 | .inr x,v,h=>by
  obtain⟨t,e⟩:=Value.isStrOf_shape h;exact .inr ⟨x,t,rfl,e⟩
theorem aO(x:Str)(t:Tok):GB (.inr x) (.str x t)=true:=by simp[GB,Value.isStrOf]
theorem aP(a b:Int):decide ((Sum.inl a:Key)=Sum.inl b)=(a==b):=by
 by_cases e:a=b
 ·subst e;simp
 ·have h:¬ (Sum.inl a:Key)=Sum.inl b:=λq=>e (Sum.inl.inj q);rw[Qi h];exact(beq_eq_false_iff_ne.mpr e).symm
theorem aQ(a b:Str):decide ((Sum.inr a:Key)=Sum.inr b)=decide (a=b):=by
 by_cases e:a=b
 ·simp
 ·have h:¬ (Sum.inr a:Key)=Sum.inr b:=λq=>e (Sum.inr.inj q);rw[Qi h,Qi e]
theorem aS(a:Int)(b:Str):decide ((Sum.inl a:Key)=Sum.inr b)=false:=Qi (λq=>nomatch q)
theorem aT(a:Str)(b:Int):decide ((Sum.inr a:Key)=Sum.inl b)=false:=Qi (λq=>nomatch q)
def CJ(prog:Program)(w:World):PySem.KeyKind prog w Key where
 is:=GB
 hash:=aN w
 inj:=λv a b ha hb=>by
  rcases Eo ha with⟨i,t,rfl,rfl⟩|⟨x,t,rfl,rfl⟩
  ·rcases Eo hb with⟨j,u,rfl,e⟩|⟨y,u,rfl,e⟩
   ·injection e with e1 _;rw[e1]
   ·exact nomatch e
  ·rcases Eo hb with⟨j,u,rfl,e⟩|⟨y,u,rfl,e⟩
   ·exact nomatch e
   ·injection e with e1 _;rw[e1]
 byValue:=λk v h=>by
  rcases Eo h with⟨i,t,rfl,rfl⟩|⟨x,t,rfl,rfl⟩ <;> rfl
 pyHash:=λhv h=>by
  rcases Eo hv with⟨i,t,rfl,rfl⟩|⟨x,t,rfl,rfl⟩
  ·exact wpAny_pyHash_int h
  ·exact wpAny_pyHash_str h
 eqBool:=λhu hv h=>by
  rcases Eo hu with⟨i,t,rfl,rfl⟩|⟨x,t,rfl,rfl⟩
  ·rcases Eo hv with⟨j,u,rfl,rfl⟩|⟨y,u,rfl,rfl⟩
   ·rw[aP]at h;exact wpAny_eqBool_int h
   ·rw[aS]at h;exact SeqAt.EqAt.int_str i t y u _ _ _ _ h
  ·rcases Eo hv with⟨j,u,rfl,rfl⟩|⟨y,u,rfl,rfl⟩
   ·rw[aT]at h;exact SeqAt.EqAt.str_int x t j u _ _ _ _ h
   ·rw[aQ]at h;exact wpAny_eqBool_str h
 «strs»:=λk x t v h=>by
  rcases Eo h with⟨i,u,rfl,e⟩|⟨y,u,rfl,e⟩
  ·exact nomatch e
  ·injection e with e1 _
   subst e1
   cases v <;> rfl
theorem aU(prog:Program)(w:World)(x:Str)(t:Tok):(CJ prog w).is (.inr x) (.str x t)=true:=aO x t
inductive V where
 | non | bl (b:Bool)| int (i:Int)| str (x:Str)| byt (b:Array UInt8)| flt (b:UInt64)| ref (a:Addr)| ty (n:String)
 deriving DecidableEq
def RelV:V->Value->Prop
 | .non,u=>u=Value.none
 | .bl b,u=>u=Value.bool b
 | .int i,u=>∃ t,u=Value.int i t
 | .str x,u=>∃ t,u=Value.str x t
 | .byt b,u=>∃ t,u=Value.bytes b t
 | .flt b,u=>∃ t,u=Value.float b t
 | .ref a,u=>u=Value.ref a
 | .ty n,u=>u=Value.type n
abbrev Vals:List V->List Value->Prop:=Paired RelV
theorem Vals.length(r:Vals xs us):xs.length=us.length:=Paired.length r
theorem Vals.get:∀{xs:List V}{us:List Value}{i:Nat}{x:V},Vals xs us->xs[i]?=some x->∃ u,us[i]?=some u/\RelV x u
 | _,_,_,_,.nil,e=>by simp at e
 | _,_,0,_,.cons r _,e=>by simp at e;subst e;exact⟨_,rfl,r⟩
 | _,_,i+1,x,.cons _ t,e=>by
  obtain⟨u,h1,h2⟩:=Vals.get t (by simpa using e);exact⟨u,by simpa using h1,h2⟩
theorem Vals.set(r:RelV x u):∀{xs:List V}{us:List Value}(i:Nat),Vals xs us->Vals (xs.set i x) (us.set i u)
 | _,_,_,.nil=>.nil
 | _,_,0,.cons _ t=>.cons r t
 | _,_,i+1,.cons q t=>.cons q (Vals.set r i t)
theorem Vals.append:∀{xs ys:List V}{us a:List Value},Vals xs us->Vals ys a->Vals (xs++ys) (us++a)
 | _,_,_,_,.nil,s=>s
 | _,_,_,_,.cons r t,s=>.cons r (Vals.append t s)
theorem Vals.take:∀{xs:List V}{us:List Value}(n:Nat),Vals xs us->Vals (xs.take n) (us.take n)
 | _,_,0,_|_,_,_+1,.nil=>.nil
 | _,_,n+1,.cons r t=>.cons r (Vals.take n t)
theorem Vals.drop:∀{xs:List V}{us:List Value}(n:Nat),Vals xs us->Vals (xs.drop n) (us.drop n)
 | _,_,0,r=>r
 | _,_,_+1,.nil=>.nil
 | _,_,n+1,.cons _ t=>Vals.drop n t
theorem Vals.none_of:∀{xs:List V}{us:List Value}{i:Nat},Vals xs us->xs[i]?=none->us[i]?=none:=λ{xs us i}r e=>by
 have h1:=r.length;have h2:=List.getElem?_eq_none_iff.mp e;exact List.getElem?_eq_none_iff.mpr (by lia)
def RelO:Option V->Option Value->Prop
 | some v,some u=>RelV v u
 | none,none=>True
 | _,_=>False
def KV{κ:Type}:List (κ×V)->List (κ×Value)->Prop:=Paired λ(p:κ×V)(q:κ×Value)=>p.1=q.1/\RelV p.2 q.2
def kV:Key->V
 | .inl i=>.int i
 | .inr x=>.str x
inductive HO where
 | lst (xs:List V)
 | tup (xs:List V)
 | dK (kvs:List (Key×V))| dT (kvs:List (List Key×V))
 | set (S:Int->Bool) (n:Nat)
 | ins (C dx:Addr) (fs:List (Str×V))
 | own (x:Addr)
 | xd (fs:List (Str×V))
 | met (f x:Addr)
 | rng (lo hi:Int)
 | frz (o:Obj) (u:HO)
 | tbl (ps:Array Value)
 | ext (φ:Heap->Prop)
abbrev Hp:=Addr->Option HO
def upd(H:Hp)(a:Addr)(o:HO):Hp:=λb=>if b=a then some o else H b
theorem B4:upd H a o a=some o:=by unfold upd;rw[if_pos rfl]
theorem A5(h:b≠a):upd H a o b=H b:=by unfold upd;rw[if_neg h]
theorem FM{H:Hp}(h:H a=some o)(h':H b=none):a≠b:=by
 intro e;subst e;rw[h]at h';cases h'
def TupP(h:Heap)(a:Addr)(items:Array Value):Prop:=∃ o,h.get? a=some o/\o.cls=.type "tuple"/\o.dict=none/\∃ n,o.data=.seq items n
theorem TupP.new(h:Heap)(a:Array Value):TupP (h.push {cls:=.type "tuple",data:=.seq a}) h.objs.size a:=⟨_,Qo _ rfl,rfl,rfl,_,rfl⟩
theorem TupP.up(x:TupP h a b):IsTup h a b:=let⟨o,e,c,_,d⟩:=x;⟨o,e,c,d⟩
section
variable (P:Program)(w:World)
def ObjOk(H:Hp)(h:Heap)(a:Addr):HO->Prop
 | .lst xs=>xs.length<=sizeLine/\∃(its:List Value)(n:Nat),Vals xs its/\h.get? a=some {cls:=.type "list",data:=.seq its.toArray n}
 | .tup xs=>xs.length<=sizeLine/\∃ its:List Value,Vals xs its/\TupP h a its.toArray
 | .dK kvs=>kvs.length<=sizeLine/\(a==sysModules)=false/\∃ vs,KV kvs vs/\h.DictOf (CJ P w) a vs
 | .dT kvs=>kvs.length<=sizeLine/\(a==sysModules)=false/\∃ xs:List (List Key×Addr×Value),
   Paired (λ(p:List Key×V)(q:List Key×Addr×Value)=>p.1=q.1/\H q.2.1=some (.tup (p.1.map kV))/\RelV p.2 q.2.2) kvs xs/\
   ∃ o es ep,h.get? a=some o/\o.ExactDict/\o.data=.dict es ep/\es.toList=xs.map (entryOfKey (tupleKind (CJ P w)))/\(xs.map (·.1)).Nodup
 | .set S n=>h.SetOf (intKind P w) a S n
 | .ins C dx fs=>H dx=some (.own a)/\fs.length<=1000/\dx≠a/\h.get? a=some (PySem.W.instObj C dx)/\
   ∃ mA,h.Ns1 dx mA/\(∀ f,RelO (fs.lookup f) (mA f))/\PySem.Within mA (fs.map (·.1))
 | .own _=>∃ o,h.get? a=some o
 | .xd fs=>∃ mA,h.Ns1 a mA/\∀ f,RelO (fs.lookup f) (mA f)
 | .rng lo hi=>∃ t u v,h.get? a=some {cls:=.type "range",data:=.fields #[.int lo t,.int hi u,.int 1 v]}
 | .frz o u=>h.get? a=some o/\ObjOk H h a u
 | .tbl ps=>h.get? a=some {cls:=.none,data:=.fields ps}
 | .met f x=>h.get? a=some (PySem.W.methodObj (.ref f) (.ref x))
 | .ext φ=>φ h/\(∃ o,h.get? a=some o)/\∀ h1 h2:Heap,φ h1->(∀ o,h1.get? a=some o->h2.get? a=some o)->φ h2
def HOk(H:Hp)(h:Heap):Prop:=∀ a o,H a=some o->ObjOk P w H h a o
end
theorem ObjOk.lt(x:ObjOk P w H h a o):a < h.objs.size:=by
 cases o with
 | lst xs=>obtain⟨_,_,_,_,e⟩:=x;exact Qn e
 | tup xs=>obtain⟨_,_,_,p⟩:=x;exact p.up.lt
 | dK b|dT b=>obtain⟨_,_,_,_,o,_,_,e,_⟩:=x;exact Qn e
 | set S n=>obtain⟨o,_,_,_,e,_⟩:=x;exact Qn e
 | ins C dx fs=>obtain⟨_,_,_,e,_⟩:=x;exact Qn e
 | own y=>obtain⟨_,e⟩:=x;exact Qn e
 | xd fs=>obtain⟨_,⟨_,_,_,e,_⟩,_⟩:=x;exact Qn e
 | rng lo hi=>obtain⟨_,_,_,e⟩:=x;exact Qn e
 | frz c u=>obtain⟨e,_⟩:=x;exact Qn e
 | tbl ps|met f y=>exact Qn (x)
 | ext φ=>obtain⟨_,⟨_,e⟩,_⟩:=x;exact Qn e
variable {a:Addr} in
theorem Paired.mapP{α β:Type}{F G:α->β->Prop}:∀{d:List α}{c:List β},Paired F d c->(∀ a b,F a b->G a b)->Paired G d c
 | _,_,.nil,_=>.nil
 | _,_,.cons r t,f=>.cons (f _ _ r) (Paired.mapP t f)
theorem ObjOk.stay(x:ObjOk P w H h a o)(k:∀ b u,(b=a\/H b=some (.own a))->h.get? b=some u->h'.get? b=some u)(A:∀ b,H b=some (.own a)->H' b=some (.own a))(D:∀ b xs,H b=some (.tup xs)->H' b=some (.tup xs)):ObjOk P w H' h' a o:=by
 induction o with
 | lst xs=>obtain⟨z,j,n,r,e⟩:=x;exact⟨z,j,n,r,k _ _ (.inl rfl) e⟩
 | tup xs=>obtain⟨z,j,r,g,e,c⟩:=x;exact⟨z,j,r,g,k _ _ (.inl rfl) e,c⟩
 | dK l=>obtain⟨z,y,vs,r,g,es,i,e,c⟩:=x;exact⟨z,y,vs,r,g,es,i,k _ _ (.inl rfl) e,c⟩
 | dT l =>
  obtain⟨z,y,xs,r,g,es,i,e,c⟩:=x;exact⟨z,y,xs,Paired.mapP r λp q z=>⟨z.1,D _ _ z.2.1,z.2.2⟩,g,es,i,k _ _ (.inl rfl) e,c⟩
 | set S n=>obtain⟨g,es,i,t,e,c⟩:=x;exact⟨g,es,i,t,k _ _ (.inl rfl) e,c⟩
 | ins C dx fs =>
  obtain⟨d,z,ne,e,mA,⟨m,es,i,s,c⟩,r⟩:=x;exact⟨A _ d,z,ne,k _ _ (.inl rfl) e,mA,⟨m,es,i,k _ _ (.inr d) s,c⟩,r⟩
 | own y=>obtain⟨g,e⟩:=x;exact⟨g,k _ _ (.inl rfl) e⟩
 | xd fs=>obtain⟨mA,⟨m,es,i,e,c⟩,r⟩:=x;exact⟨mA,⟨m,es,i,k _ _ (.inl rfl) e,c⟩,r⟩
 | rng lo hi=>obtain⟨t,u,v,e⟩:=x;exact⟨t,u,v,k _ _ (.inl rfl) e⟩
 | frz g u B=>obtain⟨e,q⟩:=x;exact⟨k _ _ (.inl rfl) e,B q⟩
 | tbl ps|met f y=>
  have e:=x;exact k a _ (.inl rfl) e
 | ext φ=>obtain⟨p,⟨o,e⟩,st⟩:=x;exact⟨st _ _ p λo q=>k _ _ (.inl rfl) q,⟨o,k _ _ (.inl rfl) e⟩,st⟩
theorem HOk.lt(x:HOk P w H h)(e:H a=some o):a < h.objs.size:=(x a o e).lt
theorem HOk.fresh{a:Addr}(x:HOk P w H h)(e:h.objs.size<=a):H a=none:=by
 cases q:H a with
 | none=>rfl
 | some u=>exact Qj (Yu (x.lt q) e) (YJ _)
theorem HOk.kept(x:HOk P w H h)(k:∀ b u,h.get? b=some u->h'.get? b=some u):HOk P w H h':=λa o e=>
 (x a o e).stay (λb u _ q=>k b u q) (λ_ q=>q) λ_ _ q=>q
theorem HOk.laid{a:Addr}(x:HOk P w H h)(k:∀ b u,h.get? b=some u->h'.get? b=some u)(g:h.objs.size<=a)(new:ObjOk P w (upd H a o) h' a o):HOk P w (upd H a o) h':=λb u e=>by
 have f:=x.fresh g;by_cases d:b=a
 ·subst d;rw[B4]at e;cases e;exact new
 ·rw[A5 d]at e;exact(x b u e).stay (λc v _ q=>k c v q) (λc q=>by rw[A5 (FM q f)];exact q) λc xs q=>by rw[A5 (FM q f)];exact q
def Rd(H:Hp)(a:Addr)(u:HO):Prop:=H a=some u\/∃ o,H a=some (.frz o u)
theorem Rd.of(h:H a=some u):Rd H a u:=.inl h
theorem Rd.ok(r:Rd H a u)(x:HOk P w H h):ObjOk P w H h a u:=by
 rcases r with r |⟨o,r⟩
 ·exact x a u r
 ·obtain⟨_,q⟩:=x a _ r;exact q
def Mut:Option HO->Prop
 | some (.lst _)|some (.dK _)|some (.dT _)|some (.set _ _)|some (.ins _ _ _)|some (.ext _)=>True
 | _=>False
theorem HOk.write(ok:HOk P w H h)(i:Mut (H x))(m:e=x\/H e=some (.own x))(k:∀ b u,b≠e->h.get? b=some u->h'.get? b=some u)(j:∃ u,h'.get? e=some u)(new:ObjOk P w (upd H x o') h' x o'):HOk P w (upd H x o') h':=λb u q=>by
 have d:∀ c y,H c=some (.own y)->c≠x:=λc y r z=>by subst z;rw[r]at i;exact i
 have f:∀ c xs,H c=some (.tup xs)->c≠x:=λc xs r z=>by subst z;rw[r]at i;exact i
 by_cases g:b=x
 ·subst g;rw[B4]at q;cases q;exact new
 ·rw[A5 g]at q;by_cases a:b=e
  ·have l:H b=some (.own x):=by
    rcases m with z | z
    ·exact Qj (a.trans z) g
    ·rw[a];exact z
   rw[q]at l;cases l;obtain⟨v,n⟩:=j;exact⟨v,by rw[a];exact n⟩
  ·refine(ok b u q).stay (λc v hc r=>k c v ?_ r) (λc r=>by rw[A5 (d c b r)];exact r) λc xs r=>by rw[A5 (f c xs r)];exact r
   rcases hc with rfl | hc
   ·exact a
   ·rintro rfl;rcases m with z | z
    ·exact d c b hc z
    ·rw[hc]at z;cases z;exact g rfl
structure Un(fs ex:List Addr)(H H':Hp)(h h':Heap):Prop where
 keep:∀ b o,h.get? b=some o->H b=none->b∉fs->b∉ex->h'.get? b=some o
 slot:∀ b o,h.get? b=some o->H b=none->b∈fs->b∉ex->∃ sl,h'.get? b=some {o with slots:=sl}
 free:∀ b o,h.get? b=some o->H b=none->b∉ex->H' b=none
 there:∀ b o,h.get? b=some o->b∉ex->∃ o',h'.get? b=some o'
 tups:∀ b xs,H b=some (.tup xs)->H' b=some (.tup xs)
 frzs:∀ b o u,H b=some (.frz o u)->H' b=some (.frz o u)
 tbls:∀ b ps,H b=some (.tbl ps)->∃ more,H' b=some (.tbl (ps++more))
theorem Un.any(u:Un fs ex H H1 h h1)(q:h.get? b=some a)(n:H b=none)(d:b∉ex):∃ e,h1.get? b=some {a with slots:=e}:=by
 by_cases c:b∈fs
 ·exact u.slot b a q n c d
 ·exact⟨a.slots,u.keep b a q n c d⟩
theorem Un.trans(a:Un fs ex H H1 h h1)(b:Un fs ex H1 H2 h1 h2):Un fs ex H H2 h h2 where
 keep:=λc d q n hc e=>b.keep c d (a.keep c d q n hc e) (a.free c d q n e) hc e
 slot:=λc d q n hc e=>by
  obtain⟨l,f⟩:=a.slot c d q n hc e;obtain⟨i,g⟩:=b.slot c _ f (a.free c d q n e) hc e;exact⟨i,g⟩
 free:=λc d q n e=>by
  obtain⟨o',f⟩:=a.there c d q e;exact b.free c o' f (a.free c d q n e) e
 there:=λc d q e=>by
  obtain⟨o',f⟩:=a.there c d q e;exact b.there c o' f e
 tups:=λc xs q=>b.tups c xs (a.tups c xs q)
 frzs:=λc d xs q=>b.frzs c d xs (a.frzs c d xs q)
 tbls:=λc ps q=>by
  obtain⟨k,f⟩:=a.tbls c ps q;obtain⟨j,g⟩:=b.tbls c _ f;exact⟨k++j,by rw[g,Array.append_assoc]⟩
theorem Un.kept(k:∀ b u,h.get? b=some u->h'.get? b=some u):Un fs ex H H h h' :=
 ⟨λb a q _ _ _=>k b a q,λb a q _ _ _=>⟨a.slots,k b a q⟩,λ_ _ _ n _=>n,λb a q _=>⟨a,k b a q⟩,λ_ _ q=>q,λ_ _ _ q=>q,λ_ ps q=>⟨#[],by rw[q];simp⟩⟩
theorem Un.refl:Un fs ex H H h h:=Un.kept λ_ _ q=>q
theorem Un.laid{h:Heap}{a:Addr}(k:∀ b u,h.get? b=some u->h'.get? b=some u)(d:h.objs.size<=a)(c:H a=none):Un fs ex H (upd H a o) h h' where
 keep:=λb u q _ _ _=>k b u q
 slot:=λb u q _ _ _=>⟨u.slots,k b u q⟩
 free:=λb u q n _=>by rw[A5 (Ys (Yu (Qn q) d))];exact n
 there:=λb u q _=>⟨u,k b u q⟩
 tups:=λb xs q=>by rw[A5 (FM q c)];exact q
 frzs:=λb u xs q=>by rw[A5 (FM q c)];exact q
 tbls:=λb ps q=>⟨#[],by rw[A5 (FM q c),q];simp⟩
theorem Un.write(c:Mut (H x))(j:e=x\/H e=some (.own x))(k:∀ b u,b≠e->h.get? b=some u->h'.get? b=some u)(f:∃ u,h'.get? e=some u):Un fs ex H (upd H x o) h h':=by
 have i:∀ b,H b=none->b≠x:=λb n z=>by subst z;rw[n]at c;exact c
 have g:∀ b,H b=none->b≠e:=λb n z=>by
  subst z;rcases j with r | r
  ·exact i b n r
  ·rw[n]at r;cases r
 have d:∀ b u,H b=some u->¬ Mut (some u)->b≠x:=λb u q nm z=>by subst z;rw[q]at c;exact nm c
 refine⟨λb u q n _ _=>k b u (g b n) q,λb u q n _ _=>⟨u.slots,k b u (g b n) q⟩,λb u q n _=>by rw[A5 (i b n)];exact n,λb u q _=>?_,
  λb xs q=>by rw[A5 (d b _ q λz=>z)];exact q,λb u xs q=>by rw[A5 (d b _ q λz=>z)];exact q,λb ps q=>⟨#[],by rw[A5 (d b _ q λz=>z),q];simp⟩⟩
 by_cases a:b=e
 ·subst a;exact f
 ·exact⟨u,k b u a q⟩
theorem Un.mono(u:Un fs ex H H1 h h1)(f:∀ b∈fs,b∈fs')(d:∀ b∈ex,b∈ex'):Un fs' ex' H H1 h h1 :=
 ⟨λb c q n e a=>u.keep b c q n (λz=>e (f b z)) λz=>a (d b z),λ_ _ q n _ a=>u.any q n λz=>a (d _ z),λb c q n a=>u.free b c q n λz=>a (d b z),λb c q a=>u.there b c q λz=>a (d b z),u.tups,u.frzs,u.tbls⟩
def trk(h:Heap)(H:Hp):List Addr:=(List.range h.objs.size).filter λa=>(H a).isSome
def EX(h:Heap)(H:Hp):Heap:=PySem.W.hideAll h (trk h H)
theorem aV(h:Heap)(H:Hp):(EX h H).objs.size=h.objs.size:=PySem.W.hideAll_size _ _
theorem aW(e:h.get? b=some o)(n:H b=none):(EX h H).get? b=some o :=
 PySem.W.hideAll_get _ e λa=>by
  have q:=(List.mem_filter.mp a).2;rw[n]at q;simp at q
theorem aX(e:(EX h H).get? b=some o):h.get? b=some o/\H b=none:=by
 have a:=PySem.W.of_hideAll (trk h H) e;refine⟨a,?_⟩;cases q:H b with
 | none=>rfl
 | some x =>
  have c:b∈trk h H:=List.mem_filter.mpr ⟨List.mem_range.mpr (Qn a),by simp[q]⟩;have z:(EX h H).get? b=none:=PySem.W.hideAll_none (trk h H) c;rw[z]at e;cases e
def aY(g h:Heap)(L:Addr):List (Addr×Obj):=(List.range h.objs.size).filterMap λa=>if a=L\/(g.get? a).isSome=true then none else(h.get? a).map λo=>(a,o)
def An(g h:Heap)(L d:Addr):List (Addr×Obj):=(aY g h L).filter λp=>decide (p.1≠d)
structure Mod(K:PySem.W.Frag)(mg:Str->Option Value)(base:Heap):Prop where
 kin:K.In base
 glob:base.Ns mainGlobals mg
 blt:∃ mb,base.Ns builtinsNs mb/\∀ x:Str,x≠"__name__"->mb x=bootBuiltins x
 nolimit:base.NoLimit
structure Cx where
 prog:Program
 w:World
 K:PySem.W.Frag
 mg:Str->Option Value
 base:Heap
 A:Around
 N:List Str
 s₀:Shared
 H₀:Hp
 env:Env
 outer:List Env
 stack:List Env
 ex:List Addr
 fn:Str->Bool
 calm:Bool
 pn:List (Addr×Obj)
 xe:Value->Shared->Prop
def frs(l:List Env):List Addr:=l.filterMap (·.frame)
abbrev Cx.fs(X:Cx):List Addr:=frs X.outer
def Vis(sc:Scope)(x:Str):Prop:=sc.names.lookup x=some .local\/sc.names.lookup x=some .cell\/sc.names.lookup x=some .free
def Loc(sc:Scope)(x:Str):Prop:=sc.names.lookup x=some .local\/sc.names.lookup x=some .cell
def Qr(env:Env)(h:Heap)(m:Str->Option Value)(x:Str)(u:Value):Prop :=
 (env.kindOf x=some .local/\m x=some u)\/((env.kindOf x=some .cell\/env.kindOf x=some .free)/\∃ c,env.cells.lookup x=some c/\h.IsCell c (some u))
structure Cx.Ok(X:Cx):Prop where
 mod:Mod X.K X.mg X.base
 kind:X.env.scope.kind=.function
 glob:X.env.globals=mainGlobals
 blt:X.env.builtins=builtinsNs
 above:X.s₀.heap.objs.size<=X.env.locals
 inj:∀ x y c,X.env.cells.lookup x=some c->X.env.cells.lookup y=some c->x=y
 has:∀ x,(X.env.kindOf x=some .cell\/X.env.kindOf x=some .free)->∃ c,X.env.cells.lookup x=some c
 cab:∀ x c,X.fn x=true->X.env.cells.lookup x=some c->X.s₀.heap.objs.size<=c
 hd:X.calm=true->X.A.handled=none
 frames:X.A.frames=some X.stack
 stk:X.stack=X.outer\/(X.stack=X.env::X.outer/\X.env.frame=some X.env.locals)
 exf:∀ b∈X.ex,b≠X.env.locals/\∀ x c,X.env.cells.lookup x=some c->c≠b
 bs:∀ b o,X.base.get? b=some o->X.s₀.heap.get? b=some o/\X.H₀ b=none
 bsz:X.base.objs.size<=X.s₀.heap.objs.size
 noex:∀ b o,X.base.get? b=some o->b∉X.ex
 exfs:∀ b∈X.ex,b∉X.fs
 funs:X.s₀.heap.FunFrames X.base X.outer
 frf:∀ b∈X.fs,X.H₀ b=none
structure Inv(X:Cx)(pins:List (Addr×Obj))(σ:List (Option V))(H:Hp)(s:Shared):Prop where
 ok:X.Ok
 os:s.os=X.s₀.os
 bare:AllBare s.gens
 base:Un X.fs X.ex X.H₀ H X.s₀.heap s.heap
 loc:∃ m,s.heap.Ns X.env.locals m/\∀(i:Nat)(x:Str)(v:V),X.N[i]?=some x->σ[i]?=some (some v)->Vis X.env.scope x->∃ u,RelV v u/\Qr X.env s.heap m x u
 cell:∀ x c,X.env.cells.lookup x=some c->∃ v,s.heap.IsCell c v
 free:H X.env.locals=none
 freeC:∀ x c,X.env.cells.lookup x=some c->H c=none
 pin:∀ p∈X.pn++pins,s.heap.get? p.1=some p.2/\H p.1=none/\p.1≠X.env.locals/\p.1∉X.fs/\∀ v,p.2.data≠.cell v
 hok:HOk X.prog X.w H s.heap
 len:σ.length=X.N.length
theorem Cx.Ok.nofr{X:Cx}(ok:X.Ok)(e:X.base.get? b=some o):b∉X.fs:=λa=>by
 have:=(ok.funs.mem a).1;rw[e]at this;cases this
theorem Inv.bs(I:Inv X pins σ H s):∀ b o,X.base.get? b=some o->s.heap.get? b=some o/\H b=none:=λb o e=>
 ⟨I.base.keep b o (I.ok.bs b o e).1 (I.ok.bs b o e).2 (I.ok.nofr e) (I.ok.noex b o e),I.base.free b o (I.ok.bs b o e).1 (I.ok.bs b o e).2 (I.ok.noex b o e)⟩
theorem Inv.bk(I:Inv X pins σ H s):∀ b o,X.base.get? b=some o->s.heap.get? b=some o:=λb o e=>(I.bs b o e).1
theorem Inv.mod(I:Inv X pins σ H s):Mod X.K X.mg X.base:=I.ok.mod
theorem Inv.kIn(I:Inv X pins σ H s):X.K.In s.heap:=I.ok.mod.kin.keeps I.bk
theorem Inv.nolimit(I:Inv X pins σ H s):s.heap.NoLimit:=I.ok.mod.nolimit.keeps I.bk
theorem Inv.fr(I:Inv X pins σ H s):∃ m,Fr X.base X.env.locals s.heap m :=
 let⟨m,hn,_⟩:=I.loc
 ⟨m,hn,I.bk,Yt I.ok.bsz I.ok.above⟩
theorem Inv.lt(I:Inv X pins σ H s):X.env.locals < s.heap.objs.size:=let⟨_,hn,_⟩:=I.loc;hn.lt
theorem Inv.sz(I:Inv X pins σ H s):X.s₀.heap.objs.size<=s.heap.objs.size:=Yt I.ok.above (Nat.le_of_lt I.lt)
theorem Inv.nofs(I:Inv X pins σ H s){a:Addr}(h:s.heap.objs.size<=a):a∉X.fs:=λb=>by
 obtain⟨_,o,c,_⟩:=I.ok.funs.mem b;exact Qj (Yu (Qn c) (Yt I.sz h)) (YJ _)
theorem Inv.cne(I:Inv X pins σ H s):∀ x c,X.env.cells.lookup x=some c->c≠X.env.locals:=λx c e z=>by
 obtain⟨v,o,d,hd⟩:=I.cell x c e;obtain⟨m,⟨o',es,f,b,a,_⟩,_⟩:=I.loc;rw[z,b]at d;cases d;rw[a]at hd;cases hd
theorem Inv.funs(I:Inv X pins σ H s):s.heap.FunFrames X.base X.outer:=by
 have all:∀(l:List Env),(∀ b∈frs l,b∈X.fs)->X.s₀.heap.FunFrames X.base l->s.heap.FunFrames X.base l:=by
  intro l;induction l with
  | nil=>intro _ _;trivial
  | cons env r i =>
   intro f hl;obtain⟨h,⟨L,o,d,j,g,hd⟩,k⟩:=hl;have c:=f L (by unfold frs;rw[List.filterMap_cons,d];exact Ye);obtain⟨m,e⟩:=I.base.slot L o g (I.ok.frf L c) c λz=>I.ok.exfs L z c;exact⟨h,⟨L,_,d,j,e,hd⟩,i (λb a=>f b (by unfold frs;rw[List.filterMap_cons,d];exact Yd _ a)) k⟩
 exact all X.outer (λ_ a=>a) I.ok.funs
theorem Inv.stack(I:Inv X pins σ H s):s.heap.FunFrames X.base X.stack:=by
 rcases I.ok.stk with e |⟨e,a⟩
 ·rw[e];exact I.funs
 ·rw[e];obtain⟨m,b,_⟩:=I.loc;refine .cons (by rw[I.ok.kind];decide) a b ?_ I.funs;exact Heap.get?_none_of_le (Yt I.ok.bsz I.ok.above)
theorem Inv.stkSub(I:Inv X pins σ H s):∀ b∈frs X.stack,b∈X.env.locals::X.fs:=λb a=>by
 rcases I.ok.stk with e |⟨e,c⟩
 ·rw[e]at a;exact Yd _ a
 ·rw[e]at a;unfold frs at a;rw[List.filterMap_cons,c]at a;exact a
theorem Inv.stkFree(I:Inv X pins σ H s):∀ b∈frs X.stack,H b=none:=λb a=>by
 rcases Yo.mp (I.stkSub b a)with e | a
 ·rw[e];exact I.free
 ·obtain⟨_,o,c,_⟩:=I.ok.funs.mem a;exact I.base.free b o c (I.ok.frf b a) λz=>I.ok.exfs b z a
theorem Inv.step{ch:List Addr}(I:Inv X pins σ H s)(f:∀ b∈ch,(b∈X.ex\/X.s₀.heap.objs.size<=b)/\b≠X.env.locals/\(∀ x c,X.env.cells.lookup x=some c->c≠b)/\∀ p∈X.pn++pins,p.1≠b)(keep:∀ b o,b≠X.env.locals->b∉X.fs->b∉ch->s.heap.get? b=some o->H b=none->h'.get? b=some o)(slot:∀ b o,b≠X.env.locals->b∈X.fs->b∉ch->s.heap.get? b=some o->H b=none->∃ F,h'.get? b=some {o with slots:=F})(free:∀ b o,b∉ch->s.heap.get? b=some o->H b=none->H' b=none)(there:∀ b o,b∉ch->s.heap.get? b=some o->∃ o',h'.get? b=some o')(tups:∀ b xs,H b=some (.tup xs)->H' b=some (.tup xs))(frzs:∀ b o u,H b=some (.frz o u)->H' b=some (.frz o u))(tbls:∀ b ps,H b=some (.tbl ps)->∃ E,H' b=some (.tbl (ps++E)))(ns:∀ m,s.heap.Ns X.env.locals m->h'.Ns X.env.locals m)(hok:HOk X.prog X.w H' h')(P:AllBare L):
  Inv X pins σ H' {s with heap:=h',gens:=L,drawn:=N,toks:=t'}:=by
 have D:∀ b o,X.s₀.heap.get? b=some o->b≠X.env.locals:=λb o e=>Ys (Yu (Qn e) I.ok.above)
 have j:∀ b o,X.s₀.heap.get? b=some o->b∉X.ex->b∉ch:=λb o e a y=>by
  rcases(f b y).1 with z | z
  ·exact a z
  ·exact Qj (Yu (Qn e) z) (YJ _)
 have h:∀ x c,X.env.cells.lookup x=some c->∀ v,s.heap.IsCell c v->h'.IsCell c v:=by
  rintro x c e v ⟨o,A,hd⟩;have g:=λz=>(f c z).2.2.1 x c e rfl;by_cases hc:c∈X.fs
  ·obtain⟨F,q⟩:=slot c o (I.cne x c e) hc g A (I.freeC x c e);exact⟨_,q,hd⟩
  ·exact⟨o,keep c o (I.cne x c e) hc g A (I.freeC x c e),hd⟩
 refine⟨I.ok,I.os,P,⟨λb o e n y a=>?_,λb o e n y a=>?_,λb o e n a=>?_,λb o e a=>?_,λb xs e=>tups b xs (I.base.tups b xs e),λb o xs e=>frzs b o xs (I.base.frzs b o xs e),λb ps e=>?_⟩,?_,λx c e=>?_,?_,λx c e=>?_,λp J=>?_,hok,I.len⟩
 ·exact keep b o (D b o e) y (j b o e a) (I.base.keep b o e n y a) (I.base.free b o e n a)
 ·obtain⟨F,t⟩:=I.base.slot b o e n y a;obtain⟨G,B⟩:=slot b _ (D b o e) y (j b o e a) t (I.base.free b o e n a);exact⟨G,B⟩
 ·obtain⟨o',t⟩:=I.base.there b o e a;exact free b o' (j b o e a) t (I.base.free b o e n a)
 ·obtain⟨o',t⟩:=I.base.there b o e a;exact there b o' (j b o e a) t
 ·obtain⟨S,t⟩:=I.base.tbls b ps e;obtain⟨Q,B⟩:=tbls b _ t;exact⟨S++Q,by rw[B,Array.append_assoc]⟩
 ·obtain⟨m,O,hl⟩:=I.loc;refine⟨m,ns m O,λi x v t B R=>?_⟩;obtain⟨u,r,l⟩:=hl i x v t B R;refine⟨u,r,?_⟩;rcases l with l |⟨k,c,e,z⟩
  ·exact .inl l
  ·exact .inr ⟨k,c,e,h x c e _ z⟩
 ·obtain⟨v,z⟩:=I.cell x c e;exact⟨v,h x c e v z⟩
 ·obtain⟨m,⟨o,_,_,A,_⟩,_⟩:=I.loc;exact free _ o (λz=>(f _ z).2.1 rfl) A I.free
 ·obtain⟨v,o,A,hd⟩:=I.cell x c e;exact free c o (λz=>(f c z).2.2.1 x c e rfl) A (I.freeC x c e)
 ·obtain⟨e,n,ne,K,d⟩:=I.pin p J;have g:=λz=>(f p.1 z).2.2.2 p J rfl;exact⟨keep p.1 p.2 ne K g e n,free p.1 p.2 g e n,ne,K,d⟩
theorem Inv.un(I:Inv X pins σ H s)(u:Un X.fs [] H H' s.heap h')(hok:HOk X.prog X.w H' h'):Inv X pins σ H' {s with heap:=h',toks:=t'}:=by
 obtain⟨m,⟨o,es,i,f,r⟩,_⟩:=id I.loc;obtain⟨k,g⟩:=u.any f I.free (by simp)
 exact I.step (ch:=[]) (λ_ z=>nomatch z) (λb o _ c _ e n=>u.keep b o e n c (by simp)) (λb o _ c _ e n=>u.slot b o e n c (by simp)) (λb o _ e n=>u.free b o e n (by simp)) (λb o _ e=>u.there b o e (by simp)) u.tups u.frzs u.tbls (λj h=>by
  obtain⟨o',es',d,a,r'⟩:=h;rw[f]at a;cases a;exact⟨_,es',d,g,r'⟩) hok I.bare
theorem Inv.call(I:Inv X pins σ H s)(u:Un (frs X.stack) ch H H' s.heap h')(hok:HOk X.prog X.w H' h')(k:AllBare h)(d:∀ b∈ch,(b∈X.ex\/X.s₀.heap.objs.size<=b)/\b≠X.env.locals/\(∀ x c,X.env.cells.lookup x=some c->c≠b)/\∀ p∈X.pn++pins,p.1≠b):
  Inv X pins σ H' {s with heap:=h',gens:=h,drawn:=q,toks:=t'}:=by
 obtain⟨m,⟨o,es,t,i,r⟩,_⟩:=id I.loc;obtain⟨y,f⟩:=u.any i I.free λz=>(d _ z).2.1 rfl
 exact I.step d (λb o f j hc e n=>u.keep b o e n (λz=>(Yo.mp (I.stkSub b z)).elim f j) hc) (λb o _ _ hc e n=>u.any e n hc) (λb o hc e n=>u.free b o e n hc) (λb o hc e=>u.there b o e hc) u.tups u.frzs u.tbls (λv l=>by
  obtain⟨o',es',g,a,r'⟩:=l;rw[i]at a;cases a;exact⟨_,es',g,f,r'⟩) hok k
theorem Inv.turned(I:Inv X pins σ H s)(k:∀ b o,b≠it->s.heap.get? b=some o->h'.get? b=some o)(l:H it=none)(d:it≠X.env.locals)(h1:it∈X.ex\/X.s₀.heap.objs.size<=it)(h2:∀ x c,X.env.cells.lookup x=some c->c≠it)(g:∀ p∈X.pn++pins,p.1≠it):Inv X pins σ H {s with heap:=h',toks:=t'}:=by
 have a:∀ b u,H b=some u->b≠it:=λb u e z=>by rw[z,l]at e;cases e
 refine I.step (ch:=[it]) (λb f=>?_) (λb o _ _ hc e _=>k b o (λz=>hc (by simp[z])) e) (λb o _ _ hc e _=>⟨o.slots,k b o (λz=>hc (by simp[z])) e⟩) (λ_ _ _ _ n=>n)
  (λb o hc e=>⟨o,k b o (λz=>hc (by simp[z])) e⟩) (λ_ _ e=>e) (λ_ _ _ e=>e) (λb ps e=>⟨#[],by rw[e];simp⟩) (λm j=>?_) (λb u e=>?_) I.bare
 ·have e:b=it:=by simpa using f
  subst e;exact⟨h1,d,h2,g⟩
 ·obtain⟨o,es,i,h,r⟩:=j;exact⟨o,es,i,k _ o (YU d) h,r⟩
 ·refine(I.hok b u e).stay (λc v hc q=>k c v ?_ q) (λ_ q=>q) λ_ _ q=>q;rcases hc with z | z
  ·rw[z];exact a b u e
  ·exact a c _ z
theorem Inv.tok(I:Inv X pins σ H s)(t:Nat):Inv X pins σ H {s with toks:=t}:=I.un (h':=s.heap) (t':=t) Un.refl I.hok
theorem Inv.kept(I:Inv X pins σ H s)(k:∀ b u,s.heap.get? b=some u->h'.get? b=some u):Inv X pins σ H {s with heap:=h',toks:=t'}:=I.un (Un.kept k) (I.hok.kept k)
theorem Inv.laid{a:Addr}(I:Inv X pins σ H s)(k:∀ b u,s.heap.get? b=some u->h'.get? b=some u)(c:s.heap.objs.size<=a)(new:ObjOk X.prog X.w (upd H a o) h' a o):
  Inv X pins σ (upd H a o) {s with heap:=h',toks:=t'}:=I.un (Un.laid k c (I.hok.fresh c)) (I.hok.laid k c new)
theorem Inv.write(I:Inv X pins σ H s)(c:Mut (H x))(d:e=x\/H e=some (.own x))(k:∀ b u,b≠e->s.heap.get? b=some u->h'.get? b=some u)(a:∃ u,h'.get? e=some u)(new:ObjOk X.prog X.w (upd H x o) h' x o):Inv X pins σ (upd H x o) {s with heap:=h',toks:=t'}:=I.un (Un.write c d k a) (I.hok.write c d k a new)
theorem Inv.pins_of(I:Inv X pins σ H s)(h:∀ p∈a,s.heap.get? p.1=some p.2/\H p.1=none/\p.1≠X.env.locals/\p.1∉X.fs/\∀ v,p.2.data≠.cell v):Inv X a σ H s :=
 ⟨I.ok,I.os,I.bare,I.base,I.loc,I.cell,I.free,I.freeC,λp b=>(Yz.mp b).elim (λz=>I.pin p (YK _ z)) (h p),I.hok,I.len⟩
theorem Mf{N:List Str}(e:N.Nodup){j:Nat}{x:Str}(a:N[i]?=some x)(b:N[j]?=some x):i=j:=by
 obtain⟨h1,c⟩:=YV.mp a;obtain⟨h2,d⟩:=YV.mp b;exact(List.getElem_inj e).mp (c.trans d.symm)
theorem aZ(I:Inv X pins σ H s)(hN:X.N.Nodup)(hi:X.N[i]?=some x)(l:Loc X.env.scope x)(r:RelV v u)(h:∀ s',Inv X pins (σ.set i (some v)) H s'->(∃ a,Heap.SameBut a s.heap s'.heap/\(a=X.env.locals\/X.env.cells.lookup x=some a))->Q () s')(hf:X.fn x=true\/X.env.scope.names.lookup x=some .local:=by first | exact .inl rfl | exact .inr rfl | assumption):wpAny M A (storeName X.env x u) Q E s:=by
 obtain⟨m,Y,hl⟩:=id I.loc;have R:(X.env.scope.kind==.class||(X.env.scope.kind==.module&&X.env.locals != X.env.globals))=false:=by rw[I.ok.kind];rfl
 have hiσ:i < σ.length:=by rw[I.len];exact(YV.mp hi).1
 have cne:=I.cne
 have tracked:∀{a:Addr}{h':Heap},(∃ o,s.heap.get? a=some o/\H a=none)->Heap.SameBut a s.heap h'->HOk X.prog X.w H h':=λ{a h'}ha f b ob e=>by
  obtain⟨_,_,t⟩:=ha;refine(I.hok b ob e).stay (λc S hc q=>(f.2 c ?_).trans q) (λ_ q=>q) λ_ _ q=>q;rintro rfl;rcases hc with rfl | hc
  ·rw[t]at e;cases e
  ·rw[t]at hc;cases hc
 rcases l with D | D
 ·refine wpAny_storeName_local D Y (λh' hn' f=>?_) R;obtain⟨oL,_,_,hoL,_⟩:=id Y;refine h _ ⟨I.ok,I.os,I.bare,⟨λb o e n G l=>?_,λb o e n G l=>?_,I.base.free,λb o e l=>?_,I.base.tups,I.base.frzs,I.base.tbls⟩,⟨_,hn',λj y U g B Z=>?_⟩,λy c e=>?_,I.free,I.freeC,λp hp=>?_,tracked ⟨oL,hoL,I.free⟩ f,by simpa using I.len⟩ ⟨_,f,.inl rfl⟩
  ·exact(f.2 b (Ys (Yu (Qn e) I.ok.above))).trans (I.base.keep b o e n G l)
  ·obtain⟨sl,g⟩:=I.base.slot b o e n G l;exact⟨sl,(f.2 b (Ys (Yu (Qn e) I.ok.above))).trans g⟩
  ·obtain⟨o',g⟩:=I.base.there b o e l;exact⟨o',(f.2 b (Ys (Yu (Qn e) I.ok.above))).trans g⟩
  ·by_cases F:j=i
   ·subst F;rw[hi]at g;cases g;rw[List.getElem?_set_self hiσ]at B;cases B;exact⟨u,r,.inl ⟨D,by simp⟩⟩
   ·rw[List.getElem?_set_ne (YU F)]at B;obtain⟨u',r',q⟩:=hl j y U g B Z;refine⟨u',r',?_⟩;rcases q with⟨k,e⟩|⟨k,c,e,z⟩
    ·refine .inl ⟨k,?_⟩;have:y≠x:=λe=>F (Mf hN g (e▸hi));simp[this,e]
    ·exact .inr ⟨k,c,e,z.sameBut f (cne y c e)⟩
  ·obtain⟨S,z⟩:=I.cell y c e;exact⟨S,z.sameBut f (cne y c e)⟩
  ·obtain⟨e,n,ne,nf,d⟩:=I.pin p hp;exact⟨(f.2 p.1 ne).trans e,n,ne,nf,d⟩
 ·have J:X.fn x=true:=by
   rcases hf with z | z
   ·exact z
   ·rw[z]at D;cases D
  obtain⟨c,hc⟩:=I.ok.has x (.inl D);obtain⟨S,z⟩:=I.cell x c hc;refine wpAny_storeName_cell I.ok.kind D hc z (λh' L f=>?_);obtain⟨oc,O,K⟩:=id z;refine h {s with heap:=h'} ⟨I.ok,I.os,I.bare,⟨λb o e n G l=>?_,λb o e n G l=>?_,I.base.free,λb o e l=>?_,I.base.tups,I.base.frzs,I.base.tbls⟩,⟨m,Y.sameBut f (YU (cne x c hc)),λj y U g B Z=>?_⟩,λy T e=>?_,I.free,I.freeC,λp hp=>?_,tracked ⟨oc,O,I.freeC x c hc⟩ f,by simpa using I.len⟩ ⟨c,f,.inr hc⟩
  ·exact(f.2 b (Ys (Yu (Qn e) (I.ok.cab x c J hc)))).trans (I.base.keep b o e n G l)
  ·obtain⟨sl,g⟩:=I.base.slot b o e n G l;exact⟨sl,(f.2 b (Ys (Yu (Qn e) (I.ok.cab x c J hc)))).trans g⟩
  ·obtain⟨o',g⟩:=I.base.there b o e l;exact⟨o',(f.2 b (Ys (Yu (Qn e) (I.ok.cab x c J hc)))).trans g⟩
  ·by_cases F:j=i
   ·subst F;rw[hi]at g;cases g;rw[List.getElem?_set_self hiσ]at B;cases B;exact⟨u,r,.inr ⟨.inl D,c,hc,L⟩⟩
   ·rw[List.getElem?_set_ne (YU F)]at B;obtain⟨u',r',q⟩:=hl j y U g B Z;refine⟨u',r',?_⟩;rcases q with q |⟨k,T,e,z'⟩
    ·exact .inl q
    ·refine .inr ⟨k,T,e,z'.sameBut f ?_⟩;rintro rfl;exact F (Mf hN g (I.ok.inj _ _ _ e hc▸hi))
  ·by_cases P:T=c
   ·subst P;exact⟨_,L⟩
   ·obtain⟨w2,z2⟩:=I.cell y T e;exact⟨w2,z2.sameBut f P⟩
  ·obtain⟨e,n,ne,nf,d⟩:=I.pin p hp;refine⟨(f.2 p.1 ?_).trans e,n,ne,nf,d⟩;intro q;rw[q,O]at e;have q':=YE e;exact d S (by rw[<- q'];exact K)
theorem HL(I:Inv X pins σ H s)(c:X.N.Nodup)(hi:X.N[i]?=some x)(a:Loc X.env.scope x)(r:RelV v u)(h:∀ s',Inv X pins (σ.set i (some v)) H s'->Q () s')(b:X.fn x=true\/X.env.scope.names.lookup x=some .local:=by first | exact .inl rfl | exact .inr rfl | assumption):wpAny M A (storeName X.env x u) Q E s :=
 aZ I c hi a r (λs' d _=>h s' d) b
theorem Inv.call'(I:Inv X pins σ H s)(f:s'.os=s.os)(u:Un (frs X.stack) ch H H' s.heap s'.heap)(hok:HOk X.prog X.w H' s'.heap)(d:AllBare s'.gens)(a:∀ b∈ch,(b∈X.ex\/X.s₀.heap.objs.size<=b)/\b≠X.env.locals/\(∀ x c,X.env.cells.lookup x=some c->c≠b)/\∀ p∈X.pn++pins,p.1≠b):Inv X pins σ H' s':=by
 obtain⟨h',g,h,t',o'⟩:=s';have e:=f;subst e;exact I.call u hok d a
abbrev XK:=Value->Option Addr->Hp->Prop
abbrev St:=List (Option V)
abbrev VK:=V->Hp->Prop
abbrev TE:=St->Hp->VK->Prop
abbrev TT:=St->Hp->(Bool->Hp->Prop)->Prop
abbrev TA:=St->Hp->(List V->Hp->Prop)->Prop
structure GC where
 nx:St->Hp->Prop
 rt:VK
 bk:St->Hp->Prop:=λ_ _=>False
 ct:St->Hp->Prop:=λ_ _=>False
abbrev TS:=GC->St->Hp->Prop
def EP(X:Cx)(pins:List (Addr×Obj))(σ:St)(Q:VK)(u:Value)(s':Shared):Prop:=∃ v H',Inv X pins σ H' s'/\RelV v u/\Q v H'
def TP(X:Cx)(pins:List (Addr×Obj))(σ:St)(Q:Bool->Hp->Prop)(b:Bool)(s':Shared):Prop:=∃ H',Inv X pins σ H' s'/\Q b H'
def AP(X:Cx)(pins:List (Addr×Obj))(σ:St)(Q:List V->Hp->Prop)(us:List Value)(s':Shared):Prop:=∃ vs H',Inv X pins σ H' s'/\Vals vs us/\Q vs H'
def SP(X:Cx)(pins:List (Addr×Obj))(D:GC)(f:Flow)(s':Shared):Prop :=
 match f with
 | .next=>∃ σ' H',Inv X pins σ' H' s'/\D.nx σ' H'
 | .brk=>∃ σ' H',Inv X pins σ' H' s'/\D.bk σ' H'
 | .cont=>∃ σ' H',Inv X pins σ' H' s'/\D.ct σ' H'
 | .ret u=>∃ v σ' H',Inv X pins σ' H' s'/\RelV v u/\D.rt v H'
def PE(X:Cx)(e:Expr)(t:TE):Prop :=
 ∀(pins:List (Addr×Obj))(s:Shared)(σ:St)(H:Hp)(Q:VK),Inv X pins σ H s->t σ H Q->wpAny (model X.prog X.w) X.A (eval e X.env) (EP X pins σ Q) X.xe s
def PT(X:Cx)(e:Expr)(t:TT):Prop :=
 ∀(pins:List (Addr×Obj))(s:Shared)(σ:St)(H:Hp)(Q:Bool->Hp->Prop),Inv X pins σ H s->t σ H Q->wpAny (model X.prog X.w) X.A (isTrue e X.env (eval e X.env)) (TP X pins σ Q) X.xe s
def PW(X:Cx)(e:Expr)(t:TT):Prop :=
 ∀(whole:Sem Value)(pins:List (Addr×Obj))(s:Shared)(σ:St)(H:Hp)(Q:Bool->Hp->Prop),Inv X pins σ H s->t σ H Q->wpAny (model X.prog X.w) X.A (isTrue e X.env whole) (TP X pins σ Q) X.xe s
theorem PW.pt(h:PW X e t):PT X e t:=h _
def PA(X:Cx)(es:List Expr)(t:TA):Prop :=
 ∀(pos:Pos)(pins:List (Addr×Obj))(s:Shared)(σ:St)(H:Hp)(Q:List V->Hp->Prop),Inv X pins σ H s->t σ H Q->wpAny (model X.prog X.w) X.A (spliced (backTo pos (starEach es X.env))) (AP X pins σ Q) X.xe s
def PS(X:Cx)(st:Stmt)(t:TS):Prop :=
 ∀(pins:List (Addr×Obj))(s:Shared)(σ:St)(H:Hp)(D:GC),Inv X pins σ H s->t D σ H->wpAny (model X.prog X.w) X.A (exec st X.env) (SP X pins D) X.xe s
def PSs(X:Cx)(st:List Stmt)(t:TS):Prop :=
 ∀(pins:List (Addr×Obj))(s:Shared)(σ:St)(H:Hp)(D:GC),Inv X pins σ H s->t D σ H->wpAny (model X.prog X.w) X.A (execs st X.env) (SP X pins D) X.xe s
theorem thn{α:Type}{t:Sem α}{Q b:α->Shared->Prop}(h:wpAny M A t Q E s)(c:∀ a s,Q a s->b a s):wpAny M A t b E s:=wpAny_mono h c λ_ _ x=>x
section
variable {X:Cx}
theorem bin(k:PE X a ta)(j:PE X b tb){σ:St}{R:V->V->Hp->Prop}(I:Inv X pins σ H s)(h:ta σ H λx H1=>tb σ H1 λy H2=>R x y H2){α:Type}{Q:α->Shared->Prop}{f:Value->Value->Sem α}(n:∀ v u e x y H2,Inv X pins σ H2 e->RelV x v->RelV y u->R x y H2->wpAny (model X.prog X.w) X.A (f v u) Q X.xe e):
  wpAny (model X.prog X.w) X.A (eval a X.env) (λv d=>wpAny (model X.prog X.w) X.A (eval b X.env) (λu c=>wpAny (model X.prog X.w) X.A (f v u) Q X.xe c) X.xe d) X.xe s:=by
 refine thn (k pins s σ H _ I h) λv l i=>?_;obtain⟨x,H1,m,r1,q1⟩:=i;refine thn (j pins l σ H1 _ m q1) λu e g=>?_;obtain⟨y,H2,o,p,q2⟩:=g;exact n v u e x y H2 o r1 p q2
def Qs(i:Nat):TE:=λσ H Q=>∃ v,σ[i]?=some (some v)/\Q v H
def tC(v:V):TE:=λ_ H Q=>Q v H
theorem Qt{pos:Pos}(k:X.N[i]?=some x)(g:Vis X.env.scope x)(hd:(x==("__debug__":Str))=false:=by decide)(f:(x==("__classdict__":Str))=false:=by decide):PE X (.Name x pos) (Qs i):=by
 intro pins s σ H Q I h;obtain⟨v,e,h⟩:=h;obtain⟨m,n,hl⟩:=I.loc;obtain⟨u,r,l⟩:=hl i x v k e g;have b:EP X pins σ Q u s:=⟨v,H,I,r,h⟩;rcases l with⟨d,j⟩|⟨d,c,hc,a⟩
 ·exact wpAny_Name (wpAny_loadName_local I.ok.kind d n j b) hd
 ·rcases d with d | d
  ·exact wpAny_Name (wpAny_loadName_cell I.ok.kind d hc a b) hd
  ·exact wpAny_Name (wpAny_loadName_free I.ok.kind d hc a b f) hd
theorem a6{i j pos}:PE X (.Constant (.int i) j pos) (tC (.int i)):=λ_ _ _ H _ I h=>wpAny_Constant_int ⟨.int i,H,I.tok _,⟨_,rfl⟩,h⟩
theorem a7{b j pos}:PE X (.Constant (.bool b) j pos) (tC (.bl b)):=λ_ _ _ H _ I h=>Constant_bool ⟨.bl b,H,I,rfl,h⟩
theorem a8{j pos}:PE X (.Constant .none j pos) (tC .non):=λ_ _ _ H _ I h=>Constant_none ⟨.non,H,I,rfl,h⟩
theorem Qu{x j pos}:PE X (.Constant (.str x) j pos) (tC (.str x)):=λ_ _ _ H _ I h=>Calls.Constant_str ⟨.str x,H,I.tok _,⟨_,rfl⟩,h⟩
def Gl(X:Cx)(x:Str):Prop:=X.env.kindOf x=some .globalImplicit
theorem Ep{σ:St}(I:Inv X pins σ H s)(b:Gl X x)(a:X.mg x=some u)(h:Q u s)(hd:(x==("__debug__":Str))=false:=by decide):wpAny (model X.prog X.w) X.A (eval (.Name x pos) X.env) Q E s :=
 Calls.Name_function_global I.ok.kind b (Calls.loadGlobal_global (by rw[I.ok.glob];exact I.mod.glob.keeps I.bk) a h) hd
theorem EY{E:Value->Shared->Prop}{σ:St}{pos:Pos}(I:Inv X pins σ H s)(b:Gl X x)(a:X.mg x=none)(d:bootBuiltins x=some u)(h:Q u s)(c:x≠"__name__":=by decide)(hd:(x==("__debug__":Str))=false:=by decide):wpAny (model X.prog X.w) X.A (eval (.Name x pos) X.env) Q E s:=by
 obtain⟨mb,h1,h2⟩:=I.mod.blt;exact Calls.Name_function_global I.ok.kind b (Calls.loadGlobal_builtin (by rw[I.ok.glob];exact I.mod.glob.keeps I.bk) a (by rw[I.ok.blt];exact h1.keeps I.bk) ((h2 x c).trans d) h) hd
theorem Qv(b:Gl X x)(a:X.mg x=some u)(r:RelV v u)(hd:(x==("__debug__":Str))=false:=by decide):PE X (.Name x pos) (tC v):=
 λ_ _ _ H _ I h=>Ep I b a ⟨v,H,I,r,h⟩ hd
theorem Qw{pos:Pos}(b:Gl X x)(a:X.mg x=none)(c:bootBuiltins x=some u)(r:RelV v u)(d:x≠"__name__":=by decide)(hd:(x==("__debug__":Str))=false:=by decide):PE X (.Name x pos) (tC v):=
 λ_ _ _ H _ I h=>EY I b a c ⟨v,H,I,r,h⟩ d hd
def t2I(ta tb:TE)(k:Int->Int->Hp->Prop):St->Hp->Prop:=λσ H=>ta σ H λx H1=>tb σ H1 λy H2=>∃ i j,x=.int i/\y=.int j/\k i j H2
def a9(ta tb:TE):TE:=λσ H Q=>t2I ta tb (λi j H2=>Q (.int (i - j)) H2) σ H
section
variable {ta tb:TE}
theorem Be(d:PE X a ta)(c:PE X b tb):PE X (.BinOp a .Sub b pos) (a9 ta tb):=by
 intro pins s σ H Q I h;refine wpAny_BinOp (bin d c I h λv u k x y H2 g f e q=>?_);obtain⟨i,j,rfl,rfl,q⟩:=q;obtain⟨t,rfl⟩:=f;obtain⟨t',rfl⟩:=e;exact sub_int ⟨.int _,H2,g.tok _,⟨_,rfl⟩,q⟩
def ba(t u:TT):TT:=λσ H Q=>t σ H λc H1=>if c=true then u σ H1 Q else Q false H1
def tOr(t u:TT):TT:=λσ H Q=>t σ H λc H1=>if c=true then Q true H1 else u σ H1 Q
def be(t:TT):TT:=λσ H Q=>t σ H λc H1=>Q (!c) H1
theorem bf(b:PT X a tA):PW X (.BoolOp .And [a] pos) tA:=by
 intro f pins s σ H Q I h;refine isTrue_and (thn (b pins s σ H Q I h) λc d e=>?_);cases c with
 | true=>exact isTrue_and_nil e
 | false=>exact e
theorem bg(b:PT X a tA):PW X (.BoolOp .Or [a] pos) tA:=by
 intro f pins s σ H Q I h;refine isTrue_or (thn (b pins s σ H Q I h) λc d e=>?_);cases c with
 | false=>exact isTrue_or_nil e
 | true=>exact e
theorem bh{An:List Expr}(g:PT X a tA)(f:PW X (.BoolOp .And (b::An) pos) tB'):PW X (.BoolOp .And (a::b::An) pos) (ba tA tB'):=by
 intro j pins s σ H Q I h;refine isTrue_and (thn (g pins s σ H _ I h) λc i d=>?_);obtain⟨H1,e,q1⟩:=d;cases c with
 | true=>exact f j pins i σ H1 Q e q1
 | false=>exact⟨H1,e,q1⟩
theorem bi{An:List Expr}(g:PT X a tA)(f:PW X (.BoolOp .Or (b::An) pos) tB'):PW X (.BoolOp .Or (a::b::An) pos) (tOr tA tB'):=by
 intro j pins s σ H Q I h;refine isTrue_or (thn (g pins s σ H _ I h) λc i d=>?_);obtain⟨H1,e,q1⟩:=d;cases c with
 | true=>exact⟨H1,e,q1⟩
 | false=>exact f j pins i σ H1 Q e q1
theorem bj(b:PT X a tA):PT X (.UnaryOp .Not a pos) (be tA):=by
 intro pins s σ H Q I h;exact isTrue_not (b pins s σ H (λc H1=>Q (!c) H1) I h)
def bm(ta tb:TE):TE:=λσ H Q=>ta σ H λx H1=>∃ c,x=.bl c/\if c=true then tb σ H1 Q else Q (.bl false) H1
def bn(ta tb:TE):TE:=λσ H Q=>ta σ H λx H1=>∃ c,x=.bl c/\if c=true then Q (.bl true) H1 else tb σ H1 Q
theorem bo{op}(h:PE X a t):PE X (.BoolOp op [a] pos) t:=λpins s σ H Q I hw=>BoolOp_one (h pins s σ H Q I hw)
theorem bp{An:List Expr}(g:PE X a ta)(f:PE X (.BoolOp .And (b::An) pos) tb):PE X (.BoolOp .And (a::b::An) pos) (bm ta tb):=by
 intro pins s σ H Q I h;refine BoolOp_and (thn (g pins s σ H _ I h) λv i d=>?_);obtain⟨x,H1,e,r1,q1⟩:=d;obtain⟨c,rfl,q1⟩:=q1;cases r1;refine wpAny_truthy_bool ?_;cases c with
 | true=>exact f pins i σ H1 Q e q1
 | false=>exact⟨.bl false,H1,e,rfl,q1⟩
theorem bq{An:List Expr}(g:PE X a ta)(f:PE X (.BoolOp .Or (b::An) pos) tb):PE X (.BoolOp .Or (a::b::An) pos) (bn ta tb):=by
 intro pins s σ H Q I h;refine BoolOp_or (thn (g pins s σ H _ I h) λv i d=>?_);obtain⟨x,H1,e,r1,q1⟩:=d;obtain⟨c,rfl,q1⟩:=q1;cases r1;refine wpAny_truthy_bool ?_;cases c with
 | false=>exact f pins i σ H1 Q e q1
 | true=>exact⟨.bl true,H1,e,rfl,q1⟩
def tIf(t:TT)(ta tb:TE):TE:=λσ H Q=>t σ H λc H1=>if c=true then ta σ H1 Q else tb σ H1 Q
theorem br(hc:PT X c tA)(j:PE X a ta)(i:PE X b tb):PE X (.IfExp c a b pos) (tIf tA ta tb):=by
 intro pins s σ H Q I h;refine wpAny_IfExp (thn (hc pins s σ H _ I h) λd f e=>?_);obtain⟨H1,g,q1⟩:=e;cases d with
 | true=>exact j pins f σ H1 Q g q1
 | false=>exact i pins f σ H1 Q g q1
end
end
def SqL(K:PySem.W.Frag)(H:Hp)(a:Addr)(xs:List V):Prop :=
 Rd H a (.lst xs)\/
  ∃(o:Obj)(its:Array Value)(n:Nat),K.lookup a=some o/\o.cls=.type "list"/\o.dict=none/\o.data=.seq its n/\its.size<=sizeLine/\Vals xs its.toList
def SqT(K:PySem.W.Frag)(H:Hp)(a:Addr)(xs:List V):Prop :=
 Rd H a (.tup xs)\/
  ∃(o:Obj)(its:Array Value)(n:Nat),K.lookup a=some o/\o.cls=.type "tuple"/\o.dict=none/\o.data=.seq its n/\its.size<=sizeLine/\Vals xs its.toList
def bu:Value->Option V
 | .none=>some .non
 | .bool b=>some (.bl b)
 | .int i _=>some (.int i)
 | .str x _=>some (.str x)
 | .bytes b _=>some (.byt b)
 | .float b _=>some (.flt b)
 | .ref a=>some (.ref a)
 | .type n=>some (.ty n)
 | _=>none
theorem RelV.abs(r:RelV x u):bu u=some x:=by
 cases x with
 | non|bl _=>cases r;rfl
 | int _|str _|byt _|flt _=>obtain⟨t,rfl⟩:=r;rfl
 | ref _|ty _=>cases r;rfl
theorem RelV.inj(r:RelV x u)(q:RelV y u):x=y:=YE (r.abs.symm.trans q.abs)
theorem Vals.inj:∀{xs ys:List V}{us:List Value},Vals xs us->Vals ys us->xs=ys
 | _,_,_,.nil,.nil=>rfl
 | _,_,_,.cons r t,.cons r' t'=>by rw[r.inj r',Vals.inj t t']
theorem SqL.of{K:PySem.W.Frag}(h:H a=some (.lst xs)):SqL K H a xs:=.inl (.inl h)
theorem SqT.of{K:PySem.W.Frag}(h:H a=some (.tup xs)):SqT K H a xs:=.inl (.inl h)
theorem Inv.list{σ:St}(I:Inv X pins σ H s)(h:SqL X.K H a xs):∃ b:List Value,Vals xs b/\PlainL s.heap a b.toArray/\xs.length<=sizeLine:=by
 rcases h with h |⟨o,b,n,c,hc,hd,d,f,r⟩
 ·obtain⟨z,b,n,r,e⟩:=h.ok I.hok;exact⟨b,r,⟨_,n,e,rfl,rfl,rfl⟩,z⟩
 ·refine⟨b.toList,r,⟨o,n,I.kIn a o c,hc,hd,by simpa using d⟩,?_⟩;have e:=r.length;simp only[YR]at e;lia
theorem Inv.tupP{σ:St}(I:Inv X pins σ H s)(h:SqT X.K H a xs):∃ b:List Value,Vals xs b/\TupP s.heap a b.toArray/\xs.length<=sizeLine:=by
 rcases h with h |⟨o,b,n,c,hc,hd,d,f,r⟩
 ·obtain⟨z,b,r,p⟩:=h.ok I.hok;exact⟨b,r,p,z⟩
 ·refine⟨b.toList,r,⟨o,I.kIn a o c,hc,hd,n,by simpa using d⟩,?_⟩;have e:=r.length;simp only[YR]at e;lia
theorem Inv.tuple{σ:St}(I:Inv X pins σ H s)(h:SqT X.K H a xs):∃ b:List Value,Vals xs b/\IsTup s.heap a b.toArray/\xs.length<=sizeLine :=
 let⟨b,r,p,z⟩:=I.tupP h
 ⟨b,r,p.up,z⟩
theorem Inv.list_inj{σ:St}(I:Inv X pins σ H s)(h:SqL X.K H a xs)(h':SqL X.K H a ys):xs=ys:=by
 obtain⟨c,r,⟨o,n,e,_,_,d⟩,_⟩:=I.list h;obtain⟨b,r',⟨o',i,f,_,_,g⟩,_⟩:=I.list h';rw[e]at f;cases f;rw[d]at g;injection g with d1 _;have:c=b:=by simpa using Qg Array.toList d1
 subst this;exact r.inj r'
theorem Inv.tuple_inj{σ:St}(I:Inv X pins σ H s)(h:SqT X.K H a xs)(h':SqT X.K H a ys):xs=ys:=by
 obtain⟨c,r,⟨o,e,_,n,d⟩,_⟩:=I.tuple h;obtain⟨b,r',⟨o',f,_,i,g⟩,_⟩:=I.tuple h';rw[e]at f;cases f;rw[d]at g;injection g with d1 _;have:c=b:=by simpa using Qg Array.toList d1
 subst this;exact r.inj r'
abbrev Cx.wish(X:Cx)(E:Value->Shared->Prop):Cx:={X with xe:=E}
abbrev Cx.nox(X:Cx):Cx:=X.wish λ_ _=>False
theorem Cx.Ok.wish{X:Cx}(ok:X.Ok)(E:Value->Shared->Prop):(X.wish E).Ok :=
 ⟨ok.mod,ok.kind,ok.glob,ok.blt,ok.above,ok.inj,ok.has,ok.cab,ok.hd,ok.frames,ok.stk,ok.exf,ok.bs,ok.bsz,ok.noex,ok.exfs,ok.funs,ok.frf⟩
theorem Cx.Ok.unwish{X:Cx}(ok:(X.wish E).Ok):X.Ok :=
 ⟨ok.mod,ok.kind,ok.glob,ok.blt,ok.above,ok.inj,ok.has,ok.cab,ok.hd,ok.frames,ok.stk,ok.exf,ok.bs,ok.bsz,ok.noex,ok.exfs,ok.funs,ok.frf⟩
variable {X:Cx}{pins:List (Addr×Obj)}{σ:St}{H:Hp}{s:Shared}{E:Value->Shared->Prop} in
theorem Inv.wish(I:Inv X pins σ H s)(E:Value->Shared->Prop):Inv (X.wish E) pins σ H s:=⟨I.ok.wish E,I.os,I.bare,I.base,I.loc,I.cell,I.free,I.freeC,I.pin,I.hok,I.len⟩
theorem Inv.unwish{σ:St}(I:Inv (X.wish E) pins σ H s):Inv X pins σ H s:=⟨I.ok.unwish,I.os,I.bare,I.base,I.loc,I.cell,I.free,I.freeC,I.pin,I.hok,I.len⟩
theorem SP.unwish(h:SP (X.wish E) pins D f s'):SP X pins D f s':=by
 cases f with
 | next|brk|cont=>obtain⟨σ',H',I,q⟩:=h;exact⟨σ',H',I.unwish,q⟩
 | ret u=>obtain⟨v,σ',H',I,r,q⟩:=h;exact⟨v,σ',H',I.unwish,r,q⟩
theorem PE.nox(h:PE X.nox e t):PE X e t:=λpins s σ H Q I hw=>
 wpAny_mono (h pins s σ H Q (I.wish _) hw) ((by rintro _ _ ⟨v,H',a,r,q⟩;exact⟨v,H',a.unwish,r,q⟩)) λ_ _ z=>Qd z
theorem PT.nox(h:PT X.nox e t):PT X e t:=λpins s σ H Q I hw=>
 wpAny_mono (h pins s σ H Q (I.wish _) hw) ((by rintro _ _ ⟨H',a,q⟩;exact⟨H',a.unwish,q⟩)) λ_ _ z=>Qd z
theorem PSs.nox{st:List Stmt}(h:PSs X.nox st t):PSs X st t:=λpins s σ H D I hw=>
 wpAny_mono (h pins s σ H D (I.wish _) hw) (λ_ _ q=>q.unwish) λ_ _ z=>Qd z
section
variable {t u:TS}{te:TE}
def bv:TS:=λD σ H=>D.nx σ H
def bw(t u:TS):TS:=λD σ H=>t {D with nx:=u D} σ H
theorem bx:PSs X [] bv:=λ_ _ σ H _ I h=>wpAny_execs_nil ⟨σ,H,I,h⟩
theorem bz{st:Stmt}{An:List Stmt}(h1:PS X st t)(h2:PSs X An u):PSs X (st::An) (bw t u):=by
 intro pins s σ H D I h;refine wpAny_execs_cons (thn (h1 pins s σ H {D with nx:=u D} I h) λf b q=>?_);cases f with
 | next =>
  obtain⟨σ',H',a,q⟩:=q;exact h2 pins b σ' H' D a q
 | ret v|brk|cont=>exact q
theorem bA{st:Stmt}(h1:PS X st t):PSs X [st] t:=by
 intro pins s σ H D I h;refine wpAny_execs_cons (thn (h1 pins s σ H D I h) λf a q=>?_);cases f with
 | next=>exact wpAny_execs_nil q
 | ret v|brk|cont=>exact q
theorem Inv.quiet{σ:St}(I:Inv X pins σ H s):interactive X.env=false:=by simp[interactive,I.ok.kind]
def bB(te:TE):TS:=λD σ H=>te σ H λ_ H1=>D.nx σ H1
theorem bC(c:PE X e te)(b:swapsWith e none pos.line X.env=pure false:=by rfl):PS X (.Expr e pos) (bB te):=by
 intro pins s σ H D I h;exact wpAny_Expr_any (thn (c pins s σ H _ I h) (by rintro v d ⟨x,H1,a,r1,q1⟩;exact⟨σ,H1,a,q1⟩)) I.quiet b
def bD(te:TE):TS:=λD σ H=>te σ H D.rt
theorem bE(b:PE X e te):PS X (.Return (some e) pos) (bD te):=by
 intro pins s σ H D I h;exact wpAny_Return_some (thn (b pins s σ H _ I h) (by rintro v c ⟨x,H1,a,r1,q1⟩;exact⟨x,σ,H1,a,r1,q1⟩))
def bF(c:TT)(t u:TS):TS:=λD σ H=>c σ H λb H1=>if b=true then t D σ H1 else u D σ H1
theorem bG(hc:PT X c tc)(j:PSs X a t)(i:PSs X b u):PS X (.If c a b pos) (bF tc t u):=by
 intro pins s σ H D I h;refine wpAny_If (thn (hc pins s σ H _ I h) λd f e=>?_);obtain⟨H1,g,q1⟩:=e;cases d with
 | true=>exact j pins f σ H1 D g q1
 | false=>exact i pins f σ H1 D g q1
end
abbrev TG:=V->St->Hp->(St->Hp->Prop)->Prop
abbrev TGs:=List V->St->Hp->(St->Hp->Prop)->Prop
def PG(X:Cx)(target:Expr)(t:TG):Prop :=
 ∀(pins:List (Addr×Obj))(s:Shared)(σ:St)(H:Hp)(v:V)(u:Value)(Q:St->Hp->Prop),Inv X pins σ H s->RelV v u->t v σ H Q->
  wpAny (model X.prog X.w) X.A (assign target X.env u) (λ_ s'=>∃ σ' H',Inv X pins σ' H' s'/\Q σ' H') X.xe s
def PGs(X:Cx)(ts:List Expr)(t:TGs):Prop :=
 ∀(pins:List (Addr×Obj))(s:Shared)(σ:St)(H:Hp)(vs:List V)(us:List Value)(Q:St->Hp->Prop),Inv X pins σ H s->Vals vs us->t vs σ H Q->
  wpAny (model X.prog X.w) X.A (assignInOrder ((assignEach ts X.env).map (·.2)) us) (λ_ s'=>∃ σ' H',Inv X pins σ' H' s'/\Q σ' H') X.xe s
abbrev Mg:=V->V->V->Hp->(Hp->Prop)->Prop
def Qx(X:Cx)(t:Mg):Prop :=
 ∀(pins:List (Addr×Obj))(s:Shared)(σ:St)(H:Hp)(o i v:V)(ov iv u:Value)(Q:Hp->Prop),Inv X pins σ H s->RelV o ov->RelV i iv->RelV v u->t o i v H Q->
  wpAny (model X.prog X.w) X.A (setItem ov iv u) (λ_ s'=>∃ H',Inv X pins σ H' s'/\Q H') X.xe s
abbrev TIp:=V->V->Hp->VK->Prop
def PIp(X:Cx)(op:Operator)(t:TIp):Prop :=
 ∀(pins:List (Addr×Obj))(s:Shared)(σ:St)(H:Hp)(x y:V)(v u:Value)(Q:VK),Inv X pins σ H s->RelV x v->RelV y u->t x y H Q->
  wpAny (model X.prog X.w) X.A (inplaceOp op v u) (EP X pins σ Q) X.xe s
def De(i:Nat):TG:=λv σ H Q=>Q (σ.set i (some v)) H
theorem Dg(c:X.N.Nodup)(hi:X.N[i]?=some x)(a:Loc X.env.scope x)(b:X.fn x=true\/X.env.scope.names.lookup x=some .local:=by first | exact .inl rfl | exact .inr rfl | assumption):PG X (.Name x pos) (De i):=by
 intro pins s σ H v u Q I r h;exact wpAny_assign_Name (HL I c hi a r (λs' d=>⟨_,H,d,h⟩) b)
def Ch:TGs:=λvs σ H Q=>vs=[]/\Q σ H
def BT(t:TG)(u:TGs):TGs:=λvs σ H Q=>∃ v r,vs=v::r/\t v σ H λσ' H'=>u r σ' H' Q
theorem Jy:PGs X [] Ch:=by
 intro pins s σ H vs a Q I r h;obtain⟨e,h⟩:=h;subst e;cases r;exact assignInOrder_nil ⟨σ,H,I,h⟩
theorem Er(h1:PG X e t)(h2:PGs X es u)(d:(assignEach (e::es) X.env).map (·.2)=assign e X.env::(assignEach es X.env).map (·.2):=by rfl):PGs X (e::es) (BT t u):=by
 intro pins s σ H vs i Q I r h;obtain⟨v,vr,c,h⟩:=h;subst c;cases r with
 | cons r g =>
  rw[d];refine assignInOrder_cons (thn (h1 pins s σ H _ _ _ I r h) λ_ b a=>?_);obtain⟨σ1,H1,f,q1⟩:=a;exact h2 pins b σ1 H1 _ _ Q f g q1
def Cl(K:PySem.W.Frag)(n:Nat)(t:TGs):TG:=λv σ H Q=>∃ a xs,v=.ref a/\SqT K H a xs/\xs.length=n/\t xs σ H Q
theorem Jz{pos:Pos}{k:Nat}(hc:X.calm=true)(h:PGs X es t)(m:(assignEach es X.env).length=n:=by rfl)(c:(assignEach es X.env).findIdx? (·.1)=none:=by rfl):PG X (.Tuple es k pos) (Cl X.K n t):=by
 intro pins s σ H v u Q I r hw;obtain⟨a,xs,f,i,hl,hw⟩:=hw;subst f;cases r;obtain⟨l,d,p,q⟩:=I.tuple i;refine assign_Tuple_tuple (I.ok.hd hc) p (by simp[m,<- hl,d.length]) c λh' j=>?_;have g:Inv X pins σ H {s with heap:=h'}:=I.kept λb o e=>j b o (Ys (Qn e)) e;exact h pins _ σ H xs _ Q g (by simpa using d) hw
def bH(to ti:TE)(t:Mg):TG:=λv σ H Q=>to σ H λo H1=>ti σ H1 λi H2=>t o i v H2 λH3=>Q σ H3
theorem bI(m:PE X o to)(hi:PE X i f)(k:Qx X t)(z:∀ v,assign (.Subscript o i pos) X.env v=(do
   let a <- holding [v] (eval o X.env)
   let b <- holding [v,a] (eval i X.env)
   standAt pos
   holding [v,a,b] (setItem a b v)
   release [v,a,b] []):=by intro _;rfl):PG X (.Subscript o i pos) (bH to f t):=by
 intro pins s σ H v u Q I r h;refine Qk (wpAny_holding (thn (m pins s σ H _ I h) λa j d=>?_));obtain⟨x,H1,p,r1,q1⟩:=d;refine Qk (wpAny_holding (thn (hi pins j σ H1 _ p q1) λb g c=>?_));obtain⟨y,H2,w,l,q2⟩:=c;refine Qk (wpAny_standAt (Qk (wpAny_holding (thn (k pins g σ H2 x y v a b u _ w r1 l r q2) λ_ A e=>?_))));obtain⟨q,n,q3⟩:=e;exact wpAny_release ⟨σ,q,n,q3⟩
def Mh(te:TE)(g:TG):TS:=λD σ H=>te σ H λx H1=>g x σ H1 D.nx
theorem Qy{pos:Pos}(i:PE X e te)(b:PG X tg g)(d:swapsWithSole [tg] e pos.line X.env=pure false:=by rfl)(hw:swappedStores [tg] e X.env=pure none:=by rfl)(h1:(assignEach [tg] X.env).map (·.2)=[assign tg X.env]:=by rfl):PS X (.Assign [tg] e pos) (Mh te g):=by
 intro pins s σ H D I h;refine wpAny_Assign_stores (thn (i pins s σ H _ I h) λv c a=>?_) d hw;obtain⟨x,H1,f,r1,q1⟩:=a;rw[h1];exact thn (b pins c σ H1 x v _ f r1 q1) λ_ j q=>q
theorem bJ{pos:Pos}(f:X.N.Nodup)(hi:X.N[i]?=some x)(j:Loc X.env.scope x)(g:PE X e te)(b:swapsWith e (some (.Name x pos')) pos.line X.env=pure false:=by rfl)(d:X.fn x=true\/X.env.scope.names.lookup x=some .local:=by first | exact .inl rfl | exact .inr rfl | assumption):
  PS X (.Assign [.Name x pos'] e pos) (Mh te (De i)):=by
 intro pins s σ H D I h;refine wpAny_Assign_Name (thn (g pins s σ H _ I h) λv l a=>?_) b;obtain⟨y,H1,c,r1,q1⟩:=a;exact HL c f hi j r1 (λm k=>⟨_,H1,k,q1⟩) d
def bK(i:Nat)(te:TE)(ti:TIp):TS:=λD σ H=>∃ x,σ[i]?=some (some x)/\te σ H λy H1=>ti x y H1 λz H2=>D.nx (σ.set i (some z)) H2
theorem bL(J:X.N.Nodup)(hi:X.N[i]?=some x)(o:Loc X.env.scope x)(K:PE X e te)(P:PIp X op p)(Q:X.fn x=true\/X.env.scope.names.lookup x=some .local:=by first | exact .inl rfl | exact .inr rfl | assumption):
  PS X (.AugAssign (.Name x pos') op e pos) (bK i te p):=by
 intro pins s σ H D I h;obtain⟨v,F,h⟩:=h;obtain⟨m,B,hl⟩:=I.loc;have n:Vis X.env.scope x:=by rcases o with k | k;exact .inl k;exact .inr (.inl k)
 obtain⟨u,r,l⟩:=hl i x v hi F n;refine wpAny_AugAssign_Name ?_
 have go:wpAny (model X.prog X.w) X.A (eval e X.env) (λw j=>wpAny (model X.prog X.w) X.A (inplaceOp op u w) (λr g=>wpAny (model X.prog X.w) X.A (storeName X.env x r) (λ_=>SP X pins D .next) X.xe g) X.xe j) X.xe s:=by
  refine thn (K pins s σ H _ I h) λw O f=>?_;obtain⟨y,H1,G,r1,q1⟩:=f;refine thn (P pins O σ H1 v y u w _ G r r1 q1) λz S d=>?_;obtain⟨T,H2,L,E,q2⟩:=d;exact HL L J hi o E (λR q=>⟨_,H2,q,q2⟩) Q
 rcases l with⟨a,t⟩|⟨a,c,hc,b⟩
 ·exact wpAny_loadName_local I.ok.kind a B t go
 ·rcases a with a | a
  ·exact wpAny_loadName_cell I.ok.kind a hc b go
  ·rcases o with k | k
   ·have:X.env.scope.names.lookup x=some .free:=a;rw[k]at this;cases this
   ·have:X.env.scope.names.lookup x=some .free:=a;rw[k]at this;cases this
def bM(c:TT)(tb:TS):TS:=λD σ H=>∃ W:Nat->St->Hp->Prop,(∃ m,W m σ H)/\∀ m σ H,W m σ H->
 c σ H λb H1=>if b=true then ∃ N:St->Hp->Prop,(∀ σ' H',N σ' H'->∃ m',m' < m/\W m' σ' H')/\tb {D with nx:=N,ct:=N,bk:=D.nx} σ H1 else D.nx σ H1
theorem bN(m:PassesOwn (model X.prog X.w) X.A X.env X.xe)(hc:PT X c tc)(p:PSs X body tb):PS X (.While c body [] pos) (bM tc tb):=by
 intro pins s σ H D I h;obtain⟨W,⟨y,t⟩,d⟩:=h;refine wpAny_While (codeAny_whileLoop (λn s'=>∃ σ' H',Inv X pins σ' H' s'/\W n σ' H') ?_ y ⟨σ,H,I,t⟩);rintro n q ⟨σ1,H1,u,x⟩;refine wpAny_passesOwn m (thn (hc pins q σ1 H1 _ u (d n σ1 H1 x)) λb r a=>?_);obtain⟨H2,o,q2⟩:=a;cases b with
 | true =>
  obtain⟨N,l,q2⟩:=q2;refine wpAny_passesOwn m (thn (p pins r σ1 H2 _ o q2) λf z q3=>?_);cases f with
  | next|cont=>
   obtain⟨σ3,e,i,n3⟩:=q3;obtain⟨g,j,k⟩:=l σ3 e n3;exact⟨g,j,σ3,e,i,k⟩
  | brk|ret v=>exact q3
 | false =>
  exact wpAny_execs_nil ⟨σ1,H2,o,q2⟩
structure It where
 go:Nat->Hp->Prop
 yld:Nat->Hp->V->Hp->Prop
 stop:Nat->Hp->Prop
def DB(X:Cx)(pins:List (Addr×Obj))(H:Hp)(b:Addr):Prop :=
 H b=none/\b≠X.env.locals/\b∉X.fs/\(b∈X.ex\/X.s₀.heap.objs.size<=b)/\(∀ x c,X.env.cells.lookup x=some c->c≠b)/\∀ p∈X.pn++pins,p.1≠b
theorem Inv.fpOk{σ:St}{b:Addr}(I:Inv X pins σ H s)(a:s.heap.objs.size<=b)(d:H' b=none):DB X pins H' b:=by
 refine⟨d,Nat.ne_of_gt (Yu I.lt a),I.nofs a,.inr (Yt I.sz a),λx c e z=>?_,λp f z=>?_⟩
 ·obtain⟨v,q⟩:=I.cell x c e;exact Qj (Yu q.lt (by rw[z];exact a)) (YJ _)
 ·exact Qj (Yu (Qn (I.pin p f).1) (by rw[z];exact a)) (YJ _)
structure Es(P:Program)(w:World)(K:PySem.W.Frag)(tg:Expr)(J:It)(fp:List Addr)(it:Addr)(tn:Nat->Heap->Prop):Prop where
 mem:it∈fp
 obj:∀ i h,tn i h->∀ b∈fp,∃ o,h.get? b=some o/\∀ v,o.data≠.cell v
 keep:∀ i h h',tn i h->(∀ b∈fp,∀ o,h.get? b=some o->h'.get? b=some o)->tn i h'
 item:∀(X:Cx),X.prog=P->X.w=w->X.K=K->X.calm=true->∀(i:Nat)(pins:List (Addr×Obj))(s:Shared)(σ:St)(H:Hp)(E:Value->Shared->Prop),Inv X pins σ H s->(∀ b∈fp,DB X pins H b)->tn i s.heap->J.go i H->
  wpAny (model P w) X.A (pyNext (.ref it)) (λr s1=>∃ u,r=some u/\
   wpAny (model P w) X.A (letOwnedTupleGo tg (.ref it) u) (λ_ s2=>∃ x H',Inv X pins σ H' s2/\RelV x u/\J.yld i H x H'/\tn (i+1) s2.heap/\∀ b∈fp,H' b=none) E s1) E s
 done:∀(X:Cx),X.prog=P->X.w=w->X.K=K->X.calm=true->∀(i:Nat)(pins:List (Addr×Obj))(s:Shared)(σ:St)(H:Hp)(E:Value->Shared->Prop),Inv X pins σ H s->(∀ b∈fp,DB X pins H b)->tn i s.heap->J.stop i H->
  wpAny (model P w) X.A (pyNext (.ref it)) (λr s1=>r=none/\Inv X pins σ H s1) E s
 self:∀(A:Around)(i:Nat)(s:Shared)(Q:Value->Shared->Prop)(E:Value->Shared->Prop),tn i s.heap->Q (.ref it) s->wpAny (model P w) A (pyIter (.ref it)) Q E s
abbrev TI:=St->Hp->(It->Hp->Prop)->Prop
def PIE(X:Cx)(pins:List (Addr×Obj))(σ:St)(tg:Expr)(R:It->Hp->Prop)(itv:Value)(s2:Shared):Prop :=
 ∃(it:Addr)(fp:List Addr)(tn:Nat->Heap->Prop)(J:It)(H':Hp),itv=.ref it/\Inv X pins σ H' s2/\Es X.prog X.w X.K tg J fp it tn/\tn 0 s2.heap/\(∀ b∈fp,DB X pins H' b)/\R J H'
def PI(X:Cx)(tg iter:Expr)(wi:TI):Prop :=
 ∀(pins:List (Addr×Obj))(s:Shared)(σ:St)(H:Hp)(R:It->Hp->Prop),Inv X pins σ H s->wi σ H R->
  wpAny (model X.prog X.w) X.A (eval iter X.env) (λv s1=>wpAny (model X.prog X.w) X.A (pyIter v) (PIE X pins σ tg R) X.xe s1) X.xe s
theorem Mi(c:s.heap.get? it=some o)(hc:o.cls=.type n)(hd:o.data=.fields vs)(b:["enumerate","zip","dict_itemiterator","dict_reverseitemiterator","odict_iterator","itertools.zip_longest","itertools.pairwise"].contains n=false)(a:Q () s):wpAny M A (letOwnedTupleGo tg (.ref it) u) Q E s:=by
 cases tg <;> first
  | exact Ql a
  |(cases u <;> first
    | exact Ql a
    |(refine Qk (wpAny_load c ?_)
      rw[hc,hd]
      show wpAny M A (if(["enumerate","zip","dict_itemiterator","dict_reverseitemiterator","odict_iterator","itertools.zip_longest","itertools.pairwise"].contains n&&vs[0]?==some (rawInt _))=true then _ else _) Q E s
      rw[if_neg (by intro h;rw[b]at h;cases h)]
      exact Ql a))
def Itl(K:PySem.W.Frag)(a:Addr):It :=
 ⟨λi H=>∃ xs x,SqL K H a xs/\xs[i]?=some x,λi H x H'=>H'=H/\∀ xs,SqL K H a xs->xs[i]?=some x,λi H=>∃ xs,SqL K H a xs/\xs.length<=i⟩
def Itt(K:PySem.W.Frag)(a:Addr):It :=
 ⟨λi H=>∃ xs x,SqT K H a xs/\xs[i]?=some x,λi H x H'=>H'=H/\∀ xs,SqT K H a xs->xs[i]?=some x,λi H=>∃ xs,SqT K H a xs/\xs.length<=i⟩
def Itr(lo:Int)(n:Nat):It:=⟨λi _=>i < n,λi H x H'=>H'=H/\x=.int (lo+i),λi _=>n<=i⟩
theorem Qz{K:PySem.W.Frag}(a it:Addr):Es P w K tg (Itl K a) [it] it (λi h=>h.IsListIter it a i) where
 mem:=by simp
 obj:=λi h st b f=>by
  have e:b=it:=by simpa using f
  subst e;obtain⟨o,e,c,d⟩:=st;exact⟨o,e,λv z=>by rw[d]at z;cases z⟩
 keep:=λi h h' st k=>st.at λo e=>k it (by simp) o e
 item:=by
  intro X r hw A hc i pins s σ H E I l st y;subst r hw A;obtain⟨xs,x,j,F⟩:=y;obtain⟨t,D,p,Q⟩:=I.list j;obtain⟨u,N,O⟩:=D.get F;obtain⟨q,G,R,B,m,n⟩:=l it (by simp);refine wpAny_pyNext_list_item st p.isList (by simpa using N) λh' g L=>?_;have J:Inv X pins σ H {s with heap:=h'}:=I.turned (λb o f e=>(L.2 b f).trans e) q G B m n;obtain⟨o,e,c,d⟩:=id g;exact⟨u,rfl,Mi e c d (by decide) ⟨x,H,J,O,⟨rfl,λys S=>by rw[I.list_inj S j];exact F⟩,g,λb f=>(l b f).1⟩⟩
 done:=by
  intro X r hw A hc i pins s σ H E I l st y;subst r hw A;obtain⟨xs,j,F⟩:=y;obtain⟨t,D,p,Q⟩:=I.list j;obtain⟨q,G,R,B,m,n⟩:=l it (by simp);have hl:=D.length;exact wpAny_pyNext_list_end (I.ok.hd hc) st p.isList (by simp;lia) λh' eb=>⟨rfl,I.turned (λb o f e=>eb b o f e) q G B m n⟩
 self:=λ_ _ _ _ _ st h=>wpAny_pyIter_listiter st h
theorem QA{K:PySem.W.Frag}(a it:Addr):Es P w K tg (Itt K a) [it] it (λi h=>h.IsTupleIter it a i) where
 mem:=by simp
 obj:=λi h st b f=>by
  have e:b=it:=by simpa using f
  subst e;obtain⟨o,e,c,d⟩:=st;exact⟨o,e,λv z=>by rw[d]at z;cases z⟩
 keep:=λi h h' st k=>st.at λo e=>k it (by simp) o e
 item:=by
  intro X r hw A hc i pins s σ H E I l st y;subst r hw A;obtain⟨xs,x,j,F⟩:=y;obtain⟨t,D,p,Q⟩:=I.tuple j;obtain⟨u,N,O⟩:=D.get F;obtain⟨q,G,R,B,m,n⟩:=l it (by simp);refine wpAny_pyNext_tuple_item st (p) (by simpa using N) λh' g L=>?_;have J:Inv X pins σ H {s with heap:=h'}:=I.turned (λb o f e=>(L.2 b f).trans e) q G B m n;obtain⟨o,e,c,d⟩:=id g;exact⟨u,rfl,Mi e c d (by decide) ⟨x,H,J,O,⟨rfl,λys S=>by rw[I.tuple_inj S j];exact F⟩,g,λb f=>(l b f).1⟩⟩
 done:=by
  intro X r hw A hc i pins s σ H E I l st y;subst r hw A;obtain⟨xs,j,F⟩:=y;obtain⟨t,D,p,Q⟩:=I.tuple j;obtain⟨q,G,R,B,m,n⟩:=l it (by simp);have hl:=D.length;exact wpAny_pyNext_tuple_end (I.ok.hd hc) st (p) (by simp;lia) λh' eb=>⟨rfl,I.turned (λb o f e=>eb b o f e) q G B m n⟩
 self:=λ_ _ _ _ _ st h=>wpAny_pyIter_tupleiter st h
theorem bO{K:PySem.W.Frag}(it:Addr)(lo:Int)(n:Nat):Es P w K tg (Itr lo n) [it] it (λi h=>IsRangeIter h it (lo+(i:Nat)*1) ((n:Int) -(i:Nat)) 1) where
 mem:=by simp
 obj:=λi h st b a=>by
  have e:b=it:=by simpa using a
  subst e
  exact⟨_,st,λv z=>by
   have x:=z;cases x⟩
 keep:=λi h h' st k=>k it (by simp) _ st
 item:=by
  intro X r hw q hc i pins s σ H E I d st g;subst r hw q;obtain⟨l,m,B,p,f,j⟩:=d it (by simp);have W:=Walks.range (prog:=X.prog) (w:=X.w) (I.ok.hd hc) it lo 1 n;refine W.item i s _ _ g st λv h' tk y c u=>?_;obtain⟨t,rfl⟩:=y;have A:Inv X pins σ H {s with heap:=h',toks:=tk}:=I.turned (λb o a e=>u b o (by simpa using a) e) l m p f j;refine⟨_,rfl,Mi c rfl rfl (by decide) ⟨.int (lo+i),H,A,⟨t,?_⟩,⟨rfl,rfl⟩,c,λb a=>(d b a).1⟩⟩;rw[Int.mul_one]
 done:=by
  intro X r hw q hc i pins s σ H E I d st g;obtain⟨l,m,B,p,f,j⟩:=d it (by simp);exact wpAny_pyNext_range_end (I.ok.hd hc) st (by have:n<=i:=g;lia) λh' eb=>⟨rfl,I.turned (λb o a e=>eb b o a e) l m p f j⟩
 self:=λ_ _ _ _ _ st h=>wpAny_pyIter_rangeiter st h
theorem bP{σ:St}{lo:Int}(I:Inv X pins σ H s)(h1:-(2 ^ 62)<=lo)(h2:lo < 2 ^ 62)(h:-(2 ^ 62)<=hi)(f:hi < 2 ^ 62)(q:R (Itr lo (hi - lo).toNat) H):wpAny (model X.prog X.w) X.A (pyIter (.ref s.heap.objs.size)) (PIE X pins σ tg R) E {s with heap:=s.heap.push {cls:=.type "range",data:=.fields #[.int lo t,.int hi u,.int 1 v]},toks:=tk}:=by
 refine wpAny_pyIter_range (IsRange.new ..) (small_one h1 h2 h f) ?_;have a:Inv X pins σ H {s with heap:=s.heap.push {cls:=.type "range",data:=.fields #[.int lo t,.int hi u,.int 1 v]},toks:=tk}:=I.kept λb o e=>Qm _ e
 refine⟨(s.heap.push {cls:=.type "range",data:=.fields #[.int lo t,.int hi u,.int 1 v]}).objs.size,[(s.heap.push {cls:=.type "range",data:=.fields #[.int lo t,.int hi u,.int 1 v]}).objs.size],_,_,H,rfl,
  a.kept λb o e=>Qm _ e,bO _ lo (hi - lo).toNat,?_,λb c=>?_,q⟩
 ·have g:lo+((0:Nat):Int)*1=lo:=by simp
  have d:(((hi - lo).toNat:Nat):Int) -((0:Nat):Int)=Builtin.Range.rangeSize lo hi 1:=by rw[rangeSize_one];split <;> lia
  rw[g,d];exact Qo _ rfl
 ·have e:b=(s.heap.push {cls:=.type "range",data:=.fields #[.int lo t,.int hi u,.int 1 v]}).objs.size:=by simpa using c
  subst e;exact a.fpOk (Yr _) (a.hok.fresh (Yr _))
def bQ(ta:TA):TI:=λσ H R=>ta σ H λvs H1=>∃ j:Int,vs=[.int j]/\-(2 ^ 62)<=j/\j < 2 ^ 62/\R (Itr 0 j.toNat) H1
theorem bR(c:Gl X "range")(g:X.mg "range"=none)(d:PA X [a] ta)(f:starEach [a] X.env=[(false,eval a X.env)]:=by rfl):PI X tg (.Call (.Name "range" p) [a] [] pos) (bQ ta):=by
 intro pins s σ H R I h;refine Call_ (EY I c g boot_range (Qb (thn (d pos pins s σ H _ I h) λl m b=>?_) f rfl));obtain⟨vs,H1,i,r1,q1⟩:=b;obtain⟨j,e,q1,q2,q⟩:=q1;subst e;cases r1 with
 | cons r k =>
  cases k;obtain⟨t,rfl⟩:=r;exact call_range_1 (bP i (by lia) (by lia) q1 q2 (by simpa using q))
def bS(wi:TI)(g:TG)(tb:TS):TS:=λD σ H=>wi σ H λJ H1=>∃ W:Nat->Nat->St->Hp->Prop,(∃ m,W 0 m σ H1)/\∀ i m σ H,W i m σ H->
 (J.stop i H/\D.nx σ H)\/(J.go i H/\∃ N:St->Hp->Prop,(∀ σ' H',N σ' H'->∃ m',m' < m/\W (i+1) m' σ' H')/\∀ x H',J.yld i H x H'->g x σ H' λσ2 H2=>tb {D with nx:=N,ct:=N,bk:=D.nx} σ2 H2)
def GF(fp:List Addr)(h:Heap):List (Addr×Obj):=fp.filterMap λb=>(h.get? b).map λo=>(b,o)
theorem HM(c:b∈a)(e:h.get? b=some o):(b,o)∈GF a h:=List.mem_filterMap.mpr ⟨b,c,by rw[e];rfl⟩
theorem bT(f:p∈GF a h):p.1∈a/\h.get? p.1=some p.2:=by
 obtain⟨b,c,e⟩:=List.mem_filterMap.mp f;cases q:h.get? b with
 | none=>rw[q]at e;cases e
 | some o =>
  rw[q]at e;have d:=YE e;subst d;exact⟨c,q⟩
theorem Inv.pinned{σ:St}(I:Inv X pins σ H s)(j:∀ b∈a,DB X pins H b)(i:∀ b∈a,∃ o,s.heap.get? b=some o/\∀ v,o.data≠.cell v):Inv X (pins++GF a s.heap) σ H s :=
 I.pins_of λp l=>(Yz.mp l).elim (λz=>I.pin p (YL _ z)) λz=>by
  obtain⟨c,e⟩:=bT z;obtain⟨h,g,k,_⟩:=j p.1 c;obtain⟨o,f,d⟩:=i p.1 c;rw[e]at f;cases f;exact⟨e,h,g,k,d⟩
theorem Inv.unpinned{σ:St}(I:Inv X (pins++pl) σ H s):Inv X pins σ H s:=I.pins_of λp a=>I.pin p (YL _ (YK _ a))
theorem bU(B:PassesOwn (model X.prog X.w) X.A X.env X.xe)(hc:X.calm=true)(hi:PI X tg iter wi)(hg:PG X tg g)(l:PSs X body tb)(hs:∀ x,foldedSetIterable iter X.env x=pure x:=by intro _;rfl):PS X (.For tg iter body [] pos) (bS wi g tb):=by
 intro pins s σ H D I h;refine wpAny_For (thn (hi pins s σ H _ I h) λv s1 h1=>thn h1 λitv s2 h2=>?_) hs;obtain⟨it,L,tn,J,H2,e,I2,T,Q,f2,W,⟨m0,w0⟩,F⟩:=h2;subst e;have a:∀{H':Hp},(∀ b∈L,H' b=none)->∀ b∈L,DB X pins H' b:=λhn b l=>⟨hn b l,(f2 b l).2⟩;refine codeAny_forLoop_any (λn s'=>∃ i σ' H',Inv X pins σ' H' s'/\tn i s'.heap/\(∀ b∈L,H' b=none)/\W i n σ' H') ?_ m0 ⟨0,σ,H2,I2,Q,λb l=>(f2 b l).1,w0⟩;rintro n Y ⟨i,σ3,O,I3,G,K,w3⟩;rcases F i n σ3 O w3 with⟨stop,qn⟩|⟨go,N,hN,step⟩
 ·refine wpAny_passesOwn B (thn (T.done X rfl rfl rfl hc i pins Y σ3 O X.xe I3 (a K) G stop) λr s4 t=>?_);obtain⟨P,I4⟩:=t;subst P;exact wpAny_execs_nil ⟨σ3,O,I4,qn⟩
 ·refine wpAny_passesOwn B (thn (T.item X rfl rfl rfl hc i pins Y σ3 O X.xe I3 (a K) G go) λr s4 y=>?_);obtain⟨u,P,h4⟩:=y;subst P;refine wpAny_passesOwn B (thn h4 λ_ s5 q=>?_);obtain⟨x,Z,I5,r5,y5,p,U⟩:=q;have R:=I5.pinned (a U) (T.obj _ _ p);refine wpAny_passesOwn B (thn (hg _ s5 σ3 Z x u _ R r5 (step x Z y5)) λ_ s6 E=>?_);obtain⟨σ6,H6,I6,q6⟩:=E;refine wpAny_passesOwn B (thn (l _ s6 σ6 H6 _ I6 q6) λf S q7=>?_)
  have c:∀{σ7:St}{j:Hp},Inv X (pins++GF L s5.heap) σ7 j S->N σ7 j->∃ m,m < n/\∃ i σ' H',Inv X pins σ' H' S/\tn i S.heap/\(∀ b∈L,H' b=none)/\W i m σ' H':=λ{σ7 j}k z=>by
   obtain⟨m',hm,w7⟩:=hN σ7 j z;refine⟨m',hm,i+1,σ7,j,k.unpinned,T.keep _ _ _ p λb l o e=>(k.pin (b,o) (YL _ (YL _ (HM l e)))).1,λb l=>?_,w7⟩;obtain⟨o,e,d⟩:=T.obj _ _ p b l;exact(k.pin (b,o) (YL _ (YL _ (HM l e)))).2.1
  cases f with
  | next|cont=>obtain⟨σ7,j,k,z⟩:=q7;exact c k z
  | brk=>obtain⟨σ7,j,k,q7⟩:=q7;exact⟨σ7,j,k.unpinned,q7⟩
  | ret v=>obtain⟨x7,σ7,j,k,r7,q7⟩:=q7;exact⟨x7,σ7,j,k.unpinned,r7,q7⟩
abbrev R2:=V->V->Hp->VK->Prop
def OpR(X:Cx)(f:Value->Value->Sem Value)(r:R2):Prop :=
 ∀(pins:List (Addr×Obj))(s:Shared)(σ:St)(H:Hp)(x y:V)(v u:Value)(Q:VK),Inv X pins σ H s->RelV x v->RelV y u->r x y H Q->
  wpAny (model X.prog X.w) X.A (f v u) (EP X pins σ Q) X.xe s
def UnR(X:Cx)(f:Value->Sem Value)(r:V->Hp->VK->Prop):Prop :=
 ∀(pins:List (Addr×Obj))(s:Shared)(σ:St)(H:Hp)(x:V)(v:Value)(Q:VK),Inv X pins σ H s->RelV x v->r x H Q->
  wpAny (model X.prog X.w) X.A (f v) (EP X pins σ Q) X.xe s
def CallR(X:Cx)(f:Value)(r:List V->Hp->VK->Prop):Prop :=
 ∀(pins:List (Addr×Obj))(s:Shared)(σ:St)(H:Hp)(xs:List V)(us:List Value)(Q:VK),Inv X pins σ H s->Vals xs us->r xs H Q->
  wpAny (model X.prog X.w) X.A (call f us) (EP X pins σ Q) X.xe s
def bV(X:Cx)(r:V->Hp->(Bool->Hp->Prop)->Prop):Prop :=
 ∀(pins:List (Addr×Obj))(s:Shared)(σ:St)(H:Hp)(x:V)(v:Value)(Q:Bool->Hp->Prop),Inv X pins σ H s->RelV x v->r x H Q->
  wpAny (model X.prog X.w) X.A (truthy v) (TP X pins σ Q) X.xe s
def tOp(r:R2)(ta tb:TE):TE:=λσ H Q=>ta σ H λx H1=>tb σ H1 λy H2=>r x y H2 Q
def tUn(r:V->Hp->VK->Prop)(ta:TE):TE:=λσ H Q=>ta σ H λx H1=>r x H1 Q
def rI(C:Int->Int->Prop)(g:Int->Int->V):R2:=λx y H Q=>∃ i j,x=.int i/\y=.int j/\C i j/\Q (g i j) H
def rI0(g:Int->Int->V):R2:=λx y H Q=>∃ i j,x=.int i/\y=.int j/\Q (g i j) H
def rU(g:Int->V):V->Hp->VK->Prop:=λx H Q=>∃ i,x=.int i/\Q (g i) H
theorem Mj(k:PE X a ta)(j:PE X b tb){σ:St}{R:V->V->Hp->Prop}(I:Inv X pins σ H s)(h:ta σ H λx H1=>tb σ H1 λy H2=>R x y H2){f:Value->Value->Sem Value}(n:∀ v u i x y H2,Inv X pins σ H2 i->RelV x v->RelV y u->R x y H2->wpAny (model X.prog X.w) X.A (f v u) Q X.xe i):
  wpAny (model X.prog X.w) X.A (eval a X.env) (λv g=>wpAny (model X.prog X.w) X.A (eval b X.env) (λu e=>wpAny (model X.prog X.w) X.A (f v u) Q X.xe e) X.xe g) X.xe s:=by
 refine thn (k pins s σ H _ I h) λv l d=>?_;obtain⟨x,H1,m,r1,q1⟩:=d;refine thn (j pins l σ H1 _ m q1) λu i c=>?_;obtain⟨y,H2,o,p,q2⟩:=c;exact n v u i x y H2 o r1 p q2
theorem bW(g:OpR X (binaryOp op) r)(d:PE X a ta)(c:PE X b tb):PE X (.BinOp a op b pos) (tOp r ta tb):=by
 intro pins s σ H Q I h;exact wpAny_BinOp (Mj d c I h λv u e x y H2 j i f q=>g pins e σ H2 x y v u Q j i f q)
theorem bX(d:UnR X (unaryOp op) r)(c:PE X a ta):PE X (.UnaryOp op a pos) (tUn r ta):=by
 intro pins s σ H Q I h;exact UnaryOp_ (thn (c pins s σ H _ I h) (by rintro v e ⟨x,H1,b,r1,q1⟩;exact d pins e σ H1 x v Q b r1 q1))
theorem opI{g:Int->Int->Int}(a:∀(i j:Int)(t u:Tok)(s:Shared)(Q:Value->Shared->Prop)(E:Value->Shared->Prop),C i j->Q (.int (g i j) s.toks) {s with toks:=s.toks+1}->wpAny (model X.prog X.w) X.A (f (.int i t) (.int j u)) Q E s):
  OpR X f (rI C λi j=>.int (g i j)):=by
 intro pins s σ H x y v u Q I c b h;obtain⟨i,j,rfl,rfl,hc,q⟩:=h;obtain⟨t,rfl⟩:=c;obtain⟨t',rfl⟩:=b;exact a i j t t' s _ _ hc ⟨.int (g i j),H,I.tok _,⟨_,rfl⟩,q⟩
theorem QB{g:Int->Int->Int}(a:∀(i j:Int)(t u:Tok)(s:Shared)(Q:Value->Shared->Prop)(E:Value->Shared->Prop),Q (.int (g i j) s.toks) {s with toks:=s.toks+1}->wpAny (model X.prog X.w) X.A (f (.int i t) (.int j u)) Q E s):
  OpR X f (rI0 λi j=>.int (g i j)):=by
 intro pins s σ H x y v u Q I c b h;obtain⟨i,j,rfl,rfl,q⟩:=h;obtain⟨t,rfl⟩:=c;obtain⟨t',rfl⟩:=b;exact a i j t t' s _ _ ⟨.int (g i j),H,I.tok _,⟨_,rfl⟩,q⟩
theorem JA{g:Int->Int->Bool}(a:∀(i j:Int)(t u:Tok)(s:Shared)(Q:Value->Shared->Prop)(E:Value->Shared->Prop),Q (.bool (g i j)) s->wpAny (model X.prog X.w) X.A (f (.int i t) (.int j u)) Q E s):
  OpR X f (rI0 λi j=>.bl (g i j)):=by
 intro pins s σ H x y v u Q I c b h;obtain⟨i,j,rfl,rfl,q⟩:=h;obtain⟨t,rfl⟩:=c;obtain⟨t',rfl⟩:=b;exact a i j t t' s _ _ ⟨.bl (g i j),H,I,rfl,q⟩
theorem bY(a:0 < y)(h:y < 1267650600228229401496703205376):Builtin.divisionGoesByPylong x y=false:=by
 refine PyProof.noPylong_of_log2 ?_;have h1:y.natAbs≠0:=by lia
 have h2:y.natAbs.log2 < 100:=(Nat.log2_lt h1).mpr (by lia);lia
def FN(i j:Int):Prop:=0 < j/\j < 1267650600228229401496703205376
def EZ(i j:Int):Prop:=0<=j/\j<=1000000/\i.natAbs < 2 ^ 64
def CMul(i j:Int):Prop:=(-(2 ^ 64) < i/\i < 2 ^ 64)\/(-(2 ^ 64) < j/\j < 2 ^ 64)
theorem CMul.ok(h:CMul i j):IntMulOk i j:=by
 rcases h with⟨h1,h2⟩|⟨h1,h2⟩
 ·exact .of_left (intBits_le_64 h1 h2)
 ·exact .of_right (intBits_le_64 h1 h2)
theorem bZ:OpR X (binaryOp .Add) (rI0 λi j=>.int (i+j)):=QB λ_ _ _ _ _ _ _ q=>add_int q
theorem b5:OpR X (binaryOp .Mult) (rI CMul λi j=>.int (i*j)):=opI λ_ _ _ _ _ _ _ hc q=>mul_int q hc.ok
theorem b6:OpR X (binaryOp .FloorDiv) (rI FN λi j=>.int (i / j)):=opI λi j _ _ _ _ _ hc q=>by
 have h1:=hc.1;have h2:=hc.2;exact floordiv_int (by lia) (by rw[Int.fdiv_eq_ediv_of_nonneg i (by lia)];exact q) (.inl (bY h1 h2))
theorem b7:OpR X (binaryOp .Mod) (rI (λ_ j=>0 < j) λi j=>.int (i % j)):=opI λi j _ _ _ _ _ hc q=>by
 exact mod_int' (by lia) (by rw[Int.fmod_eq_emod_of_nonneg i (by lia)];exact q)
theorem b8:OpR X (binaryOp .Pow) (rI EZ λi j=>.int (i ^ j.toNat)):=opI λ_ _ _ _ _ _ _ hc q=>pow_int_small hc.1 hc.2.1 hc.2.2 q
theorem b9:OpR X (inplaceOp .Add) (rI0 λi j=>.int (i+j)):=QB λ_ _ _ _ _ _ _ q=>iadd_int q
theorem unI{g:Int->Int}(a:∀(i:Int)(t:Tok)(s:Shared)(Q:Value->Shared->Prop)(E:Value->Shared->Prop),Q (.int (g i) s.toks) {s with toks:=s.toks+1}->wpAny (model X.prog X.w) X.A (f (.int i t)) Q E s):
  UnR X f (rU λi=>.int (g i)):=by
 intro pins s σ H x v Q I b h;obtain⟨i,rfl,q⟩:=h;obtain⟨t,rfl⟩:=b;exact a i t s _ _ ⟨.int (g i),H,I.tok _,⟨_,rfl⟩,q⟩
theorem cb:UnR X (unaryOp .USub) (rU λi=>.int (-i)):=unI λ_ _ _ _ _ q=>neg_int q
def FO:V->V->Bool
 | .non,.non=>true | .non,.int _=>true | .int _,.non=>true | .non,.bl _=>true | .bl _,.non=>true | .non,.str _=>true | .str _,.non=>true
 | .int _,.int _=>true | .bl _,.bl _=>true | .str _,.str _=>true | .byt _,.byt _=>true
 | .int _,.str _=>true | .str _,.int _=>true | .bl _,.str _=>true | .str _,.bl _=>true
 | _,_=>false
def rEq:R2:=λx y H Q=>FO x y=true/\Q (.bl (decide (x=y))) H
def rNe:R2:=λx y H Q=>FO x y=true/\Q (.bl (!decide (x=y))) H
theorem Ml:decide (V.int i=V.int j)=(i==j):=by
 rw[Bool.eq_iff_iff];simp
theorem Mm:decide (V.bl i=V.bl j)=(i==j):=by
 rw[Bool.eq_iff_iff];simp
theorem Mn:decide (V.str i=V.str j)=(i==j):=by
 rw[Bool.eq_iff_iff];simp
theorem QC:decide (V.byt i=V.byt j)=(i.toList==j.toList):=by
 rw[Bool.eq_iff_iff];cases i;cases j;simp
section
variable {b:Expr}{ta tb tc:TE}
theorem A6{σ:St}(I:Inv X pins σ H s)(q:Q (.bl k) H)(e:k=a):EP X pins σ Q (.bool a) s:=by
 subst e;exact⟨.bl k,H,I,rfl,q⟩
theorem cc:OpR X (compareOp .Eq) rEq:=by
 intro pins s σ H x y v u Q I c a h;obtain⟨b,q⟩:=h;cases x with
 | non =>
  cases c;cases y with
  | non=>cases a;exact PySem.EqNone.eq_none_none (A6 I q (by simp))
  | bl j=>cases a;exact PySem.EqNone.eq_none_bool (A6 I q (by simp))
  | int j=>obtain⟨t',rfl⟩:=a;exact PySem.EqNone.eq_none_int (A6 I q (by simp))
  | str j=>obtain⟨t',rfl⟩:=a;exact PySem.EqNone.eq_none_str (A6 I q (by simp))
  | _=>exact Qj (b) YS
 | bl i =>
  cases c;cases y with
  | non=>cases a;exact PySem.EqNone.eq_bool_none (A6 I q (by simp))
  | bl j=>cases a;exact eq_bool (A6 I q Mm)
  | str j=>obtain⟨t',rfl⟩:=a;exact PySem.EqMixed.eq_bool_str (A6 I q (by simp))
  | _=>exact Qj (b) YS
 | int i =>
  obtain⟨t,rfl⟩:=c;cases y with
  | non=>cases a;exact PySem.EqNone.eq_int_none (A6 I q (by simp))
  | int j=>obtain⟨t',rfl⟩:=a;exact eq_int (A6 I q Ml)
  | str j=>obtain⟨t',rfl⟩:=a;exact PySem.EqMixed.eq_int_str (A6 I q (by simp))
  | _=>exact Qj (b) YS
 | str i =>
  obtain⟨t,rfl⟩:=c;cases y with
  | non=>cases a;exact PySem.EqNone.eq_str_none (A6 I q (by simp))
  | bl j=>cases a;exact PySem.EqMixed.eq_str_bool (A6 I q (by simp))
  | int j=>obtain⟨t',rfl⟩:=a;exact PySem.EqMixed.eq_str_int (A6 I q (by simp))
  | str j=>obtain⟨t',rfl⟩:=a;exact eq_str (A6 I q Mn)
  | _=>exact Qj (b) YS
 | byt i =>
  obtain⟨t,rfl⟩:=c;cases y with
  | byt j=>obtain⟨t',rfl⟩:=a;exact PySem.W.eq_bytes (A6 I q QC)
  | _=>exact Qj (b) YS
 | _=>cases y <;> exact Qj (b) YS
theorem ce:OpR X (compareOp .NotEq) rNe:=by
 intro pins s σ H x y v u Q I c a h;obtain⟨b,q⟩:=h;cases x with
 | non =>
  cases c;cases y with
  | non=>cases a;exact PySem.EqNone.ne_none_none (A6 I q (by simp))
  | bl j=>cases a;exact PySem.EqNone.ne_none_bool (A6 I q (by simp))
  | int j=>obtain⟨t',rfl⟩:=a;exact PySem.EqNone.ne_none_int (A6 I q (by simp))
  | str j=>obtain⟨t',rfl⟩:=a;exact PySem.EqNone.ne_none_str (A6 I q (by simp))
  | _=>exact Qj (b) YS
 | bl i =>
  cases c;cases y with
  | non=>cases a;exact PySem.EqNone.ne_bool_none (A6 I q (by simp))
  | bl j=>cases a;exact ne_bool (A6 I q (Qg not Mm))
  | str j=>obtain⟨t',rfl⟩:=a;exact PySem.EqMixed.ne_bool_str (A6 I q (by simp))
  | _=>exact Qj (b) YS
 | int i =>
  obtain⟨t,rfl⟩:=c;cases y with
  | non=>cases a;exact PySem.EqNone.ne_int_none (A6 I q (by simp))
  | int j=>obtain⟨t',rfl⟩:=a;exact ne_int (A6 I q (Qg not Ml))
  | str j=>obtain⟨t',rfl⟩:=a;exact PySem.EqMixed.ne_int_str (A6 I q (by simp))
  | _=>exact Qj (b) YS
 | str i =>
  obtain⟨t,rfl⟩:=c;cases y with
  | non=>cases a;exact PySem.EqNone.ne_str_none (A6 I q (by simp))
  | bl j=>cases a;exact PySem.EqMixed.ne_str_bool (A6 I q (by simp))
  | int j=>obtain⟨t',rfl⟩:=a;exact PySem.EqMixed.ne_str_int (A6 I q (by simp))
  | str j=>obtain⟨t',rfl⟩:=a;exact ne_str (A6 I q (Qg not Mn))
  | _=>exact Qj (b) YS
 | byt i =>
  obtain⟨t,rfl⟩:=c;cases y with
  | byt j=>obtain⟨t',rfl⟩:=a;exact PySem.W.ne_bytes (A6 I q (Qg not QC))
  | _=>exact Qj (b) YS
 | _=>cases y <;> exact Qj (b) YS
theorem cf:OpR X (compareOp .Lt) (rI0 λi j=>.bl (decide (i < j))):=JA λ_ _ _ _ _ _ _ q=>lt_int q
theorem cg:OpR X (compareOp .LtE) (rI0 λi j=>.bl (decide (i<=j))):=JA λ_ _ _ _ _ _ _ q=>le_int q
theorem ci:OpR X (compareOp .Gt) (rI0 λi j=>.bl (decide (j < i))):=JA λ_ _ _ _ _ _ _ q=>gt_int q
theorem cj:OpR X (compareOp .GtE) (rI0 λi j=>.bl (decide (j<=i))):=JA λ_ _ _ _ _ _ _ q=>ge_int q
theorem ck:OpR X (compareOp .Lt) (λx y H Q=>∃ i j,x=.str i/\y=.str j/\Q (.bl (decide (i.cps.toList < j.cps.toList))) H):=by
 intro pins s σ H x y v u Q I b a h;obtain⟨i,j,rfl,rfl,q⟩:=h;obtain⟨t,rfl⟩:=b;obtain⟨t',rfl⟩:=a;exact lt_str (A6 I q rfl)
theorem cn:OpR X (compareOp .In) (λx y H Q=>∃ i j,x=.str i/\y=.str j/\Q (.bl (!(Builtin.Str.occurrences j i 0 j.length 1).isEmpty)) H):=by
 intro pins s σ H x y v u Q I b a h;obtain⟨i,j,rfl,rfl,q⟩:=h;obtain⟨t,rfl⟩:=b;obtain⟨t',rfl⟩:=a;exact in_str (A6 I q rfl)
theorem cp:OpR X (compareOp .Is) (λx y H Q=>y=.non/\Q (.bl (decide (x=.non))) H):=by
 intro pins s σ H x y v u Q I b a h;obtain⟨rfl,q⟩:=h;cases a;refine is_none_gen (A6 I q ?_)
 cases x <;> first
  |(rfl)
  |(obtain⟨t,rfl⟩:=b;rfl)
theorem OpR.or(h:OpR X f r)(h':OpR X f r'):OpR X f (λx y H Q=>r x y H Q\/r' x y H Q):=by
 intro pins s σ H x y v u Q I b a q;rcases q with q | q
 ·exact h pins s σ H x y v u Q I b a q
 ·exact h' pins s σ H x y v u Q I b a q
theorem xi(b:Expr)(h:op≠.In:=by decide)(h2:op≠.NotIn:=by decide):behindInMarks op b=false:=by
 have a:(op==CmpOp.In)=false:=by cases op <;> first | rfl | exact Qj rfl h
 have c:(op==CmpOp.NotIn)=false:=by cases op <;> first | rfl | exact Qj rfl h2
 cases b <;> simp[behindInMarks,a,c]
theorem cq(g:OpR X (compareOp op) r)(d:PE X a ta)(c:PE X b tb)(i:behindInMarks op b=false):PE X (.Compare a [op] [b] pos) (tOp r ta tb):=by
 intro pins s σ H Q I h;exact wpAny_Compare1 (Mj d c I h λv u e x y H2 k j f q=>g pins e σ H2 x y v u Q k j f q) i
def QD(t:TE):TT:=λσ H Q=>t σ H λx H'=>∃ k,x=.bl k/\Q k H'
theorem cr(j:OpR X (compareOp op) r)(f:PE X a ta)(d:PE X b tb)(m:behindInMarks op b=false):PT X (.Compare a [op] [b] pos) (QD (tOp r ta tb)):=by
 intro pins s σ H Q I h
 refine wpAny_isTrue_Compare1 (thn (f pins s σ H _ I h) λv g⟨x,H1,n,r1,q1⟩=>thn (d pins g σ H1 _ n q1) λu i⟨y,H2,q,t,q2⟩=>
  thn (j pins i σ H2 x y v u _ q r1 t q2) λc w⟨z,o,l,p,k,e,q3⟩=>?_) m
 subst e;cases p;exact wpAny_truthy_bool ⟨o,l,q3⟩
def Mo(r r':R2)(ta tb tc:TE):TE:=λσ H Q=>ta σ H λx H1=>tb σ H1 λy H2=>r x y H2 λz H3=>∃ k,z=.bl k/\
 (if k=true then tc σ H3 λw' H4=>r' y w' H4 Q else Q (.bl false) H3)
theorem cu(G:OpR X (compareOp op) r)(f:OpR X (compareOp op') r')(o:PE X a ta)(E:PE X b tb)(hc:PE X c tc)(m:lastMarks [op,op'] [b,c]=false:=by with_unfolding_all rfl):PE X (.Compare a [op,op'] [b,c] pos) (Mo r r' ta tb tc):=by
 intro pins s σ H Q I h
 refine Compare_chain (thn (o pins s σ H _ I h) λv F⟨x,H1,q,r1,q1⟩=>chain_link (thn (E pins F σ H1 _ q q1) λu p⟨y,H2,D,i,q2⟩=>
  thn (G pins p σ H2 x y v u _ D r1 i q2) λd l⟨z,j,g,n,k,e,q3⟩=>?_)) m
 subst e;cases n;refine wpAny_truthy_bool ?_;cases k with
 | false=>exact ite_ff ⟨.bl false,j,g,rfl,q3⟩
 | true=>exact ite_tt (chain_last (thn (hc pins l σ j _ g q3) (by rintro t J ⟨B,A,K,w,q4⟩;exact f pins J σ A y B u t Q K i w q4)))
theorem cw(P:OpR X (compareOp op) r)(f:OpR X (compareOp op') r')(q:PE X a ta)(K:PE X b tb)(hc:PE X c tc)(n:lastMarks [op,op'] [b,c]=false:=by with_unfolding_all rfl):PT X (.Compare a [op,op'] [b,c] pos) (QD (Mo r r' ta tb tc)):=by
 intro pins s σ H Q I h
 refine isTrue_chain (thn (q pins s σ H _ I h) λv L⟨x,H1,A,r1,q1⟩=>test_link (thn (K pins L σ H1 _ A q1) λu w⟨y,H2,J,i,q2⟩=>
  thn (P pins w σ H2 x y v u _ J r1 i q2) λd l⟨z,j,g,p,k,e,q3⟩=>?_)) n
 subst e;cases p;refine wpAny_truthy_bool ?_;cases k with
 | false =>
  obtain⟨Z,N,o⟩:=q3;cases N;exact ite_ff ⟨j,g,o⟩
 | true =>
  refine ite_tt (test_last (thn (hc pins l σ j _ g q3) λB R⟨F,E,S,D,q4⟩=>thn (f pins R σ E y F u B _ S i D q4) λY U⟨z2,m,O,G,T,t,q5⟩=>?_));subst t;cases G;exact wpAny_truthy_bool ⟨m,O,q5⟩
def Mp(K:PySem.W.Frag)(x:V)(H:Hp)(k:Bool):Prop :=
 match x with
 | .non=>k=false
 | .bl b=>k=b
 | .int i=>k=(i != 0)
 | .str y=>y.length<=sizeLine/\k=((y.length:Int) != 0)
 | .byt y=>y.size<=sizeLine/\k=((y.size:Int) != 0)
 | .ref p=>(∃ xs,SqL K H p xs/\k=!xs.isEmpty)\/(∃ xs,SqT K H p xs/\k=!xs.isEmpty)\/∃ kvs,H p=some (.dK kvs)/\k=!kvs.isEmpty
 | _=>False
theorem cx{κ:Type}{a:List (κ×V)}{vs:List (κ×Value)}(r:KV a vs):(!vs.isEmpty)=!a.isEmpty:=by
 cases r <;> rfl
theorem QE(r:Vals xs a):(!a.toArray.isEmpty)=!xs.isEmpty:=by
 cases r <;> simp
theorem JB:(sizeLine:Nat) < 2 ^ 63:=by rw[sizeLine_eq];decide
theorem cy:bV X (λx H Q=>∃ k,Mp X.K x H k/\Q k H):=by
 intro pins s σ H x v Q I d h;obtain⟨k,e,q⟩:=h;have u:=sizeLine_eq;cases x with
 | non =>
  cases d;have a:=e;subst a;exact truthy_none ⟨H,I,q⟩
 | bl b =>
  cases d;have a:=e;subst a;exact wpAny_truthy_bool ⟨H,I,q⟩
 | int i =>
  obtain⟨t,rfl⟩:=d;have a:=e;subst a;exact PySem.P.truthy_int ⟨H,I,q⟩
 | str y =>
  obtain⟨t,rfl⟩:=d;obtain⟨o,a⟩:y.length<=sizeLine/\k=((y.length:Int) != 0):=e;subst a;exact PySem.P.truthy_str (by lia) ⟨H,I.tok _,q⟩
 | byt y =>
  obtain⟨t,rfl⟩:=d;obtain⟨o,a⟩:y.size<=sizeLine/\k=((y.size:Int) != 0):=e;subst a;exact PySem.W.truthy_bytes (by lia) ⟨H,I.tok _,q⟩
 | ref p =>
  cases d;have a:=e;rcases a with⟨xs,g,a⟩|⟨xs,g,a⟩|⟨f,g,a⟩
  ·subst a;obtain⟨j,r,pl,l⟩:=I.list g;have c:=r.length;exact wpAny_truthy_list pl.isList (by simp only[Yn];lia) ⟨H,I.tok _,by rw[QE r];exact q⟩
  ·subst a;obtain⟨j,r,pl,l⟩:=I.tuple g;have c:=r.length;exact truthy_tuple pl (by simp only[Yn];lia) ⟨H,I.tok _,by rw[QE r];exact q⟩
  ·subst a;obtain⟨l,n,vs,r,m⟩:f.length<=sizeLine/\(p==sysModules)=false/\∃ vs,KV f vs/\s.heap.DictOf (CJ X.prog X.w) p vs:=I.hok p _ g;have c:=Paired.length r;exact wpAny_truthy_dict n m (by lia) ⟨H,I.tok _,by rw[cx r];exact q⟩
 | _=>exact(e).elim
theorem cz(c:PE X a ta)(f:∀ b,isTrue a X.env b=(do let v <- b;standAt a.pos;holding [v] (truthy v))):
  PT X a (λσ H Q=>ta σ H λx H'=>∃ k,Mp X.K x H' k/\Q k H'):=by
 intro pins s σ H Q I h;exact isTrue_plain (thn (c pins s σ H _ I h) (by rintro v d ⟨x,H1,e,r1,q1⟩;exact cy pins d σ H1 x v Q e r1 q1)) (f _)
theorem cA:OpR X (binaryOp .Add) (λx y H Q=>∃ i j,x=.str i/\y=.str j/\i.length+j.length<=sizeLine/\Q (.str (i++j)) H):=by
 intro pins s σ H x y v u Q I c a h;obtain⟨i,j,rfl,rfl,b,q⟩:=h;obtain⟨t,rfl⟩:=c;obtain⟨t',rfl⟩:=a;exact add_str (λt' tk=>⟨.str (i++j),H,I.tok _,⟨_,rfl⟩,q⟩) b
theorem cB:OpR X (inplaceOp .Add) (λx y H Q=>∃ i j,x=.str i/\y=.str j/\i.length+j.length<=sizeLine/\Q (.str (i++j)) H):=by
 intro pins s σ H x y v u Q I c a h;obtain⟨i,j,rfl,rfl,b,q⟩:=h;obtain⟨t,rfl⟩:=c;obtain⟨t',rfl⟩:=a;exact iadd_str (λt' tk=>⟨.str (i++j),H,I.tok _,⟨_,rfl⟩,q⟩) b
theorem CZ(r:Vals [x] us):∃ u,us=[u]/\RelV x u:=by
 cases r with
 | cons r1 a=>cases a;exact⟨_,rfl,r1⟩
theorem JC(r:Vals [x,y] us):∃ u a,us=[u,a]/\RelV x u/\RelV y a:=by
 cases r with
 | cons r1 c =>
  cases c with
  | cons b d=>cases d;exact⟨_,_,rfl,r1,b⟩
theorem cC:CallR X (.type "int") (λxs H Q=>(∃ i,xs=[.int i]/\Q (.int i) H)\/∃ k,xs=[.bl k]/\Q (.int (if k then 1 else 0)) H):=by
 intro pins s σ H xs a Q I r h;rcases h with⟨i,rfl,q⟩|⟨k,rfl,q⟩
 ·obtain⟨u,rfl,t,rfl⟩:=CZ r;exact call_int_int ⟨.int i,H,I,⟨_,rfl⟩,q⟩
 ·obtain⟨u,rfl,r1⟩:=CZ r;cases r1;exact call_int_bool ⟨.int (if k then 1 else 0),H,I.tok _,⟨_,rfl⟩,q⟩
def QF(K:PySem.W.Frag)(x:V)(H:Hp)(n:Nat):Prop :=
 match x with
 | .str y=>y.length<=sizeLine/\n=y.length
 | .byt y=>y.size<=sizeLine/\n=y.size
 | .ref p=>(∃ xs,SqL K H p xs/\n=xs.length)\/∃ xs,SqT K H p xs/\n=xs.length
 | _=>False
theorem cD:CallR X (.builtin "len") (λxs H Q=>∃ x n,xs=[x]/\QF X.K x H n/\Q (.int n) H):=by
 intro pins s σ H xs j Q I r h;obtain⟨x,n,rfl,e,q⟩:=h;obtain⟨u,rfl,c⟩:=CZ r;have k:=sizeLine_eq;cases x with
 | str y =>
  obtain⟨t,rfl⟩:=c;obtain⟨i,b⟩:y.length<=sizeLine/\n=y.length:=e;subst b;exact len_str (by lia) ⟨.int _,H,I.tok _,⟨_,rfl⟩,q⟩
 | byt y =>
  obtain⟨t,rfl⟩:=c;obtain⟨i,b⟩:y.size<=sizeLine/\n=y.size:=e;subst b;exact PySem.W.len_bytes (by lia) ⟨.int _,H,I.tok _,⟨_,rfl⟩,q⟩
 | ref p =>
  cases c;have b:=e;rcases b with⟨xs,d,b⟩|⟨xs,d,b⟩
  ·subst b;obtain⟨f,r',pl,g⟩:=I.list d;have a:=r'.length;exact Calls.call_len_list pl.isList (by simp only[Yn];lia) ⟨.int xs.length,H,I.tok _,⟨_,by simp only[Yn];rw[a]⟩,q⟩
  ·subst b;obtain⟨f,r',pl,g⟩:=I.tuple d;have a:=r'.length;exact len_tuple pl (by simp only[Yn];lia) ⟨.int xs.length,H,I.tok _,⟨_,by simp only[Yn];rw[a]⟩,q⟩
 | _=>exact(e).elim
end
structure ObjM(h:Heap)(x dx C:Addr)(mA:Str->Option Value):Prop where
 obj:h.get? x=some (PySem.W.instObj C dx)
 ns:h.Ns1 dx mA
 ne:dx≠x
theorem cE{h:Heap}(n:h.Ns1 dx mA):∃ c,h.get? dx=some c/\∀ name,PySem.W.lookIn name c=some (mA name):=by
 obtain⟨o,es,k,f,hd,i,_,g⟩:=n;refine⟨o,f,λname=>?_⟩;have e:=g name;unfold nsFind findBy at e;rw[<- Array.find?_toList]at e;unfold PySem.W.lookIn;rw[hd];dsimp only;split
 ·rename_i y q;rw[q]at e;exact Qg some e
 ·rename_i q;rw[q]at e
  have a:es.toList.any (·.refKey)=false:=by
   rw[List.any_eq_false];intro y j;obtain⟨z,t,b⟩:=i y (Array.mem_toList_iff.mp j);simp[DictEntry.refKey,b]
  have d:¬ es.toList.any (·.refKey)=true:=by rw[a];exact YS
  rw[if_neg d];exact Qg some e
theorem ObjM.look(I:ObjM h x dx C mA):∃ a,PySem.W.InstAt h x (PySem.W.instObj C dx) C (some a)/\∀ name,PySem.W.lookIn name a=some (mA name):=
 let⟨a,ho,hl⟩:=cE I.ns
 ⟨a,⟨I.obj,rfl,rfl,ho⟩,hl⟩
theorem cF{K:PySem.W.Frag}(X:K.In s.heap)(I:ObjM s.heap x dx C mA)(d:PySem.W.plainGet K C name=true)(c:PySem.W.hasDictIn K C=true)(e:PySem.W.findIn K (.ref C) name=some none)(f:mA name=some v)(b:PySem.W.handedIn v=true)(h:Q v {s with toks:=s.toks+1}):
  wpAny (model prog w) A (getAttr (.ref x) name a) Q E s:=by
 obtain⟨g,J,hl⟩:=I.look;exact PySem.W.get_value X J (PySem.W.plainGet_of d).1 (PySem.W.findObj_own c e rfl (by rw[hl,f])) b h
theorem cG{K:PySem.W.Frag}(X:K.In s.heap)(I:ObjM s.heap x dx C mA)(a:PySem.W.plainGet K C name=true)(c:PySem.W.findIn K (.ref C) name=some (some (.ref f)))(e:PySem.W.isFn K (.ref f)=true)(b:mA name=none)(h:Q (.ref f,[.ref x]) s):
  wpAny (model prog w) A (getMethod (.ref x) name pl) Q E s:=by
 obtain⟨d,J,hl⟩:=I.look;exact PySem.W.method_fn X J (PySem.W.plainGet_of a).1 (PySem.W.plainGet_of a).2 c (beq_iff_eq.mp e) (by show(PySem.W.lookIn name d).map (·.isSome)=some false;rw[hl,b];rfl) h
theorem cH{K:PySem.W.Frag}(X:K.In s.heap)(I:ObjM s.heap x dx C mA)(k:PySem.W.findIn K (.ref C) "__setattr__"=some (some (.builtin "object.__setattr__")))(m:PySem.W.plainOver K C=true)(p:PySem.W.takerIn K C name=some none)(i:PySem.W.hasDictIn K C=true)(hw:PySem.Within mA ns)(o:ns.length<=sizeLine)(h:∀ h',ObjM h' x dx C (λy=>if y=name then some v else mA y)->Heap.SameBut dx s.heap h'->Q () {s with heap:=h',toks:=s.toks+2}):
  wpAny (model prog w) A (setAttr (.ref x) name v) Q E s:=by
 obtain⟨r,J,hl⟩:=I.look;refine PySem.W.set_plain X J k (PySem.W.osa_open X J m p λb=>?_);obtain⟨cd,hc,e⟩:=PySem.W.any_some i;have n:=I.obj;refine Qk (Ql (Qk (Qk (wpAny_loadPart n (Qk (PySem.W.Looks.here (PySem.W.looks_clsIn X hc) ?_))))));rw[e];refine Ql (Qk (Ql (Qk ?_)));refine wpAny_nsSet1 I.ns λh' c a=>?_;obtain⟨q,j,l,d,f,g⟩:=c.count (PySem.Within.cons name v hw);refine Qk (wpAny_lookBehind d (by rw[f];exact pastItsLine_dict (Yt g (by rw[Yg];lia))) ?_);exact Ql (h _ ⟨(a.2 _ (YU I.ne)).trans I.obj,c,I.ne⟩ a)
theorem cI{s:Shared}{K:PySem.W.Frag}(X:K.In s.heap)(c:PySem.W.makesIn K C=true)(hi:PySem.W.findIn K (.ref C) "__init__"=some (some (.ref f)))(b:PySem.W.typeIn K (.ref f)=some (.type "function"))(h:codeAny (model prog w) (A.under (.builtin "type.__call__" ⟨.ref C::vs,a⟩)) (.call (.ref f) ⟨.ref (s.heap.objs.size+1)::vs,a⟩) (PySem.W.InitBack (s.heap.objs.size+1) R)
   {s with heap:=(s.heap.push PySem.W.emptyDict).push (PySem.W.instObj C s.heap.objs.size)}):
  codeAny (model prog w) A (.call (.ref C) ⟨vs,a⟩) R s:=by
 obtain⟨e,g,d,t,os⟩:=s;exact PySem.W.make_core (PySem.W.makes_of X c) (PySem.W.looks_findIn X hi) (λself=>PySem.W.bind_fn X self b) (.inl rfl) h
def putF(f:Str)(v:V):List (Str×V)->List (Str×V)
 | []=>[(f,v)]
 |(g,x)::r=>if g=f then(g,v)::r else(g,x)::putF f v r
theorem QG(f g:Str)(v:V):∀ fs:List (Str×V),(putF f v fs).lookup g=if g=f then some v else fs.lookup g
 | []=>by
  show List.lookup g [(f,v)]=_;by_cases h:g=f
  ·have a:=beq_iff_eq.mpr h;simp only[List.lookup,a,if_pos h]
  ·have a:=beq_eq_false_iff_ne.mpr h;simp only[List.lookup,a,if_neg h]
 |(k,x)::r=>by
  have c:=QG f g v r;rw[show putF f v ((k,x)::r)=(if k=f then(k,v)::r else(k,x)::putF f v r)from rfl];by_cases b:k=f
  ·rw[if_pos b];by_cases h:g=k
   ·have a:=beq_iff_eq.mpr h;simp only[List.lookup,a,if_pos (h.trans b)]
   ·have a:=beq_eq_false_iff_ne.mpr h;simp only[List.lookup,a,if_neg (λe:g=f=>h (e.trans b.symm))]
  ·rw[if_neg b];by_cases h:g=k
   ·have a:=beq_iff_eq.mpr h;simp only[List.lookup,a,if_neg (λe:g=f=>b (h.symm.trans e))]
   ·have a:=beq_eq_false_iff_ne.mpr h;simp only[List.lookup,a];exact c
theorem Mq(f:Str)(v:V):∀ fs:List (Str×V),f∈(putF f v fs).map (·.1)/\∀ g,g∈fs.map (·.1)->g∈(putF f v fs).map (·.1)
 | []=>⟨by simp[putF],λg h=>by simp at h⟩
 |(k,x)::r=>by
  obtain⟨i1,i2⟩:=Mq f v r;rw[show putF f v ((k,x)::r)=(if k=f then(k,v)::r else(k,x)::putF f v r)from rfl];by_cases a:k=f
  ·subst a;exact⟨by simp,λg h=>by simpa using h⟩
  ·rw[if_neg a];refine⟨?_,λg h=>?_⟩
   ·exact Yd _ i1
   ·rcases Yo.mp h with e | e
    ·exact Yo.mpr (.inl e)
    ·exact Yd _ (i2 g e)
theorem QH(f:Str)(v:V):∀ fs:List (Str×V),(putF f v fs).length<=fs.length+1
 | []=>by simp[putF]
 |(k,x)::r=>by
  have b:=QH f v r;rw[show putF f v ((k,x)::r)=(if k=f then(k,v)::r else(k,x)::putF f v r)from rfl];by_cases a:k=f
  ·rw[if_pos a,Yg,Yg];lia
  ·rw[if_neg a,Yg,Yg];lia
theorem RelO.some_of(r:RelO (some v) o):∃ u,o=some u/\RelV v u:=by
 cases o with
 | none=>exact(r).elim
 | some u=>exact⟨u,rfl,r⟩
theorem RelO.none_of(r:RelO none o):o=none:=by
 cases o with
 | none=>rfl
 | some u=>exact(show False from r).elim
theorem cJ(r:RelV v u):PySem.W.handedIn u=true:=by
 cases v with
 | non|bl b=>cases(r);rfl
 | int i|str x|byt b|flt b=>obtain⟨t,e⟩:=(r);cases e;rfl
 | ref a|ty n=>cases(r);rfl
theorem Mr(hok:HOk P w H h)(e:H a=some (.ins C dx fs)):∃ mA,ObjM h a dx C mA/\(∀ f,RelO (fs.lookup f) (mA f))/\PySem.Within mA (fs.map (·.1))/\fs.length<=1000/\H dx=some (.own a):=by
 obtain⟨d,z,ne,b,mA,n,r,q⟩:=(hok a _ e);exact⟨mA,⟨b,n,ne⟩,r,q,z,d⟩
structure Cls(K:PySem.W.Frag)(C:Addr):Prop where
 pg:PySem.W.plainGet K C Str.empty=true
 hd:PySem.W.hasDictIn K C=true
 po:PySem.W.plainOver K C=true
 sa:PySem.W.findIn K (.ref C) "__setattr__"=some (some (.builtin "object.__setattr__"))
theorem Cls.get{K:PySem.W.Frag}(c:Cls K C)(f:Str):PySem.W.plainGet K C f=true:=c.pg
def NoAttr(K:PySem.W.Frag)(C:Addr)(f:Str):Prop:=PySem.W.findIn K (.ref C) f=some none
theorem NoAttr.taker{K:PySem.W.Frag}(n:NoAttr K C f):PySem.W.takerIn K C f=some none:=by
 unfold PySem.W.takerIn;rw[show PySem.W.findIn K (.ref C) f=some none from n];rfl
structure Ms(K:PySem.W.Frag)(C:Addr)(m:Str)(f:Addr):Prop where
 at_:PySem.W.findIn K (.ref C) m=some (some (.ref f))
 fn:PySem.W.isFn K (.ref f)=true
 kp:PySem.W.keepIn K (.ref f)=true
theorem QI{σ:St}(I:Inv X pins σ H s)(e:H a=some (.ins C dx fs))(c:Cls X.K C)(n:NoAttr X.K C f)(l:fs.lookup f=some v)(h:∀ u s',Inv X pins σ H s'->RelV v u->Q u s'):wpAny (model X.prog X.w) A (getAttr (.ref a) f b) Q E s:=by
 obtain⟨mA,O,r,_,_,_⟩:=Mr I.hok e;obtain⟨u,g,d⟩:=RelO.some_of (by rw[<- l];exact r f);exact cF I.kIn O (c.get f) c.hd n g (cJ d) (h u _ (I.tok _) d)
theorem QJ{σ:St}(I:Inv X pins σ H s)(e:H a=some (.ins C dx fs))(c:Cls X.K C)(k:Ms X.K C m g)(l:fs.lookup m=none)(h:Q (.ref g,[.ref a]) s):wpAny (model X.prog X.w) A (getMethod (.ref a) m pl) Q E s:=by
 obtain⟨mA,O,r,_,_,_⟩:=Mr I.hok e;have b:=RelO.none_of (by rw[<- l];exact r m);exact cG I.kIn O (c.get m) k.at_ k.fn b h
theorem QK{σ:St}(I:Inv X pins σ H s)(e:H a=some (.ins C dx fs))(c:Cls X.K C)(n:NoAttr X.K C f)(hl:fs.length < 1000)(m:RelV y u)(h:∀ s',Inv X pins σ (upd H a (.ins C dx (putF f y fs))) s'->Q () s'):wpAny (model X.prog X.w) A (setAttr (.ref a) f u) Q E s:=by
 obtain⟨mA,O,r,j,_,i⟩:=Mr I.hok e;have p:(fs.map (·.1)).length<=sizeLine:=by rw[Yh,sizeLine_eq];lia
 refine cH I.kIn O c.sa c.po n.taker c.hd j p λh' d t=>h _ ?_;have hd:∃ o,h'.get? dx=some o:=let⟨o,_,_,e',_⟩:=d.ns;⟨o,e'⟩;refine I.write (by rw[e];exact True.intro) (.inr i) (λb q k z=>(t.2 b k).trans z) hd (⟨by rw[A5 O.ne];exact i,?_,O.ne,d.obj,_,d.ns,λg=>?_,λg l=>?_⟩)
 ·have:=QH f y fs;lia
 ·rw[QG];by_cases q:g=f
  ·rw[if_pos q,if_pos q];exact m
  ·rw[if_neg q,if_neg q];exact r g
 ·by_cases q:g=f
  ·rw[q];exact(Mq f y fs).1
  ·refine(Mq f y fs).2 g (j g λz=>l ?_);show(if g=f then some u else mA g)=none;rw[if_neg q];exact z
theorem Inv.made{σ:St}(I:Inv X pins σ H s):Inv X pins σ (upd (upd H s.heap.objs.size (.own (s.heap.objs.size+1))) (s.heap.objs.size+1) (.ins C s.heap.objs.size []))
  {s with heap:=(s.heap.push PySem.W.emptyDict).push (PySem.W.instObj C s.heap.objs.size)}:=by
 have a:(s.heap.push PySem.W.emptyDict).get? s.heap.objs.size=some PySem.W.emptyDict:=Qo s.heap rfl
 have c:((s.heap.push PySem.W.emptyDict).push (PySem.W.instObj C s.heap.objs.size)).get? (s.heap.objs.size+1)=some (PySem.W.instObj C s.heap.objs.size):=by
  have:=Qo (s.heap.push PySem.W.emptyDict) (o:=PySem.W.instObj C s.heap.objs.size) rfl;rwa [Qp]at this
 have d:(s.heap.push PySem.W.emptyDict).Ns s.heap.objs.size (λ_=>none):=⟨PySem.W.emptyDict,#[],_,a,rfl,(λe h=>Qj h (by simp)),λ_=>rfl⟩;have f:=I.laid (o:=.own (s.heap.objs.size+1)) (t':=s.toks) (λb u q=>Qm _ q) (Yr _) ⟨_,a⟩;refine f.laid (λb u q=>Qm _ q) (Nat.le_of_eq (Qp _ _)) ?_;have ne:s.heap.objs.size≠s.heap.objs.size+1:=Ys (Nat.lt_succ_self _);refine⟨by rw[A5 ne,B4],YT _,ne,c,λ_=>none,(Heap.Ns1.of_empty d).at λo q=>Qm _ q,λ_=>True.intro,λy g=>Qj rfl g⟩
theorem cK(b:attributeBase e f env (eval e env)=eval e env)(h:wpAny (model prog w) A (eval e env) (λo a=>wpAny (model prog w) A (getAttr o f true) Q E a) E s):wpAny (model prog w) A (eval (.Attribute e f pos) env) Q E s :=
 Attribute_any_ h (by rw[arm_eval_Attribute,b])
def cL(K:PySem.W.Frag)(ta:TE)(f:Str):TE:=λσ H Q=>ta σ H λx H1=>∃ a C dx fs v,x=.ref a/\H1 a=some (.ins C dx fs)/\Cls K C/\NoAttr K C f/\fs.lookup f=some v/\Q v H1
def cM(K:PySem.W.Frag)(ta tv:TE)(f:Str):TS:=λD σ H=>tv σ H λy H1=>ta σ H1 λx H2=>∃ a C dx fs,x=.ref a/\H2 a=some (.ins C dx fs)/\Cls K C/\NoAttr K C f/\fs.length < 1000/\
 D.nx σ (upd H2 a (.ins C dx (putF f y fs)))
def QL(X:Cx)(op:Operator)(rd:V->V->Hp->VK->Prop):Prop :=
 ∀(pins:List (Addr×Obj))(s:Shared)(σ:St)(H:Hp)(x y:V)(u v:Value)(Q:VK),Inv X pins σ H s->RelV x u->RelV y v->rd x y H Q->wpAny (model X.prog X.w) X.A (inplaceOp op u v) (EP X pins σ Q) X.xe s
def cN(K:PySem.W.Frag)(ta tv:TE)(rd:V->V->Hp->VK->Prop)(f:Str):TS:=λD σ H=>ta σ H λx H1=>∃ a C dx fs v,x=.ref a/\H1 a=some (.ins C dx fs)/\Cls K C/\NoAttr K C f/\fs.lookup f=some v/\
 tv σ H1 λy H2=>rd v y H2 λz H3=>∃ dx' fs',H3 a=some (.ins C dx' fs')/\fs'.length < 1000/\D.nx σ (upd H3 a (.ins C dx' (putF f z fs')))
theorem cO(k:PE X e ta)(d:attributeBase e f X.env (eval e X.env)=eval e X.env):PE X (.Attribute e f pos) (cL X.K ta f):=by
 intro pins s σ H Q I h;refine cK d (thn (k pins s σ H _ I h) λu p b=>?_);obtain⟨x,H1,j,m,a,C,dx,fs,v,ex,g,c,n,l,q⟩:=b;subst ex;obtain rfl:u=Value.ref a:=m;exact QI j g c n l λt r o i=>⟨v,H1,o,i,q⟩
theorem cP(b:PE X o ta)(g:PE X value tv)(k:swapsWith value (some (.Attribute o f pos')) pos.line X.env=pure false):PS X (.Assign [.Attribute o f pos'] value pos) (cM X.K ta tv f):=by
 intro pins s σ H D I h;refine plainObj_wpAny_Assign_Attribute (thn (g pins s σ H _ I h) λu i⟨y,H1,p,j,q⟩=>thn (b pins i σ H1 _ p q) λe w⟨x,H2,t,r,a,C,dx,fs,ex,d,c,n,l,q2⟩=>?_) k;subst ex;obtain rfl:e=Value.ref a:=r;exact QK t d c n l j λv m=>⟨σ,_,m,q2⟩
theorem cQ(k:PE X o ta)(r:PE X value tv)(hop:QL X op e):PS X (.AugAssign (.Attribute o f tpos) op value pos) (cN X.K ta tv e f):=by
 intro pins s σ H D I h;refine wpAny_AugAssign_AttributeAny (thn (k pins s σ H _ I h) λB R b=>?_);obtain⟨x,H1,p,N,a,C,dx,fs,v,ex,A,c,n,l,q⟩:=b;subst ex;obtain rfl:B=Value.ref a:=N;refine QI p A c n l λu m w E=>thn (r pins m σ H1 _ w q) λt g⟨y,H2,j,F,q3⟩=>thn (hop pins g σ H2 v y u t _ j E F q3) ?_;rintro P S ⟨z,T,O,i,J,fs',d,L,q4⟩;exact QK O d c n L i λQ G=>⟨σ,_,G,q4⟩
def BS:V->V->Hp->VK->Prop:=λx y H Q=>∃ i j,x=.int i/\y=.int j/\Q (.int (i+j)) H
theorem cR:QL X .Add BS:=by
 rintro pins s σ H x y u v Q I b a ⟨i,j,rfl,rfl,q⟩;obtain⟨t,rfl⟩:=(b);obtain⟨t',rfl⟩:=(a);exact PyProof.Rows.iadd_int ⟨.int (i+j),H,I.tok _,⟨_,rfl⟩,q⟩
structure Room(k:Nat)(A:Around):Prop where
 hd:A.handled=none
 dp:A.depth+3*k+5 < recursionLimit
 un:A.units+16*k+200 < cLine
theorem Room.mono(r:Room k A)(h:j<=k):Room j A:=⟨r.hd,by have:=r.dp;lia,by have:=r.un;lia⟩
theorem Room.deeper(r:Room (k+1) A)(env:Env):Room k (A.deeper env):=
 ⟨r.hd,by have:=r.dp;show A.depth+1+3*k+5 < _;lia,by have:=r.un;show A.units+3+16*k+200 < _;lia⟩
theorem Room.in1(r:Room (k+1) A):Room k A.in1 :=
 ⟨r.hd,by have:=r.dp;show A.depth+3*k+5 < _;lia,by have:=r.un;show A.units+1+16*k+200 < _;lia⟩
theorem cS{A:Around}:(A.under (.builtin "type.__call__" ⟨.ref C::us,a⟩)).depth=A.depth+1:=by
 first | rfl | simp[Around.under]
theorem cT{A:Around}:(A.under (.builtin "type.__call__" ⟨.ref C::us,a⟩)).units=A.units+1:=by
 first | rfl | simp[Around.under]
theorem Room.make(r:Room (k+1) A)(C:Addr)(us:List Value)(a:List (Str×Value)):Room k (A.under (.builtin "type.__call__" ⟨.ref C::us,a⟩)):=
 ⟨r.hd,by have:=r.dp;rw[cS];lia,by have:=r.un;rw[cT];lia⟩
theorem Room.depth(r:Room k A):A.depth < recursionLimit:=by have:=r.dp;lia
theorem Room.units(r:Room k A):A.units+64 < cLine:=by have:=r.un;lia
def Mt:TA:=λ_ H Q=>Q [] H
def JD(ta:TE)(tr:TA):TA:=λσ H Q=>ta σ H λx H1=>tr σ H1 λxs H2=>Q (x::xs) H2
section
variable {t:TA}
theorem HN:PA X [] Mt:=λ_ _ _ _ H Q I h=>Calls.spliced_nil ⟨[],H,I,.nil,h⟩
theorem FP(b:PE X e te)(g:PA X es t)(d:starEach (e::es) X.env=(false,eval e X.env)::starEach es X.env:=by rfl):PA X (e::es) (JD te t):=by
 intro pos pins s σ H Q I h;rw[d];refine Calls.spliced_cons (thn (b pins s σ H _ I h) λu c a=>?_);obtain⟨x,H1,f,r1,q1⟩:=a;exact thn (g pos pins c σ H1 _ f q1) (by rintro k l ⟨xs,H2,i,j,q2⟩;exact⟨x::xs,H2,i,.cons r1 j,q2⟩)
def cU(t:TA):TE:=λσ H Q=>t σ H λxs H1=>xs.length<=sizeLine/\∀ p,H1 p=none->Q (.ref p) (upd H1 p (.tup xs))
def cV(t:TA):TE:=λσ H Q=>t σ H λxs H1=>xs.length<=sizeLine/\∀ p,H1 p=none->Q (.ref p) (upd H1 p (.lst xs))
theorem cW{x1}(h:PA X es t):PE X (.Tuple es x1 pos) (cU t):=by
 intro pins s σ H Q I g;refine wpAny_Tuple_spliced (thn (h pos pins s σ H _ I g) λd a⟨xs,H1,c,r,z,q⟩=>⟨by rw[<- r.length];exact z,?_⟩);have f:=c.hok.fresh (Yr _);refine⟨.ref a.heap.objs.size,upd H1 a.heap.objs.size (.tup xs),c.laid (λb u e=>Qm _ e) (Yr _) ?_,rfl,q _ f⟩;exact⟨z,d,r,⟨_,Qo _ rfl,rfl,rfl,_,rfl⟩⟩
theorem cX(h:PA X es t):PE X (.List es pos) (cV t):=by
 intro pins s σ H Q I g;refine wpAny_List_spliced (thn (h pos pins s σ H _ I g) λd a⟨xs,H1,c,r,z,q⟩=>⟨by rw[<- r.length];exact z,?_⟩);have f:=c.hok.fresh (Yr _);refine⟨.ref a.heap.objs.size,upd H1 a.heap.objs.size (.lst xs),c.laid (λb u e=>Qm _ e) (Yr _) ?_,rfl,q _ f⟩;exact⟨z,d,0,r,Qo _ rfl⟩
end
abbrev Sp:=List V->Hp->VK->XK->Prop
abbrev CXT:=List Env->Hp->Shared->XK->Value->Shared->Prop
structure Env0(P:Program)(w:World)(K:PySem.W.Frag)(mg:Str->Option Value)(base:Heap)(A:Around)(outer:List Env)(s:Shared)(H:Hp):Prop where
 frames:A.frames=some outer
 mod:Mod K mg base
 bs:∀ b o,base.get? b=some o->s.heap.get? b=some o/\H b=none
 bsz:base.objs.size<=s.heap.objs.size
 funs:s.heap.FunFrames base outer
 frf:∀ b∈frs outer,H b=none
 hok:HOk P w H s.heap
 bare:AllBare s.gens
def CE(outer:List Env)(P:Program)(w:World)(H:Hp)(s:Shared)(Q:VK)(u:Value)(s':Shared):Prop :=
 ∃ v H',s'.os=s.os/\AllBare s'.gens/\Un (frs outer) [] H H' s.heap s'.heap/\HOk P w H' s'.heap/\RelV v u/\Q v H'
def CR(CX:CXT)(outer:List Env)(P:Program)(w:World)(H:Hp)(s:Shared)(Q:VK)(E:XK)(r:Result)(s':Shared):Prop :=
 match r with
 | .ok (.ret u)=>CE outer P w H s Q u s'
 | .ok _=>False
 | .error e=>CX outer H s E e s'
structure FnOk(P:Program)(w:World)(K:PySem.W.Frag)(mg:Str->Option Value)(base:Heap)(CX:CXT)(k:Nat)(f:Addr)(fd:FuncData)(ps:List Str)(sp:Sp):Prop where
 len:∀ vs H Q E,sp vs H Q E->vs.length=ps.length
 run:∀(A:Around)(outer:List Env)(s:Shared)(H:Hp)(args:Args)(us:List Value)(vs:List V)(Q:VK)(E:XK),Room k A->Env0 P w K mg base A outer s H->BindsTo s fd args (ps.zip us)->Vals vs us->sp vs H Q E->
  codeAny (model P w) A (.call (.ref f) args) (CR CX outer P w H s Q E) s
theorem FnOk.mono{K:PySem.W.Frag}(F:FnOk P w K mg base CX j f fd ps sp)(h:j<=k):
  FnOk P w K mg base CX k f fd ps sp:=⟨F.len,λA outer s H a b vs Q E c=>F.run A outer s H a b vs Q E (c.mono h)⟩
theorem FnOk.imp{K:PySem.W.Frag}(F:FnOk P w K mg base CX k f fd ps sp)(h:∀ vs H Q E,b vs H Q E->sp vs H Q E):FnOk P w K mg base CX k f fd ps b :=
 ⟨λvs H Q E q=>F.len vs H Q E (h _ _ _ _ q),λA outer s H a d vs Q E j i c e g=>F.run A outer s H a d vs Q E j i c e (h _ _ _ _ g)⟩
theorem Env0.make{K:PySem.W.Frag}(e:Env0 P w K mg base A outer s H)(C:Addr)(us:List Value)(a:List (Str×Value)):
  Env0 P w K mg base (A.under (.builtin "type.__call__" ⟨.ref C::us,a⟩)) outer s H:=⟨by first | exact e.frames |(simpa[Around.under]using e.frames),e.mod,e.bs,e.bsz,e.funs,e.frf,e.hok,e.bare⟩
theorem Env0.in1{K:PySem.W.Frag}(e:Env0 P w K mg base A outer s H):
  Env0 P w K mg base A.in1 outer s H:=⟨e.frames,e.mod,e.bs,e.bsz,e.funs,e.frf,e.hok,e.bare⟩
theorem Inv.env0{σ:St}(I:Inv X pins σ H s):Env0 X.prog X.w X.K X.mg X.base X.A X.stack s H :=
 ⟨I.ok.frames,I.ok.mod,I.bs,Yt I.ok.bsz I.sz,I.stack,I.stkFree,I.hok,I.bare⟩
theorem Inv.after{σ:St}(I:Inv X pins σ H s)(h:CE X.stack X.prog X.w H s Q u s'):EP X pins σ Q u s':=by
 obtain⟨v,H',os,bare,un,hok,r,q⟩:=h;obtain⟨c,g,d,t,a⟩:=s';obtain rfl:a=s.os:=os;exact⟨v,H',I.call un hok bare (λb z=>Qj z (by simp)),r,q⟩
def cY(sp:Sp)(dvs:List V)(E:XK)(t:TA):TE:=λσ H Q=>t σ H λvs H1=>sp (vs++dvs) H1 Q E
def Binds(K:PySem.W.Frag)(fd:FuncData)(ps:List Str)(ds:List Value):Prop :=
 ∀(s:Shared)(us:List Value),K.In s.heap->(us++ds).length=ps.length->BindsTo s fd ⟨us,[]⟩ (ps.zip (us++ds))
theorem Binds.all{K:PySem.W.Frag}(h:∀ us:List Value,us.length=ps.length->bindArgs fd ⟨us,[]⟩=pure (ps.zip us)):Binds K fd ps []:=λs us _ hl=>by
 rw[Yx]at hl ⊢;exact .of_eq (h us hl)
def cZ(CX:CXT)(X:Cx)(E:XK):Prop:=∀(pins:List (Addr×Obj))(σ:St)(H:Hp)(s:Shared)(e:Value)(s':Shared),Inv X pins σ H s->CX X.stack H s E e s'->X.xe e s'
section
variable {f C:Addr}
structure Mk(K:PySem.W.Frag)(C f:Addr):Prop where
 makes:PySem.W.makesIn K C=true
 init:PySem.W.findIn K (.ref C) "__init__"=some (some (.ref f))
 fn:PySem.W.isFn K (.ref f)=true
 kp:PySem.W.keepIn K (.ref C)=true
end
structure Ay(N P:List Str)(sc:Scope):Prop where
 kind:sc.kind=.function
 co:sc.isCoroutine=false
 gen:sc.isGenerator=false
 nd:N.Nodup
 pre:N.take P.length=P
 par:∀ x∈P,sc.names.lookup x=some .local\/sc.names.lookup x=some .cell
 nofree:∀ y∈sc.names,y.2≠.free
theorem QM{kindOf:Str->Option NameKind}:∀{binds:List (Str×Value)}{m:Str->Option Value},(∀ v,(x,v)∉binds)->bindL kindOf binds m x=m x
 | [],_,_=>rfl
 |(n,v)::r,m,h=>by
  unfold bindL;rw[QM λw hw=>h w (Yd _ hw)];split
  ·have:x≠n:=by rintro rfl;exact h v Ye
   simp[this]
  ·rfl
theorem QN{kindOf:Str->Option NameKind}:∀{binds:List (Str×Value)}{m:Str->Option Value},(∀ v,(x,v)∉binds)->bindC kindOf binds m x=m x
 | [],_,_=>rfl
 |(n,v)::r,m,h=>by
  unfold bindC;rw[QN λw hw=>h w (Yd _ hw)];split
  ·rfl
  ·have:x≠n:=by rintro rfl;exact h v Ye
   simp[this]
theorem QO{kindOf:Str->Option NameKind}:∀{P:List Str}{vs:List Value}{i:Nat}{m:Str->Option Value},P.Nodup->P[i]?=some x->vs[i]?=some v->kindOf x=some .local->
  bindL kindOf (P.zip vs) m x=some v
 | [],_,_,_,_,h,_,_|_::_,[],_,_,_,_,h,_=>by simp at h
 | p::P,w::vs,0,m,nd,h1,h2,a=>by
  simp at h1 h2;subst h1;subst h2;show bindL kindOf ((p,w)::P.zip vs) m p=_;unfold bindL;rw[QM λv b=>(YQ.mp nd).1 (List.of_mem_zip b).1,if_pos a];simp
 | p::P,w::vs,i+1,m,nd,h1,h2,a=>by
  show bindL kindOf ((p,w)::P.zip vs) m x=_;exact QO (YQ.mp nd).2 (by simpa using h1) (by simpa using h2) a
theorem QP{kindOf:Str->Option NameKind}:∀{P:List Str}{vs:List Value}{i:Nat}{m:Str->Option Value},P.Nodup->P[i]?=some x->vs[i]?=some v->kindOf x≠some .local->
  bindC kindOf (P.zip vs) m x=some v
 | [],_,_,_,_,h,_,_|_::_,[],_,_,_,_,h,_=>by simp at h
 | p::P,w::vs,0,m,nd,h1,h2,a=>by
  simp at h1 h2;subst h1;subst h2;show bindC kindOf ((p,w)::P.zip vs) m p=_;unfold bindC;rw[QN λv b=>(YQ.mp nd).1 (List.of_mem_zip b).1,if_neg a];simp
 | p::P,w::vs,i+1,m,nd,h1,h2,a=>by
  show bindC kindOf ((p,w)::P.zip vs) m x=_;exact QP (YQ.mp nd).2 (by simpa using h1) (by simpa using h2) a
def CB(N:List Str)(vs:List V):St:=vs.map some++List.replicate (N.length - vs.length) none
def Bu(CX:CXT)(P:Program)(w:World)(K:PySem.W.Frag)(mg:Str->Option Value)(base:Heap)(N:List Str)(qual:Str)(scope:Scope)(f:Addr)(cd:Value)(A:Around)(outer:List Env)(s:Shared)(H:Hp)(E:XK):Cx where
 prog:=P
 w:=w
 K:=K
 mg:=mg
 base:=base
 A:=A.deeper (envOfC qual scope s.heap.objs.size f cd)
 N:=N
 s₀:=s
 H₀:=H
 env:=envOfC qual scope s.heap.objs.size f cd
 outer:=outer
 stack:=envOfC qual scope s.heap.objs.size f cd::outer
 ex:=[]
 calm:=true
 fn:=λ_=>true
 pn:=[]
 xe:=λe s'=>wpAny (model P w) (A.deeper (envOfC qual scope s.heap.objs.size f cd)) (leaving (envOfC qual scope s.heap.objs.size f cd) e) (λ_ s''=>CX outer H s E e s'') (λe' s''=>CX outer H s E e' s'') s'
theorem Mu{a:Scope}(h:a.names.lookup x=some .cell):∃ c,(cellsFrom n a.names []).lookup x=some c:=by
 have q:=PySem.W.cellsFrom_some a.names n [] (.inl h);exact Option.isSome_iff_exists.mp q
theorem QQ{K:PySem.W.Frag}(S:Ay N ps scope)(hd:A.handled=none)(d:Env0 P w K mg base A outer s H)(hl:vs.length=ps.length)(r:Vals vs us)(x:InCallC s s.heap.objs.size (bindL (envOfC qual scope s.heap.objs.size f cd).kindOf (ps.zip us) λ_=>none) (cellsFrom (s.heap.objs.size+1) scope.names []) (bindC (envOfC qual scope s.heap.objs.size f cd).kindOf (ps.zip us) λ_=>none) n):
  Inv (Bu CX P w K mg base N qual scope f cd A outer s H E) [] (CB N vs) H n:=by
 have F:ps.length<=N.length:=by have:=Qg List.length S.pre;rw[List.length_take]at this;lia
 obtain⟨h1,tk,rfl,o⟩:=x.done;have g:∀ b:Addr,b∉(Bu CX P w K mg base N qual scope f cd A outer s H E).ex:=λb z=>Qj (show b∈([]:List Addr)from z) (by simp)
 refine⟨⟨d.mod,S.kind,rfl,rfl,Yr _,λy z c h1 h2=>?_,λy l=>?_,λy c _ h=>?_,λ_=>hd,Around.frames_deeper d.frames,.inr ⟨rfl,rfl⟩,λb z=>Qj z (g b),d.bs,d.bsz,λb _ _=>g b,λb z=>Qj z (g b),d.funs,d.frf⟩,
  rfl,d.bare,Un.kept o,⟨_,x.toInCall.ns,λi y v h1 h2 G=>?_⟩,λy c h=>⟨_,x.cell y c h⟩,d.hok.fresh (Yr _),λy c h=>?_,λp m=>Qj (show p∈([]:List (Addr×Obj))from m) (by simp),d.hok.kept o,?_⟩
 ·exact name_of_addr x.apart (PySem.mem_of_lookup h1) (PySem.mem_of_lookup h2)
 ·rcases l with l | l
  ·exact Mu l
  ·exact Qj rfl (S.nofree _ (PySem.mem_of_lookup l))
 ·exact Nat.le_of_lt (x.above y c (PySem.mem_of_lookup h))
 ·have hi:i < vs.length:=by
   unfold CB at h2;by_cases hi:i < vs.length
   ·exact hi
   ·rw[List.getElem?_append_right (by simpa using hi)]at h2;rw[List.getElem?_replicate]at h2;split at h2 <;> cases h2
  have B:vs[i]?=some v:=by
   unfold CB at h2;rw[YI (by simpa using hi),YM]at h2;cases e:vs[i]? with
   | none=>rw[e]at h2;cases h2
   | some a=>rw[e]at h2;cases h2;rfl
  obtain⟨u,t,D⟩:=r.get B
  have m:ps[i]?=some y:=by
   rw[<- S.pre,List.getElem?_take_of_lt (by lia)];exact h1
  have j:ps.Nodup:=by rw[<- S.pre];exact S.nd.sublist (List.take_sublist _ _)
  refine⟨u,D,?_⟩;rcases S.par y (List.mem_of_getElem? m)with k | k
  ·exact .inl ⟨k,QO j m t k⟩
  ·obtain⟨c,e⟩:=Mu k;refine .inr ⟨.inl k,c,e,?_⟩;have q:=x.cell y c e;rw[QP j m t (by show scope.names.lookup y≠_;rw[k];decide)]at q;exact q
 ·exact d.hok.fresh (Nat.le_of_lt (x.above y c (PySem.mem_of_lookup h)))
 ·unfold CB;show _=N.length;rw[Yj,Yh,List.length_replicate];lia
theorem GH{K:PySem.W.Frag}{kV:Value}(lk:K.lookup f=some ⟨R,X,.func (PySem.W.fnOf name qual params body scope G kV j pm L cdv ct),p⟩)(m:PySem.W.codeIn K cdv qual=true)(S:Ay N ps scope)(len:∀ vs H Q E,sp vs H Q E->vs.length=ps.length)(c:∀(A:Around)(outer:List Env)(s:Shared)(H:Hp)(vs:List V)(Q:VK)(E:XK),Room k (A.deeper (envOfC qual scope s.heap.objs.size f cdv))->sp vs H Q E->
   ∃ t,PSs (Bu CX P w K mg base N qual scope f cdv A outer s H E) body t/\t {nx:=λ_ H'=>Q .non H',rt:=Q} (CB N vs) H):
  FnOk P w K mg base CX (k+1) f (PySem.W.fnOf name qual params body scope G kV j pm L cdv ct) ps sp:=by
 refine⟨len,λA outer s H D T vs Q E l i Y r g=>?_⟩;have hl:=len _ _ _ _ g;have KX:=i.mod.kin.keeps λb o e=>(i.bs b o e).1;have B:=i.mod.nolimit.keeps λb o e=>(i.bs b o e).1
 have a:∀ y∈ps.zip T,scope.names.lookup y.1=some .local\/(scope.names.lookup y.1=some .cell/\((cellsFrom (s.heap.objs.size+1) scope.names []).lookup y.1).isSome=true):=by
  rintro⟨n,v⟩ hy;rcases S.par n (List.of_mem_zip hy).1 with q | q
  ·exact .inl q
  ·exact .inr ⟨q,PySem.W.cellsFrom_some _ _ _ (.inl q)⟩
 refine codeAny_call_function l.depth (KX _ _ lk) rfl S.co S.gen rfl (PySem.W.codeRec_of KX m) (Y _ _ _ _ ?_);refine wpAny_newFunctionEnv_cells S.kind a λenv U F x=>?_;subst U;refine⟨B.keeps x.toInCall.keep,codeAny_func ?_⟩;obtain⟨t,ht,O⟩:=c A outer s H vs Q E (l.deeper _) g;have I:Inv (Bu CX P w K mg base N qual scope f cdv A outer s H E) [] (CB N vs) H F:=QQ S l.hd i hl r x;refine wpAny_mono (ht [] F (CB N vs) H _ I O) (λZ s' d=>?_) λe s' d=>d
 have h:∀{σ':St}{H':Hp}{v:V}{u:Value},Inv (Bu CX P w K mg base N qual scope f cdv A outer s H E) [] σ' H' s'->RelV v u->Q v H'->CE outer P w H s Q u s' :=
  λ{σ' H' v u}J z q=>⟨v,H',J.os,J.bare,J.base,J.hok,z,q⟩
 cases Z with
 | ret u =>
  obtain⟨v,σ',H',J,z,q⟩:=d;exact h J z q
 | next =>
  obtain⟨σ',H',J,q⟩:=d;exact h (v:=V.non) J rfl q
 | brk|cont=>
  obtain⟨_,_,_,q⟩:=d;exact Qd q
section
variable {t:TA}{r:List V->Hp->VK->Prop}
def tCB(r:List V->Hp->VK->Prop)(t:TA):TE:=λσ H Q=>t σ H λvs H1=>r vs H1 Q
theorem c0{p pos:Pos}{id:String}(hc:CallR X (.builtin id) r)(c:Gl X x)(j:X.mg x=none)(g:bootBuiltins x=some (.builtin id))(f:PA X (e::es) t)(m:x≠"__name__":=by decide)(b:(x==("__debug__":Str))=false:=by decide)(l:starEach (e::es) X.env=(false,eval e X.env)::starEach es X.env:=by rfl)(a:(backTo pos (starEach es X.env)).any (·.1)=false:=by rfl):PE X (.Call (.Name x p) (e::es) [] pos) (tCB r t):=by
 intro pins s σ H Q I h;refine wpAny_Call_Name_kw (EY I c j g ?_ m b);exact PyProof.Rows.callWith_builtin1 (thn (f pos pins s σ H _ I h) (by rintro d i ⟨vs,H1,k,r1,q1⟩;exact hc pins i σ H1 vs d Q k r1 q1)) l a
theorem c7{p pos:Pos}(hc:CallR X (.type T) r)(c:Gl X x)(j:X.mg x=none)(g:bootBuiltins x=some (.type T))(f:PA X (e::es) t)(m:x≠"__name__":=by decide)(b:(x==("__debug__":Str))=false:=by decide)(l:starEach (e::es) X.env=(false,eval e X.env)::starEach es X.env:=by rfl)(a:(backTo pos (starEach es X.env)).any (·.1)=false:=by rfl):PE X (.Call (.Name x p) (e::es) [] pos) (tCB r t):=by
 intro pins s σ H Q I h;refine wpAny_Call_Name_kw (EY I c j g ?_ m b);exact Qb (thn (f pos pins s σ H _ I h) (by rintro d i ⟨vs,H1,k,r1,q1⟩;exact hc pins i σ H1 vs d Q k r1 q1)) l a
end
end L2
namespace HT
open PySem PyProof.Rows
theorem cat_tup(r:IsTup s.heap t vs.toArray)(q:IsTup s.heap b a.toArray)(l:vs≠[])(h1:a=[]->Q (.ref t) s)(h2:a≠[]->Q (.ref s.heap.objs.size) {s with heap:=s.heap.push {cls:=.type "tuple",data:=.seq (vs++a).toArray}})(k:vs.length+a.length<=sizeLine):wpAny (model prog w) A (binaryOp .Add (.ref t) (.ref b)) Q E s:=by
 obtain⟨⟨cls,m,data,p⟩,g,hc,n,hd⟩:=id r;obtain⟨⟨o,d,h,f⟩,c,i,n2,j⟩:=id q;subst hc hd i j;have e:vs.toArray++a.toArray=(vs++a).toArray:=by simp
 by_cases hw:a=[]
 ·exact concat_meets ⟨_,g,rfl⟩ ⟨_,c,rfl⟩ noFill_tuple_add seq_tuple_add PySem.F.slot_tuple_add PySem.F.entry_tuple_add (PySem.F.args_tuple_add_2 _ _)
   (tuple_addW1 t b vs.toArray a.toArray n n2 m d p f (by simpa using l) (by simp[hw])) ⟨g,c,h1 hw⟩
 ·refine concat_meets ⟨_,g,rfl⟩ ⟨_,c,rfl⟩ noFill_tuple_add seq_tuple_add PySem.F.slot_tuple_add PySem.F.entry_tuple_add (PySem.F.args_tuple_add_2 _ _)
   (tuple_addW2 t b vs.toArray a.toArray n n2 m d p f (by simpa using l) (by simpa using hw) (k)) ⟨g,c,?_⟩
  rw[e];exact h2 hw
def sIx(n d:Nat):Option Int->Nat
 | none=>d
 | some v=>if v < 0 then(v+(n:Int)).toNat else min v.toNat n
theorem sIx_nat(n d k:Nat):sIx n d (some (k:Int))=min k n:=by
 show(if(k:Int) < 0 then((k:Int)+(n:Int)).toNat else min (k:Int).toNat n)=min k n;rw[if_neg (by lia),Int.toNat_natCast]
theorem QR(v:Int)(n d:Nat):(if v < 0 then max (v+(n:Int)) 0 else min v (n:Int))=((sIx n d (some v):Nat):Int):=by
 show(if v < 0 then max (v+(n:Int)) 0 else min v (n:Int))=(((if v < 0 then(v+(n:Int)).toNat else min v.toNat n):Nat):Int);by_cases a:v < 0
 ·simp only[if_pos a];lia
 ·simp only[if_neg a];lia
theorem c8(lo hi:Option Int)(n:Nat):Builtin.Slice.sliceAdjust lo hi 1 (n:Int)=(((sIx n 0 lo:Nat):Int),((sIx n n hi:Nat):Int)):=by
 refine Prod.ext ?_ ?_
 ·cases lo with
  | none=>rfl
  | some v=>exact QR v n 0
 ·cases hi with
  | none=>rfl
  | some v=>exact QR v n n
theorem c9(i j:Nat):Builtin.Slice.slicePlaces (i:Int) (j:Int) 1=j - i:=by
 unfold Builtin.Slice.slicePlaces;split <;> lia
theorem QS(p:IsPart v o)(h:Q o s):wpAny (model prog w) A (Builtin.Slice.slicePartIndex v) Q E s:=by
 cases p with
 | none=>exact slicePart_none h
 | int i t=>exact slicePart_int h
theorem QT{lo:Option Int}{Q:Int×Int×Nat->Shared->Prop}(d:s.heap.IsSliceOf c vl vu .none)(pl:IsPart vl lo)(e:IsPart vu hi)(h:Q (((sIx n 0 lo:Nat):Int),1,sIx n n hi - sIx n 0 lo) s):wpAny (model prog w) A (Builtin.Slice.sliceApplied (.ref c) (pure (n:Int))) Q E s:=by
 obtain⟨os,a,f,b⟩:=id d;refine Qk (Qk (wpAny_field a b rfl (Qk (wpAny_field a b rfl (Qk (wpAny_field a b rfl (Ql ?_)))))));refine Qk (slicePart_none ?_);refine Qk (QS pl (Qk (QS e (Qk (Ql ?_)))));show wpAny _ _ (match Builtin.Slice.sliceAdjust lo hi 1 (n:Int)with |(lo,hi)=>pure (lo,(1:Int),Builtin.Slice.slicePlaces lo hi 1)) _ _ s;rw[c8 lo hi n];show wpAny _ _ (pure (((sIx n 0 lo:Nat):Int),(1:Int),Builtin.Slice.slicePlaces ((sIx n 0 lo:Nat):Int) ((sIx n n hi:Nat):Int) 1)) _ _ s;rw[c9];exact Ql h
theorem da(xs:Array Value)(i k:Nat):((List.range k).filterMap λ(m:Nat)=>xs[((i:Int)+(m:Int)*1).toNat]?).toArray=((xs.toList.drop i).take k).toArray:=by
 have e:(λ(m:Nat)=>xs[((i:Int)+(m:Int)*1).toNat]?)=λm=>xs[i+m]?:=by
  funext m;have:((i:Int)+(m:Int)*1).toNat=i+m:=by lia
  rw[this]
 rw[e];have:=pick_run xs i k;rw[List.filterMap_map]at this;have a:((λx=>xs[x]?)∘λx=>i+x)=λm=>xs[i+m]?:=rfl;rw[a]at this;rw[this]
theorem getItem_tuple_cut{lo:Option Int}(c:IsTup s.heap t a)(j:s.heap.IsSliceOf e vl vu .none)(pl:IsPart vl lo)(k:IsPart vu hi)(hw:¬ (sIx a.size 0 lo=0/\sIx a.size a.size hi=a.size))(h:Q (.ref s.heap.objs.size) {s with heap:=s.heap.push {cls:=.type "tuple",data:=.seq ((a.toList.drop (sIx a.size 0 lo)).take (sIx a.size a.size hi - sIx a.size 0 lo)).toArray}})(l:a.size<=sizeLine):wpAny (model prog w) A (getItem (.ref t) (.ref e)) Q E s:=by
 have b:sizeOk (.seq ((a.toList.drop (sIx a.size 0 lo)).take (sIx a.size a.size hi - sIx a.size 0 lo)).toArray):=by
  show((a.toList.drop (sIx a.size 0 lo)).take (sIx a.size a.size hi - sIx a.size 0 lo)).toArray.size<=sizeLine;rw[Yn,List.length_take,List.length_drop,YR];lia
 obtain⟨os,d,i,m⟩:=id j;have f:s.TypeIs (.ref e) "slice":=⟨os,d,i⟩;unfold getItem
 try with_reducible refine wpAny_holding ?_
 first | refine Qk (Ql ?_)| skip
 refine Qk (wpAny_sequenceKey c.typeIs (by decide) ?_)
 refine Qk (wpAny_callSpecial?_slot c.typeIs PyProof.Rows.slot_tuple_getitem
  (wpAny_call_entry PyProof.Rows.slot_tuple_getitem c.typeIs entry_tuple_getitem ?_ (args_tuple_getitem _ _)))
 show wpAny _ _ (Builtin.Tuple.tupleItemsOf (.ref t) >>=_) _ _ s;refine Qk (tupleItemsOf_ c ?_);refine Qk (wpAny_typeOf f ?_);refine Qk (QT j pl k ?_)
 have g:¬ ((((sIx a.size 0 lo:Nat):Int)==0&&(1:Int)==1&&(sIx a.size a.size hi - sIx a.size 0 lo)==a.size)=true):=by
  intro q;rw[YF,YF]at q;have q1:=eq_of_beq q.1.1;have q2:=eq_of_beq q.2;exact hw ⟨by lia,by lia⟩
 show wpAny _ _ (if(((sIx a.size 0 lo:Nat):Int)==0&&(1:Int)==1&&(sIx a.size a.size hi - sIx a.size 0 lo)==a.size)=true then _ else _) _ _ s;rw[if_neg g,da]
 first
  | exact Qk (wpAny_newObj_type (Ql ⟨_,rfl,Ql h⟩) b)
  | exact Qk (wpAny_newObj_type (Qk (Ql (Ql ⟨_,rfl,Ql h⟩))) b)
  | exact Qk (Qk (wpAny_newObj_type (Ql (Ql ⟨_,rfl,Ql h⟩)) b))
  | exact Qk (Qk (wpAny_newObj_type (Ql ⟨_,rfl,Ql h⟩) b))
end HT
namespace L2
open PySem PySem.Spec PyProof.Rows
abbrev TO:=St->Hp->(Option Int->Hp->Prop)->Prop
def PO(X:Cx)(e:Option Expr)(t:TO):Prop :=
 ∀(pins:List (Addr×Obj))(s:Shared)(σ:St)(H:Hp)(Q:Option Int->Hp->Prop),Inv X pins σ H s->t σ H Q->
  wpAny (model X.prog X.w) X.A (evalPart e X.env) (λu s'=>∃ o H',Inv X pins σ H' s'/\IsPart u o/\Q o H') X.xe s
def db:TO:=λ_ H Q=>Q none H
def df(t:TE):TO:=λσ H Q=>t σ H λx H1=>∃ i,x=.int i/\Q (some i) H1
section
variable {X:Cx}{te:TE}{lo hi:Option Expr}{tl th:TO}
theorem dg:PO X none db:=by
 intro pins s σ H Q I h;rw[evalPart_none];exact Ql ⟨none,H,I,.none,h⟩
theorem dh(h:PE X e te):PO X (some e) (df te):=by
 intro pins s σ H Q I hw;refine thn (h pins s σ H _ I hw) λu c a=>?_;obtain⟨x,H1,b,r1,q1⟩:=a;obtain⟨i,rfl,q⟩:=q1;obtain⟨t,rfl⟩:=r1;exact⟨some i,H1,b,.int i t,q⟩
def SlR(X:Cx)(r:V->Option Int->Option Int->Hp->VK->Prop):Prop :=
 ∀(pins:List (Addr×Obj))(s:Shared)(σ:St)(H:Hp)(x:V)(v vl vu:Value)(lo hi:Option Int)(sl:Addr)(Q:VK),Inv X pins σ H s->RelV x v->s.heap.IsSliceOf sl vl vu .none->IsPart vl lo->IsPart vu hi->r x lo hi H Q->
  ∃ T id,typeLookup (.type T) "__getitem__"=pure (some (.builtin id))/\s.TypeIs v T/\wpAny (model X.prog X.w) X.A (getItem v (.ref sl)) (EP X pins σ Q) X.xe s
theorem SlR.or(h:SlR X r)(h':SlR X r'):SlR X (λx lo hi H Q=>r x lo hi H Q\/r' x lo hi H Q):=by
 intro pins s σ H x v vl vu lo hi d Q I c a pl b q;rcases q with q | q
 ·exact h pins s σ H x v vl vu lo hi d Q I c a pl b q
 ·exact h' pins s σ H x v vl vu lo hi d Q I c a pl b q
def tSl(r:V->Option Int->Option Int->Hp->VK->Prop)(te:TE)(tl th:TO):TE:=λσ H Q=>te σ H λx H1=>tl σ H1 λl H2=>th σ H2 λu H3=>r x l u H3 Q
theorem QU(w:SlR X r)(p:PE X e te)(hl:PO X lo tl)(o:PO X hi th):PE X (.Subscript e (.Slice lo hi none p2) pos) (tSl r te tl th):=by
 intro pins s σ H Q I h;refine Subscript_ (thn (p pins s σ H _ I h) λv g c=>?_);obtain⟨x,H1,n,r1,q1⟩:=c;refine wpAny_Slice (thn (hl pins g σ H1 _ n q1) λvl i⟨l,H2,y,pl,q2⟩=>thn (o pins i σ H2 _ y q2) λvu a⟨u,d,m,j,q3⟩=>?_);refine Ql ?_;have t:Inv X pins σ d {a with heap:=a.heap.push {cls:=.type "slice",data:=.fields #[vl,vu,.none]}}:=m.kept λb A q=>Qm _ q;obtain⟨T,id,k,z,f⟩:=w pins {a with heap:=a.heap.push {cls:=.type "slice",data:=.fields #[vl,vu,.none]}} σ d x v vl vu l u a.heap.objs.size Q t r1 (Heap.IsSliceOf.new ..) pl j q3;exact tail_any z k f (by with_unfolding_all rfl)
def GJ(xs:List V)(lo hi:Option Int):List V:=(xs.drop (HT.sIx xs.length 0 lo)).take (HT.sIx xs.length xs.length hi - HT.sIx xs.length 0 lo)
theorem QV(xs:List V)(lo hi:Option Int):(GJ xs lo hi).length<=xs.length:=by
 unfold GJ;rw[List.length_take,List.length_drop];lia
def Mv(K:PySem.W.Frag):V->Option Int->Option Int->Hp->VK->Prop:=λx lo hi H Q=>∃ a xs,x=.ref a/\SqT K H a xs/\
 ¬ (HT.sIx xs.length 0 lo=0/\HT.sIx xs.length xs.length hi=xs.length)/\∀ p,H p=none->Q (.ref p) (upd H p (.tup (GJ xs lo hi)))
theorem QW:SlR X (Mv X.K):=by
 intro pins s σ H x v vl vu lo hi m Q I j g pl i h;obtain⟨a,xs,rfl,k,hw,q⟩:=h;cases j;obtain⟨d,r,f,e⟩:=I.tuple k;have c:d.toArray.size=xs.length:=by exact r.length.symm
 refine⟨"tuple",_,PyProof.Rows.slot_tuple_getitem.lookup,f.typeIs,HT.getItem_tuple_cut f g pl i (by rw[c];exact hw) ?_ (by rw[c];exact e)⟩;rw[c];refine⟨.ref s.heap.objs.size,_,I.laid (λb l q=>Qm _ q) (Yr _) ?_,rfl,q _ (I.hok.fresh (Yr _))⟩;exact⟨Yt (QV xs lo hi) e,_,(r.drop (HT.sIx xs.length 0 lo)).take (HT.sIx xs.length xs.length hi - HT.sIx xs.length 0 lo),TupP.new _ _⟩
def Mw(K:PySem.W.Frag):R2:=λx y H Q=>∃ a b xs ys,x=.ref a/\y=.ref b/\SqT K H a xs/\SqT K H b ys/\xs≠[]/\xs.length+ys.length<=sizeLine/\
 (ys=[]->Q (.ref a) H)/\(ys≠[]->∀ p,H p=none->Q (.ref p) (upd H p (.tup (xs++ys))))
theorem Vals.nil_iff(r:Vals xs us):us=[]↔xs=[]:=by
 cases r with
 | nil|cons _ _=>simp
theorem di:OpR X (binaryOp .Add) (Mw X.K):=by
 intro pins s σ H x y v u Q I j i h;obtain⟨a,b,xs,ys,rfl,rfl,g,f,k,d,q1,q2⟩:=h;cases j;cases i;obtain⟨l,r1,p1,_⟩:=I.tuple g;obtain⟨e,c,p2,_⟩:=I.tuple f;refine HT.cat_tup p1 p2 (λz=>k (r1.nil_iff.mp z)) (λz=>⟨.ref a,H,I,rfl,q1 (c.nil_iff.mp z)⟩) (λz=>?_) (by rw[<- r1.length,<- c.length];exact d);refine⟨.ref s.heap.objs.size,_,I.laid (λb m q=>Qm _ q) (Yr _) ?_,rfl,q2 (λw=>z (c.nil_iff.mpr w)) _ (I.hok.fresh (Yr _))⟩;exact⟨by rw[Yj];exact d,_,r1.append c,TupP.new _ _⟩
end
def ixN(n:Nat)(i:Int):Option Nat:=if 0<=i then(if i < n then some i.toNat else none)else if -(n:Int)<=i then some (i+n).toNat else none
def atI{α:Type}(xs:List α)(i:Int):Option α:=(ixN xs.length i).bind λj=>xs[j]?
theorem QX(h:ixN n i=some j):seqIndex? i n=some j/\j < n/\-(n:Int)<=i/\i < n:=by
 unfold ixN at h;by_cases a:0<=i
 ·rw[if_pos a]at h;by_cases h1:i < n
  ·rw[if_pos h1]at h;have e:=YE h;exact⟨by rw[seqIndex_of a h1,e],by lia,by lia,h1⟩
  ·rw[if_neg h1]at h;cases h
 ·rw[if_neg a]at h;by_cases h1:-(n:Int)<=i
  ·rw[if_pos h1]at h;have e:=YE h;exact⟨by rw[seqIndex_neg (by lia) h1,e],by lia,h1,by lia⟩
  ·rw[if_neg h1]at h;cases h
theorem Mx{α:Type}{xs:List α}{v:α}(h:atI xs i=some v):∃ j,seqIndex? i xs.length=some j/\xs[j]?=some v/\j < xs.length/\-(xs.length:Int)<=i/\i < xs.length:=by
 unfold atI at h;cases e:ixN xs.length i with
 | none=>rw[e]at h;cases h
 | some j =>
  rw[e]at h;obtain⟨h1,h2,b,a⟩:=QX e;exact⟨j,h1,h,h2,b,a⟩
theorem CK{α:Type}{xs:List α}{j:Nat}{v:α}(h:xs[j]?=some v):atI xs (j:Int)=some v:=by
 have a:=(YV.mp h).1
 have e:ixN xs.length (j:Int)=some j:=by
  unfold ixN;rw[if_pos (by lia),if_pos (by lia)];simp
 unfold atI;rw[e];exact h
def JE(b:Expr):Prop:=∀ o i,subscripted b false o i=operate [o,i] (getItem o i)
def IxR(X:Cx)(r:R2):Prop :=
 ∀(value slice:Expr)(pins:List (Addr×Obj))(s:Shared)(σ:St)(H:Hp)(x y:V)(v u:Value)(Q:VK),Inv X pins σ H s->RelV x v->RelV y u->r x y H Q->
  subscripted slice false v u=operate [v,u] (getItem v u)->wpAny (model X.prog X.w) X.A (subscriptTail value slice v u) (EP X pins σ Q) X.xe s
def MtR(X:Cx)(id:String)(r:V->List V->Hp->VK->Prop):Prop :=
 ∀(pins:List (Addr×Obj))(s:Shared)(σ:St)(H:Hp)(x:V)(xs:List V)(v:Value)(us:List Value)(Q:VK),Inv X pins σ H s->RelV x v->Vals xs us->r x xs H Q->
  wpAny (model X.prog X.w) X.A (call (.builtin id) (v::us)) (EP X pins σ Q) X.xe s
section
variable {a b:Expr}
theorem IxR.or(h:IxR X r)(h':IxR X r'):IxR X (λx y H Q=>r x y H Q\/r' x y H Q):=by
 intro value slice pins s σ H x y v u Q I c a q b;rcases q with q | q
 ·exact h value slice pins s σ H x y v u Q I c a q b
 ·exact h' value slice pins s σ H x y v u Q I c a q b
theorem MtR.or{id:String}(h:MtR X id r)(h':MtR X id r'):MtR X id (λx xs H Q=>r x xs H Q\/r' x xs H Q):=by
 intro pins s σ H x xs v b Q I c a q;rcases q with q | q
 ·exact h pins s σ H x xs v b Q I c a q
 ·exact h' pins s σ H x xs v b Q I c a q
theorem dj(j:IxR X r)(d:PE X a ta)(c:PE X b tb)(g:JE b):PE X (.Subscript a b pos) (tOp r ta tb):=by
 intro pins s σ H Q I h;exact Subscript_ (Mj d c I h λv u e x y H2 k i f q=>j a b pins e σ H2 x y v u Q k i f q (g _ _))
def My(K:PySem.W.Frag):R2:=λx y H Q=>∃ p xs i v,x=.ref p/\y=.int i/\SqL K H p xs/\atI xs i=some v/\Q v H
def Mz(K:PySem.W.Frag):R2:=λx y H Q=>∃ p xs i v,x=.ref p/\y=.int i/\SqT K H p xs/\atI xs i=some v/\Q v H
def MA:R2:=λx y H Q=>∃ z i c,x=.str z/\y=.int i/\z.length<=sizeLine/\atI z.cps.toList i=some c/\Q (.str ⟨#[c]⟩) H
theorem dk:IxR X (My X.K):=by
 intro value slice pins s σ H x y v u Q I A l h f;obtain⟨p,xs,i,z,rfl,rfl,n,m,q⟩:=h;cases A;obtain⟨t,rfl⟩:=l;obtain⟨d,r,pl,D⟩:=I.list n;obtain⟨j,h1,h2,B,k,o⟩:=Mx m;obtain⟨w,e,c⟩:=r.get h2;have hl:=r.length;have E:=JB;have a:EP X pins σ Q w s:=⟨z,H,I,c,q⟩;by_cases g:0<=i
 ·have b:i.toNat=j:=by
   rw[seqIndex_of g o]at h1;exact YE h1
  exact item_listR pl.isList g (by lia) (by rw[b];simpa using e) a f
 ·have b:(i+(d.toArray.size:Int)).toNat=j:=by
   rw[seqIndex_neg (by lia) k]at h1;rw[Yn,<- hl];exact YE h1
  exact subscriptTail_builtinR pl.isList.typeIs slot_list_getitem.lookup
   (wpAny_getItem_list_neg pl.isList (by lia) (by rw[Yn] <;> lia) (by lia) (by rw[b];simpa using e) ⟨rfl,a⟩) f
theorem dq:IxR X (Mz X.K):=by
 intro value slice pins s σ H x y v u Q I g d h e;obtain⟨p,xs,i,z,rfl,rfl,k,f,q⟩:=h;cases g;obtain⟨t,rfl⟩:=d;obtain⟨l,r,pl,o⟩:=I.tuple k;obtain⟨j,h1,h2,n,m,A⟩:=Mx f;obtain⟨w,c,b⟩:=r.get h2;have hl:=r.length;have B:=JB;have a:EP X pins σ Q w s:=⟨z,H,I,b,q⟩
 exact subscriptTail_builtinR pl.typeIs slot_tuple_getitem.lookup
  (getItem_tuple pl (by lia) (by lia) (by rw[Yn,<- hl];exact h1) (by simpa using c) ⟨rfl,a⟩) e
theorem dr:IxR X MA:=by
 intro value slice pins s σ H x y v u Q I k d h f;obtain⟨z,i,c,rfl,rfl,n,g,q⟩:=h;obtain⟨t,rfl⟩:=k;obtain⟨t',rfl⟩:=d;obtain⟨j,h1,h2,m,b,l⟩:=Mx g;have hl:z.cps.toList.length=z.length:=by simp[Str.length]
 rw[hl]at h1 b l;have o:=JB
 exact tail_any (typeIs_str s z t) slot_str_getitem.lookup (getItem_str (by
  have e:decide (i < -(2 ^ 63:Int))=false:=Qi (by lia);have a:decide (i>=2 ^ 63)=false:=Qi (by lia);rw[e,a,Bool.or_false]) (by rw[h1];simpa using h2) ⟨.str ⟨#[c]⟩,H,I.tok _,⟨_,rfl⟩,q⟩) f
theorem dt(a:List Value)(n j:Nat)(u:Value):Obj.mapSeq (·.setIfInBounds j u) {cls:=.type "list",data:=.seq a.toArray n}={cls:=.type "list",data:=.seq (a.set j u).toArray n}:=by
 simp[Obj.mapSeq]
theorem Inv.lst{σ:St}(I:Inv X pins σ H s)(h:H p=some (.lst xs)):
  ∃(a:List Value)(n:Nat),Vals xs a/\s.heap.get? p=some {cls:=.type "list",data:=.seq a.toArray n}/\xs.length<=sizeLine:=by
 obtain⟨z,a,n,r,e⟩:=I.hok p _ h;exact⟨a,n,r,e,z⟩
theorem Inv.lstUpd{σ:St}{c a:List Value}(I:Inv X pins σ H s)(h:H p=some (.lst xs))(j:s.heap.get? p=some {cls:=.type "list",data:=.seq c.toArray n})(g:f {cls:=.type "list",data:=.seq c.toArray n}={cls:=.type "list",data:=.seq a.toArray d})(r:Vals ys a)(k:ys.length<=sizeLine)(t:Nat):
  Inv X pins σ (upd H p (.lst ys)) {s with heap:=s.heap.update p f,toks:=t}:=by
 have e:(s.heap.update p f).get? p=some {cls:=.type "list",data:=.seq a.toArray d}:=by
  rw[Heap.get?_update_self f j (by rw[g] <;> rfl),g]
 refine I.write (by rw[h];trivial) (.inl rfl) (λb u i q=>(Heap.get?_update_other _ _ (YU i)).trans q) ⟨_,e⟩ ?_;exact⟨k,a,d,r,e⟩
def QY:V->V->V->Hp->(Hp->Prop)->Prop:=λo i v H Q=>∃ p xs k j,o=.ref p/\i=.int k/\H p=some (.lst xs)/\ixN xs.length k=some j/\Q (upd H p (.lst (xs.set j v)))
theorem du:Qx X QY:=by
 intro pins s σ H o i v A B u Q I x z m h;obtain⟨p,xs,k,j,rfl,rfl,g,y,q⟩:=h;cases x;obtain⟨t,rfl⟩:=z;obtain⟨a,n,r,b,w⟩:=I.lst g;obtain⟨h1,h2,f,d⟩:=QX y;have hl:=r.length;have D:=JB
 have e:Inv X pins σ (upd H p (.lst (xs.set j v))) {s with heap:=s.heap.update p (Obj.mapSeq (·.setIfInBounds j u))}:=
  I.lstUpd g b (dt a n j u) (r.set m j) (by rw[List.length_set];exact w) s.toks
 by_cases l:0<=k
 ·have c:k.toNat=j:=by
   rw[seqIndex_of l d]at h1;exact YE h1
  exact PySem.W.ki_setAt b l (by lia) (by rw[Yn,<- hl];exact d) (by rw[c];exact⟨_,e,q⟩)
 ·have c:(k+(a.toArray.size:Int)).toNat=j:=by
   rw[seqIndex_neg (by lia) f]at h1;rw[Yn,<- hl];exact YE h1
  exact PySem.W.ki_setBack b (by lia) (by rw[Yn,<- hl];exact f) (by lia) (by rw[c];exact⟨_,e,q⟩)
theorem dv(lo hi:Option Int)(n:Nat):(sliceBounds lo hi none n).1=((HT.sIx n 0 lo:Nat):Int)/\(sliceBounds lo hi none n).2.1=((HT.sIx n n hi:Nat):Int)/\(sliceBounds lo hi none n).2.2=1:=by
 refine⟨?_,?_,rfl⟩
 ·cases lo with
  | none=>simp[sliceBounds,HT.sIx]
  | some i =>
   simp only[sliceBounds,HT.sIx,Option.getD_none];by_cases h:i < 0
   ·simp only[h,if_true] <;> lia
   ·simp only[h,if_false] <;> lia
 ·cases hi with
  | none=>simp[sliceBounds,HT.sIx]
  | some i =>
   simp only[sliceBounds,HT.sIx,Option.getD_none];by_cases h:i < 0
   ·simp only[h,if_true] <;> lia
   ·simp only[h,if_false] <;> lia
theorem dw(a:List Value)(lo hi:Option Int):slicePick a.toArray lo hi none=((a.drop (HT.sIx a.length 0 lo)).take (HT.sIx a.length a.length hi - HT.sIx a.length 0 lo)).toArray:=by
 obtain⟨h1,h2,b⟩:=dv lo hi a.toArray.size;unfold slicePick;rw[h1,h2,b];simp only[sliceRange_one,pick_run] <;> rfl
def MB(K:PySem.W.Frag):V->Option Int->Option Int->Hp->VK->Prop:=λx lo hi H Q=>∃ a xs,x=.ref a/\SqL K H a xs/\∀ p,H p=none->Q (.ref p) (upd H p (.lst (GJ xs lo hi)))
theorem QZ:SlR X (MB X.K):=by
 intro pins s σ H x v vl vu lo hi m Q I i e pl g h;obtain⟨a,xs,rfl,j,q⟩:=h;cases i;obtain⟨k,r,d,f⟩:=I.list j;have c:=r.length;refine⟨"list",_,slot_list_getitem.lookup,d.isList.typeIs,wpAny_getItem_list_slice d.isList e pl g .none (by simp) ?_ (by rw[Yn] <;> lia)⟩;rw[dw,<- c];refine⟨.ref s.heap.objs.size,_,I.laid (λb l q=>Qm _ q) (Yr _) ?_,rfl,q _ (I.hok.fresh (Yr _))⟩;exact⟨Yt (QV xs lo hi) f,_,0,(r.drop (HT.sIx xs.length 0 lo)).take (HT.sIx xs.length xs.length hi - HT.sIx xs.length 0 lo),Qo _ rfl⟩
def D2:V->Bool
 | .non|.bl _|.int _|.str _=>true
 | _=>false
def eqV:V->V->Bool
 | .non,.non=>true
 | .bl a,.bl b=>a==b
 | .bl a,.int b=>(if a then 1 else 0)==b
 | .int a,.bl b=>a==(if b then 1 else 0)
 | .int a,.int b|.str a,.str b=>a==b
 | _,_=>false
theorem HP(d:RelV y u)(c:RelV x v)(f:D2 y=true)(e:D2 x=true):SeqAt.EqAt A s u v (eqV y x):=by
 cases y with
 | non =>
  cases d;cases x with
  | non=>cases c;exact SeqAt.EqAt.same _
  | bl b=>cases c;exact SeqAt.EqAt.none_bool b
  | int b=>obtain⟨t,rfl⟩:=c;exact SeqAt.EqAt.none_int b t
  | str b=>obtain⟨t,rfl⟩:=c;exact SeqAt.EqAt.none_str b t
  | _=>exact Qj (e) YS
 | bl a =>
  cases d;cases x with
  | non=>cases c;exact SeqAt.EqAt.bool_none a
  | bl b=>cases c;exact SeqAt.EqAt.bool_bool a b
  | int b=>obtain⟨t,rfl⟩:=c;exact SeqAt.EqAt.bool_int a b t
  | str b=>obtain⟨t,rfl⟩:=c;exact SeqAt.EqAt.bool_str a b t
  | _=>exact Qj (e) YS
 | int a =>
  obtain⟨t',rfl⟩:=d;cases x with
  | non=>cases c;exact SeqAt.EqAt.int_none a t'
  | bl b=>cases c;exact SeqAt.EqAt.int_bool a t' b
  | int b=>obtain⟨t,rfl⟩:=c;exact SeqAt.EqAt.int_int a t' b t
  | str b=>obtain⟨t,rfl⟩:=c;exact SeqAt.EqAt.int_str a t' b t
  | _=>exact Qj (e) YS
 | str a =>
  obtain⟨t',rfl⟩:=d;cases x with
  | non=>cases c;exact SeqAt.EqAt.str_none a t'
  | bl b=>cases c;exact SeqAt.EqAt.str_bool a t' b
  | int b=>obtain⟨t,rfl⟩:=c;exact SeqAt.EqAt.str_int a t' b t
  | str b=>obtain⟨t,rfl⟩:=c;exact SeqAt.EqAt.str_str a t' b t
  | _=>exact Qj (e) YS
 | _=>exact Qj (f) YS
def eqU(x:V)(u:Value):Bool:=match u with
 | .none=>eqV .non x
 | .bool b=>eqV (.bl b) x
 | .int i _=>eqV (.int i) x
 | .str z _=>eqV (.str z) x
 | _=>false
theorem Q0(r:RelV y u)(f:D2 y=true):eqU x u=eqV y x:=by
 cases y with
 | non|bl b=>cases r;rfl
 | int i|str z=>obtain⟨t,rfl⟩:=r;rfl
 | _=>exact Qj (f) YS
theorem HQ:∀{xs:List V}{us:List Value},Vals xs us->xs.all D2=true->us.any (eqU x)=xs.any λy=>eqV y x
 | _,_,.nil,_=>rfl
 | y::xs,u::us,.cons r t,f=>by
  rw[List.all_cons,YF]at f;rw[List.any_cons,List.any_cons,Q0 r f.1,HQ t f.2]
theorem HS(c:RelV x v)(b:D2 x=true):∀{xs:List V}{us:List Value},Vals xs us->xs.all D2=true->∀ u∈us,SeqAt.EqAt A s u v (eqU x u)
 | _,_,.nil,_=>λu a=>by cases a
 | y::xs,u::us,.cons r t,f=>λd a=>by
  rw[List.all_cons,YF]at f;rcases Yo.mp a with rfl | a
  ·rw[Q0 r f.1];exact HP r c f.1 b
  ·exact HS c b t f.2 d a
def inV(x:V)(xs:List V):Bool:=xs.any λy=>eqV y x
def rIn(K:PySem.W.Frag)(neg:Bool):R2:=λx y H Q=>∃ p xs,y=.ref p/\(SqL K H p xs\/SqT K H p xs)/\D2 x=true/\xs.all D2=true/\Q (.bl (if neg then !inV x xs else inV x xs)) H
theorem dy:OpR X (compareOp .In) (rIn X.K false):=by
 intro pins s σ H x y v u Q I d e h;obtain⟨p,xs,rfl,b,c,fs,q⟩:=h;cases e;rcases b with b | b
 ·obtain⟨a,r,pl,f⟩:=I.list b;refine SeqAt.in_listAt (eqU x) pl.isList (λw hw=>HS d c r fs w (by simpa using hw)) ⟨.bl _,H,I,rfl,?_⟩;rw[show a.toArray.any (eqU x)=a.any (eqU x) by simp,HQ r fs];exact q
 ·obtain⟨a,r,pl,f⟩:=I.tuple b;refine SeqAt.in_tupleAt (eqU x) pl (λw hw=>HS d c r fs w (by simpa using hw)) ⟨.bl _,H,I,rfl,?_⟩;rw[show a.toArray.any (eqU x)=a.any (eqU x) by simp,HQ r fs];exact q
theorem dz:OpR X (compareOp .NotIn) (rIn X.K true):=by
 intro pins s σ H x y v u Q I d e h;obtain⟨p,xs,rfl,b,c,fs,q⟩:=h;cases e;rcases b with b | b
 ·obtain⟨a,r,pl,f⟩:=I.list b;refine SeqAt.notIn_listAt (eqU x) pl.isList (λw hw=>HS d c r fs w (by simpa using hw)) ⟨.bl _,H,I,rfl,?_⟩;rw[show a.toArray.any (eqU x)=a.any (eqU x) by simp,HQ r fs];exact q
 ·obtain⟨a,r,pl,f⟩:=I.tuple b;refine SeqAt.notIn_tupleAt (eqU x) pl (λw hw=>HS d c r fs w (by simpa using hw)) ⟨.bl _,H,I,rfl,?_⟩;rw[show a.toArray.any (eqU x)=a.any (eqU x) by simp,HQ r fs];exact q
theorem CallR.or(h:CallR X f r)(h':CallR X f r'):CallR X f (λxs H Q=>r xs H Q\/r' xs H Q):=by
 intro pins s σ H xs b Q I a q;rcases q with q | q
 ·exact h pins s σ H xs b Q I a q
 ·exact h' pins s σ H xs b Q I a q
theorem dA:CallR X (.type "list") (λxs H Q=>∃ p ys,xs=[.ref p]/\(SqL X.K H p ys\/SqT X.K H p ys)/\∀ l,H l=none->Q (.ref l) (upd H l (.lst ys))):=by
 intro pins s σ H xs m Q I r h;obtain⟨p,ys,rfl,g,q⟩:=h;obtain⟨u,rfl,k⟩:=CZ r;cases k
 have d:∀(a:List Value),Vals ys a->ys.length<=sizeLine->∀(h':Heap)(c:Nat),(∀ b o',s.heap.get? b=some o'->h'.get? b=some o')->
   h'.get? s.heap.objs.size=some {cls:=.type "list",dict:=none,data:=.seq a.toArray c,slots:=#[]}->EP X pins σ Q (.ref s.heap.objs.size) {s with heap:=h'}:=λa r' f h' c kp e=>
  ⟨.ref s.heap.objs.size,_,I.laid kp (Yr _) (show ObjOk X.prog X.w _ h' _ (.lst ys)from⟨f,a,c,r',e⟩),rfl,q _ (I.hok.fresh (Yr _))⟩
 rcases g with g | g
 ·obtain⟨a,r',pl,f⟩:=I.list g;have i:=r'.length;obtain⟨o,j,hc,n,hd⟩:=pl.isList;exact call_list_seq p (.inl rfl) j hc hd (λh' c kp e=>d a r' f h' c kp e) (by simp only[Yn] <;> lia)
 ·obtain⟨a,r',pl,f⟩:=I.tuple g;have i:=r'.length;obtain⟨o,j,hc,n,hd⟩:=pl;exact call_list_seq p (.inr rfl) j hc hd (λh' c kp e=>d a r' f h' c kp e) (by simp only[Yn] <;> lia)
theorem dB:CallR X (.type "tuple") (λxs H Q=>∃ p ys,xs=[.ref p]/\((SqL X.K H p ys/\∀ l,H l=none->Q (.ref l) (upd H l (.tup ys)))\/(SqT X.K H p ys/\Q (.ref p) H))):=by
 intro pins s σ H xs k Q I r h;obtain⟨p,ys,rfl,h⟩:=h;obtain⟨u,rfl,i⟩:=CZ r;cases i;rcases h with⟨c,q⟩|⟨c,q⟩
 ·obtain⟨a,r',pl,d⟩:=I.list c;have g:=r'.length;refine call_tuple_list pl.isList (λh' kp=>?_) (by simp only[Yn] <;> lia);have f:Inv X pins σ H {s with heap:=h'}:=I.kept kp
  have j:Inv X pins σ (upd H h'.objs.size (.tup ys)) {s with heap:=h'.push {cls:=.type "tuple",data:=.seq a.toArray}}:=
   f.laid (λb o e=>Qm _ e) (Yr _) (⟨d,a,r',TupP.new _ _⟩)
  exact⟨.ref h'.objs.size,_,j,rfl,q _ (f.hok.fresh (Yr _))⟩
 ·obtain⟨a,r',pl,d⟩:=I.tuple c;exact call_tuple_same pl ⟨.ref p,H,I,rfl,q⟩
def tyV(K:PySem.W.Frag)(T:String)(x:V)(H:Hp):Prop:=match x with
 | .str _=>T="str"
 | .int _=>T="int"
 | .ref p=>(T="list"/\∃ xs,SqL K H p xs)\/(T="tuple"/\∃ o,K.lookup p=some o/\o.cls=.type "tuple"/\o.dict=none)\/
   (T="dict"/\((∃ kvs,H p=some (.dK kvs))\/∃ kvs,H p=some (.dT kvs)))\/(T="set"/\∃ S n,H p=some (.set S n))
 | _=>False
theorem dD{σ:St}(I:Inv X pins σ H s)(r:RelV x v)(ty:tyV X.K T x H):
  s.TypeIs v T/\∀ a,v=.ref a->∃ g,s.heap.get? a=some g/\g.dict=none:=by
 cases x with
 | str z =>
  obtain⟨t,rfl⟩:=r;cases(ty);exact⟨typeIs_str s z t,λ_ e=>nomatch e⟩
 | int i =>
  obtain⟨t,rfl⟩:=r;cases(ty);exact⟨typeIs_int s i t,λ_ e=>nomatch e⟩
 | ref p =>
  cases r;rcases ty with⟨rfl,xs,h⟩|⟨rfl,o,b,hc,hd⟩|⟨rfl,b⟩|⟨rfl,S,n,b⟩
  ·obtain⟨j,_,pl,_⟩:=I.list h;refine⟨pl.isList.typeIs,λa e=>?_⟩;cases e;obtain⟨o,n,e,c,hd,_⟩:=pl;exact⟨o,e,hd⟩
  ·refine⟨⟨o,I.kIn p o b,hc⟩,λa e=>?_⟩;cases e;exact⟨o,I.kIn _ o b,hd⟩
  ·have z:∃ o,s.heap.get? p=some o/\o.ExactDict:=by
    rcases b with⟨d,b⟩|⟨d,b⟩
    ·obtain⟨_,_,_,_,o,_,_,e,ex,_⟩:=I.hok p _ b;exact⟨o,e,ex⟩
    ·obtain⟨_,_,_,_,o,_,_,e,ex,_⟩:=I.hok p _ b;exact⟨o,e,ex⟩
   obtain⟨o,e,ex⟩:=z;refine⟨⟨o,e,ex.1⟩,λa f=>?_⟩;cases f;exact⟨o,e,ex.2.1⟩
  ·obtain⟨o,_,_,_,e,ex,_⟩:=I.hok p _ b;refine⟨⟨o,e,ex.1⟩,λa f=>?_⟩;cases f;exact⟨o,e,ex.2.1⟩
 | _=>exact Qd ty
def tBM(K:PySem.W.Frag)(T:String)(r:V->List V->Hp->VK->Prop)(to:TE)(t:TA):TE:=λσ H Q=>to σ H λx H1=>tyV K T x H1/\t σ H1 λxs H2=>r x xs H2 Q
theorem dE{apos cpos:Pos}{id:String}(pa:PlainAttrs T)(slot:Slot T name id)(f:typeOf (.builtin id)=pure (.type "method_descriptor"))(q:MtR X id r)(p:PE X o to)(j:PA X (e::es) t)(a:attributeBase o name X.env (eval o X.env)=eval o X.env:=by rfl)(d:((backTo cpos (starEach (e::es) X.env)).all (λx=>!x.1)&&(backToKw cpos (keywordEach [] X.env)).all (λx=>x.1.isSome)
   && decide ((e::es).length+([]:List Keyword).length+(if([]:List Keyword).isEmpty then 0 else 1) < 30))=true:=by rfl)(b:(apos.endLine==cpos.line)=true:=by rfl)(n:starEach (e::es) X.env=(false,eval e X.env)::starEach es X.env:=by rfl)(hplain:(backTo cpos (starEach es X.env)).any (·.1)=false:=by rfl):
  PE X (.Call (.Attribute o name apos) (e::es) [] cpos) (tBM X.K T r to t):=by
 intro pins s σ H Q I h;refine wpAny_Call_method_late a d b rfl (thn (p pins s σ H _ I h) λv l c=>?_);obtain⟨x,H1,i,r1,ty,q1⟩:=c;obtain⟨h1,h2⟩:=dD i r1 ty;refine⟨T,id,pa,slot,f,h1,h2,?_⟩;have g:=j cpos pins l σ H1 _ i q1;rw[n]at g ⊢;refine Calls.callWith_builtin (by show(false||(backTo cpos (starEach es X.env)).any (·.1))=false;rw[hplain] <;> rfl) (Calls.evalArgs_plain ?_);exact thn g (by rintro k m ⟨vs,H2,u,w,q2⟩;exact q pins m σ H2 x vs v k Q u r1 w q2)
end
def MtM(X:Cx)(id:String)(r:V->List V->Hp->VK->Prop):Prop :=
 ∀(pins:List (Addr×Obj))(s:Shared)(σ:St)(H:Hp)(x:V)(xs:List V)(v:Value)(us:List Value)(Q:VK),Inv X pins σ H s->RelV x v->Vals xs us->r x xs H Q->
  wpAny (model X.prog X.w) X.A (call (.builtin id) (v::us)) (EP X pins σ Q) X.xe s
theorem Vals.one:∀{x:V}{us:List Value},Vals [x] us->∃ u,us=[u]/\RelV x u
 | _,_,.cons r .nil=>⟨_,rfl,r⟩
theorem Vals.two:∀{x y:V}{us:List Value},Vals [x,y] us->∃ u v,us=[u,v]/\RelV x u/\RelV y v
 | _,_,_,.cons r (.cons q .nil)=>⟨_,_,rfl,r,q⟩
theorem Vals.zero:∀{us:List Value},Vals [] us->us=[]
 | _,.nil=>rfl
theorem Vals.rep(h:Vals xs us):∀ k:Nat,Vals (List.replicate k xs).flatten (List.replicate k us).flatten
 | 0=>.nil
 | k+1=>by
  exact Vals.append h (Vals.rep h k)
theorem Q1(a:List Value):∀(k:Nat)(b:List Value),
  List.foldl (λd f=>d++f) b.toArray (List.replicate k a.toArray)=(b++(List.replicate k a).flatten).toArray
 | 0,b=>by simp
 | k+1,b=>by
  have e:b.toArray++a.toArray=(b++a).toArray:=by simp
  have c:(b++a)++(List.replicate k a).flatten=b++(List.replicate (k+1) a).flatten:=by
   rw[List.replicate_succ,List.flatten_cons,Yv]
  rw[<- c,<- Q1 a k (b++a),<- e,List.replicate_succ,List.foldl_cons]
theorem Inv.lset{σ:St}{b:List Value}(I:Inv X pins σ H s)(j:H l=some (.lst xs))(e:s.heap.get? l=some {cls:=.type "list",data:=.seq b.toArray n})(h:f b.toArray=a.toArray)(d:Vals ys a)(g:ys.length<=sizeLine):
  Inv X pins σ (upd H l (.lst ys)) {s with heap:=s.heap.update l (Obj.mapSeq f),toks:=t'}:=by
 have q:=PySem.IsL.update e f;rw[h]at q;refine I.write (by rw[j];exact trivial) (.inl rfl) (λk u c i=>(Heap.get?_update_other s.heap (Obj.mapSeq f) (YU c)).trans i) ⟨_,q⟩ ?_;exact⟨g,a,_,d,q⟩
variable {X:Cx}{pins:List (Addr×Obj)}{σ:St}{H:Hp}{s:Shared}{b:Addr}{ys:List V} in
theorem Inv.lnew{a:List Value}{t':Nat}(I:Inv X pins σ H s)(b:Vals ys a)(c:ys.length<=sizeLine):
  Inv X pins σ (upd H s.heap.objs.size (.lst ys)) {s with heap:=s.heap.push {cls:=.type "list",data:=.seq a.toArray},toks:=t'}:=
 I.laid (λ_ _ q=>Qm _ q) (Yr _) ⟨c,a,0,b,Qo _ rfl⟩
theorem Inv.fresh{σ:St}(I:Inv X pins σ H s):H s.heap.objs.size=none:=I.hok.fresh (Yr _)
variable {X:Cx}{pins:List (Addr×Obj)}{σ:St}{H:Hp}{s:Shared}{l b:Addr}{xs:List V} in
theorem Inv.lstM(I:Inv X pins σ H s)(b:H l=some (.lst xs)):xs.length<=sizeLine/\∃(a:List Value)(n:Nat),Vals xs a/\xs.length=a.length/\s.heap.get? l=some {cls:=.type "list",data:=.seq a.toArray n}:=by
 obtain⟨z,a,n,r,e⟩:=I.hok l _ b;exact⟨z,a,n,r,r.length,e⟩
theorem Q2(h:n<=sizeLine):Builtin.List.listTooLong n=false:=Qi (by lia)
def dF:V->List V->Hp->VK->Prop:=λx vs H Q=>∃ l xs y,x=.ref l/\vs=[y]/\H l=some (.lst xs)/\xs.length < sizeLine/\Q .non (upd H l (.lst (xs++[y])))
theorem dG:MtM X "list.append" dF:=by
 intro pins s σ H x vs v g Q I f c h;obtain⟨l,xs,y,rfl,rfl,b,i,q⟩:=h;cases f;obtain⟨u,rfl,d⟩:=c.one;obtain⟨z,a,n,r,hl,e⟩:=I.lstM b;refine call_meets F.slot_list_append ⟨_,e,rfl⟩ F.entry_list_append (F.args_list_append_2 _ _) (PySem.list_append l a.toArray n u (by rw[Yn];lia)) ⟨e,⟨.non,_,I.lset b e (by simp) (r.append (.cons d .nil)) ?_,rfl,q⟩⟩;rw[Yj,List.length_singleton];lia
def dH:V->List V->Hp->VK->Prop:=λx vs H Q=>∃ l b xs zs,x=.ref l/\vs=[.ref b]/\H l=some (.lst xs)/\H b=some (.lst zs)/\xs.length+zs.length<=sizeLine/\Q .non (upd H l (.lst (xs++zs)))
theorem dI:MtM X "list.extend" dH:=by
 intro pins s σ H x vs v w Q I o j h;obtain⟨l,b,xs,zs,rfl,rfl,g,p,y,q⟩:=h;cases o;obtain⟨u,rfl,k⟩:=j.one;cases k;obtain⟨z,c,n,r,hl,e⟩:=I.lstM g;obtain⟨A,a,n2,t,m,i⟩:=I.lstM p;have f:c.toArray.size+a.toArray.size<=sizeLine:=by rw[Yn,Yn];lia
 have d:¬ (!c.toArray.isEmpty&&Builtin.List.listTooLong (c.toArray.size+a.toArray.size))=true:=by
  rw[Q2 f,Bool.and_false];exact YS
 refine call_meets F.slot_list_extend ⟨_,e,rfl⟩ F.entry_list_extend (F.args_list_extend_2 _ _)
  (AutoSeq1.list_extend_list_list_0 l c.toArray n b a.toArray n2 d (by lia) (by lia)) ⟨e,i,?_⟩
 refine⟨.non,_,I.lset g e (by simp) (r.append t) ?_,rfl,q⟩;rw[Yj];lia
def HU:R2:=λx y H Q=>∃ l b xs zs,x=.ref l/\y=.ref b/\H l=some (.lst xs)/\H b=some (.lst zs)/\xs.length+zs.length<=sizeLine/\∀ p,H p=none->Q (.ref p) (upd H p (.lst (xs++zs)))
theorem dJ:OpR X (binaryOp .Add) HU:=by
 intro pins s σ H x y v u Q I k g h;obtain⟨l,b,xs,zs,rfl,rfl,j,m,p,q⟩:=h;cases k;cases g;obtain⟨z,c,n,r,hl,e⟩:=I.lstM j;obtain⟨t,a,n2,o,i,f⟩:=I.lstM m;refine PySem.P.add_list e f ?_ (by rw[Yn,Yn];lia);have d:c.toArray++a.toArray=(c++a).toArray:=by simp
 rw[d];exact⟨.ref _,_,I.lnew (r.append o) (by rw[Yj];lia),rfl,q _ I.fresh⟩
def Q3:R2:=λx y H Q=>∃ l k xs,x=.ref l/\y=.int k/\H l=some (.lst xs)/\-(2 ^ 63)<=k/\k < 2 ^ 63/\xs.length*k.toNat<=sizeLine/\
 ∀ p,H p=none->Q (.ref p) (upd H p (.lst (List.replicate k.toNat xs).flatten))
theorem dL{α:Type}(xs:List α)(k:Nat):(List.replicate k xs).flatten.length=k*xs.length:=by
 induction k with
 | zero=>simp
 | succ k a=>rw[List.replicate_succ,List.flatten_cons,Yj,a,Nat.succ_mul,Nat.add_comm]
theorem dM:OpR X (binaryOp .Mult) Q3:=by
 intro pins s σ H x y v u Q I D A h;obtain⟨l,k,xs,rfl,rfl,B,h1,h2,p,q⟩:=h;cases D;obtain⟨t,rfl⟩:=A;obtain⟨z,b,n,r,hl,e⟩:=I.lstM B;have i:b.toArray.size*k.toNat<=sizeLine:=by rw[Yn,<- hl];exact p
 have d:¬ b.toArray.size*k.toNat >(2 ^ 63 - 1) / 8:=by
  have:(sizeLine:Nat)<=(2 ^ 63 - 1) / 8:=by decide
  lia
 have f:¬ (!Builtin.List.listFitsIndex k)=true:=by
  rw[fitsIndex_both h1 h2];exact YS
 have c:¬ Builtin.List.listTooLong (b.toArray.size*k.toNat)=true:=by
  rw[Q2 i];exact YS
 have g:List.foldl (λj o=>j++o) #[] (List.replicate (if b.toArray.isEmpty=true then 0 else k.toNat) b.toArray)=(List.replicate k.toNat b).flatten.toArray:=by
  have w:∀ m:Nat,List.foldl (λj o=>j++o) #[] (List.replicate m b.toArray)=(List.replicate m b).flatten.toArray:=λm=>by
   have:=Q1 b m [];exact this
  rw[w];cases b with
  | nil=>simp
  | cons a r'=>rw[if_neg (by simp)]
 refine wpAny_binaryOp_repeat_ref (by decide) ⟨_,e,rfl⟩ (λs'=>typeIs_int s' k t) noFill_list_mul F.fills_int_mul F.slot_int_rmul repeat_list F.slot_int_index.lookup
  (call_meets F.slot_int_rmul (typeIs_int s k t) F.entry_int_rmul (F.args_int_rmul_2 _ _) (int___rmul___int_list k t l b.toArray n)
   ⟨e,rfl,⟨_,e,rfl⟩,call_meets F.slot_list_mul ⟨_,e,rfl⟩ F.entry_list_mul (F.args_list_mul_2 _ _) (AutoListH.list___mul___list_int_3 l b.toArray n k t f d c) ⟨e,?_⟩⟩)
 rw[g];exact⟨.ref _,_,I.lnew (r.rep k.toNat) (by rw[dL,Nat.mul_comm];exact p),rfl,q _ I.fresh⟩
end L2
namespace Att
open PySem PySem.W PySem.Calls PyProof.Rows
theorem dN:∀(ns:List Int)(vs:List Value),WellAll P h vs (ns.map WData.int)->IntsAre vs ns:=by
 intro ns;induction ns with
 | nil =>
  intro vs w;cases w;exact .nil
 | cons n ns c =>
  intro vs w;cases w with
  | cons a b =>
   cases a;exact .cons _ _ (c _ b)
theorem dO{l:OpenLaw}(m:l.most=some n)(c:l.row.toRowW.claim.pre args=true)(j:WellAll P h b args):
  ∃ a vs ns,b=[Value.ref a]/\args=[WData.list (ns.map WData.int)]/\h.get? a=some {cls:=.type "list",data:=.seq vs.toArray}/\IntsAre vs ns/\ns.length<=n:=by
 have i:=(pre_splitW c).1;have hc:=(pre_splitW c).2;obtain⟨d,r,rfl,h1,h2⟩:=hasAllW_cons i;obtain rfl:=hasAllW_nil h2;obtain⟨xs,rfl,o⟩:=hasW_list h1;obtain⟨ns,rfl⟩:=items_int o
 have e:ns.length<=n:=by
  have g:(WTm.not (.lt (.lit (.int (n:Int))) (.len (.arg 0)))).holds [] {args:=[.list (ns.map .int)]}=true:=by
   have g:=(holds_andW hc).1;rw[m]at g;exact g
  have k:=condW_of g (w_not (w_lt w_lit (w_len_list (w_arg rfl))));refine Nat.le_of_not_lt λq=>?_
  first
   |(exact Qj k (by decide))
   |(simp at k;lia)
 cases j with
 | cons t s =>
  cases s;cases t with
  | list p f=>exact⟨_,_,ns,rfl,rfl,p,dN ns _ f,e⟩
theorem dP(l:OpenLaw)(args:List WData):l.row.toRowW.claim.post args (.bool true) args=true :=
 postW_of
  (by first | rfl | decide | simp[WShape.has])
  (w_eq_bool (w_res rfl) w_lit) rfl
theorem attach_call{l:OpenLaw}(A:l.most=some n)(k:d.params.defaults=[])(call:∀(w:World)(s₀ b:Shared)(mg mb:Str->Option Value)(g:Addr)(o:Obj)(pm cd e:Value)(a:Addr)(vs:List Value)(ns:List Int),
   Ground q loose [] XP w s₀ mg mb b.heap->YP w b.heap->
   b.heap.get? g=some o->o.data=.func (docDef d.name d.params d.body d.scope pm cd e)->b.heap.CodeRec cd d.name->mg d.name=some (.ref g)->
   b.heap.get? a=some {cls:=.type "list",data:=.seq vs.toArray}->IntsAre vs ns->ns.length<=n->b.gens=#[]->
   codeAny (model l.prog w) callerA (.call (.ref g) ⟨[.ref a],[]⟩) (λr s'=>r=.ok (.ret (.bool true))/\OldK b.heap s'.heap/\s'.os=b.os/\AllBare s'.gens) b):
  WalkO q loose XP YP l.row.toRowW d [] (λf vs=>PySem.call f vs):=by
 intro w s₀ b mg mb G Y g o pm cd e J kV H hd m t s B u v K i x D p F;obtain rfl:J=.none:=Dflts.none t k;obtain rfl:kV=.none:=Dflts.noKw t;obtain⟨a,vs,ns,rfl,rfl,h,c,j⟩:=dO A i p;refine enter_call (codeAny_mono (call w s₀ b mg mb g o pm cd e a vs ns G Y H (fd_plain hd) m s h c j B) λr s' z=>?_);obtain⟨rfl,h2,I,E⟩:=z;exact⟨.inl ⟨.bool true,.bool true,[],rfl,λ_=>rfl,.bool true,dP l _,λ_=>⟨List.Pairwise.nil,λ_ y=>(nomatch y)⟩⟩,h2,I,E⟩
end Att
namespace L2
open PySem PySem.Spec PyProof.Rows
theorem Q4:∀{vs:List Value}{ns:List Int},IntsAre vs ns->Vals (ns.map V.int) vs
 | _,_,.nil=>.nil
 | _,_,.cons n t h=>.cons ⟨t,rfl⟩ (Q4 h)
def JF(H:Hp):Prop:=∀ b,H b=none\/∃ o xs,H b=some (.frz o (.lst xs))
theorem dQ{K:PySem.W.Frag}(KX:K.In c.heap)(p:c.heap.Ns mainGlobals mg)(f:c.heap.Ns builtinsNs mb)(N:∀ x:Str,x≠"__name__"->mb x=bootBuiltins x)(l:c.heap.NoLimit)(hg:c.gens=#[])(E:c.heap.get? a=some {cls:=.type "list",data:=.seq vs.toArray})(hi:IntsAre vs ns)(hl:ns.length<=sizeLine)(hr:Room k callerA)(F:∀ base:Heap,K.In base->base.Ns mainGlobals mg->FnOk P w K mg base CX k I fd [x] sp)(j:∀(s:Shared)(u:Value),BindsTo s fd ⟨[u],[]⟩ [(x,u)])(G:∀ H:Hp,JF H->SqL K H a (ns.map V.int)->sp [.ref a] H (λv _=>v=.bl true) λ_ _ _=>False)(L:∀ H e s',CX [] H c (λ_ _ _=>False) e s'->False):
  codeAny (model P w) callerA (.call (.ref I) ⟨[.ref a],[]⟩) (λr s'=>r=.ok (.ret (.bool true))/\OldK c.heap s'.heap/\s'.os=c.os/\AllBare s'.gens) c:=by
 have T:=Q4 hi;have t:=hi.length
 have i:∀ H:Hp,JF H->SqL K H a (ns.map V.int)->HOk P w H c.heap->(∀ b,H b≠none->b=a)->(H a≠none->K.lookup a=none)->
   codeAny (model P w) callerA (.call (.ref I) ⟨[.ref a],[]⟩) (λr s'=>r=.ok (.ret (.bool true))/\OldK c.heap s'.heap/\s'.os=c.os/\AllBare s'.gens) c:=by
  intro H U hS hok R hK;have base_of:∀{b:Addr}{o:Obj},c.heap.get? b=some o->H b=none->(EX c.heap H).get? b=some o:=λe n=>aW e n
  have O:∀{b:Addr}{o:Obj}{es:Array DictEntry}{D:Nat},c.heap.get? b=some o->o.data=.dict es D->H b=none:=λ{b o es D}e d=>by
   cases q:H b with
   | none=>rfl
   | some u =>
    have Q:=R b (by rw[q];simp);subst Q;rw[E]at e;cases e;have Z:=d;cases Z
  have g:∀{b:Addr}{m:Str->Option Value},c.heap.Ns b m->(EX c.heap H).Ns b m:=λ{b m}⟨o,es,D,e,d,r⟩=>⟨o,es,D,base_of e (O e d),d,r⟩
  have A:=λb o e=>base_of (KX b o e) (by
   cases q:H b with
   | none=>rfl
   | some u =>
    have Q:=R b (by rw[q];simp);subst Q;rw[hK (by rw[q];simp)]at e;cases e)
  have X:Mod K mg (EX c.heap H):=⟨A,g p,⟨mb,g f,N⟩,let⟨mc,h1,h2⟩:=l;⟨mc,g h1,h2⟩⟩;have e0:Env0 P w K mg (EX c.heap H) callerA [] c H:=⟨rfl,X,λb o e=>aX e,Nat.le_of_eq (aV _ _),trivial,λb f=>Qj (show b∈([]:List Addr)from f) (by simp),hok,.of_eq hg⟩;refine codeAny_mono ((F _ A (g p)).run callerA [] c H ⟨[.ref a],[]⟩ [.ref a] [.ref a] _ _ hr e0 (j c (.ref a)) (.cons rfl .nil) (G H U hS)) λr s' h=>?_;cases r with
  | error e=>exact(L H e s' h).elim
  | ok fl =>
   cases fl with
   | next|brk|cont=>exact Qd h
   | ret u =>
    obtain⟨v,H',os,bare,un,B,r',q⟩:=h;have Y:=q;subst Y;obtain rfl:u=Value.bool true:=r';refine⟨rfl,OldK.of_keep λb o e=>?_,os,bare⟩;cases q:H b with
    | none=>exact un.keep b o e q (by intro z;exact Qj (show b∈([]:List Addr)from z) (by simp)) (by simp)
    | some u =>
     rcases U b with z |⟨ob,xs,z⟩
     ·rw[q]at z;cases z
     ·have z2:=un.frzs b ob _ z;obtain⟨S,_⟩:=hok b _ z;obtain⟨e2,_⟩:=B b _ z2;rw[e]at S;cases S;exact e2
 cases J:K.lookup a with
 | some o =>
  have e:=KX a o J;rw[E]at e;cases e;refine i (λ_=>none) (λ_=>.inl rfl) (.inr ⟨_,vs.toArray,_,J,rfl,rfl,rfl,by rw[Yn,t];exact hl,by simpa using T⟩) (λb u z=>by have y:=z;cases y) (λb z=>Qj rfl z) λz=>Qj rfl z
 | none =>
  refine i (λb=>if b=a then some (.frz {cls:=.type "list",data:=.seq vs.toArray} (.lst (ns.map V.int)))else none) (λb=>?_) (.inl (.inr ⟨{cls:=.type "list",data:=.seq vs.toArray},if_pos rfl⟩)) (λb u z=>?_) (λb z=>?_) λ_=>J
  ·by_cases f:b=a
   ·exact .inr ⟨_,_,if_pos f⟩
   ·exact .inl (if_neg f)
  ·by_cases f:b=a
   ·have y:=(if_pos f).symm.trans z;cases y;subst f;exact⟨E,by rw[Yh];exact hl,vs,_,T,E⟩
   ·have y:=(if_neg f).symm.trans z;cases y
  ·by_cases f:b=a
   ·exact f
   ·exact Qj (if_neg f) z
abbrev KOf{K:PySem.W.Frag}{h:Heap}(_:K.In h):PySem.W.Frag:=K
theorem dR{l:PySem.W.OpenLaw}{K:Params->PySem.W.Frag}{CX:World->CXT}{sp:World->Sp}(B:l.most=some n)(y:n<=sizeLine)(r:d.params.defaults=[])(D:Room k callerA)(J:∀(w:World)(h:Heap),YP w h->(K w.params).In h)(F:∀(w:World)(mg:Str->Option Value)(p:Addr)(h:Heap),(K w.params).In h->h.Ns mainGlobals mg->mg d.name=some (.ref p)->
   ∃ fd:FuncData,(∀(s:Shared)(u:Value),BindsTo s fd ⟨[u],[]⟩ [(x,u)])/\
    ∀ base:Heap,(K w.params).In base->base.Ns mainGlobals mg->FnOk l.prog w (K w.params) mg base (CX w) k p fd [x] (sp w))(t:∀(w:World)(H:Hp)(a:Addr)(ns:List Int),ns.length<=n->JF H->SqL (K w.params) H a (ns.map V.int)->sp w [.ref a] H (λv _=>v=.bl true) λ_ _ _=>False)(z:∀(w:World)(H:Hp)(s:Shared)(e:Value)(s':Shared),CX w [] H s (λ_ _ _=>False) e s'->False):
  PySem.W.WalkO q loose XP YP l.row.toRowW d [] (λf vs=>PySem.call f vs):=by
 refine Att.attach_call B r λw s₀ m mg mb p o pm cd Q a vs ns G Y R hd I A j i c E=>?_;have KX:=J w _ Y;obtain⟨fd,O,P⟩:=F w mg p _ KX G.T.g A;exact dQ KX G.T.g G.T.b G.T.builtins G.T.nolimit E j i (Yt c y) D P O (λH N L=>t w H a ns c N L) λH e s'=>z w H m e s'
abbrev CX0:CXT:=λ_ _ _ _ _ _=>False
abbrev E0:XK:=λ_ _ _=>False
structure Fun(K:PySem.W.Frag)(x qual:Str)(st:Stmt)(f:Addr)(fd:FuncData):Prop where
 ex:∃(oc:Value)(od:Option Addr)(kV doc pm:Value)(an:Option Addr)(cdv ct:Value)(osl:Array (Option Value)),
  fd=PySem.W.fnOf x qual (CA st) (AS st) (Ao st) .none kV doc pm an cdv ct/\K.lookup f=some ⟨oc,od,.func fd,osl⟩/\PySem.W.codeIn K cdv qual=true
 kp:PySem.W.keepIn K (.ref f)=true
theorem Fun.ok{K:PySem.W.Frag}{st:Stmt}(F:Fun K x qual st f fd)(S:Ay N ps (Ao st))(len:∀ vs H Q E,sp vs H Q E->vs.length=ps.length)(a:∀(cdv:Value)(A:Around)(outer:List Env)(s:Shared)(H:Hp)(vs:List V)(Q:VK)(E:XK),Room k (A.deeper (envOfC qual (Ao st) s.heap.objs.size f cdv))->sp vs H Q E->
   ∃ t,PSs (Bu CX0 P w K mg base N qual (Ao st) f cdv A outer s H E).nox (AS st) t/\t {nx:=λ_ H'=>Q .non H',rt:=Q} (CB N vs) H):FnOk P w K mg base CX0 (k+1) f fd ps sp:=by
 obtain⟨j,l,kV,g,pm,m,cdv,ct,d,rfl,e,b⟩:=F.ex;refine GH e b S len λA outer s H vs Q E i c=>?_;obtain⟨t,h,q⟩:=a cdv A outer s H vs Q E i c;exact⟨t,h.nox,q⟩
theorem Fun.binds{K:PySem.W.Frag}{st:Stmt}(F:Fun K x qual st f fd)(h:∀(kV a pm:Value)(b:Option Addr)(cdv ct:Value)(us:List Value),us.length=ps.length->bindArgs (PySem.W.fnOf x qual (CA st) (AS st) (Ao st) .none kV a pm b cdv ct) ⟨us,[]⟩=pure (ps.zip us)):Binds K fd ps []:=by
 obtain⟨g,i,kV,a,pm,b,cdv,ct,d,rfl,e,c⟩:=F.ex;exact .all (h kV a pm b cdv ct)
theorem Q5{K:PySem.W.Frag}{st:Stmt}{kV:Value}(l:K.lookup f=some ⟨e,g,.func (PySem.W.fnOf x qual (CA st) (AS st) (Ao st) .none kV a pm d cdv ct),b⟩)(c:PySem.W.codeIn K cdv qual=true)(k:PySem.W.keepIn K (.ref f)=true):Fun K x qual st f (PySem.W.fnOf x qual (CA st) (AS st) (Ao st) .none kV a pm d cdv ct):=⟨⟨e,g,kV,a,pm,d,cdv,ct,b,rfl,l,c⟩,k⟩
theorem pv{X:Cx}(i:Nat){pos:Pos}(b:X.N[i]?=some x:=by rfl)(c:Vis X.env.scope x:=by first | exact Or.inl rfl | exact Or.inr (Or.inl rfl)| exact Or.inr (Or.inr rfl))(hd:(x==("__debug__":Str))=false:=by decide)(a:(x==("__classdict__":Str))=false:=by decide):PE X (.Name x pos) (Qs i):=Qt b c hd a
theorem BC{c A B:Prop}[Decidable c](h1:c->A)(h2:¬ c->B):if c then A else B:=by
 by_cases h:c
 ·rw[if_pos h];exact h1 h
 ·rw[if_neg h];exact h2 h
def Same(H H':Hp):Prop:=∀ b o,H b=some o->H' b=some o
theorem Same.refl(H:Hp):Same H H:=λ_ _ h=>h
theorem Same.trans(a:Same H H1)(b:Same H1 H2):Same H H2:=λc o h=>b c o (a c o h)
theorem Same.free(e:Same H H')(h:H' l=Option.none):H l=Option.none:=by
 cases q:H l with
 | none=>rfl
 | some o =>
  rw[e l o q]at h;cases h
theorem Same.seq{K:PySem.W.Frag}(e:Same H H')(h:SqL K H a xs):SqL K H' a xs:=by
 rcases h with(h |⟨o,h⟩)| h
 ·exact .inl (.inl (e _ _ h))
 ·exact .inl (.inr ⟨o,e _ _ h⟩)
 ·exact .inr h
end L2
namespace L3
open PySem PySem.Spec PyProof.Rows L2
namespace Tb
def hop(M:Nat):Nat->Nat->Nat
 | 0,i=>i
 | n+1,i=>hop M n ((i*5+1) % M)
def cover(M:Nat):Bool:=(List.range M).all λi=>(List.range M).all λj=>(List.range M).any λn=>hop M n i==j
end Tb
def bt(w:World):Bool:=w.params.followText "set-order"
structure Tab(w:World)(es:Array (Int×Value))(t:SetTable)(ks:List Str):Prop where
 el:∀ e∈es.toList,∃ x u,e=(hashStr w x,Value.str x u)
 pm:(es.toList.map λe=>strOf e.2).Perm ks
 nd:ks.Nodup
 ft:t.fits es.size=true
 ld:bt w=false->t.led=true
 pl:t.plain=true->ks=[]
def SS(w:World)(h:Heap)(a:Addr)(ks:List Str):Prop:=∃ o es ep t,h.get? a=some o/\o.ExactSet/\o.data=.set es ep t/\Tab w es t ks
namespace Tab
theorem len(T:Tab w es t ks):es.size=ks.length:=by
 have:=T.pm.length_eq;rw[Yh,YR]at this;exact this
theorem mem(T:Tab w es t ks)(k:Str):k∈ks↔∃ e∈es.toList,Value.isStrOf k e.2=true:=by
 rw[<- T.pm.mem_iff,YC];constructor
 ·rintro⟨e,a,rfl⟩;obtain⟨x,u,rfl⟩:=T.el e a;exact⟨_,a,by show Value.isStrOf x (.str x u)=true;simp[Value.isStrOf]⟩
 ·rintro⟨e,a,h⟩;obtain⟨x,u,rfl⟩:=T.el e a;refine⟨_,a,?_⟩;obtain⟨t,b⟩:=Value.isStrOf_shape h;injection b
end Tab
theorem SS.kept(S:SS w h a ks)(k:∀ o,h.get? a=some o->h'.get? a=some o):SS w h' a ks:=by
 obtain⟨o,es,b,t,c,r⟩:=S;exact⟨o,es,b,t,k o c,r⟩
theorem SS.nd(S:SS w h a ks):ks.Nodup:=by
 obtain⟨o,es,b,t,c,_,_,T⟩:=S;exact T.nd
end L3
namespace L2
open PySem PySem.Spec PyProof.Rows
theorem dS(I:Nat->Shared->Prop)(k:∀ e s',E' e s'->notedBy (model prog w) A env (λe s'=>R (.error e) s') e s')(o:∀ n s,I n s->wpAny (model prog w) A (pyNext it) (λr b=>match r with
   | none=>R (.ok .next) b
   | some v=>wpAny (model prog w) A (letOwnedTupleGo target it v) (λ_ s₁'=>wpAny (model prog w) A (assign target env v) (λ_ i=>
     wpAny (model prog w) A (forIn ifs true λc r=>if r=true then do let ok <- isTrue c env (eval c env);pure (ForInStep.yield ok)else pure (ForInStep.yield r)) (λok a=>
      if ok=true then wpAny (model prog w) A (eval elt env) (λx d=>
       wpAny (model prog w) A (call (.builtin "list.append") [t,x]) (λ_ j=>∃ m,m < n/\I m j) E' d) E' a
      else ∃ m,m < n/\I m a) E' i) E' s₁') E' b) E' s)(n:Nat)(h:I n s):
  codeAny (model prog w) A (.compLoop (.ListComp elt [⟨target,iter,ifs,0⟩] scope pos) 0 it t env) R s:=by
 refine codeAny_loop rfl I (λn s u=>?_) n h;refine wpAny_noted (Qk (wpAny_standAt (Qk (wpAny_mono (o n s u) (λr b f=>?_) k))));cases r with
 | none=>exact Ql f
 | some v =>
  refine Qk (wpAny_mono f (λ_ s₁' h₁'=>?_) k);refine Qk (wpAny_mono h₁' (λ_ i q=>Qk (wpAny_mono q (λok a g=>?_) k)) k);cases ok with
  | false=>exact Ql ⟨rfl,g⟩
  | true =>
   exact Qk (Qk (wpAny_mono g (λx d l=>Qk (wpAny_mono l (λ_ j p=>Ql (Ql ⟨rfl,p⟩)) k)) k))
def PF(X:Cx)(ifs:List Expr)(t:TT):Prop :=
 ∀(pins:List (Addr×Obj))(s:Shared)(σ:St)(H:Hp)(Q:Bool->Hp->Prop),Inv X pins σ H s->t σ H Q->
  wpAny (model X.prog X.w) X.A (forIn ifs true λc r=>if r=true then do let ok <- isTrue c X.env (eval c X.env);pure (ForInStep.yield ok)else pure (ForInStep.yield r)) (TP X pins σ Q) X.xe s
def dU:TT:=λ_ H Q=>Q true H
theorem dV:PF X [] dU:=λ_ _ _ H _ I h=>wpAny_tests_nil ⟨H,I,h⟩
theorem dW(hc:PT X c t):PF X [c] t:=λpins s σ H Q I h=>wpAny_tests_one (hc pins s σ H Q I h)
def cxB(X:Cx)(Nc:List Str)(scope:Scope)(cl:List (Str×Addr))(C:Addr)(fp:List Addr)(s:Shared)(H:Hp):Cx :=
 {X with N:=Nc,s₀:=s,H₀:=H,env:=compEnvC scope cl C X.env,outer:=X.stack,ex:=fp,fn:=λ_=>false,pn:=[],xe:=λ_ _=>False}
structure Blk(X:Cx)(Nc:List Str)(scope:Scope)(cl:List (Str×Addr))(cap:St->St):Prop where
 clos:closureFor scope X.env=pure cl
 kind:scope.kind=.function
 names:∀ x∈scope.names,x.2=.local->scope.names.lookup x.1=some .local
 nocell:∀ y∈scope.names,y.2≠.cell
 sub:∀ y c,cl.lookup y=some c->X.env.cells.lookup y=some c
 has:∀ y,((relabel scope X.env).names.lookup y=some .cell\/(relabel scope X.env).names.lookup y=some .free)->∃ c,cl.lookup y=some c
 take:∀(σ:St)(i:Nat)(y:Str)(v:V),Nc[i]?=some y->(cap σ)[i]?=some (some v)->Vis (relabel scope X.env) y->
  ((relabel scope X.env).names.lookup y=some .cell\/(relabel scope X.env).names.lookup y=some .free)/\Vis X.env.scope y/\X.env.scope.names.lookup y≠some .local/\∃ j:Nat,X.N[j]?=some y/\σ[j]?=some (some v)
 len:∀ σ:St,(cap σ).length=Nc.length
theorem dX(h:∀ y∈scope.names,y.2≠.free):relabel scope env=scope:=by
 unfold relabel
 rw[map_eq_self (λx a=>by
  obtain⟨n,k⟩:=x;have:(k==NameKind.free)=false:=by simpa using h _ a
  simp[this])]
theorem MC{names:List (Str×NameKind)}(h:names.lookup x=some k):(x,k)∈names:=PySem.mem_of_lookup h
theorem Ci(kind:scope.kind=.function)(all:∀ y∈scope.names,y.2≠.free/\y.2≠.cell)(names:∀ x∈scope.names,x.2=.local->scope.names.lookup x.1=some .local):
  Blk X Nc scope [] (λ_=>List.replicate Nc.length none) where
 clos:=closureFor_none λx a=>(all x a).1
 kind:=kind
 names:=names
 nocell:=λy b=>(all y b).2
 sub:=λy c h=>by cases h
 has:=λy h=>by
  rw[dX λz d=>(all z d).1]at h;rcases h with h | h
  ·exact Qj rfl (all _ (MC h)).2
  ·exact Qj rfl (all _ (MC h)).1
 take:=λσ i y v h1 h2 e=>by
  rw[List.getElem?_replicate]at h2;split at h2 <;> cases h2
 len:=λσ=>List.length_replicate ..
def cOk(cap:St->St)(g:TG)(tt:TT)(te:TE)(K:List V->Hp->Prop)(σ:St)(J:It)(H1:Hp):Prop :=
 ∃ W:Nat->Nat->St->Hp->List V->Prop,(∃ m,W 0 m (cap σ) H1 [])/\∀ i m σ' H' ys,W i m σ' H' ys->
  (J.stop i H'/\K ys H')\/
  (J.go i H'/\ys.length < sizeLine/\∃ N:St->Hp->List V->Prop,(∀ σ2 H2 ys2,N σ2 H2 ys2->∃ m',m' < m/\W (i+1) m' σ2 H2 ys2)/\
   ∀ x H2,J.yld i H' x H2->g x σ' H2 λσ3 H3=>tt σ3 H3 λb H4=>if b=true then te σ3 H4 λy H5=>N σ3 H5 (ys++[y])else N σ3 H4 ys)
def JG(wi:TI)(cap:St->St)(g:TG)(tt:TT)(te:TE):TE:=λσ H Q=>wi σ H λJ H1=>cOk cap g tt te (λys H'=>∀ a,H' a=none->Q (.ref a) (upd H' a (.lst ys))) σ J H1
theorem Q6(hc:X.calm=true)(B:Blk X Nc scope cl cap)(hg:∀ C L s H,PG (cxB X Nc scope cl C L s H) tg g)(ht:∀ C L s H,PF (cxB X Nc scope cl C L s H) ifs tt)(he:∀ C L s H,PE (cxB X Nc scope cl C L s H) elt te){σ:St}{RR:Value->Addr->Result->Shared->Prop}{K:List V->Hp->Prop}(f:Inv X pins σ H2 P)(T:Es X.prog X.w X.K tg J L it tn)(st2:tn 0 P.heap)(f2:∀ b∈L,DB X pins H2 b)(w2:cOk cap g tt te K σ J H2)(fin:∀(D C:Addr)(s':Shared)(H':Hp)(ys:List V)(oC:Obj),H' D=none->K ys H'->Inv X pins σ (upd H' D (.lst ys)) s'->DB X pins (upd H' D (.lst ys)) C->s'.heap.get? C=some oC->(∀ v,oC.data≠.cell v)->(∃ m,s'.heap.Ns C m)->RR (.ref D) C (.ok .next) s'):
  wpAny (model X.prog X.w) X.A (newList []) (λacc s₃=>wpAny (model X.prog X.w) X.A (newFunctionEnv scope X.env.globals cl [] X.env.qual none .none (some X.env)) (λcenv s₄=>
   codeAny (model X.prog X.w) X.A (.compStart (.ListComp elt [⟨tg,iter,ifs,0⟩] scope pos) 0 (.ref it) acc {cenv with scope:=relabel scope X.env}) (RR acc cenv.locals) s₄) E s₃) E P:=by
 refine wpAny_newObj_type (wpAny_newFunctionEnv B.nocell (by intro y hy;simp at hy) (λS G t=>?_) B.kind);generalize hP2:P.heap.push {cls:=.type "list",dict:=none,data:=.seq ([]:List Value).toArray}=P2 at G t ⊢;generalize F:P.heap.objs.size=D at G t ⊢;have hCs:P2.objs.size=D+1:=by rw[<- hP2,Qp,F]
 generalize hCC:P2.objs.size=C at G t hCs ⊢;have hDC:D≠C:=Ys (by rw[hCs];exact Nat.lt_succ_self _);have R:∀ b:Addr,b < D->b≠C:=λb h=>Ys (by rw[hCs];exact Nat.lt_succ_of_lt h);have leC:D<=C:=by rw[hCs];exact Nat.le_succ _
 have old:∀ b o,P.heap.get? b=some o->S.get? b=some o:=λb o e=>by
  have a:=Qn e;rw[F]at a;refine t.extBut b o (R b a) (Qm _ ?_);rw[<- hP2];exact Qm _ e
 have hacc:S.get? D=some {cls:=.type "list",data:=.seq #[]}:=by
  refine t.extBut D _ hDC (Qm _ ?_);rw[<- hP2,<- F];exact Qo _ rfl
 have lt2:∀ b o,P.heap.get? b=some o->b < D:=λb o e=>by rw[<- F];exact Qn e
 have U:∀ b∈L,b < D:=λb a=>by
  obtain⟨o,e,_⟩:=T.obj _ _ st2 b a;exact lt2 b o e
 have celt:∀ x c,X.env.cells.lookup x=some c->c < D:=λx c e=>by
  obtain⟨v,z⟩:=f.cell x c e;rw[<- F];exact z.lt
 have Q:=λp Z=>lt2 _ _ (f.pin p Z).1;have fstk:=λb a z=>(Yo.mp (f.stkSub b z)).elim (f2 b a).2.1 (f2 b a).2.2.1;have hDn:=f.hok.fresh (by rw[F];exact Yr _);have hCn:=f.hok.fresh (by rw[F];exact leC);have sz0:X.s₀.heap.objs.size<=D:=by rw[<- F];exact f.sz
 let Xc:=cxB X Nc scope cl C L P H2
 have okc:Xc.Ok:=by
  refine⟨f.ok.mod,?_,f.ok.glob,f.ok.blt,?_,λx y c h1 h2=>f.ok.inj x y c (B.sub x c h1) (B.sub y c h2),λx hx=>B.has x hx,(λx c h=>by cases h),f.ok.hd,f.ok.frames,.inl rfl,?_,f.bs,Yt f.ok.bsz f.sz,?_,fstk,f.stack,f.stkFree⟩
  ·exact B.kind
  ·show P.heap.objs.size<=C;rw[F];exact leC
  ·intro b a;refine⟨?_,λx c e=>?_⟩
   ·exact R b (U b a)
   ·exact(f2 b a).2.2.2.2.1 x c (B.sub x c e)
  ·intro b o e a;rcases(f2 b a).2.2.2.1 with z | z
   ·exact f.ok.noex b o e z
   ·exact Qj (Yu (Qn (f.ok.bs b o e).1) z) (YJ _)
 have I0:∀ tk,Inv Xc (X.pn++pins) (cap σ) H2 {P with heap:=S,toks:=tk}:=λtk=>by
  refine⟨okc,rfl,f.bare,Un.kept old,⟨_,G,λi y v h1 h2 h3=>?_⟩,λx c e=>?_,hCn,λx c e=>f.freeC x c (B.sub x c e),λp Z=>?_,f.hok.kept old,B.len σ⟩
  ·obtain⟨k1,k2,k3,j,k4,k5⟩:=B.take σ i y v h1 h2 h3;obtain⟨m,hn,hl⟩:=f.loc;obtain⟨u,r,l⟩:=hl j y v k4 k5 k2;refine⟨u,r,.inr ⟨k1,?_⟩⟩;rcases l with⟨l,_⟩|⟨_,c,e,z⟩
   ·exact Qj l k3
   ·obtain⟨c',e'⟩:=B.has y k1;have:=B.sub y c' e';rw[e]at this;cases this;obtain⟨oc,ec,dc⟩:=z;exact⟨c,e',oc,old _ _ ec,dc⟩
  ·obtain⟨v,oc,ec,dc⟩:=f.cell x c (B.sub x c e);exact⟨v,oc,old _ _ ec,dc⟩
  ·have Y:p∈X.pn++pins:=by simpa[Xc,cxB]using Z
   obtain⟨e,n,ne,nf,d⟩:=f.pin p Y;exact⟨old _ _ e,n,R _ (Q p Y),λz=>(Yo.mp (f.stkSub _ z)).elim ne nf,d⟩
 have fpc:∀{H':Hp}{o:Obj},(∀ b∈L,H' b=none)->∀ b∈L,DB Xc ((X.pn++pins)++[(D,o)]) H' b:=λ{H' o}hn b a=>by
  refine⟨hn b a,R b (U b a),fstk b a,.inl a,λx c e=>(f2 b a).2.2.2.2.1 x c (B.sub x c e),λp Z=>?_⟩
  ·have Y:p∈X.pn++pins\/p=(D,o):=by
    rcases Yz.mp Z with z | z
    ·cases z
    ·rcases Yz.mp z with z | z
     ·exact .inl z
     ·exact .inr (YA.mp z)
   rcases Y with z | z
   ·exact(f2 b a).2.2.2.2.2 p z
   ·subst z;exact Nat.ne_of_gt (U b a)
 obtain⟨W,⟨m0,w0⟩,turn⟩:=w2
 have loop:∀ tk,codeAny (model X.prog X.w) X.A (.compLoop (.ListComp elt [⟨tg,iter,ifs,0⟩] scope pos) 0 (.ref it) (.ref D) Xc.env) (RR (.ref D) C) {P with heap:=S,toks:=tk}:=by
  intro tk
  refine dS (E':=λ_ _=>False)
   (λn s'=>∃(i:Nat)(σ':St)(H':Hp)(ys:List V)(I:List Value)(k:Nat),Inv Xc (X.pn++pins) σ' H' s'/\tn i s'.heap/\(∀ b∈L,H' b=none)/\H' D=none/\s'.heap.get? D=some {cls:=.type "list",data:=.seq I.toArray k}/\
    Vals ys I/\ys.length<=sizeLine/\W i n σ' H' ys) (λ_ _ z=>z.elim) ?_ m0
   ⟨0,cap σ,H2,[],[],0,I0 tk,T.keep _ _ _ st2 λb _ o e=>old b o e,λb a=>(f2 b a).1,hDn,hacc,.nil,YT _,w0⟩
  rintro n s3 ⟨i,σ3,H3,ys,I,k,I3,st3,fr3,hD3,o3,rv3,hz3,w3⟩
  have I3':=I3.pins_of λp Z=>by
   have Y:p∈X.pn++pins\/p=(D,{cls:=.type "list",data:=.seq I.toArray k}):=by
    rcases Yz.mp Z with z | z
    ·exact .inl z
    ·exact .inr (YA.mp z)
   rcases Y with z | z
   ·exact I3.pin p (by simpa[Xc,cxB]using z)
   ·subst z;refine⟨o3,hD3,hDC,λz=>?_,(λv z=>by cases z)⟩
    ·obtain⟨_,o,ho,_⟩:=f.stack.mem z;exact Qj (lt2 _ _ ho) (YJ _)
  rcases turn i n σ3 H3 ys w3 with⟨stop,qn⟩|⟨go,hlt,N,hN,step⟩
  ·refine thn (T.done Xc rfl rfl rfl hc i _ s3 σ3 H3 _ I3' (fpc fr3) st3 stop) λr s4 zz1=>?_;obtain⟨hr,I4⟩:=zz1;subst hr;have pD:=I4.pin (D,{cls:=.type "list",data:=.seq I.toArray k}) (by simp);obtain⟨m4,hn4,_⟩:=I4.loc;obtain⟨oC,es,ep,eC,dC,rC⟩:=id hn4;have hD4:=hD3;have hC4:=I4.free;have O:∀ b u,H3 b=some u->upd H3 D (.lst ys) b=some u:=λb u e=>by rw[A5 (FM e hD4)];exact e
   have un:Un (frs X.stack) L H2 (upd H3 D (.lst ys)) P.heap s4.heap:=by
    have u:=I4.base;refine⟨u.keep,u.slot,λb o e n hx=>?_,u.there,λb xs e=>O _ _ (u.tups b xs e),λb o v e=>O _ _ (u.frzs b o v e),λb ps e=>?_⟩
    ·rw[A5 (Ys (lt2 b o e))];exact u.free b o e n hx
    ·obtain⟨more,q⟩:=u.tbls b ps e;exact⟨more,O _ _ q⟩
   have hok:HOk X.prog X.w (upd H3 D (.lst ys)) s4.heap:=λb u e=>by
    by_cases a:b=D
    ·subst a;rw[B4]at e;cases e;exact⟨hz3,I,k,rv3,pD.1⟩
    ·rw[A5 a]at e;exact(I4.hok b u e).stay (λ_ _ _ q=>q) (λc q=>O _ _ q) λc xs q=>O _ _ q
   have I5:=f.call' I4.os un hok I4.bare λb a=>⟨(f2 b a).2.2.2.1,(f2 b a).2.1,(f2 b a).2.2.2.2.1,(f2 b a).2.2.2.2.2⟩;refine fin D C s4 H3 ys oC hD4 qn I5 ⟨?_,?_,λz=>?_,.inr (Yt sz0 leC),λx c e=>?_,λp Z=>?_⟩ eC (λv z=>by rw[dC]at z;cases z) ⟨m4,hn4⟩
   ·rw[A5 (YU hDC)];exact hC4
   ·have:=f.lt;rw[F]at this;exact YU (R _ this)
   ·exact f.nofs (by rw[F];exact leC) z
   ·exact R _ (celt x c e)
   ·exact R _ (Q p Z)
  ·refine thn (T.item Xc rfl rfl rfl hc i _ s3 σ3 H3 _ I3' (fpc fr3) st3 go) λr s4 zz2=>?_;obtain⟨u,hr,h4⟩:=zz2;subst hr;refine thn h4 λ_ s5 zz3=>?_;obtain⟨x,H5,I5,r5,y5,st5,fr5⟩:=zz3;have I5':=I5.pinned (fpc fr5) (T.obj _ _ st5);refine thn (hg C L P H2 _ s5 σ3 H5 x u _ I5' r5 (step x H5 y5)) λ_ s6 zz4=>?_;obtain⟨σ6,H6,I6,q6⟩:=zz4;refine thn (ht C L P H2 _ s6 σ6 H6 _ I6 q6) λok s7 zz5=>?_;obtain⟨H7,I7,q7⟩:=zz5
   have again:∀{σ8:St}{H8:Hp}{s8:Shared},Inv Xc (((X.pn++pins)++[(D,{cls:=.type "list",data:=.seq I.toArray k})])++GF L s5.heap) σ8 H8 s8->
     tn (i+1) s8.heap/\(∀ b∈L,H8 b=none)/\s8.heap.get? D=some {cls:=.type "list",data:=.seq I.toArray k}/\H8 D=none:=λ{σ8 H8 s8}I8=>by
    refine⟨T.keep _ _ _ st5 λb a o e=>(I8.pin (b,o) (YL _ (YL _ (HM a e)))).1,λb a=>?_,?_⟩
    ·obtain⟨o,e,d⟩:=T.obj _ _ st5 b a;exact(I8.pin (b,o) (YL _ (YL _ (HM a e)))).2.1
    ·have:=I8.pin (D,{cls:=.type "list",data:=.seq I.toArray k}) (by simp);exact⟨this.1,this.2.1⟩
   cases ok with
   | false =>
    obtain⟨m',hm,w7⟩:=hN _ _ _ q7;obtain⟨t7,f7,o7,d7⟩:=again I7;exact⟨m',hm,i+1,σ6,H7,ys,I,k,I7.unpinned.unpinned,t7,f7,d7,o7,rv3,hz3,w7⟩
   | true =>
    refine thn (he C L P H2 _ s7 σ6 H7 _ I7 q7) λy s8 zz6=>?_;obtain⟨yv,H8,I8,r8,q8⟩:=zz6;obtain⟨m',hm,w8⟩:=hN _ _ _ q8;obtain⟨t8,f8,o8,d8⟩:=again I8;have hlen:=rv3.length;refine wpAny_list_append_plain ⟨k,o8⟩ (λh9 zz7 sb9=>?_) (by rw[Yn];lia);obtain⟨k9,l9⟩:=zz7
    have I9:Inv Xc (X.pn++pins) σ6 H8 {s8 with heap:=h9}:=by
     refine I8.unpinned.unpinned.turned (λb o a e=>(sb9.2 b a).trans e) d8 ?_ (.inr ?_) (λx c e=>?_) λp Z=>?_
     ·exact hDC
     ·show P.heap.objs.size<=D;rw[F];exact Yr _
     ·exact Ys (celt x c (B.sub x c e))
     ·exact Ys (Q p (by simpa[Xc,cxB]using Z))
    refine⟨m',hm,i+1,σ6,H8,ys++[yv],I++[y],k9,I9,?_,f8,d8,?_,rv3.append (.cons r8 .nil),?_,w8⟩
    ·exact T.keep _ _ _ t8 λb a o e=>(sb9.2 b (Ys (U b a))).trans e
    ·rw[l9];simp
    ·rw[Yj,List.length_singleton];lia
 exact codeAny_compStart_list (loop _) (T.self _ 0 _ _ _ (T.keep _ _ _ st2 λb _ o e=>old b o e) (loop _))
theorem Q7(hc:X.calm=true)(hi:PI X tg iter d)(B:Blk X Nc scope cl cap)(r:∀ C a s H,PG (cxB X Nc scope cl C a s H) tg g)(L:∀ C a s H,PF (cxB X Nc scope cl C a s H) ifs tt)(y:∀ C a s H,PE (cxB X Nc scope cl C a s H) elt te)(k:∀ x,foldedSetIterable iter X.env x=pure x:=by intro _;rfl):PE X (.ListComp elt [⟨tg,iter,ifs,0⟩] scope pos) (JG d cap g tt te):=by
 intro pins s σ H Q I h;refine wpAny_comprehension_free rfl k B.clos B.kind B.names (thn (hi pins s σ H _ I h) λv Y h1=>thn h1 λw P h2=>?_);obtain⟨S,a,N,J,H2,e,z,T,c,K,n⟩:=h2;subst e;refine Q6 hc B r L y z T c K n ?_;intro D C s' H' ys R l q G F O U ⟨m,p⟩;obtain⟨j,A,_,t,f,i⟩:=F;exact⟨m,p,λh' u=>⟨.ref D,_,G.turned (λb o E e=>(u.2 b E).trans e) j A t f i,rfl,q D l⟩⟩
theorem dY(hN:X.N.Nodup)(l:X.N[i]?=some x)(K:X.env.scope.names.lookup x=some .local)(j:swapsWith (.ListComp elt [⟨tg,iter,ifs,0⟩] scope pos) (some (.Name x pos')) a.line X.env=pure true)(hc:X.calm=true)(hi:PI X tg iter E)(B:Blk X Nc scope cl cap)(Y:∀ C c s H,PG (cxB X Nc scope cl C c s H) tg g)(ht:∀ C c s H,PF (cxB X Nc scope cl C c s H) ifs tt)(he:∀ C c s H,PE (cxB X Nc scope cl C c s H) elt te)(P:∀ x,foldedSetIterable iter X.env x=pure x:=by intro _;rfl):PS X (.Assign [.Name x pos'] (.ListComp elt [⟨tg,iter,ifs,0⟩] scope pos) a) (Mh (JG E cap g tt te) (De i)):=by
 intro pins s σ H D0 I h;rw[exec_Assign_Name_used _ _ _ _ j];refine Qk (wpAny_standAt (Qk ?_))
 refine Qk (wpAny_mono (wpAny_comprehension_free rfl P B.clos B.kind B.names
  (thn (hi pins s σ H _ I h) λv s1 h1=>thn h1 λitv s2 h2=>?_)) (λ_ s' S=>Ql (Ql S)) λ_ _ e=>e)
 obtain⟨it,c,tn,J,H2,e,I2,T,r,f2,R⟩:=h2;subst e;refine Q6 hc B Y ht he I2 T r f2 R ?_;intro D C s' H' ys n O q I' F k dC ⟨m,U⟩;obtain⟨z,L,t,G,w,y⟩:=F
 have Ip:Inv X (pins++GF [C] s'.heap) σ (upd H' D (.lst ys)) s':=I'.pinned (λb f=>by
  have e:b=C:=by simpa using f
  subst e
  exact⟨z,L,t,G,w,y⟩) λb f=>by
   have e:b=C:=by simpa using f
   subst e;exact⟨n,k,dC⟩
 refine wpAny_assign_Name (HL Ip hN l (.inl K) (v:=.ref D) rfl (λs3 A=>?_) (.inr K));have pC:=A.pin (C,n) (YL _ (YL _ (HM (by simp) k)));obtain⟨oC',es,Q,d,u,p⟩:=U;rw[k]at d;cases d;refine⟨m,⟨n,es,Q,pC.1,u,p⟩,λh' Z=>⟨_,_,A.unpinned.turned (λb o f e=>(Z.2 b f).trans e) z L G w y,q D O⟩⟩
theorem ObjOk.at(x:ObjOk P w H h a o):∃ u,h.get? a=some u:=by
 cases o with
 | lst xs=>obtain⟨_,_,_,_,e⟩:=x;exact⟨_,e⟩
 | tup xs=>obtain⟨_,_,_,c,e,_⟩:=x;exact⟨_,e⟩
 | dK b|dT b=>obtain⟨_,_,_,_,o,_,_,e,_⟩:=x;exact⟨_,e⟩
 | set S n=>obtain⟨o,_,_,_,e,_⟩:=x;exact⟨_,e⟩
 | ins C dx fs=>obtain⟨_,_,_,e,_⟩:=x;exact⟨_,e⟩
 | own y=>obtain⟨_,e⟩:=x;exact⟨_,e⟩
 | xd fs=>obtain⟨_,⟨_,_,_,e,_⟩,_⟩:=x;exact⟨_,e⟩
 | rng lo hi=>obtain⟨_,_,_,e⟩:=x;exact⟨_,e⟩
 | frz c u=>obtain⟨e,_⟩:=x;exact⟨_,e⟩
 | tbl ps|met f y=>exact⟨_,(x)⟩
 | ext φ=>obtain⟨_,⟨_,e⟩,_⟩:=x;exact⟨_,e⟩
structure Fly(P:Program)(w:World)(outer:List Env)(H0:Hp)(s0:Shared)(H':Hp)(e C:Addr)(s':Shared):Prop where
 os:s'.os=s0.os
 bare:AllBare s'.gens
 un:Un (frs outer) [] H0 H' s0.heap s'.heap
 hok:HOk P w H' s'.heap
 fly:∃(B:Heap)(a0:Value),Heap.FlyingW B outer e (.ref C) a0 s'.heap/\∀ b,b∉frs outer->((∃ o,s0.heap.get? b=some o)\/H' b≠none)->∃ o,B.get? b=some o
 new:s0.heap.get? e=none
 free:H' e=none
def CXe(P:Program)(w:World):CXT:=λouter H0 s0 E ev s'=>∃(e C:Addr)(H':Hp),ev=.ref e/\Fly P w outer H0 s0 H' e C s'/\E (.ref C) none H'
theorem Q8{B:Heap}(un:Un (frs outer) [] s H' j h1)(hok:HOk P w H' h1)(d:∀ b∈frs outer,H' b=none)(r:∀ b∈frs outer,∃ o,h1.get? b=some o/\∀ vs,o.data≠.fields vs)(x:B.StaysIn h1)(l:∀ b,b∉frs outer->((∃ o,j.get? b=some o)\/H' b≠none)->∃ o,B.get? b=some o)(st:B.StaysIn h')(up:h1.UpToSlots h'):Un (frs outer) [] s H' j h'/\HOk P w H' h':=by
 have exact_:∀ b o,b∉frs outer->((∃ o,j.get? b=some o)\/H' b≠none)->h1.get? b=some o->h'.get? b=some o:=λb o c k e=>by
  obtain⟨o',v⟩:=l b c k;have:=x b o' v;rw[e]at this;cases this;exact st b _ v
 refine⟨⟨λb o q n c g=>exact_ b o c (.inl ⟨o,q⟩) (un.keep b o q n c g),λb o q n c g=>?_,un.free,λb o q g=>?_,un.tups,un.frzs,un.tbls⟩,λa o e=>?_⟩
 ·obtain⟨A,i⟩:=un.slot b o q n c g;obtain⟨y,h,p⟩:=r b c;rw[i]at h;cases h;obtain⟨f,m⟩:=up b _ i p;exact⟨f,m⟩
 ·obtain⟨o',i⟩:=un.there b o q g;by_cases c:b∈frs outer
  ·obtain⟨y,h,p⟩:=r b c;obtain⟨f,m⟩:=up b _ h p;exact⟨_,m⟩
  ·exact⟨o',exact_ b o' c (.inl ⟨o,q⟩) i⟩
 ·refine(hok a o e).stay (λb u c q=>?_) (λ_ q=>q) λ_ _ q=>q
  have t:H' b≠none:=by
   rcases c with rfl | c
   ·rw[e];simp
   ·rw[c];simp
  exact exact_ b u (λz=>t (d b z)) (.inr t) q
theorem Fly.inv{σ:St}(I:Inv X pins σ H s)(F:Fly X.prog X.w X.stack H s H' e C s')(f:Heap.FlyingW B X.stack e (.ref C) h s'.heap)(d:∀ b,b∉frs X.stack->((∃ o,s.heap.get? b=some o)\/H' b≠none)->∃ o,B.get? b=some o)(st:B.StaysIn h')(up:s'.heap.UpToSlots h'):Inv X pins σ H' {s' with heap:=h'}:=by
 have a:∀ b∈frs X.stack,H' b=none:=λb c=>by
  obtain⟨_,o,g,_⟩:=I.stack.mem c;exact F.un.free b o g (I.stkFree b c) (by simp)
 obtain⟨u,k⟩:=Q8 F.un F.hok a (λb c=>(f.2.2.1.mem c).2) f.1 d st up;exact I.call' F.os u k F.bare (λb z=>Qj z (by simp))
theorem dZ{K:PySem.W.Frag}:
  cZ (CXe P w) (Bu (CXe P w) P w K mg base N qual scope f cd A outer s H E) E:=by
 intro pins σ Hc r ev s' I ⟨e,C,H',p,F,q⟩;subst p;obtain⟨B,n,l,h⟩:=F.fly;refine wpAny_leaves_onW I.ok.frames rfl l λh' g up=>?_;have c:=F.inv I l h g.1 up;refine⟨e,C,H',rfl,⟨c.os,c.bare,c.base,c.hok,⟨B,n,g,λb m d=>?_⟩,?_,F.free⟩,q⟩
 ·have k:b∉frs (Bu (CXe P w) P w K mg base N qual scope f cd A outer s H E).stack:=λz=>by
   rcases Yo.mp (c.stkSub b z)with a | a
   ·rcases d with⟨o,j⟩| i
    ·have h1:=Qn j;have h2:=I.ok.above;rw[a]at h1;exact Qj (Yu h1 h2) (YJ _)
    ·rw[a]at i;exact i c.free
   ·exact m a
  refine h b k ?_;rcases d with⟨o,j⟩| i
  ·exact .inl (I.base.there b o j (by intro z;cases z))
  ·exact .inr i
 ·cases z:s.heap.get? e with
  | none=>rfl
  | some o =>
   obtain⟨o',a⟩:=I.base.there e o z (by intro z;cases z);rw[F.new]at a;cases a
theorem d0{K:PySem.W.Frag}{σ:St}(I:Inv (Bu (CXe P w) P w K mg base N qual scope f cd A outer s H E) pins σ Hc i)(j:Heap.MadeExcOf i.heap h1 e (.ref C) vs)(q:E (.ref C) none Hc):
  (Bu (CXe P w) P w K mg base N qual scope f cd A outer s H E).xe (.ref e) {i with heap:=h1}:=by
 have p:∀ env∈(Bu (CXe P w) P w K mg base N qual scope f cd A outer s H E).stack,∀ b,env.frame=some b->b∈frs (Bu (CXe P w) P w K mg base N qual scope f cd A outer s H E).stack:=λenv B b g=>List.mem_filterMap.mpr ⟨env,B,g⟩;refine wpAny_leaves_madeW I.ok.frames rfl (λb o z=>PySem.W.of_hideAll _ z) (PySem.W.funFrames_hide I.stack p) j λh' t v x y up=>?_
 have m:∀ b,b∉frs (Bu (CXe P w) P w K mg base N qual scope f cd A outer s H E).stack->((∃ o,i.heap.get? b=some o)\/Hc b≠none)->∃ o,(PySem.W.hideAll i.heap (frs (Bu (CXe P w) P w K mg base N qual scope f cd A outer s H E).stack)).get? b=some o:=λb g c=>by
  have:∃ o,i.heap.get? b=some o:=by
   rcases c with z | z
   ·exact z
   ·cases a:Hc b with
    | none=>exact Qj a z
    | some o=>exact(I.hok b o a).at
  obtain⟨o,h⟩:=this;exact⟨o,PySem.W.hideAll_get _ h g⟩
 obtain⟨u,k⟩:=Q8 (Un.kept j.keeps) (I.hok.kept j.keeps) I.stkFree (λb g=>by
  obtain⟨_,o,h,d⟩:=I.stack.mem g;exact⟨o,j.keeps _ _ h,d⟩) (λb o z=>j.keeps _ _ (PySem.W.of_hideAll _ z)) m v.1 up
 have l:=I.call' (s':={i with heap:=h'}) rfl u k I.bare (λb z=>Qj z (by simp))
 have en:Hc e=none:=by
  cases z:Hc e with
  | none=>rfl
  | some o =>
   obtain⟨o',a⟩:=(I.hok e o z).at
   rw[j.new]at a;cases a
 refine⟨e,C,Hc,rfl,⟨l.os,l.bare,l.base,l.hok,⟨_,_,v,λb g c=>?_⟩,?_,en⟩,q⟩
 ·have r:b∉frs (Bu (CXe P w) P w K mg base N qual scope f cd A outer s H E).stack:=λz=>by
   rcases Yo.mp (l.stkSub b z)with a | a
   ·rcases c with⟨o,h⟩| n
    ·have h1:=Qn h;have h2:=I.ok.above;rw[a]at h1;exact Qj (Yu h1 h2) (YJ _)
    ·rw[a]at n;exact n l.free
   ·exact g a
  refine m b r ?_;rcases c with⟨o,h⟩| n
  ·exact .inl (I.base.there b o h (by intro z;cases z))
  ·exact .inr n
 ·cases z:s.heap.get? e with
  | none=>rfl
  | some o =>
   obtain⟨o',a⟩:=I.base.there e o z (by intro z;cases z);rw[j.new]at a;cases a
theorem d3{K:PySem.W.Frag}(X:K.In h)(q:PySem.W.excIn K C c a=true):
  ∃ d N nm q bs hdct sn sub ab col dd k0 k1 k2 k3 k5 i,h.get? C=some (excClassObj nm q C N bs d hdct sn sub ab col dd k0 k1 k2 k3 k5 a)/\h.Ns N i/\i "__init__"=none/\OwnTail h c d:=by
 unfold PySem.W.excIn at q;split at q
 ·rename_i dd cd j k;split at q
  ·rename_i s d k0 k1 k2 k3 n k5 o g;simp only[YF,beq_iff_eq,Bool.not_eq_true']at q;obtain⟨⟨⟨⟨⟨rfl,rfl⟩,b⟩,m⟩,hok⟩,e⟩:=q;obtain⟨nm,bs,r,ns,qn,hd,sn,sub,ab,col,p⟩:=cd;subst o b
   have f:j=#[k0,k1,k2,k3,some (.builtin n),k5]:=by
    obtain⟨l⟩:=j;simp only at g;rw[g]
   subst f;exact⟨d,ns,nm,qn,bs,hd,sn,sub,ab,col,dd,k0,k1,k2,k3,k5,_,X _ _ k,.of_isNs (PySem.W.isNs_of_in X hok),PySem.W.nsMap_none_of_in X hok e,PySem.W.tail_of_in X m⟩
  ·cases q
 ·cases q
def d4(C:Addr)(E:XK)(t:TA):TS:=λ_ σ H=>t σ H λvs H1=>vs.length<=sizeLine/\E (.ref C) none H1
theorem d5{K:PySem.W.Frag}{p cpos pos:Pos}{An:List Expr}(r:Gl (Bu (CXe P w) P w K mg base N qual scope f cd A outer s H E) x)(m:mg x=some (.ref C))(q:PySem.W.excIn K C k b=true)(FB:ExcBaseFacts B b initId k)(u:PA (Bu (CXe P w) P w K mg base N qual scope f cd A outer s H E) (a::An) t)(l:starEach (a::An) (Bu (CXe P w) P w K mg base N qual scope f cd A outer s H E).env=(false,eval a (Bu (CXe P w) P w K mg base N qual scope f cd A outer s H E).env)::starEach An (Bu (CXe P w) P w K mg base N qual scope f cd A outer s H E).env:=by rfl)(hplain:(backTo cpos (starEach An (Bu (CXe P w) P w K mg base N qual scope f cd A outer s H E).env)).any (·.1)=false:=by rfl)(hd:(x==("__debug__":Str))=false:=by decide):
  PS (Bu (CXe P w) P w K mg base N qual scope f cd A outer s H E) (.Raise (some (.Call (.Name x p) (a::An) [] cpos)) none pos) (d4 C E t):=by
 intro pins v σ Hc D I h;obtain⟨tl,F,nm,n,bs,hdct,sn,sub,ab,col,dd,k0,k1,k2,k3,k5,G,o,y,g,T⟩:=d3 I.ok.mod.kin q
 refine wpAny_Raise_call_subT (nm:=nm) (q:=n) (N:=F) (bs:=bs) (hdct:=hdct) (sn:=sn) (sub:=sub) (ab:=ab) (col:=col) (dd:=dd) (k0:=k0) (k1:=k1) (k2:=k2) (k3:=k3) (k5:=k5)
  FB (T.hasType FB.hasBase) (I.ok.hd rfl) (by rw[l];show(false||(backTo cpos (starEach An _)).any (·.1))=false;rw[hplain];rfl) g (Ep I r m ⟨rfl,?_⟩ hd)
 have c:=u cpos pins v σ Hc _ I h;rw[l]at c ⊢;refine Calls.evalArgs_plain (thn c λz J j=>?_);obtain⟨vs,H1,d,r1,L,q1⟩:=j;exact⟨rfl,by have:=r1.length;show z.length<=_;lia,d.bk _ _ o,y.keeps d.bk,T.keeps d.bk,λh' e i=>d0 d i q1⟩
theorem d6{K:PySem.W.Frag}(X:K.In s.heap)(r:s.heap.get? e=some i)(a:i.cls=.ref C)(j:PySem.W.typeIn K (.ref D)=some (.type "type"))(f:(PySem.W.clsIn K D).isSome=true)(n:PySem.W.subIn K (.ref D) (.type "BaseException")=some true)(l:PySem.W.subIn K (.ref C) (.ref D)=some b)(h:Q b s):
  wpAny M A (excMatches (.ref e) (.ref D)) Q E s:=by
 obtain⟨c,g,d,t,os⟩:=s;have p:PySem.W.Looks M c (isInstance (.ref D) (.type "tuple")) false:=(PySem.W.looks_typeIn X j).andThen (PySem.W.Looks.of_pure tc_notTuple)
 have y:PySem.W.Looks M c (isType (.ref D)) true:=by
  unfold PySem.W.clsIn at f;split at f
  ·rename_i G z m w v;intro F H B s' k q;exact Qk (wpAny_loadPart (k _ _ (X _ _ v)) (Ql q))
  ·cases f
 have u:PySem.W.Looks M c (isExcClass (.ref D)) true:=by
  exact y.andThen (PySem.W.looks_subIn X n)
 have x:PySem.W.Looks M c (typeOf (.ref e)) (.ref C):=by
  rw[<- a];exact(PySem.W.Looks.ld r).andThen .now
 have o:=PySem.W.looks_subIn (M:=M) X l;refine Qk (p.at ?_);show wpAny M A (forIn [Value.ref D] PUnit.unit _ >>=_) Q E _;refine Qk (Qk (Qk (u.at ?_)));refine Ql (Ql ?_);refine Qk (x.at ?_);refine Qk (Qk (Qk (o.at ?_)));cases b with
 | true|false=>
  exact Ql (Ql (Ql h))
theorem Inv.gone{σ:St}(I:Inv X pins σ H s)(G:X.N.Nodup)(hi:X.N[i]?=some n)(O:s.heap.Ns X.env.locals m)(hl:∀(i:Nat)(x:Str)(v:V),X.N[i]?=some x->σ[i]?=some (some v)->Vis X.env.scope x->∃ u,RelV v u/\Qr X.env s.heap m x u)(t:h'.Ns X.env.locals (λx=>if x=n then w else m x))(a:Heap.SameBut X.env.locals s.heap h'):
  Inv X pins (σ.set i none) H {s with heap:=h',toks:=tk}:=by
 have cne:=I.cne;have hiσ:i < σ.length:=by rw[I.len];exact(YV.mp hi).1
 refine⟨I.ok,I.os,I.bare,⟨λb o e n l g=>?_,λb o e n l g=>?_,I.base.free,λb o e g=>?_,I.base.tups,I.base.frzs,I.base.tbls⟩,⟨_,t,λj y F f h D=>?_⟩,λy c e=>?_,I.free,I.freeC,λp J=>?_,λb E e=>?_,by simpa using I.len⟩
 ·exact(a.2 b (Ys (Yu (Qn e) I.ok.above))).trans (I.base.keep b o e n l g)
 ·obtain⟨K,f⟩:=I.base.slot b o e n l g;exact⟨K,(a.2 b (Ys (Yu (Qn e) I.ok.above))).trans f⟩
 ·obtain⟨o',f⟩:=I.base.there b o e g;exact⟨o',(a.2 b (Ys (Yu (Qn e) I.ok.above))).trans f⟩
 ·by_cases r:j=i
  ·subst r;rw[List.getElem?_set_self hiσ]at h;cases h
  ·rw[List.getElem?_set_ne (YU r)]at h;obtain⟨B,r',q⟩:=hl j y F f h D;refine⟨B,r',?_⟩;rcases q with⟨k,e⟩|⟨k,c,e,z⟩
   ·refine .inl ⟨k,?_⟩;have:y≠n:=λe=>r (Mf G f (e▸hi));simp[this,e]
   ·exact .inr ⟨k,c,e,z.sameBut a (cne y c e)⟩
 ·obtain⟨A,z⟩:=I.cell y c e;exact⟨A,z.sameBut a (cne y c e)⟩
 ·obtain⟨e,n,ne,L,d⟩:=I.pin p J;exact⟨(a.2 p.1 ne).trans e,n,ne,L,d⟩
 ·refine(I.hok b E e).stay (λc A hc q=>(a.2 c ?_).trans q) (λ_ q=>q) λ_ _ q=>q;rintro rfl;rcases hc with hc | hc
  ·rw[<- hc,I.free]at e;cases e
  ·rw[I.free]at hc;cases hc
theorem Inv.track{σ:St}(I:Inv X pins σ H s)(k:H e=none)(h:e≠X.env.locals)(hc:∀ x c,X.env.cells.lookup x=some c->c≠e)(i:∀ p∈X.pn++pins,p.1≠e)(l:X.s₀.heap.get? e=none)(ok:ObjOk X.prog X.w (upd H e o) s.heap e o):Inv X pins σ (upd H e o) s:=by
 have a:∀ b u,H b=some u->upd H e o b=some u:=λb u z=>by rw[A5 (FM z k)];exact z
 refine⟨I.ok,I.os,I.bare,⟨I.base.keep,I.base.slot,λb f z n j=>?_,I.base.there,λb xs z=>a _ _ (I.base.tups b xs z),λb f u z=>a _ _ (I.base.frzs b f u z),λb ps z=>?_⟩,I.loc,I.cell,?_,λx c z=>?_,λp z=>?_,λb u z=>?_,I.len⟩
 ·rw[A5 (λq=>by rw[q,l]at z;cases z)];exact I.base.free b f z n j
 ·obtain⟨d,q⟩:=I.base.tbls b ps z;exact⟨d,a _ _ q⟩
 ·rw[A5 (YU h)];exact I.free
 ·rw[A5 (hc x c z)];exact I.freeC x c z
 ·obtain⟨q1,q2,q3⟩:=I.pin p z;exact⟨q1,by rw[A5 (i p z)];exact q2,q3⟩
 ·by_cases g:b=e
  ·subst g;rw[B4]at z;cases z;exact ok
  ·rw[A5 g]at z;exact(I.hok b u z).stay (λ_ _ _ q=>q) (λc q=>a _ _ q) λc xs q=>a _ _ q
def cxH(X:Cx)(e:Addr):Cx:={X with A:=X.A.mark (some (.ref e)),calm:=false,xe:=λ_ _=>False}
theorem Inv.toH{σ:St}(I:Inv X pins σ H s):Inv (cxH X e) pins σ H s :=
 ⟨⟨I.ok.mod,I.ok.kind,I.ok.glob,I.ok.blt,I.ok.above,I.ok.inj,I.ok.has,I.ok.cab,(λz=>by cases z),I.ok.frames,I.ok.stk,I.ok.exf,I.ok.bs,I.ok.bsz,I.ok.noex,I.ok.exfs,I.ok.funs,I.ok.frf⟩,I.os,I.bare,I.base,I.loc,I.cell,I.free,I.freeC,I.pin,I.hok,I.len⟩
theorem Inv.ofH{σ:St}(ok:X.Ok)(I:Inv (cxH X e) pins σ H s):Inv X pins σ H s :=
 ⟨ok,I.os,I.bare,I.base,I.loc,I.cell,I.free,I.freeC,I.pin,I.hok,I.len⟩
def cxT(X:Cx)(pn:List (Addr×Obj))(xe:Value->Shared->Prop):Cx:={X with pn:=pn,xe:=xe}
theorem Inv.toT{σ:St}(I:Inv X pins σ H s):Inv (cxT X (X.pn++pins) xe) [] σ H s :=
 ⟨⟨I.ok.mod,I.ok.kind,I.ok.glob,I.ok.blt,I.ok.above,I.ok.inj,I.ok.has,I.ok.cab,I.ok.hd,I.ok.frames,I.ok.stk,I.ok.exf,I.ok.bs,I.ok.bsz,I.ok.noex,I.ok.exfs,I.ok.funs,I.ok.frf⟩,I.os,I.bare,I.base,I.loc,I.cell,I.free,I.freeC,(λp a=>I.pin p (by simpa[cxT]using a)),I.hok,I.len⟩
theorem Inv.ofT{σ:St}(ok:X.Ok)(I:Inv (cxT X (X.pn++pins) xe) a σ H s):Inv X pins σ H s :=
 ⟨ok,I.os,I.bare,I.base,I.loc,I.cell,I.free,I.freeC,(λp b=>I.pin p (YK _ b)),I.hok,I.len⟩
def DC(e C:Addr):Heap->Prop:=λh=>∃ ox,h.get? e=some ox/\ox.cls=.ref C
def FQ(CX:CXT)(X:Cx)(Eσ:St->XK):Prop:=∀(pins:List (Addr×Obj))(σ:St)(H:Hp)(s:Shared)(e:Value)(s':Shared),Inv X pins σ H s->CX X.stack H s (Eσ σ) e s'->X.xe e s'
def d9(K:PySem.W.Frag)(D:Addr)(i:Nat)(tb:(St->XK)->TS)(th:TS):TS:=λDn σ H=>
 tb (λσ' Cv _ H'=>∃ C,Cv=.ref C/\PySem.W.subIn K (.ref C) (.ref D)=some true/\∀ e,H' e=none->
  th {nx:=λσ2 H2=>Dn.nx (σ2.set i none) H2,rt:=Dn.rt,bk:=λσ2 H2=>Dn.bk (σ2.set i none) H2,ct:=λσ2 H2=>Dn.ct (σ2.set i none) H2} (σ'.set i (some (.ref e))) (upd H' e (.ext (DC e C)))) Dn σ H
theorem ef(hN:X.N.Nodup)(hi:X.N[i]?=some n)(hn:X.env.scope.names.lookup n=some .local)(Y:X.stack=X.env::X.outer)(frl:X.env.frame=some X.env.locals)(hex:X.ex=[])(hgx:Gl X x)(hmx:X.mg x=some (.ref D))(hD:PySem.W.typeIn X.K (.ref D)=some (.type "type"))(hT:(PySem.W.clsIn X.K D).isSome=true)(hB:PySem.W.subIn X.K (.ref D) (.type "BaseException")=some true)(hb:∀(Eσ:St->XK)(pn:List (Addr×Obj))(xe:Value->Shared->Prop),FQ (CXe X.prog X.w) (cxT X pn xe) Eσ->PSs (cxT X pn xe) body (tb Eσ))(hh:∀ e,PSs (cxH X e) (b0::g) th)(hdb:(x==("__debug__":Str))=false:=by decide):
  PS X (.Try body [.ExceptHandler (some (.Name x np)) (some n) (b0::g) G] [] [] pos) (d9 X.K D i tb th):=by
 intro pins s σ H Dn I h;refine wpAny_Try_except ?_
 let T:Value->Shared->Prop:=λev E=>wpAny (model X.prog X.w) X.A (noteFrame ev X.env) (λ_ s₂=>wpAny (model X.prog X.w) X.A (setFlight ev none) (λ_ s₃=>
  wpAny (model X.prog X.w) X.A (handleBy ev X.env [.ExceptHandler (some (.Name x np)) (some n) (b0::g) G]) (SP X pins Dn) X.xe s₃) X.xe s₂) X.xe E
 have ok:=I.ok;refine wpAny_mono (hb _ (X.pn++pins) T ?_ [] s σ H Dn I.toT h) (λf E q=>?_) (λev E q=>q)
 ·intro pins' σ' H' s' ev s'' S hcx;obtain⟨e,C,H2,rfl,F,C',eC,Z,q⟩:=hcx;cases eC;obtain⟨B,a0,fl,cov⟩:=F.fly;have fr:X.A.frames=some (X.env::X.outer):=by rw[<- Y];exact ok.frames
  have fl':Heap.FlyingW B (X.env::X.outer) e (.ref C) a0 s''.heap:=by rw[<- Y];exact fl
  refine wpAny_looks_onW fr frl fl' λh₄ l y=>wpAny_landsW l λh₅ j J=>?_;have I5:=Inv.ofT ok (F.inv S fl cov j.1 (y.trans J));obtain⟨ob,hob,hobc⟩:=j.there;refine wpAny_handleBy_cons (codeAny_handlers_test (Ep I5.toH hgx hmx ?_ hdb)) (by intro q;cases q);refine d6 I5.kIn hob hobc hD hT hB Z (codeAny_handlers_suite_as ?_);refine lands_againW j λh₆ t P=>?_;have I6:=Inv.ofT ok (F.inv S fl cov t.1 ((y.trans J).trans P));have old:∀ b o,s'.heap.get? b=some o->b≠e:=λb o z w=>by rw[w,F.new]at z;cases z
  obtain⟨oe,hoe,hoec⟩:=t.there
  have I7:Inv X pins σ' (upd H2 e (.ext (DC e C))) {s'' with heap:=h₆}:=by
   refine I6.track F.free ?_ (λx c z=>?_) (λp z=>?_) ?_ ⟨⟨oe,hoe,hoec⟩,⟨oe,hoe⟩,(by rintro g1 g2 ⟨ox,z1,z2⟩ k;exact⟨ox,k _ z1,z2⟩)⟩
   ·obtain⟨m,hm,_⟩:=S.loc;obtain⟨o,es,ep,ho,_⟩:=hm;exact(old _ _ ho).symm
   ·obtain⟨v,o,ho,_⟩:=S.cell x c z;exact old _ _ ho
   ·exact old _ _ (S.pin p (YK _ z)).1
   ·cases z:X.s₀.heap.get? e with
    | none=>rfl
    | some o =>
     obtain⟨o',e1⟩:=S.base.there e o z (λw=>by
      have w':e∈X.ex:=w;rw[hex]at w';cases w')
     rw[F.new]at e1;cases e1
  refine HL (X:=cxH X e) I7.toH hN hi (.inl hn) (v:=.ref e) rfl (λs8 I8=>?_) (.inr hn);refine wpAny_mono (hh e pins s8 _ _ _ I8 (q e F.free)) (λf s9 q9=>?_) (λ_ _ z=>z.elim)
  have L:∀{σ9:St}{R:Hp}{K9:Shared->Prop},Inv (cxH X e) pins σ9 R s9->(∀ a,Inv X pins (σ9.set i none) R a->K9 a)->
    wpAny (model X.prog X.w) X.A (do bindName X.env n .none;unbindBehindTheSuite X.env n G) (λ_ a=>K9 a) X.xe s9:=λ{σ9 R K9}O k9=>by
   have U:=Inv.ofH ok O;obtain⟨m,hm,hl⟩:=id U.loc;refine wpAny_nameGoes_keeps hn hm (by rw[ok.kind];rfl) λh' v hn' hs=>k9 _ (U.gone hN hi hm hl hn' hs)
  cases f with
  | next|brk|cont=>obtain⟨σ9,R,O,q9⟩:=q9;exact L O λa d=>⟨_,_,d,q9⟩
  | ret u=>obtain⟨v,σ9,R,O,r9,q9⟩:=q9;exact L O λa d=>⟨v,_,_,d,r9,q9⟩
 ·cases f with
  | next=>obtain⟨σ',H',Q,q⟩:=q;exact wpAny_execs_nil ⟨σ',H',Inv.ofT ok Q,q⟩
  | brk|cont=>obtain⟨σ',H',Q,q⟩:=q;exact⟨σ',H',Inv.ofT ok Q,q⟩
  | ret u=>obtain⟨v,σ',H',Q,r,q⟩:=q;exact⟨v,σ',H',Inv.ofT ok Q,r,q⟩
def Q9(sp:Sp)(dvs:List V)(Eσ:St->XK)(t:TA):TE:=λσ H Q=>t σ H λvs H1=>sp (vs++dvs) H1 Q (Eσ σ)
theorem eg{p pos:Pos}(F:FnOk X.prog X.w X.K X.mg X.base CX k f fd ps sp)(D:Room k X.A)(m:Gl X x)(v:X.mg x=some (.ref f))(y:PySem.W.keepIn X.K (.ref f)=true)(l:Binds X.K fd ps ds)(hd:Vals dvs ds)(B:FQ CX X Eσ)(n:PA X (e::es) t)(i:(x==("__debug__":Str))=false:=by decide)(z:starEach (e::es) X.env=(false,eval e X.env)::starEach es X.env:=by rfl)(g:(backTo pos (starEach es X.env)).any (·.1)=false:=by rfl):
  PE X (.Call (.Name x p) (e::es) [] pos) (Q9 sp dvs Eσ t):=by
 intro pins s σ H Q I h;refine wpAny_Call_Name_kw (Ep I m v ?_ i);refine PySem.W.callWith_K I.ok.mod.kin y (thn (n pos pins s σ H _ I h) λc d⟨vs,H1,a,r,q⟩=>⟨a.kIn,?_⟩) z g;have j:=r.append hd;have hl:(c++ds).length=ps.length:=by rw[<- j.length];exact F.len _ _ _ _ q
 refine wpAny_call (codeAny_mono (F.run X.A X.stack d H1 ⟨c,[]⟩ (c++ds) (vs++dvs) Q (Eσ σ) D a.env0 (l d c a.kIn hl) j q) λr s' b=>?_);cases r with
 | error e=>exact B pins σ H1 d e s' a b
 | ok o =>
  cases o with
  | ret u=>exact a.after b
  | next|brk|cont=>exact Qd b
structure JH(k:Nat)(A:Around):Prop where
 dp:A.depth+3*k+5 < recursionLimit
 un:A.units+16*k+200 < cLine
structure MD(P:Program)(w:World)(K:PySem.W.Frag)(mg:Str->Option Value)(base:Heap)(CX:CXT)(k:Nat)(f:Addr)(fd:FuncData)(ps:List Str)(sp:Sp):Prop where
 len:∀ vs H Q E,sp vs H Q E->vs.length=ps.length
 run:∀(A:Around)(outer:List Env)(s:Shared)(H:Hp)(args:Args)(us:List Value)(vs:List V)(Q:VK)(E:XK),JH k A->Env0 P w K mg base A outer s H->BindsTo s fd args (ps.zip us)->Vals vs us->sp vs H Q E->
  codeAny (model P w) A (.call (.ref f) args) (CR CX outer P w H s Q E) s
def cxN(P:Program)(w:World)(K:PySem.W.Frag)(mg:Str->Option Value)(base:Heap)(N:List Str)(qual:Str)(scope:Scope)(f:Addr)(cd:Value)(A:Around)(outer:List Env)(s:Shared)(H:Hp):Cx :=
 {Bu CX0 P w K mg base N qual scope f cd A outer s H E0 with calm:=false,xe:=λ_ _=>False}
theorem eh{K:PySem.W.Frag}{kV:Value}(lk:K.lookup f=some ⟨X,od,.func (PySem.W.fnOf name qual params body scope L kV l pm O cdv ct),p⟩)(m:PySem.W.codeIn K cdv qual=true)(S:Ay N ps scope)(len:∀ vs H Q E,sp vs H Q E->vs.length=ps.length)(g:∀(A:Around)(outer:List Env)(s:Shared)(H:Hp)(vs:List V)(Q:VK)(E:XK),sp vs H Q E->∃ t,PSs (cxN P w K mg base N qual scope f cdv A outer s H) body t/\t {nx:=λ_ H'=>Q .non H',rt:=Q} (CB N vs) H):
  MD P w K mg base CX (k+1) f (PySem.W.fnOf name qual params body scope L kV l pm O cdv ct) ps sp:=by
 refine⟨len,λA outer s H G Y vs Q E T c hb r i=>?_⟩;have hl:=len _ _ _ _ i;have KX:=c.mod.kin.keeps λb o e=>(c.bs b o e).1;have D:=c.mod.nolimit.keeps λb o e=>(c.bs b o e).1
 have d:∀ y∈ps.zip Y,scope.names.lookup y.1=some .local\/(scope.names.lookup y.1=some .cell/\((cellsFrom (s.heap.objs.size+1) scope.names []).lookup y.1).isSome=true):=by
  rintro⟨n,v⟩ hy;rcases S.par n (List.of_mem_zip hy).1 with q | q
  ·exact .inl q
  ·exact .inr ⟨q,PySem.W.cellsFrom_some _ _ _ (.inl q)⟩
 refine codeAny_call_function (by have:=T.dp;lia) (KX _ _ lk) rfl S.co S.gen rfl (PySem.W.codeRec_of KX m) (hb _ _ _ _ ?_);refine wpAny_newFunctionEnv_cells S.kind d λenv Z F x=>?_;subst Z;refine⟨D.keeps x.toInCall.keep,codeAny_func ?_⟩;obtain⟨t,ht,R⟩:=g A outer s H vs Q E i;have U:Env0 P w K mg base {A with handled:=none} outer s H:=⟨c.frames,c.mod,c.bs,c.bsz,c.funs,c.frf,c.hok,c.bare⟩;have a:Inv (Bu CX0 P w K mg base N qual scope f cdv {A with handled:=none} outer s H E0) [] (CB N vs) H F:=QQ S rfl U hl r x
 have I:Inv (cxN P w K mg base N qual scope f cdv A outer s H) [] (CB N vs) H F :=
  ⟨⟨a.ok.mod,a.ok.kind,a.ok.glob,a.ok.blt,a.ok.above,a.ok.inj,a.ok.has,a.ok.cab,(λz=>by cases z),Around.frames_deeper c.frames,a.ok.stk,a.ok.exf,a.ok.bs,a.ok.bsz,a.ok.noex,a.ok.exfs,a.ok.funs,a.ok.frf⟩,a.os,a.bare,a.base,a.loc,a.cell,a.free,a.freeC,a.pin,a.hok,a.len⟩
 refine wpAny_mono (ht [] F (CB N vs) H _ I R) (λfl s' h=>?_) λe s' h=>h.elim
 have j:∀{σ':St}{H':Hp}{v:V}{u:Value},Inv (cxN P w K mg base N qual scope f cdv A outer s H) [] σ' H' s'->RelV v u->Q v H'->CE outer P w H s Q u s' :=
  λ{σ' H' v u}J B q=>⟨v,H',J.os,J.bare,J.base,J.hok,B,q⟩
 cases fl with
 | ret u =>
  obtain⟨v,σ',H',J,B,q⟩:=h;exact j J B q
 | next =>
  obtain⟨σ',H',J,q⟩:=h;exact j (v:=V.non) J rfl q
 | brk|cont=>
  obtain⟨_,_,_,q⟩:=h;exact Qd q
theorem ek{p pos:Pos}(F:MD X.prog X.w X.K X.mg X.base CX0 k f fd ps sp)(B:JH k X.A)(m:Gl X x)(v:X.mg x=some (.ref f))(y:PySem.W.keepIn X.K (.ref f)=true)(l:Binds X.K fd ps [])(n:PA X (e::es) t)(g:(x==("__debug__":Str))=false:=by decide)(z:starEach (e::es) X.env=(false,eval e X.env)::starEach es X.env:=by rfl)(d:(backTo pos (starEach es X.env)).any (·.1)=false:=by rfl):
  PE X (.Call (.Name x p) (e::es) [] pos) (cY sp [] E0 t):=by
 intro pins s σ H Q I h;refine wpAny_Call_Name_kw (Ep I m v ?_ g);refine PySem.W.callWith_K I.ok.mod.kin y (thn (n pos pins s σ H _ I h) λb i⟨vs,H1,c,r,q⟩=>⟨c.kIn,?_⟩) z d;have j:=r.append .nil;have hl:(b++[]).length=ps.length:=by rw[<- j.length];exact F.len _ _ _ _ q
 refine wpAny_call (codeAny_mono (F.run X.A X.stack i H1 ⟨b,[]⟩ (b++[]) (vs++[]) Q E0 B c.env0 (l i b c.kIn hl) j q) λr s' a=>?_);cases r with
 | error e=>exact Qd a
 | ok o =>
  cases o with
  | ret u=>exact c.after a
  | next|brk|cont=>exact Qd a
end L2
namespace L3
open PySem PySem.Spec PyProof.Rows L2
abbrev St:=L2.St
inductive W where
 | non | bl (b:Bool)| int (i:Int)| str (x:Str)| tup (xs:List W)| rol (xs:List W)| ref (a:Addr)
inductive HW where
 | lst (xs:List W)| exc (C:Addr)| ins (C:Addr) (fs:List (Str×W))| dct (kvs:List (Key×W))
abbrev Sw:=List (Option W)
abbrev Hw:=Addr->Option HW
def put(H:Hw)(a:Addr)(o:HW):Hw:=λb=>if b=a then some o else H b
theorem Ap:put H a o a=some o:=by unfold put;rw[if_pos rfl]
theorem AX(h:b≠a):put H a o b=H b:=by unfold put;rw[if_neg h]
section
variable (K:PySem.W.Frag)
def RoL(H:Hp)(a:Addr)(xs:List V):Prop:=(∃ o,H a=some (.frz o (.lst xs)))\/
 ∃(o:Obj)(its:Array Value)(n:Nat),K.lookup a=some o/\o.cls=.type "list"/\o.dict=none/\o.data=.seq its n/\its.size<=sizeLine/\Vals xs its.toList
theorem RoL.sq{K:PySem.W.Frag}(h:RoL K H a xs):SqL K H a xs:=by
 rcases h with⟨o,h⟩| h
 ·exact .inl (.inr ⟨o,h⟩)
 ·exact .inr h
mutual
inductive Tr(H:Hp):V->W->Prop where
 | non:Tr H .non .non
 | bl (b:Bool):Tr H (.bl b) (.bl b)
 | int (i:Int):Tr H (.int i) (.int i)
 | str (x:Str):Tr H (.str x) (.str x)
 | tup {a:Addr} {vs:List V} {ws:List W}:SqT K H a vs->TrL H vs ws->Tr H (.ref a) (.tup ws)
 | rol {a:Addr} {vs:List V} {ws:List W}:RoL K H a vs->TrL H vs ws->Tr H (.ref a) (.rol ws)
 | ref (a:Addr):Tr H (.ref a) (.ref a)
inductive TrL(H:Hp):List V->List W->Prop where
 | nil:TrL H [] []
 | cons {v:V} {w:W} {vs:List V} {ws:List W}:Tr H v w->TrL H vs ws->TrL H (v::vs) (w::ws)
end
inductive TrP{α:Type}(H:Hp):List (α×V)->List (α×W)->Prop where
 | nil:TrP H [] []
 | cons {f:α} {v:V} {w:W} {vs:List (α×V)} {ws:List (α×W)}:Tr K H v w->TrP H vs ws->TrP H ((f,v)::vs) ((f,w)::ws)
structure Mono(H H':Hp):Prop where
 tup:∀ a vs,SqT K H a vs->SqT K H' a vs
 rol:∀ a vs,RoL K H a vs->RoL K H' a vs
def RelO2(H:Hp)(a:Addr):HW->Prop
 | .lst ws=>∃ vs,H a=some (.lst vs)/\TrL K H vs ws
 | .exc C=>H a=some (.ext (DC a C))
 | .ins C ws=>∃ dx vs,H a=some (.ins C dx vs)/\TrP K H vs ws
 | .dct ws=>∃ vs,H a=some (.dK vs)/\TrP K H vs ws
def RelH(H:Hp)(G:Hw):Prop:=∀ a o,G a=some o->RelO2 K H a o
structure TrSt(H:Hp)(σ:St)(ω:Sw):Prop where
 len:σ.length=ω.length
 get:∀(i:Nat)(w:W),ω[i]?=some (some w)->∃ v,σ[i]?=some (some v)/\Tr K H v w
end
section
variable {K:PySem.W.Frag}{H H':Hp}
theorem Mono.refl:Mono K H H:=⟨λ_ _ h=>h,λ_ _ h=>h⟩
theorem Mono.trans(m:Mono K H H')(b:Mono K H' H2):Mono K H H2:=⟨λa vs h=>b.tup a vs (m.tup a vs h),λa vs h=>b.rol a vs (m.rol a vs h)⟩
mutual
theorem Tr.mono(m:Mono K H H'){v:V}{w:W}(t:Tr K H v w):Tr K H' v w:=by
 cases t with
 | non=>exact .non
 | bl b=>exact .bl b
 | int i=>exact .int i
 | str x=>exact .str x
 | tup h l=>exact .tup (m.tup _ _ h) (TrL.mono m l)
 | rol h l=>exact .rol (m.rol _ _ h) (TrL.mono m l)
 | ref a=>exact .ref a
theorem TrL.mono(m:Mono K H H'){vs:List V}{a:List W}(t:TrL K H vs a):TrL K H' vs a:=by
 cases t with
 | nil=>exact .nil
 | cons h l=>exact .cons (Tr.mono m h) (TrL.mono m l)
end
theorem TrP.mono{α:Type}(m:Mono K H H'):∀{vs:List (α×V)}{a:List (α×W)},TrP K H vs a->TrP K H' vs a
 | _,_,.nil=>.nil
 | _,_,.cons r t=>.cons (r.mono m) (TrP.mono m t)
theorem RelO2.mono(m:Mono K H H')(e:H' a=H a):∀{o:HW},RelO2 K H a o->RelO2 K H' a o
 | .lst b,⟨vs,z,t⟩=>⟨vs,e.trans z,t.mono m⟩
 | .exc C,z=>(e.trans z:H' a=_)
 | .ins C b,⟨dx,vs,z,t⟩=>⟨dx,vs,e.trans z,t.mono m⟩
 | .dct b,⟨vs,z,t⟩=>⟨vs,e.trans z,t.mono m⟩
theorem RelO2.some:∀{o:HW},RelO2 K H a o->H a≠none
 | .lst b,⟨vs,z,t⟩,q=>by rw[q]at z;cases z
 | .exc C,z,q=>by rw[show H a=_ from z]at q;cases q
 | .ins C b,⟨dx,vs,z,t⟩,q|.dct b,⟨vs,z,t⟩,q=>by rw[q]at z;cases z
theorem TrSt.mono(m:Mono K H H')(t:TrSt K H σ ω):TrSt K H' σ ω:=⟨t.len,λi w e=>let⟨v,e',r⟩:=t.get i w e;⟨v,e',r.mono m⟩⟩
theorem TrSt.set(t:TrSt K H σ ω)(i:Nat)(r:Tr K H v w):TrSt K H (σ.set i (some v)) (ω.set i (some w)):=by
 refine⟨by simp[t.len],λj u e=>?_⟩;by_cases h:i=j
 ·subst h;by_cases hl:i < ω.length
  ·rw[List.getElem?_set_self hl]at e;cases e;exact⟨v,List.getElem?_set_self (by rw[t.len];exact hl),r⟩
  ·rw[List.getElem?_eq_none (by simp;lia)]at e;cases e
 ·rw[List.getElem?_set_ne h]at e;obtain⟨b,a,r'⟩:=t.get j u e;exact⟨b,by rw[List.getElem?_set_ne h];exact a,r'⟩
theorem TrSt.unset(t:TrSt K H σ ω)(i:Nat):TrSt K H (σ.set i none) (ω.set i none):=by
 refine⟨by simp[t.len],λj u e=>?_⟩;by_cases h:i=j
 ·subst h;by_cases hl:i < ω.length
  ·rw[List.getElem?_set_self hl]at e;cases e
  ·rw[List.getElem?_eq_none (by simp;lia)]at e;cases e
 ·rw[List.getElem?_set_ne h]at e;obtain⟨b,a,r'⟩:=t.get j u e;exact⟨b,by rw[List.getElem?_set_ne h];exact a,r'⟩
theorem TrL.length:∀{vs:List V}{a:List W},TrL K H vs a->vs.length=a.length
 | _,_,.nil=>rfl
 | _,_,.cons _ t=>Qg (·+1) t.length
theorem TrL.get:∀{vs:List V}{a:List W}{i:Nat}{w:W},TrL K H vs a->a[i]?=some w->∃ v,vs[i]?=some v/\Tr K H v w
 | _,_,_,_,.nil,e=>by simp at e
 | _,_,0,_,.cons r _,e=>by simp at e;subst e;exact⟨_,rfl,r⟩
 | _,_,i+1,w,.cons _ t,e=>by
  obtain⟨v,h1,h2⟩:=TrL.get t (by simpa using e);exact⟨v,by simpa using h1,h2⟩
theorem TrL.get':∀{vs:List V}{a:List W}{i:Nat}{v:V},TrL K H vs a->vs[i]?=some v->∃ w,a[i]?=some w/\Tr K H v w
 | _,_,_,_,.nil,e=>by simp at e
 | _,_,0,_,.cons r _,e=>by simp at e;subst e;exact⟨_,rfl,r⟩
 | _,_,i+1,v,.cons _ t,e=>by
  obtain⟨w,h1,h2⟩:=TrL.get' t (by simpa using e);exact⟨w,by simpa using h1,h2⟩
theorem TrL.append:∀{vs b:List V}{c a:List W},TrL K H vs c->TrL K H b a->TrL K H (vs++b) (c++a)
 | _,_,_,_,.nil,s=>s
 | _,_,_,_,.cons r t,s=>.cons r (t.append s)
theorem TrL.set(r:Tr K H v w):∀{vs:List V}{a:List W}(i:Nat),TrL K H vs a->TrL K H (vs.set i v) (a.set i w)
 | _,_,_,.nil=>.nil
 | _,_,0,.cons _ t=>.cons r t
 | _,_,i+1,.cons q t=>.cons q (TrL.set r i t)
theorem TrL.take:∀{vs:List V}{a:List W}(n:Nat),TrL K H vs a->TrL K H (vs.take n) (a.take n)
 | _,_,0,_|_,_,_+1,.nil=>.nil
 | _,_,n+1,.cons r t=>.cons r (TrL.take n t)
theorem TrL.drop:∀{vs:List V}{a:List W}(n:Nat),TrL K H vs a->TrL K H (vs.drop n) (a.drop n)
 | _,_,0,r=>r
 | _,_,_+1,.nil=>.nil
 | _,_,n+1,.cons _ t=>TrL.drop n t
theorem ME(h:SqT K H a vs)(d:∀ xs,H b≠some (.tup xs))(f:∀ c xs,H b≠some (.frz c (.tup xs))):SqT K (upd H b o) a vs:=by
 rcases h with(h |⟨c,h⟩)| h
 ·exact .inl (.inl (by rw[A5 (λe=>d _ (e▸h))];exact h))
 ·exact .inl (.inr ⟨c,by rw[A5 (λe=>f _ _ (e▸h))];exact h⟩)
 ·exact .inr h
theorem MF(h:RoL K H a vs)(d:∀ c u,H b≠some (.frz c u)):RoL K (upd H b o) a vs:=by
 rcases h with⟨c,h⟩| h
 ·exact .inl ⟨c,by rw[A5 (λe=>d _ _ (e▸h))];exact h⟩
 ·exact .inr h
theorem Mono.new(b:H p=none)(o:HO):Mono K H (upd H p o):=
 ⟨λa vs h=>ME h (λxs e=>by rw[b]at e;cases e) (λc xs e=>by rw[b]at e;cases e),λa vs h=>MF h (λc xs e=>by rw[b]at e;cases e)⟩
theorem Mono.lst(b:H p=some (.lst xs))(o:HO):Mono K H (upd H p o):=
 ⟨λa vs h=>ME h (λxs e=>by rw[b]at e;cases e) (λc xs e=>by rw[b]at e;cases e),λa vs h=>MF h (λc xs e=>by rw[b]at e;cases e)⟩
theorem Mono.was(c:H p=some o')(o:HO)(h1:∀ xs,o'≠.tup xs)(h2:∀ b u,o'≠.frz b u):Mono K H (upd H p o):=
 ⟨λa vs h=>ME h (λxs e=>by rw[c]at e;exact h1 _ (YE e)) (λb xs e=>by rw[c]at e;exact h2 _ _ (YE e)),λa vs h=>MF h (λb xs e=>by rw[c]at e;exact h2 _ _ (YE e))⟩
theorem RelH.no(r:RelH K H G)(a:H p=none):G p=none:=by
 cases e:G p with
 | none=>rfl
 | some o=>exact Qj a (r p o e).some
theorem RelH.mono0(r:RelH K H G)(b:H p=none):RelH K (upd H p o) G:=λa u e=>
 have q:=r a u e
 q.mono (Mono.new b o) (A5 (by rintro rfl;exact q.some b))
theorem RelH.laid(r:RelH K H G)(m:Mono K H (upd H p o))(t:RelO2 K (upd H p o) p u):RelH K (upd H p o) (put G p u):=λa b e=>by
 by_cases h:a=p
 ·subst h;rw[Ap]at e;cases e;exact t
 ·rw[AX h]at e;exact(r a _ e).mono m (A5 h)
theorem RelH.new(r:RelH K H G)(b:H p=none)(t:TrL K H vs a):RelH K (upd H p (.lst vs)) (put G p (.lst a)):=
 r.laid (Mono.new b _) ⟨vs,B4,t.mono (Mono.new b _)⟩
theorem RelH.chg(r:RelH K H G)(b:H p=some (.lst xs))(t:TrL K H vs a):RelH K (upd H p (.lst vs)) (put G p (.lst a)):=
 r.laid (Mono.lst b _) ⟨vs,B4,t.mono (Mono.lst b _)⟩
theorem RelH.chgI(r:RelH K H G)(b:H p=some (.ins C dx xs))(t:TrP K H vs a):RelH K (upd H p (.ins C dx vs)) (put G p (.ins C a)):=
 have m:=Mono.was b _ (λ_ z=>by cases z) (λ_ _ z=>by cases z)
 r.laid m ⟨dx,vs,B4,t.mono m⟩
abbrev Kw:=W->Hw->Prop
abbrev GE:=Sw->Hw->Kw->Prop
abbrev GT:=Sw->Hw->(Bool->Hw->Prop)->Prop
abbrev GA:=Sw->Hw->(List W->Hw->Prop)->Prop
structure Ew where
 nx:Sw->Hw->Prop
 rt:Kw
 bk:Sw->Hw->Prop
 ct:Sw->Hw->Prop
abbrev GS:=Ew->Sw->Hw->Prop
abbrev GG:=W->Sw->Hw->(Sw->Hw->Prop)->Prop
def GE.M(g:GE):Prop:=∀ ω G(Q Q':Kw),(∀ w G',Q w G'->Q' w G')->g ω G Q->g ω G Q'
def GT.M(g:GT):Prop:=∀ ω G(Q Q':Bool->Hw->Prop),(∀ w G',Q w G'->Q' w G')->g ω G Q->g ω G Q'
def GA.M(g:GA):Prop:=∀ ω G(Q Q':List W->Hw->Prop),(∀ w G',Q w G'->Q' w G')->g ω G Q->g ω G Q'
def GS.M(g:GS):Prop:=∀ ω G(D D':Ew),(∀ a b,D.nx a b->D'.nx a b)->(∀ a b,D.rt a b->D'.rt a b)->(∀ a b,D.bk a b->D'.bk a b)->(∀ a b,D.ct a b->D'.ct a b)->g D ω G->g D' ω G
def GG.M(g:GG):Prop:=∀ w ω G(Q Q':Sw->Hw->Prop),(∀ a b,Q a b->Q' a b)->g w ω G Q->g w ω G Q'
def dn(K:PySem.W.Frag)(H:Hp)(Q:VK):Kw:=λw G=>∀ v H',Mono K H H'->Tr K H' v w->RelH K H' G->Q v H'
def dnT(K:PySem.W.Frag)(H:Hp)(Q:Bool->Hp->Prop):Bool->Hw->Prop:=λb G=>∀ H',Mono K H H'->RelH K H' G->Q b H'
def dnA(K:PySem.W.Frag)(H:Hp)(Q:List V->Hp->Prop):List W->Hw->Prop:=λws G=>∀ vs H',Mono K H H'->TrL K H' vs ws->RelH K H' G->Q vs H'
def dnS(K:PySem.W.Frag)(H:Hp)(Q:St->Hp->Prop):Sw->Hw->Prop:=λω G=>∀ σ H',Mono K H H'->TrSt K H' σ ω->RelH K H' G->Q σ H'
def dnD(K:PySem.W.Frag)(H:Hp)(D:GC):Ew:=⟨dnS K H D.nx,dn K H D.rt,dnS K H D.bk,dnS K H D.ct⟩
theorem Cj(m:Mono K H H')(q:dn K H Q w G):dn K H' Q w G:=λv H2 a t r=>q v H2 (m.trans a) t r
theorem Ra(m:Mono K H H')(q:dnT K H Q w G):dnT K H' Q w G:=λH2 a r=>q H2 (m.trans a) r
theorem em(m:Mono K H H')(q:dnS K H Q w G):dnS K H' Q w G:=λv H2 a t r=>q v H2 (m.trans a) t r
def up(K:PySem.W.Frag)(g:GE):TE:=λσ H Q=>∃ ω G,TrSt K H σ ω/\RelH K H G/\g ω G (dn K H Q)
def upT(K:PySem.W.Frag)(g:GT):TT:=λσ H Q=>∃ ω G,TrSt K H σ ω/\RelH K H G/\g ω G (dnT K H Q)
def upA(K:PySem.W.Frag)(g:GA):TA:=λσ H Q=>∃ ω G,TrSt K H σ ω/\RelH K H G/\g ω G (dnA K H Q)
def upS(K:PySem.W.Frag)(B:Hp)(g:GS):TS:=λD σ H=>∃ ω G,TrSt K H σ ω/\RelH K H G/\Mono K B H/\g (dnD K B D) ω G
theorem Be(h:PE X e t)(i:∀ σ H Q,t' σ H Q->t σ H Q):PE X e t':=λpins s σ H Q I q=>h pins s σ H Q I (i σ H Q q)
theorem JI(h:PT X e t)(i:∀ σ H Q,t' σ H Q->t σ H Q):PT X e t':=λpins s σ H Q I q=>h pins s σ H Q I (i σ H Q q)
theorem Rb(h:PA X e t)(i:∀ σ H Q,t' σ H Q->t σ H Q):PA X e t':=λpos pins s σ H Q I q=>h pos pins s σ H Q I (i σ H Q q)
theorem C1(h:PS X e t)(i:∀ D σ H,t' D σ H->t D σ H):PS X e t':=λpins s σ H D I q=>h pins s σ H D I (i D σ H q)
theorem MG(h:PSs X e t)(i:∀ D σ H,t' D σ H->t D σ H):PSs X e t':=λpins s σ H D I q=>h pins s σ H D I (i D σ H q)
section
variable {X:Cx}{e:Expr}{es:List Expr}{ga gb:GE}
abbrev PEw(X:Cx)(e:Expr)(g:GE):Prop:=PE X e (up X.K g)
abbrev PTw(X:Cx)(e:Expr)(g:GT):Prop:=PT X e (upT X.K g)
abbrev PAw(X:Cx)(es:List Expr)(g:GA):Prop:=PA X es (upA X.K g)
abbrev PSw(X:Cx)(P:Hp->Prop)(st:Stmt)(g:GS):Prop:=∀ B,P B->PS X st (upS X.K B g)
abbrev Et(X:Cx)(P:Hp->Prop)(st:List Stmt)(g:GS):Prop:=∀ B,P B->PSs X st (upS X.K B g)
abbrev Rc:Hp->Prop:=λ_=>True
abbrev atB(X:Cx):Hp->Prop:=λB=>B=X.H₀
def gC(w:W):GE:=λ_ G Q=>Q w G
def Ab(i:Nat):GE:=λω G Q=>match ω[i]? with | some (some w)=>Q w G | _=>False
theorem GK:GE.M (gC w):=λ_ _ _ _ h q=>h _ _ q
theorem eo:GE.M (Ab i):=λω G Q a h q=>by
 have z:Ab i ω G Q=(match ω[i]? with | some (some w)=>Q w G | _=>False):=rfl;have b:Ab i ω G a=(match ω[i]? with | some (some w)=>a w G | _=>False):=rfl;rw[z]at q;rw[b];cases e:ω[i]? with
 | none=>rw[e]at q;exact q
 | some o =>
  cases o with
  | none=>rw[e]at q;exact q
  | some w=>rw[e]at q;exact h _ _ q
theorem et(c:X.N[i]?=some x)(d:Vis X.env.scope x)(hd:(x==("__debug__":Str))=false)(a:(x==("__classdict__":Str))=false):PEw X (.Name x pos) (Ab i):=
 Be (Qt c d hd a) <| by
  rintro σ H Q ⟨ω,G,b,r,q⟩;unfold Ab at q;split at q
  ·rename_i w z;obtain⟨v,e,t⟩:=b.get i w z;exact⟨v,e,q v H .refl t r⟩
  ·exact q.elim
theorem eu{j}:PEw X (.Constant (.int i) j pos) (gC (.int i)):=Be a6 (by rintro σ H Q ⟨ω,G,a,r,q⟩;exact q _ H .refl (.int i) r)
theorem ez{j}:PEw X (.Constant (.bool i) j pos) (gC (.bl i)):=Be a7 (by rintro σ H Q ⟨ω,G,a,r,q⟩;exact q _ H .refl (.bl i) r)
theorem eA{j}:PEw X (.Constant .none j pos) (gC .non):=Be a8 (by rintro σ H Q ⟨ω,G,a,r,q⟩;exact q _ H .refl .non r)
theorem eB{j}:PEw X (.Constant (.str i) j pos) (gC (.str i)):=Be Qu (by rintro σ H Q ⟨ω,G,a,r,q⟩;exact q _ H .refl (.str i) r)
theorem Re(b:Gl X x)(a:X.mg x=some u)(c:RelV v u)(t:∀ H,Tr X.K H v w)(hd:(x==("__debug__":Str))=false):PEw X (.Name x pos) (gC w):=
 Be (Qv b a c hd) (by rintro σ H Q ⟨ω,G,d,r,q⟩;exact q _ H .refl (t H) r)
abbrev RW2:=W->W->Hw->Kw->Prop
def RW2.M(r:RW2):Prop:=∀ x y G(Q Q':Kw),(∀ w G',Q w G'->Q' w G')->r x y G Q->r x y G Q'
def Ad(r:RW2)(ga gb:GE):GE:=λω G Q=>ga ω G λx G1=>gb ω G1 λy G2=>r x y G2 Q
theorem DD(mr:r.M)(a:ga.M)(mb:gb.M):GE.M (Ad r ga gb):=λω G Q b h q=>a _ _ _ _ (λx G1 q1=>mb _ _ _ _ (λy G2 q2=>mr _ _ _ _ _ h q2) q1) q
theorem JJ{e:R2}(mr:r.M)(g:ga.M)(mb:gb.M)(i:∀(x y:W)(v u:V)(G:Hw)(H:Hp)(Q:VK),Tr K H v x->Tr K H u y->RelH K H G->r x y G (dn K H Q)->e v u H Q)(σ:St)(H:Hp)(Q:VK)(h:up K (Ad r ga gb) σ H Q):tOp e (up K ga) (up K gb) σ H Q:=by
 obtain⟨ω,G,c,j,q⟩:=h;refine⟨ω,G,c,j,g _ _ _ _ (λx G1 q1 v H1 d f r1=>?_) q⟩;refine⟨ω,G1,c.mono d,r1,mb _ _ _ _ (λy G2 q2 u H2 b ty a=>?_) q1⟩;exact i x y v u G2 H2 Q (f.mono b) ty a (mr _ _ _ _ _ (λw k z=>Cj (d.trans b) z) q2)
theorem GL(f:OpR X (binaryOp op) c)(mr:r.M)(h:ga.M)(mb:gb.M)(g:∀(x y:W)(v u:V)(G:Hw)(H:Hp)(Q:VK),Tr X.K H v x->Tr X.K H u y->RelH X.K H G->r x y G (dn X.K H Q)->c v u H Q)(e:PEw X a ga)(d:PEw X b gb):PEw X (.BinOp a op b pos) (Ad r ga gb):=Be (bW f e d) (JJ mr h mb g)
theorem eD(f:OpR X (compareOp op) c)(mr:r.M)(i:ga.M)(mb:gb.M)(h:∀(x y:W)(v u:V)(G:Hw)(H:Hp)(Q:VK),Tr X.K H v x->Tr X.K H u y->RelH X.K H G->r x y G (dn X.K H Q)->c v u H Q)(e:PEw X a ga)(d:PEw X b gb)(g:behindInMarks op b=false):PEw X (.Compare a [op] [b] pos) (Ad r ga gb):=Be (cq f e d g) (JJ mr i mb h)
theorem Rf(g:IxR X c)(mr:r.M)(i:ga.M)(mb:gb.M)(h:∀(x y:W)(v u:V)(G:Hw)(H:Hp)(Q:VK),Tr X.K H v x->Tr X.K H u y->RelH X.K H G->r x y G (dn X.K H Q)->c v u H Q)(e:PEw X a ga)(d:PEw X b gb)(f:JE b):PEw X (.Subscript a b pos) (Ad r ga gb):=Be (dj g e d f) (JJ mr i mb h)
end
abbrev Xw:=Sw->Addr->Hw->Prop
abbrev XF:Xw:=λ_ _ _=>False
def upX(K:PySem.W.Frag)(ex:Xw):St->XK:=λσ Cv _ H'=>∃ C ω G,Cv=.ref C/\TrSt K H' σ ω/\RelH K H' G/\ex ω C G
abbrev Dh(X:Cx)(ex:Xw):Prop:=FQ (CXe X.prog X.w) X (upX X.K ex)
theorem Un.mono'(u:Un fs b H H' h h'):Mono K H H':=by
 refine⟨λa vs q=>?_,λa vs q=>?_⟩
 ·rcases q with(q |⟨o,q⟩)| q
  ·exact .inl (.inl (u.tups a vs q))
  ·exact .inl (.inr ⟨o,u.frzs a o _ q⟩)
  ·exact .inr q
 ·rcases q with⟨o,q⟩| q
  ·exact .inl ⟨o,u.frzs a o _ q⟩
  ·exact .inr q
abbrev Spw:=List W->Hw->Kw->(Addr->Hw->Prop)->Prop
def dnX(K:PySem.W.Frag)(H:Hp)(E:XK):Addr->Hw->Prop:=λC G'=>∀ H',Mono K H H'->RelH K H' G'->E (.ref C) none H'
def C2(K:PySem.W.Frag)(sp:Spw):Sp:=λvs H Q E=>∃ ws G,TrL K H vs ws/\RelH K H G/\sp ws G (dn K H Q) (dnX K H E)
def Spw.M(sp:Spw):Prop:=∀ ws G(Q Q':Kw)(E E':Addr->Hw->Prop),(∀ w G',Q w G'->Q' w G')->(∀ w G',E w G'->E' w G')->sp ws G Q E->sp ws G Q' E'
structure Df(P:Program)(w:World)(K:PySem.W.Frag)(mg:Str->Option Value)(base:Heap)(x:Str)(k n:Nat)(sp:Spw):Prop where
 ex:∃(f:Addr)(fd:FuncData)(ps:List Str),mg x=some (.ref f)/\PySem.W.keepIn K (.ref f)=true/\Binds K fd ps []/\ps.length=n/\FnOk P w K mg base (CXe P w) k f fd ps (C2 K sp)
 mono:sp.M
section
variable {gs:GA}{ex:Xw}
def Ac:GA:=λ_ G Q=>Q [] G
def Aa(g:GE)(gs:GA):GA:=λω G Q=>g ω G λx G1=>gs ω G1 λxs G2=>Q (x::xs) G2
theorem JK:GA.M Ac:=λ_ _ _ _ h q=>h _ _ q
theorem Rg(b:ga.M)(a:gs.M):GA.M (Aa ga gs):=λω G Q c h q=>b _ _ _ _ (λx G1 q1=>a _ _ _ _ (λxs G2 q2=>h _ _ q2) q1) q
theorem eE:PAw X [] Ac:=Rb HN (by rintro σ H Q ⟨ω,G,a,r,q⟩;exact q [] H .refl .nil r)
theorem eF(k:ga.M)(j:gs.M)(g:PEw X e ga)(i:PAw X es gs)(b:starEach (e::es) X.env=(false,eval e X.env)::starEach es X.env:=by rfl):PAw X (e::es) (Aa ga gs):=
 Rb (FP g i b) (by rintro σ H Q ⟨ω,G,f,r,q⟩;exact⟨ω,G,f,r,k _ _ _ _ (λx G1 q1 v H1 d h r1=>⟨ω,G1,f.mono d,r1,j _ _ _ _ (λxs G2 q2 vs H2 c a l=>q2 _ H2 (d.trans c) (.cons (h.mono c) a) l) q1⟩) q⟩)
def Ai(sp:Spw)(ex:Xw)(gs:GA):GE:=λω G Q=>gs ω G λws G1=>sp ws G1 Q (ex ω)
theorem MH(m:sp.M)(a:gs.M):GE.M (Ai sp ex gs):=λω G Q c h q=>a _ _ _ _ (λb G1 q1=>m _ _ _ _ _ _ h (λ_ _ z=>z) q1) q
theorem eG{pos p:Pos}(D:Df X.prog X.w X.K X.mg X.base x k n sp)(l:Room k X.A)(o:Gl X x)(v:Dh X ex)(y:gs.M)(s:PAw X (e::es) gs)(d:(x==("__debug__":Str))=false:=by decide)(B:starEach (e::es) X.env=(false,eval e X.env)::starEach es X.env:=by rfl)(c:(backTo pos (starEach es X.env)).any (·.1)=false:=by rfl):
  PEw X (.Call (.Name x p) (e::es) [] pos) (Ai sp ex gs):=by
 obtain⟨f,fd,ps,j,u,E,_,F⟩:=D.ex;refine Be (eg F l o j u E .nil v s d B c) λσ H Q b=>?_;obtain⟨ω,G,i,r,q⟩:=b;refine⟨ω,G,i,r,y _ _ _ _ (λI G1 q1 vs H1 h a r1=>?_) q⟩;refine⟨I,G1,by rw[Yx];exact a,r1,D.mono _ _ _ _ _ _ (λw g z=>Cj h z) (λC g z H2 t m=>?_) q1⟩;exact⟨C,ω,g,rfl,(i.mono h).mono t,m,z⟩
end
def Bf(N:List Str)(ws:List W):Sw:=ws.map some++List.replicate (N.length - ws.length) none
theorem GM(t:TrL K H vs a):TrSt K H (L2.CB N vs) (Bf N a):=by
 have hl:=t.length;refine⟨by simp[L2.CB,Bf,hl],λi w e=>?_⟩;unfold Bf at e;by_cases hi:i < a.length
 ·rw[YI (by simpa using hi),YM]at e;cases z:a[i]? with
  | none=>rw[z]at e;cases e
  | some c =>
   rw[z]at e;cases e;obtain⟨v,b,r⟩:=t.get z;exact⟨v,by unfold L2.CB;rw[YI (by simp;lia),YM,b];rfl,r⟩
 ·rw[List.getElem?_append_right (by simpa using hi),List.getElem?_replicate]at e;split at e <;> cases e
def Sub(G G':Hw):Prop:=∀ a o,G a=some o->G' a=some o
theorem Sub.refl:Sub G G:=λ_ _ h=>h
theorem Sub.trans(a:Sub G G1)(b:Sub G1 G2):Sub G G2:=λc o h=>b c o (a c o h)
theorem Sub.put(h:Sub G b)(d:G a=none):Sub G (put b a o):=λc u z=>by
 rw[AX (λe=>by rw[e,d]at z;cases z)];exact h c u z
theorem Sub.put2(h:Sub G b):Sub (L3.put G a o) (L3.put b a o):=λc u z=>by
 by_cases e:c=a
 ·subst e;rw[Ap]at z ⊢;exact z
 ·rw[AX e]at z ⊢;exact h c u z
theorem RelH.sub(r:RelH K H b)(s:Sub G b):RelH K H G:=λa o e=>r a o (s a o e)
def Kw.C(Q:Kw):Prop:=∀ w G G',Sub G G'->Q w G->Q w G'
def Xc(E:Addr->Hw->Prop):Prop:=∀ w G G',Sub G G'->E w G->E w G'
theorem GN:Kw.C (dn K H Q):=λw G a s q v H2 m t r=>q v H2 m t (r.sub s)
theorem Rh:Xc (dnX K H E):=λw G a s q H2 m r=>q H2 m (r.sub s)
def AC(Q:Kw):Ew:=⟨λ_ G=>Q .non G,Q,λ_ _=>False,λ_ _=>False⟩
section
variable {P:Program}{w:World}{mg:Str->Option Value}{base:Heap}
abbrev cxW(P:Program)(w:World)(K:PySem.W.Frag)(mg:Str->Option Value)(base:Heap)(N:List Str)(qual:Str)(scope:Scope)(f:Addr)(cd:Value)(A:Around)(outer:List Env)(s:Shared)(H:Hp)(E:XK):Cx :=
 Bu (CXe P w) P w K mg base N qual scope f cd A outer s H E
theorem AG:Dh (cxW P w K mg base N qual scope f cd A outer s H E) (λ_=>dnX K H E):=by
 intro pins σ Hc b ev s' I ⟨e,C,H',c,F,g,ω,G,a,d,r,q⟩;cases a;refine dZ pins σ Hc b ev s' I ⟨e,C,H',c,F,q H' ?_ r⟩;exact(Un.mono' I.base).trans (Un.mono' F.un)
end
section
variable {X:Cx}{a b c e:Expr}{ga gb:GE}{gt:GT}{g1 g2:GS}
def Au:GS:=λD ω G=>D.nx ω G
def Ae(g1 g2:GS):GS:=λD ω G=>g1 {D with nx:=g2 D} ω G
theorem eH:GS.M Au:=λ_ _ _ _ h _ _ _ q=>h _ _ q
theorem eI(d:g1.M)(c:g2.M):GS.M (Ae g1 g2):=λω G D e h1 h2 b a q=>d _ _ {D with nx:=g2 D} _ (λ_ _ z=>c _ _ _ _ h1 h2 b a z) h2 b a q
theorem eJ:Et X P [] Au:=λB b=>MG bx (by rintro D σ H ⟨ω,G,a,r,mb,q⟩;exact q σ H mb a r)
theorem eK{st:Stmt}(d:g1.M)(f:g2.M)(h1:PSw X P st g1)(h2:Et X P sts g2):Et X P (st::sts) (Ae g1 g2):=λB b=>
 MG (bz (h1 B b) (h2 B b)) (by rintro D σ H ⟨ω,G,c,r,mb,q⟩;exact⟨ω,G,c,r,mb,d _ _ {dnD X.K B D with nx:=g2 (dnD X.K B D)} _ (λω' e z σ' H' m a r'=>⟨ω',e,a,r',m,z⟩) (λ_ _ z=>z) (λ_ _ z=>z) (λ_ _ z=>z) q⟩)
theorem eL{st:Stmt}(h1:PSw X P st g1):Et X P [st] g1:=λB a=>MG (bA (h1 B a)) λD σ H z=>z
def Ak(i:Nat)(ga:GE):GS:=λD ω G=>ga ω G λw G1=>D.nx (ω.set i (some w)) G1
theorem MI(a:ga.M):GS.M (Ak i ga):=λω G D b h _ _ _ q=>a _ _ _ _ (λ_ _ z=>h _ _ z) q
theorem Ri(f:X.N.Nodup)(hi:X.N[i]?=some x)(g:Loc X.env.scope x)(h:ga.M)(b:PEw X e ga)(c:swapsWith e (some (.Name x pos')) pos.line X.env=pure false)(d:X.fn x=true\/X.env.scope.names.lookup x=some .local):
  PSw X P (.Assign [.Name x pos'] e pos) (Ak i ga):=λB j=>
 C1 (bJ f hi g b c d) (by rintro D σ H ⟨ω,G,a,r,mb,q⟩;exact⟨ω,G,a,r,h _ _ _ _ (λw G1 z v H1 m t r1=>z _ H1 (mb.trans m) ((a.mono m).set i t) r1) q⟩)
def Aj(ga:GE):GS:=λD ω G=>ga ω G D.rt
theorem eM(a:ga.M):GS.M (Aj ga):=λω G D b _ h _ _ q=>a _ _ _ _ (λ_ _ z=>h _ _ z) q
theorem eN(c:ga.M)(b:PEw X e ga):PSw X P (.Return (some e) pos) (Aj ga):=λB d=>C1 (bE b) (by rintro D σ H ⟨ω,G,a,r,mb,q⟩;exact⟨ω,G,a,r,c _ _ _ _ (λw G1 z v H1 m t r1=>z v H1 (mb.trans m) t r1) q⟩)
def AN(ga:GE):GS:=λD ω G=>ga ω G λ_ G1=>D.nx ω G1
theorem eO(a:ga.M):GS.M (AN ga):=λω G D b h _ _ _ q=>a _ _ _ _ (λ_ _ z=>h _ _ z) q
theorem eP(d:ga.M)(b:PEw X e ga)(c:swapsWith e none pos.line X.env=pure false):PSw X P (.Expr e pos) (AN ga):=λB f=>
 C1 (bC b c) (by rintro D σ H ⟨ω,G,a,r,mb,q⟩;exact⟨ω,G,a,r,d _ _ _ _ (λw G1 z v H1 m t r1=>z _ H1 (mb.trans m) (a.mono m) r1) q⟩)
def gIf(gt:GT)(g1 g2:GS):GS:=λD ω G=>gt ω G λb G1=>if b=true then g1 D ω G1 else g2 D ω G1
theorem eQ(e:gt.M)(f:g1.M)(d:g2.M):GS.M (gIf gt g1 g2):=λω G D g h1 h2 c a q=>e _ _ _ _ (λb G1 z=>by
 cases b with
 | true=>exact f _ _ _ _ h1 h2 c a z
 | false=>exact d _ _ _ _ h1 h2 c a z) q
theorem eR(e:gt.M)(g:g1.M)(f:g2.M)(hc:PTw X c gt)(h1:Et X P sts g1)(h2:Et X P sts' g2):PSw X P (.If c sts sts' pos) (gIf gt g1 g2):=λB d=>
 C1 (bG hc (h1 B d) (h2 B d)) λD σ H⟨ω,G,a,r,mb,q⟩=>⟨ω,G,a,r,e _ _ _ _ (λb G1 z H1 m r1=>by
  cases b with
  | true=>exact⟨ω,G1,a.mono m,r1,mb.trans m,z⟩
  | false=>exact⟨ω,G1,a.mono m,r1,mb.trans m,z⟩) q⟩
def gTB(g:GE):GT:=λω G Q=>g ω G λw G1=>match w with | .bl b=>Q b G1 | _=>False
theorem Rj(m:ga.M):GT.M (gTB ga):=λω G Q a h q=>m _ _ _ _ (λw G1 z=>by
 cases w <;> first | exact h _ _ z | exact z) q
theorem GP{b:Bool}(t:Tr K H v (.bl b)):v=.bl b:=by cases t;rfl
theorem Rk{b:Int}(t:Tr K H v (.int b)):v=.int b:=by cases t;rfl
theorem Rl{b:Str}(t:Tr K H v (.str b)):v=.str b:=by cases t;rfl
theorem GQ{a:Addr}(t:Tr K H v (.ref a)):v=.ref a:=by cases t;rfl
theorem Rm(m:ga.M){σ:St}(h:upT K (gTB ga) σ H f):up K ga σ H (λx H1=>∃ k,x=.bl k/\f k H1):=by
 obtain⟨ω,G,a,r,q⟩:=h;refine⟨ω,G,a,r,m _ _ _ _ (λw G1 z v H1 c t r1=>?_) q⟩;cases w with
 | bl b=>exact⟨b,GP t,z H1 c r1⟩
 | _=>exact z.elim
theorem eS(g:OpR X (compareOp op) d)(mr:r.M)(c:ga.M)(mb:gb.M)(i:∀(x y:W)(v u:V)(G:Hw)(H:Hp)(Q:VK),Tr X.K H v x->Tr X.K H u y->RelH X.K H G->r x y G (dn X.K H Q)->d v u H Q)(f:PEw X a ga)(e:PEw X b gb)(h:behindInMarks op b=false):PTw X (.Compare a [op] [b] pos) (gTB (Ad r ga gb)):=
 JI (cr g f e h) λσ H Q z=>JJ mr c mb i σ H _ (Rm (DD mr c mb) z)
def B5(w:W)(G:Hw):Option Bool:=match w with
 | .non=>some false
 | .bl b=>some b
 | .int i=>some (i != 0)
 | .tup xs|.rol xs=>some (!xs.isEmpty)
 | .ref a=>match G a with | some (.lst xs)=>some (!xs.isEmpty)| _=>none
 | .str _=>none
def AH(g:GE):GT:=λω G Q=>g ω G λw G1=>match B5 w G1 with | some b=>Q b G1 | none=>False
theorem eT(m:ga.M):GT.M (AH ga):=λω G Q a h q=>m _ _ _ _ (λw G1 z=>by
 cases e:B5 w G1 with
 | none=>rw[e]at z;exact z
 | some b=>rw[e]at z;exact h _ _ z) q
theorem MJ:∀{vs:List V}{a:List W},TrL K H vs a->vs.isEmpty=a.isEmpty
 | _,_,.nil|_,_,.cons _ _=>rfl
theorem eU{b:Bool}(t:Tr K H v w)(r:RelH K H G)(e:B5 w G=some b):Mp K v H b:=by
 cases t with
 | non|bl c|int i=>cases e;rfl
 | str x=>cases e
 | tup h l=>cases e;exact .inr (.inl ⟨_,h,by rw[MJ l]⟩)
 | rol h l=>cases e;exact .inl ⟨_,h.sq,by rw[MJ l]⟩
 | ref a =>
  unfold B5 at e;dsimp only at e;cases z:G a with
  | none=>rw[z]at e;cases e
  | some o =>
   rw[z]at e;cases o with
   | exc C|ins C fs|dct d=>cases e
   | lst xs =>
    cases e;obtain⟨vs,f,l⟩:=r a _ z;exact .inl ⟨vs,SqL.of f,by rw[MJ l]⟩
theorem eV(h:ga.M)(d:PEw X e ga)(g:∀ a,isTrue e X.env a=(do let v <- a;standAt e.pos;holding [v] (truthy v)):=by intro _;rfl):PTw X e (AH ga):=
 JI (cz d g) λσ H Q⟨ω,G,f,r,q⟩=>⟨ω,G,f,r,h _ _ _ _ (λw G1 z v H1 m t r1=>by
  cases c:B5 w G1 with
  | none=>rw[c]at z;exact z.elim
  | some b=>rw[c]at z;exact⟨b,eU t r1 c,z H1 m r1⟩) q⟩
def gNt(g:GT):GT:=λω G Q=>g ω G λb G1=>Q (!b) G1
theorem eW(m:gt.M):GT.M (gNt gt):=λω G Q a h q=>m _ _ _ _ (λw G1 z=>h _ _ z) q
theorem eX(b:PTw X a gt):PTw X (.UnaryOp .Not a pos) (gNt gt):=JI (bj b) λσ H Q z=>z
abbrev PWw(X:Cx)(e:Expr)(g:GT):Prop:=PW X e (upT X.K g)
theorem JL(h:PW X e t)(i:∀ σ H Q,t' σ H Q->t σ H Q):PW X e t':=λa pins s σ H Q I q=>h a pins s σ H Q I (i σ H Q q)
def A7(g1 g2:GT):GT:=λω G Q=>g1 ω G λb G1=>if b=true then g2 ω G1 Q else Q false G1
def gOr(g1 g2:GT):GT:=λω G Q=>g1 ω G λb G1=>if b=true then Q true G1 else g2 ω G1 Q
theorem eY(c:gt.M)(a:gu.M):GT.M (A7 gt gu):=λω G Q d h q=>c _ _ _ _ (λb G1 z=>by
 cases b with
 | true=>exact a _ _ _ _ h z
 | false=>exact h _ _ z) q
theorem eZ(c:gt.M)(a:gu.M):GT.M (gOr gt gu):=λω G Q d h q=>c _ _ _ _ (λb G1 z=>by
 cases b with
 | true=>exact h _ _ z
 | false=>exact a _ _ _ _ h z) q
theorem e9(b:PTw X a gt):PWw X (.BoolOp .And [a] pos) gt:=JL (bf b) λσ H Q z=>z
theorem fe(b:PTw X a gt):PWw X (.BoolOp .Or [a] pos) gt:=JL (bg b) λσ H Q z=>z
theorem ff{An:List Expr}(g:gt.M)(f:gu.M)(e:PTw X a gt)(d:PWw X (.BoolOp .And (b::An) pos) gu):PWw X (.BoolOp .And (a::b::An) pos) (A7 gt gu):=
 JL (bh e d) λσ H Q⟨ω,G,c,r,q⟩=>⟨ω,G,c,r,g _ _ _ _ (λb G1 z H1 m r1=>by
  cases b with
  | true=>exact⟨ω,G1,c.mono m,r1,f _ _ _ _ (λ_ _ z=>Ra m z) z⟩
  | false=>exact z H1 m r1) q⟩
theorem fg{An:List Expr}(g:gt.M)(f:gu.M)(e:PTw X a gt)(d:PWw X (.BoolOp .Or (b::An) pos) gu):PWw X (.BoolOp .Or (a::b::An) pos) (gOr gt gu):=
 JL (bi e d) λσ H Q⟨ω,G,c,r,q⟩=>⟨ω,G,c,r,g _ _ _ _ (λb G1 z H1 m r1=>by
  cases b with
  | true=>exact z H1 m r1
  | false=>exact⟨ω,G1,c.mono m,r1,f _ _ _ _ (λ_ _ z=>Ra m z) z⟩) q⟩
theorem fh(h:PWw X (.BoolOp op vs pos) gt):PTw X (.BoolOp op vs pos) gt:=PW.pt h
def Cc(ga gb:GE):GE:=λω G Q=>ga ω G λx G1=>match x with | .bl c=>if c=true then gb ω G1 Q else Q (.bl false) G1 | _=>False
def Di(ga gb:GE):GE:=λω G Q=>ga ω G λx G1=>match x with | .bl c=>if c=true then Q (.bl true) G1 else gb ω G1 Q | _=>False
def BY(gt:GT)(ga gb:GE):GE:=λω G Q=>gt ω G λc G1=>if c=true then ga ω G1 Q else gb ω G1 Q
theorem fj(a:ga.M)(mb:gb.M):GE.M (Cc ga gb):=λω G Q b h q=>a _ _ _ _ (λx G1 z=>by
 cases x with
 | bl c =>
  cases c with
  | true=>exact mb _ _ _ _ h z
  | false=>exact h _ _ z
 | _=>exact z) q
theorem fk(a:ga.M)(mb:gb.M):GE.M (Di ga gb):=λω G Q b h q=>a _ _ _ _ (λx G1 z=>by
 cases x with
 | bl c =>
  cases c with
  | true=>exact h _ _ z
  | false=>exact mb _ _ _ _ h z
 | _=>exact z) q
theorem fq(a:gt.M)(b:ga.M)(mb:gb.M):GE.M (BY gt ga gb):=λω G Q d h q=>a _ _ _ _ (λc G1 z=>by
 cases c with
 | true=>exact b _ _ _ _ h z
 | false=>exact mb _ _ _ _ h z) q
theorem fu(h:PEw X a ga):PEw X (.BoolOp op [a] pos) ga:=bo h
theorem fv{An:List Expr}(g:ga.M)(mb:gb.M)(f:PEw X a ga)(e:PEw X (.BoolOp .And (b::An) pos) gb):PEw X (.BoolOp .And (a::b::An) pos) (Cc ga gb):=
 Be (bp f e) λσ H Q⟨ω,G,d,r,q⟩=>⟨ω,G,d,r,g _ _ _ _ (λx G1 z v H1 m t r1=>by
  cases x with
  | bl c =>
   refine⟨c,GP t,?_⟩;cases c with
   | true=>exact⟨ω,G1,d.mono m,r1,mb _ _ _ _ (λ_ _ z=>Cj m z) z⟩
   | false=>exact z _ H1 m (.bl false) r1
  | _=>exact z.elim) q⟩
theorem fw{An:List Expr}(g:ga.M)(mb:gb.M)(f:PEw X a ga)(e:PEw X (.BoolOp .Or (b::An) pos) gb):PEw X (.BoolOp .Or (a::b::An) pos) (Di ga gb):=
 Be (bq f e) λσ H Q⟨ω,G,d,r,q⟩=>⟨ω,G,d,r,g _ _ _ _ (λx G1 z v H1 m t r1=>by
  cases x with
  | bl c =>
   refine⟨c,GP t,?_⟩;cases c with
   | true=>exact z _ H1 m (.bl true) r1
   | false=>exact⟨ω,G1,d.mono m,r1,mb _ _ _ _ (λ_ _ z=>Cj m z) z⟩
  | _=>exact z.elim) q⟩
theorem fx(g:gt.M)(h:ga.M)(mb:gb.M)(hc:PTw X c gt)(f:PEw X a ga)(e:PEw X b gb):PEw X (.IfExp c a b pos) (BY gt ga gb):=
 Be (br hc f e) λσ H Q⟨ω,G,d,r,q⟩=>⟨ω,G,d,r,g _ _ _ _ (λc G1 z H1 m r1=>by
  cases c with
  | true=>exact⟨ω,G1,d.mono m,r1,h _ _ _ _ (λ_ _ z=>Cj m z) z⟩
  | false=>exact⟨ω,G1,d.mono m,r1,mb _ _ _ _ (λ_ _ z=>Cj m z) z⟩) q⟩
section
variable {gs:GA}
def Ah(gs:GA):GE:=λω G Q=>gs ω G λws G1=>ws.length<=sizeLine/\Q (.tup ws) G1
def Aq(gs:GA):GE:=λω G Q=>gs ω G λws G1=>ws.length<=sizeLine/\∀ p,G1 p=none->Q (.ref p) (put G1 p (.lst ws))
theorem fy(m:gs.M):GE.M (Ah gs):=λω G Q b h q=>m _ _ _ _ (λa G1 z=>⟨z.1,h _ _ z.2⟩) q
theorem fz(m:gs.M):GE.M (Aq gs):=λω G Q c h q=>m _ _ _ _ (λb G1 z=>⟨z.1,λp a=>h _ _ (z.2 p a)⟩) q
theorem fA{x1}(m:gs.M)(h:PAw X es gs):PEw X (.Tuple es x1 pos) (Ah gs):=
 Be (cW h) λσ H Q⟨ω,G,b,r,q⟩=>⟨ω,G,b,r,m _ _ _ _ (λd G1 z vs H1 c t r1=>⟨by rw[t.length];exact z.1,λp a=>
  z.2 _ _ (c.trans (Mono.new a _)) (.tup (SqT.of B4) (t.mono (Mono.new a _))) (r1.mono0 a)⟩) q⟩
theorem fB(m:gs.M)(h:PAw X es gs):PEw X (.List es pos) (Aq gs):=
 Be (cX h) λσ H Q⟨ω,G,b,r,q⟩=>⟨ω,G,b,r,m _ _ _ _ (λd G1 z vs H1 c t r1=>⟨by rw[t.length];exact z.1,λp a=>
  z.2 p (r1.no a) _ _ (c.trans (Mono.new a _)) (.ref p) (r1.new a t)⟩) q⟩
end
end
def DE(z:Str):List V:=z.cps.toList.map λc=>V.str ⟨#[c]⟩
def Itk(xs:List V):It:=⟨λi _=>i < xs.length,λi H x H'=>H'=H/\xs[i]?=some x,λi _=>xs.length<=i⟩
theorem fC(J:∀ it u,letOwnedTupleGo tg it u=pure ())(it:Addr)(z:Str)(t:Tok):Es P w K tg (Itk (DE z)) [it] it (λi h=>h.IsStrIter it "str_ascii_iterator" z t i) where
 mem:=by simp
 obj:=λi h st b a=>by
  have e:b=it:=by simpa using a
  subst e;obtain⟨o,e,c,d⟩:=st;exact⟨o,e,λv z=>by rw[d]at z;cases z⟩
 keep:=λi h h' st k=>by
  obtain⟨o,e,c,d⟩:=st;exact⟨o,k it (by simp) o e,c,d⟩
 item:=by
  intro X y hw x hc i pins s σ H E I f st j;subst y hw x;obtain⟨n,l,G,q,g,m⟩:=f it (by simp);have W:=Walks.strAscii (prog:=X.prog) (w:=X.w) (I.ok.hd hc) it z t;have hi:i < z.cps.size:=by simpa[DE,Itk]using j
  refine W.item i s _ _ hi st λv h' tk D p B=>?_;obtain⟨c,t',r,rfl⟩:=D;have F:Inv X pins σ H {s with heap:=h',toks:=tk}:=I.turned (λb o a e=>B b o (by simpa using a) e) n l q g m;exact⟨_,rfl,wpAny_of_eq (J _ _) ⟨.str ⟨#[c]⟩,H,F,⟨_,rfl⟩,⟨rfl,by simp[DE,r]⟩,p,λb a=>(f b a).1⟩⟩
 done:=by
  intro X y hw x hc i pins s σ H E I f st j;obtain⟨n,l,G,q,g,m⟩:=f it (by simp);have hi:z.cps.size<=i:=by simpa[DE,Itk]using j
  exact wpAny_pyNext_ascii_end (I.ok.hd hc) st (by simp[hi]) λh' eb=>⟨rfl,I.turned (λb o a e=>eb b o a e) n l q g m⟩
 self:=λA i s Q E st h=>wpAny_pyIter_striter_ascii st h
theorem fD(J:∀ it u,letOwnedTupleGo tg it u=pure ())(it:Addr)(z:Str)(t:Tok):Es P w K tg (Itk (DE z)) [it] it (λi h=>h.IsStrIter it "str_iterator" z t i) where
 mem:=by simp
 obj:=λi h st b a=>by
  have e:b=it:=by simpa using a
  subst e;obtain⟨o,e,c,d⟩:=st;exact⟨o,e,λv z=>by rw[d]at z;cases z⟩
 keep:=λi h h' st k=>by
  obtain⟨o,e,c,d⟩:=st;exact⟨o,k it (by simp) o e,c,d⟩
 item:=by
  intro X y hw x hc i pins s σ H E I f st j;subst y hw x;obtain⟨n,l,G,q,g,m⟩:=f it (by simp);have W:=Walks.strWide (prog:=X.prog) (w:=X.w) (I.ok.hd hc) it z t;have hi:i < z.cps.size:=by simpa[DE,Itk]using j
  refine W.item i s _ _ hi st λv h' tk D p B=>?_;obtain⟨c,t',r,rfl⟩:=D;have F:Inv X pins σ H {s with heap:=h',toks:=tk}:=I.turned (λb o a e=>B b o (by simpa using a) e) n l q g m;exact⟨_,rfl,wpAny_of_eq (J _ _) ⟨.str ⟨#[c]⟩,H,F,⟨_,rfl⟩,⟨rfl,by simp[DE,r]⟩,p,λb a=>(f b a).1⟩⟩
 done:=by
  intro X y hw x hc i pins s σ H E I f st j;obtain⟨n,l,G,q,g,m⟩:=f it (by simp);have hi:z.cps.size<=i:=by simpa[DE,Itk]using j
  exact wpAny_pyNext_wide_end (I.ok.hd hc) st (by simp[hi]) λh' eb=>⟨rfl,I.turned (λb o a e=>eb b o a e) n l q g m⟩
 self:=λA i s Q E st h=>wpAny_pyIter_striter_wide st h
def fE(K:PySem.W.Frag)(tl:TE):TI:=λσ H R=>tl σ H λx H1=>(∃ a,x=.ref a/\(∃ xs,SqL K H1 a xs)/\R (Itl K a) H1)\/(∃ a,x=.ref a/\(∃ xs,SqT K H1 a xs)/\R (Itt K a) H1)\/(∃ z,x=.str z/\R (Itk (DE z)) H1)
theorem fF(n:∀ it u,letOwnedTupleGo tg it u=pure ())(hl:PE X l tl):PI X tg l (fE X.K tl):=by
 intro pins s σ H R I h;refine thn (hl pins s σ H _ I h) λv c j=>?_;obtain⟨x,H1,d,r1,q1⟩:=j;rcases q1 with⟨a,e,⟨xs,g⟩,q⟩|⟨a,e,⟨xs,g⟩,q⟩|⟨z,e,q⟩
 ·subst e;cases r1;obtain⟨i,r,p,w⟩:=d.list g;refine wpAny_pyIter_list p.isList (⟨c.heap.objs.size,[c.heap.objs.size],_,_,H1,rfl,d.kept λb o e=>Qm _ e,Qz a _,⟨_,Qo _ rfl,rfl,rfl⟩,λb f=>?_,q⟩);have e:b=c.heap.objs.size:=by simpa using f
  subst e;exact d.fpOk (Yr _) (d.hok.fresh (Yr _))
 ·subst e;cases r1;obtain⟨i,r,p,w⟩:=d.tuple g;refine wpAny_pyIter_tuple (p) (⟨c.heap.objs.size,[c.heap.objs.size],_,_,H1,rfl,d.kept λb o e=>Qm _ e,QA a _,⟨_,Qo _ rfl,rfl,rfl⟩,λb f=>?_,q⟩);have e:b=c.heap.objs.size:=by simpa using f
  subst e;exact d.fpOk (Yr _) (d.hok.fresh (Yr _))
 ·subst e;obtain⟨t,rfl⟩:=r1
  have m:∀ b∈[c.heap.objs.size],DB X pins H1 b:=λb f=>by
   have e:b=c.heap.objs.size:=by simpa using f
   subst e;exact d.fpOk (Yr _) (d.hok.fresh (Yr _))
  cases k:z.cps.all (· < 128)
  ·exact wpAny_pyIter_wide k ⟨c.heap.objs.size,[c.heap.objs.size],_,_,H1,rfl,d.kept λb o e=>Qm _ e,fD n _ z t,⟨_,Qo _ rfl,rfl,rfl⟩,m,q⟩
  ·exact wpAny_pyIter_ascii k ⟨c.heap.objs.size,[c.heap.objs.size],_,_,H1,rfl,d.kept λb o e=>Qm _ e,fC n _ z t,⟨_,Qo _ rfl,rfl,rfl⟩,m,q⟩
abbrev GI:=Sw->Hw->(List W->(Hw->Prop)->Hw->Prop)->Prop
def GI.M(g:GI):Prop:=∀ ω G(R R':List W->(Hw->Prop)->Hw->Prop),(∀ ws gd G',R ws gd G'->R' ws gd G')->g ω G R->g ω G R'
def FR(z:Str):List W:=z.cps.toList.map λc=>W.str ⟨#[c]⟩
theorem fG:TrL K H (DE z) (FR z):=by
 unfold DE FR;generalize z.cps.toList=l;induction l with
 | nil=>exact .nil
 | cons c l a=>exact .cons (.str _) a
def yes:Hw->Prop:=λ_=>True
def holds(a:Addr)(ws:List W):Hw->Prop:=λG=>G a=some (.lst ws)
def Bl(ga:GE):GI:=λω G R=>ga ω G λw G1=>match w with
 | .tup ws|.rol ws=>R ws yes G1
 | .str z=>R (FR z) yes G1
 | .ref a=>match G1 a with | some (.lst ws)=>R ws (holds a ws) G1 | _=>False
 | _=>False
theorem fH(m:ga.M):GI.M (Bl ga):=λω G R d h q=>m _ _ _ _ (λw G1 z=>by
 cases w with
 | tup b|rol b|str x=>exact h _ _ _ z
 | ref a =>
  dsimp only at z ⊢;cases e:G1 a with
  | none=>rw[e]at z;exact z
  | some o =>
   rw[e]at z;cases o with
   | lst b=>exact h _ _ _ z
   | exc C|ins C fs|dct c=>exact z
 | _=>exact z) q
structure FT(K:PySem.W.Frag)(H1:Hp)(J:It)(ws:List W)(gd:Hw->Prop):Prop where
 go:∀(i:Nat)(H:Hp)(G:Hw),Mono K H1 H->RelH K H G->gd G->i < ws.length->J.go i H
 yld:∀(i:Nat)(H:Hp)(G:Hw)(x:V)(H':Hp),Mono K H1 H->RelH K H G->gd G->J.yld i H x H'->i < ws.length->Mono K H H'/\RelH K H' G/\∃ w,ws[i]?=some w/\Tr K H' x w
 stop:∀(H:Hp)(G:Hw),Mono K H1 H->RelH K H G->gd G->J.stop ws.length H
theorem JM{a:List W}{i:Nat}(r:RelH K H G)(e:H'=H)(h:∃ w,a[i]?=some w/\Tr K H x w):Mono K H H'/\RelH K H' G/\∃ w,a[i]?=some w/\Tr K H' x w:=by
 subst e;exact⟨.refl,r,h⟩
theorem JN(h:∀ H G,Mono K H1 H->RelH K H G->gd G->∃ vs,SqL K H a vs/\TrL K H vs b):FT K H1 (Itl K a) b gd where
 go:=λi H G m r g hi=>by
  obtain⟨vs,q,t⟩:=h H G m r g;have hl:=t.length;exact⟨vs,vs[i]'(by lia),q,by simp⟩
 yld:=λi H G x H' m r g y hi=>by
  obtain⟨vs,q,t⟩:=h H G m r g;obtain⟨w,e,c⟩:=t.get' (y.2 vs q);exact JM r y.1 ⟨w,e,c⟩
 stop:=λH G m r g=>by
  obtain⟨vs,q,t⟩:=h H G m r g;exact⟨vs,q,Nat.le_of_eq t.length⟩
theorem Rn(q:SqT K H1 a vs)(t:TrL K H1 vs b):FT K H1 (Itt K a) b gd where
 go:=λi H G m r g hi=>by
  have hl:=t.length;exact⟨vs,vs[i]'(by lia),m.tup _ _ q,by simp⟩
 yld:=λi H G x H' m r g y hi=>by
  obtain⟨w,e,c⟩:=(t.mono m).get' (y.2 vs (m.tup _ _ q));exact JM r y.1 ⟨w,e,c⟩
 stop:=λH G m r g=>⟨vs,m.tup _ _ q,Nat.le_of_eq t.length⟩
theorem fI(t:TrL K H1 vs a):FT K H1 (Itk vs) a gd where
 go:=λi H G m r g hi=>by show i < vs.length;rw[t.length];exact hi
 yld:=λi H G x H' m r g y hi=>by
  obtain⟨w,e,b⟩:=(t.mono m).get' y.2;exact JM r y.1 ⟨w,e,b⟩
 stop:=λH G m r g=>by exact Nat.le_of_eq t.length
def PIw(X:Cx)(tg l:Expr)(gi:GI):Prop:=∃ wi:TI,PI X tg l wi/\∀(σ:St)(H:Hp)(ω:Sw)(G:Hw)(R:List W->(Hw->Prop)->Hw->Prop)(R0:It->Hp->Prop),TrSt X.K H σ ω->RelH X.K H G->gi ω G R->
 (∀ ws gd G1 H1 J,R ws gd G1->Mono X.K H H1->RelH X.K H1 G1->gd G1->FT X.K H1 J ws gd->R0 J H1)->wi σ H R0
theorem fJ(p:∀ it u,letOwnedTupleGo tg it u=pure ())(n:ga.M)(hl:PEw X l ga):PIw X tg l (Bl ga):=by
 refine⟨_,fF p hl,λσ H ω G R s j r q k=>⟨ω,G,j,r,n _ _ _ _ (λw G1 z v H1 m t r1=>?_) q⟩⟩;cases t with
 | tup h l=>exact .inr (.inl ⟨_,rfl,⟨_,h⟩,k _ _ _ H1 _ z m r1 trivial (Rn h l)⟩)
 | rol h l=>exact .inl ⟨_,rfl,⟨_,h.sq⟩,k _ _ _ H1 _ z m r1 trivial (JN λH2 G2 c _ _=>⟨_,(c.rol _ _ h).sq,l.mono c⟩)⟩
 | str x=>exact .inr (.inr ⟨x,rfl,k _ _ _ H1 _ z m r1 trivial (fI fG)⟩)
 | ref a =>
  dsimp only at z;cases e:G1 a with
  | none=>rw[e]at z;exact z.elim
  | some o =>
   rw[e]at z;cases o with
   | exc C|ins C fs|dct d=>exact z.elim
   | lst y =>
    obtain⟨vs,g,t1⟩:=r1 a _ e;exact .inl ⟨a,rfl,⟨vs,SqL.of g⟩,k _ _ _ H1 _ z m r1 e (JN λH2 G2 c f g2=>let⟨vs,e2,t2⟩:=f a _ g2;⟨vs,SqL.of e2,t2⟩)⟩
 | non|bl b|int i=>exact z.elim
structure TgW(X:Cx)(tg:Expr)(gg:GG):Prop where
 ex:∃ g:TG,PG X tg g/\∀(x:V)(w:W)(σ:St)(ω:Sw)(H:Hp)(G:Hw)(Q:St->Hp->Prop),Tr X.K H x w->TrSt X.K H σ ω->RelH X.K H G->gg w ω G (dnS X.K H Q)->g x σ H Q
 mono:gg.M
def gNm(i:Nat):GG:=λw ω G Q=>Q (ω.set i (some w)) G
theorem Ro(c:X.N.Nodup)(hi:X.N[i]?=some x)(a:Loc X.env.scope x)(d:X.fn x=true\/X.env.scope.names.lookup x=some .local):TgW X (.Name x p) (gNm i) where
 ex:=⟨_,Dg c hi a d,λx w σ ω H G Q t b r q=>q _ H .refl (b.set i t) r⟩
 mono:=λ_ _ _ _ _ h q=>h _ _ q
def Bb(i j:Nat):GG:=λw ω G Q=>match w with | .tup [a,b]=>Q ((ω.set i (some a)).set j (some b)) G | _=>False
theorem Rp(hc:X.calm=true)(d:X.N.Nodup)(hi:X.N[i]?=some x)(o:Loc X.env.scope x)(g:X.fn x=true\/X.env.scope.names.lookup x=some .local)(n:X.N[j]?=some y)(m:Loc X.env.scope y)(c:X.fn y=true\/X.env.scope.names.lookup y=some .local):TgW X (.Tuple [.Name x p,.Name y e] k pos) (Bb i j) where
 ex:=⟨_,Jz hc (Er (Dg d hi o g) (Er (Dg d n m c) Jy)),λv w σ ω H G Q t f r q=>by
  unfold Bb at q;split at q
  ·rename_i a b;cases t with
   | tup h l =>
    cases l with
    | cons ta l =>
     cases l with
     | cons tb l =>
      cases l;exact⟨_,_,rfl,h,rfl,_,_,rfl,_,_,rfl,rfl,q _ H .refl ((f.set i ta).set j tb) r⟩
  ·exact q.elim⟩
 mono:=λw ω G Q s h q=>by
  unfold Bb at q ⊢;split
  ·exact h _ _ q
  ·rename_i z;split at q
   ·exact(z _ _ rfl).elim
   ·exact q
def BD(gd:Hw->Prop)(gg:GG)(gb:GS)(D:Ew):List W->Sw->Hw->Prop
 | [],ω,G=>gd G/\D.nx ω G
 | x::xs,ω,G=>gd G/\gg x ω G λω1 G1=>gb {nx:=BD gd gg gb D xs,rt:=D.rt,bk:=D.nx,ct:=BD gd gg gb D xs} ω1 G1
def Bz(gi:GI)(gg:GG)(gb:GS):GS:=λD ω G=>gi ω G λws gd G1=>BD gd gg gb D ws ω G1
theorem MK(mg:c.M)(mb:gb.M)(h1:∀ a b,D.nx a b->d.nx a b)(h2:∀ a b,D.rt a b->d.rt a b):∀(e:List W)(ω:Sw)(G:Hw),BD gd c gb D e ω G->BD gd c gb d e ω G
 | [],ω,G,q=>⟨q.1,h1 _ _ q.2⟩
 | x::xs,ω,G,q=>⟨q.1,mg _ _ _ _ _ (λω1 G1 z=>mb _ _ {nx:=BD gd c gb D xs,rt:=D.rt,bk:=D.nx,ct:=BD gd c gb D xs} _ (λa b y=>MK mg mb h1 h2 xs a b y) h2 h1 (λa b y=>MK mg mb h1 h2 xs a b y) z) q.2⟩
theorem fK(b:gi.M)(mg:a.M)(mb:gb.M):GS.M (Bz gi a gb):=λω G D g h1 h2 f d q=>b _ _ _ _ (λc e G1 z=>MK mg mb h1 h2 c ω G1 z) q
theorem fL(q:BD gd b gb D a ω G):gd G:=by
 cases a with
 | nil|cons w a=>exact q.1
theorem fM(hp:PassesOwn (model X.prog X.w) X.A X.env X.xe)(hc:X.calm=true)(mi:gi.M)(mb:gb.M)(hi:PIw X tg iter gi)(U:TgW X tg p)(hb:Et X Rc body gb)(hs:∀ x,foldedSetIterable iter X.env x=pure x:=by intro _;rfl):PSw X P (.For tg iter body [] pos) (Bz gi p gb):=by
 intro B hB;obtain⟨wi,R,hi⟩:=hi;obtain⟨g,Q,F⟩:=U.ex;have mg:=U.mono;have S:PSs X body (λD σ H=>∃ t,upS X.K t gb D σ H):=(by rintro pins s σ H D I ⟨t,z⟩;exact hb t trivial pins s σ H D I z);refine C1 (bU hp hc R Q S hs) λD σ H L=>?_;obtain⟨ω,G,ts,r,u,q⟩:=L;refine hi σ H ω G _ _ ts r q λd Y G1 H1 J z Z r1 hgd v=>?_;have l:=u.trans Z;refine⟨λi m σ' H'=>m=d.length - i/\i<=d.length/\Mono X.K H1 H'/\∃ ω' h,TrSt X.K H' σ' ω'/\RelH X.K H' h/\BD Y p gb (dnD X.K B D) (d.drop i) ω' h,⟨d.length,by simp,YT _,.refl,ω,G1,ts.mono Z,r1,by simpa using z⟩,?_⟩;rintro i m σ' H' ⟨rfl,hle,f,ω',h,o,r',n⟩;have c:=fL n;by_cases j:i < d.length
 ·refine .inr ⟨v.go i H' h f r' c j,λσ2 H2=>Mono X.K H1 H2/\∃ ω2 G2,TrSt X.K H2 σ2 ω2/\RelH X.K H2 G2/\BD Y p gb (dnD X.K B D) (d.drop (i+1)) ω2 G2,
   (by rintro σ2 H2 ⟨y1,y2⟩;exact⟨d.length -(i+1),by lia,rfl,j,y1,y2⟩),λx H2 y=>?_⟩
  obtain⟨my,ry,w,ew,tw⟩:=v.yld i H' h x H2 f r' c y j;have f:=f.trans my
  have ed:d.drop i=w::d.drop (i+1):=by
   obtain⟨h',e'⟩:=YV.mp ew;rw[<- e'];exact List.drop_eq_getElem_cons h'
  rw[ed]at n;refine F x w σ' ω' _ h _ tw (o.mono my) ry (mg _ _ _ _ _ (λω1 E z1 σ1 H3 m3 N r3=>?_) n.2);exact⟨H1,ω1,E,N,r3,f.trans m3,mb _ _ _ _ (λa b y σ4 H4 T k O=>⟨T,a,b,k,O,y⟩) (λa b y=>Cj l y) (λa b y=>em l y) (λa b y σ4 H4 T k O=>⟨T,a,b,k,O,y⟩) z1⟩
 ·have e:i=d.length:=by lia
  subst e;rw[List.drop_length]at n;exact .inl ⟨v.stop H' h f r' c,n.2 σ' H' (l.trans f) o r'⟩
def BE(gd:Hw->Prop)(gg:GG)(gt:GT)(ge:GE)(R:List W->Hw->Prop):List W->Sw->Hw->List W->Prop
 | [],_,G,ys=>gd G/\R ys G
 | x::xs,ω,G,ys=>gd G/\ys.length < sizeLine/\gg x ω G λω1 G1=>gt ω1 G1 λb G2=>if b=true then ge ω1 G2 λy G3=>BE gd gg gt ge R xs ω1 G3 (ys++[y])else BE gd gg gt ge R xs ω1 G2 ys
def Bg(gi:GI)(n:Nat)(gg:GG)(gt:GT)(ge:GE):GE:=λω G Q=>gi ω G λws gd G1=>BE gd gg gt ge (λys G2=>∀ p,G2 p=none->Q (.ref p) (put G2 p (.lst ys))) ws (List.replicate n none) G1 []
theorem JO(mg:e.M)(c:gt.M)(d:ge.M)(h:∀ a b,R a b->f a b):∀(i:List W)(ω:Sw)(G:Hw)(ys:List W),BE gd e gt ge R i ω G ys->BE gd e gt ge f i ω G ys
 | [],ω,G,ys,q=>⟨q.1,h _ _ q.2⟩
 | x::xs,ω,G,ys,q=>⟨q.1,q.2.1,mg _ _ _ _ _ (λω1 G1 z=>c _ _ _ _ (λb G2 g=>by
   cases b with
   | true=>exact d _ _ _ _ (λy j k=>JO mg c d h xs ω1 j _ k) g
   | false=>exact JO mg c d h xs ω1 G2 _ g) z) q.2.2⟩
theorem fN(b:gi.M)(mg:a.M)(c:gt.M)(d:ge.M):GE.M (Bg gi n a gt ge):=λω G Q g h q=>
 b _ _ _ _ (λi f G1 z=>JO mg c d (λys G2 z p e=>h _ _ (z p e)) _ _ _ _ z) q
theorem Rq(q:BE gd b gt ge R a ω G ys):gd G:=by
 cases a with
 | nil|cons w a=>exact q.1
def Bh:GT:=λ_ G Q=>Q true G
theorem fO:GT.M Bh:=λ_ _ _ _ h q=>h _ _ q
abbrev PFw(X:Cx)(ifs:List Expr)(g:GT):Prop:=PF X ifs (upT X.K g)
theorem fP:PFw X [] Bh:=(by rintro pins s σ H Q I ⟨ω,G,a,r,q⟩;exact dV pins s σ H Q I (q H .refl r))
theorem fQ(h:PTw X c g):PFw X [c] g:=dW h
theorem fR{σ:St}(h:σ=List.replicate n none):TrSt K H σ (List.replicate n none):=by
 subst h;refine⟨by simp,λi w e=>?_⟩;rw[List.getElem?_replicate]at e;split at e <;> cases e
theorem fS{X:Cx}{Nc:List Str}(L:∀(σ:St)(H:Hp)(ω:Sw)(G:Hw)(R:List W->(Hw->Prop)->Hw->Prop)(Y:It->Hp->Prop),TrSt X.K H σ ω->RelH X.K H G->gi ω G R->
   (∀ a gd G1 H1 J,R a gd G1->Mono X.K H H1->RelH X.K H1 G1->gd G1->FT X.K H1 J a gd->Y J H1)->P σ H Y)(E:∀(x:V)(w:W)(σ:St)(ω:Sw)(H:Hp)(G:Hw)(Q:St->Hp->Prop),Tr X.K H x w->TrSt X.K H σ ω->RelH X.K H G->t w ω G (dnS X.K H Q)->g x σ H Q)(mg:t.M)(mt:gt.M)(me:ge.M)(σ:St)(H:Hp)(Q:VK)(h:up X.K (Bg gi Nc.length t gt ge) σ H Q):
  JG P (λ_=>List.replicate Nc.length none) g (upT X.K gt) (up X.K ge) σ H Q:=by
 obtain⟨ω,G,ts,r,q⟩:=h
 refine L σ H ω G _ _ ts r q λa gd G1 H1 J z m1 r1 hgd A=>⟨λi m σ' H' vs=>m=a.length - i/\i<=a.length/\Mono X.K H1 H'/\∃ ω' k ys,TrSt X.K H' σ' ω'/\RelH X.K H' k/\TrL X.K H' vs ys/\BE gd t gt ge (λys G2=>∀ p,G2 p=none->dn X.K H Q (.ref p) (put G2 p (.lst ys))) (a.drop i) ω' k ys,
  ⟨a.length,by simp,YT _,.refl,_,G1,[],fR rfl,r1,.nil,by simpa using z⟩,?_⟩
 rintro i m σ' H' vs ⟨rfl,hle,j,ω',k,ys,I,r',tv,n⟩;have c:=Rq n;by_cases f:i < a.length
 ·have hw:∃ w,a[i]?=some w:=⟨a[i],by simp[f]⟩;obtain⟨w0,o⟩:=hw
  have Z:a.drop i=w0::a.drop (i+1):=by
   obtain⟨h',e'⟩:=YV.mp o;rw[<- e'];exact List.drop_eq_getElem_cons h'
  rw[Z]at n
  refine .inr ⟨A.go i H' k j r' c f,by rw[tv.length];exact n.2.1,λσ2 H2 s=>Mono X.K H1 H2/\∃ ω2 G2 u,TrSt X.K H2 σ2 ω2/\RelH X.K H2 G2/\TrL X.K H2 s u/\BE gd t gt ge (λys G2=>∀ p,G2 p=none->dn X.K H Q (.ref p) (put G2 p (.lst ys))) (a.drop (i+1)) ω2 G2 u,
   (by rintro σ2 H2 s ⟨y1,y2⟩;exact⟨a.length -(i+1),by lia,rfl,f,y1,y2⟩),λx H2 y=>?_⟩
  obtain⟨N,ry,w,T,tw⟩:=A.yld i H' k x H2 j r' c y f;have j:=j.trans N;have tv:=tv.mono N;rw[o]at T;cases T;refine E x _ σ' ω' _ k _ tw (I.mono N) ry (mg _ _ _ _ _ (λω1 D z1 σ1 H3 v d r3=>?_) n.2.2);refine⟨ω1,D,d,r3,mt _ _ _ _ (λb O U H4 l S=>?_) z1⟩;cases b with
  | true=>exact⟨ω1,O,d.mono l,S,me _ _ _ _ (λy5 G5 z5 v5 H5 B t5 r5=>⟨((j.trans v).trans l).trans B,ω1,G5,_,(d.mono l).mono B,r5,(((tv.mono v).mono l).mono B).append (.cons t5 .nil),z5⟩) U⟩
  | false=>exact⟨(j.trans v).trans l,ω1,O,_,d.mono l,S,(tv.mono v).mono l,U⟩
 ·have e:i=a.length:=by lia
  subst e;rw[List.drop_length]at n;exact .inl ⟨A.stop H' k j r' c,λp F=>n.2 p (r'.no F) _ _ ((m1.trans j).trans (Mono.new F _)) (.ref p) (r'.new F tv)⟩
structure TgU(X:Cx)(Nc:List Str)(scope:Scope)(tg:Expr)(gg:GG):Prop where
 ex:∃ g:TG,(∀ C fp s H,PG (cxB X Nc scope [] C fp s H) tg g)/\∀(x:V)(w:W)(σ:St)(ω:Sw)(H:Hp)(G:Hw)(Q:St->Hp->Prop),Tr X.K H x w->TrSt X.K H σ ω->RelH X.K H G->gg w ω G (dnS X.K H Q)->g x σ H Q
 mono:gg.M
theorem C3(c:Nc.Nodup)(hi:Nc[i]?=some x)(a:scope.names.lookup x=some .local):TgU X Nc scope (.Name x p) (gNm i) where
 ex:=⟨De i,λC d s H=>Dg c hi (.inl (lookup_relabel_local a)) (.inr (lookup_relabel_local a)),λx w σ ω H G Q t b r q=>q _ H .refl (b.set i t) r⟩
 mono:=λ_ _ _ _ _ h q=>h _ _ q
theorem Rr:GG.M (Bb i j):=λw ω G Q a h q=>by
 unfold Bb at q ⊢;split
 ·exact h _ _ q
 ·rename_i z;split at q
  ·exact(z _ _ rfl).elim
  ·exact q
theorem ML(hc:X.calm=true)(d:Nc.Nodup)(hi:Nc[i]?=some x)(e:scope.names.lookup x=some .local)(m:Nc[j]?=some y)(c:scope.names.lookup y=some .local):
  TgU X Nc scope (.Tuple [.Name x p,.Name y f] k pos) (Bb i j) where
 ex:=⟨Cl X.K 2 (BT (De i) (BT (De j) Ch)),λC n s H=>Jz hc (Er (Dg d hi (.inl (lookup_relabel_local e)) (.inr (lookup_relabel_local e))) (Er (Dg d m (.inl (lookup_relabel_local c)) (.inr (lookup_relabel_local c))) Jy)),
  λv w σ ω H G Q t g r q=>by
   unfold Bb at q;split at q
   ·rename_i a b;cases t with
    | tup h l =>
     cases l with
     | cons ta l =>
      cases l with
      | cons tb l =>
       cases l;exact⟨_,_,rfl,h,rfl,_,_,rfl,_,_,rfl,rfl,q _ H .refl ((g.set i ta).set j tb) r⟩
   ·exact q.elim⟩
 mono:=Rr
theorem fT(hc:X.calm=true)(hi:PIw X tg iter gi)(B:Blk X Nc scope [] (λ_=>List.replicate Nc.length none))(e:TgU X Nc scope tg f)(h:gt.M)(l:∀ C c s H,PFw (cxB X Nc scope [] C c s H) ifs gt)(j:ge.M)(k:∀ C c s H,PEw (cxB X Nc scope [] C c s H) elt ge)(i:∀ x,foldedSetIterable iter X.env x=pure x):
  PEw X (.ListComp elt [⟨tg,iter,ifs,0⟩] scope pos) (Bg gi Nc.length f gt ge):=by
 obtain⟨m,a,hi⟩:=hi;obtain⟨g,d,b⟩:=e.ex;exact Be (Q7 hc a B d l k i) (fS hi b e.mono h j)
def AI(C:Int->Int->Prop)(f:Int->Int->Int):RW2:=λx y G Q=>match x,y with
 | .int i,.int j=>C i j/\Q (.int (f i j)) G
 | _,_=>False
theorem E1:RW2.M (AI C f):=λx y G Q a h q=>by
 cases x <;> cases y <;> first | exact q | exact⟨q.1,h _ _ q.2⟩
theorem JP(x y:W)(v u:V)(G:Hw)(H:Hp)(Q:VK)(a:Tr K H v x)(ty:Tr K H u y)(r:RelH K H G)(q:AI C f x y G (dn K H Q)):rI C (λi j=>.int (f i j)) v u H Q:=by
 cases a <;> first | exact q.elim |(cases ty <;> first | exact q.elim | exact⟨_,_,rfl,rfl,q.1,q.2 _ H .refl (.int _) r⟩)
def BS:RW2:=λx y G Q=>match x,y with
 | .int i,.int j=>Q (.int (i+j)) G
 | .str a,.str b=>a.length+b.length<=sizeLine/\Q (.str (a++b)) G
 | .ref a,.ref b=>(match G a,G b with
  | some (.lst xs),some (.lst ys)=>xs.length+ys.length<=sizeLine/\∀ p,G p=none->Q (.ref p) (put G p (.lst (xs++ys)))
  | _,_=>False)
 | _,_=>False
theorem fU:RW2.M BS:=λx y G Q g h q=>by
 cases x <;> cases y <;> first | exact q | exact h _ _ q | exact⟨q.1,h _ _ q.2⟩| skip
 rename_i a b;unfold BS at q ⊢;dsimp only at q ⊢;cases c:G a with
 | none=>rw[c]at q;exact q
 | some d =>
  cases eb:G b with
  | none=>rw[c,eb]at q;cases d <;> exact q
  | some e =>
   rw[c,eb]at q;cases d <;> cases e <;> first | exact q | exact⟨q.1,λp f=>h _ _ (q.2 p f)⟩
theorem fV:OpR X (binaryOp .Add) (λx y H Q=>(rI0 λi j=>.int (i+j)) x y H Q\/(∃ i j,x=.str i/\y=.str j/\i.length+j.length<=sizeLine/\Q (.str (i++j)) H)\/HU x y H Q):=OpR.or bZ (OpR.or cA dJ)
theorem fW(x y:W)(v u:V)(G:Hw)(H:Hp)(Q:VK)(k:Tr K H v x)(ty:Tr K H u y)(r:RelH K H G)(q:BS x y G (dn K H Q)):
  (rI0 λi j=>.int (i+j)) v u H Q\/(∃ i j,v=.str i/\u=.str j/\i.length+j.length<=sizeLine/\Q (.str (i++j)) H)\/HU v u H Q:=by
 cases k with
 | int i=>cases ty <;> first | exact q.elim | exact .inl ⟨_,_,rfl,rfl,q _ H .refl (.int _) r⟩
 | str i=>cases ty <;> first | exact q.elim | exact .inr (.inl ⟨_,_,rfl,rfl,q.1,q.2 _ H .refl (.str _) r⟩)
 | ref a =>
  cases ty <;> try exact q.elim
  rename_i b;unfold BS at q;dsimp only at q;cases c:G a with
  | none=>rw[c]at q;exact q.elim
  | some f =>
   cases eb:G b with
   | none=>rw[c,eb]at q;cases f <;> exact q.elim
   | some m =>
    rw[c,eb]at q;cases f <;> cases m <;> try exact q.elim
    obtain⟨vs,l,t1⟩:=r a _ c;obtain⟨g,h,e⟩:=r b _ eb;exact .inr (.inr ⟨a,b,vs,g,rfl,rfl,l,h,by rw[t1.length,e.length];exact q.1,λp d=>q.2 p (r.no d) _ _ (Mono.new d _) (.ref p) (r.new d (t1.append e))⟩)
 | _=>exact q.elim
def Bi(f:Int->Int->Bool):RW2:=λx y G Q=>match x,y with
 | .int i,.int j=>Q (.bl (f i j)) G
 | _,_=>False
theorem Rt:RW2.M (Bi f):=λx y G Q a h q=>by
 cases x <;> cases y <;> first | exact q | exact h _ _ q
theorem Ru(x y:W)(v u:V)(G:Hw)(H:Hp)(Q:VK)(a:Tr K H v x)(ty:Tr K H u y)(r:RelH K H G)(q:Bi f x y G (dn K H Q)):rI0 (λi j=>.bl (f i j)) v u H Q:=by
 cases a <;> first | exact q.elim |(cases ty <;> first | exact q.elim | exact⟨_,_,rfl,rfl,q _ H .refl (.bl _) r⟩)
def opt(o:Option W)(f:W->Prop):Prop:=match o with | some w=>f w | none=>False
theorem MM(h:∀ w,f w->a w)(q:opt o f):opt o a:=by
 cases o with
 | none=>exact q
 | some w=>exact h _ q
theorem CL(q:opt o f):∃ w,o=some w/\f w:=by
 cases o with
 | none=>exact q.elim
 | some w=>exact⟨w,rfl,q⟩
def Af(f:W->W->Hw->Option W):RW2:=λx y G Q=>opt (f x y G) λw=>Q w G
theorem D3:RW2.M (Af f):=λx y G Q a h q=>MM (λw z=>h _ _ z) q
def ixW(x y:W)(G:Hw):Option W:=match x,y with
 | .tup xs,.int i|.rol xs,.int i=>atI xs i
 | .ref a,.int i=>(match G a with | some (.lst xs)=>atI xs i | _=>none)
 | .str z,.int i=>if z.length<=sizeLine then(atI z.cps.toList i).map λc=>.str ⟨#[c]⟩else none
 | _,_=>none
theorem MN(t:TrL K H vs a)(e:atI a i=some w):∃ v,atI vs i=some v/\Tr K H v w:=by
 unfold atI at e ⊢;rw[t.length];cases z:ixN a.length i with
 | none=>rw[z]at e;cases e
 | some j =>
  rw[z]at e;exact t.get e
theorem fX:IxR X (λx y H Q=>My X.K x y H Q\/Mz X.K x y H Q\/MA x y H Q):=IxR.or dk (IxR.or dq dr)
theorem fY(x y:W)(v u:V)(G:Hw)(H:Hp)(Q:VK)(m:Tr K H v x)(ty:Tr K H u y)(r:RelH K H G)(q:Af ixW x y G (dn K H Q)):My K v u H Q\/Mz K v u H Q\/MA v u H Q:=by
 obtain⟨w,e,f⟩:=CL q;cases ty with
 | int i =>
  cases m with
  | tup h l =>
   obtain⟨j,b,t'⟩:=MN l e;exact .inr (.inl ⟨_,_,_,_,rfl,rfl,h,b,f _ H .refl t' r⟩)
  | rol h l =>
   obtain⟨j,b,t'⟩:=MN l e;exact .inl ⟨_,_,_,_,rfl,rfl,h.sq,b,f _ H .refl t' r⟩
  | str z =>
   unfold ixW at e;dsimp only at e;split at e
   ·rename_i n;cases d:atI z.cps.toList i with
    | none=>rw[d]at e;cases e
    | some c =>
     rw[d]at e;cases e;exact .inr (.inr ⟨z,i,c,rfl,rfl,n,d,f _ H .refl (.str _) r⟩)
   ·cases e
  | ref a =>
   unfold ixW at e;dsimp only at e;cases g:G a with
   | none=>rw[g]at e;cases e
   | some o =>
    rw[g]at e;cases o with
    | exc C|ins C fs|dct k=>cases e
    | lst p =>
     obtain⟨vs,d,l⟩:=r a _ g;obtain⟨j,b,t'⟩:=MN l e;exact .inl ⟨_,_,_,_,rfl,rfl,SqL.of d,b,f _ H .refl t' r⟩
  | _=>cases e
 | _=>cases x <;> cases e
structure Em(X:Cx)(e:Expr)(g:GE):Prop where
 p:PEw X e g
 m:g.M
structure Tm(X:Cx)(e:Expr)(g:GT):Prop where
 p:PTw X e g
 m:g.M
structure Wm(X:Cx)(e:Expr)(g:GT):Prop where
 p:PWw X e g
 m:g.M
structure Am(X:Cx)(es:List Expr)(g:GA):Prop where
 p:PAw X es g
 m:g.M
structure Sm(X:Cx)(P:Hp->Prop)(s:Stmt)(g:GS):Prop where
 p:PSw X P s g
 m:g.M
structure Ssm(X:Cx)(P:Hp->Prop)(s:List Stmt)(g:GS):Prop where
 p:Et X P s g
 m:g.M
structure Im(X:Cx)(tg l:Expr)(g:GI):Prop where
 p:PIw X tg l g
 m:g.M
def place(N:List Str)(x:Str):Option Nat:=N.findIdx? (·==x)
theorem Rv(h:place N x=some i):N[i]?=some x:=by
 obtain⟨hi,e,_⟩:=List.findIdx?_eq_some_iff_getElem.mp h;rw[Yp hi,eq_of_beq e]
def seen(sc:Scope)(x:Str):Bool:=match sc.names.lookup x with | some .local=>true | some .cell=>true | some .free=>true | _=>false
theorem Rw(h:seen a x=true):Vis a x:=by
 unfold seen at h;split at h <;> first |(rename_i e;exact .inl e)|(rename_i e;exact .inr (.inl e))|(rename_i e;exact .inr (.inr e))| cases h
def GR(sc:Scope)(x:Str):Bool:=match sc.names.lookup x with | some .local=>true | _=>false
theorem GU(h:GR a x=true):a.names.lookup x=some .local:=by
 unfold GR at h;split at h
 ·rename_i e;exact e
 ·cases h
theorem Eu{j}:Em X (.Constant (.int i) j pos) (gC (.int i)):=⟨eu,GK⟩
theorem fZ{j}:Em X (.Constant (.bool i) j pos) (gC (.bl i)):=⟨ez,GK⟩
theorem f9{j}:Em X (.Constant .none j pos) (gC .non):=⟨eA,GK⟩
theorem FU{j}:Em X (.Constant (.str i) j pos) (gC (.str i)):=⟨eB,GK⟩
theorem gf(d:Em X a ga)(c:Em X b gb):Em X (.BinOp a .Sub b pos) (Ad (AI (λ_ _=>True) λi j=>i - j) ga gb):=
 ⟨GL (opI λ_ _ _ _ _ _ _ _ q=>sub_int q) E1 d.m c.m JP d.p c.p,DD E1 d.m c.m⟩
theorem gj(d:Em X a ga)(c:Em X b gb):Em X (.BinOp a .FloorDiv b pos) (Ad (AI FN λi j=>i / j) ga gb):=⟨GL b6 E1 d.m c.m JP d.p c.p,DD E1 d.m c.m⟩
theorem gm(d:Em X a ga)(c:Em X b gb):Em X (.BinOp a .Mod b pos) (Ad (AI (λ_ j=>0 < j) λi j=>i % j) ga gb):=⟨GL b7 E1 d.m c.m JP d.p c.p,DD E1 d.m c.m⟩
theorem gn(d:Em X a ga)(c:Em X b gb):Em X (.BinOp a .Pow b pos) (Ad (AI EZ λi j=>i ^ j.toNat) ga gb):=⟨GL b8 E1 d.m c.m JP d.p c.p,DD E1 d.m c.m⟩
theorem JQ(e:JE b)(d:Em X a ga)(c:Em X b gb):Em X (.Subscript a b pos) (Ad (Af ixW) ga gb):=⟨Rf fX D3 d.m c.m fY d.p c.p e,DD D3 d.m c.m⟩
theorem MO{k}(h:Am X es gs):Em X (.Tuple es k pos) (Ah gs):=⟨fA h.m h.p,fy h.m⟩
theorem HV(h:Am X es gs):Em X (.List es pos) (Aq gs):=⟨fB h.m h.p,fz h.m⟩
theorem MP(h:Em X a ga):Em X (.BoolOp op [a] pos) ga:=⟨fu h.p,h.m⟩
variable {X:Cx}{a b c:Expr}{An:List Expr}{pos:Pos}{ga gb:GE} in
theorem MQ(d:Em X a ga)(c:Em X (.BoolOp .And (b::An) pos) gb):Em X (.BoolOp .And (a::b::An) pos) (Cc ga gb):=⟨fv d.m c.m d.p c.p,fj d.m c.m⟩
variable {X:Cx}{a b c:Expr}{An:List Expr}{pos:Pos}{ga gb:GE} in
theorem gp(d:Em X a ga)(c:Em X (.BoolOp .Or (b::An) pos) gb):Em X (.BoolOp .Or (a::b::An) pos) (Di ga gb):=⟨fw d.m c.m d.p c.p,fk d.m c.m⟩
theorem MR(hc:Tm X c gt)(e:Em X a ga)(d:Em X b gb):Em X (.IfExp c a b pos) (BY gt ga gb):=⟨fx hc.m e.m d.m hc.p e.p d.p,fq hc.m e.m d.m⟩
theorem A8:Am X [] Ac:=⟨eE,JK⟩
theorem AO(a:starEach (e::es) X.env=(false,eval e X.env)::starEach es X.env)(b:Em X e ga)(c:Am X es gs):Am X (e::es) (Aa ga gs):=⟨eF b.m c.m b.p c.p a,Rg b.m c.m⟩
theorem A1(D:Df X.prog X.w X.K X.mg X.base x k n sp)(h:Room k X.A)(d:Gl X x)(g:Dh X ex)(c:(x==("__debug__":Str))=false)(f:starEach (e::es) X.env=(false,eval e X.env)::starEach es X.env)(b:(backTo pos (starEach es X.env)).any (·.1)=false)(a:Am X (e::es) gs):Em X (.Call (.Name x p) (e::es) [] pos) (Ai sp ex gs):=⟨eG D h d g a.m a.p c f b,MH D.mono a.m⟩
theorem Ck(c:∀ a,isTrue e X.env a=(do let v <- a;standAt e.pos;holding [v] (truthy v)))(b:Em X e ga):Tm X e (AH ga):=⟨eV b.m b.p c,eT b.m⟩
theorem FV(b:Tm X a gt):Tm X (.UnaryOp .Not a pos) (gNt gt):=⟨eX b.p,eW b.m⟩
theorem JR(h:Wm X (.BoolOp op vs pos) gt):Tm X (.BoolOp op vs pos) gt:=⟨fh h.p,h.m⟩
theorem MS(h:Tm X a gt):Wm X (.BoolOp .And [a] pos) gt:=⟨e9 h.p,h.m⟩
theorem gq(h:Tm X a gt):Wm X (.BoolOp .Or [a] pos) gt:=⟨fe h.p,h.m⟩
variable {X:Cx}{a b c:Expr}{An:List Expr}{pos:Pos}{gt gu:GT} in
theorem MT(d:Tm X a gt)(c:Wm X (.BoolOp .And (b::An) pos) gu):Wm X (.BoolOp .And (a::b::An) pos) (A7 gt gu):=⟨ff d.m c.m d.p c.p,eY d.m c.m⟩
variable {X:Cx}{a b c:Expr}{An:List Expr}{pos:Pos}{gt gu:GT} in
theorem Rx(d:Tm X a gt)(c:Wm X (.BoolOp .Or (b::An) pos) gu):Wm X (.BoolOp .Or (a::b::An) pos) (gOr gt gu):=⟨fg d.m c.m d.p c.p,eZ d.m c.m⟩
theorem Bj:Ssm X P [] Au:=⟨eJ,eH⟩
theorem AE{st:Stmt}(h:Sm X P st g1):Ssm X P [st] g1:=⟨eL h.p,h.m⟩
theorem Av{st:Stmt}(h1:Sm X P st g1)(h2:Ssm X P sts g2):Ssm X P (st::sts) (Ae g1 g2):=⟨eK h1.m h2.m h1.p h2.p,eI h1.m h2.m⟩
theorem A0(a:Em X e ga):Sm X P (.Return (some e) pos) (Aj ga):=⟨eN a.m a.p,eM a.m⟩
theorem BU(b:swapsWith e none pos.line X.env=pure false)(a:Em X e ga):Sm X P (.Expr e pos) (AN ga):=⟨eP a.m a.p b,eO a.m⟩
theorem Bc(hc:Tm X c gt)(h1:Ssm X P sts g1)(h2:Ssm X P sts' g2):Sm X P (.If c sts sts' pos) (gIf gt g1 g2):=⟨eR hc.m h1.m h2.m hc.p h1.p h2.p,eQ hc.m h1.m h2.m⟩
theorem gr(a:∀ it u,letOwnedTupleGo tg it u=pure ())(hl:Em X l ga):Im X tg l (Bl ga):=⟨fJ a hl.m hl.p,fH hl.m⟩
theorem JS(e:PassesOwn (model X.prog X.w) X.A X.env X.xe)(hc:X.calm=true)(d:∀ x,foldedSetIterable iter X.env x=pure x)(hi:Im X tg iter gi)(b:TgW X tg c)(a:Ssm X Rc sts gb):Sm X P (.For tg iter sts [] pos) (Bz gi c gb):=
 ⟨fM e hc hi.m a.m hi.p b a.p d,fK hi.m b.mono a.m⟩
theorem gw{bs:List Bool}(r:Vals (bs.map V.bl) a){i:Nat}(e:a.toArray[i]?=some v):v=.bool (bs.getD i false):=by
 have d:a[i]?=some v:=by simpa using e
 have hl:=r.length;rw[Yh]at hl;have hi:=(YV.mp d).1;have b:bs[i]?=some (bs[i]'(by lia)):=Yp _;obtain⟨u,c,r1⟩:=r.get (by rw[YM,b];rfl);rw[d]at c;cases c;rw[YY,b];exact r1
theorem gz{bs:List Bool}:(List.range bs.length).all (λi=>bs.getD i false)=bs.all id:=by
 rw[Bool.eq_iff_iff];simp only[List.all_eq_true,List.mem_range];constructor
 ·intro h b a;obtain⟨i,hi,e⟩:=List.mem_iff_getElem.mp a;have:=h i hi;rw[YY,Yp hi]at this;rw[<- e];exact this
 ·intro h i hi;rw[YY,Yp hi];exact h _ (Qc hi)
theorem gA(hc:X.calm=true):CallR X (.builtin "all") (λxs H Q=>∃(p:Addr)(bs:List Bool),xs=[.ref p]/\SqL X.K H p (bs.map V.bl)/\Q (.bl (bs.all id)) H):=by
 intro pins s σ H xs g Q I r h;obtain⟨p,bs,rfl,a,q⟩:=h;obtain⟨u,rfl,d⟩:=CZ r;cases d;obtain⟨c,r',pl,j⟩:=I.list a;have hl:=r'.length;rw[Yh]at hl;obtain⟨o,n,e,_⟩:=id pl
 refine call_all_walk (wpAny_pyIter_list pl.isList ⟨s.heap.objs.size,_,_,_,_,_,λi=>bs.getD i false,rfl,Walks.list (A:=X.A.in1) (I.ok.hd hc) _ p (Ys (Qn e)) c.toArray,
  ⟨⟨_,Qo _ rfl,rfl,rfl⟩,pl.isList.push _⟩,λi v s Q E f a=>by rw[gw r' f];exact wpAny_truthy_bool a,λh' tk k=>?_⟩)
 refine⟨.bl (bs.all id),H,I.kept λb o e=>k b o (by simpa using Ys (Qn e)) (Qm _ e),?_,q⟩;show Value.bool _=_;rw[Yn,<- hl,gz]
theorem MU{ns:List Int}(r:Vals (ns.map V.int) a){i:Nat}(e:a.toArray[i]?=some v):∃ t,v=.int (ns.getD i 0) t:=by
 have d:a[i]?=some v:=by simpa using e
 have hl:=r.length;rw[Yh]at hl;have hi:=(YV.mp d).1;have b:ns[i]?=some (ns[i]'(by lia)):=Yp _;obtain⟨u,c,r1⟩:=r.get (by rw[YM,b];rfl);rw[d]at c;cases c;rw[YY,b];exact r1
theorem gD(hc:X.calm=true):CallR X (.builtin "sum") (λxs H Q=>∃(p:Addr)(ns:List Int),xs=[.ref p]/\SqL X.K H p (ns.map V.int)/\PyProof.Rows.SumFits ns/\Q (.int ns.sum) H):=by
 intro pins s σ H xs w Q I r h;obtain⟨p,ns,rfl,m,g,q⟩:=h;obtain⟨u,rfl,t⟩:=CZ r;cases t;obtain⟨c,r',pl,x⟩:=I.list m;have hl:=r'.length;rw[Yh]at hl;obtain⟨o,n,e,_⟩:=id pl
 refine call_sum_walk (wpAny_pyIter_list pl.isList ⟨s.heap.objs.size,_,_,_,_,_,λi=>ns.getD i 0,rfl,Walks.list (A:=X.A.in1) (I.ok.hd hc) _ p (Ys (Qn e)) c.toArray,
  ⟨⟨_,Qo _ rfl,rfl,rfl⟩,pl.isList.push _⟩,λb f=>?_,λi v l=>MU r' l,λj d=>?_,λh' tk t' k=>?_⟩)
 ·rw[Qp];rcases Yo.mp f with a | a
  ·rw[a];exact Nat.lt_succ_self _
  ·rw[YA.mp a];exact Nat.lt_succ_of_lt (Qn e)
 ·rw[Yn,<- hl]at d;have:=g j d;rw[preSum_getD];exact this
 ·refine⟨.int ns.sum,H,I.kept λb o e=>k b o (by simpa using Ys (Qn e)) (Qm _ e),⟨t',?_⟩,q⟩;rw[Yn,<- hl,preSum_getD,List.take_length]
abbrev RWc:=List W->Hw->Kw->Prop
def RWc.M(r:RWc):Prop:=∀ ws G(Q Q':Kw),(∀ w G',Q w G'->Q' w G')->r ws G Q->r ws G Q'
def gB(r:RWc)(gs:GA):GE:=λω G Q=>gs ω G λws G1=>r ws G1 Q
theorem Ry(mr:r.M)(a:gs.M):GE.M (gB r gs):=λω G Q c h q=>a _ _ _ _ (λb G1 z=>mr _ _ _ _ h z) q
theorem Rz(mr:r.M)(c:gs.M)(e:∀ a vs G H Q,TrL K H vs a->RelH K H G->r a G (dn K H Q)->r1 vs H Q)(σ:St)(H:Hp)(Q:VK)(h:up K (gB r gs) σ H Q):tCB r1 (upA K gs) σ H Q:=by
 obtain⟨ω,G,d,f,q⟩:=h;exact⟨ω,G,d,f,c _ _ _ _ (λa G1 z vs H1 m t b=>e a vs G1 H1 Q t b (mr _ _ _ _ (λw g y=>Cj m y) z)) q⟩
theorem gE{id:String}(hc:CallR X (.builtin id) r1)(mr:r.M)(k:∀ d vs G H Q,TrL X.K H vs d->RelH X.K H G->r d G (dn X.K H Q)->r1 vs H Q)(f:Gl X x)(h:X.mg x=none)(g:bootBuiltins x=some (.builtin id))(j:x≠"__name__")(c:(x==("__debug__":Str))=false)(i:starEach (e::es) X.env=(false,eval e X.env)::starEach es X.env)(b:(backTo pos (starEach es X.env)).any (·.1)=false)(a:Am X (e::es) gs):Em X (.Call (.Name x p) (e::es) [] pos) (gB r gs):=
 ⟨Be (c0 hc f h g a.p j c i b) (Rz mr a.m k),Ry mr a.m⟩
theorem gF(hc:CallR X (.type T) r1)(mr:r.M)(k:∀ d vs G H Q,TrL X.K H vs d->RelH X.K H G->r d G (dn X.K H Q)->r1 vs H Q)(f:Gl X x)(h:X.mg x=none)(g:bootBuiltins x=some (.type T))(j:x≠"__name__")(c:(x==("__debug__":Str))=false)(i:starEach (e::es) X.env=(false,eval e X.env)::starEach es X.env)(b:(backTo pos (starEach es X.env)).any (·.1)=false)(a:Am X (e::es) gs):Em X (.Call (.Name x p) (e::es) [] pos) (gB r gs):=
 ⟨Be (c7 hc f h g a.p j c i b) (Rz mr a.m k),Ry mr a.m⟩
def rF(f:List W->Hw->Option W):RWc:=λws G Q=>opt (f ws G) λw=>Q w G
theorem FW:RWc.M (rF f):=λa G Q b h q=>MM (λw z=>h _ _ z) q
def FX:List W->Option (List Bool)
 | []=>some []
 | .bl b::r=>(FX r).map (b::·)
 | _=>none
theorem RA:∀{a:List W}{bs:List Bool}{vs:List V},FX a=some bs->TrL K H vs a->vs=bs.map V.bl
 | [],bs,vs,e,t=>by cases e;cases t;rfl
 | w::a,bs,vs,e,t=>by
  cases t with
  | cons c t =>
   cases w with
   | bl b =>
    unfold FX at e;cases z:FX a with
    | none=>rw[z]at e;cases e
    | some d =>
     rw[z]at e;cases e;rw[GP c,RA z t];rfl
   | _=>cases e
def E2:List W->Option (List Int)
 | []=>some []
 | .int b::r=>(E2 r).map (b::·)
 | _=>none
theorem MV:∀{a:List W}{bs:List Int}{vs:List V},E2 a=some bs->TrL K H vs a->vs=bs.map V.int
 | [],bs,vs,e,t=>by cases e;cases t;rfl
 | w::a,bs,vs,e,t=>by
  cases t with
  | cons c t =>
   cases w with
   | int b =>
    unfold E2 at e;cases z:E2 a with
    | none=>rw[z]at e;cases e
    | some d =>
     rw[z]at e;cases e;rw[Rk c,MV z t];rfl
   | _=>cases e
def Ex(G:Hw)(w:W):Option (List W):=match w with
 | .ref a=>(match G a with | some (.lst xs)=>some xs | _=>none)
 | _=>none
theorem HX(r:RelH K H G)(t:Tr K H v w)(e:Ex G w=some xs):∃ a vs,v=.ref a/\w=.ref a/\G a=some (.lst xs)/\H a=some (.lst vs)/\TrL K H vs xs:=by
 cases t with
 | ref a =>
  unfold Ex at e;dsimp only at e;cases z:G a with
  | none=>rw[z]at e;cases e
  | some o =>
   rw[z]at e;cases o with
   | lst ys=>cases e;obtain⟨vs,c,t1⟩:=r a _ z;exact⟨a,vs,rfl,rfl,z,c,t1⟩
   | exc C|ins C fs|dct b=>cases e
 | _=>cases e
def B6(ws:List W)(G:Hw):Option W:=match ws with | [w]=>(Ex G w).bind λxs=>(FX xs).map λbs=>.bl (bs.all id)| _=>none
theorem gG(b:List W)(vs:List V)(G:Hw)(H:Hp)(Q:VK)(t:TrL K H vs b)(r:RelH K H G)(q:rF B6 b G (dn K H Q)):∃(p:Addr)(bs:List Bool),vs=[.ref p]/\SqL K H p (bs.map V.bl)/\Q (.bl (bs.all id)) H:=by
 obtain⟨w,e,h⟩:=CL q;unfold B6 at e;split at e
 ·rename_i m;cases t with
  | cons k t =>
   cases t;obtain⟨xs,f,c⟩:=Qa.mp e;obtain⟨bs,g,d⟩:=YO.mp c;obtain⟨a,l,rfl,rfl,_,i,j⟩:=HX r k f;subst d;have:=RA g j;subst this;exact⟨a,bs,rfl,SqL.of i,h _ H .refl (.bl _) r⟩
 ·cases e
def D4:RWc:=λws G Q=>match ws with
 | [w]=>(match(Ex G w).bind E2 with | some ns=>PyProof.Rows.SumFits ns/\Q (.int ns.sum) G | none=>False)
 | _=>False
theorem gH:RWc.M D4:=λa G Q b h q=>by
 unfold D4 at q ⊢;split at q
 ·split at q
  ·exact⟨q.1,h _ _ q.2⟩
  ·exact q.elim
 ·exact q.elim
theorem gI(b:List W)(vs:List V)(G:Hw)(H:Hp)(Q:VK)(t:TrL K H vs b)(r:RelH K H G)(q:D4 b G (dn K H Q)):∃(p:Addr)(ns:List Int),vs=[.ref p]/\SqL K H p (ns.map V.int)/\PyProof.Rows.SumFits ns/\Q (.int ns.sum) H:=by
 unfold D4 at q;split at q
 ·rename_i j;split at q
  ·rename_i ns e;cases t with
   | cons h t =>
    cases t;obtain⟨xs,d,c⟩:=Qa.mp e;obtain⟨a,i,rfl,rfl,_,f,g⟩:=HX r h d;have:=MV c g;subst this;exact⟨a,ns,rfl,SqL.of f,q.1,q.2 _ H .refl (.int _) r⟩
  ·exact q.elim
 ·exact q.elim
def BZ(w:W)(G:Hw):Option W:=match w with
 | .tup xs|.rol xs=>some (.int xs.length)
 | .str z=>if z.length<=sizeLine then some (.int z.length)else none
 | .ref a=>(match G a with | some (.lst xs)=>some (.int xs.length)| _=>none)
 | _=>none
def AM(ws:List W)(G:Hw):Option W:=match ws with | [w]=>BZ w G | _=>none
theorem gJ(c:List W)(vs:List V)(G:Hw)(H:Hp)(Q:VK)(t:TrL K H vs c)(r:RelH K H G)(q:rF AM c G (dn K H Q)):∃ x n,vs=[x]/\QF K x H n/\Q (.int n) H:=by
 obtain⟨w,e,b⟩:=CL q;unfold AM at e;split at e
 ·cases t with
  | cons i t =>
   cases t;cases i with
   | tup h l=>cases e;exact⟨_,_,rfl,.inr ⟨_,h,rfl⟩,by rw[l.length];exact b _ H .refl (.int _) r⟩
   | rol h l=>cases e;exact⟨_,_,rfl,.inl ⟨_,h.sq,rfl⟩,by rw[l.length];exact b _ H .refl (.int _) r⟩
   | str z =>
    unfold BZ at e;dsimp only at e;split at e
    ·rename_i g;cases e;exact⟨_,_,rfl,⟨g,rfl⟩,b _ H .refl (.int _) r⟩
    ·cases e
   | ref a =>
    unfold BZ at e;dsimp only at e;cases z:G a with
    | none=>rw[z]at e;cases e
    | some o =>
     rw[z]at e;cases o with
     | exc C|ins C fs|dct d=>cases e
     | lst xs =>
      cases e;obtain⟨j,f,t1⟩:=r a _ z;exact⟨_,_,rfl,.inl ⟨_,SqL.of f,rfl⟩,by rw[t1.length];exact b _ H .refl (.int _) r⟩
   | _=>cases e
 ·cases e
mutual
def eqD:W->W->Option Bool
 | .tup xs,.tup ys=>Cm xs ys
 | .non,.non=>some true
 | .bl a,.bl b=>some (a==b)
 | .bl a,.int b=>some ((if a then 1 else 0)==b)
 | .int a,.bl b=>some (a==(if b then 1 else 0))
 | .int a,.int b|.str a,.str b=>some (a==b)
 | .non,.int _|.int _,.non|.int _,.str _|.str _,.int _|.bl _,.str _|.str _,.bl _|.non,.str _|.str _,.non|.non,.bl _|.bl _,.non|.tup _,.str _|.str _,.tup _|.tup _,.bl _|.bl _,.tup _|.tup _,.int _|.int _,.tup _=>some false
 | _,_=>none
def Cm:List W->List W->Option Bool
 | [],[]=>some true
 | [],_::_|_::_,[]=>some false
 | x::xs,y::ys=>match eqD x y,Cm xs ys with
  | some a,some b=>some (a&&b)
  | _,_=>none
end
mutual
def dpW:W->Nat
 | .tup xs=>dpL xs+1
 | _=>0
def dpL:List W->Nat
 | []=>0
 | x::xs=>max (dpW x) (dpL xs)
end
def JT:W->Option V
 | .non=>some .non
 | .bl b=>some (.bl b)
 | .int i=>some (.int i)
 | .str x=>some (.str x)
 | _=>none
theorem RB(t:Tr K H v w)(e:JT w=some f):v=f/\D2 v=true:=by
 cases t <;> first | cases e;exact⟨rfl,rfl⟩| cases e
theorem JU:∀{xs ys:List W}{b:Bool},Cm xs ys=some b->∃ e:Nat->Bool,(∀(i:Nat)x y,xs[i]?=some x->ys[i]?=some y->eqD x y=some (e i))/\b=((List.range (min xs.length ys.length)).all e&&xs.length==ys.length)
 | [],[],b,h=>by
  cases(h);exact⟨λ_=>true,λi x y h1 h2=>by simp at h1,by simp⟩
 | [],_::_,b,h=>by
  cases(h);exact⟨λ_=>true,λi x y h1 h2=>by simp at h1,by simp⟩
 | _::_,[],b,h=>by
  cases(h);exact⟨λ_=>true,λi x y h1 h2=>by simp at h2,by simp⟩
 | x::xs,y::ys,b,h=>by
  have h':(match eqD x y,Cm xs ys with | some a,some b=>some (a&&b)| _,_=>none)=some b:=by rw[<- h];rfl
  cases d:eqD x y with
  | none=>rw[d]at h';cases h'
  | some a =>
   cases g:Cm xs ys with
   | none=>rw[d,g]at h';cases h'
   | some c =>
    rw[d,g]at h';cases h';obtain⟨f,n,hc⟩:=JU g;refine⟨λi=>match i with | 0=>a | j+1=>f j,λi l m h1 h2=>?_,?_⟩
    ·cases i with
     | zero=>simp at h1 h2;subst h1;subst h2;exact d
     | succ j=>exact n j l m (by simpa using h1) (by simpa using h2)
    ·have k:min (x::xs).length (y::ys).length=min xs.length ys.length+1:=by simp only[Yg];lia
     rw[k,List.range_succ_eq_map,List.all_cons,List.all_map,hc];have o:((x::xs).length==(y::ys).length)=(xs.length==ys.length):=by simp
     rw[o,Bool.and_assoc];rfl
theorem RC:∀(xs:List W),(∀ x∈xs,eqD x x=some true\/eqD x x=none)->Cm xs xs=some true\/Cm xs xs=none
 | [],_=>.inl rfl
 | x::xs,h=>by
  have e:Cm (x::xs) (x::xs)=(match eqD x x,Cm xs xs with | some a,some b=>some (a&&b)| _,_=>none):=rfl;rw[e];rcases h x Ye with h1 | h1
  ·rcases RC xs (λy c=>h y (Yd _ c))with h2 | h2
   ·rw[h1,h2];exact .inl rfl
   ·rw[h1,h2];exact .inr rfl
  ·rw[h1];exact .inr rfl
theorem RD:∀(x:W),eqD x x=some true\/eqD x x=none
 | .non=>.inl rfl
 | .bl b|.int b|.str b=>.inl (by show some (b==b)=_;simp)
 | .tup xs=>RC xs (λx _=>RD x)
 | .rol _|.ref _=>.inr rfl
theorem FY:∀{xs:List W}{x:W},x∈xs->dpW x<=dpL xs
 | y::xs,x,h=>by
  walk_at "ph"
  ·exact Nat.le_max_left ..
  ·exact Yt (FY h) (Nat.le_max_right ..)
theorem gK:∀(c:List W)(ys:List W)(vs:List V),(∀(v:V)(w y:W),w∈c->Tr K H v w->Tr K H v y->eqD w y≠none->w=y)->TrL K H vs c->TrL K H vs ys->Cm c ys≠none->c=ys:=by
 intro c;induction c with
 | nil =>
  intro ys vs _ l d _;cases l;cases d;rfl
 | cons w c g =>
  intro ys vs h l d ne;cases l with
  | cons t l =>
   cases d with
   | @cons _ y _ ys t' d =>
    have e:Cm (w::c) (y::ys)=(match eqD w y,Cm c ys with | some a,some b=>some (a&&b)| _,_=>none):=rfl;have h1:eqD w y≠none:=λz=>ne (by rw[e,z]);have h2:Cm c ys≠none:=λz=>ne (by rw[e,z];cases eqD w y <;> rfl);rw[h _ w y Ye t t' h1,g ys _ (λv w y f=>h v w y (Yd _ f)) l d h2]
theorem gL{σ:St}(I:Inv X pins σ H s)(n:Nat):∀(v:V)(w y:W),dpW w < n->Tr X.K H v w->Tr X.K H v y->eqD w y≠none->w=y:=by
 induction n with
 | zero=>intro v w y h;exact Qj h (Nat.not_lt_zero _)
 | succ n k =>
  intro v w y h m ty ne;cases m with
  | tup j l =>
   rename_i a vs d;generalize b:V.ref a=vr at ty;cases ty with
   | tup c i =>
    cases b;have e:=I.tuple_inj j c;subst e;have g:dpL d+1 < n+1:=h;rw[gK d _ _ (λv w y f=>k v w y (by have:=FY f;lia)) l i ne]
   | rol _ _|ref _=>exact Qj rfl ne
   | non|bl _|int _|str _=>cases b
  | rol _ _|ref _=>exact Qj (by cases y <;> rfl) ne
  | non|bl _|int _|str _=>cases ty;rfl
theorem gM{σ:St}(I:Inv X pins σ H s)(n:Nat):∀(w y:W)(v u:V)(vv E:Value)(b:Bool)(A:Around),dpW w < n->Tr X.K H v w->Tr X.K H u y->RelV v vv->RelV u E->eqD w y=some b->A.units+n < cLine->SeqAt.EqAt A s vv E b:=by
 induction n with
 | zero=>intro w _ _ _ _ _ _ _ h;exact Qj h (Nat.not_lt_zero _)
 | succ n R =>
  intro w y v u vv E b A h tw ty k m e hu;cases tw with
  | tup i l =>
   cases ty with
   | tup p G =>
    rename_i a vs q a' us ys;cases k;cases m;by_cases o:a=a'
    ·subst o;have Z:=gL I (dpW (.tup q)+1) _ _ _ (Nat.lt_succ_self _) (.tup i l) (.tup p G) (by rw[e];simp);cases Z;rcases RD (.tup q)with z | z
     ·rw[e]at z;cases z;exact SeqAt.EqAt.same _
     ·rw[e]at z;cases z
    ·obtain⟨d,r1,p1,_⟩:=I.tuple i;obtain⟨g,L,p2,_⟩:=I.tuple p;obtain⟨f,hf,Y⟩:=JU (e);have l1:=r1.length;have l2:=L.length;have l3:=l.length;have l4:=G.length;refine SeqAt.EqAt.of_refs o ?_;have key:=SeqAt.RcAt.tuples (A:=A) (e:=f) (p1) (p2) (by lia) (λj h1 h2=>?_)
     ·rw[Y];have T:d.toArray.size=q.length:=by rw[Yn];lia
      have S:g.toArray.size=ys.length:=by rw[Yn];lia
      rw[T,S]at key;exact key
     ·have r:j < q.length:=by rw[Yn]at h1;lia
      have N:j < ys.length:=by rw[Yn]at h2;lia
      obtain⟨v1,g1,t1⟩:=l.get (Yp r);obtain⟨v2,g2,O⟩:=G.get (Yp N);obtain⟨Q,g3,x⟩:=r1.get g1;obtain⟨U,g4,J⟩:=L.get g2
      have B:d.toArray[j]=Q:=by
       have z:d[j]?=some d[j]:=Yp (by lia);rw[g3]at z;have D:=YE z;rw[D];simp
      have F:g.toArray[j]=U:=by
       have z:g[j]?=some g[j]:=Yp (by lia);rw[g4]at z;have D:=YE z;rw[D];simp
      rw[B,F];have hd:=FY (Qc r);have P:dpL q+1 < n+1:=h;exact R _ _ _ _ _ _ _ A.in1 (by lia) t1 O x J (hf j _ _ (Yp r) (Yp N)) (by show A.units+1+n < cLine;lia)
   | str _ =>
    cases e;cases k;obtain⟨t,rfl⟩:=m;obtain⟨d,r1,p1,_⟩:=I.tuple i;exact SeqAt.EqAt.tuple_str _ _ p1 (by lia)
   | bl _ =>
    cases e;cases k;cases m;obtain⟨d,r1,p1,_⟩:=I.tuple i;exact SeqAt.EqAt.tuple_bool _ p1 (by lia)
   | int _ =>
    cases e;cases k;obtain⟨t,rfl⟩:=m;obtain⟨d,r1,p1,_⟩:=I.tuple i;exact SeqAt.EqAt.tuple_int _ _ p1 (by lia)
   | _=>cases e
  | non=>cases ty <;> cases e <;> exact HP k m rfl rfl
  | bl c =>
   cases ty with
   | tup i l =>
    cases e;cases k;cases m;obtain⟨d,r1,p1,_⟩:=I.tuple i;exact SeqAt.EqAt.bool_tuple _ p1 (by lia)
   | _=>cases e <;> exact HP k m rfl rfl
  | int c =>
   cases ty with
   | tup i l =>
    cases e;cases m;obtain⟨t,rfl⟩:=k;obtain⟨d,r1,p1,_⟩:=I.tuple i;exact SeqAt.EqAt.int_tuple _ _ p1 (by lia)
   | _=>cases e <;> exact HP k m rfl rfl
  | str c =>
   cases ty with
   | tup i l =>
    cases e;cases m;obtain⟨t,rfl⟩:=k;obtain⟨d,r1,p1,_⟩:=I.tuple i;exact SeqAt.EqAt.str_tuple _ _ p1 (by lia)
   | _=>cases e <;> exact HP k m rfl rfl
  | rol _ _|ref _=>cases y <;> cases e
def rSq(K:PySem.W.Frag)(neg:Bool):R2:=λv u H Q=>∃(a b:Addr)(vs us:List V)(ws ys:List W)(c:Bool),v=.ref a/\u=.ref b/\((SqT K H a vs/\SqT K H b us)\/(SqL K H a vs/\SqL K H b us))/\TrL K H vs ws/\TrL K H us ys/\dpL ws < 90/\Cm ws ys=some c/\Q (.bl (c != neg)) H
theorem JV{σ:St}(I:Inv X pins σ H s){A:Around}(r1:Vals vs b)(n:Vals us a)(t1:TrL X.K H vs c)(t2:TrL X.K H us ys)(hd:dpL c < 90)(B:A.units+100 < cLine){f:Nat->Bool}(r:∀(i:Nat)x y,c[i]?=some x->ys[i]?=some y->eqD x y=some (f i))(j:Nat)(h1:j < b.toArray.size)(h2:j < a.toArray.size):SeqAt.EqAt A.in1 s b.toArray[j] a.toArray[j] (f j):=by
 have v:=r1.length;have u:=n.length;have t:=t1.length;have w:=t2.length;have d:j < c.length:=by rw[Yn]at h1;lia
 have o:j < ys.length:=by rw[Yn]at h2;lia
 obtain⟨v1,g1,k⟩:=t1.get (Yp d);obtain⟨v2,g2,h⟩:=t2.get (Yp o);obtain⟨p,g3,e⟩:=r1.get g1;obtain⟨q,g4,m⟩:=n.get g2
 have g:b.toArray[j]=p:=by
  have z:b[j]?=some b[j]:=Yp (by lia);rw[g3]at z;rw[YE z];simp
 have l:a.toArray[j]=q:=by
  have z:a[j]?=some a[j]:=Yp (by lia);rw[g4]at z;rw[YE z];simp
 rw[g,l];exact gM I 99 _ _ _ _ _ _ _ A.in1 (by have:=FY (Qc d);lia) k h e m (r j _ _ (Yp d) (Yp o)) (by lia)
theorem gN(r:X.A.units+100 < cLine):OpR X (compareOp .Eq) (rSq X.K false):=by
 intro pins s σ H x y v u Q I E D h;obtain⟨a,b,vs,J,p,ys,c,rfl,rfl,w,t1,m,hd,e,q⟩:=h;cases E;cases D;obtain⟨f,t,o⟩:=JU e;have F:=t1.length;have G:=m.length;have j:∀ d:Bool,d=c->EP X pins σ Q (.bool d) s:=λd hd=>by subst hd;exact⟨.bl d,H,I,rfl,by simpa using q⟩
 rcases w with⟨h1,h2⟩|⟨h1,h2⟩
 ·obtain⟨i,r1,p1,_⟩:=I.tuple h1;obtain⟨g,k,p2,_⟩:=I.tuple h2;have B:=r1.length;have z:=k.length;refine SeqAt.eq_tupleAt (p1) (p2) (by lia) (JV I r1 k t1 m hd r t) (j _ ?_);have l:i.toArray.size=p.length:=by rw[Yn];lia
  have n:g.toArray.size=ys.length:=by rw[Yn];lia
  rw[l,n,o]
 ·obtain⟨i,r1,p1,_⟩:=I.list h1;obtain⟨g,k,p2,_⟩:=I.list h2;have B:=r1.length;have z:=k.length;have l:i.toArray.size=p.length:=by rw[Yn];lia
  have n:g.toArray.size=ys.length:=by rw[Yn];lia
  by_cases hl:p.length=ys.length
  ·refine SeqAt.eq_listAt p1.isList p2.isList (by lia) (by lia) (JV I r1 k t1 m hd r t) (j _ ?_);rw[l,o,hl];simp
  ·refine SeqAt.eq_list_lengthsAt p1.isList p2.isList (by rw[l,n];simpa using hl) (by lia) (j _ ?_);rw[o];simp[hl]
theorem gO(r:X.A.units+100 < cLine):OpR X (compareOp .NotEq) (rSq X.K true):=by
 intro pins s σ H x y v u Q I E D h;obtain⟨a,b,vs,J,p,ys,c,rfl,rfl,w,t1,m,hd,e,q⟩:=h;cases E;cases D;obtain⟨f,t,o⟩:=JU e;have F:=t1.length;have G:=m.length;have j:∀ d:Bool,d=!c->EP X pins σ Q (.bool d) s:=λd hd=>by subst hd;exact⟨.bl _,H,I,rfl,by simpa using q⟩
 rcases w with⟨h1,h2⟩|⟨h1,h2⟩
 ·obtain⟨i,r1,p1,_⟩:=I.tuple h1;obtain⟨g,k,p2,_⟩:=I.tuple h2;have B:=r1.length;have z:=k.length;refine SeqAt.RcNeAt.tuples (p1) (p2) (by lia) (JV I r1 k t1 m hd r t) _ _ _ _ (j _ ?_);have l:i.toArray.size=p.length:=by rw[Yn];lia
  have n:g.toArray.size=ys.length:=by rw[Yn];lia
  rw[l,n,o]
 ·obtain⟨i,r1,p1,_⟩:=I.list h1;obtain⟨g,k,p2,_⟩:=I.list h2;have B:=r1.length;have z:=k.length;have l:i.toArray.size=p.length:=by rw[Yn];lia
  have n:g.toArray.size=ys.length:=by rw[Yn];lia
  by_cases hl:p.length=ys.length
  ·refine SeqAt.RcNeAt.lists p1.isList p2.isList (by lia) (by lia) (JV I r1 k t1 m hd r t) _ _ _ _ (j _ ?_);rw[l,o,hl];simp
  ·refine SeqAt.RcNeAt.lists_lengths p1.isList p2.isList (by rw[l,n];simpa using hl) (by lia) _ _ _ _ (j _ ?_);rw[o];simp[hl]
def eqW(x y:W)(G:Hw):Option Bool:=match x,y with
 | .tup xs,.tup ys=>if dpL xs < 90 then Cm xs ys else none
 | .ref a,.ref b=>(match G a,G b with
  | some (.lst xs),some (.lst ys)=>if dpL xs < 90 then Cm xs ys else none
  | _,_=>none)
 | .int a,.int b|.bl a,.bl b|.str a,.str b=>some (a==b)
 | .non,.non=>some true
 | .int _,.non|.non,.int _|.int _,.str _|.str _,.int _|.bl _,.str _|.str _,.bl _|.non,.str _|.str _,.non|.non,.bl _|.bl _,.non=>some false
 | _,_=>none
def eqF(neg:Bool)(x y:W)(G:Hw):Option W:=(eqW x y G).map λc=>.bl (c != neg)
theorem gP(c:Bool):(c != true)=!c:=by cases c <;> rfl
theorem RE(f:Bool)(x y:W)(v u:V)(G:Hw)(H:Hp)(Q:VK)(o:Tr K H v x)(ty:Tr K H u y)(r:RelH K H G)(q:Af (eqF f) x y G (dn K H Q)):(FO v u=true/\Q (.bl (decide (v=u) != f)) H)\/rSq K f v u H Q:=by
 obtain⟨w,e,t⟩:=CL q;obtain⟨c,d,n⟩:=YO.mp e;subst n;have qq:=t (.bl (c != f)) H .refl (.bl _) r;have h:∀{i j:V},decide (i=j)=c->FO i j=true->(FO i j=true/\Q (.bl (decide (i=j) != f)) H)\/rSq K f i j H Q:=λ{i j}h1 h2=>.inl ⟨h2,by rw[h1];exact qq⟩;cases o with
 | tup A l =>
  cases ty with
  | tup k z =>
   unfold eqW at d;dsimp only at d;split at d
   ·rename_i hd;exact .inr ⟨_,_,_,_,_,_,c,rfl,rfl,.inl ⟨A,k⟩,l,z,hd,d,qq⟩
   ·cases d
  | _=>cases d
 | ref a =>
  cases ty with
  | ref b =>
   unfold eqW at d;dsimp only at d;cases g:G a with
   | none=>rw[g]at d;cases d
   | some m =>
    cases eb:G b with
    | none=>rw[g,eb]at d;cases m <;> cases d
    | some s =>
     rw[g,eb]at d;cases m <;> cases s <;> try cases d
     dsimp only at d;split at d
     ·rename_i hd;obtain⟨vs,B,t1⟩:=r a _ g;obtain⟨E,D,p⟩:=r b _ eb;exact .inr ⟨_,_,_,_,_,_,c,rfl,rfl,.inr ⟨SqL.of B,SqL.of D⟩,t1,p,hd,d,qq⟩
     ·cases d
  | _=>cases d
 | rol _ _=>cases y <;> cases d
 | non=>cases ty <;> cases d <;> exact h (by simp) rfl
 | bl b=>cases ty <;> cases d <;> exact h (by first | exact Mm | simp) rfl
 | int b=>cases ty <;> cases d <;> exact h (by first | exact Ml | simp) rfl
 | str b=>cases ty <;> cases d <;> exact h (by first | exact Mn | simp) rfl
theorem gQ(c:X.A.units+100 < cLine):OpR X (compareOp .Eq) (λx y H Q=>(FO x y=true/\Q (.bl (decide (x=y) != false)) H)\/rSq X.K false x y H Q):=by
 intro pins s σ H x y v u Q I b a h;rcases h with⟨h1,h2⟩| h
 ·exact cc pins s σ H x y v u Q I b a ⟨h1,by simpa using h2⟩
 ·exact gN c pins s σ H x y v u Q I b a h
theorem gR(c:X.A.units+100 < cLine):OpR X (compareOp .NotEq) (λx y H Q=>(FO x y=true/\Q (.bl (decide (x=y) != true)) H)\/rSq X.K true x y H Q):=by
 intro pins s σ H x y v u Q I b a h;rcases h with⟨h1,h2⟩| h
 ·exact ce pins s σ H x y v u Q I b a ⟨h1,by rw[<- gP];exact h2⟩
 ·exact gO c pins s σ H x y v u Q I b a h
section
variable {a:Expr}
def E3(G:Hw)(w:W):Option (List W):=match w with
 | .tup xs|.rol xs=>some xs
 | .ref a=>(match G a with | some (.lst xs)=>some xs | _=>none)
 | _=>none
theorem MW(r:RelH K H G)(t:Tr K H v w)(e:E3 G w=some xs):∃ a vs,v=.ref a/\(SqL K H a vs\/SqT K H a vs)/\TrL K H vs xs:=by
 cases t with
 | tup h l=>cases e;exact⟨_,_,rfl,.inr h,l⟩
 | rol h l=>cases e;exact⟨_,_,rfl,.inl h.sq,l⟩
 | ref a =>
  unfold E3 at e;dsimp only at e;cases z:G a with
  | none=>rw[z]at e;cases e
  | some o =>
   rw[z]at e;cases o with
   | lst ys=>cases e;obtain⟨vs,c,t1⟩:=r a _ z;exact⟨a,vs,rfl,.inl (SqL.of c),t1⟩
   | exc C|ins C fs|dct b=>cases e
 | _=>cases e
def GV:List W->Option (List V)
 | []=>some []
 | w::ws=>(JT w).bind λv=>(GV ws).map (v::·)
theorem RF:∀{a:List W}{vs us:List V},GV a=some us->TrL K H vs a->vs=us/\vs.all D2=true
 | [],vs,us,e,t=>by cases e;cases t;exact⟨rfl,rfl⟩
 | w::a,vs,us,e,t=>by
  cases t with
  | cons j t =>
   obtain⟨f,g,b⟩:=Qa.mp (e);obtain⟨fs,h,d⟩:=YO.mp b;obtain⟨h1,h2⟩:=RB j g;obtain⟨i,c⟩:=RF h t;subst d;exact⟨by rw[h1,i],by rw[List.all_cons,h2,c];rfl⟩
def inF(neg:Bool)(x y:W)(G:Hw):Option W:=(JT x).bind λv=>(E3 G y).bind λxs=>(GV xs).map λus=>.bl (if neg then !inV v us else inV v us)
theorem RG(b:Bool)(x y:W)(v u:V)(G:Hw)(H:Hp)(Q:VK)(i:Tr K H v x)(ty:Tr K H u y)(r:RelH K H G)(q:Af (inF b) x y G (dn K H Q)):rIn K b v u H Q:=by
 obtain⟨w,e,m⟩:=CL q;obtain⟨f,j,d⟩:=Qa.mp e;obtain⟨xs,k,h⟩:=Qa.mp d;obtain⟨p,o,n⟩:=YO.mp h;subst n;obtain⟨h1,h2⟩:=RB i j;obtain⟨a,vs,rfl,c,t⟩:=MW r ty k;obtain⟨l,g⟩:=RF o t;subst h1;subst l;exact⟨a,vs,rfl,c,h2,g,m _ H .refl (.bl _) r⟩
end
section
variable {X:Cx}{a b e o i:Expr}{ga gv go gi:GE}{gt:GT}{g:GS}
def E4(gt:GT)(g:GS):GS:=λD ω G=>∃ W:Nat->Sw->Hw->Prop,(∃ m,W m ω G)/\∀ m ω G,W m ω G->
 gt ω G λb G1=>if b=true then g {nx:=λω' G'=>∃ m',m' < m/\W m' ω' G',rt:=D.rt,bk:=D.nx,ct:=λω' G'=>∃ m',m' < m/\W m' ω' G'} ω G1 else D.nx ω G1
theorem gS(e:gt.M)(mb:g.M):GS.M (E4 gt g):=λω G D j h1 h2 i h⟨W,f,a⟩=>⟨W,f,λm ω G w=>e _ _ _ _ (λb G1 z=>by
 cases b with
 | true=>exact mb _ _ {nx:=λω' d=>∃ c,c < m/\W c ω' d,rt:=D.rt,bk:=D.nx,ct:=λω' d=>∃ c,c < m/\W c ω' d} _ (λ_ _ y=>y) h2 h1 (λ_ _ y=>y) z
 | false=>exact h1 _ _ z) (a m ω G w)⟩
theorem gT(x:PassesOwn (model X.prog X.w) X.A X.env X.xe)(q:gt.M)(mb:g.M)(hc:PTw X c gt)(p:Et X P sts g):PSw X P (.While c sts [] pos) (E4 gt g):=λB E=>
 C1 (bN x hc (p B E)) <| by
  rintro D σ H ⟨ω,G,s,r,l,W,⟨u,t⟩,i⟩;refine⟨λm σ' H'=>Mono X.K B H'/\∃ ω' e,TrSt X.K H' σ' ω'/\RelH X.K H' e/\W m ω' e,⟨u,l,ω,G,s,r,t⟩,?_⟩;rintro m σ' H' ⟨o,ω',e,f,r',v⟩;refine⟨ω',e,f,r',q _ _ _ _ (λb G1 z H1 j r1=>?_) (i m ω' e v)⟩;cases b with
  | true =>
   refine⟨λσ2 H2=>∃ d,d < m/\Mono X.K B H2/\∃ ω2 G2,TrSt X.K H2 σ2 ω2/\RelH X.K H2 G2/\W d ω2 G2,(by rintro σ2 H2 ⟨d,h1,h2⟩;exact⟨d,h1,h2⟩),ω',G1,f.mono j,r1,o.trans j,?_⟩
   exact mb _ _ {nx:=λω' e=>∃ d,d < m/\W d ω' e,rt:=(dnD X.K B D).rt,bk:=(dnD X.K B D).nx,ct:=λω' e=>∃ d,d < m/\W d ω' e} _
    ((by rintro a b ⟨d,h1,h2⟩ σ2 H2 k h n;exact⟨d,h1,k,a,b,h,n,h2⟩)) (λa b y=>y) (λa b y=>y) ((by rintro a b ⟨d,h1,h2⟩ σ2 H2 k h n;exact⟨d,h1,k,a,b,h,n,h2⟩)) z
  | false =>
   exact z σ' H1 (o.trans j) (f.mono j) r1
theorem GW(b:PassesOwn (model X.prog X.w) X.A X.env X.xe)(hc:Tm X c gt)(a:Ssm X P sts g):Sm X P (.While c sts [] pos) (E4 gt g):=⟨gT b hc.m a.m hc.p a.p,gS hc.m a.m⟩
def FZ(ω:Sw)(i:Nat):Option W:=match ω[i]? with | some (some w)=>some w | _=>none
theorem gU(ts:TrSt K H σ ω)(e:FZ ω n=some w):∃ v,σ[n]?=some (some v)/\Tr K H v w:=by
 unfold FZ at e;split at e
 ·rename_i u z;cases e;exact ts.get n _ z
 ·cases e
def C4(n:Nat)(r:RW2)(ga:GE):GS:=λD ω G=>opt (FZ ω n) λx=>ga ω G λy G1=>r x y G1 λz G2=>D.nx (ω.set n (some z)) G2
theorem gW(mr:r.M)(b:ga.M):GS.M (C4 n r ga):=λω G D c h1 _ _ _ q=>MM (λx q=>b _ _ _ _ (λy G1 z=>mr _ _ _ _ _ (λw G2 a=>h1 _ _ a) z) q) q
theorem gX{a:R2}(k:OpR X (inplaceOp op) a)(mr:r.M)(F:∀(x y:W)(v u:V)(G:Hw)(H:Hp)(Q:VK),Tr X.K H v x->Tr X.K H u y->RelH X.K H G->r x y G (dn X.K H Q)->a v u H Q)(p:X.N.Nodup)(hi:X.N[n]?=some x)(A:Loc X.env.scope x)(o:X.fn x=true\/X.env.scope.names.lookup x=some .local)(E:ga.M)(g:PEw X e ga):PSw X P (.AugAssign (.Name x pos') op e pos) (C4 n r ga):=λB O=>
 C1 (bL p hi A g (λpins s σ H x y v u Q I r1 a h=>k pins s σ H x y v u Q I r1 a h) o) <| by
  rintro D σ H ⟨ω,G,b,J,mb,q⟩;obtain⟨w,i,q⟩:=CL q;obtain⟨v,f,t⟩:=gU b i;refine⟨v,f,ω,G,b,J,E _ _ _ _ (λy G1 z u H1 m d r1=>?_) q⟩;exact F w y v u G1 H1 _ (t.mono m) d r1 (mr _ _ _ _ _ (λL G2 l v2 H2 c j a=>l _ H2 ((mb.trans m).trans c) (((b.mono m).mono c).set n j) a) z)
def C5:RW2:=λx y G Q=>match x,y with
 | .int i,.int j=>Q (.int (i+j)) G
 | .str a,.str b=>a.length+b.length<=sizeLine/\Q (.str (a++b)) G
 | _,_=>False
theorem RH:RW2.M C5:=λx y G Q a h q=>by
 cases x <;> cases y <;> first | exact q | exact h _ _ q | exact⟨q.1,h _ _ q.2⟩
theorem gY(x y:W)(v u:V)(G:Hw)(H:Hp)(Q:VK)(a:Tr K H v x)(ty:Tr K H u y)(r:RelH K H G)(q:C5 x y G (dn K H Q)):
  (rI0 λi j=>.int (i+j)) v u H Q\/(∃ i j,v=.str i/\u=.str j/\i.length+j.length<=sizeLine/\Q (.str (i++j)) H):=by
 cases a with
 | int i=>cases ty <;> first | exact q.elim | exact .inl ⟨_,_,rfl,rfl,q _ H .refl (.int _) r⟩
 | str i=>cases ty <;> first | exact q.elim | exact .inr ⟨_,_,rfl,rfl,q.1,q.2 _ H .refl (.str _) r⟩
 | _=>exact q.elim
def D5(o k v:W)(G:Hw)(Q:Hw->Prop):Prop:=match o,k with
 | .ref a,.int j=>(match G a with
  | some (.lst xs)=>(match ixN xs.length j with | some n=>Q (put G a (.lst (xs.set n v)))| none=>False)
  | _=>False)
 | _,_=>False
theorem RI{o:W}(q:D5 o k v G Q):∃ a j xs n,o=.ref a/\k=.int j/\G a=some (.lst xs)/\ixN xs.length j=some n/\Q (put G a (.lst (xs.set n v))):=by
 unfold D5 at q;split at q
 ·split at q
  ·rename_i xs e;split at q
   ·rename_i n b;exact⟨_,_,xs,n,rfl,rfl,e,b,q⟩
   ·exact q.elim
  ·exact q.elim
 ·exact q.elim
theorem MX{a:Addr}(e:G a=some (.lst xs))(b:ixN xs.length j=some n)(q:Q (put G a (.lst (xs.set n v)))):D5 (.ref a) (.int j) v G Q:=by
 unfold D5;dsimp only;rw[e];dsimp only;rw[b];exact q
theorem gZ{o:W}{b:Hw->Prop}(h:∀ G,Q G->b G)(q:D5 o k v G Q):D5 o k v G b:=by
 obtain⟨a,j,xs,n,rfl,rfl,e,c,q⟩:=RI q;exact MX e c (h _ q)
theorem g5{o:W}(i:Tr K H x v)(ty:Tr K H y o)(g:Tr K H u k)(r:RelH K H G)(q:D5 o k v G Pq)(f:∀ d b,Mono K H b->RelH K b d->Pq d->R b):QY y u x H R:=by
 obtain⟨a,j,xs,n,rfl,rfl,e,h,q⟩:=RI q;cases ty;cases g;obtain⟨vs,c,t⟩:=r a _ e;exact⟨a,vs,j,n,rfl,rfl,c,by rw[t.length];exact h,f _ _ (Mono.lst c _) (r.chg c (TrL.set i n t)) q⟩
def CM(gv go gi:GE):GS:=λD ω G=>gv ω G λv G1=>go ω G1 λo G2=>gi ω G2 λk G3=>D5 o k v G3 λG4=>D.nx ω G4
theorem g6(b:gv.M)(mo:go.M)(a:gi.M):GS.M (CM gv go gi):=λω G D e h1 _ _ _ q=>
 b _ _ _ _ (λv G1 z=>mo _ _ _ _ (λo G2 z=>a _ _ _ _ (λk c z=>gZ (λd z=>h1 _ _ z) z) z) z) q
theorem g7(t:∀ v,assign (.Subscript o i pos') X.env v=(do
   let ov <- holding [v] (eval o X.env)
   let iv <- holding [v,ov] (eval i X.env)
   standAt pos'
   holding [v,ov,iv] (setItem ov iv v)
   release [v,ov,iv] []))(l:swapsWithSole [.Subscript o i pos'] e pos.line X.env=pure false)(hw:swappedStores [.Subscript o i pos'] e X.env=pure none)(h1:(assignEach [.Subscript o i pos'] X.env).map (·.2)=[assign (.Subscript o i pos') X.env])(f:Em X e gv)(g:Em X o go)(hi:Em X i gi):Sm X P (.Assign [.Subscript o i pos'] e pos) (CM gv go gi):=
 ⟨λB L=>C1 (Qy f.p (bI g.p hi.p du t) l hw h1) λD σ H⟨ω,G,d,r,mb,q⟩=>⟨ω,G,d,r,f.m _ _ _ _ (λv G1 z x H1 c F r1=>
  ⟨ω,G1,d.mono c,r1,g.m _ _ _ _ (λJ G2 A y H2 a ty s=>
   ⟨ω,G2,(d.mono c).mono a,s,hi.m _ _ _ _ (λk N I u O b j n=>
    g5 ((F.mono a).mono b) (ty.mono b) j n I (λK E h w q4=>q4 σ E ((((mb.trans c).trans a).trans b).trans h) ((((d.mono c).mono a).mono b).mono h) w)) A⟩) z⟩) q⟩,g6 f.m g.m hi.m⟩
abbrev GO:=Sw->Hw->(Option Int->Hw->Prop)->Prop
def GO.M(g:GO):Prop:=∀ ω G(Q Q':Option Int->Hw->Prop),(∀ w G',Q w G'->Q' w G')->g ω G Q->g ω G Q'
def dnO(K:PySem.W.Frag)(H:Hp)(Q:Option Int->Hp->Prop):Option Int->Hw->Prop:=λb G=>∀ H',Mono K H H'->RelH K H' G->Q b H'
def upO(K:PySem.W.Frag)(g:GO):TO:=λσ H Q=>∃ ω G,TrSt K H σ ω/\RelH K H G/\g ω G (dnO K H Q)
structure Om(X:Cx)(e:Option Expr)(g:GO):Prop where
 p:PO X e (upO X.K g)
 m:g.M
def Bk:GO:=λ_ G Q=>Q none G
def A2(ga:GE):GO:=λω G Q=>ga ω G λw G1=>match w with | .int j=>Q (some j) G1 | _=>False
theorem g8:Om X none Bk:=⟨(by rintro pins s σ H Q I ⟨ω,G,a,r,q⟩;exact dg pins s σ H Q I (q H .refl r)),λ_ _ _ _ h q=>h _ _ q⟩
theorem MY(h:Em X e ga):Om X (some e) (A2 ga):=⟨λpins s σ H Q I⟨ω,G,b,r,q⟩=>dh h.p pins s σ H Q I ⟨ω,G,b,r,h.m _ _ _ _ (λw G1 z v H1 m t r1=>by
  cases w with
  | int j=>exact⟨j,Rk t,z H1 m r1⟩
  | _=>exact z.elim) q⟩,λω G Q c a q=>h.m _ _ _ _ (λw G1 z=>by cases w <;> first | exact a _ _ z | exact z) q⟩
def Co{α:Type}(xs:List α)(lo hi:Option Int):List α:=(xs.drop (HT.sIx xs.length 0 lo)).take (HT.sIx xs.length xs.length hi - HT.sIx xs.length 0 lo)
def slW(w:W)(lo hi:Option Int)(G:Hw)(Q:Kw):Prop:=match w with
 | .tup xs=>¬ (HT.sIx xs.length 0 lo=0/\HT.sIx xs.length xs.length hi=xs.length)/\Q (.tup (Co xs lo hi)) G
 | .rol xs=>∀ p,G p=none->Q (.ref p) (put G p (.lst (Co xs lo hi)))
 | .ref a=>(match G a with | some (.lst xs)=>∀ p,G p=none->Q (.ref p) (put G p (.lst (Co xs lo hi)))| _=>False)
 | _=>False
theorem JW{lo:Option Int}(h:∀ w d,Q w d->c w d)(q:slW w lo hi G Q):slW w lo hi G c:=by
 cases w with
 | tup xs=>exact⟨q.1,h _ _ q.2⟩
 | rol xs=>exact λp b=>h _ _ (q p b)
 | ref a =>
  unfold slW at q ⊢;dsimp only at q ⊢;cases e:G a with
  | none=>rw[e]at q;exact q.elim
  | some g =>
   rw[e]at q;cases g with
   | lst xs=>exact λp b=>h _ _ (q p b)
   | exc C|ins C fs|dct f=>exact q.elim
 | _=>exact q.elim
theorem TrL.cut{a:List W}(t:TrL K H vs a)(lo hi:Option Int):TrL K H (GJ vs lo hi) (Co a lo hi):=by
 unfold GJ Co;rw[t.length];exact(t.drop _).take _
theorem JX{lo:Option Int}(t:Tr K H v w)(r:RelH K H G)(q:slW w lo hi G (dn K H Q)):Mv K v lo hi H Q\/MB K v lo hi H Q:=by
 cases t with
 | tup h l =>
  exact .inl ⟨_,_,rfl,h,by rw[l.length];exact q.1,λp b=>q.2 _ _ (Mono.new b _) (.tup (SqT.of B4) ((l.cut lo hi).mono (Mono.new b _))) (r.mono0 b)⟩
 | rol h l=>exact .inr ⟨_,_,rfl,h.sq,λp b=>q p (r.no b) _ _ (Mono.new b _) (.ref p) (r.new b (l.cut lo hi))⟩
 | ref a =>
  unfold slW at q;dsimp only at q;cases e:G a with
  | none=>rw[e]at q;exact q.elim
  | some f =>
   rw[e]at q;cases f with
   | lst xs =>
    obtain⟨vs,d,l⟩:=r a _ e;exact .inr ⟨_,_,rfl,SqL.of d,λp b=>q p (r.no b) _ _ (Mono.new b _) (.ref p) (r.new b (l.cut lo hi))⟩
   | exc C|ins C fs|dct c=>exact q.elim
 | _=>exact q.elim
def gSl(ga:GE)(gl gh:GO):GE:=λω G Q=>ga ω G λw G1=>gl ω G1 λlo G2=>gh ω G2 λhi G3=>slW w lo hi G3 Q
theorem g9{lo:Option Expr}(b:Em X e ga)(hl:Om X lo k)(a:Om X hi gh):Em X (.Subscript e (.Slice lo hi none p2) pos) (gSl ga k gh):=
 ⟨Be (QU (SlR.or QW QZ) b.p hl.p a.p) λσ H Q⟨ω,G,d,r,q⟩=>⟨ω,G,d,r,b.m _ _ _ _ (λw G1 z v H1 f t r1=>⟨ω,G1,d.mono f,r1,hl.m _ _ _ _ (λl G2 g H2 c s=>
   ⟨ω,G2,(d.mono f).mono c,s,a.m _ _ _ _ (λh n i A j o=>JX ((t.mono c).mono j) o (JW (λw y z=>Cj ((f.trans c).trans j) z) i)) g⟩) z⟩) q⟩,
  λω G Q x h q=>b.m _ _ _ _ (λw G1 z=>hl.m _ _ _ _ (λl G2 g=>a.m _ _ _ _ (λu n i=>JW h i) g) z) q⟩
end
abbrev UpW(K:PySem.W.Frag)(r:RW2)(r2:R2):Prop:=∀(x y:W)(v u:V)(G:Hw)(H:Hp)(Q:VK),Tr K H v x->Tr K H u y->RelH K H G->r x y G (dn K H Q)->r2 v u H Q
structure Cop(X:Cx)(op:CmpOp)(r:RW2):Prop where
 ex:∃ r2,OpR X (compareOp op) r2/\UpW X.K r r2
 m:r.M
def AT(a b:Str):Bool:=decide (a.cps.toList < b.cps.toList)
def AY(f:Int->Int->Bool)(g:Str->Str->Bool):RW2:=λx y G Q=>match x,y with
 | .int i,.int j=>Q (.bl (f i j)) G
 | .str i,.str j=>Q (.bl (g i j)) G
 | _,_=>False
theorem RJ:RW2.M (AY f g):=λx y G Q a h q=>by
 cases x <;> cases y <;> first | exact q | exact h _ _ q
theorem RK:UpW K (AY f g) (λx y H Q=>rI0 (λi j=>.bl (f i j)) x y H Q\/∃ i j,x=.str i/\y=.str j/\Q (.bl (g i j)) H):=λx y v u G H Q a ty r q=>by
 cases a with
 | int i=>cases ty <;> first | exact q.elim | exact .inl ⟨_,_,rfl,rfl,q _ H .refl (.bl _) r⟩
 | str i=>cases ty <;> first | exact q.elim | exact .inr ⟨_,_,rfl,rfl,q _ H .refl (.bl _) r⟩
 | _=>exact q.elim
theorem hA:OpR X (compareOp .LtE) (λx y H Q=>∃ i j,x=.str i/\y=.str j/\Q (.bl (!AT j i)) H):=by
 intro pins s σ H x y v u Q I b a h;obtain⟨i,j,rfl,rfl,q⟩:=h;obtain⟨t,rfl⟩:=b;obtain⟨t',rfl⟩:=a;exact PySem.P.le_str ⟨.bl _,H,I,rfl,q⟩
theorem JY:Cop X .Lt (AY (λi j=>decide (i < j)) AT):=⟨⟨_,OpR.or cf ck,RK⟩,RJ⟩
theorem HY:Cop X .LtE (AY (λi j=>decide (i<=j)) (λa b=>!AT b a)):=⟨⟨_,OpR.or cg hA,RK⟩,RJ⟩
theorem hE:Cop X .Gt (Bi λi j=>decide (j < i)):=⟨⟨_,ci,Ru⟩,Rt⟩
theorem hF:Cop X .GtE (Bi λi j=>decide (j<=i)):=⟨⟨_,cj,Ru⟩,Rt⟩
theorem RL(a:X.A.units+100 < cLine):Cop X .Eq (Af (eqF false)):=⟨⟨_,gQ a,RE false⟩,D3⟩
theorem RM(a:X.A.units+100 < cLine):Cop X .NotEq (Af (eqF true)):=⟨⟨_,gR a,RE true⟩,D3⟩
theorem hG:Cop X .In (Af (inF false)):=⟨⟨_,dy,RG false⟩,D3⟩
theorem hH:Cop X .NotIn (Af (inF true)):=⟨⟨_,dz,RG true⟩,D3⟩
section
variable {r r':RW2}{ga gb gc:GE}
theorem RN(C:Cop X op r)(e:behindInMarks op b=false)(d:Em X a ga)(c:Em X b gb):Em X (.Compare a [op] [b] pos) (Ad r ga gb):=
 let⟨_,h1,h2⟩:=C.ex
 ⟨eD h1 C.m d.m c.m h2 d.p c.p e,DD C.m d.m c.m⟩
theorem HZ(C:Cop X op r)(e:behindInMarks op b=false)(d:Em X a ga)(c:Em X b gb):Tm X (.Compare a [op] [b] pos) (gTB (Ad r ga gb)):=
 let⟨_,h1,h2⟩:=C.ex
 ⟨eS h1 C.m d.m c.m h2 d.p c.p e,Rj (DD C.m d.m c.m)⟩
def B0(r r':RW2)(ga gb gc:GE):GE:=λω G Q=>ga ω G λx G1=>gb ω G1 λy G2=>r x y G2 λz G3=>match z with
 | .bl k=>if k=true then gc ω G3 λw G4=>r' y w G4 Q else Q (.bl false) G3
 | _=>False
theorem MZ(mr:r.M)(a:r'.M)(d:ga.M)(mb:gb.M)(b:gc.M):GE.M (B0 r r' ga gb gc):=λω G Q f h q=>
 d _ _ _ _ (λx G1 z=>mb _ _ _ _ (λy G2 z=>mr _ _ _ _ _ (λc e z=>by
  cases c with
  | bl k =>
   cases k with
   | true=>exact b _ _ _ _ (λw g z=>a _ _ _ _ _ h z) z
   | false=>exact h _ _ z
  | _=>exact z) z) z) q
theorem RP(u:UpW K r b)(A:UpW K r' a)(mr:r.M)(f:r'.M)(t:ga.M)(mb:gb.M)(n:gc.M)(σ:St)(H:Hp)(Q:VK)(h:up K (B0 r r' ga gb gc) σ H Q):Mo b a (up K ga) (up K gb) (up K gc) σ H Q:=by
 obtain⟨ω,G,g,B,q⟩:=h;refine⟨ω,G,g,B,t _ _ _ _ (λx G1 I v H1 e F r1=>⟨ω,G1,g.mono e,r1,mb _ _ _ _ (λy G2 s v2 H2 c ty b=>?_) I⟩) q⟩;refine u x y v v2 G2 H2 _ (F.mono c) ty b (mr _ _ _ _ _ (λk D i v3 J d tk j=>?_) s);cases k with
 | bl k =>
  refine⟨k,GP tk,?_⟩;cases k with
  | true =>
   refine⟨ω,D,((g.mono e).mono c).mono d,j,n _ _ _ _ (λw m E v4 z l L p=>?_) i⟩;exact A y w v2 v4 m z Q ((ty.mono d).mono l) L p (f _ _ _ _ _ (λO N o=>Cj (((e.trans c).trans d).trans l) o) E)
  | false =>
   exact i _ J ((e.trans c).trans d) (.bl false) j
 | _=>exact i.elim
theorem RQ(C:Cop X op r)(f:Cop X op' r')(g:lastMarks [op,op'] [b,c]=false)(e:Em X a ga)(d:Em X b gb)(hc:Em X c gc):Em X (.Compare a [op,op'] [b,c] pos) (B0 r r' ga gb gc):=
 let⟨_,h1,h2⟩:=C.ex
 let⟨_,h3,h4⟩:=f.ex
 ⟨Be (cu h1 h3 e.p d.p hc.p g) (RP h2 h4 C.m f.m e.m d.m hc.m),MZ C.m f.m e.m d.m hc.m⟩
theorem RS(C:Cop X op r)(f:Cop X op' r')(g:lastMarks [op,op'] [b,c]=false)(e:Em X a ga)(d:Em X b gb)(hc:Em X c gc):Tm X (.Compare a [op,op'] [b,c] pos) (gTB (B0 r r' ga gb gc)):=
 let⟨_,h1,h2⟩:=C.ex
 let⟨_,h3,h4⟩:=f.ex
 ⟨JI (cw h1 h3 e.p d.p hc.p g) λσ H Q z=>RP h2 h4 C.m f.m e.m d.m hc.m σ H _ (Rm (MZ C.m f.m e.m d.m hc.m) z),Rj (MZ C.m f.m e.m d.m hc.m)⟩
end
abbrev UpC(K:PySem.W.Frag)(r:RWc)(r1:List V->Hp->VK->Prop):Prop:=∀ ws vs G H Q,TrL K H vs ws->RelH K H G->r ws G (dn K H Q)->r1 vs H Q
structure Blt(X:Cx)(f:Value)(r:RWc):Prop where
 ex:∃ r1,CallR X f r1/\UpC X.K r r1
 m:r.M
theorem Cp{id:String}(f:bootBuiltins x=some (.builtin id))(B:Blt X (.builtin id) r)(c:Gl X x)(g:X.mg x=none)(i:x≠"__name__")(b:(x==("__debug__":Str))=false)(h:starEach (e::es) X.env=(false,eval e X.env)::starEach es X.env)(a:(backTo pos (starEach es X.env)).any (·.1)=false)(d:Am X (e::es) gs):Em X (.Call (.Name x p) (e::es) [] pos) (gB r gs):=
 let⟨_,h1,h2⟩:=B.ex
 gE h1 B.m h2 c g f i b h a d
theorem GX(f:bootBuiltins x=some (.type T))(B:Blt X (.type T) r)(c:Gl X x)(g:X.mg x=none)(i:x≠"__name__")(b:(x==("__debug__":Str))=false)(h:starEach (e::es) X.env=(false,eval e X.env)::starEach es X.env)(a:(backTo pos (starEach es X.env)).any (·.1)=false)(d:Am X (e::es) gs):Em X (.Call (.Name x p) (e::es) [] pos) (gB r gs):=
 let⟨_,h1,h2⟩:=B.ex
 gF h1 B.m h2 c g f i b h a d
theorem JZ:Blt X (.builtin "len") (rF AM):=⟨⟨_,cD,gJ⟩,FW⟩
theorem F0(hc:X.calm=true):Blt X (.builtin "all") (rF B6):=⟨⟨_,gA hc,gG⟩,FW⟩
theorem M0(hc:X.calm=true):Blt X (.builtin "sum") D4:=⟨⟨_,gD hc,gI⟩,gH⟩
def Ey:RWc:=λws G Q=>match ws with
 | [w]=>(match E3 G w with | some xs=>∀ p,G p=none->Q (.ref p) (put G p (.lst xs))| none=>False)
 | _=>False
theorem hI:RWc.M Ey:=λb G Q c h q=>by
 unfold Ey at q ⊢;split at q
 ·split at q
  ·exact λp a=>h _ _ (q p a)
  ·exact q.elim
 ·exact q.elim
theorem hJ:UpC K Ey (λxs H Q=>∃ p ys,xs=[.ref p]/\(SqL K H p ys\/SqT K H p ys)/\∀ l,H l=none->Q (.ref l) (upd H l (.lst ys))):=λh vs G H Q t r q=>by
 unfold Ey at q;split at q
 ·rename_i g;split at q
  ·rename_i xs e;cases t with
   | cons f t =>
    cases t;obtain⟨a,c,rfl,d,l⟩:=MW r f e;exact⟨a,c,rfl,d,λp b=>q p (r.no b) _ _ (Mono.new b _) (.ref p) (r.new b l)⟩
  ·exact q.elim
 ·exact q.elim
theorem hL:Blt X (.type "list") Ey:=⟨⟨_,dA,hJ⟩,hI⟩
def Cq(ws:List W)(G:Hw):Option W:=match ws with | [w]=>(E3 G w).map W.tup | _=>none
theorem hM:UpC K (rF Cq) (λxs H Q=>∃ p ys,xs=[.ref p]/\((SqL K H p ys/\∀ l,H l=none->Q (.ref l) (upd H l (.tup ys)))\/(SqT K H p ys/\Q (.ref p) H))):=λj vs G H Q t r q=>by
 obtain⟨w,e,f⟩:=CL q;unfold Cq at e;split at e
 ·obtain⟨xs,h,g⟩:=YO.mp e;subst g;cases t with
  | cons i t =>
   cases t;obtain⟨a,d,rfl,b,l⟩:=MW r i h;rcases b with b | b
   ·exact⟨a,d,rfl,.inl ⟨b,λp c=>f _ _ (Mono.new c _) (.tup (SqT.of B4) (l.mono (Mono.new c _))) (r.mono0 c)⟩⟩
   ·exact⟨a,d,rfl,.inr ⟨b,f _ H .refl (.tup b l) r⟩⟩
 ·cases e
theorem RU:Blt X (.type "tuple") (rF Cq):=⟨⟨_,dB,hM⟩,FW⟩
def DG(ws:List W)(_:Hw):Option W:=match ws with | [.int i]=>some (.int i)| [.bl k]=>some (.int (if k then 1 else 0))| _=>none
theorem hR:UpC K (rF DG) (λxs H Q=>(∃ i,xs=[.int i]/\Q (.int i) H)\/∃ k,xs=[.bl k]/\Q (.int (if k then 1 else 0)) H):=λc vs G H Q t r q=>by
 obtain⟨w,e,b⟩:=CL q;unfold DG at e;split at e
 ·cases e;cases t with
  | cons a t=>cases t;cases a;exact .inl ⟨_,rfl,b _ H .refl (.int _) r⟩
 ·cases e;cases t with
  | cons a t=>cases t;cases a;exact .inr ⟨_,rfl,b _ H .refl (.int _) r⟩
 ·cases e
theorem hU:Blt X (.type "int") (rF DG):=⟨⟨_,cC,hR⟩,FW⟩
def Dj:List Int->Int
 | []=>0
 | [x]=>x
 | x::y::r=>max x (Dj (y::r))
theorem RV:∀{ns:List Int}{m:Int},m∈ns->m<=Dj ns
 | [x],m,h=>by rw[YA.mp h];exact Int.le_refl _
 | x::y::r,m,h=>by
  walk_at "ph"
  ·exact Int.le_max_left ..
  ·exact Int.le_trans (RV h) (Int.le_max_right ..)
theorem RW:∀{ns:List Int},ns≠[]->Dj ns∈ns
 | [x],_=>YA.mpr rfl
 | x::y::r,_=>by
  show max x (Dj (y::r))∈x::y::r;rcases Int.le_total x (Dj (y::r))with z | z
  ·rw[Int.max_eq_right z];exact Yd _ (RW (by simp))
  ·rw[Int.max_eq_left z];exact Ye
theorem hV(h:0 < ns.length):ns.getD (argBest (λi j=>decide (ns.getD i 0 > ns.getD j 0)) (ns.length - 1)) 0=Dj ns:=by
 obtain⟨h1,h2⟩:=argBest_gt (λi=>ns.getD i 0) (ns.length - 1);have a:ns≠[]:=by intro z;rw[z]at h;simp at h
 have b:argBest (λi j=>decide (ns.getD i 0 > ns.getD j 0)) (ns.length - 1) < ns.length:=by lia
 refine Int.le_antisymm (RV ?_) ?_
 ·rw[YY,Yp b];exact Qc _
 ·obtain⟨i,hi,e⟩:=List.mem_iff_getElem.mp (RW a);have:=h2 i (by lia);rw[<- e];have z:ns.getD i 0=ns[i]:=by rw[YY,Yp hi];rfl
  rw[<- z];exact this
theorem hW(hc:X.calm=true):CallR X (.builtin "max") (λxs H Q=>∃(p:Addr)(ns:List Int),xs=[.ref p]/\SqL X.K H p (ns.map V.int)/\0 < ns.length/\Q (.int (Dj ns)) H):=by
 intro pins s σ H xs m Q I r h;obtain⟨p,ns,rfl,l,a,q⟩:=h;obtain⟨u,rfl,j⟩:=CZ r;cases j;obtain⟨f,r',pl,w⟩:=I.list l;have hl:=r'.length;rw[Yh]at hl;obtain⟨o,n,e,_⟩:=id pl
 refine call_max_walk (wpAny_pyIter_list pl.isList ⟨s.heap.objs.size,_,_,_,_,_,_,rfl,Walks.list (A:=X.A.in1) (I.ok.hd hc) _ p (Ys (Qn e)) f.toArray,
  ⟨⟨_,Qo _ rfl,rfl,rfl⟩,pl.isList.push _⟩,λb g=>?_,by rw[Yn,<- hl];exact a,CmpOf.ints_gt (λi=>ns.getD i 0) (λi v d=>MU r' d),λv h' tk d k=>?_⟩)
 ·rw[Qp];rcases Yo.mp g with c | c
  ·rw[c];exact Nat.lt_succ_self _
  ·rw[YA.mp c];exact Nat.lt_succ_of_lt (Qn e)
 ·obtain⟨t,rfl⟩:=MU r' d;refine⟨.int (Dj ns),H,I.kept λb o e=>k b o (by simpa using Ys (Qn e)) (Qm _ e),⟨t,?_⟩,q⟩;rw[Yn,<- hl,hV a]
def H9(ws:List W)(G:Hw):Option W:=match ws with
 | [w]=>((Ex G w).bind E2).bind λns=>if 0 < ns.length then some (.int (Dj ns))else none
 | _=>none
theorem hX:UpC K (rF H9) (λxs H Q=>∃(p:Addr)(ns:List Int),xs=[.ref p]/\SqL K H p (ns.map V.int)/\0 < ns.length/\Q (.int (Dj ns)) H):=λm vs G H Q t r q=>by
 obtain⟨w,e,h⟩:=CL q;unfold H9 at e;split at e
 ·obtain⟨ns,f,c⟩:=Qa.mp e;obtain⟨xs,g,d⟩:=Qa.mp f;split at c
  ·rename_i b;cases c;cases t with
   | cons k t =>
    cases t;obtain⟨a,l,rfl,rfl,_,i,j⟩:=HX r k g;have:=MV d j;subst this;exact⟨a,ns,rfl,SqL.of i,b,h _ H .refl (.int _) r⟩
  ·cases c
 ·cases e
theorem RX(hc:X.calm=true):Blt X (.builtin "max") (rF H9):=⟨⟨_,hW hc,hX⟩,FW⟩
structure Mth(X:Cx)(T:String)(name:Str)(id:String)(pre:W->Hw->Prop)(r:W->List W->Hw->Kw->Prop):Prop where
 pa:PlainAttrs T
 slot:Slot T name id
 ty:typeOf (.builtin id)=pure (.type "method_descriptor")
 ex:∃ r2,MtR X id r2/\∀(o:W)(ws:List W)(v:V)(vs:List V)(G:Hw)(H:Hp)(Q:VK),Tr X.K H v o->TrL X.K H vs ws->RelH X.K H G->r o ws G (dn X.K H Q)->r2 v vs H Q
 pr:∀(o:W)(v:V)(G:Hw)(H:Hp),Tr X.K H v o->RelH X.K H G->pre o G->tyV X.K T v H
 m:∀ o ws G(Q Q':Kw),(∀ w G',Q w G'->Q' w G')->r o ws G Q->r o ws G Q'
def gMt(pre:W->Hw->Prop)(r:W->List W->Hw->Kw->Prop)(go:GE)(gs:GA):GE:=λω G Q=>go ω G λo G1=>pre o G1/\gs ω G1 λws G2=>r o ws G2 Q
theorem C6{id:String}(M:Mth X T name id pre r)(b:attributeBase o name X.env (eval o X.env)=eval o X.env)(c:((backTo cpos (starEach (e::es) X.env)).all (λx=>!x.1)&&(backToKw cpos (keywordEach [] X.env)).all (λx=>x.1.isSome)&&decide ((e::es).length+([]:List Keyword).length+(if([]:List Keyword).isEmpty then 0 else 1) < 30))=true)(a:(apos.endLine==cpos.line)=true)(t:starEach (e::es) X.env=(false,eval e X.env)::starEach es X.env)(hplain:(backTo cpos (starEach es X.env)).any (·.1)=false)(f:Em X o go)(d:Am X (e::es) gs):
  Em X (.Call (.Attribute o name apos) (e::es) [] cpos) (gMt pre r go gs):=
 let⟨_,h1,h2⟩:=M.ex
 ⟨Be (dE M.pa M.slot M.ty h1 f.p d.p b c a t hplain) λσ H Q⟨ω,G,l,u,q⟩=>⟨ω,G,l,u,f.m _ _ _ _ (λj G1 z v H1 n tv r1=>⟨M.pr j v G1 H1 tv r1 z.1,
   ω,G1,l.mono n,r1,d.m _ _ _ _ (λs G2 g vs H2 k i A=>h2 j s v vs G2 H2 Q (tv.mono k) i A (M.m _ _ _ _ _ (λw D y=>Cj (n.trans k) y) g)) z.2⟩) q⟩,
  λω G Q B h q=>f.m _ _ _ _ (λj G1 z=>⟨z.1,d.m _ _ _ _ (λs G2 g=>M.m _ _ _ _ _ h g) z.2⟩) q⟩
def B7(o:W)(G:Hw):Prop:=∃ xs,Ex G o=some xs
theorem RY(t:Tr K H v o)(r:RelH K H G)(h:B7 o G):tyV K "list" v H:=by
 obtain⟨xs,e⟩:=h;obtain⟨a,vs,rfl,_,_,b,_⟩:=HX r t e;exact .inl ⟨rfl,_,SqL.of b⟩
def E5(o:W)(G:Hw)(f:List W->Option (List W))(Q:Kw):Prop:=match o with
 | .ref a=>(match G a with | some (.lst xs)=>(match f xs with | some ys=>Q .non (put G a (.lst ys))| none=>False)| _=>False)
 | _=>False
theorem M1(q:E5 o G f Q):∃ a xs ys,o=.ref a/\G a=some (.lst xs)/\f xs=some ys/\Q .non (put G a (.lst ys)):=by
 unfold E5 at q;split at q
 ·split at q
  ·rename_i xs e;split at q
   ·rename_i ys b;exact⟨_,xs,ys,rfl,e,b,q⟩
   ·exact q.elim
  ·exact q.elim
 ·exact q.elim
theorem M2(e:G a=some (.lst xs))(b:f xs=some ys)(q:Q .non (put G a (.lst ys))):E5 (.ref a) G f Q:=by
 unfold E5;dsimp only;rw[e];dsimp only;rw[b];exact q
theorem RZ(h:∀ w b,Q w b->c w b)(q:E5 o G f Q):E5 o G f c:=by
 obtain⟨a,xs,ys,rfl,e,d,q⟩:=M1 q;exact M2 e d (h _ _ q)
def Cr(o:W)(ws:List W)(G:Hw)(Q:Kw):Prop:=match ws with
 | [y]=>E5 o G (λxs=>if xs.length < sizeLine then some (xs++[y])else none) Q
 | _=>False
theorem Ia:Mth X "list" "append" "list.append" B7 Cr where
 pa:=PySem.F.plainAttrs_list
 slot:=PySem.F.slot_list_append
 ty:=PySem.F.type_list_append
 ex:=⟨_,dG,λo i v vs G H Q tv f r q=>by
  unfold Cr at q;split at q
  ·obtain⟨a,xs,ys,rfl,e,c,q⟩:=M1 q;split at c
   ·rename_i b;cases c;cases tv;cases f with
    | cons ty t =>
     cases t;obtain⟨g,d,l⟩:=r a _ e;exact⟨a,g,_,rfl,rfl,d,by rw[l.length];exact b,q _ _ (Mono.lst d _) .non (r.chg d (l.append (.cons ty .nil)))⟩
   ·cases c
  ·exact q.elim⟩
 pr:=λo v G H t r h=>RY t r h
 m:=λo i G Q j h q=>by
  unfold Cr at q ⊢;split at q
  ·exact RZ h q
  ·exact q.elim
def GY(o:W)(ws:List W)(G:Hw)(Q:Kw):Prop:=match ws with
 | [y]=>E5 o G (λxs=>(Ex G y).bind λzs=>if xs.length+zs.length<=sizeLine then some (xs++zs)else none) Q
 | _=>False
theorem R1:Mth X "list" "extend" "list.extend" B7 GY where
 pa:=PySem.F.plainAttrs_list
 slot:=PySem.F.slot_list_extend
 ty:=PySem.F.type_list_extend
 ex:=⟨_,dI,λo u v vs G H Q tv i r q=>by
  unfold GY at q;split at q
  ·obtain⟨a,xs,ys,rfl,e,n,q⟩:=M1 q;obtain⟨zs,p,d⟩:=Qa.mp n;split at d
   ·rename_i c;cases d;cases tv;cases i with
    | cons ty t =>
     cases t;obtain⟨k,f,l⟩:=r a _ e;obtain⟨b,g,rfl,_,_,s,j⟩:=HX r ty p;exact⟨a,b,k,g,rfl,rfl,f,s,by rw[l.length,j.length];exact c,q _ _ (Mono.lst f _) .non (r.chg f (l.append j))⟩
   ·cases d
  ·exact q.elim⟩
 pr:=λo v G H t r h=>RY t r h
 m:=λo u G Q w h q=>by
  unfold GY at q ⊢;split at q
  ·exact RZ h q
  ·exact q.elim
def CC(C:Addr)(E:Addr->Hw->Prop)(gs:GA):GS:=λ_ ω G=>gs ω G λws G1=>ws.length<=sizeLine/\E C G1
theorem DH{An:List Expr}(l:mg x=some (.ref C))(q:PySem.W.excIn K C d b=true)(FB:ExcBaseFacts B b initId d)(g:Gl (cxW P w K mg base N qual scope f cd A outer s H E) x)(u:starEach (a::An) (cxW P w K mg base N qual scope f cd A outer s H E).env=(false,eval a (cxW P w K mg base N qual scope f cd A outer s H E).env)::starEach An (cxW P w K mg base N qual scope f cd A outer s H E).env)(hplain:(backTo cpos (starEach An (cxW P w K mg base N qual scope f cd A outer s H E).env)).any (·.1)=false)(hd:(x==("__debug__":Str))=false)(c:Am (cxW P w K mg base N qual scope f cd A outer s H E) (a::An) gs):
  Sm (cxW P w K mg base N qual scope f cd A outer s H E) Pb (.Raise (some (.Call (.Name x e) (a::An) [] cpos)) none pos) (CC C (dnX K H E) gs):=by
 refine⟨λv i pins o σ Hc D I h=>?_,λω G D y _ _ _ _ q=>q⟩;obtain⟨ω,G,j,r,mb,n⟩:=h;exact d5 g l q FB c.p u hplain hd pins o σ Hc D I ⟨ω,G,j,r,c.m _ _ _ _ (λF G1 z vs H1 k t r1=>⟨by rw[t.length];exact z.1,z.2 H1 ((Un.mono' I.base).trans k) r1⟩) n⟩
theorem RelH.newX(r:RelH K H G)(b:H p=none):RelH K (upd H p (.ext (DC p C))) (put G p (.exc C)):=λa u e=>by
 by_cases h:a=p
 ·subst h;rw[Ap]at e;cases e;exact B4
 ·rw[AX h]at e;exact r.mono0 b a u e
structure J0(D D':Ew):Prop where
 nx:∀ a b,D.nx a b->D'.nx a b
 rt:∀ a b,D.rt a b->D'.rt a b
 bk:∀ a b,D.bk a b->D'.bk a b
 ct:∀ a b,D.ct a b->D'.ct a b
theorem GS.M.le{g:GS}(m:g.M)(h:J0 D a)(q:g D ω G):g a ω G:=m ω G D a h.nx h.rt h.bk h.ct q
def R3(i:Nat)(D:Ew):Ew:={nx:=λω G=>D.nx (ω.set i none) G,rt:=D.rt,bk:=λω G=>D.bk (ω.set i none) G,ct:=λω G=>D.ct (ω.set i none) G}
def hY(K:PySem.W.Frag)(C0:Addr)(i:Nat)(gb:Xw->GS)(gh:GS):GS:=λD ω G=>
 gb (λω' C G'=>PySem.W.subIn K (.ref C) (.ref C0)=some true/\∀ e,G' e=none->gh (R3 i D) (ω'.set i (some (.ref e))) (put G' e (.exc C))) D ω G
def M3(K:PySem.W.Frag)(C0:Addr)(i:Nat)(gb:Xw->GS)(gh:GS):GS:=λD ω G=>∃ D0,J0 D0 D/\hY K C0 i gb gh D0 ω G
theorem hZ(Q:X.mg x=some (.ref t))(hD:PySem.W.typeIn X.K (.ref t)=some (.type "type"))(hT:(PySem.W.clsIn X.K t).isSome=true)(hB:PySem.W.subIn X.K (.ref t) (.type "BaseException")=some true)(hN:X.N.Nodup)(hi:place X.N n=some i)(hn:GR X.env.scope n=true)(J:X.stack=X.env::X.outer)(P:X.env.frame=some X.env.locals)(O:X.ex=[])(Z:Gl X x)(R:(x==("__debug__":Str))=false)(hb:∀(ex:Xw)(pn:List (Addr×Obj))(xe:Value->Shared->Prop),Dh (cxT X pn xe) ex->Ssm (cxT X pn xe) (atB X) body (gb ex))(hh:∀ e,Ssm (cxH X e) (atB X) (b0::d) gh):
  Sm X (atB X) (.Try body [.ExceptHandler (some (.Name x np)) (some n) (b0::d) v] [] [] pos) (M3 X.K t i gb gh):=by
 refine⟨λB h=>?_,(by rintro ω G D D' h1 h2 h3 h4 ⟨f,le,q⟩;exact⟨f,⟨λa b z=>h1 a b (le.nx a b z),λa b z=>h2 a b (le.rt a b z),λa b z=>h3 a b (le.bk a b z),λa b z=>h4 a b (le.ct a b z)⟩,q⟩)⟩;have u:=h
 let tb:(St->XK)->TS:=λEσ Dn σ H=>∃(ex:Xw)(f:Ew)(ω:Sw)(G:Hw),TrSt X.K H σ ω/\RelH X.K H G/\Mono X.K B H/\
  (∀ σ' C H' ω' k,Mono X.K B H'->TrSt X.K H' σ' ω'->RelH X.K H' k->ex ω' C k->Eσ σ' (.ref C) none H')/\J0 f (dnD X.K B Dn)/\gb ex f ω G
 have hbody':∀(Eσ:St->XK)(pn:List (Addr×Obj))(xe:Value->Shared->Prop),FQ (CXe X.prog X.w) (cxT X pn xe) Eσ->PSs (cxT X pn xe) body (tb Eσ):=by
  intro Eσ pn xe hp pins s σ H Dn I ⟨ex,f,ω,G,Y,r,mb,A,T,q⟩
  have pw:Dh (cxT X pn xe) ex:=by
   intro g σ' H1 s1 ev s' I1 ⟨e,C,H',ee,F,C',ω',k,eC,j,r',q'⟩;cases eC;exact hp g σ' H1 s1 ev s' I1 ⟨e,C,H',ee,F,A σ' C H' ω' k (by rw[u];exact(Un.mono' I1.base).trans (Un.mono' F.un)) j r' q'⟩
  have S:=hb ex pn xe pw;exact S.p B h pins s σ H Dn I ⟨ω,G,Y,r,mb,S.m.le T q⟩
 refine C1 (ef (th:=upS X.K B gh) hN (Rv hi) (GU hn) J P O Z Q hD hT hB hbody' (λe=>(hh e).p B h) R) λD σ H L=>?_;obtain⟨ω,G,Y,r,mb,f,le,q⟩:=L;refine⟨_,f,ω,G,Y,r,mb,λσ' C H' ω' k m' j r' z=>?_,le,q⟩;refine⟨C,rfl,z.1,λe E=>⟨ω'.set i (some (.ref e)),put k e (.exc C),(j.mono (Mono.new E _)).set i (.ref e),r'.newX E,m'.trans (Mono.new E _),?_⟩⟩
 have U:J0 (R3 i f) (dnD X.K B {nx:=λσ2 H2=>D.nx (σ2.set i none) H2,rt:=D.rt,bk:=λσ2 H2=>D.bk (σ2.set i none) H2,ct:=λσ2 H2=>D.ct (σ2.set i none) H2}):=by
  refine⟨λa b y σ2 H2 o c l=>?_,λa b y=>le.rt a b y,λa b y σ2 H2 o c l=>?_,λa b y σ2 H2 o c l=>?_⟩
  ·exact le.nx _ _ y (σ2.set i none) H2 o (c.unset i) l
  ·exact le.bk _ _ y (σ2.set i none) H2 o (c.unset i) l
  ·exact le.ct _ _ y (σ2.set i none) H2 o (c.unset i) l
 exact(hh e).m.le U (z.2 e (r'.no E))
structure DfN(P:Program)(w:World)(K:PySem.W.Frag)(mg:Str->Option Value)(base:Heap)(x:Str)(k n:Nat)(sp:Spw):Prop where
 ex:∃(f:Addr)(fd:FuncData)(ps:List Str),mg x=some (.ref f)/\PySem.W.keepIn K (.ref f)=true/\Binds K fd ps []/\ps.length=n/\MD P w K mg base CX0 k f fd ps (C2 K sp)
 mono:sp.M
theorem ia(D:DfN X.prog X.w X.K X.mg X.base x k n sp)(y:JH k X.A)(i:Gl X x)(g:(x==("__debug__":Str))=false)(u:starEach (e::es) X.env=(false,eval e X.env)::starEach es X.env)(b:(backTo pos (starEach es X.env)).any (·.1)=false)(a:Am X (e::es) gs):Em X (.Call (.Name x p) (e::es) [] pos) (Ai sp (λ_ _ _=>False) gs):=by
 obtain⟨f,fd,ps,o,t,h,_,F⟩:=D.ex;refine⟨Be (ek F y i o t h a.p g u b) λσ H Q c=>?_,MH D.mono a.m⟩;obtain⟨ω,G,j,r,q⟩:=c;refine⟨ω,G,j,r,a.m _ _ _ _ (λv G1 q1 vs H1 l d r1=>?_) q⟩;exact⟨v,G1,by rw[Yx];exact d,r1,D.mono _ _ _ _ _ _ (λw s z=>Cj l z) (λC s z=>z.elim) q1⟩
def tyN(w:W)(G:Hw):Option String:=match w with
 | .non=>some "NoneType"
 | .bl _=>some "bool"
 | .int _=>some "int"
 | .str _=>some "str"
 | .tup _=>some "tuple"
 | .rol _=>some "list"
 | .ref a=>(match G a with | some (.lst _)=>some "list" | _=>none)
def GZ(n T:String):Bool:=n==T||(n=="bool"&&T=="int")
theorem F1(a:n∈["NoneType","bool","int","str","tuple","list"])(b:T∈["tuple","list","str","int","bool","dict"]):PySem.W.kitOne K (.type n) (.type T)=some (GZ n T):=by
 simp only[Yo,YX,or_false]at a b;rcases a with rfl | rfl | rfl | rfl | rfl | rfl <;> rcases b with rfl | rfl | rfl | rfl | rfl | rfl <;> kernel_rfl
def BA(T:String)(ge:GE):GE:=λω G Q=>ge ω G λw G1=>match tyN w G1 with | some n=>Q (.bl (GZ n T)) G1 | none=>False
theorem ib(m:ge.M):GE.M (BA T ge):=λω G Q a h q=>m _ _ _ _ (λw G1 z=>by
 cases e:tyN w G1 with
 | none=>rw[e]at z;exact z
 | some n=>rw[e]at z;exact h _ _ z) q
theorem ic{σ:St}(I:Inv X pins σ H s)(b:RelV v u)(t:Tr X.K H v w)(r:RelH X.K H G)(e:tyN w G=some n)(c:T∈["tuple","list","str","int","bool","dict"])(h:∀ tk,Q (.bool (GZ n T)) {s with toks:=tk}):wpAny (model X.prog X.w) X.A (call (.builtin "isinstance") [u,.type T]) Q E s:=by
 cases t with
 | non=>cases e;cases(b);exact PySem.W.kia_one PySem.W.kitx_none I.kIn True.intro (F1 (by simp) c) (λz=>nomatch z) h
 | bl y=>cases e;cases(b);exact PySem.W.kia_one PySem.W.kitx_bool I.kIn True.intro (F1 (by simp) c) (λz=>nomatch z) h
 | int i=>cases e;obtain⟨t,rfl⟩:=b;exact PySem.W.kia_one PySem.W.kitx_int I.kIn True.intro (F1 (by simp) c) (λz=>nomatch z) h
 | str y=>cases e;obtain⟨t,rfl⟩:=b;exact PySem.W.kia_one PySem.W.kitx_str I.kIn True.intro (F1 (by simp) c) (λz=>nomatch z) h
 | tup g l =>
  cases e;cases b;obtain⟨d,_,p,_⟩:=I.tuple g;obtain⟨o,h1,h2,_⟩:=p;exact PySem.W.kia_one PySem.W.kitx_tuple I.kIn ⟨o,h1,h2⟩ (F1 (by simp) c) (λz=>nomatch z) h
 | rol g l =>
  cases e;cases b;obtain⟨d,_,p,_⟩:=I.list g.sq;obtain⟨o,h1,h2,_⟩:=p.isList;exact PySem.W.kia_one PySem.W.kitx_list I.kIn ⟨o,h1,h2⟩ (F1 (by simp) c) (λz=>nomatch z) h
 | ref a =>
  unfold tyN at e;dsimp only at e;cases f:G a with
  | none=>rw[f]at e;cases e
  | some o =>
   rw[f]at e;cases o with
   | exc C|ins C fs|dct j=>cases e
   | lst xs =>
    cases e;cases b;obtain⟨vs,k,_⟩:=r a _ f;obtain⟨d,_,p,_⟩:=I.list (SqL.of k);obtain⟨o,h1,h2,_⟩:=p.isList;exact PySem.W.kia_one PySem.W.kitx_list I.kIn ⟨o,h1,h2⟩ (F1 (by simp) c) (λz=>nomatch z) h
theorem R4:bootBuiltins "isinstance"=some (.builtin "isinstance"):=by decide +kernel
theorem Ib(E:T∈["tuple","list","str","int","bool","dict"])(A:bootBuiltins c=some (.type T))(f:X.mg c=none)(j:X.mg "isinstance"=none)(d:Gl X "isinstance")(i:Gl X c)(o:c≠"__name__")(hd:(c==("__debug__":Str))=false)(l:starEach [e,.Name c pc] X.env=[(false,eval e X.env),(false,eval (.Name c pc) X.env)])(b:starEach [.Name c pc] X.env=[(false,eval (.Name c pc) X.env)])(h:Em X e ge):Em X (.Call (.Name "isinstance" p) [e,.Name c pc] [] pos) (BA T ge):=by
 refine⟨λpins s σ H Q I g=>?_,ib h.m⟩;obtain⟨ω,G,D,r,q⟩:=g;have pa:PA X [e,.Name c pc] (JD (up X.K ge) (JD (tC (.ty T)) Mt)):=FP h.p (FP (Qw i f A rfl o hd) HN (by rfl)) (by rw[l,b]);refine wpAny_Call_Name_kw (EY I d j R4 ?_ (by decide) (by decide));refine PyProof.Rows.callWith_builtin1 (thn (pa pos pins s σ H (λvs H1=>∃ v w G1 n,vs=[v,.ty T]/\Tr X.K H1 v w/\RelH X.K H1 G1/\tyN w G1=some n/\Q (.bl (GZ n T)) H1) I ?_) λJ L⟨vs,H1,k,r1,v,w,G1,n,y,tv,x,a,qq⟩=>?_) (by rw[l,b]) (by rfl)
 ·refine⟨ω,G,D,r,h.m _ _ _ _ (λw G1 z v H1 m t r1=>?_) q⟩;cases a:tyN w G1 with
  | none=>rw[a]at z;exact z.elim
  | some n=>rw[a]at z;exact⟨v,w,G1,n,rfl,t,r1,a,z _ H1 m (.bl _) r1⟩
 ·subst y;obtain⟨u,F,rfl,B,rt⟩:=JC r1;cases rt;exact ic k B tv x a E λtk=>⟨.bl _,H1,k.tok tk,rfl,qq⟩
structure Ez(K:PySem.W.Frag)(C:Addr):Prop where
 ga:PySem.W.findIn K (.ref C) "__getattribute__"=some (some (.builtin "BaseException.__getattribute__"))
 gh:PySem.W.findIn K (.ref C) "__getattr__"=some none
 cl:(PySem.W.clsIn K C).isSome=true
 fc:PySem.W.findIn K (.ref C) "__class__"=some (some (.builtin "object.__class__"))
 sp:PySem.W.specialIn K (.builtin "object.__class__") "__get__"=some (some (.builtin "getset_descriptor.__get__"))
 tk:PySem.W.takesIn K (.builtin "object.__class__")=some true
 mr:PySem.W.mroIn K C (.type "object")=some true
 mb:PySem.W.mroIn K C (.type "BaseException")=some true
end
end L3
namespace L3
open PySem PySem.W PySem.Spec PySem.Calls PyProof.Rows PySem.Builtin PySem.Builtin.ObjectAttr PySem.Builtin.Getset_descriptor
theorem Ic(I:L2.DC x C h):Looks M h (typeOf (.ref x)) (.ref C):=by
 obtain⟨a,e,c⟩:=I;rw[<- c];exact(Looks.ld e).andThen .now
theorem ie{K:Frag}(X:K.In h)(c:findIn K (.ref C) name=some (some a))(b:specialIn K a "__get__"=some (some g))(i:takesIn K a=some true):Looks M h (find (.ref x) (.ref C) name) (.bind g a):=by
 have e:=looks_findIn (M:=M) X c;have d:Looks M h (getOf (some a)) (some g):=looks_specialIn X b;have f:Looks M h (dataDescriptor? (some a) (some g)) (some (g,a)):=(looks_takesIn X i).andThen .now;exact e.andThen (d.andThen (f.andThen (Looks.tag .now)))
theorem ig{K:Frag}(X:K.In s.heap)(I:L2.DC x C s.heap)(a:mroIn K C (.type "object")=some true)(h:R (.ok (.ret (.ref C))) s):codeAny (model prog w) A (.call (.builtin "getset_descriptor.__get__") ⟨[.builtin "object.__class__",.ref x,b],[]⟩) R s:=by
 obtain⟨e,d,c,tt,os⟩:=s;have LT:=Ic (M:=model prog w) I;have LM:=looks_mroIn (M:=model prog w) X a;refine codeAny_call_builtin KF.slot_gs.plain KF.entry_gs (KF.slot_gs.check _ _ _ _ _ _ _ _ KF.type_class (KF.args_gs _ _ _) (?_:wpAny _ _ _ _ _ _));(refine Qk (Ql ?_));(unfold descrGetter descrCheckInstance descrNameAndClass isInstance);(simp only[KF.owner_class]);(repeat lk);refine⟨Code.quiet_builtin _ (by decide +kernel),(codeAny_builtin KF.entry_class ?_:codeAny _ _ _ _ _)⟩;(repeat lk);exact h
theorem ii{K:Frag}(X:K.In s.heap)(I:L2.DC x C s.heap)(c:mroIn K C (.type "BaseException")=some true)(g:Q () s):
  wpAny M A (checkBuiltinCall "BaseException.__getattribute__" ⟨[.ref x,a],[]⟩) Q E s:=by
 obtain⟨f,e,d,tt,os⟩:=s;have LT:=Ic (M:=M) I;have LM:=looks_mroIn (M:=M) X c;have b:builtinKind "BaseException.__getattribute__"=some .slot:=by decide +kernel
 have sp:splitId "BaseException.__getattribute__"=some ("BaseException","__getattribute__"):=by decide +kernel
 simp only[checkBuiltinCall,b,sp];refine Qk ?_
 repeat lk
 repeat (any_goals (first | assumption | wp_step))
theorem ij{K:Frag}(XC:Ez K C)(X:K.In s.heap)(I:L2.DC x C s.heap)(h:R (.ok (.ret (.ref C))) s):
  codeAny (model prog w) A (.call (.builtin "BaseException.__getattribute__") ⟨[.ref x,.str "__class__" tk],[]⟩) R s:=by
 refine codeAny_call_builtin F.attr_Exception.ga.plain F.entry_bexc_ga (ii X I XC.mb ?_);obtain⟨c,b,a,tt,os⟩:=s;have LT:=Ic (M:=model prog w) I;have LF:=ie (M:=model prog w) (x:=x) X XC.fc XC.sp XC.tk
 repeat (first | with_reducible refine wpAny_call (ig X I XC.mr ?_)| lk | wp_step)
 all_goals exact h
theorem ik{K:Frag}(XC:Ez K C)(X:K.In s.heap)(I:L2.DC x C s.heap)(h:Q (some (.ref C)) {s with toks:=s.toks+1}):wpAny (model prog w) A (getAttr? (.ref x) "__class__") Q E s:=by
 obtain⟨c,b,a,tt,os⟩:=s;have LT:=Ic (M:=model prog w) I;have LG:=looks_findIn (M:=model prog w) X XC.ga;have LH:=looks_findIn (M:=model prog w) X XC.gh;refine Qk (wpAny_mkText (Qk (wpAny_attempt (wpAny_holding (Qk (LT.at (Qk (LG.at (?_:wpAny _ _ _ _ _ _)))))))));refine Qk ((LH:Looks _ _ (hookBefore (.ref C)) none).at (Qk (wpAny_attempt (wpAny_holding ?_))));refine Qk (wpAny_of_eq (F.attr_Exception.ga.bind _) ?_);refine wpAny_call (ij XC X I ?_)
 first
  | exact Ql (handed_on rfl (Ql h))
  | exact Ql (Ql h)
  | exact Ql h
theorem il{K:Frag}(XC:Ez K C):KitX K (.ref x) (.ref C) (L2.DC x C) where
 ty:=λ_ _ _ I=>Ic I
 it:=λ_ _ X _=>by
  have hc:=XC.cl;unfold clsIn at hc;split at hc
  ·rename_i _ _ _ _ a;intro i f g s' k q;exact Qk (wpAny_loadPart (k _ _ (X _ _ a)) (Ql q))
  ·cases hc
 ne:=λh j d c n l X b=>by
  have hc:=XC.cl;refine Bool.eq_false_iff.mpr λq=>?_;have e:=Value.ref.inj (beq_iff_eq.mp q);subst e;unfold clsIn at hc;split at hc
  ·rename_i _ _ _ _ a;have z:=(X _ _ a).symm.trans b;cases z
  ·cases hc
 ca:=λX I k=>ik XC X I k
end L3
namespace L3
open PySem PySem.Spec PyProof.Rows L2
variable {K:PySem.W.Frag}{H:Hp}
def C7(K:PySem.W.Frag)(cv:Value)(ge:GE):GE:=λω G Q=>ge ω G λw G1=>match w with
 | .ref a=>(match G1 a with | some (.exc C)=>∃ b,Ez K C/\PySem.W.kitOne K (.ref C) cv=some b/\Q (.bl b) G1 | _=>False)
 | _=>False
theorem im(m:ge.M):GE.M (C7 K cv ge):=λω G Q f h q=>m _ _ _ _ (λw G1 z=>by
 cases w with
 | ref a =>
  dsimp only at z ⊢;cases e:G1 a with
  | none=>rw[e]at z;exact z
  | some o =>
   rw[e]at z;cases o with
   | lst xs|ins C fs|dct c=>exact z
   | exc C=>obtain⟨b,h1,h2,d⟩:=z;exact⟨b,h1,h2,h _ _ d⟩
 | _=>exact z) q
theorem R5(S:RelV cv f)(hc:PE X (.Name c pc) (tC cv))(l:X.mg "isinstance"=none)(j:Gl X "isinstance")(x:starEach [e,.Name c pc] X.env=[(false,eval e X.env),(false,eval (.Name c pc) X.env)])(d:starEach [.Name c pc] X.env=[(false,eval (.Name c pc) X.env)])(k:∀ u,RelV cv u->u=f)(h:Em X e ge):Em X (.Call (.Name "isinstance" p) [e,.Name c pc] [] pos) (C7 X.K f ge):=by
 refine⟨λpins s σ H Q I g=>?_,im h.m⟩;obtain⟨ω,G,L,r,q⟩:=g;have pa:=FP h.p (FP hc HN (by rfl)) (by rw[x,d]);refine wpAny_Call_Name_kw (EY I j l R4 ?_ (by decide) (by decide));refine PyProof.Rows.callWith_builtin1 (thn (pa pos pins s σ H (λvs H1=>∃ a C b,vs=[.ref a,cv]/\H1 a=some (.ext (DC a C))/\Ez X.K C/\PySem.W.kitOne X.K (.ref C) f=some b/\Q (.bl b) H1) I ?_) λP R⟨vs,H1,i,r1,a,C,b,A,y,F,B,qq⟩=>?_) (by rw[x,d]) (by rfl)
 ·refine⟨ω,G,L,r,h.m _ _ _ _ (λw G1 z v H1 m t r1=>?_) q⟩;cases w with
  | ref a =>
   dsimp only at z;cases n:G1 a with
   | none=>rw[n]at z;exact z.elim
   | some o =>
    rw[n]at z;cases o with
    | lst xs|ins C fs|dct J=>exact z.elim
    | exc C =>
     obtain⟨b,h1,h2,N⟩:=z;have D:=r1 a _ n;exact⟨a,C,b,by rw[GQ t],D,h1,h2,N _ H1 m (.bl _) r1⟩
  | _=>exact z.elim
 ·subst A;obtain⟨u,O,rfl,E,rt⟩:=JC r1;cases E;rw[k _ rt];obtain⟨h1,_⟩:=i.hok a _ y;exact PySem.W.kia_one (il F) i.kIn h1 B (λz=>nomatch z) λtk=>⟨.bl b,H1,i.tok tk,rfl,qq⟩
theorem G0(d:X.mg c=some (.ref C))(a:X.mg "isinstance"=none)(f:Gl X "isinstance")(g:Gl X c)(hd:(c==("__debug__":Str))=false)(i:starEach [e,.Name c pc] X.env=[(false,eval e X.env),(false,eval (.Name c pc) X.env)])(b:starEach [.Name c pc] X.env=[(false,eval (.Name c pc) X.env)])(h:Em X e ge):Em X (.Call (.Name "isinstance" p) [e,.Name c pc] [] pos) (C7 X.K (.ref C) ge):=
 R5 (cv:=.ref C) rfl (Qv g d rfl hd) a f i b (λ_ z=>z) h
theorem io(i:bootBuiltins c=some (.type T))(d:X.mg c=none)(a:X.mg "isinstance"=none)(f:Gl X "isinstance")(g:Gl X c)(j:c≠"__name__")(hd:(c==("__debug__":Str))=false)(k:starEach [e,.Name c pc] X.env=[(false,eval e X.env),(false,eval (.Name c pc) X.env)])(b:starEach [.Name c pc] X.env=[(false,eval (.Name c pc) X.env)])(h:Em X e ge):Em X (.Call (.Name "isinstance" p) [e,.Name c pc] [] pos) (C7 X.K (.type T) ge):=
 R5 (cv:=.ty T) rfl (Qw g d i rfl j hd) a f k b (λ_ z=>z) h
theorem ip:FT K H1 (Itr 0 n) ((List.range n).map λi:Nat=>W.int i) gd where
 go:=λi H G m r g hi=>by show i < n;simpa using hi
 yld:=λi H G x H' m r g y hi=>by
  obtain⟨e,ex⟩:=y;subst ex;have a:i < n:=by simpa using hi
  refine JM r e ⟨.int i,by simp[a],?_⟩;rw[Int.zero_add];exact .int _
 stop:=λH G m r g=>by show n<=_;simp
def Cd(gs:GA):GI:=λω G R=>gs ω G λws G1=>match ws with
 | [.int j]=>-(2 ^ 62)<=j/\j < 2 ^ 62/\R ((List.range j.toNat).map λi:Nat=>W.int i) yes G1
 | _=>False
theorem iq(m:gs.M):GI.M (Cd gs):=λω G R b h q=>m _ _ _ _ (λa G1 z=>by
 split at z
 ·exact⟨z.1,z.2.1,h _ _ _ z.2.2⟩
 ·exact z.elim) q
theorem ir(f:X.mg "range"=none)(c:Gl X "range")(d:starEach [a] X.env=[(false,eval a X.env)])(b:Am X [a] gs):Im X tg (.Call (.Name "range" p) [a] [] pos) (Cd gs):=by
 refine⟨⟨_,bR c f b.p d,λσ H ω G R h e r q k=>⟨ω,G,e,r,b.m _ _ _ _ (λi G1 z vs H1 m t r1=>?_) q⟩⟩,iq b.m⟩;split at z
 ·cases t with
  | cons g t=>cases t;cases g;exact⟨_,rfl,z.1,z.2.1,k _ _ _ H1 _ z.2.2 m r1 trivial ip⟩
 ·exact z.elim
theorem Inv.turneds{σ:St}{g:List Addr}(I:Inv X pins σ H s)(a:∀ b∈g,DB X pins H b)(k:∀ b o,b∉g->s.heap.get? b=some o->h'.get? b=some o):Inv X pins σ H {s with heap:=h',toks:=t'}:=by
 have d:∀ b u,H b=some u->b∉g:=λb u e z=>by rw[(a b z).1]at e;cases e
 refine I.step (λb f=>⟨(a b f).2.2.2.1,(a b f).2.1,(a b f).2.2.2.2.1,(a b f).2.2.2.2.2⟩) (λb o _ _ hc e _=>k b o hc e) (λb o _ _ hc e _=>⟨o.slots,k b o hc e⟩) (λ_ _ _ _ n=>n)
  (λb o hc e=>⟨o,k b o hc e⟩) (λ_ _ e=>e) (λ_ _ _ e=>e) (λb ps e=>⟨#[],by rw[e];simp⟩) (λm j=>?_) (λb u e=>?_) I.bare
 ·obtain⟨o,es,h,i,r⟩:=j;exact⟨o,es,h,k _ o (λz=>(a _ z).2.1 rfl) i,r⟩
 ·refine(I.hok b u e).stay (λc v hc q=>k c v ?_ q) (λ_ q=>q) λ_ _ q=>q;rcases hc with z | z
  ·rw[z];exact d b u e
  ·exact d c _ z
def rdL(G:Hw)(w:W):Option (List W):=match w with
 | .rol xs=>some xs
 | .ref a=>(match G a with | some (.lst xs)=>some xs | _=>none)
 | _=>none
theorem R6(r:RelH K H G)(t:Tr K H v w)(e:rdL G w=some xs):∃ a vs,v=.ref a/\SqL K H a vs/\TrL K H vs xs:=by
 cases t with
 | rol h l=>cases e;exact⟨_,_,rfl,h.sq,l⟩
 | ref a =>
  unfold rdL at e;dsimp only at e;cases z:G a with
  | none=>rw[z]at e;cases e
  | some o =>
   rw[z]at e;cases o with
   | lst ys=>cases e;obtain⟨vs,c,t1⟩:=r a _ z;exact⟨a,vs,rfl,SqL.of c,t1⟩
   | exc C|ins C fs|dct b=>cases e
 | _=>cases e
def B8:List W->List W->List W
 | x::xs,y::ys=>.tup [x,y]::B8 xs ys
 | _,_=>[]
theorem M4:∀(xs ys:List W),(B8 xs ys).length=min xs.length ys.length
 | [],_|_::_,[]=>by simp[B8]
 | _::xs,_::ys=>by simp only[B8,Yg,M4 xs ys];lia
theorem R7:∀(xs ys:List W)(i:Nat){x y:W},xs[i]?=some x->ys[i]?=some y->(B8 xs ys)[i]?=some (.tup [x,y])
 | [],_,_,_,_,h,_|_::_,[],_,_,_,_,h=>by simp at h
 | a::xs,b::ys,0,x,y,h,h'=>by simp at h h';subst h;subst h';rfl
 | a::xs,b::ys,i+1,x,y,h,h'=>by
  have:=R7 xs ys i (by simpa using h) (by simpa using h');simpa[B8]using this
theorem J1:bootBuiltins "len"=some (.builtin "len"):=by decide +kernel
theorem F2:bootBuiltins "all"=some (.builtin "all"):=by decide +kernel
theorem M5:bootBuiltins "sum"=some (.builtin "sum"):=by decide +kernel
theorem R8:bootBuiltins "max"=some (.builtin "max"):=by decide +kernel
theorem R9:bootBuiltins "list"=some (.type "list"):=by decide +kernel
theorem M6:bootBuiltins "tuple"=some (.type "tuple"):=by decide +kernel
theorem M7:bootBuiltins "int"=some (.type "int"):=by decide +kernel
theorem Sa:bootBuiltins "str"=some (.type "str"):=by decide +kernel
theorem iu:bootBuiltins "bool"=some (.type "bool"):=by decide +kernel
theorem iw:bootBuiltins "ValueError"=some (.type "ValueError"):=by decide +kernel
section
variable {X:Cx}{p:Pos}
theorem ix(hi:X.N[i]?=some x)(a:seen X.env.scope x=true)(hd:(x==("__debug__":Str))=false)(hc:(x==("__classdict__":Str))=false):Em X (.Name x pos) (Ab i):=⟨et hi (Rw a) hd hc,eo⟩
theorem Bt(c:X.N.Nodup)(hi:X.N[i]?=some x)(b:GR X.env.scope x=true)(d:swapsWith e (some (.Name x pos')) pos.line X.env=pure false)(a:Em X e ga):Sm X P (.Assign [.Name x pos'] e pos) (Ak i ga):=
 ⟨Ri c hi (.inl (GU b)) a.m a.p d (.inr (GU b)),MI a.m⟩
theorem iy(c:X.N.Nodup)(hi:X.N[n]?=some x)(b:GR X.env.scope x=true)(a:Em X e ga):Sm X P (.AugAssign (.Name x pos') .Add e pos) (C4 n C5 ga):=
 ⟨gX (OpR.or b9 cB) RH gY c hi (.inl (GU b)) (.inr (GU b)) a.m a.p,gW RH a.m⟩
def Glb(K:PySem.W.Frag)(mg:Str->Option Value)(x:Str)(w:W):Prop:=∃ v u,mg x=some u/\RelV v u/\∀ H,Tr K H v w
theorem E6(h:Glb X.K X.mg x w)(a:Gl X x)(hd:(x==("__debug__":Str))=false):Em X (.Name x pos) (gC w):=
 let⟨_,_,h1,h2,h3⟩:=h
 ⟨Re a h1 h2 h3 hd,GK⟩
structure Fm(X:Cx)(ifs:List Expr)(g:GT):Prop where
 p:PFw X ifs g
 m:g.M
theorem B1:Fm X [] Bh:=⟨fP,fO⟩
theorem iz(h:Tm X c gt):Fm X [c] gt:=⟨fQ h.p,h.m⟩
theorem Cs(hc:X.calm=true)(B:Blk X Nc scope [] (λ_=>List.replicate Nc.length none))(h:∀ x,foldedSetIterable iter X.env x=pure x)(hi:Im X tg iter gi)(d:TgU X Nc scope tg f)(g:∀ C a s H,Fm (cxB X Nc scope [] C a s H) ifs gt)(e:∀ C a s H,Em (cxB X Nc scope [] C a s H) elt ge):Em X (.ListComp elt [⟨tg,iter,ifs,0⟩] scope pos) (Bg gi Nc.length f gt ge):=
 have b:=(g 0 [] X.s₀ X.H₀).m
 have c:=(e 0 [] X.s₀ X.H₀).m
 ⟨fT hc hi.p B d b (λC a s H=>(g C a s H).p) c (λC a s H=>(e C a s H).p) h,fN hi.m d.mono b c⟩
theorem Dk:Dh X (λ_ _ _=>False):=(by rintro pins σ H s ev s' I ⟨e,C,H',b,F,c,ω,G,d,a,r,q⟩;exact q.elim)
theorem AQ(a:Room k A):A.units+100 < cLine:=by have:=a.un;lia
theorem iA(a:Room k A)(h:j<=k):JH j (A.mark e):=⟨by have:=a.dp;show A.depth+3*j+5 < recursionLimit;lia,by have:=a.un;show A.units+16*j+200 < cLine;lia⟩
end
def F3:List (Str×Int)->Str->W
 | [],_=>.non
 |(x,i)::D,z=>if z=x then .int i else F3 D z
def M8(mg:Str->Option Value)(base:Heap)(x:Str)(D:List (Str×Int)):Prop:=∃ d,mg x=some (.ref d)/\KTD.TextTab base d (D.map λp=>(p.1,KTD.Dat.flat (.int p.2)))
theorem Sb:∀{D:List (Str×Int)}{z:Str}{d:KTD.Dat},KTD.datumAt z (D.map λp=>(p.1,KTD.Dat.flat (.int p.2)))=some d->∃ i,d=.flat (.int i)/\F3 D z=.int i
 | [],_,_,h=>by cases h
 |(x,i)::D,z,d,h=>by
  have h':(if decide (z=x)=true then some (KTD.Dat.flat (.int i))else KTD.datumAt z (D.map λp=>(p.1,KTD.Dat.flat (.int p.2))))=some d:=h;unfold F3;by_cases a:z=x
  ·rw[if_pos (YG a)]at h';cases h';exact⟨i,rfl,if_pos a⟩
  ·rw[if_neg (by simpa using a)]at h';rw[if_neg a];exact Sb h'
theorem Sd:∀{D:List (Str×Int)}{z:Str},KTD.datumAt z (D.map λp=>(p.1,KTD.Dat.flat (.int p.2)))=none->F3 D z=.non
 | [],_,_=>rfl
 |(x,i)::D,z,h=>by
  have h':(if decide (z=x)=true then some (KTD.Dat.flat (.int i))else KTD.datumAt z (D.map λp=>(p.1,KTD.Dat.flat (.int p.2))))=none:=h;unfold F3;by_cases a:z=x
  ·rw[if_pos (YG a)]at h';cases h'
  ·rw[if_neg (by simpa using a)]at h';rw[if_neg a];exact Sd h'
def Ha(D:List (Str×Int))(gk:GE):GE:=λω G Q=>gk ω G λw G1=>match w with | .str z=>Q (F3 D z) G1 | _=>False
theorem iB(h:M8 X.mg X.base x D)(N:Gl X x)(hd:(x==("__debug__":Str))=false)(c:attributeBase (.Name x g) "get" X.env (eval (.Name x g) X.env)=eval (.Name x g) X.env)(f:((backTo cpos (starEach [e] X.env)).all (λx=>!x.1)&&(backToKw cpos (keywordEach [] X.env)).all (λx=>x.1.isSome)&&decide ([e].length+([]:List Keyword).length+(if([]:List Keyword).isEmpty then 0 else 1) < 30))=true)(b:(apos.endLine==cpos.line)=true)(n:starEach [e] X.env=(false,eval e X.env)::starEach [] X.env)(hplain:(backTo cpos (starEach [] X.env)).any (·.1)=false)(k:Em X e A):
  Em X (.Call (.Attribute (.Name x g) "get" apos) [e] [] cpos) (Ha D A):=by
 refine⟨λpins s σ H Q I⟨ω,G,Z,r,q⟩=>?_,λω G Q Q' L q=>k.m _ _ _ _ (λw G1 z=>by cases w <;> first | exact L _ _ z | exact z) q⟩;obtain⟨d,B,T⟩:=h;have here:KTD.Here X.base s.heap d (D.map λp=>(p.1,KTD.Dat.flat (.int p.2))):=⟨T,I.bk⟩;refine wpAny_Call_method_late c f b rfl (Ep I N B ⟨"dict","dict.get",PySem.F.plainAttrs_dict,PySem.F.slot_dict_get,PySem.F.type_dict_get,here.typeIs,here.noDict,?_⟩ hd);have pa:=FP k.p HN n
 have o:=pa cpos pins s σ H (λvs H1=>∃ z,vs=[.str z]/\∀ v,Tr X.K H1 v (F3 D z)->Q v H1) I ⟨ω,G,Z,r,k.m _ _ _ _ (λw G1 z v H1 m t r1=>by
  cases w with
  | str y=>exact⟨y,by rw[Rl t],λv tv=>z v H1 m tv r1⟩
  | _=>exact z.elim) q⟩
 rw[n]at o ⊢;refine Calls.callWith_builtin (by show(false||(backTo cpos (starEach [] X.env)).any (·.1))=false;rw[hplain] <;> rfl) (Calls.evalArgs_plain ?_);refine thn o λus R j=>?_;obtain⟨vs,H2,l,J,z,S,q2⟩:=j;subst S;obtain⟨u,rfl,Y⟩:=CZ J;obtain⟨t,rfl⟩:=Y;have a:KTD.Here X.base R.heap d (D.map λp=>(p.1,KTD.Dat.flat (.int p.2))):=⟨T,l.bk⟩;refine call_meetsIn PySem.F.slot_dict_get a.typeIs PySem.F.entry_dict_get (PySem.F.args_dict_get_2 _ _) (KTD.meets_get1) ⟨a,λdd v P U=>?_,λE=>?_⟩
 ·obtain⟨i,rfl,O⟩:=Sb P;obtain⟨t2,rfl⟩:=PyProof.V.Flat.int_inv U;exact⟨.int i,H2,l.tok _,⟨_,rfl⟩,q2 _ (by rw[O];exact .int i)⟩
 ·exact⟨.non,H2,l.tok _,rfl,q2 _ (by rw[Sd E];exact .non)⟩
def Fn(K:PySem.W.Frag)(mg:Str->Option Value)(st:Stmt)(x:Str)(ps:List Str):Prop:=∃ f fd,mg x=some (.ref f)/\Fun K x x st f fd/\Binds K fd ps []
theorem Df.le(D:Df P w K mg base x j n sp)(h:j<=k):Df P w K mg base x k n sp :=
 ⟨let⟨f,fd,ps,h1,h2,h3,h4,F⟩:=D.ex;⟨f,fd,ps,h1,h2,h3,h4,F.mono h⟩,D.mono⟩
theorem mk0{st:Stmt}(Fx:Fn K mg st x ps)(i:ps.length=n)(S:Ay N ps (Ao st))(h:sp.M)(len:∀ c G Q E,sp c G Q E->c.length=n)(j:∀{f:Addr}{cdv:Value}{A:Around}{outer:List Env}{s:Shared}{H:Hp}{E:XK},Room k (A.deeper (envOfC x (Ao st) s.heap.objs.size f cdv))->Ssm (cxW P w K mg base N x (Ao st) f cdv A outer s H E).nox (λB=>B=H) (AS st) g)(ok:∀ c G(Q:Kw)(E:Addr->Hw->Prop),Kw.C Q->sp c G Q E->g (AC Q) (Bf N c) G):Df P w K mg base x (k+1) n sp:=by
 obtain⟨f,fd,h1,F,o⟩:=Fx;refine⟨⟨f,fd,ps,h1,F.kp,o,i,?_⟩,h⟩;obtain⟨L,O,kV,v,pm,R,cdv,ct,l,rfl,u,e⟩:=F.ex;refine GH u e S ((by rintro vs H Q E ⟨c,G,t,r,q⟩;rw[t.length,i];exact len c G _ _ q)) λA outer s H vs Q E y d=>?_;obtain⟨c,G,t,r,q⟩:=d;have D:=j (outer:=outer) (H:=H) (E:=E) y;exact⟨_,(D.p H rfl).nox,Bf N c,G,GM t,r,.refl,D.m _ _ (AC (dn K H Q)) _ (λa b z σ H2 m J I=>z _ H2 m Tr.non I) (λa b z=>z) (λa b z=>z.elim) (λa b z=>z.elim) (ok c G _ _ GN q)⟩
theorem mkX{st:Stmt}{g:(Addr->Hw->Prop)->GS}(Fx:Fn K mg st x ps)(i:ps.length=n)(S:Ay N ps (Ao st))(h:sp.M)(len:∀ c G Q E,sp c G Q E->c.length=n)(j:∀{f:Addr}{cdv:Value}{A:Around}{outer:List Env}{s:Shared}{H:Hp}{E:XK},Room k (A.deeper (envOfC x (Ao st) s.heap.objs.size f cdv))->Ssm (cxW P w K mg base N x (Ao st) f cdv A outer s H E) (λB=>B=H) (AS st) (g (dnX K H E)))(ok:∀ c G(Q:Kw)(E:Addr->Hw->Prop),Kw.C Q->Xc E->sp c G Q E->g E (AC Q) (Bf N c) G):Df P w K mg base x (k+1) n sp:=by
 obtain⟨f,fd,h1,F,o⟩:=Fx;refine⟨⟨f,fd,ps,h1,F.kp,o,i,?_⟩,h⟩;obtain⟨L,O,kV,v,pm,R,cdv,ct,l,rfl,u,e⟩:=F.ex;refine GH u e S ((by rintro vs H Q E ⟨c,G,t,r,q⟩;rw[t.length,i];exact len c G _ _ q)) λA outer s H vs Q E y d=>?_;obtain⟨c,G,t,r,q⟩:=d;have D:=j (outer:=outer) (H:=H) (E:=E) y;exact⟨_,D.p H rfl,Bf N c,G,GM t,r,.refl,D.m _ _ (AC (dn K H Q)) _ (λa b z σ H2 m J I=>z _ H2 m Tr.non I) (λa b z=>z) (λa b z=>z.elim) (λa b z=>z.elim) (ok c G _ _ GN Rh q)⟩
theorem mkN{st:Stmt}(Fx:Fn K mg st x ps)(i:ps.length=n)(S:Ay N ps (Ao st))(h:sp.M)(len:∀ c G Q E,sp c G Q E->c.length=n)(j:∀{f:Addr}{cdv:Value}{A:Around}{outer:List Env}{s:Shared}{H:Hp},Ssm (cxN P w K mg base N x (Ao st) f cdv A outer s H) (λB=>B=H) (AS st) g)(ok:∀ c G(Q:Kw)(E:Addr->Hw->Prop),Kw.C Q->sp c G Q E->g (AC Q) (Bf N c) G):DfN P w K mg base x (k+1) n sp:=by
 obtain⟨f,fd,h1,F,l⟩:=Fx;refine⟨⟨f,fd,ps,h1,F.kp,l,i,?_⟩,h⟩;obtain⟨J,L,kV,u,pm,O,cdv,ct,v,rfl,o,e⟩:=F.ex;refine eh o e S ((by rintro vs H Q E ⟨c,G,t,r,q⟩;rw[t.length,i];exact len c G _ _ q)) λA outer s H vs Q E d=>?_;obtain⟨c,G,t,r,q⟩:=d;have D:=j (f:=f) (cdv:=cdv) (A:=A) (outer:=outer) (s:=s) (H:=H);exact⟨_,D.p H rfl,Bf N c,G,GM t,r,.refl,D.m _ _ (AC (dn K H Q)) _ (λa b z σ H2 m I y=>z _ H2 m Tr.non y) (λa b z=>z) (λa b z=>z.elim) (λa b z=>z.elim) (ok c G _ _ GN q)⟩
end L3
namespace L3
open PySem PySem.Spec PyProof.Rows L2
def BM{α:Type}(n:Nat)(js:List Nat)(l:List (Option α)):List (Option α):=List.replicate n none++js.map λj=>(l[j]?).getD none
theorem M9{α:Type}{l:List (Option α)}:(BM n js l).length=n+js.length:=by simp[BM]
theorem Se{α:Type}{l:List (Option α)}{v:α}(h:(BM n js l)[i]?=some (some v)):∃ m j,i=n+m/\js[m]?=some j/\l[j]?=some (some v):=by
 unfold BM at h;by_cases hi:i < n
 ·rw[YI (by simpa using hi),List.getElem?_replicate]at h;split at h <;> cases h
 ·rw[List.getElem?_append_right (by simpa using Nat.le_of_not_lt hi),List.length_replicate,YM]at h;cases a:js[i - n]? with
  | none=>rw[a]at h;cases h
  | some j =>
   rw[a]at h;refine⟨i - n,j,by lia,a,?_⟩;have h':(l[j]?).getD none=some v:=YE h;cases e:l[j]? with
   | none=>rw[e]at h';cases h'
   | some o=>rw[e]at h';exact Qg some h'
theorem iC{α:Type}{l:List (Option α)}{v:α}(h1:js[m]?=some j)(h2:l[j]?=some (some v)):(BM n js l)[n+m]?=some (some v):=by
 unfold BM;rw[List.getElem?_append_right (by simp),List.length_replicate,YM];have:n+m - n=m:=by lia
 rw[this,h1];show some ((l[j]?).getD none)=_;rw[h2];rfl
theorem TrSt.cap{K:PySem.W.Frag}(t:TrSt K H σ ω)(n:Nat)(js:List Nat):TrSt K H (BM n js σ) (BM n js ω):=by
 refine⟨by rw[M9,M9],λi w e=>?_⟩;obtain⟨m,j,rfl,h1,h2⟩:=Se e;obtain⟨v,a,r⟩:=t.get j w h2;exact⟨v,iC h1 a,r⟩
def EA(env:Env):List (Str×NameKind)->List (Str×Addr)->List (Str×Addr)
 | [],cs=>cs
 |(n,k)::r,cs=>EA env r (if k=.free then(n,(env.cells.lookup n).getD 0)::cs else cs)
theorem Sf:∀(l:List (Str×NameKind))(cs:List (Str×Addr)),(∀ y∈l,y.2=.free->∃ c,env.cells.lookup y.1=some c)->
  (forIn l cs λ(x:Str×NameKind)r=>if(x.2==NameKind.free)=true then do let c <- cellOf env x.1;pure (ForInStep.yield ((x.1,c)::r))else pure (ForInStep.yield r):Sem (List (Str×Addr)))=pure (EA env l cs)
 | [],cs,_=>by simp[EA]
 |(n,k)::r,cs,h=>by
  have b:=λcs=>Sf r cs λy d=>h y (Yd _ d);rw[List.forIn_cons];by_cases a:k=.free
  ·obtain⟨c,hc⟩:=h (n,k) Ye a;subst a;have e:cellOf env n=pure c:=by unfold cellOf;rw[hc]
   simp only[e,EA,hc];exact b _
  ·have:(k==NameKind.free)=false:=by simpa using a
   simp only[this,EA,a];exact b _
theorem Sh:∀(l:List (Str×NameKind))(cs:List (Str×Addr)),(EA env l cs).lookup y=some c->cs.lookup y=some c\/((y,NameKind.free)∈l/\c=(env.cells.lookup y).getD 0)
 | [],cs,h=>.inl h
 |(n,k)::r,cs,h=>by
  rcases Sh r _ h with q |⟨q1,q2⟩
  ·split at q
   ·rename_i b;subst b;rw[List.lookup_cons]at q;split at q
    ·rename_i e;have a:=beq_iff_eq.mp e;subst a;exact .inr ⟨Ye,(YE q).symm⟩
    ·exact .inl q
   ·exact .inl q
  ·exact .inr ⟨Yd _ q1,q2⟩
theorem Si:∀(l:List (Str×NameKind))(cs:List (Str×Addr)),(∃ c,cs.lookup y=some c)->∃ c,(EA env l cs).lookup y=some c
 | [],cs,h=>h
 |(n,k)::r,cs,h=>Si r _ (by
  split
  ·rw[List.lookup_cons];split
   ·exact⟨_,rfl⟩
   ·exact h
  ·exact h)
theorem Sj:∀(l:List (Str×NameKind))(cs:List (Str×Addr)),(y,NameKind.free)∈l->∃ c,(EA env l cs).lookup y=some c
 | [],cs,h=>by cases h
 |(n,k)::r,cs,h=>by
  rcases Yo.mp h with h | h
  ·cases h;refine Si r _ ⟨(env.cells.lookup y).getD 0,?_⟩;rw[if_pos rfl,List.lookup_cons,beq_self_eq_true]
  ·exact Sj r _ h
theorem Sk(nocell:∀ z∈scope.names,z.2≠.cell)(h:(relabel scope env).names.lookup y=some k)(b:k=.cell\/k=.free):(y,NameKind.free)∈scope.names:=by
 have m:=MC h;obtain⟨⟨n,c⟩,a,e⟩:=YC.mp m;dsimp only at e;split at e
 ·rename_i hc;cases e;simp only[YF,beq_iff_eq]at hc;rw[hc.1.1]at a;exact a
 ·cases e;rcases b with rfl | rfl
  ·exact Qj rfl (nocell _ a)
  ·exact a
theorem Sl{env:Env}(b:env.scope.kind=.function):∀{names:List (Str×NameKind)}{x:Str},names.lookup x=some .free->env.kindOf x=some .cell->
  (names.map λ(n,k)=>if(k==NameKind.free&&env.scope.kind==.function&&env.kindOf n==some .cell)then(n,NameKind.cell)else(n,k)).lookup x=some .cell
 | [],_,h,_=>by cases h
 |(n,k)::r,x,h,d=>by
  rw[List.lookup_cons]at h;rw[Ym];split at h
  ·rename_i e;have g:=beq_iff_eq.mp e;subst g;cases h;have c:(NameKind.free==NameKind.free&&env.scope.kind==ScopeKind.function&&env.kindOf x==some NameKind.cell)=true:=by rw[b,d];rfl
   dsimp only;rw[if_pos c,List.lookup_cons,beq_self_eq_true]
  ·rename_i e;have i:=Sl b h d;rw[List.lookup_cons]
   have f:(x==(if(k==NameKind.free&&env.scope.kind==ScopeKind.function&&env.kindOf n==some NameKind.cell)=true then(n,NameKind.cell)else(n,k)).1)=false:=by
    split <;> exact e
   split
   ·rename_i a;rw[f]at a;cases a
   ·exact i
theorem Ie(kind:scope.kind=.function)(names:∀ x∈scope.names,x.2=.local->scope.names.lookup x.1=some .local)(nocell:∀ y∈scope.names,y.2≠.cell)(r:∀ y∈scope.names,y.2=.free->y.1∈fr)(A:∀ y∈fr,scope.names.lookup y=some .free)(d:X.env.scope=scX)(o:scX.kind=.function)(k:X.env.cells=cellsFrom n scX.names [])(t:∀ y∈fr,scX.names.lookup y=some .cell)(s:js.map (λj=>X.N[j]?)=fr.map some):Blk X (own++fr) scope (EA X.env scope.names []) (BM own.length js):=by
 have b:∀ y∈fr,∃ c,X.env.cells.lookup y=some c:=λy a=>by
  rw[k];exact Mu (t y a)
 have f:js.length=fr.length:=by have:=Qg List.length s;simpa using this
 refine⟨?_,kind,names,nocell,λy c h=>?_,λy h=>?_,λσ i y v h1 h2 D=>?_,λσ=>by rw[M9,Yj,f]⟩
 ·have:=Sf scope.names [] λy a g=>b _ (r y a g);unfold closureFor;simp only[bind_pure];exact this
 ·rcases Sh _ _ h with q |⟨q1,q2⟩
  ·cases q
  ·obtain⟨B,e⟩:=b y (r _ q1 rfl);rw[e]at q2 ⊢;exact Qg some q2.symm
 ·refine Sj _ _ ?_;rcases h with h | h
  ·exact Sk nocell h (.inl rfl)
  ·exact Sk nocell h (.inr rfl)
 ·obtain⟨m,j,rfl,w,u⟩:=Se h2;rw[List.getElem?_append_right (by lia)]at h1;have:own.length+m - own.length=m:=by lia
  rw[this]at h1;have a:=List.mem_of_getElem? h1;have q:=Qg (λl=>l[m]?) s;simp only[YM,w,h1]at q;have p:X.env.scope.names.lookup y=some .cell:=by rw[d];exact t y a
  refine⟨.inl (Sl (by rw[d];exact o) (A y a) p),.inr (.inl p),(by rw[p];intro z;cases z),j,YE q,u⟩
def B9(gi:GI)(n:Nat)(js:List Nat)(gg:GG)(gt:GT)(ge:GE):GE:=λω G Q=>gi ω G λws gd G1=>BE gd gg gt ge (λys G2=>∀ p,G2 p=none->Q (.ref p) (put G2 p (.lst ys))) ws (BM n js ω) G1 []
theorem Na(b:gi.M)(mg:a.M)(c:gt.M)(d:ge.M):GE.M (B9 gi n js a gt ge):=λω G Q g h q=>
 b _ _ _ _ (λi f G1 z=>JO mg c d (λys G2 z p e=>h _ _ (z p e)) _ _ _ _ z) q
theorem Sn{X:Cx}(N:∀(σ:St)(H:Hp)(ω:Sw)(G:Hw)(R:List W->(Hw->Prop)->Hw->Prop)(R0:It->Hp->Prop),TrSt X.K H σ ω->RelH X.K H G->gi ω G R->
   (∀ a gd G1 H1 J,R a gd G1->Mono X.K H H1->RelH X.K H1 G1->gd G1->FT X.K H1 J a gd->R0 J H1)->S σ H R0)(F:∀(x:V)(w:W)(σ:St)(ω:Sw)(H:Hp)(G:Hw)(Q:St->Hp->Prop),Tr X.K H x w->TrSt X.K H σ ω->RelH X.K H G->u w ω G (dnS X.K H Q)->g x σ H Q)(mg:u.M)(mt:gt.M)(me:ge.M)(σ:St)(H:Hp)(Q:VK)(h:up X.K (B9 gi n js u gt ge) σ H Q):
  JG S (BM n js) g (upT X.K gt) (up X.K ge) σ H Q:=by
 obtain⟨ω,G,ts,r,q⟩:=h
 refine N σ H ω G _ _ ts r q λa gd G1 H1 J z U r1 hgd B=>⟨λi m σ' H' vs=>m=a.length - i/\i<=a.length/\Mono X.K H1 H'/\∃ ω' k ys,TrSt X.K H' σ' ω'/\RelH X.K H' k/\TrL X.K H' vs ys/\BE gd u gt ge (λys G2=>∀ p,G2 p=none->dn X.K H Q (.ref p) (put G2 p (.lst ys))) (a.drop i) ω' k ys,
  ⟨a.length,by simp,YT _,.refl,_,G1,[],(ts.mono U).cap n js,r1,.nil,by simpa using z⟩,?_⟩
 rintro i m σ' H' vs ⟨rfl,hle,j,ω',k,ys,L,r',tv,o⟩;have c:=Rq o;by_cases f:i < a.length
 ·have hw:∃ w,a[i]?=some w:=⟨a[i],by simp[f]⟩;obtain⟨w0,s⟩:=hw
  have ed:a.drop i=w0::a.drop (i+1):=by
   obtain⟨h',e'⟩:=YV.mp s;rw[<- e'];exact List.drop_eq_getElem_cons h'
  rw[ed]at o
  refine .inr ⟨B.go i H' k j r' c f,by rw[tv.length];exact o.2.1,λσ2 H2 t=>Mono X.K H1 H2/\∃ ω2 G2 v,TrSt X.K H2 σ2 ω2/\RelH X.K H2 G2/\TrL X.K H2 t v/\BE gd u gt ge (λys G2=>∀ p,G2 p=none->dn X.K H Q (.ref p) (put G2 p (.lst ys))) (a.drop (i+1)) ω2 G2 v,
   (by rintro σ2 H2 t ⟨y1,y2⟩;exact⟨a.length -(i+1),by lia,rfl,f,y1,y2⟩),λx H2 y=>?_⟩
  obtain⟨O,ry,w,Y,tw⟩:=B.yld i H' k x H2 j r' c y f;have j:=j.trans O;have tv:=tv.mono O;rw[s]at Y;cases Y;refine F x _ σ' ω' _ k _ tw (L.mono O) ry (mg _ _ _ _ _ (λω1 E z1 σ1 H3 A d r3=>?_) o.2.2);refine⟨ω1,E,d,r3,mt _ _ _ _ (λb P Z H4 l T=>?_) z1⟩;cases b with
  | true=>exact⟨ω1,P,d.mono l,T,me _ _ _ _ (λy5 G5 z5 v5 H5 D t5 r5=>⟨((j.trans A).trans l).trans D,ω1,G5,_,(d.mono l).mono D,r5,(((tv.mono A).mono l).mono D).append (.cons t5 .nil),z5⟩) Z⟩
  | false=>exact⟨(j.trans A).trans l,ω1,P,_,d.mono l,T,(tv.mono A).mono l,Z⟩
 ·have e:i=a.length:=by lia
  subst e;rw[List.drop_length]at o;exact .inl ⟨B.stop H' k j r' c,λp I=>o.2 p (r'.no I) _ _ ((U.trans j).trans (Mono.new I _)) (.ref p) (r'.new I tv)⟩
structure TgC(X:Cx)(Nc:List Str)(scope:Scope)(cl:List (Str×Addr))(tg:Expr)(gg:GG):Prop where
 ex:∃ g:TG,(∀ C fp s H,PG (cxB X Nc scope cl C fp s H) tg g)/\∀(x:V)(w:W)(σ:St)(ω:Sw)(H:Hp)(G:Hw)(Q:St->Hp->Prop),Tr X.K H x w->TrSt X.K H σ ω->RelH X.K H G->gg w ω G (dnS X.K H Q)->g x σ H Q
 mono:gg.M
theorem Nb(c:Nc.Nodup)(hi:Nc[i]?=some x)(a:scope.names.lookup x=some .local):TgC X Nc scope cl (.Name x p) (gNm i) where
 ex:=⟨De i,λC d s H=>Dg c hi (.inl (lookup_relabel_local a)) (.inr (lookup_relabel_local a)),λx w σ ω H G Q t b r q=>q _ H .refl (b.set i t) r⟩
 mono:=λ_ _ _ _ _ h q=>h _ _ q
theorem So(hc:X.calm=true)(d:Nc.Nodup)(hi:Nc[i]?=some x)(e:scope.names.lookup x=some .local)(m:Nc[j]?=some y)(c:scope.names.lookup y=some .local):
  TgC X Nc scope cl (.Tuple [.Name x p,.Name y f] k pos) (Bb i j) where
 ex:=⟨Cl X.K 2 (BT (De i) (BT (De j) Ch)),λC n s H=>Jz hc (Er (Dg d hi (.inl (lookup_relabel_local e)) (.inr (lookup_relabel_local e))) (Er (Dg d m (.inl (lookup_relabel_local c)) (.inr (lookup_relabel_local c))) Jy)),
  λv w σ ω H G Q t g r q=>by
   unfold Bb at q;split at q
   ·rename_i a b;cases t with
    | tup h l =>
     cases l with
     | cons ta l =>
      cases l with
      | cons tb l =>
       cases l;exact⟨_,_,rfl,h,rfl,_,_,rfl,_,_,rfl,rfl,q _ H .refl ((g.set i ta).set j tb) r⟩
   ·exact q.elim⟩
 mono:=Rr
def F4(i j k:Nat):GG:=λw ω G Q=>match w with
 | .tup [a,b,c]=>Q (((ω.set i (some a)).set j (some b)).set k (some c)) G
 | _=>False
theorem iD:GG.M (F4 i j k):=λw ω G Q a h q=>by
 unfold F4 at q ⊢;split
 ·exact h _ _ q
 ·rename_i z;split at q
  ·exact(z _ _ _ rfl).elim
  ·exact q
theorem iE{K:PySem.W.Frag}(v:V)(w:W)(σ:St)(ω:Sw)(H:Hp)(G:Hw)(Q:St->Hp->Prop)(t:Tr K H v w)(ts:TrSt K H σ ω)(r:RelH K H G)(q:F4 i j k w ω G (dnS K H Q)):
  Cl K 3 (BT (De i) (BT (De j) (BT (De k) Ch))) v σ H Q:=by
 unfold F4 at q;split at q
 ·cases t with
  | tup h l =>
   cases l with
   | cons ta l =>
    cases l with
    | cons tb l =>
     cases l with
     | cons tc l =>
      cases l;exact⟨_,_,rfl,h,rfl,_,_,rfl,_,_,rfl,_,_,rfl,rfl,q _ H .refl (((ts.set i ta).set j tb).set k tc) r⟩
 ·exact q.elim
theorem Nd(hc:X.calm=true)(B:Blk X Nc scope cl (BM n js))(l:∀ x,foldedSetIterable iter X.env x=pure x)(hi:Im X tg iter gi)(d:TgC X Nc scope cl tg j)(k:∀ C a s H,Fm (cxB X Nc scope cl C a s H) ifs gt)(i:∀ C a s H,Em (cxB X Nc scope cl C a s H) elt ge):Em X (.ListComp elt [⟨tg,iter,ifs,0⟩] scope pos) (B9 gi n js j gt ge):=by
 have f:=(k 0 [] X.s₀ X.H₀).m;have h:=(i 0 [] X.s₀ X.H₀).m;refine⟨?_,Na hi.m d.mono f h⟩;obtain⟨o,b,hi⟩:=hi.p;obtain⟨g,e,c⟩:=d.ex;exact Be (Q7 hc b B e (λC a s H=>(k C a s H).p) (λC a s H=>(i C a s H).p) l) (Sn hi c d.mono f h)
def Nf(sc:Scope)(x:Str):Bool:=match sc.names.lookup x with | some .cell=>true | _=>false
theorem iF(h:Nf a x=true):a.names.lookup x=some .cell:=by
 unfold Nf at h;split at h
 ·assumption
 ·cases h
theorem Ng(d:X.N.Nodup)(hi:X.N[i]?=some x)(f:Nf X.env.scope x=true)(c:X.fn x=true)(b:swapsWith e (some (.Name x pos')) pos.line X.env=pure false)(a:Em X e ga):Sm X P (.Assign [.Name x pos'] e pos) (Ak i ga):=
 ⟨Ri d hi (.inr (iF f)) a.m a.p b (.inl c),MI a.m⟩
theorem iG(hc:X.calm=true)(b:X.N.Nodup)(hi:X.N[i]?=some x)(m:Loc X.env.scope x)(g:X.fn x=true\/X.env.scope.names.lookup x=some .local)(l:X.N[j]?=some y)(h:Loc X.env.scope y)(a:X.fn y=true\/X.env.scope.names.lookup y=some .local)(f:X.N[k]?=some z)(e:Loc X.env.scope z)(c:X.fn z=true\/X.env.scope.names.lookup z=some .local):
  TgW X (.Tuple [.Name x p,.Name y d,.Name z p2] n pos) (F4 i j k) where
 ex:=⟨_,Jz hc (Er (Dg b hi m g) (Er (Dg b l h a) (Er (Dg b f e c) Jy))),iE⟩
 mono:=iD
theorem iH{j:List Value}(o:IsTup s.heap t #[])(k:IsTup s.heap b j.toArray)(h1:Q (.ref b) s):wpAny (model prog w) A (binaryOp .Add (.ref t) (.ref b)) Q E s:=by
 obtain⟨⟨cls,l,data,m⟩,h,hc,n,hd⟩:=id o;obtain⟨⟨i,f,c,g⟩,a,d,n2,e⟩:=id k;subst hc hd d e;exact concat_meets ⟨_,h,rfl⟩ ⟨_,a,rfl⟩ noFill_tuple_add seq_tuple_add PySem.F.slot_tuple_add PySem.F.entry_tuple_add (PySem.F.args_tuple_add_2 _ _) (tuple_addW0 t b #[] j.toArray n n2 l f m g rfl) ⟨h,a,h1⟩
def Nh(K:PySem.W.Frag):R2:=λx y H Q=>∃ a b ys,x=.ref a/\y=.ref b/\SqT K H a []/\SqT K H b ys/\Q (.ref b) H
theorem iI:OpR X (binaryOp .Add) (Nh X.K):=by
 intro pins s σ H x y v u Q I g f h;obtain⟨a,b,ys,rfl,rfl,e,d,q⟩:=h;cases g;cases f;obtain⟨i,r1,p1,_⟩:=I.tuple e;obtain⟨c,j,p2,_⟩:=I.tuple d;cases r1;exact iH p1 p2 ⟨.ref b,H,I,rfl,q⟩
def Aw:RW2:=λx y G Q=>match x,y with
 | .tup xs,.tup ys=>xs.length+ys.length<=sizeLine/\Q (.tup (xs++ys)) G
 | x,y=>BS x y G Q
theorem Sq(a:¬((∃ xs,x=.tup xs)/\∃ ys,y=.tup ys)):Aw x y G Q=BS x y G Q:=by
 cases x <;> cases y <;> first | rfl | exact Qj ⟨⟨_,rfl⟩,⟨_,rfl⟩⟩ a
theorem Sr:RW2.M Aw:=λx y G Q b h q=>by
 by_cases a:(∃ xs,x=.tup xs)/\∃ ys,y=.tup ys
 ·obtain⟨⟨xs,rfl⟩,⟨ys,rfl⟩⟩:=a;exact⟨q.1,h _ _ q.2⟩
 ·rw[Sq a]at q ⊢;exact fU _ _ _ _ _ h q
theorem iJ:OpR X (binaryOp .Add) (λx y H Q=>((rI0 λi j=>.int (i+j)) x y H Q\/(∃ i j,x=.str i/\y=.str j/\i.length+j.length<=sizeLine/\Q (.str (i++j)) H)\/HU x y H Q)\/Nh X.K x y H Q\/Mw X.K x y H Q):=OpR.or fV (OpR.or iI di)
theorem iK{K:PySem.W.Frag}(x y:W)(v u:V)(G:Hw)(H:Hp)(Q:VK)(l:Tr K H v x)(ty:Tr K H u y)(r:RelH K H G)(q:Aw x y G (dn K H Q)):
  ((rI0 λi j=>.int (i+j)) v u H Q\/(∃ i j,v=.str i/\u=.str j/\i.length+j.length<=sizeLine/\Q (.str (i++j)) H)\/HU v u H Q)\/Nh K v u H Q\/Mw K v u H Q:=by
 by_cases h:(∃ xs,x=.tup xs)/\∃ ys,y=.tup ys
 ·obtain⟨⟨xs,rfl⟩,⟨ys,rfl⟩⟩:=h;cases l with
  | tup sa c =>
   cases ty with
   | tup f d =>
    rename_i a vs b k;cases c with
    | nil=>exact .inr (.inl ⟨a,b,k,rfl,rfl,sa,f,by simpa using q.2 _ H .refl (.tup f d) r⟩)
    | cons t1 c =>
     refine .inr (.inr ⟨a,b,_,k,rfl,rfl,sa,f,by simp,?_,λe=>?_,λe p g=>?_⟩)
     ·rw[(TrL.cons t1 c).length,d.length];exact q.1
     ·subst e;cases d;have:=q.2 (.ref a) H .refl (by simpa using Tr.tup sa (.cons t1 c)) r;exact this
     ·exact q.2 _ _ (Mono.new g _) (.tup (SqT.of B4) (((TrL.cons t1 c).append d).mono (Mono.new g _))) (r.mono0 g)
 ·refine .inl (fW x y v u G H Q l ty r ?_);rwa [Sq h]at q
theorem EB(d:Em X a ga)(c:Em X b gb):Em X (.BinOp a .Add b pos) (Ad Aw ga gb):=⟨GL iJ Sr d.m c.m iK d.p c.p,DD Sr d.m c.m⟩
section
variable {K:PySem.W.Frag}{H:Hp}
theorem TrP.lookup{α:Type}[BEq α]:∀{vs:List (α×V)}{b:List (α×W)}{f:α}{w:W},TrP K H vs b->b.lookup f=some w->∃ v,vs.lookup f=some v/\Tr K H v w
 | _,_,_,_,.nil,e=>by cases e
 | _,_,f,w,.cons (f:=g) r t,e=>by
  rw[List.lookup_cons]at e ⊢;cases a:f==g with
  | true=>rw[a]at e;cases e;exact⟨_,rfl,r⟩
  | false=>rw[a]at e;exact t.lookup e
theorem TrP.lookup0{α:Type}[BEq α]:∀{vs:List (α×V)}{b:List (α×W)}{f:α},TrP K H vs b->b.lookup f=none->vs.lookup f=none
 | _,_,_,.nil,e=>rfl
 | _,_,f,.cons (f:=g) r t,e=>by
  rw[List.lookup_cons]at e ⊢;cases a:f==g with
  | true=>rw[a]at e;cases e
  | false=>rw[a]at e;exact t.lookup0 e
theorem TrP.length{α:Type}:∀{vs:List (α×V)}{a:List (α×W)},TrP K H vs a->vs.length=a.length
 | _,_,.nil=>rfl
 | _,_,.cons _ t=>Qg (·+1) t.length
def E7(f:Str)(v:W):List (Str×W)->List (Str×W)
 | []=>[(f,v)]
 |(g,x)::r=>if g=f then(g,v)::r else(g,x)::E7 f v r
theorem TrP.putF(q:Tr K H v w):∀{vs:List (Str×V)}{a:List (Str×W)},TrP K H vs a->TrP K H (L2.putF f v vs) (E7 f w a)
 | _,_,.nil=>.cons q .nil
 | _,_,.cons (f:=g) r t=>by
  unfold L2.putF E7;by_cases h:g=f
  ·rw[if_pos h,if_pos h];exact .cons q t
  ·rw[if_neg h,if_neg h];exact .cons r (t.putF q)
section
variable {P:Hp->Prop}{f m:Str}{C:Addr}{ga gv:GE}{gs:GA}{ex:Xw}
def BJ(C:Addr)(f:Str)(ga:GE):GE:=λω G Q=>ga ω G λx G1=>∃ a fs v,x=.ref a/\G1 a=some (.ins C fs)/\fs.lookup f=some v/\Q v G1
theorem iL(m:ga.M):GE.M (BJ C f ga):=λω G Q c h q=>m _ _ _ _ ((by rintro x G1 ⟨a,fs,v,h1,h2,b,z⟩;exact⟨a,fs,v,h1,h2,b,h _ _ z⟩)) q
theorem Ca(c:Cls X.K C)(n:NoAttr X.K C f)(d:attributeBase e f X.env (eval e X.env)=eval e X.env)(b:Em X e ga):Em X (.Attribute e f pos) (BJ C f ga):=by
 refine⟨Be (cO b.p d) λσ H Q⟨ω,G,i,r,q⟩=>⟨ω,G,i,r,b.m _ _ _ _ (λx G1⟨a,fs,v,h1,h2,k,z⟩u H1 j t r1=>?_) q⟩,iL b.m⟩;subst h1;obtain⟨dx,vs,h,l⟩:=r1 a _ h2;obtain⟨v1,g,tv⟩:=l.lookup k;exact⟨a,C,dx,vs,v1,GQ t,h,c,n,g,z _ H1 j tv r1⟩
def Hb(C:Addr)(f:Str)(gv ga:GE):GS:=λD ω G=>gv ω G λy G1=>ga ω G1 λx G2=>∃ a fs,x=.ref a/\G2 a=some (.ins C fs)/\fs.length < 1000/\D.nx ω (put G2 a (.ins C (E7 f y fs)))
theorem iM(d:gv.M)(c:ga.M):GS.M (Hb C f gv ga):=λω G D e h _ _ _ q=>d _ _ _ _ (λy G1 z=>c _ _ _ _ ((by rintro x G2 ⟨a,fs,h1,h2,b,z⟩;exact⟨a,fs,h1,h2,b,h _ _ z⟩)) z) q
theorem Mono.ins(a:H p=some (.ins C dx xs))(o:HO):Mono K H (upd H p o):=Mono.was a _ (λ_ z=>by cases z) (λ_ _ z=>by cases z)
theorem Ss(c:Cls X.K C)(n:NoAttr X.K C f)(s:swapsWith value (some (.Attribute o f pos')) pos.line X.env=pure false)(e:Em X value gv)(b:Em X o ga):Sm X P (.Assign [.Attribute o f pos'] value pos) (Hb C f gv ga):=by
 refine⟨λB E=>C1 (cP b.p e.p s) λD σ H⟨ω,G,i,r,mb,q⟩=>⟨ω,G,i,r,e.m _ _ _ _ (λy G1 z v H1 h t r1=>⟨ω,G1,i.mono h,r1,b.m _ _ _ _ (λx G2⟨a,fs,h1,h2,A,z⟩u H2 d w l=>?_) z⟩) q⟩,iM e.m b.m⟩;subst h1;obtain⟨dx,vs,g,k⟩:=l a _ h2;have j:Mono X.K H2 (upd H2 a (.ins C dx (L2.putF f v vs))):=Mono.ins g _;exact⟨a,C,dx,vs,GQ w,g,c,n,by rw[k.length];exact A,z _ _ (((mb.trans h).trans d).trans j) (((i.mono h).mono d).mono j) (l.chgI g ((TrP.putF (t.mono d) k)))⟩
def F5(C:Addr)(f:Str)(ga gv:GE):GS:=λD ω G=>ga ω G λx G1=>∃ a fs i,x=.ref a/\G1 a=some (.ins C fs)/\fs.lookup f=some (.int i)/\gv ω G1 λy G2=>∃ fs' j,y=.int j/\G2 a=some (.ins C fs')/\fs'.length < 1000/\
 D.nx ω (put G2 a (.ins C (E7 f (.int (i+j)) fs')))
theorem iN(k:ga.M)(d:gv.M):GS.M (F5 C f ga gv):=λω G D l h _ _ _ q=>k _ _ _ _ ((by rintro x G1 ⟨a,fs,i,h1,h2,c,z⟩;exact⟨a,fs,i,h1,h2,c,d _ _ _ _ ((by rintro y G2 ⟨fs',j,b,g,e,z⟩;exact⟨fs',j,b,g,e,h _ _ z⟩)) z⟩)) q
theorem Ni(c:Cls X.K C)(n:NoAttr X.K C f)(g:Em X o ga)(k:Em X value gv):Sm X P (.AugAssign (.Attribute o f tpos) .Add value pos) (F5 C f ga gv):=by
 refine⟨λB S=>C1 (cQ g.p k.p cR) λD σ H⟨ω,G,s,r,mb,q⟩=>⟨ω,G,s,r,g.m _ _ _ _ (λx G1⟨a,fs,i,h1,h2,Q,z⟩u H1 l t r1=>?_) q⟩,iN g.m k.m⟩;subst h1;obtain⟨dx,vs,J,L⟩:=r1 a _ h2;obtain⟨v1,I,tv⟩:=L.lookup Q;cases tv;refine⟨a,C,dx,vs,_,GQ t,J,c,n,I,ω,G1,s.mono l,r1,k.m _ _ _ _ (λy G2⟨fs',j,O,R,N,z⟩v H2 E F w=>?_) z⟩;subst O;cases F;obtain⟨d,b,h,e⟩:=w a _ R;have A:Mono X.K H2 (upd H2 a (.ins C d (L2.putF f (.int (i+j)) b))):=Mono.ins h _;exact⟨i,j,rfl,rfl,d,b,h,by rw[e.length];exact N,z _ _ (((mb.trans l).trans E).trans A) (((s.mono l).mono E).mono A) (w.chgI h (e.putF (.int _)))⟩
structure DfM(P:Program)(w:World)(K:PySem.W.Frag)(mg:Str->Option Value)(base:Heap)(C:Addr)(m:Str)(k n:Nat)(sp:Spw):Prop where
 ex:∃(f:Addr)(fd:FuncData)(ps:List Str),Ms K C m f/\Binds K fd ps []/\ps.length=n/\FnOk P w K mg base (CXe P w) k f fd ps (C2 K sp)
 mono:sp.M
theorem Nj{f:Addr}{σ:L2.St}(F:FnOk X.prog X.w X.K X.mg X.base CX k f fd ps sp)(i:Room k X.A)(c:Binds X.K fd ps [])(g:FQ CX X Eσ)(I:Inv X pins σ H s)(r:Vals vs us)(h:sp vs H Q (Eσ σ)):wpAny (model X.prog X.w) X.A (call (.ref f) us) (EP X pins σ Q) X.xe s:=by
 have hl:(us++([]:List Value)).length=ps.length:=by rw[Yx,<- r.length];exact F.len _ _ _ _ h
 have a:=c s us I.kIn hl;rw[Yx]at a;refine wpAny_call (codeAny_mono (F.run X.A X.stack s H ⟨us,[]⟩ us vs Q (Eσ σ) i I.env0 a r h) λr s' b=>?_);cases r with
 | error e=>exact g pins σ H s e s' I b
 | ok d =>
  cases d with
  | ret u=>exact I.after b
  | next|brk|cont=>exact Qd b
def AR(C:Addr)(m:Str)(sp:Spw)(ex:Xw)(ga:GE)(gs:GA):GE:=λω G Q=>ga ω G λx G1=>∃ a fs,x=.ref a/\G1 a=some (.ins C fs)/\fs.lookup m=none/\gs ω G1 λws G2=>sp (x::ws) G2 Q (ex ω)
theorem Su(b:sp.M)(d:ga.M)(mg:gs.M):GE.M (AR C m sp ex ga gs):=λω G Q e h q=>d _ _ _ _ ((by rintro x G1 ⟨a,fs,h1,h2,c,z⟩;exact⟨a,fs,h1,h2,c,mg _ _ _ _ (λf G2 z=>b _ _ _ _ _ _ h (λ_ _ z=>z) z) z⟩)) q
theorem BK(c:Cls X.K C)(D:DfM X.prog X.w X.K X.mg X.base C m k n sp)(R:Room k X.A)(Z:Dh X ex)(E:starEach (e::es) X.env=(false,eval e X.env)::starEach es X.env)(i:(backTo pos (starEach es X.env)).any (·.1)=false)(ht:eval (.Call (.Attribute o m apos) (e::es) [] pos) X.env=(do
   let ov <- eval o X.env
   standAt apos.atName
   let(f,first) <- holding [ov] (getMethod ov m pl)
   callWith pos f first (backTo pos (starEach (e::es) X.env)) (backToKw pos (keywordEach [] X.env))))(B:Em X o ga)(d:Am X (e::es) gs):Em X (.Call (.Attribute o m apos) (e::es) [] pos) (AR C m sp ex ga gs):=by
 refine⟨λpins s σ H Q I h=>?_,Su D.mono B.m d.m⟩;obtain⟨ω,G,y,r,q⟩:=h;obtain⟨f,fd,ps,J,hb,_,F⟩:=D.ex;refine PySem.W.methodCall_KW (thn (B.p pins s σ H (λx H1=>∃ a dx fs,x=.ref a/\H1 a=some (.ins C dx fs)/\fs.lookup m=none/\(upA X.K gs) σ H1 λvs H2=>C2 X.K sp (x::vs) H2 Q (upX X.K ex σ)) I ⟨ω,G,y,r,B.m _ _ _ _ (λx G1⟨a,fs,h1,h2,h3,z⟩u H1 j t r1=>?_) q⟩) λu s1⟨x,H1,L,rx,a,dx,fs,v,ea,l,q⟩=>?_) ht;rotate_left
 ·subst h1;obtain⟨dx,vs,T,Y⟩:=r1 a _ h2;refine⟨a,dx,vs,GQ t,T,Y.lookup0 h3,ω,G1,y.mono j,r1,d.m _ _ _ _ (λws G2 z us H2 g b S=>?_) z⟩;refine⟨.ref a::ws,G2,.cons (t.mono g) b,S,D.mono _ _ _ _ _ _ (λw N z=>Cj (j.trans g) z) (λC N z H3 U P=>?_) z⟩;exact⟨C,ω,N,rfl,((y.mono j).mono g).mono U,P,z⟩
 ·subst v;obtain rfl:u=Value.ref a:=rx;refine QJ L ea c J l (PySem.W.callWith_K I.ok.mod.kin J.kp (thn (d.p pos pins s1 σ H1 _ L q) λus s2⟨vs,H2,O,r,q2⟩=>⟨O.kIn,?_⟩) E i);exact Nj (vs:=.ref a::vs) F R hb Z O (.cons rfl r) q2
theorem E8(c:Cls X.K C)(D:DfM X.prog X.w X.K X.mg X.base C m k n sp)(y:Room k X.A)(N:Dh X ex)(T:eval (.Call (.Attribute o m apos) [] [] pos) X.env=(do
   let ov <- eval o X.env
   standAt apos.atName
   let(f,first) <- holding [ov] (getMethod ov m pl)
   callWith pos f first (backTo pos (starEach [] X.env)) (backToKw pos (keywordEach [] X.env))))(e:Em X o ga):Em X (.Call (.Attribute o m apos) [] [] pos) (AR C m sp ex ga Ac):=by
 refine⟨λpins s σ H Q I h=>?_,Su D.mono e.m JK⟩;obtain⟨ω,G,v,r,q⟩:=h;obtain⟨f,fd,ps,g,O,_,F⟩:=D.ex;refine PySem.W.methodCall_KW (thn (e.p pins s σ H (λx H1=>∃ a dx fs,x=.ref a/\H1 a=some (.ins C dx fs)/\fs.lookup m=none/\C2 X.K sp [x] H1 Q (upX X.K ex σ)) I ⟨ω,G,v,r,e.m _ _ _ _ (λx G1⟨a,fs,h1,h2,R,z⟩u H1 j t r1=>?_) q⟩) λu U⟨x,H1,b,S,a,dx,fs,d,P,l,q⟩=>?_) T;rotate_left
 ·subst h1;obtain⟨dx,vs,E,L⟩:=r1 a _ h2;refine⟨a,dx,vs,GQ t,E,L.lookup0 R,[.ref a],G1,.cons t .nil,r1,D.mono _ _ _ _ _ _ (λw i z=>Cj j z) (λC i z Y J B=>?_) z⟩;exact⟨C,ω,i,rfl,(v.mono j).mono J,B,z⟩
 ·subst d;obtain rfl:u=Value.ref a:=S;exact QJ b P c g l (PySem.W.callWith_K0 b.kIn g.kp (Nj (vs:=[.ref a]) F y O N b (.cons rfl .nil) q))
end
section
variable {P:Hp->Prop}{f:Str}{C:Addr}{gs:GA}{ex:Xw}
structure DfI(P:Program)(w:World)(K:PySem.W.Frag)(mg:Str->Option Value)(base:Heap)(x:Str)(C:Addr)(k n:Nat)(sp:Spw):Prop where
 ex:∃(f:Addr)(fd:FuncData)(ps:List Str),mg x=some (.ref C)/\Mk K C f/\Binds K fd ps []/\ps.length=n/\FnOk P w K mg base (CXe P w) k f fd ps (C2 K sp)
 mono:sp.M
def Ig(C:Addr)(sp:Spw)(ex:Xw)(gs:GA):GE:=λω G Q=>gs ω G λws G1=>∀ x,G1 x=none->sp (.ref x::ws) (put G1 x (.ins C [])) (λv G2=>v=.non/\Q (.ref x) G2) (ex ω)
theorem iO(b:sp.M)(mg:gs.M):GE.M (Ig C sp ex gs):=λω G Q d h q=>mg _ _ _ _ (λc G1 z x a=>b _ _ _ _ _ _ (λv G2 z=>⟨z.1,h _ _ z.2⟩) (λ_ _ z=>z) (z x a)) q
variable {H H2:Hp}{X:Cx}{o:Expr}{f:Str}{C:Addr} in
theorem iP{CX:CXT}{k:Nat}{f:Addr}{fd:FuncData}{ps:List Str}{sp:Sp}{Eσ:L2.St->XK}{pins:List (Addr×Obj)}{σ:L2.St}{H:Hp}{s:Shared}{Q:VK}{us:List Value}{vs:List V}(M:Mk X.K C f)(F:FnOk X.prog X.w X.K X.mg X.base CX k f fd ps sp)(o:Room (k+1) X.A)(i:Binds X.K fd ps [])(n:FQ CX X Eσ)
  (I:Inv X pins σ H s) (r:Vals vs us)
  (h:∀ x dx,H x=none->H dx=none->dx≠x->sp (.ref x::vs) (upd (upd H dx (.own x)) x (.ins C dx [])) (λv H2=>v=.non/\Q (.ref x) H2) (Eσ σ)):
  wpAny (model X.prog X.w) X.A (call (.ref C) us) (EP X pins σ Q) X.xe s:=by
 have d:=h (s.heap.objs.size+1) s.heap.objs.size (I.hok.fresh (Nat.le_succ _)) (I.hok.fresh (Yr _)) (Ys (Nat.lt_succ_self _));have c:=Inv.made (C:=C) I;have g:Vals (V.ref (s.heap.objs.size+1)::vs) (Value.ref (s.heap.objs.size+1)::us):=.cons rfl r
 have hl:(Value.ref (s.heap.objs.size+1)::us++([]:List Value)).length=ps.length:=by
  have e:=g.length;rw[F.len _ _ _ _ d]at e;rw[Yx];exact e.symm
 have b:=i _ (Value.ref (s.heap.objs.size+1)::us) c.kIn hl;rw[Yx]at b
 refine wpAny_call (cI I.kIn M.makes M.init (beq_iff_eq.mp M.fn) (codeAny_mono (F.run _ X.stack _ _ ⟨Value.ref (s.heap.objs.size+1)::us,[]⟩ (Value.ref (s.heap.objs.size+1)::us) _ _ (Eσ σ) (o.make C us [])
  (c.env0.make C us []) b g d) λr s' a=>?_))
 cases r with
 | error e=>exact n pins σ _ _ e s' c a
 | ok l =>
  cases l with
  | ret u =>
   obtain⟨v,H',m,j,ev,q3⟩:=c.after a;subst ev;exact⟨j,⟨V.ref (s.heap.objs.size+1),H',m,rfl,q3⟩⟩
  | next|brk|cont=>exact Qd a
theorem iQ(D:DfI X.prog X.w X.K X.mg X.base x C k n sp)(P:Room (k+1) X.A)(R:Gl X x)(U:Dh X ex)(o:(x==("__debug__":Str))=false)(Y:starEach (e::es) X.env=(false,eval e X.env)::starEach es X.env)(l:(backTo pos (starEach es X.env)).any (·.1)=false)(i:Am X (e::es) gs):Em X (.Call (.Name x p) (e::es) [] pos) (Ig C sp ex gs):=by
 refine⟨λpins s σ H Q I h=>?_,iO D.mono i.m⟩;obtain⟨ω,G,N,r,q⟩:=h;obtain⟨f,fd,ps,O,M,Z,_,F⟩:=D.ex;refine wpAny_Call_Name_kw (Ep I R O ?_ o)
 refine PySem.W.callWith_K I.ok.mod.kin M.kp (thn (i.p pos pins s σ H (λvs H1=>∀ x dx,H1 x=none->H1 dx=none->dx≠x->C2 X.K sp (.ref x::vs) (upd (upd H1 dx (.own x)) x (.ins C dx [])) (λv H2=>v=.non/\Q (.ref x) H2) (upX X.K ex σ)) I
  ⟨ω,G,N,r,i.m _ _ _ _ (λws G1 z vs H1 J d r1 x dx L a c=>?_) q⟩) (by rintro us s1 ⟨vs,H1,B,r,q⟩;exact⟨B.kIn,iP M F P Z U B r q⟩)) Y l
 have j:Mono X.K H1 (upd H1 dx (.own x)):=Mono.new a _;have u:(upd H1 dx (.own x)) x=none:=by rw[A5 (λe=>c e.symm)];exact L
 have b:Mono X.K (upd H1 dx (.own x)) (upd (upd H1 dx (.own x)) x (.ins C dx [])):=Mono.new u _;refine⟨.ref x::ws,put G1 x (.ins C []),.cons (.ref x) ((d.mono j).mono b),(r1.mono0 a).laid b ⟨dx,[],B4,.nil⟩,D.mono _ _ _ _ _ _ (λw E z v T y t g=>?_) (λC E z T y g=>?_) (z x (r1.no L))⟩
 ·obtain⟨S,z⟩:=z;subst S;cases t;exact⟨rfl,z _ _ (((J.trans j).trans b).trans y) (.ref x) g⟩
 ·exact⟨C,ω,E,rfl,(((N.mono J).mono j).mono b).mono y,g,z⟩
end
def FnM(K:PySem.W.Frag)(C:Addr)(st:Stmt)(m qual:Str)(ps:List Str):Prop:=∃ f fd,Ms K C m f/\Fun K m qual st f fd/\Binds K fd ps []
def FnI(K:PySem.W.Frag)(mg:Str->Option Value)(x:Str)(C:Addr)(st:Stmt)(qual:Str)(ps:List Str):Prop:=∃ f fd,mg x=some (.ref C)/\Mk K C f/\Fun K "__init__" qual st f fd/\Binds K fd ps []
theorem DfM.le(D:DfM P w K mg base C m j n sp)(h:j<=k):DfM P w K mg base C m k n sp :=
 ⟨let⟨f,fd,ps,h1,h2,h3,F⟩:=D.ex;⟨f,fd,ps,h1,h2,h3,F.mono h⟩,D.mono⟩
theorem J2{st:Stmt}(F:Fun K m qual st f fd)(i:ps.length=n)(S:Ay N ps (Ao st))(len:∀ c G Q E,sp c G Q E->c.length=n)(h:∀{f:Addr}{cdv:Value}{A:Around}{outer:List Env}{s:Shared}{H:Hp}{E:XK},Room k (A.deeper (envOfC qual (Ao st) s.heap.objs.size f cdv))->Ssm (cxW P w K mg base N qual (Ao st) f cdv A outer s H E).nox (λB=>B=H) (AS st) g)(ok:∀ c G(Q:Kw)(E:Addr->Hw->Prop),Kw.C Q->sp c G Q E->g (AC Q) (Bf N c) G):FnOk P w K mg base (CXe P w) (k+1) f fd ps (C2 K sp):=by
 obtain⟨y,I,kV,o,pm,J,cdv,ct,j,rfl,l,e⟩:=F.ex;refine GH l e S ((by rintro vs H Q E ⟨c,G,t,r,q⟩;rw[t.length,i];exact len c G _ _ q)) λA outer s H vs Q E u d=>?_;obtain⟨c,G,t,r,q⟩:=d;have D:=h (outer:=outer) (H:=H) (E:=E) u;exact⟨_,(D.p H rfl).nox,Bf N c,G,GM t,r,.refl,D.m _ _ (AC (dn K H Q)) _ (λa b z σ H2 m x v=>z _ H2 m Tr.non v) (λa b z=>z) (λa b z=>z.elim) (λa b z=>z.elim) (ok c G _ _ GN q)⟩
theorem iR{st:Stmt}{g:(Addr->Hw->Prop)->GS}(F:Fun K m qual st f fd)(i:ps.length=n)(S:Ay N ps (Ao st))(len:∀ c G Q E,sp c G Q E->c.length=n)(h:∀{f:Addr}{cdv:Value}{A:Around}{outer:List Env}{s:Shared}{H:Hp}{E:XK},Room k (A.deeper (envOfC qual (Ao st) s.heap.objs.size f cdv))->Ssm (cxW P w K mg base N qual (Ao st) f cdv A outer s H E) (λB=>B=H) (AS st) (g (dnX K H E)))(ok:∀ c G(Q:Kw)(E:Addr->Hw->Prop),Kw.C Q->Xc E->sp c G Q E->g E (AC Q) (Bf N c) G):FnOk P w K mg base (CXe P w) (k+1) f fd ps (C2 K sp):=by
 obtain⟨y,I,kV,o,pm,J,cdv,ct,j,rfl,l,e⟩:=F.ex;refine GH l e S ((by rintro vs H Q E ⟨c,G,t,r,q⟩;rw[t.length,i];exact len c G _ _ q)) λA outer s H vs Q E u d=>?_;obtain⟨c,G,t,r,q⟩:=d;have D:=h (outer:=outer) (H:=H) (E:=E) u;exact⟨_,D.p H rfl,Bf N c,G,GM t,r,.refl,D.m _ _ (AC (dn K H Q)) _ (λa b z σ H2 m x v=>z _ H2 m Tr.non v) (λa b z=>z) (λa b z=>z.elim) (λa b z=>z.elim) (ok c G _ _ GN Rh q)⟩
theorem J3{st:Stmt}(Fx:FnM K C st m qual ps)(c:ps.length=n)(S:Ay N ps (Ao st))(b:sp.M)(len:∀ a G Q E,sp a G Q E->a.length=n)(d:∀{f:Addr}{cdv:Value}{A:Around}{outer:List Env}{s:Shared}{H:Hp}{E:XK},Room k (A.deeper (envOfC qual (Ao st) s.heap.objs.size f cdv))->Ssm (cxW P w K mg base N qual (Ao st) f cdv A outer s H E).nox (λB=>B=H) (AS st) g)(ok:∀ a G(Q:Kw)(E:Addr->Hw->Prop),Kw.C Q->sp a G Q E->g (AC Q) (Bf N a) G):DfM P w K mg base C m (k+1) n sp:=by
 obtain⟨f,fd,h1,F,e⟩:=Fx;exact⟨⟨f,fd,ps,h1,e,c,J2 F c S len d ok⟩,b⟩
theorem Sv{st:Stmt}{g:(Addr->Hw->Prop)->GS}(Fx:FnM K C st m qual ps)(c:ps.length=n)(S:Ay N ps (Ao st))(b:sp.M)(len:∀ a G Q E,sp a G Q E->a.length=n)(d:∀{f:Addr}{cdv:Value}{A:Around}{outer:List Env}{s:Shared}{H:Hp}{E:XK},Room k (A.deeper (envOfC qual (Ao st) s.heap.objs.size f cdv))->Ssm (cxW P w K mg base N qual (Ao st) f cdv A outer s H E) (λB=>B=H) (AS st) (g (dnX K H E)))(ok:∀ a G(Q:Kw)(E:Addr->Hw->Prop),Kw.C Q->Xc E->sp a G Q E->g E (AC Q) (Bf N a) G):DfM P w K mg base C m (k+1) n sp:=by
 obtain⟨f,fd,h1,F,e⟩:=Fx;exact⟨⟨f,fd,ps,h1,e,c,iR F c S len d ok⟩,b⟩
theorem iS{st:Stmt}(Fx:FnI K mg x C st qual ps)(c:ps.length=n)(S:Ay N ps (Ao st))(b:sp.M)(len:∀ a G Q E,sp a G Q E->a.length=n)(d:∀{f:Addr}{cdv:Value}{A:Around}{outer:List Env}{s:Shared}{H:Hp}{E:XK},Room k (A.deeper (envOfC qual (Ao st) s.heap.objs.size f cdv))->Ssm (cxW P w K mg base N qual (Ao st) f cdv A outer s H E).nox (λB=>B=H) (AS st) g)(ok:∀ a G(Q:Kw)(E:Addr->Hw->Prop),Kw.C Q->sp a G Q E->g (AC Q) (Bf N a) G):DfI P w K mg base x C (k+1) n sp:=by
 obtain⟨f,fd,h,h1,F,e⟩:=Fx;exact⟨⟨f,fd,ps,h,h1,e,c,J2 F c S len d ok⟩,b⟩
def isStr(o:W)(_:Hw):Prop:=∃ x,o=.str x
theorem Sx(t:Tr K H v o)(h:isStr o G):tyV K "str" v H:=by
 obtain⟨x,rfl⟩:=h;cases t;rfl
def J4(o:W)(ws:List W)(G:Hw)(Q:Kw):Prop:=match o,ws with
 | .str x,[.str y]=>Q (.bl (Txt.startswith x y)) G
 | .str x,[.str y,.int i]=>Q (.bl (Txt.startswith3 x y i)) G
 | _,_=>False
theorem Sy(q:J4 o a G Q):∃ x y,o=.str x/\((a=[.str y]/\Q (.bl (Txt.startswith x y)) G)\/∃ i,a=[.str y,.int i]/\Q (.bl (Txt.startswith3 x y i)) G):=by
 unfold J4 at q;split at q
 ·exact⟨_,_,rfl,.inl ⟨rfl,q⟩⟩
 ·exact⟨_,_,rfl,.inr ⟨_,rfl,q⟩⟩
 ·exact q.elim
def iT:V->List V->Hp->VK->Prop:=λv vs H Q=>∃ x y,v=.str x/\((vs=[.str y]/\Q (.bl (Txt.startswith x y)) H)\/∃ i,vs=[.str y,.int i]/\Q (.bl (Txt.startswith3 x y i)) H)
theorem iU:MtR X "str.startswith" iT:=by
 intro pins s σ H x vs v f Q I e c h;obtain⟨x,y,rfl,h⟩:=h;obtain⟨t,rfl⟩:=e;rcases h with⟨rfl,q⟩|⟨i,rfl,q⟩
 ·obtain⟨u,rfl,a⟩:=c.one;obtain⟨d,rfl⟩:=a;exact SC.startswith ⟨.bl _,H,I,rfl,q⟩
 ·obtain⟨u,j,rfl,a,b⟩:=JC c;obtain⟨d,rfl⟩:=a;obtain⟨g,rfl⟩:=b;exact SC.startswith3 ⟨.bl _,H,I,rfl,q⟩
theorem Sz:Mth X "str" "startswith" "str.startswith" isStr J4 where
 pa:=PySem.F.plainAttrs_str
 slot:=PySem.F.slot_str_startswith
 ty:=PySem.F.type_str_startswith
 ex:=⟨_,iU,λo c v vs G H Q tv a r q=>by
  obtain⟨x,y,rfl,h⟩:=Sy q;cases tv;rcases h with⟨rfl,q⟩|⟨i,rfl,q⟩
  ·cases a with
   | cons t1 a=>cases a;cases t1;exact⟨x,y,rfl,.inl ⟨rfl,q _ H .refl (.bl _) r⟩⟩
  ·cases a with
   | cons t1 a =>
    cases a with
    | cons b a=>cases a;cases t1;cases b;exact⟨x,y,rfl,.inr ⟨i,rfl,q _ H .refl (.bl _) r⟩⟩⟩
 pr:=λo v G H t r h=>Sx t h
 m:=λo c G Q d h q=>by
  obtain⟨x,y,rfl,z⟩:=Sy q;rcases z with⟨rfl,z⟩|⟨i,rfl,z⟩
  ·exact h _ _ z
  ·exact h _ _ z
def Hd:List W->Option (List Str)
 | []=>some []
 | .str x::ws=>(Hd ws).map (x::·)
 | _::_=>none
theorem SA{s:Shared}:∀{vs:List V}{b:List W}{ys:List Str}{us:List Value},TrL K H vs b->Hd b=some ys->Vals vs us->StrsAre us ys
 | _,_,_,_,.nil,e,.nil=>by cases e;exact .nil
 | _,_,_,_,.cons (w:=w) r t,e,.cons d a=>by
  cases w with
  | str x =>
   obtain⟨zs,c,rfl⟩:=YO.mp e;cases r;obtain⟨tk,rfl⟩:=d;exact .cons x tk (SA (s:=s) t c a)
  | _=>cases e
theorem SD(f:α->Str):∀ l:List α,Hd (l.map λa=>.str (f a))=some (l.map f)
 | []=>rfl
 | a::l=>by
  show(Hd (l.map λa=>.str (f a))).map (f a::·)=_;rw[SD f l];rfl
def Ih(o:W)(ws:List W)(G:Hw)(Q:Kw):Prop:=∃ x w xs ys,o=.str x/\ws=[w]/\rdL G w=some xs/\Hd xs=some ys/\(ys.map (·.length)).sum+ys.length*x.length<=16777216/\Q (.str (Txt.join x ys)) G
def iV(K:PySem.W.Frag):V->List V->Hp->VK->Prop:=λv vs H Q=>∃ x a us ws ys,v=.str x/\vs=[.ref a]/\SqL K H a us/\TrL K H us ws/\Hd ws=some ys/\(ys.map (·.length)).sum+ys.length*x.length<=16777216/\Q (.str (Txt.join x ys)) H
theorem iW:MtR X "str.join" (iV X.K):=by
 intro pins s σ H x vs v i Q I f b h;obtain⟨x,a,d,j,ys,rfl,rfl,sq,t,e,hw,q⟩:=h;obtain⟨tk,rfl⟩:=f;obtain⟨u,rfl,c⟩:=b.one;cases c;obtain⟨g,r,pl,_⟩:=I.list sq;refine join_list pl.isList ?_ hw λt' k=>⟨.str _,H,I.tok k,⟨t',rfl⟩,q⟩;have:=SA (s:=s) t e r;simpa using this
theorem iX:Mth X "str" "join" "str.join" isStr Ih where
 pa:=PySem.F.plainAttrs_str
 slot:=PySem.F.slot_str_join
 ty:=PySem.F.type_str_join
 ex:=⟨_,iW,λo j v vs G H Q tv b r q=>by
  obtain⟨x,w,xs,ys,rfl,rfl,f,d,hw,q⟩:=q;cases tv;cases b with
  | cons t1 b =>
   cases b;obtain⟨a,c,rfl,sq,tl⟩:=R6 r t1 f;exact⟨x,a,c,xs,ys,rfl,rfl,sq,tl,d,hw,q _ H .refl (.str _) r⟩⟩
 pr:=λo v G H t r h=>Sx t h
 m:=(by rintro o j G Q k h ⟨x,w,xs,ys,h1,h2,g,e,i,q⟩;exact⟨x,w,xs,ys,h1,h2,g,e,i,h _ _ q⟩)
end
end L3
namespace HT
open PySem PySem.Spec PyProof.Rows
theorem getItem_tuple_whole{lo:Option Int}(c:IsTup s.heap t a)(i:s.heap.IsSliceOf e vl vu .none)(pl:IsPart vl lo)(j:IsPart vu hi)(hw:sIx a.size 0 lo=0/\sIx a.size a.size hi=a.size)(h:Q (.ref t) s):wpAny (model prog w) A (getItem (.ref t) (.ref e)) Q E s:=by
 obtain⟨os,d,g,k⟩:=id i;have f:s.TypeIs (.ref e) "slice":=⟨os,d,g⟩;unfold getItem
 try with_reducible refine wpAny_holding ?_
 first | refine Qk (Ql ?_)| skip
 refine Qk (wpAny_sequenceKey c.typeIs (by decide) ?_)
 refine Qk (wpAny_callSpecial?_slot (name:=Str.ofString "__getitem__") c.typeIs PyProof.Rows.slot_tuple_getitem
  (wpAny_call_entry PyProof.Rows.slot_tuple_getitem c.typeIs entry_tuple_getitem ?_ (args_tuple_getitem _ _)))
 show wpAny _ _ (Builtin.Tuple.tupleItemsOf (.ref t) >>=_) _ _ s;refine Qk (tupleItemsOf_ c ?_);refine Qk (wpAny_typeOf f ?_);rw[if_pos (by decide)];refine Qk (QT i pl j ?_)
 have b:(((sIx a.size 0 lo:Nat):Int)==0&&(1:Int)==1&&(sIx a.size a.size hi - sIx a.size 0 lo)==a.size)=true:=by
  rw[hw.1,hw.2];simp
 show wpAny _ _ (if(((sIx a.size 0 lo:Nat):Int)==0&&(1:Int)==1&&(sIx a.size a.size hi - sIx a.size 0 lo)==a.size)=true then _ else _) _ _ s;rw[if_pos b];have l:=c.typeIs;unfold Builtin.Tuple.tupleIsExact
 repeat (any_goals (first | assumption | wp_step))
 exact⟨_,rfl,Ql h⟩
end HT
namespace L3
open PySem PySem.Spec PyProof.Rows L2
variable {K:PySem.W.Frag}{H:Hp}
def SE(K:PySem.W.Frag):V->Option Int->Option Int->Hp->VK->Prop:=λx lo hi H Q=>∃ a xs,x=.ref a/\SqT K H a xs/\(HT.sIx xs.length 0 lo=0/\HT.sIx xs.length xs.length hi=xs.length)/\Q (.ref a) H
theorem iY:SlR X (SE X.K):=by
 intro pins s σ H x v vl vu lo hi k Q I g e pl f h;obtain⟨a,xs,rfl,i,hw,q⟩:=h;cases g;obtain⟨c,r,d,j⟩:=I.tuple i;have b:c.toArray.size=xs.length:=by rw[Yn];exact r.length.symm
 refine⟨"tuple",_,PyProof.Rows.slot_tuple_getitem.lookup,d.typeIs,?_⟩;exact HT.getItem_tuple_whole d e pl f (by rw[b];exact hw) ⟨.ref a,H,I,rfl,q⟩
def SF:V->Option Int->Option Int->Hp->VK->Prop:=λx lo hi H Q=>∃ z,x=.str z/\z.length<=sizeLine/\Q (.str (Txt.slice z lo hi)) H
theorem iZ:SlR X SF:=by
 intro pins s σ H x v vl vu lo hi o Q I n g pl f h;obtain⟨z,rfl,e,q⟩:=h;obtain⟨t,rfl⟩:=n;obtain⟨os,a,c,d⟩:=id g;refine⟨"str",_,F.slot_str_getitem.lookup,typeIs_str _ _ _,?_⟩;have b:∀ t' k,EP X pins σ Q (.str (Txt.slice z lo hi) t') {s with toks:=k}:=λt' k=>⟨.str _,H,I.tok k,⟨t',rfl⟩,q⟩;cases pl with
 | none =>
  cases f with
  | none=>exact wpAny_getItem_str_slice (l:=none) (u:=none) (st:=none) ⟨os,a,c,d⟩ rfl (post_val_or_str ⟨Yt (Txt.slice_le z _ _) e,b⟩)
  | int j u=>exact wpAny_getItem_str_slice (l:=none) (u:=some (j,u)) (st:=none) ⟨os,a,c,d⟩ rfl (post_val_or_str ⟨Yt (Txt.slice_le z _ _) e,b⟩)
 | int i u =>
  cases f with
  | none=>exact wpAny_getItem_str_slice (l:=some (i,u)) (u:=none) (st:=none) ⟨os,a,c,d⟩ rfl (post_val_or_str ⟨Yt (Txt.slice_le z _ _) e,b⟩)
  | int j m=>exact wpAny_getItem_str_slice (l:=some (i,u)) (u:=some (j,m)) (st:=none) ⟨os,a,c,d⟩ rfl (post_val_or_str ⟨Yt (Txt.slice_le z _ _) e,b⟩)
def slA(w:W)(lo hi:Option Int)(G:Hw)(Q:Kw):Prop:=match w with
 | .tup xs=>Q (.tup (Co xs lo hi)) G
 | .str z=>z.length<=sizeLine/\Q (.str (Txt.slice z lo hi)) G
 | w=>slW w lo hi G Q
theorem SG{lo:Option Int}(h:∀ w c,Q w c->d w c)(q:slA w lo hi G Q):slA w lo hi G d:=by
 cases w with
 | tup xs=>exact h _ _ q
 | str z=>exact⟨q.1,h _ _ q.2⟩
 | non|bl b|int i=>exact Qd q
 | rol xs=>exact JW (w:=.rol xs) (lo:=lo) (hi:=hi) (G:=G) h q
 | ref a=>exact JW (w:=.ref a) (lo:=lo) (hi:=hi) (G:=G) h q
theorem i9{lo:Option Int}(t:Tr K H v w)(r:RelH K H G)(q:slA w lo hi G (dn K H Q)):((Mv K v lo hi H Q\/MB K v lo hi H Q)\/SE K v lo hi H Q)\/SF v lo hi H Q:=by
 cases t with
 | tup h l =>
  rename_i a vs c;by_cases hw:HT.sIx c.length 0 lo=0/\HT.sIx c.length c.length hi=c.length
  ·refine .inl (.inr ⟨a,vs,rfl,h,by rw[l.length];exact hw,?_⟩);refine q _ H .refl ?_ r;have e:Co c lo hi=c:=by unfold Co;rw[hw.1,hw.2];simp
   rw[e];exact .tup h l
  ·exact .inl (.inl (JX (.tup h l) r ⟨hw,q⟩))
 | str z=>exact .inr ⟨z,rfl,q.1,q.2 _ H .refl (.str _) r⟩
 | non|bl b|int i=>exact Qd q
 | rol h l=>exact .inl (.inl (JX (.rol h l) r q))
 | ref a=>exact .inl (.inl (JX (.ref a) r q))
section
variable {ga:GE}
def Bv(ga:GE)(gl gh:GO):GE:=λω G Q=>ga ω G λw G1=>gl ω G1 λlo G2=>gh ω G2 λhi G3=>slA w lo hi G3 Q
theorem Nk{lo:Option Expr}(b:Em X e ga)(hl:Om X lo k)(a:Om X hi gh):Em X (.Subscript e (.Slice lo hi none p2) pos) (Bv ga k gh):=
 ⟨Be (QU (SlR.or (SlR.or (SlR.or QW QZ) iY) iZ) b.p hl.p a.p) λσ H Q⟨ω,G,d,r,q⟩=>⟨ω,G,d,r,b.m _ _ _ _ (λw G1 z v H1 f t r1=>⟨ω,G1,d.mono f,r1,hl.m _ _ _ _ (λl G2 g H2 c s=>
   ⟨ω,G2,(d.mono f).mono c,s,a.m _ _ _ _ (λh n i A j o=>i9 ((t.mono c).mono j) o (SG (λw y z=>Cj ((f.trans c).trans j) z) i)) g⟩) z⟩) q⟩,
  λω G Q x h q=>b.m _ _ _ _ (λw G1 z=>hl.m _ _ _ _ (λl G2 g=>a.m _ _ _ _ (λu n i=>SG h i) g) z) q⟩
end
theorem StrsAre.len:∀{vs:List Value}{ys:List Str},StrsAre vs ys->vs.length=ys.length
 | _,_,.nil=>rfl
 | _,_,.cons _ _ r=>Qg (·+1) (StrsAre.len r)
def BL:RW2:=λx y G Q=>match x,y with
 | .int i,.int j=>CMul i j/\Q (.int (i*j)) G
 | .str x,.int n=>MulOk x n/\Q (.str (Txt.mul x n)) G
 | .ref a,.int k=>(match G a with
  | some (.lst xs)=>-(2 ^ 63)<=k/\k < 2 ^ 63/\xs.length*k.toNat<=sizeLine/\∀ p,G p=none->Q (.ref p) (put G p (.lst (List.replicate k.toNat xs).flatten))
  | _=>False)
 | _,_=>False
theorem SH:RW2.M BL:=λx y G Q c h q=>by
 cases x <;> cases y <;> first | exact q | exact⟨q.1,h _ _ q.2⟩| skip
 rename_i a k;unfold BL at q ⊢;dsimp only at q ⊢;cases e:G a with
 | none=>rw[e]at q;exact q
 | some o =>
  rw[e]at q;cases o <;> first | exact q | exact⟨q.1,q.2.1,q.2.2.1,λp b=>h _ _ (q.2.2.2 p b)⟩
def SI:R2:=λx y H Q=>∃ z n,x=.str z/\y=.int n/\MulOk z n/\Q (.str (Txt.mul z n)) H
theorem jj:OpR X (binaryOp .Mult) SI:=by
 intro pins s σ H x y v u Q I b a h;obtain⟨z,n,rfl,rfl,ok,q⟩:=h;obtain⟨t,rfl⟩:=b;obtain⟨c,rfl⟩:=a;exact SB.mul ok λt' k=>⟨.str _,H,I.tok k,⟨t',rfl⟩,q⟩
theorem TrL.rep(t:TrL K H vs a):∀ k:Nat,TrL K H (List.replicate k vs).flatten (List.replicate k a).flatten
 | 0=>.nil
 | k+1=>by
  exact t.append (t.rep k)
theorem jk(x y:W)(v u:V)(G:Hw)(H:Hp)(Q:VK)(d:Tr K H v x)(ty:Tr K H u y)(r:RelH K H G)(q:BL x y G (dn K H Q)):(rI CMul λi j=>.int (i*j)) v u H Q\/SI v u H Q\/Q3 v u H Q:=by
 cases d with
 | int i=>cases ty <;> first | exact q.elim | exact .inl ⟨_,_,rfl,rfl,q.1,q.2 _ H .refl (.int _) r⟩
 | str z=>cases ty <;> first | exact q.elim | exact .inr (.inl ⟨_,_,rfl,rfl,q.1,q.2 _ H .refl (.str _) r⟩)
 | ref a =>
  cases ty <;> try exact q.elim
  unfold BL at q;dsimp only at q;cases b:G a with
  | none=>rw[b]at q;exact q.elim
  | some f =>
   rw[b]at q;cases f <;> try exact q.elim
   obtain⟨vs,e,t1⟩:=r a _ b;exact .inr (.inr ⟨a,_,vs,rfl,rfl,e,q.1,q.2.1,by rw[t1.length];exact q.2.2.1,λp c=>q.2.2.2 p (r.no c) _ _ (Mono.new c _) (.ref p) (r.new c (t1.rep _))⟩)
 | _=>exact q.elim
theorem SJ(d:Em X a ga)(c:Em X b gb):Em X (.BinOp a .Mult b pos) (Ad BL ga gb):=⟨GL (OpR.or b5 (OpR.or jj dM)) SH d.m c.m jk d.p c.p,DD SH d.m c.m⟩
def jl(K:PySem.W.Frag)(tl:TE):TI:=λσ H R=>tl σ H λx H1=>(∃ a,x=.ref a/\(∃ xs,SqL K H1 a xs)/\R (Itl K a) H1)\/(∃ a,x=.ref a/\(∃ xs,SqT K H1 a xs)/\R (Itt K a) H1)
theorem jm(hl:PE X l tl):PI X tg l (jl X.K tl):=by
 intro pins s σ H R I h;refine thn (hl pins s σ H _ I h) λv d j=>?_;obtain⟨x,H1,c,r1,q1⟩:=j;rcases q1 with⟨a,e,⟨xs,g⟩,q⟩|⟨a,e,⟨xs,g⟩,q⟩
 ·subst e;cases r1;obtain⟨i,k,p,m⟩:=c.list g;refine wpAny_pyIter_list p.isList (⟨d.heap.objs.size,[d.heap.objs.size],_,_,H1,rfl,c.kept λb o e=>Qm _ e,Qz a _,⟨_,Qo _ rfl,rfl,rfl⟩,λb f=>?_,q⟩);have e:b=d.heap.objs.size:=by simpa using f
  subst e;exact c.fpOk (Yr _) (c.hok.fresh (Yr _))
 ·subst e;cases r1;obtain⟨i,k,p,m⟩:=c.tuple g;refine wpAny_pyIter_tuple (p) (⟨d.heap.objs.size,[d.heap.objs.size],_,_,H1,rfl,c.kept λb o e=>Qm _ e,QA a _,⟨_,Qo _ rfl,rfl,rfl⟩,λb f=>?_,q⟩);have e:b=d.heap.objs.size:=by simpa using f
  subst e;exact c.fpOk (Yr _) (c.hok.fresh (Yr _))
def DI(ga:GE):GI:=λω G R=>ga ω G λw G1=>match w with
 | .tup ws|.rol ws=>R ws yes G1
 | .ref a=>match G1 a with | some (.lst ws)=>R ws (holds a ws) G1 | _=>False
 | _=>False
theorem jn(m:ga.M):GI.M (DI ga):=λω G R c h q=>m _ _ _ _ (λw G1 z=>by
 cases w with
 | tup b|rol b=>exact h _ _ _ z
 | ref a =>
  dsimp only at z ⊢;cases e:G1 a with
  | none=>rw[e]at z;exact z
  | some o =>
   rw[e]at z;cases o <;> first | exact h _ _ _ z | exact z
 | _=>exact z) q
theorem jo(hl:Em X l ga):Im X tg l (DI ga):=by
 refine⟨⟨_,jm hl.p,λσ H ω G R g d r q k=>⟨ω,G,d,r,hl.m _ _ _ _ (λw G1 z v H1 m t r1=>?_) q⟩⟩,jn hl.m⟩;cases t with
 | tup h l=>exact .inr ⟨_,rfl,⟨_,h⟩,k _ _ _ H1 _ z m r1 trivial (Rn h l)⟩
 | rol h l=>exact .inl ⟨_,rfl,⟨_,h.sq⟩,k _ _ _ H1 _ z m r1 trivial (JN λH2 G2 b _ _=>⟨_,(b.rol _ _ h).sq,l.mono b⟩)⟩
 | ref a =>
  dsimp only at z;cases e:G1 a with
  | none=>rw[e]at z;exact z.elim
  | some o =>
   rw[e]at z;cases o with
   | lst i =>
    obtain⟨vs,c,t1⟩:=r1 a _ e;exact .inl ⟨a,rfl,⟨vs,SqL.of c⟩,k _ _ _ H1 _ z m r1 e (JN λH2 G2 b f g2=>let⟨vs,e2,t2⟩:=f a _ g2;⟨vs,SqL.of e2,t2⟩)⟩
   | _=>exact z.elim
 | _=>exact z.elim
theorem SK(J:X.N.Nodup)(f:X.N[i]?=some x)(L:GR X.env.scope x=true)(d:swapsWith (.ListComp elt [⟨tg,iter,ifs,0⟩] scope pos) (some (.Name x pos')) a.line X.env=pure true)(hc:X.calm=true)(B:Blk X Nc scope cl (BM n js))(I:∀ x,foldedSetIterable iter X.env x=pure x)(hi:Im X tg iter gi)(c:TgC X Nc scope cl tg y)(F:∀ C b s H,Fm (cxB X Nc scope cl C b s H) ifs gt)(A:∀ C b s H,Em (cxB X Nc scope cl C b s H) elt ge):
  Sm X P (.Assign [.Name x pos'] (.ListComp elt [⟨tg,iter,ifs,0⟩] scope pos) a) (Ak i (B9 gi n js y gt ge)):=by
 have u:=(F 0 [] X.s₀ X.H₀).m;have h:=(A 0 [] X.s₀ X.H₀).m;refine⟨λO R=>?_,MI (Na hi.m c.mono u h)⟩;obtain⟨Q,o,e⟩:=hi.p;obtain⟨g,l,j⟩:=c.ex;refine C1 (dY (tt:=upT X.K gt) (te:=up X.K ge) J f (GU L) d hc o B l (λC b s H=>(F C b s H).p) (λC b s H=>(A C b s H).p) I) λD σ H k=>?_;obtain⟨ω,G,E,r,mb,q⟩:=k;refine Sn e j c.mono u h σ H _ ⟨ω,G,E,r,Na hi.m c.mono u h _ _ _ _ (λw G1 z v H1 m t r1=>?_) q⟩;exact z _ H1 (mb.trans m) ((E.mono m).set i t) r1
variable {H:Hp}{X:Cx}{f:Addr}{x:Str}{pos:Pos}{e:Expr} in
theorem jp{E:Value->Shared->Prop}{pins:List (Addr×Obj)}{s:Shared}{σ:St}{H:Hp}{i:Nat}{x:Str}{v:V}{pos:Pos}{Q:Value->Shared->Prop}(I:Inv X pins σ H s)(j:X.N[i]?=some x)(g:Vis X.env.scope x)(e:σ[i]?=some (some v))(hd:(x==("__debug__":Str))=false)(f:(x==("__classdict__":Str))=false)
  (b:∀ u,RelV v u->Q u s):wpAny (model X.prog X.w) X.A (eval (.Name x pos) X.env) Q E s:=by
 obtain⟨m,k,hl⟩:=I.loc;obtain⟨u,r,l⟩:=hl i x v j e g;rcases l with⟨d,h⟩|⟨d,c,hc,a⟩
 ·exact wpAny_Name (wpAny_loadName_local I.ok.kind d k h (b u r)) hd
 ·rcases d with d | d
  ·exact wpAny_Name (wpAny_loadName_cell I.ok.kind d hc a (b u r)) hd
  ·exact wpAny_Name (wpAny_loadName_free I.ok.kind d hc a (b u r) f) hd
theorem jq{Eσ:St->XK}{i:Nat}(F:FnOk X.prog X.w X.K X.mg X.base CX k f fd ps sp)(J:Room k X.A)(B:X.N[i]?=some x)(v:Vis X.env.scope x)(z:PySem.W.keepIn X.K (.ref f)=true)(n:Binds X.K fd ps [])(G:FQ CX X Eσ)(o:PA X (e::es) t)(l:(x==("__debug__":Str))=false)(j:(x==("__classdict__":Str))=false)(E:starEach (e::es) X.env=(false,eval e X.env)::starEach es X.env)(g:(backTo pos (starEach es X.env)).any (·.1)=false):
  PE X (.Call (.Name x p) (e::es) [] pos) (λσ H Q=>σ[i]?=some (some (.ref f))/\Q9 sp [] Eσ t σ H Q):=by
 intro pins s σ H Q I ⟨hi,h⟩;refine wpAny_Call_Name_kw (jp I B v hi l j λu D=>?_);cases D;refine PySem.W.callWith_K I.ok.mod.kin z (thn (o pos pins s σ H _ I h) λc d⟨vs,H1,a,r,q⟩=>⟨a.kIn,?_⟩) E g;have m:=r.append .nil;have hl:(c++[]).length=ps.length:=by rw[<- m.length];exact F.len _ _ _ _ q
 refine wpAny_call (codeAny_mono (F.run X.A X.stack d H1 ⟨c,[]⟩ (c++[]) (vs++[]) Q (Eσ σ) J a.env0 (n d c a.kIn hl) m q) λr s' b=>?_);cases r with
 | error e=>exact G pins σ H1 d e s' a b
 | ok y =>
  cases y with
  | ret u=>exact a.after b
  | next|brk|cont=>exact Qd b
def fAt(mg:Str->Option Value)(x:Str):Addr:=match mg x with | some (.ref f)=>f | _=>0
theorem SL(h:mg x=some (.ref f)):fAt mg x=f:=by unfold fAt;rw[h]
section
variable {gs:GA}{ex:Xw}
def DJ(i:Nat)(f:Addr)(sp:Spw)(ex:Xw)(gs:GA):GE:=λω G Q=>ω[i]?=some (some (.ref f))/\gs ω G λws G1=>sp ws G1 Q (ex ω)
theorem jr(m:sp.M)(a:gs.M):GE.M (DJ i f sp ex gs):=λω G Q c h q=>⟨q.1,a _ _ _ _ (λb G1 q1=>m _ _ _ _ _ _ h (λ_ _ z=>z) q1) q.2⟩
theorem jt(D:Df X.prog X.w X.K X.mg X.base y k n sp)(o:Room k X.A)(E:X.N[i]?=some x)(J:Vis X.env.scope x)(I:Dh X ex)(L:gs.M)(t:PAw X (e::es) gs)(g:(x==("__debug__":Str))=false)(d:(x==("__classdict__":Str))=false)(O:starEach (e::es) X.env=(false,eval e X.env)::starEach es X.env)(c:(backTo pos (starEach es X.env)).any (·.1)=false):
  PEw X (.Call (.Name x p) (e::es) [] pos) (DJ i (fAt X.mg y) sp ex gs):=by
 obtain⟨f,fd,ps,m,B,P,_,F⟩:=D.ex;rw[SL m];refine Be (jq F o E J B P I t g d O c) λσ H Q b=>?_;obtain⟨ω,G,h,r,q0,q⟩:=b;obtain⟨v,ev,tv⟩:=h.get i _ q0;cases tv;refine⟨ev,ω,G,h,r,L _ _ _ _ (λR G1 q1 vs H1 l a r1=>?_) q⟩;refine⟨R,G1,by rw[Yx];exact a,r1,D.mono _ _ _ _ _ _ (λw j z=>Cj l z) (λC j z H2 u s=>?_) q1⟩;exact⟨C,ω,j,rfl,(h.mono l).mono u,s,z⟩
theorem SM(D:Df X.prog X.w X.K X.mg X.base y k n sp)(j:Room k X.A)(hi:place X.N x=some i)(f:seen X.env.scope x=true)(h:Dh X ex)(d:(x==("__debug__":Str))=false)(c:(x==("__classdict__":Str))=false)(g:starEach (e::es) X.env=(false,eval e X.env)::starEach es X.env)(b:(backTo pos (starEach es X.env)).any (·.1)=false)(a:Am X (e::es) gs):Em X (.Call (.Name x p) (e::es) [] pos) (DJ i (fAt X.mg y) sp ex gs):=⟨jt D j (Rv hi) (Rw f) h a.m a.p d c g b,jr D.mono a.m⟩
theorem J5(D:Df X.prog X.w X.K X.mg X.base x k n sp)(b:Gl X x)(hd:(x==("__debug__":Str))=false):Em X (.Name x pos) (gC (.ref (fAt X.mg x))):=by
 obtain⟨f,fd,ps,a,d,c,_,F⟩:=D.ex;rw[SL a];exact⟨Re (v:=.ref f) b a rfl (λH=>.ref f) hd,GK⟩
end
end L3
namespace L3
open PySem PySem.Spec PyProof.Rows L2
theorem jD{t:SetTable}(h1:t.place.size=n)(h2:t.dummies=#[])(a:n<=t.mask):t.fits n=true:=by
 unfold SetTable.fits SetTable.fill;rw[h2,h1];simp;exact a
structure Bare(led:Bool)(n:Nat)(t:SetTable):Prop where
 pl:t.place=#[]
 dm:t.dummies=#[]
 cv:Tb.cover (t.mask+1)=true
 rm:n<=t.mask
 ld:t.led=led
theorem Bare.fits(B:Bare led n t):t.fits 0=true:=jD (by rw[B.pl];rfl) B.dm (YT _)
theorem SS.ty{s:Shared}(S:SS w s.heap a ks):s.TypeIs (.ref a) "set":=by
 obtain⟨o,es,d,t,c,b,_⟩:=S;exact⟨o,c,b.1⟩
theorem SS.new{s:Shared}(S:SS w s.heap a ks)(o:Obj):SS w (s.heap.push o) a ks:=S.kept λ_ e=>Qm _ e
theorem SS.lt{s:Shared}(S:SS w s.heap a ks):a < s.heap.objs.size:=by
 obtain⟨o,es,c,t,b,_⟩:=S;exact Qn b
theorem SS.same(S:SS w h a ks)(c:a≠b)(d:Heap.SameBut b h h'):SS w h' a ks:=S.kept λo e=>by rw[d.2 a c];exact e
section
variable {w:World}
abbrev Itr(first:Value)(i:Nat)(a:Addr)(n ep:Nat):Obj:={cls:=.type "set_iterator",data:=.fields #[first,.int i 0,.ref a,.int n 0,.int ep 0]}
inductive Md(w:World)(a T:Addr)(es:Array (Int×Value))(ep:Nat)(t:SetTable)(l:List (Int×Value))(h:Heap):Value->Nat->Prop where
 | drawn {ps:List Nat} {oT:Obj} {c i:Nat}:h.get? T=some oT->oT.data=.seq (ps.map λp:Nat=>rawInt p).toArray c->ps.length=l.length->(∀(j p:Nat),ps[j]?=some p->∃ e,es[p]?=some e/\l[j]?=some e)->Md w a T es ep t l h (.ref T) i
 | text {k i:Nat}:bt w=true->l=(pickOrder (w.params.setOrder a ep) es).toList->Md w a T es ep t l h (.int k 0) i
 | few {k i:Nat}:bt w=false->t.led=true->es.size<=1->l=es.toList->(i=0->k=0)->(∀ j:Nat,i=1->t.place[0]?=some j->k=j+1)->Md w a T es ep t l h (.int k 0) i
theorem Md.at(M:Md w a T es d t l h v i)(k:∀ o,h.get? T=some o->h'.get? T=some o):Md w a T es d t l h' v i:=by
 cases M with
 | drawn h1 h2 c b=>exact .drawn (k _ h1) h2 c b
 | text h1 h2=>exact .text h1 h2
 | few h1 h2 c b f e=>exact .few h1 h2 c b f e
end
theorem jF{α:Type}{es:Array α}:∀{ys:List Nat},(∀ p∈ys,p < es.size)->(ys.filterMap (es[·]?)).length=ys.length/\∀(j p:Nat),ys[j]?=some p->∃ e,es[p]?=some e/\(ys.filterMap (es[·]?))[j]?=some e
 | [],_=>⟨rfl,λj p h=>by simp at h⟩
 | y::ys,h=>by
  have b:es[y]?=some (es[y]'(h y Ye)):=Array.getElem?_eq_getElem _;obtain⟨h1,h2⟩:=jF (ys:=ys) λp c=>h p (Yd _ c);rw[List.filterMap_cons,b];refine⟨by simp[h1],λj p a=>?_⟩;cases j with
  | zero =>
   simp only[Yb,Option.some.injEq]at a;subst a;exact⟨_,b,rfl⟩
  | succ j =>
   simp only[Yc]at a ⊢;exact h2 j p a
def E9{α:Type}(kvs:List (Key×α))(x:Str)(d:α):α:=((kvs.find? λy=>decide (y.1=Sum.inr x)).map (·.2)).getD d
theorem Nl{α:Type}{v d:α}{a:List (Key×α)}:E9 ((k,v)::a) x d=if k=Sum.inr x then v else E9 a x d:=by
 unfold E9;by_cases h:k=Sum.inr x
 ·simp[h]
 ·simp[h]
theorem SN(c:RelV d r):∀{a:List (Key×V)}{vs:List (Key×Value)},KV a vs->RelV (E9 a x d) ((valueAt vs (Sum.inr x)).getD r)
 | _,_,.nil=>c
 |(k,v)::a,(i,g)::vs,.cons ⟨e,f⟩ t=>by
  have b:=SN (x:=x) c t;cases(e);rw[Nl];unfold valueAt at b ⊢;by_cases h:k=Sum.inr x
  ·simp[h];exact f
  ·simp[h];exact b
theorem SO{K:PySem.W.Frag}(b:Tr K H d w):∀{vs:List (Key×V)}{a:List (Key×W)},TrP K H vs a->Tr K H (E9 vs x d) (E9 a x w)
 | _,_,.nil=>b
 |(k,v)::vs,(_,u)::a,.cons tv t=>by
  rw[Nl,Nl];split
  ·exact tv
  ·exact SO b t
def jG(o:W)(ws:List W)(G:Hw)(Q:Kw):Prop:=∃ p kvs x d,o=.ref p/\ws=[.str x,d]/\G p=some (.dct kvs)/\Q (E9 kvs x d) G
def Nm(o:W)(G:Hw):Prop:=∃ p kvs,o=.ref p/\G p=some (.dct kvs)
theorem jH:MtR X "dict.get" (λv vs H Q=>∃ p a x d,v=.ref p/\vs=[.str x,d]/\H p=some (.dK a)/\Q (E9 a x d) H):=by
 intro pins s σ H x vs v j Q I g e h;obtain⟨p,a,x,d,rfl,rfl,f,q⟩:=h;cases g;cases e with
 | cons r1 t =>
  cases t with
  | cons i t =>
   cases t;obtain⟨t,rfl⟩:=r1;obtain⟨z,hd,vs,b,c⟩:a.length<=sizeLine/\(p==sysModules)=false/\∃ vs,KV a vs/\s.heap.DictOf (CJ X.prog X.w) p vs:=I.hok p _ f;exact call_meetsIn PySem.F.slot_dict_get c.typeIs PySem.F.entry_dict_get (PySem.F.args_dict_get_3 _ _ _) (meets_dict_get_default (CJ X.prog X.w) p (k:=Sum.inr x) (by simp[CJ,GB,Value.isStrOf]) hd _) ⟨_,c.mapOf,⟨_,H,I.tok _,SN i b,q⟩⟩
theorem SQ:Mth X "dict" "get" "dict.get" Nm jG where
 pa:=PySem.F.plainAttrs_dict
 slot:=PySem.F.slot_dict_get
 ty:=PySem.F.type_dict_get
 ex:=⟨_,jH,λo j v vs G H Q tv f r q=>by
  obtain⟨p,a,x,d,rfl,rfl,e,q⟩:=q;cases tv;cases f with
  | cons t1 t =>
   cases t with
   | cons g t =>
    cases t;cases t1;obtain⟨b,c,l⟩:=r p _ e;exact⟨p,b,x,_,rfl,rfl,c,q _ _ .refl (SO g l) r⟩⟩
 pr:=λo v G H t r h=>by
  obtain⟨p,a,rfl,e⟩:=h;cases t;obtain⟨b,c,l⟩:=r p _ e;exact .inr (.inr (.inl ⟨rfl,.inl ⟨b,c⟩⟩))
 m:=(by rintro o j G Q k h ⟨p,a,x,d,h1,h2,i,q⟩;exact⟨p,a,x,d,h1,h2,i,h _ _ q⟩)
section
variable {K:PySem.W.Frag}{H H':Hp}
theorem jI(u:s.heap.IsTupleIter it l i)(v:s.heap.IsTuple l xs)(e:xs[i]?=some x)(d:∀ h',h'.IsTupleIter it l (i+1)->Heap.SameBut it s.heap h'->Q x {s with heap:=h'}):
  wpAny (model prog w) A (Builtin.SmallTypes.nextOf (.ref it)) Q E s:=by
 obtain⟨g,b,f,a⟩:=id u;obtain⟨j,el,_,h,c⟩:=v;walk_at "pc";refine Qk (m:=field (.ref it) 0) (wpAny_field b a rfl ?_);refine Qk (wpAny_field b a rfl ?_);refine Qk (wpAny_seqItems el c ?_);simp only[Int.toNat_natCast];rw[e];refine Qk (wpAny_setField b a (by simp) (Ql ⟨x,rfl,Ql (d _ ⟨_,Heap.get?_update_self _ b (Obj.isFreed_of_fields (Obj.data_mapFields a _)),(Obj.cls_mapFields ..).trans f,?_⟩ (Qq ..))⟩));rw[Obj.data_mapFields a];simp[rawInt]
theorem jJ(c:A.handled=none)(u:s.heap.IsTupleIter it l i)(v:s.heap.IsTuple l xs)(g:xs[i]?=none)(f:∀ h' e,Heap.ExtBut it s.heap h'->(∃ o,h'.get? e=some o/\o.cls=.type "StopIteration")->E (.ref e) {s with heap:=h'}):wpAny (model prog w) A (Builtin.SmallTypes.nextOf (.ref it)) Q E s:=by
 obtain⟨h,a,n,b⟩:=id u;obtain⟨k,el,_,j,d⟩:=v;walk_at "pc";refine Qk (m:=field (.ref it) 0) (wpAny_field a b rfl ?_);refine Qk (wpAny_field a b rfl ?_);refine Qk (wpAny_seqItems el d ?_);simp only[Int.toNat_natCast];rw[g];refine Qk (wpAny_rule (Qk (wpAny_setField a b (by simp) ?_)));refine Qk ?_;refine Qk (m:=firstArgMember _ _) (wpAny_of_eq (by first | rfl |(rfl)) (wpAny_newObj_type ?_ (by size_fits)));refine Qk (wpAny_handled ?_);rw[show A.in1.handled=none from c];refine Qk (Ql (wpAny_throw ?_));exact f _ _ (((Qq ..).extBut.push _).push _) ⟨_,Qo _ rfl,rfl⟩
theorem tat{h h':Heap}(x:h.IsTupleIter a t i)(k:∀ o,h.get? a=some o->h'.get? a=some o):h'.IsTupleIter a t i:=by
 obtain⟨o,e,r⟩:=x;exact⟨o,k o e,r⟩
def itN(t:Bool):String:=bif t then "tuple_iterator" else "list_iterator"
def ItX(t:Bool)(h:Heap)(a l:Addr)(i:Nat):Prop:=∃ o,h.get? a=some o/\o.cls=.type (itN t)/\o.data=.fields #[.ref l,.int i 0]
def SqH(t:Bool)(h:Heap)(l:Addr)(xs:Array Value):Prop:=match t with | true=>h.IsTuple l xs | false=>h.IsList l xs
theorem ItX.at(x:ItX t h a l i)(k:∀ o,h.get? a=some o->h'.get? a=some o):ItX t h' a l i:=by
 obtain⟨o,e,r⟩:=x;exact⟨o,k o e,r⟩
theorem ItX.extBut(x:ItX t h a l i)(k:Heap.ExtBut b h h')(n:a≠b):ItX t h' a l i:=x.at λo e=>k a o n e
theorem SqH.at(x:SqH t h l xs)(k:∀ o,h.get? l=some o->h'.get? l=some o):SqH t h' l xs:=by
 cases t
 ·obtain⟨o,e,r⟩:=x;exact⟨o,k o e,r⟩
 ·obtain⟨o,e,r⟩:=x;exact⟨o,k o e,r⟩
theorem SqH.extBut(x:SqH t h l xs)(k:Heap.ExtBut b h h')(n:l≠b):SqH t h' l xs:=x.at λo e=>k l o n e
theorem SqH.lt(x:SqH t h l xs):l < h.objs.size:=by
 cases t
 ·obtain⟨o,e,r⟩:=x;exact Qn e
 ·obtain⟨o,e,r⟩:=x;exact Qn e
theorem Nn(u:ItX t s.heap it l i)(v:SqH t s.heap l xs)(a:xs[i]?=some x)(b:∀ h',ItX t h' it l (i+1)->Heap.SameBut it s.heap h'->Q x {s with heap:=h'}):
  wpAny (model prog w) A (Builtin.SmallTypes.nextOf (.ref it)) Q E s:=by
 cases t
 ·exact wpAny_nextOf_list_item u v a b
 ·exact jI u v a b
theorem SR(c:A.handled=none)(u:ItX t s.heap it l i)(v:SqH t s.heap l xs)(a:xs[i]?=none)(b:∀ h' e,Heap.ExtBut it s.heap h'->(∃ o,h'.get? e=some o/\o.cls=.type "StopIteration")->E (.ref e) {s with heap:=h'}):wpAny (model prog w) A (Builtin.SmallTypes.nextOf (.ref it)) Q E s:=by
 cases t
 ·exact wpAny_nextOf_list_end c u v a b
 ·exact jJ c u v a b
theorem ST(v:SqH t s.heap l xs)(a:Q (.ref s.heap.objs.size) {s with heap:=s.heap.push {cls:=.type (itN t),data:=.fields #[.ref l,.int 0 0]}}):wpAny (model prog w) A (pyIter (.ref l)) Q E s:=by
 cases t
 ·exact wpAny_pyIter_list v a
 ·exact wpAny_pyIter_tuple v a
theorem jK{TI TO K:Addr}{Q:Value->Shared->Prop}(D:ZipApart z TI TO i1 i2 K J)(I:IsZip s.heap z TI TO .none)(N:IsPair s.heap TI (.ref i1) (.ref i2))(L:IsPair s.heap TO a b)(u1:ItX t1 s.heap i1 K k1)(u2:ItX t2 s.heap i2 J k2)(v1:SqH t1 s.heap K xs)(v2:SqH t2 s.heap J ys)(hx:xs[k1]?=some x)(hy:ys[k2]?=some y)(hQ:∀ h',IsZip h' z TI TO (rawInt s.heap.objs.size)->IsPair h' TO x y->ItX t1 h' i1 K (k1+1)->ItX t2 h' i2 J (k2+1)->IsPair h' s.heap.objs.size x y->(∀ c o,c≠z->c≠TO->c≠i1->c≠i2->s.heap.get? c=some o->h'.get? c=some o)->Q (.ref s.heap.objs.size) {s with heap:=h'}):
  wpAny (model prog w) A (Builtin.«zip.__next__» ⟨[.ref z],[]⟩) (λO s'=>∃ v,O=.done (.ret v)/\Q v s') E s:=by
 refine Qk (m:=field (.ref z) 2) (wpAny_field I rfl rfl ?_);refine Qk (wpAny_field I rfl rfl (Qk (wpAny_seqItems N rfl ?_)));refine Qk ?_;refine Qk (wpAny_field I rfl rfl (Ql ?_));simp only[if_true];refine Qk (wpAny_rule (Qk (wpAny_field I rfl rfl (Qk (wpAny_setField_rec I (by simp) λX u d=>?_)))));refine Qk ?_;refine Qk (Qk (wpAny_onRaise ?_));refine Qk ?_;refine Nn (u1.extBut d.extBut D.i1z) (v1.extBut d.extBut D.l1z) hx λZ w1 f=>Ql ?_;have hTO₂:=f.extBut _ _ D.TOi1 (d.extBut _ _ D.TOz L);refine Qk (wpAny_seqItems hTO₂ rfl (Qk (wpAny_updateSeq_pair hTO₂ λS hTO₃ g=>?_)));refine Qk (wpAny_letGo (Ql ?_));refine Qk (Qk (wpAny_onRaise ?_));refine Qk ?_;refine Nn (((u2.extBut d.extBut D.i2z).extBut f.extBut D.i12.symm).extBut g.extBut D.TOi2.symm) (((v2.extBut d.extBut D.l2z).extBut f.extBut D.l2i1).extBut g.extBut D.l2TO) hy λU w2 i=>Ql ?_;have hTO₄:=i.extBut _ _ D.TOi2 hTO₃;refine Qk (wpAny_seqItems hTO₄ rfl (Qk (wpAny_updateSeq_pair hTO₄ λj hTO₅ h=>?_)));refine Qk (wpAny_letGo (Ql (Ql ?_)));refine Qk (wpAny_seqItems hTO₅ rfl (Qk (wpAny_newTuple ?_ (by show(2:Nat)<=sizeLine;decide))));have H:j.objs.size=s.heap.objs.size:=by rw[h.1,i.1,g.1,f.1,d.1]
 have p:=h.extBut _ _ D.TOz.symm (i.extBut _ _ D.i2z.symm (g.extBut _ _ D.TOz.symm (f.extBut _ _ D.i1z.symm u)));have P:=((w1.extBut g.extBut D.TOi1.symm).extBut i.extBut D.i12).extBut h.extBut D.TOi1.symm;have R:=w2.extBut h.extBut D.TOi2.symm;refine Qk ?_;have B:IsZip (j.push {cls:=.type "tuple",data:=.seq #[x,y]}) z TI TO .ellipsis:=Qm _ p;refine Qk (wpAny_setField_rec B (by simp) λY t n=>?_);refine wpAny_setField_rec t (by simp) λr l k=>?_;have G:=Nat.ne_of_gt (Qn p);have q:∀ c o,c≠z->j.get? c=some o->r.get? c=some o:=λc o F e=>k.extBut _ _ F (n.extBut _ _ F (Qm _ e));have hT₈:=k.extBut _ _ G (n.extBut _ _ G (Qo _ rfl));rw[H]at l hT₈;refine Ql ⟨_,rfl,(?_:Q (.ref j.objs.size) _)⟩;rw[H];exact hQ r l (q _ _ D.TOz hTO₅) (P.at λo e=>q _ o D.i1z e) (R.at λo e=>q _ o D.i2z e) hT₈ λc o F T c3 c4 e=>q c o F (h.extBut _ _ T (i.extBut _ _ c4 (g.extBut _ _ T (f.extBut _ _ c3 (d.extBut _ _ F e)))))
theorem jX{TI TO H:Addr}(S:A.handled=none)(D:ZipApart z TI TO i1 i2 I H)(B:IsZip s.heap z TI TO .none)(L:IsPair s.heap TI (.ref i1) (.ref i2))(G:IsPair s.heap TO a b)(R:ItX t1 s.heap i1 I k1)(Z:ItX t2 s.heap i2 H k2)(v1:SqH t1 s.heap I xs)(v2:SqH t2 s.heap H ys)(y:xs[k1]?=none\/ys[k2]?=none)(X:∀ h' e,(∀ c o,c≠z->c≠TO->c≠i1->c≠i2->s.heap.get? c=some o->h'.get? c=some o)->(∃ o,h'.get? e=some o/\o.cls=.type "StopIteration")->E (.ref e) {s with heap:=h'}):wpAny (model prog w) A (Builtin.«zip.__next__» ⟨[.ref z],[]⟩) Q E s:=by
 refine Qk (m:=field (.ref z) 2) (wpAny_field B rfl rfl ?_);refine Qk (wpAny_field B rfl rfl (Qk (wpAny_seqItems L rfl ?_)));refine Qk ?_;refine Qk (wpAny_field B rfl rfl (Ql ?_));simp only[if_true];refine Qk (wpAny_rule (Qk (wpAny_field B rfl rfl (Qk (wpAny_setField_rec B (by simp) λU i d=>?_)))));refine Qk ?_;refine Qk (Qk (wpAny_onRaise ?_));refine Qk ?_;cases P:xs[k1]? with
 | none =>
  refine SR S (R.extBut d.extBut D.i1z) (v1.extBut d.extBut D.l1z) P λF e f J=>?_;obtain⟨O,h,j⟩:=J;have p:=f _ _ D.i1z.symm i;have t:e≠z:=λq=>by subst q;rw[p]at h;cases h;simp at j
  exact wpAny_setField_rec p (by simp) λr _ g=>X r e (λc o u _ K _ q=>g.extBut _ _ u (f _ _ K (d.extBut _ _ u q))) ⟨O,g.extBut _ _ t h,j⟩
 | some x =>
  have hy:ys[k2]?=none:=by
   rcases y with q | q
   ·rw[P]at q;cases q
   ·exact q
  refine Nn (R.extBut d.extBut D.i1z) (v1.extBut d.extBut D.l1z) P λF w1 f=>Ql ?_;have hTO₂:=f.extBut _ _ D.TOi1 (d.extBut _ _ D.TOz G);refine Qk (wpAny_seqItems hTO₂ rfl (Qk (wpAny_updateSeq_pair hTO₂ λr hTO₃ g=>?_)));refine Qk (wpAny_letGo (Ql ?_));refine Qk (Qk (wpAny_onRaise ?_));refine Qk ?_;refine SR S (((Z.extBut d.extBut D.i2z).extBut f.extBut D.i12.symm).extBut g.extBut D.TOi2.symm) (((v2.extBut d.extBut D.l2z).extBut f.extBut D.l2i1).extBut g.extBut D.l2TO) hy λT e n N=>?_;obtain⟨O,h,j⟩:=N;have k:=n _ _ D.i2z.symm (g.extBut _ _ D.TOz.symm (f.extBut _ _ D.i1z.symm i));have t:e≠z:=λq=>by subst q;rw[k]at h;cases h;simp at j
  exact wpAny_setField_rec k (by simp) λv _ l=>X v e (λc o u c2 K Y q=>l.extBut _ _ u (n _ _ Y (g.extBut _ _ c2 (f.extBut _ _ K (d.extBut _ _ u q))))) ⟨O,l.extBut _ _ t h,j⟩
abbrev zX1(t1:Bool)(h:Heap)(l1:Addr):Heap:=h.push {cls:=.type (itN t1),data:=.fields #[.ref l1,.int 0 0]}
abbrev zX2(t1 t2:Bool)(h:Heap)(l1 l2:Addr):Heap:=(zX1 t1 h l1).push {cls:=.type (itN t2),data:=.fields #[.ref l2,.int 0 0]}
abbrev zX3(t1 t2:Bool)(h:Heap)(l1 l2:Addr):Heap:=(zX2 t1 t2 h l1 l2).push {cls:=.type "tuple",data:=.seq #[.ref h.objs.size,.ref (zX1 t1 h l1).objs.size]}
abbrev zX4(t1 t2:Bool)(h:Heap)(l1 l2:Addr):Heap:=(zX3 t1 t2 h l1 l2).push {cls:=.type "tuple",data:=.seq #[.none,.none]}
abbrev zX5(t1 t2:Bool)(h:Heap)(l1 l2:Addr):Heap:=(zX4 t1 t2 h l1 l2).push {cls:=.type "zip",data:=.fields #[.none,.bool false,.bool false,.ref (zX2 t1 t2 h l1 l2).objs.size,.ref (zX3 t1 t2 h l1 l2).objs.size]}
theorem jZ(t1 t2:Bool)(b a:Addr)(xs ys:Array Value):Meets (Builtin.«zip.__new__» ⟨[.type "zip",.ref b,.ref a],[]⟩) (λ_ R s=>SqH t1 s.heap b xs/\SqH t2 s.heap a ys/\R (.ok (.ret (.ref (zX4 t1 t2 s.heap b a).objs.size))) {s with heap:=zX5 t1 t2 s.heap b a}):=
 .of_wp λprog w A R s h=>by
  obtain⟨l,g,d,tk,os⟩:=s;obtain⟨k,j,h⟩:=h;have i:=sub_zip;have c:=k;have f:SqH t2 (Shared.heap ⟨l.push {cls:=.type (itN t1),data:=.fields #[.ref b,.int 0 0]},g,d,tk,os⟩) a ys:=j.at λ_ e=>Qm _ e;wp_walk using ST c,ST f;exact⟨_,rfl,h⟩
theorem j5{s:Shared}(k:SqH t1 s.heap a xs)(l:SqH t2 s.heap b ys)(h:∀ h',IsZip h' (s.heap.objs.size+4) (s.heap.objs.size+2) (s.heap.objs.size+3) .none->IsPair h' (s.heap.objs.size+2) (.ref s.heap.objs.size) (.ref (s.heap.objs.size+1))->IsPair h' (s.heap.objs.size+3) .none .none->ItX t1 h' s.heap.objs.size a 0->ItX t2 h' (s.heap.objs.size+1) b 0->h'.objs.size=s.heap.objs.size+5->(∀ c o,s.heap.get? c=some o->h'.get? c=some o)->Q (.ref (s.heap.objs.size+4)) {s with heap:=h'}):
  wpAny (model prog w) A (call (.type "zip") [.ref a,.ref b]) Q E s:=by
 refine callType_new PySem.F.called_zip (by decide) (PySem.F.typeCall_zip_2 _ _) (PySem.F.newCall_zip_2 _ _) (λobj=>PySem.F.args_object_init_3 obj _ _) PySem.F.entry_zip_new (jZ t1 t2 a b xs ys) ⟨k,l,?_⟩;have e:(zX1 t1 s.heap a).objs.size=s.heap.objs.size+1:=Qp ..;have g:(zX2 t1 t2 s.heap a b).objs.size=s.heap.objs.size+2:=by rw[Qp,e]
 have f:(zX3 t1 t2 s.heap a b).objs.size=s.heap.objs.size+3:=by rw[Qp,g]
 have d:(zX4 t1 t2 s.heap a b).objs.size=s.heap.objs.size+4:=by rw[Qp,f]
 have j:(zX5 t1 t2 s.heap a b).objs.size=s.heap.objs.size+5:=by rw[Qp,d]
 have i:(zX5 t1 t2 s.heap a b).get? (zX4 t1 t2 s.heap a b).objs.size=some _:=Qo _ rfl;have g4:(zX5 t1 t2 s.heap a b).get? (zX3 t1 t2 s.heap a b).objs.size=some _:=Qm _ (Qo _ rfl);have g3:(zX5 t1 t2 s.heap a b).get? (zX2 t1 t2 s.heap a b).objs.size=some _:=Qm _ (Qm _ (Qo _ rfl));have g2:(zX5 t1 t2 s.heap a b).get? (zX1 t1 s.heap a).objs.size=some _:=Qm _ (Qm _ (Qm _ (Qo _ rfl)));have g1:(zX5 t1 t2 s.heap a b).get? s.heap.objs.size=some _:=Qm _ (Qm _ (Qm _ (Qm _ (Qo _ rfl))));rw[g,f,d]at i;rw[e,g]at g3;rw[f]at g4;rw[e]at g2;rw[d];exact⟨⟨_,i,rfl⟩,h _ i g3 g4 ⟨_,g1,rfl,rfl⟩ ⟨_,g2,rfl,rfl⟩ j λc o x=>Qm _ (Qm _ (Qm _ (Qm _ (Qm _ x))))⟩
def SqX(t:Bool)(K:PySem.W.Frag)(H:Hp)(a:Addr)(xs:List V):Prop:=match t with | true=>SqT K H a xs | false=>SqL K H a xs
theorem He{σ:St}(I:Inv X pins σ H s)(h:SqX t X.K H a xs):∃ b:List Value,Vals xs b/\SqH t s.heap a b.toArray:=by
 cases t
 ·obtain⟨b,r,p,_⟩:=I.list h;exact⟨b,r,p.isList⟩
 ·obtain⟨b,r,p,_⟩:=I.tuple h;exact⟨b,r,p⟩
theorem SU{σ:St}(I:Inv X pins σ H s)(h:SqX t X.K H a xs)(h':SqX t X.K H a ys):xs=ys:=by
 cases t
 ·exact I.list_inj h h'
 ·exact I.tuple_inj h h'
def SV(t1 t2:Bool)(K:PySem.W.Frag)(l1 l2:Addr):It :=
 ⟨λi H=>∃ xs ys,SqX t1 K H l1 xs/\SqX t2 K H l2 ys/\i < xs.length/\i < ys.length,
  λi H v H'=>∃ T x y,H T=none/\v=.ref T/\H'=upd H T (.tup [x,y])/\∀ xs ys,SqX t1 K H l1 xs->SqX t2 K H l2 ys->xs[i]?=some x/\ys[i]?=some y,
  λi H=>∃ xs ys,SqX t1 K H l1 xs/\SqX t2 K H l2 ys/\i=min xs.length ys.length⟩
theorem j7{TI TO:Addr}(D:ZipApart z TI TO i1 i2 S R):
  Es P w K (.Tuple L k tpos) (SV t1 t2 K S R) [z,TI,TO,i1,i2] z (λi h=>IsZip h z TI TO .none/\IsPair h TI (.ref i1) (.ref i2)/\(∃ a b,IsPair h TO a b)/\ItX t1 h i1 S i/\ItX t2 h i2 R i):=
 have obj:∀{i h},(IsZip h z TI TO .none/\IsPair h TI (.ref i1) (.ref i2)/\(∃ a b,IsPair h TO a b)/\ItX t1 h i1 S i/\ItX t2 h i2 R i)->∀ b∈[z,TI,TO,i1,i2],∃ o,h.get? b=some o/\∀ v,o.data≠.cell v:=λst b d=>by
  obtain⟨n,f,⟨a,c,g⟩,⟨o1,e1,_,d1⟩,⟨o2,e2,_,d2⟩⟩:=st;simp only[Yo,YX,or_false]at d;rcases d with rfl | rfl | rfl | rfl | rfl
  ·exact⟨_,n,λv z=>by cases z⟩
  ·exact⟨_,f,λv z=>by cases z⟩
  ·exact⟨_,g,λv z=>by cases z⟩
  ·exact⟨o1,e1,λv z=>by rw[d1]at z;cases z⟩
  ·exact⟨o2,e2,λv z=>by rw[d2]at z;cases z⟩
 {mem:=by simp
  obj:=λi h st=>obj st
  keep:=λi h h' st B=>by
   obtain⟨n,f,⟨a,c,g⟩,h1,h2⟩:=st;exact⟨B z (by simp) _ n,B TI (by simp) _ f,⟨a,c,B TO (by simp) _ g⟩,h1.at λo e=>B i1 (by simp) o e,h2.at λo e=>B i2 (by simp) o e⟩
  item:=by
   intro X hP hw hK hc i pins s σ H E I Y st hg;have ob:=obj st;subst hP hw hK;obtain⟨xs,ys,U,Z,hix,hiy⟩:=hg;obtain⟨t,r1,y⟩:=He I U;obtain⟨r,r2,u⟩:=He I Z;obtain⟨n,f,⟨a,b,g⟩,h1,h2⟩:=st;have N:s.TypeIs (.ref z) "zip":=⟨_,n,rfl⟩;have gx:=Yp hix;have gy:=Yp hiy;obtain⟨u1,q1,rv1⟩:=r1.get gx;obtain⟨u2,q2,rv2⟩:=r2.get gy;refine Qk (wpAny_attempt (wpAny_callSpecial?_slot N PySem.F.slot_zip_next (wpAny_call_entry PySem.F.slot_zip_next N PySem.F.entry_zip_next (jK D n f g h1 h2 y u (by simpa using q1) (by simpa using q2) λh' a1 a2 a3 a4 a5 T=>Ql ?_) (PySem.F.args_zip_next_1 _))));refine⟨_,rfl,wpAny_letOwnedTupleGo_zip a1 λh2 hz' j=>?_⟩;have lt:∀{b:Addr}{o:Obj},s.heap.get? b=some o->b≠s.heap.objs.size:=λe=>Ys (Qn e);have l:∀ b,b∉[z,TI,TO,i1,i2]->b≠z/\b≠TO/\b≠i1/\b≠i2:=λb d=>⟨λe=>d (by simp[e]),λe=>d (by simp[e]),λe=>d (by simp[e]),λe=>d (by simp[e])⟩;have I1:Inv X pins σ H {s with heap:=h2}:=Inv.turneds I Y λb o d e=>j.extBut _ _ (l b d).1 (T b o (l b d).1 (l b d).2.1 (l b d).2.2.1 (l b d).2.2.2 e);have G:=I.hok.fresh (Yr _);have hTz:=YU (lt n)
   have I2:Inv X pins σ (upd H s.heap.objs.size (.tup [xs[i],ys[i]])) {s with heap:=h2}:=by
    refine I1.track G ?_ (λx c e=>?_) (λp hp=>?_) ?_ ⟨by show 2<=sizeLine;decide,[u1,u2],.cons rv1 (.cons rv2 .nil),⟨_,j.extBut _ _ hTz a5,rfl,rfl,_,rfl⟩⟩
    ·obtain⟨m,⟨o,es,ep,O,_⟩,_⟩:=I.loc;exact YU (lt O)
    ·obtain⟨v,o,O,_⟩:=I.cell x c e;exact lt O
    ·exact lt (I.pin p hp).1
    ·cases e:X.s₀.heap.get? s.heap.objs.size with
     | none=>rfl
     | some o=>exact Qj (Yu (Qn e) I.sz) (YJ _)
   refine⟨.ref s.heap.objs.size,_,I2,rfl,⟨_,_,_,G,rfl,rfl,λxs' ys' hx' hy'=>?_⟩,⟨hz',j.extBut _ _ D.TIz (T _ _ D.TIz D.TITO D.TIi1 D.TIi2 f),⟨_,_,j.extBut _ _ D.TOz a2⟩,a3.extBut j.extBut D.i1z,a4.extBut j.extBut D.i2z⟩,λb d=>?_⟩
   ·rw[SU I hx' U,SU I hy' Z];exact⟨gx,gy⟩
   ·obtain⟨o,e,_⟩:=ob b d;rw[A5 (lt e)];exact(Y b d).1
  done:=by
   intro X hP hw hK hc i pins s σ H E I Y st hg;subst hP hw hK;obtain⟨xs,ys,U,Z,hi⟩:=hg;obtain⟨t,r1,y⟩:=He I U;obtain⟨r,r2,u⟩:=He I Z;have n1:=r1.length;have n2:=r2.length;obtain⟨n,f,⟨a,b,g⟩,h1,h2⟩:=st;have N:s.TypeIs (.ref z) "zip":=⟨_,n,rfl⟩
   have J:t.toArray[i]?=none\/r.toArray[i]?=none:=by
    rcases Nat.le_total xs.length ys.length with q | q
    ·exact .inl (Array.getElem?_eq_none (by simp only[Yn];lia))
    ·exact .inr (Array.getElem?_eq_none (by simp only[Yn];lia))
   refine Qk (wpAny_attempt (wpAny_callSpecial?_slot N PySem.F.slot_zip_next (wpAny_call_entry PySem.F.slot_zip_next N PySem.F.entry_zip_next (jX (I.ok.hd hc) D n f g h1 h2 y u J λh' e T he=>?_) (PySem.F.args_zip_next_1 _))));obtain⟨o,O,hc⟩:=he;exact Qk (wpAny_isInstance ⟨o,O,hc⟩ isSubtype_stop (Ql ⟨rfl,Inv.turneds I Y λb o d e=>T b o (λe=>d (by simp[e])) (λe=>d (by simp[e])) (λe=>d (by simp[e])) (λe=>d (by simp[e])) e⟩))
  self:=λA i s Q E st h=>wpAny_pyIter_zip st.1 h}
def ka(t1 t2:Bool)(K:PySem.W.Frag)(ta:TA):TI:=λσ H R=>ta σ H λvs H1=>∃ a b xs ys,vs=[.ref a,.ref b]/\SqX t1 K H1 a xs/\SqX t2 K H1 b ys/\R (SV t1 t2 K a b) H1
theorem kd(B:Gl X "zip")(A:X.mg "zip"=none)(D:PA X [a,b] ta)(z:starEach [a,b] X.env=[(false,eval a X.env),(false,eval b X.env)])(d:starEach [b] X.env=[(false,eval b X.env)]):
  PI X (.Tuple j k tpos) (.Call (.Name "zip" p) [a,b] [] pos) (ka t1 t2 X.K ta):=by
 intro pins s σ H R I h;refine Call_ (EY I B A boot_zip (Qb (thn (D pos pins s σ H _ I h) λS L o=>?_) (by rw[z,d]) (by rw[d];rfl)));obtain⟨vs,H1,f,r1,q1⟩:=o;obtain⟨P,O,xs,ys,e,F,N,q⟩:=q1;subst e;obtain⟨u,Q,rfl,J,t⟩:=JC r1;cases J;cases t;obtain⟨x,_,i⟩:=He f F;obtain⟨v,_,g⟩:=He f N;refine j5 i g λh' y r l n m G E=>wpAny_pyIter_zip y (⟨_,_,_,_,H1,rfl,f.kept E,j7 (zipApart_new i.lt g.lt),⟨y,r,⟨_,_,l⟩,n,m⟩,λb w=>?_,q⟩)
 have c:L.heap.objs.size<=b:=by
  simp only[Yo,YX,or_false]at w;rcases w with rfl | rfl | rfl | rfl | rfl
  ·exact YW _ 4
  ·exact YW _ 2
  ·exact YW _ 3
  ·exact Yr _
  ·exact YW _ 1
 exact f.fpOk c (f.hok.fresh c)
theorem ke(t:Tr K H v (.tup xs)):∃ a vs,v=.ref a/\SqT K H a vs/\TrL K H vs xs:=by
 cases t with
 | tup h l=>exact⟨_,_,rfl,h,l⟩
def rdX(t:Bool)(G:Hw)(x:W):Option (List W):=match t,x with | true,.tup xs=>some xs | true,_=>none | false,x=>rdL G x
theorem J6(r:RelH K H G)(b:Tr K H v x)(e:rdX t G x=some xs):∃ a vs,v=.ref a/\SqX t K H a vs/\TrL K H vs xs:=by
 cases t
 ·exact R6 r b e
 ·unfold rdX at e;split at e
  ·cases e;exact ke b
  ·cases e
  ·rename_i h;cases h
def SW(t1 t2:Bool)(gs:GA):GI:=λω G R=>gs ω G λws G1=>∃ x y xs ys,ws=[x,y]/\rdX t1 G1 x=some xs/\rdX t2 G1 y=some ys/\R (B8 xs ys) (λG=>rdX t1 G x=some xs/\rdX t2 G y=some ys) G1
theorem kf(m:gs.M):GI.M (SW t1 t2 gs):=λω G R d h q=>m _ _ _ _ ((by rintro c G1 ⟨x,y,xs,ys,e,a,b,z⟩;exact⟨x,y,xs,ys,e,a,b,h _ _ _ z⟩)) q
theorem SX(t1 t2:Bool)(Y:X.mg "zip"=none)(Z:Gl X "zip")(U:starEach [a,b] X.env=[(false,eval a X.env),(false,eval b X.env)])(A:starEach [b] X.env=[(false,eval b X.env)])(B:Am X [a,b] gs):
  Im X (.Tuple s k tpos) (.Call (.Name "zip" p) [a,b] [] pos) (SW t1 t2 gs):=by
 refine⟨⟨_,kd (t1:=t1) (t2:=t2) Z Y B.p U A,λσ H ω G R R0 ts r q kk=>⟨ω,G,ts,r,B.m _ _ _ _ (λws G1 z vs H1 m t r1=>?_) q⟩⟩,kf B.m⟩;obtain⟨x,y,xs,ys,rfl,O,N,z⟩:=z;cases t with
 | cons Q t =>
  cases t with
  | cons ty t =>
   cases t;obtain⟨P,E,rfl,I,l1⟩:=J6 r1 Q O;obtain⟨L,F,rfl,D,l2⟩:=J6 r1 ty N
   have two:∀{e n},Mono X.K H1 e->RelH X.K e n->(rdX t1 n x=some xs/\rdX t2 n y=some ys)->∃ d c,SqX t1 X.K e P d/\TrL X.K e d xs/\SqX t2 X.K e L c/\TrL X.K e c ys:=λ{e n}g f g3=>by
    obtain⟨b1,d,e3,o,j⟩:=J6 f (Q.mono g) g3.1;obtain⟨b2,c,e4,l,h⟩:=J6 f (ty.mono g) g3.2;cases e3;cases e4;exact⟨d,c,o,j,l,h⟩
   refine⟨P,L,E,F,rfl,I,D,kk _ _ _ H1 _ z m r1 ⟨O,N⟩ ⟨λi e n g f g3 hi=>?_,λi e n v H4 g f g3 y3 hi=>?_,λe n g f g3=>?_⟩⟩
   ·obtain⟨d,c,o,j,l,h⟩:=two g f g3;rw[M4]at hi;exact⟨d,c,o,l,by rw[j.length];lia,by rw[h.length];lia⟩
   ·obtain⟨d,c,o,j,l,h⟩:=two g f g3;obtain⟨T,v1,v2,S,rfl,rfl,hv⟩:=y3;obtain⟨g1,g2⟩:=hv _ _ o l;obtain⟨w1,q1,w⟩:=j.get' g1;obtain⟨w2,q2,u⟩:=h.get' g2;have J:Mono X.K e (upd e T (.tup [v1,v2])):=Mono.new S _;exact⟨J,f.mono0 S,_,R7 _ _ i q1 q2,.tup (SqT.of B4) (.cons (w.mono J) (.cons (u.mono J) .nil))⟩
   ·obtain⟨d,c,o,j,l,h⟩:=two g f g3;exact⟨d,c,o,l,by rw[M4,j.length,h.length]⟩
theorem SY(h:Im X tg e gi)(m:GI.M a)(i:∀ ω G R,a ω G R->gi ω G R):Im X tg e a:=by
 obtain⟨⟨g,p,f⟩,_⟩:=h;exact⟨⟨g,p,λσ H ω G R d c r q b=>f σ H ω G R d c r (i _ _ _ q) b⟩,m⟩
def Ii(gs:GA):GI:=λω G R=>gs ω G λws G1=>∃ xs ys,ws=[.tup xs,.tup ys]/\R (B8 xs ys) yes G1
theorem kh(m:gs.M):GI.M (Ii gs):=λω G R b h q=>m _ _ _ _ ((by rintro a G1 ⟨xs,ys,e,z⟩;exact⟨xs,ys,e,h _ _ _ z⟩)) q
theorem SZ(h:X.mg "zip"=none)(f:Gl X "zip")(g:starEach [a,b] X.env=[(false,eval a X.env),(false,eval b X.env)])(d:starEach [b] X.env=[(false,eval b X.env)])(e:Am X [a,b] gs):
  Im X (.Tuple c k tpos) (.Call (.Name "zip" p) [a,b] [] pos) (Ii gs):=
 SY (SX true true h f g d e) (kh e.m) λω G R q=>e.m _ _ _ _ (by
  rintro i G1 ⟨xs,ys,rfl,z⟩;refine⟨_,_,xs,ys,rfl,rfl,rfl,?_⟩;rw[show(λG=>rdX true G (.tup xs)=some xs/\rdX true G (.tup ys)=some ys)=yes from funext λ_=>propext ⟨λ_=>trivial,λ_=>⟨rfl,rfl⟩⟩];exact z) q
def DL(gs:GA):GI:=λω G R=>gs ω G λws G1=>match ws with
 | [x,y]=>(match rdL G1 x,rdL G1 y with
  | some xs,some ys=>R (B8 xs ys) (λG=>rdL G x=some xs/\rdL G y=some ys) G1
  | _,_=>False)
 | _=>False
theorem S0{gs:GA}{R:List W->(Hw->Prop)->Hw->Prop}(z:match a with
 | [x,y]=>(match rdL G1 x,rdL G1 y with
  | some xs,some ys=>R (B8 xs ys) (λG=>rdL G x=some xs/\rdL G y=some ys) G1
  | _,_=>False)
 | _=>False):∃ x y xs ys,a=[x,y]/\rdL G1 x=some xs/\rdL G1 y=some ys/\R (B8 xs ys) (λG=>rdL G x=some xs/\rdL G y=some ys) G1:=by
 split at z
 ·rename_i x y;split at z
  ·rename_i xs ys b c;exact⟨x,y,xs,ys,rfl,b,c,z⟩
  ·exact z.elim
 ·exact z.elim
theorem ki(m:gs.M):GI.M (DL gs):=λω G R d h q=>m _ _ _ _ (λc G1 z=>by
 obtain⟨x,y,xs,ys,rfl,a,b,z⟩:=S0 (gs:=gs) z;dsimp only;rw[a,b];exact h _ _ _ z) q
theorem kj(j:X.mg "zip"=none)(f:Gl X "zip")(i:starEach [a,b] X.env=[(false,eval a X.env),(false,eval b X.env)])(d:starEach [b] X.env=[(false,eval b X.env)])(e:Am X [a,b] gs):
  Im X (.Tuple c k tpos) (.Call (.Name "zip" p) [a,b] [] pos) (DL gs):=
 SY (SX false false j f i d e) (ki e.m) λω G R q=>e.m _ _ _ _ (by
  intro l G1 z;obtain⟨x,y,xs,ys,rfl,h,g,z⟩:=S0 (gs:=gs) z;exact⟨x,y,xs,ys,rfl,h,g,z⟩) q
end
abbrev F6(h:Heap)(T:Addr)(a b c:Value):Prop:=h.get? T=some {cls:=.type "tuple",data:=.seq #[a,b,c]}
def St3(n l1 l2 l3:Nat)(f0:Value)(i:Nat)(h:Heap):Prop:=IsZip h (n+5) (n+3) (n+4) f0/\F6 h (n+3) (.ref n) (.ref (n+1)) (.ref (n+2))/\(∃ a b c,F6 h (n+4) a b c)/\h.IsListIter n l1 i/\h.IsListIter (n+1) l2 i/\h.IsListIter (n+2) l3 i
section
variable {K:PySem.W.Frag}{H:Hp}
theorem St3.at(st:St3 n m l j g i h)(k:∀(c:Nat)o,n<=c->c<=n+5->h.get? c=some o->h'.get? c=some o):St3 n m l j g i h':=by
 obtain⟨q,f,⟨a,b,c,d⟩,r,s,p⟩:=st;exact⟨k _ _ (by lia) (by lia) q,k _ _ (by lia) (by lia) f,⟨a,b,c,k _ _ (by lia) (by lia) d⟩,r.at λo e=>k _ o (by lia) (by lia) e,s.at λo e=>k _ o (by lia) (by lia) e,p.at λo e=>k _ o (by lia) (by lia) e⟩
abbrev zL(h:Heap)(l:Addr):Heap:=h.push {cls:=.type "list_iterator",data:=.fields #[.ref l,.int 0 0]}
def Np(w:W):Bool:=match w with | .non=>true | _=>false
def isF(neg:Bool)(x y:W)(_:Hw):Option W:=match y with | .non=>some (.bl (Np x != neg))| _=>none
theorem kl(t:Tr K H v x):decide (v=.non)=Np x:=by cases t <;> rfl
theorem km(t:Tr K H u .non):u=.non:=by cases t;rfl
theorem kn(a:Bool)(x y:W)(v u:V)(G:Hw)(H:Hp)(Q:VK)(c:Tr K H v x)(ty:Tr K H u y)(r:RelH K H G)(q:Af (isF a) x y G (dn K H Q)):u=.non/\Q (.bl (Np x != a)) H:=by
 obtain⟨w,e,b⟩:=CL q;cases y with
 | non=>cases e;exact⟨km ty,b _ H .refl (.bl _) r⟩
 | _=>cases e
theorem kq:Cop X .Is (Af (isF false)):=⟨⟨_,cp,λx y v u G H Q a ty r q=>by
 obtain⟨h1,h2⟩:=kn false x y v u G H Q a ty r q;refine⟨h1,?_⟩;rw[kl a];simpa using h2⟩,D3⟩
def St3T(n l1 l2 l3:Nat)(f0:Value)(i:Nat)(h:Heap):Prop:=IsZip h (n+5) (n+3) (n+4) f0/\F6 h (n+3) (.ref n) (.ref (n+1)) (.ref (n+2))/\(∃ a b c,F6 h (n+4) a b c)/\h.IsTupleIter n l1 i/\h.IsTupleIter (n+1) l2 i/\h.IsTupleIter (n+2) l3 i
theorem St3T.at(st:St3T n m l j g i h)(k:∀(c:Nat)o,n<=c->c<=n+5->h.get? c=some o->h'.get? c=some o):St3T n m l j g i h':=by
 obtain⟨q,f,⟨a,b,c,d⟩,r,s,p⟩:=st;exact⟨k _ _ (by lia) (by lia) q,k _ _ (by lia) (by lia) f,⟨a,b,c,k _ _ (by lia) (by lia) d⟩,tat r λo e=>k _ o (by lia) (by lia) e,tat s λo e=>k _ o (by lia) (by lia) e,tat p λo e=>k _ o (by lia) (by lia) e⟩
def Nq(K:PySem.W.Frag)(mg:Str->Option Value)(base:Heap)(x:Str)(D:List (Str×List Str)):Prop:=∃ d,mg x=some (.ref d)/\KTD.TabOf (λss v=>∃ a,v=.ref a/\∀ H:Hp,SqT K H a (ss.map V.str)) base d D
theorem S1(H:Hp):∀ ss:List Str,TrL K H (ss.map V.str) (ss.map W.str)
 | []=>.nil
 | s::ss=>.cons (.str _) (S1 H ss)
theorem kr(X:K.In h)(G:h.Ns mainGlobals mg)(B:K.In base)(e:PySem.W.nsIn K mainGlobals x=some (some (.ref d)))(l:K.lookup d=some o)(hd:(d==sysModules)=false)(c:o.ExactDict)(g:o.data=.dict es b)(f:KTD.Rows (λss v=>∃ a,v=.ref a/\∀ H:Hp,SqT K H a (ss.map V.str)) es.toList D):Nq K mg base x D :=
 ⟨d,PySem.W.mg_of X G e,hd,o,es,b,B _ _ l,c,g,f⟩
theorem CD{ts:List (Str×Tok)}{dd:Option Addr}(h1:e.key=.str x t)(h2:e.val=.ref a)(l:K.lookup a=some ⟨.type "tuple",none,.seq ((ts.map λp=>Value.str p.1 p.2).toArray) n,d⟩)(c:ts.length<=1000)(r:KTD.Rows (λss v=>∃ a,v=.ref a/\∀ H:Hp,SqT K H a (ss.map V.str)) es D):KTD.Rows (λss v=>∃ a,v=.ref a/\∀ H:Hp,SqT K H a (ss.map V.str)) (e::es) ((x,ts.map (·.1))::D):=by
 refine .cons h1 ⟨a,h2,λH=>.inr ⟨_,_,n,l,rfl,rfl,rfl,?_,?_⟩⟩ r
 ·simp only[Yn,Yh];exact Yt c (by decide)
 ·have vs:∀ ts:List (Str×Tok),Vals ((ts.map (·.1)).map V.str) (ts.map λp=>Value.str p.1 p.2):=λts=>by
   induction ts with
   | nil=>exact .nil
   | cons p ts b=>exact .cons ⟨p.2,rfl⟩ b
  simpa using vs ts
end
abbrev kt(h:Heap)(z TI TO:Addr)(f0:Value)(b:Bool):Prop:=h.get? z=some {cls:=.type "zip",dict:=none,data:=.fields #[f0,.bool b,.bool false,.ref TI,.ref TO],slots:=#[]}
def Hd3(n l1 l2 l3 i:Nat)(h:Heap):Prop:=(∃(T:Nat)(o:Obj)(b:Bool),kt h (n+5) (n+3) (n+4) (rawInt T) b/\h.get? T=some o/\(T < n\/n+5 < T))/\F6 h (n+3) (.ref n) (.ref (n+1)) (.ref (n+2))/\h.IsListIter n l1 i/\h.IsListIter (n+1) l2 i/\h.IsListIter (n+2) l3 i
def Cm3(n l1 l2 l3 i:Nat)(h:Heap):Prop:=(i=0/\St3 n l1 l2 l3 .none 0 h)\/Hd3 n l1 l2 l3 i h
theorem Cm3.zip(st:Cm3 n d a c i h):∃ o,h.get? (n+5)=some o/\o.cls=.type "zip":=by
 rcases st with⟨_,st⟩| st
 ·exact⟨_,st.1,rfl⟩
 ·obtain⟨⟨T,o,b,e,_⟩,_⟩:=st;exact⟨_,e,rfl⟩
def St3M(n l1 l2 l3:Nat)(f0:Value)(i:Nat)(h:Heap):Prop:=IsZip h (n+5) (n+3) (n+4) f0/\F6 h (n+3) (.ref n) (.ref (n+1)) (.ref (n+2))/\(∃ a b c,F6 h (n+4) a b c)/\h.IsListIter n l1 i/\h.IsTupleIter (n+1) l2 i/\h.IsTupleIter (n+2) l3 i
theorem St3M.at(st:St3M n m l j g i h)(k:∀(c:Nat)o,n<=c->c<=n+5->h.get? c=some o->h'.get? c=some o):St3M n m l j g i h':=by
 obtain⟨q,f,⟨a,b,c,d⟩,r,s,p⟩:=st;exact⟨k _ _ (by lia) (by lia) q,k _ _ (by lia) (by lia) f,⟨a,b,c,k _ _ (by lia) (by lia) d⟩,r.at λo e=>k _ o (by lia) (by lia) e,tat s λo e=>k _ o (by lia) (by lia) e,tat p λo e=>k _ o (by lia) (by lia) e⟩
section
variable {H:Hp}
def atT{α:Type}(kvs:List (Key×α))(x:Str):Option α:=(kvs.find? λy=>decide (y.1=Sum.inr x)).map (·.2)
theorem Nr{α:Type}{v:α}{a:List (Key×α)}:atT ((k,v)::a) x=if k=Sum.inr x then some v else atT a x:=by
 unfold atT;by_cases h:k=Sum.inr x
 ·simp[h]
 ·simp[h]
theorem S2:∀{a:List (Key×V)}{vs:List (Key×Value)},KV a vs->(atT a x=none/\valueAt vs (Sum.inr x)=none)\/∃ v u,atT a x=some v/\valueAt vs (Sum.inr x)=some u/\RelV v u
 | _,_,.nil=>.inl ⟨rfl,rfl⟩
 |(k,v)::a,(f,d)::vs,.cons ⟨e,c⟩ t=>by
  have b:=S2 (x:=x) t;cases(e);rw[Nr];unfold valueAt at b ⊢;rw[List.find?_cons];by_cases h:k=Sum.inr x
  ·simp only[h];exact .inr ⟨v,d,rfl,rfl,c⟩
  ·simp only[h];exact b
theorem S3{K:PySem.W.Frag}:∀{vs:List (Key×V)}{a:List (Key×W)},TrP K H vs a->(atT vs x=none/\atT a x=none)\/∃ v w,atT vs x=some v/\atT a x=some w/\Tr K H v w
 | _,_,.nil=>.inl ⟨rfl,rfl⟩
 |(k,v)::vs,(_,u)::a,.cons tv t=>by
  rw[Nr,Nr];by_cases h:k=Sum.inr x
  ·rw[if_pos h,if_pos h];exact .inr ⟨_,_,rfl,rfl,tv⟩
  ·rw[if_neg h,if_neg h];exact S3 t
def inK(neg:Bool)(x y:W)(G:Hw):Option W:=match x,y with
 | .str z,.ref p=>(match G p with | some (.dct kvs)=>some (.bl ((atT kvs z).isSome != neg))| _=>none)
 | _,_=>none
def S4:R2:=λx y H Q=>∃ p kvs z v,x=.ref p/\y=.str z/\H p=some (.dK kvs)/\atT kvs z=some v/\Q v H
theorem ku:IxR X S4:=by
 intro value slice pins s σ H x y v u Q I l i h j;obtain⟨p,a,z,v,rfl,rfl,k,b,q⟩:=h;cases l;obtain⟨t,rfl⟩:=i;obtain⟨_,hd,vs,d,e⟩:a.length<=sizeLine/\(p==sysModules)=false/\∃ vs,KV a vs/\s.heap.DictOf (CJ X.prog X.w) p vs:=I.hok p _ k;rcases S2 d with⟨c,_⟩|⟨m,u,c,f,g⟩
 ·rw[c]at b;cases b
 ·rw[c]at b;cases b;refine subscriptTail_builtinR (x:=u) e.typeIs PySem.F.slot_dict_getitem.lookup ?_ j;exact wpAny_getItem_of (by simp[CJ,GB,Value.isStrOf]) e.mapOf f ⟨rfl,_,H,I.tok _,g,q⟩
def ixK(x y:W)(G:Hw):Option W:=match x,y with
 | .ref p,.str z=>(match G p with | some (.dct kvs)=>atT kvs z | _=>none)
 | _,_=>none
theorem kx{K:PySem.W.Frag}(x y:W)(v u:V)(G:Hw)(H:Hp)(Q:VK)(d:Tr K H v x)(ty:Tr K H u y)(r:RelH K H G)(q:Af ixK x y G (dn K H Q)):S4 v u H Q:=by
 obtain⟨w,e,i⟩:=CL q;unfold ixK at e;split at e
 ·rename_i p z;split at e
  ·rename_i b g;cases d;cases ty;obtain⟨c,f,l⟩:=r p _ g;rcases S3 l with⟨_,a⟩|⟨v,u,a,h,tv⟩
   ·rw[a]at e;cases e
   ·rw[h]at e;cases e;exact⟨p,c,z,v,rfl,rfl,f,a,i _ H .refl tv r⟩
  ·cases e
 ·cases e
theorem S5(e:JE b)(d:Em X a ga)(c:Em X b gb):Em X (.Subscript a b pos) (Ad (Af ixK) ga gb):=⟨Rf ku D3 d.m c.m kx d.p c.p e,DD D3 d.m c.m⟩
def D6{α:Type}(kvs:List (Key×α))(k:Key)(v:α):List (Key×α):=if kvs.any (λkv=>decide (kv.1=k))then kvs.map (λkv=>if kv.1=k then(kv.1,v)else kv)else kvs++[(k,v)]
theorem ky{α:Type}(a:List (Key×α))(k:Key)(v:α):(D6 a k v).length<=a.length+1:=by unfold D6;split <;> simp
theorem S6:∀{a:List (Key×V)}{vs:List (Key×Value)},KV a vs->a.any (λkv=>decide (kv.1=k))=vs.any (λkv=>decide (kv.1=k))
 | _,_,.nil=>rfl
 | _,_,.cons ⟨e,_⟩ t=>by rw[List.any_cons,List.any_cons,S6 t,e]
theorem S7(r:RelV v u):∀{c:List (Key×V)}{vs:List (Key×Value)},KV c vs->KV (c.map λkv=>if kv.1=k then(kv.1,v)else kv) (vs.map λkv=>if kv.1=k then(kv.1,u)else kv)
 | _,_,.nil=>.nil
 |(a,x)::_,(b,y)::_,.cons ⟨e,d⟩ t=>by
  cases(e);rw[Ym,Ym];refine .cons ?_ (S7 r t);by_cases h:a=k
  ·rw[if_pos h,if_pos h];exact⟨rfl,r⟩
  ·rw[if_neg h,if_neg h];exact⟨rfl,d⟩
theorem S8(r:RelV v u):∀{a:List (Key×V)}{vs:List (Key×Value)},KV a vs->KV (a++[(k,v)]) (vs++[(k,u)])
 | _,_,.nil=>.cons ⟨rfl,r⟩ .nil
 | _,_,.cons h t=>.cons h (S8 r t)
theorem kz(r:RelV v u)(h:KV a vs):KV (D6 a k v) (stored vs k u):=by
 unfold D6 stored;rw[S6 h];split
 ·exact S7 r h
 ·exact S8 r h
theorem S9{K:PySem.W.Frag}:∀{vs:List (Key×V)}{a:List (Key×W)},TrP K H vs a->vs.any (λkv=>decide (kv.1=k))=a.any (λkv=>decide (kv.1=k))
 | _,_,.nil=>rfl
 | _,_,.cons _ t=>by rw[List.any_cons,List.any_cons,S9 t]
theorem Nt{K:PySem.W.Frag}(r:Tr K H v w):∀{vs:List (Key×V)}{b:List (Key×W)},TrP K H vs b->TrP K H (vs.map λkv=>if kv.1=k then(kv.1,v)else kv) (b.map λkv=>if kv.1=k then(kv.1,w)else kv)
 | _,_,.nil=>.nil
 |(a,x)::_,(_,y)::_,.cons tv t=>by
  rw[Ym,Ym];by_cases h:a=k
  ·simp only[h];exact .cons r (Nt r t)
  ·simp only[h];exact .cons tv (Nt r t)
theorem Ta{K:PySem.W.Frag}(r:Tr K H v w):∀{vs:List (Key×V)}{a:List (Key×W)},TrP K H vs a->TrP K H (vs++[(k,v)]) (a++[(k,w)])
 | _,_,.nil=>.cons r .nil
 | _,_,.cons h t=>.cons h (Ta r t)
theorem kA{K:PySem.W.Frag}(r:Tr K H v w)(h:TrP K H vs a):TrP K H (D6 vs k v) (D6 a k w):=by
 unfold D6;rw[S9 h];split
 ·exact Nt r h
 ·exact Ta r h
theorem Nu{K:PySem.W.Frag}:∀{vs:List (Key×V)}{a:List (Key×W)},TrP K H vs a->vs.length=a.length
 | _,_,.nil=>rfl
 | _,_,.cons _ t=>by rw[Yg,Yg,Nu t]
end
def D7(g:GE):GE:=λω G Q=>g ω G λx G1=>∃ i,x=.int i/\Q (.int (-i)) G1
theorem kB(m:g.M):GE.M (D7 g):=λω G Q a h q=>m _ _ _ _ (by rintro x G1 ⟨i,e,z⟩;exact⟨i,e,h _ _ z⟩) q
theorem Nv(h:Em X a g):Em X (.UnaryOp .USub a pos) (D7 g):=
 ⟨Be (bX cb h.p) λσ H Q⟨ω,G,b,r,q⟩=>⟨ω,G,b,r,h.m _ _ _ _ (λx G1 z v H1 m t r1=>by
  obtain⟨i,rfl,z⟩:=z;cases t;exact⟨_,rfl,z _ _ m (.int _) r1⟩) q⟩,kB h.m⟩
def Hf(gg:GG)(ga:GE):GS:=λD ω G=>ga ω G λw G1=>gg w ω G1 D.nx
theorem kC(k:swapsWithSole [tg] e pos.line X.env=pure false)(hw:swappedStores [tg] e X.env=pure none)(h1:(assignEach [tg] X.env).map (·.2)=[assign tg X.env])(i:TgW X tg f)(a:Em X e ga):
  Sm X P (.Assign [tg] e pos) (Hf f ga):=by
 obtain⟨⟨g,pg,b⟩,mg⟩:=i;refine⟨λB s=>C1 (Qy a.p pg k hw h1) ?_,λω G D o h _ _ _ q=>a.m _ _ _ _ (λw G1 z=>mg _ _ _ _ _ h z) q⟩;rintro D σ H ⟨ω,G,d,r,mb,q⟩;exact⟨ω,G,d,r,a.m _ _ _ _ (λw G1 z v H1 m t r1=>b v w σ ω H1 G1 _ t (d.mono m) r1 (mg _ _ _ _ _ (λω2 G2 l σ2 H2 j c n=>l σ2 H2 (mb.trans (m.trans j)) c n) z)) q⟩
def ev{α:Type}(lt:Nat->Nat->Bool)(n:Nat):PySem.W.KasT α->Option α
 | .ret a=>some a
 | .ask i j k=>if i≠j/\i < n/\j < n then ev lt n (k (lt i j))else none
section
variable {H H':Hp}
def inS(x y:W)(_:Hw):Option W:=match x,y with
 | .str i,.str j=>some (.bl (!(Builtin.Str.occurrences j i 0 j.length 1).isEmpty))
 | _,_=>none
theorem kD{K:PySem.W.Frag}(x y:W)(v u:V)(G:Hw)(H:Hp)(Q:VK)(a:Tr K H v x)(ty:Tr K H u y)(r:RelH K H G)(q:Af inS x y G (dn K H Q)):∃ i j,v=.str i/\u=.str j/\Q (.bl (!(Builtin.Str.occurrences j i 0 j.length 1).isEmpty)) H:=by
 obtain⟨w,e,b⟩:=CL q;unfold inS at e;split at e
 ·rename_i i j;cases e;cases a;cases ty;exact⟨i,j,rfl,rfl,b _ H .refl (.bl _) r⟩
 ·cases e
theorem kE:Cop X .In (Af inS):=⟨⟨_,cn,kD⟩,D3⟩
def Fa:Nat->List W->List W
 | _,[]=>[]
 | i,x::xs=>.tup [.int i,x]::Fa (i+1) xs
theorem Nw:∀(i:Nat)(xs:List W),(Fa i xs).length=xs.length
 | _,[]=>rfl
 | i,x::xs=>by simp only[Fa,Yg,Nw (i+1) xs]
theorem Tc:∀(j:Nat)(xs:List W)(i:Nat){x:W},xs[i]?=some x->(Fa j xs)[i]?=some (.tup [.int ((j+i:Nat):Int),x])
 | _,[],_,_,h=>by simp at h
 | j,a::xs,0,x,h=>by simp at h;subst h;rfl
 | j,a::xs,i+1,x,h=>by
  have:=Tc (j+1) xs i (x:=x) (by simpa using h);rw[show j+1+i=j+(i+1) by lia]at this;simpa[Fa]using this
def prs(X:Cx)(pos:Pos):List (Option Expr)->List Expr->List (Sem Value×Sem Value)
 | some k::ks,v::vs=>(eval k X.env,do let x <- eval v X.env;standAt pos;pure x)::prs X pos ks vs
 | _,_=>[]
def KVs:List Str->List V->List (Value×Value)->Prop
 | [],[],[]=>True
 | k::ks,v::vs,p::ps=>(∃ t,p.1=.str k t)/\RelV v p.2/\KVs ks vs ps
 | _,_,_=>False
def PD(X:Cx)(pos:Pos)(kes:List (Option Expr))(ves:List Expr)(ks:List Str)(t:TA):Prop :=
 ∀(pins:List (Addr×Obj))(s:Shared)(σ:St)(H:Hp)(Q:List V->Hp->Prop),Inv X pins σ H s->t σ H Q->wpAny (model X.prog X.w) X.A (evalPairs (prs X pos kes ves)) (λps s'=>∃ vs H',Inv X pins σ H' s'/\KVs ks vs ps/\Q vs H') X.xe s
theorem kF:PD X pos [] [] [] Mt:=λ_ _ _ H Q I h=>evalPairs_nil ⟨[],H,I,trivial,h⟩
theorem kG(n:PE X f (tC (.str k)))(p:PE X v te)(j:PD X pos b c ks t):PD X pos (some f::b) (v::c) (k::ks) (JD te t):=by
 intro pins s σ H Q I h;refine evalPairs_cons (thn (n pins s σ H (λu H'=>u=.str k/\H'=H) I ⟨rfl,rfl⟩) λa r d=>?_);obtain⟨B,H1,o,i,rfl,rfl⟩:=d;refine Qk (thn (p pins r σ _ _ o h) λx m e=>Qk (wpAny_standAt (Ql ?_)));obtain⟨g,H2,w,y,q2⟩:=e;exact thn (j pins m σ H2 _ w q2) (by rintro ps A ⟨vs,z,q,l,q3⟩;exact⟨g::vs,z,q,⟨i,y,l⟩,q3⟩)
theorem Td(h:PD X pos b a ks t)(i:∀ σ H Q,t' σ H Q->t σ H Q):PD X pos b a ks t':=λpins s σ H Q I q=>h pins s σ H Q I (i σ H Q q)
def kvW{α:Type}:List Str->List α->List (Key×α)
 | k::ks,v::vs=>(Sum.inr k,v)::kvW ks vs
 | _,_=>[]
theorem KVs.len:∀{ks:List Str}{vs:List V}{ps:List (Value×Value)},KVs ks vs ps->vs.length=ks.length/\ps.length=ks.length
 | [],[],[],_=>⟨rfl,rfl⟩
 | k::ks,v::vs,p::ps,h=>by
  obtain⟨a,b⟩:=KVs.len h.2.2;simp only[Yg];lia
theorem Tf{α:Type}:∀{ks:List Str}{vs:List α},(kvW ks vs).length<=ks.length
 | [],vs=>by cases vs <;> exact Yr _
 | k::ks,[]=>YT _
 | k::ks,v::vs=>by have:=Tf (ks:=ks) (vs:=vs);simp only[kvW,Yg];lia
theorem KVs.carries:∀{ks:List Str}{vs:List V}{ps:List (Value×Value)},KVs ks vs ps->Carries (CJ P w) ps (kvW ks (ps.map (·.2)))
 | [],[],[],_=>trivial
 | k::ks,v::vs,(a,x)::ps,h=>by
  obtain⟨⟨t,e⟩,_,h⟩:=h;have b:=e;subst b;exact⟨aU _ _ _ _,rfl,h.carries⟩
theorem KVs.kv:∀{ks:List Str}{vs:List V}{ps:List (Value×Value)},KVs ks vs ps->KV (kvW ks vs) (kvW ks (ps.map (·.2)))
 | [],[],[],_=>.nil
 | k::ks,v::vs,(a,x)::ps,h=>.cons ⟨rfl,h.2.1⟩ h.2.2.kv
theorem kH{k:Key}{v:Value}(h:∀ y∈a,y.1≠k):stored a k v=a++[(k,v)]:=by
 unfold stored;rw[if_neg];intro z;obtain⟨y,b,e⟩:=List.any_eq_true.mp z;exact h y b (Qh e)
theorem Tg:∀(ks:List Str)(vs:List Value)(a:List (Key×Value)),ks.Nodup->(∀ y∈a,∀ k∈ks,y.1≠Sum.inr k)->merged a (kvW ks vs)=a++kvW ks vs
 | [],vs,a,_,_=>by cases vs <;> simp[kvW,merged]
 | k::ks,[],a,_,_=>by simp[kvW,merged]
 | k::ks,v::vs,a,f,c=>by
  obtain⟨n1,n2⟩:=YQ.mp f;show merged (stored a (Sum.inr k) v) (kvW ks vs)=a++(Sum.inr k,v)::kvW ks vs;rw[kH λy b=>c y b k Ye,Tg ks vs _ n2 λy b j d=>?_,Yv]
  ·rfl
  ·rcases Yz.mp b with b | b
   ·exact c y b j (Yd _ d)
   ·rw[YA.mp b];intro e;exact n1 (by rw[Sum.inr.inj e];exact d)
def kI(ks:List Str)(t:TA):TE:=λσ H Q=>t σ H λvs H1=>ks.Nodup/\∀ l,H1 l=none->Q (.ref l) (upd H1 l (.dK (kvW ks vs)))
theorem kJ(m:(evalEachOpt a X.env).zip ((evalEach d X.env).map λv=>do let x <- v;standAt pos;pure x)=(prs X pos a d).map λp=>(some p.1,p.2))(O:prs X pos a d≠[])(hl:(prs X pos a d).length<=15)(i:ks.length<=15)(f:PD X pos a d ks t):PE X (.Dict a d pos) (kI ks t):=by
 intro pins s σ H Q I h;have k:∀ b:Addr,s.heap.objs.size<=b->H b=none:=λb l=>I.hok.fresh l;refine wpAny_Dict_pairs (knd:=CJ X.prog X.w) m O hl ?_;have g:(s.heap.push {cls:=.type "dict",data:=.dict #[]}).get? s.heap.objs.size=some {cls:=.type "dict",data:=.dict #[]}:=Qo _ rfl;have A:Inv X pins σ H {s with heap:=s.heap.push {cls:=.type "dict",data:=.dict #[]}}:=I.kept λb u e=>Qm _ e
 have E:Inv X (pins++[(s.heap.objs.size,{cls:=.type "dict",data:=.dict #[]})]) σ H {s with heap:=s.heap.push {cls:=.type "dict",data:=.dict #[]}}:=A.pins_of λp f=>by
  rcases Yz.mp f with z | z
  ·exact A.pin p (YL _ z)
  ·rw[YA.mp z];exact⟨g,k _ (Yr _),Nat.ne_of_gt I.lt,I.nofs (Yr _),λv z=>by cases z⟩
 refine thn (f _ _ σ H _ E h) λps B j=>?_;obtain⟨vs,G,r,kv,D,q⟩:=j;have pd:=r.pin (s.heap.objs.size,{cls:=.type "dict",data:=.dict #[]}) (by simp);refine⟨kvW ks (ps.map (·.2)),kv.carries,⟨_,#[],0,pd.1,⟨rfl,rfl,rfl⟩,rfl,λ_ K=>by simp at K,Pairs.nil,List.nodup_nil⟩,λh' y F=>?_⟩;rw[Tg ks _ [] D (λ_ N=>by cases N)]at y;have L:=r.unpinned
 have big:sysModules < s.heap.objs.size:=by
  have h:=(I.mod.glob.keeps I.bk).lt;exact Nat.lt_trans (by decide) h
 have J:Inv X pins σ G {B with heap:=h',toks:=B.toks+ps.length}:=by
  refine L.turned (λb o l e=>(F.2 b l).trans e) pd.2.1 pd.2.2.1 (.inr I.sz) (λx c e=>?_) λp f=>?_
  ·obtain⟨v,o,n,_⟩:=I.cell x c e;exact Ys (Qn n)
  ·exact Ys (Qn (I.pin p f).1)
 refine⟨.ref s.heap.objs.size,_,J.track (o:=.dK (kvW ks vs)) pd.2.1 pd.2.2.1 (λx c e=>?_) (λp f=>Ys (Qn (I.pin p f).1)) ?_ ⟨Yt Tf (Yt i (by decide)),by simpa using Nat.ne_of_gt big,_,kv.kv,y⟩,rfl,q _ pd.2.1⟩
 ·obtain⟨v,o,n,_⟩:=I.cell x c e;exact Ys (Qn n)
 ·cases e:X.s₀.heap.get? s.heap.objs.size with
  | none=>rfl
  | some o=>exact Qj (Yu (Qn e) I.sz) (YJ _)
structure Pm(X:Cx)(pos:Pos)(kes:List (Option Expr))(ves:List Expr)(ks:List Str)(g:GA):Prop where
 p:PD X pos kes ves ks (upA X.K g)
 m:g.M
theorem Nx:Pm X pos [] [] [] Ac:=⟨Td kF (by rintro σ H Q ⟨ω,G,a,r,q⟩;exact q [] H .refl .nil r),JK⟩
theorem F7{j}(c:Em X v ga)(e:Pm X pos b a ks gs):Pm X pos (some (.Constant (.str k) j kp)::b) (v::a) (k::ks) (Aa ga gs):=
 ⟨Td (kG Qu c.p e.p) (by rintro σ H Q ⟨ω,G,g,r,q⟩;exact⟨ω,G,g,r,c.m _ _ _ _ (λx G1 q1 v H1 h i r1=>⟨ω,G1,g.mono h,r1,e.m _ _ _ _ (λxs G2 q2 vs H2 f d l=>q2 _ H2 (h.trans f) (.cons (i.mono f) d) l) q1⟩) q⟩),Rg c.m e.m⟩
def Fb(ks:List Str)(gs:GA):GE:=λω G Q=>gs ω G λws G1=>ks.Nodup/\∀ l,G1 l=none->Q (.ref l) (put G1 l (.dct (kvW ks ws)))
theorem kK(m:gs.M):GE.M (Fb ks gs):=λω G Q b h q=>m _ _ _ _ (by rintro a G1 ⟨e,z⟩;exact⟨e,λl hl=>h _ _ (z l hl)⟩) q
theorem Th{K:PySem.W.Frag}:∀{ks:List Str}{vs:List V}{b:List W},TrL K H vs b->TrP K H (kvW ks vs) (kvW ks b)
 | [],_,_,t=>by cases t <;> exact .nil
 | k::ks,_,_,.nil=>.nil
 | k::ks,_,_,.cons a t=>.cons a (Th t)
theorem Ny(c:(evalEachOpt b X.env).zip ((evalEach a X.env).map λv=>do let x <- v;standAt pos;pure x)=(prs X pos b a).map λp=>(some p.1,p.2))(i:prs X pos b a≠[])(hl:(prs X pos b a).length<=15)(d:ks.length<=15)(e:Pm X pos b a ks gs):Em X (.Dict b a pos) (Fb ks gs):=by
 refine⟨Be (kJ c i hl d e.p) λσ H Q⟨ω,G,g,r,q⟩=>⟨ω,G,g,r,e.m _ _ _ _ (λj G1 z vs H1 h tv r1=>?_) q⟩,kK e.m⟩;obtain⟨f,z⟩:=z;exact⟨f,λl hl=>z l (r1.no hl) _ _ (h.trans (Mono.new hl _)) (.ref l) (RelH.laid r1 (Mono.new hl _) ⟨_,B4,Th (tv.mono (Mono.new hl _))⟩)⟩
theorem kL{δ:Type}{R:δ->Value->Prop}{D:List (Str×δ)}(T:KTD.TabOf R c a D)(n:∀ b o,c.get? b=some o->s.heap.get? b=some o)(h1:∀ d v,KTD.datumAt k D=some d->R d v->Q (some v) {s with toks:=s.toks+1})(h2:KTD.datumAt k D=none->Q none {s with toks:=s.toks+1}):wpAny (model prog w) A (dictGet a (.str k tk)) Q E s:=by
 obtain⟨_,o,es,q,g,hc,hd,j⟩:=T;have g:=n _ _ g
 try with_reducible refine wpAny_holding ?_
 refine Qk (wpAny_pyHash_str (Qk (KTD.kt_dictFind_strs g hd (by simpa using j.exact) ?_)))
 have f:Q (findBy (λk v=>v.isStr k) es k) {s with toks:=s.toks+1}:=by
  have p:findBy (λk v=>v.isStr k) es k=(es.toList.find? λe=>e.key.isStr k).map (·.val):=by
   obtain⟨l⟩:=es;simp[findBy]
  rw[p];cases h:KTD.datumAt k D with
  | none=>rw[j.find_none h];exact h2 h
  | some d=>obtain⟨v,e,m⟩:=j.find_some h;rw[e];exact h1 d v h m
 rw[findBy_of_findIdx?]at f;cases hi:es.findIdx? λe=>e.key.isStr k with
 | none=>rw[hi]at f;exact Ql f
 | some i=>rw[hi]at f;exact Qk (wpAny_dictEntries g hd (Ql f))
variable {prog:Program}{w:World}{s:Shared} in
theorem kM{δ:Type}{R:δ->Value->Prop}{c:Heap}{a:Addr}{D:List (Str×δ)}{k:Str}{tk:Tok}:MeetsIn prog w (Builtin.«dict.get» ⟨[.ref a,.str k tk],[]⟩) (λ_ Z s=>(KTD.TabOf R c a D/\∀ b o,c.get? b=some o->s.heap.get? b=some o)/\(∀ d v,KTD.datumAt k D=some d->R d v->Z (.ok (.ret v)) {s with toks:=s.toks+1})/\(KTD.datumAt k D=none->Z (.ok (.ret .none)) {s with toks:=s.toks+1})):=
 .of_wp λA Z s⟨⟨T,g⟩,h1,h2⟩=>by
  show wpAny _ _ (dictGet a (.str k tk) >>=_) _ _ s;refine Qk (kL T g (λd v e f=>Ql ⟨v,rfl,h1 d v e f⟩) λh=>?_);exact Qk (wpAny_missed_other T.1 (Ql ⟨.none,rfl,h2 h⟩))
def EC(D:List (Str×List Str))(z:Str):W:=match KTD.datumAt z D with | some ss=>.tup (ss.map W.str)| none=>.non
def Ti(D:List (Str×List Str))(gk:GE):GE:=λω G Q=>gk ω G λw G1=>match w with | .str z=>Q (EC D z) G1 | _=>False
theorem kN(h:Nq X.K X.mg X.base x D)(R:Gl X x)(hd:(x==("__debug__":Str))=false)(c:attributeBase (.Name x j) "get" X.env (eval (.Name x j) X.env)=eval (.Name x j) X.env)(f:((backTo cpos (starEach [e] X.env)).all (λx=>!x.1)&&(backToKw cpos (keywordEach [] X.env)).all (λx=>x.1.isSome)&&decide ([e].length+([]:List Keyword).length+(if([]:List Keyword).isEmpty then 0 else 1) < 30))=true)(a:(apos.endLine==cpos.line)=true)(n:starEach [e] X.env=(false,eval e X.env)::starEach [] X.env)(hplain:(backTo cpos (starEach [] X.env)).any (·.1)=false)(g:Em X e B):
  Em X (.Call (.Attribute (.Name x j) "get" apos) [e] [] cpos) (Ti D B):=by
 refine⟨λpins s σ H Q I⟨ω,G,ts,r,q⟩=>?_,λω G Q Q' P q=>g.m _ _ _ _ (λw G1 z=>by cases w <;> first | exact P _ _ z | exact z) q⟩;obtain⟨d,J,T⟩:=h
 have ty:∀{s:Shared},(∀ b o,X.base.get? b=some o->s.heap.get? b=some o)->s.TypeIs (.ref d) "dict":=λg=>by
  obtain⟨_,o,_,_,l,hc,_⟩:=T;exact⟨o,g _ _ l,hc.1⟩
 have nd:∀ b,Value.ref d=.ref b->∃ E,s.heap.get? b=some E/\E.dict=none:=λb e=>by
  injection e with e;subst e;obtain⟨_,o,_,_,l,hc,_⟩:=T;exact⟨o,I.bk _ _ l,hc.2.1⟩
 refine wpAny_Call_method_late c f a rfl (Ep I R J ⟨"dict","dict.get",PySem.F.plainAttrs_dict,PySem.F.slot_dict_get,PySem.F.type_dict_get,ty I.bk,nd,?_⟩ hd);have pa:=FP g.p HN n
 have A:=pa cpos pins s σ H (λvs H1=>∃ z,vs=[.str z]/\∀ v,Tr X.K H1 v (EC D z)->Q v H1) I ⟨ω,G,ts,r,g.m _ _ _ _ (λw G1 z v H1 m t r1=>by
  cases w with
  | str y=>exact⟨y,by rw[Rl t],λv tv=>z v H1 m tv r1⟩
  | _=>exact z.elim) q⟩
 rw[n]at A ⊢;refine Calls.callWith_builtin (by show(false||(backTo cpos (starEach [] X.env)).any (·.1))=false;rw[hplain] <;> rfl) (Calls.evalArgs_plain ?_);refine thn A λus s2 k=>?_;obtain⟨vs,H2,i,O,z,U,q2⟩:=k;subst U;obtain⟨u,rfl,ru⟩:=CZ O;obtain⟨t,rfl⟩:=ru;refine call_meetsIn PySem.F.slot_dict_get (ty i.bk) PySem.F.entry_dict_get (PySem.F.args_dict_get_2 _ _) (kM) ⟨⟨T,i.bk⟩,λY v S Z=>?_,λN=>?_⟩
 ·obtain⟨b,rfl,L⟩:=Z;exact⟨.ref b,H2,i.tok _,rfl,q2 _ (by unfold EC;rw[S];exact .tup (L H2) (S1 H2 Y))⟩
 ·exact⟨.non,H2,i.tok _,rfl,q2 _ (by unfold EC;rw[N];exact .non)⟩
end
theorem kO{j p1 p2 pos}(hc:c.length<=1000)(h:PE X e t):PE X (.JoinedStr [.Constant (.str c) j p1,.FormattedValue e 114 none p2] pos) (λσ H Q=>t σ H λv H1=>∃ z,v=.str z/\(reprText z).length<=1000/\∀ y,Q (.str y) H1):=by
 have big:∀{n:Nat},n<=3000->n<=sizeLine:=λh=>Yt h (by decide);intro pins s σ H Q I q;refine wpAny_JoinedStr (Joins_cons (Calls.Constant_str ?_));have i:∀ y:Str,(Str.empty++y).length=y.length:=λy=>by rw[Str.length_append];exact Nat.zero_add _
 refine⟨c,_,rfl,by rw[i];exact big (by lia),Joins_cons (wpAny_FormattedValue_repr (thn (h pins _ σ H _ (I.tok _) q) ?_))⟩;rintro v l ⟨x,H1,g,r1,z,rfl,m,q1⟩;obtain⟨tk,rfl⟩:=r1;refine wpAny_pyReprObj_str ?_ (big (by lia))
 have d:∀(tk:Tok)(f:Shared),Inv X pins σ H1 f->∃ y t,Value.str (reprText z) tk=Value.str y t/\(Str.empty++c++y).length<=sizeLine/\Joins (model X.prog X.w) X.A X.xe (evalEach [] X.env) (Str.empty++c++y) (λb a=>b.length<=sizeLine/\EP X pins σ Q (Value.str b a.toks) {a with toks:=a.toks+1}) f:=λtk f k=>by
  have hl:(Str.empty++c++reprText z).length<=sizeLine:=by rw[Str.length_append,i];exact big (by lia)
  exact⟨_,_,rfl,hl,Joins_nil ⟨hl,.str _,H1,k.tok _,⟨_,rfl⟩,q1 _⟩⟩
 exact wpAny_formatField_str (d _ _ (g.tok _)) (d _ _ ((g.tok _).tok _)) (big (by lia))
def gFR(g:GE):GE:=λω G Q=>g ω G λw G1=>∃ z,w=.str z/\(reprText z).length<=1000/\∀ y,Q (.str y) G1
theorem kP(m:g.M):GE.M (gFR g):=λω G Q a h q=>m _ _ _ _ (by rintro x G1 ⟨z,e,l,k⟩;exact⟨z,e,l,λy=>h _ _ (k y)⟩) q
theorem kQ{j p1 p2 pos}(hc:c.length<=1000)(h:Em X a g):Em X (.JoinedStr [.Constant (.str c) j p1,.FormattedValue a 114 none p2] pos) (gFR g):=
 ⟨Be (kO hc h.p) λσ H Q⟨ω,G,b,r,q⟩=>⟨ω,G,b,r,h.m _ _ _ _ (λx G1 z v H1 m t r1=>by
  obtain⟨y,rfl,l,z⟩:=z;cases t;exact⟨_,rfl,l,λy=>z y _ _ m (.str _) r1⟩) q⟩,kP h.m⟩
def D8{α:Type}:List (Key×α)->List (Key×α)->List (Key×α)
 | d,[]=>d
 | d,kv::r=>D8 (D6 d kv.1 kv.2) r
theorem Tj{α:Type}:∀(r d:List (Key×α)),(D8 d r).length<=d.length+r.length
 | [],d=>Yr _
 | kv::r,d=>by
  have h1:=Tj r (D6 d kv.1 kv.2);have h2:=ky d kv.1 kv.2;show(D8 (D6 d kv.1 kv.2) r).length<=d.length+(r.length+1);lia
theorem Tl:∀{d:List (Key×V)}{us:List (Key×Value)},KV d us->∀{c:List (Key×V)}{vs:List (Key×Value)},KV c vs->KV (D8 c d) (merged vs us)
 | _,_,.nil,_,_,h=>h
 |(a,x)::d,(b,y)::us,.cons ⟨e,f⟩ t,c,vs,h=>by
  cases(e);exact Tl t (kz f h)
theorem Tn{K:PySem.W.Frag}:∀{c:List (Key×V)}{us:List (Key×W)},TrP K H c us->∀{b:List (Key×V)}{vs:List (Key×W)},TrP K H b vs->TrP K H (D8 b c) (D8 vs us)
 | _,_,.nil,_,_,h=>h
 |(a,x)::c,(_,y)::us,.cons tv t,b,vs,h=>Tn t (kA tv h)
def To(o:W)(ws:List W)(G:Hw)(Q:Kw):Prop:=∃ p q kvs ms,o=.ref p/\ws=[.ref q]/\p≠q/\G p=some (.dct kvs)/\G q=some (.dct ms)/\kvs.length+ms.length<=sizeLine/\Q .non (put G p (.dct (D8 kvs ms)))
theorem kR:MtR X "dict.update" (λv vs H Q=>∃ p q a d,v=.ref p/\vs=[.ref q]/\p≠q/\H p=some (.dK a)/\H q=some (.dK d)/\a.length+d.length<=sizeLine/\Q .non (upd H p (.dK (D8 a d)))):=by
 intro pins s σ H x vs v m Q I E y h;obtain⟨p,q0,a,d,rfl,rfl,i,l,r,hl,q⟩:=h;cases E;obtain⟨u,rfl,B⟩:=y.one;cases B;obtain⟨_,hd,vs,g,n⟩:a.length<=sizeLine/\(p==sysModules)=false/\∃ vs,KV a vs/\s.heap.DictOf (CJ X.prog X.w) p vs:=I.hok p _ l;obtain⟨_,j,m,c,k⟩:d.length<=sizeLine/\(q0==sysModules)=false/\∃ vs,KV d vs/\s.heap.DictOf (CJ X.prog X.w) q0 vs:=I.hok q0 _ r;have J:=Paired.length g;have G:=Paired.length c;refine call_meetsIn PySem.F.slot_dict_update n.typeIs PySem.F.entry_dict_update (PySem.F.args_dict_update_2 _ _) (meets_dict_update (CJ X.prog X.w) p q0 i j) ⟨vs,m,n,k,by lia,λh' f _ t=>?_⟩;have z:∃ o,h'.get? p=some o:=by obtain⟨o,_,_,D,_⟩:=f;exact⟨o,D⟩
 refine⟨.non,_,I.write (by rw[l];trivial) (.inl rfl) (λb w A e=>(t.2 b A).trans e) z ?_,rfl,q⟩;have:=Tj d a;exact⟨by lia,hd,_,Tl c g,f⟩
theorem Tp:Mth X "dict" "update" "dict.update" Nm To where
 pa:=PySem.F.plainAttrs_dict
 slot:=PySem.F.slot_dict_update
 ty:=PySem.F.type_dict_update
 ex:=⟨_,kR,λo x v vs G H Q tv c r q=>by
  obtain⟨p,q0,a,e,rfl,rfl,b,n,i,hl,q⟩:=q;cases tv;cases c with
  | cons t1 t =>
   cases t;cases t1;obtain⟨d,f,l⟩:=r p _ n;obtain⟨vs,j,g⟩:=r q0 _ i;have m:Mono X.K H (upd H p (.dK (D8 d vs))):=Mono.was f _ (λ_ z=>by cases z) (λ_ _ z=>by cases z);exact⟨p,q0,d,vs,rfl,rfl,b,f,j,by rw[Nu l,Nu g];exact hl,q _ _ m .non (RelH.laid r m ⟨_,B4,(Tn g l).mono m⟩)⟩⟩
 pr:=SQ.pr
 m:=(by rintro o x G Q y h ⟨p,q0,a,e,h1,h2,s,k,w,u,q⟩;exact⟨p,q0,a,e,h1,h2,s,k,w,u,h _ _ q⟩)
theorem Tq(D:Df X.prog X.w X.K X.mg X.base x k n sp)(m:Room k X.A)(d:Gl X x)(l:Dh X ex)(a:(x==("__debug__":Str))=false):Em X (.Call (.Name x p) [] [] pos) (Ai sp ex Ac):=by
 refine⟨?_,MH D.mono JK⟩;intro pins s σ H Q I h;obtain⟨f,fd,ps,i,j,c,_,F⟩:=D.ex;obtain⟨ω,G,g,r,q⟩:=h;refine wpAny_Call_Name_kw (Ep I d i ?_ a);refine PySem.W.callWith_K0 I.kIn j (Nj (us:=[]) (vs:=[]) F m c l I .nil ?_);refine⟨[],G,.nil,r,D.mono _ _ _ _ _ _ (λw b z=>z) (λC b z H2 e o=>?_) q⟩;exact⟨C,ω,b,rfl,g.mono e,o,z⟩
def Ij(ws:List W)(_:Hw):Option W:=match ws with | [.int i]=>if decide (-(10 ^ 30) < i/\i < 10 ^ 30)=true then some (.str (Str.ofString (toString i)))else none | _=>none
theorem kS:CallR X (.type "str") (λxs H Q=>∃ i:Int,xs=[.int i]/\(-(10 ^ 30) < i/\i < 10 ^ 30)/\Q (.str (Str.ofString (toString i))) H):=by
 intro pins s σ H xs a Q I r h;obtain⟨i,rfl,hi,q⟩:=h;obtain⟨u,rfl,t,rfl⟩:=CZ r;refine P.str_of_int (shown_abs (N:=1000000000000000000000000000000) (by split <;> lia) (by decide +kernel)) ⟨.str _,H,I.tok _,⟨_,rfl⟩,q⟩
variable {K:PySem.W.Frag}{H:Hp} in
theorem kT:UpC K (rF Ij) (λxs H Q=>∃ i:Int,xs=[.int i]/\(-(10 ^ 30) < i/\i < 10 ^ 30)/\Q (.str (Str.ofString (toString i))) H):=λc vs G H Q t r q=>by
 obtain⟨w,e,a⟩:=CL q;unfold Ij at e;split at e
 ·split at e
  ·rename_i hi;cases e;cases t with
   | cons b t =>
    cases t;cases b;exact⟨_,rfl,Qh hi,a _ H .refl (.str _) r⟩
  ·cases e
 ·cases e
theorem kU:Blt X (.type "str") (rF Ij):=⟨⟨_,kS,kT⟩,FW⟩
def DM(ws:List W)(_:Hw):Option W:=match ws with | [.str x]=>if x.length<=640 then(PySem.intText? x).map W.int else none | _=>none
theorem kW:CallR X (.type "int") (λxs H Q=>∃ x n,xs=[.str x]/\x.length<=640/\PySem.intText? x=some n/\Q (.int n) H):=by
 intro pins s σ H xs b Q I r h;obtain⟨x,n,rfl,hl,a,q⟩:=h;obtain⟨u,rfl,t,rfl⟩:=CZ r;exact PySem.W.KIN.call_text a hl ⟨.int n,H,I.tok _,⟨_,rfl⟩,q⟩
variable {K:PySem.W.Frag}{H:Hp} in
theorem kX:UpC K (rF DM) (λxs H Q=>∃ x n,xs=[.str x]/\x.length<=640/\PySem.intText? x=some n/\Q (.int n) H):=λd vs G H Q t r q=>by
 obtain⟨w,e,a⟩:=CL q;unfold DM at e;split at e
 ·split at e
  ·rename_i hl;obtain⟨n,b,e⟩:=YO.mp e;cases e;cases t with
   | cons c t =>
    cases t;cases c;exact⟨_,n,rfl,hl,b,a _ H .refl (.int _) r⟩
  ·cases e
 ·cases e
theorem kY:Blt X (.type "int") (rF DM):=⟨⟨_,kW,kX⟩,FW⟩
section
variable {K:PySem.W.Frag}{H H':Hp}
theorem kZ{items}(a:s.heap.IsTupleIter it t i)(g:s.heap.IsTuple t items)(f:items[i]?=some x)(e:∀ h',h'.IsTupleIter it t (i+1)->Heap.SameBut it s.heap h'->Q x {s with heap:=h'}):wpAny (model prog w) A (Builtin.SmallTypes.nextOf (.ref it)) Q E s:=by
 obtain⟨o,b,hc,hd⟩:=id a;obtain⟨j,d,_,h,c⟩:=g;walk_at "pd";show wpAny _ _ (field (.ref it) 0 >>=_) _ _ s;refine Qk (wpAny_field b hd rfl ?_);refine Qk (wpAny_field b hd rfl ?_);refine Qk (wpAny_seqItems d c ?_);simp only[Int.toNat_natCast,f];refine Qk (wpAny_setField b hd (by simp) (Ql ⟨x,rfl,Ql (e _ ?_ (Qq ..))⟩));exact⟨_,Heap.get?_update_self _ b (Obj.isFreed_of_fields (Obj.data_mapFields hd _)),(Obj.cls_mapFields ..).trans hc,by rw[Obj.data_mapFields hd];simp[rawInt]⟩
theorem k6{items}(f:A.handled=none)(a:s.heap.IsTupleIter it t i)(j:s.heap.IsTuple t items)(h:items[i]?=none)(g:∀ h' e,Heap.ExtBut it s.heap h'->(∃ o,h'.get? e=some o/\o.cls=.type "StopIteration")->E (.ref e) {s with heap:=h'}):wpAny (model prog w) A (Builtin.SmallTypes.nextOf (.ref it)) Q E s:=by
 obtain⟨o,b,hc,hd⟩:=id a;obtain⟨l,d,_,k,c⟩:=j;walk_at "pd";show wpAny _ _ (field (.ref it) 0 >>=_) _ _ s;refine Qk (wpAny_field b hd rfl ?_);refine Qk (wpAny_field b hd rfl ?_);refine Qk (wpAny_seqItems d c ?_);simp only[Int.toNat_natCast,h];refine Qk (wpAny_rule (Qk (wpAny_setField b hd (by simp) ?_)));refine Qk (Qk (wpAny_newObj_type ?_ (by size_fits)));refine Qk (wpAny_of_eq (by first | rfl |(rfl)) ?_);refine wpAny_newObj_type ?_ (by size_fits);refine Qk (wpAny_handled ?_)
 first | rw[show A.in1.handled=none from f]| rw[f]
 refine Qk (Ql (wpAny_throw ?_));exact g _ _ (((Qq ..).extBut.push _).push _) ⟨_,Qo _ rfl,rfl⟩
abbrev Ik(t:Addr):Obj:={cls:=.type "tuple_iterator",data:=.fields #[.ref t,.int 0 0]}
abbrev Nz(z:Addr):Obj:={cls:=.type "enumerate",data:=.fields #[.none,.bool false,.ref z,rawInt 0,.none,.none]}
theorem k7(t:Addr)(o:Obj)(a:Array Value):
  Meets (Builtin.«enumerate.__new__» ⟨[.type "enumerate",.ref t],[]⟩) (λ_ R s=>(s.heap.get? t=some o/\s.heap.IsTuple t a)/\
   R (.ok (.ret (.ref (s.heap.push (Ik t)).objs.size))) {s with heap:=(s.heap.push (Ik t)).push (Nz s.heap.objs.size)}):=
 .of_wp λprog w A R s h=>by
  obtain⟨⟨hl,b⟩,h⟩:=h;have d:=sub_enumerate;wp_walk using AutoSeq1.wpAny_loadPart' hl;refine wpAny_stack_any λst=>Ql ?_;split
  ·rename_i c _ _ _ _ _;cases(c==Value.type "enumerate")
   ·wp_walk using AutoSeq1.wpAny_loadPart' hl,wpAny_pyIter_tuple b;exact⟨_,rfl,h⟩
   ·wp_walk using AutoSeq1.wpAny_loadPart' hl,wpAny_pyIter_tuple b;exact⟨_,rfl,h⟩
  ·wp_walk using AutoSeq1.wpAny_loadPart' hl,wpAny_pyIter_tuple b;exact⟨_,rfl,h⟩
theorem k8{s:Shared}(d:s.heap.IsTuple t a)(h:∀ h',IsEnum h' (s.heap.objs.size+1) s.heap.objs.size 0 .none->h'.IsTupleIter s.heap.objs.size t 0->h'.objs.size=s.heap.objs.size+2->
   (∀ b o,s.heap.get? b=some o->h'.get? b=some o)->Q (.ref (s.heap.objs.size+1)) {s with heap:=h'}):wpAny (model prog w) A (call (.type "enumerate") [.ref t]) Q E s:=by
 obtain⟨o,hl,_⟩:=id d;refine callType_new F.called_enumerate (by decide) (F.typeCall_enumerate_1 _) (F.newCall_enumerate_1 _) (λobj=>F.args_object_init_2 obj _) F.entry_enumerate_new (k7 t o a) ⟨⟨hl,d⟩,?_⟩;have c:(s.heap.push (Ik t)).objs.size=s.heap.objs.size+1:=Qp ..;rw[c]
 have e:IsEnum ((s.heap.push (Ik t)).push (Nz s.heap.objs.size)) (s.heap.objs.size+1) s.heap.objs.size 0 .none:=by
  have:=Qo (s.heap.push (Ik t)) (o:=Nz s.heap.objs.size) rfl;rw[c]at this;exact this
 exact⟨⟨_,e,rfl⟩,h _ e ⟨_,Qm _ (Qo _ rfl),rfl,rfl⟩ (by rw[Qp,c]) λb o x=>Qm _ (Qm _ x)⟩
theorem la{i:Nat}{Q:Value->Shared->Prop}(N:IsEnum s.heap e it i old)(K:s.heap.IsTupleIter it l i)(hl:s.heap.IsTuple l f)(Z:f[i]?=some x)(c:e≠it)(hQ:∀ h',IsEnumOut h' e it ((i:Int)+1) x s.heap.objs.size->h'.IsTupleIter it l (i+1)->
   h'.get? s.heap.objs.size=some {cls:=.type "tuple",data:=.seq #[.int i s.toks,x]}->h'.objs.size=s.heap.objs.size+1->
   (∀ b o,b≠e->b≠it->s.heap.get? b=some o->h'.get? b=some o)->Q (.ref s.heap.objs.size) {s with heap:=h',toks:=s.toks+1}):
  wpAny (model prog w) A (Builtin.«enumerate.__next__» ⟨[.ref e],[]⟩) (λL s'=>∃ v,L=.done (.ret v)/\Q v s') E s:=by
 obtain⟨G,g,d,tk,os⟩:=s;show wpAny _ _ (field (.ref e) 2 >>=_) _ _ _;refine Qk (wpAny_field N rfl rfl ?_);refine Qk (kZ K hl Z λh1 F z=>?_);have y:=(z.2 e c).trans N;refine Qk (wpAny_field y rfl rfl ?_);refine Qk (wpAny_field y rfl rfl ?_);refine Qk (wpAny_mkInt ?_);refine Qk (wpAny_setField_rec y (by simp) λh2 R q=>?_);refine Qk (wpAny_setField_rec R (by simp) λS O u=>?_);refine Qk (wpAny_newTuple ?_);have j:IsEnum (S.push {cls:=.type "tuple",data:=.seq #[.int i tk,x]}) e it ((i:Int)+1) old:=Qm _ O;generalize n:S.push {cls:=.type "tuple",data:=.seq #[.int i tk,x]}=h4 at j;have B:S.objs.size=G.objs.size:=by rw[u.1,q.1,z.1]
 have p:=Qn N;have U:h4.get? G.objs.size=some {cls:=.type "tuple",data:=.seq #[.int i tk,x]}:=by rw[<- n,<- B];exact Qo _ rfl
 have J:h4.objs.size=G.objs.size+1:=by rw[<- n,Qp,B]
 have T:∀ b o,b≠e->b≠it->G.get? b=some o->h4.get? b=some o:=λb o a t P=>by
  rw[<- n];exact Qm _ (u.extBut b o a (q.extBut b o a (z.extBut b o t P)))
 have D:h4.IsTupleIter it l (i+1):=by
  rw[<- n];obtain⟨o,ho,r⟩:=(F.extBut q.extBut (YU c)).extBut u.extBut (YU c);exact⟨o,Qm _ ho,r⟩
 rw[B];refine Qk (Qk (wpAny_field j rfl rfl (Ql ?_)));refine Qk (wpAny_rule ?_);refine Qk (wpAny_field j rfl rfl ?_);refine Qk (wpAny_setField_rec j (by simp) λh5 I h=>?_);refine Qk (Qk (wpAny_setField_rec I (by simp) λh6 X k=>?_));refine wpAny_setField_rec X (by simp) λY H m=>Qk (wpAny_letGo (Ql ⟨_,rfl,hQ Y H ?_ ?_ ?_ ?_⟩))
 ·exact((D.extBut h.extBut (YU c)).extBut k.extBut (YU c)).extBut m.extBut (YU c)
 ·exact m.extBut _ _ (Nat.ne_of_gt p) (k.extBut _ _ (Nat.ne_of_gt p) (h.extBut _ _ (Nat.ne_of_gt p) U))
 ·rw[m.1,k.1,h.1,J]
 ·exact λb o a t P=>m.extBut b o a (k.extBut b o a (h.extBut b o a (T b o a t P)))
theorem lb{i:Nat}(m:IsEnum s.heap e it i old)(g:s.heap.IsTupleIter it l i)(hl:s.heap.IsTuple l f)(n:f[i]?=some x)(h:e≠it)(p:∀ h',IsEnumOut h' e it ((i:Int)+1) x s.heap.objs.size->h'.IsTupleIter it l (i+1)->
   h'.get? s.heap.objs.size=some {cls:=.type "tuple",data:=.seq #[.int i s.toks,x]}->h'.objs.size=s.heap.objs.size+1->
   (∀ b o,b≠e->b≠it->s.heap.get? b=some o->h'.get? b=some o)->Q (some (.ref s.heap.objs.size)) {s with heap:=h',toks:=s.toks+1}):wpAny (model prog w) A (pyNext (.ref e)) Q E s:=by
 have j:s.TypeIs (.ref e) "enumerate":=⟨_,m,rfl⟩;exact Qk (wpAny_attempt (wpAny_callSpecial?_slot j F.slot_enumerate_next (wpAny_call_entry F.slot_enumerate_next j F.entry_enumerate_next (la m g hl n h λh' a b c d k=>Ql (p h' a b c d k)) (F.args_enumerate_next_1 _))))
theorem lc{i:Nat}(h:A.handled=none)(g:IsEnum s.heap e it i old)(c:s.heap.IsTupleIter it l i)(hl:s.heap.IsTuple l a)(j:a[i]?=none)(m:∀ h',Heap.ExtBut it s.heap h'->Q none {s with heap:=h'}):wpAny (model prog w) A (pyNext (.ref e)) Q E s:=by
 have f:s.TypeIs (.ref e) "enumerate":=⟨_,g,rfl⟩;refine Qk (wpAny_attempt (wpAny_callSpecial?_slot f F.slot_enumerate_next (wpAny_call_entry F.slot_enumerate_next f F.entry_enumerate_next ?_ (F.args_enumerate_next_1 _))));show wpAny _ _ (field (.ref e) 2 >>=_) _ _ _;refine Qk (wpAny_field g rfl rfl ?_);refine Qk (k6 h c hl j λh' x d b=>?_);obtain⟨o,k,hc⟩:=b;refine Qk (wpAny_isInstance ⟨o,k,hc⟩ isSubtype_stop ?_);exact Ql (m _ d)
def Ts(K:PySem.W.Frag)(l:Addr):It :=
 ⟨λi H=>∃ xs,SqT K H l xs/\i < xs.length,
  λi H v H'=>∃ T x,H T=none/\v=.ref T/\H'=upd H T (.tup [.int i,x])/\∀ xs,SqT K H l xs->xs[i]?=some x,
  λi H=>∃ xs,SqT K H l xs/\i=xs.length⟩
theorem lf(n1:e≠it)(n2:l≠e)(n3:l≠it):
  Es P w K (.Tuple t k tpos) (Ts K l) [e,it] e (λi h=>(∃ old,IsEnum h e it i old)/\h.IsTupleIter it l i) where
 mem:=by simp
 obj:=λi h st b a=>by
  obtain⟨⟨old,d⟩,⟨o1,R,_,d1⟩⟩:=st;simp only[Yo,YX,or_false]at a;rcases a with rfl | rfl
  ·exact⟨_,d,λv z=>by cases z⟩
  ·exact⟨o1,R,λv z=>by rw[d1]at z;cases z⟩
 keep:=λi h h' st kk=>by
  obtain⟨⟨old,d⟩,h1⟩:=st;exact⟨⟨old,kk e (by simp) _ d⟩,h1.at λo x=>kk it (by simp) o x⟩
 item:=by
  intro X G hw O hc i pins s σ H E I B st L;subst G hw O;obtain⟨xs,y,S⟩:=L;obtain⟨u,r1,n,z1⟩:=I.tuple y;obtain⟨⟨old,d⟩,h1⟩:=st;have gx:=Yp S;obtain⟨Z,g1,J⟩:=r1.get gx;refine lb d h1 n (by simpa using g1) n1 λh' hO F hT hsz T=>⟨.ref s.heap.objs.size,rfl,wpAny_letOwnedTupleGo_enum hO λg N f=>?_⟩;have lt:∀{b:Addr}{o:Obj},s.heap.get? b=some o->b≠s.heap.objs.size:=λx q=>Qj (Qn x) (by rw[q];exact YJ _);have ne:s.heap.objs.size≠e:=λq=>lt d q.symm;have I1:Inv X pins σ H {s with heap:=g,toks:=s.toks+1}:=Inv.turneds I B λb o a x=>f.extBut b o (λq=>a (by simp[q])) (T b o (λq=>a (by simp[q])) (λq=>a (by simp[q])) x);have r:=I.hok.fresh (Yr _);have j:TupP g s.heap.objs.size #[.int i s.toks,Z]:=⟨_,f.extBut _ _ ne hT,rfl,rfl,_,rfl⟩
  have I2:Inv X pins σ (upd H s.heap.objs.size (.tup [.int i,xs[i]])) {s with heap:=g,toks:=s.toks+1}:=by
   refine I1.track r ?_ (λx c z=>?_) (λp hp=>?_) ?_ ⟨by show 2<=sizeLine;decide,[.int i s.toks,Z],.cons ⟨_,rfl⟩ (.cons J .nil),j⟩
   ·obtain⟨m,⟨o,es,ep,Y,_⟩,_⟩:=I.loc;exact YU (lt Y)
   ·obtain⟨v,o,Y,_⟩:=I.cell x c z;exact lt Y
   ·exact lt (I.pin p hp).1
   ·cases z:X.s₀.heap.get? s.heap.objs.size with
    | none=>rfl
    | some o=>exact Qj (Yu (Qn z) I.sz) (YJ _)
  refine⟨.ref s.heap.objs.size,_,I2,rfl,⟨s.heap.objs.size,_,r,rfl,rfl,λxs' D=>?_⟩,⟨⟨_,N⟩,F.extBut f.extBut (YU n1)⟩,λb a=>?_⟩
  ·rw[I.tuple_inj D y];exact gx
  ·have U:=(B b a).1
   have:b≠s.heap.objs.size:=by
    obtain⟨o1,R,_⟩:=h1;simp only[Yo,YX,or_false]at a;rcases a with rfl | rfl
    ·exact lt d
    ·exact lt R
   rw[A5 this];exact U
 done:=by
  intro X G hw O hc i pins s σ H E I B st L;subst G hw O;obtain⟨xs,y,rfl⟩:=L;obtain⟨u,r1,n,z1⟩:=I.tuple y;have q1:=r1.length;obtain⟨⟨old,d⟩,h1⟩:=st;exact lc (I.ok.hd hc) d h1 n (by simp;lia) λh' T=>⟨rfl,Inv.turneds I B λb o a x=>T b o (λq=>a (by simp[q])) x⟩
 self:=λA i s Q E st h=>by
  obtain⟨⟨old,d⟩,_⟩:=st;exact wpAny_pyIter_enum d h
def lg(K:PySem.W.Frag)(ta:TA):TI:=λσ H R=>ta σ H λvs H1=>∃ a xs,vs=[.ref a]/\SqT K H1 a xs/\R (Ts K a) H1
theorem lh(x:Gl X "enumerate")(v:X.mg "enumerate"=none)(y:PA X [a] ta)(t:starEach [a] X.env=[(false,eval a X.env)]):
  PI X (.Tuple f k tpos) (.Call (.Name "enumerate" p) [a] [] pos) (lg X.K ta):=by
 intro pins s σ H R I h;refine Call_ (EY I x v boot_enumerate (Qb (thn (y pos pins s σ H _ I h) λE n j=>?_) (by rw[t];rfl) rfl));obtain⟨vs,H1,g,r1,q1⟩:=j;obtain⟨w,xs,e,A,q⟩:=q1;subst e;obtain⟨u,rfl,D⟩:=CZ r1;cases D;obtain⟨o,_,d,_⟩:=g.tuple A;have l:w < n.heap.objs.size:=by obtain⟨_,e,_⟩:=d;exact Qn e
 refine k8 d λh' r i B z=>wpAny_pyIter_enum r (⟨_,_,_,_,H1,rfl,g.kept z,lf (Nat.succ_ne_self _) (Ys (Nat.lt_succ_of_lt l)) (Ys l),⟨⟨_,r⟩,i⟩,λb m=>?_,q⟩)
 have c:n.heap.objs.size<=b:=by
  simp only[Yo,YX,or_false]at m;rcases m with rfl | rfl
  ·exact YW _ 1
  ·exact Yr _
 exact g.fpOk c (g.hok.fresh c)
def Il(gs:GA):GI:=λω G R=>gs ω G λws G1=>∃ xs,ws=[.tup xs]/\R (Fa 0 xs) (λ_=>True) G1
theorem li(m:gs.M):GI.M (Il gs):=λω G R b h q=>m _ _ _ _ (λa G1 z=>by
 obtain⟨xs,rfl,z⟩:=z;exact⟨xs,rfl,h _ _ _ z⟩) q
theorem lj(F:X.mg "enumerate"=none)(I:Gl X "enumerate")(E:starEach [a] X.env=[(false,eval a X.env)])(w:Am X [a] gs):
  Im X (.Tuple f k tpos) (.Call (.Name "enumerate" p) [a] [] pos) (Il gs):=by
 refine⟨⟨_,lh I F w.p E,λσ H ω G R Y P r q L=>⟨ω,G,P,r,w.m _ _ _ _ (λZ G1 z vs H1 m t r1=>?_) q⟩⟩,li w.m⟩;obtain⟨xs,rfl,z⟩:=z
 have n:∀{H:Hp}{v:V},Tr X.K H v (.tup xs)->∃ a vs,v=.ref a/\SqT X.K H a vs/\TrL X.K H vs xs:=λt=>by
  cases t with
  | tup h l=>exact⟨_,_,rfl,h,l⟩
 cases t with
 | cons o t =>
  cases t;obtain⟨J,x,rfl,y,Q⟩:=n o;refine⟨J,x,rfl,y,L _ _ _ H1 _ z m r1 trivial ⟨λi j A e u g3 hi=>?_,λi j A v S e u g3 O hi=>?_,λj A e u g3=>?_⟩⟩
  ·obtain⟨b1,b,c,g,d⟩:=n (o.mono e);cases c;rw[Nw]at hi;exact⟨b,g,by rw[d.length];lia⟩
  ·obtain⟨b1,b,c,g,d⟩:=n (o.mono e);cases c;obtain⟨T,v1,B,rfl,rfl,N⟩:=O;have g1:=N _ g;obtain⟨U,q1,s⟩:=d.get' g1;have D:Mono X.K j (upd j T (.tup [.int i,v1])):=Mono.new B _;have g2:=Tc 0 xs i q1;rw[Nat.zero_add]at g2;exact⟨D,u.mono0 B,_,g2,.tup (SqT.of B4) (.cons (.int _) (.cons (s.mono D) .nil))⟩
  ·obtain⟨b1,b,c,g,d⟩:=n (o.mono e);cases c;exact⟨b,g,by rw[Nw,d.length]⟩
end
section
variable {α:Type}
theorem BF:atI (x::xs) 0=some x:=CK (j:=0) (xs:=x::xs) rfl
theorem CF:atI (x::y::xs) 1=some y:=CK (j:=1) (xs:=x::y::xs) rfl
theorem Dl:atI (x::y::z::xs) 2=some z:=CK (j:=2) (xs:=x::y::z::xs) rfl
end
theorem AB:opt (some w) f=f w:=rfl
theorem Az(h:G p=none):Sub G (put G p o):=Sub.refl.put h
theorem BN(s:Sub G a)(h:a p=none):Sub G (put a p o):=s.trans (Az h)
theorem AV:put (put G p o) p o'=put G p o':=by
 funext b;unfold put;split <;> rfl
theorem Dm(h:G p=some (.lst xs)):Ex G (.ref p)=some xs:=by unfold Ex;dsimp only;rw[h]
theorem NA(h:G p=some (.lst xs)):E3 G (.ref p)=some xs:=by unfold E3;dsimp only;rw[h]
theorem NC(h:G p=some (.lst xs)):rdL G (.ref p)=some xs:=by unfold rdL;dsimp only;rw[h]
theorem Fc(h:G p=some (.lst xs)):ixW (.ref p) (.int i) G=atI xs i:=by unfold ixW;dsimp only;rw[h]
theorem Fe:∀ bs:List Bool,FX (bs.map W.bl)=some bs
 | []=>rfl
 | b::bs=>by show(FX (bs.map W.bl)).map (b::·)=_;rw[Fe bs];rfl
theorem ND:∀ bs:List Int,E2 (bs.map W.int)=some bs
 | []=>rfl
 | b::bs=>by show(E2 (bs.map W.int)).map (b::·)=_;rw[ND bs];rfl
theorem Tt:∀ bs:List Str,GV (bs.map W.str)=some (bs.map V.str)
 | []=>rfl
 | b::bs=>by show(JT (.str b)).bind (λv=>(GV (bs.map W.str)).map (v::·))=_;rw[Tt bs];rfl
theorem Tu(s:Str):∀ bs:List Str,inV (.str s) (bs.map V.str)=bs.any (·==s)
 | []=>rfl
 | b::bs=>by
  show(eqV (.str b) (.str s)||inV (.str s) (bs.map V.str))=_;rw[Tu s bs];rfl
theorem F8(a:gd G):∀(b:List W)(o:Option W)(ys:List W),(∀ x∈b,∀ Q:Kw,Q (f x) G->ge [some x] G Q)->
  ys.length+b.length<=sizeLine->R (ys++b.map f) G->BE gd (gNm 0) Bh ge R b [o] G ys
 | [],o,ys,_,_,r=>⟨a,by simpa using r⟩
 | x::b,o,ys,h,hl,r=>by
  refine⟨a,by simp only[Yg]at hl;lia,h x Ye _ (F8 a b (some x) (ys++[f x]) (λy c=>h y (Yd _ c)) ?_ ?_)⟩
  ·simp only[Yj,Yg,Yi]at hl ⊢;lia
  ·simpa[Yv]using r
theorem Tv{f:W->W->W}(a:gd G):∀(b:List (W×W))(o o':Option W)(ys:List W),(∀ x∈b,∀ Q:Kw,Q (f x.1 x.2) G->ge [some x.1,some x.2] G Q)->
  ys.length+b.length<=sizeLine->R (ys++b.map λx=>f x.1 x.2) G->BE gd (Bb 0 1) Bh ge R (b.map λx=>W.tup [x.1,x.2]) [o,o'] G ys
 | [],o,o',ys,_,_,r=>⟨a,by simpa using r⟩
 | x::b,o,o',ys,h,hl,r=>by
  refine⟨a,by simp only[Yg]at hl;lia,h x Ye _ (Tv a b (some x.1) (some x.2) (ys++[f x.1 x.2]) (λy c=>h y (Yd _ c)) ?_ ?_)⟩
  ·simp only[Yj,Yg,Yi]at hl ⊢;lia
  ·simpa[Yv]using r
theorem Tw:∀(xs ys:List W),B8 xs ys=(xs.zip ys).map λx=>W.tup [x.1,x.2]
 | [],_|_::_,[]=>by simp[B8]
 | x::xs,y::ys=>by simp[B8,Tw xs ys]
def spR{α:Type}(A:α->List W->Hw->Prop)(f:α->W):Spw:=λws G Q _=>∃ x,A x ws G/\Q (f x) G
theorem Bw{α:Type}{A:α->List W->Hw->Prop}{f:α->W}:Spw.M (spR A f):=(by rintro b G Q c E a h _ ⟨x,h1,q⟩;exact⟨x,h1,h _ _ q⟩)
def spL{α:Type}(A:α->List W->Hw->Prop)(f:α->List W):Spw:=λws G Q _=>∃ x,A x ws G/\∀ p,G p=none->Q (.ref p) (put G p (.lst (f x)))
theorem J7{α:Type}{A:α->List W->Hw->Prop}{f:α->List W}:Spw.M (spL A f):=(by rintro c G Q d E b h _ ⟨x,h1,q⟩;exact⟨x,h1,λp a=>h _ _ (q p a)⟩)
theorem F9{α:Type}(xs:List α):Co xs (some 1) none=xs.drop 1:=by
 cases xs with
 | nil=>rfl
 | cons x xs =>
  show(xs.take ((xs.length+1) - 1))=xs;rw[Nat.add_sub_cancel,List.take_length]
theorem Io{α:Type}(x:α)(xs:List α):¬ (HT.sIx (x::xs).length 0 (some 1)=0/\HT.sIx (x::xs).length (x::xs).length none=(x::xs).length):=by
 have e:HT.sIx (x::xs).length 0 (some 1)=min 1 (x::xs).length:=HT.sIx_nat (x::xs).length 0 1;intro h;have:=h.1;rw[e]at this;simp only[Yg]at this;lia
theorem ll{lo:Option Int}(h:G p=some (.lst xs))(q:∀ p1,G p1=none->Q (.ref p1) (put G p1 (.lst (Co xs lo hi)))):slW (.ref p) lo hi G Q:=by
 unfold slW;dsimp only;rw[h];exact q
theorem Do{G:Hw}(h:G p=some o)(h':G q=none):p≠q:=by intro e;rw[e,h']at h;cases h
theorem Bo(h:n<=100000):n<=sizeLine:=Yt h (by decide)
theorem DN(h:n<=100000):n < sizeLine:=Nat.lt_of_le_of_lt h (by decide)
theorem ok0{K:PySem.W.Frag}{st:Stmt}(F:Fun K x x st f fd)(S:Ay N ps (Ao st))(len:∀ c G Q E,sp c G Q E->c.length=ps.length)(h:∀{f:Addr}{cdv:Value}{A:Around}{outer:List Env}{s:Shared}{H:Hp}{E:XK},Room k (A.deeper (envOfC x (Ao st) s.heap.objs.size f cdv))->Ssm (cxW P w K mg base N x (Ao st) f cdv A outer s H E).nox (λB=>B=H) (AS st) g)(ok:∀ c G(Q:Kw)(E:Addr->Hw->Prop),Kw.C Q->sp c G Q E->g (AC Q) (Bf N c) G):FnOk P w K mg base (CXe P w) (k+1) f fd ps (C2 K sp):=by
 obtain⟨v,y,kV,l,pm,I,cdv,ct,i,rfl,j,e⟩:=F.ex;refine GH j e S ((by rintro vs H Q E ⟨c,G,t,r,q⟩;rw[t.length];exact len c G _ _ q)) λA outer s H vs Q E n d=>?_;obtain⟨c,G,t,r,q⟩:=d;have D:=h (outer:=outer) (H:=H) (E:=E) n;exact⟨_,(D.p H rfl).nox,Bf N c,G,GM t,r,.refl,D.m _ _ (AC (dn K H Q)) _ (λa b z σ H2 m u o=>z _ H2 m Tr.non o) (λa b z=>z) (λa b z=>z.elim) (λa b z=>z.elim) (ok c G _ _ GN q)⟩
def NE:Spw:=λws _ Q _=>∃ ns:List Int,ws=[.rol (ns.map W.int)]/\ns.length<=63/\∀ G',Q (.bl true) G'
theorem Tz{K:PySem.W.Frag}:∀ ns:List Int,TrL K H (ns.map V.int) (ns.map W.int)
 | []=>.nil
 | n::ns=>.cons (.int n) (Tz ns)
theorem lm{K:PySem.W.Frag}{ns:List Int}(hl:ns.length<=63)(d:JF H)(b:SqL K H a (ns.map V.int)):C2 K NE [.ref a] H (λv _=>v=.bl true) (λ_ _ _=>False):=by
 have c:RoL K H a (ns.map V.int):=by
  rcases b with(h |⟨o,h⟩)| h
  ·rcases d a with z |⟨o,xs,z⟩
   ·rw[z]at h;cases h
   ·rw[z]at h;cases h
  ·exact .inl ⟨o,h⟩
  ·exact .inr h
 exact⟨[.rol (ns.map W.int)],λ_=>none,.cons (.rol c (Tz ns)) .nil,(λa o e=>by cases e),ns,rfl,hl,λf v H' m t r=>GP t⟩
theorem lp(h:CXe P w [] H s (λ_ _ _=>False) e s'):False:=by
 obtain⟨_,_,_,_,_,q⟩:=h;exact q
section
variable {K:PySem.W.Frag}{h:Heap}{mg:Str->Option Value}(X:K.In h)(G:h.Ns mainGlobals mg)
include X G
theorem lq{st:Stmt}{h:Value}{kV:Value}(g:PySem.W.nsIn K mainGlobals x=some (some (.ref f)))(l:K.lookup f=some ⟨h,i,.func (PySem.W.fnOf x x (CA st) (AS st) (Ao st) .none kV a pm e cdv ct),d⟩)(c:PySem.W.codeIn K cdv x=true)(k:PySem.W.keepIn K (.ref f)=true)(b:∀(kV a pm:Value)(e:Option Addr)(cdv ct:Value)(us:List Value),us.length=ps.length->bindArgs (PySem.W.fnOf x x (CA st) (AS st) (Ao st) .none kV a pm e cdv ct) ⟨us,[]⟩=pure (ps.zip us)):Fn K mg st x ps :=
 ⟨f,_,PySem.W.mg_of X G g,Q5 l c k,(Q5 l c k).binds b⟩
theorem Ga(e:PySem.W.nsIn K mainGlobals x=some (some (.int i t))):Glb K mg x (.int i):=⟨.int i,.int i t,PySem.W.mg_of X G e,⟨t,rfl⟩,λH=>.int i⟩
theorem lr{ts:List (Str×Tok)}{dd:Option Addr}(e:PySem.W.nsIn K mainGlobals x=some (some (.ref d)))(l:K.lookup d=some ⟨.type "tuple",none,.seq ((ts.map λp=>Value.str p.1 p.2).toArray) n,f⟩)(c:ts.length<=1000):
  Glb K mg x (.tup (ts.map λp=>.str p.1)):=by
 have vs:∀ ts:List (Str×Tok),Vals (ts.map λp=>V.str p.1) (ts.map λp=>Value.str p.1 p.2):=λts=>by
  induction ts with
  | nil=>exact .nil
  | cons p ts a=>exact .cons ⟨p.2,rfl⟩ a
 have b:∀(H:Hp)(ts:List (Str×Tok)),TrL K H (ts.map λp=>V.str p.1) (ts.map λp=>W.str p.1):=λH ts=>by
  induction ts with
  | nil=>exact .nil
  | cons p ts a=>exact .cons (.str _) a
 refine⟨.ref d,.ref d,PySem.W.mg_of X G e,rfl,λH=>.tup (.inr ⟨_,_,n,l,rfl,rfl,rfl,?_,by simpa using vs ts⟩) (b H ts)⟩;simp only[Yn,Yh];exact Yt c (by decide)
end
theorem ls{K:PySem.W.Frag}(X:K.In h)(G:h.Ns mainGlobals mg)(B:K.In base)(e:PySem.W.nsIn K mainGlobals x=some (some (.ref d)))(l:K.lookup d=some o)(hd:(d==sysModules)=false)(b:o.ExactDict)(c:o.data=.dict es a)(f:KTD.Rows (KTD.Dat.At base) es.toList (D.map λp=>(p.1,KTD.Dat.flat (.int p.2)))):M8 mg base x D :=
 ⟨d,PySem.W.mg_of X G e,hd,o,es,a,B _ _ l,b,c,f⟩
theorem D9{K:PySem.W.Frag}(a:(Value.ref C==Value.ref D)=false)(c:(PySem.W.clsIn K D).isSome=true)(h1:PySem.W.typeIn K (.ref D)=some (.type "type"))(h2:PySem.W.subIn K (.ref C) (.ref D)=some b):PySem.W.kitOne K (.ref C) (.ref D)=some b:=by
 unfold PySem.W.kitOne PySem.W.kitCls;rw[if_neg (by rw[a];exact YS)];dsimp only;rw[if_pos (by rw[c,h1];rfl)];exact h2
theorem TC{K:PySem.W.Frag}:PySem.W.kitOne K (.ref C) (.ref C)=some true:=by
 unfold PySem.W.kitOne;rw[if_pos (by simp)]
theorem TD{K:PySem.W.Frag}(a:PySem.W.kitMeta T=true)(h2:PySem.W.subIn K (.ref C) (.type T)=some b):PySem.W.kitOne K (.ref C) (.type T)=some b:=by
 unfold PySem.W.kitOne PySem.W.kitCls;dsimp only;rw[if_pos a];exact h2
theorem lu{l:PySem.W.OpenLaw}{K:Params->PySem.W.Frag}(n:Room k callerA)(m:l.most=some 63)(b:d.params.defaults=[])(g:∀(w:World)(h:Heap),YP w h->(K w.params).In h)(F:∀(w:World)(mg:Str->Option Value)(c:Addr)(h:Heap),(K w.params).In h->h.Ns mainGlobals mg->mg d.name=some (.ref c)->
   ∃ fd:FuncData,(∀(s:Shared)(u:Value),BindsTo s fd ⟨[u],[]⟩ [("script",u)])/\∀ base:Heap,(K w.params).In base->base.Ns mainGlobals mg->FnOk l.prog w (K w.params) mg base (CXe l.prog w) k c fd ["script"] (C2 (K w.params) NE)):
  PySem.W.WalkO q loose XP YP l.row.toRowW d [] (λf vs=>PySem.call f vs):=
 L2.dR m (by decide) b n g F (λw H a ns hl j i=>lm hl j i) λw H s e s' z=>lp z
theorem C8{α:Type}{o:Option α}{x:α}(h:o=some x):o.isSome=true:=by rw[h];rfl
theorem ln0{us:List Value}(h:us.length=0):us=[]:=List.length_eq_zero_iff.mp h
theorem ln1{us:List Value}(h:us.length=n+1):∃ a r,us=a::r/\r.length=n:=by
 cases us with
 | nil=>cases h
 | cons a r=>exact⟨a,r,rfl,Nat.succ.inj h⟩
end L3
namespace KZ
open PySem L2 L3
mutual
inductive Kd where
 | any | num | truth
 | to (a b:Kd)| box (a:Kd)| row (fs:Fs) (o:Bool)
inductive Fs where
 | nil | cons (n:Str) (m:Bool) (k:Kd) (r:Fs)
end
def mark(m:Bool):Str:=if m then "must" else "may"
mutual
def Kd.enc:Kd->W
 | .any=>.tup [.str "any"]
 | .num=>.tup [.str "num"]
 | .truth=>.tup [.str "truth"]
 | .to a b=>.tup [.str "to",a.enc,b.enc]
 | .box a=>.tup [.str "box",a.enc]
 | .row fs o=>.tup [.str "row",.tup fs.enc,.bl o]
def Fs.enc:Fs->List W
 | .nil=>[]
 | .cons n m k r=>.tup [.str n,.str (mark m),k.enc]::r.enc
end
def Fs.kinds:Fs->List Kd
 | .nil=>[]
 | .cons _ _ k r=>k::r.kinds
def Fs.names:Fs->List Str
 | .nil=>[]
 | .cons n _ _ r=>n::r.names
def Kd.kids:Kd->List Kd
 | .to a b=>[a,b]
 | .box a=>[a]
 | .row fs _=>fs.kinds
 | _=>[]
mutual
def Kd.cnt:Kd->Nat
 | .to a b=>1+(a.cnt+b.cnt)
 | .box a=>1+a.cnt
 | .row fs _=>1+fs.cnt
 | _=>1
def Fs.cnt:Fs->Nat
 | .nil=>0
 | .cons _ _ k r=>k.cnt+r.cnt
end
mutual
def Kd.dp:Kd->Nat
 | .to a b=>1+max a.dp b.dp
 | .box a=>1+a.dp
 | .row fs _=>1+fs.dp
 | _=>1
def Fs.dp:Fs->Nat
 | .nil=>0
 | .cons _ _ k r=>max k.dp r.dp
end
mutual
def Kd.all:Kd->List Kd
 | .to a b=>.to a b::(a.all++b.all)
 | .box a=>.box a::a.all
 | .row fs o=>.row fs o::fs.all
 | .any=>[.any]
 | .num=>[.num]
 | .truth=>[.truth]
def Fs.all:Fs->List Kd
 | .nil=>[]
 | .cons _ _ k r=>k.all++r.all
end
def BO:List Kd->Nat
 | []=>0
 | k::r=>k.cnt+BO r
def dpL:List Kd->Nat
 | []=>0
 | k::r=>max k.dp (dpL r)
theorem NF:∀ fs:Fs,fs.cnt=BO fs.kinds
 | .nil=>rfl
 | .cons _ _ k r=>by show k.cnt+r.cnt=k.cnt+BO r.kinds;rw[NF r]
theorem TF:∀ fs:Fs,fs.dp=dpL fs.kinds
 | .nil=>rfl
 | .cons _ _ k r=>by show max k.dp r.dp=max k.dp (dpL r.kinds);rw[TF r]
theorem TH(k:Kd):k.cnt=1+BO k.kids:=by
 cases k with
 | to a b=>show 1+(a.cnt+b.cnt)=1+(a.cnt+(b.cnt+0));lia
 | box a=>show 1+a.cnt=1+(a.cnt+0);lia
 | row fs o=>show 1+fs.cnt=1+BO fs.kinds;rw[NF]
 | _=>rfl
theorem J8(k:Kd):k.dp=1+dpL k.kids:=by
 cases k with
 | to a b=>show 1+max a.dp b.dp=1+max a.dp (max b.dp 0);lia
 | box a=>show 1+a.dp=1+max a.dp 0;lia
 | row fs o=>show 1+fs.dp=1+dpL fs.kinds;rw[TF]
 | _=>rfl
theorem TJ:∀(l m:List Kd),BO (l++m)=BO l+BO m
 | [],m=>by simp[BO]
 | k::l,m=>by show k.cnt+BO (l++m)=k.cnt+BO l+BO m;rw[TJ l m];lia
theorem TK:∀(l m:List Kd),dpL (l++m)=max (dpL l) (dpL m)
 | [],m=>by simp[dpL]
 | k::l,m=>by show max k.dp (dpL (l++m))=max (max k.dp (dpL l)) (dpL m);rw[TK l m];lia
theorem TL(k:Kd):1<=k.cnt:=by rw[TH];lia
theorem TN(k:Kd):1<=k.dp:=by rw[J8];lia
theorem TQ:∀ l:List Kd,BO l=l.length+BO (l.flatMap Kd.kids)
 | []=>rfl
 | k::l=>by
  show k.cnt+BO l=(l.length+1)+BO ((k::l).flatMap Kd.kids);rw[YZ,TJ,TQ l,TH k];lia
theorem TR:∀ l:List Kd,l≠[]->dpL l=1+dpL (l.flatMap Kd.kids)
 | [],h=>Qj rfl h
 | [k],_=>by
  show max k.dp 0=1+dpL ([k].flatMap Kd.kids);rw[YZ,List.flatMap_nil,Yx,J8];lia
 | k::a::l,_=>by
  have b:=TR (a::l) (by simp);show max k.dp (dpL (a::l))=1+dpL ((k::a::l).flatMap Kd.kids);rw[YZ,TK,b,J8 k];lia
theorem TU:∀ l:List Kd,l.length<=BO l
 | []=>Yr _
 | k::l=>by have:=TU l;have:=TL k;show l.length+1<=k.cnt+BO l;lia
theorem lv:∀{l:List Kd}{k:Kd},k∈l->k.cnt<=BO l
 | a::l,k,h=>by
  show k.cnt<=a.cnt+BO l;walk_at "ph"
  ·lia
  ·have:=lv h;lia
theorem FY:∀{l:List Kd}{k:Kd},k∈l->k.dp<=dpL l
 | a::l,k,h=>by
  show k.dp<=max a.dp (dpL l);walk_at "ph"
  ·lia
  ·have:=FY h;lia
theorem lw{k:Kd}(h:c∈k.kids):c.dp+1<=k.dp:=by rw[J8 k];have:=FY h;lia
theorem TV:∀ fs:Fs,fs.enc.length=fs.kinds.length
 | .nil=>rfl
 | .cons _ _ k r=>by show r.enc.length+1=r.kinds.length+1;rw[TV r]
def Kd.unk:Kd->Bool
 | .any=>true
 | .row _ o=>o
 | _=>false
def Kd.fb:Kd->Bool
 | .to _ _|.box _=>true
 | _=>false
def Kd.known(k:Kd):Bool:=!(k.all.any Kd.unk)
def Kd.data(k:Kd):Bool:=!(k.all.any Kd.fb)
def Kd.hd:Kd->Str
 | .any=>"any"
 | .num=>"num"
 | .truth=>"truth"
 | .to _ _=>"to"
 | .box _=>"box"
 | .row _ _=>"row"
def Kd.own:Kd->List Str
 | .row _ o=>if o then["row","open"]else["row"]
 | k=>[k.hd]
def Hg(z:Str):Bool:=!AT z "a"&&!AT "z" z
def Ax(n:Str):Bool:=decide (1<=n.length)&&decide (n.length<=8)&&n.cps.toList.all λc=>Hg ⟨#[c]⟩
def Bp:List Str->Bool
 | a::b::r=>AT a b&&Bp (b::r)
 | _=>true
mutual
def Kd.ok:Kd->Bool
 | .to a b=>a.ok&&b.ok
 | .box a=>a.ok
 | .row fs _=>Bp fs.names&&fs.ok
 | _=>true
def Fs.ok:Fs->Bool
 | .nil=>true
 | .cons n _ k r=>Ax n&&k.ok&&r.ok
end
theorem Dp(n:Bool)(i j:Int)(G:Hw):eqF n (.int i) (.int j) G=some (.bl ((i==j) != n)):=rfl
theorem BP(n:Bool)(i j:Str)(G:Hw):eqF n (.str i) (.str j) G=some (.bl ((i==j) != n)):=rfl
section
open PySem PySem.Spec PyProof.Rows L2 L3
abbrev NG:Stmt:=top 22
abbrev NH:Stmt:=top 23
abbrev NI:Stmt:=top 21
abbrev NJ:Stmt:=top 20
abbrev NK:Stmt:=top 19
abbrev NM:Stmt:=top 18
abbrev NO:Stmt:=top 17
abbrev NP:Stmt:=top 16
abbrev J9:Stmt:=top 15
abbrev NQ:Stmt:=top 14
abbrev NR:Stmt:=top 45
abbrev NS:Stmt:=top 46
abbrev NT:Stmt:=top 49
abbrev NU:Stmt:=top 51
abbrev NV:Stmt:=top 50
abbrev NW:Stmt:=top 48
abbrev NX:Stmt:=top 47
abbrev NY:Stmt:=top 43
abbrev Iq:Stmt:=top 42
abbrev NZ:Stmt:=top 44
abbrev Ir:Stmt:=top 41
abbrev Iu:Stmt:=top 53
abbrev N0:Stmt:=top 65
abbrev N1:Stmt:=top 66
abbrev N2:Stmt:=top 67
abbrev N3:Stmt:=top 68
abbrev N4:Stmt:=top 69
abbrev N5:Stmt:=top 70
abbrev N6:Stmt:=top 71
abbrev N7:Stmt:=top 72
abbrev Ka:Stmt:=top 73
abbrev Kb:Stmt:=top 74
abbrev N8:Stmt:=top 75
abbrev N9:Stmt:=top 76
abbrev Oa:Stmt:=top 77
abbrev Ob:Stmt:=top 78
abbrev Iw:Stmt:=Cz (top 25) 0
abbrev Iy:Stmt:=Cz (top 25) 1
abbrev Iz:Stmt:=Cz (top 25) 2
abbrev Gb:Stmt:=Cz (top 25) 3
abbrev Gc:Stmt:=Cz (top 25) 4
abbrev IA:Stmt:=Cz (top 25) 5
abbrev IB:Stmt:=Cz (top 25) 6
abbrev IC:Stmt:=top 30
abbrev ID:Stmt:=top 31
abbrev IE:Stmt:=top 32
abbrev IF:Stmt:=top 33
abbrev IG:Stmt:=top 34
abbrev IH:Stmt:=top 60
abbrev II:Stmt:=top 61
abbrev IJ:Stmt:=top 62
abbrev IK:Stmt:=top 63
abbrev IL:Stmt:=top 59
abbrev Oc:Stmt:=top 55
abbrev IM:Stmt:=top 58
abbrev IN:Stmt:=top 54
abbrev Od:Stmt:=top 79
abbrev Kc:Stmt:=top 80
abbrev Oe:Stmt:=top 81
abbrev Ke:Stmt:=top 82
abbrev Kf:Stmt:=top 83
abbrev Of:Stmt:=top 85
abbrev Og:Stmt:=top 84
abbrev Oh:Stmt:=top 86
abbrev Oi:Stmt:=top 87
abbrev Hh:Stmt:=top 88
abbrev lx:Stmt:=top 56
def TX:List (Str×Int):=[("any",1),("num",1),("truth",1),("to",3),("box",2),("row",3)]
def AF:List (Str×List Str):=[("num",["number"]),("truth",["truth"]),("name",["name"]),("fun",["name","kind","term"]),("call",["term","term"]),("rec",["fields"]),("get",["term","name"]),("or",["term","name","term"]),("if",["term","term","term"]),("plus",["term","term"]),("less",["term","term"]),("new",["term"]),("read",["term"]),("write",["term","term"]),("as",["term","kind"])]
structure Adr where
 CastError:Addr
 NoKind:Addr
 NoTerm:Addr
 BadUse:Addr
 NoValue:Addr
 NoNumber:Addr
 BadNote:Addr
 Reader:Addr
structure Fns(K:PySem.W.Frag)(mg:Str->Option Value):Prop where
 ly:Fn K mg NG "is_small_letter" ["sign"]
 lz:Fn K mg NH "names_rise" ["names"]
 lA:Fn K mg NI "is_name" ["thing"]
 lB:Fn K mg NJ "is_field" ["thing"]
 lC:Fn K mg NK "are_fields" ["thing"]
 lD:Fn K mg NM "has_form" ["thing"]
 lE:Fn K mg NO "kinds_within" ["kind"]
 lF:Fn K mg NP "layer_within" ["layer","things_within"]
 lG:Fn K mg J9 "is_made_of" ["thing","is_formed","things_within","most","deepest"]
 lH:Fn K mg NQ "is_kind" ["thing"]
 lI:Fn K mg NR "form_of" ["word"]
 lJ:Fn K mg NS "parts_of" ["term"]
 lK:Fn K mg NT "is_number" ["thing"]
 lL:Fn K mg NU "is_term_field" ["thing"]
 lM:Fn K mg NV "are_term_fields" ["thing"]
 lN:Fn K mg NW "is_of_sort" ["thing","sort"]
 lO:Fn K mg NX "has_term_form" ["thing"]
 lP:Fn K mg NY "is_term" ["thing"]
 lQ:Fn K mg Iq "check_term" ["thing"]
 TY:Fn K mg NZ "count_of" ["term"]
 lR:Fn K mg Ir "terms_in" ["term"]
 lS:Fn K mg Iu "term_shown" ["term"]
 lT:Fn K mg N0 "_law_cell_at" ["script","k"]
 lU:Fn K mg N1 "_law_state" ["script","k"]
 lV:Fn K mg N2 "_law_choice" ["state","many"]
 lW:Fn K mg N3 "_law_told_kind" ["state"]
 lX:Fn K mg N4 "_law_function" ["state","deep","names","want"]
 lY:Fn K mg N5 "_law_record" ["state","deep","names","want"]
 lZ:Fn K mg N6 "_law_made" ["state","deep","names","want"]
 l0:Fn K mg N7 "_law_leaf" ["state","want"]
 l6:Fn K mg Ka "_law_first" ["state","deep","names","head","want"]
 TZ:Fn K mg Kb "_law_term" ["state","deep","names","want"]
 T1:Fn K mg N8 "_law_count" ["term"]
 T2:Fn K mg N9 "_law_deep" ["term"]
 l7:Fn K mg Oa "_law_parts" ["term"]
 l8:Fn K mg Ob "_law_drawn_term" ["script","k"]
 T3:Fn K mg IC "kind_from" ["reader","depth"]
 T4:Fn K mg ID "function_from" ["reader","depth"]
 T5:Fn K mg IE "box_from" ["reader","depth"]
 T6:Fn K mg IF "row_from" ["reader","depth"]
 ma:Fn K mg IG "field_from" ["reader","depth"]
 md:Fn K mg IH "number_from" ["reader"]
 mf:Fn K mg II "truth_from" ["reader"]
 mh:Fn K mg IJ "fields_from" ["reader","depth"]
 mj:Fn K mg IK "term_field_from" ["reader","depth"]
 T7:Fn K mg IL "thing_from" ["reader","sort","depth"]
 ml:Fn K mg Oc "gap_ahead_of" ["place","word"]
 T8:Fn K mg IM "term_from" ["reader","depth"]
 mn:Fn K mg IN "term_read" ["text"]
 T9:Fn K mg Od "_law_kind_text" ["kind"]
 Ua:Fn K mg Kc "_law_text" ["term"]
 mq:Fn K mg Oe "_law_bad_term" ["state","good"]
 mu:Fn K mg Ke "_law_marks" ["e"]
 mv:Fn K mg Kf "_law_refused" ["marks","which"]
 mw:Fn K mg Of "_law_told" ["way","thing"]
 mx:Fn K mg Og "_law_odd" ["state"]
 mz:Fn K mg Oh "_law_spoilt" ["state","text"]
 mB:Fn K mg Oi "_law_forty" []
 mC:Fn K mg Hh "law" ["script"]
 mD:Fn K mg lx "term_written" ["term"]
structure Bls(mg:Str->Option Value):Prop where
 mE:mg "ValueError"=none
 Gd:mg "all"=none
 mF:mg "bool"=none
 mG:mg "enumerate"=none
 Oj:mg "int"=none
 Dq:mg "isinstance"=none
 Kg:mg "len"=none
 Ub:mg "list"=none
 Uc:mg "max"=none
 mH:mg "range"=none
 Ud:mg "str"=none
 Ol:mg "sum"=none
 On:mg "tuple"=none
 Oo:mg "zip"=none
structure Tx(K:PySem.W.Frag)(mg:Str->Option Value)(base:Heap)(a:Adr):Prop extends Fns K mg,Bls mg where
 Ue:mg "CastError"=some (.ref a.CastError)
 Ug:mg "NoKind"=some (.ref a.NoKind)
 Oq:mg "NoTerm"=some (.ref a.NoTerm)
 Uh:mg "BadUse"=some (.ref a.BadUse)
 Ui:mg "NoValue"=some (.ref a.NoValue)
 Uj:mg "NoNumber"=some (.ref a.NoNumber)
 Dr:mg "BadNote"=some (.ref a.BadNote)
 mI:mg "Reader"=some (.ref a.Reader)
 DO:PySem.W.excIn K a.BadNote [.type "ValueError",.type "Exception",.type "BaseException",.type "object"] "ValueError.__new__"=true
 Uk:PySem.W.excIn K a.NoTerm [.type "ValueError",.type "Exception",.type "BaseException",.type "object"] "ValueError.__new__"=true
 Ul:PySem.W.typeIn K (.ref a.CastError)=some (.type "type")
 Um:(PySem.W.clsIn K a.CastError).isSome=true
 Uo:PySem.W.subIn K (.ref a.CastError) (.type "BaseException")=some true
 Up:Glb K mg "MARKS" (.tup [(.str "must"),(.str "may")])
 Uq:Glb K mg "MOST_DEPTH" (.int 8)
 Ur:Glb K mg "MOST_FIGURES" (.int 20)
 Us:Glb K mg "MOST_KINDS" (.int 40)
 Ut:Glb K mg "MOST_LETTERS" (.int 8)
 Uu:Glb K mg "MOST_NUMBER" (.int 99999999999999999999)
 Uv:Glb K mg "MOST_TERMS" (.int 40)
 Uw:Glb K mg "MOST_TERM_DEPTH" (.int 10)
 Ux:M8 mg base "LENGTHS" TX
 Uy:Nq K mg base "FORMS" AF
 Uz:PySem.W.subIn K (.ref a.NoTerm) (.ref a.CastError)=some true
 UA:Ez K a.NoTerm
 UB:PySem.W.kitOne K (.ref a.NoTerm) (.ref a.NoKind)=some false
 UC:PySem.W.kitOne K (.ref a.NoTerm) (.ref a.NoTerm)=some true
 UD:PySem.W.kitOne K (.ref a.NoTerm) (.ref a.BadUse)=some false
 UE:PySem.W.kitOne K (.ref a.NoTerm) (.ref a.NoValue)=some false
 UF:PySem.W.kitOne K (.ref a.NoTerm) (.ref a.NoNumber)=some false
 UG:PySem.W.kitOne K (.ref a.NoTerm) (.ref a.BadNote)=some false
 UH:PySem.W.kitOne K (.ref a.NoTerm) (.type "ValueError")=some true
 UI:PySem.W.subIn K (.ref a.BadNote) (.ref a.CastError)=some true
 UJ:Ez K a.BadNote
 UK:PySem.W.kitOne K (.ref a.BadNote) (.ref a.NoKind)=some false
 UL:PySem.W.kitOne K (.ref a.BadNote) (.ref a.NoTerm)=some false
 UM:PySem.W.kitOne K (.ref a.BadNote) (.ref a.BadUse)=some false
 UN:PySem.W.kitOne K (.ref a.BadNote) (.ref a.NoValue)=some false
 UO:PySem.W.kitOne K (.ref a.BadNote) (.ref a.NoNumber)=some false
 UP:PySem.W.kitOne K (.ref a.BadNote) (.ref a.BadNote)=some true
 UQ:PySem.W.kitOne K (.ref a.BadNote) (.type "ValueError")=some true
 AJ:Cls K a.Reader
 B2:NoAttr K a.Reader "place"
 CN:NoAttr K a.Reader "text"
 Kh:FnI K mg "Reader" a.Reader Iw "Reader.__init__" ["self","text"]
 Ki:FnM K a.Reader Iy "sees" "Reader.sees" ["self","piece"]
 Kj:FnM K a.Reader Iz "takes" "Reader.takes" ["self","piece"]
 Kk:FnM K a.Reader Gb "wants" "Reader.wants" ["self","piece"]
 Kl:FnM K a.Reader Gc "wants_end" "Reader.wants_end" ["self"]
 Km:FnM K a.Reader IA "word" "Reader.word" ["self"]
 Kn:FnM K a.Reader IB "figures" "Reader.figures" ["self"]
def Dn(P:Program)(w:World)(K:PySem.W.Frag)(mg:Str->Option Value)(base:Heap)(N:List Str)(x:Str)(st:Stmt)(k:Nat)(g:GS):Prop:=∀{f:Addr}{cdv:Value}{A:Around}{outer:List Env}{s:Shared}{H:Hp}{E:XK},Room k (A.deeper (envOfC x (Ao st) s.heap.objs.size f cdv))->Ssm (cxW P w K mg base N x (Ao st) f cdv A outer s H E).nox (λB=>B=H) (AS st) g
theorem mk0{K:PySem.W.Frag}{st:Stmt}(Fx:Fn K mg st x ps)(d:ps.length=n)(S:Ay N ps (Ao st))(b:sp.M)(len:∀ a G Q E,sp a G Q E->a.length=n)(c:Dn P w K mg base N x st k g)(ok:∀ a G(Q:Kw)(E:Addr->Hw->Prop),Kw.C Q->sp a G Q E->g (AC Q) (Bf N a) G):Df P w K mg base x (k+1) n sp:=L3.mk0 Fx d S b len c ok
local macro_rules | `(tactic| walk_at "s") => `(tactic| exact ⟨rfl, rfl, rfl, by decide +kernel, rfl, by decide +kernel, by decide +kernel⟩)
local macro_rules | `(tactic| walk_at "c") => `(tactic| first | exact RL hu | exact RM hu | exact hG | exact hH | exact hE | exact JY | exact hF | exact HY | exact kq | exact cop_isn | exact cop_inT hu | exact cop_nInT hu | exact cop_nInU hu | exact cop_isB | exact cop_isT | exact cop_geS | exact cop_inN hu | exact cop_inK | exact cop_ninK | exact kE)
local macro_rules | `(tactic| walk_at "b") => `(tactic| first | refine Cp F2 (F0 rfl) rfl T.Gd (by decide) rfl rfl rfl ?_ | refine GX M7 (hU) rfl T.Oj (by decide) rfl rfl rfl ?_ | refine Cp J1 (JZ) rfl T.Kg (by decide) rfl rfl rfl ?_ | refine GX R9 (hL) rfl T.Ub (by decide) rfl rfl rfl ?_ | refine Cp R8 (RX rfl) rfl T.Uc (by decide) rfl rfl rfl ?_ | refine GX Sa (kU) rfl T.Ud (by decide) rfl rfl rfl ?_ | refine Cp M5 (M0 rfl) rfl T.Ol (by decide) rfl rfl rfl ?_ | refine GX M6 (RU) rfl T.On (by decide) rfl rfl rfl ?_ | refine GX M7 (kY) rfl T.Oj (by decide) rfl rfl rfl ?_ | refine Ib (T := "tuple") (by decide) M6 T.On T.Dq rfl rfl (by decide) rfl rfl rfl ?_ | refine Ib (T := "list") (by decide) R9 T.Ub T.Dq rfl rfl (by decide) rfl rfl rfl ?_ | refine Ib (T := "str") (by decide) Sa T.Ud T.Dq rfl rfl (by decide) rfl rfl rfl ?_ | refine Ib (T := "int") (by decide) M7 T.Oj T.Dq rfl rfl (by decide) rfl rfl rfl ?_ | refine Ib (T := "bool") (by decide) iu T.mF T.Dq rfl rfl (by decide) rfl rfl rfl ?_ | refine iB T.Ux rfl rfl rfl rfl rfl rfl rfl ?_ | refine C6 Ia rfl rfl rfl rfl rfl ?_ ?_ | refine C6 R1 rfl rfl rfl rfl rfl ?_ ?_ | refine C6 Sz rfl rfl rfl rfl rfl ?_ ?_ | refine C6 iX rfl rfl rfl rfl rfl ?_ ?_ | refine C6 Tp rfl rfl rfl rfl rfl ?_ ?_ | refine C6 SQ rfl rfl rfl rfl rfl ?_ ?_ | exact E6 T.Up rfl rfl | exact E6 T.Uq rfl rfl | exact E6 T.Ur rfl rfl | exact E6 T.Us rfl rfl | exact E6 T.Ut rfl rfl | exact E6 T.Uu rfl rfl | exact E6 T.Uv rfl rfl | exact E6 T.Uw rfl rfl)
local macro_rules | `(tactic| walk_at "v") => `(tactic| (first | (show Am _ _ _; first | exact A8 | refine AO rfl ?_ ?_) | (show Em _ _ _; first | exact ix rfl rfl rfl rfl | exact Eu | exact FU | refine JQ (fun _ _ => rfl) ?_ ?_ | refine A1 (by assumption) (hr.mono (by assumption)) rfl Dk rfl rfl rfl ?_ | refine MO ?_ | refine HV ?_ | exact fZ | refine RN (by walk_at "c") rfl ?_ ?_ | refine EB ?_ ?_ | refine gf ?_ ?_ | refine gm ?_ ?_ | refine em_mul ?_ ?_ | refine SJ ?_ ?_ | refine gj ?_ ?_ | refine gn ?_ ?_ | walk_at "b" | exact f9 | refine MR ?_ ?_ ?_ | refine MQ ?_ ?_ | refine gp ?_ ?_ | refine MP ?_ | refine em_not ?_ | refine em_add ?_ ?_ | refine Nk ?_ ?_ ?_ | refine g9 ?_ ?_ ?_ | refine RQ (by walk_at "c") (by walk_at "c") rfl ?_ ?_ ?_ | refine S5 (fun _ _ => rfl) ?_ ?_ | exact em_dict0 | refine em_sortI rfl T.n_sorted rfl rfl rfl rfl ?_ | refine em_sortUD rfl T.n_sorted T.n_set rfl rfl rfl rfl rfl ?_ ?_) | (show Tm _ _ _; first | refine HZ (by walk_at "c") rfl ?_ ?_ | refine FV ?_ | refine JR ?_ | refine Ck (fun _ => rfl) ?_ | refine RS (by walk_at "c") (by walk_at "c") rfl ?_ ?_ ?_) | (show Ssm _ _ _ _; first | refine Av ?_ ?_ | exact Bj | refine AE ?_) | (show Sm _ _ _ _; first | refine A0 ?_ | refine Bt hN rfl rfl rfl ?_ | refine Bc ?_ ?_ ?_ | refine BU rfl ?_ | refine JS PassesOwn.never rfl (fun _ => rfl) ?_ ?_ ?_ | refine GW PassesOwn.never ?_ ?_ | refine iy hN rfl rfl ?_ | refine g7 (fun _ => rfl) rfl rfl rfl ?_ ?_ ?_ | refine kC rfl rfl rfl ?_ ?_ | refine Ng hN rfl rfl rfl rfl ?_ | exact sm_pass | exact sm_never | refine sm_setK (fun _ => rfl) rfl rfl rfl ?_ ?_ ?_) | (show Wm _ _ _; first | refine MT ?_ ?_ | refine Rx ?_ ?_ | refine MS ?_ | refine gq ?_) | (show Im _ _ _ _; first | refine jo ?_ | refine gr (fun _ _ => rfl) ?_ | refine ir T.mH rfl rfl ?_) | (show Om _ _ _; first | exact g8 | refine MY ?_) | (show Fm _ _ _; first | exact B1 | refine iz ?_) | exact Ro hN rfl (.inl rfl) (.inr rfl) | exact iG rfl hN rfl (.inl rfl) (.inr rfl) rfl (.inl rfl) (.inr rfl) rfl (.inl rfl) (.inr rfl) | exact Rp rfl hN rfl (.inl rfl) (.inr rfl) rfl (.inl rfl) (.inr rfl) | exact Rp rfl hN rfl (.inr rfl) (.inl rfl) rfl (.inl rfl) (.inr rfl) | exact Ro hN rfl (.inr rfl) (.inl rfl)) <;> walk_at "v")
local macro_rules | `(tactic| walk_at "z") => `(tactic| (intro f cdv A outer s H E hr; have hu := AQ hr; walk_at "v"))
section
variable {w:World}{K:PySem.W.Frag}{mg:Str->Option Value}{a:Adr}
abbrev UR:List Str:=["sign"]
theorem US:Ay UR ["sign"] (Ao NG):=by walk_at "s"
abbrev x8:=gC (.str "a")
abbrev ad:=Ab 0
def UT:GS:=(Aj (B0 (AY (λi j=>decide (i<=j)) (λa b=>!AT b a)) (AY (λi j=>decide (i<=j)) (λa b=>!AT b a)) x8 ad (gC (.str "z"))))
theorem mJ(T:Tx K mg base a):Dn P w K mg base UR "is_small_letter" NG k (UT):=by
 have hN:=US.nd;walk_at "z"
abbrev UU:List Str:=["names"]
theorem UV:Ay UU ["names"] (Ao NH):=by walk_at "s"
abbrev na:=Ab 1
abbrev dl:=gC (.int 1)
def UW:GS:=(Aj (gB (rF B6) (Aa (Bg (DL (Aa ad (Aa (gSl ad (A2 dl) Bk) Ac))) 2 (Bb 0 1) Bh (Ad (AY (λi j=>decide (i < j)) AT) ad na)) Ac)))
theorem mK(T:Tx K mg base a):Dn P w K mg base UU "names_rise" NH k (UW):=λ{f cdv A outer s H E}hr=>
 have hu:=AQ hr
 have hN:=UV.nd
 (AE (A0 (Cp F2 (F0 rfl) rfl T.Gd (by decide) rfl rfl rfl (AO rfl (Cs (Nc:=["one","other"]) rfl (Ci rfl (by decide +kernel) (by decide +kernel)) (λ_=>rfl) (kj T.Oo rfl rfl rfl (by walk_at "v")) (ML (i:=0) (j:=1) rfl (by decide) rfl rfl rfl rfl) (λC fp s1 H1=>B1) (λC fp s1 H1=>(by walk_at "v"))) A8))))
abbrev UX:List Str:=["thing"]
theorem UY:Ay UX ["thing"] (Ao NI):=by walk_at "s"
abbrev wP:=gC (.bl false)
abbrev yK:=Aj wP
abbrev yG:=gC (.int 8)
abbrev wS:=Aa ad Ac
abbrev yC:=gB (rF AM) wS
def UZ(ED:Spw):GS:=(Ae (gIf (gOr (gNt (AH (BA "str" ad))) (gNt (gTB (B0 (AY (λi j=>decide (i<=j)) (λa b=>!AT b a)) (AY (λi j=>decide (i<=j)) (λa b=>!AT b a)) dl yC yG)))) yK Au) (Aj (gB (rF B6) (Aa (Bg (Bl ad) 1 (gNm 0) Bh (Ai ED XF wS)) Ac))))
theorem U0(T:Tx K mg base a)(U1:Df P w K mg base "is_small_letter" EE 1 ED)(U2:EE<=k):Dn P w K mg base UX "is_name" NI k (UZ ED):=λ{f cdv A outer s H E}hr=>
 have hu:=AQ hr
 have hN:=UY.nd
 (Av (by walk_at "v") (AE (A0 (Cp F2 (F0 rfl) rfl T.Gd (by decide) rfl rfl rfl (AO rfl (Cs (Nc:=["sign"]) rfl (Ci rfl (by decide +kernel) (by decide +kernel)) (λ_=>rfl) (by walk_at "v") (C3 (i:=0) (by decide) rfl rfl) (λC fp s1 H1=>B1) (λC fp s1 H1=>(by walk_at "v"))) A8)))))
abbrev U3:List Str:=["thing"]
theorem U4:Ay U3 ["thing"] (Ao NJ):=by walk_at "s"
abbrev yA:=gNt (AH (BA "tuple" ad))
abbrev yw:=gC (.int 3)
abbrev xz:=Ad (Af ixW) ad dl
abbrev eq:=Ad (Af ixW) ad (gC (.int 0))
def U5(CO:Spw):GS:=(Ae (gIf (gOr yA (gTB (Ad (Af (eqF true)) yC yw))) yK Au) (Aj (Cc (Ai CO XF (Aa eq Ac)) (Ad (Af (inF false)) xz (gC (.tup [(.str "must"),(.str "may")]))))))
theorem mL(T:Tx K mg base a)(U6:Df P w K mg base "is_name" Ds 1 CO)(U7:Ds<=k):Dn P w K mg base U3 "is_field" NJ k (U5 CO):=by
 have hN:=U4.nd;walk_at "z"
abbrev U8:List Str:=["thing"]
theorem U9:Ay U8 ["thing"] (Ao NK):=by walk_at "s"
def Va(Ko:Spw)(EF:Spw):GS:=(Ae (gIf yA yK Au) (Aj (Cc (gB (rF B6) (Aa (Bg (Bl ad) 1 (gNm 0) Bh (Ai Ko XF wS)) Ac)) (Ai EF XF (Aa (Bg (Bl ad) 1 (gNm 0) Bh eq) Ac)))))
theorem mM(T:Tx K mg base a)(xj:Df P w K mg base "is_field" Kp 1 Ko)(xk:Kp<=k)(Ot:Df P w K mg base "names_rise" Ff 1 EF)(Ou:Ff<=k):Dn P w K mg base U8 "are_fields" NK k (Va Ko EF):=λ{f cdv A outer s H E}hr=>
 have hu:=AQ hr
 have hN:=U9.nd
 (Av (by walk_at "v") (AE (A0 (MQ (Cp F2 (F0 rfl) rfl T.Gd (by decide) rfl rfl rfl (AO rfl (Cs (Nc:=["part"]) rfl (Ci rfl (by decide +kernel) (by decide +kernel)) (λ_=>rfl) (by walk_at "v") (C3 (i:=0) (by decide) rfl rfl) (λC fp s1 H1=>B1) (λC fp s1 H1=>(by walk_at "v"))) A8)) (MP (A1 Ot (hr.mono Ou) rfl Dk rfl rfl rfl (AO rfl (Cs (Nc:=["part"]) rfl (Ci rfl (by decide +kernel) (by decide +kernel)) (λ_=>rfl) (by walk_at "v") (C3 (i:=0) (by decide) rfl rfl) (λC fp s1 H1=>B1) (λC fp s1 H1=>(by walk_at "v"))) A8)))))))
local macro_rules | `(tactic| walk_at "rd") => `(tactic| ((try dsimp only [Ae,gIf,Aj,Ak,AN,Au,Ab,gC,Ad,gTB,AH,gNt,A7,gOr,Cc,Di,BY,Ah,Aq,Aa,Ac,Ai,gB,rF,Af,BA,gMt,C4,B0,AY,Bi,AI,L3.BS,C5,gSl,A2,Bk,Bg,Bl,DL,AC,Bf,List.map_cons,List.map_nil,List.length_cons,List.length_nil,List.cons_append,List.nil_append,List.getElem?_cons_zero,List.getElem?_cons_succ,List.set_cons_zero,List.set_cons_succ,List.replicate,B5,tyN,AB,BF,CF,Dl,ixW,Dp,BP,AM,BZ,B6,List.getElem?_nil]); (try simp only [Ae,gIf,Aj,Ak,AN,Au,Ab,gC,Ad,gTB,AH,gNt,A7,gOr,Cc,Di,BY,Ah,Aq,Aa,Ac,Ai,gB,rF,Af,BA,gMt,C4,B0,AY,Bi,AI,L3.BS,C5,gSl,A2,Bk,Bg,Bl,DL,AC,Bf,List.map_cons,List.map_nil,List.length_cons,List.length_nil,List.cons_append,List.nil_append,List.getElem?_cons_zero,List.getElem?_cons_succ,List.set_cons_zero,List.set_cons_succ,List.replicate,B5,tyN,AB,BF,CF,Dl,ixW,Dp,BP,AM,BZ,B6,List.getElem?_nil])))
abbrev mN:Spw:=spR (λ(z:Str)ws _=>ws=[.str z]) λz=>.bl (Hg z)
theorem EE(T:Tx K mg base a):Df P w K mg base "is_small_letter" 1 1 mN:=by
 refine mk0 T.ly rfl US Bw ((by rintro b G Q E ⟨z,e,_⟩;rw[e];rfl)) (mJ T) λb G Q E c q=>?_;obtain⟨z,rfl,q⟩:=q;unfold UT;walk_at "rd";dsimp only at q;unfold Hg at q;refine BC (λh=>?_) (λh=>?_)
 ·rw[h]at q;simpa using q
 ·rw[Bool.eq_false_iff.mpr h]at q;simpa using q
theorem Vb:∀ ns:List Str,Bp ns=((ns.zip (ns.drop 1)).map λx=>AT x.1 x.2).all id
 | []|[_]=>rfl
 | a::b::r=>by
  show(AT a b&&Bp (b::r))=_;rw[Vb (b::r)];rfl
abbrev mO:Spw:=spR (λ(ns:List Str)ws G=>∃ p,ws=[.ref p]/\G p=some (.lst (ns.map W.str))/\ns.length<=90000) λns=>.bl (Bp ns)
def ltW(x y:W):W:=match x,y with | .str a,.str b=>.bl (AT a b)| _,_=>.non
theorem Ff(T:Tx K mg base a):Df P w K mg base "names_rise" 1 1 mO:=by
 refine mk0 T.lz rfl UV Bw ((by rintro m G Q E ⟨ns,⟨p,e,_⟩,_⟩;rw[e];rfl)) (mK T) λm G Q E j q=>?_;obtain⟨ns,⟨p,rfl,g,hl⟩,q⟩:=q;unfold UW;walk_at "rd";refine ll g λp1 h1=>?_;have d:=Do g h1;have c:rdL (put G p1 (.lst (Co (ns.map W.str) (some 1) none))) (.ref p)=some (ns.map W.str):=NC (by rw[AX d];exact g);have b:rdL (put G p1 (.lst (Co (ns.map W.str) (some 1) none))) (.ref p1)=some (Co (ns.map W.str) (some 1) none):=NC Ap;simp only[c,b];rw[F9,<- List.map_drop,Tw,List.zip_map,YB];have i:((λx:W×W=>W.tup [x.1,x.2])∘Prod.map W.str W.str)=(λx:W×W=>W.tup [x.1,x.2])∘λx:Str×Str=>(W.str x.1,W.str x.2):=rfl;rw[i,<- YB];refine Tv (f:=ltW) ⟨by rw[F9,<- List.map_drop]at c;exact c,by rw[F9,<- List.map_drop]at b;exact b⟩ _ none none [] (λx l n k=>?_) ?_ ?_
 ·obtain⟨y,o,rfl⟩:=YC.mp l;exact k
 ·rw[Yh,List.length_zip];exact Bo (by simp only[Yi];lia)
 ·intro p2 h2;rw[YB];have h:((λx:W×W=>ltW x.1 x.2)∘λx:Str×Str=>(W.str x.1,W.str x.2))=W.bl∘λx:Str×Str=>AT x.1 x.2:=rfl;rw[h,<- YB,Yw];simp only[Dm Ap,Option.bind_some,Fe,YD];rw[<- Vb];exact j _ _ _ (BN (Az h1) h2) q
def orS(s1 s2:Spw):Spw:=λws G Q E=>s1 ws G Q E\/s2 ws G Q E
theorem mP{a:Spw}(h1:a.M)(h2:b.M):Spw.M (orS a b):=λe G Q c E d h h' q=>q.elim (λq=>.inl (h1 _ _ _ _ _ _ h h' q)) (λq=>.inr (h2 _ _ _ _ _ _ h h' q))
theorem mk2{st:Stmt}(Fx:Fn K mg st x ps)(e:ps.length=n)(S:Ay N ps (Ao st))(y:d.M)(v:c.M)(u:∀ a G Q E,d a G Q E->a.length=n)(p:∀ a G Q E,c a G Q E->a.length=n)(D:Dn P w K mg base N x st k g1)(z:Dn P w K mg base N x st k g2)(J:∀ a G(Q:Kw)(E:Addr->Hw->Prop),Kw.C Q->d a G Q E->g1 (AC Q) (Bf N a) G)(o:∀ a G(Q:Kw)(E:Addr->Hw->Prop),Kw.C Q->c a G Q E->g2 (AC Q) (Bf N a) G):Df P w K mg base x (k+1) n (orS d c):=by
 obtain⟨f,fd,h1,F,I⟩:=Fx;have A:=J2 F e S u D J;have B:=J2 F e S p z o;refine⟨⟨f,fd,_,h1,F.kp,I,e,⟨λvs H Q E⟨a,G,t,r,q⟩=>?_,λj outer s H b h vs Q E g l m i⟨a,G,t,r,q⟩=>?_⟩⟩,mP y v⟩
 ·rcases q with q | q
  ·exact A.len vs H Q E ⟨a,G,t,r,q⟩
  ·exact B.len vs H Q E ⟨a,G,t,r,q⟩
 ·rcases q with q | q
  ·exact A.run j outer s H b h vs Q E g l m i ⟨a,G,t,r,q⟩
  ·exact B.run j outer s H b h vs Q E g l m i ⟨a,G,t,r,q⟩
abbrev mQ:Spw:=spR (λ(i:Int)ws _=>ws=[.int i]) λ_=>.bl false
abbrev mR:Spw:=spR (λ(z:Str)ws _=>ws=[.str z]/\z.length<=100000) λz=>.bl (Ax z)
def Vc(x:W):W:=match x with | .str z=>.bl (Hg z)| _=>.non
theorem Ds(T:Tx K mg base a):Df P w K mg base "is_name" 2 1 (orS mR mQ):=by
 refine mk2 T.lA rfl UY Bw Bw (by rintro h G Q E ⟨z,⟨e,_⟩,_⟩;rw[e];rfl) (by rintro h G Q E ⟨z,e,_⟩;rw[e];rfl) (U0 T (EE T) (Yr _)) (U0 T (EE T) (Yr _)) (λh G Q E l q=>?_) (λh G Q E l q=>by obtain⟨i,rfl,q⟩:=q;exact Eq.mpr (by kernel_rfl) q);obtain⟨z,⟨rfl,k⟩,q⟩:=q;unfold UZ;walk_at "rd";have d:=Bo k;have b1:GZ "str" "str"=true:=by decide
 simp only[d,if_true,AB];unfold Ax at q;by_cases h1:1<=z.length
 ·by_cases j:z.length<=8
  ·have b:(1:Int)<=(z.length:Int):=by lia
   have g:(z.length:Int)<=8:=by lia
   simp only[b,g];refine F8 (f:=Vc) trivial (FR z) none [] (λx r s m=>?_) ?_ ?_
   ·obtain⟨c,hc,rfl⟩:=YC.mp r;exact⟨_,rfl,m⟩
   ·rw[FR];exact Bo (by simpa[Str.length]using k)
   ·intro p n
    have o:(FR z).map Vc=(z.cps.toList.map λc=>Hg ⟨#[c]⟩).map W.bl:=by
     unfold FR;rw[YB,YB];rfl
    rw[Yw,o];simp only[Dm Ap,Option.bind_some,Fe,YD];rw[List.all_map];simp only[h1,j]at q;exact l _ _ _ (Az n) q
  ·have b:(1:Int)<=(z.length:Int):=by lia
   have g:¬ (z.length:Int)<=8:=by lia
   simp only[h1,j]at q;simp only[b,g];exact q
 ·have b:¬ (1:Int)<=(z.length:Int):=by lia
  simp only[h1]at q;simp only[b];exact q
abbrev Vd:List Str:=["thing"]
theorem Ve:Ay Vd ["thing"] (Ao NM):=by walk_at "s"
abbrev u8:=gC (.int 0)
abbrev r4:=gC (.str "row")
abbrev re:=Ad (Af ixW) ad (gC (.int 2))
def mS(Kq:Spw):GS:=(Ae (gIf (gOr yA (gOr (gTB (Ad (Af (eqF false)) yC u8)) (gNt (AH (BA "str" eq))))) yK Au) (Ae (gIf (gTB (Ad (Af (eqF true)) yC (Ha TX eq))) yK Au) (Aj (Di (Ad (Af (eqF true)) eq r4) (Cc (Ai Kq XF (Aa xz Ac)) (BA "bool" re))))))
theorem mT(T:Tx K mg base a)(xl:Df P w K mg base "are_fields" Kr 1 Kq)(xm:Kr<=k):Dn P w K mg base Vd "has_form" NM k (mS Kq):=by
 have hN:=Ve.nd;walk_at "z"
abbrev Vf:List Str:=["kind"]
theorem Vg:Ay Vf ["kind"] (Ao NO):=by walk_at "s"
def mU:GS:=(Ae (gIf (gTB (Ad (Af (eqF false)) eq r4)) (Aj (Bg (Bl xz) 1 (gNm 0) Bh re)) Au) (Aj (gB (Ey) (Aa (gSl ad (A2 dl) Bk) Ac))))
theorem mV(T:Tx K mg base a):Dn P w K mg base Vf "kinds_within" NO k (mU):=λ{f cdv A outer s H E}hr=>
 have hu:=AQ hr
 have hN:=Vg.nd
 (Av (Bc (by walk_at "v") (AE (A0 (Cs (Nc:=["field"]) rfl (Ci rfl (by decide +kernel) (by decide +kernel)) (λ_=>rfl) (by walk_at "v") (C3 (i:=0) (by decide) rfl rfl) (λC fp s1 H1=>B1) (λC fp s1 H1=>(by walk_at "v"))))) Bj) (by walk_at "v"))
abbrev Vh:List Str:=["layer","things_within","found","thing"]
theorem Vi:Ay Vh ["layer","things_within"] (Ao NP):=by walk_at "s"
abbrev y0:=Aq Ac
abbrev ya:=Ab 3
abbrev yk:=Aa ya Ac
abbrev r6:=Ab 2
def mW(mg:Str->Option Value)(nm:Str)(sp_fn:Spw):GS:=(Ae (Ak 2 y0) (Ae (Bz (Bl ad) (gNm 3) (AN (gMt B7 GY r6 (Aa (DJ 1 (fAt mg nm) sp_fn XF yk) Ac)))) (Aj r6)))
theorem mX(T:Tx K mg base a)(D_fn:Df P w K mg base nm k_fn 1 sp_fn)(h_fn:k_fn<=k):Dn P w K mg base Vh "layer_within" NP k (mW mg nm sp_fn):=λ{f cdv A outer s H E}hr=>
 have hu:=AQ hr
 have hN:=Vi.nd
 (Av (by walk_at "v") (Av (JS PassesOwn.never rfl (λ_=>rfl) (by walk_at "v") (by walk_at "v") (AE (BU rfl (C6 R1 rfl rfl rfl rfl rfl (by walk_at "v") (AO rfl (SM (i:=1) D_fn (hr.mono h_fn) rfl rfl Dk rfl rfl rfl rfl (by walk_at "v")) A8))))) (by walk_at "v")))
abbrev Vj:List Str:=["thing","is_formed","things_within","most","deepest","layer","count","depth"]
theorem Vk:Ay Vj ["thing","is_formed","things_within","most","deepest"] (Ao J9):=by walk_at "s"
abbrev yJ:=Ab 5
abbrev yR:=gB (rF AM) (Aa yJ Ac)
abbrev ye:=Ab 4
abbrev kw:=Aa (Ab 2) Ac
def mY(mg:Str->Option Value)(nm:Str)(sp_fn:Spw)(Ks:Spw):GS:=(Ae (Ak 5 (Aq wS)) (Ae (Ak 6 u8) (Ae (Ak 7 u8) (Ae (E4 (gTB (Ad (Bi λi j=>decide (j < i)) yR u8)) (Ae (C4 6 C5 yR) (Ae (C4 7 C5 dl) (Ae (gIf (gOr (gTB (Ad (Bi λi j=>decide (j < i)) (Ab 6) ya)) (gTB (Ad (Bi λi j=>decide (j < i)) (Ab 7) ye))) yK Au) (Ae (gIf (gNt (AH (gB (rF B6) (Aa (B9 (Bl yJ) 1 [1] (gNm 0) Bh (DJ 1 (fAt mg nm) sp_fn XF wS)) Ac)))) yK Au) (Ak 5 (Ai Ks XF (Aa yJ kw)))))))) (Aj (gC (.bl true)))))))
theorem mZ(T:Tx K mg base a)(D_fn:Df P w K mg base nm k_fn 1 sp_fn)(h_fn:k_fn<=k)(xn:Df P w K mg base "layer_within" Kt 2 Ks)(xo:Kt<=k):Dn P w K mg base Vj "is_made_of" J9 k (mY mg nm sp_fn Ks):=λ{f cdv A outer s H E}hr=>
 have hu:=AQ hr
 have hN:=Vk.nd
 (Av (by walk_at "v") (Av (by walk_at "v") (Av (by walk_at "v") (Av (GW PassesOwn.never (by walk_at "v") (Av (by walk_at "v") (Av (by walk_at "v") (Av (by walk_at "v") (Av (Bc (FV (Ck (λ_=>rfl) (Cp F2 (F0 rfl) rfl T.Gd (by decide) rfl rfl rfl (AO rfl (Nd rfl (Ie (own:=["part"]) (fr:=["is_formed"]) (js:=[1]) (scX:=Ao J9) (n:=s.heap.objs.size+1) rfl (by decide +kernel) (by decide +kernel) (by decide +kernel) (by decide +kernel) rfl rfl rfl (by decide +kernel) rfl) (λ_=>rfl) (by walk_at "v") (Nb (i:=0) (by decide) rfl rfl) (λC fp s1 H1=>B1) (λC fp s1 H1=>(SM (i:=1) D_fn (hr.mono h_fn) rfl rfl Dk rfl rfl rfl rfl (by walk_at "v")))) A8)))) (by walk_at "v") Bj) (by walk_at "v")))))) (by walk_at "v")))))
abbrev Vl:List Str:=["thing"]
theorem Vm:Ay Vl ["thing"] (Ao NQ):=by walk_at "s"
def m2(mg:Str->Option Value)(Ov:Spw)(Ow:Spw)(EG:Spw):GS:=(Aj (Ai EG XF (Aa ad (Aa (gC (.ref (fAt mg "has_form"))) (Aa (gC (.ref (fAt mg "kinds_within"))) (Aa (gC (.int 40)) (Aa yG Ac)))))))
theorem m5(T:Tx K mg base a)(m6:Df P w K mg base "has_form" IP 1 Ov)(xp:IP<=k)(m7:Df P w K mg base "kinds_within" IQ 1 Ow)(xq:IQ<=k)(Ox:Df P w K mg base "is_made_of" Fg 5 EG)(Oy:Fg<=k):Dn P w K mg base Vl "is_kind" NQ k (m2 mg Ov Ow EG):=λ{f cdv A outer s H E}hr=>
 have hu:=AQ hr
 have hN:=Vm.nd
 (AE (A0 (A1 Ox (hr.mono Oy) rfl Dk rfl rfl rfl (AO rfl (by walk_at "v") (AO rfl (J5 m6 rfl rfl) (AO rfl (J5 m7 rfl rfl) (by walk_at "v")))))))
local macro_rules | `(tactic| walk_at "rd") => `(tactic| ((try dsimp only [Ae,gIf,Aj,Ak,AN,Au,Ab,gC,Ad,gTB,AH,gNt,A7,gOr,Cc,Di,BY,Ah,Aq,Aa,Ac,Ai,gB,rF,Af,BA,gMt,C4,FZ,B0,AY,Bi,AI,L3.BS,C5,gSl,A2,Bk,Bg,Bl,DL,Cd,Bz,Ha,CM,DJ,B9,BM,AC,Bf,List.map_cons,List.map_nil,List.length_cons,List.length_nil,List.cons_append,List.nil_append,List.getElem?_cons_zero,List.getElem?_cons_succ,List.set_cons_zero,List.set_cons_succ,List.replicate,B5,tyN,AB,BF,CF,Dl,ixW,Dp,BP,AM,BZ,B6,Cq,DG,List.getElem?_nil]); (try simp only [Ae,gIf,Aj,Ak,AN,Au,Ab,gC,Ad,gTB,AH,gNt,A7,gOr,Cc,Di,BY,Ah,Aq,Aa,Ac,Ai,gB,rF,Af,BA,gMt,C4,FZ,B0,AY,Bi,AI,L3.BS,C5,gSl,A2,Bk,Bg,Bl,DL,Cd,Bz,Ha,CM,DJ,B9,BM,AC,Bf,List.map_cons,List.map_nil,List.length_cons,List.length_nil,List.cons_append,List.nil_append,List.getElem?_cons_zero,List.getElem?_cons_succ,List.set_cons_zero,List.set_cons_succ,List.replicate,B5,tyN,AB,BF,CF,Dl,ixW,Dp,BP,AM,BZ,B6,Cq,DG,List.getElem?_nil])))
def fm:Kd->Bool
 | .row fs _=>fs.names.all Ax&&Bp fs.names
 | _=>true
theorem Vn:∀ fs:Fs,fs.ok=(fs.names.all Ax&&fs.kinds.all Kd.ok)
 | .nil=>rfl
 | .cons n m k r=>by
  show(Ax n&&k.ok&&r.ok)=((Ax n&&r.names.all Ax)&&(k.ok&&r.kinds.all Kd.ok));rw[Vn r];cases Ax n <;> cases k.ok <;> cases r.names.all Ax <;> rfl
theorem m8(k:Kd):k.ok=(fm k&&k.kids.all Kd.ok):=by
 cases k with
 | any|num|truth=>rfl
 | to x y=>show(x.ok&&y.ok)=(true&&(x.ok&&(y.ok&&true)));rw[Bool.and_true,Bool.true_and]
 | box x=>show x.ok=(true&&(x.ok&&true));rw[Bool.and_true,Bool.true_and]
 | row fs o =>
  show(Bp fs.names&&fs.ok)=((fs.names.all Ax&&Bp fs.names)&&fs.kinds.all Kd.ok);rw[Vn];cases Bp fs.names <;> cases fs.names.all Ax <;> rfl
theorem Vo{α:Type}{ok fm:α->Bool}{kids:α->List α}(h:∀ x,ok x=(fm x&&(kids x).all ok)):∀ l:List α,l.all ok=(l.all fm&&(l.flatMap kids).all ok)
 | []=>rfl
 | k::l=>by
  rw[List.all_cons,List.all_cons,YZ,List.all_append,Vo h l,h k];cases fm k <;> cases(kids k).all ok <;> cases l.all fm <;> rfl
mutual
def Kd.wt:Kd->Nat
 | .to a b=>1+(a.wt+b.wt)
 | .box a=>1+a.wt
 | .row fs _=>1+fs.wt
 | _=>1
def Fs.wt:Fs->Nat
 | .nil=>0
 | .cons n _ k r=>n.length+k.wt+r.wt
end
mutual
theorem Hi:∀ k:Kd,k.cnt<=k.wt
 | .any|.num|.truth=>Yr _
 | .to x y=>by have:=Hi x;have:=Hi y;show 1+(x.cnt+y.cnt)<=1+(x.wt+y.wt);lia
 | .box x=>by have:=Hi x;show 1+x.cnt<=1+x.wt;lia
 | .row fs o=>by have:=Oz fs;show 1+fs.cnt<=1+fs.wt;lia
theorem Oz:∀ fs:Fs,fs.cnt<=fs.wt
 | .nil=>Yr _
 | .cons n m k r=>by have:=Hi k;have:=Oz r;show k.cnt+r.cnt<=n.length+k.wt+r.wt;lia
end
theorem Vp:∀{fs:Fs}{n:Str},n∈fs.names->n.length<=fs.wt
 | .cons x m k r,n,h=>by
  show n.length<=x.length+k.wt+r.wt;walk_at "ph"
  ·lia
  ·have:=Vp h;lia
theorem Vq:∀{fs:Fs}{c:Kd},c∈fs.kinds->c.wt<=fs.wt
 | .cons x m k r,c,h=>by
  show c.wt<=x.length+k.wt+r.wt;walk_at "ph"
  ·lia
  ·have:=Vq h;lia
theorem m9{k:Kd}(h:c∈k.kids):c.wt<=k.wt:=by
 cases k with
 | to x y =>
  show c.wt<=1+(x.wt+y.wt);have h':c=x\/c=y:=by simpa[Kd.kids]using h
  rcases h' with rfl | rfl <;> lia
 | box x =>
  show c.wt<=1+x.wt;have h':c=x:=by simpa[Kd.kids]using h
  rw[h'];lia
 | row fs o=>have:=Vq h;show c.wt<=1+fs.wt;lia
 | _=>cases h
theorem Hj(h:Ax n=true):n.length<=8:=by
 unfold Ax at h;simp only[YF,YN]at h;exact h.1.2
abbrev nc:Spw:=spR (λ(x:Str×Bool×W)ws _=>ws=[.tup [.str x.1,.str (mark x.2.1),x.2.2]]/\x.1.length<=90000) λx=>.bl (Ax x.1)
theorem ng(b:Bool)(G:Hw):inF false (.str (mark b)) (.tup [.str "must",.str "may"]) G=some (.bl true):=by cases b <;> kernel_rfl
theorem Kp(T:Tx K mg base a):Df P w K mg base "is_field" 3 1 nc:=by
 refine mk0 T.lB rfl U4 Bw ((by rintro d G Q E ⟨x,⟨e,_⟩,_⟩;rw[e];rfl)) (mL T (Ds T) (Yr _)) λd G Q E f q=>?_;obtain⟨⟨n,b,k⟩,⟨rfl,hl⟩,q⟩:=q;dsimp only at q hl;unfold U5;walk_at "rd";refine .inl ⟨n,⟨rfl,by lia⟩,?_⟩;dsimp only;cases c:Ax n with
 | true=>rw[c]at q;simp only[ng];exact q
 | false=>rw[c]at q;exact q
abbrev nh:Spw:=spR (λ(fs:Fs)ws _=>ws=[.tup fs.enc]/\fs.wt<=90000/\fs.cnt<=90000) λfs=>.bl (fs.names.all Ax&&Bp fs.names)
def OA(x:W):W:=match x with | .tup (n::_)=>n | _=>.non
def okW(x:W):W:=match x with | .tup (.str n::_)=>.bl (Ax n)| _=>.non
theorem Ku:∀{fs:Fs}{x:W},x∈fs.enc->∃ n b k,x=.tup [.str n,.str (mark b),k]/\n∈fs.names
 | .nil,x,h=>by cases h
 | .cons n m k r,x,h=>by
  walk_at "ph"
  ·exact⟨n,m,k.enc,rfl,Ye⟩
  ·obtain⟨n,b,k,e,h⟩:=Ku h;exact⟨n,b,k,e,Yd _ h⟩
theorem Vr:∀ fs:Fs,fs.enc.map OA=fs.names.map W.str
 | .nil=>rfl
 | .cons n m k r=>by show W.str n::r.enc.map OA=W.str n::r.names.map W.str;rw[Vr r]
theorem Vs:∀ fs:Fs,fs.enc.map okW=(fs.names.map Ax).map W.bl
 | .nil=>rfl
 | .cons n m k r=>by show W.bl (Ax n)::r.enc.map okW=W.bl (Ax n)::(r.names.map Ax).map W.bl;rw[Vs r]
theorem Vt:∀ fs:Fs,fs.names.length=fs.enc.length
 | .nil=>rfl
 | .cons n m k r=>by show r.names.length+1=r.enc.length+1;rw[Vt r]
theorem Vu(fs:Fs):fs.enc.length<=fs.cnt:=by rw[TV,NF];exact TU _
theorem Kr(T:Tx K mg base a):Df P w K mg base "are_fields" 4 1 nh:=by
 refine mk0 T.lC rfl U9 Bw ((by rintro r G Q E ⟨x,⟨e,_⟩,_⟩;rw[e];rfl)) (mM T (Kp T) (Yr _) (Ff T) (by lia)) λr G Q E j q=>?_;obtain⟨fs,⟨rfl,hw,hc⟩,q⟩:=q;have hl:=Vu fs;dsimp only at q;unfold Va;walk_at "rd";refine F8 (f:=okW) trivial fs.enc none [] (λx g o d=>?_) (by simp only[Yi];exact Bo (by lia)) ?_
 ·obtain⟨n,b,k,rfl,i⟩:=Ku g;exact⟨⟨n,b,k⟩,⟨rfl,Yt (Vp i) hw⟩,d⟩
 ·intro p l;rw[Yw,Vs];simp only[Dm Ap,Option.bind_some,Fe,YD];have m:(fs.names.map Ax).all id=fs.names.all Ax:=by rw[List.all_map];rfl
  rw[m];cases c:fs.names.all Ax with
  | false=>rw[c]at q;exact j _ _ _ (Az l) q
  | true =>
  rw[c]at q;refine F8 (f:=OA) trivial fs.enc none [] (λx g o d=>?_) (by simp only[Yi];exact Bo (by lia)) ?_
  ·obtain⟨n,b,k,rfl,i⟩:=Ku g;exact d
  ·intro p2 h;rw[Vr];exact⟨fs.names,⟨p2,rfl,Ap,by rw[Vt];lia⟩,j _ _ _ (BN (Az l) h) q⟩
def noK(x:W):Prop:=x=.tup [.str "nun"]\/x=.tup [.str "num",.int 1]
def KFm(x:W)(b:Bool):Prop:=(∃ k:Kd,x=k.enc/\k.wt<=90000/\b=fm k)\/(noK x/\b=false)
abbrev ni:Spw:=spR (λ(x:W×Bool)ws _=>ws=[x.1]/\KFm x.1 x.2) λx=>.bl x.2
theorem IP(T:Tx K mg base a):Df P w K mg base "has_form" 5 1 ni:=by
 refine mk0 T.lD rfl Ve Bw ((by rintro d G Q E ⟨x,⟨e,_⟩,_⟩;rw[e];rfl)) (mT T (Kr T) (Yr _)) λd G Q E g q=>?_;walk_at "pj";rcases h with⟨k,rfl,hc,rfl⟩|⟨rfl | rfl,rfl⟩;rotate_left
 ·exact Eq.mpr (by kernel_rfl) q
 ·exact Eq.mpr (by kernel_rfl) q
 have b2:GZ "bool" "bool"=true:=by decide
 cases k with
 | any|num|truth|to x y|box x=>exact Eq.mpr (by kernel_rfl) q
 | row fs o =>
  have f:1+fs.wt<=90000:=hc;have c:=Oz fs;have q:Q (.bl (fs.names.all Ax&&Bp fs.names)) G:=q;refine⟨fs,⟨rfl,by lia,by lia⟩,?_⟩;dsimp only;cases h:(fs.names.all Ax&&Bp fs.names)with
  | true|false=>rw[h]at q;exact q
theorem nj(k:Kd):∃ xs,k.enc=.tup (.str k.hd::xs):=by cases k <;> exact⟨_,rfl⟩
def OC(x:W):W:=match x with | .tup [_,_,k]=>k | _=>.non
theorem Vv:∀ fs:Fs,fs.enc.map OC=fs.kinds.map Kd.enc
 | .nil=>rfl
 | .cons n m k r=>by show k.enc::r.enc.map OC=k.enc::r.kinds.map Kd.enc;rw[Vv r]
abbrev nk:Spw:=spL (λ(k:Kd)ws _=>ws=[k.enc]/\k.cnt<=90000) λk=>k.kids.map Kd.enc
theorem IQ(T:Tx K mg base a):Df P w K mg base "kinds_within" 1 1 nk:=by
 refine mk0 T.lE rfl Vg J7 ((by rintro h G Q E ⟨x,⟨e,_⟩,_⟩;rw[e];rfl)) (mV T) λh G Q E j q=>?_;obtain⟨k,⟨rfl,hc⟩,q⟩:=q;cases k with
 | row fs o =>
  have d:1+fs.cnt<=90000:=hc;have hl:=Vu fs;refine F8 (f:=OC) trivial fs.enc none [] (λx g i c=>?_) (by simp only[Yi];exact Bo (by lia)) ?_
  ·obtain⟨n,b,k,rfl,_⟩:=Ku g;exact c
  ·rw[Vv];exact q
 | any|num|truth|to x y|box x=>exact And.intro (Io _ _) q
theorem nl(b:G p=some (.lst xs))(a:G r=some (.lst zs))(hl:xs.length+zs.length<=sizeLine)(q:Q .non (put G p (.lst (xs++zs)))):GY (.ref p) [.ref r] G Q:=by
 refine M2 b ?_ q;rw[Dm a,Option.bind_some,if_pos hl]
theorem Fh(h:G p=some (.lst xs)):B7 (.ref p) G:=⟨xs,Dm h⟩
inductive Al{α:Type}(F:W->α->Prop):List W->List α->Prop
 | nil:Al F [] []
 | cons {x:W} {y:α} {l:List W} {m:List α}:F x y->Al F l m->Al F (x::l) (y::m)
theorem Al.map{α β:Type}{F:W->α->Prop}{e:β->W}{f:β->α}:∀{l:List β},(∀ x∈l,F (e x) (f x))->Al F (l.map e) (l.map f)
 | [],_=>.nil
 | x::_,h=>.cons (h x Ye) (Al.map λy a=>h y (Yd _ a))
theorem Al.len{α:Type}{F:W->α->Prop}{m:List α}(h:Al F l m):m.length=l.length:=by
 induction h with
 | nil=>rfl
 | cons _ _ a=>rw[Yg,Yg,a]
abbrev Vw(sp:Spw)(F:W->Bool->Prop):Prop:=∀ x b G Q E,F x b->Q (.bl b) G->sp [x] G Q E
abbrev OD(sp:Spw)(F:W->List W->Prop):Prop:=∀ x ps G Q E,F x ps->(∀ r,G r=none->Q (.ref r) (put G r (.lst ps)))->sp [x] G Q E
theorem nn(j:p≠q0)(s:OD sp F)(t:Al F l d):∀(o:Option W)(G:Hw)(a:List W),a.length+d.flatten.length<=90000->G p=some (.lst a)->G q0=some (.lst c)->
  (∀ o' f,f p=some (.lst (a++d.flatten))->(∀ b,b≠p->∀ u,G b=some u->f b=some u)->D.nx [some k0,some (.ref k),some (.ref p),o'] f)->
  BD (holds q0 c) (gNm 3) (AN (gMt B7 GY r6 (Aa (DJ 1 k sp XF yk) Ac))) D l [some k0,some (.ref k),some (.ref p),o] G:=by
 induction t with
 | nil=>exact λo G a _ g i e=>⟨i,e o G (by rw[List.flatten_nil,Yx];exact g) λ_ _ _ h=>h⟩
 | @cons x ps l d h t v =>
  intro o G a hl g i e;rw[List.flatten_cons,Yj]at hl;refine⟨i,Fh g,rfl,s _ _ _ _ _ h λr m=>?_⟩;simp only[Ac];refine nl (by rw[AX (Do g m)];exact g) Ap (Bo (by lia)) (v (some x) _ (a++ps) (by rw[Yj];lia) Ap (by rw[AX (YU j),AX (Do i m)];exact i) λo' f h1 h2=>?_);refine e o' f (by rw[h1,List.flatten_cons,Yv]) λb n u q=>h2 b n u ?_;rw[AX n,AX (Do q m)];exact q
abbrev nq(mg:Str->Option Value)(nm:Str)(F:W->List W->Prop):Spw:=spL (λ(x:List W×List (List W))ws G=>∃ p,ws=[.ref p,.ref (fAt mg nm)]/\G p=some (.lst x.1)/\Al F x.1 x.2/\x.2.flatten.length<=90000) λx=>x.2.flatten
theorem nr{a:GG}{An:GS}(h1:ω[i]?=some (some (.ref p)))(h:G p=some (.lst xs))(q:BD (holds p xs) a gb {D with nx:=An D} xs ω G):Ae (Bz (Bl (Ab i)) a gb) An D ω G:=by
 unfold Ae Bz Bl Ab;rw[h1];dsimp only;rw[h];exact q
theorem Kt(T:Tx K mg base a)(D:Df P w K mg base nm j 1 sp)(k:OD sp F):Df P w K mg base "layer_within" (j+1) 2 (nq mg nm F):=by
 refine mk0 T.lF rfl Vi J7 ((by rintro o G Q E ⟨x,⟨p,e,_⟩,_⟩;rw[e];rfl)) (mX T D (Yr _)) λo G Q E n q=>?_;obtain⟨⟨l,m⟩,⟨q0,rfl,i,hl,r⟩,q⟩:=q;refine And.intro (by decide) λp h=>?_;have g:=YU (Do i h);have c:put G p (.lst []) q0=some (.lst l):=Az h _ _ i;dsimp only;refine nr rfl c (nn g k hl none _ [] (by rw[Yi];lia) Ap c λo' s h1 h2=>?_);refine n _ _ _ (λb u f=>?_) (q p h);by_cases d:b=p
 ·subst d;rw[Ap]at f;cases f;exact h1
 ·rw[AX d]at f;exact h2 b d u (by rw[AX d];exact f)
theorem Kv{α:Type}{enc f:α->W}{b:Sw}(a:gd G):∀(l:List α)(o:Option W)(ys:List W),(∀ x∈l,∀ Q:Kw,Q (f x) G->ge (some (enc x)::b) G Q)->
  ys.length+l.length<=sizeLine->R (ys++l.map f) G->BE gd (gNm 0) Bh ge R (l.map enc) (o::b) G ys
 | [],o,ys,_,_,r=>⟨a,by simpa using r⟩
 | x::l,o,ys,h,hl,r=>by
  refine⟨a,by simp only[Yg]at hl;lia,h x Ye _ (Kv a l (some (enc x)) (ys++[f x]) (λy c=>h y (Yd _ c)) ?_ ?_)⟩
  ·simp only[Yj,Yg,Yi]at hl ⊢;lia
  ·simpa[Yv]using r
inductive Md(F:W->Bool->Prop)(L:W->List W->Prop)(mo de:Nat):Nat->Nat->Nat->List W->Bool->Prop
 | nil {c d:Nat}:Md F L mo de 0 c d [] true
 | big {c d:Nat} {x:W} {l:List W}:l.length < 90000->mo < c+(l.length+1)\/de < d+1->Md F L mo de 0 c d (x::l) false
 | bad {c d:Nat} {x:W} {l:List W} {bs:List Bool}:l.length < 90000->c+(l.length+1)<=mo->d+1<=de->Al F (x::l) bs->bs.all id=false->Md F L mo de 0 c d (x::l) false
 | step {n c d:Nat} {x:W} {l:List W} {bs:List Bool} {pss:List (List W)} {b:Bool}:l.length < 90000->c+(l.length+1)<=mo->d+1<=de->Al F (x::l) bs->bs.all id=true->Al L (x::l) pss->pss.flatten.length<=90000->Md F L mo de n (c+(l.length+1)) (d+1) pss.flatten b->Md F L mo de (n+1) c d (x::l) b
theorem Vx(e:Vw sp F)(a:gd G)(t:Al F l bs):∀(o:Option W)(cs:List Bool),cs.length+bs.length<=90000->R ((cs++bs).map W.bl) G->
  BE gd (gNm 0) Bh (DJ 1 c sp XF wS) R l [o,some (.ref c)] G (cs.map W.bl):=by
 induction t with
 | nil=>exact λo cs _ r=>⟨a,by rw[Yx]at r;exact r⟩
 | @cons x b l bs h t d =>
  intro o cs hl r;rw[Yg]at hl;refine⟨a,by rw[Yh];exact DN (by lia),rfl,e _ _ _ _ _ h ?_⟩;have z:=d (some x) (cs++[b]) (by rw[Yj];exact(show cs.length+1+bs.length<=90000 by lia)) (by rw[Yv];exact r);rw[Yy]at z;exact z
abbrev nu(mg:Str->Option Value)(n1 n2:Str)(F:W->Bool->Prop)(L:W->List W->Prop)(mo de:Nat):Spw:=spR (λ(x:W×Bool)ws _=>ws=[x.1,.ref (fAt mg n1),.ref (fAt mg n2),.int mo,.int de]/\∃ n,Md F L mo de n 0 0 [x.1] x.2) λx=>.bl x.2
theorem Fg(T:Tx K mg base a)(S:Df P w K mg base n1 j 1 H)(U:Df P w K mg base n2 i 1 D)(hi:i < j)(I:Vw H F)(R:OD D L):Df P w K mg base "is_made_of" (j+1) 5 (nu mg n1 n2 F L mo de):=by
 refine mk0 T.lG rfl Vk Bw ((by rintro Y G Q E ⟨x,⟨e,_⟩,_⟩;rw[e];rfl)) (mZ T S (Yr _) (Kt T U R) hi) λY G Q E r q=>?_;obtain⟨⟨x,b⟩,⟨rfl,n,s⟩,q⟩:=q;refine And.intro (Qzz 1) λp N=>Exists.intro (λm ω B=>∃(l:List W)(p:Addr)(c d:Nat),ω=[some x,some (.ref (fAt mg n1)),some (.ref (fAt mg n2)),some (.int mo),some (.int de),some (.ref p),some (.int c),some (.int d)]/\B p=some (.lst l)/\Sub G B/\Md F L mo de m c d l b) ⟨⟨n,[x],p,0,0,rfl,Ap,Az N,s⟩,?_⟩;rintro m ω G1 ⟨l,p,c,d,rfl,hl,k,s⟩;walk_at "rd";simp only[hl,AB];have v:∀(y:W)(l:List W),decide ((0:Int) <((y::l).length:Nat))=true:=λy l=>YG (by rw[Yg];lia);cases s with
 | nil=>exact r _ _ _ k q
 | @big _ _ y l A h =>
  rw[if_pos (v y l)];by_cases g:(mo:Int) < c+((y::l).length:Nat)
  ·rw[if_pos (YG g),if_pos trivial];exact r _ _ _ k q
  ·rw[Yg]at g;rw[Yg,if_neg (by rw[YN];exact g),if_pos (YG (by lia))];exact r _ _ _ k q
 | @bad _ _ y l bs A h1 h2 o t =>
  rw[if_pos (v y l),if_neg (by rw[YN,Yg];lia),if_neg (by rw[YN];lia)];refine Vx I hl o none [] (by rw[o.len,Yg,Yi];lia) λp1 f=>?_;simp only[Yw,Dm Ap,Option.bind_some,Fe,YD,AB,t,Bool.not_false,if_true];exact r _ _ _ (BN k f) q
 | @step n _ _ y l bs u _ A h1 h2 o t X J O =>
  rw[if_pos (v y l),if_neg (by rw[YN,Yg];lia),if_neg (by rw[YN];lia)];refine Vx I hl o none [] (by rw[o.len,Yg,Yi];lia) λp1 f=>?_;simp only[Yw,Dm Ap,Option.bind_some,Fe,YD,AB,t,Bool.not_true,Yq,if_false];refine⟨(y::l,u),⟨p,rfl,Az f _ _ hl,X,J⟩,λp2 z=>⟨n,Nat.lt_succ_self n,_,p2,_,_,?_,Ap,BN (BN k f) z,O⟩⟩;simp only[Yg,Int.natCast_add,Int.natCast_one]
theorem OF{α:Type}{enc:α->W}{kids:α->List α}{cl a:List α->Nat}{B:α->Prop}{fm ok:α->Bool}(j:∀ l,cl l=l.length+cl (l.flatMap kids))(t:∀ l,l≠[]->a l=1+a (l.flatMap kids))(u:cl []=0)(w:a []=0)(A:∀ x,ok x=(fm x&&(kids x).all ok))(h:∀ x,B x->F (enc x) (fm x)/\(fm x=true->L (enc x) ((kids x).map enc)/\∀ y∈kids x,B y)):∀(n:Nat)(l:List α)(c d:Nat),a l<=n->(∀ x∈l,B x)->cl l<=90000->c<=mo->d<=de->∃ m,Md F L mo de m c d (l.map enc) (decide (c+cl l<=mo/\d+a l<=de)&&l.all ok)
 | _,[],c,d,_,_,_,hc,hd=>⟨0,by
  rw[YG (by rw[u,w];exact⟨hc,hd⟩)];exact .nil⟩
 | n,x::l,c,d,q,o,hl,hc,hd=>by
  have h1:=j (x::l);have h2:=t (x::l) (by simp);have D:=j ((x::l).flatMap kids);have e:(l.map enc).length=l.length:=Yh _;rw[Yg]at h1;by_cases g:mo < c+(l.length+1)\/de < d+1
  ·rw[Qi (by lia)];exact⟨0,.big (by lia) (by rw[e];exact g)⟩
  have i:=Vo A (x::l);have fs:=Al.map λz f=>(h z (o z f)).1;cases b:(x::l).all fm with
  | false =>
   rw[b,Bool.false_and]at i;rw[i,Bool.and_false];exact⟨0,.bad (by lia) (by lia) (by lia) fs (by rw[List.all_map];exact b)⟩
  | true =>
   rw[b,Bool.true_and]at i;have r:=List.all_eq_true.mp b
   match n,q with
   | 0,q=>lia
   | n+1,q =>
   obtain⟨m,v⟩:=OF (mo:=mo) (de:=de) j t u w A h n ((x::l).flatMap kids) (c+(l.length+1)) (d+1) (by lia) (λy p=>by obtain⟨z,f,p⟩:=List.mem_flatMap.mp p;exact((h z (o z f)).2 (r z f)).2 y p) (by lia) (by lia) (by lia);rw[show decide (c+(l.length+1)+cl ((x::l).flatMap kids)<=mo/\d+1+a ((x::l).flatMap kids)<=de)=decide (c+cl (x::l)<=mo/\d+a (x::l)<=de) by rw[decide_eq_decide];lia,<- i]at v;have s:((x::l).map λk=>(kids k).map enc).flatten=((x::l).flatMap kids).map enc:=by rw[List.map_flatMap];rfl
   refine⟨m+1,Md.step (by lia) (by lia) (by lia) fs (by rw[List.all_map];exact b) (Al.map λz f=>((h z (o z f)).2 (r z f)).1) ?_ ?_⟩
   ·rw[s,Yh];lia
   ·rw[s,e];exact v
def BG(k:Kd):Bool:=decide (k.cnt<=40/\k.dp<=8)
def KLs(x:W)(ps:List W):Prop:=∃ k:Kd,x=k.enc/\k.cnt<=90000/\ps=k.kids.map Kd.enc
def KB(x:W)(b:Bool):Prop:=(∃ k:Kd,x=k.enc/\k.wt<=90000/\b=(BG k&&k.ok))\/(noK x/\b=false)
theorem nv(h:KB x b):∃ m,Md KFm KLs 40 8 m 0 0 [x] b:=by
 rcases h with⟨k,rfl,hw,rfl⟩|⟨h,rfl⟩
 ·have hc:=Hi k;have z:=OF (F:=KFm) (L:=KLs) (mo:=40) (de:=8) TQ TR rfl rfl m8 (λk h=>⟨.inl ⟨k,rfl,h,rfl⟩,λ_=>⟨⟨k,rfl,by have:=Hi k;lia,rfl⟩,λy c=>Yt (m9 c) h⟩⟩) k.dp [k] 0 0 (by show max k.dp 0<=_;lia) (λx a=>by rw[YA.mp a];exact hw) (by show k.cnt+0<=_;lia) (by decide) (by decide);rw[show decide (0+BO [k]<=40/\0+dpL [k]<=8)=BG k by unfold BG;rw[decide_eq_decide];show 0+(k.cnt+0)<=40/\0+max k.dp 0<=8↔_;lia,List.all_cons,List.all_nil,Bool.and_true]at z;exact z
 ·exact⟨0,.bad (by decide) (by decide) (by decide) (.cons (.inr ⟨h,rfl⟩) .nil) rfl⟩
abbrev nw:Spw:=spR (λ(x:W×Bool)ws _=>ws=[x.1]/\KB x.1 x.2) λx=>.bl x.2
theorem Kx(T:Tx K mg base a):Df P w K mg base "is_kind" 7 1 nw:=by
 refine mk0 T.lH rfl Vm Bw ((by rintro d G Q E ⟨x,⟨e,_⟩,_⟩;rw[e];rfl)) (m5 T (IP T) (by lia) (IQ T) (by lia) (Fg T (L:=KLs) (mo:=40) (de:=8) (IP T) (IQ T) (by lia) (λx b G Q E h q=>⟨(x,b),⟨rfl,h⟩,q⟩) (λx ps G Q E⟨k,e,hc,c⟩q=>⟨k,⟨by rw[e],hc⟩,by rw[c]at q;exact q⟩)) (Yr _)) λd G Q E f q=>?_;walk_at "pj";exact Exists.intro (x,b) ⟨⟨rfl,nv h⟩,q⟩
abbrev Vy:List Str:=["self","text"]
theorem Vz:Ay Vy ["self","text"] (Ao Iw):=by walk_at "s"
def ny(K:PySem.W.Frag)(a:Adr):GS:=(Ae (Hb a.Reader "text" na ad) (Hb a.Reader "place" u8 ad))
theorem nz(T:Tx K mg base a):Dn P w K mg base Vy "Reader.__init__" Iw k (ny K a):=λ{f cdv A outer s H E}hr=>
 have hu:=AQ hr
 have hN:=Vz.nd
 (Av (Ss T.AJ T.CN rfl (by walk_at "v") (by walk_at "v")) (AE (Ss T.AJ T.B2 rfl Eu (by walk_at "v"))))
abbrev VB:List Str:=["self","piece"]
theorem VC:Ay VB ["self","piece"] (Ao Iy):=by walk_at "s"
def nA(K:PySem.W.Frag)(a:Adr):GS:=(Aj (gMt isStr J4 (BJ a.Reader "text" ad) (Aa na (Aa (BJ a.Reader "place" ad) Ac))))
theorem nB(T:Tx K mg base a):Dn P w K mg base VB "Reader.sees" Iy k (nA K a):=λ{f cdv A outer s H E}hr=>
 have hu:=AQ hr
 have hN:=VC.nd
 (AE (A0 (C6 Sz rfl rfl rfl rfl rfl (Ca T.AJ T.CN rfl (by walk_at "v")) (AO rfl (by walk_at "v") (AO rfl (Ca T.AJ T.B2 rfl (by walk_at "v")) A8)))))
abbrev VD:List Str:=["self","piece"]
theorem VE:Ay VD ["self","piece"] (Ao Iz):=by walk_at "s"
abbrev x6:=Aa na Ac
abbrev y6:=gB (rF AM) x6
def Zip(K:PySem.W.Frag)(a:Adr)(EH:Spw):GS:=(Ae (gIf (gNt (AH (AR a.Reader "sees" EH XF ad x6))) yK Au) (Ae (F5 a.Reader "place" ad y6) (Aj (gC (.bl true)))))
theorem nC(T:Tx K mg base a)(OG:DfM P w K mg base a.Reader "sees" k_Reader_sees 2 EH)(h_Reader_sees:k_Reader_sees<=k):Dn P w K mg base VD "Reader.takes" Iz k (Zip K a EH):=λ{f cdv A outer s H E}hr=>
 have hu:=AQ hr
 have hN:=VE.nd
 (Av (Bc (FV (Ck (λ_=>rfl) (BK T.AJ OG (hr.mono h_Reader_sees) Dk rfl rfl rfl (by walk_at "v") (by walk_at "v")))) (by walk_at "v") Bj) (Av (Ni T.AJ T.B2 (by walk_at "v") (by walk_at "v")) (by walk_at "v")))
abbrev VF:List Str:=["self","piece"]
theorem VG:Ay VF ["self","piece"] (Ao Gb):=by walk_at "s"
def nD(K:PySem.W.Frag)(a:Adr)(A9:Spw)(E:Addr->Hw->Prop):GS:=(gIf (gNt (AH (AR a.Reader "takes" A9 (λ_=>E) ad x6))) (CC a.BadNote E (Aa (gFR na) Ac)) Au)
theorem nE(T:Tx K mg base a)(CG:DfM P w K mg base a.Reader "takes" k_Reader_takes 2 A9)(h_Reader_takes:k_Reader_takes<=k)(hr:Room k (A.deeper (envOfC "Reader.wants" (Ao Gb) s.heap.objs.size f cdv))):Ssm (cxW P w K mg base VF "Reader.wants" (Ao Gb) f cdv A outer s H E) (λB=>B=H) (AS Gb) (nD K a A9 (dnX K H E)):=
 have hu:=AQ hr
 have hN:=VG.nd
 (AE (Bc (FV (Ck (λ_=>rfl) (BK T.AJ CG (hr.mono h_Reader_takes) AG rfl rfl rfl (by walk_at "v") (by walk_at "v")))) (AE (DH T.Dr T.DO PySem.F.excBase_ValueError rfl rfl rfl rfl (AO rfl (kQ (by decide +kernel) (by walk_at "v")) A8))) Bj))
abbrev VH:List Str:=["self"]
theorem VI:Ay VH ["self"] (Ao Gc):=by walk_at "s"
def VJ(K:PySem.W.Frag)(a:Adr)(E:Addr->Hw->Prop):GS:=(gIf (gTB (Ad (AY (λi j=>decide (i < j)) AT) (BJ a.Reader "place" ad) (gB (rF AM) (Aa (BJ a.Reader "text" ad) Ac)))) (CC a.BadNote E (Aa (gC (.str "there is more text than is wanted")) Ac)) Au)
theorem nF(T:Tx K mg base a)(hr:Room k (A.deeper (envOfC "Reader.wants_end" (Ao Gc) s.heap.objs.size f cdv))):Ssm (cxW P w K mg base VH "Reader.wants_end" (Ao Gc) f cdv A outer s H E) (λB=>B=H) (AS Gc) (VJ K a (dnX K H E)):=
 have hu:=AQ hr
 have hN:=VI.nd
 (AE (Bc (HZ JY rfl (Ca T.AJ T.B2 rfl (by walk_at "v")) (Cp J1 (JZ) rfl T.Kg (by decide) rfl rfl rfl (AO rfl (Ca T.AJ T.CN rfl (by walk_at "v")) A8))) (AE (DH T.Dr T.DO PySem.F.excBase_ValueError rfl rfl rfl rfl (by walk_at "v"))) Bj))
abbrev VL:List Str:=["self","start"]
theorem OH:Ay VL ["self"] (Ao IA):=by walk_at "s"
def nG(K:PySem.W.Frag)(a:Adr)(ED:Spw):GS:=(Ae (Ak 1 (BJ a.Reader "place" ad)) (Ae (E4 (A7 (gTB (Ad (AY (λi j=>decide (i < j)) AT) (BJ a.Reader "place" ad) (gB (rF AM) (Aa (BJ a.Reader "text" ad) Ac)))) (AH (Ai ED XF (Aa (Ad (Af ixW) (BJ a.Reader "text" ad) (BJ a.Reader "place" ad)) Ac)))) (F5 a.Reader "place" ad dl)) (Aj (Bv (BJ a.Reader "text" ad) (A2 na) (A2 (BJ a.Reader "place" ad))))))
theorem nH(T:Tx K mg base a){EE:Nat}(U1:Df P w K mg base "is_small_letter" EE 1 ED)(U2:EE<=k):Dn P w K mg base VL "Reader.word" IA k (nG K a ED):=λ{f cdv A outer s H E}hr=>
 have hu:=AQ hr
 have hN:=OH.nd
 (Av (Bt (i:=1) OH.nd rfl rfl rfl (Ca T.AJ T.B2 rfl (by walk_at "v"))) (Av (GW PassesOwn.never (JR (MT (HZ JY rfl (Ca T.AJ T.B2 rfl (by walk_at "v")) (Cp J1 (JZ) rfl T.Kg (by decide) rfl rfl rfl (AO rfl (Ca T.AJ T.CN rfl (by walk_at "v")) A8))) (MS (Ck (λ_=>rfl) (A1 U1 (hr.mono U2) rfl Dk rfl rfl rfl (AO rfl (JQ (λ_ _=>rfl) (Ca T.AJ T.CN rfl (by walk_at "v")) (Ca T.AJ T.B2 rfl (by walk_at "v"))) A8)))))) (AE (Ni T.AJ T.B2 (by walk_at "v") Eu))) (AE (A0 (Nk (Ca T.AJ T.CN rfl (by walk_at "v")) (by walk_at "v") (MY (Ca T.AJ T.B2 rfl (by walk_at "v"))))))))
abbrev VM:List Str:=["self","start"]
theorem OI:Ay VM ["self"] (Ao IB):=by walk_at "s"
def nI(K:PySem.W.Frag)(a:Adr):GS:=(Ae (Ak 1 (BJ a.Reader "place" ad)) (Ae (E4 (A7 (gTB (Ad (AY (λi j=>decide (i < j)) AT) (BJ a.Reader "place" ad) (gB (rF AM) (Aa (BJ a.Reader "text" ad) Ac)))) (gTB (B0 (AY (λi j=>decide (i<=j)) (λa b=>!AT b a)) (AY (λi j=>decide (i<=j)) (λa b=>!AT b a)) (gC (.str "0")) (Ad (Af ixW) (BJ a.Reader "text" ad) (BJ a.Reader "place" ad)) (gC (.str "9"))))) (F5 a.Reader "place" ad dl)) (Aj (Bv (BJ a.Reader "text" ad) (A2 na) (A2 (BJ a.Reader "place" ad))))))
theorem nJ(T:Tx K mg base a):Dn P w K mg base VM "Reader.figures" IB k (nI K a):=λ{f cdv A outer s H E}hr=>
 have hu:=AQ hr
 have hN:=OI.nd
 (Av (Bt (i:=1) OI.nd rfl rfl rfl (Ca T.AJ T.B2 rfl (by walk_at "v"))) (Av (GW PassesOwn.never (JR (MT (HZ JY rfl (Ca T.AJ T.B2 rfl (by walk_at "v")) (Cp J1 (JZ) rfl T.Kg (by decide) rfl rfl rfl (AO rfl (Ca T.AJ T.CN rfl (by walk_at "v")) A8))) (MS (RS HY HY rfl FU (JQ (λ_ _=>rfl) (Ca T.AJ T.CN rfl (by walk_at "v")) (Ca T.AJ T.B2 rfl (by walk_at "v"))) FU)))) (AE (Ni T.AJ T.B2 (by walk_at "v") Eu))) (AE (A0 (Nk (Ca T.AJ T.CN rfl (by walk_at "v")) (by walk_at "v") (MY (Ca T.AJ T.B2 rfl (by walk_at "v"))))))))
theorem Hk:Aw (.str x) (.str y) G Q=(x.length+y.length<=sizeLine/\Q (.str (x++y)) G):=rfl
theorem Fi:Aw (.int i) (.int j) G Q=Q (.int (i+j)) G:=rfl
def rdr(C:Addr)(T:Str)(i:Nat):HW:=.ins C [("text",.str T),("place",.int i)]
theorem nK:(("place":Str)==("text":Str))=false:=by decide +kernel
theorem nL:¬ (("text":Str)=("place":Str)):=by decide +kernel
theorem Dt:List.lookup ("text":Str) ([("text",x),("place",y)]:List (Str×W))=some x:=by rw[List.lookup_cons,beq_self_eq_true]
theorem Ce:List.lookup ("place":Str) ([("text",x),("place",y)]:List (Str×W))=some y:=by rw[List.lookup_cons,nK,List.lookup_cons,beq_self_eq_true]
theorem nM:E7 "place" z [("text",x),("place",y)]=([("text",x),("place",z)]:List (Str×W)):=by
 unfold E7;rw[if_neg nL];unfold E7;rw[if_pos rfl]
local macro_rules | `(tactic| walk_at "rd") => `(tactic| ((try dsimp only [BJ,Hb,F5,AR,Ig,Bv,B9,DI,Hk,Fi,BM,Dt,Ce,Ae,gIf,Aj,Ak,AN,Au,Ab,gC,Ad,gTB,AH,gNt,A7,gOr,Cc,Di,BY,Ah,Aq,Aa,Ac,Ai,gB,rF,Af,BA,gMt,C4,B0,AY,Bi,AI,L3.BS,C5,gSl,A2,Bk,Bg,Bl,DL,AC,Bf,List.map_cons,List.map_nil,List.length_cons,List.length_nil,List.cons_append,List.nil_append,List.getElem?_cons_zero,List.getElem?_cons_succ,List.set_cons_zero,List.set_cons_succ,List.replicate,B5,tyN,AB,BF,CF,Dl,ixW,eqF,eqW,AM,BZ,B6,List.getElem?_nil]); (try simp only [BJ,Hb,F5,AR,Ig,Bv,B9,DI,Hk,Fi,BM,Dt,Ce,Ae,gIf,Aj,Ak,AN,Au,Ab,gC,Ad,gTB,AH,gNt,A7,gOr,Cc,Di,BY,Ah,Aq,Aa,Ac,Ai,gB,rF,Af,BA,gMt,C4,B0,AY,Bi,AI,L3.BS,C5,gSl,A2,Bk,Bg,Bl,DL,AC,Bf,List.map_cons,List.map_nil,List.length_cons,List.length_nil,List.cons_append,List.nil_append,List.getElem?_cons_zero,List.getElem?_cons_succ,List.set_cons_zero,List.set_cons_succ,List.replicate,B5,tyN,AB,BF,CF,Dl,ixW,eqF,eqW,AM,BZ,B6,List.getElem?_nil])))
def VN(a:Adr):Spw:=λws G Q _=>∃(r:Addr)(T:Str),ws=[.ref r,.str T]/\G r=some (.ins a.Reader [])/\Q .non (put G r (rdr a.Reader T 0))
theorem nN:Spw.M (VN a):=λc G Q d E b h _⟨r,T,h1,h2,q⟩=>⟨r,T,h1,h2,h _ _ q⟩
theorem nO(T:Tx K mg base a):DfI P w K mg base "Reader" a.Reader 1 2 (VN a):=by
 refine iS T.Kh rfl Vz nN (λb G Q E⟨r,T,e,_⟩=>by rw[e];rfl) (nz T) λb G Q E c q=>?_;obtain⟨r,T,rfl,h,q⟩:=q;refine⟨r,[],rfl,h,by decide,r,_,rfl,Ap,Yu (show 1 < 2 by decide) (by decide),?_⟩;rw[AV];exact q
def Ea(T:Str)(i:Nat)(p:Str):Bool:=Txt.startswith3 T p i
def Ky(a:Adr):Spw:=λws G Q _=>∃(r:Addr)(T:Str)(i:Nat)(p:Str),ws=[.ref r,.str p]/\G r=some (rdr a.Reader T i)/\T.length<=90000/\p.length<=100/\
 (Ea T i p=true->Q (.bl true) (put G r (rdr a.Reader T (i+p.length))))/\(Ea T i p=false->Q (.bl false) G)
theorem nP:Spw.M (Ky a):=λf G Q d E e h _⟨r,T,i,p,h1,h2,c,b,q1,q2⟩=>⟨r,T,i,p,h1,h2,c,b,λz=>h _ _ (q1 z),λz=>h _ _ (q2 z)⟩
theorem Du(h:n<=90000):n<=sizeLine:=Yt h (by decide)
def OJ(a:Adr):Spw:=λws G Q _=>∃(r:Addr)(T:Str)(i:Nat)(p:Str),ws=[.ref r,.str p]/\G r=some (rdr a.Reader T i)/\Q (.bl (Ea T i p)) G
theorem nQ:Spw.M (OJ a):=λc G Q d E b h _⟨r,T,i,p,h1,h2,q⟩=>⟨r,T,i,p,h1,h2,h _ _ q⟩
theorem VO(T:Tx K mg base a):DfM P w K mg base a.Reader "sees" 1 2 (OJ a):=by
 refine J3 T.Ki rfl VC nQ (λb G Q E⟨r,T,i,p,e,_⟩=>by rw[e];rfl) (nB T) λb G Q E c q=>?_;obtain⟨r,T,i,p,rfl,h,q⟩:=q;exact⟨r,_,_,rfl,h,Dt,⟨T,rfl⟩,r,_,_,rfl,h,Ce,q⟩
theorem EI{C:Addr}{i:Nat}(h1:(m==("text":Str))=false)(h2:(m==("place":Str))=false):List.lookup m ([("text",W.str T),("place",W.int i)]:List (Str×W))=none:=by rw[List.lookup_cons,h1,List.lookup_cons,h2];rfl
theorem Ge(T:Tx K mg base a):DfM P w K mg base a.Reader "takes" 2 2 (Ky a):=by
 refine J3 T.Kj rfl VE nP (λc G Q E⟨r,T,i,p,e,_⟩=>by rw[e];rfl) (nC T (VO T) (Yr _)) λc G Q E f q=>?_;obtain⟨r,T,i,p,rfl,h,d,g,q1,q2⟩:=q;unfold Zip;walk_at "rd";refine⟨r,_,rfl,h,EI (C:=r) (by decide +kernel) (by decide +kernel),r,T,i,p,rfl,h,?_⟩;cases b:Ea T i p with
 | false=>exact q2 b
 | true =>
  refine⟨r,_,i,rfl,h,Ce,?_⟩;rw[if_pos (Du (by lia))];exact⟨_,_,rfl,h,by simp,q1 b⟩
def IR(a:Adr):Spw:=λws G Q E=>∃(r:Addr)(T:Str)(i:Nat)(p:Str),ws=[.ref r,.str p]/\G r=some (rdr a.Reader T i)/\T.length<=90000/\p.length<=100/\(reprText p).length<=1000/\(Ea T i p=true->Q .non (put G r (rdr a.Reader T (i+p.length))))/\(Ea T i p=false->E a.BadNote G)
theorem nR:Spw.M (IR a):=λg G Q e E f h h'⟨r,T,i,p,h1,h2,c,b,d,q,q2⟩=>⟨r,T,i,p,h1,h2,c,b,d,λz=>h _ _ (q z),λz=>h' _ _ (q2 z)⟩
theorem Gf(T:Tx K mg base a):DfM P w K mg base a.Reader "wants" 3 2 (IR a):=by
 refine Sv T.Kk rfl VG nR (λd G Q E⟨r,T,i,p,e,_⟩=>by rw[e];rfl) (nE T (Ge T) (Yr _)) λd G Q E j g q=>?_;obtain⟨r,T,i,p,rfl,h,b,c,f,q,q2⟩:=q;refine⟨r,_,rfl,h,EI (C:=r) (by decide +kernel) (by decide +kernel),r,T,i,p,rfl,h,b,c,λz=>?_,λz=>?_⟩
 ·exact q z
 ·unfold CC gFR;walk_at "rd";exact⟨p,rfl,f,λy=>⟨by decide,q2 z⟩⟩
def VP(a:Adr):Spw:=λws G Q E=>∃(r:Addr)(T:Str)(i:Nat),ws=[.ref r]/\G r=some (rdr a.Reader T i)/\T.length<=90000/\(T.length<=i->Q .non G)/\(i < T.length->E a.BadNote G)
theorem nS:Spw.M (VP a):=λe G Q d E c h h'⟨r,T,i,h1,h2,b,q,q2⟩=>⟨r,T,i,h1,h2,b,λz=>h _ _ (q z),λz=>h' _ _ (q2 z)⟩
theorem nT(T:Tx K mg base a):DfM P w K mg base a.Reader "wants_end" 1 1 (VP a):=by
 refine Sv T.Kl rfl VI nS (λb G Q E⟨r,T,i,e,_⟩=>by rw[e];rfl) (nF T) λb G Q E d f q=>?_;obtain⟨r,T,i,rfl,h,c,q,q2⟩:=q;unfold VJ;walk_at "rd";refine⟨r,_,_,rfl,h,Ce,r,_,_,rfl,h,Dt,?_⟩;dsimp only;rw[if_pos (Du c)];simp only[AB];by_cases hi:i < T.length
 ·rw[if_pos (by simp;lia)];exact⟨by decide,q2 hi⟩
 ·rw[if_neg (by simp;lia)];exact q (by lia)
def Dv(c:Nat):Bool:=Hg ⟨#[c]⟩
def run(T:Str)(i:Nat):List Nat:=(T.cps.toList.drop i).takeWhile Dv
theorem Hl(T:Str):T.length=T.cps.toList.length:=by simp[Str.length]
theorem nU(h:T.cps.toList[j]?=some c)(hc:Dv c=true):run T j=c::run T (j+1):=by
 obtain⟨h1,h2⟩:=YV.mp h;unfold run;rw[List.drop_eq_getElem_cons h1,h2,List.takeWhile_cons,hc];rfl
theorem nV(h:T.cps.toList[j]?=some c)(hc:Dv c=false):run T j=[]:=by
 obtain⟨h1,h2⟩:=YV.mp h;unfold run;rw[List.drop_eq_getElem_cons h1,h2,List.takeWhile_cons,hc];rfl
theorem nW(h:T.length<=j):run T j=[]:=by
 unfold run;rw[List.drop_eq_nil_of_le (h)];rfl
theorem Hm(h:G p=some o):put G p o=G:=by
 funext b;by_cases e:b=p
 ·subst e;rw[Ap,h]
 ·rw[AX e]
theorem nX(h:j < n):ixN n (j:Int)=some j:=by
 unfold ixN;rw[if_pos (by lia),if_pos (by lia)];rfl
theorem CK{α:Type}{xs:List α}(h:j < xs.length):atI xs (j:Int)=xs[j]?:=by
 unfold atI;rw[nX h];rfl
theorem VQ{i j:Nat}(h:i<=j)(a:j<=T.length):Txt.slice T (some (i:Int)) (some (j:Int))=⟨((T.cps.toList.drop i).take (j - i)).toArray⟩:=PySem.StrLaws.sliceText_nat T h a
def Kz(a:Adr):Spw:=λws G Q _=>∃(r:Addr)(T:Str)(i:Nat),ws=[.ref r]/\G r=some (rdr a.Reader T i)/\T.length<=90000/\i<=T.length/\Q (.str ⟨(run T i).toArray⟩) (put G r (rdr a.Reader T (i+(run T i).length)))
theorem nY:Spw.M (Kz a):=λf G Q d E e h _⟨r,T,i,h1,h2,c,b,q⟩=>⟨r,T,i,h1,h2,c,b,h _ _ q⟩
theorem Fj(T:Tx K mg base a):DfM P w K mg base a.Reader "word" 2 1 (Kz a):=by
 refine J3 T.Km rfl OH nY (λx G Q E⟨r,T,i,e,_⟩=>by rw[e];rfl) (nH T (EE T) (Yr _)) λx G Q E y q=>?_;obtain⟨r,T,i,rfl,h,l,hi,q⟩:=q;refine⟨r,_,_,rfl,h,Ce,?_⟩
 refine⟨λm ω s=>∃ j:Nat,m=T.length - j/\i<=j/\j<=T.length/\ω=[some (.ref r),some (.int i)]/\s=put G r (rdr a.Reader T j)/\run T i=(T.cps.toList.drop i).take (j - i)++run T j,
  ⟨_,i,rfl,Yr _,hi,rfl,(Hm h).symm,by simp⟩,?_⟩
 rintro m ω s ⟨j,rfl,o,v,rfl,rfl,b⟩;have c:(put G r (rdr a.Reader T j)) r=some (rdr a.Reader T j):=Ap
 have k:∀ n:Nat,run T j=[]->n=j->i+(run T i).length=n:=λn e en=>by
  rw[b,e,Yx,List.length_take,List.length_drop,<- Hl];lia
 have f:run T j=[]->Q (.str (Txt.slice T (some (i:Int)) (some (j:Int)))) (put G r (rdr a.Reader T j)):=λe=>by
  rw[VQ o v];have t:(T.cps.toList.drop i).take (j - i)=run T i:=by rw[b,e,Yx]
  rw[t,<- k j e rfl];exact q
 walk_at "rd";refine⟨r,_,_,rfl,c,Ce,r,_,_,rfl,c,Dt,?_⟩;dsimp only;rw[if_pos (Du l)];simp only[AB];by_cases d:j < T.length
 ·rw[if_pos (by simpa using d)];refine⟨r,_,_,rfl,c,Dt,r,_,_,rfl,c,Ce,?_⟩;have g:j < T.cps.toList.length:=by exact d
  have hc:T.cps.toList[j]?=some T.cps.toList[j]:=by simp[g]
  dsimp only;rw[if_pos (Du l),CK g,hc];refine⟨_,rfl,?_⟩
  change if Dv T.cps.toList[j]=true then _ else _
  cases p:Dv T.cps.toList[j]with
  | true =>
   refine⟨r,_,j,rfl,c,Ce,_,1,rfl,c,by simp,?_⟩;rw[nM,AV];refine⟨T.length -(j+1),by lia,j+1,(by first | rfl | trivial),by lia,by lia,(by first | rfl | trivial),(by first | rfl | trivial),?_⟩;rw[b,nU hc p];have:j+1 - i=(j - i)+1:=by lia
   rw[this,List.take_add_one];have u:(T.cps.toList.drop i)[j - i]?=some T.cps.toList[j]:=by rw[List.getElem?_drop,show i+(j - i)=j by lia,hc]
   rw[u];simp
  | false =>
   exact⟨r,_,_,rfl,c,Dt,r,_,_,rfl,c,Ce,⟨Du l,f (nV hc p)⟩⟩
 ·rw[if_neg (by simpa using d)];exact⟨r,_,_,rfl,c,Dt,r,_,_,rfl,c,Ce,⟨Du l,f (nW (by lia))⟩⟩
abbrev VR:List Str:=["reader","depth","word"]
theorem KA:Ay VR ["reader","depth"] (Ao IC):=by walk_at "s"
def OK(K:PySem.W.Frag)(a:Adr)(A9:Spw)(KC:Spw)(KD:Spw)(KG:Spw)(Bm:Spw)(E:Addr->Hw->Prop):GS:=(Ae (gIf (gTB (Ad (Bi λi j=>decide (j < i)) (Ab 1) (gC (.int 8)))) (CC a.BadNote E (Aa (gC (.str "too many kinds within one another")) Ac)) Au) (Ae (gIf (AH (AR a.Reader "takes" A9 (λ_=>E) (Ab 0) (Aa (gC (.str "(")) Ac))) (Aj (Ai KC (λ_=>E) (Aa (Ab 0) (Aa (Ab 1) Ac)))) Au) (Ae (gIf (AH (AR a.Reader "takes" A9 (λ_=>E) (Ab 0) (Aa (gC (.str "[")) Ac))) (Aj (Ai KD (λ_=>E) (Aa (Ab 0) (Aa (Ab 1) Ac)))) Au) (Ae (gIf (AH (AR a.Reader "takes" A9 (λ_=>E) (Ab 0) (Aa (gC (.str "{")) Ac))) (Aj (Ai KG (λ_=>E) (Aa (Ab 0) (Aa (Ab 1) Ac)))) Au) (Ae (Ak 2 (AR a.Reader "word" Bm (λ_=>E) (Ab 0) Ac)) (Ae (gIf (gTB (Ad (Af (inF true)) (Ab 2) (Ah (Aa (gC (.str "any")) (Aa (gC (.str "num")) (Aa (gC (.str "truth")) Ac)))))) (CC a.BadNote E (Aa (gC (.str "wanted a kind")) Ac)) Au) (Aj (Ah (Aa (Ab 2) Ac)))))))))
theorem VS(T:Tx K mg base a)(CG:DfM P w K mg base a.Reader "takes" k_Reader_takes 2 A9)(h_Reader_takes:k_Reader_takes<=k)(nZ:Df P w K mg base "function_from" KH 2 KC)(n0:KH<=k)(n4:Df P w K mg base "box_from" KI 2 KD)(n7:KI<=k)(n9:Df P w K mg base "row_from" KJ 2 KG)(oa:KJ<=k)(DP:DfM P w K mg base a.Reader "word" k_Reader_word 1 Bm)(h_Reader_word:k_Reader_word<=k)(hr:Room k (A.deeper (envOfC "kind_from" (Ao IC) s.heap.objs.size f cdv))):Ssm (cxW P w K mg base VR "kind_from" (Ao IC) f cdv A outer s H E) (λB=>B=H) (AS IC) (OK K a A9 KC KD KG Bm (dnX K H E)):=
 have hu:=AQ hr
 have hN:=KA.nd
 (Av (Bc (by walk_at "v") (AE (DH T.Dr T.DO PySem.F.excBase_ValueError rfl rfl rfl rfl (by walk_at "v"))) Bj) (Av (Bc (Ck (λ_=>rfl) (BK T.AJ CG (hr.mono h_Reader_takes) AG rfl rfl rfl (by walk_at "v") (by walk_at "v"))) (AE (A0 (A1 nZ (hr.mono n0) rfl AG rfl rfl rfl (by walk_at "v")))) Bj) (Av (Bc (Ck (λ_=>rfl) (BK T.AJ CG (hr.mono h_Reader_takes) AG rfl rfl rfl (by walk_at "v") (by walk_at "v"))) (AE (A0 (A1 n4 (hr.mono n7) rfl AG rfl rfl rfl (by walk_at "v")))) Bj) (Av (Bc (Ck (λ_=>rfl) (BK T.AJ CG (hr.mono h_Reader_takes) AG rfl rfl rfl (by walk_at "v") (by walk_at "v"))) (AE (A0 (A1 n9 (hr.mono oa) rfl AG rfl rfl rfl (by walk_at "v")))) Bj) (Av (Bt (i:=2) KA.nd rfl rfl rfl (E8 T.AJ DP (hr.mono h_Reader_word) AG rfl (by walk_at "v"))) (Av (Bc (by walk_at "v") (AE (DH T.Dr T.DO PySem.F.excBase_ValueError rfl rfl rfl rfl (by walk_at "v"))) Bj) (by walk_at "v")))))))
abbrev VT:List Str:=["reader","depth","taken","given"]
theorem KM:Ay VT ["reader","depth"] (Ao ID):=by walk_at "s"
abbrev yl:=gC (.str ")")
abbrev yg:=Aa ad (Aa (Ad (Aw) na dl) Ac)
abbrev yb:=gC (.str "to")
def VU(K:PySem.W.Frag)(a:Adr)(BV:Spw)(Ba:Spw)(E:Addr->Hw->Prop):GS:=(Ae (Ak 2 (Ai BV (λ_=>E) yg)) (Ae (AN (AR a.Reader "wants" Ba (λ_=>E) ad (Aa (gC (.str " > ")) Ac))) (Ae (Ak 3 (Ai BV (λ_=>E) yg)) (Ae (AN (AR a.Reader "wants" Ba (λ_=>E) ad (Aa yl Ac))) (Aj (Ah (Aa yb (Aa r6 yk))))))))
theorem og(T:Tx K mg base a)(Fk:Df P w K mg base "kind_from" CP 2 BV)(Fo:CP<=k)(CH:DfM P w K mg base a.Reader "wants" k_Reader_wants 2 Ba)(h_Reader_wants:k_Reader_wants<=k)(hr:Room k (A.deeper (envOfC "function_from" (Ao ID) s.heap.objs.size f cdv))):Ssm (cxW P w K mg base VT "function_from" (Ao ID) f cdv A outer s H E) (λB=>B=H) (AS ID) (VU K a BV Ba (dnX K H E)):=
 have hu:=AQ hr
 have hN:=KM.nd
 (Av (Bt (i:=2) KM.nd rfl rfl rfl (A1 Fk (hr.mono Fo) rfl AG rfl rfl rfl (by walk_at "v"))) (Av (BU rfl (BK T.AJ CH (hr.mono h_Reader_wants) AG rfl rfl rfl (by walk_at "v") (by walk_at "v"))) (Av (Bt (i:=3) KM.nd rfl rfl rfl (A1 Fk (hr.mono Fo) rfl AG rfl rfl rfl (by walk_at "v"))) (Av (BU rfl (BK T.AJ CH (hr.mono h_Reader_wants) AG rfl rfl rfl (by walk_at "v") (by walk_at "v"))) (by walk_at "v")))))
abbrev VV:List Str:=["reader","depth","inside"]
theorem OL:Ay VV ["reader","depth"] (Ao IE):=by walk_at "s"
abbrev x4:=gC (.str "box")
def VW(K:PySem.W.Frag)(a:Adr)(BV:Spw)(Ba:Spw)(E:Addr->Hw->Prop):GS:=(Ae (Ak 2 (Ai BV (λ_=>E) yg)) (Ae (AN (AR a.Reader "wants" Ba (λ_=>E) ad (Aa (gC (.str "]")) Ac))) (Aj (Ah (Aa x4 kw)))))
theorem oh(T:Tx K mg base a)(Fk:Df P w K mg base "kind_from" CP 2 BV)(Fo:CP<=k)(CH:DfM P w K mg base a.Reader "wants" k_Reader_wants 2 Ba)(h_Reader_wants:k_Reader_wants<=k)(hr:Room k (A.deeper (envOfC "box_from" (Ao IE) s.heap.objs.size f cdv))):Ssm (cxW P w K mg base VV "box_from" (Ao IE) f cdv A outer s H E) (λB=>B=H) (AS IE) (VW K a BV Ba (dnX K H E)):=
 have hu:=AQ hr
 have hN:=OL.nd
 (Av (Bt (i:=2) OL.nd rfl rfl rfl (A1 Fk (hr.mono Fo) rfl AG rfl rfl rfl (by walk_at "v"))) (Av (BU rfl (BK T.AJ CH (hr.mono h_Reader_wants) AG rfl rfl rfl (by walk_at "v") (by walk_at "v"))) (by walk_at "v")))
abbrev VX:List Str:=["reader","depth","fields"]
theorem VY:Ay VX ["reader","depth"] (Ao IF):=by walk_at "s"
abbrev yY:=Aa wP Ac
abbrev yN:=gC (.str ", ")
abbrev wT:=Aa (gC (.bl true)) Ac
def VZ(K:PySem.W.Frag)(a:Adr)(A9:Spw)(KN:Spw)(Ba:Spw)(E:Addr->Hw->Prop):GS:=(Ae (gIf (AH (AR a.Reader "takes" A9 (λ_=>E) ad (Aa (gC (.str "}")) Ac))) (Aj (Ah (Aa r4 (Aa (Ah Ac) yY)))) Au) (Ae (Ak 2 y0) (Ae (E4 (gNt (AH (AR a.Reader "takes" A9 (λ_=>E) ad (Aa (gC (.str "..")) Ac)))) (Ae (AN (gMt B7 Cr r6 (Aa (Ai KN (λ_=>E) (Aa ad x6)) Ac))) (Ae (gIf (AH (AR a.Reader "takes" A9 (λ_=>E) ad (Aa (gC (.str "}")) Ac))) (Aj (Ah (Aa r4 (Aa (gB (rF Cq) kw) yY)))) Au) (AN (AR a.Reader "wants" Ba (λ_=>E) ad (Aa yN Ac)))))) (Ae (AN (AR a.Reader "wants" Ba (λ_=>E) ad (Aa (gC (.str "}")) Ac))) (Aj (Ah (Aa r4 (Aa (gB (rF Cq) kw) wT))))))))
theorem oi(T:Tx K mg base a)(CG:DfM P w K mg base a.Reader "takes" k_Reader_takes 2 A9)(h_Reader_takes:k_Reader_takes<=k)(oj:Df P w K mg base "field_from" KO 2 KN)(ol:KO<=k)(CH:DfM P w K mg base a.Reader "wants" k_Reader_wants 2 Ba)(h_Reader_wants:k_Reader_wants<=k)(hr:Room k (A.deeper (envOfC "row_from" (Ao IF) s.heap.objs.size f cdv))):Ssm (cxW P w K mg base VX "row_from" (Ao IF) f cdv A outer s H E) (λB=>B=H) (AS IF) (VZ K a A9 KN Ba (dnX K H E)):=
 have hu:=AQ hr
 have hN:=VY.nd
 (Av (Bc (Ck (λ_=>rfl) (BK T.AJ CG (hr.mono h_Reader_takes) AG rfl rfl rfl (by walk_at "v") (by walk_at "v"))) (by walk_at "v") Bj) (Av (by walk_at "v") (Av (GW PassesOwn.leaving (FV (Ck (λ_=>rfl) (BK T.AJ CG (hr.mono h_Reader_takes) AG rfl rfl rfl (by walk_at "v") (by walk_at "v")))) (Av (BU rfl (C6 Ia rfl rfl rfl rfl rfl (by walk_at "v") (AO rfl (A1 oj (hr.mono ol) rfl AG rfl rfl rfl (by walk_at "v")) A8))) (Av (Bc (Ck (λ_=>rfl) (BK T.AJ CG (hr.mono h_Reader_takes) AG rfl rfl rfl (by walk_at "v") (by walk_at "v"))) (by walk_at "v") Bj) (AE (BU rfl (BK T.AJ CH (hr.mono h_Reader_wants) AG rfl rfl rfl (by walk_at "v") (by walk_at "v"))))))) (Av (BU rfl (BK T.AJ CH (hr.mono h_Reader_wants) AG rfl rfl rfl (by walk_at "v") (by walk_at "v"))) (by walk_at "v")))))
abbrev V0:List Str:=["reader","depth","name","mark"]
theorem KP:Ay V0 ["reader","depth"] (Ao IG):=by walk_at "s"
abbrev yH:=gC (.str "must")
abbrev yy:=gC (.str ": ")
abbrev yq:=gC (.str "may")
def om(K:PySem.W.Frag)(a:Adr)(Bm:Spw)(A9:Spw)(Ba:Spw)(BV:Spw)(E:Addr->Hw->Prop):GS:=(Ae (Ak 2 (AR a.Reader "word" Bm (λ_=>E) ad Ac)) (Ae (Ak 3 (BY (AH (AR a.Reader "takes" A9 (λ_=>E) ad (Aa (gC (.str "?")) Ac))) yq yH)) (Ae (AN (AR a.Reader "wants" Ba (λ_=>E) ad (Aa yy Ac))) (Aj (Ah (Aa r6 (Aa ya (Aa (Ai BV (λ_=>E) yg) Ac))))))))
theorem oo(T:Tx K mg base a)(DP:DfM P w K mg base a.Reader "word" k_Reader_word 1 Bm)(h_Reader_word:k_Reader_word<=k)(CG:DfM P w K mg base a.Reader "takes" k_Reader_takes 2 A9)(h_Reader_takes:k_Reader_takes<=k)(CH:DfM P w K mg base a.Reader "wants" k_Reader_wants 2 Ba)(h_Reader_wants:k_Reader_wants<=k)(Fk:Df P w K mg base "kind_from" CP 2 BV)(Fo:CP<=k)(hr:Room k (A.deeper (envOfC "field_from" (Ao IG) s.heap.objs.size f cdv))):Ssm (cxW P w K mg base V0 "field_from" (Ao IG) f cdv A outer s H E) (λB=>B=H) (AS IG) (om K a Bm A9 Ba BV (dnX K H E)):=
 have hu:=AQ hr
 have hN:=KP.nd
 (Av (Bt (i:=2) KP.nd rfl rfl rfl (E8 T.AJ DP (hr.mono h_Reader_word) AG rfl (by walk_at "v"))) (Av (Bt (i:=3) KP.nd rfl rfl rfl (MR (Ck (λ_=>rfl) (BK T.AJ CG (hr.mono h_Reader_takes) AG rfl rfl rfl (by walk_at "v") (by walk_at "v"))) FU FU)) (Av (BU rfl (BK T.AJ CH (hr.mono h_Reader_wants) AG rfl rfl rfl (by walk_at "v") (by walk_at "v"))) (AE (A0 (MO (AO rfl (by walk_at "v") (AO rfl (by walk_at "v") (AO rfl (A1 Fk (hr.mono Fo) rfl AG rfl rfl rfl (by walk_at "v")) A8)))))))))
local macro_rules | `(tactic| walk_at "rd") => `(tactic| ((try dsimp only [Ae,gIf,Aj,Ak,AN,Au,Ab,gC,Ad,gTB,AH,gNt,A7,gOr,Cc,Di,BY,Ah,Aq,Aa,Ac,Ai,gB,rF,Af,BA,gMt,C4,FZ,B0,AY,Bi,AI,L3.BS,C5,gSl,A2,Bk,Bg,Bl,DL,Cd,Bz,Ha,CM,DJ,B9,BM,AC,Bf,List.map_cons,List.map_nil,List.length_cons,List.length_nil,List.cons_append,List.nil_append,List.getElem?_cons_zero,List.getElem?_cons_succ,List.set_cons_zero,List.set_cons_succ,List.replicate,B5,tyN,AB,BF,CF,Dl,ixW,Dp,BP,AM,BZ,B6,Cq,DG,List.getElem?_nil]); (try simp only [Ae,gIf,Aj,Ak,AN,Au,Ab,gC,Ad,gTB,AH,gNt,A7,gOr,Cc,Di,BY,Ah,Aq,Aa,Ac,Ai,gB,rF,Af,BA,gMt,C4,FZ,B0,AY,Bi,AI,L3.BS,C5,gSl,A2,Bk,Bg,Bl,DL,Cd,Bz,Ha,CM,DJ,B9,BM,AC,Bf,List.map_cons,List.map_nil,List.length_cons,List.length_nil,List.cons_append,List.nil_append,List.getElem?_cons_zero,List.getElem?_cons_succ,List.set_cons_zero,List.set_cons_succ,List.replicate,B5,tyN,AB,BF,CF,Dl,ixW,Dp,BP,AM,BZ,B6,Cq,DG,List.getElem?_nil])))
def cs(s:Str):List Nat:=s.cps.toList
theorem Cy(x y:Str):cs (x++y)=cs x++cs y:=by unfold cs;rw[Str.cps_append];simp
theorem DQ(s:Str):(cs s).length=s.length:=(Hl s).symm
theorem Eb(h:cs x=cs y):x=y:=Str.ext' (Array.toList_inj.mp h)
def At(T:Str)(i:Nat)(s:List Nat):Prop:=(cs T).drop i=s/\i<=T.length
theorem At.next(h:At T i (x++s)):At T (i+x.length) s:=by
 obtain⟨h1,h2⟩:=h;have e:(cs T).length - i=x.length+s.length:=by rw[<- List.length_drop,h1,Yj]
 rw[DQ]at e;refine⟨by rw[<- List.drop_drop,h1,List.drop_left],by lia⟩
theorem V1(hi:i<=T.length):Ea T i p=decide (((cs T).drop i).take p.length=cs p):=by
 have e:fromIndex T.length (i:Int)=i:=by unfold fromIndex;lia
 unfold Ea Txt.startswith3;rw[e];unfold Builtin.Str.subAt;rw[StrLaws.beq_toList,Array.toList_extract]
 have a:T.cps.toList.extract i (i+p.length)=((cs T).drop i).take p.length:=by
  rw[List.extract_eq_take_drop];rw[show i+p.length - i=p.length by lia];rfl
 rw[a];by_cases h:((cs T).drop i).take p.length=cs p
 ·have hl:i+p.length<=T.length:=by
   have:=Qg List.length h;rw[List.length_take,List.length_drop,DQ,DQ]at this;lia
  rw[YG hl,h];simp[cs]
 ·rw[Qi h];have:(((cs T).drop i).take p.length==p.cps.toList)=false:=by simpa[cs]using h
  rw[this,Bool.and_false]
abbrev Sg:=List Nat
def eat(p:Str)(s:Sg):Option Sg:=if s.take p.length=cs p then some (s.drop p.length)else none
theorem Gg{s:Sg}(h:At T i s)(e:eat p s=some s'):Ea T i p=true/\At T (i+p.length) s':=by
 unfold eat at e;split at e
 ·rename_i z;cases e;refine⟨by rw[V1 h.2,h.1];exact YG z,by rw[<- List.drop_drop,h.1],?_⟩;have b:=Qg List.length z;have a:=Qg List.length h.1;rw[List.length_take,DQ]at b;rw[List.length_drop,DQ]at a;have:=h.2;lia
 ·cases e
theorem KQ{s:Sg}(h:At T i s)(e:eat p s=none):Ea T i p=false:=by
 unfold eat at e;split at e
 ·cases e
 ·rename_i z;rw[V1 h.2,h.1];exact Qi z
def wrd(s:Sg):Str:=⟨(s.takeWhile Dv).toArray⟩
def aft(s:Sg):Sg:=s.dropWhile Dv
abbrev Fd:=Str×Bool×Kd
def CQ(x:Fd):W:=.tup [.str x.1,.str (mark x.2.1),x.2.2.enc]
def ofL:List Fd->Fs
 | []=>.nil
 | x::l=>.cons x.1 x.2.1 x.2.2 (ofL l)
theorem OM:∀ l:List Fd,(ofL l).enc=l.map CQ
 | []=>rfl
 | x::l=>Qg (_::·) (OM l)
def pf(f:Sg->Option (Kd×Sg))(s:Sg):Option (Fd×Sg):=match eat "?" (aft s)with
 | some s2=>(eat ": " s2).bind λs3=>(f s3).map λx=>((wrd s,false,x.1),x.2)
 | none=>(eat ": " (aft s)).bind λs3=>(f s3).map λx=>((wrd s,true,x.1),x.2)
def pr(f:Sg->Option (Kd×Sg)):Nat->Sg->List Fd->Option (Kd×Sg)
 | 0,_,_=>none
 | m+1,s,acc=>match eat ".." s with
  | some s1=>(eat "}" s1).map λs2=>(.row (ofL acc) true,s2)
  | none=>(pf f s).bind λx=>match eat "}" x.2 with
   | some s2=>some (.row (ofL (acc++[x.1])) false,s2)
   | none=>(eat ", " x.2).bind λs2=>pr f m s2 (acc++[x.1])
def pk:Nat->Sg->Option (Kd×Sg)
 | 0,_=>none
 | n+1,s=>match eat "(" s with
  | some s1=>(pk n s1).bind λx=>(eat " > " x.2).bind λs3=>(pk n s3).bind λy=>(eat ")" y.2).map λs5=>(.to x.1 y.1,s5)
  | none=>match eat "[" s with
   | some s1=>(pk n s1).bind λx=>(eat "]" x.2).map λs3=>(.box x.1,s3)
   | none=>match eat "{" s with
    | some s1=>(match eat "}" s1 with
     | some s2=>some (.row .nil false,s2)
     | none=>pr (pk n) (s1.length+1) s1 [])
    | none=>if wrd s="any" then some (.any,aft s)else if wrd s="num" then some (.num,aft s)else if wrd s="truth" then some (.truth,aft s)else none
def RO(a:Adr)(r:Addr)(T:Str)(o:Option (W×Sg))(G:Hw)(Q:Kw)(E:Addr->Hw->Prop):Prop:=match o with
 | some x=>∀ i,At T i x.2->Q x.1 (put G r (rdr a.Reader T i))
 | none=>∀ i,E a.BadNote (put G r (rdr a.Reader T i))
theorem RO.imp(h:∀ w G,Q w G->b w G)(h':∀ c G,E c G->E' c G)(z:RO a r T o G Q E):RO a r T o G b E':=by
 cases o with
 | some x=>exact λi hi=>h _ _ (z i hi)
 | none=>exact λi=>h' _ _ (z i)
def Bs{α:Type}(a:Adr)(e:α->W)(d:Int)(f:Sg->Option (α×Sg)):Spw:=λws G Q E=>∃(r:Addr)(T:Str)(i:Nat)(s:Sg),ws=[.ref r,.int d]/\G r=some (rdr a.Reader T i)/\T.length<=90000/\At T i s/\RO a r T ((f s).map λx=>(e x.1,x.2)) G Q E
theorem Ec{α:Type}{e:α->W}{f:Sg->Option (α×Sg)}:Spw.M (Bs a e d f):=λk G Q g E j h h'⟨r,T,i,s,h1,h2,c,b,q⟩=>⟨r,T,i,s,h1,h2,c,b,q.imp h h'⟩
theorem Ed{α:Type}{e:α->W}{f:Sg->Option (α×Sg)}(b:List W)(G:Hw)(Q:Kw)(E:Addr->Hw->Prop)(h:Bs a e d f b G Q E):b.length=2:=by
 obtain⟨_,_,_,_,rfl,_⟩:=h;rfl
theorem EJ{s:Sg}(f:ω[0]?=some (some (.ref r)))(h:G r=some (rdr a.Reader T i))(c:T.length<=90000)(b:At T i s)(d:p.length<=100)(q1:∀ s',eat p s=some s'->At T (i+p.length) s'->Q (.bl true) (put G r (rdr a.Reader T (i+p.length))))(q2:eat p s=none->Q (.bl false) G):
  AR a.Reader "takes" (Ky a) (λ_=>E) ad (Aa (gC (.str p)) Ac) ω G Q:=by
 simp only[AR,Ab,f];refine⟨r,_,rfl,h,EI (C:=r) (by decide +kernel) (by decide +kernel),r,T,i,p,rfl,h,c,d,λz=>?_,λz=>?_⟩
 ·cases e:eat p s with
  | some s'=>exact q1 s' e (Gg b e).2
  | none=>rw[KQ b e]at z;cases z
 ·cases e:eat p s with
  | some s'=>rw[(Gg b e).1]at z;cases z
  | none=>exact q2 e
theorem EK{s:Sg}(g:ω[0]?=some (some (.ref r)))(h:G r=some (rdr a.Reader T i))(d:T.length<=90000)(b:At T i s)(f:p.length<=100)(c:(reprText p).length<=1000)(q1:∀ s',eat p s=some s'->At T (i+p.length) s'->Q .non (put G r (rdr a.Reader T (i+p.length))))(q2:eat p s=none->E a.BadNote G):
  AR a.Reader "wants" (IR a) (λ_=>E) ad (Aa (gC (.str p)) Ac) ω G Q:=by
 simp only[AR,Ab,g];refine⟨r,_,rfl,h,EI (C:=r) (by decide +kernel) (by decide +kernel),r,T,i,p,rfl,h,d,f,c,λz=>?_,λz=>?_⟩
 ·cases e:eat p s with
  | some s'=>exact q1 s' e (Gg b e).2
  | none=>rw[KQ b e]at z;cases z
 ·cases e:eat p s with
  | some s'=>rw[(Gg b e).1]at z;cases z
  | none=>exact q2 e
theorem Dw{s:Sg}{α:Type}{e:α->W}{f:Sg->Option (α×Sg)}(h:G r=some (rdr a.Reader T i))(c:T.length<=90000)(b:At T i s)(q1:∀ x s',f s=some (x,s')->∀ i,At T i s'->Q (e x) (put G r (rdr a.Reader T i)))(q2:f s=none->∀ i,E a.BadNote (put G r (rdr a.Reader T i))):Bs a e d f [.ref r,.int d] G Q E:=by
 refine⟨r,T,i,s,rfl,h,c,b,?_⟩;cases z:f s with
 | some x=>exact λi hi=>q1 x.1 x.2 z i hi
 | none=>exact q2 z
theorem BW{α:Type}{e:α->W}{o:Option (α×Sg)}{x:α}(q:RO a r T (o.map λx=>(e x.1,x.2)) G Q E)(h:o=some (x,s')):∀ i,At T i s'->Q (e x) (put G r (rdr a.Reader T i)):=by
 subst h;exact q
theorem Bq{α:Type}{e:α->W}{o:Option (α×Sg)}(q:RO a r T (o.map λx=>(e x.1,x.2)) G Q E)(h:o=none):∀ i,E a.BadNote (put G r (rdr a.Reader T i)):=by
 subst h;exact q
theorem V2{An:GS}(h:ge ω G λw G1=>An D (ω.set i (some w)) G1):Ae (Ak i ge) An D ω G:=h
abbrev Hn(f:Sg->Option (Kd×Sg))(s:Sg):Option (Kd×Sg):=(f s).bind λx=>(eat "]" x.2).map λs3=>(.box x.1,s3)
abbrev pto(f:Sg->Option (Kd×Sg))(s:Sg):Option (Kd×Sg):=(f s).bind λx=>(eat " > " x.2).bind λs3=>(f s3).bind λy=>(eat ")" y.2).map λs5=>(.to x.1 y.1,s5)
theorem KI(T:Tx K mg base a)(l:3<=j)(D:Df P w K mg base "kind_from" j 2 (Bs a Kd.enc (d+1) f)):Df P w K mg base "box_from" (j+1) 2 (Bs a Kd.enc d (Hn f)):=by
 refine mkX T.T5 rfl OL Ec Ed (oh T D (Yr _) (Gf T) l) λp G Q E o n q=>?_;obtain⟨r,T,i,s,rfl,h,g,k,q⟩:=q;unfold VW;walk_at "rd";refine Dw h g k (λx e b i1 h1=>?_) (λb i1=>Bq q (by unfold Hn;rw[b];rfl) _);refine EK rfl Ap g h1 (by decide) (by decide +kernel) (λm c h2=>?_) (λc=>Bq q (by unfold Hn;rw[b];show(eat "]" e).map _=_;rw[c];rfl) _);rw[AV];exact⟨(by decide),BW q (x:=Kd.box x) (by unfold Hn;rw[b];show(eat "]" e).map _=_;rw[c];rfl) _ h2⟩
theorem KH(T:Tx K mg base a)(u:3<=j)(D:Df P w K mg base "kind_from" j 2 (Bs a Kd.enc (d+1) f)):Df P w K mg base "function_from" (j+1) 2 (Bs a Kd.enc d (pto f)):=by
 refine mkX T.T4 rfl KM Ec Ed (og T D (Yr _) (Gf T) u) λB G Q E z v q=>?_;obtain⟨r,T,i,s,rfl,h,k,p,q⟩:=q;unfold VU;walk_at "rd";refine Dw h k p (λx e b i1 h1=>?_) (λb i1=>Bq q (by unfold pto;rw[b];rfl) _);refine EK rfl Ap k h1 (by decide) (by decide +kernel) (λm c h2=>?_) (λc=>Bq q (by unfold pto;rw[b];show(eat " > " e).bind _=_;rw[c];rfl) _);rw[AV];refine Dw Ap k h2 (λy n g i3 t=>?_) (λg i3=>?_)
 ·rw[AV];refine EK rfl Ap k t (by decide) (by decide +kernel) (λA l o=>?_) (λl=>Bq q (by unfold pto;rw[b];show(eat " > " e).bind _=_;rw[c];show(f m).bind _=_;rw[g];show(eat ")" n).map _=_;rw[l];rfl) _);rw[AV];exact⟨(by decide),BW q (x:=Kd.to x y) (by unfold pto;rw[b];show(eat " > " e).bind _=_;rw[c];show(f m).bind _=_;rw[g];show(eat ")" n).map _=_;rw[l];rfl) _ o⟩
 ·rw[AV];exact Bq q (by unfold pto;rw[b];show(eat " > " e).bind _=_;rw[c];show(f m).bind _=_;rw[g];rfl) _
theorem oq{s:Sg}(h:At T i s):(⟨(run T i).toArray⟩:Str)=wrd s/\At T (i+(run T i).length) (aft s):=by
 have e:run T i=s.takeWhile Dv:=by rw[<- h.1];rfl
 refine⟨by rw[e];rfl,?_⟩;rw[e];have h':At T i (s.takeWhile Dv++s.dropWhile Dv):=by rw[List.takeWhile_append_dropWhile];exact h
 exact h'.next
theorem Ho{s:Sg}(f:ω[0]?=some (some (.ref r)))(h:G r=some (rdr a.Reader T i))(e:T.length<=90000)(b:At T i s)(q:∀ i,At T i (aft s)->Q (.str (wrd s)) (put G r (rdr a.Reader T i))):AR a.Reader "word" (Kz a) (λ_=>E) ad Ac ω G Q:=by
 simp only[AR,Ab,f];obtain⟨d,c⟩:=oq b;refine⟨r,_,rfl,h,EI (C:=r) (by decide +kernel) (by decide +kernel),r,T,i,rfl,h,e,b.2,?_⟩;rw[d];exact q _ c
theorem KO(T:Tx K mg base a)(u:3<=j)(D:Df P w K mg base "kind_from" j 2 (Bs a Kd.enc (d+1) f)):Df P w K mg base "field_from" (j+1) 2 (Bs a CQ d (pf f)):=by
 refine mkX T.ma rfl KP Ec Ed (oo T (Fj T) (by lia) (Ge T) (by lia) (Gf T) u D (Yr _)) λB G Q E z v q=>?_;obtain⟨r,T,i,s,rfl,h,g,p,q⟩:=q
 have key:∀(m:Bool)(i2:Nat)(c:Sg),At T i2 c->(pf f s=(eat ": " c).bind λb=>(f b).map λx=>((wrd s,m,x.1),x.2))->Ae (AN (AR a.Reader "wants" (IR a) (λ_=>E) ad (Aa yy Ac))) (Aj (Ah (Aa r6 (Aa ya (Aa (Ai (Bs a Kd.enc (d+1) f) (λ_=>E) yg) Ac))))) (AC Q) [some (.ref r),some (.int d),some (.str (wrd s)),some (.str (mark m))] (put G r (rdr a.Reader T i2)):=by
  intro m i2 c h2 n;simp only[Ae];refine EK rfl Ap g h2 (by decide) (by decide +kernel) (λb e t=>?_) (λe=>Bq q (by rw[n,e];rfl) _);rw[AV];refine Dw Ap g t (λy A l i4 o=>?_) (λl i4=>?_)
  ·rw[AV];exact⟨(Qzz 3),BW q (x:=(wrd s,m,y)) (by rw[n,e];show(f b).map _=_;rw[l];rfl) _ o⟩
  ·rw[AV];exact Bq q (by rw[n,e];show(f b).map _=_;rw[l];rfl) _
 refine V2 (Ho rfl h g p λi1 h1=>?_);refine V2 ?_;simp only[BY];refine EJ rfl Ap g h1 (by decide) (λc k h2=>?_) (λk=>?_)
 ·rw[AV];exact key false _ _ h2 (by unfold pf;rw[k])
 ·exact key true _ _ h1 (by unfold pf;rw[k])
theorem Hq(h:G p=some (.lst xs)):Cq [.ref p] G=some (.tup xs):=by
 show(E3 G (.ref p)).map W.tup=_;rw[NA h];rfl
theorem Gh(a:G p=some (.lst xs))(hl:xs.length < sizeLine)(q:Q .non (put G p (.lst (xs++[y])))):Cr (.ref p) [y] G Q:=by
 refine M2 a ?_ q;rw[if_pos hl]
theorem Cf(e:eat p s=some s'):s'.length+p.length=s.length:=by
 unfold eat at e;split at e
 ·rename_i z;cases e;have a:=Qg List.length z;rw[List.length_take,DQ]at a;rw[List.length_drop];lia
 ·cases e
theorem Gi(s:Sg):(aft s).length<=s.length:=(List.dropWhile_sublist _).length_le
def Shr(f:Sg->Option (Kd×Sg)):Prop:=∀ s x s',f s=some (x,s')->s'.length<=s.length
theorem V3(g:Shr f)(e:pf f s=some (x,s')):s'.length+2<=s.length:=by
 have h2:∀{m:Bool}{t:Sg},t.length<=s.length->((eat ": " t).bind λa=>(f a).map λx=>((wrd s,m,x.1),x.2))=some (x,s')->s'.length+2<=s.length:=λ{m t}l e=>by
  obtain⟨a,d,c⟩:=Qa.mp e;obtain⟨y,i,h⟩:=YO.mp c;cases h;have:=g _ _ _ i;have k:a.length+2=t.length:=Cf d;lia
 have h1:=Gi s;unfold pf at e;split at e
 ·rename_i j b;exact h2 (by have:=Cf b;lia) e
 ·exact h2 h1 e
theorem EL(h:p≠r):put (put G p x) r y=put (put G r y) p x:=by
 funext b;by_cases h1:b=p
 ·subst h1;rw[AX h,Ap,Ap]
 ·by_cases h2:b=r
  ·subst h2;rw[Ap,AX h1,Ap]
  ·rw[AX h2,AX h1,AX h1,AX h2]
abbrev IS(f:Sg->Option (Kd×Sg))(s:Sg):Option (Kd×Sg):=match eat "}" s with
 | some s2=>some (.row .nil false,s2)
 | none=>pr f (s.length+1) s []
theorem KJ(T:Tx K mg base a)(Y:3<=j)(hf:Shr f)(D:Df P w K mg base "field_from" j 2 (Bs a CQ d (pf f))):Df P w K mg base "row_from" (j+1) 2 (Bs a Kd.enc d (IS f)):=by
 refine mkX T.T6 rfl VY Ec Ed (oi T (Ge T) (by lia) D (Yr _) (Gf T) Y) λws G Q E R H q=>?_;obtain⟨r,T,i,s,rfl,h,y,F,q⟩:=q;unfold VZ;simp only[Ae,gIf];refine EJ rfl h y F (by decide) (λt g h2=>?_) (λg=>?_)
 ·exact⟨(by decide),(by decide),BW q (x:=Kd.row .nil false) (by unfold IS;rw[g]) _ h2⟩
 have X:RO a r T ((pr f (s.length+1) s []).map λx=>(x.1.enc,x.2)) G Q E:=by
  have z:=q;unfold IS at z;rw[g]at z;exact z
 refine⟨by decide,λp J=>?_⟩;have l:p≠r:=λe=>by rw[e,h]at J;cases J
 refine⟨λm ω S=>∃(b:List Fd)(s':Sg)(B:Nat),ω=[some (.ref r),some (.int d),some (.ref p)]/\S=put (put G p (.lst (b.map CQ))) r (rdr a.Reader T B)/\At T B s'/\s'.length < m/\b.length+s'.length<=90000/\RO a r T ((pr f m s' b).map λx=>(x.1.enc,x.2)) G Q E,
  ⟨s.length+1,[],s,i,rfl,?_,F,Nat.lt_succ_self _,?_,X⟩,?_⟩
 ·rw[Hm (G:=put G p (.lst ([].map CQ))) (by rw[AX (YU l)];exact h)];rfl
 ·have:=Qg List.length F.1;rw[List.length_drop,DQ]at this;simp only[Yi];lia
 rintro m ω S ⟨b,s',B,rfl,rfl,A,hm,hl,q⟩;obtain⟨m,rfl⟩:∃ k,m=k+1:=⟨m - 1,by lia⟩
 have c:∀(L:List W)(i:Nat),Sub (put G r (rdr a.Reader T i)) (put (put G p (.lst L)) r (rdr a.Reader T i)):=λL i=>by
  rw[EL l];exact Az (by rw[AX l];exact J)
 have n:∀(L:List W)(i:Nat),put (put G p (.lst L)) r (rdr a.Reader T i) p=some (.lst L):=λL i=>by rw[AX l,Ap]
 simp only[gNt];refine EJ rfl Ap y A (by decide) (λU v h1=>?_) (λv=>?_)
 ·rw[AV];simp only[B5,Bool.not_true,Yq,if_false,Ae];refine EK rfl Ap y h1 (by decide) (by decide +kernel) (λt g h2=>?_) (λg=>H _ _ _ (c _ _) (Bq q (by unfold pr;rw[v];show(eat "}" U).map _=_;rw[g];rfl) _));rw[AV];simp only[Aj,Ah,Aa,Ac,gB,rF,Ab,gC,Yb,Yc];rw[show Cq [.ref p] (put (put G p (.lst (b.map CQ))) r (rdr a.Reader T (B+("..":Str).length+("}":Str).length)))=some (.tup (b.map CQ))from Hq (n _ _),AB];refine⟨(Qzz 3),R _ _ _ (c _ _) ?_⟩;have z:=BW q (by unfold pr;rw[v];show(eat "}" U).map _=_;rw[g];rfl) _ h2;rw[show(Kd.row (ofL b) true).enc=.tup [.str "row",.tup (b.map CQ),.bl true] by show W.tup [_,.tup (ofL b).enc,_]=_;rw[OM]]at z;exact z
 ·simp only[Ae,AN,gMt,Aa,Ac];refine⟨Fh (n _ _),Dw Ap y A (λx t g i2 h2=>?_) (λg i2=>?_)⟩;rotate_left
  ·rw[AV];exact H _ _ _ (c _ _) (Bq q (by unfold pr;rw[v];rw[g];rfl) _)
  have hl2:=V3 hf g;rw[AV];refine Gh (n _ _) (by rw[Yh];exact DN (by lia)) ?_;rw[EL (YU l),AV];simp only[gIf];refine EJ rfl Ap y h2 (by decide) (λs3 I h3=>?_) (λI=>?_)
  ·rw[AV];simp only[Aj,Ah,Aa,Ac,gB,rF,Ab,gC,Yb,Yc];rw[show Cq [.ref p] (put (put G p (.lst (b.map CQ++[CQ x]))) r (rdr a.Reader T (i2+("}":Str).length)))=some (.tup (b.map CQ++[CQ x]))from Hq (n _ _),AB];refine⟨(Qzz 3),R _ _ _ (c _ _) ?_⟩;have z:=BW q (by unfold pr;rw[v];rw[g];show(match eat "}" t with | some t=>_ | none=>_)=_;rw[I]) _ h3;rw[show(Kd.row (ofL (b++[x])) false).enc=.tup [.str "row",.tup (b.map CQ++[CQ x]),.bl false] by show W.tup [_,.tup (ofL (b++[x])).enc,_]=_;rw[OM,Yy];rfl]at z;exact z
  ·simp only[B5,Yq,if_false,Au]
   have O:∀ o,eat ", " t=o->pr f (m+1) s' b=o.bind λN=>pr f m N (b++[x]):=λo u=>by
    conv=>lhs;unfold pr
    rw[v];rw[g];show(match eat "}" t with | some t=>_ | none=>_)=_;rw[I,<- u]
   refine EK rfl Ap y h2 (by decide) (by decide +kernel) (λN u Z=>?_) (λu=>H _ _ _ (c _ _) (Bq q (by rw[O _ u];rfl) _));rw[AV];have l4:=Cf u;rw[O _ u]at q;exact⟨m,by lia,b++[x],N,_,rfl,by rw[Yy];rfl,Z,by lia,by rw[Yj];simp only[Yg,Yi];lia,q⟩
theorem V4(g:Shr f):∀(m:Nat)(s:Sg)(b:List Fd)(x:Kd)(s':Sg),pr f m s b=some (x,s')->s'.length<=s.length
 | 0,_,_,_,_,e=>by cases e
 | m+1,s,b,x,s',e=>by
  unfold pr at e;split at e
  ·rename_i k i;obtain⟨h,c,a⟩:=YO.mp e;cases a;have:=Cf i;have:=Cf c;lia
  ·obtain⟨y,c,a⟩:=Qa.mp e;have h2:=V3 g c;split at a
   ·rename_i h d;cases a;have:=Cf d;lia
   ·obtain⟨l,d,j⟩:=Qa.mp a;have:=V4 g m _ _ _ _ j;have:=Cf d;lia
theorem ON:∀ n:Nat,Shr (pk n)
 | 0=>λs x s' e=>by cases e
 | n+1=>λs x s' e=>by
  have c:=ON n;unfold pk at e;split at e
  ·rename_i h b;obtain⟨y,a,d⟩:=Qa.mp e;obtain⟨o,i,m⟩:=Qa.mp d;obtain⟨z,k,j⟩:=Qa.mp m;obtain⟨l,f,g⟩:=YO.mp j;cases g;have:=Cf b;have:=c _ y.1 y.2 a;have:=Cf i;have:=c _ z.1 z.2 k;have:=Cf f;lia
  ·split at e
   ·rename_i h b;obtain⟨y,a,d⟩:=Qa.mp e;obtain⟨l,f,g⟩:=YO.mp d;cases g;have:=Cf b;have:=c _ y.1 y.2 a;have:=Cf f;lia
   ·split at e
    ·rename_i h b;have:=Cf b;split at e
     ·rename_i p a;cases e;have:=Cf a;lia
     ·have:=V4 c _ _ _ _ _ e;lia
    ·have:=Gi s;split at e
     ·cases e;lia
     ·split at e
      ·cases e;lia
      ·split at e
       ·cases e;lia
       ·cases e
theorem ot{w:Str}:inF true (.str w) (.tup [.str "any",.str "num",.str "truth"]) G=some (.bl (!decide (w="any"\/w="num"\/w="truth"))):=by
 show some (W.bl (!(decide (("any":Str)=w)||(decide (("num":Str)=w)||(decide (("truth":Str)=w)||false)))))=_;congr 3;rw[Bool.eq_iff_iff];simp only[Bool.or_false,Bool.or_eq_true,YN];exact⟨λh=>h.imp Eq.symm (Or.imp Eq.symm Eq.symm),λh=>h.imp Eq.symm (Or.imp Eq.symm Eq.symm)⟩
theorem ou{s:Sg}(hd:d<=8)(u:Xc E)(h:G r=some (rdr a.Reader T i))(f:T.length<=90000)(k:At T i s)(q:RO a r T ((pk (n+1) s).map λx=>(x.1.enc,x.2)) G Q E)(q1:t=Bs a Kd.enc d (pto (pk n)))(q2:p=Bs a Kd.enc d (Hn (pk n)))(q3:o=Bs a Kd.enc d (IS (pk n))):OK K a (Ky a) t p o (Kz a) E (AC Q) [some (.ref r),some (.int d),none] G:=by
 subst q1 q2 q3;unfold OK;simp only[Ae,gIf,gTB,Ad,Bi,Ab,gC,Yb,Yc];rw[if_neg (by simp only[YN];lia)];simp only[Au,Ae,gIf,AH];refine EJ rfl h f k (by decide) (λg j h1=>?_) (λj=>?_)
 ·have c:pk (n+1) s=pto (pk n) g:=by
   conv=>unfold pk
   rw[j]
  refine Dw Ap f h1 (λx m b i2 h2=>?_) (λb i2=>?_)
  ·rw[AV];exact BW q (by rw[c];exact b) _ h2
  ·rw[AV];exact Bq q (by rw[c];exact b) _
 refine EJ rfl h f k (by decide) (λg b h1=>?_) (λb=>?_)
 ·have c:pk (n+1) s=Hn (pk n) g:=by
   conv=>unfold pk
   rw[j,b]
  refine Dw Ap f h1 (λx m b i2 h2=>?_) (λb i2=>?_)
  ·rw[AV];exact BW q (by rw[c];exact b) _ h2
  ·rw[AV];exact Bq q (by rw[c];exact b) _
 refine EJ rfl h f k (by decide) (λg l h1=>?_) (λl=>?_)
 ·have c:pk (n+1) s=IS (pk n) g:=by
   conv=>unfold pk
   rw[j,b,l]
  refine Dw Ap f h1 (λx m b i2 h2=>?_) (λb i2=>?_)
  ·rw[AV];exact BW q (by rw[c];exact b) _ h2
  ·rw[AV];exact Bq q (by rw[c];exact b) _
 simp only[B5,Yq,if_false]
 have c:pk (n+1) s=if wrd s="any" then some (.any,aft s)else if wrd s="num" then some (.num,aft s)else if wrd s="truth" then some (.truth,aft s)else none:=by
  conv=>unfold pk
  rw[j,b,l]
 refine Ho rfl h f k λi1 h1=>?_;simp only[Ae,gIf,gTB,Ad,Af,Ah];refine⟨by decide,?_⟩;rw[ot];by_cases hw:wrd s="any"\/wrd s="num"\/wrd s="truth"
 ·rw[YG hw];refine⟨(Qzz 1),?_⟩;rcases hw with e | e | e
  ·rw[e];exact BW q (by rw[c,if_pos e]) _ h1
  ·rw[e];exact BW q (by rw[c,e];rfl) _ h1
  ·rw[e];exact BW q (by rw[c,e];rfl) _ h1
 ·rw[Qi hw];refine⟨by decide,Bq q ?_ _⟩;rw[c,if_neg (λz=>hw (.inl z)),if_neg (λz=>hw (.inr (.inl z))),if_neg (λz=>hw (.inr (.inr z)))]
theorem DS{st:Stmt}(Fx:Fn K mg st x ps)(m:sp.M)(no:∀ a G Q E,¬ sp a G Q E):Df P w K mg base x k ps.length sp:=by
 obtain⟨f,fd,h1,F,c⟩:=Fx;exact⟨⟨f,fd,_,h1,F.kp,c,rfl,⟨(by rintro vs H Q E ⟨a,G,t,r,q⟩;exact Qj q (no _ _ _ _)),(by rintro A outer s H b d vs Q E _ _ _ _ ⟨a,G,t,r,q⟩;exact Qj q (no _ _ _ _))⟩⟩,m⟩
def ow:Spw:=λ_ _ _ _=>False
theorem IT:Spw.M ow:=λ_ _ _ _ _ _ _ _ z=>z
theorem CP(T:Tx K mg base a):∀ n:Nat,Df P w K mg base "kind_from" (3*n+4) 2 (Bs a Kd.enc (9 -(n:Int)) (pk n))
 | 0=>by
  refine mkX T.T3 rfl KA Ec Ed (VS T (Ge T) (by lia) (DS T.T4 IT λ_ _ _ _ h=>h) (YT _) (DS T.T5 IT λ_ _ _ _ h=>h) (YT _) (DS T.T6 IT λ_ _ _ _ h=>h) (YT _) (Fj T) (by lia)) λf G Q E e c q=>?_;obtain⟨r,T,i,s,rfl,h,d,b,q⟩:=q;have z:=Bq q rfl i;rw[Hm h]at z;exact⟨by decide,z⟩
 | n+1=>by
  have D:Df P w K mg base "kind_from" (3*n+4) 2 (Bs a Kd.enc (9 -((n+1:Nat):Int)+1) (pk n)):=by
   rw[show(9 -((n+1:Nat):Int)+1)=9 -(n:Int) by lia];exact CP T n
  have DF:=KO T (by lia) D;have DR:=KJ T (by lia) (ON n) DF;refine mkX T.T3 rfl KA Ec Ed (VS T (Ge T) (by lia) (KH T (by lia) D) (by lia) (KI T (by lia) D) (by lia) DR (by lia) (Fj T) (by lia)) λf G Q E e c q=>?_;obtain⟨r,T,i,s,rfl,h,d,b,q⟩:=q;exact ou (by lia) c h d b q rfl rfl rfl
abbrev V5:List Str:=["word"]
theorem V6:Ay V5 ["word"] (Ao NR):=by walk_at "s"
def oy:GS:=(Aj (Ti AF ad))
theorem oz(T:Tx K mg base a):Dn P w K mg base V5 "form_of" NR k (oy):=λ{f cdv A outer s H E}hr=>
 have hu:=AQ hr
 have hN:=V6.nd
 (AE (A0 (kN T.Uy rfl rfl rfl rfl rfl rfl rfl (by walk_at "v"))))
abbrev OO:List Str:=["term"]
theorem V7:Ay OO ["term"] (Ao NS):=by walk_at "s"
abbrev yf:=gC (.str "rec")
def V8(CS:Spw):GS:=(Ae (gIf (gTB (Ad (Af (eqF false)) eq yf)) (Aj (Bg (Bl xz) 1 (gNm 0) Bh xz)) Au) (Aj (Bg (Ii (Aa (Ai CS XF (Aa eq Ac)) (Aa (Bv ad (A2 dl) Bk) Ac))) 2 (Bb 0 1) (gTB (Ad (Af (eqF false)) ad (gC (.str "term")))) na)))
theorem oA(T:Tx K mg base a)(OP:Df P w K mg base "form_of" C9 1 CS)(OQ:C9<=k):Dn P w K mg base OO "parts_of" NS k (V8 CS):=λ{f cdv A outer s H E}hr=>
 have hu:=AQ hr
 have hN:=V7.nd
 (Av (Bc (by walk_at "v") (AE (A0 (Cs (Nc:=["field"]) rfl (Ci rfl (by decide +kernel) (by decide +kernel)) (λ_=>rfl) (by walk_at "v") (C3 (i:=0) (by decide) rfl rfl) (λC fp s1 H1=>B1) (λC fp s1 H1=>(by walk_at "v"))))) Bj) (AE (A0 (Cs (Nc:=["sort","thing"]) rfl (Ci rfl (by decide +kernel) (by decide +kernel)) (λ_=>rfl) (SZ T.Oo rfl rfl rfl (by walk_at "v")) (ML (i:=0) (j:=1) rfl (by decide) rfl rfl rfl rfl) (λC fp s1 H1=>(by walk_at "v")) (λC fp s1 H1=>(by walk_at "v"))))))
abbrev V9:List Str:=["thing"]
theorem Wa:Ay V9 ["thing"] (Ao NT):=by walk_at "s"
def Wb:GS:=(Ae (gIf (gOr (gNt (AH (BA "int" ad))) (AH (BA "bool" ad))) yK Au) (Aj (B0 (AY (λi j=>decide (i<=j)) (λa b=>!AT b a)) (AY (λi j=>decide (i<=j)) (λa b=>!AT b a)) (D7 (gC (.int 99999999999999999999))) ad (gC (.int 99999999999999999999)))))
theorem oB(T:Tx K mg base a):Dn P w K mg base V9 "is_number" NT k (Wb):=λ{f cdv A outer s H E}hr=>
 have hu:=AQ hr
 have hN:=Wa.nd
 (Av (by walk_at "v") (AE (A0 (RQ HY HY rfl (Nv (by walk_at "v")) (by walk_at "v") (by walk_at "v")))))
abbrev Wc:List Str:=["thing"]
theorem Wd:Ay Wc ["thing"] (Ao NU):=by walk_at "s"
def oD(CO:Spw):GS:=(Aj (Cc (BA "tuple" ad) (Cc (Ad (Af (eqF false)) yC (gC (.int 2))) (Ai CO XF (Aa eq Ac)))))
theorem oE(T:Tx K mg base a){Ds:Nat}(U6:Df P w K mg base "is_name" Ds 1 CO)(U7:Ds<=k):Dn P w K mg base Wc "is_term_field" NU k (oD CO):=by
 have hN:=Wd.nd;walk_at "z"
abbrev We:List Str:=["thing"]
theorem Wf:Ay We ["thing"] (Ao NV):=by walk_at "s"
def OR(KR:Spw)(EF:Spw):GS:=(Ae (gIf yA yK Au) (Aj (Cc (gB (rF B6) (Aa (Bg (Bl ad) 1 (gNm 0) Bh (Ai KR XF wS)) Ac)) (Ai EF XF (Aa (Bg (Bl ad) 1 (gNm 0) Bh eq) Ac)))))
theorem oF(T:Tx K mg base a)(xr:Df P w K mg base "is_term_field" KS 1 KR)(xt:KS<=k){Ff:Nat}(Ot:Df P w K mg base "names_rise" Ff 1 EF)(Ou:Ff<=k):Dn P w K mg base We "are_term_fields" NV k (OR KR EF):=λ{f cdv A outer s H E}hr=>
 have hu:=AQ hr
 have hN:=Wf.nd
 (Av (by walk_at "v") (AE (A0 (MQ (Cp F2 (F0 rfl) rfl T.Gd (by decide) rfl rfl rfl (AO rfl (Cs (Nc:=["part"]) rfl (Ci rfl (by decide +kernel) (by decide +kernel)) (λ_=>rfl) (by walk_at "v") (C3 (i:=0) (by decide) rfl rfl) (λC fp s1 H1=>B1) (λC fp s1 H1=>(by walk_at "v"))) A8)) (MP (A1 Ot (hr.mono Ou) rfl Dk rfl rfl rfl (AO rfl (Cs (Nc:=["part"]) rfl (Ci rfl (by decide +kernel) (by decide +kernel)) (λ_=>rfl) (by walk_at "v") (C3 (i:=0) (by decide) rfl rfl) (λC fp s1 H1=>B1) (λC fp s1 H1=>(by walk_at "v"))) A8)))))))
abbrev Wg:List Str:=["thing","sort"]
theorem Wh:Ay Wg ["thing","sort"] (Ao NW):=by walk_at "s"
abbrev x2:=gC (.str "truth")
abbrev yS:=gTB (Ad (Af (eqF false)) na x2)
abbrev yh:=gC (.str "name")
def oG(KU:Spw)(CO:Spw)(KW:Spw)(KY:Spw):GS:=(Ae (gIf (gTB (Ad (Af (eqF false)) na (gC (.str "number")))) (Aj (Ai KU XF wS)) Au) (Ae (gIf yS (Aj (BA "bool" ad)) Au) (Ae (gIf (gTB (Ad (Af (eqF false)) na yh)) (Aj (Ai CO XF wS)) Au) (Ae (gIf (gTB (Ad (Af (eqF false)) na (gC (.str "kind")))) (Aj (Ai KW XF wS)) Au) (Ae (gIf (gTB (Ad (Af (eqF false)) na (gC (.str "fields")))) (Aj (Ai KY XF wS)) Au) (Aj (gC (.bl true))))))))
theorem oH(T:Tx K mg base a)(xu:Df P w K mg base "is_number" K0 1 KU)(xv:K0<=k){Ds:Nat}(U6:Df P w K mg base "is_name" Ds 1 CO)(U7:Ds<=k){Kx:Nat}(xw:Df P w K mg base "is_kind" Kx 1 KW)(xx:Kx<=k)(xy:Df P w K mg base "are_term_fields" K1 1 KY)(xA:K1<=k):Dn P w K mg base Wg "is_of_sort" NW k (oG KU CO KW KY):=by
 have hN:=Wh.nd;walk_at "z"
abbrev Wi:List Str:=["thing","form"]
theorem Wj:Ay Wi ["thing"] (Ao NX):=by walk_at "s"
def oI(CS:Spw)(K2:Spw):GS:=(Ae (gIf (gOr yA (gOr (gTB (Ad (Af (eqF false)) yC u8)) (gNt (AH (BA "str" eq))))) yK Au) (Ae (Ak 1 (Ai CS XF (Aa eq Ac))) (Ae (gIf (gOr (gTB (Ad (Af (isF false)) na (gC .non))) (gTB (Ad (Af (eqF true)) yC (Ad (Aw) dl y6)))) yK Au) (Aj (gB (rF B6) (Aa (Bg (Ii (Aa (Bv ad (A2 dl) Bk) x6)) 2 (Bb 0 1) Bh (Ai K2 XF (Aa ad x6))) Ac))))))
theorem oJ(T:Tx K mg base a)(OP:Df P w K mg base "form_of" C9 1 CS)(OQ:C9<=k)(xB:Df P w K mg base "is_of_sort" K3 2 K2)(xC:K3<=k):Dn P w K mg base Wi "has_term_form" NX k (oI CS K2):=λ{f cdv A outer s H E}hr=>
 have hu:=AQ hr
 have hN:=Wj.nd
 (Av (by walk_at "v") (Av (by walk_at "v") (Av (by walk_at "v") (AE (A0 (Cp F2 (F0 rfl) rfl T.Gd (by decide) rfl rfl rfl (AO rfl (Cs (Nc:=["part","sort"]) rfl (Ci rfl (by decide +kernel) (by decide +kernel)) (λ_=>rfl) (SZ T.Oo rfl rfl rfl (by walk_at "v")) (ML (i:=0) (j:=1) rfl (by decide) rfl rfl rfl rfl) (λC fp s1 H1=>B1) (λC fp s1 H1=>(by walk_at "v"))) A8)))))))
abbrev Wk:List Str:=["thing"]
theorem Wl:Ay Wk ["thing"] (Ao NY):=by walk_at "s"
abbrev yj:=gC (.int 10)
def oK(mg:Str->Option Value)(OS:Spw)(Fp:Spw)(EG:Spw):GS:=(Aj (Ai EG XF (Aa ad (Aa (gC (.ref (fAt mg "has_term_form"))) (Aa (gC (.ref (fAt mg "parts_of"))) (Aa (gC (.int 40)) (Aa yj Ac)))))))
theorem oM(T:Tx K mg base a)(oN:Df P w K mg base "has_term_form" IU 1 OS)(xD:IU<=k)(Wn:Df P w K mg base "parts_of" EM 1 Fp)(oO:EM<=k){Fg:Nat}(Ox:Df P w K mg base "is_made_of" Fg 5 EG)(Oy:Fg<=k):Dn P w K mg base Wk "is_term" NY k (oK mg OS Fp EG):=λ{f cdv A outer s H E}hr=>
 have hu:=AQ hr
 have hN:=Wl.nd
 (AE (A0 (A1 Ox (hr.mono Oy) rfl Dk rfl rfl rfl (AO rfl (by walk_at "v") (AO rfl (J5 oN rfl rfl) (AO rfl (J5 Wn rfl rfl) (by walk_at "v")))))))
abbrev Wo:List Str:=["thing"]
theorem Wp:Ay Wo ["thing"] (Ao Iq):=by walk_at "s"
def oP(K:PySem.W.Frag)(a:Adr)(EN:Spw)(E:Addr->Hw->Prop):GS:=(gIf (gNt (AH (Ai EN (λ_=>E) wS))) (CC a.NoTerm E (Aa (gC (.str "this is no term")) Ac)) Au)
theorem oQ(T:Tx K mg base a)(OU:Df P w K mg base "is_term" Fq 1 EN)(OV:Fq<=k)(hr:Room k (A.deeper (envOfC "check_term" (Ao Iq) s.heap.objs.size f cdv))):Ssm (cxW P w K mg base Wo "check_term" (Ao Iq) f cdv A outer s H E) (λB=>B=H) (AS Iq) (oP K a EN (dnX K H E)):=
 have hu:=AQ hr
 have hN:=Wp.nd
 (AE (Bc (FV (Ck (λ_=>rfl) (A1 OU (hr.mono OV) rfl AG rfl rfl rfl (by walk_at "v")))) (AE (DH T.Oq T.Uk PySem.F.excBase_ValueError rfl rfl rfl rfl (by walk_at "v"))) Bj))
abbrev Wq:List Str:=["term"]
theorem Wr:Ay Wq ["term"] (Ao NZ):=by walk_at "s"
def oR(Fp:Spw)(EO:Spw):GS:=(Aj (Ad (Aw) dl (gB (D4) (Aa (Bg (Bl (Ai Fp XF wS)) 1 (gNm 0) Bh (Ai EO XF wS)) Ac))))
theorem oS(T:Tx K mg base a)(Wn:Df P w K mg base "parts_of" EM 1 Fp)(oO:EM<=k)(Ws:Df P w K mg base "count_of" Ft 1 EO)(Wt:Ft<=k):Dn P w K mg base Wq "count_of" NZ k (oR Fp EO):=λ{f cdv A outer s H E}hr=>
 have hu:=AQ hr
 have hN:=Wr.nd
 (AE (A0 (EB Eu (Cp M5 (M0 rfl) rfl T.Ol (by decide) rfl rfl rfl (AO rfl (Cs (Nc:=["part"]) rfl (Ci rfl (by decide +kernel) (by decide +kernel)) (λ_=>rfl) (by walk_at "v") (C3 (i:=0) (by decide) rfl rfl) (λC fp s1 H1=>B1) (λC fp s1 H1=>(by walk_at "v"))) A8)))))
abbrev Wu:List Str:=["term"]
theorem Wv:Ay Wu ["term"] (Ao Ir):=by walk_at "s"
def oU(EQ:Spw)(EO:Spw)(E:Addr->Hw->Prop):GS:=(Ae (AN (Ai EQ (λ_=>E) wS)) (Aj (Ai EO (λ_=>E) wS)))
theorem oV(T:Tx K mg base a)(OW:Df P w K mg base "check_term" Fu 1 EQ)(OX:Fu<=k)(Ws:Df P w K mg base "count_of" Ft 1 EO)(Wt:Ft<=k)(hr:Room k (A.deeper (envOfC "terms_in" (Ao Ir) s.heap.objs.size f cdv))):Ssm (cxW P w K mg base Wu "terms_in" (Ao Ir) f cdv A outer s H E) (λB=>B=H) (AS Ir) (oU EQ EO (dnX K H E)):=
 have hu:=AQ hr
 have hN:=Wv.nd
 (Av (BU rfl (A1 OW (hr.mono OX) rfl AG rfl rfl rfl (by walk_at "v"))) (AE (A0 (A1 Ws (hr.mono Wt) rfl AG rfl rfl rfl (by walk_at "v")))))
abbrev Ww:List Str:=["term"]
theorem Wx:Ay Ww ["term"] (Ao Iu):=by walk_at "s"
def oW(EQ:Spw)(K4:Spw)(E:Addr->Hw->Prop):GS:=(Ae (AN (Ai EQ (λ_=>E) wS)) (Aj (Ai K4 (λ_=>E) wS)))
theorem oX(T:Tx K mg base a)(OW:Df P w K mg base "check_term" Fu 1 EQ)(OX:Fu<=k)(oY:Df P w K mg base "term_written" k_term_written 1 K4)(oZ:k_term_written<=k)(hr:Room k (A.deeper (envOfC "term_shown" (Ao Iu) s.heap.objs.size f cdv))):Ssm (cxW P w K mg base Ww "term_shown" (Ao Iu) f cdv A outer s H E) (λB=>B=H) (AS Iu) (oW EQ K4 (dnX K H E)):=
 have hu:=AQ hr
 have hN:=Wx.nd
 (Av (BU rfl (A1 OW (hr.mono OX) rfl AG rfl rfl rfl (by walk_at "v"))) (AE (A0 (A1 oY (hr.mono oZ) rfl AG rfl rfl rfl (by walk_at "v")))))
mutual
inductive Te where
 | nd (w:Str) (r:As)
 | raw (v:W)
inductive As where
 | nil | num (i:Int) (r:As)| tru (b:Bool) (r:As)| nam (x:Str) (r:As)| knd (k:Kd) (r:As)| trm (t:Te) (r:As)| fld (f:Fl) (r:As)
inductive Fl where
 | nil | cons (x:Str) (t:Te) (r:Fl)
end
mutual
def Te.enc:Te->W
 | .nd w r=>.tup (.str w::r.enc)
 | .raw v=>v
def As.enc:As->List W
 | .nil=>[]
 | .num i r=>.int i::r.enc
 | .tru b r=>.bl b::r.enc
 | .nam x r=>.str x::r.enc
 | .knd k r=>k.enc::r.enc
 | .trm t r=>t.enc::r.enc
 | .fld f r=>.tup f.enc::r.enc
def Fl.enc:Fl->List W
 | .nil=>[]
 | .cons x t r=>.tup [.str x,t.enc]::r.enc
end
def Fl.names:Fl->List Str
 | .nil=>[]
 | .cons x _ r=>x::r.names
def Fl.terms:Fl->List Te
 | .nil=>[]
 | .cons _ t r=>t::r.terms
def As.sorts:As->List Str
 | .nil=>[]
 | .num _ r=>"number"::r.sorts
 | .tru _ r=>"truth"::r.sorts
 | .nam _ r=>"name"::r.sorts
 | .knd _ r=>"kind"::r.sorts
 | .trm _ r=>"term"::r.sorts
 | .fld _ r=>"fields"::r.sorts
def As.parts:As->List Te
 | .nil=>[]
 | .num _ r|.tru _ r|.nam _ r|.knd _ r=>r.parts
 | .trm t r=>t::r.parts
 | .fld f r=>f.terms++r.parts
def Te.parts:Te->List Te
 | .nd _ r=>r.parts
 | .raw _=>[]
mutual
def Te.cnt:Te->Nat
 | .nd _ r=>1+r.cnt
 | .raw _=>1
def As.cnt:As->Nat
 | .nil=>0
 | .num _ r|.tru _ r|.nam _ r|.knd _ r=>r.cnt
 | .trm t r=>t.cnt+r.cnt
 | .fld f r=>f.cnt+r.cnt
def Fl.cnt:Fl->Nat
 | .nil=>0
 | .cons _ t r=>t.cnt+r.cnt
end
mutual
def Te.dp:Te->Nat
 | .nd _ r=>1+r.dp
 | .raw _=>1
def As.dp:As->Nat
 | .nil=>0
 | .num _ r|.tru _ r|.nam _ r|.knd _ r=>r.dp
 | .trm t r=>max t.dp r.dp
 | .fld f r=>max f.dp r.dp
def Fl.dp:Fl->Nat
 | .nil=>0
 | .cons _ t r=>max t.dp r.dp
end
abbrev NB:Int:=99999999999999999999
mutual
def Te.ok:Te->Bool
 | .nd w r=>decide (KTD.datumAt w AF=some r.sorts)&&r.ok
 | .raw _=>false
def As.ok:As->Bool
 | .nil=>true
 | .num i r=>decide (-NB<=i/\i<=NB)&&r.ok
 | .tru _ r=>r.ok
 | .nam x r=>Ax x&&r.ok
 | .knd k r=>(k.ok&&BG k)&&r.ok
 | .trm t r=>t.ok&&r.ok
 | .fld f r=>(Bp f.names&&f.ok)&&r.ok
def Fl.ok:Fl->Bool
 | .nil=>true
 | .cons x t r=>(Ax x&&t.ok)&&r.ok
end
def Bx:List Te->Nat
 | []=>0
 | t::r=>t.cnt+Bx r
def tdp:List Te->Nat
 | []=>0
 | t::r=>max t.dp (tdp r)
theorem OY:∀(l m:List Te),Bx (l++m)=Bx l+Bx m
 | [],m=>by simp[Bx]
 | v::l,m=>by show v.cnt+Bx (l++m)=v.cnt+Bx l+Bx m;rw[OY l m];lia
theorem OZ:∀(l m:List Te),tdp (l++m)=max (tdp l) (tdp m)
 | [],m=>by simp[tdp]
 | v::l,m=>by show max v.dp (tdp (l++m))=max (max v.dp (tdp l)) (tdp m);rw[OZ l m];lia
theorem O0:∀ f:Fl,f.cnt=Bx f.terms/\f.dp=tdp f.terms
 | .nil=>⟨rfl,rfl⟩
 | .cons _ t r=>by
  obtain⟨a,b⟩:=O0 r;exact⟨by show t.cnt+r.cnt=t.cnt+Bx r.terms;rw[a],by show max t.dp r.dp=max t.dp (tdp r.terms);rw[b]⟩
theorem IV:∀ r:As,r.cnt=Bx r.parts/\r.dp=tdp r.parts
 | .nil=>⟨rfl,rfl⟩
 | .num _ r | .tru _ r | .nam _ r | .knd _ r=>IV r
 | .trm t r=>by
  obtain⟨a,b⟩:=IV r;exact⟨by show t.cnt+r.cnt=t.cnt+Bx r.parts;rw[a],by show max t.dp r.dp=max t.dp (tdp r.parts);rw[b]⟩
 | .fld f r=>by
  obtain⟨a,b⟩:=IV r;obtain⟨c,d⟩:=O0 f;exact⟨by show f.cnt+r.cnt=Bx (f.terms++r.parts);rw[OY,a,c],by show max f.dp r.dp=tdp (f.terms++r.parts);rw[OZ,b,d]⟩
theorem Hr(t:Te):t.cnt=1+Bx t.parts:=by
 cases t with
 | nd w r=>show 1+r.cnt=_;rw[(IV r).1];rfl
 | raw v=>rfl
theorem IW(t:Te):t.dp=1+tdp t.parts:=by
 cases t with
 | nd w r=>show 1+r.dp=_;rw[(IV r).2];rfl
 | raw v=>rfl
theorem Wy(t:Te):1<=t.cnt:=by rw[Hr];lia
theorem IX(t:Te):1<=t.dp:=by rw[IW];lia
theorem Wz:∀ l:List Te,Bx l=l.length+Bx (l.flatMap Te.parts)
 | []=>rfl
 | v::l=>by
  show v.cnt+Bx l=(l.length+1)+Bx ((v::l).flatMap Te.parts);rw[YZ,OY,Wz l,Hr v];lia
theorem WA:∀ l:List Te,l≠[]->tdp l=1+tdp (l.flatMap Te.parts)
 | [],h=>Qj rfl h
 | [v],_=>by
  show max v.dp 0=1+tdp ([v].flatMap Te.parts);rw[YZ,List.flatMap_nil,Yx,IW];lia
 | v::u::l,_=>by
  have a:=WA (u::l) (by simp);show max v.dp (tdp (u::l))=1+tdp ((v::u::l).flatMap Te.parts);rw[YZ,OZ,IW v];lia
theorem IY:∀ l:List Te,l.length<=Bx l
 | []=>Yr _
 | v::l=>by have:=IY l;have:=Wy v;show l.length+1<=v.cnt+Bx l;lia
theorem WB:∀{l:List Te}{v:Te},v∈l->v.cnt<=Bx l
 | u::l,v,h=>by
  show v.cnt<=u.cnt+Bx l;walk_at "ph"
  ·lia
  ·have:=WB h;lia
theorem WC:∀{l:List Te}{v:Te},v∈l->v.dp<=tdp l
 | u::l,v,h=>by
  show v.dp<=max u.dp (tdp l);walk_at "ph"
  ·lia
  ·have:=WC h;lia
theorem pb(t:Te):t.parts.length+1<=t.cnt:=by rw[Hr t];have:=IY t.parts;lia
theorem WD:∀ f:Fl,f.enc.length=f.terms.length
 | .nil=>rfl
 | .cons _ t r=>by show r.enc.length+1=r.terms.length+1;rw[WD r]
theorem O1:∀ r:As,r.enc.length=r.sorts.length
 | .nil=>rfl
 | .num _ r | .tru _ r | .nam _ r | .knd _ r | .trm _ r | .fld _ r=>Qg (·+1) (O1 r)
theorem aR{a:Bool}(h:(a&&b)=true):b=true:=(Qe.mp h).2
theorem aL{a:Bool}(h:(a&&b)=true):a=true:=(Qe.mp h).1
theorem WE:∀{f:Fl},f.ok=true->∀ c∈f.terms,c.ok=true
 | .cons x t r,h,c,hc=>(Yo.mp hc).elim (λe=>e▸aR (aL h)) (WE (f:=r) (aR h) c)
theorem IZ:∀{r:As},r.ok=true->∀ c∈r.parts,c.ok=true
 | .nil,_=>nofun
 | .num _ r,h | .nam _ r,h | .knd _ r,h=>IZ (r:=r) (aR h)
 | .tru _ r,h=>IZ (r:=r) h
 | .trm t r,h=>λc hc=>(Yo.mp hc).elim (λe=>e▸aL h) (IZ (r:=r) (aR h) c)
 | .fld f r,h=>λc hc=>(Yz.mp hc).elim (WE (aR (aL h)) c) (IZ (r:=r) (aR h) c)
theorem Gj{w:Str}(h:(Te.nd w r).ok=true):KTD.datumAt w AF=some r.sorts/\r.ok=true:=⟨Qh (aL h),aR h⟩
theorem Ht{t:Te}(h:t.ok=true):∀ c∈t.parts,c.ok=true:=by
 cases t with
 | nd w r=>exact IZ (Gj h).2
 | raw v=>cases h
def Te.fm:Te->Prop
 | .nd w r=>KTD.datumAt w AF=some r.sorts
 | .raw _=>False
def K5(x:W):W:=match x with | .tup [_,k]=>k | _=>.non
abbrev WF:Spw:=spR (λ(z:Str)ws _=>ws=[.str z]) λz=>EC AF z
theorem C9(T:Tx K mg base a):Df P w K mg base "form_of" 1 1 WF:=by
 refine mk0 T.lI rfl V6 Bw (λb G Q E⟨x,e,_⟩=>by rw[e];rfl) (oz T) λb G Q E c q=>?_;obtain⟨z,rfl,q⟩:=q;exact q
theorem O2{w:Str}(h:KTD.datumAt w AF=some ss):EC AF w=.tup (ss.map W.str):=by unfold EC;rw[h]
theorem Fv{δ:Type}:∀{D:List (Str×δ)}{k:Str}{d:δ},KTD.datumAt k D=some d->(k,d)∈D
 | [],k,d,h=>by cases h
 |(x,e)::D,k,d,h=>by
  have h':(if decide (k=x)=true then some e else KTD.datumAt k D)=some d:=h;by_cases a:k=x
  ·rw[if_pos (YG a)]at h';cases h';rw[a];exact Ye
  ·rw[if_neg (by simp[a])]at h';exact Yd _ (Fv h')
theorem ph:(AF.all λp=>decide (p.1="rec")||!p.2.contains ("fields":Str))=true:=by decide +kernel
theorem pq:(AF.all λp=>!decide (p.1="rec")||decide (p.2=[("fields":Str)]))=true:=by decide +kernel
theorem Hu{w:Str}{r:As}(h:KTD.datumAt w AF=some r.sorts):(w="rec"->∃ f,r=.fld f .nil)/\(w≠"rec"->("fields":Str)∉r.sorts):=by
 have b:=Fv h;have h1:=List.all_eq_true.mp ph _ b;have h2:=List.all_eq_true.mp pq _ b;simp only[Bool.or_eq_true,Bool.not_eq_true',YN,decide_eq_false_iff_not]at h1 h2;constructor
 ·intro e;have a:=h2.resolve_left λz=>z e;cases r with
  | fld f r =>
   have c:=a;injection c with _ h5;cases r with
   | nil=>exact⟨f,rfl⟩
   | _=>cases h5
  | nil=>cases a
  | _=>exact Qj (Qf a).1 (by decide +kernel)
 ·intro e z;have a:=h1.resolve_left e;rw[List.contains_iff_mem.mpr z]at a;cases a
theorem O3:∀ f:Fl,f.enc.map K5=f.terms.map Te.enc
 | .nil=>rfl
 | .cons x t r=>by show t.enc::r.enc.map K5=t.enc::r.terms.map Te.enc;rw[O3 r]
abbrev gTe:GT:=gTB (Ad (Af (eqF false)) ad (gC (.str "term")))
theorem py(q:Q (s=="term") G):gTe [some (.str s),some v] G Q:=by
 simp only[gTB,Ad,Af,Ab,gC,Yb,BP];cases h:(s=="term")with
 | true|false=>rw[h]at q;exact q
theorem WG(hl:ys.length < 1000)(h:BE yes (Bb 0 1) gTe na R zs [some (.str s),some v] G (if(s=="term")=true then ys++[v]else ys)):
  BE yes (Bb 0 1) gTe na R (.tup [.str s,v]::zs) [o,o'] G ys:=by
 refine⟨trivial,DN (by lia),py ?_⟩;cases e:(s=="term")with
 | true|false=>
  rw[e]at h;exact h
theorem O4:∀(r:As)(o o':Option W)(ys:List W),("fields":Str)∉r.sorts->ys.length+r.enc.length<=1000->R (ys++r.parts.map Te.enc) G->
  BE yes (Bb 0 1) gTe na R (B8 (r.sorts.map W.str) r.enc) [o,o'] G ys
 | .nil,o,o',ys,_,_,h=>⟨trivial,by have h':R (ys++[]) G:=h;rw[Yx]at h';exact h'⟩
 | .num _ r,o,o',ys,a,hl,h | .tru _ r,o,o',ys,a,hl,h | .nam _ r,o,o',ys,a,hl,h | .knd _ r,o,o',ys,a,hl,h=>by
  have b:ys.length+(r.enc.length+1)<=1000:=hl;refine WG (by lia) ?_;rw[if_neg (by decide +kernel)];exact O4 r _ _ _ (λz=>a (Yd _ z)) (by lia) h
 | .trm t r,o,o',ys,a,hl,h=>by
  have b:ys.length+(r.enc.length+1)<=1000:=hl;refine WG (by lia) ?_;rw[if_pos (by decide +kernel)];refine O4 r _ _ _ (λz=>a (Yd _ z)) (by rw[Yj];simp only[Yg,Yi];lia) ?_;rw[Yv];exact h
 | .fld f r,o,o',ys,a,_,_=>Qj Ye a
theorem O5:∀ f:Fl,f.enc.length<=f.cnt
 | .nil=>Yr _
 | .cons _ t r=>by have:=O5 r;have:=Wy t;show r.enc.length+1<=t.cnt+r.cnt;lia
theorem WH:(AF.all λp=>decide (p.2.length<=3))=true:=by decide +kernel
theorem O6{w:Str}{r:As}(h:KTD.datumAt w AF=some r.sorts):r.sorts.length<=3:=Qh (List.all_eq_true.mp WH _ (Fv h))
theorem O7:∀{f:Fl}{x:W},x∈f.enc->∃ n v,x=.tup [.str n,v]
 | .nil,x,h=>by cases h
 | .cons n t r,x,h=>by
  walk_at "ph"
  ·exact⟨n,t.enc,rfl⟩
  ·exact O7 h
abbrev WI:Spw:=spL (λ(t:Te)ws _=>ws=[t.enc]/\t.fm/\t.cnt<=90000) λt=>t.parts.map Te.enc
theorem pE(c:List W)(G:Hw)(Q:Kw)(E:Addr->Hw->Prop)(_:Kw.C Q)(q:WI c G Q E):V8 WF (AC Q) (Bf OO c) G:=by
 obtain⟨t,⟨rfl,b,hc⟩,q⟩:=q;cases t with
 | raw v=>exact b.elim
 | nd w r =>
 have h1:=b;have h:=O6 h1;have hl:=O1 r;show Ae (gIf _ _ Au) _ (AC Q) [some (.tup (.str w::r.enc))] G;simp only[Ae,gIf,gTB,Ad,Af,Ab,gC,Yb,ixW,BF,AB,BP];by_cases e:w="rec"
 ·rw[show(w==("rec":Str))=true by simp[e]];obtain⟨f,rfl⟩:=(Hu h1).1 e;have d:1+(f.cnt+0)<=90000:=hc;have j:=O5 f;refine F8 (f:=K5) trivial f.enc none [] (λx g i a=>?_) (by simp only[Yi];exact Bo (by lia)) ?_
  ·obtain⟨n,u,rfl⟩:=O7 g;exact a
  ·rw[O3];have a:∀ p,G p=none->Q (.ref p) (put G p (.lst ((f.terms++[]).map Te.enc))):=q;rw[Yx]at a;exact a
 ·rw[show(w==("rec":Str))=false by simpa using e];simp only[Au,Aj,Bg,Ii,Ai,Aa,Ad,Af,Ab,gC,Yb,ixW,BF];refine⟨w,rfl,⟨r.sorts.map W.str,r.enc,?_,?_⟩⟩
  ·rw[F9];dsimp only;rw[O2 h1];rfl
  ·exact O4 r none none [] ((Hu h1).2 e) (by simp only[Yi];lia) (q)
theorem EM(T:Tx K mg base a):Df P w K mg base "parts_of" 2 1 WI:=mk0 T.lJ rfl V7 J7 (λb G Q E⟨x,⟨e,_⟩,_⟩=>by rw[e];rfl) (oA T (C9 T) (Yr _)) pE
def NuB(x:W)(b:Bool):Prop:=(∃ i:Int,x=.int i/\b=decide (-NB<=i/\i<=NB))\/(∃ c:Bool,x=.bl c/\b=false)\/(∃ z:Str,x=.str z/\b=false)
abbrev pK:Spw:=spR (λ(x:W×Bool)ws _=>ws=[x.1]/\NuB x.1 x.2) λx=>.bl x.2
theorem K0(T:Tx K mg base a):Df P w K mg base "is_number" 1 1 pK:=by
 refine mk0 T.lK rfl Wa Bw (λd G Q E⟨x,⟨e,_⟩,_⟩=>by rw[e];rfl) (oB T) λd G Q E f q=>?_;walk_at "pj";unfold Wb;rcases h with⟨i,rfl,rfl⟩|⟨c,rfl,rfl⟩|⟨z,rfl,rfl⟩
 ·walk_at "rd";simp only[D7];refine⟨99999999999999999999,rfl,?_⟩;by_cases h1:-NB<=i
  ·rw[if_pos (YG h1)];by_cases h2:i<=NB
   ·rw[YG ⟨h1,h2⟩]at q;rw[YG (h2)];exact q
   ·rw[Qi (λz=>h2 z.2)]at q;rw[Qi (h2)];exact q
  ·rw[Qi (λz=>h1 z.1)]at q;rw[if_neg (by rw[YN];exact h1)];exact q
 ·exact q
 ·exact q
def TfB(x:W)(b:Bool):Prop:=(∃(n:Str)(u:W),x=.tup [.str n,u]/\n.length<=90000/\b=Ax n)\/(x=.tup [.str "a"]/\b=false)
abbrev pL:Spw:=spR (λ(x:W×Bool)ws _=>ws=[x.1]/\TfB x.1 x.2) λx=>.bl x.2
theorem KS(T:Tx K mg base a):Df P w K mg base "is_term_field" 3 1 pL:=by
 refine mk0 T.lL rfl Wd Bw (λc G Q E⟨x,⟨e,_⟩,_⟩=>by rw[e];rfl) (oE T (Ds T) (Yr _)) λc G Q E d q=>?_;walk_at "pj";rcases h with⟨n,u,rfl,hl,rfl⟩|⟨rfl,rfl⟩
 ·exact .inl ⟨n,⟨rfl,by lia⟩,q⟩
 ·exact Eq.mpr (by kernel_rfl) q
def Gk(l:List (Str×W)):List W:=l.map λx=>.tup [.str x.1,x.2]
def TsB(x:W)(b:Bool):Prop:=(∃ l:List (Str×W),x=.tup (Gk l)/\(∀ y∈l,y.1.length<=90000)/\l.length<=90000/\b=(l.all (λy=>Ax y.1)&&Bp (l.map (·.1))))\/(x=.tup [.tup [.str "a"]]/\b=false)
abbrev pQ:Spw:=spR (λ(x:W×Bool)ws _=>ws=[x.1]/\TsB x.1 x.2) λx=>.bl x.2
theorem K1(T:Tx K mg base a):Df P w K mg base "are_term_fields" 4 1 pQ:=by
 refine mk0 T.lM rfl Wf Bw (λo G Q E⟨x,⟨e,_⟩,_⟩=>by rw[e];rfl) (oF T (KS T) (Yr _) (Ff T) (by lia)) λo G Q E g q=>?_;walk_at "pj";rcases h with⟨l,rfl,n,hl,rfl⟩|⟨rfl,rfl⟩
 ·unfold OR;walk_at "rd";refine Kv (f:=λx=>.bl (Ax x.1)) trivial l none [] (λx k m i=>?_) (by simp only[Yi];exact Bo (by lia)) ?_
  ·exact⟨(.tup [.str x.1,x.2],Ax x.1),⟨rfl,.inl ⟨x.1,x.2,rfl,n x k,rfl⟩⟩,i⟩
  ·intro p c;rw[Yw,show(λx:Str×W=>W.bl (Ax x.1))=W.bl∘(λx=>Ax x.1)from rfl,<- YB];simp only[Dm Ap,Option.bind_some,Fe,YD];rw[List.all_map];cases e:l.all (id∘λx=>Ax x.1)with
   | false =>
    have d:l.all (λy=>Ax y.1)=false:=e;rw[d]at q;exact g _ _ _ (Az c) q
   | true =>
    have d:l.all (λy=>Ax y.1)=true:=e;rw[d,Bool.true_and]at q;refine Kv (f:=λx=>.str x.1) trivial l none [] (λx k m i=>?_) (by simp only[Yi];exact Bo (by lia)) ?_
    ·exact i
    ·intro p2 j;exact⟨l.map (·.1),⟨p2,rfl,by rw[Ap,YB];rfl,by rw[Yh];lia⟩,g _ _ _ (BN (Az c) j) q⟩
 ·unfold OR;walk_at "rd";refine⟨trivial,by decide,⟨(.tup [.str "a"],false),⟨rfl,.inr ⟨rfl,rfl⟩⟩,trivial,λp c=>?_⟩⟩;simp only[Dm Ap];exact g _ _ _ (Az c) q
def flL:Fl->List (Str×W)
 | .nil=>[]
 | .cons x t r=>(x,t.enc)::flL r
theorem O8:∀ f:Fl,f.enc=Gk (flL f)
 | .nil=>rfl
 | .cons x t r=>by show _::r.enc=_::Gk (flL r);rw[O8 r]
theorem O9:∀ f:Fl,(flL f).map (·.1)=f.names
 | .nil=>rfl
 | .cons x t r=>by show x::(flL r).map (·.1)=x::r.names;rw[O9 r]
inductive Os:W->Str->Bool->Prop
 | num {x:W} {b:Bool} (h:NuB x b):Os x "number" b
 | tru (b:Bool):Os (.bl b) "truth" true
 | truB (i:Int):Os (.int i) "truth" false
 | truS (x:Str):Os (.str x) "truth" false
 | nam (x:Str) (h:x.length<=90000):Os (.str x) "name" (Ax x)
 | namI (i:Int):Os (.int i) "name" false
 | knd {x:W} {b:Bool} (h:KB x b):Os x "kind" b
 | trm (x:W):Os x "term" true
 | fld {x:W} {b:Bool} (h:TsB x b):Os x "fields" b
def Pa:Spw:=λws G Q _=>∃ v s b,ws=[v,.str s]/\Os v s b/\Q (.bl b) G
theorem pS:Spw.M Pa:=(by rintro c G Q d E a h _ ⟨v,s,b,h1,h2,q⟩;exact⟨v,s,b,h1,h2,h _ _ q⟩)
theorem Pc{An:GS}(h1:ω[1]?=some (some (.str s)))(h:if s=t then e ω G D.rt else An D ω G):Ae (gIf (gTB (Ad (Af (eqF false)) na (gC (.str t)))) (Aj e) Au) An D ω G:=by
 simp only[Ae,gIf,gTB,Ad,Af,Ab,h1,gC,BP];by_cases z:s=t
 ·rw[if_pos z]at h;rw[show(s==t)=true by simp[z]];exact h
 ·rw[if_neg z]at h;rw[show(s==t)=false by simpa using z];exact h
theorem K3(T:Tx K mg base a):Df P w K mg base "is_of_sort" 8 2 Pa:=by
 refine mk0 T.lN rfl Wh pS (λd G Q E⟨_,_,_,e,_⟩=>by rw[e];rfl) (oH T (K0 T) (by lia) (Ds T) (by lia) (Kx T) (by lia) (K1 T) (by lia)) λd G Q E f q=>?_;obtain⟨v,s,b,rfl,h,q⟩:=q;have no:∀{s t:Str}{e:GE}{An:GS}{D:Ew}{ω:Sw},s≠t->ω[1]?=some (some (.str s))->An D ω G->Ae (gIf (gTB (Ad (Af (eqF false)) na (gC (.str t)))) (Aj e) Au) An D ω G:=λh h1 h2=>Pc h1 (by rw[if_neg h];exact h2);have c:∀{s:Str}{e:GE}{An:GS}{D:Ew}{ω:Sw},ω[1]?=some (some (.str s))->e ω G D.rt->Ae (gIf (gTB (Ad (Af (eqF false)) na (gC (.str s)))) (Aj e) Au) An D ω G:=λh1 h2=>Pc h1 (by rw[if_pos rfl];exact h2);cases h with
 | num h=>exact c rfl ⟨(v,b),⟨rfl,h⟩,q⟩
 | tru b|truB b|truS b=>
  refine no (by decide +kernel) rfl (c rfl ?_);exact q
 | nam x h=>exact no (by decide +kernel) rfl (no (by decide +kernel) rfl (c rfl (.inl ⟨x,⟨rfl,by lia⟩,q⟩)))
 | namI i=>exact no (by decide +kernel) rfl (no (by decide +kernel) rfl (c rfl (.inr ⟨i,rfl,q⟩)))
 | knd h=>exact no (by decide +kernel) rfl (no (by decide +kernel) rfl (no (by decide +kernel) rfl (c rfl ⟨(v,b),⟨rfl,h⟩,q⟩)))
 | trm t=>exact no (by decide +kernel) rfl (no (by decide +kernel) rfl (no (by decide +kernel) rfl (no (by decide +kernel) rfl (no (by decide +kernel) rfl q))))
 | fld h=>exact no (by decide +kernel) rfl (no (by decide +kernel) rfl (no (by decide +kernel) rfl (no (by decide +kernel) rfl (c rfl ⟨(v,b),⟨rfl,h⟩,q⟩))))
theorem WJ:∀(l:List (W×Str×Bool))(o o':Option W)(ys:List W),(∀ x∈l,Os x.1 x.2.1 x.2.2)->ys.length+l.length<=1000->R (ys++l.map λx=>.bl x.2.2) G->
  BE yes (Bb 0 1) Bh (Ai Pa XF (Aa ad x6)) R (l.map λx=>.tup [x.1,.str x.2.1]) [o,o'] G ys
 | [],o,o',ys,_,_,h=>⟨trivial,by rw[YH,Yx]at h;exact h⟩
 | x::l,o,o',ys,a,hl,h=>by
  rw[Yg]at hl;refine⟨trivial,DN (by lia),⟨x.1,x.2.1,x.2.2,rfl,a x Ye,?_⟩⟩;refine WJ l _ _ _ (λz b=>a z (Yd _ b)) (by rw[Yj];simp only[Yg,Yi];lia) ?_;rw[Yv];exact h
theorem AK{An:GS}(h:ge ω G λw G1=>An D (ω.set i (some w)) G1):Ae (Ak i ge) An D ω G:=h
theorem Hv{An:GS}(h:∀ Z:Bool->Hw->Prop,Z false G->c ω G Z)(h2:An D ω G):Ae (gIf c s Au) An D ω G:=h _ h2
def FF(w:Str)(xs:List W)(b:Bool):Prop:=∃ ss,KTD.datumAt w AF=some ss/\((xs.length≠ss.length/\b=false)\/∃ l:List (W×Str×Bool),xs=l.map (·.1)/\ss=l.map (·.2.1)/\(∀ x∈l,Os x.1 x.2.1 x.2.2)/\b=l.all (·.2.2))
def TF0(x:W):Prop:=x=.tup []\/x=.int 1\/x=.tup [.str "nom",.int 1]
def TFm(x:W)(b:Bool):Prop:=(∃ w xs,x=.tup (.str w::xs)/\FF w xs b/\xs.length<=10)\/(TF0 x/\b=false)
abbrev pT:Spw:=spR (λ(x:W×Bool)ws _=>ws=[x.1]/\TFm x.1 x.2) λx=>.bl x.2
theorem WK:∀ l:List (W×Str×Bool),B8 (l.map (·.1)) ((l.map (·.2.1)).map W.str)=l.map λx=>.tup [x.1,.str x.2.1]
 | []=>rfl
 | _::l=>Qg (_::·) (WK l)
theorem IU(T:Tx K mg base a):Df P w K mg base "has_term_form" 9 1 pT:=by
 refine mk0 T.lO rfl Wj Bw (λm G Q E⟨_,⟨e,_⟩,_⟩=>by rw[e];rfl) (oJ T (C9 T) (by lia) (K3 T) (by lia)) λm G Q E i q=>?_;walk_at "pj";rcases h with⟨w,xs,rfl,⟨f,h1,d⟩,k⟩|⟨rfl | rfl | rfl,rfl⟩;rotate_left
 ·exact Eq.mpr (by kernel_rfl) q
 ·exact Eq.mpr (by kernel_rfl) q
 ·exact Hv (λZ c=>Eq.mpr (by kernel_rfl) c) (AK (⟨"nom",rfl,Eq.mpr (by kernel_rfl) q⟩))
 show Ae (gIf _ _ Au) _ (AC Q) [some (.tup (.str w::xs)),none] G;refine Hv (λZ c=>?_) ?_
 ·simp only[gOr,gNt,AH,BA,Ab,Yb,B5,if_false,Ad,Af,AM,gC,ixW,BF];exact c
 refine AK ?_;simp only[Ai,Aa,Ad,Af,Ab,gC,Yb,ixW,BF];refine⟨w,rfl,?_⟩;dsimp only;rw[O2 h1];simp only[Yk,Yl];rcases d with⟨g,rfl⟩|⟨l,rfl,rfl,hl,rfl⟩
 ·simp only[Ae,gIf,gOr,gTB,Ad,Af,Ab,gC,Yb,Yc,AB,gB,rF,Aa,Ac,AM,BZ,Aw,L3.BS];rw[Dp]
  have e:((((W.str w::xs).length:Nat):Int)==1+(((f.map W.str).length:Nat):Int))=false:=by
   simpa using(by lia)
  rw[e];exact q
 refine Hv (λZ c=>?_) ?_
 ·simp only[gOr,gTB,Ad,Af,Ab,gC,Yb,Yc,AB,gB,rF,Aa,Ac,AM,BZ,Aw,L3.BS];rw[Dp]
  have e:((((W.str w::l.map (·.1)).length:Nat):Int)==1+((((l.map (·.2.1)).map W.str).length:Nat):Int))=true:=by
   simpa using(by lia)
  rw[e];exact c
 rw[Yh]at k;simp only[Aj,gB,rF,Aa,Ac];refine⟨l.map (·.1),(l.map (·.2.1)).map W.str,?_,?_⟩
 ·rw[F9];rfl
 rw[WK];refine WJ l none none [] hl (by simp only[Yi];lia) λp j=>?_;rw[Yw,show(λx:W×Str×Bool=>W.bl x.2.2)=W.bl∘(λx=>x.2.2)from rfl,<- YB];simp only[B6,Dm Ap,Option.bind_some,Fe,YD];rw[List.all_map];exact i _ _ _ (Az j) q
def tg(t:Te):Prop:=t.ok=true/\t.cnt<=40/\t.dp<=10
def TPs(x:W)(ps:List W):Prop:=∃ t:Te,x=t.enc/\t.fm/\t.cnt<=90000/\ps=t.parts.map Te.enc
def TB(x:W)(b:Bool):Prop:=∃ m,Md TFm TPs 40 10 m 0 0 [x] b
abbrev pV:Spw:=spR (λ(x:W×Bool)ws _=>ws=[x.1]/\TB x.1 x.2) λx=>.bl x.2
theorem Fq(T:Tx K mg base a):Df P w K mg base "is_term" 11 1 pV:=by
 refine mk0 T.lP rfl Wl Bw ((by rintro d G Q E ⟨x,⟨e,_⟩,_⟩;rw[e];rfl)) (oM T (IU T) (by lia) (EM T) (by lia) (Fg T (L:=TPs) (mo:=40) (de:=10) (IU T) (EM T) (by lia) (λx b G Q E h q=>⟨(x,b),⟨rfl,h⟩,q⟩) (λx ps G Q E⟨t,e,f,hc,c⟩q=>⟨t,⟨by rw[e],f,by lia⟩,by rw[c]at q;exact q⟩)) (by lia)) λd G Q E g q=>?_;walk_at "pj";exact Exists.intro (x,b) ⟨⟨rfl,h⟩,q⟩
def WL(C:Addr):Spw:=λws G Q E=>∃(x:W)(b:Bool),ws=[x]/\TB x b/\if b=true then Q .non G else E C G
theorem ra:Spw.M (WL C):=(by
 rintro c G Q d E a h h' ⟨x,b,h1,h2,q⟩;refine⟨x,b,h1,h2,?_⟩;cases b
 ·exact h' _ _ q
 ·exact h _ _ q)
theorem Fu(T:Tx K mg base a):Df P w K mg base "check_term" 12 1 (WL a.NoTerm):=by
 refine mkX T.lQ rfl Wp ra (by rintro c G Q E ⟨x,b,e,_⟩;rw[e];rfl) (oQ T (Fq T) (by lia)) λc G Q E d f q=>?_;obtain⟨x,b,rfl,h,q⟩:=q;refine⟨(x,b),⟨rfl,h⟩,?_⟩;cases b with
 | true =>
  exact q
 | false =>
  exact⟨by decide,q⟩
theorem Pd:∀ cs:List Nat,(cs.map λc:Nat=>(c:Int)).sum=((cs.sum:Nat):Int)
 | []=>rfl
 | c::cs=>by rw[Ym,List.sum_cons,List.sum_cons,Pd cs];lia
theorem WM:∀(cs:List Nat)(j:Nat),(cs.take j).sum<=cs.sum
 | [],j|c::cs,0=>by simp
 | c::cs,j+1=>by have:=WM cs j;rw[List.take_succ_cons,List.sum_cons,List.sum_cons];lia
theorem WN:∀{cs:List Nat}{c:Nat},c∈cs->c<=cs.sum
 | d::cs,c,h=>by
  rw[List.sum_cons];walk_at "ph"
  ·lia
  ·have:=WN h;lia
theorem WO(a:0<=i)(h1:i<=1000000):InLong i:=by unfold InLong;lia
theorem rb(cs:List Nat)(h:cs.sum<=1000000):PyProof.Rows.SumFits (cs.map λc:Nat=>(c:Int)):=by
 intro j a;rw[Yh]at a;refine⟨?_,?_⟩
 ·have e:(cs.map λc:Nat=>(c:Int)).getD j 0=(cs[j]:Int):=by rw[YY,YM,Yp a];rfl
  have:=WN (Qc a);exact WO (by lia) (by lia)
 ·rw[<- List.map_take,Pd];have:=WM cs (j+1);exact WO (by lia) (by lia)
theorem rc{cs:List Nat}(h:cs.sum<=1000000)(a:G p=some (.lst (cs.map λc:Nat=>W.int (c:Int))))(q:Q (.int (cs.sum:Nat)) G):D4 [.ref p] G Q:=by
 unfold D4;simp only[Dm a,Option.bind_some];rw[show(cs.map λc:Nat=>W.int (c:Int))=(cs.map λc:Nat=>(c:Int)).map W.int by rw[YB];rfl,L3.ND];refine⟨rb cs h,?_⟩;rw[Pd];exact q
theorem WP:∀ l:List Te,Bx l=(l.map Te.cnt).sum
 | []=>rfl
 | t::l=>by rw[Ym,List.sum_cons,<- WP l];rfl
theorem K6{α:Type}{enc f:α->W}(a:gd G):∀(l:List α)(o:Option W)(ys:List W),(∀ x∈l,∀ Q:Kw,Q (f x) G->ge [some (enc x)] G Q)->
  ys.length+l.length<=sizeLine->R (ys++l.map f) G->BE gd (gNm 0) Bh ge R (l.map enc) [o] G ys
 | [],o,ys,_,_,r=>⟨a,by simpa using r⟩
 | x::l,o,ys,h,hl,r=>by
  refine⟨a,by simp only[Yg]at hl;lia,h x Ye _ (K6 a l (some (enc x)) (ys++[f x]) (λy b=>h y (Yd _ b)) ?_ ?_)⟩
  ·simp only[Yj,Yg,Yi]at hl ⊢;lia
  ·simpa[Yv]using r
theorem Ja{t:Te}(h:c∈t.parts):c.dp+1<=t.dp:=by rw[IW t];have:=WC h;lia
theorem Jb{t:Te}(h:c∈t.parts):c.cnt+1<=t.cnt:=by rw[Hr t];have:=WB h;lia
theorem rf:1000000<=sizeLine:=by decide
theorem WQ{t:Te}(f:Sub G b)(j:b p=some (.lst (t.parts.map Te.enc)))(hc:t.cnt<=1000000)(g:Kw.C Q)(h:∀ c∈t.parts,∀ G Q E,Q (.int (c.cnt:Nat)) G->sp [c.enc] G Q E)(q:Q (.int (t.cnt:Nat)) G):
  BE (holds p (t.parts.map Te.enc)) (gNm 0) Bh (Ai sp XF wS) (λys G2=>∀ r,G2 r=none->D4 [.ref r] (put G2 r (.lst ys)) λw e=>Aw (.int 1) w e Q) (t.parts.map Te.enc) [none] b []:=by
 have m:=Hr t;have hl:=IY t.parts;have a:=WP t.parts;refine K6 j t.parts none [] (λx k l i=>h x k _ _ _ i) (by simp only[Yi];exact Yt (by lia) rf) λp2 d=>?_;rw[show(t.parts.map λc=>W.int (c.cnt:Nat))=(t.parts.map Te.cnt).map λc:Nat=>W.int (c:Int) by rw[YB];rfl];refine rc (by lia) Ap ?_;show Q (.int (1+((t.parts.map Te.cnt).sum:Nat))) _;rw[<- a,show(1:Int)+((Bx t.parts:Nat):Int)=((t.cnt:Nat):Int) by lia];exact g _ _ _ (BN f d) q
abbrev rg(n:Nat):Spw:=spR (λ(t:Te)ws _=>ws=[t.enc]/\t.ok=true/\t.dp<=n/\t.cnt<=1000) λt=>.int (t.cnt:Nat)
theorem rh{t:Te}(h:t.ok=true):t.fm:=by
 cases t with
 | nd w r=>exact(Gj h).1
 | raw v=>cases h
theorem Ft(T:Tx K mg base a):∀ n:Nat,Df P w K mg base "count_of" (n+2) 1 (rg n)
 | 0=>DS T.TY Bw λf G Q E⟨t,⟨_,_,hd,_⟩,_⟩=>by have:=IX t;lia
 | n+1=>by
  refine mk0 T.TY rfl Wr Bw (λf G Q E⟨x,⟨e,_⟩,_⟩=>by rw[e];rfl) (oS T (EM T) (by lia) (Ft T n) (Yr _)) λf G Q E g q=>?_;obtain⟨t,⟨rfl,d,hd,hc⟩,q⟩:=q;refine⟨t,⟨rfl,rh d,by lia⟩,λp h=>?_⟩;simp only[Ap];exact WQ (Az h) Ap (by lia) g (λc b G Q E q=>⟨c,⟨rfl,Ht d c b,by have:=Ja b;lia,by have:=Jb b;lia⟩,q⟩) q
def WR:Spw:=λws G Q E=>∃ t:Te,ws=[t.enc]/\tg t/\TB t.enc true/\Q (.int (t.cnt:Nat)) G
theorem ri:Spw.M WR:=(by rintro d G Q c E b h h' ⟨t,h1,h2,a,q⟩;exact⟨t,h1,h2,a,h _ _ q⟩)
theorem K7(T:Tx K mg base a):Df P w K mg base "terms_in" 13 1 WR:=by
 refine mkX T.lR rfl Wv ri (by rintro b G Q E ⟨x,e,_⟩;rw[e];rfl) (oV T (Fu T) (by lia) (Ft T 10) (by lia)) λb G Q E c d q=>?_;obtain⟨t,rfl,h,h2,q⟩:=q;exact⟨t.enc,true,rfl,h2,t,⟨rfl,h.1,h.2.2,by have:=h.2.1;lia⟩,q⟩
def WS(C:Addr):Spw:=λws G Q E=>∃ x:W,ws=[x]/\TB x false/\E C G
theorem rj:Spw.M (WS C):=(by rintro b G Q c E a h h' ⟨t,h1,h2,q⟩;exact⟨t,h1,h2,h' _ _ q⟩)
theorem K8(T:Tx K mg base a):Df P w K mg base "term_shown" 13 1 (WS a.NoTerm):=by
 refine mkX T.lS rfl Wx rj (by rintro b G Q E ⟨x,e,_⟩;rw[e];rfl) (oX T (Fu T) (by lia) (DS T.mD IT λ_ _ _ _ h=>h) (YT _)) λb G Q E c d q=>?_;obtain⟨x,rfl,h,q⟩:=q;exact⟨x,false,rfl,h,q⟩
abbrev WT:List Str:=["script","k"]
theorem WU:Ay WT ["script","k"] (Ao N0):=by walk_at "s"
def rk:GS:=(Ae (gIf (gTB (Ad (AY (λi j=>decide (i < j)) AT) na yC)) (Aj (Ad (Af ixW) ad na)) Au) (Aj u8))
theorem rl(T:Tx K mg base a):Dn P w K mg base WT "_law_cell_at" N0 k (rk):=by
 have hN:=WU.nd;walk_at "z"
abbrev WV:List Str:=["script","k","cell"]
theorem WW:Ay WV ["script","k"] (Ao N1):=by walk_at "s"
def rn(La:Spw):GS:=(Ae (Ak 2 (Ai La XF (Aa ad x6))) (Ae (gIf (gTB (Ad (Bi λi j=>decide (j<=i)) r6 (Ad (AI EZ λi j=>i ^ j.toNat) yj (gC (.int 18))))) (Aj (Aq (Aa (Ad (AI (λ_ _=>True) λi j=>i - j) r6 (Ad (AI EZ λi j=>i ^ j.toNat) yj (gC (.int 18)))) wT))) Au) (Aj (Aq (Aa (Ad (AI (λ_ j=>0 < j) λi j=>i % j) r6 (gC (.int 2147483647))) yY)))))
theorem ro(T:Tx K mg base a)(xE:Df P w K mg base "_law_cell_at" Lb 2 La)(xF:Lb<=k):Dn P w K mg base WV "_law_state" N1 k (rn La):=by
 have hN:=WW.nd;walk_at "z"
abbrev WX:List Str:=["state","many","mixed","found"]
theorem WY:Ay WX ["state","many"] (Ao N2):=by walk_at "s"
def rp:GS:=(Ae (gIf (AH xz) (Ae (Ak 3 (Ad (AI (λ_ j=>0 < j) λi j=>i % j) eq na)) (Ae (CM (Ad (AI FN λi j=>i / j) eq na) ad u8) (Aj ya))) Au) (Ae (CM (Ad (AI (λ_ j=>0 < j) λi j=>i % j) (Ad (Aw) (Ad (BL) eq (gC (.int 48271))) (gC (.int 29))) (gC (.int 2147483647))) ad u8) (Ae (Ak 2 (Ad (AI (λ_ j=>0 < j) λi j=>i % j) (Ad (Aw) (Ad (Aw) (Ad (BL) eq eq) (Ad (BL) (gC (.int 39373)) eq)) (gC (.int 7))) (gC (.int 2147483629)))) (Ae (Ak 2 (Ad (AI (λ_ j=>0 < j) λi j=>i % j) (Ad (Aw) (Ad (BL) r6 r6) (Ad (BL) (gC (.int 16807)) r6)) (gC (.int 2147483587)))) (Aj (Ad (AI (λ_ j=>0 < j) λi j=>i % j) (Ad (AI FN λi j=>i / j) r6 yG) na))))))
theorem rq(T:Tx K mg base a):Dn P w K mg base WX "_law_choice" N2 k (rp):=by
 have hN:=WY.nd;walk_at "z"
abbrev WZ:List Str:=["state","num","plain","some"]
theorem W0:Ay WZ ["state"] (Ao N3):=by walk_at "s"
abbrev y4:=Ah (Aa r4 (Aa (Ah Ac) wT))
abbrev yD:=gC (.str "b")
abbrev wp:=Aa (gC (.str "any")) Ac
abbrev yu:=Aa (Ah wp) Ac
abbrev ln:=gC (.str "num")
abbrev yt:=Ah (Aa ln Ac)
def rr(AA:Spw):GS:=(Ae (Ak 1 yt) (Ae (Ak 2 (Ah (Aa yb (Aa na x6)))) (Ae (Ak 3 (Aq (Aa na (Aa na (Aa (Ah (Aa x2 Ac)) (Aa (Ah wp) (Aa (Ah (Aa x4 x6)) (Aa (Ah (Aa x4 yu)) (Aa r6 (Aa (Ah (Aa yb (Aa (Ah wp) x6))) Ac)))))))))) (Ae (Ak 3 (Ad (Aw) ya (Aq (Aa (Ah (Aa r4 (Aa (Ah (Aa (Ah (Aa x8 (Aa yH x6))) Ac)) yY))) (Aa (Ah (Aa r4 (Aa (Ah (Aa (Ah (Aa x8 (Aa yq x6))) (Aa (Ah (Aa yD (Aa yH x6))) Ac))) yY))) Ac))))) (Ae (Ak 3 (Ad (Aw) ya (Aq (Aa y4 (Aa (Ah (Aa r4 (Aa (Ah (Aa (Ah (Aa x8 (Aa yH (Aa (Ah (Aa x2 Ac)) Ac)))) Ac)) wT))) (Aa (Ah (Aa yb (Aa r6 x6))) Ac)))))) (Ae (Ak 3 (Ad (Aw) ya (Aq (Aa (Ah (Aa yb (Aa na kw))) (Aa (Ah (Aa x4 kw)) (Aa (Ah (Aa r4 (Aa (Ah (Aa (Ah (Aa x8 (Aa yH kw))) (Aa (Ah (Aa yD (Aa yq x6))) Ac))) wT))) Ac)))))) (Ae (Ak 3 (Ad (Aw) ya (Aq (Aa (Ah (Aa r4 (Aa (Ah (Aa (Ah (Aa yD (Aa yq yu))) Ac)) yY))) (Aa (Ah (Aa yb (Aa y4 yu))) Ac))))) (Aj (Ad (Af ixW) ya (Ai AA XF (Aa ad (Aa (gC (.int 18)) Ac))))))))))))
theorem rs(T:Tx K mg base a)(Ee:Df P w K mg base "_law_choice" AU 2 AA)(Ef:AU<=k):Dn P w K mg base WZ "_law_told_kind" N3 k (rr AA):=by
 have hN:=W0.nd;walk_at "z"
abbrev W1:List Str:=["state","deep","names","want","name","kind"]
theorem W2:Ay W1 ["state","deep","names","want"] (Ao N4):=by walk_at "s"
abbrev yE:=gC (.str "x")
abbrev yd:=gC (.str "fun")
abbrev x9:=Aa ad (Aa (gC (.int 3)) Ac)
abbrev h0:=Ad (AI (λ_ _=>True) λi j=>i - j) (Ab 1) dl
def rv(AA:Spw)(ER:Spw)(AZ:Spw):GS:=(Ae (Ak 4 (Ad (Af ixW) (Aq (Aa yE (Aa (gC (.str "y")) (Aa (gC (.str "xy")) Ac)))) (Ai AA XF x9))) (Ae (Ak 5 (Ai ER XF wS)) (Aj (Ah (Aa yd (Aa ye (Aa yJ (Aa (Ai AZ XF (Aa ad (Aa h0 (Aa (Ad (Aw) r6 (Aq (Aa (Ah (Aa ye (Aa (Ad (Af ixW) yJ u8) Ac))) Ac))) yk)))) Ac))))))))
theorem rz(T:Tx K mg base a)(Ee:Df P w K mg base "_law_choice" AU 2 AA)(Ef:AU<=k)(rA:Df P w K mg base "_law_told_kind" Fw 1 ER)(rB:Fw<=k)(Jc:Df P w K mg base "_law_term" BX 4 AZ)(Jd:BX<=k):Dn P w K mg base W1 "_law_function" N4 k (rv AA ER AZ):=by
 have hN:=W2.nd;walk_at "z"
abbrev W3:List Str:=["state","deep","names","want","fields","name"]
theorem W4:Ay W3 ["state","deep","names","want"] (Ao N5):=by walk_at "s"
abbrev x5:=Aa ad (Aa h0 (Aa r6 (Aa ln Ac)))
def rD(AZ:Spw)(AA:Spw):GS:=(Ae (Ak 4 (Aq (Aa (Ah (Aa x8 (Aa (Ai AZ XF (Aa ad (Aa h0 (Aa r6 yk)))) Ac))) Ac))) (Ae (Bz (Bl (Aq (Aa (gC (.str "ab")) (Aa yD Ac)))) (gNm 5) (gIf (A7 (gTB (Ad (Af (eqF false)) (Ai AA XF x9) u8)) (gTB (Ad (Bi λi j=>decide (j < i)) re dl))) (AN (gMt B7 Cr ye (Aa (Ah (Aa yJ (Aa (Ai AZ XF x5) Ac))) Ac))) Au)) (Aj (Ah (Aa yf (Aa (gB (rF Cq) (Aa (Bv ye (A2 (Ad (AI FN λi j=>i / j) (Ai AA XF (Aa ad (Aa yG Ac))) (gC (.int 7)))) Bk) Ac)) Ac))))))
theorem rE(T:Tx K mg base a)(Jc:Df P w K mg base "_law_term" BX 4 AZ)(Jd:BX<=k)(Ee:Df P w K mg base "_law_choice" AU 2 AA)(Ef:AU<=k):Dn P w K mg base W3 "_law_record" N5 k (rD AZ AA):=by
 have hN:=W4.nd;walk_at "z"
abbrev W5:List Str:=["state","deep","names","want"]
theorem W6:Ay W5 ["state","deep","names","want"] (Ao N6):=by walk_at "s"
abbrev yT:=gTB (Ad (Af (eqF false)) ya r4)
abbrev yr:=gC (.str "new")
abbrev yo:=Aa ad (Aa (gC (.int 2)) Ac)
abbrev yn:=gC (.str "plus")
def rG(AZ:Spw)(AA:Spw)(ES:Spw)(ET:Spw):GS:=(Ae (gIf (gTB (Ad (Af (eqF false)) ya x2)) (Aj (Ah (Aa (gC (.str "less")) (Aa (Ai AZ XF x5) (Aa (Ai AZ XF x5) Ac))))) Au) (Ae (gIf yT (Aj (Ai ES XF (Aa ad (Aa na (Aa r6 (Aa (Ad (Af ixW) (Aq (Aa ln (Aa x2 (Aa x4 Ac)))) (Ai AA XF x9)) Ac)))))) Au) (Ae (gIf (gTB (Ad (Af (eqF false)) ya x4)) (Aj (Ah (Aa yr (Aa (Ai AZ XF (Aa ad (Aa h0 (Aa r6 (Aa (Ad (Af ixW) (Aq (Aa ln (Aa r4 Ac))) (Ai AA XF yo)) Ac))))) Ac)))) Au) (Ae (gIf (gTB (Ad (Af (eqF false)) ya yb)) (Aj (Ai ET XF (Aa ad (Aa na (Aa r6 (Aa ln Ac)))))) Au) (Aj (Ah (Aa yn (Aa (Ai AZ XF x5) (Aa (Ai AZ XF x5) Ac)))))))))
theorem rH(T:Tx K mg base a)(Jc:Df P w K mg base "_law_term" BX 4 AZ)(Jd:BX<=k)(Ee:Df P w K mg base "_law_choice" AU 2 AA)(Ef:AU<=k)(rJ:Df P w K mg base "_law_record" Fy 4 ES)(rK:Fy<=k)(rL:Df P w K mg base "_law_function" Fz 4 ET)(rM:Fz<=k):Dn P w K mg base W5 "_law_made" N6 k (rG AZ AA ES ET):=by
 have hN:=W6.nd;walk_at "z"
theorem rN{ns:List Int}(c:0<=k)(h:k <(ns.length:Int)):∃ v:Int,atI (ns.map W.int) k=some (.int v):=by
 have a:k.toNat < ns.length:=by lia
 have b:k=((k.toNat:Nat):Int):=by lia
 refine⟨ns[k.toNat],?_⟩;have q:atI (ns.map W.int) ((k.toNat:Nat):Int)=some (.int ns[k.toNat]):=L2.CK (by rw[YM,Yp a] <;> rfl);rw[<- b]at q;exact q
def W7:Spw:=λws G Q _=>∃(ns:List Int)(k:Int),ws=[.rol (ns.map W.int),.int k]/\0<=k/\∀ v:Int,Q (.int v) G
theorem rO:Spw.M W7:=(by rintro b G Q c E a h _ ⟨ns,k,h1,h2,q⟩;exact⟨ns,k,h1,h2,λv=>h _ _ (q v)⟩)
theorem Lb(T:Tx K mg base a):Df P w K mg base "_law_cell_at" 1 2 W7:=by
 refine mk0 T.lT rfl WU rO ((by rintro c G Q E ⟨ns,k,e,_⟩;rw[e];rfl)) (rl T) λc G Q E f q=>?_;obtain⟨ns,k,rfl,d,q⟩:=q;show Ae _ _ (AC Q) [some (.rol (ns.map W.int)),some (.int k)] G;by_cases b:k <((ns.map W.int).length:Int)
 ·obtain⟨v,e⟩:=rN d (by simpa using b);simp only[Ae,gIf,gTB,Ad,AY,gB,rF,AM,BZ,Aa,Ac,Ab,Yb,Yc,AB,b,Af,ixW,e,Aj];exact q v
 ·simp only[Ae,gIf,gTB,Ad,AY,gB,rF,AM,BZ,Aa,Ac,Ab,Yb,Yc,AB,b];exact q 0
def W8:Spw:=λws G Q _=>∃(ns:List Int)(k:Int),ws=[.rol (ns.map W.int),.int k]/\0<=k/\∀ p(x:Int)(b:Bool),G p=none->Q (.ref p) (put G p (.lst [.int x,.bl b]))
theorem rP:Spw.M W8:=(by rintro c G Q d E b h _ ⟨ns,k,h1,h2,q⟩;exact⟨ns,k,h1,h2,λp x y a=>h _ _ (q p x y a)⟩)
theorem W9:EZ 10 18:=⟨by decide,by decide,by decide⟩
theorem FA(T:Tx K mg base a):Df P w K mg base "_law_state" 2 2 W8:=by
 refine mk0 T.lU rfl WW rP ((by rintro c G Q E ⟨ns,k,e,_⟩;rw[e];rfl)) (ro T (Lb T) (Yr _)) λc G Q E f q=>?_;obtain⟨ns,k,rfl,d,q⟩:=q;refine⟨ns,k,rfl,d,λv=>?_⟩;walk_at "rd";refine⟨W9,BC (λh=>?_) (λh=>?_)⟩
 ·exact⟨W9,trivial,by decide,λp b=>q p _ _ b⟩
 ·exact⟨by decide,by decide,λp b=>q p _ _ b⟩
def DU:Spw:=λws G Q _=>∃(s:Addr)(m x:Int)(b:Bool)(l:List W),ws=[.ref s,.int m]/\0 < m/\m < 1267650600228229401496703205376/\G s=some (.lst (.int x::.bl b::l))/\∀ r x':Int,0<=r->r < m->Q (.int r) (put G s (.lst (.int x'::.bl b::l)))
theorem rQ:Spw.M DU:=(by rintro j G Q g E i h _ ⟨s,m,x,b,l,h1,h2,c,a,q⟩;exact⟨s,m,x,b,l,h1,h2,c,a,λr d f e=>h _ _ (q r d f e)⟩)
theorem rR(n:Nat):ixN (n+1) 0=some 0:=by unfold ixN;rw[if_pos (Int.le_refl 0),if_pos (by lia)];rfl
theorem rS(n:Nat):ixN (n+3) 2=some 2:=by unfold ixN;rw[if_pos (by decide),if_pos (by lia)];rfl
theorem Xa(h:G s=some (.lst (x::l)))(q:Q (put G s (.lst (v::l)))):D5 (.ref s) (.int 0) v G Q:=MX h (rR l.length) q
theorem Xb(h:G s=some (.lst [x,y,z]))(q:Q (put G s (.lst [x,y,v]))):D5 (.ref s) (.int 2) v G Q:=MX h (rS 0) q
theorem ix0(h:G s=some (.lst (x::l))):ixW (.ref s) (.int 0) G=some x:=by rw[Fc h];exact BF
theorem ix1(h:G s=some (.lst (x::y::l))):ixW (.ref s) (.int 1) G=some y:=by rw[Fc h];exact CF
theorem ix2(h:G s=some (.lst (x::y::z::l))):ixW (.ref s) (.int 2) G=some z:=by rw[Fc h];exact Dl
theorem Xd(b:0<=x)(h1:x < m)(a:m<=2147483647):-(2 ^ 64) < x/\x < 2 ^ 64:=by
 have:(2:Int) ^ 64=18446744073709551616:=by decide
 lia
theorem AU(T:Tx K mg base a):Df P w K mg base "_law_choice" 1 2 DU:=by
 refine mk0 T.lV rfl WY rQ ((by rintro o G Q E ⟨s,m,x,b,l,e,_⟩;rw[e];rfl)) (rq T) λo G Q E p q=>?_;obtain⟨s,m,x,b,l,rfl,c,i,f,q⟩:=q;show Ae (gIf _ _ Au) _ (AC Q) [some (.ref s),some (.int m),none,none] G;simp only[Ae,gIf,AH,Ad,Af,Ab,gC,Yb,ix1 f];cases b with
 | true =>
  simp only[Ae,Ak,CM,Ad,AI,Af,Ab,gC,Yb,Yl,ix0 f];exact⟨c,⟨⟨c,i⟩,Xa f (q _ _ (Int.emod_nonneg _ (by lia)) (Int.emod_lt_of_pos _ c))⟩⟩
 | false =>
  simp only[Au,Ae,CM,Ad,AI,Af,gC,Ab,Yb,ix0 f];refine⟨.inr ⟨by decide,by decide⟩,by decide,Xa f ?_⟩;generalize h:(x*48271+29) % 2147483647=d;have j:0<=d:=by rw[<- h];exact Int.emod_nonneg _ (by decide)
  have b1:d < 2147483647:=by rw[<- h];exact Int.emod_lt_of_pos _ (by decide)
  have h2:put G s (.lst (.int d::.bl false::l)) s=some (.lst (.int d::.bl false::l)):=Ap;simp only[Ak,Ad,AI,Af,gC,Ab,Yb,ix0 h2,BL];refine⟨.inl (Xd j b1 (by decide)),.inl ⟨by decide,by decide⟩,by decide,?_⟩;generalize g:(d*d+39373*d+7) % 2147483629=x3;have n:0<=x3:=by rw[<- g];exact Int.emod_nonneg _ (by decide)
  have k:x3 < 2147483629:=by rw[<- g];exact Int.emod_lt_of_pos _ (by decide)
  exact⟨.inl (Xd n k (by decide)),.inl ⟨by decide,by decide⟩,(show(0:Int) < 2147483587 by decide),⟨⟨by decide,by decide⟩,c,q _ _ (Int.emod_nonneg _ (by lia)) (Int.emod_lt_of_pos _ c)⟩⟩
theorem sz{n:Nat}(h:Nat.ble n 100=true):n<=sizeLine:=Bo (Yt (Nat.le_of_ble_eq_true h) (by decide))
def St(f:Bool)(s:Addr)(G:Hw):Prop:=∃(x:Int)(b:Bool)(c:Int),G s=some (.lst (.int x::.bl b::if f then[.int c]else[]))
def Hs(f:Bool)(s:Addr)(G G':Hw):Prop:=St f s G'/\∀ b,b≠s->∀ u,G b=some u->G' b=some u
section
variable {f:Bool}{s p:Addr}{G:Hw}{o:HW}
theorem Hs.trans(h:Hs f s G G1)(h':Hs f s G1 G2):Hs f s G G2:=⟨h'.1,λb a u c=>h'.2 b a u (h.2 b a u c)⟩
theorem Hs.refl(h:St f s G):Hs f s G G:=⟨h,λ_ _ _ h=>h⟩
theorem St.put(h:St f s G)(a:G p=none):St f s (put G p o):=by
 obtain⟨x,b,c,e⟩:=h;exact⟨x,b,c,by rw[AX (Do e a)];exact e⟩
theorem Hs.put(h:Hs f s G G1)(a:G1 p=none):Hs f s G (put G1 p o):=⟨h.1.put a,λb c u d=>Az a _ _ (h.2 b c u d)⟩
theorem Hs.ne(h:St f s G)(a:G p=none):p≠s:=by
 obtain⟨x,b,c,e⟩:=h;exact YU (Do e a)
theorem Hs.new(h:St f s G)(a:G p=none):Hs f s G (L3.put G p o):=(Hs.refl h).put a
theorem BB(i:0 < m)(h:m<=1000000000000000000000)(a:St f s G)(k:∀(r:Int)(d:Hw),0<=r->r < m->Hs f s G d->Z (.int r) d):DU [.ref s,.int m] G Z E:=by
 obtain⟨x,b,c,a⟩:=a;exact⟨s,m,x,b,_,rfl,i,by lia,a,λr g h1 h2=>k r _ h1 h2 ⟨⟨g,b,c,Ap⟩,λb e u j=>by rw[AX e];exact j⟩⟩
theorem Ct(h:G p=some (.lst xs))(b:0<=r)(h1:r <(xs.length:Int)):∃ x∈xs,ixW (.ref p) (.int r) G=some x:=by
 obtain⟨k,rfl⟩:∃ k:Nat,r=(k:Int):=⟨r.toNat,by lia⟩;have a:k < xs.length:=by lia
 refine⟨xs[k],Qc a,?_⟩;rw[Fc h];exact L2.CK (Yp a)
theorem Pe(l:m=(xs.length:Int))(j:0 < m)(h1:m<=1000)(b:St f s G)(k:∀ x∈xs,∀ a,Hs f s G a->Z x a):xs.length<=sizeLine/\∀ p,G p=none->DU [.ref s,.int m] (L3.put G p (.lst xs)) (λw a=>Af ixW (.ref p) w a Z) E:=by
 refine⟨Bo (by lia),λp d=>?_⟩;have c:=Hs.ne b d;refine BB j (by lia) (b.put d) λr a i r1 g=>?_;obtain⟨x,h,e⟩:=Ct (g.2 p c _ Ap) i (by lia);show opt (ixW (.ref p) (.int r) a) _;rw[e];exact k x h a ((Hs.new b d).trans g)
theorem FC{ss:List Str}(d:m=(ss.length:Int))(h:0 < m)(h1:m<=1000)(c:St f s G)(k:∀ x∈ss,∀ a,Hs f s G a->Z (.str x) a):(ss.map W.str).length<=sizeLine/\∀ p,G p=none->DU [.ref s,.int m] (L3.put G p (.lst (ss.map W.str))) (λw a=>Af ixW (.ref p) w a Z) E :=
 Pe (by rw[Yh];exact d) h h1 c λx g a b=>by
  obtain⟨y,e,rfl⟩:=YC.mp g;exact k y e a b
def EU{α:Type}(f:Bool)(A:α->Addr->List W->Hw->Prop)(R:α->Addr->W->Hw->Prop):Spw:=λws G Q _=>∃ a s,A a s ws G/\St f s G/\∀ r G',R a s r G'->Hs f s G G'->Q r G'
theorem DV{α:Type}{A:α->Addr->List W->Hw->Prop}{R:α->Addr->W->Hw->Prop}:Spw.M (EU f A R):=(by rintro i G Q e E g h _ ⟨a,s,h1,h2,q⟩;exact⟨a,s,h1,h2,λr c d b=>h _ _ (q r c d b)⟩)
theorem Xe(h:G p=some (.lst xs))(h':G q=some (.lst ys))(hl:xs.length+ys.length<=sizeLine)(z:∀ r,G r=none->Q (.ref r) (L3.put G r (.lst (xs++ys)))):Aw (.ref p) (.ref q) G Q:=by
 show L3.BS (.ref p) (.ref q) G Q;unfold L3.BS;dsimp only;rw[h,h'];exact⟨hl,z⟩
theorem CT(h:G p=some (.lst xs))(h':G q=some (.lst ys))(hl:xs.length+ys.length<=100000)(z:∀ r,G r=none->Q (.ref r) (L3.put G r (.lst (xs++ys)))):Aw (.ref p) (.ref q) G Q:=Xe h h' (Bo hl) z
theorem Je{An:GS}(b:St f s G)(d:∀ Z:List W->Hw->Prop,Z xs G->gs ω G Z)(hl:xs.length<=100)(z:∀ p a,Hs f s G a->p≠s->a p=some (.lst xs)->An D (ω.set i (some (.ref p))) a):Ae (Ak i (Aq gs)) An D ω G :=
 AK (d _ ⟨Bo (by lia),λp c=>z p _ (Hs.new b c) (Hs.ne b c) Ap⟩)
theorem Gm{An:GS}(e:Hs f s g G)(hi:ω[i]?=some (some (.ref p)))(j:G p=some (.lst xs))(h:∀ Z:List W->Hw->Prop,Z ys G->gs ω G Z)(hl:xs.length+ys.length<=100)(z:∀ b c,Hs f s g c->b≠s->c b=some (.lst (xs++ys))->An D (ω.set i (some (.ref b))) c):Ae (Ak i (Ad Aw (Ab i) (Aq gs))) An D ω G:=by
 refine AK ?_;simp only[Ad,Ab,hi];exact h _ ⟨Bo (by lia),λp2 a=>CT (Az a _ _ j) Ap (by lia) λr d=>z r _ ((e.put a).put d) (Hs.ne (e.1.put a) d) Ap⟩
def kdl:List Kd:=[.num,.num,.truth,.any,.box .num,.box .any,.to .num .num,.to .any .num,.row (.cons "a" true .num .nil) false,.row (.cons "a" false .num (.cons "b" true .num .nil)) false,.row .nil true,.row (.cons "a" true .truth .nil) true,.to (.to .num .num) .num,.to .num (.to .num .num),.box (.to .num .num),.row (.cons "a" true (.to .num .num) (.cons "b" false .num .nil)) true,.row (.cons "b" false .any .nil) false,.to (.row .nil true) .any]
abbrev KOk(k:Kd):Prop:=k.ok=true/\BG k=true
theorem rT:∀ k∈kdl,KOk k:=by
 have h:(kdl.all λk=>k.ok&&BG k)=true:=by decide +kernel
 intro k a;have:=List.all_eq_true.mp h k a;simp only[YF]at this;exact this
local macro_rules | `(tactic| walk_at "cl") => `(tactic| (simp only [Ah, gC, Aa, Ac, Ab, Yb, Yc, Yk, Yl]; repeat (first | exact z | refine ⟨sz rfl, ?_⟩)))
abbrev rV(f:Bool):Spw:=EU f (λ(_:Unit)s ws _=>ws=[.ref s]) λ_ _ r _=>∃ k:Kd,r=k.enc/\KOk k
theorem Fw(T:Tx K mg base a):Df P w K mg base "_law_told_kind" 2 1 (rV f):=by
 refine mk0 T.lW rfl W0 DV (λws G Q E⟨_,s,e,_⟩=>by rw[e];rfl) (rs T (AU T) (Yr _)) λws G Q E hC q=>?_;obtain⟨_,s,rfl,hs,q⟩:=q;show Ae (Ak 1 _) _ (AC Q) [some (.ref s),none,none,none] G;refine AK ⟨by decide,AK ⟨by decide,?_⟩⟩;refine Je hs (λZ z=>by walk_at "cl") (by decide) λp G h hne hp=>Gm h rfl hp (λZ z=>by walk_at "cl") (by decide) λp G h hne hp=>?_;refine Gm h rfl hp (λZ z=>by walk_at "cl") (by decide) λp G h hne hp=>Gm h rfl hp (λZ z=>by walk_at "cl") (by decide) λp G h hne hp=>?_;refine Gm h rfl hp (λZ z=>by walk_at "cl") (by decide) λp G h hne hp=>?_;have hp:G p=some (.lst (kdl.map Kd.enc)):=hp;simp only[Aj,Ad,Ai,Aa,Ac,Ab,gC];refine BB (by decide) (by decide) h.1 λr G2 r0 r1 h2=>?_;obtain⟨x,hx,e⟩:=Ct (h2.2 p hne _ hp) r0 (r1);show opt (ixW (.ref p) (.int r) G2) _;rw[e];obtain⟨k,hk,rfl⟩:=YC.mp hx;exact q _ _ ⟨k,rfl,rT k hk⟩ (h.trans h2)
abbrev Xf:List Str:=["state","want","number","some"]
theorem Lc:Ay Xf ["state","want"] (Ao N7):=by walk_at "s"
abbrev yZ:=gC (.int 9)
abbrev yW:=gC (.int 20)
def rW(AA:Spw):GS:=(Ae (Ak 2 (Ad (BL) (Ad (Af ixW) (Aq (Aa dl (Aa (D7 dl) Ac))) (Ai AA XF yo)) (Ai AA XF (Aa ad (Aa (Ad (Af ixW) (Aq (Aa yZ (Aa (Ad (AI EZ λi j=>i ^ j.toNat) yj yW) Ac))) (Ad (AI FN λi j=>i / j) (Ai AA XF (Aa ad (Aa yZ Ac))) yG)) Ac))))) (Ae (Ak 3 (Fb ["num","truth","row"] (Aa (Ah (Aa ln kw)) (Aa (Ah (Aa x2 (Aa (Ad (Af (eqF false)) (Ai AA XF yo) dl) Ac))) (Aa (Ah (Aa yf (Aa (Ah Ac) Ac))) Ac))))) (Ae (AN (gMt Nm To ya (Aa (Fb ["box","to"] (Aa (Ah (Aa yr (Aa (Ah (Aa ln kw)) Ac))) (Aa (Ah (Aa yd (Aa yE (Aa yt (Aa (Ah (Aa yh (Aa yE Ac))) Ac))))) Ac))) Ac))) (Aj (Ad (Af ixK) ya na)))))
theorem rX(T:Tx K mg base a){AU:Nat}(Ee:Df P w K mg base "_law_choice" AU 2 AA)(Ef:AU<=k):Dn P w K mg base Xf "_law_leaf" N7 k (rW AA):=λ{f cdv A outer s H E}hr=>
 have hu:=AQ hr
 have hN:=Lc.nd
 (Av (Bt (i:=2) Lc.nd rfl rfl rfl (SJ (JQ (λ_ _=>rfl) (HV (AO rfl Eu (AO rfl (Nv Eu) A8))) (by walk_at "v")) (by walk_at "v"))) (Av (Bt (i:=3) Lc.nd rfl rfl rfl (Ny (ks:=["num","truth","row"]) (by rfl) (by intro h;cases h) (by exact(by decide:3<=15)) (by decide) (F7 (by walk_at "v") (F7 (by walk_at "v") (F7 (by walk_at "v") Nx))))) (Av (BU rfl (C6 Tp rfl rfl rfl rfl rfl (by walk_at "v") (AO rfl (Ny (ks:=["box","to"]) (by rfl) (by intro h;cases h) (by exact(by decide:2<=15)) (by decide) (F7 (by walk_at "v") (F7 (by walk_at "v") Nx))) A8))) (by walk_at "v"))))
abbrev Xg:List Str:=["state","deep","names","head","want","known","some","found"]
theorem Pf:Ay Xg ["state","deep","names","head","want"] (Ao Ka):=by walk_at "s"
abbrev yM:=gTB (Ad (Af (eqF true)) yJ (Aq Ac))
abbrev yL:=Aa (Ab 6) Ac
abbrev yI:=Aa ye Ac
abbrev yx:=gC (.int 4)
abbrev yi:=gTB (Ad (Af (inF false)) na (Aq (Aa r6 wp)))
abbrev yc:=gC (.str "as")
def rY(AA:Spw)(ET:Spw)(ES:Spw)(AZ:Spw):GS:=(Ae (Ak 5 (B9 (DI r6) 2 [3] (Bb 0 1) yi ad)) (Ae (gIf (A7 yM (gTB (Ad (Bi λi j=>decide (j < i)) (Ai AA XF x9) u8))) (Ak 7 (Ah (Aa yh (Aa (Ad (Af ixW) yJ (Ai AA XF (Aa ad (Aa yR Ac)))) Ac)))) (gIf (gTB (Ad (Af (eqF false)) ya yb)) (Ak 7 (Ai ET XF (Aa ad (Aa na (Aa r6 yI))))) (gIf yT (Ak 7 (Ai ES XF (Aa ad (Aa na (Aa r6 yI))))) (Ak 7 (Ah (Aa yr (Aa (Ai AZ XF (Aa ad (Aa h0 (Aa r6 yI)))) Ac))))))) (Ae (Ak 6 (Aq (Aa (Ah wp) yu))) (Ae (gIf yT (Ae (Ak 6 (Ad (Aw) (Ab 6) (Aq (Aa y4 (Aa (Ah (Aa r4 (Aa (Ah (Aa (Ah (Aa yD (Aa yH (Aa yt Ac)))) Ac)) wT))) Ac))))) (Ak 6 (Ad (Aw) (Ab 6) (Aq (Aa (Ah (Aa r4 (Aa (Ah (Aa (Ah (Aa x8 (Aa yq yu))) Ac)) wT))) (Aa (Ah (Aa r4 (Aa (Ah (Aa (Ah (Aa (gC (.str "ab")) (Aa yq (Aa yt Ac)))) Ac)) wT))) Ac)))))) Au) (Ae (gIf (gTB (Ad (Af (eqF false)) (Ai AA XF (Aa ad (Aa yx Ac))) dl)) (Ak 7 (Ah (Aa yc (Aa (Ab 7) (Aa (Ad (Af ixW) (Ab 6) (Ai AA XF (Aa ad (Aa (gB (rF AM) yL) Ac)))) Ac))))) Au) (Aj (Ab 7)))))))
theorem rZ(T:Tx K mg base a){AU:Nat}(Ee:Df P w K mg base "_law_choice" AU 2 AA)(Ef:AU<=k)(rL:Df P w K mg base "_law_function" Fz 4 ET)(rM:Fz<=k)(rJ:Df P w K mg base "_law_record" Fy 4 ES)(rK:Fy<=k)(Jc:Df P w K mg base "_law_term" BX 4 AZ)(Jd:BX<=k):Dn P w K mg base Xg "_law_first" Ka k (rY AA ET ES AZ):=λ{f cdv A outer s H E}hr=>
 have hu:=AQ hr
 have hN:=Pf.nd
 (Av (SK (i:=5) Pf.nd rfl rfl rfl rfl (Ie (own:=["name","there"]) (fr:=["head"]) (js:=[3]) (scX:=Ao Ka) (n:=s.heap.objs.size+1) rfl (by decide +kernel) (by decide +kernel) (by decide +kernel) (by decide +kernel) rfl rfl rfl (by decide +kernel) rfl) (λ_=>rfl) (by walk_at "v") (So (i:=0) (j:=1) rfl (by decide) rfl rfl rfl rfl) (λC fp s1 H1=>(by walk_at "v")) (λC fp s1 H1=>(by walk_at "v"))) (by walk_at "v"))
abbrev Xh:List Str:=["state","deep","names","want","pick","known","one","wanted","first","head"]
theorem Pg:Ay Xh ["state","deep","names","want"] (Ao Kb):=by walk_at "s"
abbrev yV:=gC (.str "get")
abbrev yP:=gC (.str "read")
abbrev yF:=Aq (Aa ln (Aa x2 (Aa r4 (Aa x4 (Aa yb Ac)))))
abbrev yz:=gC (.str "if")
abbrev yp:=Aa (Ab 9) Ac
abbrev ym:=Aa (gC (.int 5)) Ac
def sd(AA:Spw)(Ld:Spw)(Le:Spw)(Gn:Spw)(AZ:Spw)(ER:Spw):GS:=(Ae (CM (Ad (AI (λ_ _=>True) λi j=>i - j) re dl) ad (gC (.int 2))) (Ae (gIf (gOr (gTB (Ad (Af (eqF false)) ya (gC (.str "any")))) (gTB (Ad (Af (eqF false)) (Ai AA XF (Aa ad (Aa (gC (.int 30)) Ac))) dl))) (Ak 3 (Ad (Af ixW) yF (Ai AA XF (Aa ad ym)))) Au) (Ae (Ak 4 (Ai AA XF (Aa ad (Aa yj Ac)))) (Ae (Ak 5 (B9 (DI r6) 2 [3] (Bb 0 1) yi ad)) (Ae (gIf (A7 (gTB (Ad (Af (eqF false)) ye u8)) yM) (Aj (Ah (Aa yh (Aa (Ad (Af ixW) (Ad (Aw) yJ (Aq (Aa (gC (.str "z")) Ac))) (Ad (AI FN λi j=>i / j) (Ai AA XF (Aa ad (Aa (Ad (Aw) (Ad (BL) yG yR) dl) Ac))) yG)) Ac)))) Au) (Ae (gIf (gOr (gTB (Ad (AY (λi j=>decide (i < j)) AT) na yw)) (gTB (Ad (AY (λi j=>decide (i < j)) AT) re yx))) (Aj (Ai Ld XF (Aa ad yk))) Au) (Ae (gIf (gTB (Ad (AY (λi j=>decide (i < j)) AT) ye yw)) (Aj (Ai Le XF (Aa ad (Aa na (Aa r6 yk))))) Au) (Ae (gIf (gTB (Ad (Af (inF false)) ye (Aq (Aa yx (Aa yZ Ac))))) (Ae (Ak 8 (Ai Gn XF (Aa ad (Aa na (Aa r6 (Aa yb yk)))))) (Ae (Ak 9 (Ad (Af ixW) (Aq (Aa ln (Aa yb (Aa r4 (Aa x4 Ac))))) (Ai AA XF (Aa ad (Aa yx Ac))))) (Ae (gIf (gTB (Ad (Af (eqF false)) (Ad (Af ixW) (Ab 8) u8) yd)) (Ak 9 (Ad (Af ixW) (Ad (Af ixW) (Ab 8) (gC (.int 2))) u8)) Au) (Aj (Ah (Aa (gC (.str "call")) (Aa (Ab 8) (Aa (Ai AZ XF (Aa ad (Aa h0 (Aa r6 yp)))) Ac)))))))) Au) (Ae (gIf (gTB (Ad (Af (eqF false)) ye (gC (.int 5)))) (Aj (Ah (Aa yV (Aa (Ai Gn XF (Aa ad (Aa na (Aa r6 (Aa r4 yk))))) (Aa (Ad (Af ixW) (Aq (Aa x8 (Aa x8 (Aa yD (Aa (gC (.str "ab")) Ac))))) (Ai AA XF (Aa ad (Aa yx Ac)))) Ac))))) Au) (Ae (Ak 6 (Ai AZ XF (Aa ad (Aa h0 (Aa r6 yk))))) (Ae (gIf (gTB (Ad (Af (eqF false)) ye yw)) (Aj (Ah (Aa yz (Aa (Ai AZ XF (Aa ad (Aa h0 (Aa r6 (Aa x2 Ac))))) (Aa (Ab 6) (Aa (Ai AZ XF (Aa ad (Aa h0 (Aa r6 yk)))) Ac)))))) Au) (Ae (gIf (gTB (Ad (Af (eqF false)) ye (gC (.int 6)))) (Aj (Ah (Aa (gC (.str "or")) (Aa (Ai Gn XF (Aa ad (Aa h0 (Aa r6 (Aa r4 yk))))) (Aa (Ad (Af ixW) (Aq (Aa x8 (Aa yD (Aa (gC (.str "c")) Ac)))) (Ai AA XF x9)) yL))))) Au) (Ae (gIf (gTB (Ad (Af (eqF false)) ye (gC (.int 7)))) (Ae (Ak 8 (Ai Gn XF (Aa ad (Aa na (Aa r6 (Aa x4 yk)))))) (Aj (Ad (Af ixW) (Aq (Aa (Ah (Aa yP (Aa (Ab 8) Ac))) (Aa (Ah (Aa (gC (.str "write")) (Aa (Ab 8) yL))) Ac))) (Ai AA XF yo)))) Au) (Ae (Ak 7 (Aq (Aa (Ah (Aa yc (Aa (Ab 6) yu))) (Aa (Ah (Aa yc (Aa (Ah (Aa yc (Aa (Ab 6) yu))) (Aa (Ai ER XF wS) Ac)))) Ac)))) (Aj (Ad (Af ixW) (Ab 7) (Ai AA XF yo)))))))))))))))))
theorem se(T:Tx K mg base a){AU:Nat}(Ee:Df P w K mg base "_law_choice" AU 2 AA)(Ef:AU<=k)(xG:Df P w K mg base "_law_leaf" Lf 2 Ld)(xH:Lf<=k)(xI:Df P w K mg base "_law_made" Lg 4 Le)(xJ:Lg<=k)(xK:Df P w K mg base "_law_first" Lh 5 Gn)(xL:Lh<=k)(Jc:Df P w K mg base "_law_term" BX 4 AZ)(Jd:BX<=k){Fw:Nat}(rA:Df P w K mg base "_law_told_kind" Fw 1 ER)(rB:Fw<=k):Dn P w K mg base Xh "_law_term" Kb k (sd AA Ld Le Gn AZ ER):=λ{f cdv A outer s H E}hr=>
 have hu:=AQ hr
 have hN:=Pg.nd
 (Av (by walk_at "v") (Av (by walk_at "v") (Av (by walk_at "v") (Av (SK (i:=5) Pg.nd rfl rfl rfl rfl (Ie (own:=["name","head"]) (fr:=["want"]) (js:=[3]) (scX:=Ao Kb) (n:=s.heap.objs.size+1) rfl (by decide +kernel) (by decide +kernel) (by decide +kernel) (by decide +kernel) rfl rfl rfl (by decide +kernel) rfl) (λ_=>rfl) (by walk_at "v") (So (i:=0) (j:=1) rfl (by decide) rfl rfl rfl rfl) (λC fp s1 H1=>(by walk_at "v")) (λC fp s1 H1=>(by walk_at "v"))) (by walk_at "v")))))
def TmB(c d:Nat)(t:Te):Prop:=t.ok=true/\t.cnt<=c/\t.dp<=d
theorem TmB.mono{a:Nat}(h:TmB c d t)(hc:c<=a)(hd:d<=b):TmB a b t:=⟨h.1,Yt h.2.1 hc,Yt h.2.2 hd⟩
theorem Da{w:Str}(h:KTD.datumAt w AF=some r.sorts)(h2:r.ok=true):(Te.nd w r).ok=true:=by
 show(decide (KTD.datumAt w AF=some r.sorts)&&r.ok)=true;rw[YG h,h2];rfl
theorem Ph(h:TmB c d t)(a:KOk k):TmB (c+1) (d+1) (.nd "as" (.trm t (.knd k .nil))):=by
 obtain⟨h1,h2,b⟩:=h;refine⟨Da (show KTD.datumAt ("as":Str) AF=some [("term":Str),"kind"] by decide +kernel) ?_,?_,?_⟩
 ·show(t.ok&&((k.ok&&BG k)&&true))=true;rw[h1,a.1,a.2];rfl
 ·show 1+(t.cnt+0)<=_;lia
 ·show 1+max t.dp 0<=_;lia
theorem Pi{w:Str}{a:Nat}(hw:KTD.datumAt w AF=some [("term":Str),"term"])(h:TmB b d t)(h':TmB a d u):TmB (b+a+1) (d+1) (.nd w (.trm t (.trm u .nil))):=by
 obtain⟨h1,h2,c⟩:=h;obtain⟨g1,g2,g3⟩:=h';refine⟨Da hw ?_,?_,?_⟩
 ·show(t.ok&&(u.ok&&true))=true;rw[h1,g1];rfl
 ·show 1+(t.cnt+(u.cnt+0))<=_;lia
 ·show 1+max t.dp (max u.dp 0)<=_;lia
theorem Li{w:Str}(hw:KTD.datumAt w AF=some [("term":Str)])(h:TmB c d t):TmB (c+1) (d+1) (.nd w (.trm t .nil)):=by
 obtain⟨h1,h2,a⟩:=h;refine⟨Da hw ?_,?_,?_⟩
 ·show(t.ok&&true)=true;rw[h1];rfl
 ·show 1+(t.cnt+0)<=_;lia
 ·show 1+max t.dp 0<=_;lia
theorem sf(h:TmB c d t)(a:Ax x=true):TmB (c+1) (d+1) (.nd "get" (.trm t (.nam x .nil))):=by
 obtain⟨h1,h2,b⟩:=h;refine⟨Da (show KTD.datumAt ("get":Str) AF=some [("term":Str),"name"] by decide +kernel) ?_,?_,?_⟩
 ·show(t.ok&&(Ax x&&true))=true;rw[h1,a];rfl
 ·show 1+(t.cnt+0)<=_;lia
 ·show 1+max t.dp 0<=_;lia
theorem sh{a:Nat}(h:TmB b d t)(c:Ax x=true)(h':TmB a d u):TmB (b+a+1) (d+1) (.nd "or" (.trm t (.nam x (.trm u .nil)))):=by
 obtain⟨h1,h2,e⟩:=h;obtain⟨g1,g2,g3⟩:=h';refine⟨Da (show KTD.datumAt ("or":Str) AF=some [("term":Str),"name","term"] by decide +kernel) ?_,?_,?_⟩
 ·show(t.ok&&(Ax x&&(u.ok&&true)))=true;rw[h1,c,g1];rfl
 ·show 1+(t.cnt+(u.cnt+0))<=_;lia
 ·show 1+max t.dp (max u.dp 0)<=_;lia
theorem si(h:TmB c d t)(h':TmB c d u)(a:TmB c d v):TmB (3*c+1) (d+1) (.nd "if" (.trm t (.trm u (.trm v .nil)))):=by
 obtain⟨h1,h2,e⟩:=h;obtain⟨g1,g2,g3⟩:=h';obtain⟨b,g,f⟩:=a;refine⟨Da (show KTD.datumAt ("if":Str) AF=some [("term":Str),"term","term"] by decide +kernel) ?_,?_,?_⟩
 ·show(t.ok&&(u.ok&&(v.ok&&true)))=true;rw[h1,g1,b];rfl
 ·show 1+(t.cnt+(u.cnt+(v.cnt+0)))<=_;lia
 ·show 1+max t.dp (max u.dp (max v.dp 0))<=_;lia
theorem Xi(b:Ax x=true)(a:KOk k)(h:TmB c d t):TmB (c+1) (d+1) (.nd "fun" (.nam x (.knd k (.trm t .nil)))):=by
 obtain⟨h1,h2,e⟩:=h;refine⟨Da (show KTD.datumAt ("fun":Str) AF=some [("name":Str),"kind","term"] by decide +kernel) ?_,?_,?_⟩
 ·show(Ax x&&((k.ok&&BG k)&&(t.ok&&true)))=true;rw[h1,b,a.1,a.2];rfl
 ·show 1+(t.cnt+0)<=_;lia
 ·show 1+max t.dp 0<=_;lia
theorem Pj(a:Ax x=true):TmB 1 1 (.nd "name" (.nam x .nil)):=by
 refine⟨Da (show KTD.datumAt ("name":Str) AF=some [("name":Str)] by decide +kernel) ?_,Yr 1,Yr 1⟩;show(Ax x&&true)=true;rw[a];rfl
theorem sj(b:Bool):TmB 1 1 (.nd "truth" (.tru b .nil)):=⟨Da (show KTD.datumAt ("truth":Str) AF=some [("truth":Str)] by decide +kernel) rfl,Yr 1,Yr 1⟩
theorem Pk(l:List Str)(s:Str)(h:G p=some (.lst xs))(e:xs=l.map W.str):inF false (.str s) (.ref p) G=some (.bl (l.any (·==s))):=by
 unfold inF;rw[NA h,e];show((GV (l.map W.str)).map _)=_;rw[Tt];show some (W.bl (inV (.str s) (l.map V.str)))=_;rw[Tu]
section
variable {s p:Addr}{G:Hw}{n d:Nat}
theorem sk(h:-NB<=i/\i<=NB):TmB 1 1 (.nd "num" (.num i .nil)):=by
 refine⟨Da (show KTD.datumAt ("num":Str) AF=some [("number":Str)] by decide +kernel) ?_,Yr 1,Yr 1⟩;show(decide (-NB<=i/\i<=NB)&&true)=true;rw[YG h];rfl
theorem Xj{f:Fl}(h1:Bp f.names=true)(h2:f.ok=true)(hc:f.cnt<=c)(hd:f.dp<=d):TmB (c+1) (d+1) (.nd "rec" (.fld f .nil)):=by
 refine⟨Da (show KTD.datumAt ("rec":Str) AF=some [("fields":Str)] by decide +kernel) ?_,?_,?_⟩
 ·show((Bp f.names&&f.ok)&&true)=true;rw[h1,h2];rfl
 ·show 1+(f.cnt+0)<=_;lia
 ·show 1+max f.dp 0<=_;lia
abbrev Pl(x:Str×Str):W:=.tup [.str x.1,.str x.2]
def NL(s:Addr)(G:Hw)(p:Addr)(ns:List (Str×Str))(d:Nat):Prop:=p≠s/\G p=some (.lst (ns.map Pl))/\(∀ x∈ns,Ax x.1=true)/\ns.length+d<=12
theorem NL.keep(h:NL s G p ns d)(a:Hs true s G G1):NL s G1 p ns d:=⟨h.1,a.2 _ h.1 _ h.2.1,h.2.2⟩
theorem NL.less(h:NL s G p ns d)(a:e<=d):NL s G p ns e:=⟨h.1,h.2.1,h.2.2.1,by have:=h.2.2.2;lia⟩
def bc:Nat->Nat
 | 0=>2
 | n+1=>4*bc n+3
theorem bc2:∀ n,2<=bc n
 | 0=>Yr _
 | n+1=>by show 2<=4*bc n+3;lia
abbrev TO(d:Nat)(t:Te):Prop:=TmB (bc d) (2+3*d) t
def HD6:List Str:=["num","truth","row","box","to","any"]
abbrev Ar:Type:=Nat×List (Str×Str)×Addr×Str
abbrev A4(n:Nat)(x:Ar)(s:Addr)(ws:List W)(G:Hw):Prop:=ws=[.ref s,.int (x.1:Nat),.ref x.2.2.1,.str x.2.2.2]/\x.1 < n/\NL s G x.2.2.1 x.2.1 x.1/\x.2.2.2∈HD6
abbrev DW(n:Nat):Spw:=EU true (A4 n) λx _ r _=>∃ t:Te,r=t.enc/\TO x.1 t
abbrev Lj(n:Nat)(c:Nat->Nat):Spw:=EU true (λx s ws G=>A4 (n+1) x s ws G/\1<=x.1) λx _ r _=>∃ t:Te,r=t.enc/\TmB (c (bc (x.1 - 1))) (3*x.1) t
abbrev Pn(n:Nat):Spw:=EU true (λ(x:Ar×Str)s ws G=>ws=[.ref s,.int (x.1.1:Nat),.ref x.1.2.2.1,.str x.2,.str x.1.2.2.2]/\(x.1.1 < n+1/\NL s G x.1.2.2.1 x.1.2.1 x.1.1/\x.1.2.2.2∈HD6)/\1<=x.1.1/\x.2∈(["to","row","box"]:List Str)) λx _ r _=>∃ t:Te,r=t.enc/\TmB (3*bc (x.1.1 - 1)+2) (3*x.1.1+1) t
theorem EV{w:Str}(hi:i=((d:Nat):Int))(hd:d < n)(b:St true s G)(c:NL s G pn ns d)(hw:w∈HD6)(k:∀ t a,TO d t->Hs true s G a->Z t.enc a):DW n [.ref s,.int i,.ref pn,.str w] G Z E:=by
 subst hi;exact⟨(d,ns,pn,w),s,⟨rfl,hd,c,hw⟩,b,λr a⟨t,e,f⟩h=>by rw[e];exact k t a f h⟩
theorem Jf{w:Str}(hd:d+1 < n+1)(b:St true s G)(f:NL s G pn ns (d+1))(hw:w∈HD6)(k:∀ t a,TmB (c (bc d)) (3*(d+1)) t->Hs true s G a->Z t.enc a):Lj n c [.ref s,.int ((d+1:Nat):Int),.ref pn,.str w] G Z E :=
 ⟨(d+1,ns,pn,w),s,⟨⟨rfl,hd,f,hw⟩,by lia⟩,b,λr a⟨t,e,g⟩h=>by rw[e];exact k t a g h⟩
theorem Xk(k:Kd)(G:Hw):ixW k.enc (.int 0) G=some (.str k.hd):=by
 obtain⟨xs,e⟩:=nj k;rw[e];exact BF
theorem sm(k:Kd):k.hd∈HD6:=by
 cases k with
 | any=>exact(by decide +kernel:("any":Str)∈HD6)
 | num=>exact(by decide +kernel:("num":Str)∈HD6)
 | truth=>exact(by decide +kernel:("truth":Str)∈HD6)
 | to x y=>exact(by decide +kernel:("to":Str)∈HD6)
 | box x=>exact(by decide +kernel:("box":Str)∈HD6)
 | row fs o=>exact(by decide +kernel:("row":Str)∈HD6)
local macro_rules | `(tactic| walk_at "sm") => `(tactic| try simp only [Aj, Ad, Aq, Ah, Ai, Aa, Ac, Ab, gC, Yk, Yl, Yb, Yc])
theorem Gp(d:Nat):(((d+1:Nat):Int) - 1)=((d:Nat):Int):=by lia
theorem Fz(T:Tx K mg base a)(hk:2<=k)(D:Df P w K mg base "_law_term" k 4 (DW n)):Df P w K mg base "_law_function" (k+1) 4 (Lj n λc=>c+1):=by
 refine mk0 T.lX rfl W2 DV (by rintro ws G Q E ⟨_,s,⟨⟨e,_⟩,_⟩,_⟩;rw[e];rfl) (rz T (AU T) (by lia) (Fw T (f:=true)) hk D (Yr _)) λws G Q E hC q=>?_;obtain⟨⟨d,ns,pn,wn⟩,s,⟨⟨rfl,hd,hn,hw⟩,h1⟩,hs,q⟩:=q;obtain⟨d,rfl⟩:∃ e,d=e+1:=⟨d - 1,by lia⟩;dsimp only at hd hn hw q;show Ae (Ak 4 _) _ (AC Q) [some (.ref s),some (.int ((d+1:Nat):Int)),some (.ref pn),some (.str wn),none,none] G;refine AK ?_;walk_at "sm";refine FC (ss:=["x","y","xy"]) rfl (by decide) (by decide) hs λnm hnm G1 h1=>AK ?_;walk_at "sm";refine⟨(),s,rfl,h1.1,λr G2⟨k,e,hk⟩h2=>?_⟩;subst e;have h2:=h1.trans h2
 have okn:Ax nm=true:=by
  have:(["x","y","xy"]:List Str).all Ax=true:=by decide +kernel
  exact List.all_eq_true.mp this nm hnm
 refine⟨trivial,?_⟩;simp only[Af,Xk];refine⟨sz rfl,sz rfl,λp2 hp2=>?_⟩;have hn2:=hn.keep h2;refine CT (Az hp2 _ _ hn2.2.1) Ap (by rw[Yh];have:=hn2.2.2.2;simp only[Yg,Yi];lia) λp3 hp3=>?_;have h3:=(h2.put hp2).put (o:=.lst (ns.map Pl++[.tup [.str nm,.str k.hd]])) hp3;refine EV (ns:=ns++[(nm,k.hd)]) (Gp d) (by lia) h3.1 ⟨Hs.ne (h2.1.put hp2) hp3,by rw[Ap,Yy];rfl,λx hx=>?_,?_⟩ hw λt G4 ht h4=>?_
 ·rcases Yz.mp hx with hx | hx
  ·exact hn.2.2.1 x hx
  ·rw[YA.mp hx];exact okn
 ·rw[Yj];have:=hn.2.2.2;simp only[Yg,Yi];lia
 ·exact⟨sz rfl,q _ _ ⟨_,rfl,(Xi okn hk ht).mono (Yr _) (by lia)⟩ (h3.trans h4)⟩
theorem sr{α:Type}(xs:List α)(i:Nat):Co xs (some (i:Int)) none=xs.drop i:=by
 unfold Co;rw[HT.sIx_nat];rcases Nat.le_total i xs.length with h | h
 ·rw[Nat.min_eq_left h];exact List.take_of_length_le (by rw[List.length_drop];exact Yr _)
 ·rw[Nat.min_eq_right h,List.drop_of_length_le h];simp
theorem Hs.set(h:Hs f s G G1)(i:G p=none)(a:p≠s):Hs f s G (L3.put G1 p o):=by
 obtain⟨⟨x,b,c,e⟩,h⟩:=h;exact⟨⟨x,b,c,by rw[AX (YU a)];exact e⟩,λb g u d=>by rw[AX (Do d i)];exact h b g u d⟩
theorem Hs.old(h:Hs f s G G1)(b:G1 p=none):p≠s/\G p=none:=by
 have a:=Hs.ne h.1 b;refine⟨a,?_⟩;cases e:G p with
 | none=>rfl
 | some u=>rw[h.2 p a u e]at b;cases b
theorem Xl(h:St true s G):∃ c:Int,ixW (.ref s) (.int 2) G=some (.int c):=by
 obtain⟨x,b,c,e⟩:=h;exact⟨c,ix2 e⟩
def BQ:List (Str×Te)->Fl
 | []=>.nil
 | x::l=>.cons x.1 x.2 (BQ l)
abbrev Cu(x:Str×Te):W:=.tup [.str x.1,x.2.enc]
theorem Po:∀ l:List (Str×Te),(BQ l).enc=l.map Cu
 | []=>rfl
 | x::l=>by show _::(BQ l).enc=_::l.map Cu;rw[Po l]
theorem Xm:∀ l:List (Str×Te),(BQ l).names=l.map (·.1)
 | []=>rfl
 | x::l=>by show _::(BQ l).names=_::l.map (·.1);rw[Xm l]
theorem Xn:∀ l:List (Str×Te),(∀ x∈l,Ax x.1=true/\TmB c e x.2)->(BQ l).ok=true/\(BQ l).cnt<=l.length*c/\(BQ l).dp<=e
 | [],_=>⟨rfl,YT _,YT _⟩
 | x::l,h=>by
  obtain⟨h1,h2,b⟩:=Xn l λy a=>h y (Yd _ a);obtain⟨g1,g2,g3,g4⟩:=h x Ye;refine⟨?_,?_,?_⟩
  ·show((Ax x.1&&x.2.ok)&&(BQ l).ok)=true;rw[g1,g2,h1];rfl
  ·show x.2.cnt+(BQ l).cnt<=(l.length+1)*c;rw[Nat.add_mul];lia
  ·show max x.2.dp (BQ l).dp<=e;lia
abbrev gRB(n:Nat):GS:=gIf (A7 (gTB (Ad (Af (eqF false)) (Ai DU XF x9) u8)) (gTB (Ad (Bi λi j=>decide (j < i)) re dl))) (AN (gMt B7 Cr ye (Aa (Ah (Aa yJ (Aa (Ai (DW n) XF x5) Ac))) Ac))) Au
theorem Pp{pf:Addr}{a:List W}(hd:d < n)(E:NL s z pn ns d)(u:q0≠s)(k:pf≠s)(f:q0≠pf)(i:z pf=none):∀(j:List Str)(l:List (Str×Te))(o:Option W)(G:Hw),Hs true s z G->G q0=some (.lst a)->G pf=some (.lst (l.map Cu))->l.length+j.length<=10->(∀ x∈l,TO d x.2)->
  (∀(p:List (Str×Te))(o':Option W)(g:Hw),Hs true s z g->g pf=some (.lst (p.map Cu))->(∀ x∈p,TO d x.2)->(∃ q:List Str,q.Sublist j/\p.map (·.1)=l.map (·.1)++q)->D.nx [some (.ref s),some (.int ((d+1:Nat):Int)),some (.ref pn),some A,some (.ref pf),o'] g)->
  BD (holds q0 a) (gNm 5) (gRB n) D (j.map W.str) [some (.ref s),some (.int ((d+1:Nat):Int)),some (.ref pn),some A,some (.ref pf),o] G
 | [],l,o,G,h,hi,v,_,hl,b=>⟨hi,b l o G h v hl ⟨[],List.Sublist.refl _,by rw[Yx]⟩⟩
 | m::j,l,o,G,h,hi,v,w,hl,b=>by
  rw[Yg]at w;refine⟨hi,?_⟩;show gRB n _ [some (.ref s),some (.int ((d+1:Nat):Int)),some (.ref pn),some A,some (.ref pf),some (.str m)] G;simp only[gIf,A7,gTB,Ad,Af,Ai,Aa,Ac,Ab,gC];refine BB (by decide) (by decide) h.1 λr G1 _ _ h1=>?_;have e:=h.trans h1
  have skip:BD (holds q0 a) (gNm 5) (gRB n) D (j.map W.str) [some (.ref s),some (.int ((d+1:Nat):Int)),some (.ref pn),some A,some (.ref pf),some (.str m)] G1 :=
   Pp hd E u k f i j l _ G1 e (h1.2 _ u _ hi) (h1.2 _ k _ v) (by lia) hl λp o' g H B I⟨q,b1,b2⟩=>b p o' g H B I ⟨q,b1.trans (List.sublist_cons_self _ _),b2⟩
  refine BC (λ_=>?_) (λ_=>?_)
  ·obtain⟨c,hc⟩:=Xl h1.1;simp only[hc];refine BC (λ_=>?_) (λ_=>skip);simp only[AN,gMt,Ah,Aa,Ac,Ai,Ab,gC];refine⟨Fh (h1.2 _ k _ v),trivial,EV (Gp d) hd h1.1 (E.keep e) (by decide +kernel) λt G2 J h2=>⟨sz rfl,?_⟩⟩;have F:=e.trans h2;refine Gh (h2.2 _ k _ (h1.2 _ k _ v)) (DN (by rw[Yh];lia)) (Pp hd E u k f i j (l++[(m,t)]) _ _ (F.set i k) (by rw[AX f];exact h2.2 _ u _ (h1.2 _ u _ hi)) (by rw[Ap,Yy];rfl) (by rw[Yj];simp only[Yg,Yi];lia) (λx y=>?_) λp o' g H B I⟨q,b1,b2⟩=>b p o' g H B I ⟨m::q,b1.cons_cons m,by rw[b2,Yy,Yv];rfl⟩);rcases Yz.mp y with y | y
   ·exact hl x y
   ·rw[YA.mp y];exact J
  ·exact skip
theorem su{a:List Str}(h:a.Sublist ["ab","b"]):∀ j:Nat,j<=1->Bp ((("a":Str)::a).drop j)=true/\(("a":Str)::a).all Ax=true:=by
 have h2:a=[]\/a=[("ab":Str)]\/a=[("b":Str)]\/a=[("ab":Str),"b"]:=by
  rcases List.sublist_cons_iff.mp h with h1 |⟨r,rfl,h1⟩
  ·rcases List.sublist_cons_iff.mp h1 with h2 |⟨r,rfl,h2⟩
   ·exact .inl (List.sublist_nil.mp h2)
   ·rw[List.sublist_nil.mp h2];exact .inr (.inr (.inl rfl))
  ·rcases List.sublist_cons_iff.mp h1 with h2 |⟨r,rfl,h2⟩
   ·rw[List.sublist_nil.mp h2];exact .inr (.inl rfl)
   ·rw[List.sublist_nil.mp h2];exact .inr (.inr (.inr rfl))
 intro j b;obtain rfl | rfl:j=0\/j=1:=by lia
 ·rcases h2 with rfl | rfl | rfl | rfl <;> exact⟨by decide +kernel,by decide +kernel⟩
 ·rcases h2 with rfl | rfl | rfl | rfl <;> exact⟨by decide +kernel,by decide +kernel⟩
theorem Fy(T:Tx K mg base a)(hk:2<=k)(D:Df P w K mg base "_law_term" k 4 (DW n)):Df P w K mg base "_law_record" (k+1) 4 (Lj n λc=>3*c+1):=by
 refine mk0 T.lY rfl W4 DV (by rintro ws G Q E ⟨_,s,⟨⟨e,_⟩,_⟩,_⟩;rw[e];rfl) (rE T D (Yr _) (AU T) (by lia)) λws G Q E hC q=>?_;obtain⟨⟨d,ns,pn,wn⟩,s,⟨⟨rfl,hd,hn,hw⟩,h1⟩,hs,q⟩:=q;obtain⟨d,rfl⟩:∃ e,d=e+1:=⟨d - 1,by lia⟩;refine AK ?_;walk_at "sm";refine⟨trivial,EV (Gp d) (by lia) hs (hn.less (by lia)) hw λt G1 ht h1=>⟨sz rfl,sz rfl,λpf hpf=>?_⟩⟩;obtain⟨hf,hf0⟩:=h1.old hpf;have h2:=h1.put (o:=.lst [.tup [.str "a",t.enc]]) hpf;have f2:put G1 pf (.lst [.tup [.str "a",t.enc]]) pf=some (.lst [.tup [.str "a",t.enc]]):=Ap;generalize put G1 pf (.lst [.tup [.str "a",t.enc]])=G2 at h2 f2 ⊢;simp only[Ae,Bz,Bl,Aq];refine⟨sz rfl,λq0 hq0=>?_⟩;have h3:=h2.put (o:=.lst [.str "ab",.str "b"]) hq0;have f3:=Az (o:=.lst [.str "ab",.str "b"]) hq0 _ _ f2;have g3:put G2 q0 (.lst [.str "ab",.str "b"]) q0=some (.lst [.str "ab",.str "b"]):=Ap;have hq:=Hs.ne h2.1 hq0;have hfq:=YU (Do f2 hq0);generalize put G2 q0 (.lst [.str "ab",.str "b"])=G3 at h3 f3 g3 ⊢;rw[g3];refine Pp (by lia) (hn.less (by lia)) hq hf hfq hf0 ["ab","b"] [("a",t)] _ G3 h3 g3 f3 (show 1+2<=10 by decide) (λx hx=>by rw[YA.mp hx];exact ht) λl' o' G4 h4 f4 hl'⟨sb,b1,b2⟩=>?_;simp only[Aj,Ah,gB,rF,Bv,A2,Ad,Ai,Aa,Ac,Ab,gC];refine BB (by decide) (by decide) h4.1 λr G5 r0 r1 h5=>?_;have f5:=h5.2 _ hf _ f4;have h5:=h4.trans h5;refine⟨⟨by decide,by decide⟩,?_⟩;obtain⟨j,hj,ej⟩:∃ j:Nat,j<=1/\r / 7=(j:Int):=⟨(r / 7).toNat,by lia,by lia⟩;rw[show(λi j:Int=>i / j) r 7=(j:Int)from ej];show(match G5 pf with | some (.lst xs)=>∀ p,G5 p=none->_ | _=>False);rw[f5];intro p6 hp6;have ec:Co (l'.map Cu) (some (j:Int)) none=(l'.drop j).map Cu:=by rw[sr,List.map_drop]
 rw[ec,Hq Ap];obtain⟨b3,b4⟩:=su b1 j hj;have b2:l'.map (·.1)=("a":Str)::sb:=b2
 have hlen:l'.length<=3:=by
  have e:=Qg List.length b2;have:=b1.length_le;rw[Yh,Yg]at e;simp only[Yg,Yi]at this;lia
 have hmem:∀ x∈l'.drop j,Ax x.1=true/\TmB (bc d) (2+3*d) x.2:=λx hx=>by
  have hx':=List.mem_of_mem_drop hx;refine⟨List.all_eq_true.mp b4 _ ?_,hl' x hx'⟩;rw[<- b2];exact List.mem_map_of_mem hx'
 obtain⟨o1,o2,o3⟩:=Xn _ hmem;have hc:(BQ (l'.drop j)).cnt<=3*bc d:=Yt o2 (Nat.mul_le_mul_right _ (by rw[List.length_drop];lia));refine⟨sz rfl,q _ _ ⟨.nd "rec" (.fld (BQ (l'.drop j)) .nil),?_,(Xj (by rw[Xm,List.map_drop,b2];exact b3) o1 hc o3).mono (Yr _) (by lia)⟩ (h5.put hp6)⟩;show W.tup [.str "rec",.tup ((l'.drop j).map Cu)]=.tup [.str "rec",.tup (BQ (l'.drop j)).enc];rw[Po]
def Tst(s:Addr)(ω:Sw)(G:Hw)(gt:GT):Prop:=∀ Z:Bool->Hw->Prop,(∀ b G',Hs true s G G'->Z b G')->gt ω G Z
theorem Gq{a:Bool}(b:St true s G)(h:ω[i]?=some (some (.str x))):Tst s ω G (gTB (Ad (Af (eqF a)) (Ab i) (gC (.str t)))):=λZ z=>by
 simp only[gTB,Ad,Ab,h];exact z _ _ (Hs.refl b)
theorem Jg(a:St true s G)(h:ω[i]?=some (some (.int x))):Tst s ω G (gTB (Ad (Af (eqF false)) (Ab i) (gC (.int t)))):=λZ z=>by
 simp only[gTB,Ad,Ab,h];exact z _ _ (Hs.refl a)
theorem sv(a:St true s G)(h:ω[i]?=some (some (.int x))):Tst s ω G (gTB (Ad (AY (λi j=>decide (i < j)) AT) (Ab i) (gC (.int t)))):=λZ z=>by
 simp only[gTB,Ad,Ab,h];exact z _ _ (Hs.refl a)
theorem sw(a:St true s G)(h:ω[0]?=some (some (.ref s))):Tst s ω G (gTB (Ad (AY (λi j=>decide (i < j)) AT) re (gC (.int t)))):=λZ z=>by
 obtain⟨c,hc⟩:=Xl a;simp only[gTB,Ad,Af,Ab,h,gC,hc];exact z _ _ (Hs.refl a)
theorem sx(a:0 < m/\m<=1000)(b:St true s G)(h:ω[0]?=some (some (.ref s))):Tst s ω G (gTB (Ad (Af (eqF false)) (Ai DU XF (Aa ad (Aa (gC (.int m)) Ac))) (gC (.int t)))):=λZ z=>by
 simp only[gTB,Ad,Ai,Aa,Ac,Ab,h,gC];exact BB a.1 (by lia) b λr G1 _ _ h1=>z _ _ h1
theorem sy(a:0 < m/\m<=1000)(b:St true s G)(h:ω[0]?=some (some (.ref s))):Tst s ω G (gTB (Ad (Bi λi j=>decide (j < i)) (Ai DU XF (Aa ad (Aa (gC (.int m)) Ac))) (gC (.int t)))):=λZ z=>by
 simp only[gTB,Ad,Ai,Aa,Ac,Ab,h,gC];exact BB a.1 (by lia) b λr G1 _ _ h1=>z _ _ h1
theorem sA(a:St true s G)(h:ω[i]?=some (some (.int x))):Tst s ω G (gTB (Ad (Af (inF false)) (Ab i) (Aq (Aa yx (Aa yZ Ac))))):=λZ z=>by
 simp only[gTB,Ad,Af,Ab,h,Aq];refine⟨sz rfl,λp b=>?_⟩
 have e:inF false (.int x) (.ref p) (put G p (.lst [.int 4,.int 9]))=some (.bl (inV (.int x) [.int 4,.int 9])):=by
  unfold inF;rw[NA Ap];rfl
 rw[e];exact z _ _ (Hs.new a b)
theorem FD{An:GS}(h:Tst s ω G gt)(h1:∀ a,Hs true s G a->e ω a D.rt)(h2:∀ a,Hs true s G a->An D ω a):Ae (gIf gt (Aj e) Au) An D ω G:=h _ λb a c=>BC (λ_=>h1 a c) (λ_=>h2 a c)
theorem sB{An:GS}(h:Tst s ω G gt)(h1:∀ a,Hs true s G a->e ω a λw G2=>An D (ω.set i (some w)) G2)(h2:∀ a,Hs true s G a->An D ω a):Ae (gIf gt (Ak i e) Au) An D ω G:=h _ λb a c=>BC (λ_=>h1 a c) (λ_=>h2 a c)
theorem Pr{An:GS}(h:Tst s ω G gt)(h1:∀ a,Hs true s G a->x {D with nx:=An D} ω a)(h2:∀ a,Hs true s G a->An D ω a):Ae (gIf gt x Au) An D ω G:=h _ λb a c=>BC (λ_=>h1 a c) (λ_=>h2 a c)
theorem Ps{w:Str}(m:q0≠s):∀(l:List (Str×Str))(f e:Option W)(ks:List Str)(G:Hw),Hs true s i G->G q0=some (.lst b)->(∀ x∈l,Ax x.1=true)->ks.length+l.length<=12->(∀ k∈ks,Ax k=true)->
  (∀(ks':List Str)(g:Hw),Hs true s i g->(∀ k∈ks',Ax k=true)->ks'.length<=12->R (ks'.map W.str) g)->
  BE (holds q0 b) (Bb 0 1) yi ad R (l.map Pl) [f,e,some (.str w)] G (ks.map W.str)
 | [],f,e,ks,G,h,hi,_,hl,d,r=>⟨hi,r ks G h d (by lia)⟩
 | x::l,f,e,ks,G,h,hi,n,hl,d,r=>by
  rw[Yg]at hl;refine⟨hi,DN (by rw[Yh];lia),?_⟩;simp only[gTB,Ad,Af,Aq];refine⟨sz rfl,λp j=>?_⟩;rw[Pk (G:=put G p (.lst [.str w,.str "any"])) [w,"any"] x.2 Ap rfl];have h2:=h.put (o:=.lst [.str w,.str "any"]) j;have i2:=Az (o:=.lst [.str w,.str "any"]) j _ _ hi;have c:=λy q=>n y (Yd _ q);refine BC (λ_=>?_) (λ_=>?_)
  ·have z:=Ps (w:=w) m l (some (.str x.1)) (some (.str x.2)) (ks++[x.1]) _ h2 i2 c (by rw[Yj];simp only[Yg,Yi];lia) (λk a=>by
    rcases Yz.mp a with a | a
    ·exact d k a
    ·rw[YA.mp a];exact n x Ye) r
   rw[Yy]at z;exact z
  ·exact Ps m l _ _ ks _ h2 i2 c (by lia) d r
abbrev gKn:GE:=B9 (DI r6) 2 [3] (Bb 0 1) yi ad
theorem Xo{w:Str}{An:GS}(f:St true s G)(a:NL s G pn ns d)(h2:ω[2]?=some (some (.ref pn)))(g:ω[3]?=some (some (.str w)))(k:∀(p:Addr)(ks:List Str)(b:Hw),Hs true s G b->p≠s->b p=some (.lst (ks.map W.str))->(∀ k∈ks,Ax k=true)->ks.length<=12->An D (ω.set 5 (some (.ref p))) b):Ae (Ak 5 gKn) An D ω G:=by
 refine AK ?_;simp only[B9,DI,Ab,h2,a.2.1,BM,Ym,g];exact Ps a.1 ns none none [] G (Hs.refl f) a.2.1 a.2.2.1 (by have:=a.2.2.2;simp only[Yi];lia) (λk c=>by cases c) λks' b h c hl p e=>k p ks' _ (h.put e) (Hs.ne h.1 e) Ap c hl
section
variable {s p:Addr}{G:Hw}{n d:Nat}
abbrev HD5:List Str:=["num","truth","row","box","to"]
abbrev Xp:Spw:=EU true (λ(w:Str)s ws _=>ws=[.ref s,.str w]/\w∈HD5) λ_ _ r _=>∃ t:Te,r=t.enc/\TmB 2 2 t
theorem Lf(T:Tx K mg base a):Df P w K mg base "_law_leaf" 2 2 Xp:=by
 refine mk0 T.l0 rfl Lc DV (λU G Q E⟨_,s,⟨e,_⟩,_⟩=>by rw[e];rfl) (rX T (AU T) (Yr _)) λU G Q E Y q=>?_;obtain⟨S,s,⟨rfl,hw⟩,B,q⟩:=q;show Ae (Ak 2 _) _ (AC Q) [some (.ref s),some (.str S),none,none] G;refine AK ?_;simp only[Ad,Aq,Ai,Aa,Ac,Ab,gC,D7,Yb,Yc];refine⟨1,rfl,Pe rfl (by decide) (by decide) B λx z G1 h1=>?_⟩
 obtain⟨i,rfl,hi⟩:∃ i:Int,x=.int i/\(i=1\/i=-1):=by
  simp only[Yo,YX,or_false]at z;rcases z with rfl | rfl
  ·exact⟨1,rfl,.inl rfl⟩
  ·exact⟨-1,rfl,.inr rfl⟩
 refine⟨⟨by decide,by decide,by decide⟩,sz rfl,λp2 g=>?_⟩;have h2:=h1.put (o:=.lst [.int 9,.int ((10:Int) ^ (20:Int).toNat)]) g;refine BB (by decide) (by decide) h2.1 λr O r0 r1 f=>⟨⟨by decide,by decide⟩,?_⟩;obtain⟨m,p,e⟩:=Ct (f.2 p2 (Hs.ne h1.1 g) _ Ap) (r:=r / 8) (by lia) (by show r / 8 < 2;lia);have f:=h2.trans f;show opt (ixW (.ref p2) (.int (r / 8)) O) _;rw[e,AB]
 obtain⟨j,rfl,I,j1⟩:∃ j:Int,m=.int j/\0 < j/\j<=100000000000000000000:=by
  simp only[Yo,YX,or_false]at p;rcases p with rfl | rfl
  ·exact⟨9,rfl,by decide,by decide⟩
  ·exact⟨_,rfl,by decide,by decide⟩
 refine BB I (by lia) f.1 λv Z v0 v1 h=>?_;have h:=f.trans h;have D:(2:Int) ^ 64=18446744073709551616:=by decide
 refine⟨.inl (by lia),?_⟩
 have y:-NB<=i*v/\i*v<=NB:=by
  show(-99999999999999999999:Int)<=i*v/\i*v<=(99999999999999999999:Int);rcases hi with rfl | rfl <;> lia
 generalize i*v=num at y ⊢;refine AK ?_;simp only[Fb,Ad,Ah,Ai,Aa,Ac,Ab,gC,Af,Yk,Yl,Yb,Yc];refine⟨sz rfl,BB (by decide) (by decide) h.1 λN F _ _ l=>?_⟩;have l:=h.trans l;simp only[Dp,AB];generalize((N==1) != false)=bb;refine⟨sz rfl,sz rfl,sz rfl,by decide,λk d=>?_⟩;obtain⟨H,L⟩:=l.old d;have J:=l.put (o:=.dct (kvW ["num","truth","row"] [.tup [.str "num",.int num],.tup [.str "truth",.bl bb],.tup [.str "rec",.tup []]])) d;have n:put F k (.dct (kvW ["num","truth","row"] [.tup [.str "num",.int num],.tup [.str "truth",.bl bb],.tup [.str "rec",.tup []]])) k=_:=Ap;refine⟨⟨k,_,rfl,n⟩,sz rfl,sz rfl,sz rfl,sz rfl,sz rfl,by decide,λR c=>⟨k,R,_,_,rfl,rfl,Do n c,Az c _ _ n,Ap,sz rfl,?_⟩⟩;have A:=(J.put (o:=.dct (kvW ["box","to"] [.tup [.str "new",.tup [.str "num",.int num]],.tup [.str "fun",.str "x",.tup [.str "num"],.tup [.str "name",.str "x"]]])) c).set (o:=.dct (D8 (kvW ["num","truth","row"] [.tup [.str "num",.int num],.tup [.str "truth",.bl bb],.tup [.str "rec",.tup []]]) (kvW ["box","to"] [.tup [.str "new",.tup [.str "num",.int num]],.tup [.str "fun",.str "x",.tup [.str "num"],.tup [.str "name",.str "x"]]]))) L H;simp only[Aj,Ad,Af,Ab,Yb,Yc,ixK,Ap];have u:=sk y;have b:=λt X=>q _ _ ⟨t,rfl,X⟩ A;simp only[HD5,Yo,YX,or_false]at hw;rcases hw with rfl | rfl | rfl | rfl | rfl
 ·exact Eq.mpr (by kernel_rfl) (b (.nd "num" (.num num .nil)) (u.mono (by decide) (by decide)))
 ·exact Eq.mpr (by kernel_rfl) (b (.nd "truth" (.tru bb .nil)) ((sj bb).mono (by decide) (by decide)))
 ·exact Eq.mpr (by kernel_rfl) (b (.nd "rec" (.fld .nil .nil)) ((Xj rfl rfl (Yr 0) (Yr 0)).mono (by decide) (by decide)))
 ·exact Eq.mpr (by kernel_rfl) (b (.nd "new" (.trm (.nd "num" (.num num .nil)) .nil)) (Li (by decide +kernel) u))
 ·exact Eq.mpr (by kernel_rfl) (b (.nd "fun" (.nam "x" (.knd .num (.trm (.nd "name" (.nam "x" .nil)) .nil)))) (Xi (by decide +kernel) ⟨rfl,rfl⟩ (Pj (by decide +kernel))))
theorem hd6{ss:List Str}(h:(ss.all λx=>HD6.contains x)=true)(a:x∈ss):x∈HD6:=List.contains_iff_mem.mp (List.all_eq_true.mp h x a)
theorem Lg(T:Tx K mg base a)(hk:2<=k)(D:Df P w K mg base "_law_term" k 4 (DW n)):Df P w K mg base "_law_made" (k+2) 4 (Lj n λc=>3*c+1):=by
 refine mk0 T.lZ rfl W6 DV (by rintro ws G Q E ⟨_,s,⟨⟨e,_⟩,_⟩,_⟩;rw[e];rfl) (rH T D (by lia) (AU T) (by lia) (Fy T hk D) (Yr _) (Fz T hk D) (Yr _)) λws G Q E hC q=>?_;obtain⟨⟨d,ns,pn,wn⟩,s,⟨⟨rfl,hd,hn,hw⟩,h1⟩,hs,q⟩:=q;obtain⟨d,rfl⟩:∃ e,d=e+1:=⟨d - 1,by lia⟩;dsimp only at hd hn hw q;rw[Nat.add_sub_cancel]at q
 have two:∀{w:Str}{G1:Hw},KTD.datumAt w AF=some [("term":Str),"term"]->Hs true s G G1->Ah (Aa (gC (.str w)) (Aa (Ai (DW n) XF x5) (Aa (Ai (DW n) XF x5) Ac))) [some (.ref s),some (.int ((d+1:Nat):Int)),some (.ref pn),some (.str wn)] G1 Q:=λ{w G1}hw h1=>by
  walk_at "sm";refine⟨trivial,EV (Gp d) (by lia) h1.1 ((hn.keep h1).less (by lia)) (by decide +kernel) λt G2 ht h2=>⟨trivial,?_⟩⟩;have h2:=h1.trans h2;exact EV (Gp d) (by lia) h2.1 ((hn.keep h2).less (by lia)) (by decide +kernel) λu G3 hu h3=>⟨sz rfl,q _ _ ⟨.nd w (.trm t (.trm u .nil)),rfl,(Pi hw ht hu).mono (by lia) (by lia)⟩ (h2.trans h3)⟩
 refine FD (Gq hs rfl) (λG1 h1=>two (by decide +kernel) h1) λG1 h1=>FD (Gq h1.1 rfl) (λG2 h2=>?_) λG2 h2=>?_
 ·have h2:=h1.trans h2;walk_at "sm";refine FC (ss:=["num","truth","box"]) rfl (by decide) (by decide) h2.1 λx hx G3 h3=>?_;have h3:=h2.trans h3;exact Jf (by lia) h3.1 (hn.keep h3) (hd6 (by decide +kernel) hx) λt G4 ht h4=>q _ _ ⟨t,rfl,ht⟩ (h3.trans h4)
 have h2:=h1.trans h2;refine FD (Gq h2.1 rfl) (λG3 h3=>?_) λG3 h3=>?_
 ·have h3:=h2.trans h3;walk_at "sm";refine⟨trivial,FC (ss:=["num","row"]) rfl (by decide) (by decide) h3.1 λx hx G4 h4=>?_⟩;have h4:=h3.trans h4;exact EV (Gp d) (by lia) h4.1 ((hn.keep h4).less (by lia)) (hd6 (by decide +kernel) hx) λt G5 ht h5=>⟨sz rfl,q _ _ ⟨.nd "new" (.trm t .nil),rfl,(Li (by decide +kernel) ht).mono (by lia) (by lia)⟩ (h4.trans h5)⟩
 have h3:=h2.trans h3;refine FD (Gq h3.1 rfl) (λG4 h4=>?_) λG4 h4=>?_
 ·have h4:=h3.trans h4;walk_at "sm";exact Jf (by lia) h4.1 (hn.keep h4) (by decide +kernel) λt G5 ht h5=>q _ _ ⟨t,rfl,ht.mono (by lia) (Yr _)⟩ (h4.trans h5)
 exact two (by decide +kernel) (h3.trans h4)
theorem Xq:∀ ks:List Str,L3.dpL (ks.map W.str) < 90
 | []=>by decide
 | k::ks=>by
  have:=Xq ks;show max (dpW (.str k)) (L3.dpL (ks.map W.str)) < 90;have:dpW (.str k)=0:=rfl;lia
theorem sC{ks:List Str}(h:G q=some (.lst (ks.map W.str)))(h':G p=some (.lst [])):eqF true (.ref q) (.ref p) G=some (.bl (!ks.isEmpty)):=by
 have e:eqW (.ref q) (.ref p) G=some ks.isEmpty:=by
  unfold eqW;simp only[h,h'];rw[if_pos (Xq ks)];cases ks <;> rfl
 unfold eqF;rw[e];cases ks <;> rfl
def sD:List Kd:=[.any,.any]
def Lk:List Kd:=[.any,.any,.row .nil true,.row (.cons "b" true .num .nil) true,.row (.cons "a" false .any .nil) true,.row (.cons "ab" false .num .nil) true]
theorem DX{An:GS}(T:GS->Prop)(h1:T An)(h2:∀ r,T r->Ae x r D ω G):Ae x An D ω G:=h2 _ h1
theorem sE:∀ k∈Lk,KOk k:=by
 have h:(Lk.all λk=>k.ok&&BG k)=true:=by decide +kernel
 intro k a;have:=List.all_eq_true.mp h k a;simp only[YF]at this;exact this
theorem Hx(h:G p=some (.lst xs)):AM [.ref p] G=some (.int (xs.length:Nat)):=by
 unfold AM BZ;dsimp only;rw[h]
theorem Xr(d:G p=some (.lst xs))(b:p≠s)(i:0 < xs.length)(h1:xs.length<=1000)(f:St true s G)(k:∀ x∈xs,∀ a,Hs true s G a->Z x a):opt (AM [.ref p] G) λw=>DU [.ref s,w] G (λw a=>Af ixW (.ref p) w a Z) E:=by
 rw[Hx d,AB];refine BB (by lia) (by lia) f λr a h r1 c=>?_;obtain⟨x,g,e⟩:=Ct (c.2 p b _ d) h r1;show opt (ixW (.ref p) (.int r) a) _;rw[e];exact k x g a c
theorem Xs(h:Tst s ω G gt)(h1:∀ a,Hs true s G a->x D ω a)(h2:∀ a,Hs true s G a->y D ω a):gIf gt x y D ω G:=h _ λb a c=>BC (λ_=>h1 a c) (λ_=>h2 a c)
theorem Xu{ks:List Str}(d:St true s G)(e:ω[i]?=some (some (.ref p)))(c:G p=some (.lst (ks.map W.str)))(z:∀ b,Hs true s G b->Z (!ks.isEmpty) b):gTB (Ad (Af (eqF true)) (Ab i) y0) ω G Z:=by
 simp only[gTB,Ad,Af,Ab,e,Aq];refine⟨sz rfl,λf a=>?_⟩;rw[sC (Az a _ _ c) Ap];exact z _ (Hs.new d a)
theorem sF{An:GS}(e:St true s G)(h:ω[0]?=some (some (.ref s)))(g:ω[5]?=some (some (.ref p)))(d:G p=some (.lst (ks.map W.str)))(f:ks≠[]->∀ a,Hs true s G a->x {D with nx:=An D} ω a)(c:∀ a,Hs true s G a->y {D with nx:=An D} ω a):Ae (gIf (A7 yM (gTB (Ad (Bi λi j=>decide (j < i)) (Ai DU XF x9) u8))) x y) An D ω G:=by
 refine Xu e g d λG1 h1=>?_;cases ks with
 | nil=>exact c G1 h1
 | cons k ks =>
  exact sy (by decide) h1.1 h _ λb G2 h2=>BC (λ_=>f (by simp) G2 (h1.trans h2)) (λ_=>c G2 (h1.trans h2))
theorem Lh(T:Tx K mg base a)(hk:2<=k)(D:Df P w K mg base "_law_term" k 4 (DW n)):Df P w K mg base "_law_first" (k+2) 5 (Pn n):=by
 refine mk0 T.l6 rfl Pf DV (by rintro ws G Q E ⟨_,s,⟨e,_⟩,_⟩;rw[e];rfl) (rZ T (AU T) (by lia) (Fz T hk D) (Yr _) (Fy T hk D) (Yr _) D (by lia)) λws G Q E hC q=>?_;obtain⟨⟨⟨d,ns,pn,wn⟩,hd0⟩,s,⟨rfl,⟨hd,hn,hw⟩,h1,hh⟩,hs,q⟩:=q;dsimp only at h1;obtain⟨d,rfl⟩:∃ e,d=e+1:=⟨d - 1,by lia⟩;dsimp only at hd hn hw q hh;rw[Nat.add_sub_cancel]at q;refine Xo hs hn rfl rfl λp5 ks G1 h1 n5 f5 hks l5=>DX (λr=>∀(t:Te)G',TmB (3*bc d+1) (3*(d+1)) t->Hs true s G G'->r (AC Q) [some (.ref s),some (.int ((d+1:Nat):Int)),some (.ref pn),some (.str hd0),some (.str wn),some (.ref p5),none,some t.enc] G') (λt G2 ht h2=>?_) λAn tail=>?_
 ·refine Je h2.1 (λZ z=>by walk_at "cl") (by decide) λp6 G3 h3 n6 f6=>?_;have h3:=h2.trans h3;refine DX (λr=>∀(p6:Addr)(G':Hw)(xs:List Kd),Hs true s G G'->p6≠s->G' p6=some (.lst (xs.map Kd.enc))->(∀ k∈xs,k∈Lk)->0 < xs.length->xs.length<=10->r (AC Q) [some (.ref s),some (.int ((d+1:Nat):Int)),some (.ref pn),some (.str hd0),some (.str wn),some (.ref p5),some (.ref p6),some t.enc] G') (λp6 G4 xs h4 n6 f6 hxs x0 x1=>?_) λAn tail=>?_
  ·refine sB (sx (by decide) h4.1 rfl) (λG5 h5=>?_) λG5 h5=>?_
   ·have f6:=h5.2 _ n6 _ f6;have h5:=h4.trans h5;simp only[Ah,Ad,Ai,Aa,Ac];refine Xr f6 n6 (by rw[Yh];exact x0) (by rw[Yh];lia) h5.1 λx hx G6 h6=>⟨sz rfl,?_⟩;obtain⟨k,hk,rfl⟩:=YC.mp hx;exact q _ _ ⟨.nd "as" (.trm t (.knd k .nil)),rfl,(Ph ht (sE k (hxs k hk))).mono (by lia) (by lia)⟩ (h5.trans h6)
   ·exact q _ _ ⟨t,rfl,ht.mono (by lia) (by lia)⟩ (h4.trans h5)
  ·refine Pr (Gq h3.1 rfl) (λG4 h4=>?_) λG4 h4=>?_
   ·have f6:=h4.2 _ n6 _ f6;have h4:=h3.trans h4;exact Gm h4 rfl f6 (λZ z=>by walk_at "cl") (by decide) λp6 G5 h5 n6 f6=>⟨sz rfl,sz rfl,sz rfl,sz rfl,sz rfl,sz rfl,sz rfl,sz rfl,sz rfl,λp7 hp7=>CT (Az hp7 _ _ f6) Ap (by decide) λp8 hp8=>tail p8 _ Lk ((h5.put hp7).put hp8) (Hs.ne (h5.1.put hp7) hp8) Ap (λk hk=>hk) (by decide) (by decide)⟩
   ·exact tail p6 _ sD (h3.trans h4) n6 (h4.2 _ n6 _ f6) (λk hk=>List.mem_of_mem_take (i:=2) hk) (by decide) (by decide)
 ·refine sF h1.1 rfl rfl f5 (λhne G2 h2=>?_) λG2 h2=>?_
  ·have f5:=h2.2 _ n5 _ f5;have h2:=h1.trans h2;simp only[Ak,Ah,Ad,Ai,Aa,Ac];refine Xr f5 n5 (by rw[Yh];exact List.length_pos_iff.mpr hne) (by rw[Yh];lia) h2.1 λx hx G3 h3=>⟨sz rfl,?_⟩;obtain⟨k,hk,rfl⟩:=YC.mp hx;exact tail (.nd "name" (.nam k .nil)) _ ((Pj (hks k hk)).mono (by lia) (by lia)) (h2.trans h3)
  ·have h2:=h1.trans h2;refine Xs (Gq h2.1 rfl) (λG3 h3=>?_) λG3 h3=>?_
   ·have h3:=h2.trans h3;simp only[Ak,Ai,Aa,Ac,Ab];exact Jf (by lia) h3.1 (hn.keep h3) hw λt G4 ht h4=>tail t _ (ht.mono (by lia) (Yr _)) (h3.trans h4)
   have h3:=h2.trans h3;refine Xs (Gq h3.1 rfl) (λG4 h4=>?_) λG4 h4=>?_
   ·have h4:=h3.trans h4;simp only[Ak,Ai,Aa,Ac,Ab];exact Jf (by lia) h4.1 (hn.keep h4) hw λt G5 ht h5=>tail t _ ht (h4.trans h5)
   ·have h4:=h3.trans h4;simp only[Ak,Ah,Ai,Aa,Ac,Ab];exact⟨trivial,EV (Gp d) (by lia) h4.1 ((hn.keep h4).less (by lia)) hw λt G5 ht h5=>⟨sz rfl,tail (.nd "new" (.trm t .nil)) _ ((Li (by decide +kernel) ht).mono (by lia) (by lia)) (h4.trans h5)⟩⟩
theorem Xv{w:Str}(hi:i=((d+1:Nat):Int))(b:d+1 < n+1)(f:St true s G)(g:NL s G pn ns (d+1))(hw:w∈HD6)(c:hd∈(["to","row","box"]:List Str))(k:∀ t a,TmB (3*bc d+2) (3*(d+1)+1) t->Hs true s G a->Z t.enc a):Pn n [.ref s,.int i,.ref pn,.str hd,.str w] G Z E:=by
 subst hi;exact⟨((d+1,ns,pn,w),hd),s,⟨rfl,⟨b,g,hw⟩,by show 1<=d+1;lia,c⟩,f,λr a⟨t,e,j⟩h=>by rw[e];exact k t a j h⟩
theorem sG{w:Str}(h:w∈HD5):w∈HD6:=List.mem_of_mem_take (i:=5) h
theorem sH{w:Str}(h:w∈HD6)(a:w≠"any"):w∈HD5:=by
 simp only[HD6,Yo,YX,or_false]at h;simp only[Yo,YX,or_false];rcases h with h | h | h | h | h | h
 ·exact .inl h
 ·exact .inr (.inl h)
 ·exact .inr (.inr (.inl h))
 ·exact .inr (.inr (.inr (.inl h)))
 ·exact .inr (.inr (.inr (.inr h)))
 ·exact Qj h a
theorem sI{t:Te}(b:t.ok=true)(G:Hw):∃ x:Str,ixW t.enc (.int 0) G=some (.str x)/\(x="fun"->∃(k:Kd),ixW t.enc (.int 2) G=some k.enc):=by
 cases t with
 | raw v=>cases b
 | nd w r =>
  refine⟨w,BF,λe=>?_⟩;subst e;have h:=(Gj b).1;have h2:=(YE ((show KTD.datumAt ("fun":Str) AF=some [("name":Str),"kind","term"] by decide +kernel).symm.trans h)).symm;cases r with
  | nam x r =>
   have a:=(Qf h2).2;cases r with
   | knd k r=>exact⟨k,Dl⟩
   | nil=>cases a
   | num _ _|tru _ _|nam _ _|trm _ _|fld _ _=>exact Qj (Qf a).1 (by decide +kernel)
  | nil=>cases h2
  | num _ _|tru _ _|knd _ _|trm _ _|fld _ _=>exact Qj (Qf h2).1 (by decide +kernel)
abbrev oms(s:Addr)(d:Nat)(pn:Addr)(w:Str)(o4 o5 o6 o7 o8 o9:Option W):Sw:=[some (.ref s),some (.int (d:Nat)),some (.ref pn),some (.str w),o4,o5,o6,o7,o8,o9]
theorem BX(T:Tx K mg base a):∀ n:Nat,Df P w K mg base "_law_term" (3*n+3) 4 (DW n)
 | 0=>DS T.TZ DV λws G Q E⟨x,s,⟨_,hd,_⟩,_⟩=>by lia
 | n+1=>by
  have D:Df P w K mg base "_law_term" (3*n+3) 4 (DW n):=BX T n;refine mk0 T.TZ rfl Pg DV (by rintro ws G Q E ⟨_,s,⟨e,_⟩,_⟩;rw[e];rfl) (se T (AU T) (by lia) (Lf T) (by lia) (Lg T (by lia) D) (by lia) (Lh T (by lia) D) (by lia) D (by lia) (Fw T (f:=true)) (by lia)) λws G Q E hC q=>?_;obtain⟨⟨d,ns,pn,wn⟩,s,⟨rfl,hd,hn,hw⟩,hs,q⟩:=q;have q:∀(t:Te)G',TO d t->Hs true s G G'->Q t.enc G':=λt G' h1 h2=>q _ _ ⟨t,rfl,h1⟩ h2;have hb2:=bc2 d;show Ae (CM _ _ _) _ (AC Q) (oms s d pn wn none none none none none none) G;refine DX (λr=>∀ G',Hs true s G G'->r (AC Q) (oms s d pn wn none none none none none none) G') (λG1 h1=>?_) λAn tail=>?_;rotate_left
  ·obtain⟨x,b,c,e⟩:=hs;simp only[Ae,CM,Ad,Af,Ab,gC,Yb,ix2 e,AB];refine⟨trivial,Xb e (tail _ ⟨⟨x,b,_,Ap⟩,λb hb u hu=>by rw[AX hb];exact hu⟩)⟩
  refine DX (λr=>∀ w G',w∈HD5->Hs true s G G'->r (AC Q) (oms s d pn w none none none none none none) G') (λwn G2 hw h2=>?_) λAn tail=>?_;rotate_left
  ·have set5:∀ G2,Hs true s G G2->(Ak 3 (Ad (Af ixW) yF (Ai DU XF (Aa ad ym)))) {AC Q with nx:=An (AC Q)} (oms s d pn wn none none none none none none) G2:=λG2 h2=>by
    simp only[Ak,Ad,Aq,Ai,Aa,Ac,Ab,gC,Yb,Yc];exact FC rfl (by decide) (by decide) h2.1 λx hx G3 h3=>tail x G3 hx (h2.trans h3)
   by_cases hany:wn="any"
   ·simp only[Ae,gIf,gOr,gTB,Ad,Af,Ab,gC,Yb,Yc,BP,AB];rw[show(wn==("any":Str))=true by simp[hany]];exact set5 G1 h1
   ·simp only[Ae,gIf,gOr,gTB,Ad,Af,Ab,gC,Yb,Yc,BP,AB];rw[show(wn==("any":Str))=false by simpa using hany];simp only[show(false != false)=false from rfl,Yq,if_false];simp only[Ai,Aa,Ac,Ab,gC,Yb];exact BB (by decide) (by decide) h1.1 λr G2 _ _ h2=>BC (λ_=>set5 G2 (h1.trans h2)) (λ_=>tail wn G2 (sH hw hany) (h1.trans h2))
  refine AK ?_;walk_at "sm";refine BB (by decide) (by decide) h2.1 λCt G3 _ _ h3=>?_;have h3:=h2.trans h3;refine Xo h3.1 (hn.keep h3) rfl rfl λp5 ks G4 h4 n5 f5 hks l5=>?_;have h4:=h3.trans h4;simp only[Yk,Yl];have hw6:=sG hw;refine DX (λr=>∀ G',Hs true s G G'->r (AC Q) (oms s d pn wn (some (.int Ct)) (some (.ref p5)) none none none none) G') (λG5 h5=>?_) λAn tail=>?_;rotate_left
  ·simp only[Ae,gIf,A7];refine Jg h4.1 rfl _ λb G5 h5=>BC (λ_=>?_) (λ_=>?_)
   ·refine Xu h5.1 rfl (h5.2 _ n5 _ f5) λG6 h6=>?_;have f6:=h6.2 _ n5 _ (h5.2 _ n5 _ f5);have h6:=(h4.trans h5).trans h6;refine BC (λ_=>?_) (λ_=>tail G6 h6);simp only[Aj,Ah,Ad,Aq,Ai,gB,rF,Aa,Ac,Ab,gC,Yb,Yc];refine⟨sz rfl,λp7 hp7=>CT (Az hp7 _ _ f6) Ap (by rw[Yh];simp only[Yg,Yi];lia) λp8 hp8=>?_⟩;have h8:=(h6.put hp7).put (o:=.lst (ks.map W.str++[.str "z"])) hp8;have f8:put (put G6 p7 (.lst [.str "z"])) p8 (.lst (ks.map W.str++[.str "z"])) p8=some (.lst ((ks++[("z":Str)]).map W.str)):=by rw[Ap,Yy];rfl
    have f8':=Az (o:=.lst (ks.map W.str++[.str "z"])) hp8 _ _ (Az hp7 _ _ f6);have n8:=Hs.ne (h6.1.put hp7) hp8;rw[Hx f8',AB,Yh];refine⟨.inl ⟨by decide,by decide⟩,?_⟩;dsimp only;rw[Fi];refine BB (by lia) (by lia) h8.1 λr G9 r0 r1 h9=>⟨⟨by decide,by decide⟩,?_⟩;obtain⟨x,hx,e⟩:=KZ.Ct (h9.2 _ n8 _ f8) (r:=r / 8) (by lia) (by rw[Yh,Yj];simp only[Yg,Yi];lia);show opt (ixW (.ref p8) (.int (r / 8)) G9) _;rw[e,AB];obtain⟨k,hk,rfl⟩:=YC.mp hx
    have okk:Ax k=true:=by
     rcases Yz.mp hk with hk | hk
     ·exact hks k hk
     ·rw[YA.mp hk];decide +kernel
    exact⟨sz rfl,q (.nd "name" (.nam k .nil)) _ ((Pj okk).mono (by lia) (by lia)) (h8.trans h9)⟩
   ·exact tail G5 (h4.trans h5)
  have leaf:∀ G6,Hs true s G G6->Ai Xp XF (Aa ad yk) (oms s d pn wn (some (.int Ct)) (some (.ref p5)) none none none none) G6 Q:=λG6 h6=>by
   exact⟨wn,s,⟨rfl,hw⟩,h6.1,λr G7⟨t,e,ht⟩h7=>by rw[e];exact q t _ (ht.mono (by lia) (by lia)) (h6.trans h7)⟩
  refine DX (λr=>∀ G',3<=d->Hs true s G G'->r (AC Q) (oms s d pn wn (some (.int Ct)) (some (.ref p5)) none none none none) G') (λG6 hd3 h6=>?_) λAn tail=>?_;rotate_left
  ·simp only[Ae,gIf,gOr];have e:∀ Z:Bool->Hw->Prop,Z (decide ((d:Int) < 3)) G5->gTB (Ad (AY (λi j=>decide (i < j)) AT) na yw) (oms s d pn wn (some (.int Ct)) (some (.ref p5)) none none none none) G5 Z:=λZ z=>z;refine e _ ?_;by_cases h3:(d:Int) < 3
   ·rw[YG h3];exact leaf G5 h5
   ·rw[Qi h3];exact sw h5.1 rfl _ λb G6 h6=>BC (λ_=>leaf G6 (h5.trans h6)) (λ_=>tail G6 (by lia) (h5.trans h6))
  obtain⟨d,rfl⟩:∃ e,d=e+3:=⟨d - 3,by lia⟩;have ed:bc (d+3)=4*bc (d+2)+3:=rfl;have ed1:bc (d+2)=4*bc (d+1)+3:=rfl;have sb:(((d+3:Nat):Int) - 1)=((d+2:Nat):Int):=by lia
  refine FD (sv h6.1 rfl) (λG7 h7=>?_) λG7 h7=>?_
  ·have h7:=h6.trans h7;walk_at "sm";exact Jf (by lia) h7.1 (hn.keep h7) hw6 λt G8 ht h8=>q t _ (ht.mono (by lia) (by lia)) (h7.trans h8)
  have h7:=h6.trans h7;have tm:∀{w:Str}{G8:Hw}{Z:Kw}{E:Addr->Hw->Prop},w∈HD6->Hs true s G G8->(∀ t G',TmB (bc (d+2)) (3*d+8) t->Hs true s G8 G'->Z t.enc G')->DW n [.ref s,.int (((d+3:Nat):Int) - 1),.ref pn,.str w] G8 Z E:=λhw h8 k=>EV sb (by lia) h8.1 ((hn.keep h8).less (by lia)) hw λt G' ht=>k t G' (ht.mono (Yr _) (by lia));have fi:∀{hd w:Str}{G8:Hw}{Z:Kw}{E:Addr->Hw->Prop},hd∈(["to","row","box"]:List Str)->w∈HD6->Hs true s G G8->(∀ t G',TmB (3*bc (d+2)+2) (3*d+10) t->Hs true s G8 G'->Z t.enc G')->Pn n [.ref s,.int ((d+3:Nat):Int),.ref pn,.str hd,.str w] G8 Z E:=λhh hw h8 k=>Xv rfl (by lia) h8.1 (hn.keep h8) hw hh λt G' ht=>k t G' (ht.mono (Yr _) (by lia));refine DX (λr=>∀ G',Hs true s G G'->r (AC Q) (oms s (d+3) pn wn (some (.int Ct)) (some (.ref p5)) none none none none) G') (λG8 h8=>?_) λAn tail=>?_;rotate_left
  ·refine Pr (sA h7.1 rfl) (λG8 h8=>?_) λG8 h8=>tail G8 (h7.trans h8);have h8:=h7.trans h8;refine AK ?_;walk_at "sm";refine fi (by decide +kernel) hw6 h8 λt G9 ht h9=>?_;have h9:=h8.trans h9;refine AK ?_;walk_at "sm";refine FC (ss:=["num","to","row","box"]) rfl (by decide) (by decide) h9.1 λx hx G10 h10=>?_;have h10:=h9.trans h10
   have call:∀(x:Str),x∈HD6->(Aj (Ah (Aa (gC (.str "call")) (Aa (Ab 8) (Aa (Ai (DW n) XF (Aa ad (Aa h0 (Aa r6 yp)))) Ac))))) {AC Q with nx:=An (AC Q)} (oms s (d+3) pn wn (some (.int Ct)) (some (.ref p5)) none none (some t.enc) (some (.str x))) G10:=λx hx=>by
    walk_at "sm";exact⟨trivial,tm hx h10 λu G11 hu h11=>⟨sz rfl,q (.nd "call" (.trm t (.trm u .nil))) _ ((Pi (by decide +kernel) ht (hu.mono (Yr _) (by lia))).mono (by lia) (by lia)) (h10.trans h11)⟩⟩
   obtain⟨y,hy1,hy2⟩:=sI ht.1 G10;simp only[Ae,gIf,gTB,Ad,Af,Ab,gC,Yk,Yl,Yb,Yc,hy1,BP,AB];by_cases ey:y="fun"
   ·obtain⟨k,hk⟩:=hy2 ey;rw[show(y==("fun":Str))=true by simp[ey]];simp only[show(true != false)=true from rfl,if_true,Ak,Ad,Af,Ab,gC,Yk,Yl,Yb,Yc,hk,Xk,AB];exact call k.hd (sm k)
   ·rw[show(y==("fun":Str))=false by simpa using ey];exact call x (hd6 (by decide +kernel) hx)
  refine FD (Jg h8.1 rfl) (λG9 h9=>?_) λG9 h9=>?_
  ·have h9:=h8.trans h9;walk_at "sm";refine fi (by decide +kernel) hw6 h9 λt G10 ht h10=>?_;have h10:=h9.trans h10;refine FC (ss:=["a","a","b","ab"]) rfl (by decide) (by decide) h10.1 λx hx G11 h11=>⟨sz rfl,?_⟩;have okx:Ax x=true:=List.all_eq_true.mp (by decide +kernel) x hx;exact q (.nd "get" (.trm t (.nam x .nil))) _ ((sf ht okx).mono (by lia) (by lia)) (h10.trans h11)
  have h9:=h8.trans h9;refine AK ?_;walk_at "sm";refine⟨trivial,tm hw6 h9 λone G10 hone h10=>?_⟩;have h10:=h9.trans h10;refine FD (Jg h10.1 rfl) (λG11 h11=>?_) λG11 h11=>?_
  ·have h11:=h10.trans h11;walk_at "sm";refine⟨trivial,tm (by decide +kernel) h11 λt G12 ht h12=>⟨trivial,?_⟩⟩;have h12:=h11.trans h12;exact tm hw6 h12 λu G13 hu h13=>⟨sz rfl,q (.nd "if" (.trm t (.trm one (.trm u .nil)))) _ ((si ht hone hu).mono (by lia) (by lia)) (h12.trans h13)⟩
  have h11:=h10.trans h11;refine FD (Jg h11.1 rfl) (λG12 h12=>?_) λG12 h12=>?_
  ·have h12:=h11.trans h12;walk_at "sm";refine⟨trivial,Xv sb (by lia) h12.1 ((hn.keep h12).less (by lia)) hw6 (by decide +kernel) λt G13 ht h13=>?_⟩;have h13:=h12.trans h13;refine FC (ss:=["a","b","c"]) rfl (by decide) (by decide) h13.1 λx hx G14 h14=>⟨sz rfl,?_⟩;have okx:Ax x=true:=List.all_eq_true.mp (by decide +kernel) x hx;exact q (.nd "or" (.trm t (.nam x (.trm one .nil)))) _ ((sh (ht.mono (Yr _) (by lia)) okx hone).mono (by lia) (by lia)) (h13.trans h14)
  have h12:=h11.trans h12;refine Pr (Jg h12.1 rfl) (λG13 h13=>?_) λG13 h13=>?_
  ·have h13:=h12.trans h13;refine AK ?_;walk_at "sm";refine fi (by decide +kernel) hw6 h13 λt G14 ht h14=>?_;have h14:=h13.trans h14;refine⟨sz rfl,sz rfl,Pe rfl (by decide) (by decide) h14.1 λx hx G15 h15=>?_⟩;have h15:=h14.trans h15;simp only[Yo,YX,or_false]at hx;rcases hx with rfl | rfl
   ·exact q (.nd "read" (.trm t .nil)) _ ((Li (by decide +kernel) ht).mono (by lia) (by lia)) h15
   ·exact q (.nd "write" (.trm t (.trm one .nil))) _ ((Pi (by decide +kernel) ht (hone.mono (Yr _) (by lia))).mono (by lia) (by lia)) h15
  have h13:=h12.trans h13;refine AK ?_;walk_at "sm";refine⟨sz rfl,sz rfl,sz rfl,sz rfl,⟨(),s,rfl,h13.1,λr G14⟨k,e,hk⟩h14=>?_⟩⟩;subst e;have h14:=h13.trans h14;refine⟨sz rfl,sz rfl,λp15 hp15=>?_⟩;have h15:=h14.put (o:=.lst [.tup [.str "as",one.enc,.tup [.str "any"]],.tup [.str "as",.tup [.str "as",one.enc,.tup [.str "any"]],k.enc]]) hp15;refine BB (by decide) (by decide) h15.1 λr G16 r0 r1 h16=>?_;obtain⟨x,hx,e⟩:=KZ.Ct (h16.2 _ (Hs.ne h14.1 hp15) _ Ap) r0 r1;have h16:=h15.trans h16;show opt (ixW (.ref p15) (.int r) G16) _;rw[e,AB];have as1:=Ph hone (show KOk .any from⟨rfl,rfl⟩);simp only[Yo,YX,or_false]at hx;rcases hx with rfl | rfl
  ·exact q (.nd "as" (.trm one (.knd .any .nil))) _ (as1.mono (by lia) (by lia)) h16
  ·exact q (.nd "as" (.trm (.nd "as" (.trm one (.knd .any .nil))) (.knd k .nil))) _ ((Ph as1 hk).mono (by lia) (by lia)) h16
abbrev Xx:List Str:=["term"]
theorem Xy:Ay Xx ["term"] (Ao N8):=by walk_at "s"
def sJ(CU:Spw)(CV:Spw):GS:=(Aj (Ad (Aw) dl (gB (D4) (Aa (Bg (Bl (Ai CU XF wS)) 1 (gNm 0) Bh (Ai CV XF wS)) Ac))))
theorem sK(T:Tx K mg base a)(Xz:Df P w K mg base "_law_parts" Dx 1 CU)(XA:Dx<=k)(XB:Df P w K mg base "_law_count" Dy 1 CV)(XD:Dy<=k):Dn P w K mg base Xx "_law_count" N8 k (sJ CU CV):=λ{f cdv A outer s H E}hr=>
 have hu:=AQ hr
 have hN:=Xy.nd
 (AE (A0 (EB Eu (Cp M5 (M0 rfl) rfl T.Ol (by decide) rfl rfl rfl (AO rfl (Cs (Nc:=["part"]) rfl (Ci rfl (by decide +kernel) (by decide +kernel)) (λ_=>rfl) (by walk_at "v") (C3 (i:=0) (by decide) rfl rfl) (λC fp s1 H1=>B1) (λC fp s1 H1=>(by walk_at "v"))) A8)))))
abbrev XE:List Str:=["term"]
theorem XG:Ay XE ["term"] (Ao N9):=by walk_at "s"
def XH(CU:Spw)(EW:Spw):GS:=(Aj (Ad (Aw) dl (gB (rF H9) (Aa (Ad (Aw) (Bg (Bl (Ai CU XF wS)) 1 (gNm 0) Bh (Ai EW XF wS)) (Aq (Aa u8 Ac))) Ac))))
theorem sL(T:Tx K mg base a)(Xz:Df P w K mg base "_law_parts" Dx 1 CU)(XA:Dx<=k)(sM:Df P w K mg base "_law_deep" FE 1 EW)(sN:FE<=k):Dn P w K mg base XE "_law_deep" N9 k (XH CU EW):=λ{f cdv A outer s H E}hr=>
 have hu:=AQ hr
 have hN:=XG.nd
 (AE (A0 (EB Eu (Cp R8 (RX rfl) rfl T.Uc (by decide) rfl rfl rfl (AO rfl (EB (Cs (Nc:=["part"]) rfl (Ci rfl (by decide +kernel) (by decide +kernel)) (λ_=>rfl) (by walk_at "v") (C3 (i:=0) (by decide) rfl rfl) (λC fp s1 H1=>B1) (λC fp s1 H1=>(by walk_at "v"))) (by walk_at "v")) A8)))))
abbrev XI:List Str:=["term"]
theorem XJ:Ay XI ["term"] (Ao Oa):=by walk_at "s"
def sO:GS:=(Ae (gIf (gTB (Ad (Af (eqF false)) eq yf)) (Aj (Bg (Bl xz) 1 (gNm 0) Bh xz)) Au) (Ae (gIf (gTB (Ad (Af (inF false)) eq (Aq (Aa ln (Aa x2 (Aa yh Ac)))))) (Aj y0) Au) (Ae (gIf (gTB (Ad (Af (eqF false)) eq yd)) (Aj (Aq (Aa (Ad (Af ixW) ad yw) Ac))) Au) (Ae (gIf (gTB (Ad (Af (inF false)) eq (Aq (Aa yV (Aa yc (Aa yr (Aa yP Ac))))))) (Aj (Aq (Aa xz Ac))) Au) (Ae (gIf (gTB (Ad (Af (eqF false)) eq (gC (.str "or")))) (Aj (Aq (Aa xz (Aa (Ad (Af ixW) ad yw) Ac)))) Au) (Aj (gB (Ey) (Aa (Bv ad (A2 dl) Bk) Ac))))))))
theorem sP(T:Tx K mg base a):Dn P w K mg base XI "_law_parts" Oa k (sO):=λ{f cdv A outer s H E}hr=>
 have hu:=AQ hr
 have hN:=XJ.nd
 (Av (Bc (by walk_at "v") (AE (A0 (Cs (Nc:=["pair"]) rfl (Ci rfl (by decide +kernel) (by decide +kernel)) (λ_=>rfl) (by walk_at "v") (C3 (i:=0) (by decide) rfl rfl) (λC fp s1 H1=>B1) (λC fp s1 H1=>(by walk_at "v"))))) Bj) (by walk_at "v"))
abbrev XM:List Str:=["script","k","state","deep","term"]
theorem XN:Ay XM ["script","k"] (Ao Ob):=by walk_at "s"
def sQ(Eg:Spw)(AA:Spw)(AZ:Spw)(CV:Spw)(EW:Spw):GS:=(Ae (Ak 2 (Ad (Aw) (Ai Eg XF (Aa ad x6)) (Aq (Aa yG Ac)))) (Ae (Ak 3 yx) (Ae (gIf (gTB (Ad (Af (eqF false)) (Ai AA XF (Aa r6 (Aa yx Ac))) dl)) (Ae (CM (gC (.int 24)) r6 (gC (.int 2))) (Ak 3 yZ)) Au) (Ae (Ak 4 (Ai AZ XF (Aa r6 (Aa ya (Aa y0 (Aa (Ad (Af ixW) yF (Ai AA XF (Aa r6 ym))) Ac)))))) (Ae (gIf (gOr (gTB (Ad (Bi λi j=>decide (j < i)) (Ai CV XF yI) (gC (.int 40)))) (gTB (Ad (Bi λi j=>decide (j < i)) (Ai EW XF yI) yj))) (Ak 4 (Ah (Aa ln (Aa u8 Ac)))) Au) (Aj ye))))))
theorem sR(T:Tx K mg base a){FA:Nat}(sS:Df P w K mg base "_law_state" FA 2 Eg)(sT:FA<=k){AU:Nat}(Ee:Df P w K mg base "_law_choice" AU 2 AA)(Ef:AU<=k){BX:Nat}(Jc:Df P w K mg base "_law_term" BX 4 AZ)(Jd:BX<=k)(XB:Df P w K mg base "_law_count" Dy 1 CV)(XD:Dy<=k)(sM:Df P w K mg base "_law_deep" FE 1 EW)(sN:FE<=k):Dn P w K mg base XM "_law_drawn_term" Ob k (sQ Eg AA AZ CV EW):=by
 have hN:=XN.nd;walk_at "z"
theorem Gr{r:As}(h:r.sorts=[]):r=.nil:=by cases r <;> first | rfl | cases h
theorem Gs{r:As}(h:r.sorts=("term":Str)::ss):∃ t r',r=.trm t r'/\r'.sorts=ss:=by cases r <;> first | exact⟨_,_,rfl,(Qf h).2⟩| exact Qj (Qf h).1 (by decide +kernel)| cases h
theorem sU{r:As}(h:r.sorts=("number":Str)::ss):∃ t r',r=.num t r'/\r'.sorts=ss:=by cases r <;> first | exact⟨_,_,rfl,(Qf h).2⟩| exact Qj (Qf h).1 (by decide +kernel)| cases h
theorem sV{r:As}(h:r.sorts=("truth":Str)::ss):∃ t r',r=.tru t r'/\r'.sorts=ss:=by cases r <;> first | exact⟨_,_,rfl,(Qf h).2⟩| exact Qj (Qf h).1 (by decide +kernel)| cases h
theorem Ll{r:As}(h:r.sorts=("name":Str)::ss):∃ t r',r=.nam t r'/\r'.sorts=ss:=by cases r <;> first | exact⟨_,_,rfl,(Qf h).2⟩| exact Qj (Qf h).1 (by decide +kernel)| cases h
theorem XO{r:As}(h:r.sorts=("kind":Str)::ss):∃ t r',r=.knd t r'/\r'.sorts=ss:=by cases r <;> first | exact⟨_,_,rfl,(Qf h).2⟩| exact Qj (Qf h).1 (by decide +kernel)| cases h
theorem XQ{w:Str}{r:As}(h:KTD.datumAt w AF=some r.sorts)(g:w≠"rec"):(w="num"/\∃ i,r=.num i .nil)\/(w="truth"/\∃ b,r=.tru b .nil)\/(w="name"/\∃ x,r=.nam x .nil)\/(w="fun"/\∃ x k t,r=.nam x (.knd k (.trm t .nil)))\/(w="get"/\∃ t x,r=.trm t (.nam x .nil))\/(w="or"/\∃ t x u,r=.trm t (.nam x (.trm u .nil)))\/(w="if"/\∃ t u v,r=.trm t (.trm u (.trm v .nil)))\/(w="as"/\∃ t k,r=.trm t (.knd k .nil))\/((w="new"\/w="read")/\∃ t,r=.trm t .nil)\/((w="call"\/w="plus"\/w="less"\/w="write")/\∃ t u,r=.trm t (.trm u .nil)):=by
 have f:=Fv h
 have two:∀{r:As},r.sorts=[("term":Str),"term"]->∃ t u,r=.trm t (.trm u .nil):=λe=>by
  obtain⟨t,r1,rfl,a⟩:=Gs e;obtain⟨u,d,rfl,c⟩:=Gs a;rw[Gr c];exact⟨t,u,rfl⟩
 have one:∀{r:As},r.sorts=[("term":Str)]->∃ t,r=.trm t .nil:=λe=>by
  obtain⟨t,r1,rfl,a⟩:=Gs e;rw[Gr a];exact⟨t,rfl⟩
 simp only[AF,Yo,Prod.mk.injEq,YX,or_false]at f;rcases f with⟨rfl,e⟩|⟨rfl,e⟩|⟨rfl,e⟩|⟨rfl,e⟩|⟨rfl,e⟩|⟨rfl,e⟩|⟨rfl,e⟩|⟨rfl,e⟩|⟨rfl,e⟩|⟨rfl,e⟩|⟨rfl,e⟩|⟨rfl,e⟩|⟨rfl,e⟩|⟨rfl,e⟩|⟨rfl,e⟩
 ·obtain⟨i,r1,rfl,a⟩:=sU e;rw[Gr a];exact .inl ⟨rfl,i,rfl⟩
 ·obtain⟨i,r1,rfl,a⟩:=sV e;rw[Gr a];exact .inr (.inl ⟨rfl,i,rfl⟩)
 ·obtain⟨i,r1,rfl,a⟩:=Ll e;rw[Gr a];exact .inr (.inr (.inl ⟨rfl,i,rfl⟩))
 ·obtain⟨x,r1,rfl,a⟩:=Ll e;obtain⟨k,d,rfl,c⟩:=XO a;obtain⟨t,rfl⟩:=one c;exact .inr (.inr (.inr (.inl ⟨rfl,x,k,t,rfl⟩)))
 ·exact .inr (.inr (.inr (.inr (.inr (.inr (.inr (.inr (.inr ⟨.inl rfl,two e⟩))))))))
 ·exact Qj rfl g
 ·obtain⟨t,r1,rfl,a⟩:=Gs e;obtain⟨x,d,rfl,c⟩:=Ll a;rw[Gr c];exact .inr (.inr (.inr (.inr (.inl ⟨rfl,t,x,rfl⟩))))
 ·obtain⟨t,r1,rfl,a⟩:=Gs e;obtain⟨x,d,rfl,c⟩:=Ll a;obtain⟨u,rfl⟩:=one c;exact .inr (.inr (.inr (.inr (.inr (.inl ⟨rfl,t,x,u,rfl⟩)))))
 ·obtain⟨t,r1,rfl,a⟩:=Gs e;obtain⟨u,v,rfl⟩:=two a;exact .inr (.inr (.inr (.inr (.inr (.inr (.inl ⟨rfl,t,u,v,rfl⟩))))))
 ·exact .inr (.inr (.inr (.inr (.inr (.inr (.inr (.inr (.inr ⟨.inr (.inl rfl),two e⟩))))))))
 ·exact .inr (.inr (.inr (.inr (.inr (.inr (.inr (.inr (.inr ⟨.inr (.inr (.inl rfl)),two e⟩))))))))
 ·exact .inr (.inr (.inr (.inr (.inr (.inr (.inr (.inr (.inl ⟨.inl rfl,one e⟩))))))))
 ·exact .inr (.inr (.inr (.inr (.inr (.inr (.inr (.inr (.inl ⟨.inr rfl,one e⟩))))))))
 ·exact .inr (.inr (.inr (.inr (.inr (.inr (.inr (.inr (.inr ⟨.inr (.inr (.inr rfl)),two e⟩))))))))
 ·obtain⟨t,r1,rfl,a⟩:=Gs e;obtain⟨k,d,rfl,c⟩:=XO a;rw[Gr c];exact .inr (.inr (.inr (.inr (.inr (.inr (.inr (.inl ⟨rfl,t,k,rfl⟩)))))))
theorem Hy{w:Str}{An:GS}(c:ω[0]?=some (some (.tup (.str w::xs))))(a:(w==t)=b)(h:if b=true then e ω G D.rt else An D ω G):Ae (gIf (gTB (Ad (Af (eqF false)) eq (gC (.str t)))) (Aj e) Au) An D ω G:=by
 simp only[Ae,gIf,gTB,Ad,Af,Ab,c,gC,ixW,BF,AB,BP,a];cases b <;> exact h
theorem XR{w:Str}{l:List Str}{An:GS}(g:ω[0]?=some (some (.tup (.str w::xs))))(d:∀ Z:List W->Hw->Prop,Z (l.map W.str) G->gs ω G Z)(hl:l.length<=100)(c:l.any (·==w)=b)(h:∀ a,Sub G a->if b=true then e ω a D.rt else An D ω a):Ae (gIf (gTB (Ad (Af (inF false)) eq (Aq gs))) (Aj e) Au) An D ω G:=by
 simp only[Ae,gIf,gTB,Ad,Af,Ab,g,gC,ixW,BF,Aq];refine d _ ⟨Bo (by rw[Yh];lia),λp f=>?_⟩;rw[Pk l w Ap rfl,c];have:=h _ (Az (o:=.lst (l.map W.str)) f);cases b <;> exact this
abbrev sW:Spw:=spL (λ(t:Te)ws _=>ws=[t.enc]/\t.ok=true/\t.cnt<=1000000) λt=>t.parts.map Te.enc
abbrev gIx(i:Int):GE:=Ad (Af ixW) (Ab 0) (gC (.int i))
abbrev gLs:GE:=gB Ey (Aa (Bv (Ab 0) (A2 (gC (.int 1))) Bk) Ac)
theorem En{w:Str}(h0:ω[0]?=some (some (.tup (.str w::xs))))(e1:(["num","truth","name"]:List Str).any (·==w)=b1)(e2:(w=="fun")=b2)(e3:(["get","as","new","read"]:List Str).any (·==w)=b3)(e4:(w=="or")=b4)(h:∀ G',Sub G G'->if b1=true then Aq Ac ω G' Q else if b2=true then Aq (Aa (gIx 3) Ac) ω G' Q else if b3=true then Aq (Aa (gIx 1) Ac) ω G' Q else if b4=true then Aq (Aa (gIx 1) (Aa (gIx 3) Ac)) ω G' Q else gLs ω G' Q):
  Ae (gIf (gTB (Ad (Af (inF false)) (gIx 0) (Aq (Aa (gC (.str "num")) (Aa (gC (.str "truth")) (Aa (gC (.str "name")) Ac)))))) (Aj (Aq Ac)) Au) (Ae (gIf (gTB (Ad (Af (eqF false)) (gIx 0) (gC (.str "fun")))) (Aj (Aq (Aa (gIx 3) Ac))) Au) (Ae (gIf (gTB (Ad (Af (inF false)) (gIx 0) (Aq (Aa (gC (.str "get")) (Aa (gC (.str "as")) (Aa (gC (.str "new")) (Aa (gC (.str "read")) Ac))))))) (Aj (Aq (Aa (gIx 1) Ac))) Au) (Ae (gIf (gTB (Ad (Af (eqF false)) (gIx 0) (gC (.str "or")))) (Aj (Aq (Aa (gIx 1) (Aa (gIx 3) Ac)))) Au) (Aj gLs)))) (AC Q) ω G:=by
 refine XR h0 (λZ z=>by walk_at "cl") (by decide) e1 λG1 s1=>BC (λe=>?_) (λe=>?_)
 ·have:=h G1 s1;rw[if_pos e]at this;exact this
 refine Hy h0 e2 (BC (λe'=>?_) (λe'=>?_))
 ·have:=h G1 s1;rw[if_neg e,if_pos e']at this;exact this
 refine XR h0 (λZ z=>by walk_at "cl") (by decide) e3 λG2 s2=>BC (λf=>?_) (λf=>?_)
 ·have:=h G2 (s1.trans s2);rw[if_neg e,if_neg e',if_pos f]at this;exact this
 refine Hy h0 e4 (BC (λf'=>?_) (λf'=>?_))
 ·have:=h G2 (s1.trans s2);rw[if_neg e,if_neg e',if_neg f,if_pos f']at this;exact this
 ·have:=h G2 (s1.trans s2);rw[if_neg e,if_neg e',if_neg f,if_neg f']at this;exact this
theorem Dx(T:Tx K mg base a):Df P w K mg base "_law_parts" 1 1 sW:=by
 refine mk0 T.l7 rfl XJ J7 (λN G Q E⟨x,⟨e,_⟩,_⟩=>by rw[e];rfl) (sP T) λN G Q E F q=>?_;obtain⟨t,⟨rfl,D,hc⟩,q⟩:=q
 have m:∀{c:Hw}{p:Addr},Sub G c->c p=none->Q (.ref p) (put c p (.lst (t.parts.map Te.enc))):=λ{c p}o j=>F _ _ _ (Sub.put2 o) (q p (by
  cases e:G p with
  | none=>rfl
  | some u=>rw[o _ _ e]at j;cases j))
 cases t with
 | raw v=>cases D
 | nd w r =>
 by_cases B:w="rec"
 ·subst B;obtain⟨f,rfl⟩:=(Hu (Gj D).1).1 rfl;refine Hy (b:=true) rfl (by decide +kernel) ?_;have I:1+(f.cnt+0)<=1000000:=hc;have R:=O5 f;refine F8 (f:=K5) trivial f.enc none [] (λx L O H=>?_) (Yt (show 0+f.enc.length<=1000000 by lia) (by decide)) λp j=>?_
  ·obtain⟨n,u,rfl⟩:=O7 L;exact H
  ·rw[Yw,O3];have:=m (λ_ _ h=>h) j;have this:Q (.ref p) (put G p (.lst ((f.terms++[]).map Te.enc))):=this;rw[Yx]at this;exact this
 refine Hy (b:=false) rfl (by simpa using B) ?_
 have l:∀{c:Hw},Sub G c->r.enc=r.parts.map Te.enc->gB Ey (Aa (Bv (Ab 0) (A2 (gC (.int 1))) Bk) Ac) [some (.tup (.str w::r.enc))] c Q:=λ{c}o e=>by
  simp only[gB,Bv,A2,Bk,Aa,Ac,Ab,gC,Yb,slA];rw[F9];intro p j;rw[e];exact m o j
 have lst:∀{c:Hw}{xs:List W}{gs:GA},Sub G c->xs.length<=3->xs=r.parts.map Te.enc->(∀ Z:List W->Hw->Prop,Z xs c->gs [some (.tup (.str w::r.enc))] c Z)->Aq gs [some (.tup (.str w::r.enc))] c Q:=λ{c xs gs}o hl e J=>J _ ⟨Bo (by lia),λp j=>by rw[e];exact m o j⟩;have g:∀{x:W}{xs:List W}{c:Hw},ixW (.tup (.str w::x::xs)) (.int 1) c=some x:=λ{x xs c}=>CF;have A:∀{x y z:W}{xs:List W}{c:Hw},ixW (.tup (.str w::x::y::z::xs)) (.int 3) c=some z:=λ{x y z xs c}=>(L2.CK rfl)
 have s:∀{x:W}{i:Int}{ω:Sw}{c:Hw}{Z:Kw},ω=[some (.tup (.str w::r.enc))]->ixW (.tup (.str w::r.enc)) (.int i) c=some x->Z x c->gIx i ω c Z:=λ{x i ω c Z}h e z=>by
  simp only[gIx,Ad,Af,Ab,gC,h,Yb,e,AB];exact z
 rcases XQ (Gj D).1 B with⟨rfl,i,rfl⟩|⟨rfl,i,rfl⟩|⟨rfl,i,rfl⟩|⟨rfl,x,k,t,rfl⟩|⟨rfl,t,x,rfl⟩|⟨rfl,t,x,u,rfl⟩|⟨rfl,t,u,v,rfl⟩|⟨rfl,t,k,rfl⟩|⟨hw,t,rfl⟩|⟨hw,t,u,rfl⟩
 ·exact En (b1:=true) rfl (by decide +kernel) rfl rfl rfl λG1 d=>by simp only[Yq,if_false,if_true];exact lst (xs:=[]) d (by decide) rfl λZ z=>z
 ·exact En (b1:=true) rfl (by decide +kernel) rfl rfl rfl λG1 d=>by simp only[Yq,if_false,if_true];exact lst (xs:=[]) d (by decide) rfl λZ z=>z
 ·exact En (b1:=true) rfl (by decide +kernel) rfl rfl rfl λG1 d=>by simp only[Yq,if_false,if_true];exact lst (xs:=[]) d (by decide) rfl λZ z=>z
 ·exact En (b1:=false) (b2:=true) rfl (by decide +kernel) (by decide +kernel) rfl rfl λG1 d=>by simp only[Yq,if_false,if_true];exact lst (xs:=[t.enc]) d (show 1<=3 by decide) rfl λZ z=>s rfl A z
 ·walk_at "pb"
 ·exact En (b1:=false) (b2:=false) (b3:=false) (b4:=true) rfl (by decide +kernel) (by decide +kernel) (by decide +kernel) (by decide +kernel) λG1 d=>by simp only[Yq,if_false,if_true];exact lst (xs:=[t.enc,u.enc]) d (show 2<=3 by decide) rfl λZ z=>s rfl g (s rfl A z)
 ·exact En (b1:=false) (b2:=false) (b3:=false) (b4:=false) rfl (by decide +kernel) (by decide +kernel) (by decide +kernel) (by decide +kernel) λG1 d=>by exact l d rfl
 ·walk_at "pb"
 ·rcases hw with rfl | rfl <;> exact En (b1:=false) (b2:=false) (b3:=true) rfl (by decide +kernel) (by decide +kernel) (by decide +kernel) rfl λG1 d=>by simp only[Yq,if_false,if_true];exact lst (xs:=[t.enc]) d (show 1<=3 by decide) rfl λZ z=>s rfl g z
 ·rcases hw with rfl | rfl | rfl | rfl <;> exact En (b1:=false) (b2:=false) (b3:=false) (b4:=false) rfl (by decide +kernel) (by decide +kernel) (by decide +kernel) (by decide +kernel) λG1 d=>by exact l d rfl
abbrev sX(n:Nat):Spw:=spR (λ(t:Te)ws _=>ws=[t.enc]/\t.ok=true/\t.dp<=n/\t.cnt<=1000000) λt=>.int (t.cnt:Nat)
theorem Dy(T:Tx K mg base a):∀ n:Nat,Df P w K mg base "_law_count" (n+1) 1 (sX n)
 | 0=>DS T.T1 Bw λf G Q E⟨t,⟨_,_,hd,_⟩,_⟩=>by have:=IX t;lia
 | n+1=>by
  refine mk0 T.T1 rfl Xy Bw (λf G Q E⟨x,⟨e,_⟩,_⟩=>by rw[e];rfl) (sK T (Dx T) (by lia) (Dy T n) (Yr _)) λf G Q E g q=>?_;obtain⟨t,⟨rfl,d,hd,hc⟩,q⟩:=q;refine⟨t,⟨rfl,d,hc⟩,λp h=>?_⟩;simp only[Ap];exact WQ (Az h) Ap hc g (λc b G Q E q=>⟨c,⟨rfl,Ht d c b,by have:=Ja b;lia,by have:=Jb b;lia⟩,q⟩) q
theorem XS:∀ l:List Te,Dj ((l.map λc=>(c.dp:Int))++[0])=(tdp l:Int)
 | []=>rfl
 | [c]=>by show max (c.dp:Int) 0=((max c.dp 0:Nat):Int);lia
 | c::a::l=>by
  have b:=XS (a::l);show max (c.dp:Int) (Dj (((a::l).map λc=>(c.dp:Int))++[0]))=((max c.dp (tdp (a::l)):Nat):Int);lia
abbrev sY(n:Nat):Spw:=spR (λ(t:Te)ws _=>ws=[t.enc]/\t.ok=true/\t.dp<=n/\t.cnt<=1000000) λt=>.int (t.dp:Nat)
theorem FE(T:Tx K mg base a):∀ n:Nat,Df P w K mg base "_law_deep" (n+1) 1 (sY n)
 | 0=>DS T.T2 Bw λi G Q E⟨t,⟨_,_,hd,_⟩,_⟩=>by have:=IX t;lia
 | n+1=>by
  refine mk0 T.T2 rfl XG Bw (λi G Q E⟨x,⟨e,_⟩,_⟩=>by rw[e];rfl) (sL T (Dx T) (by lia) (FE T n) (Yr _)) λi G Q E l q=>?_;obtain⟨t,⟨rfl,h,hd,hc⟩,q⟩:=q;have v:=Hr t;have hl:=IY t.parts;have k:t.parts.length+1<=sizeLine:=Yt (show t.parts.length+1<=1000000 by lia) (by decide);unfold XH;simp only[Aj,Ad,gB,Aa,Ac];refine⟨t,⟨rfl,h,hc⟩,λp s=>?_⟩;simp only[Ap];refine K6 Ap t.parts none [] (λc b u m=>⟨c,⟨rfl,Ht h c b,by have:=Ja b;lia,by have:=Jb b;lia⟩,m⟩) (by simp only[Yi];lia) λp2 g=>?_;have j:=BN (o:=.lst (t.parts.map λc=>W.int (c.dp:Nat))) (Az s) g;have r:put (put G p (.lst (t.parts.map Te.enc))) p2 (.lst (t.parts.map λc=>W.int (c.dp:Nat))) p2=some (.lst (t.parts.map λc=>W.int (c.dp:Nat))):=Ap;refine⟨sz rfl,λp3 d=>Xe (Az d _ _ r) Ap (by rw[Yh];exact k) λp4 f=>?_⟩;have e:(t.parts.map λc:Te=>W.int (c.dp:Nat))++[W.int 0]=((t.parts.map λc:Te=>(c.dp:Int))++[0]).map W.int:=by rw[Yy,YB];rfl
  simp only[rF,H9,Dm Ap,Option.bind_some,e,L3.ND];rw[if_pos (by rw[Yj];simp only[Yg];lia),XS];show Q (.int (1+((tdp t.parts:Nat):Int))) _;rw[show(1:Int)+((tdp t.parts:Nat):Int)=((t.dp:Nat):Int) by rw[IW t];lia];exact l _ _ _ (BN (BN j d) f) q
def XT:Spw:=λws G Q _=>∃(ns:List Int)(k:Int),ws=[.rol (ns.map W.int),.int k]/\0<=k/\∀(t:Te)G',tg t->Sub G G'->Q t.enc G'
theorem sZ:Spw.M XT:=(by rintro e G Q f E d h _ ⟨ns,k,h1,h2,q⟩;exact⟨ns,k,h1,h2,λt c a b=>h _ _ (q t c a b)⟩)
theorem bc9:bc 9<=1000000:=by decide
theorem Lm(T:Tx K mg base a):Df P w K mg base "_law_drawn_term" 34 2 XT:=by
 refine mk0 T.l8 rfl XN sZ (λws G Q E⟨_,_,e,_⟩=>by rw[e];rfl) (sR T (FA T) (by lia) (AU T) (by lia) (BX T 10) (by lia) (Dy T 29) (by lia) (FE T 29) (by lia)) λws G Q E hC q=>?_;obtain⟨ns,k,rfl,Y,q⟩:=q;refine AK (⟨ns,k,rfl,Y,λp x b L=>⟨sz rfl,λp2 i=>?_⟩⟩);refine CT (Az i _ _ Ap) Ap (by simp only[Yg,Yi];lia) λs B=>?_;have R:=BN (o:=.lst ([.int x,.bl b]++[.int 8])) (BN (Az L) i) B;have n:put (put (put G p (.lst [.int x,.bl b])) p2 (.lst [.int 8])) s (.lst ([.int x,.bl b]++[.int 8])) s=some (.lst [.int x,.bl b,.int 8]):=Ap
 have H:G s=none:=by
  cases e:G s with
  | none=>rfl
  | some u=>rw[BN (Az L) i _ _ e]at B;cases B
 generalize put (put (put G p (.lst [.int x,.bl b])) p2 (.lst [.int 8])) s (.lst ([.int x,.bl b]++[.int 8]))=G1 at R n ⊢;have J:St true s G1:=⟨x,b,8,n⟩;have f:∀{G2:Hw},Hs true s G1 G2->Sub G G2:=λh b u v=>h.2 b (Do v H) u (R b u v);refine AK (DX (λr=>∀(d:Nat)G',d<=9->Hs true s G1 G'->r (AC Q) [some (.rol (ns.map W.int)),some (.int k),some (.ref s),some (.int (d:Nat)),none] G') (λd G2 hd h2=>?_) λAn g=>?_);rotate_left
 ·simp only[Ae,gIf,gTB,Ad,Af,Ai,Aa,Ac,Ab,gC,Yb,Yc];refine BB (by decide) (by decide) J λr G2 _ _ h2=>BC (λ_=>?_) (λ_=>g 4 G2 (by decide) h2);obtain⟨y,c,z,e⟩:=h2.1;refine Xb (e) (g 9 _ (by decide) ⟨⟨y,c,24,Ap⟩,λb O u v=>by rw[AX O];exact h2.2 b O u v⟩)
 refine AK ?_;simp only[Ad,Ai,Aq,Aa,Ac,Ab,gC,Yb,Yc];refine⟨sz rfl,λpn j=>?_⟩;have S:=h2.put (o:=.lst []) j;have n3:=Hs.ne h2.1 j;refine FC (ss:=["num","truth","row","box","to"]) rfl (by decide) (by decide) S.1 λwn I G4 l=>?_;have U:=l.2 _ n3 _ (Ap);have l:=S.trans l;refine EV (ns:=[]) rfl (by lia) l.1 ⟨n3,U,λx hx=>(by cases hx),by show 0+d<=12;lia⟩ (hd6 (by decide +kernel) I) λt G5 ht A=>?_;have A:=l.trans A
 have hbc:bc d<=bc 9:=by
  have:∀ m:Nat,bc d<=bc (d+m):=λm=>by
   induction m with
   | zero=>exact Yr _
   | succ m ih=>exact Yt ih (show bc (d+m)<=4*bc (d+m)+3 by lia)
  have N:=this (9 - d);rw[show d+(9 - d)=9 by lia]at N;exact N
 have Z:=bc9;obtain⟨t1,D,F⟩:=ht;have F:t.dp<=29:=by lia
 have D:t.cnt<=1000000:=by lia
 refine⟨t,⟨rfl,t1,F,D⟩,?_⟩;have zero:=q (.nd "num" (.num 0 .nil)) _ ⟨by decide +kernel,by decide,by decide⟩ (f A);refine BC (λ_=>⟨sz rfl,zero⟩) (λn=>?_);refine⟨t,⟨rfl,t1,F,D⟩,BC (λ_=>⟨sz rfl,zero⟩) (λX=>?_)⟩;simp only[YN]at n X;exact q t _ ⟨t1,by lia,by lia⟩ (f A)
abbrev XU:List Str:=["reader","is_less_than_nought","figures"]
theorem Ln:Ay XU ["reader"] (Ao IH):=by walk_at "s"
abbrev yO:=gB (rF AM) kw
abbrev yB:=BY (AH na) (D7 (gB (rF DM) kw)) (gB (rF DM) kw)
def td(K:PySem.W.Frag)(a:Adr)(A9:Spw)(Lo:Spw)(E:Addr->Hw->Prop):GS:=(Ae (Ak 1 (AR a.Reader "takes" A9 (λ_=>E) ad (Aa (gC (.str "-")) Ac))) (Ae (Ak 2 (AR a.Reader "figures" Lo (λ_=>E) ad Ac)) (Ae (gIf (gNt (gTB (B0 (AY (λi j=>decide (i<=j)) (λa b=>!AT b a)) (AY (λi j=>decide (i<=j)) (λa b=>!AT b a)) dl yO yW))) (CC a.BadNote E (Aa (gC (.str "wanted a number")) Ac)) Au) (Ae (gIf (A7 (gTB (Ad (Af (eqF false)) (Ad (Af ixW) r6 u8) (gC (.str "0")))) (gOr (gTB (Ad (Bi λi j=>decide (j < i)) yO dl)) (AH na))) (CC a.BadNote E (Aa (gC (.str "a needless nought or sign")) Ac)) Au) (Aj yB)))))
theorem tf(T:Tx K mg base a)(CG:DfM P w K mg base a.Reader "takes" k_Reader_takes 2 A9)(h_Reader_takes:k_Reader_takes<=k)(tj:DfM P w K mg base a.Reader "figures" k_Reader_figures 1 Lo)(h_Reader_figures:k_Reader_figures<=k){f:Addr}{s:Shared}(hr:Room k (A.deeper (envOfC "number_from" (Ao IH) s.heap.objs.size f cdv))):Ssm (cxW P w K mg base XU "number_from" (Ao IH) f cdv A outer s H E) (λB=>B=H) (AS IH) (td K a A9 Lo (dnX K H E)):=
 have hu:=AQ hr
 have hN:=Ln.nd
 (Av (Bt (i:=1) Ln.nd rfl rfl rfl (BK T.AJ CG (hr.mono h_Reader_takes) AG rfl rfl rfl (by walk_at "v") (by walk_at "v"))) (Av (Bt (i:=2) Ln.nd rfl rfl rfl (E8 T.AJ tj (hr.mono h_Reader_figures) AG rfl (by walk_at "v"))) (Av (Bc (by walk_at "v") (AE (DH T.Dr T.DO PySem.F.excBase_ValueError rfl rfl rfl rfl (by walk_at "v"))) Bj) (Av (Bc (by walk_at "v") (AE (DH T.Dr T.DO PySem.F.excBase_ValueError rfl rfl rfl rfl (by walk_at "v"))) Bj) (AE (A0 (MR (by walk_at "v") (Nv (by walk_at "v")) (by walk_at "v"))))))))
abbrev XW:List Str:=["reader","word"]
theorem Pt:Ay XW ["reader"] (Ao II):=by walk_at "s"
def tp(K:PySem.W.Frag)(a:Adr)(Bm:Spw)(E:Addr->Hw->Prop):GS:=(Ae (Ak 1 (AR a.Reader "word" Bm (λ_=>E) ad Ac)) (Ae (gIf (gTB (Ad (Af (inF true)) na (Ah (Aa (gC (.str "yes")) (Aa (gC (.str "no")) Ac))))) (CC a.BadNote E (Aa (gC (.str "wanted a truth")) Ac)) Au) (Aj (Ad (Af (eqF false)) na (gC (.str "yes"))))))
theorem tq(T:Tx K mg base a)(DP:DfM P w K mg base a.Reader "word" k_Reader_word 1 Bm)(h_Reader_word:k_Reader_word<=k){f:Addr}{s:Shared}(hr:Room k (A.deeper (envOfC "truth_from" (Ao II) s.heap.objs.size f cdv))):Ssm (cxW P w K mg base XW "truth_from" (Ao II) f cdv A outer s H E) (λB=>B=H) (AS II) (tp K a Bm (dnX K H E)):=
 have hu:=AQ hr
 have hN:=Pt.nd
 (Av (Bt (i:=1) Pt.nd rfl rfl rfl (E8 T.AJ DP (hr.mono h_Reader_word) AG rfl (by walk_at "v"))) (Av (Bc (by walk_at "v") (AE (DH T.Dr T.DO PySem.F.excBase_ValueError rfl rfl rfl rfl (by walk_at "v"))) Bj) (by walk_at "v")))
abbrev XX:List Str:=["reader","depth","fields"]
theorem Pu:Ay XX ["reader","depth"] (Ao IJ):=by walk_at "s"
def XY(K:PySem.W.Frag)(a:Adr)(EH:Spw)(Jh:Spw)(A9:Spw)(E:Addr->Hw->Prop):GS:=(Ae (gIf (AH (AR a.Reader "sees" EH (λ_=>E) ad (Aa yl Ac))) (Aj (Ah Ac)) Au) (Ae (Ak 2 (Aq (Aa (Ai Jh (λ_=>E) (Aa ad x6)) Ac))) (Ae (E4 (AH (AR a.Reader "takes" A9 (λ_=>E) ad (Aa yN Ac))) (AN (gMt B7 Cr r6 (Aa (Ai Jh (λ_=>E) (Aa ad x6)) Ac)))) (Aj (gB (rF Cq) kw)))))
theorem tu(T:Tx K mg base a)(OG:DfM P w K mg base a.Reader "sees" k_Reader_sees 2 EH)(h_Reader_sees:k_Reader_sees<=k)(XZ:Df P w K mg base "term_field_from" Lp 2 Jh)(X0:Lp<=k)(CG:DfM P w K mg base a.Reader "takes" k_Reader_takes 2 A9)(h_Reader_takes:k_Reader_takes<=k){f:Addr}{s:Shared}(hr:Room k (A.deeper (envOfC "fields_from" (Ao IJ) s.heap.objs.size f cdv))):Ssm (cxW P w K mg base XX "fields_from" (Ao IJ) f cdv A outer s H E) (λB=>B=H) (AS IJ) (XY K a EH Jh A9 (dnX K H E)):=
 have hu:=AQ hr
 have hN:=Pu.nd
 (Av (Bc (Ck (λ_=>rfl) (BK T.AJ OG (hr.mono h_Reader_sees) AG rfl rfl rfl (by walk_at "v") (by walk_at "v"))) (by walk_at "v") Bj) (Av (Bt (i:=2) Pu.nd rfl rfl rfl (HV (AO rfl (A1 XZ (hr.mono X0) rfl AG rfl rfl rfl (by walk_at "v")) A8))) (Av (GW PassesOwn.leaving (Ck (λ_=>rfl) (BK T.AJ CG (hr.mono h_Reader_takes) AG rfl rfl rfl (by walk_at "v") (by walk_at "v"))) (AE (BU rfl (C6 Ia rfl rfl rfl rfl rfl (by walk_at "v") (AO rfl (A1 XZ (hr.mono X0) rfl AG rfl rfl rfl (by walk_at "v")) A8))))) (by walk_at "v"))))
abbrev X1:List Str:=["reader","depth","name"]
theorem Pv:Ay X1 ["reader","depth"] (Ao IK):=by walk_at "s"
def tx(K:PySem.W.Frag)(a:Adr)(Bm:Spw)(Ba:Spw)(CW:Spw)(E:Addr->Hw->Prop):GS:=(Ae (Ak 2 (AR a.Reader "word" Bm (λ_=>E) ad Ac)) (Ae (AN (AR a.Reader "wants" Ba (λ_=>E) ad (Aa yy Ac))) (Aj (Ah (Aa r6 (Aa (Ai CW (λ_=>E) yg) Ac))))))
theorem tz(T:Tx K mg base a)(DP:DfM P w K mg base a.Reader "word" k_Reader_word 1 Bm)(h_Reader_word:k_Reader_word<=k)(CH:DfM P w K mg base a.Reader "wants" k_Reader_wants 2 Ba)(h_Reader_wants:k_Reader_wants<=k)(Ji:Df P w K mg base "term_from" DY 2 CW)(Jj:DY<=k){f:Addr}{s:Shared}(hr:Room k (A.deeper (envOfC "term_field_from" (Ao IK) s.heap.objs.size f cdv))):Ssm (cxW P w K mg base X1 "term_field_from" (Ao IK) f cdv A outer s H E) (λB=>B=H) (AS IK) (tx K a Bm Ba CW (dnX K H E)):=
 have hu:=AQ hr
 have hN:=Pv.nd
 (Av (Bt (i:=2) Pv.nd rfl rfl rfl (E8 T.AJ DP (hr.mono h_Reader_word) AG rfl (by walk_at "v"))) (Av (BU rfl (BK T.AJ CH (hr.mono h_Reader_wants) AG rfl rfl rfl (by walk_at "v") (by walk_at "v"))) (AE (A0 (MO (AO rfl (by walk_at "v") (AO rfl (A1 Ji (hr.mono Jj) rfl AG rfl rfl rfl (by walk_at "v")) A8)))))))
abbrev X2:List Str:=["reader","sort","depth"]
theorem X3:Ay X2 ["reader","sort","depth"] (Ao IL):=by walk_at "s"
abbrev yQ:=Aa dl Ac
def tB(K:PySem.W.Frag)(a:Adr)(Lq:Spw)(Lr:Spw)(BV:Spw)(Ls:Spw)(CW:Spw)(Bm:Spw)(E:Addr->Hw->Prop):GS:=(Ae (gIf (gTB (Ad (Af (eqF false)) na (gC (.str "number")))) (Aj (Ai Lq (λ_=>E) wS)) Au) (Ae (gIf yS (Aj (Ai Lr (λ_=>E) wS)) Au) (Ae (gIf (gTB (Ad (Af (eqF false)) na (gC (.str "kind")))) (Aj (Ai BV (λ_=>E) (Aa ad yQ))) Au) (Ae (gIf (gTB (Ad (Af (eqF false)) na (gC (.str "fields")))) (Aj (Ai Ls (λ_=>E) (Aa ad kw))) Au) (Ae (gIf (gTB (Ad (Af (eqF false)) na (gC (.str "term")))) (Aj (Ai CW (λ_=>E) (Aa ad (Aa (Ad (Aw) r6 dl) Ac)))) Au) (Aj (AR a.Reader "word" Bm (λ_=>E) ad Ac)))))))
theorem tD(T:Tx K mg base a)(tE:Df P w K mg base "number_from" Lu 1 Lq)(tF:Lu<=k)(tG:Df P w K mg base "truth_from" Lv 1 Lr)(tH:Lv<=k){CP:Nat}(Fk:Df P w K mg base "kind_from" CP 2 BV)(Fo:CP<=k)(tI:Df P w K mg base "fields_from" Lw 2 Ls)(tJ:Lw<=k)(Ji:Df P w K mg base "term_from" DY 2 CW)(Jj:DY<=k)(DP:DfM P w K mg base a.Reader "word" k_Reader_word 1 Bm)(h_Reader_word:k_Reader_word<=k){f:Addr}{s:Shared}(hr:Room k (A.deeper (envOfC "thing_from" (Ao IL) s.heap.objs.size f cdv))):Ssm (cxW P w K mg base X2 "thing_from" (Ao IL) f cdv A outer s H E) (λB=>B=H) (AS IL) (tB K a Lq Lr BV Ls CW Bm (dnX K H E)):=
 have hu:=AQ hr
 have hN:=X3.nd
 (Av (Bc (by walk_at "v") (AE (A0 (A1 tE (hr.mono tF) rfl AG rfl rfl rfl (by walk_at "v")))) Bj) (Av (Bc (by walk_at "v") (AE (A0 (A1 tG (hr.mono tH) rfl AG rfl rfl rfl (by walk_at "v")))) Bj) (Av (Bc (by walk_at "v") (AE (A0 (A1 Fk (hr.mono Fo) rfl AG rfl rfl rfl (by walk_at "v")))) Bj) (Av (Bc (by walk_at "v") (AE (A0 (A1 tI (hr.mono tJ) rfl AG rfl rfl rfl (by walk_at "v")))) Bj) (Av (Bc (by walk_at "v") (AE (A0 (A1 Ji (hr.mono Jj) rfl AG rfl rfl rfl (by walk_at "v")))) Bj) (AE (A0 (E8 T.AJ DP (hr.mono h_Reader_word) AG rfl (by walk_at "v")))))))))
abbrev X4:List Str:=["place","word"]
theorem X5:Ay X4 ["place","word"] (Ao Oc):=by walk_at "s"
def tK:GS:=(Ae (gIf (gTB (Ad (Af (eqF false)) ad u8)) (Aj (gC (.str ""))) Au) (Aj (BY (A7 (gTB (Ad (Af (eqF false)) na yd)) (gTB (Ad (Af (eqF false)) ad dl))) yy yN)))
theorem tL(T:Tx K mg base a):Dn P w K mg base X4 "gap_ahead_of" Oc k (tK):=by
 have hN:=X5.nd;walk_at "z"
abbrev X6:List Str:=["reader","depth","word","form","things","place","sort"]
theorem Jk:Ay X6 ["reader","depth"] (Ao IM):=by walk_at "s"
def tM(K:PySem.W.Frag)(a:Adr)(Bm:Spw)(CS:Spw)(Ba:Spw)(Lx:Spw)(Ly:Spw)(E:Addr->Hw->Prop):GS:=(Ae (gIf (gTB (Ad (Bi λi j=>decide (j < i)) na yj)) (CC a.BadNote E (Aa (gC (.str "too many terms within one another")) Ac)) Au) (Ae (Ak 2 (AR a.Reader "word" Bm (λ_=>E) ad Ac)) (Ae (Ak 3 (Ai CS (λ_=>E) kw)) (Ae (gIf (gTB (Ad (Af (isF false)) ya (gC .non))) (CC a.BadNote E (Aa (gC (.str "wanted a term")) Ac)) Au) (Ae (AN (AR a.Reader "wants" Ba (λ_=>E) ad (Aa (gC (.str "(")) Ac))) (Ae (Ak 4 (Aq kw)) (Ae (Bz (Il yk) (Bb 5 6) (Ae (AN (AR a.Reader "wants" Ba (λ_=>E) ad (Aa (Ai Lx (λ_=>E) (Aa yJ kw)) Ac))) (AN (gMt B7 Cr ye (Aa (Ai Ly (λ_=>E) (Aa ad (Aa (Ab 6) x6))) Ac))))) (Ae (AN (AR a.Reader "wants" Ba (λ_=>E) ad (Aa yl Ac))) (Aj (gB (rF Cq) yI))))))))))
theorem X7(T:Tx K mg base a)(DP:DfM P w K mg base a.Reader "word" k_Reader_word 1 Bm)(h_Reader_word:k_Reader_word<=k){C9:Nat}(OP:Df P w K mg base "form_of" C9 1 CS)(OQ:C9<=k)(CH:DfM P w K mg base a.Reader "wants" k_Reader_wants 2 Ba)(h_Reader_wants:k_Reader_wants<=k)(tN:Df P w K mg base "gap_ahead_of" Jl 2 Lx)(tO:Jl<=k)(tP:Df P w K mg base "thing_from" Lz 3 Ly)(tQ:Lz<=k){f:Addr}{s:Shared}(hr:Room k (A.deeper (envOfC "term_from" (Ao IM) s.heap.objs.size f cdv))):Ssm (cxW P w K mg base X6 "term_from" (Ao IM) f cdv A outer s H E) (λB=>B=H) (AS IM) (tM K a Bm CS Ba Lx Ly (dnX K H E)):=
 have hu:=AQ hr
 have hN:=Jk.nd
 (Av (Bc (by walk_at "v") (AE (DH T.Dr T.DO PySem.F.excBase_ValueError rfl rfl rfl rfl (by walk_at "v"))) Bj) (Av (Bt (i:=2) Jk.nd rfl rfl rfl (E8 T.AJ DP (hr.mono h_Reader_word) AG rfl (by walk_at "v"))) (Av (Bt (i:=3) Jk.nd rfl rfl rfl (A1 OP (hr.mono OQ) rfl AG rfl rfl rfl (by walk_at "v"))) (Av (Bc (by walk_at "v") (AE (DH T.Dr T.DO PySem.F.excBase_ValueError rfl rfl rfl rfl (by walk_at "v"))) Bj) (Av (BU rfl (BK T.AJ CH (hr.mono h_Reader_wants) AG rfl rfl rfl (by walk_at "v") (by walk_at "v"))) (Av (by walk_at "v") (Av (JS PassesOwn.leaving rfl (λ_=>rfl) (lj T.mG rfl rfl (by walk_at "v")) (by walk_at "v") (Av (BU rfl (BK T.AJ CH (hr.mono h_Reader_wants) AG rfl rfl rfl (by walk_at "v") (AO rfl (A1 tN (hr.mono tO) rfl AG rfl rfl rfl (by walk_at "v")) A8))) (AE (BU rfl (C6 Ia rfl rfl rfl rfl rfl (by walk_at "v") (AO rfl (A1 tP (hr.mono tQ) rfl AG rfl rfl rfl (by walk_at "v")) A8)))))) (Av (BU rfl (BK T.AJ CH (hr.mono h_Reader_wants) AG rfl rfl rfl (by walk_at "v") (by walk_at "v"))) (by walk_at "v")))))))))
abbrev X8:List Str:=["text","reader","term"]
theorem LA:Ay X8 ["text"] (Ao IN):=by walk_at "s"
def tR(K:PySem.W.Frag)(a:Adr)(LC:Spw)(CW:Spw)(LD:Spw)(EN:Spw)(E:Addr->Hw->Prop):GS:=(Ae (Ak 1 (Ig a.Reader LC (λ_=>E) wS)) (Ae (Ak 2 (Ai CW (λ_=>E) (Aa na yQ))) (Ae (AN (AR a.Reader "wants_end" LD (λ_=>E) na Ac)) (Ae (gIf (gNt (AH (Ai EN (λ_=>E) kw))) (CC a.BadNote E (Aa (gC (.str "what is written is no term")) Ac)) Au) (Aj r6)))))
theorem tS(T:Tx K mg base a)(tT:DfI P w K mg base "Reader" a.Reader k_Reader___init__ 2 LC)(h_Reader___init__:k_Reader___init__+1<=k)(Ji:Df P w K mg base "term_from" DY 2 CW)(Jj:DY<=k)(tU:DfM P w K mg base a.Reader "wants_end" k_Reader_wants_end 1 LD)(h_Reader_wants_end:k_Reader_wants_end<=k){Fq:Nat}(OU:Df P w K mg base "is_term" Fq 1 EN)(OV:Fq<=k){f:Addr}{s:Shared}(hr:Room k (A.deeper (envOfC "term_read" (Ao IN) s.heap.objs.size f cdv))):Ssm (cxW P w K mg base X8 "term_read" (Ao IN) f cdv A outer s H E) (λB=>B=H) (AS IN) (tR K a LC CW LD EN (dnX K H E)):=
 have hu:=AQ hr
 have hN:=LA.nd
 (Av (Bt (i:=1) LA.nd rfl rfl rfl (iQ tT (hr.mono h_Reader___init__) rfl AG rfl rfl rfl (by walk_at "v"))) (Av (Bt (i:=2) LA.nd rfl rfl rfl (A1 Ji (hr.mono Jj) rfl AG rfl rfl rfl (by walk_at "v"))) (Av (BU rfl (E8 T.AJ tU (hr.mono h_Reader_wants_end) AG rfl (by walk_at "v"))) (Av (Bc (FV (Ck (λ_=>rfl) (A1 OU (hr.mono OV) rfl AG rfl rfl rfl (by walk_at "v")))) (AE (DH T.Dr T.DO PySem.F.excBase_ValueError rfl rfl rfl rfl (by walk_at "v"))) Bj) (by walk_at "v")))))
theorem if2{X Y:Prop}(h:if(A&&B)=true then X else Y):if A=true then(if B=true then X else Y)else Y:=by cases A <;> exact h
def Cw(c:Nat):Bool:=!AT ⟨#[c]⟩ "0"&&!AT "9" ⟨#[c]⟩
def B3(T:Str)(i:Nat):List Nat:=(T.cps.toList.drop i).takeWhile Cw
theorem tV(h:T.cps.toList[j]?=some c)(hc:Cw c=true):B3 T j=c::B3 T (j+1):=by
 obtain⟨h1,h2⟩:=YV.mp h;unfold B3;rw[List.drop_eq_getElem_cons h1,h2,List.takeWhile_cons,hc];rfl
theorem tW(h:T.cps.toList[j]?=some c)(hc:Cw c=false):B3 T j=[]:=by
 obtain⟨h1,h2⟩:=YV.mp h;unfold B3;rw[List.drop_eq_getElem_cons h1,h2,List.takeWhile_cons,hc];rfl
theorem tX(h:T.length<=j):B3 T j=[]:=by
 unfold B3;rw[List.drop_eq_nil_of_le (h)];rfl
def LI(a:Adr):Spw:=λws G Q _=>∃(r:Addr)(T:Str)(i:Nat),ws=[.ref r]/\G r=some (rdr a.Reader T i)/\T.length<=90000/\i<=T.length/\Q (.str ⟨(B3 T i).toArray⟩) (put G r (rdr a.Reader T (i+(B3 T i).length)))
theorem tY:Spw.M (LI a):=λf G Q d E e h _⟨r,T,i,h1,h2,c,b,q⟩=>⟨r,T,i,h1,h2,c,b,h _ _ q⟩
theorem tZ(T:Tx K mg base a):DfM P w K mg base a.Reader "figures" 1 1 (LI a):=by
 refine J3 T.Kn rfl OI tY (λx G Q E⟨r,T,i,e,_⟩=>by rw[e];rfl) (nJ T) λx G Q E y q=>?_;obtain⟨r,T,i,rfl,h,l,hi,q⟩:=q;refine⟨r,_,_,rfl,h,Ce,?_⟩
 refine⟨λm ω s=>∃ j:Nat,m=T.length - j/\i<=j/\j<=T.length/\ω=[some (.ref r),some (.int i)]/\s=put G r (rdr a.Reader T j)/\B3 T i=(T.cps.toList.drop i).take (j - i)++B3 T j,
  ⟨_,i,rfl,Yr _,hi,rfl,(Hm h).symm,by simp⟩,?_⟩
 rintro m ω s ⟨j,rfl,o,v,rfl,rfl,b⟩;have c:(put G r (rdr a.Reader T j)) r=some (rdr a.Reader T j):=Ap
 have k:∀ n:Nat,B3 T j=[]->n=j->i+(B3 T i).length=n:=λn e en=>by
  rw[b,e,Yx,List.length_take,List.length_drop,<- Hl];lia
 have f:B3 T j=[]->Q (.str (Txt.slice T (some (i:Int)) (some (j:Int)))) (put G r (rdr a.Reader T j)):=λe=>by
  rw[VQ o v];have t:(T.cps.toList.drop i).take (j - i)=B3 T i:=by rw[b,e,Yx]
  rw[t,<- k j e rfl];exact q
 walk_at "rd";refine⟨r,_,_,rfl,c,Ce,r,_,_,rfl,c,Dt,?_⟩;dsimp only;rw[if_pos (Du l)];simp only[AB];by_cases d:j < T.length
 ·rw[if_pos (by simpa using d)];refine⟨r,_,_,rfl,c,Dt,r,_,_,rfl,c,Ce,?_⟩;have g:j < T.cps.toList.length:=by exact d
  have hc:T.cps.toList[j]?=some T.cps.toList[j]:=by simp[g]
  dsimp only;rw[if_pos (Du l),CK g,hc];refine if2 ?_
  change if Cw T.cps.toList[j]=true then _ else _
  cases p:Cw T.cps.toList[j]with
  | true =>
   refine⟨r,_,j,rfl,c,Ce,_,1,rfl,c,by simp,?_⟩;rw[AV];refine⟨T.length -(j+1),by lia,j+1,(by first | rfl | trivial),by lia,by lia,(by first | rfl | trivial),(by first | rfl | trivial),?_⟩;rw[b,tV hc p];have:j+1 - i=(j - i)+1:=by lia
   rw[this,List.take_add_one];have u:(T.cps.toList.drop i)[j - i]?=some T.cps.toList[j]:=by rw[List.getElem?_drop,show i+(j - i)=j by lia,hc]
   rw[u];simp
  | false =>
   exact⟨r,_,_,rfl,c,Dt,r,_,_,rfl,c,Ce,⟨Du l,f (tW hc p)⟩⟩
 ·rw[if_neg (by simpa using d)];exact⟨r,_,_,rfl,c,Dt,r,_,_,rfl,c,Ce,⟨Du l,f (tX (by lia))⟩⟩
section
open PySem
def A3(s:Sg):Sg:=s.takeWhile Cw
def afg(s:Sg):Sg:=s.dropWhile Cw
end
theorem X9(c:Nat):Cw c=true↔48<=c/\c<=57:=by
 have h1:(AT ⟨#[c]⟩ "0"=true)↔c < 48:=by
  unfold AT;rw[YN];show([c] < [48])↔_;simp[List.cons_lt_cons_iff]
 have h2:(AT "9" ⟨#[c]⟩=true)↔57 < c:=by
  unfold AT;rw[YN];show([57] < [c])↔_;simp[List.cons_lt_cons_iff]
 show(!AT ⟨#[c]⟩ "0"&&!AT "9" ⟨#[c]⟩)=true↔_;rw[Qe];constructor
 ·rintro⟨a,b⟩;refine⟨?_,?_⟩
  ·rcases Nat.lt_or_ge c 48 with z | z
   ·rw[h1.mpr z]at a;cases a
   ·exact z
  ·rcases Nat.lt_or_ge 57 c with z | z
   ·rw[h2.mpr z]at b;cases b
   ·exact z
 ·rintro⟨a,b⟩;refine⟨?_,?_⟩
  ·cases e:AT ⟨#[c]⟩ "0" with
   | false=>rfl
   | true=>have:=h1.mp e;lia
  ·cases e:AT "9" ⟨#[c]⟩with
   | false=>rfl
   | true=>have:=h2.mp e;lia
def Dz(neg:Bool)(s:Sg):Option (Int×Sg):=
 if(A3 s).length < 1\/20 <(A3 s).length then none
 else if(A3 s).head?=some 48/\(1 <(A3 s).length\/neg=true)then none
 else some (if neg then -((NumText.digitsVal (A3 s):Nat):Int)else((NumText.digitsVal (A3 s):Nat):Int),afg s)
def Eh(s:Sg):Option (Int×Sg):=match eat "-" s with
 | some s1=>Dz true s1
 | none=>Dz false s
theorem Pw:∀(s:Sg),∀ c∈A3 s,Cw c=true
 | [],c,hc=>by cases hc
 | x::s,c,hc=>by
  unfold A3 at hc;rw[List.takeWhile_cons]at hc;cases e:Cw x with
  | false=>rw[e]at hc;cases hc
  | true =>
   rw[e]at hc;rcases Yo.mp hc with rfl | hc
   ·exact e
   ·exact Pw s c hc
theorem t0{s:Sg}(h:At T i s):B3 T i=A3 s/\At T (i+(B3 T i).length) (afg s):=by
 obtain⟨h1,h2⟩:=h;have e:B3 T i=A3 s:=by unfold B3 A3;rw[show T.cps.toList=cs T from rfl,h1]
 refine⟨e,?_⟩;rw[e];have a:s=A3 s++afg s:=(List.takeWhile_append_dropWhile).symm;exact At.next ⟨by rw[<- a];exact h1,h2⟩
def LJ{α:Type}(a:Adr)(e:α->W)(f:Sg->Option (α×Sg)):Spw:=λws G Q E=>∃(r:Addr)(T:Str)(i:Nat)(s:Sg),ws=[.ref r]/\G r=some (rdr a.Reader T i)/\T.length<=90000/\At T i s/\RO a r T ((f s).map λx=>(e x.1,x.2)) G Q E
theorem Y0{α:Type}{e:α->W}{f:Sg->Option (α×Sg)}:Spw.M (LJ a e f):=λj G Q d E g h h'⟨r,T,i,s,h1,h2,c,b,q⟩=>⟨r,T,i,s,h1,h2,c,b,q.imp h h'⟩
theorem Y1{α:Type}{e:α->W}{f:Sg->Option (α×Sg)}(b:List W)(G:Hw)(Q:Kw)(E:Addr->Hw->Prop)(h:LJ a e f b G Q E):b.length=1:=by
 obtain⟨_,_,_,_,rfl,_⟩:=h;rfl
theorem t3{s:Sg}(f:ω[0]?=some (some (.ref r)))(h:G r=some (rdr a.Reader T i))(e:T.length<=90000)(b:At T i s)(q:∀ i,At T i (afg s)->Q (.str ⟨(A3 s).toArray⟩) (put G r (rdr a.Reader T i))):AR a.Reader "figures" (LI a) (λ_=>E) ad Ac ω G Q:=by
 obtain⟨d,c⟩:=t0 b;simp only[AR,Ab,f];refine⟨r,_,rfl,h,EI (C:=r) (by decide +kernel) (by decide +kernel),r,T,i,rfl,h,e,b.2,?_⟩;have z:=q _ c;rw[d]at z ⊢;exact z
theorem t4{f:Sg}(h:∀ c∈f,Cw c=true)(h1:f≠[])(h2:f.length<=20)(G:Hw):DM [.str ⟨f.toArray⟩] G=some (.int ((NumText.digitsVal f:Nat):Int)):=by
 have hd:NumText.AllDigits (⟨f.toArray⟩:Str).cps.toList:=λc hc=>(X9 c).mp (h c hc);have e:=PySem.intText_digits hd h1 (Yt h2 (by decide));unfold DM;dsimp only;rw[if_pos (show(⟨f.toArray⟩:Str).length<=640 from Yt h2 (by decide)),e];rfl
theorem Y2{d:Bool}{s:Sg}(h:G r=some (rdr a.Reader T i))(y:T.length<=90000)(w:At T i s)(q1:∀ x s',Dz d s=some (x,s')->∀ i,At T i s'->Q (.int x) (put G r (rdr a.Reader T i)))(q2:Dz d s=none->∀ i,E a.BadNote (put G r (rdr a.Reader T i))):
  (Ae (Ak 2 (AR a.Reader "figures" (LI a) (λ_=>E) ad Ac)) (Ae (gIf (gNt (gTB (B0 (AY (λi j=>decide (i<=j)) (λa b=>!AT b a)) (AY (λi j=>decide (i<=j)) (λa b=>!AT b a)) dl yO yW))) (CC a.BadNote E (Aa (gC (.str "wanted a number")) Ac)) Au) (Ae (gIf (A7 (gTB (Ad (Af (eqF false)) (Ad (Af ixW) r6 u8) (gC (.str "0")))) (gOr (gTB (Ad (Bi λi j=>decide (j < i)) yO dl)) (AH na))) (CC a.BadNote E (Aa (gC (.str "a needless nought or sign")) Ac)) Au) (Aj yB)))) (AC Q) [some (.ref r),some (.bl d),none] G:=by
 refine AK (t3 rfl h y w λj B=>?_);have q:=Pw s;have o:(⟨(A3 s).toArray⟩:Str).length=(A3 s).length:=rfl
 have n:(A3 s).length<=90000:=by
  have h1:=(List.takeWhile_sublist (p:=Cw) (l:=s)).length_le;have h2:=Qg List.length w.1;rw[List.length_drop,DQ]at h2;show(s.takeWhile Cw).length<=_;lia
 have k:∀ G,AM [.str ⟨(A3 s).toArray⟩] G=some (.int ((A3 s).length:Nat)):=λG=>by
  unfold AM BZ;dsimp only;rw[if_pos (by exact Du n),o]
 simp only[Ae,gIf,gNt,gTB,B0,AY,gB,rF,Aa,Ac,Ab,gC,Yk,Yl,Yb,Yc,k,AB];by_cases g1:1<=(A3 s).length
 ·rw[if_pos (YG (by lia))];by_cases g2:(A3 s).length<=20
  ·rw[if_neg (by rw[YG (by lia)];decide)];have g:¬ ((A3 s).length < 1\/20 <(A3 s).length):=by lia
   obtain⟨c,f,t⟩:∃ c f,A3 s=c::f:=by
    cases e:A3 s with
    | nil=>rw[e]at g1;exact Qj g1 (by decide)
    | cons c f=>exact⟨c,f,rfl⟩
   have u:∀ G,ixW (.str ⟨(A3 s).toArray⟩) (.int 0) G=some (.str ⟨#[c]⟩):=λG=>by
    unfold ixW;dsimp only;rw[if_pos (by exact Du n)];rw[t,BF];rfl
   have A:((⟨#[c]⟩:Str)==("0":Str))=decide (c=48):=by
    rw[Bool.eq_iff_iff,beq_iff_eq,YN];constructor
    ·intro e;have:=Qg (λs:Str=>s.cps.toList) e;exact(Qf this).1
    ·intro e;rw[e];rfl
   have m:=t4 q (λz=>by rw[z]at g1;exact Qj g1 (by decide)) g2
   have BG:¬ ((A3 s).head?=some 48/\(1 <(A3 s).length\/d=true))->Aj yB (AC Q) [some (.ref r),some (.bl d),some (.str ⟨(A3 s).toArray⟩)] (put G r (rdr a.Reader T j)):=λz=>by
    have e:=q1 _ _ (by unfold Dz;rw[if_neg g,if_neg z]) j B;simp only[Aj,BY,D7,gB,rF,Aa,Ac,Ab,Yb,Yc,m];cases d with
    | true=>exact⟨_,rfl,e⟩
    | false=>exact e
   have bad:=λz=>q2 (by unfold Dz;rw[if_neg g,if_pos z]) j;simp only[Au,Ae,gIf,A7,gOr,gTB,Ad,Af,Bi,gB,rF,Aa,Ac,Ab,gC,Yb,Yc,u,BP,AB,A,k];by_cases hc:c=48
   ·rw[YG hc];simp only[show(true != false)=true from rfl,if_true];have v:(A3 s).head?=some 48:=by rw[t,hc];rfl
    by_cases g3:1 <(A3 s).length
    ·rw[if_pos (YG (by lia))];exact⟨by decide,bad ⟨v,.inl g3⟩⟩
    ·rw[if_neg (by rw[YN];lia)];cases d with
     | true=>exact⟨by decide,bad ⟨v,.inr rfl⟩⟩
     | false=>exact BG λz=>z.2.elim g3 (λz=>by cases z)
   ·rw[Qi hc];exact BG λz=>hc (by rw[t]at z;exact YE z.1)
  ·rw[if_pos (by rw[Qi (by lia)];rfl)];exact⟨by decide,q2 (by unfold Dz;rw[if_pos (.inr (by lia))]) j⟩
 ·rw[if_neg (by rw[YN];lia)];exact⟨by decide,q2 (by unfold Dz;rw[if_pos (.inl (by lia))]) j⟩
theorem Lu(T:Tx K mg base a):Df P w K mg base "number_from" 3 1 (LJ a W.int Eh):=by
 refine mkX T.md rfl Ln Y0 Y1 (tf T (Ge T) (by lia) (tZ T) (by lia)) λm G Q E l k q=>?_;obtain⟨r,T,i,s,rfl,h,c,f,q⟩:=q;refine AK (EJ rfl h c f (by decide) (λg b h1=>?_) λb=>?_)
 ·refine Y2 Ap c h1 (λx s' e j d=>?_) λe j=>?_
  ·rw[AV];exact BW q (by unfold Eh;rw[b];exact e) j d
  ·rw[AV];exact Bq q (by unfold Eh;rw[b];exact e) j
 ·refine Y2 h c f (λx s' e j d=>?_) λe j=>?_
  ·exact BW q (by unfold Eh;rw[b];exact e) j d
  ·exact Bq q (by unfold Eh;rw[b];exact e) j
def DZ(s:Sg):Option (Bool×Sg):=if wrd s="yes" then some (true,aft s)else if wrd s="no" then some (false,aft s)else none
inductive Ag where
 | num (i:Int)| tru (b:Bool)| nam (x:Str)| knd (k:Kd)| trm (t:Te)| fld (f:Fl)
def Ag.enc:Ag->W
 | .num i=>.int i
 | .tru b=>.bl b
 | .nam x=>.str x
 | .knd k=>k.enc
 | .trm t=>t.enc
 | .fld f=>.tup f.enc
def Ag.on:Ag->As->As
 | .num i,r=>.num i r
 | .tru b,r=>.tru b r
 | .nam x,r=>.nam x r
 | .knd k,r=>.knd k r
 | .trm t,r=>.trm t r
 | .fld f,r=>.fld f r
def Ei:List Ag->As
 | []=>.nil
 | g::l=>g.on (Ei l)
theorem Y3:∀ l:List Ag,(Ei l).enc=l.map Ag.enc
 | []=>rfl
 | g::l=>by
  have a:=Y3 l;rw[Ym,<- a];cases g <;> rfl
def pfd(f:Sg->Option (Te×Sg))(s:Sg):Option ((Str×Te)×Sg):=(eat ": " (aft s)).bind λs1=>(f s1).map λx=>((wrd s,x.1),x.2)
def pfl(f:Sg->Option (Te×Sg)):Nat->Sg->List (Str×Te)->Option (List (Str×Te)×Sg)
 | 0,_,_=>none
 | m+1,s,acc=>match eat ", " s with
  | some s1=>(pfd f s1).bind λx=>pfl f m x.2 (acc++[x.1])
  | none=>some (acc,s)
def pfs(f:Sg->Option (Te×Sg))(s:Sg):Option (List (Str×Te)×Sg):=match eat ")" s with
 | some _=>some ([],s)
 | none=>(pfd f s).bind λx=>pfl f (x.2.length+1) x.2 [x.1]
def pth(f:Sg->Option (Te×Sg))(sort:Str)(s:Sg):Option (Ag×Sg):=
 if sort="number" then(Eh s).map λx=>(.num x.1,x.2)
 else if sort="truth" then(DZ s).map λx=>(.tru x.1,x.2)
 else if sort="kind" then(pk 8 s).map λx=>(.knd x.1,x.2)
 else if sort="fields" then(pfs f s).map λx=>(.fld (BQ x.1),x.2)
 else if sort="term" then(f s).map λx=>(.trm x.1,x.2)
 else some (.nam (wrd s),aft s)
def gap(k:Nat)(w:Str):Str:=if k=0 then "" else if w="fun"/\k=1 then ": " else ", "
def pas(f:Sg->Option (Te×Sg))(w:Str):Nat->List Str->Sg->List Ag->Option (List Ag×Sg)
 | _,[],s,acc=>some (acc,s)
 | k,sort::ss,s,acc=>(eat (gap k w) s).bind λs1=>(pth f sort s1).bind λx=>pas f w (k+1) ss x.2 (acc++[x.1])
def pt1(f:Sg->Option (Te×Sg))(s:Sg):Option (Te×Sg):=match KTD.datumAt (wrd s) AF with
 | none=>none
 | some ss=>(eat "(" (aft s)).bind λs1=>(pas f (wrd s) 0 ss s1 []).bind λx=>(eat ")" x.2).map λs3=>(.nd (wrd s) (Ei x.1),s3)
def pt:Nat->Sg->Option (Te×Sg)
 | 0,_=>none
 | n+1,s=>pt1 (pt n) s
def Sht{α:Type}(f:Sg->Option (α×Sg)):Prop:=∀ s x s',f s=some (x,s')->s'.length<=s.length
theorem Jm{p:Str}{s:Sg}(e:eat p s=some s'):s'.length<=s.length:=by have:=Cf e;lia
theorem LK{f:Sg->Option (Te×Sg)}(g:Sht f){s:Sg}(e:pfd f s=some (x,s')):s'.length+2<=s.length:=by
 obtain⟨i,c,a⟩:=Qa.mp e;obtain⟨y,d,b⟩:=YO.mp a;cases b;have h1:=Cf c;have h2:=g _ _ _ d;have j:=Gi s;have h:(": ":Str).length=2:=rfl;lia
theorem t6{w:Str}:inF true (.str w) (.tup [.str "yes",.str "no"]) G=some (.bl (!decide (w="yes"\/w="no"))):=by
 show some (W.bl (!(decide (("yes":Str)=w)||(decide (("no":Str)=w)||false))))=_;congr 3;rw[Bool.eq_iff_iff];simp only[Bool.or_false,Bool.or_eq_true,YN];exact⟨λh=>h.imp Eq.symm Eq.symm,λh=>h.imp Eq.symm Eq.symm⟩
theorem Lv(T:Tx K mg base a):Df P w K mg base "truth_from" 3 1 (LJ a W.bl DZ):=by
 refine mkX T.mf rfl Pt Y0 Y1 (tq T (Fj T) (by lia)) λg G Q E f e q=>?_;obtain⟨r,T,i,s,rfl,h,d,c,q⟩:=q;show Ae (Ak 1 _) _ (AC Q) [some (.ref r),none] G;refine AK (Ho rfl h d c λj b=>?_);simp only[Ae,gIf,gTB,Ad,Af,Ah,Yk,Yl];refine⟨by decide,?_⟩;rw[t6];by_cases h1:wrd s="yes"
 ·rw[YG (.inl h1)];simp only[Au,Aj,Ad,Af,Ab,gC,Yb,Yc,BP];rw[show(wrd s==("yes":Str))=true by simp[h1]];exact BW q (show DZ s=some (true,aft s) by unfold DZ;rw[if_pos h1]) j b
 ·by_cases h2:wrd s="no"
  ·rw[YG (.inr h2)];simp only[Au,Aj,Ad,Af,Ab,gC,Yb,Yc,BP];rw[show(wrd s==("yes":Str))=false by simpa using h1];exact BW q (show DZ s=some (false,aft s) by unfold DZ;rw[if_neg h1,if_pos h2]) j b
  ·rw[Qi (λz=>z.elim h1 h2)];exact⟨by decide,Bq q (by unfold DZ;rw[if_neg h1,if_neg h2]) j⟩
theorem Lp(T:Tx K mg base a)(n:3<=j){d:Int}{f:Sg->Option (Te×Sg)}(D:Df P w K mg base "term_from" j 2 (Bs a Te.enc (d+1) f)):Df P w K mg base "term_field_from" (j+1) 2 (Bs a Cu d (pfd f)):=by
 refine mkX T.mj rfl Pv Ec Ed (tz T (Fj T) (by lia) (Gf T) n D (Yr _)) λu G Q E t p q=>?_;obtain⟨r,T,i,s,rfl,h,e,l,q⟩:=q;refine AK (Ho rfl h e l λo h1=>?_);simp only[Ae];refine EK rfl Ap e h1 (by decide) (by decide +kernel) (λg b h2=>?_) λb=>?_
 ·rw[AV];refine Dw Ap e h2 (λx k c i3 m=>?_) λc i3=>?_
  ·rw[AV];exact⟨sz rfl,BW q (show pfd f s=some ((wrd s,x),k) by unfold pfd;rw[b];show(f g).map _=_;rw[c];rfl) i3 m⟩
  ·rw[AV];exact Bq q (by unfold pfd;rw[b];show(f g).map _=_;rw[c];rfl) i3
 ·exact Bq q (by unfold pfd;rw[b];rfl) o
theorem t9{p:Str}{s:Sg}(c:ω[0]?=some (some (.ref r)))(h:G r=some (rdr a.Reader T i))(b:At T i s)(q1:∀ s',eat p s=some s'->Q (.bl true) G)(q2:eat p s=none->Q (.bl false) G):
  AR a.Reader "sees" (OJ a) (λ_=>E) ad (Aa (gC (.str p)) Ac) ω G Q:=by
 simp only[AR,Ab,c];refine⟨r,_,rfl,h,EI (C:=r) (by decide +kernel) (by decide +kernel),r,T,i,p,rfl,h,?_⟩;cases e:eat p s with
 | some s'=>rw[(Gg b e).1];exact q1 s' e
 | none=>rw[KQ b e];exact q2 e
abbrev Jn(l:List (Str×Te)):W:=.tup (l.map Cu)
theorem Lw(T:Tx K mg base a)(hj:3<=j){d:Int}{f:Sg->Option (Te×Sg)}(R:Sht f)(D:Df P w K mg base "term_field_from" j 2 (Bs a Cu d (pfd f))):Df P w K mg base "fields_from" (j+1) 2 (Bs a Jn d (pfs f)):=by
 refine mkX T.mh rfl Pu Ec Ed (tu T (VO T) (by lia) D (Yr _) (Ge T) (by lia)) λws G Q E Y X q=>?_;obtain⟨r,T,i,s,rfl,h,H,v,q⟩:=q;unfold XY;simp only[Ae,gIf];refine t9 rfl h v (λu B=>?_) (λB=>?_)
 ·have z:=BW q (by unfold pfs;rw[B]) i v;rw[Hm h]at z;exact⟨sz rfl,z⟩
 have N:pfs f s=(pfd f s).bind λx=>pfl f (x.2.length+1) x.2 [x.1]:=by unfold pfs;rw[B]
 refine Dw h H v (λx u g i2 h2=>?_) (λg i2=>Bq q (by rw[N,g];rfl) i2)
 have Z:RO a r T ((pfl f (u.length+1) u [x]).map λx=>(Jn x.1,x.2)) G Q E:=by
  have z:=q;rw[N,g]at z;exact z
 have S:=LK R g
 have hsl:s.length<=90000:=by
  have:=Qg List.length v.1;rw[List.length_drop,DQ]at this;lia
 refine⟨sz rfl,λp A=>?_⟩;have c:p≠r:=λe=>by rw[e,Ap]at A;cases A
 have I:G p=none:=by rw[AX c]at A;exact A
 refine⟨λm ω O=>∃(b:List (Str×Te))(s':Sg)(F:Nat),ω=[some (.ref r),some (.int d),some (.ref p)]/\O=put (put G p (.lst (b.map Cu))) r (rdr a.Reader T F)/\At T F s'/\s'.length < m/\b.length+s'.length<=90000/\RO a r T ((pfl f m s' b).map λx=>(Jn x.1,x.2)) G Q E,
  ⟨u.length+1,[x],u,i2,rfl,?_,h2,Nat.lt_succ_self _,?_,Z⟩,?_⟩
 ·rw[EL c];rfl
 ·simp only[Yg,Yi];lia
 rintro m ω O ⟨b,s',F,rfl,rfl,t,hm,hl,q⟩;obtain⟨m,rfl⟩:∃ k,m=k+1:=⟨m - 1,by lia⟩
 have l:∀(L:List W)(i:Nat),L3.Sub (put G r (rdr a.Reader T i)) (put (put G p (.lst L)) r (rdr a.Reader T i)):=λL i=>by
  rw[EL c];exact Az (by rw[AX c];exact I)
 have n:∀(L:List W)(i:Nat),put (put G p (.lst L)) r (rdr a.Reader T i) p=some (.lst L):=λL i=>by rw[AX c,Ap]
 refine EJ rfl Ap H t (by decide) (λs1 y h1=>?_) (λy=>?_)
 ·rw[AV];simp only[AN,gMt,Aa,Ac]
  have J:∀ o,pfd f s1=o->pfl f (m+1) s' b=o.bind λx=>pfl f m x.2 (b++[x.1]):=λo e4=>by
   conv=>lhs;unfold pfl
   rw[y,<- e4]
  refine⟨Fh (n _ _),Dw Ap H h1 (λx U g i3 h3=>?_) (λg i3=>?_)⟩;rotate_left
  ·rw[AV];exact X _ _ _ (l _ _) (Bq q (by rw[J _ g];rfl) _)
  have l1:=Cf y;have l3:=LK R g;rw[AV];refine Gh (n _ _) (by rw[Yh];exact DN (by lia)) ?_;rw[EL (YU c),AV];rw[J _ g]at q;exact⟨m,by lia,b++[x],U,_,(by first | rfl | trivial),by rw[Yy];rfl,h3,by lia,by rw[Yj];simp only[Yg,Yi];lia,q⟩
 ·simp only[Aj,gB,rF,Ab,Aa,Ac,Yb,Yc];rw[Hq (n _ _)];exact Y _ _ _ (l _ _) (BW q (by unfold pfl;rw[y]) _ t)
def Px(a:Adr)(d:Int)(f:Sg->Option (Te×Sg)):Spw:=λws G Q E=>∃(r:Addr)(T:Str)(i:Nat)(s:Sg)(so:Str),ws=[.ref r,.str so,.int d]/\G r=some (rdr a.Reader T i)/\T.length<=90000/\At T i s/\RO a r T ((pth f so s).map λx=>(x.1.enc,x.2)) G Q E
theorem ua{d:Int}{f:Sg->Option (Te×Sg)}:Spw.M (Px a d f):=λj G Q e E g h h'⟨r,T,i,s,so,h1,h2,c,b,q⟩=>⟨r,T,i,s,so,h1,h2,c,b,q.imp h h'⟩
theorem Lz(T:Tx K mg base a)(k:28<=j){d:Int}{f:Sg->Option (Te×Sg)}(D:Df P w K mg base "term_from" j 2 (Bs a Te.enc (d+1) f))(DF:Df P w K mg base "fields_from" jf 2 (Bs a Jn d (pfs f)))(g:j<=jf):Df P w K mg base "thing_from" (jf+1) 3 (Px a d f):=by
 have DK:Df P w K mg base "kind_from" 28 2 (Bs a Kd.enc 1 (pk 8)):=CP T 8;refine mkX T.T7 rfl X3 ua (by rintro u G Q E ⟨_,_,_,_,_,e,_⟩;rw[e];rfl) (tD T (Lu T) (by lia) (Lv T) (by lia) DK (by lia) DF (Yr _) D g (Fj T) (by lia)) λu G Q E y v q=>?_;obtain⟨r,T,i,s,so,rfl,h,c,b,q⟩:=q
 have st:∀{t:Str}{e:GE}{An:GS},(so=t->e [some (.ref r),some (.str so),some (.int d)] G Q)->(so≠t->An (AC Q) [some (.ref r),some (.str so),some (.int d)] G)->Ae (gIf (gTB (Ad (Af (eqF false)) na (gC (.str t)))) (Aj e) Au) An (AC Q) [some (.ref r),some (.str so),some (.int d)] G:=λ{t e An}h1 h2=>Pc rfl (by
  by_cases z:so=t
  ·rw[if_pos z];exact h1 z
  ·rw[if_neg z];exact h2 z)
 unfold pth at q;refine st (λz=>?_) λp=>?_
 ·rw[if_pos z]at q;exact⟨r,T,i,s,rfl,h,c,b,by rw[Option.map_map]at q;exact q⟩
 rw[if_neg p]at q;refine st (λz=>?_) λn=>?_
 ·rw[if_pos z]at q;exact⟨r,T,i,s,rfl,h,c,b,by rw[Option.map_map]at q;exact q⟩
 rw[if_neg n]at q;refine st (λz=>?_) λo=>?_
 ·rw[if_pos z]at q;exact⟨r,T,i,s,rfl,h,c,b,by rw[Option.map_map]at q;exact q⟩
 rw[if_neg o]at q;refine st (λz=>?_) λl=>?_
 ·rw[if_pos z,Option.map_map]at q;refine⟨r,T,i,s,rfl,h,c,b,?_⟩;rw[show((λx:Ag×Sg=>(x.1.enc,x.2))∘λx:List (Str×Te)×Sg=>(Ag.fld (BQ x.1),x.2))=λx:List (Str×Te)×Sg=>(Jn x.1,x.2)from funext λx=>by show(W.tup (BQ x.1).enc,x.2)=_;rw[Po]]at q;exact q
 rw[if_neg l]at q;refine st (λz=>?_) λm=>?_
 ·rw[if_pos z,Option.map_map]at q;exact⟨r,T,i,s,rfl,h,c,b,q⟩
 rw[if_neg m]at q;exact Ho rfl h c b λj k=>q j k
def Py:Spw:=λws G Q _=>∃(k:Nat)(w:Str),ws=[.int k,.str w]/\Q (.str (gap k w)) G
theorem ub:Spw.M Py:=(by rintro b G Q c E a h _ ⟨k,w,e,q⟩;exact⟨k,w,e,h _ _ q⟩)
theorem Jl(T:Tx K mg base a):Df P w K mg base "gap_ahead_of" 1 2 Py:=by
 refine mk0 T.ml rfl X5 ub (λc G Q E⟨_,_,e,_⟩=>by rw[e];rfl) (tL T) λc G Q E d q=>?_;obtain⟨k,w,rfl,q⟩:=q;show Ae (gIf _ _ Au) _ (AC Q) [some (.int k),some (.str w)] G;simp only[Ae,gIf,gTB,Ad,Af,Aj,BY,A7,Ab,gC,Yb,Yc,Dp,BP,Au];unfold gap at q;by_cases b:k=0
 ·rw[if_pos b]at q;rw[show(((k:Nat):Int)==0)=true by simpa using(by lia)];exact q
 ·rw[if_neg b]at q;rw[show(((k:Nat):Int)==0)=false by simpa using(by lia)];by_cases h1:w="fun"
  ·rw[show(w==("fun":Str))=true by simp[h1]];by_cases h2:k=1
   ·rw[if_pos ⟨h1,h2⟩]at q;rw[show(((k:Nat):Int)==1)=true by simpa using(by lia)];exact q
   ·rw[if_neg (λz=>h2 z.2)]at q;rw[show(((k:Nat):Int)==1)=false by simpa using(by lia)];exact q
  ·rw[if_neg (λz=>h1 z.1)]at q;rw[show(w==("fun":Str))=false by simpa using h1];exact q
theorem uc(k:Nat)(w:Str):(gap k w).length<=100/\(reprText (gap k w)).length<=1000:=by
 unfold gap;split
 ·exact⟨by decide,by decide +kernel⟩
 ·split
  ·exact⟨by decide,by decide +kernel⟩
  ·exact⟨by decide,by decide +kernel⟩
theorem Jo{α β:Type}{f:Sg->Option (α×Sg)}{g:α->β}(b:Sht f):Sht λs=>(f s).map λx=>(g x.1,x.2):=λs x s' e=>by
 obtain⟨y,a,c⟩:=YO.mp e;cases c;exact b s y.1 y.2 a
theorem ud(s:Sg):(afg s).length<=s.length:=(List.dropWhile_sublist _).length_le
theorem Y4(b:Bool):Sht (Dz b):=λs x s' e=>by
 unfold Dz at e;split at e
 ·cases e
 ·split at e
  ·cases e
  ·cases e;exact ud s
theorem ue:Sht Eh:=λs x s' e=>by
 unfold Eh at e;split at e
 ·rename_i b a;have h1:=Y4 true _ _ _ e;have h2:=Jm a;lia
 ·exact Y4 false _ _ _ e
theorem uf:Sht DZ:=λs x s' e=>by
 unfold DZ at e;split at e
 ·cases e;exact Gi s
 ·split at e
  ·cases e;exact Gi s
  ·cases e
theorem Y5{f:Sg->Option (Te×Sg)}(b:Sht f):∀(m:Nat)(s:Sg)(a x:List (Str×Te))(s':Sg),pfl f m s a=some (x,s')->s'.length<=s.length
 | 0,_,_,_,_,e=>by cases e
 | m+1,s,a,x,s',e=>by
  unfold pfl at e;split at e
  ·rename_i h d;obtain⟨y,c,g⟩:=Qa.mp e;have h1:=Jm d;have h2:=LK b c;have i:=Y5 b m _ _ _ _ g;lia
  ·cases e;exact Yr _
theorem ug{f:Sg->Option (Te×Sg)}(a:Sht f):Sht (pfs f):=λs x s' e=>by
 unfold pfs at e;split at e
 ·cases e;exact Yr _
 ·obtain⟨y,b,c⟩:=Qa.mp e;have h2:=LK a b;have d:=Y5 a _ _ _ _ _ c;lia
theorem uh{f:Sg->Option (Te×Sg)}(a:Sht f)(so:Str):Sht (pth f so):=λs x s' e=>by
 unfold pth at e;split at e
 ·exact Jo ue s x s' e
 ·split at e
  ·exact Jo uf s x s' e
  ·split at e
   ·exact Jo (ON 8) s x s' e
   ·split at e
    ·exact Jo (g:=λl=>Ag.fld (BQ l)) (ug a) s x s' e
    ·split at e
     ·exact Jo a s x s' e
     ·cases e;exact Gi s
theorem Y6{f:Sg->Option (Te×Sg)}(b:Sht f){w:Str}:∀(ss:List Str)(k:Nat)(s:Sg)(a x:List Ag)(s':Sg),pas f w k ss s a=some (x,s')->s'.length<=s.length
 | [],k,s,a,x,s',e=>by cases e;exact Yr _
 | so::ss,k,s,a,x,s',e=>by
  obtain⟨i,g,c⟩:=Qa.mp e;obtain⟨y,h,d⟩:=Qa.mp c;have h1:=Jm g;have h2:=uh b so _ y.1 y.2 h;have j:=Y6 b ss _ _ _ _ _ d;lia
theorem Y7:∀ n:Nat,Sht (pt n)
 | 0=>λs x s' e=>by cases e
 | n+1=>λs x s' e=>by
  have e:pt1 (pt n) s=some (x,s'):=e;unfold pt1 at e;split at e
  ·cases e
  ·obtain⟨i,c,a⟩:=Qa.mp e;obtain⟨y,d,b⟩:=Qa.mp a;obtain⟨h,g,f⟩:=YO.mp b;cases f;have k:=Gi s;have h1:=Jm c;have h2:=Y6 (Y7 n) _ _ _ _ y.1 y.2 d;have j:=Jm g;lia
theorem ui{a:GG}{An:GS}(h1:ω[i]?=some (some (.tup xs)))(q:BD (λ_=>True) a gb {D with nx:=An D} (Fa 0 xs) ω G):Ae (Bz (Il (Aa (Ab i) Ac)) a gb) An D ω G:=by
 simp only[Ae,Bz,Il,Aa,Ab,h1];exact⟨xs,rfl,q⟩
abbrev uj(sp:Spw)(a:Adr)(E:Addr->Hw->Prop):GS:=Ae (AN (AR a.Reader "wants" (IR a) (λ_=>E) ad (Aa (Ai Py (λ_=>E) (Aa yJ kw)) Ac))) (AN (gMt B7 Cr ye (Aa (Ai sp (λ_=>E) (Aa ad (Aa (Ab 6) x6))) Ac)))
theorem Y8{f:Sg->Option (Te×Sg)}{d:Int}{n:Hw}(F:Xc E)(q:∀ G,gd G)(H:T.length<=90000)(g:p≠r)(v:n p=none):∀(ss:List Str)(k:Nat)(b:List Ag)(s:Sg)(i:Nat)(y A:Option W),At T i s->b.length+ss.length<=100->
  (∀(gs:List Ag)(s':Sg)(j:Nat)(o l:Option W),pas f c k ss s b=some (gs,s')->At T j s'->gs.length<=100->D.nx [some (.ref r),some (.int d),some (.str c),J,some (.ref p),o,l] (put (put n p (.lst (.str c::gs.map Ag.enc))) r (rdr a.Reader T j)))->
  (pas f c k ss s b=none->∀ j,E a.BadNote (put n r (rdr a.Reader T j)))->
  BD gd (Bb 5 6) (uj (Px a d f) a E) D (Fa k (ss.map W.str)) [some (.ref r),some (.int d),some (.str c),J,some (.ref p),y,A] (put (put n p (.lst (.str c::b.map Ag.enc))) r (rdr a.Reader T i))
 | [],k,b,s,i,y,A,t,hl,q1,q2=>⟨q _,q1 b s i y A rfl t (by lia)⟩
 | so::ss,k,b,s,i,y,A,t,hl,q1,q2=>by
  rw[Yg]at hl
  have h:∀(L:List W)(i:Nat),L3.Sub (put n r (rdr a.Reader T i)) (put (put n p (.lst L)) r (rdr a.Reader T i)):=λL i=>by
   rw[EL g];exact Az (by rw[AX g];exact v)
  have u:∀(L:List W)(i:Nat),put (put n p (.lst L)) r (rdr a.Reader T i) p=some (.lst L):=λL i=>by rw[AX g,Ap]
  refine⟨q _,?_⟩;obtain⟨g1,g2⟩:=uc k c;simp only[Ae,AN];refine⟨r,_,rfl,Ap,EI (C:=r) (by decide +kernel) (by decide +kernel),k,c,rfl,⟨r,T,i,gap k c,rfl,Ap,H,g1,g2,λz=>?_,λz=>?_⟩⟩
  ·cases m:eat (gap k c) s with
   | none=>rw[KQ t m]at z;cases z
   | some w =>
    have h1:=(Gg t m).2;rw[AV];simp only[gMt,Aa,Ac];refine⟨Fh (u _ _),r,T,_,w,so,rfl,Ap,H,h1,?_⟩;cases K:pth f so w with
    | none =>
     intro j;rw[AV];exact F _ _ _ (h _ _) (q2 (by show(eat (gap k c) s).bind _=_;rw[m];show(pth f so w).bind _=_;rw[K];rfl) j)
    | some x =>
     intro j B;rw[AV];refine Gh (u _ _) (by simp only[Yg,Yh];exact DN (by lia)) ?_;rw[EL (YU g),AV]
     have I:pas f c k (so::ss) s b=pas f c (k+1) ss x.2 (b++[x.1]):=by
      show(eat (gap k c) s).bind _=_;rw[m];show(pth f so w).bind _=_;rw[K];rfl
     have z:=Y8 F q H g v ss (k+1) (b++[x.1]) x.2 j (some (.int (k:Nat))) (some (.str so)) B (by rw[Yj];simp only[Yg,Yi];lia) (λgs s' i2 o l e=>q1 gs s' i2 o l (by rw[I];exact e)) (λe=>q2 (by rw[I];exact e));rw[Yy]at z;exact z
  ·cases m:eat (gap k c) s with
   | some w=>rw[(Gg t m).1]at z;cases z
   | none=>exact F _ _ _ (h _ _) (q2 (by show(eat (gap k c) s).bind _=_;rw[m];rfl) i)
theorem uk{w:Str}(h:KTD.datumAt w AF=some ss):ss.length<=3:=Qh (List.all_eq_true.mp WH _ (Fv h))
theorem DY(T:Tx K mg base a):∀ n:Nat,Df P w K mg base "term_from" (4*n+29) 2 (Bs a Te.enc (11 -(n:Int)) (pt n))
 | 0=>by
  refine mkX T.T8 rfl Jk Ec Ed (X7 T (Fj T) (by lia) (C9 T) (by lia) (Gf T) (by lia) (Jl T) (by lia) (DS T.T7 IT λ_ _ _ _ h=>h) (YT _)) λY G Q E N A q=>?_;obtain⟨r,T,i,s,rfl,h,m,J,q⟩:=q;have z:=Bq q rfl i;rw[Hm h]at z;exact⟨by decide,z⟩
 | n+1=>by
  have D:Df P w K mg base "term_from" (4*n+29) 2 (Bs a Te.enc (11 -((n+1:Nat):Int)+1) (pt n)):=by
   rw[show(11 -((n+1:Nat):Int)+1)=11 -(n:Int) by lia];exact DY T n
  have DF:=Lw T (by lia) (Y7 n) (Lp T (by lia) D);have DT:=Lz T (by lia) D DF (by lia);refine mkX T.T8 rfl Jk Ec Ed (X7 T (Fj T) (by lia) (C9 T) (by lia) (Gf T) (by lia) (Jl T) (by lia) DT (by lia)) λY G Q E N A q=>?_;obtain⟨r,T,i,s,rfl,h,m,J,q⟩:=q;generalize hd:(11 -((n+1:Nat):Int))=d at *;have q:RO a r T ((pt1 (pt n) s).map λx=>(x.1.enc,x.2)) G Q E:=q;show Ae (gIf _ _ Au) _ (AC Q) [some (.ref r),some (.int d),none,none,none,none,none] G;refine Hv (λZ H=>?_) ?_
  ·simp only[gTB,Ad,Bi,Ab,gC,Yb,Yc];rw[Qi (by lia)];exact H
  refine AK (Ho rfl h m J λj S=>?_);refine AK (⟨wrd s,rfl,?_⟩);cases l:KTD.datumAt (wrd s) AF with
  | none =>
   have X:EC AF (wrd s)=.non:=by unfold EC;rw[l]
   dsimp only;rw[X];exact⟨by decide,Bq q (by unfold pt1;rw[l]) j⟩
  | some k =>
   have R:=uk l;dsimp only;rw[O2 l];have u:∀ o,eat "(" (aft s)=o->pt1 (pt n) s=o.bind λf=>(pas (pt n) (wrd s) 0 k f []).bind λx=>(eat ")" x.2).map λI=>(.nd (wrd s) (Ei x.1),I):=λo e=>by unfold pt1;rw[l,<- e]
   refine Hv (λZ H=>?_) ?_
   ·exact H
   simp only[Ae,AN];refine EK rfl Ap m S (by decide) (by decide +kernel) (λf g h1=>?_) λg=>Bq q (by rw[u _ g];rfl) j;rw[AV];simp only[Ak];refine⟨sz rfl,λp y=>?_⟩;have b:p≠r:=λe=>by rw[e,Ap]at y;cases y
   have t:G p=none:=by rw[AX b]at y;exact y
   have c:∀(L:List W)(i:Nat),L3.Sub (put G r (rdr a.Reader T i)) (put (put G p (.lst L)) r (rdr a.Reader T i)):=λL i=>by
    rw[EL b];exact Az (by rw[AX b];exact t)
   have F:∀(L:List W)(i:Nat),put (put G p (.lst L)) r (rdr a.Reader T i) p=some (.lst L):=λL i=>by rw[AX b,Ap]
   rw[EL (YU b)];refine ui rfl (Y8 A (λ_=>trivial) m b t k 0 [] f _ none none h1 (by simp only[Yi];lia) (λgs O i2 o5 o6 v h2 hl=>?_) λv i2=>Bq q (by rw[u _ g];show(pas (pt n) (wrd s) 0 k f []).bind _=_;rw[v];rfl) i2);simp only[Ae];refine EK rfl Ap m h2 (by decide) (by decide +kernel) (λI B U=>?_) λB=>A _ _ _ (c _ _) (Bq q (by rw[u _ g];show(pas (pt n) (wrd s) 0 k f []).bind _=_;rw[v];show(eat ")" O).map _=_;rw[B];rfl) i2);rw[AV];simp only[Aj,gB,rF,Ab,Aa,Ac,Yb,Yc];rw[Hq (F _ _)];have z:=BW q (by rw[u _ g];show(pas (pt n) (wrd s) 0 k f []).bind _=_;rw[v];show(eat ")" O).map _=_;rw[B];rfl) _ U;rw[show(Te.nd (wrd s) (Ei gs)).enc=.tup (.str (wrd s)::gs.map Ag.enc) by show W.tup (_::(Ei gs).enc)=_;rw[Y3]]at z;exact N _ _ _ (c _ _) z
theorem ul{s:Sg}(h:At T i s):i+s.length=T.length:=by
 have:=Qg List.length h.1;rw[List.length_drop,DQ]at this;have:=h.2;lia
def RT(s:Sg)(o:Option Te):Prop:=match pt 10 s with
 | none=>o=none
 | some (t,s')=>(s'≠[]/\o=none)\/(s'=[]/\∃ b,TB t.enc b/\o=if b=true then some t else none)
def OT(C:Addr)(o:Option Te)(G:Hw)(Q:Kw)(E:Addr->Hw->Prop):Prop:=match o with
 | some t=>Q t.enc G
 | none=>E C G
def Y9(a:Adr):Spw:=λws G Q E=>∃(T:Str)(o:Option Te),ws=[.str T]/\T.length<=90000/\RT (cs T) o/\∀ G',L3.Sub G G'->OT a.BadNote o G' Q E
theorem um:Spw.M (Y9 a):=λg G Q e E f h h'⟨T,o,h1,h2,c,q⟩=>⟨T,o,h1,h2,c,λd b=>by
 have z:=q d b;cases o with
 | none=>exact h' _ _ z
 | some t=>exact h _ _ z⟩
theorem LL(T:Tx K mg base a):Df P w K mg base "term_read" 70 1 (Y9 a):=by
 have D:Df P w K mg base "term_from" 69 2 (Bs a Te.enc 1 (pt 10)):=DY T 10;refine mkX T.mn rfl LA um (by rintro k G Q E ⟨T,t,e,_⟩;rw[e];rfl) (tS T (nO T) (by lia) D (Yr _) (nT T) (by lia) (Fq T) (by lia)) λk G Q E m l q=>?_;obtain⟨T,o,rfl,g,d,q⟩:=q;intro x j;refine⟨x,T,rfl,Ap,rfl,?_⟩;rw[AV];have c:∀ o:HW,L3.Sub G (put G x o):=λo=>Az j;unfold RT at d;refine Dw Ap g (show At T 0 (cs T)from⟨rfl,YT _⟩) (λt s' e i hi=>?_) (λe i=>?_)
 ·rw[e]at d;rw[AV];have h1:=ul hi;refine⟨x,_,rfl,Ap,EI (C:=x) (by decide +kernel) (by decide +kernel),x,T,i,rfl,Ap,g,λhl=>?_,λhl=>?_⟩
  ·rcases d with⟨f,_⟩|⟨_,b,h,rfl⟩
   ·exact Qj (List.eq_nil_of_length_eq_zero (by lia)) f
   ·refine⟨(t.enc,b),⟨rfl,h⟩,?_⟩;have z:=q _ (c (rdr a.Reader T i));cases b with
    | true=>exact z
    | false=>exact⟨by decide,z⟩
  ·rcases d with⟨_,rfl⟩|⟨f,_⟩
   ·exact q _ (c _)
   ·rw[f,Yi]at h1;lia
 ·rw[e]at d;rw[d]at q;rw[AV];exact q _ (c _)
def Pz(x:Str×Bool×Kd):W:=.tup [.str x.1,.str (mark x.2.1),x.2.2.enc]
def FG(m:Bool):Str:=if m then "" else "?"
def Bn(o:Bool):List Str:=if o then[".."]else[]
mutual
def Kd.txt:Kd->Str
 | .any=>"any"
 | .num=>"num"
 | .truth=>"truth"
 | .to x y=>"("++x.txt++" > "++y.txt++")"
 | .box x=>"["++x.txt++"]"
 | .row fs o=>"{"++Txt.join ", " (fs.pcs++Bn o)++"}"
def Fs.pcs:Fs->List Str
 | .nil=>[]
 | .cons n m k r=>(n++FG m++": "++k.txt)::r.pcs
end
def Fs.toL:Fs->List (Str×Bool×Kd)
 | .nil=>[]
 | .cons n m k r=>(n,m,k)::r.toL
def pc(x:Str×Bool×Kd):Str:=x.1++FG x.2.1++": "++x.2.2.txt
theorem Za:∀ fs:Fs,fs.enc=fs.toL.map Pz
 | .nil=>rfl
 | .cons n m k r=>by show _::r.enc=_::r.toL.map Pz;rw[Za r];rfl
theorem PB:∀ fs:Fs,fs.pcs=fs.toL.map pc
 | .nil=>rfl
 | .cons n m k r=>by show _::r.pcs=_::r.toL.map pc;rw[PB r];rfl
theorem PC:∀{fs:Fs},fs.ok=true->∀ x∈fs.toL,Ax x.1=true/\x.2.2.ok=true
 | .nil,_,x,a=>by cases a
 | .cons n m k r,h,x,a=>by
  have h':(Ax n&&k.ok&&r.ok)=true:=h;simp only[YF]at h';rcases Yo.mp a with rfl | a
  ·exact h'.1
  ·exact PC h'.2 x a
theorem Zb:∀{fs:Fs}{n:Nat},fs.dp<=n->∀ x∈fs.toL,x.2.2.dp<=n
 | .nil,_,_,x,a=>by cases a
 | .cons n m k r,j,h,x,a=>by
  have h':max k.dp r.dp<=j:=h;rcases Yo.mp a with rfl | a
  ·show k.dp<=j;lia
  ·exact Zb (by lia) x a
theorem Zc:∀{fs:Fs},∀ x∈fs.toL,x.2.2.cnt<=fs.cnt
 | .nil,x,a=>by cases a
 | .cons n m k r,x,a=>by
  show x.2.2.cnt<=k.cnt+r.cnt;rcases Yo.mp a with rfl | a
  ·show k.cnt<=_;lia
  ·have:=Zc x a;lia
theorem Zd:∀ fs:Fs,fs.toL.length<=fs.cnt
 | .nil=>Yr _
 | .cons n m k r=>by
  show r.toL.length+1<=k.cnt+r.cnt;have:=Zd r;have:=TL k;lia
theorem AW(a b:Str):(a++b).length=a.length+b.length:=Str.length_append a b
theorem Cb(a:Str)(l:List Str):Txt.join a l=Str.join a l:=StrLaws.glued_eq_join a l
theorem Jp(a:Str):∀ l:List Str,(Str.join a l).length<=(l.map (·.length)).sum+l.length*a.length
 | []=>by simp[Str.join,Str.length,Str.empty]
 | [x]=>by simp[Str.join]
 | x::y::r=>by
  show(x++a++Str.join a (y::r)).length<=_;rw[AW,AW];have:=Jp a (y::r);simp only[Ym,List.sum_cons,Yg,Nat.add_mul]at this ⊢;lia
theorem Ze(m:Bool):(FG m).length<=1:=by cases m <;> decide
mutual
theorem Ej:∀{k:Kd},k.ok=true->k.txt.length+13<=33*k.cnt
 | .any,_|.num,_|.truth,_=>by decide
 | .to x y,h=>by
  have h':(x.ok&&y.ok)=true:=h;simp only[YF]at h';have h1:=Ej h'.1;have h2:=Ej h'.2;show(("(":Str)++x.txt++(" > ":Str)++y.txt++(")":Str)).length+13<=33*(1+(x.cnt+y.cnt));simp only[AW];have a:("(":Str).length=1:=rfl;have e:(" > ":Str).length=3:=rfl;have b:(")":Str).length=1:=rfl;lia
 | .box x,h=>by
  have h1:=Ej (k:=x) h;show(("[":Str)++x.txt++("]":Str)).length+13<=33*(1+x.cnt);simp only[AW];have a:("[":Str).length=1:=rfl;have b:("]":Str).length=1:=rfl;lia
 | .row fs o,h=>by
  have h':(Bp fs.names&&fs.ok)=true:=h;simp only[YF]at h';have h1:=PH h'.2;show(("{":Str)++Txt.join ", " (fs.pcs++Bn o)++("}":Str)).length+13<=33*(1+fs.cnt);rw[Cb];simp only[AW];have a:("{":Str).length=1:=rfl;have b:("}":Str).length=1:=rfl;have d:=Jp (", ":Str) (fs.pcs++Bn o);have c:(", ":Str).length=2:=rfl;rw[Yy,List.sum_append,Yj,c]at d;have f:((Bn o).map (·.length)).sum+(Bn o).length*2<=4:=by cases o <;> decide
  lia
theorem PH:∀{fs:Fs},fs.ok=true->(fs.pcs.map (·.length)).sum+fs.pcs.length*2<=33*fs.cnt
 | .nil,_=>by decide
 | .cons n m k r,h=>by
  have h':(Ax n&&k.ok&&r.ok)=true:=h;simp only[YF]at h';have h1:=Ej h'.1.2;have h2:=PH h'.2;have c:=Hj h'.1.1;have b:=Ze m;show(((n++FG m++(": ":Str)++k.txt)::r.pcs).map (·.length)).sum+(r.pcs.length+1)*2<=33*(k.cnt+r.cnt);rw[Ym,List.sum_cons];simp only[AW];have a:(": ":Str).length=2:=rfl;lia
end
theorem Br(h:n<=100000):n<=sizeLine:=Yt h (by decide)
abbrev Jq(n:Nat):Spw:=spR (λ(k:Kd)ws _=>ws=[k.enc]/\k.ok=true/\k.dp<=n/\k.cnt<=1000) λk=>.str k.txt
theorem Zf{a:Str}(h:G p=some (.lst (ys.map W.str)))(hw:(ys.map (·.length)).sum+ys.length*a.length<=16777216)(q:Q (.str (Txt.join a ys)) G):Ih (.str a) [.ref p] G Q :=
 ⟨a,.ref p,_,ys,rfl,rfl,NC h,SD id ys▸(by simp),hw,q⟩
theorem n1:(("box":Str)==("to":Str))=false:=by decide +kernel
theorem n2:(("row":Str)==("to":Str))=false:=by decide +kernel
theorem n3:(("row":Str)==("box":Str))=false:=by decide +kernel
theorem b1:(true != false)=true:=rfl
theorem b2:(false != false)=false:=rfl
mutual
def Te.txt:Te->Str
 | .nd w r=>Txt.join "" (w::"("::(r.pcs w 0++[(")":Str)]))
 | .raw _=>""
def As.pcs:As->Str->Nat->List Str
 | .nil,_,_=>[]
 | .num i r,w,k=>gap k w::Str.ofString (toString i)::r.pcs w (k+1)
 | .tru b r,w,k=>gap k w::(if b then "yes" else "no")::r.pcs w (k+1)
 | .nam x r,w,k=>gap k w::x::r.pcs w (k+1)
 | .knd x r,w,k=>gap k w::x.txt::r.pcs w (k+1)
 | .trm t r,w,k=>gap k w::t.txt::r.pcs w (k+1)
 | .fld f r,w,k=>gap k w::Txt.join ", " f.pcs::r.pcs w (k+1)
def Fl.pcs:Fl->List Str
 | .nil=>[]
 | .cons x t r=>(x++": "++t.txt)::r.pcs
end
def As.gs:As->List Ag
 | .nil=>[]
 | .num i r=>.num i::r.gs
 | .tru b r=>.tru b::r.gs
 | .nam x r=>.nam x::r.gs
 | .knd x r=>.knd x::r.gs
 | .trm t r=>.trm t::r.gs
 | .fld f r=>.fld f::r.gs
def Ag.txt:Ag->Str
 | .num i=>Str.ofString (toString i)
 | .tru b=>if b then "yes" else "no"
 | .nam x=>x
 | .knd x=>x.txt
 | .trm t=>t.txt
 | .fld f=>Txt.join ", " f.pcs
def Ag.sort:Ag->Str
 | .num _=>"number"
 | .tru _=>"truth"
 | .nam _=>"name"
 | .knd _=>"kind"
 | .trm _=>"term"
 | .fld _=>"fields"
def Ag.ok:Ag->Bool
 | .num i=>decide (-NB<=i/\i<=NB)
 | .tru _=>true
 | .nam x=>Ax x
 | .knd k=>k.ok&&BG k
 | .trm t=>t.ok
 | .fld f=>Bp f.names&&f.ok
def Ag.dp:Ag->Nat
 | .trm t=>t.dp
 | .fld f=>f.dp
 | _=>0
def Ag.cnt:Ag->Nat
 | .trm t=>t.cnt
 | .fld f=>f.cnt
 | _=>0
def FH(w:Str):Nat->List Ag->List Str
 | _,[]=>[]
 | k,g::l=>gap k w::g.txt::FH w (k+1) l
theorem D1{p:As->Prop}(a:p .nil)(h1:∀(g:Ag)(r:As),p r->p (g.on r)):∀ r:As,p r
 | .nil=>a
 | .num i r=>h1 (.num i) r (D1 a h1 r)
 | .tru b r=>h1 (.tru b) r (D1 a h1 r)
 | .nam x r=>h1 (.nam x) r (D1 a h1 r)
 | .knd x r=>h1 (.knd x) r (D1 a h1 r)
 | .trm t r=>h1 (.trm t) r (D1 a h1 r)
 | .fld f r=>h1 (.fld f) r (D1 a h1 r)
theorem Hz(g:Ag)(r:As):(g.on r).gs=g::r.gs:=by cases g <;> rfl
theorem uo(g:Ag)(r:As):(g.on r).enc=g.enc::r.enc:=by cases g <;> rfl
theorem Zg(g:Ag)(r:As):(g.on r).sorts=g.sort::r.sorts:=by cases g <;> rfl
theorem uq(g:Ag)(r:As):(g.on r).cnt=g.cnt+r.cnt:=by cases g <;> first | rfl | exact(Nat.zero_add _).symm
theorem Zh(g:Ag)(r:As)(w:Str)(k:Nat):(g.on r).pcs w k=gap k w::g.txt::r.pcs w (k+1):=by cases g <;> rfl
theorem Zi(r:As):r.sorts=r.gs.map Ag.sort:=D1 (p:=λr=>r.sorts=r.gs.map Ag.sort) rfl (λg r h=>by rw[Zg,Hz,h];rfl) r
theorem ur(w:Str)(r:As):∀ k,r.pcs w k=FH w k r.gs:=D1 (p:=λr=>∀ k,r.pcs w k=FH w k r.gs) (λ_=>rfl) (λg r h k=>by rw[Zh,Hz,h];rfl) r
theorem ut:(AF.all λp=>decide (p.1.length<=8))=true:=by decide +kernel
theorem uu{w:Str}(h:KTD.datumAt w AF=some ss):w.length<=8:=Qh (List.all_eq_true.mp ut _ (Fv h))
theorem HA(k:Nat)(w:Str):(gap k w).length<=2:=by
 unfold gap;split
 ·decide
 ·split <;> decide
theorem uv(h:-NB<=i/\i<=NB):(Str.ofString (toString i)).length<=30:=by
 have h1:=int_text_length_le10 (a:=i) (k:=20) (by decide) (by unfold NB at *;lia);rw[PySem.ofString_length];lia
def kc(ss:List Str):Nat:=(ss.filter λx=>decide (x=("kind":Str))).length
theorem uw:(AF.all λp=>decide (kc p.2<=1))=true:=by decide +kernel
theorem ux{w:Str}(h:KTD.datumAt w AF=some ss):kc ss<=1:=Qh (List.all_eq_true.mp uw _ (Fv h))
theorem HB(x:Str)(ss:List Str):kc (x::ss)=(if x=("kind":Str)then 1 else 0)+kc ss:=by
 unfold kc;rw[List.filter_cons];by_cases h:x=("kind":Str)
 ·rw[if_pos (YG h),if_pos h,Yg];lia
 ·rw[if_neg (by simpa using h),if_neg h];lia
mutual
theorem FI:∀{t:Te},t.ok=true->t.txt.length+50<=1600*t.cnt
 | .raw _,h=>by cases h
 | .nd w r,h=>by
  have h':(decide (KTD.datumAt w AF=some r.sorts)&&r.ok)=true:=h;obtain⟨h1,h2⟩:=Qe.mp h';have a:=Qh h1;have f:=O6 a;have i:=uu a;have j:=ux a;have g:=Gu h2 w 0;show(Txt.join "" (w::"("::(r.pcs w 0++[(")":Str)]))).length+50<=1600*(1+r.cnt);rw[Cb];have b:=Jp ("":Str) (w::"("::(r.pcs w 0++[(")":Str)]));have e:("":Str).length=0:=rfl;have d:("(":Str).length=1:=rfl;have c:(")":Str).length=1:=rfl;rw[e,Nat.mul_zero]at b;simp only[Ym,Yy,YH,List.sum_cons,List.sum_append,List.sum_nil,d,c]at b;lia
theorem Gu:∀{r:As},r.ok=true->∀(w:Str)(k:Nat),((r.pcs w k).map (·.length)).sum<=1330*kc r.sorts+40*r.sorts.length+1600*r.cnt
 | .nil,_,_,_=>YT _
 | .num i r,h,w,k=>by
  obtain⟨h1,h2⟩:=Qe.mp (show(decide (-NB<=i/\i<=NB)&&r.ok)=true from h);have:=uv (Qh h1);have:=Gu h2 w (k+1);have:=HA k w;show((gap k w::Str.ofString (toString i)::r.pcs w (k+1)).map (·.length)).sum<=1330*kc ("number"::r.sorts)+40*(r.sorts.length+1)+1600*r.cnt;rw[HB,if_neg (show ¬ (("number":Str)="kind") by decide)];simp only[Ym,List.sum_cons];lia
 | .tru b r,h,w,k=>by
  have:=Gu (r:=r) h w (k+1);have:=HA k w;have:(if b then("yes":Str)else "no").length<=3:=by cases b <;> decide
  show((gap k w::(if b then("yes":Str)else "no")::r.pcs w (k+1)).map (·.length)).sum<=1330*kc ("truth"::r.sorts)+40*(r.sorts.length+1)+1600*r.cnt;rw[HB,if_neg (show ¬ (("truth":Str)="kind") by decide)];simp only[Ym,List.sum_cons];lia
 | .nam x r,h,w,k=>by
  obtain⟨h1,h2⟩:=Qe.mp (show(Ax x&&r.ok)=true from h);have:=Hj h1;have:=Gu h2 w (k+1);have:=HA k w;show((gap k w::x::r.pcs w (k+1)).map (·.length)).sum<=1330*kc ("name"::r.sorts)+40*(r.sorts.length+1)+1600*r.cnt;rw[HB,if_neg (show ¬ (("name":Str)="kind") by decide)];simp only[Ym,List.sum_cons];lia
 | .knd x r,h,w,k=>by
  obtain⟨h1,h2⟩:=Qe.mp (show((x.ok&&BG x)&&r.ok)=true from h);obtain⟨c,a⟩:=Qe.mp h1;have:=Ej c;have g:x.cnt<=40/\x.dp<=8:=Qh a;have:=Gu h2 w (k+1);have:=HA k w;show((gap k w::x.txt::r.pcs w (k+1)).map (·.length)).sum<=1330*kc ("kind"::r.sorts)+40*(r.sorts.length+1)+1600*r.cnt;rw[HB,if_pos (by decide)];simp only[Ym,List.sum_cons];lia
 | .trm t r,h,w,k=>by
  obtain⟨h1,h2⟩:=Qe.mp (show(t.ok&&r.ok)=true from h);have:=FI h1;have:=Gu h2 w (k+1);have:=HA k w;show((gap k w::t.txt::r.pcs w (k+1)).map (·.length)).sum<=1330*kc ("term"::r.sorts)+40*(r.sorts.length+1)+1600*(t.cnt+r.cnt);rw[HB,if_neg (show ¬ (("term":Str)="kind") by decide)];simp only[Ym,List.sum_cons];lia
 | .fld f r,h,w,k=>by
  obtain⟨h1,h2⟩:=Qe.mp (show((Bp f.names&&f.ok)&&r.ok)=true from h);have:=Zj (Qe.mp h1).2;have:=Gu h2 w (k+1);have:=HA k w;have d:=Jp (", ":Str) f.pcs;have e:(", ":Str).length=2:=rfl;rw[e]at d;show((gap k w::Txt.join ", " f.pcs::r.pcs w (k+1)).map (·.length)).sum<=1330*kc ("fields"::r.sorts)+40*(r.sorts.length+1)+1600*(f.cnt+r.cnt);rw[HB,if_neg (show ¬ (("fields":Str)="kind") by decide)];simp only[Ym,List.sum_cons,Cb];lia
theorem Zj:∀{f:Fl},f.ok=true->(f.pcs.map (·.length)).sum+f.pcs.length*2<=1600*f.cnt
 | .nil,_=>by decide
 | .cons x t r,h=>by
  obtain⟨h1,h2⟩:=Qe.mp (show((Ax x&&t.ok)&&r.ok)=true from h);obtain⟨b,a⟩:=Qe.mp h1;have:=Hj b;have:=FI a;have:=Zj h2;have e:(": ":Str).length=2:=rfl;show(((x++": "++t.txt)::r.pcs).map (·.length)).sum+(r.pcs.length+1)*2<=1600*(t.cnt+r.cnt);simp only[Ym,List.sum_cons,AW];lia
end
def As.lok:As->Bool
 | .nil=>true
 | .num i r=>decide (-NB<=i/\i<=NB)&&r.lok
 | .tru _ r=>r.lok
 | .nam x r=>Ax x&&r.lok
 | .knd k r=>(k.ok&&BG k)&&r.lok
 | .trm _ r=>r.lok
 | .fld f r=>(Bp f.names&&f.names.all Ax)&&r.lok
def fmT:Te->Bool
 | .nd w r=>decide (KTD.datumAt w AF=some r.sorts)&&r.lok
 | .raw _=>false
theorem Zk:∀ f:Fl,f.ok=(f.names.all Ax&&f.terms.all Te.ok)
 | .nil=>rfl
 | .cons x t r=>by
  show((Ax x&&t.ok)&&r.ok)=((Ax x&&r.names.all Ax)&&(t.ok&&r.terms.all Te.ok));rw[Zk r];cases Ax x <;> cases t.ok <;> cases r.names.all Ax <;> rfl
theorem Gv:∀ r:As,r.ok=(r.lok&&r.parts.all Te.ok)
 | .nil=>rfl
 | .num i r=>by show(decide (-NB<=i/\i<=NB)&&r.ok)=((decide (-NB<=i/\i<=NB)&&r.lok)&&r.parts.all Te.ok);rw[Gv r,Bool.and_assoc]
 | .tru _ r=>Gv r
 | .nam x r=>by show(Ax x&&r.ok)=((Ax x&&r.lok)&&r.parts.all Te.ok);rw[Gv r,Bool.and_assoc]
 | .knd k r=>by show((k.ok&&BG k)&&r.ok)=(((k.ok&&BG k)&&r.lok)&&r.parts.all Te.ok);rw[Gv r];simp only[Bool.and_assoc]
 | .trm t r=>by
  show(t.ok&&r.ok)=(r.lok&&(t.ok&&r.parts.all Te.ok));rw[Gv r];cases t.ok <;> cases r.lok <;> rfl
 | .fld f r=>by
  show((Bp f.names&&f.ok)&&r.ok)=(((Bp f.names&&f.names.all Ax)&&r.lok)&&(f.terms++r.parts).all Te.ok);rw[Gv r,Zk,List.all_append];cases Bp f.names <;> cases f.names.all Ax <;> cases f.terms.all Te.ok <;> cases r.lok <;> rfl
theorem uy(t:Te):t.ok=(fmT t&&t.parts.all Te.ok):=by
 cases t with
 | raw v=>rfl
 | nd w r=>show(_&&r.ok)=((_&&r.lok)&&r.parts.all Te.ok);rw[Gv,Bool.and_assoc]
theorem Zl:∀{fs:Fs}(h:∀ k∈fs.kinds,k.wt<=k.txt.length),fs.wt<=(fs.pcs.map (·.length)).sum
 | .nil,_=>Yr _
 | .cons n m k r,h=>by
  have h1:=h k Ye;have h2:=Zl λc hc=>h c (Yd _ hc);show n.length+k.wt+r.wt<=(((n++FG m++(": ":Str)++k.txt)::r.pcs).map (·.length)).sum;rw[Ym,List.sum_cons];simp only[AW];lia
theorem PJ(a:Str):∀ l:List Str,(l.map (·.length)).sum+l.length*a.length<=(Str.join a l).length+a.length
 | []=>by simp
 | [x]=>by simp[Str.join]
 | x::y::r=>by
  show _<=(x++a++Str.join a (y::r)).length+_;rw[AW,AW];have:=PJ a (y::r);simp only[Ym,List.sum_cons,Yg,Nat.add_mul]at this ⊢;lia
theorem LN(a:Str)(l:List Str):(l.map (·.length)).sum<=(Str.join a l).length:=by
 cases l with
 | nil=>exact YT _
 | cons x l =>
  have:=PJ a (x::l);rw[Yg,Nat.add_mul]at this;lia
theorem Zm:∀(n:Nat)(k:Kd),k.dp<=n->k.wt<=k.txt.length
 | 0,k,h=>by have:=TN k;lia
 | n+1,k,h=>by
  have a:∀ c∈k.kids,c.wt<=c.txt.length:=λc hc=>Zm n c (by have:=lw hc;lia);cases k with
  | any=>exact(by decide:1<=("any":Str).length)
  | num=>exact(by decide:1<=("num":Str).length)
  | truth=>exact(by decide:1<=("truth":Str).length)
  | to x y =>
   have h1:=a x Ye;have h2:=a y (Yd _ Ye);show 1+(x.wt+y.wt)<=(("(":Str)++x.txt++(" > ":Str)++y.txt++(")":Str)).length;simp only[AW];have b:("(":Str).length=1:=rfl;lia
  | box x =>
   have h1:=a x Ye;show 1+x.wt<=(("[":Str)++x.txt++("]":Str)).length;simp only[AW];have b:("[":Str).length=1:=rfl;lia
  | row fs o =>
   have h1:=Zl a;show 1+fs.wt<=(("{":Str)++Txt.join ", " (fs.pcs++Bn o)++("}":Str)).length;have h2:=LN ", " (fs.pcs++Bn o);rw[Yy,List.sum_append]at h2;rw[Cb];simp only[AW];have b:("{":Str).length=1:=rfl;lia
inductive Fm:Te->Prop
 | nd {w:Str} {r:As}:KTD.datumAt w AF=some r.sorts->(∀ c∈r.parts,Fm c)->Fm (.nd w r)
theorem Jr:∀(n:Nat)(t:Te),t.dp<=n->t.ok=true->Fm t
 | 0,t,h,_=>by have:=IX t;lia
 | n+1,.raw v,_,h=>by cases h
 | n+1,.nd w r,h,a=>.nd (Gj a).1 λc hc=>Jr n c (by have:=Ja (t:=.nd w r) hc;lia) (Ht a c hc)
inductive OkR:Te->Prop
 | raw {v:W}:TFm v false->OkR (.raw v)
 | nd {w:Str} {r:As}:KTD.datumAt w AF=some r.sorts->TFm (Te.nd w r).enc r.lok->(∀ c∈r.parts,OkR c)->OkR (.nd w r)
inductive HC:Te->Prop
 | raw (v:W):HC (.raw v)
 | part {t c:Te}:c∈t.parts->HC c->HC t
theorem uz(h:HC t):t.ok=false:=by
 induction h with
 | raw v=>rfl
 | part hc _ a =>
  cases e:Te.ok _ with
  | false=>rfl
  | true=>rw[Ht e _ hc]at a;cases a
theorem Zn(h:OkR t)(hc:t.cnt<=90000):TB t.enc (decide (t.cnt<=40/\t.dp<=10)&&t.ok):=by
 have z:=OF (enc:=Te.enc) (L:=TPs) (mo:=40) (de:=10) (B:=λt:Te=>OkR t/\t.cnt<=90000) Wz WA rfl rfl uy (λt⟨h,hc⟩=>by
  cases h with
  | raw h=>exact⟨h,λz=>by cases z⟩
  | @nd w r h1 h2 c =>
   refine⟨by show TFm _ (decide _&&r.lok);rw[YG h1];exact h2,λ_=>⟨⟨_,rfl,h1,hc,rfl⟩,λy a=>⟨c y a,?_⟩⟩⟩;have:=Jb a;lia) t.dp [t] 0 0 (by show max t.dp 0<=_;lia) (λx b=>by rw[YA.mp b];exact⟨h,hc⟩) (by show t.cnt+0<=_;lia) (by decide) (by decide)
 rw[show decide (0+Bx [t]<=40/\0+tdp [t]<=10)=decide (t.cnt<=40/\t.dp<=10) by rw[decide_eq_decide];show 0+(t.cnt+0)<=40/\0+max t.dp 0<=10↔_;lia,List.all_cons,List.all_nil,Bool.and_true]at z;exact z
def Ag.bd:Ag->Prop
 | .nam x=>x.length<=90000
 | .knd k=>k.wt<=90000
 | .fld f=>(∀ y∈flL f,y.1.length<=90000)/\(flL f).length<=90000
 | _=>True
theorem uA(f:Fl):(flL f).all (λy=>Ax y.1)=f.names.all Ax:=by
 rw[<- O9,List.all_map];rfl
theorem uB(r:As):(∀ g∈r.gs,g.bd)->∃ l:List (W×Str×Bool),r.enc=l.map (·.1)/\r.sorts=l.map (·.2.1)/\(∀ x∈l,Os x.1 x.2.1 x.2.2)/\r.lok=l.all (·.2.2):=
 D1 (p:=λr=>(∀ g∈r.gs,g.bd)->∃ l:List (W×Str×Bool),r.enc=l.map (·.1)/\r.sorts=l.map (·.2.1)/\(∀ x∈l,Os x.1 x.2.1 x.2.2)/\r.lok=l.all (·.2.2)) (λ_=>⟨[],rfl,rfl,λx h=>(by cases h),rfl⟩) (λg r o h=>by
  rw[Hz]at h;obtain⟨l,j,d,m,e⟩:=o λx c=>h x (Yd _ c);have a:=h g Ye
  have key:∀ b,Os g.enc g.sort b->(g.on r).lok=(b&&r.lok)->∃ l:List (W×Str×Bool),(g.on r).enc=l.map (·.1)/\(g.on r).sorts=l.map (·.2.1)/\(∀ x∈l,Os x.1 x.2.1 x.2.2)/\(g.on r).lok=l.all (·.2.2):=λb a n=>
   ⟨(g.enc,g.sort,b)::l,by rw[uo,j];rfl,by rw[Zg,d];rfl,λx c=>by
    rcases Yo.mp c with rfl | c
    ·exact a
    ·exact m x c,by rw[n,e];rfl⟩
  cases g with
  | num i=>exact key _ (.num (.inl ⟨i,rfl,rfl⟩)) rfl
  | tru b=>exact key _ (.tru b) rfl
  | nam x=>exact key _ (.nam x a) rfl
  | knd k=>exact key (BG k&&k.ok) (.knd (.inl ⟨k,rfl,a,rfl⟩)) (by rw[Bool.and_comm (BG k)];rfl)
  | trm t=>exact key _ (.trm _) rfl
  | fld f=>exact key (f.names.all Ax&&Bp f.names) (.fld (.inl ⟨flL f,by show W.tup f.enc=_;rw[O8],a.1,a.2,by rw[uA,O9]⟩)) (by rw[Bool.and_comm (f.names.all Ax)];rfl)) r
theorem Js{w:Str}(h:KTD.datumAt w AF=some r.sorts)(a:∀ g∈r.gs,g.bd)(i:∀ c∈r.parts,OkR c):OkR (.nd w r):=by
 obtain⟨l,e,b,f,d⟩:=uB r a;have j:=O6 h;refine .nd h (.inl ⟨w,r.enc,rfl,⟨r.sorts,h,.inr ⟨l,e,b,f,d⟩⟩,?_⟩) i;rw[O1];lia
theorem PK:∀ f:Fl,(∀ c∈f.terms,Fm c->c.cnt<=c.txt.length)->(∀ c∈f.terms,Fm c)->f.cnt<=(f.pcs.map (·.length)).sum/\(∀ y∈flL f,y.1.length<=(f.pcs.map (·.length)).sum)/\∀ c∈f.terms,c.txt.length<=(f.pcs.map (·.length)).sum
 | .nil,_,_=>⟨Yr _,λy h=>(by cases h),λy h=>(by cases h)⟩
 | .cons x t r,h,b=>by
  obtain⟨i,d,g⟩:=PK r (λc hc=>h c (Yd _ hc)) λc hc=>b c (Yd _ hc);have h1:=h t Ye (b t Ye)
  have e:(((x++": "++t.txt)::r.pcs).map (·.length)).sum=x.length+2+t.txt.length+(r.pcs.map (·.length)).sum:=by
   rw[Ym,AW,AW];rfl
  show t.cnt+r.cnt<=_/\(∀ y∈(x,t.enc)::flL r,_)/\∀ c∈t::r.terms,_;show _<=(((x++": "++t.txt)::r.pcs).map (·.length)).sum/\(∀ y∈_,_<=(((x++": "++t.txt)::r.pcs).map (·.length)).sum)/\∀ c∈_,_<=(((x++": "++t.txt)::r.pcs).map (·.length)).sum;refine⟨by lia,λy a=>?_,λc hc=>?_⟩
  ·rcases Yo.mp a with rfl | a
   ·show x.length<=_;lia
   ·have:=d y a;lia
  ·rcases Yo.mp hc with rfl | hc
   ·lia
   ·have:=g c hc;lia
theorem Zo(w:Str)(r:As):(∀ c∈r.parts,Fm c->c.cnt<=c.txt.length)->(∀ c∈r.parts,Fm c)->∀ k,r.cnt<=((r.pcs w k).map (·.length)).sum/\(∀ g∈r.gs,g.txt.length<=((r.pcs w k).map (·.length)).sum)/\∀ c∈r.parts,c.txt.length<=((r.pcs w k).map (·.length)).sum :=
 D1 (p:=λr=>(∀ c∈r.parts,Fm c->c.cnt<=c.txt.length)->(∀ c∈r.parts,Fm c)->∀ k,r.cnt<=((r.pcs w k).map (·.length)).sum/\(∀ g∈r.gs,g.txt.length<=((r.pcs w k).map (·.length)).sum)/\∀ c∈r.parts,c.txt.length<=((r.pcs w k).map (·.length)).sum) (λ_ _ k=>⟨YT _,λg h=>(by cases h),λc h=>(by cases h)⟩) (λg r m h a k=>by
  have key:(∀ c∈r.parts,c∈(g.on r).parts)/\(g.cnt<=g.txt.length)/\(∀ c∈(g.on r).parts,c.txt.length<=g.txt.length\/c∈r.parts):=by
   cases g with
   | trm t=>exact⟨λc hc=>Yd _ hc,h t Ye (a t Ye),λc hc=>by
     rcases Yo.mp hc with rfl | hc
     ·exact .inl (Yr _)
     ·exact .inr hc⟩
   | fld f =>
    obtain⟨n,e,d⟩:=PK f (λc hc=>h c (YK _ hc)) λc hc=>a c (YK _ hc);have:=LN ", " f.pcs;refine⟨λc hc=>YL _ hc,?_,λc hc=>?_⟩
    ·show f.cnt<=(Txt.join ", " f.pcs).length;rw[Cb];lia
    ·rcases Yz.mp hc with hc | hc
     ·have:=d c hc;exact .inl (by show _<=(Txt.join ", " f.pcs).length;rw[Cb];lia)
     ·exact .inr hc
   | num i|tru i|nam i|knd i=>exact⟨λc hc=>hc,YT _,λc hc=>.inr hc⟩
  obtain⟨j,o,l⟩:=key;obtain⟨n,e,d⟩:=m (λc hc=>h c (j c hc)) (λc hc=>a c (j c hc)) (k+1);rw[Zh,uq,Hz,Ym,Ym,List.sum_cons,List.sum_cons];refine⟨by lia,λx b=>?_,λc hc=>?_⟩
  ·rcases Yo.mp b with rfl | b
   ·lia
   ·have:=e x b;lia
  ·rcases l c hc with z | z
   ·lia
   ·have:=d c z;lia) r
theorem Zp{w:Str}:((r.pcs w 0).map (·.length)).sum+1<=(Te.nd w r).txt.length:=by
 show _<=(Txt.join "" (w::"("::(r.pcs w 0++[(")":Str)]))).length;rw[Cb];have h:=LN "" (w::"("::(r.pcs w 0++[(")":Str)]));have a:("(":Str).length=1:=rfl;have b:(")":Str).length=1:=rfl;simp only[Ym,Yy,List.sum_cons,List.sum_append]at h;lia
theorem PL(h:Fm t):t.cnt<=t.txt.length:=by
 induction h with
 | @nd w r h1 h2 a =>
  have d:=(Zo w r (λc hc _=>a c hc) h2 0).1;have b:=Zp (w:=w) (r:=r);show 1+r.cnt<=_;lia
theorem PM(h:Fm t):t.txt.length<=90000->OkR t:=by
 induction h with
 | @nd w r h1 h2 n =>
  intro hl;obtain⟨z,l,m⟩:=Zo w r (λc hc h=>PL h) h2 0;have p:=Zp (w:=w) (r:=r);refine Js h1 (λg a=>?_) λc hc=>n c hc (by have:=m c hc;lia);have b:=l g a;cases g with
  | num i|tru i|trm i=>exact trivial
  | nam x=>show x.length<=_;have:x.length<=_:=b;lia
  | knd k=>show k.wt<=_;have:=Zm k.dp k (Yr _);have:k.txt.length<=_:=b;lia
  | fld f =>
   have b:(Txt.join ", " f.pcs).length<=_:=b;rw[Cb]at b;have u:=LN ", " f.pcs;have o:=(Hu h1).2
   have d:∀ c∈f.terms,Fm c:=λc hc=>h2 c (by
    by_cases e:w="rec"
    ·obtain⟨v,rfl⟩:=(Hu h1).1 e;rcases Yo.mp a with e | a
     ·cases e;exact YK _ hc
     ·cases a
    ·exact Qj (by rw[Zi];exact YC.mpr ⟨_,a,rfl⟩) (o e))
   obtain⟨b1,b2,q⟩:=PK f (λc hc h=>PL h) d
   have s:(flL f).length<=f.cnt:=by
    have:(flL f).length=f.terms.length:=by rw[<- WD,O8];exact(Yh _).symm
    rw[this,(O0 f).1];exact IY _
   exact⟨λy j=>by have:=b2 y j;lia,by lia⟩
theorem PN(h:Fm t)(hl:t.txt.length<=90000):TB t.enc (decide (t.cnt<=40/\t.dp<=10)&&t.ok):=Zn (PM h hl) (Yt (PL h) hl)
theorem uC(h:tg t):TB t.enc true:=by
 have hl:=FI h.1;have hc:=h.2.1;have:=PN (Jr t.dp t (Yr _) h.1) (by lia);rw[h.1,YG h.2]at this;exact this
abbrev Zq:List Str:=["kind","parts","name","mark","inner"]
theorem Zr:Ay Zq ["kind"] (Ao Od):=by walk_at "s"
def Zs(Dc:Spw):GS:=(Ae (gIf (gTB (Ad (Af (eqF false)) eq yb)) (Aj (Ad (Aw) (Ad (Aw) (Ad (Aw) (Ad (Aw) (gC (.str "(")) (Ai Dc XF (Aa xz Ac))) (gC (.str " > "))) (Ai Dc XF (Aa re Ac))) yl)) Au) (Ae (gIf (gTB (Ad (Af (eqF false)) eq x4)) (Aj (Ad (Aw) (Ad (Aw) (gC (.str "[")) (Ai Dc XF (Aa xz Ac))) (gC (.str "]")))) Au) (Ae (gIf (gTB (Ad (Af (eqF true)) eq r4)) (Aj eq) Au) (Ae (Ak 1 y0) (Ae (Bz (DI xz) (F4 2 3 4) (AN (gMt B7 Cr na (Aa (Ad (Aw) (Ad (Aw) r6 (Ad (Af ixK) (Fb ["must","may"] (Aa yy (Aa (gC (.str "?: ")) Ac))) ya)) (Ai Dc XF yI)) Ac)))) (Aj (Ad (Aw) (Ad (Aw) (gC (.str "{")) (gMt isStr Ih yN (Aa (Ad (Aw) na (Ad (BL) (Aq (Aa (gC (.str "..")) Ac)) (gB (rF DG) (Aa re Ac)))) Ac))) (gC (.str "}")))))))))
theorem uD(T:Tx K mg base a)(uE:Df P w K mg base "_law_kind_text" FJ 1 Dc)(uF:FJ<=k):Dn P w K mg base Zq "_law_kind_text" Od k (Zs Dc):=λ{f cdv A outer s H E}hr=>
 have hu:=AQ hr
 have hN:=Zr.nd
 (Av (by walk_at "v") (Av (by walk_at "v") (Av (by walk_at "v") (Av (by walk_at "v") (Av (JS PassesOwn.never rfl (λ_=>rfl) (by walk_at "v") (by walk_at "v") (AE (BU rfl (C6 Ia rfl rfl rfl rfl rfl (by walk_at "v") (AO rfl (EB (EB (by walk_at "v") (S5 (λ_ _=>rfl) (Ny (ks:=["must","may"]) (by rfl) (by intro h;cases h) (by exact(by decide:2<=15)) (by decide) (F7 FU (F7 FU Nx))) (by walk_at "v"))) (by walk_at "v")) A8))))) (by walk_at "v"))))))
abbrev Zt:List Str:=["term","head","parts"]
theorem LO:Ay Zt ["term"] (Ao Kc):=by walk_at "s"
abbrev yU:=gTB (Ad (Af (eqF false)) na yc)
abbrev wE:=gIf (gTB (Ad (Af (inF false)) na (Aq (Aa (gC (.str "get")) (Aa (gC (.str "or")) Ac))))) (Ak 2 (Ad (Aw) (Aq (Aa (Ad (Af ixW) r6 u8) (Aa re Ac))) (Bv r6 (A2 dl) Bk))) Au
def uG(CU:Spw)(DA:Spw)(Dc:Spw):GS:=(Ae (Ak 1 eq) (Ae (Ak 2 (Bg (Bl (Ai CU XF wS)) 1 (gNm 0) Bh (Ai DA XF wS))) (Ae (gIf (gTB (Ad (Af (eqF false)) na ln)) (Ak 2 (Aq (Aa (gB (rF Ij) (Aa xz Ac)) Ac))) Au) (Ae (gIf yS (Ak 2 (Aq (Aa (Ad (Af ixW) (Aq (Aa (gC (.str "no")) (Aa (gC (.str "yes")) Ac))) (gB (rF DG) (Aa xz Ac))) Ac))) Au) (Ae (gIf (gTB (Ad (Af (eqF false)) na yh)) (Ak 2 (Aq (Aa xz Ac))) Au) (Ae (gIf (gTB (Ad (Af (eqF false)) na yd)) (Ak 2 (Ad (Aw) (Aq (Aa (Ad (Aw) (Ad (Aw) xz yy) (Ai Dc XF (Aa re Ac))) Ac)) r6)) Au) (Ae (gIf (gTB (Ad (Af (eqF false)) na yf)) (Ak 2 (B9 (Cd (Aa yO Ac)) 1 [0,2] (gNm 0) Bh (Ad (Aw) (Ad (Aw) (Ad (Af ixW) (Ad (Af ixW) (Ad (Af ixW) na dl) ad) u8) yy) (Ad (Af ixW) r6 ad)))) Au) (Ae wE (Ae (gIf yU (AN (gMt B7 Cr r6 (Aa (Ai Dc XF (Aa re Ac)) Ac))) Au) (Aj (Ad (Aw) (Ad (Aw) (Ad (Aw) na (gC (.str "("))) (gMt isStr Ih yN kw)) yl)))))))))))
theorem uH(T:Tx K mg base a){Dx:Nat}(Xz:Df P w K mg base "_law_parts" Dx 1 CU)(XA:Dx<=k)(Zu:Df P w K mg base "_law_text" FK 1 DA)(Zv:FK<=k)(uE:Df P w K mg base "_law_kind_text" FJ 1 Dc)(uF:FJ<=k):Dn P w K mg base Zt "_law_text" Kc k (uG CU DA Dc):=λ{f cdv A outer s H E}hr=>
 have hu:=AQ hr
 have hN:=LO.nd
 (Av (by walk_at "v") (Av (Ng (i:=2) LO.nd rfl rfl rfl rfl (Cs (Nc:=["part"]) rfl (Ci rfl (by decide +kernel) (by decide +kernel)) (λ_=>rfl) (by walk_at "v") (C3 (i:=0) (by decide) rfl rfl) (λC fp s1 H1=>B1) (λC fp s1 H1=>(by walk_at "v")))) (Av (by walk_at "v") (Av (by walk_at "v") (Av (by walk_at "v") (Av (by walk_at "v") (Av (Bc (by walk_at "v") (AE (Ng (i:=2) LO.nd rfl rfl rfl rfl (Nd rfl (Ie (own:=["k"]) (fr:=["term","parts"]) (js:=[0,2]) (scX:=Ao Kc) (n:=s.heap.objs.size+1) rfl (by decide +kernel) (by decide +kernel) (by decide +kernel) (by decide +kernel) rfl rfl rfl (by decide +kernel) rfl) (λ_=>rfl) (by walk_at "v") (Nb (i:=0) (by decide) rfl rfl) (λC fp s1 H1=>B1) (λC fp s1 H1=>(by walk_at "v"))))) Bj) (by walk_at "v"))))))))
theorem uI:ixK (.ref l) (.str (mark m)) (put G l (.dct (kvW ["must","may"] [W.str ": ",W.str "?: "])))=some (.str (FG m++": ")):=by
 unfold ixK;dsimp only;rw[Ap];cases m <;> kernel_rfl
theorem uJ(q:Q (.str (FG m++": ")) (put G l (.dct (kvW ["must","may"] [W.str ": ",W.str "?: "])))):Af ixK (.ref l) (.str (mark m)) (put G l (.dct (kvW ["must","may"] [W.str ": ",W.str "?: "]))) Q:=by
 show opt (ixK _ _ _) _;rw[uI,AB];exact q
theorem uK{a:GG}{An:GS}(b:ω[0]?=some (some (.tup (x::.tup xs::l))))(q:BD yes a gb {D with nx:=An D} xs ω G):Ae (Bz (DI xz) a gb) An D ω G:=by
 simp only[Ae,Bz,DI,Ad,Af,Ab,b,gC,ixW,CF,AB];exact q
theorem uL(x:Str×Bool×Kd):x.1++(FG x.2.1++": ")++x.2.2.txt=pc x:=Eb (by unfold pc;simp only[Cy,Yv])
abbrev gKt(sp:Spw):GS:=AN (gMt B7 Cr na (Aa (Ad (Aw) (Ad (Aw) r6 (Ad (Af ixK) (Fb ["must","may"] (Aa yy (Aa (gC (.str "?: ")) Ac))) ya)) (Ai sp XF yI)) Ac))
theorem Zw(b:∀ G,gd G)(u:k p=none):∀(l:List (Str×Bool×Kd))(a:List Str)(G:Hw)(c d g:Option W),L3.Sub k G->G p=some (.lst (a.map W.str))->(∀ x∈l,Ax x.1=true/\x.2.2.ok=true/\x.2.2.dp<=n/\x.2.2.cnt<=1000)->a.length+l.length<=1000->
  (∀ f c d g,L3.Sub k f->f p=some (.lst ((a++l.map pc).map W.str))->D.nx [o0,some (.ref p),c,d,g] f)->
  BD gd (F4 2 3 4) (gKt (Jq n)) D (l.map Pz) [o0,some (.ref p),c,d,g] G
 | [],a,G,c,d,g,j,i,_,_,q=>⟨b _,q _ _ _ _ j (by rw[YH,Yx];exact i)⟩
 | x::l,a,G,c,d,g,j,i,t,hl,q=>by
  rw[Yg]at hl;refine⟨b _,?_⟩;obtain⟨w,m,E,v⟩:=t x Ye;have h1:=Ej m;have h2:=Hj w;have H:=Ze x.2.1;have F:(": ":Str).length=2:=rfl;show gKt (Jq n) _ [o0,some (.ref p),some (.str x.1),some (.str (mark x.2.1)),some x.2.2.enc] G;simp only[gKt,AN,gMt,Ad,Fb,Ai,Ab,gC,Aa,Ac,Yb,Yc];refine⟨Fh i,by decide +kernel,λr s=>uJ ?_⟩;have e:=j.trans (Az (o:=.dct (kvW ["must","may"] [W.str ": ",W.str "?: "])) s);have h:=Az (o:=.dct (kvW ["must","may"] [W.str ": ",W.str "?: "])) s _ _ i;generalize put G r (.dct (kvW ["must","may"] [W.str ": ",W.str "?: "]))=G2 at e h ⊢;refine⟨Br (by rw[AW];lia),x.2.2,⟨rfl,m,E,v⟩,?_⟩;refine⟨Br (by rw[AW,AW];lia),Gh h (by rw[Yh];exact DN (by lia)) ?_⟩;have z:=Zw b u l (a++[pc x]) (put G2 p (.lst (a.map W.str++[.str (pc x)]))) (some (.str x.1)) (some (.str (mark x.2.1))) (some x.2.2.enc) (e.put u) (by rw[Ap,Yy];rfl) (λy B=>t y (Yd _ B)) (by simp only[Yj,Yg,Yi];lia) (λf p2 p3 p4 s' A=>q f p2 p3 p4 s' (by rw[A,Yv];rfl));rw[uL];exact z
theorem uM(h:G q=some (.lst xs))(b:0<=k)(h1:k<=1)(hl:xs.length<=2000)(z:∀ p,G p=none->Q (.ref p) (put G p (.lst (List.replicate k.toNat xs).flatten))):BL (.ref q) (.int k) G Q:=by
 unfold BL;dsimp only;rw[h];have a:(2:Int) ^ 63=9223372036854775808:=by decide
 refine⟨by rw[a];lia,by rw[a];lia,Bo ?_,z⟩;have:k.toNat<=1:=by lia
 calc xs.length*k.toNat<=xs.length*1:=Nat.mul_le_mul_left _ this
  _<=100000:=by lia
theorem FJ(T:Tx K mg base a):∀ n:Nat,Df P w K mg base "_law_kind_text" (n+1) 1 (Jq n)
 | 0=>DS T.T9 Bw λv G Q E⟨k,⟨_,_,h,_⟩,_⟩=>by have:=TN k;lia
 | n+1=>by
  have D:Df P w K mg base "_law_kind_text" (n+1) 1 (Jq n):=FJ T n;refine mk0 (k:=n+1) T.T9 rfl Zr Bw (λv G Q E⟨x,⟨e,_⟩,_⟩=>by rw[e];rfl) (uD T D (Yr _)) λv G Q E F q=>?_;obtain⟨k,⟨rfl,r,hd,hc⟩,q⟩:=q;unfold Zs;cases k with
  | any|num|truth=>exact Eq.mpr (by kernel_rfl) q
  | to x y =>
   have c:(x.ok&&y.ok)=true:=r;simp only[YF]at c;have i:1+max x.dp y.dp<=n+1:=hd;have f:1+(x.cnt+y.cnt)<=1000:=hc;have h1:=Ej c.1;have h2:=Ej c.2;have m:("(":Str).length=1:=rfl;have e2:(" > ":Str).length=3:=rfl;have t:(")":Str).length=1:=rfl;simp only[Kd.enc];walk_at "rd";simp only[beq_self_eq_true,n1,n2,n3,b1,b2,YD,AB,if_true,Yq,if_false];refine⟨x,⟨rfl,c.1,by lia,by lia⟩,Br (by lia),Br (by rw[AW];lia),y,⟨rfl,c.2,by lia,by lia⟩,Br (by rw[AW,AW];lia),Br (by rw[AW,AW,AW];lia),q⟩
  | box x =>
   have i:1+x.dp<=n+1:=hd;have f:1+x.cnt<=1000:=hc;have h1:=Ej (k:=x) r;have m:("[":Str).length=1:=rfl;have t:("]":Str).length=1:=rfl;simp only[Kd.enc];walk_at "rd";simp only[beq_self_eq_true,n1,n2,n3,b1,b2,YD,AB,if_true,Yq,if_false];exact⟨x,⟨rfl,r,by lia,by lia⟩,Br (by lia),Br (by rw[AW];lia),q⟩
  | row fs o =>
   have c:(Bp fs.names&&fs.ok)=true:=r;simp only[YF]at c;have i:1+fs.dp<=n+1:=hd;have f:1+fs.cnt<=1000:=hc;have I:=PH c.2;have hl:=Zd fs;show Ae _ _ (AC Q) [some (.tup [.str "row",.tup fs.enc,.bl o]),none,none,none,none] G;refine Hy (b:=false) rfl n2 ?_;rw[if_neg (by decide)];refine Hy (b:=false) rfl n3 ?_;rw[if_neg (by decide)];refine Hv (λZ R=>?_) ?_
   ·simp only[gTB,Ad,Af,Ab,gC,Yb,ixW,BF,AB,BP,beq_self_eq_true,show(true != true)=false from rfl];exact R
   refine AK ⟨sz rfl,λp u=>?_⟩;simp only[Yk,Yl];refine uK rfl ?_;rw[Za];refine Zw (n:=n) (gd:=yes) (λ_=>trivial) u fs.toL [] _ none none none (Az u) Ap (λx j=>⟨(PC c.2 x j).1,(PC c.2 x j).2,Zb (by lia) x j,Yt (Zc x j) (by lia)⟩) (by rw[Yi];lia) λG1 X o3 o4 O d=>?_;rw[Yw,<- PB]at d;have N:fs.pcs.length<=1000:=by rw[PB,Yh];lia
   simp only[Aj,Ad,gMt,gB,Aq,Ab,gC,Aa,Ac,Yb,Yc];refine⟨⟨_,rfl⟩,sz rfl,λp1 l=>?_⟩;have J:=O.trans (Az (o:=.lst [.str ".."]) l);have d:=Az (o:=.lst [.str ".."]) l _ _ d;have S:put G1 p1 (.lst [.str ".."]) p1=some (.lst [.str ".."]):=Ap;generalize put G1 p1 (.lst [.str ".."])=G2 at *;simp only[rF,Af,ixW,Dl,AB,DG];refine uM S (by cases o <;> decide) (by cases o <;> decide) (by decide) λp2 g=>?_;have B:(List.replicate (if o=true then(1:Int)else 0).toNat [W.str ".."]).flatten=(Bn o).map W.str:=by cases o <;> rfl
   rw[B];have A:=J.trans (Az (o:=.lst ((Bn o).map W.str)) g);have d:=Az (o:=.lst ((Bn o).map W.str)) g _ _ d;have L:put G2 p2 (.lst ((Bn o).map W.str)) p2=some (.lst ((Bn o).map W.str)):=Ap;have j:((Bn o).map (·.length)).sum+(Bn o).length*2<=4:=by cases o <;> decide
   generalize put G2 p2 (.lst ((Bn o).map W.str))=G3 at *;refine CT d L (by rw[Yh,Yh];lia) λp3 s=>?_;have U:=A.trans (Az (o:=.lst (fs.pcs.map W.str++(Bn o).map W.str)) s);have z:put G3 p3 (.lst (fs.pcs.map W.str++(Bn o).map W.str)) p3=some (.lst ((fs.pcs++Bn o).map W.str)):=by rw[Ap,Yy]
   generalize put G3 p3 (.lst (fs.pcs.map W.str++(Bn o).map W.str))=G4 at *;have H:(", ":Str).length=2:=rfl;have hj:=Jp (", ":Str) (fs.pcs++Bn o)
   have Y:((fs.pcs++Bn o).map (·.length)).sum+(fs.pcs++Bn o).length*(", ":Str).length<=33*fs.cnt+4:=by
    rw[Yy,List.sum_append,Yj,H];lia
   have m:("{":Str).length=1:=rfl;have t:("}":Str).length=1:=rfl;refine Zf z (by lia) ?_;exact⟨Br (by rw[Cb,m];lia),Br (by rw[AW,Cb,m,t];lia),F _ _ _ U q⟩
abbrev LP:GS:=Aj (Ad Aw (Ad Aw (Ad Aw na (gC (.str "("))) (gMt isStr Ih yN kw)) yl)
theorem Jt:∀ l:List Str,cs (Str.join "" l)=(l.map cs).flatten
 | []=>rfl
 | [x]=>by show cs x=cs x++[];rw[Yx]
 | x::y::r=>by
  show cs (x++""++Str.join "" (y::r))=cs x++((y::r).map cs).flatten;rw[Cy,Cy,Jt (y::r),show cs ""=[]from rfl,Yx]
def Fl.tl:Fl->List (Str×Te)
 | .nil=>[]
 | .cons x t r=>(x,t)::r.tl
theorem Zx:∀ f:Fl,f.enc=f.tl.map Cu
 | .nil=>rfl
 | .cons x t r=>by show _::r.enc=_::r.tl.map Cu;rw[Zx r]
def fpc(x:Str×Te):Str:=x.1++": "++x.2.txt
theorem PP:∀ f:Fl,f.pcs=f.tl.map fpc
 | .nil=>rfl
 | .cons x t r=>by show _::r.pcs=_::r.tl.map fpc;rw[PP r];rfl
theorem Zy:∀{f:Fl},f.ok=true->∀ x∈f.tl,Ax x.1=true/\x.2.ok=true/\x.2.dp<=f.dp/\x.2.cnt<=f.cnt
 | .nil,_,x,a=>by cases a
 | .cons n t r,h,x,a=>by
  obtain⟨h1,h2⟩:=Qe.mp (h);obtain⟨c,b⟩:=Qe.mp h1;show _/\_/\_<=max t.dp r.dp/\_<=t.cnt+r.cnt;rcases Yo.mp a with rfl | a
  ·exact⟨c,b,by show t.dp<=_;lia,by show t.cnt<=_;lia⟩
  ·obtain⟨e,d,i,g⟩:=Zy h2 x a;exact⟨e,d,by lia,by lia⟩
theorem Zz:∀ f:Fl,f.tl.length<=f.cnt
 | .nil=>Yr _
 | .cons n t r=>by
  show r.tl.length+1<=t.cnt+r.cnt;have:=Zz r;have:1<=t.cnt:=by cases t <;> first |(show 1<=1+_;lia)| exact Yr _
  lia
abbrev ZA(n:Nat):Spw:=spR (λ(t:Te)ws _=>ws=[t.enc]/\t.ok=true/\t.dp<=n/\t.cnt<=40) λt=>.str t.txt
theorem uN{w:Str}{o:Option W}{n:Nat}(b:x=w++"("++Txt.join ", " ps++")")(hl:x.length<=90000)(a:G p=some (.lst (ps.map W.str)))(q:Q (.str x) G):LP (AC Q) [o,some (.str w),some (.ref p)] G:=by
 have h1:=PJ (", ":Str) ps;have d:("(":Str).length=1:=rfl;have c:(", ":Str).length=2:=rfl;have e:(")":Str).length=1:=rfl;subst b;rw[Cb]at hl q;simp only[AW]at hl;simp only[Aj,Ad,gMt,Ab,Aa,Ac];refine⟨Br (by lia),⟨_,rfl⟩,Zf a (by lia) ?_⟩;rw[Cb];exact⟨Br (by rw[AW];lia),⟨Br (by rw[AW,AW];lia),q⟩⟩
theorem LQ{w:Str}(h:((r.pcs w 0).map cs).flatten=cs (Str.join ", " ps)):(Te.nd w r).txt=w++"("++Txt.join ", " ps++")":=by
 refine Eb ?_;show cs (Txt.join "" (w::"("::(r.pcs w 0++[(")":Str)])))=_;rw[Cb,Cb,Jt];simp only[Ym,Yy,YH,List.flatten_cons,List.flatten_append,List.flatten_nil,Yv,Yx,Cy,h]
section
variable {G:Hw}
theorem HD{w:Str}{An:GS}(h1:ω[1]?=some (some (.str w)))(h:x {D with nx:=An D} ω G):Ae (gIf (gTB (Ad (Af (eqF false)) na (gC (.str w)))) x Au) An D ω G:=by
 simp only[Ae,gIf,gTB,Ad,Af,Ab,h1,gC,BP,beq_self_eq_true];exact h
theorem AL{w:Str}{An:GS}(h1:ω[1]?=some (some (.str w)))(a:(w==t)=false)(h:An D ω G):Ae (gIf (gTB (Ad (Af (eqF false)) na (gC (.str t)))) x Au) An D ω G:=by
 simp only[Ae,gIf,gTB,Ad,Af,Ab,h1,gC,BP,a];exact h
theorem LR{w:Str}{An:GS}(h1:ω[1]?=some (some (.str w)))(c:(["get","or"]:List Str).any (·==w)=b)(h:∀ a,L3.Sub G a->if b=true then x {D with nx:=An D} ω a else An D ω a):Ae (gIf (gTB (Ad (Af (inF false)) na (Aq (Aa yV (Aa (gC (.str "or")) Ac))))) x Au) An D ω G:=by
 simp only[Ae,gIf,gTB,Ad,Af,Ab,h1,Aq];refine⟨sz rfl,λp d=>?_⟩;rw[Pk (xs:=[.str "get",.str "or"]) ["get","or"] w Ap rfl,c];have:=h _ (Az (o:=.lst ((["get","or"]:List Str).map W.str)) d);cases b <;> exact this
theorem PQ{α:Type}{enc f:α->W}{c:Sw}(a:gd G):∀(l:List α)(o:Option W)(ys:List W),(∀ x∈l,∀ Q:Kw,Q (f x) G->ge (some (enc x)::c) G Q)->
  ys.length+l.length<=sizeLine->R (ys++l.map f) G->BE gd (gNm 0) Bh ge R (l.map enc) (o::c) G ys
 | [],o,ys,_,_,r=>⟨a,by simpa using r⟩
 | x::l,o,ys,h,hl,r=>by
  refine⟨a,by simp only[Yg]at hl;lia,h x Ye _ (PQ a l (some (enc x)) (ys++[f x]) (λy b=>h y (Yd _ b)) ?_ ?_)⟩
  ·simp only[Yj,Yg,Yi]at hl ⊢;lia
  ·simpa[Yv]using r
theorem PR:∀ f:Fl,f.terms=f.tl.map (·.2)
 | .nil=>rfl
 | .cons x t r=>by show t::r.terms=t::r.tl.map (·.2);rw[PR r]
theorem FK(T:Tx K mg base a):∀ n:Nat,Df P w K mg base "_law_text" (n+10) 1 (ZA n)
 | 0=>DS T.Ua Bw λws G Q E⟨t,⟨_,_,h,_⟩,_⟩=>by have:=IX t;lia
 | n+1=>by
  have D:Df P w K mg base "_law_text" (n+10) 1 (ZA n):=FK T n;refine mk0 T.Ua rfl LO Bw (λws G Q E⟨x,⟨e,_⟩,_⟩=>by rw[e];rfl) (uH T (Dx T) (by lia) D (Yr _) (FJ T 8) (by lia)) λws N Q E hC q=>?_;obtain⟨t,⟨rfl,Y,hd,hc⟩,q⟩:=q;have hlen:=FI Y;have F:∀{w:Str}{l:Hw}{p:Addr}{ps:List Str}{o:Option W},t.txt=w++"("++Txt.join ", " ps++")"->L3.Sub N l->l p=some (.lst (ps.map W.str))->LP (AC Q) [o,some (.str w),some (.ref p)] l:=λe hs z=>uN (n:=0) e (by lia) z (hC _ _ _ hs q);cases t with
  | raw v=>cases Y
  | nd d r =>
  show Ae (Ak 1 _) _ (AC Q) [some (.tup (.str d::r.enc)),none,none] N;refine AK ?_;simp only[Ad,Af,Ab,gC,Yb,ixW,BF,AB,Yk,Yl];refine AK ?_;refine⟨.nd d r,⟨rfl,Y,by lia⟩,λp z=>?_⟩;simp only[Ap];refine PQ Ap (Te.nd d r).parts none [] (λc J Q' q'=>⟨c,⟨rfl,Ht Y c J,by have:=Ja J;lia,by have:=Jb J;lia⟩,q'⟩) (by have:=pb (Te.nd d r);simp only[Yi];exact Br (by lia)) λp2 L=>?_;rw[Yw];have X:=(Az z).trans (Az (o:=.lst ((Te.nd d r).parts.map λc=>W.str c.txt)) L);have m:put (put N p (.lst ((Te.nd d r).parts.map Te.enc))) p2 (.lst ((Te.nd d r).parts.map λc=>W.str c.txt)) p2=some (.lst ((Te.nd d r).parts.map λc=>W.str c.txt)):=Ap;generalize put (put N p (.lst ((Te.nd d r).parts.map Te.enc))) p2 (.lst ((Te.nd d r).parts.map λc=>W.str c.txt))=G at X m ⊢;simp only[Yk,Yl];obtain⟨h3,h2⟩:=Gj Y;by_cases hr:d="rec"
  ·subst hr;obtain⟨f,rfl⟩:=(Hu h3).1 rfl;have hf:=Qe.mp (Qe.mp (show((Bp f.names&&f.ok)&&true)=true from h2)).1;refine AL rfl (by decide +kernel) (AL rfl (by decide +kernel) (AL rfl (by decide +kernel) (AL rfl (by decide +kernel) (HD rfl ?_))));have hcf:1+(f.cnt+0)<=40:=hc;have hn:=Zz f;have e0:(Te.nd "rec" (.fld f .nil)).parts=f.tl.map (·.2):=by show f.terms++[]=_;rw[Yx,PR]
   rw[e0,YB]at m;simp only[Ak,B9,Cd,gB,rF,AM,BZ,Aa,Ac,Ab,Yb,Yc,BM,Ym,YH,List.replicate,List.cons_append,Yw,Option.getD_some];rw[m];simp only[YD,AB,Yh];refine⟨by lia,by lia,?_⟩
   have hm:(List.range f.tl.length).map (λi=>W.str (((f.tl[i]?).map fpc).getD ""))=(f.tl.map fpc).map W.str:=by
    apply List.ext_getElem
    ·simp
    ·intro i h1 h2;simp only[Yh,List.length_range]at h1 h2;simp only[List.getElem_map,List.getElem_range,Yp h1,YD,Option.getD_some]
   refine PQ (f:=λi=>W.str (((f.tl[i]?).map fpc).getD "")) trivial (List.range f.tl.length) none [] (λi hi Q' q'=>?_) (by rw[Yi,List.length_range];exact Br (by lia)) λp3 hp3=>?_
   ·have hi:=List.mem_range.mp hi;have O:=Yp hi;have hx:=Zy hf.2 _ (Qc hi);generalize f.tl[i]=x at O hx;rw[O]at q';have b1:=Hj hx.1;have b2:=FI hx.2.1;have S:(": ":Str).length=2:=rfl;have a1:atI f.enc (i:Int)=some (Cu x):=L2.CK (by rw[Zx,YM,O];rfl)
    have a2:ixW (.ref p2) (.int (i:Int)) G=some (.str x.2.txt):=by
     rw[Fc m];exact L2.CK (by rw[YM,O];rfl)
    simp only[Ad,Af,Ab,gC,Yb,Yc,As.enc];rw[show ∀ G,ixW (.tup [.str "rec",.tup f.enc]) (.int 1) G=some (.tup f.enc)from λG=>CF,AB,show ∀ G,ixW (.tup f.enc) (.int (i:Int)) G=some (Cu x)from λG=>a1,AB,show ∀ G,ixW (Cu x) (.int 0) G=some (.str x.1)from λG=>BF,AB,Hk];refine⟨Br (by lia),?_⟩;rw[a2,AB,Hk];exact⟨Br (by rw[AW];lia),q'⟩
   ·rw[Yw,hm];refine LR (b:=false) rfl (by decide +kernel) λG2 A=>?_;refine AL rfl (by decide +kernel) (F (ps:=f.pcs) (LQ ?_) ((X.trans (Az hp3)).trans A) (A _ _ (by rw[Ap,PP])));show(cs (gap 0 "rec")++(cs (Txt.join ", " f.pcs)++[]))=_;rw[Cb,Yx];rfl
  have g:∀{l:Hw}{H:Addr}{ps:List Str},(["get","or"]:List Str).any (·==d)=false->(d=="as")=false->L3.Sub G l->l H=some (.lst (ps.map W.str))->((r.pcs d 0).map cs).flatten=cs (Str.join ", " ps)->Ae wE (Ae (gIf yU (AN (gMt B7 Cr r6 (Aa (Ai (Jq 8) XF (Aa re Ac)) Ac))) Au) LP) (AC Q) [some (.tup (.str d::r.enc)),some (.str d),some (.ref H)] l:=λ{l H ps}S e2 hs z he=>
   LR rfl S λG2 A=>by
    exact AL rfl e2 (F (LQ he) ((X.trans hs).trans A) (A _ _ z))
  have B:cs ""=[]:=rfl
  have sl:∀{xs:List W}{H:Addr}{l:Hw}{Z:Kw},l H=some (.lst xs)->(∀ r,l r=none->Z (.ref r) (put l r (.lst (xs.drop 1))))->slA (.ref H) (some 1) none l Z:=λ{xs H l Z}z hz=>by
   show slW (.ref H) (some 1) none l Z;unfold slW;dsimp only;rw[z];dsimp only;rw[F9];exact hz
  have at2:∀{x y:W}{xs:List W}{l:Hw},ixW (.tup (.str d::x::y::xs)) (.int 2) l=some y:=λ{x y xs l}=>Dl;have R:∀{x:W}{xs:List W}{l:Hw},ixW (.tup (.str d::x::xs)) (.int 1) l=some x:=λ{x xs l}=>CF
  have U:∀{t1:Te}{x:Str}{us:List Str}{r':As},r=.trm t1 (.nam x r')->m=m->G p2=some (.lst (W.str t1.txt::us.map W.str))->us.length<=5->(["get","or"]:List Str).any (·==d)=true->(d=="as")=false->((r.pcs d 0).map cs).flatten=cs (Str.join ", " (t1.txt::x::us))->Ae wE (Ae (gIf yU (AN (gMt B7 Cr r6 (Aa (Ai (Jq 8) XF (Aa re Ac)) Ac))) Au) LP) (AC Q) [some (.tup (.str d::r.enc)),some (.str d),some (.ref p2)] G:=λ{t1 x us r'}er _ z hu S e2 he=>by
   subst er;refine LR rfl S λG2 A=>?_;have z:=A _ _ z;simp only[Ak,Ad,Af,Aq,Bv,A2,Bk,Ab,gC,Aa,Ac,Yb,Yc,As.enc];rw[Fc z,BF,AB,at2,AB];refine⟨sz rfl,λq1 j=>sl (Az j _ _ z) λq2 s=>?_⟩;refine CT (Az s _ _ Ap) Ap (by simp only[List.drop_succ_cons,List.drop_zero,Yg,Yi,Yh];lia) λq3 hq3=>?_;exact AL rfl e2 (F (LQ he) ((((X.trans A).trans (Az j)).trans (Az s)).trans (Az hq3)) Ap)
  rcases XQ h3 hr with⟨rfl,i,rfl⟩|⟨rfl,b,rfl⟩|⟨rfl,x,rfl⟩|⟨rfl,x,k,t,rfl⟩|⟨rfl,t,x,rfl⟩|⟨rfl,t,x,u,rfl⟩|⟨rfl,t,u,v,rfl⟩|⟨rfl,t,k,rfl⟩|⟨hw,t,rfl⟩|⟨hw,t,u,rfl⟩
  ·obtain⟨h5,_⟩:=Qe.mp (show(decide (-NB<=i/\i<=NB)&&true)=true from h2);have h5:=Qh h5;refine HD rfl ?_;walk_at "pi";rw[R,AB];unfold Ij;dsimp only;rw[if_pos (YG (by unfold NB at h5;lia)),AB];refine⟨sz rfl,λq1 j=>?_⟩;refine AL rfl (by decide +kernel) (AL rfl (by decide +kernel) (AL rfl (by decide +kernel) (AL rfl (by decide +kernel) (g (ps:=[Str.ofString (toString i)]) (by decide +kernel) (by decide +kernel) (Az j) Ap ?_))));show cs ""++(cs (Str.ofString (toString i))++[])=_;rw[B,Yx];rfl
  ·refine AL rfl (by decide +kernel) (HD rfl ?_);walk_at "pi";refine⟨sz rfl,λq1 j=>?_⟩;rw[R,AB]
   have O:ixW (.ref q1) (.int (if b=true then 1 else 0)) (put G q1 (.lst [W.str "no",.str "yes"]))=some (.str (if b then "yes" else "no")):=by
    rw[Fc Ap];cases b <;> rfl
   unfold DG;rw[AB,O,AB];refine⟨sz rfl,λq2 s=>?_⟩;refine AL rfl (by decide +kernel) (AL rfl (by decide +kernel) (AL rfl (by decide +kernel) (g (ps:=[if b then "yes" else "no"]) (by decide +kernel) (by decide +kernel) ((Az j).trans (Az s)) Ap ?_)));show cs ""++(cs (if b then "yes" else "no")++[])=_;rw[B,Yx];rfl
  ·refine AL rfl (by decide +kernel) (AL rfl (by decide +kernel) (HD rfl ?_));walk_at "pi";refine⟨sz rfl,λq1 j=>?_⟩;refine AL rfl (by decide +kernel) (AL rfl (by decide +kernel) (g (ps:=[x]) (by decide +kernel) (by decide +kernel) (Az j) Ap ?_));show cs ""++(cs x++[])=_;rw[B,Yx];rfl
  ·obtain⟨h5,h6⟩:=Qe.mp (show(Ax x&&((k.ok&&BG k)&&(t.ok&&true)))=true from h2);obtain⟨h7,I⟩:=Qe.mp (Qe.mp h6).1;have I:=Qh I;have b1:=Hj h5;have b2:=Ej h7;have S:(": ":Str).length=2:=rfl;refine AL rfl (by decide +kernel) (AL rfl (by decide +kernel) (AL rfl (by decide +kernel) (HD rfl ?_)));simp only[Ak,Aq,Ai,Ad,Af,Ab,gC,Aa,Ac,Yb,Yc,As.enc];refine⟨Br (by lia),?_⟩;refine⟨k,⟨rfl,h7,I.2,by lia⟩,?_⟩;refine⟨Br (by rw[AW];lia),sz rfl,λq1 j=>?_⟩;refine CT Ap (Az j _ _ m) (show 1+1<=100000 by decide) λq2 s=>?_;refine AL rfl (by decide +kernel) (g (ps:=[x++": "++k.txt,t.txt]) (by decide +kernel) (by decide +kernel) ((Az j).trans (Az s)) Ap ?_);show cs ""++(cs x++(cs ": "++(cs k.txt++(cs ", "++(cs t.txt++[])))))=cs (x++": "++k.txt++", "++t.txt);walk_at "pg"
  ·refine AL rfl (by decide +kernel) (AL rfl (by decide +kernel) (AL rfl (by decide +kernel) (AL rfl (by decide +kernel) (AL rfl (by decide +kernel) (U (us:=[]) rfl rfl m (by decide) (by decide +kernel) (by decide +kernel) ?_)))));show cs ""++(cs t.txt++(cs ", "++(cs x++[])))=cs (t.txt++", "++x);walk_at "pg"
  ·refine AL rfl (by decide +kernel) (AL rfl (by decide +kernel) (AL rfl (by decide +kernel) (AL rfl (by decide +kernel) (AL rfl (by decide +kernel) (U (us:=[u.txt]) rfl rfl m (show 1<=5 by decide) (by decide +kernel) (by decide +kernel) ?_)))));show cs ""++(cs t.txt++(cs ", "++(cs x++(cs ", "++(cs u.txt++[])))))=cs (t.txt++", "++(x++", "++u.txt));walk_at "pg"
  ·refine AL rfl (by decide +kernel) (AL rfl (by decide +kernel) (AL rfl (by decide +kernel) (AL rfl (by decide +kernel) (AL rfl (by decide +kernel) (g (ps:=[t.txt,u.txt,v.txt]) (by decide +kernel) (by decide +kernel) Sub.refl m ?_)))));show cs ""++(cs t.txt++(cs ", "++(cs u.txt++(cs ", "++(cs v.txt++[])))))=cs (t.txt++", "++(u.txt++", "++v.txt));walk_at "pg"
  ·obtain⟨_,h6⟩:=Qe.mp (h2);obtain⟨h7,I⟩:=Qe.mp (Qe.mp h6).1;have I:=Qh I;refine AL rfl (by decide +kernel) (AL rfl (by decide +kernel) (AL rfl (by decide +kernel) (AL rfl (by decide +kernel) (AL rfl (by decide +kernel) (LR (b:=false) rfl (by decide +kernel) λG2 A=>?_)))));refine HD rfl ?_;have m:=A _ _ m;simp only[AN,gMt,Ai,Ad,Af,Ab,gC,Aa,Ac,Yb,Yc,As.enc];refine⟨Fh m,?_⟩;refine⟨k,⟨rfl,h7,I.2,by lia⟩,Gh m (DN (show 1<=100000 by decide)) ?_⟩
   have hp0:N p2=none:=by
    cases e:N p2 with
    | none=>rfl
    | some u=>rw[Az z _ _ e]at L;cases L
   refine F (ps:=[t.txt,k.txt]) (LQ ?_) ((X.trans A).put hp0) Ap;show cs ""++(cs t.txt++(cs ", "++(cs k.txt++[])))=cs (t.txt++", "++k.txt);walk_at "pg"
  ·rcases hw with rfl | rfl <;>
   ·refine AL rfl (by decide +kernel) (AL rfl (by decide +kernel) (AL rfl (by decide +kernel) (AL rfl (by decide +kernel) (AL rfl (by decide +kernel) (g (ps:=[t.txt]) (by decide +kernel) (by decide +kernel) Sub.refl m ?_)))));show cs ""++(cs t.txt++[])=cs t.txt;simp only[B,Yw,Yx]
  ·rcases hw with rfl | rfl | rfl | rfl <;>
   ·refine AL rfl (by decide +kernel) (AL rfl (by decide +kernel) (AL rfl (by decide +kernel) (AL rfl (by decide +kernel) (AL rfl (by decide +kernel) (g (ps:=[t.txt,u.txt]) (by decide +kernel) (by decide +kernel) Sub.refl m ?_)))));show cs ""++(cs t.txt++(cs ", "++(cs u.txt++[])))=cs (t.txt++", "++u.txt);walk_at "pg"
def sg(c:Nat):Bool:=Dv c||(Cw c||(cs "-(){}[]:,? .>").contains c)
def Rd(s:Sg)(x:Str)(t:Sg):Prop:=s=cs x++t/\∀ c∈cs x,sg c=true
theorem Rd.app{s:Sg}(h:Rd s x t)(h':Rd t y u):Rd s (x++y) u:=by
 refine⟨by rw[h.1,h'.1,Cy,Yv],λc hc=>?_⟩;rw[Cy]at hc;rcases Yz.mp hc with hc | hc
 ·exact h.2 c hc
 ·exact h'.2 c hc
theorem BR{p:Str}{s:Sg}(e:eat p s=some t)(a:(cs p).all sg=true):Rd s p t:=by
 unfold eat at e;split at e
 ·rename_i z;cases e;exact⟨by rw[<- z,List.take_append_drop],List.all_eq_true.mp a⟩
 ·cases e
theorem PU{f:Nat->Bool}:∀{l:List Nat},∀ c∈l.takeWhile f,f c=true
 | x::l,c,h=>by
  rw[List.takeWhile_cons]at h;cases e:f x with
  | false=>rw[e]at h;cases h
  | true =>
   rw[e]at h;walk_at "ph"
   ·exact e
   ·exact PU c h
theorem HE(s:Sg):Rd s (wrd s) (aft s):=⟨List.takeWhile_append_dropWhile.symm,λc hc=>by
 have:Dv c=true:=PU c hc;unfold sg;rw[this];rfl⟩
abbrev Iv(f:Sg->Option (Kd×Sg)):Prop:=∀ s k t,f s=some (k,t)->Rd s k.txt t
theorem bnd{α β:Type}{o:Option α}{f:α->Option β}{y:β}(h:o.bind f=some y):∃ x,o=some x/\f x=some y:=Qa.mp h
theorem mpd{α β:Type}{o:Option α}{f:α->β}{y:β}(h:o.map f=some y):∃ x,o=some x/\f x=y:=YO.mp h
theorem uO{f:Sg->Option (Kd×Sg)}(d:Iv f){s:Sg}(e:pf f s=some (x,t)):Rd s (pc x) t:=by
 unfold pf at e;have hw:=HE s;split at e
 ·rename_i h c;obtain⟨g,b,e⟩:=bnd e;obtain⟨y,a,e⟩:=mpd e;cases e;exact((hw.app (BR c (by decide +kernel))).app (BR b (by decide +kernel))).app (d _ _ _ a)
 ·rename_i c;obtain⟨g,b,e⟩:=bnd e;obtain⟨y,a,e⟩:=mpd e;cases e;exact(hw.app (BR b (by decide +kernel))).app (d _ _ _ a)
theorem ZC:∀ l:List Fd,(ofL l).pcs=l.map pc
 | []=>rfl
 | x::l=>by show _::(ofL l).pcs=_;rw[ZC l];rfl
theorem uP(a x:Str)(h:l≠[]):Str.join a (x::l)=x++a++Str.join a l:=by
 cases l with
 | nil=>exact Qj rfl h
 | cons y l=>rfl
theorem ZD{f:Sg->Option (Kd×Sg)}(g:Iv f):∀(m:Nat)(s:Sg)(a:List Fd)(k:Kd)(t:Sg),pr f m s a=some (k,t)->∃ l o,k=.row (ofL (a++l)) o/\l.map pc++Bn o≠[]/\Rd s (Str.join ", " (l.map pc++Bn o)++"}") t
 | 0,_,_,_,_,e=>by cases e
 | m+1,s,a,k,t,e=>by
  unfold pr at e;split at e
  ·rename_i q n;obtain⟨c,b,e⟩:=mpd e;cases e;exact⟨[],true,by rw[Yx],by decide,(BR n (by decide +kernel)).app (BR b (by decide +kernel))⟩
  ·obtain⟨x,b,e⟩:=bnd e;have i:=uO g b;split at e
   ·rename_i c d;cases e;exact⟨[x.1],false,rfl,by simp,i.app (BR d (by decide +kernel))⟩
   ·obtain⟨c,d,e⟩:=bnd e;obtain⟨l,o,j,p,h⟩:=ZD g m c _ k t e;refine⟨x.1::l,o,by rw[j,Yv];rfl,by simp,?_⟩;have:=(i.app (BR d (by decide +kernel))).app h;rw[Ym,List.cons_append,uP _ _ p];have z:pc x.1++", "++Str.join ", " (l.map pc++Bn o)++"}"=pc x.1++", "++(Str.join ", " (l.map pc++Bn o)++"}"):=Eb (by simp only[Cy,Yv]);rw[z];exact this
theorem ZE:∀ n:Nat,Iv (pk n)
 | 0,_,_,_,e=>by cases e
 | n+1,s,k,t,e=>by
  have d:=ZE n;unfold pk at e;split at e
  ·rename_i i a;obtain⟨x,c,e⟩:=bnd e;obtain⟨j,g,e⟩:=bnd e;obtain⟨y,f,e⟩:=bnd e;obtain⟨q,m,e⟩:=mpd e;cases e;exact((((BR a (by decide +kernel)).app (d _ _ _ c)).app (BR g (by decide +kernel))).app (d _ _ _ f)).app (BR m (by decide +kernel))
  ·split at e
   ·rename_i i a;obtain⟨x,c,e⟩:=bnd e;obtain⟨j,g,e⟩:=mpd e;cases e;exact((BR a (by decide +kernel)).app (d _ _ _ c)).app (BR g (by decide +kernel))
   ·split at e
    ·rename_i i a;split at e
     ·rename_i p c;cases e;exact(BR a (by decide +kernel)).app (BR c (by decide +kernel))
     ·obtain⟨l,o,f,r,h⟩:=ZD d _ _ _ _ _ e;have h1:=(BR a (by decide +kernel)).app h;rw[f];show Rd s ("{"++Txt.join ", " ((ofL ([]++l)).pcs++Bn o)++"}") t;rw[Cb,Yw,ZC];have z:"{"++Str.join ", " (l.map pc++Bn o)++"}"=("{":Str)++(Str.join ", " (l.map pc++Bn o)++"}"):=Eb (by simp only[Cy,Yv]);rw[z];exact h1
    ·have hw:=HE s;split at e
     ·rename_i b;cases e;rw[b]at hw;exact hw
     ·split at e
      ·rename_i b;cases e;rw[b]at hw;exact hw
      ·split at e
       ·rename_i b;cases e;rw[b]at hw;exact hw
       ·cases e
theorem uQ:∀ c:Fin 58,48<=c.val->(Char.ofNat c.val).toNat=c.val:=by decide
theorem uR{d:List Nat}(h:∀ c∈d,Cw c=true)(h1:1<=d.length)(h2:d.head?=some 48->d.length<=1):(Nat.toDigits 10 (NumText.digitsVal d)).map Char.toNat=d:=by
 have hd:NumText.AllDigits d:=λc hc=>(X9 c).mp (h c hc);cases d with
 | nil=>cases h1
 | cons c r =>
  rw[NumText.toDigits_digitsVal r.length (c::r) rfl hd (by
   by_cases e:c=48
   ·have:=h2 (by rw[e];rfl);rw[Yg]at this;exact .inl (by lia)
   ·exact .inr ⟨c,r,rfl,by have:=hd.head;lia⟩),YB]
  have:∀ x∈c::r,(Char.toNat∘Char.ofNat) x=x:=λx a=>by
   have:=hd x a;exact uQ ⟨x,by lia⟩ this.1
  exact(List.map_congr_left this).trans (List.map_id _)
theorem ZF(s:Sg):Rd s ⟨(A3 s).toArray⟩ (afg s):=⟨List.takeWhile_append_dropWhile.symm,λc hc=>by
 have:Cw c=true:=PU c hc;unfold sg;rw[this,Bool.true_or,Bool.or_true]⟩
theorem ZG{a:Bool}{s:Sg}(e:Dz a s=some (i,t)):∃ m:Nat,i=(if a then -(m:Int)else(m:Int))/\(a=true->m≠0)/\(Nat.toDigits 10 m).map Char.toNat=A3 s/\t=afg s:=by
 unfold Dz at e;split at e
 ·cases e
 ·split at e
  ·cases e
  ·rename_i g c;cases e
   have b:=uR (Pw s) (by lia) (λh=>by
    rcases Nat.lt_or_ge 1 (A3 s).length with z | z
    ·exact Qj ⟨h,.inl z⟩ c
    ·exact z)
   refine⟨_,rfl,λd f=>c ?_,b,rfl⟩;rw[f]at b;rw[<- b];exact⟨by decide +kernel,.inr d⟩
theorem uS{s:Sg}(e:Eh s=some (i,t)):Rd s (Str.ofString (toString i)) t:=by
 unfold Eh at e;split at e
 ·rename_i d f;obtain⟨m,h1,h2,a,rfl⟩:=ZG e;have g:=h2 rfl;have b:=(BR f (by decide +kernel)).app (ZF d)
  have c:(Str.ofString (toString i))="-"++⟨(A3 d).toArray⟩:=Eb (by
   obtain⟨n,rfl⟩:∃ n,m=n+1:=⟨m - 1,by lia⟩;rw[h1,Cy,<- a];show(Str.ofString ("-"++Nat.repr (n+1))).cps.toList=_;rw[PyProof.Rows.signs_ofString,String.toList_append,Nat.toList_repr]
   rfl)
  rw[c];exact b
 ·obtain⟨m,h1,h2,a,rfl⟩:=ZG e;have b:=ZF s
  have c:(Str.ofString (toString i))=⟨(A3 s).toArray⟩:=Eb (by
   rw[h1,<- a];exact PySem.W.KIN.signs_num m)
  rw[c];exact b
theorem uT{s:Sg}(e:DZ s=some (b,t)):Rd s (if b then "yes" else "no") t:=by
 have hw:=HE s;unfold DZ at e;split at e
 ·rename_i a;cases e;rw[a]at hw;exact hw
 ·split at e
  ·rename_i a;cases e;rw[a]at hw;exact hw
  ·cases e
abbrev It(f:Sg->Option (Te×Sg)):Prop:=∀ s x t,f s=some (x,t)->Rd s x.txt t/\Fm x
theorem ZH{f:Sg->Option (Te×Sg)}(c:It f){s:Sg}(e:pfd f s=some (x,t)):Rd s (fpc x) t/\Fm x.2:=by
 obtain⟨h,b,e⟩:=bnd e;obtain⟨y,a,e⟩:=mpd e;cases e;obtain⟨g,d⟩:=c _ _ _ a;exact⟨((HE s).app (BR b (by decide +kernel))).app g,d⟩
theorem PV:∀ l:List (Str×Te),(BQ l).tl=l
 | []=>rfl
 | x::l=>by show(x.1,x.2)::(BQ l).tl=_;rw[PV l]
theorem ZI{f:Sg->Option (Te×Sg)}(g:It f):∀(m:Nat)(s:Sg)(a:List (Str×Te))(l:List (Str×Te))(t:Sg),pfl f m s a=some (l,t)->∃ b,l=a++b/\(∀ x∈b,Fm x.2)/\∀(u:Sg)(y:Str),Rd u y s->Rd u (Str.join ", " (y::b.map fpc)) t
 | 0,_,_,_,_,e=>by cases e
 | m+1,s,a,l,t,e=>by
  unfold pfl at e;split at e
  ·rename_i j k;obtain⟨x,i,e⟩:=bnd e;obtain⟨o,n⟩:=ZH g i;obtain⟨b,rfl,h1,h2⟩:=ZI g m _ _ _ _ e;refine⟨x.1::b,by rw[Yv];rfl,λz c=>?_,λu y d=>?_⟩
   ·rcases Yo.mp c with rfl | c
    ·exact n
    ·exact h1 z c
   ·exact(d.app (BR k (by decide +kernel))).app (h2 j _ o)
  ·cases e;exact⟨[],(Yx _).symm,λx h=>(by cases h),λu y d=>d⟩
theorem uU{f:Sg->Option (Te×Sg)}(b:It f){s:Sg}(e:pfs f s=some (l,t)):Rd s (Str.join ", " (l.map fpc)) t/\∀ x∈l,Fm x.2:=by
 unfold pfs at e;split at e
 ·cases e;exact⟨⟨rfl,λc h=>(by cases h)⟩,λx h=>(by cases h)⟩
 ·obtain⟨x,d,e⟩:=bnd e;obtain⟨i,g⟩:=ZH b d;obtain⟨j,rfl,h1,h2⟩:=ZI b _ _ _ _ _ e;refine⟨h2 s _ i,λz a=>?_⟩;rcases Yz.mp a with a | a
  ·rw[YA.mp a];exact g
  ·exact h1 z a
def Ag.fm:Ag->Prop
 | .trm t=>Fm t
 | .fld f=>∀ x∈f.tl,Fm x.2
 | _=>True
theorem uV{f:Sg->Option (Te×Sg)}(i:It f)(b:so∈(["number","truth","kind","fields","term","name"]:List Str)){s:Sg}(e:pth f so s=some (g,t)):Rd s g.txt t/\g.fm/\g.sort=so:=by
 unfold pth at e;split at e
 ·rename_i z;obtain⟨x,a,e⟩:=mpd e;cases e;exact⟨uS a,trivial,z.symm⟩
 split at e
 ·rename_i z;obtain⟨x,a,e⟩:=mpd e;cases e;exact⟨uT a,trivial,z.symm⟩
 split at e
 ·rename_i z;obtain⟨x,a,e⟩:=mpd e;cases e;exact⟨ZE 8 _ _ _ a,trivial,z.symm⟩
 split at e
 ·rename_i z;obtain⟨x,a,e⟩:=mpd e;cases e;obtain⟨d,c⟩:=uU i a;refine⟨?_,λy j=>c y (by rw[PV]at j;exact j),z.symm⟩;show Rd s (Txt.join ", " (BQ x.1).pcs) x.2;rw[Cb,PP,PV];exact d
 split at e
 ·rename_i z;obtain⟨x,a,e⟩:=mpd e;cases e;obtain⟨d,c⟩:=i _ _ _ a;exact⟨d,c,z.symm⟩
 ·rename_i n o m k l;cases e;refine⟨HE s,trivial,?_⟩;simp only[Yo,YX,or_false]at b;rcases b with h | h | h | h | h | h
  ·exact Qj h n
  ·exact Qj h o
  ·exact Qj h m
  ·exact Qj h k
  ·exact Qj h l
  ·exact h.symm
theorem uW(k:Nat)(w:Str):(cs (gap k w)).all sg=true:=by
 unfold gap;split
 ·decide +kernel
 ·split <;> decide +kernel
theorem uX(s:Sg):Rd s "" s:=⟨rfl,λc h=>(by cases h)⟩
theorem ZJ{f:Sg->Option (Te×Sg)}(i:It f)(w:Str):∀(ss:List Str)(k:Nat)(s:Sg)(b l:List Ag)(t:Sg),(∀ so∈ss,so∈(["number","truth","kind","fields","term","name"]:List Str))->pas f w k ss s b=some (l,t)->∃ a,l=b++a/\a.map Ag.sort=ss/\(∀ g∈a,g.fm)/\Rd s (Str.join "" (FH w k a)) t
 | [],_,_,_,_,_,_,e=>by
  cases e;exact⟨[],(Yx _).symm,rfl,λx h=>(by cases h),uX _⟩
 | so::ss,k,s,b,l,t,d,e=>by
  obtain⟨u,n,e⟩:=bnd e;obtain⟨x,j,e⟩:=bnd e;obtain⟨p,q,r⟩:=uV i (d so Ye) j;obtain⟨a,rfl,h1,h2,o⟩:=ZJ i w ss (k+1) _ _ _ _ (λz c=>d z (Yd _ c)) e;refine⟨x.1::a,by rw[Yv];rfl,by rw[Ym,r,h1],λz c=>?_,?_⟩
  ·rcases Yo.mp c with rfl | c
   ·exact q
   ·exact h2 z c
  ·have z:=((BR n (uW k w)).app p).app o
   have m:Str.join "" (FH w k (x.1::a))=gap k w++x.1.txt++Str.join "" (FH w (k+1) a):=Eb (by
    show cs (Str.join "" (gap k w::x.1.txt::FH w (k+1) a))=_;rw[Jt,Cy,Cy,Jt];simp only[Ym,List.flatten_cons,Yv])
   rw[m];exact z
theorem uY:(AF.all λp=>p.2.all λso=>(["number","truth","kind","fields","term","name"]:List Str).contains so)=true:=by decide +kernel
theorem ZK:∀ l:List Ag,(Ei l).gs=l
 | []=>rfl
 | g::l=>by show(g.on (Ei l)).gs=_;rw[Hz,ZK l]
theorem uZ(r:As):(∀ g∈r.gs,g.fm)->∀ c∈r.parts,Fm c :=
 D1 (p:=λr=>(∀ g∈r.gs,g.fm)->∀ c∈r.parts,Fm c) (λ_ c h=>by cases h) (λg r a h c hc=>by
  rw[Hz]at h;have a:=a λx b=>h x (Yd _ b);have d:=h g Ye;cases g with
  | trm t =>
   rcases Yo.mp hc with rfl | hc
   ·exact d
   ·exact a c hc
  | fld f =>
   rcases Yz.mp hc with hc | hc
   ·rw[PR]at hc;obtain⟨x,b,rfl⟩:=YC.mp hc;exact d x b
   ·exact a c hc
  | num i|tru i|nam i=>exact a c hc
  | knd i=>exact a c hc) r
theorem PX:∀ n:Nat,It (pt n)
 | 0,_,_,_,e=>by cases e
 | n+1,s,x,t,e=>by
  have m:=PX n;have e:pt1 (pt n) s=some (x,t):=e;unfold pt1 at e;split at e
  ·cases e
  ·rename_i k hd;obtain⟨p,f,e⟩:=bnd e;obtain⟨y,c,e⟩:=bnd e;obtain⟨o,i,e⟩:=mpd e;cases e;have g:=λso h=>List.contains_iff_mem.mp (List.all_eq_true.mp (List.all_eq_true.mp uY _ (Fv hd)) so h);obtain⟨l,b,h1,h2,j⟩:=ZJ m (wrd s) k 0 _ _ _ _ g c;rw[Yw]at b;rw[b];have a:=ZK l;refine⟨?_,.nd (by rw[Zi,a,h1];exact hd) (uZ _ (by rw[a];exact h2))⟩;have z:=(((HE s).app (BR f (by decide +kernel))).app j).app (BR i (by decide +kernel))
   have d:(Te.nd (wrd s) (Ei l)).txt=wrd s++"("++Str.join "" (FH (wrd s) 0 l)++")":=Eb (by
    show cs (Txt.join "" (wrd s::"("::((Ei l).pcs (wrd s) 0++[(")":Str)])))=_;rw[Cb,ur,a];simp only[Cy,Jt,Ym,Yy,YH,List.flatten_cons,List.flatten_append,List.flatten_nil,Yv,Yx])
   rw[d];exact z
def tok(t:Te):Bool:=decide (t.cnt<=40/\t.dp<=10)&&t.ok
def CI(s:Sg):Option Te:=match pt 10 s with
 | some (t,[])=>if tok t=true then some t else none
 | _=>none
theorem u0{s:Sg}(h:s.length<=90000):RT s (CI s):=by
 unfold RT CI;cases e:pt 10 s with
 | none=>rfl
 | some x =>
  obtain⟨t,s'⟩:=x;cases s' with
  | cons c r=>exact .inl ⟨by simp,rfl⟩
  | nil =>
   obtain⟨b,a⟩:=PX 10 _ _ _ e;have hl:=Qg List.length b.1;rw[Yx,DQ]at hl;exact .inr ⟨rfl,tok t,PN a (by lia),rfl⟩
theorem ZL{s:Sg}(h:CI s=some t):tg t/\s=cs t.txt/\∀ c∈s,sg c=true:=by
 unfold CI at h;split at h
 ·rename_i t' e;split at h
  ·rename_i z;cases h;obtain⟨b,g⟩:=PX 10 _ _ _ e;have a:=b.1;rw[Yx]at a;obtain⟨d,f⟩:=Qe.mp z;exact⟨⟨f,Qh d⟩,a,by rw[a];exact b.2⟩
  ·cases h
 ·cases h
abbrev ZM:List Str:=["state","good","one","far","some","fields","deep","k","way","bad","around","five","six"]
theorem PY:Ay ZM ["state","good"] (Ao Oe):=by walk_at "s"
abbrev yX:=Aa (gC (.int 6)) Ac
def u3(AA:Spw):GS:=(Ae (Ak 2 (Ah (Aa ln yQ))) (Ae (Ak 3 (Ad (Aw) (Ad (AI EZ λi j=>i ^ j.toNat) yj yW) (Ai AA XF (Aa ad (Aa (Ad (AI EZ λi j=>i ^ j.toNat) yj yZ) Ac))))) (Ae (Ak 4 (Aq (Aa (Ah Ac) (Aa (Ah (Aa (gC (.str "nom")) yQ)) (Aa yt (Aa (Ah (Aa ln yk)) (Aa (Ah (Aa ln (Aa (Ad (AI (λ_ _=>True) λi j=>i - j) u8 ya) Ac))) (Aa (Ah (Aa ln wT)) (Aa (Ah (Aa ln (Aa (gC (.str "1")) Ac))) (Aa (Ah (Aa x2 yQ)) Ac)))))))))) (Ae (Ak 4 (Ad (Aw) ye (Aq (Aa (Ah (Aa yh (Aa (gC (.str "")) Ac))) (Aa (Ah (Aa yh (Aa (gC (.str "X")) Ac))) (Aa (Ah (Aa yh (Aa (gC (.str "abcdefghi")) Ac))) (Aa (Ah (Aa yh yQ)) (Aa (Ah (Aa x2 (Aa (gC (.str "yes")) Ac))) (Aa (Ah (Aa (gC (.str "call")) kw)) Ac))))))))) (Ae (Ak 4 (Ad (Aw) ye (Aq (Aa (Ah (Aa yd (Aa yE (Aa (Ah (Aa (gC (.str "nun")) Ac)) kw)))) (Aa (Ah (Aa yd (Aa yE (Aa r6 kw)))) (Aa (Ah (Aa yd (Aa (gC (.str "X")) (Aa yt kw)))) (Aa (Ah (Aa yf Ac)) Ac))))))) (Ae (Ak 4 (Ad (Aw) ye (Aq (Aa (Ah (Aa yf (Aa (Ah (Aa (Ah (Aa yD kw)) (Aa (Ah (Aa x8 kw)) Ac))) Ac))) (Aa (Ah (Aa yf (Aa (Ah (Aa (Ah (Aa x8 kw)) (Aa (Ah (Aa x8 kw)) Ac))) Ac))) (Aa (Ah (Aa yf (Aa (Ah (Aa (Ah (Aa x8 Ac)) Ac)) Ac))) Ac)))))) (Ae (Ak 4 (Ad (Aw) ye (Aq (Aa (Ah (Aa yf (Aa (Ah (Aa (Ah (Aa (gC (.str "A")) kw)) Ac)) Ac))) (Aa (Ah (Aa yV kw)) (Aa (Ah (Aa yV (Aa r6 (Aa (gC (.str "A")) Ac)))) (Aa (Ah (Aa (gC (.str "or")) (Aa r6 (Aa x8 Ac)))) (Aa (Ah (Aa yz (Aa r6 kw))) Ac)))))))) (Ae (Ak 4 (Ad (Aw) ye (Aq (Aa (Ah (Aa yn kw)) (Aa (Ah (Aa (gC (.str "less")) (Aa r6 (Aa r6 kw)))) (Aa (Ah (Aa yr Ac)) (Aa (Ah (Aa yP yQ)) (Aa (Ah (Aa yc (Aa r6 kw))) (Aa (Ah (Aa yc kw)) Ac))))))))) (Ae (Ak 5 (gB (rF Cq) (Aa (Bg (Cd (Aa yW Ac)) 1 (gNm 0) Bh (Ah (Aa (Ad (Aw) x8 (Ad (Af ixW) (gC (.str "abcdefghijklmnopqrst")) ad)) (Aa yq (Aa (Ah (Aa x4 (Aa yt Ac))) Ac))))) Ac))) (Ae (Ak 6 yt) (Ae (Bz (Cd (Aa yG Ac)) (gNm 7) (Ak 6 (Ah (Aa x4 yL)))) (Ae (Ak 4 (Ad (Aw) ye (Aq (Aa (Ah (Aa yd (Aa yE (Aa (Ah (Aa r4 (Aa yJ wT))) kw)))) (Aa (Ah (Aa yc (Aa r6 (Aa (Ah (Aa r4 (Aa yJ yY))) Ac)))) Ac))))) (Ae (Ak 4 (Ad (Aw) ye (Aq (Aa (Ah (Aa yd (Aa yE (Aa (Ab 6) kw)))) (Aa (Ah (Aa yc (Aa r6 yL))) Ac))))) (Ae (Ak 8 (Ai AA XF (Aa ad yX))) (Ae (gIf (gTB (Ad (Af (eqF false)) (Ab 8) u8)) (Ae (Ak 9 r6) (Ae (Bz (Cd (Aa (Ad (Aw) yj (Ai AA XF x9)) Ac)) (gNm 7) (Ak 9 (Ad (Af ixW) (Aq (Aa (Ah (Aa yr yp)) (Aa (Ah (Aa yP yp)) (Aa (Ah (Aa yc (Aa (Ab 9) yu))) Ac)))) (Ad (AI (λ_ j=>0 < j) λi j=>i % j) (Ab 7) yw)))) (Aj (Ab 9)))) Au) (Ae (gIf (gTB (Ad (Af (eqF false)) (Ab 8) dl)) (Ae (Ak 11 (Ah (Aa yz (Aa (Ah (Aa x2 wT)) (Aa (Ah (Aa yn (Aa r6 kw))) kw))))) (Ae (Ak 12 (Ah (Aa yz (Aa (Ab 11) (Aa (Ab 11) (Aa (Ab 11) Ac)))))) (Aj (Ah (Aa (gC (.str "write")) (Aa (Ab 12) (Aa (Ah (Aa yn (Aa (Ab 12) (Aa (Ah (Aa ln (Aa (gC (.int 2)) Ac))) Ac)))) Ac))))))) Au) (Ae (Ak 9 (Ad (Af ixW) ye (Ai AA XF (Aa ad (Aa (gB (rF AM) yI) Ac))))) (Ae (Ak 10 (Aq (Aa (Ab 9) (Aa (Ah (Aa yr yp)) (Aa (Ah (Aa yn (Aa na yp))) (Aa (Ah (Aa yf (Aa (Ah (Aa (Ah (Aa x8 yp)) Ac)) Ac))) (Aa (Ah (Aa yz (Aa (Ab 9) (Aa r6 kw)))) Ac))))))) (Aj (Ad (Af ixW) (Ad (Aw) (Ab 10) (Aq (Aa (Ah (Aa (gC (.str "call")) (Aa (Ah (Aa yd (Aa yE (Aa (Ah wp) yp)))) kw))) Ac))) (Ai AA XF (Aa ad yX))))))))))))))))))))))
theorem u4(T:Tx K mg base a){AU:Nat}(Ee:Df P w K mg base "_law_choice" AU 2 AA)(Ef:AU<=k):Dn P w K mg base ZM "_law_bad_term" Oe k (u3 AA):=λ{f cdv A outer s H E}hr=>
 have hu:=AQ hr
 have hN:=PY.nd
 (Av (by walk_at "v") (Av (by walk_at "v") (Av (by walk_at "v") (Av (by walk_at "v") (Av (by walk_at "v") (Av (by walk_at "v") (Av (by walk_at "v") (Av (by walk_at "v") (Av (Bt (i:=5) PY.nd rfl rfl rfl (GX M6 (RU) rfl T.On (by decide) rfl rfl rfl (AO rfl (Cs (Nc:=["k"]) rfl (Ci rfl (by decide +kernel) (by decide +kernel)) (λ_=>rfl) (by walk_at "v") (C3 (i:=0) (by decide) rfl rfl) (λC fp s1 H1=>B1) (λC fp s1 H1=>(by walk_at "v"))) A8))) (by walk_at "v"))))))))))
abbrev nW1:W:=.tup [.str "num",.int 1]
abbrev t1:Te:=.nd "num" (.num 1 .nil)
def Bd(x:W):Prop:=∃ t:Te,x=t.enc/\OkR t/\HC t/\t.cnt<=2
theorem LS(h:TFm x false):Bd x:=⟨.raw x,rfl,.raw h,.raw x,(show 1<=2 by decide)⟩
theorem Ek{w:Str}(h:KTD.datumAt w AF=some ss)(hl:Nat.beq xs.length ss.length=false)(h2:Nat.ble xs.length 10=true):Bd (.tup (.str w::xs)):=
 LS (.inl ⟨w,xs,rfl,⟨ss,h,.inl ⟨(λe=>by rw[e,Nat.beq_refl]at hl;cases hl),rfl⟩⟩,Nat.le_of_ble_eq_true h2⟩)
theorem BH{w:Str}(l:List (W×Str×Bool))(h:KTD.datumAt w AF=some (l.map (·.2.1)))(b:∀ x∈l,Os x.1 x.2.1 x.2.2)(a:l.all (·.2.2)=false)(hl:Nat.ble l.length 10=true):Bd (.tup (.str w::l.map (·.1))):=
 LS (.inl ⟨w,_,rfl,⟨_,h,.inr ⟨l,rfl,rfl,b,a.symm⟩⟩,by rw[Yh];exact Nat.le_of_ble_eq_true hl⟩)
theorem BI{x:W×Str×Bool}(h:Os x.1 x.2.1 x.2.2):∀ z∈[x],Os z.1 z.2.1 z.2.2:=λz a=>by rw[YA.mp a];exact h
theorem CY{x:W×Str×Bool}(h:Os x.1 x.2.1 x.2.2)(h2:∀ z∈l,Os z.1 z.2.1 z.2.2):∀ z∈x::l,Os z.1 z.2.1 z.2.2:=λz a=>by
 rcases Yo.mp a with rfl | a
 ·exact h
 ·exact h2 z a
theorem HF(h:Nat.ble x.length 100=true)(e:Ax x=b):Os (.str x) "name" b:=by
 have:=Os.nam x (Yt (Nat.le_of_ble_eq_true h) (by decide));rw[e]at this;exact this
theorem LU(c:k.ok=true)(hc:Nat.ble k.wt 1000=true)(a:BG k=b):Os k.enc "kind" b:=.knd (.inl ⟨k,rfl,Yt (Nat.le_of_ble_eq_true hc) (by decide),by rw[c,Bool.and_true,a]⟩)
theorem PZ(h:∀ y∈l,y.1.length<=100)(hl:Nat.ble l.length 1000=true)(e:(l.all (λy=>Ax y.1)&&Bp (l.map (·.1)))=b):Os (.tup (Gk l)) "fields" b:=.fld (.inl ⟨l,rfl,λy a=>Yt (h y a) (by decide),Yt (Nat.le_of_ble_eq_true hl) (by decide),e.symm⟩)
def LBd(s:Addr)(G:Hw)(p:Addr)(k:Nat):Prop:=p≠s/\∃ xs:List W,G p=some (.lst xs)/\xs.length=k/\∀ x∈xs,Bd x
theorem u5{An:GS}(d:St false s G)(c:∀ Z:List W->Hw->Prop,Z xs G->gs ω G Z)(hl:xs.length<=100)(f:∀ x∈xs,Bd x)(z:∀ p a,Hs false s G a->LBd s a p xs.length->An D (ω.set i (some (.ref p))) a):Ae (Ak i (Aq gs)) An D ω G :=
 Je d c hl λp a h b e=>z p a h ⟨b,xs,e,rfl,f⟩
theorem Gw{An:GS}(l:Hs false s g G)(hi:ω[i]?=some (some (.ref p)))(f:LBd s G p k)(j:∀ Z:List W->Hw->Prop,Z ys G->gs ω G Z)(hl:k+ys.length<=100)(n:∀ x∈ys,Bd x)(z:∀ d b,Hs false s g b->LBd s b d (k+ys.length)->An D (ω.set i (some (.ref d))) b):Ae (Ak i (Ad Aw (Ab i) (Aq gs))) An D ω G:=by
 obtain⟨m,xs,f,rfl,o⟩:=f;refine Gm l hi f j hl λd b h c e=>z d b h ⟨c,_,e,Yj,λx a=>?_⟩;rcases Yz.mp a with a | a
 ·exact o x a
 ·exact n x a
def P0(i:Nat):Str:=("a":Str)++⟨#[("abcdefghijklmnopqrst":Str).cps.toList.getD i 0]⟩
def mkF(e:Fs):List Str->Fs
 | []=>e
 | x::l=>.cons x false (.box .num) (mkF e l)
abbrev fdW(x:Str):W:=.tup [.str x,.str "may",.tup [.str "box",.tup [.str "num"]]]
abbrev nms(n:Nat):List Str:=(List.range n).map P0
abbrev k20(b:Bool):Kd:=.row (mkF .nil (nms 20)) b
theorem ZN:∀ b,(k20 b).ok=true/\BG (k20 b)=false/\Nat.ble (k20 b).wt 1000=true:=by decide +kernel
abbrev k9:Kd:=.box (.box (.box (.box (.box (.box (.box (.box .num)))))))
theorem u6(a:z.length<=sizeLine)(j:n<=20)(d:∀ i,i < n->z.cps.toList[i]?=some (("abcdefghijklmnopqrst":Str).cps.toList.getD i 0))(q:∀ p,G p=none->Q (.ref p) (put G p (.lst ((nms n).map fdW)))):Bg (Cd (Aa (gC (.int (n:Nat))) Ac)) 1 (gNm 0) Bh (Ah (Aa (Ad (Aw) x8 (Ad (Af ixW) (gC (.str z)) ad)) (Aa yq (Aa (Ah (Aa x4 (Aa yt Ac))) Ac)))) ω G Q:=by
 have b:(2:Int) ^ 62=4611686018427387904:=by decide
 refine⟨by lia,by lia,K6 (f:=λi=>fdW (P0 i)) trivial (List.range n) none [] (λi hi h c=>?_) (by rw[List.length_range];exact Bo (by simp only[Yi];lia)) λp g=>?_⟩
 ·have hi:=List.mem_range.mp hi;simp only[Ah,Ad,Af,Ab,Aa,gC,Yb]
  have e:ixW (.str z) (.int (i:Int)) G=some (.str ⟨#[("abcdefghijklmnopqrst":Str).cps.toList.getD i 0]⟩):=by
   unfold ixW;dsimp only;rw[if_pos a,L2.CK (d i hi)];rfl
  rw[e];exact⟨sz rfl,sz rfl,sz rfl,sz rfl,c⟩
 ·rw[show(List.range n).map (λi=>fdW (P0 i))=(nms n).map fdW by rw[YB];rfl];exact q p g
abbrev omb(s:Addr)(t:Te)(far:Int)(o4 o5 o6 o7 o8 o9 o10 o11 o12:Option W):Sw:=[some (.ref s),some t.enc,some nW1,some (.int far),o4,o5,o6,o7,o8,o9,o10,o11,o12]
def ZO:Nat->Kd->Kd
 | 0,k=>k
 | n+1,k=>ZO n (.box k)
theorem ZP{a d:Option W}:∀(l:List W)(k:Kd)(e:Option W),(∀ f,D.nx (omb s t b m i (some (ZO l.length k).enc) f g j a d c) G)->BD yes (gNm 7) (Ak 6 (Ah (Aa x4 yL))) D l (omb s t b m i (some k.enc) e g j a d c) G
 | [],k,e,h=>⟨trivial,h e⟩
 | x::l,k,e,h=>⟨trivial,sz rfl,ZP l (.box k) (some x) h⟩
theorem ZQ{f d:Option W}:∀(l:List Nat)(t:Te)(m:Nat)(q:Option W)(G:Hw),Hs false s y G->t.ok=true->t.dp=m->t.cnt=m->(∀(t':Te)(c:Option W)(n:Hw),Hs false s y n->t'.ok=true->t'.dp=m+l.length->t'.cnt=m+l.length->D.nx (omb s A g E v z c u (some t'.enc) f k d) n)->
  BD yes (gNm 7) (Ak 9 (Ad (Af ixW) (Aq (Aa (Ah (Aa yr yp)) (Aa (Ah (Aa yP yp)) (Aa (Ah (Aa yc (Aa (Ab 9) yu))) Ac)))) (Ad (AI (λ_ j=>0 < j) λi j=>i % j) (Ab 7) yw))) D (l.map λi:Nat=>W.int i) (omb s A g E v z q u (some t.enc) f k d) G
 | [],t,m,q,G,h,h1,h2,B,b=>⟨trivial,b t q G h h1 h2 B⟩
 | i::l,t,m,q,G,h,h1,h2,B,b=>by
  refine⟨trivial,⟨sz rfl,sz rfl,sz rfl,sz rfl,sz rfl,λp I=>⟨(show(0:Int) < 3 by decide),?_⟩⟩⟩;have K:=h.put (o:=.lst [.tup [.str "new",t.enc],.tup [.str "read",t.enc],.tup [.str "as",t.enc,.tup [.str "any"]]]) I;obtain⟨x,a,e⟩:=KZ.Ct (G:=put G p (.lst [.tup [.str "new",t.enc],.tup [.str "read",t.enc],.tup [.str "as",t.enc,.tup [.str "any"]]])) (r:=(i:Int) % 3) Ap (by lia) (by show(i:Int) % 3 < 3;lia);show opt (ixW (.ref p) (.int ((i:Int) % 3)) _) _;rw[e];have one:∀{w:Str},KTD.datumAt w AF=some [("term":Str)]->(Te.nd w (.trm t .nil)).ok=true/\(Te.nd w (.trm t .nil)).dp=m+1/\(Te.nd w (.trm t .nil)).cnt=m+1:=λhw=>⟨Da hw (by show(t.ok&&true)=true;rw[h1];rfl),by show 1+max t.dp 0=m+1;lia,by show 1+(t.cnt+0)=m+1;lia⟩
  obtain⟨t',ex,g1,g2,g3⟩:∃ t':Te,x=t'.enc/\t'.ok=true/\t'.dp=m+1/\t'.cnt=m+1:=by
   simp only[Yo,YX,or_false]at a;rcases a with a | a | a
   ·exact⟨.nd "new" (.trm t .nil),a,one (by decide +kernel)⟩
   ·exact⟨.nd "read" (.trm t .nil),a,one (by decide +kernel)⟩
   ·exact⟨.nd "as" (.trm t (.knd .any .nil)),a,Da (show KTD.datumAt ("as":Str) AF=some [("term":Str),"kind"] by decide +kernel) (by show(t.ok&&((Kd.ok .any&&BG .any)&&true))=true;rw[h1];rfl),by show 1+max t.dp 0=m+1;lia,by show 1+(t.cnt+0)=m+1;lia⟩
  subst ex;exact ZQ l t' (m+1) (some (.int i)) _ K g1 g2 g3 λF c n J H N L=>b F c n J H (by rw[Yg];lia) (by rw[Yg];lia)
theorem AD{α:Type}{P:α->Prop}{x:α}{l:List α}(h:P x)(h2:∀ y∈l,P y):∀ y∈x::l,P y:=λy a=>by
 rcases Yo.mp a with rfl | a
 ·exact h
 ·exact h2 y a
theorem By{α:Type}{P:α->Prop}:∀ y∈([]:List α),P y:=λy a=>by cases a
theorem P1:OkR t1:=PM (Jr 1 t1 (by decide) (by decide +kernel)) (by decide)
def LV(x:W):Prop:=∃ t:Te,x=t.enc/\t.cnt<=1000/\((t.ok=true/\t.cnt<=50/\¬ (t.cnt<=40/\t.dp<=10))\/(OkR t/\HC t))
theorem u7(h:LV x):TB x false:=by
 obtain⟨t,rfl,hc,⟨a,c,b⟩|⟨h1,h2⟩⟩:=h
 ·have hl:=FI a;have:=PN (Jr t.dp t (Yr _) a) (by lia);rw[Qi b]at this;exact this
 ·have:=Zn h1 (by lia);rw[uz h2,Bool.and_false]at this;exact this
abbrev P3:Int:=100000000000000000000
theorem ZR(h:P3<=i\/i<=-P3):Os (.int i) "number" false:=.num (.inl ⟨i,rfl,by
 have h':(100000000000000000000:Int)<=i\/i<=-(100000000000000000000:Int):=h;rw[Qi];intro z;have a:(-99999999999999999999:Int)<=i:=z.1;have b:i<=(99999999999999999999:Int):=z.2
 lia⟩)
abbrev u9:Spw:=EU false (λ(t:Te)s ws _=>ws=[.ref s,t.enc]/\tg t) λ_ _ r _=>LV r
abbrev Ju:Te:=.nd "if" (.trm (.nd "truth" (.tru true .nil)) (.trm (.nd "plus" (.trm t1 (.trm t1 .nil))) (.trm t1 .nil)))
abbrev six:Te:=.nd "if" (.trm Ju (.trm Ju (.trm Ju .nil)))
abbrev wa:Te:=.nd "write" (.trm six (.trm (.nd "plus" (.trm six (.trm (.nd "num" (.num 2 .nil)) .nil))) .nil))
theorem wb{An:GS}(a:∀ Z:List W->Hw->Prop,Z [.int (n:Nat)] G->gs ω G Z)(c:n<=1000)(h:BD yes (gNm i) gb {D with nx:=An D} ((List.range n).map λi:Nat=>W.int i) ω G):Ae (Bz (Cd gs) (gNm i) gb) An D ω G:=by
 refine a _ ?_;have b:(2:Int) ^ 62=4611686018427387904:=by decide
 exact⟨by lia,by lia,h⟩
theorem ZS{a An:GS}(h:ω[i]?=some (some (.int x)))(h1:a {D with nx:=An D} ω G)(h2:An D ω G):Ae (gIf (gTB (Ad (Af (eqF false)) (Ab i) (gC (.int j)))) a Au) An D ω G:=by
 simp only[Ae,gIf,gTB,Ad,Ab,h];exact BC (λ_=>h1) (λ_=>h2)
theorem LW(T:Tx K mg base a):Df P w K mg base "_law_bad_term" 2 2 u9:=by
 refine mk0 T.mq rfl PY DV (λws G Q E⟨_,s,⟨e,_⟩,_⟩=>by rw[e];rfl) (u4 T (AU T) (Yr _)) λws G Q E hC q=>?_;obtain⟨t,s,⟨rfl,ht⟩,hs,q⟩:=q;show Ae (Ak 2 _) _ (AC Q) [some (.ref s),some t.enc,none,none,none,none,none,none,none,none,none,none,none] G;refine AK ⟨sz rfl,?_⟩;refine AK ?_;simp only[Ad,Ai,Aa,Ac,Ab,gC,Yk,Yl,Yb,Yc];refine⟨⟨by decide,by decide,by decide⟩,⟨by decide,by decide,by decide⟩,?_⟩;refine BB (by decide) (by decide) hs λr G1 r0 _ h1=>?_;rw[Fi]
 have hfar:P3<=(10:Int) ^ (20:Int).toNat+r:=by
  have e:(10:Int) ^ (20:Int).toNat=100000000000000000000:=by decide
  show(100000000000000000000:Int)<=_;lia
 generalize(10:Int) ^ (20:Int).toNat+r=far at hfar ⊢;have tr:Os nW1 "term" true:=.trm _;have nx:Os (.str "x") "name" true:=HF rfl (by decide +kernel);refine u5 (xs:=[.tup [],.tup [.str "nom",.int 1],.tup [.str "num"],.tup [.str "num",.int far],.tup [.str "num",.int (0 - far)],.tup [.str "num",.bl true],.tup [.str "num",.str "1"],.tup [.str "truth",.int 1]]) h1.1 (λZ z=>?_) (show 8<=100 by decide) ?_ λp G2 h2 l2=>?_
 ·exact⟨sz rfl,sz rfl,sz rfl,sz rfl,trivial,sz rfl,sz rfl,sz rfl,sz rfl,z⟩
 ·have num:KTD.datumAt ("num":Str) AF=some [("number":Str)]:=by decide +kernel
  refine AD (LS (.inr ⟨.inl rfl,rfl⟩)) (AD (LS (.inr ⟨.inr (.inr rfl),rfl⟩)) (AD (Ek num rfl rfl) (AD (BH [(.int far,"number",false)] num (BI (ZR (.inl hfar))) rfl rfl) (AD (BH [(.int (0 - far),"number",false)] num (BI (ZR (.inr (by lia)))) rfl rfl) (AD (BH [(.bl true,"number",false)] num (BI (.num (.inr (.inl ⟨true,rfl,rfl⟩)))) rfl rfl) (AD (BH [(.str "1","number",false)] num (BI (.num (.inr (.inr ⟨"1",rfl,rfl⟩)))) rfl rfl) (AD (BH [(.int 1,"truth",false)] (by decide +kernel) (BI (.truB 1)) rfl rfl) By)))))))
 have h2:=h1.trans h2;have name:KTD.datumAt ("name":Str) AF=some [("name":Str)]:=by decide +kernel
 refine Gw (ys:=[.tup [.str "name",.str ""],.tup [.str "name",.str "X"],.tup [.str "name",.str "abcdefghi"],.tup [.str "name",.int 1],.tup [.str "truth",.str "yes"],.tup [.str "call",nW1]]) h2 rfl l2 (λZ z=>by walk_at "cl") (show 8+6<=100 by decide) ?_ λp G2 h2 l2=>?_
 ·exact AD (BH [(.str "","name",false)] name (BI (HF rfl (by decide +kernel))) rfl rfl) (AD (BH [(.str "X","name",false)] name (BI (HF rfl (by decide +kernel))) rfl rfl) (AD (BH [(.str "abcdefghi","name",false)] name (BI (HF rfl (by decide +kernel))) rfl rfl) (AD (BH [(.int 1,"name",false)] name (BI (.namI 1)) rfl rfl) (AD (BH [(.str "yes","truth",false)] (by decide +kernel) (BI (.truS "yes")) rfl rfl) (AD (Ek (ss:=["term","term"]) (by decide +kernel) rfl rfl) By)))))
 have fun':KTD.datumAt ("fun":Str) AF=some [("name":Str),"kind","term"]:=by decide +kernel
 have kno:Os nW1 "kind" false:=.knd (.inr ⟨.inr rfl,rfl⟩);refine Gw (ys:=[.tup [.str "fun",.str "x",.tup [.str "nun"],nW1],.tup [.str "fun",.str "x",nW1,nW1],.tup [.str "fun",.str "X",.tup [.str "num"],nW1],.tup [.str "rec"]]) h2 rfl l2 (λZ z=>by walk_at "cl") (show 14+4<=100 by decide) ?_ λp G2 h2 l2=>?_
 ·exact AD (BH [(.str "x","name",true),(.tup [.str "nun"],"kind",false),(nW1,"term",true)] fun' (CY nx (CY (.knd (.inr ⟨.inl rfl,rfl⟩)) (BI tr))) rfl rfl) (AD (BH [(.str "x","name",true),(nW1,"kind",false),(nW1,"term",true)] fun' (CY nx (CY kno (BI tr))) rfl rfl) (AD (BH [(.str "X","name",false),(.tup [.str "num"],"kind",true),(nW1,"term",true)] fun' (CY (HF rfl (by decide +kernel)) (CY (LU (k:=.num) rfl rfl rfl) (BI tr))) rfl rfl) (AD (Ek (ss:=["fields"]) (by decide +kernel) rfl rfl) By)))
 have rec':KTD.datumAt ("rec":Str) AF=some [("fields":Str)]:=by decide +kernel
 have l100:∀{x y:Str},x.length<=100->y.length<=100->∀ z∈[(x,nW1),(y,nW1)],z.1.length<=100:=λh h'=>AD h (AD h' By);refine Gw (ys:=[.tup [.str "rec",.tup [.tup [.str "b",nW1],.tup [.str "a",nW1]]],.tup [.str "rec",.tup [.tup [.str "a",nW1],.tup [.str "a",nW1]]],.tup [.str "rec",.tup [.tup [.str "a"]]]]) h2 rfl l2 (λZ z=>by walk_at "cl") (show 18+3<=100 by decide) ?_ λp G2 h2 l2=>?_
 ·exact AD (BH [(.tup (Gk [("b",nW1),("a",nW1)]),"fields",false)] rec' (BI (PZ (l100 (by decide) (by decide)) rfl (by decide +kernel))) rfl rfl) (AD (BH [(.tup (Gk [("a",nW1),("a",nW1)]),"fields",false)] rec' (BI (PZ (l100 (by decide) (by decide)) rfl (by decide +kernel))) rfl rfl) (AD (BH [(.tup [.tup [.str "a"]],"fields",false)] rec' (BI (.fld (.inr ⟨rfl,rfl⟩))) rfl rfl) By))
 refine Gw (ys:=[.tup [.str "rec",.tup [.tup [.str "A",nW1]]],.tup [.str "get",nW1],.tup [.str "get",nW1,.str "A"],.tup [.str "or",nW1,.str "a"],.tup [.str "if",nW1,nW1]]) h2 rfl l2 (λZ z=>by walk_at "cl") (show 21+5<=100 by decide) ?_ λp G2 h2 l2=>?_
 ·exact AD (BH [(.tup (Gk [("A",nW1)]),"fields",false)] rec' (BI (PZ (AD (by decide) By) rfl (by decide +kernel))) rfl rfl) (AD (Ek (ss:=["term","name"]) (by decide +kernel) rfl rfl) (AD (BH [(nW1,"term",true),(.str "A","name",false)] (by decide +kernel) (CY tr (BI (HF rfl (by decide +kernel)))) rfl rfl) (AD (Ek (ss:=["term","name","term"]) (by decide +kernel) rfl rfl) (AD (Ek (ss:=["term","term","term"]) (by decide +kernel) rfl rfl) By))))
 refine Gw (ys:=[.tup [.str "plus",nW1],.tup [.str "less",nW1,nW1,nW1],.tup [.str "new"],.tup [.str "read",.int 1],.tup [.str "as",nW1,nW1],.tup [.str "as",nW1]]) h2 rfl l2 (λZ z=>by walk_at "cl") (show 26+6<=100 by decide) ?_ λp G2 h2 l2=>?_
 ·have rd:Bd (.tup [.str "read",.int 1]):=⟨.nd "read" (.trm (.raw (.int 1)) .nil),rfl,Js (by decide +kernel) (AD trivial By) (AD (.raw (.inr ⟨.inr (.inl rfl),rfl⟩)) By),.part Ye (.raw _),(by decide)⟩;exact AD (Ek (ss:=["term","term"]) (by decide +kernel) rfl rfl) (AD (Ek (ss:=["term","term"]) (by decide +kernel) rfl rfl) (AD (Ek (ss:=["term"]) (by decide +kernel) rfl rfl) (AD rd (AD (BH [(nW1,"term",true),(nW1,"kind",false)] (by decide +kernel) (CY tr (BI kno)) rfl rfl) (AD (Ek (ss:=["term","kind"]) (by decide +kernel) rfl rfl) By)))))
 refine AK ?_;simp only[gB,rF,Aa,Ac];refine u6 (by decide) (by decide) (by decide +kernel) λp5 hp5=>?_;rw[Hq Ap,AB]
 have l2:LBd s (put G2 p5 (.lst ((nms 20).map fdW))) p 32:=by
  obtain⟨a1,xs,a2,a3⟩:=l2;exact⟨a1,xs,Az hp5 _ _ a2,a3⟩
 have h2:=h2.put (o:=.lst ((nms 20).map fdW)) hp5;refine AK ⟨sz rfl,?_⟩;refine wb (λZ z=>z) (by decide) ?_;refine ZP _ .num _ λo7=>?_;dsimp only;obtain⟨ko,kg,kc⟩:=ZN true;obtain⟨ko',kg',kc'⟩:=ZN false;have as':KTD.datumAt ("as":Str) AF=some [("term":Str),"kind"]:=by decide +kernel
 have o20:Os (.tup [.str "row",.tup ((nms 20).map fdW),.bl true]) "kind" false:=by have:=LU ko kc kg;exact this
 have o20':Os (.tup [.str "row",.tup ((nms 20).map fdW),.bl false]) "kind" false:=by have:=LU ko' kc' kg';exact this
 have o9:Os k9.enc "kind" false:=LU rfl rfl rfl;refine Gw (ys:=[.tup [.str "fun",.str "x",.tup [.str "row",.tup ((nms 20).map fdW),.bl true],nW1],.tup [.str "as",nW1,.tup [.str "row",.tup ((nms 20).map fdW),.bl false]]]) h2 rfl l2 (λZ z=>by walk_at "cl") (by decide) ?_ λp G2 h2 l2=>?_
 ·exact AD (BH [(.str "x","name",true),(.tup [.str "row",.tup ((nms 20).map fdW),.bl true],"kind",false),(nW1,"term",true)] fun' (CY nx (CY o20 (BI tr))) rfl rfl) (AD (BH [(nW1,"term",true),(.tup [.str "row",.tup ((nms 20).map fdW),.bl false],"kind",false)] as' (CY tr (BI o20')) rfl rfl) By)
 refine Gw (ys:=[.tup [.str "fun",.str "x",k9.enc,nW1],.tup [.str "as",nW1,k9.enc]]) h2 rfl l2 (λZ z=>by walk_at "cl") (by decide) ?_ λp G2 h2 l2=>?_
 ·exact AD (BH [(.str "x","name",true),(k9.enc,"kind",false),(nW1,"term",true)] fun' (CY nx (CY o9 (BI tr))) rfl rfl) (AD (BH [(nW1,"term",true),(k9.enc,"kind",false)] as' (CY tr (BI o9)) rfl rfl) By)
 refine AK ?_;walk_at "pf";refine BB (by decide) (by decide) h2.1 λway G3 _ _ h3=>?_
 have l3:LBd s G3 p 36:=by
  obtain⟨a1,xs,a2,a3⟩:=l2;exact⟨a1,xs,h3.2 _ a1 _ a2,a3⟩
 have h3:=h2.trans h3;refine ZS rfl ?_ ?_
 ·refine AK ?_;simp only[Ab,Yk,Yl,Yb,Yc];refine DX (λr=>∀(D:Ew)(t':Te)o7 G',D.rt=Q->Hs false s G G'->t'.ok=true->11<=t'.dp->t'.cnt<=50->r D (omb s t far (some (.ref p)) (some (.tup ((nms 20).map fdW))) (some k9.enc) o7 (some (.int way)) (some t'.enc) none none none) G') (λD t' o7 G4 hD h4 g1 g2 g3=>?_) λAn tail=>?_
  ·simp only[Aj,Ab,Yb,Yc,hD];exact q _ _ ⟨t',rfl,by lia,.inl ⟨g1,by lia,λz=>by lia⟩⟩ h4
  ·simp only[Ae,Bz,Cd,Ad,Ai,Aa,Ac,Ab,gC,Yb,Yc];refine BB (by decide) (by decide) h3.1 λr G4 r0 r1 h4=>?_;have h4:=h3.trans h4;have e62:(2:Int) ^ 62=4611686018427387904:=by decide
   refine⟨by lia,by lia,?_⟩;refine ZQ _ t1 1 _ G4 h4 (by decide +kernel) rfl rfl λt' o7' G' a1 a2 a3 a4=>tail _ t' o7' G' rfl a1 a2 ?_ ?_
   ·rw[a3,List.length_range];lia
   ·rw[a4,List.length_range];lia
 refine ZS rfl ?_ ?_
 ·refine AK ?_;refine⟨sz rfl,sz rfl,sz rfl,?_⟩;refine AK ?_;refine⟨sz rfl,sz rfl,sz rfl,sz rfl,?_⟩;exact q _ _ ⟨wa,rfl,by decide,.inl ⟨by decide +kernel,by decide,by decide⟩⟩ h3
 refine AK ?_;simp only[Ad,Ai,gB,rF,Aa,Ac,Ab,gC,Yk,Yl,Yb,Yc];obtain⟨n3,xs,f3,x3,hx3⟩:=l3;rw[Hx f3,AB,x3];refine BB (by decide) (by decide) h3.1 λr G4 r0 r1 h4=>?_;obtain⟨x,hx,e⟩:=KZ.Ct (h4.2 _ n3 _ f3) r0 (by rw[x3];exact r1);have h4:=h3.trans h4;show opt (ixW (.ref p) (.int r) G4) _;rw[e,AB];obtain⟨b,rfl,b1,b2,b3⟩:=hx3 x hx;refine AK ?_;refine⟨sz rfl,sz rfl,sz rfl,sz rfl,sz rfl,sz rfl,sz rfl,λp5 hp5=>?_⟩;have h5:=h4.put (o:=.lst [b.enc,.tup [.str "new",b.enc],.tup [.str "plus",t.enc,b.enc],.tup [.str "rec",.tup [.tup [.str "a",b.enc]]],.tup [.str "if",b.enc,nW1,nW1]]) hp5;simp only[Aj,Ad,Ai,Aq,Ah,Aa,Ac,Ab,gC,Yk,Yl,Yb,Yc];refine⟨sz rfl,sz rfl,sz rfl,sz rfl,λp6 hp6=>?_⟩;refine CT (Az hp6 _ _ Ap) Ap (show 5+1<=100000 by decide) λp7 hp7=>?_;have h6:=h5.put (o:=.lst [.tup [.str "call",.tup [.str "fun",.str "x",.tup [.str "any"],b.enc],nW1]]) hp6;have h7:=h6.put (o:=.lst ([b.enc,.tup [.str "new",b.enc],.tup [.str "plus",t.enc,b.enc],.tup [.str "rec",.tup [.tup [.str "a",b.enc]]],.tup [.str "if",b.enc,nW1,nW1]]++[.tup [.str "call",.tup [.str "fun",.str "x",.tup [.str "any"],b.enc],nW1]])) hp7;refine BB (by decide) (by decide) h7.1 λr8 G8 r80 r81 h8=>?_;obtain⟨y,hy,e8⟩:=KZ.Ct (h8.2 _ (Hs.ne h6.1 hp7) _ Ap) r80 (r81);show opt (ixW (.ref p7) (.int r8) G8) _;rw[e8,AB];refine q _ _ ?_ (h7.trans h8);have gt:=PM (Jr t.dp t (Yr _) ht.1) (by have:=FI ht.1;have:=ht.2.1;lia);have gc:=ht.2.1;have ctx:∀{w:Str}{r:As},KTD.datumAt w AF=some r.sorts->(∀ g∈r.gs,g.bd)->(∀ c∈r.parts,OkR c)->b∈r.parts->r.cnt<=100->LV (Te.nd w r).enc:=λ{w r}c1 c2 c4 c5 c6=>⟨.nd w r,rfl,by show 1+r.cnt<=1000;lia,.inr ⟨Js c1 c2 c4,.part c5 b2⟩⟩;have mm:∀{α:Type}{x:α}{l:List α},x∈x::l:=Ye;simp only[List.cons_append,Yw,Yo,YX,or_false]at hy;rcases hy with rfl | rfl | rfl | rfl | rfl | rfl
 ·exact⟨b,rfl,by lia,.inr ⟨b1,b2⟩⟩
 ·exact ctx (r:=.trm b .nil) (show KTD.datumAt ("new":Str) AF=some [("term":Str)] by decide +kernel) (AD trivial By) (AD b1 By) mm (show b.cnt+0<=100 by lia)
 ·exact ctx (r:=.trm t (.trm b .nil)) (show KTD.datumAt ("plus":Str) AF=some [("term":Str),"term"] by decide +kernel) (AD trivial (AD trivial By)) (AD gt (AD b1 By)) (Yd _ mm) (show t.cnt+(b.cnt+0)<=100 by lia)
 ·exact ctx (r:=.fld (.cons "a" b .nil) .nil) (show KTD.datumAt ("rec":Str) AF=some [("fields":Str)] by decide +kernel) (AD ⟨AD (show("a":Str).length<=90000 by decide) By,(show 1<=90000 by decide)⟩ By) (AD b1 By) mm (show b.cnt+0+0<=100 by lia)
 ·exact ctx (r:=.trm b (.trm t1 (.trm t1 .nil))) (show KTD.datumAt ("if":Str) AF=some [("term":Str),"term","term"] by decide +kernel) (AD trivial (AD trivial (AD trivial By))) (AD b1 (AD P1 (AD P1 By))) mm (show b.cnt+(1+(1+0))<=100 by lia)
 ·have inner:OkR (.nd "fun" (.nam "x" (.knd .any (.trm b .nil)))):=Js (show KTD.datumAt ("fun":Str) AF=some [("name":Str),"kind","term"] by decide +kernel) (AD (show("x":Str).length<=90000 by decide) (AD (show Kd.any.wt<=90000 by decide) (AD trivial By))) (AD b1 By);refine⟨.nd "call" (.trm (.nd "fun" (.nam "x" (.knd .any (.trm b .nil)))) (.trm t1 .nil)),rfl,?_,.inr ⟨Js (show KTD.datumAt ("call":Str) AF=some [("term":Str),"term"] by decide +kernel) (AD trivial (AD trivial By)) (AD inner (AD P1 By)),.part mm (.part mm b2)⟩⟩;show 1+(1+(b.cnt+0)+(1+0))<=1000;lia
abbrev ZT:List Str:=["e","marks"]
theorem ZU:Ay ZT ["e"] (Ao Ke):=by walk_at "s"
def ZV(K:PySem.W.Frag)(a:Adr):GS:=(Ae (Ak 1 (Aq (Aa (C7 K (.ref a.NoKind) ad) (Aa (C7 K (.ref a.NoTerm) ad) (Aa (C7 K (.ref a.BadUse) ad) (Aa (C7 K (.ref a.NoValue) ad) Ac)))))) (Aj (Ad (Aw) na (Aq (Aa (C7 K (.ref a.NoNumber) ad) (Aa (C7 K (.ref a.BadNote) ad) (Aa (C7 K (.type "ValueError") ad) Ac)))))))
theorem wc{k:Nat}(T:Tx K mg base a){f:Addr}{s:Shared}{E:XK}:Ssm (cxN P w K mg base ZT "_law_marks" (Ao Ke) f cdv A outer s H) (λB=>B=H) (AS Ke) (ZV K a):=
 (Av (Bt (i:=1) ZU.nd rfl rfl rfl (HV (AO rfl (G0 T.Ug T.Dq rfl rfl rfl rfl rfl (by walk_at "v")) (AO rfl (G0 T.Oq T.Dq rfl rfl rfl rfl rfl (by walk_at "v")) (AO rfl (G0 T.Uh T.Dq rfl rfl rfl rfl rfl (by walk_at "v")) (AO rfl (G0 T.Ui T.Dq rfl rfl rfl rfl rfl (by walk_at "v")) A8)))))) (AE (A0 (EB (by walk_at "v") (HV (AO rfl (G0 T.Uj T.Dq rfl rfl rfl rfl rfl (by walk_at "v")) (AO rfl (G0 T.Dr T.Dq rfl rfl rfl rfl rfl (by walk_at "v")) (AO rfl (io iw T.mE T.Dq rfl rfl (by decide) rfl rfl rfl (by walk_at "v")) A8))))))))
abbrev ZW:List Str:=["marks","which"]
theorem ZX:Ay ZW ["marks","which"] (Ao Kf):=by walk_at "s"
def ZY:GS:=(Aj (Ad (Af (eqF false)) ad (Ad (Aw) (B9 (Cd yX) 1 [1] (gNm 0) Bh (Ad (Af (eqF false)) ad na)) (Aq wT))))
theorem wd(T:Tx K mg base a):Dn P w K mg base ZW "_law_refused" Kf k (ZY):=λ{f cdv A outer s H E}hr=>
 have hu:=AQ hr
 have hN:=ZX.nd
 (AE (A0 (RN (RL hu) rfl (by walk_at "v") (EB (Nd rfl (Ie (own:=["k"]) (fr:=["which"]) (js:=[1]) (scX:=Ao Kf) (n:=s.heap.objs.size+1) rfl (by decide +kernel) (by decide +kernel) (by decide +kernel) (by decide +kernel) rfl rfl rfl (by decide +kernel) rfl) (λ_=>rfl) (by walk_at "v") (Nb (i:=0) (by decide) rfl rfl) (λC fp s1 H1=>B1) (λC fp s1 H1=>(by walk_at "v"))) (by walk_at "v")))))
abbrev ZZ:List Str:=["way","thing","found","marks","e"]
theorem HG:Ay ZZ ["way","thing"] (Ao Of):=by walk_at "s"
def we(K:PySem.W.Frag)(a:Adr)(LX:Spw)(LY:Spw)(LZ:Spw):GS:=(Ae (Ak 2 (gC .non)) (Ae (Ak 3 y0) (Ae (M3 K a.CastError 4 (λex=>(gIf (gTB (Ad (Af (eqF false)) ad u8)) (Ak 2 (Ai LX ex x6)) (Ak 2 (Ai LY ex x6)))) (Ak 3 (Ai LZ XF yI))) (Aj (Ah (Aa r6 yk))))))
theorem wf(T:Tx K mg base a){LL:Nat}(wg:Df P w K mg base "term_read" LL 1 LX)(wh:LL<=k){K8:Nat}(wj:Df P w K mg base "term_shown" K8 1 LY)(wk:K8<=k)(wl:DfN P w K mg base "_law_marks" L0 1 LZ)(wm:L0<=k):Dn P w K mg base ZZ "_law_told" Of k (we K a LX LY LZ):=λ{f cdv A outer s H E}hr=>
 have hu:=AQ hr
 have hN:=HG.nd
 (Av (by walk_at "v") (Av (by walk_at "v") (Av (hZ (i:=4) T.Ue T.Ul T.Um T.Uo HG.nd rfl rfl rfl rfl rfl rfl rfl (λex pn xe hp=>(AE (Bc (by walk_at "v") (AE (Bt (i:=2) HG.nd rfl rfl rfl (A1 wg (hr.mono wh) rfl hp rfl rfl rfl (by walk_at "v")))) (AE (Bt (i:=2) HG.nd rfl rfl rfl (A1 wj (hr.mono wk) rfl hp rfl rfl rfl (by walk_at "v"))))))) (λe=>(AE (Bt (i:=3) HG.nd rfl rfl rfl (ia wl (iA hr wm) rfl rfl rfl rfl (by walk_at "v")))))) (by walk_at "v"))))
abbrev Z0:List Str:=["state","good","bad","at"]
theorem Z1:Ay Z0 ["state"] (Ao Og):=by walk_at "s"
def wo(AA:Spw):GS:=(Ae (Ak 1 (Aq (Aa (gC (.str "num(5)")) (Aa (gC (.str "num(-5)")) (Aa (gC (.str "num(0)")) (Aa (gC (.str "truth(yes)")) (Aa (gC (.str "truth(no)")) (Aa (gC (.str "rec()")) (Aa (gC (.str "rec(a: num(1))")) Ac))))))))) (Ae (Ak 1 (Ad (Aw) na (Aq (Aa (gC (.str "fun(x: any, name(x))")) (Aa (gC (.str "as(num(1), {a?: num, ..})")) Ac))))) (Ae (Ak 1 (Ad (Aw) na (Aq (Aa (gC (.str "get(rec(a: num(1), b: rec()), b)")) (Aa (gC (.str "or(rec(), a, num(2))")) Ac))))) (Ae (AN (gMt B7 Cr na (Aa (Ad (Aw) (Ad (Aw) (gC (.str "num(")) (Ad (BL) (gC (.str "9")) yW)) yl) Ac))) (Ae (Ak 2 (Aq (Aa (gC (.str "")) (Aa (gC (.str " ")) (Aa ln (Aa (gC (.str "num()")) (Aa (gC (.str "num( 5)")) (Aa (gC (.str "num(05)")) (Aa (gC (.str "num(-0)")) (Aa (gC (.str "num(+5)")) (Aa (gC (.str "num(5) ")) (Aa (gC (.str " num(5)")) Ac)))))))))))) (Ae (Ak 2 (Ad (Aw) r6 (Aq (Aa (gC (.str "num(5")) (Aa (gC (.str "num 5")) (Aa (gC (.str "Num(5)")) (Aa (gC (.str "num(5))")) (Aa (gC (.str "truth(true)")) (Aa (gC (.str "truth()")) (Aa (gC (.str "name()")) (Aa (gC (.str "name(X)")) Ac))))))))))) (Ae (Ak 2 (Ad (Aw) r6 (Aq (Aa (gC (.str "name(abcdefghi)")) (Aa (gC (.str "rec(a num(1))")) (Aa (gC (.str "rec(b: num(1), a: num(2))")) (Aa (gC (.str "rec(a:num(1))")) Ac))))))) (Ae (Ak 2 (Ad (Aw) r6 (Aq (Aa (gC (.str "rec(a: num(1), a: num(2))")) (Aa (gC (.str "rec(a: num(1),b: num(2))")) (Aa (gC (.str "fun(x, num(1))")) Ac)))))) (Ae (Ak 2 (Ad (Aw) r6 (Aq (Aa (gC (.str "fun(x: nun, num(1))")) (Aa (gC (.str "fun(: num, num(1))")) (Aa (gC (.str "call(num(1))")) (Aa (gC (.str "call(num(1) num(2))")) Ac))))))) (Ae (Ak 2 (Ad (Aw) r6 (Aq (Aa (gC (.str "get(rec(), A)")) (Aa (gC (.str "get(rec())")) (Aa (gC (.str "or(rec(), a)")) (Aa (gC (.str "if(truth(yes), num(1))")) Ac))))))) (Ae (Ak 2 (Ad (Aw) r6 (Aq (Aa (gC (.str "plus(num(1), num(2), num(3))")) (Aa (gC (.str "new()")) (Aa (gC (.str "as(num(1))")) (Aa (gC (.str "as(num(1), num(2))")) Ac))))))) (Ae (Ak 2 (Ad (Aw) r6 (Aq (Aa (Ad (Aw) (Ad (Aw) (gC (.str "num(")) (Ad (BL) (gC (.str "9")) (gC (.int 21)))) yl) (Aa (Ad (BL) (gC (.str "new(")) (gC (.int 400))) (Aa (gC (.str "x(1)")) (Aa (gC (.str "rec(, )")) (Aa (gC (.str "num(1)num(1)")) Ac)))))))) (Ae (Ak 2 (Ad (Aw) r6 (Aq (Aa (Ad (Aw) (Ad (Aw) (Ad (BL) (gC (.str "new(")) yj) (gC (.str "num(1)"))) (Ad (BL) yl yj)) (Aa (Ad (Aw) (gC (.str "as(num(1), ")) (Ad (BL) (gC (.str "[")) (gC (.int 300)))) (Aa (gC (.str "truth(yes, no)")) Ac)))))) (Ae (Ak 3 (Ai AA XF (Aa ad (Aa (Ad (Aw) y6 yO) Ac)))) (Aj (Ah (Aa (Ad (Af ixW) (Ad (Aw) na r6) ya) (Aa (Ad (AY (λi j=>decide (i < j)) AT) ya y6) Ac))))))))))))))))))
theorem wq(T:Tx K mg base a){AU:Nat}(Ee:Df P w K mg base "_law_choice" AU 2 AA)(Ef:AU<=k):Dn P w K mg base Z0 "_law_odd" Og k (wo AA):=by
 have hN:=Z1.nd;walk_at "z"
abbrev Z2:List Str:=["state","text","way","at","sign"]
theorem Z3:Ay Z2 ["state","text"] (Ao Oh):=by walk_at "s"
def wu(AA:Spw):GS:=(Ae (Ak 2 (Ai AA XF x9)) (Ae (Ak 3 (Ai AA XF (Aa ad (Aa (Ad (Aw) y6 dl) Ac)))) (Ae (Ak 4 (Ad (Af ixW) (gC (.str "aemnrux059-(){}[]:,? .>AZ#=_")) (Ai AA XF (Aa ad (Aa (gC (.int 28)) Ac))))) (Ae (gIf (gTB (Ad (Af (eqF false)) r6 u8)) (Aj (Ah (Aa (Ad (Aw) (Ad (Aw) (Bv na Bk (A2 ya)) ye) (Bv na (A2 ya) Bk)) (Aa (Ad (Af inS) ye (gC (.str "AZ#=_"))) Ac)))) Au) (Ae (gIf (gTB (Ad (Af (eqF false)) r6 dl)) (Aj (Ah (Aa (Ad (Aw) (Ad (Aw) (Bv na Bk (A2 ya)) ye) (Bv na (A2 (Ad (Aw) ya dl)) Bk)) (Aa (Ad (Af inS) ye (gC (.str "AZ#=_"))) Ac)))) Au) (Aj (Ah (Aa (Ad (Aw) (Bv na Bk (A2 ya)) (Bv na (A2 (Ad (Aw) ya dl)) Bk)) yY))))))))
theorem wv(T:Tx K mg base a){AU:Nat}(Ee:Df P w K mg base "_law_choice" AU 2 AA)(Ef:AU<=k):Dn P w K mg base Z2 "_law_spoilt" Oh k (wu AA):=by
 have hN:=Z3.nd;walk_at "z"
abbrev Z4:List Str:=["one","pair","five","six"]
theorem Z5:Ay Z4 [] (Ao Oi):=by walk_at "s"
def ww:GS:=(Ae (Ak 0 (Ah (Aa ln yQ))) (Ae (Ak 1 (Ah (Aa yn (Aa ad wS)))) (Ae (Ak 2 (Ah (Aa yz (Aa (Ah (Aa x2 wT)) (Aa na wS))))) (Ae (Ak 3 (Ah (Aa yz (Aa r6 (Aa r6 kw))))) (Aj (Ah (Aa yz (Aa r6 (Aa ya (Aa (Ah (Aa yn (Aa r6 (Aa (Ah (Aa yn (Aa na x6))) Ac)))) Ac))))))))))
theorem wx(T:Tx K mg base a):Dn P w K mg base Z4 "_law_forty" Oi k (ww):=by
 have hN:=Z5.nd;walk_at "z"
abbrev Z6:List Str:=["script","term","text","k","many","state","spoilt","wrong","found","marks","odd","good"]
theorem P4:Ay Z6 ["script"] (Ao Hh):=by walk_at "s"
def Z7(L1:Spw)(DA:Spw)(Eg:Spw)(L4:Spw)(FL:Spw)(Gx:Spw)(L5:Spw)(CV:Spw)(L6:Spw)(Jv:Spw)(L7:Spw):GS:=(Ae (Ak 1 (Ai L1 XF (Aa ad (Aa u8 Ac)))) (Ae (Ak 2 (Ai DA XF x6)) (Ae (Bz (Cd (Aa yx Ac)) (gNm 3) (Ae (Ak 5 (Ai Eg XF (Aa ad (Aa (Ad (Aw) dl ya) Ac)))) (Ae (Hf (Bb 6 7) (Ai L4 XF (Aa yJ kw))) (Ae (Hf (Bb 8 9) (Ai FL XF (Aa u8 yL))) (Ae (gIf (gOr (A7 (gTB (Ad (Af (eqF true)) (Ab 9) y0)) (gNt (AH (Ai Gx XF (Aa (Ab 9) ym))))) (A7 (gTB (Ad (Af (eqF false)) (Ab 9) y0)) (AH (Ab 7)))) yK Au) (Ae (gIf (A7 (gTB (Ad (Af (eqF false)) (Ab 9) y0)) (gOr (gTB (Ad (Af (eqF true)) (Ai DA XF (Aa (Ab 8) Ac)) (Ab 6))) (gTB (Ad (Af (eqF true)) (Ai L5 XF (Aa (Ab 8) Ac)) (Ai CV XF (Aa (Ab 8) Ac)))))) yK Au) (Ae (Hf (Bb 10 11) (Ai L6 XF (Aa yJ Ac))) (Ae (Hf (Bb 8 9) (Ai FL XF (Aa u8 (Aa (Ab 10) Ac)))) (gIf (gOr (A7 (AH (Ab 11)) (gOr (gTB (Ad (Af (eqF true)) (Ab 9) y0)) (gTB (Ad (Af (eqF true)) (Ai DA XF (Aa (Ab 8) Ac)) (Ab 10))))) (A7 (gNt (AH (Ab 11))) (gNt (AH (Ai Gx XF (Aa (Ab 9) ym)))))) yK Au))))))))) (Ae (Ak 4 (Ai DA XF (Aa (Ai Jv XF Ac) Ac))) (Ae (gIf (gOr (gTB (Ad (Af (eqF true)) (Ad (Af ixW) (Ai FL XF (Aa u8 yI)) u8) (Ai Jv XF Ac))) (gNt (AH (Ai Gx XF (Aa (Ad (Af ixW) (Ai FL XF (Aa u8 (Aa (Ad (Aw) (Ad (Aw) (gC (.str "new(")) ye) yl) Ac))) dl) ym))))) yK Au) (Aj (Ai Gx XF (Aa (Ad (Af ixW) (Ai FL XF (Aa dl (Aa (Ai L7 XF (Aa (Ai Eg XF (Aa ad yX)) (Aa (Ah (Aa ln (Aa yw Ac))) Ac))) Ac))) dl) yQ))))))))
theorem wy(T:Tx K mg base a){Lm:Nat}(xM:Df P w K mg base "_law_drawn_term" Lm 2 L1)(xN:Lm<=k){FK:Nat}(Zu:Df P w K mg base "_law_text" FK 1 DA)(Zv:FK<=k){FA:Nat}(sS:Df P w K mg base "_law_state" FA 2 Eg)(sT:FA<=k)(xO:Df P w K mg base "_law_spoilt" L8 2 L4)(xP:L8<=k)(xQ:Df P w K mg base "_law_told" L9 2 FL)(xR:L9<=k)(xS:Df P w K mg base "_law_refused" Ma 2 Gx)(xT:Ma<=k){K7:Nat}(xU:Df P w K mg base "terms_in" K7 1 L5)(xV:K7<=k){Dy:Nat}(XB:Df P w K mg base "_law_count" Dy 1 CV)(XD:Dy<=k)(xW:Df P w K mg base "_law_odd" Mb 1 L6)(xX:Mb<=k)(Z8:Df P w K mg base "_law_forty" Mc 0 Jv)(Z9:Mc<=k){LW:Nat}(xY:Df P w K mg base "_law_bad_term" LW 2 L7)(xZ:LW<=k){f:Addr}{A:Around}{outer:List Env}{s:Shared}{H:Hp}{E:XK}(hr:Room k (A.deeper (envOfC "law" (Ao Hh) s.heap.objs.size f cdv))):Ssm (cxW P w K mg base Z6 "law" (Ao Hh) f cdv A outer s H E).nox (λB=>B=H) (AS Hh) (Z7 L1 DA Eg L4 FL Gx L5 CV L6 Jv L7):=
 have hu:=AQ hr
 have hN:=P4.nd
 (Av (by walk_at "v") (Av (by walk_at "v") (Av (by walk_at "v") (Av (Bt (i:=4) P4.nd rfl rfl rfl (A1 Zu (hr.mono Zv) rfl Dk rfl rfl rfl (AO rfl (Tq Z8 (hr.mono Z9) rfl Dk rfl) A8))) (Av (Bc (JR (Rx (HZ (RM hu) rfl (by walk_at "v") (Tq Z8 (hr.mono Z9) rfl Dk rfl)) (by walk_at "v"))) (by walk_at "v") Bj) (by walk_at "v"))))))
abbrev due(b:Bool):List W:=[.bl false,.bl (!b),.bl false,.bl false,.bl false,.bl b,.bl true]
abbrev cOf(a:Adr)(b:Bool):Addr:=if b=true then a.BadNote else a.NoTerm
def aa(a:Adr):Spw:=λws G Q _=>∃ e b,ws=[.ref e]/\G e=some (.exc (cOf a b))/\∀ p,G p=none->Q (.ref p) (put G p (.lst (due b)))
theorem wz:Spw.M (aa a):=λf G Q g E d h _⟨e,b,h1,h2,q⟩=>⟨e,b,h1,h2,λp c=>h _ _ (q p c)⟩
theorem Gy(d:G e=some (.exc C))(hω:ω[0]?=some (some (.ref e)))(a:Ez K C)(c:PySem.W.kitOne K (.ref C) cv=some b)(q:Q (.bl b) G):C7 K cv (Ab 0) ω G Q:=by
 unfold C7 Ab;rw[hω];dsimp only;rw[d];exact⟨b,a,c,q⟩
theorem wA{a:Hw}(h:L3.Sub G a)(b:a p=none):G p=none:=by
 cases e:G p with
 | none=>rfl
 | some u=>rw[h _ _ e]at b;cases b
theorem L0(T:Tx K mg base a):DfN P w K mg base "_law_marks" 1 1 (aa a):=by
 refine mkN T.mu rfl ZU wz (λr G Q E⟨e,b,h,_⟩=>by rw[h];rfl) (wc (k:=0) (E:=λ_ _ _=>True) T) λr G Q E n q=>?_;obtain⟨e,b,rfl,g,q⟩:=q
 have key:Ez K (cOf a b)/\PySem.W.kitOne K (.ref (cOf a b)) (.ref a.NoKind)=some false/\PySem.W.kitOne K (.ref (cOf a b)) (.ref a.NoTerm)=some (!b)/\PySem.W.kitOne K (.ref (cOf a b)) (.ref a.BadUse)=some false/\PySem.W.kitOne K (.ref (cOf a b)) (.ref a.NoValue)=some false/\PySem.W.kitOne K (.ref (cOf a b)) (.ref a.NoNumber)=some false/\PySem.W.kitOne K (.ref (cOf a b)) (.ref a.BadNote)=some b/\PySem.W.kitOne K (.ref (cOf a b)) (.type "ValueError")=some true:=by
  cases b with
  | true=>exact⟨T.UJ,T.UK,T.UL,T.UM,T.UN,T.UO,T.UP,T.UQ⟩
  | false=>exact⟨T.UA,T.UB,T.UC,T.UD,T.UE,T.UF,T.UG,T.UH⟩
 obtain⟨d,i1,i2,i3,i4,i5,i6,i7⟩:=key;unfold ZV;simp only[Ae,Ak,Aq,Aj];refine Gy g rfl d i1 (Gy g rfl d i2 (Gy g rfl d i3 (Gy g rfl d i4 ?_)));refine⟨sz rfl,λp l=>?_⟩;have c:=Az (o:=.lst [.bl false,.bl (!b),.bl false,.bl false]) l _ _ g;have m:put G p (.lst [.bl false,.bl (!b),.bl false,.bl false]) p=some (.lst [.bl false,.bl (!b),.bl false,.bl false]):=Ap;have j:=Az (o:=.lst [.bl false,.bl (!b),.bl false,.bl false]) l;simp only[Ad,Ab,Aq];refine Gy c rfl d i5 (Gy c rfl d i6 (Gy c rfl d i7 ?_));exact⟨sz rfl,λp2 f=>CT (Az f _ _ m) Ap (show 4+3<=100000 by decide) λp3 i=>n _ _ _ (Sub.put2 (BN j f)) (q p3 (wA (BN j f) i))⟩
def Me(o:Option Te)(b:Bool)(G:Hw)(Q:Kw):Prop:=match o with
 | some t=>∀ p G',L3.Sub G G'->G' p=some (.lst [])->Q (.tup [t.enc,.ref p]) G'
 | none=>∀ p G',L3.Sub G G'->G' p=some (.lst (due b))->Q (.tup [.non,.ref p]) G'
def ac:Spw:=λws G Q _=>(∃ T:Str,ws=[.int 0,.str T]/\T.length<=90000/\Me (CI (cs T)) true G Q)\/∃ x:W,ws=[.int 1,x]/\LV x/\Me none false G Q
theorem ae{o:Option Te}{d:Kw}(h:∀ w G,Q w G->d w G)(q:Me o b G Q):Me o b G d:=by
 cases o with
 | none|some t=>exact λp a z c=>h _ _ (q p a z c)
theorem wB:Spw.M ac:=(by
 rintro b G Q c E a h _ (⟨T,h1,h2,q⟩|⟨x,h1,h2,q⟩)
 ·exact .inl ⟨T,h1,h2,ae h q⟩
 ·exact .inr ⟨x,h1,h2,ae h q⟩)
theorem L9(T:Tx K mg base a):Df P w K mg base "_law_told" 71 2 ac:=by
 refine mk0 T.mw rfl HG wB (by rintro j G Q E (⟨_,e,_⟩|⟨_,e,_⟩) <;> rw[e] <;> rfl) (wf T (LL T) (by lia) (K8 T) (by lia) (L0 T) (by lia)) λj G Q E k q=>?_;rcases q with⟨X,rfl,h,q⟩|⟨x,rfl,i,q⟩
 ·show Ae (Ak 2 (gC .non)) (Ae (Ak 3 (Aq _)) (Ae (M3 _ _ _ _ _) (Aj _))) (AC Q) [some (.int 0),some (.str X),none,none,none] G;refine⟨sz rfl,λg b=>⟨_,⟨λ_ _ z=>z,λ_ _ z=>z,λ_ _ z=>z,λ_ _ z=>z⟩,?_⟩⟩;have c:=Az (o:=.lst []) b;refine⟨X,CI (cs X),rfl,h,u0 (h),λG1 h1=>?_⟩;cases e:CI (cs X)with
  | some t =>
   rw[e]at q;exact⟨sz rfl,q g _ (c.trans h1) (h1 _ _ Ap)⟩
  | none =>
   rw[e]at q;exact⟨T.UI,λe d=>⟨e,true,rfl,Ap,λp f=>⟨sz rfl,q p _ (BN (BN (c.trans h1) d) f) Ap⟩⟩⟩
 ·refine⟨sz rfl,λg b=>⟨_,⟨λ_ _ z=>z,λ_ _ z=>z,λ_ _ z=>z,λ_ _ z=>z⟩,?_⟩⟩;have c:=Az (o:=.lst []) b;exact⟨x,rfl,u7 i,T.Uz,λe d=>⟨e,false,rfl,Ap,λp f=>⟨sz rfl,q p _ (BN (BN c d) f) Ap⟩⟩⟩
theorem wC(h1:G p=some (.lst (due b)))(h2:G r=some (.lst (due b))):eqF false (.ref p) (.ref r) G=some (.bl true):=by
 have:eqW (.ref p) (.ref r) G=some true:=by
  unfold eqW;simp only[h1,h2];cases b <;> decide
 unfold eqF;rw[this];rfl
theorem wD{a:Bool}(hc:xs=[]/\c=true\/(∃ b,xs=due b)/\c=false)(h1:G p=some (.lst xs))(h2:G r=some (.lst [])):eqF a (.ref p) (.ref r) G=some (.bl (c != a)):=by
 have:eqW (.ref p) (.ref r) G=some c:=by
  unfold eqW;simp only[h1,h2];rcases hc with⟨rfl,rfl⟩|⟨⟨b,rfl⟩,rfl⟩
  ·decide
  ·cases b <;> decide
 unfold eqF;rw[this];rfl
def P5:Spw:=λws G Q _=>∃ p b,ws=[.ref p,.int (if b=true then 5 else 1)]/\G p=some (.lst (due b))/\∀ G',L3.Sub G G'->Q (.bl true) G'
theorem wF:Spw.M P5:=(by rintro d G Q e E c h _ ⟨p,b,h1,h2,q⟩;exact⟨p,b,h1,h2,λa z=>h _ _ (q a z)⟩)
theorem Ma(T:Tx K mg base a):Df P w K mg base "_law_refused" 1 2 P5:=by
 refine mk0 T.mv rfl ZX wF (λr G Q E⟨_,_,e,_⟩=>by rw[e];rfl) (wd T) λr G Q E t q=>?_;obtain⟨p,b,rfl,m,q⟩:=q;unfold ZY;generalize n:(if b=true then(5:Int)else 1)=j;refine⟨by decide,by decide,Kv (f:=λi=>.bl ((((i:Nat):Int)==j) != false)) trivial (List.range 6) none [] (λi _ s l=>?_) (sz rfl) λp2 g=>?_⟩
 ·exact l
 have k:([]++(List.range 6).map λi:Nat=>W.bl ((((i:Nat):Int)==j) != false))++[.bl true]=due b:=by
  subst n;cases b <;> rfl
 have h2:=Az (o:=.lst ([]++(List.range 6).map λi:Nat=>W.bl ((((i:Nat):Int)==j) != false))) g;refine⟨sz rfl,λp3 c=>CT (Az c _ _ Ap) Ap (show 6+1<=100000 by decide) λp4 d=>?_⟩;rw[k]at *;have h:=BN (o:=.lst (due b)) (BN h2 c) d;show opt (eqF false (.ref p) (.ref p4) _) _;rw[wC (h _ _ m) Ap];exact q _ h
abbrev af:Te:=.nd "plus" (.trm t1 (.trm t1 .nil))
abbrev El:Te:=.nd "if" (.trm Ju (.trm six (.trm (.nd "plus" (.trm Ju (.trm (.nd "plus" (.trm af (.trm af .nil))) .nil))) .nil)))
def ag:Spw:=λws G Q _=>ws=[]/\Q El.enc G
theorem wG:Spw.M ag:=(by rintro b G Q c E a h _ ⟨h1,q⟩;exact⟨h1,h _ _ q⟩)
theorem Mc(T:Tx K mg base a):Df P w K mg base "_law_forty" 1 0 ag:=by
 refine mk0 T.mB rfl Z5 wG (λb G Q E⟨e,_⟩=>by rw[e];rfl) (wx T) λb G Q E c q=>?_;obtain⟨rfl,q⟩:=q;exact AK ⟨sz rfl,AK ⟨sz rfl,AK ⟨sz rfl,sz rfl,AK ⟨sz rfl,⟨sz rfl,sz rfl,sz rfl,q⟩⟩⟩⟩⟩
abbrev ah:List Str:=["num(5)","num(-5)","num(0)","truth(yes)","truth(no)","rec()","rec(a: num(1))"]
abbrev ai:List Str:=["fun(x: any, name(x))","as(num(1), {a?: num, ..})"]
abbrev aj:List Str:=["get(rec(a: num(1), b: rec()), b)","or(rec(), a, num(2))"]
abbrev ak(n:Int):Str:="num("++Txt.mul "9" n++")"
abbrev al:List Str:=[""," ","num","num()","num( 5)","num(05)","num(-0)","num(+5)","num(5) "," num(5)"]
abbrev am:List Str:=["num(5","num 5","Num(5)","num(5))","truth(true)","truth()","name()","name(X)"]
abbrev ao:List Str:=["name(abcdefghi)","rec(a num(1))","rec(b: num(1), a: num(2))","rec(a:num(1))"]
abbrev ap:List Str:=["rec(a: num(1), a: num(2))","rec(a: num(1),b: num(2))","fun(x, num(1))"]
abbrev aq:List Str:=["fun(x: nun, num(1))","fun(: num, num(1))","call(num(1))","call(num(1) num(2))"]
abbrev ar:List Str:=["get(rec(), A)","get(rec())","or(rec(), a)","if(truth(yes), num(1))"]
abbrev au:List Str:=["plus(num(1), num(2), num(3))","new()","as(num(1))","as(num(1), num(2))"]
abbrev av:List Str:=[ak 21,Txt.mul "new(" 400,"x(1)","rec(, )","num(1)num(1)"]
abbrev aw:List Str:=[Txt.mul "new(" 10++"num(1)"++Txt.mul ")" 10,"as(num(1), "++Txt.mul "[" 300,"truth(yes, no)"]
def Cg:List Str:=((ah++ai)++aj)++[ak 20]
def Dd:List Str:=(((((((al++am)++ao)++ap)++aq)++ar)++au)++av)++aw
theorem wH:(Cg.all λx=>(CI (cs x)).isSome&&decide (x.length<=2000))=true:=by decide +kernel
theorem wI:(Dd.all λx=>(CI (cs x)).isNone&&decide (x.length<=2000))=true:=by decide +kernel
theorem HH:Cg.length=12/\Dd.length=45:=by decide +kernel
theorem HI{n:Int}(h:(decide (n < -(2 ^ 63:Int))||decide (n>=2 ^ 63))=false)(h1:¬ ((x.length:Int) >(2 ^ 63 - 1) / n))(h2:Builtin.Str.tooLong (x.length*n.toNat)=false):MulOk x n:=⟨h,λ_ _=>h1,λ_ _=>h2⟩
def P6(x:Str)(b:Bool):Prop:=x.length<=2000/\if b=true then ∃ t,CI (cs x)=some t else CI (cs x)=none
abbrev wJ:Spw:=EU false (λ(_:Unit)s ws _=>ws=[.ref s]) λ_ _ r _=>∃ x b,r=.tup [.str x,.bl b]/\P6 x b
local macro_rules | `(tactic| walk_at "cl") => `(tactic| (simp only [gC, Aa, Ac, Ad]; exact z))
theorem wK{a:Hw}(h:Hs f s G a)(c:p≠s)(b:a p=none):G p=none:=by
 cases e:G p with
 | none=>rfl
 | some u=>rw[h.2 _ c _ e]at b;cases b
theorem wL{An:GS}{f:Hw}(d:Hs false s f G)(hi:ω[i]?=some (some (.ref p)))(j:G p=some (.lst xs))(h:∀ Z:List W->Hw->Prop,Z ys G->gs ω G Z)(hl:xs.length+ys.length<=100)(z:∀ b e,Hs false s f e->b≠s->f b=none->e b=some (.lst (xs++ys))->An D (ω.set i (some (.ref b))) e):Ae (Ak i (Ad Aw (Ab i) (Aq gs))) An D ω G:=by
 refine AK ?_;simp only[Ad,Ab,hi];refine h _ ⟨Bo (by lia),λp2 a=>CT (Az a _ _ j) Ap (by lia) λr c=>?_⟩;have g:=Hs.ne (d.1.put a) c;exact z r _ ((d.put a).put c) g (wK (d.put a) g c) Ap
theorem Mb(T:Tx K mg base a):Df P w K mg base "_law_odd" 2 1 wJ:=by
 refine mk0 T.mx rfl Z1 DV (λws G Q E⟨_,s,e,_⟩=>by rw[e];rfl) (wq T (AU T) (by lia)) λws G Q E hC q=>?_;obtain⟨_,s,rfl,hs,q⟩:=q;have q:∀ x b G',P6 x b->Hs false s G G'->Q (.tup [.str x,.bl b]) G':=λx b G' h h'=>q _ _ ⟨x,b,rfl,h⟩ h';refine Je (xs:=ah.map W.str) hs (λZ z=>by walk_at "cl") (by decide) λp1 G1 h1 n1 e1=>Gm (ys:=ai.map W.str) h1 rfl e1 (λZ z=>by walk_at "cl") (by decide) λp2 G2 h2 n2 e2=>?_;refine wL (ys:=aj.map W.str) h2 rfl e2 (λZ z=>by walk_at "cl") (by decide) λp3 G3 h3 n3 z3 e3=>?_;have sq:∀{x An:GS}{D:Ew}{ω:Sw}{G:Hw},x {D with nx:=An D} ω G->Ae x An D ω G:=λh=>h;refine sq ?_;simp only[AN,gMt,Ad,Ab,gC,Aa,Ac,Yb,Yc];refine⟨Fh e3,HI (by decide +kernel) (by decide +kernel) (by decide +kernel),Br (by decide +kernel),Br (by decide +kernel),Gh e3 (DN (by decide)) ?_⟩
 have h4:Hs false s G (put G3 p3 (.lst (Cg.map W.str))):=by
  obtain⟨⟨x,b,c,e⟩,h⟩:=h3;refine⟨⟨x,b,c,by rw[AX (YU n3)];exact e⟩,λb hb u hu=>?_⟩;rw[AX (Do hu z3)];exact h b hb u hu
 have e4:put G3 p3 (.lst (Cg.map W.str)) p3=some (.lst (Cg.map W.str)):=Ap;refine Je (xs:=al.map W.str) h4.1 (λZ z=>by walk_at "cl") (by decide) λq1 G5 h5 m1 f1=>?_;have e5:=h5.2 _ n3 _ e4;have h5:=h4.trans h5
 have k1:∀{i:Nat}{ys:List Str}{xs:List Str}{gs:GA}{An:GS}{D:Ew}{q1:Addr}{G5:Hw},Hs false s G G5->G5 p3=some (.lst (Cg.map W.str))->G5 q1=some (.lst (xs.map W.str))->(∀(ω:Sw)(G':Hw)(Z:List W->Hw->Prop),Z (ys.map W.str) G'->gs ω G' Z)->xs.length+ys.length<=100->(∀ q2 G6,Hs false s G G6->G6 p3=some (.lst (Cg.map W.str))->G6 q2=some (.lst ((xs++ys).map W.str))->An D [some (.ref s),some (.ref p3),some (.ref q2),none] G6)->Ae (Ak 2 (Ad Aw r6 (Aq gs))) An D [some (.ref s),some (.ref p3),some (.ref q1),none] G5:=λ{i ys xs gs An D q1 G5}h e f hg hl k=>by
  exact AK (hg _ _ _ ⟨Bo (by rw[Yh];lia),λp2 hp2=>CT (Az hp2 _ _ f) Ap (by rw[Yh,Yh];lia) λr hr=>k r _ ((h.put hp2).put hr) (Az hr _ _ (Az hp2 _ _ e)) (by rw[Ap,Yy])⟩)
 refine k1 (i:=0) (ys:=am) h5 e5 f1 (λω G' Z z=>by walk_at "cl") (by decide) λq1 G5 h5 e5 f1=>k1 (i:=0) (ys:=ao) h5 e5 f1 (λω G' Z z=>by walk_at "cl") (by decide) λq1 G5 h5 e5 f1=>?_;refine k1 (i:=0) (ys:=ap) h5 e5 f1 (λω G' Z z=>by walk_at "cl") (by decide) λq1 G5 h5 e5 f1=>k1 (i:=0) (ys:=aq) h5 e5 f1 (λω G' Z z=>by walk_at "cl") (by decide) λq1 G5 h5 e5 f1=>?_;refine k1 (i:=0) (ys:=ar) h5 e5 f1 (λω G' Z z=>by walk_at "cl") (by decide) λq1 G5 h5 e5 f1=>k1 (i:=0) (ys:=au) h5 e5 f1 (λω G' Z z=>by walk_at "cl") (by decide) λq1 G5 h5 e5 f1=>?_
 refine k1 (i:=0) (ys:=av) h5 e5 f1 (λω G' Z z=>by
  exact⟨HI (by decide +kernel) (by decide +kernel) (by decide +kernel),Br (by decide +kernel),Br (by decide +kernel),HI (by decide +kernel) (by decide +kernel) (by decide +kernel),z⟩) (by decide) λq1 G5 h5 e5 f1=>?_
 refine k1 (i:=0) (ys:=aw) h5 e5 f1 (λω G' Z z=>by
  exact⟨HI (by decide +kernel) (by decide +kernel) (by decide +kernel),Br (by decide +kernel),HI (by decide +kernel) (by decide +kernel) (by decide +kernel),Br (by decide +kernel),HI (by decide +kernel) (by decide +kernel) (by decide +kernel),Br (by decide +kernel),z⟩) (by decide) λq1 G5 h5 e5 f1=>?_
 have f1:G5 q1=some (.lst (Dd.map W.str)):=f1;refine AK ?_;simp only[Ai,Ad,gB,rF,Ab,Aa,Ac,Yb,Yc,Hx e5,Hx f1,AB,Yh,HH.1,HH.2];rw[Fi];refine BB (by decide) (by decide) h5.1 λr G6 r0 r1 h6=>?_
 have q3:q1≠s:=λe=>by
  obtain⟨x,b,c,e'⟩:=h5.1;rw[e,e']at f1;have:=Qg (λo=>o) (HW.lst.inj (YE f1));cases this
 have e6:=h6.2 _ n3 _ e5;have f6:=h6.2 _ q3 _ f1;have h6:=h5.trans h6;simp only[Aj,Ah,Ad,gB,rF,Ab,Aa,Ac,Yk,Yl,Yb,Yc];refine CT e6 f6 (by decide) λp7 hp7=>?_;have h7:=h6.put (o:=.lst (Cg.map W.str++Dd.map W.str)) hp7;have f7:put G6 p7 (.lst (Cg.map W.str++Dd.map W.str)) p7=some (.lst ((Cg++Dd).map W.str)):=by rw[Ap,Yy]
 have e7:=Az (o:=.lst (Cg.map W.str++Dd.map W.str)) hp7 _ _ e6;generalize put G6 p7 (.lst (Cg.map W.str++Dd.map W.str))=G7 at h7 f7 e7 ⊢;obtain⟨k,rfl⟩:∃ k:Nat,r=(k:Int):=⟨r.toNat,by lia⟩;have hk:k <(Cg++Dd).length:=by rw[Yj,HH.1,HH.2];lia
 have ei:ixW (.ref p7) (.int (k:Int)) G7=some (.str (Cg++Dd)[k]):=by
  rw[Fc f7];exact L2.CK (by rw[YM,Yp hk];rfl)
 show opt (ixW (.ref p7) (.int (k:Int)) G7) _;rw[ei,AB];dsimp only;rw[Hx e7,AB,Yh,HH.1];refine⟨sz rfl,q _ _ _ ?_ h7⟩;show P6 _ (decide ((k:Int) < 12));by_cases h12:k < 12
 ·rw[YG (by lia)];have hm:(Cg++Dd)[k]∈Cg:=by rw[List.getElem_append_left (h12)];exact Qc _
  obtain⟨z1,z2⟩:=Qe.mp (List.all_eq_true.mp wH _ hm);exact⟨Qh z2,by exact Option.isSome_iff_exists.mp z1⟩
 ·rw[Qi (by lia)];have hm:(Cg++Dd)[k]∈Dd:=by rw[List.getElem_append_right (by rw[HH.1];lia)];exact Qc _
  obtain⟨z1,z2⟩:=Qe.mp (List.all_eq_true.mp wI _ hm);exact⟨Qh z2,by exact Option.isNone_iff_eq_none.mp z1⟩
abbrev Jw:Str:="aemnrux059-(){}[]:,? .>AZ#=_"
def wrg(c:Nat):Bool:=!(Builtin.Str.occurrences ("AZ#=_":Str) ⟨#[c]⟩ 0 ("AZ#=_":Str).length 1).isEmpty
theorem wM:(Jw.cps.toList.all λc=>!wrg c||!sg c)=true:=by decide +kernel
def SpR(n:Nat)(x:Str)(b:Bool):Prop:=x.length<=n+2/\(b=true->∃ c∈cs x,sg c=false)
abbrev wN:Spw:=EU false (λ(x:Str)s ws _=>ws=[.ref s,.str x]/\x.length<=80000) λx _ r _=>∃ y b,r=.tup [.str y,.bl b]/\SpR x.length y b
theorem wO(a:0<=j)(h1:j<=x.length):((Txt.slice x none (some j)).length:Int)<=j:=by
 have e:Txt.slice x none (some j)=⟨((x.cps.toList.drop 0).take (j - 0).toNat).toArray⟩:=PySem.StrLaws.sliceText_to ⟨a,h1⟩;rw[e,Hl];rw[List.length_take];lia
theorem ax{i:Int}(a:0<=i)(h1:i<=x.length+1):((Txt.slice x (some i) none).length:Int)+i<=x.length+1:=by
 have key:∀{i:Int},0<=i->i<=x.length->((Txt.slice x (some i) none).length:Int)+i<=x.length:=λ{i}a h1=>by
  have h1:i<=x.cps.toList.length:=by exact h1
  have e:Txt.slice x (some i) none=⟨((x.cps.toList.drop i.toNat).take ((x.cps.toList.length:Int) - i).toNat).toArray⟩:=PySem.StrLaws.sliceText_from ⟨a,h1⟩;rw[e,Hl,Hl];rw[List.length_take];lia
 by_cases h:i<=x.length
 ·have:=key a h;lia
 ·have e:Txt.slice x (some i) none=Txt.slice x (some (x.length:Int)) none:=by
   show PySem.StrLaws.sliceText x (some i) none=PySem.StrLaws.sliceText x (some (x.length:Int)) none;unfold PySem.StrLaws.sliceText
   have:Builtin.Str.strSliceIndices (some i) none 1 x.length=Builtin.Str.strSliceIndices (some (x.length:Int)) none 1 x.length:=by
    have b1:¬ i < 0:=by lia
    have b2:¬ ((x.length:Int) < 0):=by lia
    have b:min i (x.length:Int)=x.length:=by lia
    simp[Builtin.Str.strSliceIndices,b1,b2,b]
   rw[this]
  have:=key (by lia) (Int.le_refl _);rw[e];lia
theorem L8(T:Tx K mg base a):Df P w K mg base "_law_spoilt" 2 2 wN:=by
 refine mk0 T.mz rfl Z3 DV (λO G Q E⟨_,s,⟨e,_⟩,_⟩=>by rw[e];rfl) (wv T (AU T) (by lia)) λO G Q E S q=>?_;obtain⟨x,s,⟨rfl,X⟩,F,q⟩:=q
 have f:∀ G,AM [.str x] G=some (.int (x.length:Nat)):=λG=>by
  unfold AM BZ;dsimp only;rw[if_pos (Bo (by lia))]
 show Ae (Ak 2 _) _ (AC Q) [some (.ref s),some (.str x),none,none,none] G;refine AK ?_;walk_at "pe";refine BB (by decide) (by decide) F λt G1 _ _ h1=>AK ?_;simp only[Ai,gB,rF,Ad,Aa,Ac,Ab,gC,Yk,Yl,Yb,Yc,f,AB];rw[Fi];refine BB (by lia) (by lia) h1.1 λg G2 A B h2=>?_;have h2:=h1.trans h2;refine AK ?_;walk_at "pe";refine BB (by decide) (by decide) h2.1 λn m J N z=>?_;have z:=h2.trans z
 obtain⟨c,hc,p⟩:∃ c:Nat,ixW (.str Jw) (.int n) m=some (.str ⟨#[c]⟩)/\c∈Jw.cps.toList:=by
  obtain⟨k,rfl⟩:∃ k:Nat,n=(k:Int):=⟨n.toNat,by lia⟩
  have I:k < Jw.cps.toList.length:=by
   show k < 28;lia
  unfold ixW;dsimp only;rw[if_pos (by decide),L2.CK (Yp I)];exact⟨_,rfl,Qc _⟩
 show opt (ixW (.str Jw) (.int n) m) _;rw[hc,AB]
 have hw:wrg c=true->sg c=false:=λh=>by
  have:=List.all_eq_true.mp wM c p;rw[h]at this;cases e:sg c with
  | false=>rfl
  | true=>rw[e]at this;cases this
 have d:x.length<=sizeLine:=Bo (by lia);have q:=λy b h=>q _ _ ⟨y,b,rfl,h⟩ z;have B:g<=x.length:=by lia
 have t1:=wO A B;have R:=ax (x:=x) A (by lia);have U:=ax (x:=x) (i:=g+1) (by lia) (by lia);have H:(⟨#[c]⟩:Str).length=1:=rfl;have l:∀(u v:Str)(b:Bool),b=wrg c->u.length+v.length<=x.length+1->SpR x.length (u++⟨#[c]⟩++v) b:=λu v b L h=>⟨by rw[AW,AW,H];lia,λr=>⟨c,by rw[Cy,Cy];exact YK _ (YL _ Ye),hw (by rw[<- L];exact r)⟩⟩
 have go:∀{j:Int}{x y:GS}{ω:Sw},ω[2]?=some (some (.int t))->(∀ D:Ew,D.rt=Q->x D ω m)->y (AC Q) ω m->Ae (gIf (gTB (Ad (Af (eqF false)) r6 (gC (.int j)))) x Au) y (AC Q) ω m:=λ{j x y ω}h h1 h2=>by
  simp only[Ae,gIf,gTB,Ad,Af,Ab,h,gC,Dp,AB];exact BC (λ_=>h1 _ rfl) (λ_=>h2)
 refine go rfl (λD o=>?_) ?_
 ·simp only[Aj,Ah,Aa,Ac,Ad,Bv,Ab,Bk,A2,gC,Yb,Yc,o];exact⟨d,Bo (by lia),d,Bo (by rw[AW];lia),⟨sz rfl,q _ _ (l _ _ _ rfl (by lia))⟩⟩
 refine go rfl (λD o=>?_) ?_
 ·simp only[Aj,Ah,Aa,Ac,Ad,Bv,Ab,Bk,A2,gC,Yb,Yc,Fi,o];exact⟨d,Bo (by lia),d,Bo (by rw[AW];lia),⟨sz rfl,q _ _ (l _ _ _ rfl (by lia))⟩⟩
 ·exact⟨d,d,Bo (by lia),sz rfl,q _ _ ⟨by rw[AW];lia,λh=>by cases h⟩⟩
theorem ay(A:Sw->Hw->Prop)(h:∀(j:Nat)ω G(c:Ew),A ω G->(∀ ω' b,A ω' b->c.nx ω' b)->gb c (ω.set i (some (.int j))) G)(q:∀ ω G,A ω G->D.nx ω G):∀(l:List Nat)ω G,A ω G->BD yes (gNm i) gb D (l.map λj:Nat=>W.int j) ω G
 | [],ω,G,a=>⟨trivial,q _ _ a⟩
 | j::l,ω,G,a=>⟨trivial,h j ω G _ a λω' b d=>ay A h q l ω' b d⟩
theorem P7{An:GS}(h:∀ Z:Bool->Hw->Prop,(∀ a,L3.Sub G a->Z false a)->c ω G Z)(h2:∀ a,L3.Sub G a->An D ω a):Ae (gIf c x Au) An D ω G:=by
 simp only[Ae,gIf];refine h _ λa s'=>?_;simp only[Yq,if_false,Au];exact h2 a s'
theorem wQ(h:∀ Z:Bool->Hw->Prop,(∀ a,L3.Sub G a->Z false a)->c ω G Z)(h2:∀ a,L3.Sub G a->D.nx ω a):gIf c x Au D ω G:=by
 simp only[gIf];refine h _ λa s'=>?_;simp only[Yq,if_false,Au];exact h2 a s'
theorem bt1:(true != true)=false:=rfl
theorem bt2:(true != false)=true:=rfl
theorem bt3:(false != true)=true:=rfl
theorem bt4:(false != false)=false:=rfl
theorem Gz(hc:xs=[]/\c=true\/(∃ b,xs=due b)/\c=false)(hi:ω[i]?=some (some (.ref p)))(f:G p=some (.lst xs))(z:∀ a,L3.Sub G a->Z (c != e) a):gTB (Ad (Af (eqF e)) (Ab i) y0) ω G Z:=by
 simp only[gTB,Ad,Af,Ab,hi,Aq,Ac];refine⟨sz rfl,λr d=>?_⟩;rw[wD hc (Az d _ _ f) Ap,AB];exact z _ (Az d)
theorem az(hi:ω[i]?=some (some t.enc))(b:ω[j]?=some (some (.str y)))(a:tg t)(e:y=t.txt)(z:Z false G):gTB (Ad (Af (eqF true)) (Ai (ZA 10) XF (Aa (Ab i) Ac)) (Ab j)) ω G Z:=by
 simp only[gTB,Ad,Af,Ab,hi,b,Ai,Aa,Ac];refine⟨t,⟨rfl,a.1,a.2.2,a.2.1⟩,?_⟩;subst e;dsimp only;rw[BP,AB,beq_self_eq_true];exact z
theorem aA(hi:ω[i]?=some (some (.ref p)))(b:G p=some (.lst (due true)))(z:∀ a,L3.Sub G a->Z false a):gNt (AH (Ai P5 XF (Aa (Ab i) ym))) ω G Z:=by
 simp only[gNt,AH,Ab,hi,Ai,gC,Aa,Ac];exact⟨p,true,rfl,b,λa s'=>z a s'⟩
theorem Jx(hi:ω[i]?=some (some (.bl b)))(z:Z b G):AH (Ab i) ω G Z:=by
 simp only[AH,Ab,hi,B5,AB];exact z
theorem wR:CI (cs El.txt)=some El:=by kernel_rfl
theorem wU:CI (cs ("new("++El.txt++")"))=none:=by kernel_rfl
theorem wV(G:Hw):eqF true El.enc El.enc G=some (.bl false):=by kernel_rfl
theorem wW:tg El/\El.txt.length<=1000:=⟨⟨by decide +kernel,by decide,by decide⟩,by decide +kernel⟩
abbrev Om(ns:List Int)(t:Te)(o3 o4 o5 o6 o7 o8 o9 o10 o11:Option W):Sw:=[some (.rol (ns.map W.int)),some t.enc,some (.str t.txt),o3,o4,o5,o6,o7,o8,o9,o10,o11]
theorem wX(T:Tx K mg base a){f:Addr}(F:Fun K "law" "law" Hh f fd):FnOk P w K mg base (CXe P w) 73 f fd ["script"] (C2 K NE):=by
 refine ok0 F P4 (λws G Q E⟨ns,e,_⟩=>by rw[e];rfl) (wy (k:=72) T (Lm T) (by lia) (FK T 10) (by lia) (FA T) (by lia) (L8 T) (by lia) (L9 T) (by lia) (Ma T) (by lia) (K7 T) (by lia) (Dy T 10) (by lia) (Mb T) (by lia) (Mc T) (by lia) (LW T) (by lia)) λws G Q E hC q=>?_;obtain⟨ns,rfl,hns,q⟩:=q;unfold Z7;show Ae (Ak 1 _) _ (AC Q) [some (.rol (ns.map W.int)),none,none,none,none,none,none,none,none,none,none,none] G;refine AK ?_;walk_at "pf";refine⟨ns,0,rfl,by decide,λt G1 ht s1=>?_⟩;have hl:=FI ht.1;have hc:=ht.2.1;refine AK ?_;walk_at "pf";refine⟨t,⟨rfl,ht.1,ht.2.2,ht.2.1⟩,?_⟩;have fr:∀{gb An:GS}{D:Ew}{ω:Sw}{G:Hw},BD yes (gNm 3) gb {D with nx:=An D} ((List.range 4).map λj:Nat=>W.int j) ω G->Ae (Bz (Cd (Aa yx Ac)) (gNm 3) gb) An D ω G:=λh=>⟨by decide,by decide,h⟩;refine fr (ay (λω G=>∃ o3 R U X O Y l m,ω=Om ns t o3 none R U X O Y l m) ?_ ?_ (List.range 4) _ G1 ⟨none,none,none,none,none,none,none,none,rfl⟩)
 ·rintro j ω G D' ⟨o3,R,U,X,O,Y,l,m,rfl⟩ nx;have nx:∀ R U X O Y l m H,D'.nx (Om ns t (some (.int j)) none R U X O Y l m) H:=λR U X O Y l m H=>nx _ _ ⟨_,_,_,_,_,_,_,_,rfl⟩;simp only[Om,Yk,Yl];refine AK ?_;walk_at "pe";rw[Fi];refine⟨ns,1+j,rfl,by lia,λs x b hs=>?_⟩;have hst:St false s (put G s (.lst [.int x,.bl b])):=⟨x,b,0,Ap⟩;generalize put G s (.lst [.int x,.bl b])=G at hst ⊢;have J:∀{i j:Nat}{ga:GE}{An:GS}{D:Ew}{ω:Sw}{G:Hw},(ga ω G λw G1=>Bb i j w ω G1 (An D))->Ae (Hf (Bb i j) ga) An D ω G:=λh=>h;refine J ?_;simp only[Ai,Aa,Ac,Ab,gC,Yb,Yc];refine⟨t.txt,s,⟨rfl,by lia⟩,hst,λr G1 A h1=>?_⟩;obtain⟨y,wr,rfl,hy1,hy2⟩:=A;simp only[Bb,Yk,Yl];have st:∀{G2:Hw},L3.Sub G1 G2->St false s G2:=λh=>by obtain⟨x,b,c,e⟩:=h1.1;exact⟨x,b,c,h _ _ e⟩
  refine DX (λr=>∀ v p xs G2,L3.Sub G1 G2->G2 p=some (.lst xs)->((∃ u:Te,v=u.enc/\tg u/\y=u.txt/\wr=false/\xs=[])\/(v=.non/\xs=due true))->r D' (Om ns t (some (.int j)) none (some (.ref s)) (some (.str y)) (some (.bl wr)) (some v) (some (.ref p)) l m) G2) (λv p xs G2 s2 d N=>?_) λr A=>J ?_;rotate_left
  ·simp only[Ai,Aa,Ac,Ab,gC,Yb,Yc];refine .inl ⟨y,rfl,by lia,?_⟩;cases e:CI (cs y)with
   | some u =>
    obtain⟨n,L,a3⟩:=ZL e
    have hw:wr=false:=by
     cases wr with
     | false=>rfl
     | true =>
      obtain⟨c,c1,c2⟩:=hy2 rfl;rw[a3 c c1]at c2;cases c2
    exact λp H s' d=>A _ p _ H s' d (.inl ⟨u,rfl,n,Eb L,hw,rfl⟩)
   | none=>exact λp H s' d=>A _ p _ H s' d (.inr ⟨rfl,rfl⟩)
  refine P7 (λZ I=>?_) λG3 B=>?_
  ·simp only[gOr,A7];rcases N with⟨u,rfl,n,L,rfl,rfl⟩|⟨rfl,rfl⟩
   ·refine Gz (p:=p) (.inl ⟨rfl,rfl⟩) rfl d λG3 B=>?_;walk_at "pa";refine Gz (p:=p) (.inl ⟨rfl,rfl⟩) rfl (B _ _ d) λS o=>?_;walk_at "pa";exact Jx (b:=false) rfl (I _ (B.trans o))
   ·refine Gz (p:=p) (.inr ⟨⟨_,rfl⟩,rfl⟩) rfl d λG3 B=>?_;walk_at "pa";refine aA (p:=p) rfl (B _ _ d) λS o=>?_;walk_at "pa";refine Gz (p:=p) (.inr ⟨⟨_,rfl⟩,rfl⟩) rfl (o _ _ (B _ _ d)) λG5 s5=>?_;walk_at "pa";exact I _ ((B.trans o).trans s5)
  have hp3:=B _ _ d;refine P7 (λZ I=>?_) λS o=>?_
  ·simp only[gOr,A7];rcases N with⟨u,rfl,n,L,rfl,rfl⟩|⟨rfl,rfl⟩
   ·refine Gz (p:=p) (.inl ⟨rfl,rfl⟩) rfl hp3 λS o=>?_;walk_at "pa";refine az (t:=u) rfl rfl n L ?_;walk_at "pa";simp only[gTB,Ad,Af,Ai,Aa,Ac,Ab,Yb,Yc];refine⟨u,rfl,n,uC n,u,⟨rfl,n.1,n.2.2,by have:=n.2.1;lia⟩,?_⟩;dsimp only;rw[Dp,AB,beq_self_eq_true];exact I _ o
   ·refine Gz (p:=p) (.inr ⟨⟨_,rfl⟩,rfl⟩) rfl hp3 λS o=>?_;walk_at "pa";exact I _ o
  refine J ?_;simp only[Ai,Aa,Ac,Ab,gC,Yb,Yc];refine⟨(),s,rfl,st ((s2.trans B).trans o),λr G5 A h5=>?_⟩;obtain⟨z,b,rfl,hz1,hz2⟩:=A;simp only[Bb,Yk,Yl];refine DX (λr=>∀ v p xs G6,G6 p=some (.lst xs)->(if b=true then ∃ u:Te,v=u.enc/\tg u/\z=u.txt/\xs=[]else xs=due true)->r D' (Om ns t (some (.int j)) none (some (.ref s)) (some (.str y)) (some (.bl wr)) (some v) (some (.ref p)) (some (.str z)) (some (.bl b))) G6) (λv p xs G6 d N=>?_) λr A=>J ?_;rotate_left
  ·simp only[Ai,Aa,Ac,Ab,gC,Yb,Yc];refine .inl ⟨z,rfl,by lia,?_⟩;cases b with
   | true =>
    obtain⟨u,e⟩:=hz2;obtain⟨n,L,_⟩:=ZL e;rw[e];exact λp H s' d=>A _ p _ H d (by rw[if_pos rfl];exact⟨u,rfl,n,Eb L,rfl⟩)
   | false =>
    have e:CI (cs z)=none:=hz2;rw[e];exact λp H s' d=>A _ p _ H d (by rw[if_neg (by decide)])
  refine wQ (λZ I=>?_) λG7 s7=>nx _ _ _ _ _ _ _ _;simp only[gOr,A7];cases b with
  | true =>
   rw[if_pos rfl]at N;obtain⟨u,rfl,n,L,rfl⟩:=N;refine Jx (b:=true) rfl ?_;walk_at "pa";refine Gz (p:=p) (.inl ⟨rfl,rfl⟩) rfl d λG7 s7=>?_;walk_at "pa";refine az (t:=u) rfl rfl n L ?_;walk_at "pa";simp only[gNt];refine Jx (b:=true) rfl ?_;walk_at "pa";exact I _ s7
  | false =>
   rw[if_neg (by decide)]at N;subst N;refine Jx (b:=false) rfl ?_;walk_at "pa";have nt:∀{g:GT}{ω:Sw}{G:Hw}{Z:Bool->Hw->Prop},(g ω G λb G1=>Z (!b) G1)->gNt g ω G Z:=λh=>h;refine nt (Jx (b:=false) rfl ?_);walk_at "pa";refine aA (p:=p) rfl d λG7 s7=>?_;exact I _ s7
 ·rintro ω G ⟨o3,R,U,X,O,Y,l,m,rfl⟩;dsimp only;refine AK ?_;simp only[Ai,Aa,Ac];obtain⟨h4,hl4⟩:=wW;refine⟨rfl,El,⟨rfl,h4.1,h4.2.2,h4.2.1⟩,?_⟩;simp only[Om,Yk,Yl];refine P7 (λZ I=>?_) λG3 B=>?_
  ·simp only[gOr,gTB,gNt,AH,Ad,Af,Ai,Aa,Ac,Ab,gC,Yb,Yc];refine .inl ⟨El.txt,rfl,by lia,?_⟩;rw[wR];intro p1 S o f4;simp only[ixW,BF,AB];refine⟨rfl,?_⟩;dsimp only;rw[wV,AB];simp only[Yq,if_false];rw[Hk];refine⟨Br (by show 4+_<=_;lia),?_⟩;rw[Hk];refine⟨Br (by rw[AW];show 4+_+1<=_;lia),.inl ⟨_,rfl,by rw[AW,AW];show 4+_+1<=_;lia,?_⟩⟩;rw[wU];intro p5 G5 s5 f5;simp only[ixW,CF,AB];exact⟨p5,true,rfl,f5,λG6 s6=>I _ ((o.trans s5).trans s6)⟩
  simp only[Aj,Ad,Af,Ai,Ah,Aa,Ac,Ab,gC,Yb,Yc];refine⟨ns,6,rfl,by decide,λs x b hs=>⟨sz rfl,.nd "num" (.num 3 .nil),s,⟨rfl,by decide +kernel,by decide,by decide⟩,⟨x,b,0,Ap⟩,λr S A h4=>?_⟩⟩;refine .inr ⟨r,rfl,A,λp5 G5 s5 f5=>?_⟩;simp only[ixW,CF,AB];exact⟨p5,false,rfl,f5,λG6 s6=>q _⟩
theorem HJ(h1:e.key=.str x t)(h2:e.val=.int i u)(r:KTD.Rows (KTD.Dat.At base) es D):KTD.Rows (KTD.Dat.At base) (e::es) ((x,KTD.Dat.flat (.int i))::D):=
 .cons h1 (by rw[h2];exact PyProof.V.Flat.int i u) r
theorem aB{st:Stmt}{f:Addr}{d:Option Addr}{kV a:Value}(l:K.lookup f=some ⟨e,g,.func (PySem.W.fnOf m qual (CA st) (AS st) (Ao st) .none kV a pm d cdv ct),b⟩)(c:PySem.W.codeIn K cdv qual=true)(k:PySem.W.keepIn K (.ref f)=true):Fun K m qual st f (PySem.W.fnOf m qual (CA st) (AS st) (Ao st) .none kV a pm d cdv ct):=
 ⟨⟨e,g,kV,a,pm,d,cdv,ct,b,rfl,l,c⟩,k⟩
theorem HK{st:Stmt}{f:Addr}{d:Array (Option Value)}{kV a:Value}(h:PySem.W.findIn K (.ref C) m=some (some (.ref f)))(g:PySem.W.isFn K (.ref f)=true)(l:K.lookup f=some ⟨i,j,.func (PySem.W.fnOf m qual (CA st) (AS st) (Ao st) .none kV a pm e cdv ct),d⟩)(c:PySem.W.codeIn K cdv qual=true)(k:PySem.W.keepIn K (.ref f)=true)(b:∀(kV a pm:Value)(e:Option Addr)(cdv ct:Value)(us:List Value),us.length=ps.length->bindArgs (PySem.W.fnOf m qual (CA st) (AS st) (Ao st) .none kV a pm e cdv ct) ⟨us,[]⟩=pure (ps.zip us)):FnM K C st m qual ps :=
 ⟨f,_,⟨h,g,k⟩,aB l c k,Binds.all λus hl=>b _ _ _ _ _ _ us hl⟩
theorem wY(X:K.In h)(G:h.Ns mainGlobals mg){st:Stmt}{f:Addr}{n:Value}{o:Option Addr}{d:Array (Option Value)}{kV a:Value}(j:PySem.W.nsIn K mainGlobals x=some (some (.ref C)))(m:PySem.W.makesIn K C=true)(kc:PySem.W.keepIn K (.ref C)=true)(i:PySem.W.findIn K (.ref C) "__init__"=some (some (.ref f)))(g:PySem.W.isFn K (.ref f)=true)(l:K.lookup f=some ⟨n,o,.func (PySem.W.fnOf "__init__" qual (CA st) (AS st) (Ao st) .none kV a pm e cdv ct),d⟩)(c:PySem.W.codeIn K cdv qual=true)(k:PySem.W.keepIn K (.ref f)=true)(b:∀(kV a pm:Value)(e:Option Addr)(cdv ct:Value)(us:List Value),us.length=ps.length->bindArgs (PySem.W.fnOf "__init__" qual (CA st) (AS st) (Ao st) .none kV a pm e cdv ct) ⟨us,[]⟩=pure (ps.zip us)):FnI K mg x C st qual ps :=
 ⟨f,_,PySem.W.mg_of X G j,⟨m,i,g,kc⟩,aB l c k,Binds.all λus hl=>b _ _ _ _ _ _ us hl⟩
variable {P:Program}{w:World}{K:PySem.W.Frag}{mg:Str->Option Value}{base:Heap}{a:Adr}{f:Bool}{s p:Addr}{G:Hw}{o:HW}{n d:Nat} in
theorem wZ{K:PySem.W.Frag}{h:Heap}{mg:Str->Option Value}(X:K.In h)(G:h.Ns mainGlobals mg)(FF:Fns K mg)(NN:Bls mg){j g c i f e b d:Addr}{Y:Addr}{js T:Tok}{ju:Nat}{jv:Array (Option Value)}{jw:Tok}{jx:Tok}{jy:Tok}{jz:Tok}{jA:Tok}{jB:Tok}{jC:Tok}{m:Addr}{jE:Nat}{r n E I l H:DictEntry}{jL jM jN jO jP jQ jR jS jT jU jV jW:Tok}{t:Addr}{jY:Nat}{k:DictEntry}{j0:Tok}{j1:Addr}{j2:Nat}{j3:Array (Option Value)}{j4:Tok}{F:DictEntry}{j6:Tok}{P:Addr}{j8:Nat}{j9:Array (Option Value)}{pa:Tok}{v:DictEntry}{pc:Tok}{pd:Addr}{pe:Nat}{pf:Array (Option Value)}{pg:Tok}{p:DictEntry}{pi:Tok}{pj:Addr}{pk:Nat}{pl:Array (Option Value)}{pn:Tok}{po:Tok}{pp:Tok}{J:DictEntry}{pr:Tok}{pt:Addr}{pu:Nat}{pv:Array (Option Value)}{pw:Tok}{px:Tok}{w:DictEntry}{pz:Tok}{pA:Addr}{pB:Nat}{pC:Array (Option Value)}{Z:Tok}{u:DictEntry}{pF:Tok}{pG:Addr}{pH:Nat}{pI:Array (Option Value)}{pJ:Tok}{Q:Tok}{x:DictEntry}{pM:Tok}{pN:Addr}{pO:Nat}{pP:Array (Option Value)}{N:Tok}{pR:Tok}{R:Tok}{s:DictEntry}{pU:Tok}{O:Addr}{pW:Nat}{pX:Array (Option Value)}{pY:Tok}{pZ:Tok}{p0:Tok}{y:DictEntry}{p6:Tok}{p7:Addr}{p8:Nat}{p9:Array (Option Value)}{za:Tok}{zb:Tok}{z:DictEntry}{zd:Tok}{ze:Addr}{zf:Nat}{zg:Array (Option Value)}{L:Tok}{zi:Tok}{q:DictEntry}{zk:Tok}{zl:Addr}{zm:Nat}{zn:Array (Option Value)}{S:Tok}{o:DictEntry}{zq:Tok}{zr:Addr}{zs:Nat}{zt:Array (Option Value)}{zu:Tok}{D:DictEntry}{zw:Tok}{U:Addr}{zy:Nat}{zz:Array (Option Value)}{zA:Tok}{zB:Tok}{A:DictEntry}{zD:Tok}{zE:Addr}{zF:Nat}{zG:Array (Option Value)}{zH:Tok}{zI:Tok}{zJ zK zL zM zN zO zP:ClassData}
  (qa:PySem.W.nsIn K mainGlobals "CastError"=some (some (.ref j)))
  (qb:PySem.W.nsIn K mainGlobals "NoKind"=some (some (.ref g)))
  (qc:PySem.W.nsIn K mainGlobals "NoTerm"=some (some (.ref c)))
  (qd:PySem.W.nsIn K mainGlobals "BadUse"=some (some (.ref i)))
  (qe:PySem.W.nsIn K mainGlobals "NoValue"=some (some (.ref f)))
  (qf:PySem.W.nsIn K mainGlobals "NoNumber"=some (some (.ref e)))
  (qg:PySem.W.nsIn K mainGlobals "BadNote"=some (some (.ref b)))
  (qh:PySem.W.nsIn K mainGlobals "Reader"=some (some (.ref d)))
  (qi:PySem.W.excIn K b [.type "ValueError",.type "Exception",.type "BaseException",.type "object"] "ValueError.__new__"=true)
  (qj:PySem.W.excIn K c [.type "ValueError",.type "Exception",.type "BaseException",.type "object"] "ValueError.__new__"=true)
  (qk:PySem.W.nsIn K mainGlobals "MARKS"=some (some (.ref Y)))
  (ql:K.lookup Y=some ⟨.type "tuple",none,.seq #[.str "must" js,.str "may" T] ju,jv⟩)
  (qm:PySem.W.nsIn K mainGlobals "MOST_DEPTH"=some (some (.int 8 jw)))
  (qn:PySem.W.nsIn K mainGlobals "MOST_FIGURES"=some (some (.int 20 jx)))
  (qo:PySem.W.nsIn K mainGlobals "MOST_KINDS"=some (some (.int 40 jy)))
  (qp:PySem.W.nsIn K mainGlobals "MOST_LETTERS"=some (some (.int 8 jz)))
  (qq:PySem.W.nsIn K mainGlobals "MOST_NUMBER"=some (some (.int 99999999999999999999 jA)))
  (qr:PySem.W.nsIn K mainGlobals "MOST_TERMS"=some (some (.int 40 jB)))
  (qs:PySem.W.nsIn K mainGlobals "MOST_TERM_DEPTH"=some (some (.int 10 jC)))
  (qt:PySem.W.nsIn K mainGlobals "LENGTHS"=some (some (.ref m)))
  (qu:K.lookup m=some ⟨.type "dict",none,.dict #[r,n,E,I,l,H] jE,#[]⟩)
  (qv:(m==sysModules)=false)
  (qw:r.key=.str "any" jL)
  (qx:r.val=.int 1 jM)
  (qy:n.key=.str "num" jN)
  (qz:n.val=.int 1 jO)
  (qA:E.key=.str "truth" jP)
  (qB:E.val=.int 1 jQ)
  (qC:I.key=.str "to" jR)
  (qD:I.val=.int 3 jS)
  (qE:l.key=.str "box" jT)
  (qF:l.val=.int 2 jU)
  (qG:H.key=.str "row" jV)
  (qH:H.val=.int 3 jW)
  (qI:PySem.W.nsIn K mainGlobals "FORMS"=some (some (.ref t)))
  (qJ:K.lookup t=some ⟨.type "dict",none,.dict #[k,F,v,p,J,w,u,x,s,y,z,q,o,D,A] jY,#[]⟩)
  (qK:(t==sysModules)=false)
  (qL:k.key=.str "num" j0)
  (qM:k.val=.ref j1)
  (qN:K.lookup j1=some ⟨.type "tuple",none,.seq #[.str "number" j4] j2,j3⟩)
  (qO:F.key=.str "truth" j6)
  (qP:F.val=.ref P)
  (qQ:K.lookup P=some ⟨.type "tuple",none,.seq #[.str "truth" pa] j8,j9⟩)
  (qR:v.key=.str "name" pc)
  (qS:v.val=.ref pd)
  (qT:K.lookup pd=some ⟨.type "tuple",none,.seq #[.str "name" pg] pe,pf⟩)
  (qU:p.key=.str "fun" pi)
  (qV:p.val=.ref pj)
  (qW:K.lookup pj=some ⟨.type "tuple",none,.seq #[.str "name" pn,.str "kind" po,.str "term" pp] pk,pl⟩)
  (qX:J.key=.str "call" pr)
  (qY:J.val=.ref pt)
  (qZ:K.lookup pt=some ⟨.type "tuple",none,.seq #[.str "term" pw,.str "term" px] pu,pv⟩)
  (q0:w.key=.str "rec" pz)
  (q1:w.val=.ref pA)
  (q2:K.lookup pA=some ⟨.type "tuple",none,.seq #[.str "fields" Z] pB,pC⟩)
  (q3:u.key=.str "get" pF)
  (q4:u.val=.ref pG)
  (q5:K.lookup pG=some ⟨.type "tuple",none,.seq #[.str "term" pJ,.str "name" Q] pH,pI⟩)
  (q6:x.key=.str "or" pM)
  (q7:x.val=.ref pN)
  (q8:K.lookup pN=some ⟨.type "tuple",none,.seq #[.str "term" N,.str "name" pR,.str "term" R] pO,pP⟩)
  (q9:s.key=.str "if" pU)
  (va:s.val=.ref O)
  (vb:K.lookup O=some ⟨.type "tuple",none,.seq #[.str "term" pY,.str "term" pZ,.str "term" p0] pW,pX⟩)
  (vc:y.key=.str "plus" p6)
  (vd:y.val=.ref p7)
  (ve:K.lookup p7=some ⟨.type "tuple",none,.seq #[.str "term" za,.str "term" zb] p8,p9⟩)
  (vf:z.key=.str "less" zd)
  (vg:z.val=.ref ze)
  (vh:K.lookup ze=some ⟨.type "tuple",none,.seq #[.str "term" L,.str "term" zi] zf,zg⟩)
  (vi:q.key=.str "new" zk)
  (vj:q.val=.ref zl)
  (vk:K.lookup zl=some ⟨.type "tuple",none,.seq #[.str "term" S] zm,zn⟩)
  (vl:o.key=.str "read" zq)
  (vm:o.val=.ref zr)
  (vn:K.lookup zr=some ⟨.type "tuple",none,.seq #[.str "term" zu] zs,zt⟩)
  (vo:D.key=.str "write" zw)
  (vp:D.val=.ref U)
  (vq:K.lookup U=some ⟨.type "tuple",none,.seq #[.str "term" zA,.str "term" zB] zy,zz⟩)
  (vr:A.key=.str "as" zD)
  (vs:A.val=.ref zE)
  (vt:K.lookup zE=some ⟨.type "tuple",none,.seq #[.str "term" zH,.str "kind" zI] zF,zG⟩)
  (vu:PySem.W.clsIn K b=some zJ)
  (vv:PySem.W.clsIn K i=some zK)
  (vw:PySem.W.clsIn K j=some zL)
  (vx:PySem.W.clsIn K g=some zM)
  (vy:PySem.W.clsIn K e=some zN)
  (vz:PySem.W.clsIn K c=some zO)
  (vA:PySem.W.clsIn K f=some zP)
  (vB:PySem.W.typeIn K (.ref b)=some (.type "type"))
  (vC:PySem.W.typeIn K (.ref i)=some (.type "type"))
  (vD:PySem.W.typeIn K (.ref j)=some (.type "type"))
  (vE:PySem.W.typeIn K (.ref g)=some (.type "type"))
  (vF:PySem.W.typeIn K (.ref e)=some (.type "type"))
  (vG:PySem.W.typeIn K (.ref c)=some (.type "type"))
  (vH:PySem.W.typeIn K (.ref f)=some (.type "type"))
  (vI:PySem.W.subIn K (.ref j) (.type "BaseException")=some true)
  (vJ:PySem.W.subIn K (.ref c) (.ref j)=some true)
  (vK:PySem.W.subIn K (.ref c) (.ref g)=some false)
  (vL:PySem.W.subIn K (.ref c) (.ref i)=some false)
  (vM:PySem.W.subIn K (.ref c) (.ref f)=some false)
  (vN:PySem.W.subIn K (.ref c) (.ref e)=some false)
  (vO:PySem.W.subIn K (.ref c) (.ref b)=some false)
  (vP:PySem.W.subIn K (.ref c) (.type "ValueError")=some true)
  (vQ:PySem.W.subIn K (.ref b) (.ref j)=some true)
  (vR:PySem.W.subIn K (.ref b) (.ref g)=some false)
  (vS:PySem.W.subIn K (.ref b) (.ref c)=some false)
  (vT:PySem.W.subIn K (.ref b) (.ref i)=some false)
  (vU:PySem.W.subIn K (.ref b) (.ref f)=some false)
  (vV:PySem.W.subIn K (.ref b) (.ref e)=some false)
  (vW:PySem.W.subIn K (.ref b) (.type "ValueError")=some true)
  (vX:(Value.ref b==Value.ref i)=false)
  (vY:(Value.ref b==Value.ref g)=false)
  (vZ:(Value.ref b==Value.ref e)=false)
  (v0:(Value.ref b==Value.ref c)=false)
  (v1:(Value.ref b==Value.ref f)=false)
  (v2:(Value.ref c==Value.ref b)=false)
  (v3:(Value.ref c==Value.ref i)=false)
  (v4:(Value.ref c==Value.ref g)=false)
  (v5:(Value.ref c==Value.ref e)=false)
  (v6:(Value.ref c==Value.ref f)=false)
  (v7:PySem.W.findIn K (.ref b) "__getattribute__"=some (some (.builtin "BaseException.__getattribute__")))
  (v8:PySem.W.findIn K (.ref b) "__getattr__"=some none)
  (v9:PySem.W.findIn K (.ref b) "__class__"=some (some (.builtin "object.__class__")))
  (ja:PySem.W.mroIn K b (.type "object")=some true)
  (jb:PySem.W.mroIn K b (.type "BaseException")=some true)
  (jc:PySem.W.findIn K (.ref c) "__getattribute__"=some (some (.builtin "BaseException.__getattribute__")))
  (jd:PySem.W.findIn K (.ref c) "__getattr__"=some none)
  (je:PySem.W.findIn K (.ref c) "__class__"=some (some (.builtin "object.__class__")))
  (jf:PySem.W.mroIn K c (.type "object")=some true)
  (jg:PySem.W.mroIn K c (.type "BaseException")=some true)
  (jh:PySem.W.specialIn K (.builtin "object.__class__") "__get__"=some (some (.builtin "getset_descriptor.__get__")))
  (ji:PySem.W.takesIn K (.builtin "object.__class__")=some true)
  (AJ:Cls K d)
  (B2:NoAttr K d "place")
  (CN:NoAttr K d "text")
  (Kh:FnI K mg "Reader" d Iw "Reader.__init__" ["self","text"])
  (Ki:FnM K d Iy "sees" "Reader.sees" ["self","piece"])
  (Kj:FnM K d Iz "takes" "Reader.takes" ["self","piece"])
  (Kk:FnM K d Gb "wants" "Reader.wants" ["self","piece"])
  (Kl:FnM K d Gc "wants_end" "Reader.wants_end" ["self"])
  (Km:FnM K d IA "word" "Reader.word" ["self"])
  (Kn:FnM K d IB "figures" "Reader.figures" ["self"]):
  ∃ a:Adr,∀ base:Heap,K.In base->Tx K mg base a:=by
 refine⟨⟨j,g,c,i,f,e,b,d⟩,λbase B=>?_⟩
 exact{
  toFns:=FF
  toBls:=NN
  Ue:=PySem.W.mg_of X G qa
  Ug:=PySem.W.mg_of X G qb
  Oq:=PySem.W.mg_of X G qc
  Uh:=PySem.W.mg_of X G qd
  Ui:=PySem.W.mg_of X G qe
  Uj:=PySem.W.mg_of X G qf
  Dr:=PySem.W.mg_of X G qg
  mI:=PySem.W.mg_of X G qh
  DO:=qi
  Uk:=qj
  Ul:=vD
  Um:=C8 vw
  Uo:=vI
  Up:=lr X G (dd:=none) (ts:=[("must",js),("may",T)]) qk ql (by simp)
  Uq:=Ga X G qm
  Ur:=Ga X G qn
  Us:=Ga X G qo
  Ut:=Ga X G qp
  Uu:=Ga X G qq
  Uv:=Ga X G qr
  Uw:=Ga X G qs
  Ux:=ls X G B qt qu qv ⟨rfl,rfl,rfl⟩ rfl (HJ qw qx (HJ qy qz (HJ qA qB (HJ qC qD (HJ qE qF (HJ qG qH .nil))))))
  Uy:=kr X G B qI qJ qK ⟨rfl,rfl,rfl⟩ rfl (CD (dd:=none) (ts:=[("number",j4)]) qL qM qN (by simp) (CD (dd:=none) (ts:=[("truth",pa)]) qO qP qQ (by simp) (CD (dd:=none) (ts:=[("name",pg)]) qR qS qT (by simp) (CD (dd:=none) (ts:=[("name",pn),("kind",po),("term",pp)]) qU qV qW (by simp) (CD (dd:=none) (ts:=[("term",pw),("term",px)]) qX qY qZ (by simp) (CD (dd:=none) (ts:=[("fields",Z)]) q0 q1 q2 (by simp) (CD (dd:=none) (ts:=[("term",pJ),("name",Q)]) q3 q4 q5 (by simp) (CD (dd:=none) (ts:=[("term",N),("name",pR),("term",R)]) q6 q7 q8 (by simp) (CD (dd:=none) (ts:=[("term",pY),("term",pZ),("term",p0)]) q9 va vb (by simp) (CD (dd:=none) (ts:=[("term",za),("term",zb)]) vc vd ve (by simp) (CD (dd:=none) (ts:=[("term",L),("term",zi)]) vf vg vh (by simp) (CD (dd:=none) (ts:=[("term",S)]) vi vj vk (by simp) (CD (dd:=none) (ts:=[("term",zu)]) vl vm vn (by simp) (CD (dd:=none) (ts:=[("term",zA),("term",zB)]) vo vp vq (by simp) (CD (dd:=none) (ts:=[("term",zH),("kind",zI)]) vr vs vt (by simp) .nil)))))))))))))))
  Uz:=vJ
  UA:=⟨jc,jd,C8 vz,je,jh,ji,jf,jg⟩
  UB:=D9 v4 (C8 vx) vE vK
  UC:=TC
  UD:=D9 v3 (C8 vv) vC vL
  UE:=D9 v6 (C8 vA) vH vM
  UF:=D9 v5 (C8 vy) vF vN
  UG:=D9 v2 (C8 vu) vB vO
  UH:=TD (by decide +kernel) vP
  UI:=vQ
  UJ:=⟨v7,v8,C8 vu,v9,jh,ji,ja,jb⟩
  UK:=D9 vY (C8 vx) vE vR
  UL:=D9 v0 (C8 vz) vG vS
  UM:=D9 vX (C8 vv) vC vT
  UN:=D9 v1 (C8 vA) vH vU
  UO:=D9 vZ (C8 vy) vF vV
  UP:=TC
  UQ:=TD (by decide +kernel) vW
  AJ:=AJ
  B2:=B2
  CN:=CN
  Kh:=Kh
  Ki:=Ki
  Kj:=Kj
  Kk:=Kk
  Kl:=Kl
  Km:=Km
  Kn:=Kn}
end
end
end
end
end
end
end KZ
open PySem PySem.W PyProof.Rows
local macro_rules | `(tactic| walk_at "fb") => `(tactic| (intro _ _ _ _ _ _ us hl; first | (obtain rfl := L3.ln0 hl; rfl) | (obtain ⟨_, _, rfl, g0⟩ := L3.ln1 hl; first | (obtain rfl := L3.ln0 g0; rfl) | (obtain ⟨_, _, rfl, g1⟩ := L3.ln1 g0; first | (obtain rfl := L3.ln0 g1; rfl) | (obtain ⟨_, _, rfl, g2⟩ := L3.ln1 g1; first | (obtain rfl := L3.ln0 g2; rfl) | (obtain ⟨_, _, rfl, g3⟩ := L3.ln1 g2; first | (obtain rfl := L3.ln0 g3; rfl) | (obtain ⟨_, _, rfl, g4⟩ := L3.ln1 g3; obtain rfl := L3.ln0 g4; rfl)))))))
local macro_rules | `(tactic| walk_at "fk") => `(tactic| (dsimp only [L2.KOf]; refine' L3.lq KX G ?e ?l ?c ?k ?b; (case e => k_is); (case l => k_is); (case c => k_is); (case k => k_is); (case b => walk_at "fb")))
set_option maxRecDepth 100000 in
set_option maxHeartbeats 0 in
theorem PySem.Challenge.cw_castwright_k86_texts_that_write_no_term_holds : PySem.Challenge.rw_castwright_k86_texts_that_write_no_term.Holds := by
 show KZ.rwS.Holds
 w_on;refine holds_law KZ.wsd λsaid=>?_
 refine holds_open (r:=KZ.rwS.row) (q:=KZ.vwS) (loose:=["LENGTHS","FORMS"]) (N:=8768)
  (Yf:=(kHook KZ.KF KZ.KL KZ.kfe).obs) (Ya:=(kHook KZ.KF KZ.KL KZ.kfe).val) (YP:=(kHook KZ.KF KZ.KL KZ.kfe).says)
  (Xt:=λs=>xlAt KZ.vwS [] s&&recOk (RowW.records KZ.rwS.row.toRowW) s)
  (XP:=XL KZ.vwS []) ?hl (kHook KZ.KF KZ.KL KZ.kfe).of (kHook KZ.KF KZ.KL KZ.kfe).keeps ?g1 XL.keeps rfl rfl rfl ?g2 rfl
  ?g3 (by decide +kernel) ?g4 ?hw ?hc
 case g1=>exact λs e=>xl_of s (Qe.mp e).1
 case g2=>exact λs e=>recFacts_of (Qe.mp e).2
 case g3=>first | assumption | decide +kernel
 case g4=>exact⟨rfl,rfl,rfl,rfl,rfl,by decide +kernel⟩
 case hw=>w_witness2
 case hl=>exact byRow2 "special-get-raises" KZ.lbf KZ.lbt
 k_fill
 refine L3.lu (l:=KZ.rwS) (k:=73) ⟨rfl,by decide,by decide⟩ rfl rfl (λw h Y=>PySem.W.kIn_of Y) ?F
 case F =>
  intro w mg fa h KX G hmg
  have FF:KZ.Fns (L2.KOf KX) mg:=by constructor <;> walk_at "fk"
  have NN:KZ.Bls mg:=by constructor <;> exact PySem.W.mg_none_of KX G (by k_is)
  have HR:∃ C:Addr,PySem.W.nsIn (L2.KOf KX) mainGlobals "Reader"=some (some (.ref C))/\L2.Cls (L2.KOf KX) C/\L2.NoAttr (L2.KOf KX) C "place"/\L2.NoAttr (L2.KOf KX) C "text"/\L3.FnI (L2.KOf KX) mg "Reader" C KZ.Iw "Reader.__init__" ["self","text"]/\L3.FnM (L2.KOf KX) C KZ.Iy "sees" "Reader.sees" ["self","piece"]/\L3.FnM (L2.KOf KX) C KZ.Iz "takes" "Reader.takes" ["self","piece"]/\L3.FnM (L2.KOf KX) C KZ.Gb "wants" "Reader.wants" ["self","piece"]/\L3.FnM (L2.KOf KX) C KZ.Gc "wants_end" "Reader.wants_end" ["self"]/\L3.FnM (L2.KOf KX) C KZ.IA "word" "Reader.word" ["self"]/\L3.FnM (L2.KOf KX) C KZ.IB "figures" "Reader.figures" ["self"]:=by
   dsimp only[L2.KOf]
   refine' ⟨_,?e,⟨?p1,?p2,?p3,?p4⟩,?B2,?CN,KZ.wY KX G ?i0 ?i1 ?i2 ?i3 ?i4 ?i5 ?i6 ?i7 ?i8,KZ.HK ?Reader_sees0 ?Reader_sees1 ?Reader_sees2 ?Reader_sees3 ?Reader_sees4 ?Reader_sees5,KZ.HK ?Reader_takes0 ?Reader_takes1 ?Reader_takes2 ?Reader_takes3 ?Reader_takes4 ?Reader_takes5,KZ.HK ?Reader_wants0 ?Reader_wants1 ?Reader_wants2 ?Reader_wants3 ?Reader_wants4 ?Reader_wants5,KZ.HK ?Reader_wants_end0 ?Reader_wants_end1 ?Reader_wants_end2 ?Reader_wants_end3 ?Reader_wants_end4 ?Reader_wants_end5,KZ.HK ?Reader_word0 ?Reader_word1 ?Reader_word2 ?Reader_word3 ?Reader_word4 ?Reader_word5,KZ.HK ?Reader_figures0 ?Reader_figures1 ?Reader_figures2 ?Reader_figures3 ?Reader_figures4 ?Reader_figures5⟩
   (case e=>k_is)
   (case p1=>k_is)
   (case p2=>k_is)
   (case p3=>k_is)
   (case p4=>k_is)
   (case B2=>(show PySem.W.findIn _ _ _=some none);k_is)
   (case CN=>(show PySem.W.findIn _ _ _=some none);k_is)
   (case i0=>k_is)
   (case i1=>k_is)
   (case i2=>k_is)
   (case i3=>k_is)
   (case i4=>k_is)
   (case i5=>k_is)
   (case i6=>k_is)
   (case i7=>k_is)
   (case i8=>walk_at "fb")
   (case Reader_sees0=>k_is)
   (case Reader_sees1=>k_is)
   (case Reader_sees2=>k_is)
   (case Reader_sees3=>k_is)
   (case Reader_sees4=>k_is)
   (case Reader_sees5=>walk_at "fb")
   (case Reader_takes0=>k_is)
   (case Reader_takes1=>k_is)
   (case Reader_takes2=>k_is)
   (case Reader_takes3=>k_is)
   (case Reader_takes4=>k_is)
   (case Reader_takes5=>walk_at "fb")
   (case Reader_wants0=>k_is)
   (case Reader_wants1=>k_is)
   (case Reader_wants2=>k_is)
   (case Reader_wants3=>k_is)
   (case Reader_wants4=>k_is)
   (case Reader_wants5=>walk_at "fb")
   (case Reader_wants_end0=>k_is)
   (case Reader_wants_end1=>k_is)
   (case Reader_wants_end2=>k_is)
   (case Reader_wants_end3=>k_is)
   (case Reader_wants_end4=>k_is)
   (case Reader_wants_end5=>walk_at "fb")
   (case Reader_word0=>k_is)
   (case Reader_word1=>k_is)
   (case Reader_word2=>k_is)
   (case Reader_word3=>k_is)
   (case Reader_word4=>k_is)
   (case Reader_word5=>walk_at "fb")
   (case Reader_figures0=>k_is)
   (case Reader_figures1=>k_is)
   (case Reader_figures2=>k_is)
   (case Reader_figures3=>k_is)
   (case Reader_figures4=>k_is)
   (case Reader_figures5=>walk_at "fb")
  obtain⟨C,h_e,w4,w5,w6,w9,xa,xb,xc,xf,xg,xh⟩:=HR
  have T:∃ a:KZ.Adr,∀ base:Heap,(L2.KOf KX).In base->KZ.Tx (L2.KOf KX) mg base a:=by
   dsimp only[L2.KOf]at *
   refine' KZ.wZ KX G FF NN ?qa ?qb ?qc ?qd ?qe ?qf ?qg h_e ?qi ?qj ?qk ?ql ?qm ?qn ?qo ?qp ?qq ?qr ?qs ?qt ?qu ?qv ?qw ?qx ?qy ?qz ?qA ?qB ?qC ?qD ?qE ?qF ?qG ?qH ?qI ?qJ ?qK ?qL ?qM ?qN ?qO ?qP ?qQ ?qR ?qS ?qT ?qU ?qV ?qW ?qX ?qY ?qZ ?q0 ?q1 ?q2 ?q3 ?q4 ?q5 ?q6 ?q7 ?q8 ?q9 ?va ?vb ?vc ?vd ?ve ?vf ?vg ?vh ?vi ?vj ?vk ?vl ?vm ?vn ?vo ?vp ?vq ?vr ?vs ?vt ?vu ?vv ?vw ?vx ?vy ?vz ?vA ?vB ?vC ?vD ?vE ?vF ?vG ?vH ?vI ?vJ ?vK ?vL ?vM ?vN ?vO ?vP ?vQ ?vR ?vS ?vT ?vU ?vV ?vW ?vX ?vY ?vZ ?v0 ?v1 ?v2 ?v3 ?v4 ?v5 ?v6 ?v7 ?v8 ?v9 ?ja ?jb ?jc ?jd ?je ?jf ?jg ?jh ?ji w4 w5 w6 w9 xa xb xc xf xg xh
   (case qa=>k_is)
   (case qb=>k_is)
   (case qc=>k_is)
   (case qd=>k_is)
   (case qe=>k_is)
   (case qf=>k_is)
   (case qg=>k_is)
   (case qi=>k_exc)
   (case qj=>k_exc)
   (case qk=>k_is)
   (case ql=>k_is)
   (case qm=>k_is)
   (case qn=>k_is)
   (case qo=>k_is)
   (case qp=>k_is)
   (case qq=>k_is)
   (case qr=>k_is)
   (case qs=>k_is)
   (case qt=>k_is)
   (case qu=>k_is)
   (case qv=>decide)
   (case qw=>exact rfl)
   (case qx=>exact rfl)
   (case qy=>exact rfl)
   (case qz=>exact rfl)
   (case qA=>exact rfl)
   (case qB=>exact rfl)
   (case qC=>exact rfl)
   (case qD=>exact rfl)
   (case qE=>exact rfl)
   (case qF=>exact rfl)
   (case qG=>exact rfl)
   (case qH=>exact rfl)
   (case qI=>k_is)
   (case qJ=>k_is)
   (case qK=>decide)
   (case qL=>exact rfl)
   (case qM=>exact rfl)
   (case qN=>k_is)
   (case qO=>exact rfl)
   (case qP=>exact rfl)
   (case qQ=>k_is)
   (case qR=>exact rfl)
   (case qS=>exact rfl)
   (case qT=>k_is)
   (case qU=>exact rfl)
   (case qV=>exact rfl)
   (case qW=>k_is)
   (case qX=>exact rfl)
   (case qY=>exact rfl)
   (case qZ=>k_is)
   (case q0=>exact rfl)
   (case q1=>exact rfl)
   (case q2=>k_is)
   (case q3=>exact rfl)
   (case q4=>exact rfl)
   (case q5=>k_is)
   (case q6=>exact rfl)
   (case q7=>exact rfl)
   (case q8=>k_is)
   (case q9=>exact rfl)
   (case va=>exact rfl)
   (case vb=>k_is)
   (case vc=>exact rfl)
   (case vd=>exact rfl)
   (case ve=>k_is)
   (case vf=>exact rfl)
   (case vg=>exact rfl)
   (case vh=>k_is)
   (case vi=>exact rfl)
   (case vj=>exact rfl)
   (case vk=>k_is)
   (case vl=>exact rfl)
   (case vm=>exact rfl)
   (case vn=>k_is)
   (case vo=>exact rfl)
   (case vp=>exact rfl)
   (case vq=>k_is)
   (case vr=>exact rfl)
   (case vs=>exact rfl)
   (case vt=>k_is)
   (case vu=>k_is)
   (case vv=>k_is)
   (case vw=>k_is)
   (case vx=>k_is)
   (case vy=>k_is)
   (case vz=>k_is)
   (case vA=>k_is)
   (case vB=>k_is)
   (case vC=>k_is)
   (case vD=>k_is)
   (case vE=>k_is)
   (case vF=>k_is)
   (case vG=>k_is)
   (case vH=>k_is)
   (case vI=>k_is)
   (case vJ=>k_is)
   (case vK=>k_is)
   (case vL=>k_is)
   (case vM=>k_is)
   (case vN=>k_is)
   (case vO=>k_is)
   (case vP=>k_is)
   (case vQ=>k_is)
   (case vR=>k_is)
   (case vS=>k_is)
   (case vT=>k_is)
   (case vU=>k_is)
   (case vV=>k_is)
   (case vW=>k_is)
   (case vX=>decide)
   (case vY=>decide)
   (case vZ=>decide)
   (case v0=>decide)
   (case v1=>decide)
   (case v2=>decide)
   (case v3=>decide)
   (case v4=>decide)
   (case v5=>decide)
   (case v6=>decide)
   (case v7=>k_is)
   (case v8=>k_is)
   (case v9=>k_is)
   (case ja=>k_is)
   (case jb=>k_is)
   (case jc=>k_is)
   (case jd=>k_is)
   (case je=>k_is)
   (case jf=>k_is)
   (case jg=>k_is)
   (case jh=>k_is)
   (case ji=>k_is)
  obtain⟨a,T⟩:=T
  obtain⟨f,fd,hm,F,_⟩:=FF.mC
  have e0:=hmg.symm.trans hm
  cases e0
  obtain⟨oc,od,kV,doc,pm,an,cdv,ct,osl,rfl,lk,hcd⟩:=F.ex
  exact⟨_,λs u=>.of_eq rfl,λbase kb nb=>KZ.wX (T base kb) F⟩

