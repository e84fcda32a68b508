import PyProof.Rows.All
import Wide.All
import Wide.FinOn
import Lean
import PyProof.EqAt
import PyProof.EqKinds
import PyProof.TupleCall
import PyProof.AttrMissHeap
import KE.KDictOf
import PyProof.SetRoads
import PyProof.CollectWalk
import PyProof.ZipIter
import PyProof.TupleIter
import PyProof.NeKinds
import PyProof.DictStraight
import PyProof.WalksMore
import KE.KDictList
import KE.KSortTup
import KE.KItemsList
import KE.KxBytes
import OpenK.KRaise
import Open.Recs
import OpenK.KDescr
import OpenK.KGet
import OpenK.KMore
import Open.Fast
import OpenK.KWalk
import KE.KTab
import OpenK.KFacts
import KE.KSortAsk
import KE.KFromBytes
import OpenK.KCall
import Open.Claim
import KE.KIsAll
import OpenK.KMake
import OpenK.KLine
import Open.Line
import Open.Head
import Open.Strs
import Open.FastLooks
import OpenK.KOwn
import KE.KItem
import OpenK.Peek
import OpenK.KCls
import Open.FastTabs
import Open.Row
import PySem.Challenge.RW_castwright_k65_no_values
set_option compiler.extract_closed false
set_option Elab.async false
set_option linter.all false
set_option maxRecDepth 100000
set_option maxHeartbeats 4000000
theorem Qzz(n:Nat)(h:n<=9:=by decide):n<=PySem.sizeLine:=Nat.le_trans h (by decide)
noncomputable section
abbrev Yb:=@List.getElem?_cons_zero
abbrev Yc:=@List.getElem?_cons_succ
abbrev Yd:=@List.mem_cons_of_mem
abbrev Ye:=@List.mem_cons_self
abbrev Yg:=@List.length_cons
abbrev Yh:=@List.length_map
abbrev Yi:=@List.length_nil
abbrev Yj:=@List.length_append
abbrev Yk:=@List.set_cons_zero
abbrev Yl:=@List.set_cons_succ
abbrev Ym:=@List.map_cons
abbrev Yn:=@List.size_toArray
abbrev Yo:=@List.mem_cons
abbrev Yp:=@List.getElem?_eq_getElem
abbrev Yq:=@Bool.false_eq_true
abbrev Yr:=@Nat.le_refl
abbrev Ys:=@Nat.ne_of_lt
abbrev Yt:=@Nat.le_trans
abbrev Yu:=@Nat.lt_of_lt_of_le
abbrev Yv:=@List.append_assoc
abbrev Yw:=@List.nil_append
abbrev Yx:=@List.append_nil
abbrev Yy:=@List.map_append
abbrev Yz:=@List.mem_append
abbrev YA:=@List.mem_singleton
abbrev YB:=@List.map_map
abbrev YC:=@List.mem_map
abbrev YD:=@List.pairwise_cons
abbrev YE:=@Option.map_some
abbrev YF:=@Option.some.inj
abbrev YG:=@Bool.not_true
abbrev YH:=@Bool.and_eq_true
abbrev YI:=@decide_eq_true
abbrev YJ:=@List.map_nil
abbrev YK:=@List.getElem?_append_left
abbrev YL:=@Nat.le_of_lt
abbrev YM:=@Nat.lt_irrefl
abbrev YN:=@List.mem_map_of_mem
abbrev YO:=@List.mem_append_left
abbrev YQ:=@List.mem_append_right
abbrev YR:=@Bool.not_false
abbrev YS:=@Array.getElem?_toList
abbrev YT:=@List.getElem?_map
abbrev YU:=@decide_eq_true_eq
abbrev YV:=@Option.map_eq_some_iff
abbrev YW:=@List.nodup_cons
abbrev YX:=@Array.length_toList
abbrev YY:=@Bool.false_ne_true
abbrev YZ:=@Nat.zero_le
abbrev Qa:=@Ne.symm
abbrev Qb:=@Array.getElem?_eq_getElem
abbrev Qc:=@List.getElem?_eq_some_iff
abbrev Qd:=@List.not_mem_nil
abbrev Qe:=@List.getD_eq_getElem?_getD
abbrev Qf:=@List.flatMap_cons
abbrev Qg:=@Option.bind_eq_some_iff
abbrev Qh:=@PyProof.Rows.callWith_type1
abbrev Qi:=@List.getElem?_eq_none
abbrev Qj:=@List.length_eq_zero_iff
abbrev Qk:=@List.getElem_mem
abbrev Ql:=@False.elim
open PySem in
abbrev Qm:=@Heap.get?_push_of_some
open PySem in
abbrev Qn:=@Heap.lt_size
open PySem in
abbrev Qo:=@Heap.get?_push_size
open PySem in
abbrev Qp:=@Heap.size_push
open PySem in
abbrev Qq:=@Heap.SameBut.update
open PySem in
abbrev Qr:=@Heap.get?_update_self
set_option hygiene false in
local macro_rules | `(tactic| walk_at "pa")=>`(tactic| (simp only [Yk,Yl]))
set_option hygiene false in
local macro_rules | `(tactic| walk_at "pb")=>`(tactic| (refine wpAny_bind (wpAny_bind (wpAny_askSetting (wpAny_pure ?_)))))
set_option hygiene false in
local macro_rules | `(tactic| walk_at "pc")=>`(tactic| (simp only [YH] at h'))
set_option hygiene false in
local macro_rules | `(tactic| walk_at "pd")=>`(tactic| (simp only [Fo Ak,Option.bind_some,M4,YE,Ao]))
set_option hygiene false in
local macro_rules | `(tactic| walk_at "pe")=>`(tactic| (simp only [Yo,Qd,or_false,not_or]))
set_option hygiene false in
local macro_rules | `(tactic| walk_at "pf")=>`(tactic| (show wpAny (model prog w) _ (if bt w=true then _ else _) _ _ s))
set_option hygiene false in
local macro_rules | `(tactic| walk_at "pg")=>`(tactic| (rcases Yo.mp a with rfl | a))
set_option hygiene false in
local macro_rules | `(tactic| walk_at "ph")=>`(tactic| (rcases Yo.mp h with rfl | h))
set_option hygiene false in
local macro_rules | `(tactic| walk_at "pi")=>`(tactic| (exact d.fpOk (Yr _) (d.hok.fresh (Yr _))))
set_option hygiene false in
local macro_rules | `(tactic| walk_at "pj")=>`(tactic| (refine ⟨by decide,by decide,?_⟩))
set_option hygiene false in
local macro_rules | `(tactic| walk_at "pk")=>`(tactic| (refine wpAny_bind (wpAny_setField hi rfl (by simp) ?_)))
set_option hygiene false in
local macro_rules | `(tactic| walk_at "pl")=>`(tactic| (simp only [YG,Yq,if_false]))
namespace L2
open PySem PySem.Spec PyProof.Rows
def Jo(s:Stmt)(j:Nat):Stmt:=match s with
 | .ClassDef _ _ _ body _ _ _ _ _ _ _=>body.getD j (.Pass ⟨0,0,0,0⟩)
 | _=>.Pass ⟨0,0,0,0⟩
def Dv(s:Stmt):Arguments:=match s with
 | .FunctionDef _ a _ _ _ _ _ _ _ _=>a
 | _=>{posonlyargs:=[],args:=[],vararg:=none,kwonlyargs:=[],kw_defaults:=[],kwarg:=none,defaults:=[]}
def Bn(s:Stmt):List Stmt:=match s with
 | .FunctionDef _ _ b _ _ _ _ _ _ _=>b
 | _=>[]
def Aq(s:Stmt):Scope:=match s with
 | .FunctionDef _ _ _ _ _ _ sc _ _ _=>sc
 | _=>{kind:=.function,names:=[],isGenerator:=false,isCoroutine:=false}
end L2
namespace KR
open PySem PySem.Spec PyProof.Rows L2
 def top (i:Nat):Stmt:=PySem.Challenge.pw_castwright_k65_no_values.main.body.getD i (.Pass ⟨0,0,0,0⟩)
abbrev pwS:Program:=PySem.Challenge.pw_castwright_k65_no_values
abbrev rwS:PySem.W.OpenLaw:=PySem.Challenge.rw_castwright_k65_no_values
noncomputable def vwS:Program:=PySem.W.view pwS [1,2,3,4,5,6,7,9,10,11,12,13,14,15,16,17,18,19,20,21,22,23,24,25,26,27,28,29,31,33,34,35,36,37,38,39,40,41,42,43,44,45,46,47,48,49,50,51,52,53,54,55,57,58,59,60,61,62,63,64,65,66,67,68,69,70,71,72,73,74,75]
abbrev en(P:Params)(k:Str)(t:Tok)(v:Value):DictEntry:=⟨PyData.keyHash P k,.str k t,v⟩
abbrev co(n:Str)(a l g r f e:Nat)(x y:Value)(z t u:Nat):Obj:=.mk (.type "code") Option.none (.fields #[.str n a,.str n (a+1),.str "/claim/cut.py" (a+2),.int l 0,.int g 0,.int 0 0,.int 0 0,.int 3 0,.ref r,.bool Bool.true,.int f 0,.ref e,.none,x,y,.ref z,.int t 0,.int l 0,.str "/claim/cut.py" u]) #[]
abbrev fo(n:Str)(s:Stmt)(q:Str)(t c:Nat):Obj:=.mk (.type "function") Option.none (.func (PySem.W.fnOf n n (Dv s) (Bn s) (Aq s) .none .none .none (.str q t) Option.none (.ref c) .none)) #[]
noncomputable def KF:Params->PySem.W.Frag:=λP=>
 (nat_lit 2,.mk .none Option.none (.dict #[]) #[])::
 (nat_lit 3,.mk (.type "dict") Option.none (.dict #[en P "__name__" 165 (.str "law_castwright_k65_no_values" 627),en P "__doc__" 166 .none,en P "__package__" 167 .none,en P "__loader__" 168 (.builtin "__main__.__loader__#opaque"),en P "__spec__" 169 .none,en P "__annotations__" 170 (.ref 6),en P "__builtins__" 171 (.ref 4),en P "__file__" 173 (.str "/claim/cut.py" 172),en P "__cached__" 174 .none,en P "CastError" 206 (.ref 24),en P "NoKind" 222 (.ref 37),en P "NoTerm" 238 (.ref 49),en P "BadUse" 263 (.ref 68),en P "NoValue" 279 (.ref 80),en P "NoNumber" 295 (.ref 92),en P "BadNote" 311 (.ref 104),en P "MOST_KINDS" 315 (.int 40 314),en P "MOST_DEPTH" 317 (.int 8 316),en P "MOST_LETTERS" 319 (.int 8 318),en P "MARKS" 322 (.ref 107),en P "LENGTHS" 341 (.ref 108),en P "entry_of" 350 (.ref 115),en P "names_of" 356 (.ref 120),en P "names_of_both" 364 (.ref 127),en P "is_data" 370 (.ref 132),en P "check_kind" 377 (.ref 139),en P "is_kind" 384 (.ref 146),en P "is_made_of" 390 (.ref 151),en P "layer_within" 400 (.ref 158),en P "kinds_in" 409 (.ref 165),en P "kinds_within" 415 (.ref 170),en P "has_form" 422 (.ref 177),en P "are_fields" 428 (.ref 182),en P "is_field" 435 (.ref 189),en P "is_name" 441 (.ref 194),en P "is_small_letter" 448 (.ref 201),en P "names_rise" 454 (.ref 206),en P "behind" 464 (.ref 213),en P "MOST_VALUES" 468 (.int 100 467),en P "MOST_VALUE_DEPTH" 470 (.int 10 469),en P "LETTERS" 472 (.str "abcdefghijklmnopqrstuvwxyz" 471),en P "fits" 480 (.ref 220),en P "misfit" 488 (.ref 227),en P "sample_of" 495 (.ref 234),en P "parting_value" 503 (.ref 241),en P "check_data_kind" 510 (.ref 248),en P "check_value" 517 (.ref 255),en P "values_within" 523 (.ref 260),en P "has_value_form" 529 (.ref 265),en P "is_value_field" 536 (.ref 272),en P "head_of" 543 (.ref 279),en P "misfit_of" 551 (.ref 286),en P "misfit_of_row" 561 (.ref 293),en P "misfit_of_field" 570 (.ref 300),en P "sample" 576 (.ref 305),en P "parting" 584 (.ref 312),en P "parting_row" 595 (.ref 319),en P "parting_field" 605 (.ref 326),en P "sample_with" 611 (.ref 331),en P "name_beyond" 619 (.ref 338),en P "two_letters" 626 (.ref 345),en P "_law_cell_at" 636 (.ref 352),en P "_law_state" 645 (.ref 359),en P "_law_choice" 655 (.ref 366),en P "_law_row" 669 (.ref 373),en P "_law_kind" 681 (.ref 380),en P "_law_drawn_kind" 693 (.ref 387),en P "_law_nested_kind" 702 (.ref 394),en P "_law_bad_kind" 708 (.ref 399),en P "_law_value" 719 (.ref 406),en P "_law_value_of" 731 (.ref 413),en P "_law_turned" 742 (.ref 420),en P "_law_drawn_value" 756 (.ref 427),en P "_law_values" 762 (.ref 432),en P "_law_marks" 770 (.ref 439),en P "_law_refused" 776 (.ref 444),en P "_law_called" 785 (.ref 451),en P "_law_told" 796 (.ref 458),en P "_law_bad_value" 802 (.ref 463),en P "law" 808 (.ref 468)] 80) #[])::
 (nat_lit 15,.mk (.type "tuple") Option.none (.seq #[.type "ValueError"]) #[])::
 (nat_lit 22,.mk (.type "tuple") Option.none (.seq #[]) #[])::
 (nat_lit 23,.mk (.type "dict") Option.none (.dict #[en P "__module__" 196 (.str "castwright.errors" 187),en P "__firstlineno__" 200 (.int 2 199),en P "__static_attributes__" 201 (.ref 22),en P "__weakref__" 203 (.ref 25),en P "__doc__" 204 .none] 3) #[])::
 (nat_lit 24,.mk (.type "type") Option.none (.cls (.mk "CastError" [.type "ValueError"] [.ref 24,.type "ValueError",.type "Exception",.type "BaseException",.type "object"] 23 "CastError" Bool.true [] [.ref 37,.ref 49,.ref 68,.ref 80,.ref 92,.ref 104] Bool.false Option.none Bool.false)) #[Option.some (.ref 15),Option.none,Option.some (.str "CastError" 189),Option.some (.str "CastError" 197),Option.some (.builtin "ValueError.__new__"),Option.some (.bool Bool.true)])::
 (nat_lit 25,.mk (.type "getset_descriptor") Option.none (.fields #[.str "__weakref__" 202,.ref 24,.builtin "ExceptionGroup.__weakref__",.none]) #[])::
 (nat_lit 28,.mk (.type "tuple") Option.none (.seq #[.ref 24]) #[])::
 (nat_lit 35,.mk (.type "tuple") Option.none (.seq #[]) #[])::
 (nat_lit 36,.mk (.type "dict") Option.none (.dict #[en P "__module__" 214 (.str "castwright.errors" 187),en P "__firstlineno__" 218 (.int 4 217),en P "__static_attributes__" 219 (.ref 35),en P "__doc__" 220 .none] 2) #[])::
 (nat_lit 37,.mk (.type "type") Option.none (.cls (.mk "NoKind" [.ref 24] [.ref 37,.ref 24,.type "ValueError",.type "Exception",.type "BaseException",.type "object"] 36 "NoKind" Bool.true [] [] Bool.false Option.none Bool.false)) #[Option.some (.ref 28),Option.none,Option.some (.str "NoKind" 207),Option.some (.str "NoKind" 215),Option.some (.builtin "ValueError.__new__"),Option.some (.bool Bool.true)])::
 (nat_lit 40,.mk (.type "tuple") Option.none (.seq #[.ref 24]) #[])::
 (nat_lit 47,.mk (.type "tuple") Option.none (.seq #[]) #[])::
 (nat_lit 48,.mk (.type "dict") Option.none (.dict #[en P "__module__" 230 (.str "castwright.errors" 187),en P "__firstlineno__" 234 (.int 6 233),en P "__static_attributes__" 235 (.ref 47),en P "__doc__" 236 .none] 2) #[])::
 (nat_lit 49,.mk (.type "type") Option.none (.cls (.mk "NoTerm" [.ref 24] [.ref 49,.ref 24,.type "ValueError",.type "Exception",.type "BaseException",.type "object"] 48 "NoTerm" Bool.true [] [] Bool.false Option.none Bool.false)) #[Option.some (.ref 40),Option.none,Option.some (.str "NoTerm" 223),Option.some (.str "NoTerm" 231),Option.some (.builtin "ValueError.__new__"),Option.some (.bool Bool.true)])::
 (nat_lit 52,.mk (.type "tuple") Option.none (.seq #[.ref 24]) #[])::
 (nat_lit 64,.mk (.type "code") Option.none (.fields #[.str "__init__" 251,.str "BadUse.__init__" 252,.str "/claim/cut.py" 253,.int 10 0,.int 2 0,.int 0 0,.int 0 0,.int 3 0,.ref 59,.bool Bool.true,.int 181 0,.ref 60,.none,.ref 61,.ref 62,.ref 63,.int 256 0,.int 10 0,.str "/claim/cut.py" 257]) #[])::
 (nat_lit 65,.mk (.type "function") Option.none (.func (PySem.W.fnOf "__init__" "BadUse.__init__" (Dv (Jo (top 4) 0)) (Bn (Jo (top 4) 0)) (Aq (Jo (top 4) 0)) .none .none .none (.str "castwright.errors" 187) Option.none (.ref 64) .none)) #[])::
 (nat_lit 66,.mk (.type "tuple") Option.none (.seq #[.str "path" 259]) #[])::
 (nat_lit 67,.mk (.type "dict") Option.none (.dict #[en P "__module__" 246 (.str "castwright.errors" 187),en P "__firstlineno__" 250 (.int 8 249),en P "__init__" 258 (.ref 65),en P "__static_attributes__" 260 (.ref 66),en P "__doc__" 261 .none] 2) #[])::
 (nat_lit 68,.mk (.type "type") Option.none (.cls (.mk "BadUse" [.ref 24] [.ref 68,.ref 24,.type "ValueError",.type "Exception",.type "BaseException",.type "object"] 67 "BadUse" Bool.true [] [] Bool.false Option.none Bool.false)) #[Option.some (.ref 52),Option.none,Option.some (.str "BadUse" 239),Option.some (.str "BadUse" 247),Option.some (.builtin "ValueError.__new__"),Option.some (.bool Bool.true)])::
 (nat_lit 71,.mk (.type "tuple") Option.none (.seq #[.ref 24]) #[])::
 (nat_lit 78,.mk (.type "tuple") Option.none (.seq #[]) #[])::
 (nat_lit 79,.mk (.type "dict") Option.none (.dict #[en P "__module__" 271 (.str "castwright.errors" 187),en P "__firstlineno__" 275 (.int 12 274),en P "__static_attributes__" 276 (.ref 78),en P "__doc__" 277 .none] 2) #[])::
 (nat_lit 80,.mk (.type "type") Option.none (.cls (.mk "NoValue" [.ref 24] [.ref 80,.ref 24,.type "ValueError",.type "Exception",.type "BaseException",.type "object"] 79 "NoValue" Bool.true [] [] Bool.false Option.none Bool.false)) #[Option.some (.ref 71),Option.none,Option.some (.str "NoValue" 264),Option.some (.str "NoValue" 272),Option.some (.builtin "ValueError.__new__"),Option.some (.bool Bool.true)])::
 (nat_lit 83,.mk (.type "tuple") Option.none (.seq #[.ref 24]) #[])::
 (nat_lit 90,.mk (.type "tuple") Option.none (.seq #[]) #[])::
 (nat_lit 91,.mk (.type "dict") Option.none (.dict #[en P "__module__" 287 (.str "castwright.errors" 187),en P "__firstlineno__" 291 (.int 14 290),en P "__static_attributes__" 292 (.ref 90),en P "__doc__" 293 .none] 2) #[])::
 (nat_lit 92,.mk (.type "type") Option.none (.cls (.mk "NoNumber" [.ref 24] [.ref 92,.ref 24,.type "ValueError",.type "Exception",.type "BaseException",.type "object"] 91 "NoNumber" Bool.true [] [] Bool.false Option.none Bool.false)) #[Option.some (.ref 83),Option.none,Option.some (.str "NoNumber" 280),Option.some (.str "NoNumber" 288),Option.some (.builtin "ValueError.__new__"),Option.some (.bool Bool.true)])::
 (nat_lit 95,.mk (.type "tuple") Option.none (.seq #[.ref 24]) #[])::
 (nat_lit 102,.mk (.type "tuple") Option.none (.seq #[]) #[])::
 (nat_lit 103,.mk (.type "dict") Option.none (.dict #[en P "__module__" 303 (.str "castwright.errors" 187),en P "__firstlineno__" 307 (.int 16 306),en P "__static_attributes__" 308 (.ref 102),en P "__doc__" 309 .none] 2) #[])::
 (nat_lit 104,.mk (.type "type") Option.none (.cls (.mk "BadNote" [.ref 24] [.ref 104,.ref 24,.type "ValueError",.type "Exception",.type "BaseException",.type "object"] 103 "BadNote" Bool.true [] [] Bool.false Option.none Bool.false)) #[Option.some (.ref 95),Option.none,Option.some (.str "BadNote" 296),Option.some (.str "BadNote" 304),Option.some (.builtin "ValueError.__new__"),Option.some (.bool Bool.true)])::
 (nat_lit 107,.mk (.type "tuple") Option.none (.seq #[.str "must" 320,.str "may" 321]) #[])::
 (nat_lit 108,.mk (.type "dict") Option.none (.dict #[en P "any" 323 (.int 1 324),en P "num" 325 (.int 1 326),en P "truth" 327 (.int 1 328),en P "to" 329 (.int 3 330),en P "box" 331 (.int 2 332),en P "row" 333 (.int 3 334)] 6) #[])::
 (nat_lit 114,co "entry_of" 342 24 2 109 181 110 (.ref 111) (.ref 112) 113 348 349)::
 (nat_lit 115,fo "entry_of" (top 14) "castwright.kinds" 312 114)::
 (nat_lit 119,co "names_of" 351 29 1 116 181 117 .none .none 118 354 355)::
 (nat_lit 120,fo "names_of" (top 15) "castwright.kinds" 312 119)::
 (nat_lit 126,co "names_of_both" 357 31 2 121 181 122 (.ref 123) (.ref 124) 125 362 363)::
 (nat_lit 127,fo "names_of_both" (top 16) "castwright.kinds" 312 126)::
 (nat_lit 131,co "is_data" 365 33 1 128 181 129 .none .none 130 368 369)::
 (nat_lit 132,fo "is_data" (top 17) "castwright.kinds" 312 131)::
 (nat_lit 138,co "check_kind" 371 36 1 133 181 134 (.ref 135) (.ref 136) 137 375 376)::
 (nat_lit 139,fo "check_kind" (top 18) "castwright.kinds" 312 138)::
 (nat_lit 145,co "is_kind" 378 39 1 140 181 141 (.ref 142) (.ref 143) 144 382 383)::
 (nat_lit 146,fo "is_kind" (top 19) "castwright.kinds" 312 145)::
 (nat_lit 150,co "is_made_of" 385 41 5 147 181 148 .none .none 149 388 389)::
 (nat_lit 151,fo "is_made_of" (top 20) "castwright.kinds" 312 150)::
 (nat_lit 157,co "layer_within" 391 54 2 152 181 153 (.ref 154) (.ref 155) 156 398 399)::
 (nat_lit 158,fo "layer_within" (top 21) "castwright.kinds" 312 157)::
 (nat_lit 164,co "kinds_in" 401 59 1 159 181 160 (.ref 161) (.ref 162) 163 407 408)::
 (nat_lit 165,fo "kinds_in" (top 22) "castwright.kinds" 312 164)::
 (nat_lit 169,co "kinds_within" 410 64 1 166 181 167 .none .none 168 413 414)::
 (nat_lit 170,fo "kinds_within" (top 23) "castwright.kinds" 312 169)::
 (nat_lit 176,co "has_form" 416 68 1 171 181 172 (.ref 173) (.ref 174) 175 420 421)::
 (nat_lit 177,fo "has_form" (top 24) "castwright.kinds" 312 176)::
 (nat_lit 181,co "are_fields" 423 74 1 178 181 179 .none .none 180 426 427)::
 (nat_lit 182,fo "are_fields" (top 25) "castwright.kinds" 312 181)::
 (nat_lit 188,co "is_field" 429 78 1 183 181 184 (.ref 185) (.ref 186) 187 433 434)::
 (nat_lit 189,fo "is_field" (top 26) "castwright.kinds" 312 188)::
 (nat_lit 193,co "is_name" 436 82 1 190 181 191 .none .none 192 439 440)::
 (nat_lit 194,fo "is_name" (top 27) "castwright.kinds" 312 193)::
 (nat_lit 200,co "is_small_letter" 442 86 1 195 181 196 (.ref 197) (.ref 198) 199 446 447)::
 (nat_lit 201,fo "is_small_letter" (top 28) "castwright.kinds" 312 200)::
 (nat_lit 205,co "names_rise" 449 88 1 202 181 203 .none .none 204 452 453)::
 (nat_lit 206,fo "names_rise" (top 29) "castwright.kinds" 312 205)::
 (nat_lit 212,co "behind" 457 91 2 207 181 208 (.ref 209) (.ref 210) 211 462 463)::
 (nat_lit 213,fo "behind" (top 31) "castwright.known" 455 212)::
 (nat_lit 219,co "fits" 473 97 2 214 181 215 (.ref 216) (.ref 217) 218 478 479)::
 (nat_lit 220,fo "fits" (top 36) "castwright.data" 465 219)::
 (nat_lit 226,co "misfit" 481 99 2 221 181 222 (.ref 223) (.ref 224) 225 486 487)::
 (nat_lit 227,fo "misfit" (top 37) "castwright.data" 465 226)::
 (nat_lit 233,co "sample_of" 489 103 1 228 181 229 (.ref 230) (.ref 231) 232 493 494)::
 (nat_lit 234,fo "sample_of" (top 38) "castwright.data" 465 233)::
 (nat_lit 240,co "parting_value" 496 106 2 235 181 236 (.ref 237) (.ref 238) 239 501 502)::
 (nat_lit 241,fo "parting_value" (top 39) "castwright.data" 465 240)::
 (nat_lit 247,co "check_data_kind" 504 110 1 242 181 243 (.ref 244) (.ref 245) 246 508 509)::
 (nat_lit 248,fo "check_data_kind" (top 40) "castwright.data" 465 247)::
 (nat_lit 254,co "check_value" 511 113 1 249 181 250 (.ref 251) (.ref 252) 253 515 516)::
 (nat_lit 255,fo "check_value" (top 41) "castwright.data" 465 254)::
 (nat_lit 259,co "values_within" 518 116 1 256 181 257 .none .none 258 521 522)::
 (nat_lit 260,fo "values_within" (top 42) "castwright.data" 465 259)::
 (nat_lit 264,co "has_value_form" 524 118 1 261 181 262 .none .none 263 527 528)::
 (nat_lit 265,fo "has_value_form" (top 43) "castwright.data" 465 264)::
 (nat_lit 271,co "is_value_field" 530 124 1 266 181 267 (.ref 268) (.ref 269) 270 534 535)::
 (nat_lit 272,fo "is_value_field" (top 44) "castwright.data" 465 271)::
 (nat_lit 278,co "head_of" 537 126 1 273 181 274 (.ref 275) (.ref 276) 277 541 542)::
 (nat_lit 279,fo "head_of" (top 45) "castwright.data" 465 278)::
 (nat_lit 285,co "misfit_of" 544 130 2 280 181 281 (.ref 282) (.ref 283) 284 549 550)::
 (nat_lit 286,fo "misfit_of" (top 46) "castwright.data" 465 285)::
 (nat_lit 292,co "misfit_of_row" 552 136 2 287 181 288 (.ref 289) (.ref 290) 291 559 560)::
 (nat_lit 293,fo "misfit_of_row" (top 47) "castwright.data" 465 292)::
 (nat_lit 299,co "misfit_of_field" 562 142 3 294 181 295 (.ref 296) (.ref 297) 298 568 569)::
 (nat_lit 300,fo "misfit_of_field" (top 48) "castwright.data" 465 299)::
 (nat_lit 304,co "sample" 571 148 1 301 181 302 .none .none 303 574 575)::
 (nat_lit 305,fo "sample" (top 49) "castwright.data" 465 304)::
 (nat_lit 311,co "parting" 577 154 2 306 181 307 (.ref 308) (.ref 309) 310 582 583)::
 (nat_lit 312,fo "parting" (top 50) "castwright.data" 465 311)::
 (nat_lit 318,co "parting_row" 585 162 2 313 181 314 (.ref 315) (.ref 316) 317 593 594)::
 (nat_lit 319,fo "parting_row" (top 51) "castwright.data" 465 318)::
 (nat_lit 325,co "parting_field" 596 169 2 320 181 321 (.ref 322) (.ref 323) 324 603 604)::
 (nat_lit 326,fo "parting_field" (top 52) "castwright.data" 465 325)::
 (nat_lit 330,co "sample_with" 606 179 3 327 181 328 .none .none 329 609 610)::
 (nat_lit 331,fo "sample_with" (top 53) "castwright.data" 465 330)::
 (nat_lit 337,co "name_beyond" 612 184 1 332 181 333 (.ref 334) (.ref 335) 336 617 618)::
 (nat_lit 338,fo "name_beyond" (top 54) "castwright.data" 465 337)::
 (nat_lit 344,co "two_letters" 620 189 1 339 181 340 (.ref 341) (.ref 342) 343 624 625)::
 (nat_lit 345,fo "two_letters" (top 55) "castwright.data" 465 344)::
 (nat_lit 351,co "_law_cell_at" 629 192 2 346 181 347 (.ref 348) (.ref 349) 350 634 635)::
 (nat_lit 352,fo "_law_cell_at" (top 57) "law_castwright_k65_no_values" 627 351)::
 (nat_lit 358,co "_law_state" 637 196 2 353 181 354 (.ref 355) (.ref 356) 357 643 644)::
 (nat_lit 359,fo "_law_state" (top 58) "law_castwright_k65_no_values" 627 358)::
 (nat_lit 365,co "_law_choice" 646 201 2 360 181 361 (.ref 362) (.ref 363) 364 653 654)::
 (nat_lit 366,fo "_law_choice" (top 59) "law_castwright_k65_no_values" 627 365)::
 (nat_lit 372,co "_law_row" 656 210 4 367 181 368 (.ref 369) (.ref 370) 371 667 668)::
 (nat_lit 373,fo "_law_row" (top 60) "law_castwright_k65_no_values" 627 372)::
 (nat_lit 379,co "_law_kind" 670 219 4 374 181 375 (.ref 376) (.ref 377) 378 679 680)::
 (nat_lit 380,fo "_law_kind" (top 61) "law_castwright_k65_no_values" 627 379)::
 (nat_lit 386,co "_law_drawn_kind" 682 230 4 381 181 382 (.ref 383) (.ref 384) 385 691 692)::
 (nat_lit 387,fo "_law_drawn_kind" (top 62) "law_castwright_k65_no_values" 627 386)::
 (nat_lit 393,co "_law_nested_kind" 694 237 2 388 181 389 (.ref 390) (.ref 391) 392 700 701)::
 (nat_lit 394,fo "_law_nested_kind" (top 63) "law_castwright_k65_no_values" 627 393)::
 (nat_lit 398,co "_law_bad_kind" 703 241 1 395 181 396 .none .none 397 706 707)::
 (nat_lit 399,fo "_law_bad_kind" (top 64) "law_castwright_k65_no_values" 627 398)::
 (nat_lit 405,co "_law_value" 709 255 2 400 181 401 (.ref 402) (.ref 403) 404 717 718)::
 (nat_lit 406,fo "_law_value" (top 65) "law_castwright_k65_no_values" 627 405)::
 (nat_lit 412,co "_law_value_of" 720 267 2 407 181 408 (.ref 409) (.ref 410) 411 729 730)::
 (nat_lit 413,fo "_law_value_of" (top 66) "law_castwright_k65_no_values" 627 412)::
 (nat_lit 419,co "_law_turned" 732 281 2 414 181 415 (.ref 416) (.ref 417) 418 740 741)::
 (nat_lit 420,fo "_law_turned" (top 67) "law_castwright_k65_no_values" 627 419)::
 (nat_lit 426,co "_law_drawn_value" 743 293 3 421 181 422 (.ref 423) (.ref 424) 425 754 755)::
 (nat_lit 427,fo "_law_drawn_value" (top 68) "law_castwright_k65_no_values" 627 426)::
 (nat_lit 431,co "_law_values" 757 306 1 428 181 429 .none .none 430 760 761)::
 (nat_lit 432,fo "_law_values" (top 69) "law_castwright_k65_no_values" 627 431)::
 (nat_lit 438,co "_law_marks" 763 310 1 433 181 434 (.ref 435) (.ref 436) 437 768 769)::
 (nat_lit 439,fo "_law_marks" (top 70) "law_castwright_k65_no_values" 627 438)::
 (nat_lit 443,co "_law_refused" 771 313 2 440 181 441 .none .none 442 774 775)::
 (nat_lit 444,fo "_law_refused" (top 71) "law_castwright_k65_no_values" 627 443)::
 (nat_lit 450,co "_law_called" 777 315 3 445 181 446 (.ref 447) (.ref 448) 449 783 784)::
 (nat_lit 451,fo "_law_called" (top 72) "law_castwright_k65_no_values" 627 450)::
 (nat_lit 457,co "_law_told" 786 326 3 452 181 453 (.ref 454) (.ref 455) 456 794 795)::
 (nat_lit 458,fo "_law_told" (top 73) "law_castwright_k65_no_values" 627 457)::
 (nat_lit 462,co "_law_bad_value" 797 333 1 459 181 460 .none .none 461 800 801)::
 (nat_lit 463,fo "_law_bad_value" (top 74) "law_castwright_k65_no_values" 627 462)::
 (nat_lit 467,co "law" 803 346 1 464 181 465 .none .none 466 806 807)::
 (nat_lit 468,fo "law" (top 75) "law_castwright_k65_no_values" 627 467)::
 []
noncomputable def KL:List Addr:=2::3::15::22::23::24::25::28::35::36::37::40::47::48::49::52::64::65::66::67::68::71::78::79::80::83::90::91::92::95::102::103::104::107::108::114::115::119::120::126::127::131::132::138::139::145::146::150::151::157::158::164::165::169::170::176::177::181::182::188::189::193::194::200::201::205::206::212::213::219::220::226::227::233::234::240::241::247::248::254::255::259::260::264::265::271::272::278::279::285::286::292::293::299::300::304::305::311::312::318::319::325::326::330::331::337::338::344::345::351::352::358::359::365::366::372::373::379::380::386::387::393::394::398::399::405::406::412::413::419::420::426::427::431::432::438::439::443::444::450::451::457::458::462::463::467::468::[]
theorem kfe(P:Params):KL=(KF P).map (·.1):=by kernel_rfl
section
open PySem.W
abbrev OE(w:World):=openEnds treeTable pwS w 6850
abbrev FS(s:Shared):=openSeen vwS ["LENGTHS"] (importedModules pwS.main.body) (λs=>xlAt vwS [] s&&recOk (RowW.records rwS.row.toRowW) s) true s
abbrev OB(s:Shared):=(kHook KF KL kfe).obs s
abbrev VA(w:World):=(kHook KF KL kfe).val w
abbrev GD:=openGood vwS ["LENGTHS"]
abbrev LB(w:World):Prop:=(OE w).map (λs=>(FS s,OB s))=some (GD,VA w)
theorem mpp{α β γ:Type}{o:Option α}{f:α->β}{g:α->γ}{a:β}{b:γ}(h1:o.map f=some a)(h2:o.map g=some b):o.map (λs=>(f s,g s))=some (a,b):=by
 cases o with
 | none=>cases h1
 | some s=>exact congrArg some (Prod.ext (YF h1) (YF h2))
theorem mpl{α β γ:Type}{o:Option α}{f:α->β}{g:α->γ}{a:β}{b:γ}(h:o.map (λs=>(f s,g s))=some (a,b)):o.map f=some a:=by
 cases o with
 | none=>cases h
 | some s=>exact congrArg some (Prod.ext_iff.mp (YF h)).1
theorem mpr{α β γ:Type}{o:Option α}{f:α->β}{g:α->γ}{a:β}{b:γ}(h:o.map (λs=>(f s,g s))=some (a,b)):o.map g=some b:=by
 cases o with
 | none=>cases h
 | some s=>exact congrArg some (Prod.ext_iff.mp (YF h)).2
theorem mpb{α:Type}{o:Option α}{k a b c d e f:α->Bool}(h1:o.map k=some true)(h2:o.map (λs=>a s&&b s&&c s&&d s&&e s&&f s)=some true):o.map (λs=>k s&&a s&&b s&&c s&&d s&&e s&&f s)=some true:=by
 cases o with
 | none=>cases h1
 | some s =>
  have x:k s=true:=YF h1;have y:(a s&&b s&&c s&&d s&&e s&&f s)=true:=YF h2;refine congrArg some ?_;show(k s&&a s&&b s&&c s&&d s&&e s&&f s)=true;rw[x];exact y
theorem Xg(w:World):(OE (w.withFollow "special-get-raises" false)).map (λs=>OB s)=some (VA (w.withFollow "special-get-raises" false)):=by kernel_rfl
theorem Xh(w:World):(OE (w.withFollow "special-get-raises" false)).map (λs=>seen ((recsOf vwS).map (·.name)) (ownsOf vwS) [] {s with gens:=#[]})=some (expectedOf vwS):=by kernel_rfl
theorem M5(w:World):(OE (w.withFollow "special-get-raises" false)).map (λs=>(s.heap.bltView,tabsOk vwS s))=some ((bltViewBooted,true)):=by kernel_rfl
theorem Xi(w:World):(OE (w.withFollow "special-get-raises" false)).map (λs=>s.heap.keysOk (looseW vwS ["LENGTHS"]) ((recsOf vwS).map (·.name)) ((litsOf vwS).map (·.1)) ((clssOf vwS (looseW vwS ["LENGTHS"])).map (·.name)))=some (true):=by kernel_rfl
theorem Xj(w:World):(OE (w.withFollow "special-get-raises" false)).map (λs=>s.heap.accountedOkI (importedModules pwS.main.body)&&s.heap.isNs mainGlobals&&s.heap.isNs builtinsNs&&tablesOk vwS s.heap&&(xlAt vwS [] s&&recOk (RowW.records rwS.row.toRowW) s)&&(s.gens.size==0))=some (true):=by kernel_rfl
theorem Xk(w:World):(OE (w.withFollow "special-get-raises" false)).map (λs=>(pinSeenD vwS (drecsOf vwS) s,plainSeenE vwS (looseW vwS ["LENGTHS"]) s,plainSeenD vwS ["LENGTHS"] s,wideSeen vwS s,clsSeenW vwS ["LENGTHS"] s))=some ((pinGoodD (drecsOf vwS),plainGoodE vwS (looseW vwS ["LENGTHS"]),plainGoodD vwS ["LENGTHS"],wideGood vwS,clsGoodW vwS ["LENGTHS"])):=by kernel_rfl
theorem lbf(w:World):LB (w.withFollow "special-get-raises" false):=mpp (mpp (Xh w) (mpp (mpl (M5 w)) (mpp (mpb (Xi w) (Xj w)) (mpp (mpr (M5 w)) (Xk w))))) (Xg w)
theorem Xl(w:World):(OE (w.withFollow "special-get-raises" true)).map (λs=>OB s)=some (VA (w.withFollow "special-get-raises" true)):=by kernel_rfl
theorem Xm(w:World):(OE (w.withFollow "special-get-raises" true)).map (λs=>seen ((recsOf vwS).map (·.name)) (ownsOf vwS) [] {s with gens:=#[]})=some (expectedOf vwS):=by kernel_rfl
theorem M6(w:World):(OE (w.withFollow "special-get-raises" true)).map (λs=>(s.heap.bltView,tabsOk vwS s))=some ((bltViewBooted,true)):=by kernel_rfl
theorem Xn(w:World):(OE (w.withFollow "special-get-raises" true)).map (λs=>s.heap.keysOk (looseW vwS ["LENGTHS"]) ((recsOf vwS).map (·.name)) ((litsOf vwS).map (·.1)) ((clssOf vwS (looseW vwS ["LENGTHS"])).map (·.name)))=some (true):=by kernel_rfl
theorem Xo(w:World):(OE (w.withFollow "special-get-raises" true)).map (λs=>s.heap.accountedOkI (importedModules pwS.main.body)&&s.heap.isNs mainGlobals&&s.heap.isNs builtinsNs&&tablesOk vwS s.heap&&(xlAt vwS [] s&&recOk (RowW.records rwS.row.toRowW) s)&&(s.gens.size==0))=some (true):=by kernel_rfl
theorem Xp(w:World):(OE (w.withFollow "special-get-raises" true)).map (λs=>(pinSeenD vwS (drecsOf vwS) s,plainSeenE vwS (looseW vwS ["LENGTHS"]) s,plainSeenD vwS ["LENGTHS"] s,wideSeen vwS s,clsSeenW vwS ["LENGTHS"] s))=some ((pinGoodD (drecsOf vwS),plainGoodE vwS (looseW vwS ["LENGTHS"]),plainGoodD vwS ["LENGTHS"],wideGood vwS,clsGoodW vwS ["LENGTHS"])):=by kernel_rfl
theorem lbt(w:World):LB (w.withFollow "special-get-raises" true):=mpp (mpp (Xm w) (mpp (mpl (M6 w)) (mpp (mpb (Xn w) (Xo w)) (mpp (mpr (M6 w)) (Xp w))))) (Xl w)
end
end KR
namespace L2
open PySem PySem.Spec PyProof.Rows
abbrev Key:=Sum Int Str
def C1:Key->Value->Bool
 | .inl k,v=>Value.isInt k v
 | .inr x,v=>Value.isStrOf x v
def Xq(w:World):Key->Int
 | .inl k=>hashInt k
 | .inr x=>hashStr w x
theorem CB:∀{k:Key}{v:Value},C1 k v=true->(∃ i t,k=Sum.inl i/\v=Value.int i t)\/(∃ x t,k=Sum.inr x/\v=Value.str x t)
 | .inl i,v,h=>by
  obtain⟨t,e⟩:=Value.isInt_shape (k:=i) (v:=v) h;exact .inl ⟨i,t,rfl,e⟩
 | .inr x,v,h=>by
  obtain⟨t,e⟩:=Value.isStrOf_shape (x:=x) (v:=v) h;exact .inr ⟨x,t,rfl,e⟩
theorem Xr(a b:Int):decide ((Sum.inl a:Key)=Sum.inl b)=(a==b):=by
 by_cases e:a=b
 ·subst e;simp
 ·have h:¬ (Sum.inl a:Key)=Sum.inl b:=λq=>e (Sum.inl.inj q);rw[decide_eq_false h];exact(beq_eq_false_iff_ne.mpr e).symm
theorem Xs(a b:Str):decide ((Sum.inr a:Key)=Sum.inr b)=decide (a=b):=by
 by_cases e:a=b
 ·subst e;simp
 ·have h:¬ (Sum.inr a:Key)=Sum.inr b:=λq=>e (Sum.inr.inj q);rw[decide_eq_false h,decide_eq_false e]
theorem Xu(a:Int)(b:Str):decide ((Sum.inl a:Key)=Sum.inr b)=false:=decide_eq_false (λq=>nomatch q)
theorem Xv(a:Str)(b:Int):decide ((Sum.inr a:Key)=Sum.inl b)=false:=decide_eq_false (λq=>nomatch q)
def A6(prog:Program)(w:World):PySem.KeyKind prog w Key where
 is:=C1
 hash:=Xq w
 inj:=λv a b ha hb=>by
  rcases CB ha with⟨i,t,rfl,rfl⟩|⟨x,t,rfl,rfl⟩
  ·rcases CB hb with⟨j,u,rfl,e⟩|⟨y,u,rfl,e⟩
   ·injection e with e1 _;rw[e1]
   ·exact nomatch e
  ·rcases CB hb with⟨j,u,rfl,e⟩|⟨y,u,rfl,e⟩
   ·exact nomatch e
   ·injection e with e1 _;rw[e1]
 byValue:=λk v h=>by
  rcases CB h with⟨i,t,rfl,rfl⟩|⟨x,t,rfl,rfl⟩ <;> rfl
 pyHash:=λhv h=>by
  rcases CB hv with⟨i,t,rfl,rfl⟩|⟨x,t,rfl,rfl⟩
  ·exact wpAny_pyHash_int h
  ·exact wpAny_pyHash_str h
 eqBool:=λhu hv h=>by
  rcases CB hu with⟨i,t,rfl,rfl⟩|⟨x,t,rfl,rfl⟩
  ·rcases CB hv with⟨j,u,rfl,rfl⟩|⟨y,u,rfl,rfl⟩
   ·rw[Xr]at h;exact wpAny_eqBool_int h
   ·rw[Xu]at h;exact SeqAt.EqAt.int_str i t y u _ _ _ _ h
  ·rcases CB hv with⟨j,u,rfl,rfl⟩|⟨y,u,rfl,rfl⟩
   ·rw[Xv]at h;exact SeqAt.EqAt.str_int x t j u _ _ _ _ h
   ·rw[Xs]at h;exact wpAny_eqBool_str h
 «strs»:=λk x t v h=>by
  rcases CB h with⟨i,u,rfl,e⟩|⟨y,u,rfl,e⟩
  ·exact nomatch e
  ·injection e with e1 _
   subst e1
   cases v <;> rfl
inductive V where
 | non | bl (b:Bool)| int (i:Int)| str (x:Str)| byt (b:Array UInt8)| flt (b:UInt64)| ref (a:Addr)| ty (n:String)
 deriving DecidableEq
def RelV:V->Value->Prop
 | .non,u=>u=Value.none
 | .bl b,u=>u=Value.bool b
 | .int i,u=>∃ t,u=Value.int i t
 | .str x,u=>∃ t,u=Value.str x t
 | .byt b,u=>∃ t,u=Value.bytes b t
 | .flt b,u=>∃ t,u=Value.float b t
 | .ref a,u=>u=Value.ref a
 | .ty n,u=>u=Value.type n
abbrev Vals:List V->List Value->Prop:=Paired RelV
variable {us:List Value}
theorem Vals.length{xs:List V}(r:Vals xs us):xs.length=us.length:=Paired.length r
theorem Vals.get:∀{xs:List V}{us:List Value}{i:Nat}{x:V},Vals xs us->xs[i]?=some x->∃ u,us[i]?=some u/\RelV x u
 | _,_,_,_,.nil,e=>by simp at e
 | _,_,0,_,.cons r _,e=>by simp at e;subst e;exact⟨_,rfl,r⟩
 | _,_,i+1,x,.cons _ t,e=>by
  obtain⟨u,h1,h2⟩:=Vals.get (i:=i) (x:=x) t (by simpa using e);exact⟨u,by simpa using h1,h2⟩
theorem Vals.set{x:V}{u:Value}(r:RelV x u):∀{xs:List V}{us:List Value}(i:Nat),Vals xs us->Vals (xs.set i x) (us.set i u)
 | _,_,_,.nil=>.nil
 | _,_,0,.cons _ t=>.cons r t
 | _,_,i+1,.cons q t=>.cons q (Vals.set r i t)
theorem Vals.append:∀{xs ys:List V}{us a:List Value},Vals xs us->Vals ys a->Vals (xs++ys) (us++a)
 | _,_,_,_,.nil,s=>s
 | _,_,_,_,.cons r t,s=>.cons r (Vals.append t s)
theorem Vals.take:∀{xs:List V}{us:List Value}(n:Nat),Vals xs us->Vals (xs.take n) (us.take n)
 | _,_,0,_=>.nil
 | _,_,_+1,.nil=>.nil
 | _,_,n+1,.cons r t=>.cons r (Vals.take n t)
theorem Vals.drop:∀{xs:List V}{us:List Value}(n:Nat),Vals xs us->Vals (xs.drop n) (us.drop n)
 | _,_,0,r=>r
 | _,_,_+1,.nil=>.nil
 | _,_,n+1,.cons _ t=>Vals.drop n t
def M7:Option V->Option Value->Prop
 | some v,some u=>RelV v u
 | none,none=>True
 | _,_=>False
def KV{κ:Type}:List (κ×V)->List (κ×Value)->Prop:=Paired λ(p:κ×V)(q:κ×Value)=>p.1=q.1/\RelV p.2 q.2
def kV:Key->V
 | .inl i=>.int i
 | .inr x=>.str x
inductive HO where
 | lst (xs:List V)
 | tup (xs:List V)
 | dK (kvs:List (Key×V))| dT (kvs:List (List Key×V))
 | set (S:Int->Bool) (n:Nat)
 | ins (C dx:Addr) (fs:List (Str×V))
 | own (x:Addr)
 | xd (fs:List (Str×V))
 | met (f x:Addr)
 | rng (lo hi:Int)
 | frz (o:Obj) (u:HO)
 | tbl (ps:Array Value)
 | ext (φ:Heap->Prop)
abbrev Hp:=Addr->Option HO
def upd(H:Hp)(a:Addr)(o:HO):Hp:=λb=>if b=a then some o else H b
variable {H:Hp}{a:Addr}{o:HO}
theorem BL:upd H a o a=some o:=by unfold upd;rw[if_pos rfl]
variable {b:Addr}
theorem AX(h:b≠a):upd H a o b=H b:=by unfold upd;rw[if_neg h]
theorem Dw(h:H a=some o)(h':H b=none):a≠b:=by
 intro e;subst e;rw[h]at h';cases h'
def TupP(h:Heap)(a:Addr)(items:Array Value):Prop:=∃ o,h.get? a=some o/\o.cls=.type "tuple"/\o.dict=none/\∃ n,o.data=.seq items n
theorem TupP.new(h:Heap)(items:Array Value):TupP (h.push {cls:=.type "tuple",data:=.seq items}) h.objs.size items:=⟨_,Qo _ rfl,rfl,rfl,_,rfl⟩
variable {h:Heap}
theorem TupP.up{items:Array Value}(x:TupP h a items):IsTup h a items:=let⟨o,e,c,_,d⟩:=x;⟨o,e,c,d⟩
def NoD(h:Heap)(a:Addr):Prop:=∃ o,h.get? a=some o/\o.dict=none
section
variable (P:Program) (w:World)
def ObjOk(H:Hp)(h:Heap)(a:Addr):HO->Prop
 | .lst xs=>xs.length<=sizeLine/\∃(its:List Value)(n:Nat),Vals xs its/\h.get? a=some {cls:=.type "list",data:=.seq its.toArray n}
 | .tup xs=>xs.length<=sizeLine/\∃ its:List Value,Vals xs its/\TupP h a its.toArray
 | .dK kvs=>kvs.length<=sizeLine/\(a==sysModules)=false/\∃ vs,KV kvs vs/\h.DictOf (A6 P w) a vs
 | .dT kvs=>kvs.length<=sizeLine/\(a==sysModules)=false/\∃ xs:List (List Key×Addr×Value),
   Paired (λ(p:List Key×V)(q:List Key×Addr×Value)=>p.1=q.1/\H q.2.1=some (.tup (p.1.map kV))/\RelV p.2 q.2.2) kvs xs/\
   ∃ o es ep,h.get? a=some o/\o.ExactDict/\o.data=.dict es ep/\es.toList=xs.map (entryOfKey (tupleKind (A6 P w)))/\(xs.map (·.1)).Nodup
 | .set S n=>h.SetOf (intKind P w) a S n
 | .ins C dx fs=>H dx=some (.own a)/\fs.length<=1000/\dx≠a/\h.get? a=some (PySem.W.instObj C dx)/\
   ∃ mA,h.Ns1 dx mA/\(∀ f,M7 (fs.lookup f) (mA f))/\PySem.Within mA (fs.map (·.1))
 | .own _=>∃ o,h.get? a=some o
 | .xd fs=>∃ mA,h.Ns1 a mA/\∀ f,M7 (fs.lookup f) (mA f)
 | .rng lo hi=>∃ t u v,h.get? a=some {cls:=.type "range",data:=.fields #[.int lo t,.int hi u,.int 1 v]}
 | .frz o u=>h.get? a=some o/\ObjOk H h a u
 | .tbl ps=>h.get? a=some {cls:=.none,data:=.fields ps}
 | .met f x=>h.get? a=some (PySem.W.methodObj (.ref f) (.ref x))
 | .ext φ=>φ h/\(∃ o,h.get? a=some o)/\∀ h1 h2:Heap,φ h1->(∀ o,h1.get? a=some o->h2.get? a=some o)->φ h2
def HOk(H:Hp)(h:Heap):Prop:=∀ a o,H a=some o->ObjOk P w H h a o
end
section
variable {P:Program} {w:World} {H H':Hp} {h h':Heap} {a:Addr} {o:HO}
theorem ObjOk.lt(x:ObjOk P w H h a o):a < h.objs.size:=by
 cases o with
 | lst xs=>obtain⟨_,_,_,_,e⟩:=x;exact Qn e
 | tup xs=>obtain⟨_,_,_,p⟩:=x;exact p.up.lt
 | dK b=>obtain⟨_,_,_,_,o,_,_,e,_⟩:=x;exact Qn e
 | dT b=>obtain⟨_,_,_,_,o,_,_,e,_⟩:=x;exact Qn e
 | set S n=>obtain⟨o,_,_,_,e,_⟩:=x;exact Qn e
 | ins C dx fs=>obtain⟨_,_,_,e,_⟩:=x;exact Qn e
 | own y=>obtain⟨_,e⟩:=x;exact Qn e
 | xd fs=>obtain⟨_,⟨_,_,_,e,_⟩,_⟩:=x;exact Qn e
 | rng lo hi=>obtain⟨_,_,_,e⟩:=x;exact Qn e
 | frz c u=>obtain⟨e,_⟩:=x;exact Qn e
 | tbl ps=>exact Qn (show h.get? a=some _ from x)
 | met f y=>exact Qn (show h.get? a=some _ from x)
 | ext φ=>obtain⟨_,⟨_,e⟩,_⟩:=x;exact Qn e
theorem Paired.mapP{α β:Type}{F G:α->β->Prop}:∀{c:List α}{d:List β},Paired F c d->(∀ a b,F a b->G a b)->Paired G c d
 | _,_,.nil,_=>.nil
 | _,_,.cons r t,f=>.cons (f _ _ r) (Paired.mapP t f)
theorem ObjOk.stay(x:ObjOk P w H h a o)(k:∀ b u,(b=a\/H b=some (.own a))->h.get? b=some u->h'.get? b=some u)
  (F:∀ b,H b=some (.own a)->H' b=some (.own a)) (A:∀ b xs,H b=some (.tup xs)->H' b=some (.tup xs)):ObjOk P w H' h' a o:=by
 induction o with
 | lst xs=>obtain⟨z,j,n,r,e⟩:=x;exact⟨z,j,n,r,k _ _ (.inl rfl) e⟩
 | tup xs=>obtain⟨z,j,r,g,e,c⟩:=x;exact⟨z,j,r,g,k _ _ (.inl rfl) e,c⟩
 | dK m=>obtain⟨z,y,E,r,g,es,i,e,c⟩:=x;exact⟨z,y,E,r,g,es,i,k _ _ (.inl rfl) e,c⟩
 | dT m =>
  obtain⟨z,y,xs,r,g,es,i,e,c⟩:=x;exact⟨z,y,xs,Paired.mapP r λp q z=>⟨z.1,A _ _ z.2.1,z.2.2⟩,g,es,i,k _ _ (.inl rfl) e,c⟩
 | set S n=>obtain⟨g,es,i,t,e,c⟩:=x;exact⟨g,es,i,t,k _ _ (.inl rfl) e,c⟩
 | ins C dx fs =>
  obtain⟨d,z,B,e,mA,⟨l,es,i,D,c⟩,r⟩:=x;exact⟨F _ d,z,B,k _ _ (.inl rfl) e,mA,⟨l,es,i,k _ _ (.inr d) D,c⟩,r⟩
 | own y=>obtain⟨g,e⟩:=x;exact⟨g,k _ _ (.inl rfl) e⟩
 | xd fs=>obtain⟨mA,⟨l,es,i,e,c⟩,r⟩:=x;exact⟨mA,⟨l,es,i,k _ _ (.inl rfl) e,c⟩,r⟩
 | rng lo hi=>obtain⟨t,u,v,e⟩:=x;exact⟨t,u,v,k _ _ (.inl rfl) e⟩
 | frz g u s=>obtain⟨e,q⟩:=x;exact⟨k _ _ (.inl rfl) e,s q⟩
 | tbl ps =>
  have e:h.get? a=some {cls:=.none,data:=.fields ps}:=x;show h'.get? a=some {cls:=.none,data:=.fields ps};exact k a _ (.inl rfl) e
 | met f y =>
  have e:h.get? a=some (PySem.W.methodObj (.ref f) (.ref y)):=x;show h'.get? a=some (PySem.W.methodObj (.ref f) (.ref y));exact k a _ (.inl rfl) e
 | ext φ=>obtain⟨p,⟨o,e⟩,st⟩:=x;exact⟨st _ _ p λo q=>k _ _ (.inl rfl) q,⟨o,k _ _ (.inl rfl) e⟩,st⟩
theorem HOk.lt(x:HOk P w H h)(e:H a=some o):a < h.objs.size:=(x a o e).lt
theorem HOk.fresh(x:HOk P w H h)(e:h.objs.size<=a):H a=none:=by
 cases q:H a with
 | none=>rfl
 | some u=>exact absurd (Yu (x.lt q) e) (YM _)
theorem HOk.kept(x:HOk P w H h)(k:∀ b u,h.get? b=some u->h'.get? b=some u):HOk P w H h':=λa o e=>
 (x a o e).stay (λb u _ q=>k b u q) (λ_ q=>q) λ_ _ q=>q
theorem HOk.laid(x:HOk P w H h)(k:∀ b u,h.get? b=some u->h'.get? b=some u)(g:h.objs.size<=a)(new:ObjOk P w (upd H a o) h' a o):HOk P w (upd H a o) h':=λb u e=>by
 have f:=x.fresh g;by_cases d:b=a
 ·subst d;rw[BL]at e;cases e;exact new
 ·rw[AX d]at e;exact(x b u e).stay (λc v _ q=>k c v q) (λc q=>by rw[AX (Dw q f)];exact q) λc xs q=>by rw[AX (Dw q f)];exact q
end
def Rd(H:Hp)(a:Addr)(u:HO):Prop:=H a=some u\/∃ o,H a=some (.frz o u)
theorem Rd.of{u:HO}(h:H a=some u):Rd H a u:=.inl h
variable {P:Program}{w:World}
theorem Rd.ok{u:HO}(r:Rd H a u)(x:HOk P w H h):ObjOk P w H h a u:=by
 rcases r with r |⟨o,r⟩
 ·exact x a u r
 ·obtain⟨_,q⟩:=x a _ r;exact q
def Mut:Option HO->Prop
 | some (.lst _)=>True
 | some (.dK _)=>True
 | some (.dT _)=>True
 | some (.set _ _)=>True
 | some (.ins _ _ _)=>True
 | some (.ext _)=>True
 | _=>False
section
variable {P:Program} {w:World} {H:Hp} {h h':Heap} {x e:Addr} {o':HO}
theorem HOk.write(ok:HOk P w H h)(g:Mut (H x))(m:e=x\/H e=some (.own x))(k:∀ b u,b≠e->h.get? b=some u->h'.get? b=some u)(j:∃ u,h'.get? e=some u)
  (new:ObjOk P w (upd H x o') h' x o'):HOk P w (upd H x o') h':=λb u q=>by
 have d:∀ c y,H c=some (.own y)->c≠x:=λc y r z=>by subst z;rw[r]at g;exact g
 have f:∀ c xs,H c=some (.tup xs)->c≠x:=λc xs r z=>by subst z;rw[r]at g;exact g
 by_cases i:b=x
 ·subst i;rw[BL]at q;cases q;exact new
 ·rw[AX i]at q;by_cases a:b=e
  ·have l:H b=some (.own x):=by
    rcases m with z | z
    ·exact absurd (a.trans z) i
    ·rw[a];exact z
   rw[q]at l;cases l;obtain⟨v,n⟩:=j;exact⟨v,by rw[a];exact n⟩
  ·refine(ok b u q).stay (λc v hc r=>k c v ?_ r) (λc r=>by rw[AX (d c b r)];exact r) λc xs r=>by rw[AX (f c xs r)];exact r
   rcases hc with rfl | hc
   ·exact a
   ·rintro rfl;rcases m with z | z
    ·exact d c b hc z
    ·rw[hc]at z;cases z;exact i rfl
end
structure Un(fs ex:List Addr)(H H':Hp)(h h':Heap):Prop where
 keep:∀ b o,h.get? b=some o->H b=none->b∉fs->b∉ex->h'.get? b=some o
 slot:∀ b o,h.get? b=some o->H b=none->b∈fs->b∉ex->∃ sl,h'.get? b=some {o with slots:=sl}
 free:∀ b o,h.get? b=some o->H b=none->b∉ex->H' b=none
 there:∀ b o,h.get? b=some o->b∉ex->∃ o',h'.get? b=some o'
 tups:∀ b xs,H b=some (.tup xs)->H' b=some (.tup xs)
 frzs:∀ b o u,H b=some (.frz o u)->H' b=some (.frz o u)
 tbls:∀ b ps,H b=some (.tbl ps)->∃ more,H' b=some (.tbl (ps++more))
section
variable {fs fs' ex ex':List Addr} {H H1 H2:Hp} {h h1 h2 h':Heap} {a x e:Addr} {o:HO}
theorem Un.any(u:Un fs ex H H1 h h1){a:Obj}(q:h.get? b=some a)(n:H b=none)(c:b∉ex):∃ e,h1.get? b=some {a with slots:=e}:=by
 by_cases d:b∈fs
 ·exact u.slot b a q n d c
 ·exact⟨a.slots,u.keep b a q n d c⟩
theorem Un.trans(a:Un fs ex H H1 h h1)(b:Un fs ex H1 H2 h1 h2):Un fs ex H H2 h h2 where
 keep:=λc e q n hc d=>b.keep c e (a.keep c e q n hc d) (a.free c e q n d) hc d
 slot:=λc e q n hc d=>by
  obtain⟨l,f⟩:=a.slot c e q n hc d;obtain⟨i,g⟩:=b.slot c _ f (a.free c e q n d) hc d;exact⟨i,g⟩
 free:=λc e q n d=>by
  obtain⟨o',f⟩:=a.there c e q d;exact b.free c o' f (a.free c e q n d) d
 there:=λc e q d=>by
  obtain⟨o',f⟩:=a.there c e q d;exact b.there c o' f d
 tups:=λc xs q=>b.tups c xs (a.tups c xs q)
 frzs:=λc e xs q=>b.frzs c e xs (a.frzs c e xs q)
 tbls:=λc ps q=>by
  obtain⟨j,f⟩:=a.tbls c ps q;obtain⟨k,g⟩:=b.tbls c _ f;exact⟨j++k,by rw[g,Array.append_assoc]⟩
theorem Un.kept(k:∀ b u,h.get? b=some u->h'.get? b=some u):Un fs ex H H h h' :=
 ⟨λb a q _ _ _=>k b a q,λb a q _ _ _=>⟨a.slots,k b a q⟩,λ_ _ _ n _=>n,λb a q _=>⟨a,k b a q⟩,λ_ _ q=>q,λ_ _ _ q=>q,λ_ ps q=>⟨#[],by rw[q];simp⟩⟩
theorem Un.refl:Un fs ex H H h h:=Un.kept λ_ _ q=>q
theorem Un.laid(k:∀ b u,h.get? b=some u->h'.get? b=some u)(d:h.objs.size<=a)(c:H a=none):Un fs ex H (upd H a o) h h' where
 keep:=λb u q _ _ _=>k b u q
 slot:=λb u q _ _ _=>⟨u.slots,k b u q⟩
 free:=λb u q n _=>by rw[AX (Ys (Yu (Qn q) d))];exact n
 there:=λb u q _=>⟨u,k b u q⟩
 tups:=λb xs q=>by rw[AX (Dw q c)];exact q
 frzs:=λb u xs q=>by rw[AX (Dw q c)];exact q
 tbls:=λb ps q=>⟨#[],by rw[AX (Dw q c),q];simp⟩
theorem Un.write(c:Mut (H x))(j:e=x\/H e=some (.own x))(k:∀ b u,b≠e->h.get? b=some u->h'.get? b=some u)(f:∃ u,h'.get? e=some u):Un fs ex H (upd H x o) h h':=by
 have i:∀ b,H b=none->b≠x:=λb n z=>by subst z;rw[n]at c;exact c
 have g:∀ b,H b=none->b≠e:=λb n z=>by
  subst z;rcases j with r | r
  ·exact i b n r
  ·rw[n]at r;cases r
 have d:∀ b u,H b=some u->¬ Mut (some u)->b≠x:=λb u q nm z=>by subst z;rw[q]at c;exact nm c
 refine⟨λb u q n _ _=>k b u (g b n) q,λb u q n _ _=>⟨u.slots,k b u (g b n) q⟩,λb u q n _=>by rw[AX (i b n)];exact n,λb u q _=>?_,
  λb xs q=>by rw[AX (d b _ q λz=>z)];exact q,λb u xs q=>by rw[AX (d b _ q λz=>z)];exact q,λb ps q=>⟨#[],by rw[AX (d b _ q λz=>z),q];simp⟩⟩
 by_cases a:b=e
 ·subst a;exact f
 ·exact⟨u,k b u a q⟩
theorem Un.mono(u:Un fs ex H H1 h h1)(f:∀ b∈fs,b∈fs')(d:∀ b∈ex,b∈ex'):Un fs' ex' H H1 h h1 :=
 ⟨λb c q n e a=>u.keep b c q n (λz=>e (f b z)) λz=>a (d b z),λ_ _ q n _ a=>u.any q n λz=>a (d _ z),λb c q n a=>u.free b c q n λz=>a (d b z),λb c q a=>u.there b c q λz=>a (d b z),u.tups,u.frzs,u.tbls⟩
end
def trk(h:Heap)(H:Hp):List Addr:=(List.range h.objs.size).filter λa=>(H a).isSome
def C2(h:Heap)(H:Hp):Heap:=PySem.W.hideAll h (trk h H)
theorem Xx(h:Heap)(H:Hp):(C2 h H).objs.size=h.objs.size:=PySem.W.hideAll_size _ _
theorem Xy{o:Obj}(e:h.get? b=some o)(n:H b=none):(C2 h H).get? b=some o :=
 PySem.W.hideAll_get _ e λa=>by
  have q:(H b).isSome=true:=(List.mem_filter.mp a).2;rw[n]at q;simp at q
theorem Xz{o:Obj}(e:(C2 h H).get? b=some o):h.get? b=some o/\H b=none:=by
 have a:h.get? b=some o:=PySem.W.of_hideAll (trk h H) e;refine⟨a,?_⟩;cases q:H b with
 | none=>rfl
 | some x =>
  have c:b∈trk h H:=List.mem_filter.mpr ⟨List.mem_range.mpr (Qn a),by simp[q]⟩;have z:(C2 h H).get? b=none:=PySem.W.hideAll_none (trk h H) c;rw[z]at e;cases e
def XA(g h:Heap)(L:Addr):List (Addr×Obj):=(List.range h.objs.size).filterMap λa=>if a=L\/(g.get? a).isSome=true then none else(h.get? a).map λo=>(a,o)
def Aw(g h:Heap)(L d:Addr):List (Addr×Obj):=(XA g h L).filter λp=>decide (p.1≠d)
structure Mod(K:PySem.W.Frag)(mg:Str->Option Value)(base:Heap):Prop where
 kin:K.In base
 glob:base.Ns mainGlobals mg
 blt:∃ mb,base.Ns builtinsNs mb/\∀ x:Str,x≠"__name__"->mb x=bootBuiltins x
 nolimit:base.NoLimit
structure Cx where
 prog:Program
 w:World
 K:PySem.W.Frag
 mg:Str->Option Value
 base:Heap
 A:Around
 N:List Str
 s₀:Shared
 H₀:Hp
 env:Env
 outer:List Env
 stack:List Env
 ex:List Addr
 fn:Str->Bool
 calm:Bool
 pn:List (Addr×Obj)
 xe:Value->Shared->Prop
def frs(l:List Env):List Addr:=l.filterMap (·.frame)
abbrev Cx.fs(X:Cx):List Addr:=frs X.outer
def Vis(sc:Scope)(x:Str):Prop:=sc.names.lookup x=some .local\/sc.names.lookup x=some .cell\/sc.names.lookup x=some .free
def Loc(sc:Scope)(x:Str):Prop:=sc.names.lookup x=some .local\/sc.names.lookup x=some .cell
def M8(env:Env)(h:Heap)(m:Str->Option Value)(x:Str)(u:Value):Prop :=
 (env.kindOf x=some .local/\m x=some u)\/((env.kindOf x=some .cell\/env.kindOf x=some .free)/\∃ c,env.cells.lookup x=some c/\h.IsCell c (some u))
structure Cx.Ok(X:Cx):Prop where
 mod:Mod X.K X.mg X.base
 kind:X.env.scope.kind=.function
 glob:X.env.globals=mainGlobals
 blt:X.env.builtins=builtinsNs
 above:X.s₀.heap.objs.size<=X.env.locals
 inj:∀ x y c,X.env.cells.lookup x=some c->X.env.cells.lookup y=some c->x=y
 has:∀ x,(X.env.kindOf x=some .cell\/X.env.kindOf x=some .free)->∃ c,X.env.cells.lookup x=some c
 cab:∀ x c,X.fn x=true->X.env.cells.lookup x=some c->X.s₀.heap.objs.size<=c
 hd:X.calm=true->X.A.handled=none
 frames:X.A.frames=some X.stack
 stk:X.stack=X.outer\/(X.stack=X.env::X.outer/\X.env.frame=some X.env.locals)
 exf:∀ b∈X.ex,b≠X.env.locals/\∀ x c,X.env.cells.lookup x=some c->c≠b
 bs:∀ b o,X.base.get? b=some o->X.s₀.heap.get? b=some o/\X.H₀ b=none
 bsz:X.base.objs.size<=X.s₀.heap.objs.size
 noex:∀ b o,X.base.get? b=some o->b∉X.ex
 exfs:∀ b∈X.ex,b∉X.fs
 funs:X.s₀.heap.FunFrames X.base X.outer
 frf:∀ b∈X.fs,X.H₀ b=none
structure Inv(X:Cx)(pins:List (Addr×Obj))(σ:List (Option V))(H:Hp)(s:Shared):Prop where
 ok:X.Ok
 os:s.os=X.s₀.os
 bare:AllBare s.gens
 base:Un X.fs X.ex X.H₀ H X.s₀.heap s.heap
 loc:∃ m,s.heap.Ns X.env.locals m/\∀(i:Nat)(x:Str)(v:V),X.N[i]?=some x->σ[i]?=some (some v)->Vis X.env.scope x->∃ u,RelV v u/\M8 X.env s.heap m x u
 cell:∀ x c,X.env.cells.lookup x=some c->∃ v,s.heap.IsCell c v
 free:H X.env.locals=none
 freeC:∀ x c,X.env.cells.lookup x=some c->H c=none
 pin:∀ p∈X.pn++pins,s.heap.get? p.1=some p.2/\H p.1=none/\p.1≠X.env.locals/\p.1∉X.fs/\∀ v,p.2.data≠.cell v
 hok:HOk X.prog X.w H s.heap
 len:σ.length=X.N.length
section
variable {X:Cx} {pins:List (Addr×Obj)} {σ:List (Option V)} {H H':Hp} {s:Shared} {h':Heap}
theorem Cx.Ok.nofr(ok:X.Ok){o:Obj}(e:X.base.get? b=some o):b∉X.fs:=λa=>by
 have:=(ok.funs.mem a).1;rw[e]at this;cases this
theorem Inv.bs(I:Inv X pins σ H s):∀ b o,X.base.get? b=some o->s.heap.get? b=some o/\H b=none:=λb o e=>
 ⟨I.base.keep b o (I.ok.bs b o e).1 (I.ok.bs b o e).2 (I.ok.nofr e) (I.ok.noex b o e),I.base.free b o (I.ok.bs b o e).1 (I.ok.bs b o e).2 (I.ok.noex b o e)⟩
theorem Inv.bk(I:Inv X pins σ H s):∀ b o,X.base.get? b=some o->s.heap.get? b=some o:=λb o e=>(I.bs b o e).1
theorem Inv.mod(I:Inv X pins σ H s):Mod X.K X.mg X.base:=I.ok.mod
theorem Inv.kIn(I:Inv X pins σ H s):X.K.In s.heap:=I.ok.mod.kin.keeps I.bk
theorem Inv.nolimit(I:Inv X pins σ H s):s.heap.NoLimit:=I.ok.mod.nolimit.keeps I.bk
theorem Inv.fr(I:Inv X pins σ H s):∃ m,Fr X.base X.env.locals s.heap m :=
 let⟨m,hn,_⟩:=I.loc
 ⟨m,hn,I.bk,Yt I.ok.bsz I.ok.above⟩
theorem Inv.lt(I:Inv X pins σ H s):X.env.locals < s.heap.objs.size:=let⟨_,hn,_⟩:=I.loc;hn.lt
theorem Inv.sz(I:Inv X pins σ H s):X.s₀.heap.objs.size<=s.heap.objs.size:=Yt I.ok.above (YL I.lt)
theorem Inv.nofs(I:Inv X pins σ H s)(h:s.heap.objs.size<=a):a∉X.fs:=λc=>by
 obtain⟨_,o,b,_⟩:=I.ok.funs.mem c;exact absurd (Yu (Qn b) (Yt I.sz h)) (YM _)
theorem Inv.cne(I:Inv X pins σ H s):∀ x c,X.env.cells.lookup x=some c->c≠X.env.locals:=λx c e z=>by
 obtain⟨v,o,d,hd⟩:=I.cell x c e;obtain⟨m,⟨o',es,f,b,a,_⟩,_⟩:=I.loc;rw[z,b]at d;cases d;rw[a]at hd;cases hd
theorem Inv.funs(I:Inv X pins σ H s):s.heap.FunFrames X.base X.outer:=by
 have all:∀(l:List Env),(∀ b∈frs l,b∈X.fs)->X.s₀.heap.FunFrames X.base l->s.heap.FunFrames X.base l:=by
  intro l;induction l with
  | nil=>intro _ _;trivial
  | cons env r h =>
   intro f hl;obtain⟨i,⟨L,o,d,k,j,hd⟩,g⟩:=hl;have c:L∈X.fs:=f L (by unfold frs;rw[List.filterMap_cons,d];exact Ye);obtain⟨m,e⟩:=I.base.slot L o j (I.ok.frf L c) c λz=>I.ok.exfs L z c;exact⟨i,⟨L,_,d,k,e,hd⟩,h (λb a=>f b (by unfold frs;rw[List.filterMap_cons,d];exact Yd _ a)) g⟩
 exact all X.outer (λ_ a=>a) I.ok.funs
theorem Inv.stack(I:Inv X pins σ H s):s.heap.FunFrames X.base X.stack:=by
 rcases I.ok.stk with e |⟨e,a⟩
 ·rw[e];exact I.funs
 ·rw[e];obtain⟨m,b,_⟩:=I.loc;refine .cons (by rw[I.ok.kind];decide) a b ?_ I.funs;exact Heap.get?_none_of_le (Yt I.ok.bsz I.ok.above)
theorem Inv.stkSub(I:Inv X pins σ H s):∀ b∈frs X.stack,b∈X.env.locals::X.fs:=λb a=>by
 rcases I.ok.stk with e |⟨e,c⟩
 ·rw[e]at a;exact Yd _ a
 ·rw[e]at a;unfold frs at a;rw[List.filterMap_cons,c]at a;exact a
theorem Inv.stkFree(I:Inv X pins σ H s):∀ b∈frs X.stack,H b=none:=λb a=>by
 rcases Yo.mp (I.stkSub b a)with e | a
 ·rw[e];exact I.free
 ·obtain⟨_,o,c,_⟩:=I.ok.funs.mem a;exact I.base.free b o c (I.ok.frf b a) λz=>I.ok.exfs b z a
variable {g':Array GenState}{t':Nat}{d':Drawn}{ch:List Addr}
theorem Inv.step(I:Inv X pins σ H s)
  (g:∀ b∈ch,(b∈X.ex\/X.s₀.heap.objs.size<=b)/\b≠X.env.locals/\(∀ x c,X.env.cells.lookup x=some c->c≠b)/\∀ p∈X.pn++pins,p.1≠b)
  (keep:∀ b o,b≠X.env.locals->b∉X.fs->b∉ch->s.heap.get? b=some o->H b=none->h'.get? b=some o)
  (slot:∀ b o,b≠X.env.locals->b∈X.fs->b∉ch->s.heap.get? b=some o->H b=none->∃ F,h'.get? b=some {o with slots:=F}) (free:∀ b o,b∉ch->s.heap.get? b=some o->H b=none->H' b=none)
  (there:∀ b o,b∉ch->s.heap.get? b=some o->∃ o',h'.get? b=some o')
  (tups:∀ b xs,H b=some (.tup xs)->H' b=some (.tup xs)) (frzs:∀ b o u,H b=some (.frz o u)->H' b=some (.frz o u)) (tbls:∀ b ps,H b=some (.tbl ps)->∃ E,H' b=some (.tbl (ps++E)))
  (ns:∀ m,s.heap.Ns X.env.locals m->h'.Ns X.env.locals m) (hok:HOk X.prog X.w H' h') (R:AllBare g'):
  Inv X pins σ H' {s with heap:=h',gens:=g',drawn:=d',toks:=t'}:=by
 have D:∀ b o,X.s₀.heap.get? b=some o->b≠X.env.locals:=λb o e=>Ys (Yu (Qn e) I.ok.above)
 have j:∀ b o,X.s₀.heap.get? b=some o->b∉X.ex->b∉ch:=λb o e a y=>by
  rcases(g b y).1 with z | z
  ·exact a z
  ·exact absurd (Yu (Qn e) z) (YM _)
 have h:∀ x c,X.env.cells.lookup x=some c->∀ v,s.heap.IsCell c v->h'.IsCell c v:=by
  rintro x c e v ⟨o,A,hd⟩;have f:c∉ch:=λz=>(g c z).2.2.1 x c e rfl;by_cases hc:c∈X.fs
  ·obtain⟨F,q⟩:=slot c o (I.cne x c e) hc f A (I.freeC x c e);exact⟨_,q,hd⟩
  ·exact⟨o,keep c o (I.cne x c e) hc f A (I.freeC x c e),hd⟩
 refine⟨I.ok,I.os,R,⟨λb o e n y a=>?_,λb o e n y a=>?_,λb o e n a=>?_,λb o e a=>?_,λb xs e=>tups b xs (I.base.tups b xs e),λb o xs e=>frzs b o xs (I.base.frzs b o xs e),λb ps e=>?_⟩,?_,λx c e=>?_,?_,λx c e=>?_,λp L=>?_,hok,I.len⟩
 ·exact keep b o (D b o e) y (j b o e a) (I.base.keep b o e n y a) (I.base.free b o e n a)
 ·obtain⟨F,t⟩:=I.base.slot b o e n y a;obtain⟨G,B⟩:=slot b _ (D b o e) y (j b o e a) t (I.base.free b o e n a);exact⟨G,B⟩
 ·obtain⟨o',t⟩:=I.base.there b o e a;exact free b o' (j b o e a) t (I.base.free b o e n a)
 ·obtain⟨o',t⟩:=I.base.there b o e a;exact there b o' (j b o e a) t
 ·obtain⟨N,t⟩:=I.base.tbls b ps e;obtain⟨P,B⟩:=tbls b _ t;exact⟨N++P,by rw[B,Array.append_assoc]⟩
 ·obtain⟨m,O,hl⟩:=I.loc;refine⟨m,ns m O,λi x v t B Q=>?_⟩;obtain⟨u,r,l⟩:=hl i x v t B Q;refine⟨u,r,?_⟩;rcases l with l |⟨k,c,e,z⟩
  ·exact .inl l
  ·exact .inr ⟨k,c,e,h x c e _ z⟩
 ·obtain⟨v,z⟩:=I.cell x c e;exact⟨v,h x c e v z⟩
 ·obtain⟨m,⟨o,_,_,A,_⟩,_⟩:=I.loc;exact free _ o (λz=>(g _ z).2.1 rfl) A I.free
 ·obtain⟨v,o,A,hd⟩:=I.cell x c e;exact free c o (λz=>(g c z).2.2.1 x c e rfl) A (I.freeC x c e)
 ·obtain⟨e,n,J,K,d⟩:=I.pin p L;have f:p.1∉ch:=λz=>(g p.1 z).2.2.2 p L rfl;exact⟨keep p.1 p.2 J K f e n,free p.1 p.2 f e n,J,K,d⟩
theorem Inv.un(I:Inv X pins σ H s)(u:Un X.fs [] H H' s.heap h')(hok:HOk X.prog X.w H' h'):Inv X pins σ H' {s with heap:=h',toks:=t'}:=by
 obtain⟨m,⟨o,es,i,f,r⟩,_⟩:=id I.loc;obtain⟨k,h⟩:=u.any f I.free (by simp)
 exact I.step (g':=s.gens) (d':=s.drawn) (ch:=[]) (λ_ z=>nomatch z) (λb o _ c _ e n=>u.keep b o e n c (by simp)) (λb o _ c _ e n=>u.slot b o e n c (by simp)) (λb o _ e n=>u.free b o e n (by simp)) (λb o _ e=>u.there b o e (by simp)) u.tups u.frzs u.tbls (λj g=>by
  obtain⟨o',es',d,a,r'⟩:=g;rw[f]at a;cases a;exact⟨_,es',d,h,r'⟩) hok I.bare
theorem Inv.call(I:Inv X pins σ H s)(u:Un (frs X.stack) ch H H' s.heap h')(hok:HOk X.prog X.w H' h')(k:AllBare g')
  (a:∀ b∈ch,(b∈X.ex\/X.s₀.heap.objs.size<=b)/\b≠X.env.locals/\(∀ x c,X.env.cells.lookup x=some c->c≠b)/\∀ p∈X.pn++pins,p.1≠b):
  Inv X pins σ H' {s with heap:=h',gens:=g',drawn:=d',toks:=t'}:=by
 obtain⟨m,⟨o,es,l,h,r⟩,_⟩:=id I.loc;obtain⟨t,g⟩:=u.any h I.free λz=>(a _ z).2.1 rfl
 exact I.step (ch:=ch) a (λb o g i hc e n=>u.keep b o e n (λz=>(Yo.mp (I.stkSub b z)).elim g i) hc) (λb o _ _ hc e n=>u.any e n hc) (λb o hc e n=>u.free b o e n hc) (λb o hc e=>u.there b o e hc) u.tups u.frzs u.tbls (λq j=>by
  obtain⟨o',es',f,d,r'⟩:=j;rw[h]at d;cases d;exact⟨_,es',f,g,r'⟩) hok k
theorem Inv.turned(I:Inv X pins σ H s)(k:∀ b o,b≠it->s.heap.get? b=some o->h'.get? b=some o)(l:H it=none)(d:it≠X.env.locals)
  (h1:it∈X.ex\/X.s₀.heap.objs.size<=it) (h2:∀ x c,X.env.cells.lookup x=some c->c≠it) (f:∀ p∈X.pn++pins,p.1≠it):Inv X pins σ H {s with heap:=h',toks:=t'}:=by
 have a:∀ b u,H b=some u->b≠it:=λb u e z=>by rw[z,l]at e;cases e
 refine I.step (g':=s.gens) (d':=s.drawn) (ch:=[it]) (λb g=>?_) (λb o _ _ hc e _=>k b o (λz=>hc (by simp[z])) e) (λb o _ _ hc e _=>⟨o.slots,k b o (λz=>hc (by simp[z])) e⟩) (λ_ _ _ _ n=>n)
  (λb o hc e=>⟨o,k b o (λz=>hc (by simp[z])) e⟩) (λ_ _ e=>e) (λ_ _ _ e=>e) (λb ps e=>⟨#[],by rw[e];simp⟩) (λm h=>?_) (λb u e=>?_) I.bare
 ·have e:b=it:=by simpa using g
  subst e;exact⟨h1,d,h2,f⟩
 ·obtain⟨o,es,i,j,r⟩:=h;exact⟨o,es,i,k _ o (Qa d) j,r⟩
 ·refine(I.hok b u e).stay (λc v hc q=>k c v ?_ q) (λ_ q=>q) λ_ _ q=>q;rcases hc with z | z
  ·rw[z];exact a b u e
  ·exact a c _ z
theorem Inv.tok(I:Inv X pins σ H s)(t:Nat):Inv X pins σ H {s with toks:=t}:=I.un (h':=s.heap) (t':=t) Un.refl I.hok
theorem Inv.kept(I:Inv X pins σ H s)(k:∀ b u,s.heap.get? b=some u->h'.get? b=some u):Inv X pins σ H {s with heap:=h',toks:=t'}:=I.un (Un.kept k) (I.hok.kept k)
theorem Inv.laid(I:Inv X pins σ H s)(k:∀ b u,s.heap.get? b=some u->h'.get? b=some u)(c:s.heap.objs.size<=a)(new:ObjOk X.prog X.w (upd H a o) h' a o):
  Inv X pins σ (upd H a o) {s with heap:=h',toks:=t'}:=I.un (Un.laid k c (I.hok.fresh c)) (I.hok.laid k c new)
theorem Inv.write{x e:Addr}(I:Inv X pins σ H s)(c:Mut (H x))(d:e=x\/H e=some (.own x))(k:∀ b u,b≠e->s.heap.get? b=some u->h'.get? b=some u)(a:∃ u,h'.get? e=some u)
  (new:ObjOk X.prog X.w (upd H x o) h' x o):Inv X pins σ (upd H x o) {s with heap:=h',toks:=t'}:=I.un (Un.write c d k a) (I.hok.write c d k a new)
theorem Inv.pins_of{a:List (Addr×Obj)}(I:Inv X pins σ H s)(h:∀ p∈a,s.heap.get? p.1=some p.2/\H p.1=none/\p.1≠X.env.locals/\p.1∉X.fs/\∀ v,p.2.data≠.cell v):Inv X a σ H s :=
 ⟨I.ok,I.os,I.bare,I.base,I.loc,I.cell,I.free,I.freeC,λp b=>(Yz.mp b).elim (λz=>I.pin p (YO _ z)) (h p),I.hok,I.len⟩
variable {i:Nat}{x:Str}
theorem Jp{N:List Str}(d:N.Nodup){j:Nat}(a:N[i]?=some x)(b:N[j]?=some x):i=j:=by
 obtain⟨h1,c⟩:=Qc.mp a;obtain⟨h2,e⟩:=Qc.mp b;exact(List.getElem_inj d).mp (c.trans e.symm)
variable {A:Around}{E:Value->Shared->Prop}{v:V}{u:Value}{Q:Unit->Shared->Prop}
theorem XB{M:Model}(I:Inv X pins σ H s)(hN:X.N.Nodup)(hi:X.N[i]?=some x)(l:Loc X.env.scope x)(r:RelV v u)
  (h:∀ s',Inv X pins (σ.set i (some v)) H s'->(∃ a,Heap.SameBut a s.heap s'.heap/\(a=X.env.locals\/X.env.cells.lookup x=some a))->Q () s') (hf:X.fn x=true\/X.env.scope.names.lookup x=some .local:=by first | exact .inl rfl | exact .inr rfl | assumption):wpAny M A (storeName X.env x u) Q E s:=by
 obtain⟨m,hn,hl⟩:=id I.loc;have R:(X.env.scope.kind==.class||(X.env.scope.kind==.module&&X.env.locals != X.env.globals))=false:=by rw[I.ok.kind];rfl
 have hiσ:i < σ.length:=by rw[I.len];exact(Qc.mp hi).1
 have cne:=I.cne
 have tracked:∀{a:Addr}{h':Heap},(∃ o,s.heap.get? a=some o/\H a=none)->Heap.SameBut a s.heap h'->HOk X.prog X.w H h':=λ{a h'}ha f b ob e=>by
  obtain⟨_,_,t⟩:=ha;refine(I.hok b ob e).stay (λc U hc q=>(f.2 c ?_).trans q) (λ_ q=>q) λ_ _ q=>q;rintro rfl;rcases hc with rfl | hc
  ·rw[t]at e;cases e
  ·rw[t]at hc;cases hc
 rcases l with D | D
 ·refine wpAny_storeName_local D hn (λh' hn' f=>?_) R;obtain⟨oL,_,_,Y,_⟩:=id hn;refine h _ ⟨I.ok,I.os,I.bare,⟨λb o e n F l=>?_,λb o e n F l=>?_,I.base.free,λb o e l=>?_,I.base.tups,I.base.frzs,I.base.tbls⟩,⟨_,hn',λj y Z g B e3=>?_⟩,λy c e=>?_,I.free,I.freeC,λp hp=>?_,tracked ⟨oL,Y,I.free⟩ f,by simpa using I.len⟩ ⟨_,f,.inl rfl⟩
  ·exact(f.2 b (Ys (Yu (Qn e) I.ok.above))).trans (I.base.keep b o e n F l)
  ·obtain⟨sl,g⟩:=I.base.slot b o e n F l;exact⟨sl,(f.2 b (Ys (Yu (Qn e) I.ok.above))).trans g⟩
  ·obtain⟨o',g⟩:=I.base.there b o e l;exact⟨o',(f.2 b (Ys (Yu (Qn e) I.ok.above))).trans g⟩
  ·by_cases J:j=i
   ·subst J;rw[hi]at g;cases g;rw[List.getElem?_set_self hiσ]at B;cases B;exact⟨u,r,.inl ⟨D,by simp⟩⟩
   ·rw[List.getElem?_set_ne (Qa J)]at B;obtain⟨u',r',q⟩:=hl j y Z g B e3;refine⟨u',r',?_⟩;rcases q with⟨k,e⟩|⟨k,c,e,z⟩
    ·refine .inl ⟨k,?_⟩;have:y≠x:=λe=>J (Jp hN g (e▸hi));simp[this,e]
    ·exact .inr ⟨k,c,e,z.sameBut f (cne y c e)⟩
  ·obtain⟨U,z⟩:=I.cell y c e;exact⟨U,z.sameBut f (cne y c e)⟩
  ·obtain⟨e,n,S,nf,d⟩:=I.pin p hp;exact⟨(f.2 p.1 S).trans e,n,S,nf,d⟩
 ·have G:X.fn x=true:=by
   rcases hf with z | z
   ·exact z
   ·rw[z]at D;cases D
  obtain⟨c,hc⟩:=I.ok.has x (.inl D);obtain⟨U,z⟩:=I.cell x c hc;refine wpAny_storeName_cell I.ok.kind D hc z (λh' O f=>?_);obtain⟨oc,P,L⟩:=id z;refine h {s with heap:=h'} ⟨I.ok,I.os,I.bare,⟨λb o e n F l=>?_,λb o e n F l=>?_,I.base.free,λb o e l=>?_,I.base.tups,I.base.frzs,I.base.tbls⟩,⟨m,hn.sameBut f (Qa (cne x c hc)),λj y Z g B e3=>?_⟩,λy T e=>?_,I.free,I.freeC,λp hp=>?_,tracked ⟨oc,P,I.freeC x c hc⟩ f,by simpa using I.len⟩ ⟨c,f,.inr hc⟩
  ·exact(f.2 b (Ys (Yu (Qn e) (I.ok.cab x c G hc)))).trans (I.base.keep b o e n F l)
  ·obtain⟨sl,g⟩:=I.base.slot b o e n F l;exact⟨sl,(f.2 b (Ys (Yu (Qn e) (I.ok.cab x c G hc)))).trans g⟩
  ·obtain⟨o',g⟩:=I.base.there b o e l;exact⟨o',(f.2 b (Ys (Yu (Qn e) (I.ok.cab x c G hc)))).trans g⟩
  ·by_cases J:j=i
   ·subst J;rw[hi]at g;cases g;rw[List.getElem?_set_self hiσ]at B;cases B;exact⟨u,r,.inr ⟨.inl D,c,hc,O⟩⟩
   ·rw[List.getElem?_set_ne (Qa J)]at B;obtain⟨u',r',q⟩:=hl j y Z g B e3;refine⟨u',r',?_⟩;rcases q with q |⟨k,T,e,z'⟩
    ·exact .inl q
    ·refine .inr ⟨k,T,e,z'.sameBut f ?_⟩;rintro rfl;exact J (Jp hN g (I.ok.inj _ _ _ e hc▸hi))
  ·by_cases K:T=c
   ·subst K;exact⟨_,O⟩
   ·obtain⟨w2,z2⟩:=I.cell y T e;exact⟨w2,z2.sameBut f K⟩
  ·obtain⟨e,n,S,nf,d⟩:=I.pin p hp;refine⟨(f.2 p.1 ?_).trans e,n,S,nf,d⟩;intro q;rw[q,P]at e;have q':oc=p.2:=YF e;exact d U (by rw[<- q'];exact L)
theorem Gr{M:Model}(I:Inv X pins σ H s)(b:X.N.Nodup)(hi:X.N[i]?=some x)(d:Loc X.env.scope x)(r:RelV v u)
  (h:∀ s',Inv X pins (σ.set i (some v)) H s'->Q () s') (a:X.fn x=true\/X.env.scope.names.lookup x=some .local:=by first | exact .inl rfl | exact .inr rfl | assumption):wpAny M A (storeName X.env x u) Q E s :=
 XB I b hi d r (λs' c _=>h s' c) a
theorem Inv.call'{s':Shared}(I:Inv X pins σ H s)(d:s'.os=s.os)(u:Un (frs X.stack) ch H H' s.heap s'.heap)(hok:HOk X.prog X.w H' s'.heap)(f:AllBare s'.gens)
  (a:∀ b∈ch,(b∈X.ex\/X.s₀.heap.objs.size<=b)/\b≠X.env.locals/\(∀ x c,X.env.cells.lookup x=some c->c≠b)/\∀ p∈X.pn++pins,p.1≠b):Inv X pins σ H' s':=by
 obtain⟨h',g',d',t',o'⟩:=s';have e:o'=s.os:=d;subst e;exact I.call (g':=g') (t':=t') (d':=d') u hok f a
end
abbrev XK:=Value->Option Addr->Hp->Prop
abbrev St:=List (Option V)
abbrev VK:=V->Hp->Prop
abbrev TE:=St->Hp->VK->Prop
abbrev TT:=St->Hp->(Bool->Hp->Prop)->Prop
abbrev TA:=St->Hp->(List V->Hp->Prop)->Prop
structure EH where
 nx:St->Hp->Prop
 rt:VK
 bk:St->Hp->Prop:=λ_ _=>False
 ct:St->Hp->Prop:=λ_ _=>False
abbrev TS:=EH->St->Hp->Prop
def EP(X:Cx)(pins:List (Addr×Obj))(σ:St)(Q:VK)(u:Value)(s':Shared):Prop:=∃ v H',Inv X pins σ H' s'/\RelV v u/\Q v H'
def TP(X:Cx)(pins:List (Addr×Obj))(σ:St)(Q:Bool->Hp->Prop)(b:Bool)(s':Shared):Prop:=∃ H',Inv X pins σ H' s'/\Q b H'
def AP(X:Cx)(pins:List (Addr×Obj))(σ:St)(Q:List V->Hp->Prop)(us:List Value)(s':Shared):Prop:=∃ vs H',Inv X pins σ H' s'/\Vals vs us/\Q vs H'
def SP(X:Cx)(pins:List (Addr×Obj))(D:EH)(f:Flow)(s':Shared):Prop :=
 match f with
 | .next=>∃ σ' H',Inv X pins σ' H' s'/\D.nx σ' H'
 | .brk=>∃ σ' H',Inv X pins σ' H' s'/\D.bk σ' H'
 | .cont=>∃ σ' H',Inv X pins σ' H' s'/\D.ct σ' H'
 | .ret u=>∃ v σ' H',Inv X pins σ' H' s'/\RelV v u/\D.rt v H'
def PE(X:Cx)(e:Expr)(t:TE):Prop :=
 ∀(pins:List (Addr×Obj))(s:Shared)(σ:St)(H:Hp)(Q:VK),Inv X pins σ H s->t σ H Q->wpAny (model X.prog X.w) X.A (eval e X.env) (EP X pins σ Q) X.xe s
def PT(X:Cx)(e:Expr)(t:TT):Prop :=
 ∀(pins:List (Addr×Obj))(s:Shared)(σ:St)(H:Hp)(Q:Bool->Hp->Prop),Inv X pins σ H s->t σ H Q->wpAny (model X.prog X.w) X.A (isTrue e X.env (eval e X.env)) (TP X pins σ Q) X.xe s
def PW(X:Cx)(e:Expr)(t:TT):Prop :=
 ∀(whole:Sem Value)(pins:List (Addr×Obj))(s:Shared)(σ:St)(H:Hp)(Q:Bool->Hp->Prop),Inv X pins σ H s->t σ H Q->wpAny (model X.prog X.w) X.A (isTrue e X.env whole) (TP X pins σ Q) X.xe s
variable {X:Cx}
theorem PW.pt{e:Expr}{t:TT}(h:PW X e t):PT X e t:=h _
def PA(X:Cx)(es:List Expr)(t:TA):Prop :=
 ∀(pos:Pos)(pins:List (Addr×Obj))(s:Shared)(σ:St)(H:Hp)(Q:List V->Hp->Prop),Inv X pins σ H s->t σ H Q->wpAny (model X.prog X.w) X.A (spliced (backTo pos (starEach es X.env))) (AP X pins σ Q) X.xe s
def PS(X:Cx)(st:Stmt)(t:TS):Prop :=
 ∀(pins:List (Addr×Obj))(s:Shared)(σ:St)(H:Hp)(D:EH),Inv X pins σ H s->t D σ H->wpAny (model X.prog X.w) X.A (exec st X.env) (SP X pins D) X.xe s
def PSs(X:Cx)(st:List Stmt)(t:TS):Prop :=
 ∀(pins:List (Addr×Obj))(s:Shared)(σ:St)(H:Hp)(D:EH),Inv X pins σ H s->t D σ H->wpAny (model X.prog X.w) X.A (execs st X.env) (SP X pins D) X.xe s
variable {A:Around}{E:Value->Shared->Prop}{s:Shared}
theorem thn{α:Type}{t:Sem α}{Q b:α->Shared->Prop}{M:Model}(h:wpAny M A t Q E s)(c:∀ a s,Q a s->b a s):wpAny M A t b E s:=wpAny_mono h c λ_ _ x=>x
section
variable {X:Cx}
variable {pins:List (Addr×Obj)}{σ:St}
theorem bin{a b:Expr}{ta tb:TE}(m:PE X a ta)(j:PE X b tb){R:V->V->Hp->Prop}(I:Inv X pins σ H s)(h:ta σ H λx H1=>tb σ H1 λy H2=>R x y H2)
  {α:Type} {Q:α->Shared->Prop} {f:Value->Value->Sem α}
  (o:∀ v u e x y H2,Inv X pins σ H2 e->RelV x v->RelV y u->R x y H2->wpAny (model X.prog X.w) X.A (f v u) Q X.xe e):
  wpAny (model X.prog X.w) X.A (eval a X.env) (λv c=>wpAny (model X.prog X.w) X.A (eval b X.env) (λu d=>wpAny (model X.prog X.w) X.A (f v u) Q X.xe d) X.xe c) X.xe s:=by
 refine thn (m pins s σ H _ I h) λv n i=>?_;obtain⟨x,H1,p,r1,q1⟩:=i;refine thn (j pins n σ H1 _ p q1) λu e g=>?_;obtain⟨y,H2,l,k,q2⟩:=g;exact o v u e x y H2 l r1 k q2
def M9(i:Nat):TE:=λσ H Q=>∃ v,σ[i]?=some (some v)/\Q v H
def tC(v:V):TE:=λ_ H Q=>Q v H
variable {x:Str}{pos:Pos}
theorem Na{i:Nat}(j:X.N[i]?=some x)(k:Vis X.env.scope x)(hd:(x==("__debug__":Str))=false:=by decide)(f:(x==("__classdict__":Str))=false:=by decide):PE X (.Name x pos) (M9 i):=by
 intro pins s σ H Q I h;obtain⟨v,e,h⟩:=h;obtain⟨m,n,hl⟩:=I.loc;obtain⟨u,r,l⟩:=hl i x v j e k;have d:EP X pins σ Q u s:=⟨v,H,I,r,h⟩;rcases l with⟨b,g⟩|⟨b,c,hc,a⟩
 ·exact wpAny_Name (wpAny_loadName_local I.ok.kind b n g d) hd
 ·rcases b with b | b
  ·exact wpAny_Name (wpAny_loadName_cell I.ok.kind b hc a d) hd
  ·exact wpAny_Name (wpAny_loadName_free I.ok.kind b hc a d f) hd
theorem XD{i j pos}:PE X (.Constant (.int i) j pos) (tC (.int i)):=λ_ _ _ H _ I h=>wpAny_Constant_int ⟨.int i,H,I.tok _,⟨_,rfl⟩,h⟩
theorem XE{b j pos}:PE X (.Constant (.bool b) j pos) (tC (.bl b)):=λ_ _ _ H _ I h=>Constant_bool ⟨.bl b,H,I,rfl,h⟩
theorem XG{j pos}:PE X (.Constant .none j pos) (tC .non):=λ_ _ _ H _ I h=>Constant_none ⟨.non,H,I,rfl,h⟩
theorem XH{x j pos}:PE X (.Constant (.str x) j pos) (tC (.str x)):=λ_ _ _ H _ I h=>Calls.Constant_str ⟨.str x,H,I.tok _,⟨_,rfl⟩,h⟩
def Gl(X:Cx)(x:Str):Prop:=X.env.kindOf x=some .globalImplicit
variable {u:Value}{Q:Value->Shared->Prop}
theorem EI(I:Inv X pins σ H s)(b:Gl X x)(a:X.mg x=some u)(h:Q u s)
  (hd:(x==("__debug__":Str))=false:=by decide):wpAny (model X.prog X.w) X.A (eval (.Name x pos) X.env) Q E s :=
 Calls.Name_function_global I.ok.kind b (Calls.loadGlobal_global (by rw[I.ok.glob];exact I.mod.glob.keeps I.bk) a h) hd
theorem CC(I:Inv X pins σ H s)(d:Gl X x)(a:X.mg x=none)(c:bootBuiltins x=some u)(h:Q u s)
  (b:x≠"__name__":=by decide) (hd:(x==("__debug__":Str))=false:=by decide):wpAny (model X.prog X.w) X.A (eval (.Name x pos) X.env) Q E s:=by
 obtain⟨mb,h1,h2⟩:=I.mod.blt;exact Calls.Name_function_global I.ok.kind d (Calls.loadGlobal_builtin (by rw[I.ok.glob];exact I.mod.glob.keeps I.bk) a (by rw[I.ok.blt];exact h1.keeps I.bk) ((h2 x b).trans c) h) hd
variable {v:V}
theorem Nb(b:Gl X x)(a:X.mg x=some u)(r:RelV v u)(hd:(x==("__debug__":Str))=false:=by decide):PE X (.Name x pos) (tC v):=
 λ_ _ _ H _ I h=>EI I b a ⟨v,H,I,r,h⟩ hd
theorem Nd(d:Gl X x)(a:X.mg x=none)(c:bootBuiltins x=some u)(r:RelV v u)(b:x≠"__name__":=by decide)(hd:(x==("__debug__":Str))=false:=by decide):PE X (.Name x pos) (tC v):=
 λ_ _ _ H _ I h=>CC I d a c ⟨v,H,I,r,h⟩ b hd
def t2I(ta tb:TE)(k:Int->Int->Hp->Prop):St->Hp->Prop:=λσ H=>ta σ H λx H1=>tb σ H1 λy H2=>∃ i j,x=.int i/\y=.int j/\k i j H2
def XI(ta tb:TE):TE:=λσ H Q=>t2I ta tb (λi j H2=>Q (.int (i - j)) H2) σ H
variable {a b:Expr} {ta tb:TE} {pos:Pos}
theorem A7(e:PE X a ta)(c:PE X b tb):PE X (.BinOp a .Sub b pos) (XI ta tb):=by
 intro pins s σ H Q I h;refine wpAny_BinOp (bin e c I h λv u k x y H2 d f g q=>?_);obtain⟨i,j,rfl,rfl,q⟩:=q;obtain⟨t,rfl⟩:=f;obtain⟨t',rfl⟩:=g;exact sub_int ⟨.int _,H2,d.tok _,⟨_,rfl⟩,q⟩
variable {tA tB':TT} {Aw:List Expr}
def XJ(t u:TT):TT:=λσ H Q=>t σ H λc H1=>if c=true then u σ H1 Q else Q false H1
def tOr(t u:TT):TT:=λσ H Q=>t σ H λc H1=>if c=true then Q true H1 else u σ H1 Q
def XM(t:TT):TT:=λσ H Q=>t σ H λc H1=>Q (!c) H1
theorem XN(b:PT X a tA):PW X (.BoolOp .And [a] pos) tA:=by
 intro d pins s σ H Q I h;refine isTrue_and (thn (b pins s σ H Q I h) λc f e=>?_);cases c with
 | true=>exact isTrue_and_nil e
 | false=>exact e
theorem XO(b:PT X a tA):PW X (.BoolOp .Or [a] pos) tA:=by
 intro d pins s σ H Q I h;refine isTrue_or (thn (b pins s σ H Q I h) λc f e=>?_);cases c with
 | false=>exact isTrue_or_nil e
 | true=>exact e
theorem XQ(g:PT X a tA)(f:PW X (.BoolOp .And (b::Aw) pos) tB'):PW X (.BoolOp .And (a::b::Aw) pos) (XJ tA tB'):=by
 intro j pins s σ H Q I h;refine isTrue_and (thn (g pins s σ H _ I h) λc i d=>?_);obtain⟨H1,e,q1⟩:=d;cases c with
 | true=>exact f j pins i σ H1 Q e q1
 | false=>exact⟨H1,e,q1⟩
theorem XR(g:PT X a tA)(f:PW X (.BoolOp .Or (b::Aw) pos) tB'):PW X (.BoolOp .Or (a::b::Aw) pos) (tOr tA tB'):=by
 intro j pins s σ H Q I h;refine isTrue_or (thn (g pins s σ H _ I h) λc i d=>?_);obtain⟨H1,e,q1⟩:=d;cases c with
 | true=>exact⟨H1,e,q1⟩
 | false=>exact f j pins i σ H1 Q e q1
theorem XS(b:PT X a tA):PT X (.UnaryOp .Not a pos) (XM tA):=by
 intro pins s σ H Q I h;exact isTrue_not (b pins s σ H (λc H1=>Q (!c) H1) I h)
def XT(ta tb:TE):TE:=λσ H Q=>ta σ H λx H1=>∃ c,x=.bl c/\if c=true then tb σ H1 Q else Q (.bl false) H1
def XU(ta tb:TE):TE:=λσ H Q=>ta σ H λx H1=>∃ c,x=.bl c/\if c=true then Q (.bl true) H1 else tb σ H1 Q
def XW(ta:TE):TE:=λσ H Q=>ta σ H λx H1=>∃ c,x=.bl c/\Q (.bl (!c)) H1
theorem XX{op}{t:TE}(h:PE X a t):PE X (.BoolOp op [a] pos) t:=λpins s σ H Q I hw=>BoolOp_one (h pins s σ H Q I hw)
theorem XY(g:PE X a ta)(f:PE X (.BoolOp .And (b::Aw) pos) tb):PE X (.BoolOp .And (a::b::Aw) pos) (XT ta tb):=by
 intro pins s σ H Q I h;refine BoolOp_and (thn (g pins s σ H _ I h) λv i d=>?_);obtain⟨x,H1,e,r1,q1⟩:=d;obtain⟨c,rfl,q1⟩:=q1;cases r1;refine wpAny_truthy_bool ?_;cases c with
 | true=>exact f pins i σ H1 Q e q1
 | false=>exact⟨.bl false,H1,e,rfl,q1⟩
theorem XZ(g:PE X a ta)(f:PE X (.BoolOp .Or (b::Aw) pos) tb):PE X (.BoolOp .Or (a::b::Aw) pos) (XU ta tb):=by
 intro pins s σ H Q I h;refine BoolOp_or (thn (g pins s σ H _ I h) λv i d=>?_);obtain⟨x,H1,e,r1,q1⟩:=d;obtain⟨c,rfl,q1⟩:=q1;cases r1;refine wpAny_truthy_bool ?_;cases c with
 | false=>exact f pins i σ H1 Q e q1
 | true=>exact⟨.bl true,H1,e,rfl,q1⟩
theorem X0(d:PE X a ta):PE X (.UnaryOp .Not a pos) (XW ta):=by
 intro pins s σ H Q I h;refine UnaryOp_ (thn (d pins s σ H _ I h) λv f b=>?_);obtain⟨x,H1,e,r1,q1⟩:=b;obtain⟨c,rfl,q1⟩:=q1;cases r1;exact not_of (wpAny_truthy_bool ⟨.bl (!c),H1,e,rfl,q1⟩)
def tIf(t:TT)(ta tb:TE):TE:=λσ H Q=>t σ H λc H1=>if c=true then ta σ H1 Q else tb σ H1 Q
theorem X1{c:Expr}(hc:PT X c tA)(j:PE X a ta)(i:PE X b tb):PE X (.IfExp c a b pos) (tIf tA ta tb):=by
 intro pins s σ H Q I h;refine wpAny_IfExp (thn (hc pins s σ H _ I h) λd f e=>?_);obtain⟨H1,g,q1⟩:=e;cases d with
 | true=>exact j pins f σ H1 Q g q1
 | false=>exact i pins f σ H1 Q g q1
end
def SqL(K:PySem.W.Frag)(H:Hp)(a:Addr)(xs:List V):Prop :=
 Rd H a (.lst xs)\/
  ∃(o:Obj)(its:Array Value)(n:Nat),K.lookup a=some o/\o.cls=.type "list"/\o.dict=none/\o.data=.seq its n/\its.size<=sizeLine/\Vals xs its.toList
def SqT(K:PySem.W.Frag)(H:Hp)(a:Addr)(xs:List V):Prop :=
 Rd H a (.tup xs)\/
  ∃(o:Obj)(its:Array Value)(n:Nat),K.lookup a=some o/\o.cls=.type "tuple"/\o.dict=none/\o.data=.seq its n/\its.size<=sizeLine/\Vals xs its.toList
def X2:Value->Option V
 | .none=>some .non
 | .bool b=>some (.bl b)
 | .int i _=>some (.int i)
 | .str x _=>some (.str x)
 | .bytes b _=>some (.byt b)
 | .float b _=>some (.flt b)
 | .ref a=>some (.ref a)
 | .type n=>some (.ty n)
 | _=>none
variable {x:V}{u:Value}
theorem RelV.abs(r:RelV x u):X2 u=some x:=by
 cases x with
 | non=>cases r;rfl
 | bl _=>cases r;rfl
 | int _=>obtain⟨t,rfl⟩:=r;rfl
 | str _=>obtain⟨t,rfl⟩:=r;rfl
 | byt _=>obtain⟨t,rfl⟩:=r;rfl
 | flt _=>obtain⟨t,rfl⟩:=r;rfl
 | ref _=>cases r;rfl
 | ty _=>cases r;rfl
theorem RelV.inj{y:V}(r:RelV x u)(q:RelV y u):x=y:=YF (r.abs.symm.trans q.abs)
theorem Vals.inj:∀{xs ys:List V}{us:List Value},Vals xs us->Vals ys us->xs=ys
 | _,_,_,.nil,.nil=>rfl
 | _,_,_,.cons r t,.cons r' t'=>by rw[r.inj r',Vals.inj t t']
section
variable {X:Cx} {pins:List (Addr×Obj)} {σ:St} {H:Hp} {s:Shared} {a:Addr} {xs ys:List V}
variable {K:PySem.W.Frag}
theorem SqL.of(h:H a=some (.lst xs)):SqL K H a xs:=.inl (.inl h)
theorem SqT.of(h:H a=some (.tup xs)):SqT K H a xs:=.inl (.inl h)
theorem Inv.list(I:Inv X pins σ H s)(h:SqL X.K H a xs):∃ b:List Value,Vals xs b/\PlainL s.heap a b.toArray/\xs.length<=sizeLine:=by
 rcases h with h |⟨o,b,n,c,hc,hd,d,f,r⟩
 ·obtain⟨z,b,n,r,e⟩:=h.ok I.hok;exact⟨b,r,⟨_,n,e,rfl,rfl,rfl⟩,z⟩
 ·refine⟨b.toList,r,⟨o,n,I.kIn a o c,hc,hd,by simpa using d⟩,?_⟩;have e:=r.length;simp only[YX]at e;omega
theorem Inv.tupP(I:Inv X pins σ H s)(h:SqT X.K H a xs):∃ b:List Value,Vals xs b/\TupP s.heap a b.toArray/\xs.length<=sizeLine:=by
 rcases h with h |⟨o,b,n,c,hc,hd,d,f,r⟩
 ·obtain⟨z,b,r,p⟩:=h.ok I.hok;exact⟨b,r,p,z⟩
 ·refine⟨b.toList,r,⟨o,I.kIn a o c,hc,hd,n,by simpa using d⟩,?_⟩;have e:=r.length;simp only[YX]at e;omega
theorem Inv.tuple(I:Inv X pins σ H s)(h:SqT X.K H a xs):∃ b:List Value,Vals xs b/\IsTup s.heap a b.toArray/\xs.length<=sizeLine :=
 let⟨b,r,p,z⟩:=I.tupP h
 ⟨b,r,p.up,z⟩
theorem Inv.list_inj(I:Inv X pins σ H s)(h:SqL X.K H a xs)(h':SqL X.K H a ys):xs=ys:=by
 obtain⟨c,r,⟨o,n,e,_,_,d⟩,_⟩:=I.list h;obtain⟨b,r',⟨o',i,f,_,_,g⟩,_⟩:=I.list h';rw[e]at f;cases f;rw[d]at g;injection g with d1 _;have:c=b:=by simpa using congrArg Array.toList d1
 subst this;exact r.inj r'
theorem Inv.tuple_inj(I:Inv X pins σ H s)(h:SqT X.K H a xs)(h':SqT X.K H a ys):xs=ys:=by
 obtain⟨c,r,⟨o,e,_,n,d⟩,_⟩:=I.tuple h;obtain⟨b,r',⟨o',f,_,i,g⟩,_⟩:=I.tuple h';rw[e]at f;cases f;rw[d]at g;injection g with d1 _;have:c=b:=by simpa using congrArg Array.toList d1
 subst this;exact r.inj r'
end
abbrev Cx.wish(X:Cx)(E:Value->Shared->Prop):Cx:={X with xe:=E}
abbrev Cx.nox(X:Cx):Cx:=X.wish λ_ _=>False
theorem Cx.Ok.wish(ok:X.Ok)(E:Value->Shared->Prop):(X.wish E).Ok :=
 ⟨ok.mod,ok.kind,ok.glob,ok.blt,ok.above,ok.inj,ok.has,ok.cab,ok.hd,ok.frames,ok.stk,ok.exf,ok.bs,ok.bsz,ok.noex,ok.exfs,ok.funs,ok.frf⟩
theorem Cx.Ok.unwish(ok:(X.wish E).Ok):X.Ok :=
 ⟨ok.mod,ok.kind,ok.glob,ok.blt,ok.above,ok.inj,ok.has,ok.cab,ok.hd,ok.frames,ok.stk,ok.exf,ok.bs,ok.bsz,ok.noex,ok.exfs,ok.funs,ok.frf⟩
section
variable {X:Cx} {pins:List (Addr×Obj)} {σ:St} {H:Hp} {s:Shared} {E:Value->Shared->Prop}
theorem Inv.wish(I:Inv X pins σ H s)(E:Value->Shared->Prop):Inv (X.wish E) pins σ H s:=⟨I.ok.wish E,I.os,I.bare,I.base,I.loc,I.cell,I.free,I.freeC,I.pin,I.hok,I.len⟩
theorem Inv.unwish(I:Inv (X.wish E) pins σ H s):Inv X pins σ H s:=⟨I.ok.unwish,I.os,I.bare,I.base,I.loc,I.cell,I.free,I.freeC,I.pin,I.hok,I.len⟩
theorem SP.unwish{D:EH}{f:Flow}{s':Shared}(h:SP (X.wish E) pins D f s'):SP X pins D f s':=by
 cases f with
 | next=>obtain⟨σ',H',I,q⟩:=h;exact⟨σ',H',I.unwish,q⟩
 | brk=>obtain⟨σ',H',I,q⟩:=h;exact⟨σ',H',I.unwish,q⟩
 | cont=>obtain⟨σ',H',I,q⟩:=h;exact⟨σ',H',I.unwish,q⟩
 | ret u=>obtain⟨v,σ',H',I,r,q⟩:=h;exact⟨v,σ',H',I.unwish,r,q⟩
variable {e:Expr}
theorem PE.nox{t:TE}(h:PE X.nox e t):PE X e t:=λpins s σ H Q I hw=>
 wpAny_mono (h pins s σ H Q (I.wish _) hw) ((by rintro _ _ ⟨v,H',a,r,q⟩;exact⟨v,H',a.unwish,r,q⟩)) λ_ _ z=>Ql z
theorem PT.nox{t:TT}(h:PT X.nox e t):PT X e t:=λpins s σ H Q I hw=>
 wpAny_mono (h pins s σ H Q (I.wish _) hw) ((by rintro _ _ ⟨H',a,q⟩;exact⟨H',a.unwish,q⟩)) λ_ _ z=>Ql z
theorem PSs.nox{st:List Stmt}{t:TS}(h:PSs X.nox st t):PSs X st t:=λpins s σ H D I hw=>
 wpAny_mono (h pins s σ H D (I.wish _) hw) (λ_ _ q=>q.unwish) λ_ _ z=>Ql z
end
section
variable {X:Cx} {st:Stmt} {Aw:List Stmt} {t u:TS} {e:Expr} {te:TE} {pos:Pos}
def X3:TS:=λD σ H=>D.nx σ H
def X4(t u:TS):TS:=λD σ H=>t {D with nx:=u D} σ H
theorem X5:PSs X [] X3:=λ_ _ σ H _ I h=>wpAny_execs_nil ⟨σ,H,I,h⟩
theorem X6(h1:PS X st t)(h2:PSs X Aw u):PSs X (st::Aw) (X4 t u):=by
 intro pins s σ H D I h;refine wpAny_execs_cons (thn (h1 pins s σ H {D with nx:=u D} I h) λf b q=>?_);cases f with
 | next =>
  obtain⟨σ',H',a,q⟩:=q;exact h2 pins b σ' H' D a q
 | ret v=>exact q
 | brk=>exact q
 | cont=>exact q
theorem X7(h1:PS X st t):PSs X [st] t:=by
 intro pins s σ H D I h;refine wpAny_execs_cons (thn (h1 pins s σ H D I h) λf a q=>?_);cases f with
 | next=>exact wpAny_execs_nil q
 | ret v=>exact q
 | brk=>exact q
 | cont=>exact q
theorem Inv.quiet(I:Inv X pins σ H s):interactive X.env=false:=by simp[interactive,I.ok.kind]
def X8(te:TE):TS:=λD σ H=>te σ H λ_ H1=>D.nx σ H1
theorem X9(a:PE X e te)(c:swapsWith e none pos.line X.env=pure false:=by rfl):PS X (.Expr e pos) (X8 te):=by
 intro pins s σ H D I h;exact wpAny_Expr_any (thn (a pins s σ H _ I h) (by rintro v d ⟨x,H1,b,r1,q1⟩;exact⟨σ,H1,b,q1⟩)) I.quiet c
def Y0(te:TE):TS:=λD σ H=>te σ H D.rt
theorem Y1(a:PE X e te):PS X (.Return (some e) pos) (Y0 te):=by
 intro pins s σ H D I h;exact wpAny_Return_some (thn (a pins s σ H _ I h) (by rintro v c ⟨x,H1,b,r1,q1⟩;exact⟨x,σ,H1,b,r1,q1⟩))
def Y2(c:TT)(t u:TS):TS:=λD σ H=>c σ H λb H1=>if b=true then t D σ H1 else u D σ H1
theorem Y3{c:Expr}{a b:List Stmt}(hc:PT X c tc)(j:PSs X a t)(i:PSs X b u):PS X (.If c a b pos) (Y2 tc t u):=by
 intro pins s σ H D I h;refine wpAny_If (thn (hc pins s σ H _ I h) λd f e=>?_);obtain⟨H1,g,q1⟩:=e;cases d with
 | true=>exact j pins f σ H1 D g q1
 | false=>exact i pins f σ H1 D g q1
end
abbrev TG:=V->St->Hp->(St->Hp->Prop)->Prop
abbrev TGs:=List V->St->Hp->(St->Hp->Prop)->Prop
def PG(X:Cx)(target:Expr)(t:TG):Prop :=
 ∀(pins:List (Addr×Obj))(s:Shared)(σ:St)(H:Hp)(v:V)(u:Value)(Q:St->Hp->Prop),Inv X pins σ H s->RelV v u->t v σ H Q->
  wpAny (model X.prog X.w) X.A (assign target X.env u) (λ_ s'=>∃ σ' H',Inv X pins σ' H' s'/\Q σ' H') X.xe s
def PGs(X:Cx)(ts:List Expr)(t:TGs):Prop :=
 ∀(pins:List (Addr×Obj))(s:Shared)(σ:St)(H:Hp)(vs:List V)(us:List Value)(Q:St->Hp->Prop),Inv X pins σ H s->Vals vs us->t vs σ H Q->
  wpAny (model X.prog X.w) X.A (assignInOrder ((assignEach ts X.env).map (·.2)) us) (λ_ s'=>∃ σ' H',Inv X pins σ' H' s'/\Q σ' H') X.xe s
abbrev Jq:=V->V->V->Hp->(Hp->Prop)->Prop
def Jr(X:Cx)(t:Jq):Prop :=
 ∀(pins:List (Addr×Obj))(s:Shared)(σ:St)(H:Hp)(o i v:V)(ov iv u:Value)(Q:Hp->Prop),Inv X pins σ H s->RelV o ov->RelV i iv->RelV v u->t o i v H Q->
  wpAny (model X.prog X.w) X.A (setItem ov iv u) (λ_ s'=>∃ H',Inv X pins σ H' s'/\Q H') X.xe s
abbrev TIp:=V->V->Hp->VK->Prop
def PIp(X:Cx)(op:Operator)(t:TIp):Prop :=
 ∀(pins:List (Addr×Obj))(s:Shared)(σ:St)(H:Hp)(x y:V)(v u:Value)(Q:VK),Inv X pins σ H s->RelV x v->RelV y u->t x y H Q->
  wpAny (model X.prog X.w) X.A (inplaceOp op v u) (EP X pins σ Q) X.xe s
section
variable {X:Cx} {pos:Pos}
def C3(i:Nat):TG:=λv σ H Q=>Q (σ.set i (some v)) H
variable {i:Nat}
theorem CN{x:Str}(b:X.N.Nodup)(hi:X.N[i]?=some x)(d:Loc X.env.scope x)(a:X.fn x=true\/X.env.scope.names.lookup x=some .local:=by first | exact .inl rfl | exact .inr rfl | assumption):PG X (.Name x pos) (C3 i):=by
 intro pins s σ H v u Q I r h;exact wpAny_assign_Name (Gr I b hi d r (λs' c=>⟨_,H,c,h⟩) a)
def Ac:TGs:=λvs σ H Q=>vs=[]/\Q σ H
def Aa(t:TG)(u:TGs):TGs:=λvs σ H Q=>∃ v r,vs=v::r/\t v σ H λσ' H'=>u r σ' H' Q
theorem Js:PGs X [] Ac:=by
 intro pins s σ H a b Q I r h;obtain⟨e,h⟩:=h;subst e;cases r;exact assignInOrder_nil ⟨σ,H,I,h⟩
variable {e:Expr}{es:List Expr}
theorem D4{t:TG}{u:TGs}(h1:PG X e t)(h2:PGs X es u)
  (d:(assignEach (e::es) X.env).map (·.2)=assign e X.env::(assignEach es X.env).map (·.2):=by rfl):PGs X (e::es) (Aa t u):=by
 intro pins s σ H j k Q I r h;obtain⟨v,i,b,h⟩:=h;subst b;cases r with
 | cons r c =>
  rw[d];refine assignInOrder_cons (thn (h1 pins s σ H _ _ _ I r h) λ_ f a=>?_);obtain⟨σ1,H1,g,q1⟩:=a;exact h2 pins f σ1 H1 _ _ Q g c q1
def Ah(K:PySem.W.Frag)(n:Nat)(t:TGs):TG:=λv σ H Q=>∃ a xs,v=.ref a/\SqT K H a xs/\xs.length=n/\t xs σ H Q
theorem Jt{k:Nat}{t:TGs}{n:Nat}(hc:X.calm=true)(h:PGs X es t)
  (p:(assignEach es X.env).length=n:=by rfl) (c:(assignEach es X.env).findIdx? (·.1)=none:=by rfl):PG X (.Tuple es k pos) (Ah X.K n t):=by
 intro pins s σ H v u Q I r hw;obtain⟨a,xs,l,f,hl,hw⟩:=hw;subst l;cases r;obtain⟨j,d,g,q⟩:=I.tuple f;refine assign_Tuple_tuple (I.ok.hd hc) g (by simp[p,<- hl,d.length]) c λh' i=>?_;have m:Inv X pins σ H {s with heap:=h'}:=I.kept (t':=s.toks) λb o e=>i b o (Ys (Qn e)) e;exact h pins _ σ H xs _ Q m (by simpa using d) hw
def Y4(to ti:TE)(t:Jq):TG:=λv σ H Q=>to σ H λo H1=>ti σ H1 λi H2=>t o i v H2 λH3=>Q σ H3
theorem Nf{o i:Expr}{to f:TE}{t:Jq}(z:PE X o to)(hi:PE X i f)(p:Jr X t)
  (m:∀ v,assign (.Subscript o i pos) X.env v=(do
   let a <- holding [v] (eval o X.env)
   let c <- holding [v,a] (eval i X.env)
   standAt pos
   holding [v,a,c] (setItem a c v)
   release [v,a,c] []):=by intro _;rfl):PG X (.Subscript o i pos) (Y4 to f t):=by
 intro pins s σ H v u Q I r h;rw[m];refine wpAny_bind (wpAny_holding (thn (z pins s σ H _ I h) λa q d=>?_));obtain⟨x,H1,g,r1,q1⟩:=d;refine wpAny_bind (wpAny_holding (thn (hi pins q σ H1 _ g q1) λc w b=>?_));obtain⟨y,H2,l,j,q2⟩:=b;refine wpAny_bind (wpAny_standAt (wpAny_bind (wpAny_holding (thn (p pins w σ H2 x y v a c u _ l r1 j r q2) λ_ A e=>?_))));obtain⟨k,n,q3⟩:=e;exact wpAny_release ⟨σ,k,n,q3⟩
def Ng(te:TE)(g:TG):TS:=λD σ H=>te σ H λx H1=>g x σ H1 D.nx
variable {te:TE}
theorem Nh{g:TG}(b:PE X e te)(i:PG X tg g)(c:swapsWithSole [tg] e pos.line X.env=pure false:=by rfl)(hw:swappedStores [tg] e X.env=pure none:=by rfl)
  (h1:(assignEach [tg] X.env).map (·.2)=[assign tg X.env]:=by rfl):PS X (.Assign [tg] e pos) (Ng te g):=by
 intro pins s σ H D I h;refine wpAny_Assign_stores (thn (b pins s σ H _ I h) λv d a=>?_) c hw;obtain⟨x,H1,f,r1,q1⟩:=a;rw[h1];exact thn (i pins d σ H1 x v _ f r1 q1) λ_ j q=>q
variable {pos':Pos}
theorem Y5{x:Str}(j:X.N.Nodup)(hi:X.N[i]?=some x)(c:Loc X.env.scope x)(d:PE X e te)(f:swapsWith e (some (.Name x pos')) pos.line X.env=pure false:=by rfl)(g:X.fn x=true\/X.env.scope.names.lookup x=some .local:=by first | exact .inl rfl | exact .inr rfl | assumption):
  PS X (.Assign [.Name x pos'] e pos) (Ng te (C3 i)):=by
 intro pins s σ H D I h;refine wpAny_Assign_Name (thn (d pins s σ H _ I h) λv l a=>?_) f;obtain⟨y,H1,k,r1,q1⟩:=a;exact Gr k j hi c r1 (λm b=>⟨_,H1,b,q1⟩) g
def Y6(i:Nat)(te:TE)(ti:TIp):TS:=λD σ H=>∃ x,σ[i]?=some (some x)/\te σ H λy H1=>ti x y H1 λz H2=>D.nx (σ.set i (some z)) H2
theorem Y7{x:Str}{op:Operator}{p:TIp}(Q:X.N.Nodup)(hi:X.N[i]?=some x)(n:Loc X.env.scope x)(B:PE X e te)(E:PIp X op p)(L:X.fn x=true\/X.env.scope.names.lookup x=some .local:=by first | exact .inl rfl | exact .inr rfl | assumption):
  PS X (.AugAssign (.Name x pos') op e pos) (Y6 i te p):=by
 intro pins s σ H D I h;obtain⟨v,P,h⟩:=h;obtain⟨m,F,hl⟩:=I.loc;have o:Vis X.env.scope x:=by rcases n with k | k;exact .inl k;exact .inr (.inl k)
 obtain⟨u,r,l⟩:=hl i x v hi P o;refine wpAny_AugAssign_Name ?_
 have go:wpAny (model X.prog X.w) X.A (eval e X.env) (λw j=>wpAny (model X.prog X.w) X.A (inplaceOp op u w) (λr d=>wpAny (model X.prog X.w) X.A (storeName X.env x r) (λ_=>SP X pins D .next) X.xe d) X.xe j) X.xe s:=by
  refine thn (B pins s σ H _ I h) λw K f=>?_;obtain⟨y,H1,O,r1,q1⟩:=f;refine thn (E pins K σ H1 v y u w _ O r r1 q1) λz T g=>?_;obtain⟨S,H2,t,q,q2⟩:=g;exact Gr t Q hi n q (λR J=>⟨_,H2,J,q2⟩) L
 rcases l with⟨a,G⟩|⟨a,c,hc,b⟩
 ·exact wpAny_loadName_local I.ok.kind a F G go
 ·rcases a with a | a
  ·exact wpAny_loadName_cell I.ok.kind a hc b go
  ·rcases n with k | k
   ·have:X.env.scope.names.lookup x=some .free:=a;rw[k]at this;cases this
   ·have:X.env.scope.names.lookup x=some .free:=a;rw[k]at this;cases this
end
section
variable {X:Cx} {pos:Pos}
def Y8(c:TT)(tb:TS):TS:=λD σ H=>∃ W:Nat->St->Hp->Prop,(∃ m,W m σ H)/\∀ m σ H,W m σ H->
 c σ H λb H1=>if b=true then ∃ N:St->Hp->Prop,(∀ σ' H',N σ' H'->∃ m',m' < m/\W m' σ' H')/\tb {D with nx:=N,ct:=N,bk:=D.nx} σ H1 else D.nx σ H1
theorem Y9{c:Expr}{tb:TS}(o:PassesOwn (model X.prog X.w) X.A X.env X.xe)(hc:PT X c tc)(r:PSs X body tb):PS X (.While c body [] pos) (Y8 tc tb):=by
 intro pins s σ H D I h;obtain⟨W,⟨y,z⟩,a⟩:=h;refine wpAny_While (codeAny_whileLoop (λn s'=>∃ σ' H',Inv X pins σ' H' s'/\W n σ' H') ?_ y ⟨σ,H,I,z⟩);rintro n t ⟨σ1,H1,x,q⟩;refine wpAny_passesOwn o (thn (hc pins t σ1 H1 _ x (a n σ1 H1 q)) λb u e=>?_);obtain⟨H2,m,q2⟩:=e;cases b with
 | true =>
  obtain⟨N,p,q2⟩:=q2;rw[if_pos rfl];refine wpAny_passesOwn o (thn (r pins u σ1 H2 _ m q2) λf B q3=>?_);cases f with
  | next =>
   obtain⟨σ3,d,j,l⟩:=q3;obtain⟨k,g,i⟩:=p σ3 d l;exact⟨k,g,σ3,d,j,i⟩
  | cont =>
   obtain⟨σ3,d,j,l⟩:=q3;obtain⟨k,g,i⟩:=p σ3 d l;exact⟨k,g,σ3,d,j,i⟩
  | brk=>exact q3
  | ret v=>exact q3
 | false =>
  rw[if_neg YY];exact wpAny_execs_nil ⟨σ1,H2,m,q2⟩
end
structure It where
 go:Nat->Hp->Prop
 yld:Nat->Hp->V->Hp->Prop
 stop:Nat->Hp->Prop
def CD(X:Cx)(pins:List (Addr×Obj))(H:Hp)(b:Addr):Prop :=
 H b=none/\b≠X.env.locals/\b∉X.fs/\(b∈X.ex\/X.s₀.heap.objs.size<=b)/\(∀ x c,X.env.cells.lookup x=some c->c≠b)/\∀ p∈X.pn++pins,p.1≠b
theorem Inv.fpOk{H':Hp}(I:Inv X pins σ H s)(a:s.heap.objs.size<=b)(f:H' b=none):CD X pins H' b:=by
 refine⟨f,Nat.ne_of_gt (Yu I.lt a),I.nofs a,.inr (Yt I.sz a),λx c e z=>?_,λp d z=>?_⟩
 ·obtain⟨v,q⟩:=I.cell x c e;exact absurd (Yu q.lt (by rw[z];exact a)) (YM _)
 ·exact absurd (Yu (Qn (I.pin p d).1) (by rw[z];exact a)) (YM _)
structure Dx(P:Program)(w:World)(K:PySem.W.Frag)(tg:Expr)(J:It)(fp:List Addr)(it:Addr)(tn:Nat->Heap->Prop):Prop where
 mem:it∈fp
 obj:∀ i h,tn i h->∀ b∈fp,∃ o,h.get? b=some o/\∀ v,o.data≠.cell v
 keep:∀ i h h',tn i h->(∀ b∈fp,∀ o,h.get? b=some o->h'.get? b=some o)->tn i h'
 item:∀(X:Cx),X.prog=P->X.w=w->X.K=K->X.calm=true->∀(i:Nat)(pins:List (Addr×Obj))(s:Shared)(σ:St)(H:Hp)(E:Value->Shared->Prop),Inv X pins σ H s->(∀ b∈fp,CD X pins H b)->tn i s.heap->J.go i H->
  wpAny (model P w) X.A (pyNext (.ref it)) (λr s1=>∃ u,r=some u/\
   wpAny (model P w) X.A (letOwnedTupleGo tg (.ref it) u) (λ_ s2=>∃ x H',Inv X pins σ H' s2/\RelV x u/\J.yld i H x H'/\tn (i+1) s2.heap/\∀ b∈fp,H' b=none) E s1) E s
 done:∀(X:Cx),X.prog=P->X.w=w->X.K=K->X.calm=true->∀(i:Nat)(pins:List (Addr×Obj))(s:Shared)(σ:St)(H:Hp)(E:Value->Shared->Prop),Inv X pins σ H s->(∀ b∈fp,CD X pins H b)->tn i s.heap->J.stop i H->
  wpAny (model P w) X.A (pyNext (.ref it)) (λr s1=>r=none/\Inv X pins σ H s1) E s
 self:∀(A:Around)(i:Nat)(s:Shared)(Q:Value->Shared->Prop)(E:Value->Shared->Prop),tn i s.heap->Q (.ref it) s->wpAny (model P w) A (pyIter (.ref it)) Q E s
abbrev TI:=St->Hp->(It->Hp->Prop)->Prop
def PIE(X:Cx)(pins:List (Addr×Obj))(σ:St)(tg:Expr)(R:It->Hp->Prop)(itv:Value)(s2:Shared):Prop :=
 ∃(it:Addr)(fp:List Addr)(tn:Nat->Heap->Prop)(J:It)(H':Hp),itv=.ref it/\Inv X pins σ H' s2/\Dx X.prog X.w X.K tg J fp it tn/\tn 0 s2.heap/\(∀ b∈fp,CD X pins H' b)/\R J H'
def PI(X:Cx)(tg iter:Expr)(wi:TI):Prop :=
 ∀(pins:List (Addr×Obj))(s:Shared)(σ:St)(H:Hp)(R:It->Hp->Prop),Inv X pins σ H s->wi σ H R->
  wpAny (model X.prog X.w) X.A (eval iter X.env) (λv s1=>wpAny (model X.prog X.w) X.A (pyIter v) (PIE X pins σ tg R) X.xe s1) X.xe s
variable {tg:Expr}
theorem Ju{M:Model}{o:Obj}{n:String}{vs:Array Value}{Q:Unit->Shared->Prop}(b:s.heap.get? it=some o)(hc:o.cls=.type n)(hd:o.data=.fields vs)
  (c:["enumerate","zip","dict_itemiterator","dict_reverseitemiterator","odict_iterator","itertools.zip_longest","itertools.pairwise"].contains n=false) (a:Q () s):wpAny M A (letOwnedTupleGo tg (.ref it) u) Q E s:=by
 unfold letOwnedTupleGo
 cases tg <;> first
  | exact wpAny_pure a
  |(cases u <;> first
    | exact wpAny_pure a
    |(refine wpAny_bind (wpAny_load b ?_)
      rw[hc,hd]
      show wpAny M A (if(["enumerate","zip","dict_itemiterator","dict_reverseitemiterator","odict_iterator","itertools.zip_longest","itertools.pairwise"].contains n&&vs[0]?==some (rawInt _))=true then _ else _) Q E s
      rw[if_neg (by intro h;rw[c,Bool.false_and]at h;cases h)]
      exact wpAny_pure a))
def Itl(K:PySem.W.Frag)(a:Addr):It :=
 ⟨λi H=>∃ xs x,SqL K H a xs/\xs[i]?=some x,λi H x H'=>H'=H/\∀ xs,SqL K H a xs->xs[i]?=some x,λi H=>∃ xs,SqL K H a xs/\xs.length<=i⟩
def Itt(K:PySem.W.Frag)(a:Addr):It :=
 ⟨λi H=>∃ xs x,SqT K H a xs/\xs[i]?=some x,λi H x H'=>H'=H/\∀ xs,SqT K H a xs->xs[i]?=some x,λi H=>∃ xs,SqT K H a xs/\xs.length<=i⟩
def Itr(lo:Int)(n:Nat):It:=⟨λi _=>i < n,λi H x H'=>H'=H/\x=.int (lo+i),λi _=>n<=i⟩
variable {K:PySem.W.Frag}
theorem Ni(a it:Addr):Dx P w K tg (Itl K a) [it] it (λi h=>h.IsListIter it a i) where
 mem:=by simp
 obj:=λi h st b f=>by
  have e:b=it:=by simpa using f
  subst e;obtain⟨o,e,c,d⟩:=st;exact⟨o,e,λv z=>by rw[d]at z;cases z⟩
 keep:=λi h h' st k=>st.at λo e=>k it (by simp) o e
 item:=by
  intro X F hw D hc i pins s σ H E I l st G;subst F hw D;obtain⟨xs,x,j,n⟩:=G;obtain⟨q,A,p,N⟩:=I.list j;obtain⟨u,J,S⟩:=A.get n;obtain⟨B,t,L,r,m,y⟩:=l it (by simp);refine wpAny_pyNext_list_item st p.isList (x:=u) (by simpa using J) λh' g O=>?_;have R:Inv X pins σ H {s with heap:=h'}:=I.turned (t':=s.toks) (λb o f e=>(O.2 b f).trans e) B t r m y;obtain⟨o,e,c,d⟩:=id g;exact⟨u,rfl,Ju (s:={s with heap:=h'}) e c d (by decide) ⟨x,H,R,S,⟨rfl,λys Q=>by rw[I.list_inj Q j];exact n⟩,g,λb f=>(l b f).1⟩⟩
 done:=by
  intro X F hw D hc i pins s σ H E I l st G;subst F hw D;obtain⟨xs,j,n⟩:=G;obtain⟨q,A,p,N⟩:=I.list j;obtain⟨B,t,L,r,m,y⟩:=l it (by simp);have hl:=A.length;exact wpAny_pyNext_list_end (I.ok.hd hc) st p.isList (by simp;omega) λh' eb=>⟨rfl,I.turned (t':=s.toks) (λb o f e=>eb b o f e) B t r m y⟩
 self:=λ_ _ _ _ _ st h=>wpAny_pyIter_listiter st h
theorem Nj(a it:Addr):Dx P w K tg (Itt K a) [it] it (λi h=>h.IsTupleIter it a i) where
 mem:=by simp
 obj:=λi h st b g=>by
  have e:b=it:=by simpa using g
  subst e;obtain⟨o,e,c,d⟩:=st;exact⟨o,e,λv z=>by rw[d]at z;cases z⟩
 keep:=λi h h' st k=>st.at λo e=>k it (by simp) o e
 item:=by
  intro X F hw D hc i pins s σ H E I m st G;subst F hw D;obtain⟨xs,x,l,q⟩:=G;obtain⟨f,A,p,N⟩:=I.tuple l;obtain⟨u,J,S⟩:=A.get q;obtain⟨B,t,L,r,n,y⟩:=m it (by simp);refine wpAny_pyNext_tuple_item st (show s.heap.IsTuple a f.toArray from p) (x:=u) (by simpa using J) λh' j O=>?_;have R:Inv X pins σ H {s with heap:=h'}:=I.turned (t':=s.toks) (λb o g e=>(O.2 b g).trans e) B t r n y;obtain⟨o,e,c,d⟩:=id j;exact⟨u,rfl,Ju (s:={s with heap:=h'}) e c d (by decide) ⟨x,H,R,S,⟨rfl,λys Q=>by rw[I.tuple_inj Q l];exact q⟩,j,λb g=>(m b g).1⟩⟩
 done:=by
  intro X F hw D hc i pins s σ H E I m st G;subst F hw D;obtain⟨xs,l,q⟩:=G;obtain⟨f,A,p,N⟩:=I.tuple l;obtain⟨B,t,L,r,n,y⟩:=m it (by simp);have hl:=A.length;exact wpAny_pyNext_tuple_end (I.ok.hd hc) st (show s.heap.IsTuple a f.toArray from p) (by simp;omega) λh' eb=>⟨rfl,I.turned (t':=s.toks) (λb o g e=>eb b o g e) B t r n y⟩
 self:=λ_ _ _ _ _ st h=>wpAny_pyIter_tupleiter st h
theorem Za(it:Addr)(lo:Int)(n:Nat):Dx P w K tg (Itr lo n) [it] it (λi h=>IsRangeIter h it (lo+(i:Nat)*1) ((n:Int) -(i:Nat)) 1) where
 mem:=by simp
 obj:=λi h st b a=>by
  have e:b=it:=by simpa using a
  subst e
  exact⟨_,st,λv z=>by
   have y:Data.fields _=Data.cell v:=z;cases y⟩
 keep:=λi h h' st k=>k it (by simp) _ st
 item:=by
  intro X p hw j hc i pins s σ H E I d st r;subst p hw j;obtain⟨l,m,x,q,f,g⟩:=d it (by simp);have W:=Walks.range (prog:=X.prog) (w:=X.w) (I.ok.hd hc) it lo 1 n;refine W.item i s _ _ r st λv h' tk B c u=>?_;obtain⟨t,rfl⟩:=B;have A:Inv X pins σ H {s with heap:=h',toks:=tk}:=I.turned (λb o a e=>u b o (by simpa using a) e) l m q f g;refine⟨_,rfl,Ju (s:={s with heap:=h',toks:=tk}) (n:="range_iterator") c rfl rfl (by decide) ⟨.int (lo+i),H,A,⟨t,?_⟩,⟨rfl,rfl⟩,c,λb a=>(d b a).1⟩⟩;rw[Int.mul_one]
 done:=by
  intro X p hw j hc i pins s σ H E I d st r;subst p hw j;obtain⟨l,m,x,q,f,g⟩:=d it (by simp);exact wpAny_pyNext_range_end (I.ok.hd hc) st (by have:n<=i:=r;omega) λh' eb=>⟨rfl,I.turned (t':=s.toks) (λb o a e=>eb b o a e) l m q f g⟩
 self:=λ_ _ _ _ _ st h=>wpAny_pyIter_rangeiter st h
section
variable {X:Cx} {tg:Expr}
variable {pins:List (Addr×Obj)}{σ:St}
theorem Zb{R:It->Hp->Prop}{lo hi:Int}{t u v:Tok}(I:Inv X pins σ H s)(h1:-(2 ^ 62)<=lo)(h2:lo < 2 ^ 62)(c:-(2 ^ 62)<=hi)(f:hi < 2 ^ 62)
  (q:R (Itr lo (hi - lo).toNat) H):wpAny (model X.prog X.w) X.A (pyIter (.ref s.heap.objs.size)) (PIE X pins σ tg R) E {s with heap:=s.heap.push {cls:=.type "range",data:=.fields #[.int lo t,.int hi u,.int 1 v]},toks:=tk}:=by
 refine wpAny_pyIter_range (IsRange.new ..) (small_one h1 h2 c f) ?_;have a:Inv X pins σ H {s with heap:=s.heap.push {cls:=.type "range",data:=.fields #[.int lo t,.int hi u,.int 1 v]},toks:=tk}:=I.kept λb o e=>Qm _ e
 refine⟨(s.heap.push {cls:=.type "range",data:=.fields #[.int lo t,.int hi u,.int 1 v]}).objs.size,[(s.heap.push {cls:=.type "range",data:=.fields #[.int lo t,.int hi u,.int 1 v]}).objs.size],_,_,H,rfl,
  a.kept (t':=tk) λb o e=>Qm _ e,Za _ lo (hi - lo).toNat,?_,λb d=>?_,q⟩
 ·have h:lo+((0:Nat):Int)*1=lo:=by simp
  have g:(((hi - lo).toNat:Nat):Int) -((0:Nat):Int)=Builtin.Range.rangeSize lo hi 1:=by rw[rangeSize_one];split <;> omega
  show IsRangeIter _ _ (lo+((0:Nat):Int)*1) ((((hi - lo).toNat:Nat):Int) -((0:Nat):Int)) 1;rw[h,g];exact Qo _ rfl
 ·have e:b=(s.heap.push {cls:=.type "range",data:=.fields #[.int lo t,.int hi u,.int 1 v]}).objs.size:=by simpa using d
  subst e;exact a.fpOk (Yr _) (a.hok.fresh (Yr _))
def Zc(ta:TA):TI:=λσ H R=>ta σ H λvs H1=>∃ j:Int,vs=[.int j]/\-(2 ^ 62)<=j/\j < 2 ^ 62/\R (Itr 0 j.toNat) H1
variable {pos:Pos}
theorem Zd{a:Expr}{p:Pos}(k:Gl X "range")(c:X.mg "range"=none)(d:PA X [a] ta)(g:starEach [a] X.env=[(false,eval a X.env)]:=by rfl):PI X tg (.Call (.Name "range" p) [a] [] pos) (Zc ta):=by
 intro pins s σ H R I h;refine Call_ (CC I k c boot_range (Qh (thn (d pos pins s σ H _ I h) λn m b=>?_) g rfl));obtain⟨l,H1,i,r1,q1⟩:=b;obtain⟨j,e,q1,q2,q⟩:=q1;subst e;cases r1 with
 | cons r f =>
  cases f;obtain⟨t,rfl⟩:=r;exact call_range_1 (Zb i (by omega) (by omega) q1 q2 (by simpa using q))
def Ze(wi:TI)(g:TG)(tb:TS):TS:=λD σ H=>wi σ H λJ H1=>∃ W:Nat->Nat->St->Hp->Prop,(∃ m,W 0 m σ H1)/\∀ i m σ H,W i m σ H->
 (J.stop i H/\D.nx σ H)\/(J.go i H/\∃ N:St->Hp->Prop,(∀ σ' H',N σ' H'->∃ m',m' < m/\W (i+1) m' σ' H')/\∀ x H',J.yld i H x H'->g x σ H' λσ2 H2=>tb {D with nx:=N,ct:=N,bk:=D.nx} σ2 H2)
def Fp(fp:List Addr)(h:Heap):List (Addr×Obj):=fp.filterMap λb=>(h.get? b).map λo=>(b,o)
theorem Gs{a:List Addr}{o:Obj}(c:b∈a)(e:h.get? b=some o):(b,o)∈Fp a h:=List.mem_filterMap.mpr ⟨b,c,by rw[e];rfl⟩
theorem Zf{a:List Addr}{p:Addr×Obj}(d:p∈Fp a h):p.1∈a/\h.get? p.1=some p.2:=by
 obtain⟨b,c,e⟩:=List.mem_filterMap.mp d;cases q:h.get? b with
 | none=>rw[q]at e;cases e
 | some o =>
  rw[q]at e;have f:(b,o)=p:=YF e;subst f;exact⟨c,q⟩
theorem Inv.pinned{a:List Addr}(I:Inv X pins σ H s)(j:∀ b∈a,CD X pins H b)(k:∀ b∈a,∃ o,s.heap.get? b=some o/\∀ v,o.data≠.cell v):Inv X (pins++Fp a s.heap) σ H s :=
 I.pins_of λp h=>(Yz.mp h).elim (λz=>I.pin p (YQ _ z)) λz=>by
  obtain⟨f,e⟩:=Zf z;obtain⟨l,g,i,_⟩:=j p.1 f;obtain⟨o,c,d⟩:=k p.1 f;rw[e]at c;cases c;exact⟨e,l,g,i,d⟩
theorem Inv.unpinned(I:Inv X (pins++pl) σ H s):Inv X pins σ H s:=I.pins_of λp a=>I.pin p (YQ _ (YO _ a))
theorem Zg{g:TG}{tb:TS}(F:PassesOwn (model X.prog X.w) X.A X.env X.xe)(hc:X.calm=true)(hi:PI X tg iter wi)(hg:PG X tg g)(c:PSs X body tb)
  (hs:∀ x,foldedSetIterable iter X.env x=pure x:=by intro _;rfl):PS X (.For tg iter body [] pos) (Ze wi g tb):=by
 intro pins s σ H D I h;refine wpAny_For (thn (hi pins s σ H _ I h) λv s1 h1=>thn h1 λitv s2 h2=>?_) hs;obtain⟨it,O,tn,J,H2,e,I2,T,Y,f2,W,⟨m0,w0⟩,z⟩:=h2;subst e;have l:∀{H':Hp},(∀ b∈O,H' b=none)->∀ b∈O,CD X pins H' b:=λhn b c=>⟨hn b c,(f2 b c).2⟩;refine codeAny_forLoop_any (λn s'=>∃ i σ' H',Inv X pins σ' H' s'/\tn i s'.heap/\(∀ b∈O,H' b=none)/\W i n σ' H') ?_ m0 ⟨0,σ,H2,I2,Y,λb c=>(f2 b c).1,w0⟩;rintro n Z ⟨i,σ3,P,I3,B,K,w3⟩;rcases z i n σ3 P w3 with⟨stop,qn⟩|⟨go,N,hN,step⟩
 ·refine wpAny_passesOwn F (thn (T.done X rfl rfl rfl hc i pins Z σ3 P X.xe I3 (l K) B stop) λr s4 E=>?_);obtain⟨R,I4⟩:=E;subst R;exact wpAny_execs_nil ⟨σ3,P,I4,qn⟩
 ·refine wpAny_passesOwn F (thn (T.item X rfl rfl rfl hc i pins Z σ3 P X.xe I3 (l K) B go) λr s4 y=>?_);obtain⟨u,R,h4⟩:=y;subst R;refine wpAny_passesOwn F (thn h4 λ_ s5 t=>?_);obtain⟨x,H5,I5,r5,y5,q,S⟩:=t;have U:=I5.pinned (l S) (T.obj _ _ q);refine wpAny_passesOwn F (thn (hg _ s5 σ3 H5 x u _ U r5 (step x H5 y5)) λ_ s6 G=>?_);obtain⟨σ6,H6,I6,q6⟩:=G;refine wpAny_passesOwn F (thn (c _ s6 σ6 H6 _ I6 q6) λf Q p=>?_)
  have k:∀{σ7:St}{a:Hp},Inv X (pins++Fp O s5.heap) σ7 a Q->N σ7 a->∃ m,m < n/\∃ i σ' H',Inv X pins σ' H' Q/\tn i Q.heap/\(∀ b∈O,H' b=none)/\W i m σ' H':=λ{σ7 a}j L=>by
   obtain⟨m',hm,w7⟩:=hN σ7 a L;refine⟨m',hm,i+1,σ7,a,j.unpinned,T.keep _ _ _ q λb c o e=>(j.pin (b,o) (YQ _ (YQ _ (Gs c e)))).1,λb c=>?_,w7⟩;obtain⟨o,e,d⟩:=T.obj _ _ q b c;exact(j.pin (b,o) (YQ _ (YQ _ (Gs c e)))).2.1
  cases f with
  | next=>obtain⟨σ7,a,j,L⟩:=p;exact k j L
  | cont=>obtain⟨σ7,a,j,L⟩:=p;exact k j L
  | brk=>obtain⟨σ7,a,j,p⟩:=p;exact⟨σ7,a,j.unpinned,p⟩
  | ret v=>obtain⟨x7,σ7,a,j,r7,p⟩:=p;exact⟨x7,σ7,a,j.unpinned,r7,p⟩
end
abbrev R2:=V->V->Hp->VK->Prop
def OpR(X:Cx)(f:Value->Value->Sem Value)(r:R2):Prop :=
 ∀(pins:List (Addr×Obj))(s:Shared)(σ:St)(H:Hp)(x y:V)(v u:Value)(Q:VK),Inv X pins σ H s->RelV x v->RelV y u->r x y H Q->
  wpAny (model X.prog X.w) X.A (f v u) (EP X pins σ Q) X.xe s
def UnR(X:Cx)(f:Value->Sem Value)(r:V->Hp->VK->Prop):Prop :=
 ∀(pins:List (Addr×Obj))(s:Shared)(σ:St)(H:Hp)(x:V)(v:Value)(Q:VK),Inv X pins σ H s->RelV x v->r x H Q->
  wpAny (model X.prog X.w) X.A (f v) (EP X pins σ Q) X.xe s
def CallR(X:Cx)(f:Value)(r:List V->Hp->VK->Prop):Prop :=
 ∀(pins:List (Addr×Obj))(s:Shared)(σ:St)(H:Hp)(xs:List V)(us:List Value)(Q:VK),Inv X pins σ H s->Vals xs us->r xs H Q->
  wpAny (model X.prog X.w) X.A (call f us) (EP X pins σ Q) X.xe s
def Zh(X:Cx)(r:V->Hp->(Bool->Hp->Prop)->Prop):Prop :=
 ∀(pins:List (Addr×Obj))(s:Shared)(σ:St)(H:Hp)(x:V)(v:Value)(Q:Bool->Hp->Prop),Inv X pins σ H s->RelV x v->r x H Q->
  wpAny (model X.prog X.w) X.A (truthy v) (TP X pins σ Q) X.xe s
def tOp(r:R2)(ta tb:TE):TE:=λσ H Q=>ta σ H λx H1=>tb σ H1 λy H2=>r x y H2 Q
def tUn(r:V->Hp->VK->Prop)(ta:TE):TE:=λσ H Q=>ta σ H λx H1=>r x H1 Q
def rI(C:Int->Int->Prop)(g:Int->Int->V):R2:=λx y H Q=>∃ i j,x=.int i/\y=.int j/\C i j/\Q (g i j) H
def rI0(g:Int->Int->V):R2:=λx y H Q=>∃ i j,x=.int i/\y=.int j/\Q (g i j) H
def rU(g:Int->V):V->Hp->VK->Prop:=λx H Q=>∃ i,x=.int i/\Q (g i) H
section
variable {X:Cx} {a b c:Expr} {ta tb tc:TE} {pos:Pos}
variable {f:Value->Value->Sem Value}
theorem Jv(m:PE X a ta)(j:PE X b tb){R:V->V->Hp->Prop}(I:Inv X pins σ H s)
  (h:ta σ H λx H1=>tb σ H1 λy H2=>R x y H2) {Q:Value->Shared->Prop} 
  (n:∀ v u i x y H2,Inv X pins σ H2 i->RelV x v->RelV y u->R x y H2->wpAny (model X.prog X.w) X.A (f v u) Q X.xe i):
  wpAny (model X.prog X.w) X.A (eval a X.env) (λv d=>wpAny (model X.prog X.w) X.A (eval b X.env) (λu g=>wpAny (model X.prog X.w) X.A (f v u) Q X.xe g) X.xe d) X.xe s:=by
 refine thn (m pins s σ H _ I h) λv p c=>?_;obtain⟨x,H1,o,r1,q1⟩:=c;refine thn (j pins p σ H1 _ o q1) λu i e=>?_;obtain⟨y,H2,l,k,q2⟩:=e;exact n v u i x y H2 l r1 k q2
theorem Zi{op:Operator}{r:R2}(i:OpR X (binaryOp op) r)(e:PE X a ta)(c:PE X b tb):PE X (.BinOp a op b pos) (tOp r ta tb):=by
 intro pins s σ H Q I h;exact wpAny_BinOp (Jv e c I h λv u g x y H2 d f j q=>i pins g σ H2 x y v u Q d f j q)
theorem Zj{op:UnaryOp}{r:V->Hp->VK->Prop}(c:UnR X (unaryOp op) r)(b:PE X a ta):PE X (.UnaryOp op a pos) (tUn r ta):=by
 intro pins s σ H Q I h;exact UnaryOp_ (thn (b pins s σ H _ I h) (by rintro v e ⟨x,H1,d,r1,q1⟩;exact c pins e σ H1 x v Q d r1 q1))
variable {g:Int->Int->Int}
theorem opI{C:Int->Int->Prop}
  (a:∀(i j:Int)(t u:Tok)(s:Shared)(Q:Value->Shared->Prop)(E:Value->Shared->Prop),C i j->Q (.int (g i j) s.toks) {s with toks:=s.toks+1}->wpAny (model X.prog X.w) X.A (f (.int i t) (.int j u)) Q E s):
  OpR X f (rI C λi j=>.int (g i j)):=by
 intro pins s σ H x y v u Q I b c h;obtain⟨i,j,rfl,rfl,hc,q⟩:=h;obtain⟨t,rfl⟩:=b;obtain⟨t',rfl⟩:=c;exact a i j t t' s _ _ hc ⟨.int (g i j),H,I.tok _,⟨_,rfl⟩,q⟩
theorem Nk
  (a:∀(i j:Int)(t u:Tok)(s:Shared)(Q:Value->Shared->Prop)(E:Value->Shared->Prop),Q (.int (g i j) s.toks) {s with toks:=s.toks+1}->wpAny (model X.prog X.w) X.A (f (.int i t) (.int j u)) Q E s):
  OpR X f (rI0 λi j=>.int (g i j)):=by
 intro pins s σ H x y v u Q I b c h;obtain⟨i,j,rfl,rfl,q⟩:=h;obtain⟨t,rfl⟩:=b;obtain⟨t',rfl⟩:=c;exact a i j t t' s _ _ ⟨.int (g i j),H,I.tok _,⟨_,rfl⟩,q⟩
theorem Gu{g:Int->Int->Bool}
  (a:∀(i j:Int)(t u:Tok)(s:Shared)(Q:Value->Shared->Prop)(E:Value->Shared->Prop),Q (.bool (g i j)) s->wpAny (model X.prog X.w) X.A (f (.int i t) (.int j u)) Q E s):
  OpR X f (rI0 λi j=>.bl (g i j)):=by
 intro pins s σ H x y v u Q I b c h;obtain⟨i,j,rfl,rfl,q⟩:=h;obtain⟨t,rfl⟩:=b;obtain⟨t',rfl⟩:=c;exact a i j t t' s _ _ ⟨.bl (g i j),H,I,rfl,q⟩
theorem Zk{x y:Int}(a:0 < y)(h:y < 1267650600228229401496703205376):Builtin.divisionGoesByPylong x y=false:=by
 refine PyProof.noPylong_of_log2 ?_;have h1:y.natAbs≠0:=by omega
 have h2:y.natAbs.log2 < 100:=(Nat.log2_lt h1).mpr (by omega);omega
def EJ(i j:Int):Prop:=0 < j/\j < 1267650600228229401496703205376
def D5(i j:Int):Prop:=0<=j/\j<=1000000/\i.natAbs < 2 ^ 64
def CMul(i j:Int):Prop:=(-(2 ^ 64) < i/\i < 2 ^ 64)\/(-(2 ^ 64) < j/\j < 2 ^ 64)
theorem CMul.ok{i j:Int}(h:CMul i j):IntMulOk i j:=by
 rcases h with⟨h1,h2⟩|⟨h1,h2⟩
 ·exact .of_left (intBits_le_64 h1 h2)
 ·exact .of_right (intBits_le_64 h1 h2)
theorem Zl:OpR X (binaryOp .Add) (rI0 λi j=>.int (i+j)):=Nk λ_ _ _ _ _ _ _ q=>add_int q
theorem Nl:OpR X (binaryOp .Mult) (rI CMul λi j=>.int (i*j)):=opI λ_ _ _ _ _ _ _ hc q=>mul_int q hc.ok
theorem Zm:OpR X (binaryOp .FloorDiv) (rI EJ λi j=>.int (i / j)):=opI λi j _ _ _ _ _ hc q=>by
 have h1:(0:Int) < j:=hc.1;have h2:j < 1267650600228229401496703205376:=hc.2;exact floordiv_int (by omega) (by rw[Int.fdiv_eq_ediv_of_nonneg i (by omega)];exact q) (.inl (Zk h1 h2))
theorem Zn:OpR X (binaryOp .Mod) (rI (λ_ j=>0 < j) λi j=>.int (i % j)):=opI λi j _ _ _ _ _ hc q=>by
 have h1:(0:Int) < j:=hc;exact mod_int' (by omega) (by rw[Int.fmod_eq_emod_of_nonneg i (by omega)];exact q)
theorem Zo:OpR X (binaryOp .Pow) (rI D5 λi j=>.int (i ^ j.toNat)):=opI λ_ _ _ _ _ _ _ hc q=>pow_int_small hc.1 hc.2.1 hc.2.2 q
theorem Zp:OpR X (inplaceOp .Add) (rI0 λi j=>.int (i+j)):=Nk λ_ _ _ _ _ _ _ q=>iadd_int q
theorem unI{f:Value->Sem Value}{g:Int->Int}
  (a:∀(i:Int)(t:Tok)(s:Shared)(Q:Value->Shared->Prop)(E:Value->Shared->Prop),Q (.int (g i) s.toks) {s with toks:=s.toks+1}->wpAny (model X.prog X.w) X.A (f (.int i t)) Q E s):
  UnR X f (rU λi=>.int (g i)):=by
 intro pins s σ H x v Q I b h;obtain⟨i,rfl,q⟩:=h;obtain⟨t,rfl⟩:=b;exact a i t s _ _ ⟨.int (g i),H,I.tok _,⟨_,rfl⟩,q⟩
theorem Zq:UnR X (unaryOp .USub) (rU λi=>.int (-i)):=unI λ_ _ _ _ _ q=>neg_int q
end
def D6:V->V->Bool
 | .non,.non=>true | .non,.int _=>true | .int _,.non=>true | .non,.bl _=>true | .bl _,.non=>true | .non,.str _=>true | .str _,.non=>true
 | .int _,.int _=>true | .bl _,.bl _=>true | .str _,.str _=>true | .byt _,.byt _=>true
 | .int _,.str _=>true | .str _,.int _=>true | .bl _,.str _=>true | .str _,.bl _=>true
 | _,_=>false
def rEq:R2:=λx y H Q=>D6 x y=true/\Q (.bl (decide (x=y))) H
def rNe:R2:=λx y H Q=>D6 x y=true/\Q (.bl (!decide (x=y))) H
theorem Jw{i j:Int}:decide (V.int i=V.int j)=(i==j):=by
 rw[Bool.eq_iff_iff];simp
theorem Jx{i j:Bool}:decide (V.bl i=V.bl j)=(i==j):=by
 rw[Bool.eq_iff_iff];simp
theorem Jy{i j:Str}:decide (V.str i=V.str j)=(i==j):=by
 rw[Bool.eq_iff_iff];simp
theorem Nm{i j:Array UInt8}:decide (V.byt i=V.byt j)=(i.toList==j.toList):=by
 rw[Bool.eq_iff_iff];cases i;cases j;simp
section
variable {X:Cx} {a b c:Expr} {ta tb tc:TE} {pos:Pos}
theorem AY{Q:VK}{k a:Bool}(I:Inv X pins σ H s)(q:Q (.bl k) H)(e:k=a):EP X pins σ Q (.bool a) s:=by
 subst e;exact⟨.bl k,H,I,rfl,q⟩
theorem Zr:OpR X (compareOp .Eq) rEq:=by
 intro pins s σ H x y v u Q I c a h;obtain⟨b,q⟩:=h;cases x with
 | non =>
  cases c;cases y with
  | non=>cases a;exact PySem.EqNone.eq_none_none (AY I q (by simp))
  | bl j=>cases a;exact PySem.EqNone.eq_none_bool (AY I q (by simp))
  | int j=>obtain⟨t',rfl⟩:=a;exact PySem.EqNone.eq_none_int (AY I q (by simp))
  | str j=>obtain⟨t',rfl⟩:=a;exact PySem.EqNone.eq_none_str (AY I q (by simp))
  | _=>exact absurd (show false=true from b) YY
 | bl i =>
  cases c;cases y with
  | non=>cases a;exact PySem.EqNone.eq_bool_none (AY I q (by simp))
  | bl j=>cases a;exact eq_bool (AY I q Jx)
  | str j=>obtain⟨t',rfl⟩:=a;exact PySem.EqMixed.eq_bool_str (AY I q (by simp))
  | _=>exact absurd (show false=true from b) YY
 | int i =>
  obtain⟨t,rfl⟩:=c;cases y with
  | non=>cases a;exact PySem.EqNone.eq_int_none (AY I q (by simp))
  | int j=>obtain⟨t',rfl⟩:=a;exact eq_int (AY I q Jw)
  | str j=>obtain⟨t',rfl⟩:=a;exact PySem.EqMixed.eq_int_str (AY I q (by simp))
  | _=>exact absurd (show false=true from b) YY
 | str i =>
  obtain⟨t,rfl⟩:=c;cases y with
  | non=>cases a;exact PySem.EqNone.eq_str_none (AY I q (by simp))
  | bl j=>cases a;exact PySem.EqMixed.eq_str_bool (AY I q (by simp))
  | int j=>obtain⟨t',rfl⟩:=a;exact PySem.EqMixed.eq_str_int (AY I q (by simp))
  | str j=>obtain⟨t',rfl⟩:=a;exact eq_str (AY I q Jy)
  | _=>exact absurd (show false=true from b) YY
 | byt i =>
  obtain⟨t,rfl⟩:=c;cases y with
  | byt j=>obtain⟨t',rfl⟩:=a;exact PySem.W.eq_bytes (AY I q Nm)
  | _=>exact absurd (show false=true from b) YY
 | _=>cases y <;> exact absurd (show false=true from b) YY
theorem Zs:OpR X (compareOp .NotEq) rNe:=by
 intro pins s σ H x y v u Q I c a h;obtain⟨b,q⟩:=h;cases x with
 | non =>
  cases c;cases y with
  | non=>cases a;exact PySem.EqNone.ne_none_none (AY I q (by simp))
  | bl j=>cases a;exact PySem.EqNone.ne_none_bool (AY I q (by simp))
  | int j=>obtain⟨t',rfl⟩:=a;exact PySem.EqNone.ne_none_int (AY I q (by simp))
  | str j=>obtain⟨t',rfl⟩:=a;exact PySem.EqNone.ne_none_str (AY I q (by simp))
  | _=>exact absurd (show false=true from b) YY
 | bl i =>
  cases c;cases y with
  | non=>cases a;exact PySem.EqNone.ne_bool_none (AY I q (by simp))
  | bl j=>cases a;exact ne_bool (AY I q (congrArg not Jx))
  | str j=>obtain⟨t',rfl⟩:=a;exact PySem.EqMixed.ne_bool_str (AY I q (by simp))
  | _=>exact absurd (show false=true from b) YY
 | int i =>
  obtain⟨t,rfl⟩:=c;cases y with
  | non=>cases a;exact PySem.EqNone.ne_int_none (AY I q (by simp))
  | int j=>obtain⟨t',rfl⟩:=a;exact ne_int (AY I q (congrArg not Jw))
  | str j=>obtain⟨t',rfl⟩:=a;exact PySem.EqMixed.ne_int_str (AY I q (by simp))
  | _=>exact absurd (show false=true from b) YY
 | str i =>
  obtain⟨t,rfl⟩:=c;cases y with
  | non=>cases a;exact PySem.EqNone.ne_str_none (AY I q (by simp))
  | bl j=>cases a;exact PySem.EqMixed.ne_str_bool (AY I q (by simp))
  | int j=>obtain⟨t',rfl⟩:=a;exact PySem.EqMixed.ne_str_int (AY I q (by simp))
  | str j=>obtain⟨t',rfl⟩:=a;exact ne_str (AY I q (congrArg not Jy))
  | _=>exact absurd (show false=true from b) YY
 | byt i =>
  obtain⟨t,rfl⟩:=c;cases y with
  | byt j=>obtain⟨t',rfl⟩:=a;exact PySem.W.ne_bytes (AY I q (congrArg not Nm))
  | _=>exact absurd (show false=true from b) YY
 | _=>cases y <;> exact absurd (show false=true from b) YY
theorem Zt:OpR X (compareOp .Lt) (rI0 λi j=>.bl (decide (i < j))):=Gu λ_ _ _ _ _ _ _ q=>lt_int q
theorem Zu:OpR X (compareOp .LtE) (rI0 λi j=>.bl (decide (i<=j))):=Gu λ_ _ _ _ _ _ _ q=>le_int q
theorem Zv:OpR X (compareOp .Gt) (rI0 λi j=>.bl (decide (j < i))):=Gu λ_ _ _ _ _ _ _ q=>gt_int q
theorem Zw:OpR X (compareOp .GtE) (rI0 λi j=>.bl (decide (j<=i))):=Gu λ_ _ _ _ _ _ _ q=>ge_int q
theorem Zx:OpR X (compareOp .Lt) (λx y H Q=>∃ i j,x=.str i/\y=.str j/\Q (.bl (decide (i.cps.toList < j.cps.toList))) H):=by
 intro pins s σ H x y v u Q I a b h;obtain⟨i,j,rfl,rfl,q⟩:=h;obtain⟨t,rfl⟩:=a;obtain⟨t',rfl⟩:=b;exact lt_str (AY I q rfl)
theorem Zy:OpR X (compareOp .Is) (λx y H Q=>y=.non/\Q (.bl (decide (x=.non))) H):=by
 intro pins s σ H x y v u Q I a b h;obtain⟨rfl,q⟩:=h;cases b;refine is_none_gen (AY I q ?_)
 cases x <;> first
  |(cases a;rfl)
  |(obtain⟨t,rfl⟩:=a;rfl)
theorem Zz:OpR X (compareOp .IsNot) (λx y H Q=>y=.non/\Q (.bl (!decide (x=.non))) H):=by
 intro pins s σ H x y v u Q I a b h;obtain⟨rfl,q⟩:=h;cases b;refine isnot_none_gen (AY I q ?_)
 cases x <;> first
  |(cases a;rfl)
  |(obtain⟨t,rfl⟩:=a;rfl)
variable {r r':R2}
theorem OpR.or{f:Value->Value->Sem Value}(h:OpR X f r)(h':OpR X f r'):OpR X f (λx y H Q=>r x y H Q\/r' x y H Q):=by
 intro pins s σ H x y v u Q I a b q;rcases q with q | q
 ·exact h pins s σ H x y v u Q I a b q
 ·exact h' pins s σ H x y v u Q I a b q
variable {op:CmpOp}
theorem nt(b:Expr)(h:op≠.In:=by decide)(h2:op≠.NotIn:=by decide):behindInMarks op b=false:=by
 have a:(op==CmpOp.In)=false:=by cases op <;> first | rfl | exact absurd rfl h
 have c:(op==CmpOp.NotIn)=false:=by cases op <;> first | rfl | exact absurd rfl h2
 cases b <;> simp[behindInMarks,a,c]
theorem ZA(j:OpR X (compareOp op) r)(f:PE X a ta)(c:PE X b tb)(d:behindInMarks op b=false):PE X (.Compare a [op] [b] pos) (tOp r ta tb):=by
 intro pins s σ H Q I h;exact wpAny_Compare1 (Jv f c I h λv u i x y H2 e g k q=>j pins i σ H2 x y v u Q e g k q) d
def Nn(t:TE):TT:=λσ H Q=>t σ H λx H'=>∃ k,x=.bl k/\Q k H'
theorem ZC(t:OpR X (compareOp op) r)(m:PE X a ta)(f:PE X b tb)(j:behindInMarks op b=false):PT X (.Compare a [op] [b] pos) (Nn (tOp r ta tb)):=by
 intro pins s σ H Q I h
 refine wpAny_isTrue_Compare1 (thn (m pins s σ H _ I h) λv o⟨x,H1,d,r1,q1⟩=>thn (f pins o σ H1 _ d q1) λu q⟨y,H2,l,g,q2⟩=>
  thn (t pins q σ H2 x y v u _ l r1 g q2) λc w⟨z,i,n,p,k,e,q3⟩=>?_) j
 subst e;cases p;exact wpAny_truthy_bool ⟨i,n,q3⟩
def Jz(r r':R2)(ta tb tc:TE):TE:=λσ H Q=>ta σ H λx H1=>tb σ H1 λy H2=>r x y H2 λz H3=>∃ k,z=.bl k/\
 (if k=true then tc σ H3 λw' H4=>r' y w' H4 Q else Q (.bl false) H3)
variable {op':CmpOp}
theorem ZD(q:OpR X (compareOp op) r)(f:OpR X (compareOp op') r')(w:PE X a ta)(E:PE X b tb)(hc:PE X c tc)
  (t:lastMarks [op,op'] [b,c]=false:=by with_unfolding_all rfl):PE X (.Compare a [op,op'] [b,c] pos) (Jz r r' ta tb tc):=by
 intro pins s σ H Q I h
 refine Compare_chain (thn (w pins s σ H _ I h) λv F⟨x,H1,J,r1,q1⟩=>chain_link (thn (E pins F σ H1 _ J q1) λu G⟨y,H2,o,g,q2⟩=>
  thn (q pins G σ H2 x y v u _ o r1 g q2) λd m⟨z,j,i,L,k,e,q3⟩=>?_)) t
 subst e;cases L;refine wpAny_truthy_bool ?_;cases k with
 | false=>exact ite_ff ⟨.bl false,j,i,rfl,q3⟩
 | true=>exact ite_tt (chain_last (thn (hc pins m σ j _ i q3) (by rintro D A ⟨p,K,l,B,n⟩;exact f pins A σ K y p u D Q l g B n)))
theorem ZE(t:OpR X (compareOp op) r)(f:OpR X (compareOp op') r')(A:PE X a ta)(G:PE X b tb)(hc:PE X c tc)
  (w:lastMarks [op,op'] [b,c]=false:=by with_unfolding_all rfl):PT X (.Compare a [op,op'] [b,c] pos) (Nn (Jz r r' ta tb tc)):=by
 intro pins s σ H Q I h
 refine isTrue_chain (thn (A pins s σ H _ I h) λv O⟨x,H1,R,r1,q1⟩=>test_link (thn (G pins O σ H1 _ R q1) λu P⟨y,H2,o,g,q2⟩=>
  thn (t pins P σ H2 x y v u _ o r1 g q2) λd m⟨z,j,i,U,k,e,q3⟩=>?_)) w
 subst e;cases U;refine wpAny_truthy_bool ?_;cases k with
 | false =>
  obtain⟨Y,J,L⟩:=q3;cases J;exact ite_ff ⟨j,i,L⟩
 | true =>
  refine ite_tt (test_last (thn (hc pins m σ j _ i q3) λF D⟨q,T,l,E,n⟩=>thn (f pins D σ T y q u F _ l g E n) λd' s5⟨Z,N,S,B,k2,p,K⟩=>?_));subst p;cases B;exact wpAny_truthy_bool ⟨N,S,K⟩
def JA(K:PySem.W.Frag)(x:V)(H:Hp)(k:Bool):Prop :=
 match x with
 | .non=>k=false
 | .bl b=>k=b
 | .int i=>k=(i != 0)
 | .str y=>y.length<=sizeLine/\k=((y.length:Int) != 0)
 | .byt y=>y.size<=sizeLine/\k=((y.size:Int) != 0)
 | .ref p=>(∃ xs,SqL K H p xs/\k=!xs.isEmpty)\/(∃ xs,SqT K H p xs/\k=!xs.isEmpty)\/∃ kvs,H p=some (.dK kvs)/\k=!kvs.isEmpty
 | _=>False
theorem ZF{κ:Type}{a:List (κ×V)}{vs:List (κ×Value)}(r:KV a vs):(!vs.isEmpty)=!a.isEmpty:=by
 cases r <;> rfl
theorem Np{xs:List V}{a:List Value}(r:Vals xs a):(!a.toArray.isEmpty)=!xs.isEmpty:=by
 cases r <;> simp
theorem EK:(sizeLine:Nat) < 2 ^ 63:=by rw[sizeLine_eq];decide
theorem ZG:Zh X (λx H Q=>∃ k,JA X.K x H k/\Q k H):=by
 intro pins s σ H x v Q I f h;obtain⟨k,e,q⟩:=h;have hl:=EK;have z:sizeLine=16777216:=sizeLine_eq;cases x with
 | non =>
  cases f;have a:k=false:=e;subst a;exact truthy_none ⟨H,I,q⟩
 | bl b =>
  cases f;have a:k=b:=e;subst a;exact wpAny_truthy_bool ⟨H,I,q⟩
 | int i =>
  obtain⟨t,rfl⟩:=f;have a:k=(i != 0):=e;subst a;exact PySem.P.truthy_int ⟨H,I,q⟩
 | str y =>
  obtain⟨t,rfl⟩:=f;obtain⟨o,a⟩:y.length<=sizeLine/\k=((y.length:Int) != 0):=e;subst a;exact PySem.P.truthy_str (by omega) ⟨H,I.tok _,q⟩
 | byt y =>
  obtain⟨t,rfl⟩:=f;obtain⟨o,a⟩:y.size<=sizeLine/\k=((y.size:Int) != 0):=e;subst a;exact PySem.W.truthy_bytes (by omega) ⟨H,I.tok _,q⟩
 | ref p =>
  cases f;have a:(∃ xs,SqL X.K H p xs/\k=!xs.isEmpty)\/(∃ xs,SqT X.K H p xs/\k=!xs.isEmpty)\/∃ c,H p=some (.dK c)/\k=!c.isEmpty:=e;rcases a with⟨xs,g,a⟩|⟨xs,g,a⟩|⟨c,g,a⟩
  ·subst a;obtain⟨l,r,pl,n⟩:=I.list g;have d:=r.length;exact wpAny_truthy_list pl.isList (by simp only[Yn];omega) ⟨H,I.tok _,by rw[Np r];exact q⟩
  ·subst a;obtain⟨l,r,pl,n⟩:=I.tuple g;have d:=r.length;exact truthy_tuple pl (by simp only[Yn];omega) ⟨H,I.tok _,by rw[Np r];exact q⟩
  ·subst a;obtain⟨n,u,j,r,m⟩:c.length<=sizeLine/\(p==sysModules)=false/\∃ j,KV c j/\s.heap.DictOf (A6 X.prog X.w) p j:=I.hok p _ g;have d:c.length=j.length:=Paired.length r;exact wpAny_truthy_dict u m (by omega) ⟨H,I.tok _,by rw[ZF r];exact q⟩
 | _=>exact(show False from e).elim
theorem ZH(c:PE X a ta)(d:∀ b,isTrue a X.env b=(do let v <- b;standAt a.pos;holding [v] (truthy v))):
  PT X a (λσ H Q=>ta σ H λx H'=>∃ k,JA X.K x H' k/\Q k H'):=by
 intro pins s σ H Q I h;exact isTrue_plain (thn (c pins s σ H _ I h) (by rintro v e ⟨x,H1,f,r1,q1⟩;exact ZG pins e σ H1 x v Q f r1 q1)) (d _)
theorem ZI:OpR X (binaryOp .Add) (λx y H Q=>∃ i j,x=.str i/\y=.str j/\i.length+j.length<=sizeLine/\Q (.str (i++j)) H):=by
 intro pins s σ H x y v u Q I a c h;obtain⟨i,j,rfl,rfl,b,q⟩:=h;obtain⟨t,rfl⟩:=a;obtain⟨t',rfl⟩:=c;exact add_str (λt' tk=>⟨.str (i++j),H,I.tok _,⟨_,rfl⟩,q⟩) b
theorem ZJ:OpR X (inplaceOp .Add) (λx y H Q=>∃ i j,x=.str i/\y=.str j/\i.length+j.length<=sizeLine/\Q (.str (i++j)) H):=by
 intro pins s σ H x y v u Q I a c h;obtain⟨i,j,rfl,rfl,b,q⟩:=h;obtain⟨t,rfl⟩:=a;obtain⟨t',rfl⟩:=c;exact iadd_str (λt' tk=>⟨.str (i++j),H,I.tok _,⟨_,rfl⟩,q⟩) b
theorem CO(r:Vals [x] us):∃ u,us=[u]/\RelV x u:=by
 cases r with
 | cons r1 a=>cases a;exact⟨_,rfl,r1⟩
theorem JB{y:V}(r:Vals [x,y] us):∃ u a,us=[u,a]/\RelV x u/\RelV y a:=by
 cases r with
 | cons r1 d =>
  cases d with
  | cons b c=>cases c;exact⟨_,_,rfl,r1,b⟩
theorem ZK:CallR X (.type "int") (λxs H Q=>(∃ i,xs=[.int i]/\Q (.int i) H)\/∃ k,xs=[.bl k]/\Q (.int (if k then 1 else 0)) H):=by
 intro pins s σ H xs a Q I r h;rcases h with⟨i,rfl,q⟩|⟨k,rfl,q⟩
 ·obtain⟨u,rfl,t,rfl⟩:=CO r;exact call_int_int ⟨.int i,H,I,⟨_,rfl⟩,q⟩
 ·obtain⟨u,rfl,r1⟩:=CO r;cases r1;exact call_int_bool ⟨.int (if k then 1 else 0),H,I.tok _,⟨_,rfl⟩,q⟩
def Nq(K:PySem.W.Frag)(x:V)(H:Hp)(n:Nat):Prop :=
 match x with
 | .str y=>y.length<=sizeLine/\n=y.length
 | .byt y=>y.size<=sizeLine/\n=y.size
 | .ref p=>(∃ xs,SqL K H p xs/\n=xs.length)\/∃ xs,SqT K H p xs/\n=xs.length
 | _=>False
theorem ZL:CallR X (.builtin "len") (λxs H Q=>∃ x n,xs=[x]/\Nq X.K x H n/\Q (.int n) H):=by
 intro pins s σ H xs k Q I r h;obtain⟨x,n,rfl,e,q⟩:=h;obtain⟨u,rfl,f⟩:=CO r;have hl:=EK;have j:sizeLine=16777216:=sizeLine_eq;cases x with
 | str y =>
  obtain⟨t,rfl⟩:=f;obtain⟨g,b⟩:y.length<=sizeLine/\n=y.length:=e;subst b;exact len_str (by omega) ⟨.int _,H,I.tok _,⟨_,rfl⟩,q⟩
 | byt y =>
  obtain⟨t,rfl⟩:=f;obtain⟨g,b⟩:y.size<=sizeLine/\n=y.size:=e;subst b;exact PySem.W.len_bytes (by omega) ⟨.int _,H,I.tok _,⟨_,rfl⟩,q⟩
 | ref p =>
  cases f;have b:(∃ xs,SqL X.K H p xs/\n=xs.length)\/∃ xs,SqT X.K H p xs/\n=xs.length:=e;rcases b with⟨xs,c,b⟩|⟨xs,c,b⟩
  ·subst b;obtain⟨d,r',pl,i⟩:=I.list c;have a:=r'.length;exact Calls.call_len_list pl.isList (by simp only[Yn];omega) ⟨.int xs.length,H,I.tok _,⟨_,by simp only[Yn];rw[a]⟩,q⟩
  ·subst b;obtain⟨d,r',pl,i⟩:=I.tuple c;have a:=r'.length;exact len_tuple pl (by simp only[Yn];omega) ⟨.int xs.length,H,I.tok _,⟨_,by simp only[Yn];rw[a]⟩,q⟩
 | _=>exact(show False from e).elim
end
section
variable {prog:Program} {w:World} {A:Around} {E:Value->Shared->Prop} {s:Shared} {K:PySem.W.Frag} {x dx C f:Addr} {mA:Str->Option Value} {name:Str} {v:Value}
end
section
variable {P:Program} {w:World} {H H':Hp} {h h':Heap} {a C dx:Addr} {fs fs':List (Str×V)}
end
structure Cls(K:PySem.W.Frag)(C:Addr):Prop where
 pg:PySem.W.plainGet K C Str.empty=true
 hd:PySem.W.hasDictIn K C=true
 po:PySem.W.plainOver K C=true
 sa:PySem.W.findIn K (.ref C) "__setattr__"=some (some (.builtin "object.__setattr__"))
theorem Cls.get{C:Addr}(c:Cls K C)(f:Str):PySem.W.plainGet K C f=true:=c.pg
structure ZM(K:PySem.W.Frag)(C:Addr)(m:Str)(f:Addr):Prop where
 at_:PySem.W.findIn K (.ref C) m=some (some (.ref f))
 fn:PySem.W.isFn K (.ref f)=true
 kp:PySem.W.keepIn K (.ref f)=true
section
variable {X:Cx} {pins:List (Addr×Obj)} {σ:St} {H:Hp} {s:Shared} {a C dx:Addr} {fs:List (Str×V)} {f:Str} {v:V} {A:Around} {E:Value->Shared->Prop}
theorem Inv.made(I:Inv X pins σ H s):Inv X pins σ (upd (upd H s.heap.objs.size (.own (s.heap.objs.size+1))) (s.heap.objs.size+1) (.ins C s.heap.objs.size []))
  {s with heap:=(s.heap.push PySem.W.emptyDict).push (PySem.W.instObj C s.heap.objs.size)}:=by
 have d:(s.heap.push PySem.W.emptyDict).get? s.heap.objs.size=some PySem.W.emptyDict:=Qo s.heap rfl
 have i:((s.heap.push PySem.W.emptyDict).push (PySem.W.instObj C s.heap.objs.size)).get? (s.heap.objs.size+1)=some (PySem.W.instObj C s.heap.objs.size):=by
  have:=Qo (s.heap.push PySem.W.emptyDict) (o:=PySem.W.instObj C s.heap.objs.size) rfl;rwa [Qp]at this
 have g:(s.heap.push PySem.W.emptyDict).Ns s.heap.objs.size (λ_=>none):=⟨PySem.W.emptyDict,#[],_,d,rfl,(λe h=>absurd h (by simp)),λ_=>rfl⟩;have j:=I.laid (a:=s.heap.objs.size) (o:=.own (s.heap.objs.size+1)) (h':=s.heap.push PySem.W.emptyDict) (t':=s.toks) (λb u q=>Qm _ q) (Yr _) ⟨_,d⟩;refine j.laid (a:=s.heap.objs.size+1) (o:=.ins C s.heap.objs.size []) (t':=s.toks) (λb u q=>Qm _ q) (Nat.le_of_eq (Qp _ _)) ?_;have c:s.heap.objs.size≠s.heap.objs.size+1:=Ys (Nat.lt_succ_self _);refine⟨by rw[AX c,BL],YZ _,c,i,λ_=>none,(Heap.Ns1.of_empty g).at λo q=>Qm _ q,λ_=>True.intro,λy f=>absurd rfl f⟩
end
section
variable {X:Cx} {o e value:Expr} {f:Str} {pos pos' tpos:Pos} {ta tv:TE}
def AJ:V->V->Hp->VK->Prop:=λx y H Q=>∃ i j,x=.int i/\y=.int j/\Q (.int (i+j)) H
end
section
variable {X:Cx} {pins:List (Addr×Obj)} {σ:St} {H:Hp} {s:Shared} {A:Around} {E:Value->Shared->Prop} {Q:Value->Shared->Prop} {c:Value} {b:Bool}
end
structure Room(k:Nat)(A:Around):Prop where
 hd:A.handled=none
 dp:A.depth+3*k+5 < recursionLimit
 un:A.units+16*k+200 < cLine
variable {j k:Nat}
theorem Room.mono(r:Room k A)(h:j<=k):Room j A:=⟨r.hd,by have:=r.dp;omega,by have:=r.un;omega⟩
theorem Room.deeper(r:Room (k+1) A)(env:Env):Room k (A.deeper env):=
 ⟨r.hd,by have:=r.dp;show A.depth+1+3*k+5 < _;omega,by have:=r.un;show A.units+3+16*k+200 < _;omega⟩
theorem Room.in1(r:Room (k+1) A):Room k A.in1 :=
 ⟨r.hd,by have:=r.dp;show A.depth+3*k+5 < _;omega,by have:=r.un;show A.units+1+16*k+200 < _;omega⟩
theorem Room.depth(r:Room k A):A.depth < recursionLimit:=by have:=r.dp;omega
theorem Room.units(r:Room k A):A.units+64 < cLine:=by have:=r.un;omega
def Gv:TA:=λ_ H Q=>Q [] H
def EL(ta:TE)(tr:TA):TA:=λσ H Q=>ta σ H λx H1=>tr σ H1 λxs H2=>Q (x::xs) H2
section
variable {X:Cx} {e:Expr} {es:List Expr} {te:TE} {t:TA} {pos:Pos}
theorem Gw:PA X [] Gv:=λ_ _ _ _ H Q I h=>Calls.spliced_nil ⟨[],H,I,.nil,h⟩
theorem EM(f:PE X e te)(b:PA X es t)(i:starEach (e::es) X.env=(false,eval e X.env)::starEach es X.env:=by rfl):PA X (e::es) (EL te t):=by
 intro pos pins s σ H Q I h;rw[i];show wpAny _ _ (spliced ((false,eval e X.env)::backTo pos (starEach es X.env))) _ _ s;refine Calls.spliced_cons (thn (f pins s σ H _ I h) λu g a=>?_);obtain⟨x,H1,j,r1,q1⟩:=a;exact thn (b pos pins g σ H1 _ j q1) (by rintro l k ⟨xs,H2,d,c,q2⟩;exact⟨x::xs,H2,d,.cons r1 c,q2⟩)
def ZN(t:TA):TE:=λσ H Q=>t σ H λxs H1=>xs.length<=sizeLine/\∀ p,H1 p=none->Q (.ref p) (upd H1 p (.tup xs))
def ZO(t:TA):TE:=λσ H Q=>t σ H λxs H1=>xs.length<=sizeLine/\∀ p,H1 p=none->Q (.ref p) (upd H1 p (.lst xs))
theorem ZP{x1}(h:PA X es t):PE X (.Tuple es x1 pos) (ZN t):=by
 intro pins s σ H Q I d;refine wpAny_Tuple_spliced (thn (h pos pins s σ H _ I d) λg a⟨xs,H1,c,r,z,q⟩=>⟨by rw[<- r.length];exact z,?_⟩);have f:H1 a.heap.objs.size=none:=c.hok.fresh (Yr _);refine⟨.ref a.heap.objs.size,upd H1 a.heap.objs.size (.tup xs),c.laid (t':=a.toks) (λb u e=>Qm _ e) (Yr _) ?_,rfl,q _ f⟩;exact⟨z,g,r,⟨_,Qo _ rfl,rfl,rfl,_,rfl⟩⟩
theorem ZQ(h:PA X es t):PE X (.List es pos) (ZO t):=by
 intro pins s σ H Q I d;refine wpAny_List_spliced (thn (h pos pins s σ H _ I d) λg a⟨xs,H1,c,r,z,q⟩=>⟨by rw[<- r.length];exact z,?_⟩);have f:H1 a.heap.objs.size=none:=c.hok.fresh (Yr _);refine⟨.ref a.heap.objs.size,upd H1 a.heap.objs.size (.lst xs),c.laid (t':=a.toks) (λb u e=>Qm _ e) (Yr _) ?_,rfl,q _ f⟩;exact⟨z,g,0,r,Qo _ rfl⟩
end
abbrev Sp:=List V->Hp->VK->XK->Prop
abbrev CXT:=List Env->Hp->Shared->XK->Value->Shared->Prop
structure Env0(P:Program)(w:World)(K:PySem.W.Frag)(mg:Str->Option Value)(base:Heap)(A:Around)(outer:List Env)(s:Shared)(H:Hp):Prop where
 frames:A.frames=some outer
 mod:Mod K mg base
 bs:∀ b o,base.get? b=some o->s.heap.get? b=some o/\H b=none
 bsz:base.objs.size<=s.heap.objs.size
 funs:s.heap.FunFrames base outer
 frf:∀ b∈frs outer,H b=none
 hok:HOk P w H s.heap
 bare:AllBare s.gens
def CE(outer:List Env)(P:Program)(w:World)(H:Hp)(s:Shared)(Q:VK)(u:Value)(s':Shared):Prop :=
 ∃ v H',s'.os=s.os/\AllBare s'.gens/\Un (frs outer) [] H H' s.heap s'.heap/\HOk P w H' s'.heap/\RelV v u/\Q v H'
def CR(CX:CXT)(outer:List Env)(P:Program)(w:World)(H:Hp)(s:Shared)(Q:VK)(E:XK)(r:Result)(s':Shared):Prop :=
 match r with
 | .ok (.ret u)=>CE outer P w H s Q u s'
 | .ok _=>False
 | .error e=>CX outer H s E e s'
structure FnOk(P:Program)(w:World)(K:PySem.W.Frag)(mg:Str->Option Value)(base:Heap)(CX:CXT)(k:Nat)(f:Addr)(fd:FuncData)(ps:List Str)(sp:Sp):Prop where
 len:∀ vs H Q E,sp vs H Q E->vs.length=ps.length
 run:∀(A:Around)(outer:List Env)(s:Shared)(H:Hp)(args:Args)(us:List Value)(vs:List V)(Q:VK)(E:XK),Room k A->Env0 P w K mg base A outer s H->BindsTo s fd args (ps.zip us)->Vals vs us->sp vs H Q E->
  codeAny (model P w) A (.call (.ref f) args) (CR CX outer P w H s Q E) s
variable {mg:Str->Option Value}{base:Heap}{CX:CXT}{f:Addr}{fd:FuncData}{ps:List Str}{sp:Sp}
theorem FnOk.mono(F:FnOk P w K mg base CX j f fd ps sp)(h:j<=k):
  FnOk P w K mg base CX k f fd ps sp:=⟨F.len,λA outer s H a d c Q E b=>F.run A outer s H a d c Q E (b.mono h)⟩
theorem FnOk.imp{b:Sp}(F:FnOk P w K mg base CX k f fd ps sp)
  (h:∀ vs H Q E,b vs H Q E->sp vs H Q E):FnOk P w K mg base CX k f fd ps b :=
 ⟨λvs H Q E q=>F.len vs H Q E (h _ _ _ _ q),λA outer s H a j vs Q E c e d i g=>F.run A outer s H a j vs Q E c e d i (h _ _ _ _ g)⟩
variable {outer:List Env}
theorem Env0.in1(e:Env0 P w K mg base A outer s H):
  Env0 P w K mg base A.in1 outer s H:=⟨e.frames,e.mod,e.bs,e.bsz,e.funs,e.frf,e.hok,e.bare⟩
section
variable {X:Cx} {pins:List (Addr×Obj)} {σ:St} {H:Hp} {s s':Shared}
theorem Inv.env0(I:Inv X pins σ H s):Env0 X.prog X.w X.K X.mg X.base X.A X.stack s H :=
 ⟨I.ok.frames,I.ok.mod,I.bs,Yt I.ok.bsz I.sz,I.stack,I.stkFree,I.hok,I.bare⟩
theorem Inv.after{Q:VK}(I:Inv X pins σ H s)(h:CE X.stack X.prog X.w H s Q u s'):EP X pins σ Q u s':=by
 obtain⟨v,H',os,bare,un,hok,r,q⟩:=h;obtain⟨c,g,d,t,a⟩:=s';obtain rfl:a=s.os:=os;exact⟨v,H',I.call (h':=c) (g':=g) (d':=d) (t':=t) (ch:=[]) un hok bare (λb z=>absurd z (by simp)),r,q⟩
end
def ZR(sp:Sp)(dvs:List V)(E:XK)(t:TA):TE:=λσ H Q=>t σ H λvs H1=>sp (vs++dvs) H1 Q E
def Binds(K:PySem.W.Frag)(fd:FuncData)(ps:List Str)(ds:List Value):Prop :=
 ∀(s:Shared)(us:List Value),K.In s.heap->(us++ds).length=ps.length->BindsTo s fd ⟨us,[]⟩ (ps.zip (us++ds))
theorem Binds.all(h:∀ us:List Value,us.length=ps.length->bindArgs fd ⟨us,[]⟩=pure (ps.zip us)):Binds K fd ps []:=λs us _ hl=>by
 rw[Yx]at hl ⊢;exact .of_eq (h us hl)
def ZS(CX:CXT)(X:Cx)(E:XK):Prop:=∀(pins:List (Addr×Obj))(σ:St)(H:Hp)(s:Shared)(e:Value)(s':Shared),Inv X pins σ H s->CX X.stack H s E e s'->X.xe e s'
section
variable {X:Cx} {CX:CXT} {k:Nat} {f C:Addr} {fd:FuncData} {ps:List Str} {sp:Sp} {dvs:List V} {ds:List Value} {E:XK} {x m:Str} {p pos apos:Pos} {e o:Expr} {es:List Expr} {ta:TE} {t:TA}
end
section
variable {X:Cx} {CX:CXT} {k:Nat} {f C:Addr} {fd:FuncData} {ps ks:List Str} {sp:Sp} {E:XK} {x m:Str} {p pos apos kpos:Pos} {e o:Expr} {es:List Expr} {kws:List Keyword} {te ta:TE} {t tk:TA} {nm:Option Str}
variable {g:List Value->List Value->List Value} {gV:List V->List V->List V}
end
structure Az(N P:List Str)(sc:Scope):Prop where
 kind:sc.kind=.function
 co:sc.isCoroutine=false
 gen:sc.isGenerator=false
 nd:N.Nodup
 pre:N.take P.length=P
 par:∀ x∈P,sc.names.lookup x=some .local\/sc.names.lookup x=some .cell
 nofree:∀ y∈sc.names,y.2≠.free
theorem Nr{kindOf:Str->Option NameKind}{x:Str}:∀{binds:List (Str×Value)}{m:Str->Option Value},(∀ v,(x,v)∉binds)->bindL kindOf binds m x=m x
 | [],_,_=>rfl
 |(n,v)::r,m,h=>by
  unfold bindL;rw[Nr λw hw=>h w (Yd _ hw)];split
  ·have:x≠n:=by rintro rfl;exact h v Ye
   simp[this]
  ·rfl
theorem Nt{kindOf:Str->Option NameKind}{x:Str}:∀{binds:List (Str×Value)}{m:Str->Option Value},(∀ v,(x,v)∉binds)->bindC kindOf binds m x=m x
 | [],_,_=>rfl
 |(n,v)::r,m,h=>by
  unfold bindC;rw[Nt λw hw=>h w (Yd _ hw)];split
  ·rfl
  ·have:x≠n:=by rintro rfl;exact h v Ye
   simp[this]
theorem Nu{kindOf:Str->Option NameKind}{x:Str}{v:Value}:∀{P:List Str}{vs:List Value}{i:Nat}{m:Str->Option Value},P.Nodup->P[i]?=some x->vs[i]?=some v->kindOf x=some .local->
  bindL kindOf (P.zip vs) m x=some v
 | [],_,_,_,_,h,_,_=>by simp at h
 | _::_,[],_,_,_,_,h,_=>by simp at h
 | p::P,w::vs,0,m,nd,h1,h2,a=>by
  simp at h1 h2;subst h1;subst h2;show bindL kindOf ((p,w)::P.zip vs) m p=_;unfold bindL;rw[Nr λv b=>(YW.mp nd).1 (List.of_mem_zip b).1,if_pos a];simp
 | p::P,w::vs,i+1,m,nd,h1,h2,a=>by
  show bindL kindOf ((p,w)::P.zip vs) m x=_;unfold bindL;exact Nu (i:=i) (YW.mp nd).2 (by simpa using h1) (by simpa using h2) a
theorem Nv{kindOf:Str->Option NameKind}{x:Str}{v:Value}:∀{P:List Str}{vs:List Value}{i:Nat}{m:Str->Option Value},P.Nodup->P[i]?=some x->vs[i]?=some v->kindOf x≠some .local->
  bindC kindOf (P.zip vs) m x=some v
 | [],_,_,_,_,h,_,_=>by simp at h
 | _::_,[],_,_,_,_,h,_=>by simp at h
 | p::P,w::vs,0,m,nd,h1,h2,a=>by
  simp at h1 h2;subst h1;subst h2;show bindC kindOf ((p,w)::P.zip vs) m p=_;unfold bindC;rw[Nt λv b=>(YW.mp nd).1 (List.of_mem_zip b).1,if_neg a];simp
 | p::P,w::vs,i+1,m,nd,h1,h2,a=>by
  show bindC kindOf ((p,w)::P.zip vs) m x=_;unfold bindC;exact Nv (i:=i) (YW.mp nd).2 (by simpa using h1) (by simpa using h2) a
def BU(N:List Str)(vs:List V):St:=vs.map some++List.replicate (N.length - vs.length) none
def Bj(CX:CXT)(P:Program)(w:World)(K:PySem.W.Frag)(mg:Str->Option Value)(base:Heap)(N:List Str)(qual:Str)(scope:Scope)(f:Addr)(cd:Value)(A:Around)(outer:List Env)(s:Shared)(H:Hp)(E:XK):Cx where
 prog:=P
 w:=w
 K:=K
 mg:=mg
 base:=base
 A:=A.deeper (envOfC qual scope s.heap.objs.size f cd)
 N:=N
 s₀:=s
 H₀:=H
 env:=envOfC qual scope s.heap.objs.size f cd
 outer:=outer
 stack:=envOfC qual scope s.heap.objs.size f cd::outer
 ex:=[]
 calm:=true
 fn:=λ_=>true
 pn:=[]
 xe:=λe s'=>wpAny (model P w) (A.deeper (envOfC qual scope s.heap.objs.size f cd)) (leaving (envOfC qual scope s.heap.objs.size f cd) e) (λ_ s''=>CX outer H s E e s'') (λe' s''=>CX outer H s E e' s'') s'
theorem JC{a:Scope}{n:Nat}{x:Str}(h:a.names.lookup x=some .cell):∃ c,(cellsFrom n a.names []).lookup x=some c:=by
 have q:=PySem.W.cellsFrom_some a.names n [] (.inl h);exact Option.isSome_iff_exists.mp q
variable {N:List Str}{qual:Str}{scope:Scope}
theorem Nw{E:XK}{vs:List V}
  (S:Az N ps scope) (hd:A.handled=none) (d:Env0 P w K mg base A outer s H) (hl:vs.length=ps.length) (r:Vals vs us)
  (x:InCallC s s.heap.objs.size (bindL (envOfC qual scope s.heap.objs.size f cd).kindOf (ps.zip us) λ_=>none) (cellsFrom (s.heap.objs.size+1) scope.names []) (bindC (envOfC qual scope s.heap.objs.size f cd).kindOf (ps.zip us) λ_=>none) B):
  Inv (Bj CX P w K mg base N qual scope f cd A outer s H E) [] (BU N vs) H B:=by
 have G:ps.length<=N.length:=by have:=congrArg List.length S.pre;rw[List.length_take]at this;omega
 obtain⟨h1,tk,rfl,o⟩:=x.done;have j:∀ b:Addr,b∉(Bj CX P w K mg base N qual scope f cd A outer s H E).ex:=λb z=>absurd (show b∈([]:List Addr)from z) (by simp)
 refine⟨⟨d.mod,S.kind,rfl,rfl,Yr _,λy z c h1 h2=>?_,λy g=>?_,λy c _ h=>?_,λ_=>hd,Around.frames_deeper d.frames,.inr ⟨rfl,rfl⟩,λb z=>absurd z (j b),d.bs,d.bsz,λb _ _=>j b,λb z=>absurd z (j b),d.funs,d.frf⟩,
  rfl,d.bare,Un.kept o,⟨_,x.toInCall.ns,λi y v h1 h2 I=>?_⟩,λy c h=>⟨_,x.cell y c h⟩,d.hok.fresh (Yr _),λy c h=>?_,λp l=>absurd (show p∈([]:List (Addr×Obj))from l) (by simp),d.hok.kept o,?_⟩
 ·exact name_of_addr x.apart (PySem.mem_of_lookup h1) (PySem.mem_of_lookup h2)
 ·have g:scope.names.lookup y=some .cell\/scope.names.lookup y=some .free:=g;rcases g with g | g
  ·exact JC g
  ·exact absurd rfl (S.nofree _ (PySem.mem_of_lookup g))
 ·exact YL (x.above y c (PySem.mem_of_lookup h))
 ·have hi:i < vs.length:=by
   unfold BU at h2;by_cases hi:i < vs.length
   ·exact hi
   ·rw[List.getElem?_append_right (by simpa using hi)]at h2;rw[List.getElem?_replicate]at h2;split at h2 <;> cases h2
  have D:vs[i]?=some v:=by
   unfold BU at h2;rw[YK (by simpa using hi),YT]at h2;cases e:vs[i]? with
   | none=>rw[e]at h2;cases h2
   | some a=>rw[e]at h2;cases h2;rfl
  obtain⟨u,t,F⟩:=r.get D
  have l:ps[i]?=some y:=by
   rw[<- S.pre,List.getElem?_take_of_lt (by omega)];exact h1
  have m:ps.Nodup:=by rw[<- S.pre];exact S.nd.sublist (List.take_sublist _ _)
  refine⟨u,F,?_⟩;rcases S.par y (List.mem_of_getElem? l)with k | k
  ·exact .inl ⟨k,Nu m l t k⟩
  ·obtain⟨c,e⟩:=JC (n:=s.heap.objs.size+1) k;refine .inr ⟨.inl k,c,e,?_⟩;have q:=x.cell y c e;rw[Nv m l t (by show scope.names.lookup y≠_;rw[k];decide)]at q;exact q
 ·exact d.hok.fresh (YL (x.above y c (PySem.mem_of_lookup h)))
 ·unfold BU;show _=N.length;rw[Yj,Yh,List.length_replicate];omega
theorem Gx{name:Str}{params:Arguments}{body:List Stmt}{L kV j pm cdv ct oc:Value}{D Z:Option Addr}
  {B:Array (Option Value)}   (T:K.lookup f=some ⟨oc,Z,.func (PySem.W.fnOf name qual params body scope L kV j pm D cdv ct),B⟩) (m:PySem.W.codeIn K cdv qual=true) (S:Az N ps scope)
  (len:∀ vs H Q E,sp vs H Q E->vs.length=ps.length)
  (a:∀(A:Around)(outer:List Env)(s:Shared)(H:Hp)(vs:List V)(Q:VK)(E:XK),Room k (A.deeper (envOfC qual scope s.heap.objs.size f cdv))->sp vs H Q E->
   ∃ t,PSs (Bj CX P w K mg base N qual scope f cdv A outer s H E) body t/\t {nx:=λ_ H'=>Q .non H',rt:=Q} (BU N vs) H):
  FnOk P w K mg base CX (k+1) f (PySem.W.fnOf name qual params body scope L kV j pm D cdv ct) ps sp:=by
 refine⟨len,λA outer s H F us vs Q E p h Y r i=>?_⟩;have hl:=len _ _ _ _ i;have KX:K.In s.heap:=h.mod.kin.keeps λb o e=>(h.bs b o e).1;have l:s.heap.NoLimit:=h.mod.nolimit.keeps λb o e=>(h.bs b o e).1
 have c:∀ y∈ps.zip us,scope.names.lookup y.1=some .local\/(scope.names.lookup y.1=some .cell/\((cellsFrom (s.heap.objs.size+1) scope.names []).lookup y.1).isSome=true):=by
  rintro⟨n,v⟩ hy;rcases S.par n (List.of_mem_zip hy).1 with q | q
  ·exact .inl q
  ·exact .inr ⟨q,PySem.W.cellsFrom_some _ _ _ (.inl q)⟩
 refine codeAny_call_function p.depth (KX _ _ T) rfl S.co S.gen rfl (PySem.W.codeRec_of KX m) (Y _ _ _ _ ?_);refine wpAny_newFunctionEnv_cells S.kind c λenv R G x=>?_;subst R;refine⟨l.keeps x.toInCall.keep,codeAny_func ?_⟩;obtain⟨t,U,X⟩:=a A outer s H vs Q E (p.deeper _) i;have I:Inv (Bj CX P w K mg base N qual scope f cdv A outer s H E) [] (BU N vs) H G:=Nw S p.hd h hl r x;refine wpAny_mono (U [] G (BU N vs) H _ I X) (λO s' d=>?_) λe s' d=>d
 have g:∀{σ':St}{H':Hp}{v:V}{u:Value},Inv (Bj CX P w K mg base N qual scope f cdv A outer s H E) [] σ' H' s'->RelV v u->Q v H'->CE outer P w H s Q u s' :=
  λ{σ' H' v u}J z q=>⟨v,H',J.os,J.bare,J.base,J.hok,z,q⟩
 cases O with
 | ret u =>
  obtain⟨v,σ',H',J,z,q⟩:=d;exact g J z q
 | next =>
  obtain⟨σ',H',J,q⟩:=d;exact g (v:=V.non) (u:=Value.none) J rfl q
 | brk =>
  obtain⟨_,_,_,q⟩:=d;exact Ql q
 | cont =>
  obtain⟨_,_,_,q⟩:=d;exact Ql q
section
variable {X:Cx} {x:Str} {p pos:Pos} {e:Expr} {es:List Expr} {t:TA} {id T:String} {r:List V->Hp->VK->Prop}
def tCB(r:List V->Hp->VK->Prop)(t:TA):TE:=λσ H Q=>t σ H λvs H1=>r vs H1 Q
theorem ZT(hc:CallR X (.builtin id) r)(n:Gl X x)(c:X.mg x=none)(l:bootBuiltins x=some (.builtin id))(d:PA X (e::es) t)(f:x≠"__name__":=by decide)(a:(x==("__debug__":Str))=false:=by decide)
  (g:starEach (e::es) X.env=(false,eval e X.env)::starEach es X.env:=by rfl) (b:(backTo pos (starEach es X.env)).any (·.1)=false:=by rfl):PE X (.Call (.Name x p) (e::es) [] pos) (tCB r t):=by
 intro pins s σ H Q I h;refine wpAny_Call_Name_kw (CC I n c l ?_ f a);exact PyProof.Rows.callWith_builtin1 (thn (d pos pins s σ H _ I h) (by rintro m j ⟨i,H1,k,r1,q1⟩;exact hc pins j σ H1 i m Q k r1 q1)) g b
theorem ZU(hc:CallR X (.type T) r)(n:Gl X x)(c:X.mg x=none)(l:bootBuiltins x=some (.type T))(d:PA X (e::es) t)(f:x≠"__name__":=by decide)(a:(x==("__debug__":Str))=false:=by decide)
  (g:starEach (e::es) X.env=(false,eval e X.env)::starEach es X.env:=by rfl) (b:(backTo pos (starEach es X.env)).any (·.1)=false:=by rfl):PE X (.Call (.Name x p) (e::es) [] pos) (tCB r t):=by
 intro pins s σ H Q I h;refine wpAny_Call_Name_kw (CC I n c l ?_ f a);exact Qh (thn (d pos pins s σ H _ I h) (by rintro m j ⟨i,H1,k,r1,q1⟩;exact hc pins j σ H1 i m Q k r1 q1)) g b
end
end L2
namespace HT
open PySem PyProof.Rows
section
open PySem.SeqAt
open PySem.AutoSeq1 (wpAny_loadPart')
open PySem.MeetsSeq PySem.MeetsSeq2 PySem.MeetsSeq3
end
section
variable {prog:Program} {w:World} {A:Around} {E:Value->Shared->Prop} {s:Shared}
variable {t:Addr}{Q:Value->Shared->Prop}
theorem cat_tup{b:Addr}{vs a:List Value}(u:IsTup s.heap t vs.toArray)(r:IsTup s.heap b a.toArray)(p:vs≠[])
  (h1:a=[]->Q (.ref t) s) (h2:a≠[]->Q (.ref s.heap.objs.size) {s with heap:=s.heap.push {cls:=.type "tuple",data:=.seq (vs++a).toArray}})
  (k:vs.length+a.length<=sizeLine):wpAny (model prog w) A (binaryOp .Add (.ref t) (.ref b)) Q E s:=by
 obtain⟨⟨cls,l,data,o⟩,i,hc,n,hd⟩:=id u;obtain⟨⟨m,g,j,f⟩,c,d,q,h⟩:=id r;simp only at hc hd d h;subst hc hd d h;have e:vs.toArray++a.toArray=(vs++a).toArray:=by simp
 by_cases hw:a=[]
 ·exact concat_meets ⟨_,i,rfl⟩ ⟨_,c,rfl⟩ noFill_tuple_add seq_tuple_add PySem.F.slot_tuple_add PySem.F.entry_tuple_add (PySem.F.args_tuple_add_2 _ _)
   (tuple_addW1 t b vs.toArray a.toArray n q l g o f (by simpa using p) (by simp[hw])) ⟨i,c,h1 hw⟩
 ·refine concat_meets ⟨_,i,rfl⟩ ⟨_,c,rfl⟩ noFill_tuple_add seq_tuple_add PySem.F.slot_tuple_add PySem.F.entry_tuple_add (PySem.F.args_tuple_add_2 _ _)
   (tuple_addW2 t b vs.toArray a.toArray n q l g o f (by simpa using p) (by simpa using hw) (by rw[Yn,Yn];exact k)) ⟨i,c,?_⟩
  rw[e];exact h2 hw
def sIx(n d:Nat):Option Int->Nat
 | none=>d
 | some v=>if v < 0 then(v+(n:Int)).toNat else min v.toNat n
theorem sIx_none(n d:Nat):sIx n d none=d:=rfl
theorem sIx_nat(n d k:Nat):sIx n d (some (k:Int))=min k n:=by
 show(if(k:Int) < 0 then((k:Int)+(n:Int)).toNat else min (k:Int).toNat n)=min k n;rw[if_neg (by omega),Int.toNat_natCast]
theorem ZV(n d:Nat)(hd:d<=n)(o:Option Int):sIx n d o<=n:=by
 cases o with
 | none=>exact hd
 | some v =>
  show(if v < 0 then(v+(n:Int)).toNat else min v.toNat n)<=n;by_cases a:v < 0
  ·rw[if_pos a];omega
  ·rw[if_neg a];exact Nat.min_le_right _ _
theorem Nx(v:Int)(n d:Nat):(if v < 0 then max (v+(n:Int)) 0 else min v (n:Int))=((sIx n d (some v):Nat):Int):=by
 show(if v < 0 then max (v+(n:Int)) 0 else min v (n:Int))=(((if v < 0 then(v+(n:Int)).toNat else min v.toNat n):Nat):Int);by_cases a:v < 0
 ·simp only[if_pos a];omega
 ·simp only[if_neg a];omega
theorem ZW(lo hi:Option Int)(n:Nat):Builtin.Slice.sliceAdjust lo hi 1 (n:Int)=(((sIx n 0 lo:Nat):Int),((sIx n n hi:Nat):Int)):=by
 have h1:¬ ((1:Int) < 0):=by omega
 unfold Builtin.Slice.sliceAdjust;simp only[h1,if_false];refine Prod.ext ?_ ?_
 ·cases lo with
  | none=>rfl
  | some v=>exact Nx v n 0
 ·cases hi with
  | none=>rfl
  | some v=>exact Nx v n n
theorem ZX(i j:Nat):Builtin.Slice.slicePlaces (i:Int) (j:Int) 1=j - i:=by
 unfold Builtin.Slice.slicePlaces;have h1:(1:Int) > 0:=by omega
 simp only[h1,if_true,Int.ediv_one];split <;> omega
theorem Ny{v:Value}{o:Option Int}{Q:Option Int->Shared->Prop}(p:IsPart v o)(h:Q o s):wpAny (model prog w) A (Builtin.Slice.slicePartIndex v) Q E s:=by
 cases p with
 | none=>exact slicePart_none h
 | int i t=>exact slicePart_int h
variable {lo hi:Option Int}
theorem ZY{d:Addr}{vl c:Value}{n:Nat}{Q:Int×Int×Nat->Shared->Prop}(f:s.heap.IsSliceOf d vl c .none)(pl:IsPart vl lo)(g:IsPart c hi)
  (h:Q (((sIx n 0 lo:Nat):Int),1,sIx n n hi - sIx n 0 lo) s):wpAny (model prog w) A (Builtin.Slice.sliceApplied (.ref d) (pure (n:Int))) Q E s:=by
 obtain⟨os,b,e,a⟩:=id f;unfold Builtin.Slice.sliceApplied Builtin.Slice.sliceFields;refine wpAny_bind (wpAny_bind (wpAny_field b a (x:=vl) rfl (wpAny_bind (wpAny_field b a (x:=c) rfl (wpAny_bind (wpAny_field b a (x:=.none) rfl (wpAny_pure ?_)))))));refine wpAny_bind (slicePart_none ?_);show wpAny _ _ (if((1:Int)==0)=true then _ else _) _ _ s;rw[if_neg (by decide)];refine wpAny_bind (Ny pl (wpAny_bind (Ny g (wpAny_bind (wpAny_pure ?_)))));show wpAny _ _ (match Builtin.Slice.sliceAdjust lo hi 1 (n:Int)with |(lo,hi)=>pure (lo,(1:Int),Builtin.Slice.slicePlaces lo hi 1)) _ _ s;rw[ZW lo hi n];show wpAny _ _ (pure (((sIx n 0 lo:Nat):Int),(1:Int),Builtin.Slice.slicePlaces ((sIx n 0 lo:Nat):Int) ((sIx n n hi:Nat):Int) 1)) _ _ s;rw[ZX];exact wpAny_pure h
theorem ZZ(xs:Array Value)(i k:Nat):((List.range k).filterMap λ(m:Nat)=>xs[((i:Int)+(m:Int)*1).toNat]?).toArray=((xs.toList.drop i).take k).toArray:=by
 have e:(λ(m:Nat)=>xs[((i:Int)+(m:Int)*1).toNat]?)=λm=>xs[i+m]?:=by
  funext m;have:((i:Int)+(m:Int)*1).toNat=i+m:=by omega
  rw[this]
 rw[e];have:=pick_run xs i k;rw[List.filterMap_map]at this;have a:((λx=>xs[x]?)∘λx=>i+x)=λm=>xs[i+m]?:=rfl;rw[a]at this;rw[this]
theorem getItem_tuple_cut{g:Addr}{items:Array Value}{vl i:Value}(b:IsTup s.heap t items)(j:s.heap.IsSliceOf g vl i .none)(pl:IsPart vl lo)(n:IsPart i hi)
  (hw:¬ (sIx items.size 0 lo=0/\sIx items.size items.size hi=items.size))
  (h:Q (.ref s.heap.objs.size) {s with heap:=s.heap.push {cls:=.type "tuple",data:=.seq ((items.toList.drop (sIx items.size 0 lo)).take (sIx items.size items.size hi - sIx items.size 0 lo)).toArray}})
  (k:items.size<=sizeLine):wpAny (model prog w) A (getItem (.ref t) (.ref g)) Q E s:=by
 have a:sizeOk (.seq ((items.toList.drop (sIx items.size 0 lo)).take (sIx items.size items.size hi - sIx items.size 0 lo)).toArray):=by
  show((items.toList.drop (sIx items.size 0 lo)).take (sIx items.size items.size hi - sIx items.size 0 lo)).toArray.size<=sizeLine;rw[Yn,List.length_take,List.length_drop,YX];omega
 have o:sIx items.size items.size hi<=items.size:=ZV _ _ (Yr _) hi;obtain⟨os,f,d,l⟩:=id j;have c:s.TypeIs (.ref g) "slice":=⟨os,f,d⟩;unfold getItem
 try with_reducible refine wpAny_holding ?_
 first | refine wpAny_bind (wpAny_pure ?_)| skip
 refine wpAny_bind (wpAny_sequenceKey b.typeIs (by decide) ?_)
 refine wpAny_bind (wpAny_callSpecial?_slot (name:=Str.ofString "__getitem__") b.typeIs PyProof.Rows.slot_tuple_getitem
  (wpAny_call_entry PyProof.Rows.slot_tuple_getitem b.typeIs entry_tuple_getitem ?_ (args_tuple_getitem _ _)))
 show wpAny _ _ (Builtin.Tuple.tupleItemsOf (.ref t) >>=_) _ _ s;refine wpAny_bind (tupleItemsOf_ b ?_);refine wpAny_bind (wpAny_typeOf c ?_);rw[if_pos (by decide)];refine wpAny_bind (ZY j pl n ?_)
 have e:¬ ((((sIx items.size 0 lo:Nat):Int)==0&&(1:Int)==1&&(sIx items.size items.size hi - sIx items.size 0 lo)==items.size)=true):=by
  intro q;rw[YH,YH]at q;have q1:((sIx items.size 0 lo:Nat):Int)=0:=eq_of_beq q.1.1;have q2:sIx items.size items.size hi - sIx items.size 0 lo=items.size:=eq_of_beq q.2;exact hw ⟨by omega,by omega⟩
 show wpAny _ _ (if(((sIx items.size 0 lo:Nat):Int)==0&&(1:Int)==1&&(sIx items.size items.size hi - sIx items.size 0 lo)==items.size)=true then _ else _) _ _ s;rw[if_neg e,ZZ]
 first
  | exact wpAny_bind (m:=Builtin.Tuple.tupleExact _) (wpAny_newObj_type (wpAny_pure ⟨_,rfl,wpAny_pure h⟩) a)
  | exact wpAny_bind (m:=Builtin.Tuple.tupleExact _) (wpAny_newObj_type (wpAny_bind (wpAny_pure (wpAny_pure ⟨_,rfl,wpAny_pure h⟩))) a)
  | exact wpAny_bind (wpAny_bind (m:=Builtin.Tuple.tupleExact _) (wpAny_newObj_type (wpAny_pure (wpAny_pure ⟨_,rfl,wpAny_pure h⟩)) a))
  | exact wpAny_bind (wpAny_bind (m:=Builtin.Tuple.tupleExact _) (wpAny_newObj_type (wpAny_pure ⟨_,rfl,wpAny_pure h⟩) a))
end
end HT
namespace L2
open PySem PySem.Spec PyProof.Rows
abbrev TO:=St->Hp->(Option Int->Hp->Prop)->Prop
def PO(X:Cx)(e:Option Expr)(t:TO):Prop :=
 ∀(pins:List (Addr×Obj))(s:Shared)(σ:St)(H:Hp)(Q:Option Int->Hp->Prop),Inv X pins σ H s->t σ H Q->
  wpAny (model X.prog X.w) X.A (evalPart e X.env) (λu s'=>∃ o H',Inv X pins σ H' s'/\IsPart u o/\Q o H') X.xe s
def Z0:TO:=λ_ H Q=>Q none H
def Z1(t:TE):TO:=λσ H Q=>t σ H λx H1=>∃ i,x=.int i/\Q (some i) H1
section
variable {X:Cx} {e:Expr} {te:TE} {lo hi:Option Expr} {tl th:TO} {pos p2:Pos}
theorem Z2:PO X none Z0:=by
 intro pins s σ H Q I h;rw[evalPart_none];exact wpAny_pure ⟨none,H,I,.none,h⟩
theorem Z3(h:PE X e te):PO X (some e) (Z1 te):=by
 intro pins s σ H Q I hw;rw[evalPart_some];refine thn (h pins s σ H _ I hw) λu c a=>?_;obtain⟨x,H1,b,r1,q1⟩:=a;obtain⟨i,rfl,q⟩:=q1;obtain⟨t,rfl⟩:=r1;exact⟨some i,H1,b,.int i t,q⟩
def SlR(X:Cx)(r:V->Option Int->Option Int->Hp->VK->Prop):Prop :=
 ∀(pins:List (Addr×Obj))(s:Shared)(σ:St)(H:Hp)(x:V)(v vl vu:Value)(lo hi:Option Int)(sl:Addr)(Q:VK),Inv X pins σ H s->RelV x v->s.heap.IsSliceOf sl vl vu .none->IsPart vl lo->IsPart vu hi->r x lo hi H Q->
  ∃ T id,typeLookup (.type T) "__getitem__"=pure (some (.builtin id))/\s.TypeIs v T/\wpAny (model X.prog X.w) X.A (getItem v (.ref sl)) (EP X pins σ Q) X.xe s
variable {r:V->Option Int->Option Int->Hp->VK->Prop}
theorem SlR.or{r':V->Option Int->Option Int->Hp->VK->Prop}(h:SlR X r)(h':SlR X r'):SlR X (λx lo hi H Q=>r x lo hi H Q\/r' x lo hi H Q):=by
 intro pins s σ H x v vl d lo hi b Q I c a pl e q;rcases q with q | q
 ·exact h pins s σ H x v vl d lo hi b Q I c a pl e q
 ·exact h' pins s σ H x v vl d lo hi b Q I c a pl e q
def tSl(r:V->Option Int->Option Int->Hp->VK->Prop)(te:TE)(tl th:TO):TE:=λσ H Q=>te σ H λx H1=>tl σ H1 λl H2=>th σ H2 λu H3=>r x l u H3 Q
theorem Z4(g:SlR X r)(m:PE X e te)(hl:PO X lo tl)(n:PO X hi th):PE X (.Subscript e (.Slice lo hi none p2) pos) (tSl r te tl th):=by
 intro pins s σ H Q I h;refine Subscript_ (thn (m pins s σ H _ I h) λv p c=>?_);obtain⟨x,H1,y,r1,q1⟩:=c;refine wpAny_Slice (thn (hl pins p σ H1 _ y q1) λvl t⟨l,H2,j,pl,q2⟩=>thn (n pins t σ H2 _ j q2) λd a⟨u,f,o,B,q3⟩=>?_);rw[evalPart_none];refine wpAny_pure ?_;have i:Inv X pins σ f {a with heap:=a.heap.push {cls:=.type "slice",data:=.fields #[vl,d,.none]}}:=o.kept (t':=a.toks) λb E q=>Qm _ q;obtain⟨T,id,z,k,D⟩:=g pins {a with heap:=a.heap.push {cls:=.type "slice",data:=.fields #[vl,d,.none]}} σ f x v vl d l u a.heap.objs.size Q i r1 (Heap.IsSliceOf.new ..) pl B q3;show wpAny (model X.prog X.w) X.A (subscriptTail e (.Slice lo hi none p2) v (.ref a.heap.objs.size)) (EP X pins σ Q) X.xe {a with heap:=a.heap.push {cls:=.type "slice",data:=.fields #[vl,d,.none]}};exact tail_any (ops:=[.ref a.heap.objs.size,v]) k z D (by with_unfolding_all rfl)
def Dy(xs:List V)(lo hi:Option Int):List V:=(xs.drop (HT.sIx xs.length 0 lo)).take (HT.sIx xs.length xs.length hi - HT.sIx xs.length 0 lo)
theorem Nz(xs:List V)(lo hi:Option Int):(Dy xs lo hi).length<=xs.length:=by
 unfold Dy;rw[List.length_take,List.length_drop];omega
def NA(K:PySem.W.Frag):V->Option Int->Option Int->Hp->VK->Prop:=λx lo hi H Q=>∃ a xs,x=.ref a/\SqT K H a xs/\
 ¬ (HT.sIx xs.length 0 lo=0/\HT.sIx xs.length xs.length hi=xs.length)/\∀ p,H p=none->Q (.ref p) (upd H p (.tup (Dy xs lo hi)))
theorem Z5:SlR X (NA X.K):=by
 intro pins s σ H x v vl n lo hi m Q I j i pl k h;obtain⟨a,xs,rfl,g,hw,q⟩:=h;cases j;obtain⟨d,r,e,f⟩:=I.tuple g;have c:d.toArray.size=xs.length:=by rw[Yn];exact r.length.symm
 refine⟨"tuple",_,PyProof.Rows.slot_tuple_getitem.lookup,e.typeIs,?_⟩;refine HT.getItem_tuple_cut e i pl k (by rw[c];exact hw) ?_ (by rw[c];exact f);rw[c];refine⟨.ref s.heap.objs.size,_,I.laid (t':=s.toks) (o:=.tup (Dy xs lo hi)) (λb l q=>Qm _ q) (Yr _) ?_,rfl,q _ (I.hok.fresh (Yr _))⟩;exact⟨Yt (Nz xs lo hi) f,_,(r.drop (HT.sIx xs.length 0 lo)).take (HT.sIx xs.length xs.length hi - HT.sIx xs.length 0 lo),TupP.new _ _⟩
def JD(K:PySem.W.Frag):R2:=λx y H Q=>∃ a b xs ys,x=.ref a/\y=.ref b/\SqT K H a xs/\SqT K H b ys/\xs≠[]/\xs.length+ys.length<=sizeLine/\
 (ys=[]->Q (.ref a) H)/\(ys≠[]->∀ p,H p=none->Q (.ref p) (upd H p (.tup (xs++ys))))
theorem Vals.nil_iff{xs:List V}{us:List Value}(r:Vals xs us):us=[]↔xs=[]:=by
 cases r with
 | nil=>simp
 | cons _ _=>simp
theorem Z6:OpR X (binaryOp .Add) (JD X.K):=by
 intro pins s σ H x y v u Q I f l h;obtain⟨a,b,xs,ys,rfl,rfl,i,g,j,e,q1,q2⟩:=h;cases f;cases l;obtain⟨k,r1,p1,_⟩:=I.tuple i;obtain⟨d,c,p2,_⟩:=I.tuple g;refine HT.cat_tup p1 p2 (λz=>j (r1.nil_iff.mp z)) (λz=>⟨.ref a,H,I,rfl,q1 (c.nil_iff.mp z)⟩) (λz=>?_) (by rw[<- r1.length,<- c.length];exact e);refine⟨.ref s.heap.objs.size,_,I.laid (t':=s.toks) (o:=.tup (xs++ys)) (λb m q=>Qm _ q) (Yr _) ?_,rfl,q2 (λw=>z (c.nil_iff.mpr w)) _ (I.hok.fresh (Yr _))⟩;exact⟨by rw[Yj];exact e,_,r1.append c,TupP.new _ _⟩
end
def ixN(n:Nat)(i:Int):Option Nat:=if 0<=i then(if i < n then some i.toNat else none)else if -(n:Int)<=i then some (i+n).toNat else none
def atI{α:Type}(xs:List α)(i:Int):Option α:=(ixN xs.length i).bind λj=>xs[j]?
variable {i:Int}{j:Nat}
theorem NB{n:Nat}(h:ixN n i=some j):seqIndex? i n=some j/\j < n/\-(n:Int)<=i/\i < n:=by
 unfold ixN at h;by_cases a:0<=i
 ·rw[if_pos a]at h;by_cases h1:i < n
  ·rw[if_pos h1]at h;have e:i.toNat=j:=YF h;exact⟨by rw[seqIndex_of a h1,e],by omega,by omega,h1⟩
  ·rw[if_neg h1]at h;cases h
 ·rw[if_neg a]at h;by_cases h1:-(n:Int)<=i
  ·rw[if_pos h1]at h;have e:(i+n).toNat=j:=YF h;exact⟨by rw[seqIndex_neg (by omega) h1,e],by omega,h1,by omega⟩
  ·rw[if_neg h1]at h;cases h
theorem JE{α:Type}{xs:List α}{v:α}(h:atI xs i=some v):∃ j,seqIndex? i xs.length=some j/\xs[j]?=some v/\j < xs.length/\-(xs.length:Int)<=i/\i < xs.length:=by
 unfold atI at h;cases e:ixN xs.length i with
 | none=>rw[e]at h;cases h
 | some j =>
  rw[e]at h;obtain⟨h1,h2,b,a⟩:=NB e;exact⟨j,h1,h,h2,b,a⟩
theorem EN{α:Type}{xs:List α}{v:α}(h:xs[j]?=some v):atI xs (j:Int)=some v:=by
 have a:j < xs.length:=(Qc.mp h).1
 have e:ixN xs.length (j:Int)=some j:=by
  unfold ixN;rw[if_pos (by omega),if_pos (by omega)];simp
 unfold atI;rw[e];exact h
def Gy(b:Expr):Prop:=∀ o i,subscripted b false o i=operate [o,i] (getItem o i)
def IxR(X:Cx)(r:R2):Prop :=
 ∀(value slice:Expr)(pins:List (Addr×Obj))(s:Shared)(σ:St)(H:Hp)(x y:V)(v u:Value)(Q:VK),Inv X pins σ H s->RelV x v->RelV y u->r x y H Q->
  subscripted slice false v u=operate [v,u] (getItem v u)->wpAny (model X.prog X.w) X.A (subscriptTail value slice v u) (EP X pins σ Q) X.xe s
def MtR(X:Cx)(id:String)(r:V->List V->Hp->VK->Prop):Prop :=
 ∀(pins:List (Addr×Obj))(s:Shared)(σ:St)(H:Hp)(x:V)(xs:List V)(v:Value)(us:List Value)(Q:VK),Inv X pins σ H s->RelV x v->Vals xs us->r x xs H Q->
  wpAny (model X.prog X.w) X.A (call (.builtin id) (v::us)) (EP X pins σ Q) X.xe s
section
variable {X:Cx} {a b:Expr} {ta tb:TE} {pos:Pos}
variable {r:R2}
theorem IxR.or{r':R2}(h:IxR X r)(h':IxR X r'):IxR X (λx y H Q=>r x y H Q\/r' x y H Q):=by
 intro value a pins s σ H x y v u Q I b d q c;rcases q with q | q
 ·exact h value a pins s σ H x y v u Q I b d q c
 ·exact h' value a pins s σ H x y v u Q I b d q c
theorem MtR.or{id:String}{r r':V->List V->Hp->VK->Prop}(h:MtR X id r)(h':MtR X id r'):MtR X id (λx xs H Q=>r x xs H Q\/r' x xs H Q):=by
 intro pins s σ H x xs v c Q I a b q;rcases q with q | q
 ·exact h pins s σ H x xs v c Q I a b q
 ·exact h' pins s σ H x xs v c Q I a b q
theorem Z7(c:IxR X r)(f:PE X a ta)(d:PE X b tb)(g:Gy b):PE X (.Subscript a b pos) (tOp r ta tb):=by
 intro pins s σ H Q I h;exact Subscript_ (Jv f d I h λv u j x y H2 e i k q=>c a b pins j σ H2 x y v u Q e i k q (g _ _))
def JF(K:PySem.W.Frag):R2:=λx y H Q=>∃ p xs i v,x=.ref p/\y=.int i/\SqL K H p xs/\atI xs i=some v/\Q v H
def JG(K:PySem.W.Frag):R2:=λx y H Q=>∃ p xs i v,x=.ref p/\y=.int i/\SqT K H p xs/\atI xs i=some v/\Q v H
def JH:R2:=λx y H Q=>∃ z i c,x=.str z/\y=.int i/\z.length<=sizeLine/\atI z.cps.toList i=some c/\Q (.str ⟨#[c]⟩) H
theorem Z8:IxR X (JF X.K):=by
 intro value e pins s σ H x y v u Q I A B h k;obtain⟨p,xs,i,z,rfl,rfl,l,n,q⟩:=h;cases A;obtain⟨t,rfl⟩:=B;obtain⟨c,r,pl,E⟩:=I.list l;obtain⟨j,h1,h2,D,m,o⟩:=JE n;obtain⟨w,f,b⟩:=r.get h2;have hl:=r.length;have F:=EK;have a:EP X pins σ Q w s:=⟨z,H,I,b,q⟩;by_cases g:0<=i
 ·have d:i.toNat=j:=by
   rw[seqIndex_of g o]at h1;exact YF h1
  exact item_listR pl.isList g (by omega) (by rw[d];simpa using f) a k
 ·have d:(i+(c.toArray.size:Int)).toNat=j:=by
   rw[seqIndex_neg (by omega) m]at h1;rw[Yn,<- hl];exact YF h1
  exact subscriptTail_builtinR (x:=w) pl.isList.typeIs slot_list_getitem.lookup
   (wpAny_getItem_list_neg (Q:=λr s'=>r=w/\EP X pins σ Q r s') pl.isList (by omega) (by rw[Yn] <;> omega) (by omega) (by rw[d];simpa using f) ⟨rfl,a⟩) k
theorem Z9:IxR X (JG X.K):=by
 intro value c pins s σ H x y v u Q I l m h k;obtain⟨p,xs,i,z,rfl,rfl,e,f,q⟩:=h;cases l;obtain⟨t,rfl⟩:=m;obtain⟨g,r,pl,B⟩:=I.tuple e;obtain⟨j,h1,h2,n,o,A⟩:=JE f;obtain⟨w,d,b⟩:=r.get h2;have hl:=r.length;have D:=EK;have a:EP X pins σ Q w s:=⟨z,H,I,b,q⟩
 exact subscriptTail_builtinR (x:=w) pl.typeIs slot_tuple_getitem.lookup
  (getItem_tuple (j:=j) (Q:=λr s'=>r=w/\EP X pins σ Q r s') pl (by omega) (by omega) (by rw[Yn,<- hl];exact h1) (by simpa using d) ⟨rfl,a⟩) k
theorem aa:IxR X JH:=by
 intro value a pins s σ H x y v u Q I l m h g;obtain⟨z,i,c,rfl,rfl,o,d,q⟩:=h;obtain⟨t,rfl⟩:=l;obtain⟨t',rfl⟩:=m;obtain⟨j,h1,h2,n,b,k⟩:=JE d;have hl:z.cps.toList.length=z.length:=by simp[Str.length]
 rw[hl]at h1 b k;have p:=EK
 exact tail_any (typeIs_str s z t) slot_str_getitem.lookup (getItem_str (c:=c) (by
  have f:decide (i < -(2 ^ 63:Int))=false:=decide_eq_false (by omega);have e:decide (i>=2 ^ 63)=false:=decide_eq_false (by omega);rw[f,e,Bool.or_false]) (by rw[h1];simpa using h2) ⟨.str ⟨#[c]⟩,H,I.tok _,⟨_,rfl⟩,q⟩) g
theorem ac(a:List Value)(n j:Nat)(u:Value):Obj.mapSeq (·.setIfInBounds j u) {cls:=.type "list",data:=.seq a.toArray n}={cls:=.type "list",data:=.seq (a.set j u).toArray n}:=by
 simp[Obj.mapSeq]
variable {pins:List (Addr×Obj)}{σ:St}{H:Hp}{s:Shared}{p:Addr}{xs:List V}
theorem Inv.lst(I:Inv X pins σ H s)(h:H p=some (.lst xs)):
  ∃(a:List Value)(n:Nat),Vals xs a/\s.heap.get? p=some {cls:=.type "list",data:=.seq a.toArray n}/\xs.length<=sizeLine:=by
 obtain⟨z,a,n,r,e⟩:=I.hok p _ h;exact⟨a,n,r,e,z⟩
theorem Inv.lstUpd{ys:List V}{a its':List Value}{n c:Nat}{f:Obj->Obj}(I:Inv X pins σ H s)(h:H p=some (.lst xs))
  (j:s.heap.get? p=some {cls:=.type "list",data:=.seq a.toArray n}) (d:f {cls:=.type "list",data:=.seq a.toArray n}={cls:=.type "list",data:=.seq its'.toArray c}) (r:Vals ys its') (i:ys.length<=sizeLine) (t:Nat):
  Inv X pins σ (upd H p (.lst ys)) {s with heap:=s.heap.update p f,toks:=t}:=by
 have e:(s.heap.update p f).get? p=some {cls:=.type "list",data:=.seq its'.toArray c}:=by
  rw[Qr f j (by rw[d] <;> rfl),d]
 refine I.write (x:=p) (e:=p) (by rw[h];trivial) (.inl rfl) (λb u g q=>(Heap.get?_update_other _ _ (Qa g)).trans q) ⟨_,e⟩ ?_;exact⟨i,its',c,r,e⟩
def NC:V->V->V->Hp->(Hp->Prop)->Prop:=λo i v H Q=>∃ p xs k j,o=.ref p/\i=.int k/\H p=some (.lst xs)/\ixN xs.length k=some j/\Q (upd H p (.lst (xs.set j v)))
theorem ae:Jr X NC:=by
 intro pins s σ H o i v B A u Q I m w x h;obtain⟨p,xs,k,j,rfl,rfl,g,y,q⟩:=h;cases m;obtain⟨t,rfl⟩:=w;obtain⟨a,n,r,c,z⟩:=I.lst g;obtain⟨h1,h2,d,e⟩:=NB y;have hl:=r.length;have D:=EK
 have l:Inv X pins σ (upd H p (.lst (xs.set j v))) {s with heap:=s.heap.update p (Obj.mapSeq (·.setIfInBounds j u))}:=
  I.lstUpd g c (ac a n j u) (r.set x j) (by rw[List.length_set];exact z) s.toks
 by_cases f:0<=k
 ·have b:k.toNat=j:=by
   rw[seqIndex_of f e]at h1;exact YF h1
  exact PySem.W.ki_setAt c f (by omega) (by rw[Yn,<- hl];exact e) (by rw[b];exact⟨_,l,q⟩)
 ·have b:(k+(a.toArray.size:Int)).toNat=j:=by
   rw[seqIndex_neg (by omega) d]at h1;rw[Yn,<- hl];exact YF h1
  exact PySem.W.ki_setBack c (by omega) (by rw[Yn,<- hl];exact d) (by omega) (by rw[b];exact⟨_,l,q⟩)
theorem af(lo hi:Option Int)(n:Nat):(sliceBounds lo hi none n).1=((HT.sIx n 0 lo:Nat):Int)/\(sliceBounds lo hi none n).2.1=((HT.sIx n n hi:Nat):Int)/\(sliceBounds lo hi none n).2.2=1:=by
 refine⟨?_,?_,rfl⟩
 ·cases lo with
  | none=>simp[sliceBounds,HT.sIx]
  | some i =>
   simp only[sliceBounds,HT.sIx,Option.getD_none,show(1:Int) > 0 by decide,if_true];by_cases h:i < 0
   ·simp only[h,if_true] <;> omega
   ·simp only[h,if_false] <;> omega
 ·cases hi with
  | none=>simp[sliceBounds,HT.sIx]
  | some i =>
   simp only[sliceBounds,HT.sIx,Option.getD_none,show(1:Int) > 0 by decide,if_true];by_cases h:i < 0
   ·simp only[h,if_true] <;> omega
   ·simp only[h,if_false] <;> omega
theorem ag(a:List Value)(lo hi:Option Int):slicePick a.toArray lo hi none=((a.drop (HT.sIx a.length 0 lo)).take (HT.sIx a.length a.length hi - HT.sIx a.length 0 lo)).toArray:=by
 obtain⟨h1,h2,b⟩:=af lo hi a.toArray.size;unfold slicePick;rw[h1,h2,b];simp only[sliceRange_one,pick_run,Yn] <;> rfl
def ND(K:PySem.W.Frag):V->Option Int->Option Int->Hp->VK->Prop:=λx lo hi H Q=>∃ a xs,x=.ref a/\SqL K H a xs/\∀ p,H p=none->Q (.ref p) (upd H p (.lst (Dy xs lo hi)))
theorem ah:SlR X (ND X.K):=by
 intro pins s σ H x v vl n lo hi m Q I i g pl k h;obtain⟨a,xs,rfl,e,q⟩:=h;cases i;obtain⟨f,r,d,j⟩:=I.list e;have c:=r.length;refine⟨"list",_,slot_list_getitem.lookup,d.isList.typeIs,?_⟩;refine wpAny_getItem_list_slice d.isList g pl k .none (by simp) ?_ (by rw[Yn] <;> omega);rw[ag,<- c];refine⟨.ref s.heap.objs.size,_,I.laid (t':=s.toks) (o:=.lst (Dy xs lo hi)) (λb l q=>Qm _ q) (Yr _) ?_,rfl,q _ (I.hok.fresh (Yr _))⟩;exact⟨Yt (Nz xs lo hi) j,_,0,(r.drop (HT.sIx xs.length 0 lo)).take (HT.sIx xs.length xs.length hi - HT.sIx xs.length 0 lo),Qo _ rfl⟩
def CP:V->Bool
 | .non=>true
 | .bl _=>true
 | .int _=>true
 | .str _=>true
 | _=>false
def eqV:V->V->Bool
 | .non,.non=>true
 | .bl a,.bl b=>a==b
 | .bl a,.int b=>(if a then 1 else 0)==b
 | .int a,.bl b=>a==(if b then 1 else 0)
 | .int a,.int b=>a==b
 | .str a,.str b=>a==b
 | _,_=>false
variable {y x:V}{u v:Value}
theorem Fq{A:Around}(e:RelV y u)(c:RelV x v)(f:CP y=true)(d:CP x=true):SeqAt.EqAt A s u v (eqV y x):=by
 cases y with
 | non =>
  cases e;cases x with
  | non=>cases c;exact SeqAt.EqAt.same _
  | bl b=>cases c;exact SeqAt.EqAt.none_bool b
  | int b=>obtain⟨t,rfl⟩:=c;exact SeqAt.EqAt.none_int b t
  | str b=>obtain⟨t,rfl⟩:=c;exact SeqAt.EqAt.none_str b t
  | _=>exact absurd (show false=true from d) YY
 | bl a =>
  cases e;cases x with
  | non=>cases c;exact SeqAt.EqAt.bool_none a
  | bl b=>cases c;exact SeqAt.EqAt.bool_bool a b
  | int b=>obtain⟨t,rfl⟩:=c;exact SeqAt.EqAt.bool_int a b t
  | str b=>obtain⟨t,rfl⟩:=c;exact SeqAt.EqAt.bool_str a b t
  | _=>exact absurd (show false=true from d) YY
 | int a =>
  obtain⟨t',rfl⟩:=e;cases x with
  | non=>cases c;exact SeqAt.EqAt.int_none a t'
  | bl b=>cases c;exact SeqAt.EqAt.int_bool a t' b
  | int b=>obtain⟨t,rfl⟩:=c;exact SeqAt.EqAt.int_int a t' b t
  | str b=>obtain⟨t,rfl⟩:=c;exact SeqAt.EqAt.int_str a t' b t
  | _=>exact absurd (show false=true from d) YY
 | str a =>
  obtain⟨t',rfl⟩:=e;cases x with
  | non=>cases c;exact SeqAt.EqAt.str_none a t'
  | bl b=>cases c;exact SeqAt.EqAt.str_bool a t' b
  | int b=>obtain⟨t,rfl⟩:=c;exact SeqAt.EqAt.str_int a t' b t
  | str b=>obtain⟨t,rfl⟩:=c;exact SeqAt.EqAt.str_str a t' b t
  | _=>exact absurd (show false=true from d) YY
 | _=>exact absurd (show false=true from f) YY
def eqU(x:V)(u:Value):Bool:=match u with
 | .none=>eqV .non x
 | .bool b=>eqV (.bl b) x
 | .int i _=>eqV (.int i) x
 | .str z _=>eqV (.str z) x
 | _=>false
theorem NE(r:RelV y u)(f:CP y=true):eqU x u=eqV y x:=by
 cases y with
 | non=>cases r;rfl
 | bl b=>cases r;rfl
 | int i=>obtain⟨t,rfl⟩:=r;rfl
 | str z=>obtain⟨t,rfl⟩:=r;rfl
 | _=>exact absurd (show false=true from f) YY
theorem JI{x:V}:∀{xs:List V}{us:List Value},Vals xs us->xs.all CP=true->us.any (eqU x)=xs.any λy=>eqV y x
 | _,_,.nil,_=>rfl
 | y::xs,u::us,.cons r t,f=>by
  rw[List.all_cons,YH]at f;rw[List.any_cons,List.any_cons,NE r f.1,JI t f.2]
theorem JJ{A:Around}{s:Shared}{x:V}{v:Value}(c:RelV x v)(b:CP x=true):∀{xs:List V}{us:List Value},Vals xs us->xs.all CP=true->∀ u∈us,SeqAt.EqAt A s u v (eqU x u)
 | _,_,.nil,_=>λu a=>by cases a
 | y::xs,u::us,.cons r t,f=>λd a=>by
  rw[List.all_cons,YH]at f;walk_at "pg"
  ·rw[NE r f.1];exact Fq r c f.1 b
  ·exact JJ c b t f.2 d a
def inV(x:V)(xs:List V):Bool:=xs.any λy=>eqV y x
def rIn(K:PySem.W.Frag)(neg:Bool):R2:=λx y H Q=>∃ p xs,y=.ref p/\(SqL K H p xs\/SqT K H p xs)/\CP x=true/\xs.all CP=true/\Q (.bl (if neg then !inV x xs else inV x xs)) H
theorem ai:OpR X (compareOp .In) (rIn X.K false):=by
 intro pins s σ H x y v u Q I d f h;obtain⟨p,xs,rfl,b,c,fs,q⟩:=h;cases f;rcases b with b | b
 ·obtain⟨a,r,pl,e⟩:=I.list b;refine SeqAt.in_listAt (eqU x) pl.isList (λw hw=>JJ d c r fs w (by simpa using hw)) ⟨.bl _,H,I,rfl,?_⟩;rw[show a.toArray.any (eqU x)=a.any (eqU x) by simp,JI r fs];exact q
 ·obtain⟨a,r,pl,e⟩:=I.tuple b;refine SeqAt.in_tupleAt (eqU x) pl (λw hw=>JJ d c r fs w (by simpa using hw)) ⟨.bl _,H,I,rfl,?_⟩;rw[show a.toArray.any (eqU x)=a.any (eqU x) by simp,JI r fs];exact q
theorem CallR.or{f:Value}{r r':List V->Hp->VK->Prop}(h:CallR X f r)(h':CallR X f r'):CallR X f (λxs H Q=>r xs H Q\/r' xs H Q):=by
 intro pins s σ H xs b Q I a q;rcases q with q | q
 ·exact h pins s σ H xs b Q I a q
 ·exact h' pins s σ H xs b Q I a q
theorem aj:CallR X (.type "list") (λxs H Q=>∃ p ys,xs=[.ref p]/\(SqL X.K H p ys\/SqT X.K H p ys)/\∀ l,H l=none->Q (.ref l) (upd H l (.lst ys))):=by
 intro pins s σ H xs m Q I r h;obtain⟨p,ys,rfl,d,q⟩:=h;obtain⟨u,rfl,k⟩:=CO r;cases k
 have g:∀(a:List Value),Vals ys a->ys.length<=sizeLine->∀(h':Heap)(c:Nat),(∀ b o',s.heap.get? b=some o'->h'.get? b=some o')->
   h'.get? s.heap.objs.size=some {cls:=.type "list",dict:=none,data:=.seq a.toArray c,slots:=#[]}->EP X pins σ Q (.ref s.heap.objs.size) {s with heap:=h'}:=λa r' i h' c kp e=>
  ⟨.ref s.heap.objs.size,_,I.laid (t':=s.toks) kp (Yr _) (show ObjOk X.prog X.w _ h' _ (.lst ys)from⟨i,a,c,r',e⟩),rfl,q _ (I.hok.fresh (Yr _))⟩
 rcases d with d | d
 ·obtain⟨a,r',pl,i⟩:=I.list d;have f:=r'.length;obtain⟨o,j,hc,n,hd⟩:=pl.isList;exact call_list_seq p (.inl rfl) j hc hd (λh' c kp e=>g a r' i h' c kp e) (by simp only[Yn] <;> omega)
 ·obtain⟨a,r',pl,i⟩:=I.tuple d;have f:=r'.length;obtain⟨o,j,hc,n,hd⟩:=pl;exact call_list_seq p (.inr rfl) j hc hd (λh' c kp e=>g a r' i h' c kp e) (by simp only[Yn] <;> omega)
theorem ak:CallR X (.type "tuple") (λxs H Q=>∃ p ys,xs=[.ref p]/\((SqL X.K H p ys/\∀ l,H l=none->Q (.ref l) (upd H l (.tup ys)))\/(SqT X.K H p ys/\Q (.ref p) H))):=by
 intro pins s σ H xs k Q I r h;obtain⟨p,ys,rfl,h⟩:=h;obtain⟨u,rfl,j⟩:=CO r;cases j;rcases h with⟨c,q⟩|⟨c,q⟩
 ·obtain⟨a,r',pl,f⟩:=I.list c;have d:=r'.length;refine call_tuple_list pl.isList (λh' kp=>?_) (by simp only[Yn] <;> omega);have g:Inv X pins σ H {s with heap:=h'}:=I.kept (t':=s.toks) kp
  have i:Inv X pins σ (upd H h'.objs.size (.tup ys)) {s with heap:=h'.push {cls:=.type "tuple",data:=.seq a.toArray}}:=
   g.laid (t':=s.toks) (λb o e=>Qm _ e) (Yr _) (show ObjOk X.prog X.w _ _ _ (.tup ys)from⟨f,a,r',TupP.new _ _⟩)
  exact⟨.ref h'.objs.size,_,i,rfl,q _ (g.hok.fresh (Yr _))⟩
 ·obtain⟨a,r',pl,f⟩:=I.tuple c;exact call_tuple_same pl ⟨.ref p,H,I,rfl,q⟩
def tyV(K:PySem.W.Frag)(T:String)(x:V)(H:Hp):Prop:=match x with
 | .str _=>T="str"
 | .int _=>T="int"
 | .ref p=>(T="list"/\∃ xs,SqL K H p xs)\/(T="tuple"/\∃ o,K.lookup p=some o/\o.cls=.type "tuple"/\o.dict=none)\/
   (T="dict"/\((∃ kvs,H p=some (.dK kvs))\/∃ kvs,H p=some (.dT kvs)))\/(T="set"/\∃ S n,H p=some (.set S n))
 | _=>False
theorem al{T:String}(I:Inv X pins σ H s)(r:RelV x v)(ty:tyV X.K T x H):
  s.TypeIs v T/\∀ a,v=.ref a->∃ g,s.heap.get? a=some g/\g.dict=none:=by
 cases x with
 | str z =>
  obtain⟨t,rfl⟩:=r;cases(show T="str" from ty);exact⟨typeIs_str s z t,λ_ e=>nomatch e⟩
 | int i =>
  obtain⟨t,rfl⟩:=r;cases(show T="int" from ty);exact⟨typeIs_int s i t,λ_ e=>nomatch e⟩
 | ref p =>
  cases r;rcases ty with⟨rfl,xs,h⟩|⟨rfl,o,b,hc,hd⟩|⟨rfl,b⟩|⟨rfl,S,n,b⟩
  ·obtain⟨j,_,pl,_⟩:=I.list h;refine⟨pl.isList.typeIs,λa e=>?_⟩;cases e;obtain⟨o,n,e,c,hd,_⟩:=pl;exact⟨o,e,hd⟩
  ·refine⟨⟨o,I.kIn p o b,hc⟩,λa e=>?_⟩;cases e;exact⟨o,I.kIn _ o b,hd⟩
  ·have z:∃ o,s.heap.get? p=some o/\o.ExactDict:=by
    rcases b with⟨d,b⟩|⟨d,b⟩
    ·obtain⟨_,_,_,_,o,_,_,e,ex,_⟩:=I.hok p _ b;exact⟨o,e,ex⟩
    ·obtain⟨_,_,_,_,o,_,_,e,ex,_⟩:=I.hok p _ b;exact⟨o,e,ex⟩
   obtain⟨o,e,ex⟩:=z;refine⟨⟨o,e,ex.1⟩,λa f=>?_⟩;cases f;exact⟨o,e,ex.2.1⟩
  ·obtain⟨o,_,_,_,e,ex,_⟩:=I.hok p _ b;refine⟨⟨o,e,ex.1⟩,λa f=>?_⟩;cases f;exact⟨o,e,ex.2.1⟩
 | _=>exact Ql ty
def tBM(K:PySem.W.Frag)(T:String)(r:V->List V->Hp->VK->Prop)(to:TE)(t:TA):TE:=λσ H Q=>to σ H λx H1=>tyV K T x H1/\t σ H1 λxs H2=>r x xs H2 Q
variable {o e:Expr} {es:List Expr} {to:TE} {t:TA} {name:Str} {apos cpos:Pos} {T id:String} {r:V->List V->Hp->VK->Prop}
theorem am(pa:PlainAttrs T)(slot:Slot T name id)(f:typeOf (.builtin id)=pure (.type "method_descriptor"))(l:MtR X id r)(w:PE X o to)(m:PA X (e::es) t)
  (a:attributeBase o name X.env (eval o X.env)=eval o X.env:=by rfl)
  (c:((backTo cpos (starEach (e::es) X.env)).all (λx=>!x.1)&&(backToKw cpos (keywordEach [] X.env)).all (λx=>x.1.isSome)
   && decide ((e::es).length+([]:List Keyword).length+(if([]:List Keyword).isEmpty then 0 else 1) < 30))=true:=by rfl)
  (b:(apos.endLine==cpos.line)=true:=by rfl) (p:starEach (e::es) X.env=(false,eval e X.env)::starEach es X.env:=by rfl) (hplain:(backTo cpos (starEach es X.env)).any (·.1)=false:=by rfl):
  PE X (.Call (.Attribute o name apos) (e::es) [] cpos) (tBM X.K T r to t):=by
 intro pins s σ H Q I h;refine wpAny_Call_method_late a c b rfl (thn (w pins s σ H _ I h) λv q d=>?_);obtain⟨x,H1,g,r1,ty,q1⟩:=d;obtain⟨h1,h2⟩:=al g r1 ty;refine⟨T,id,pa,slot,f,h1,h2,?_⟩;have i:=m cpos pins q σ H1 _ g q1;rw[p]at i ⊢;refine Calls.callWith_builtin (by show(false||(backTo cpos (starEach es X.env)).any (·.1))=false;rw[hplain] <;> rfl) (Calls.evalArgs_plain ?_);exact thn i (by rintro y u ⟨n,H2,k,j,q2⟩;exact l pins u σ H2 x n v y Q k r1 j q2)
end
def MtM(X:Cx)(id:String)(r:V->List V->Hp->VK->Prop):Prop :=
 ∀(pins:List (Addr×Obj))(s:Shared)(σ:St)(H:Hp)(x:V)(xs:List V)(v:Value)(us:List Value)(Q:VK),Inv X pins σ H s->RelV x v->Vals xs us->r x xs H Q->
  wpAny (model X.prog X.w) X.A (call (.builtin id) (v::us)) (EP X pins σ Q) X.xe s
theorem Vals.one:∀{x:V}{us:List Value},Vals [x] us->∃ u,us=[u]/\RelV x u
 | _,_,.cons r .nil=>⟨_,rfl,r⟩
theorem Vals.two:∀{x y:V}{us:List Value},Vals [x,y] us->∃ u v,us=[u,v]/\RelV x u/\RelV y v
 | _,_,_,.cons r (.cons q .nil)=>⟨_,_,rfl,r,q⟩
theorem Vals.zero:∀{us:List Value},Vals [] us->us=[]
 | _,.nil=>rfl
theorem Vals.dropLast{xs:List V}{us:List Value}(h:Vals xs us):Vals xs.dropLast us.dropLast:=by
 induction h with
 | nil=>exact .nil
 | cons r t a =>
  cases t with
  | nil=>exact .nil
  | cons q t'=>exact .cons r a
theorem Vals.eraseIdx:∀{xs:List V}{us:List Value}(i:Nat),Vals xs us->Vals (xs.eraseIdx i) (us.eraseIdx i)
 | _,_,_,.nil=>.nil
 | _,_,0,.cons _ t=>t
 | _,_,i+1,.cons r t=>.cons r (Vals.eraseIdx i t)
theorem Vals.rep{xs:List V}{us:List Value}(h:Vals xs us):∀ k:Nat,Vals (List.replicate k xs).flatten (List.replicate k us).flatten
 | 0=>.nil
 | k+1=>by
  rw[List.replicate_succ,List.replicate_succ,List.flatten_cons,List.flatten_cons];exact Vals.append h (Vals.rep h k)
theorem NF(b:List Value):∀(k:Nat)(a:List Value),
  List.foldl (λf c=>f++c) a.toArray (List.replicate k b.toArray)=(a++(List.replicate k b).flatten).toArray
 | 0,a=>by simp
 | k+1,a=>by
  have e:a.toArray++b.toArray=(a++b).toArray:=by simp
  have d:(a++b)++(List.replicate k b).flatten=a++(List.replicate (k+1) b).flatten:=by
   rw[List.replicate_succ,List.flatten_cons,Yv]
  rw[<- d,<- NF b k (a++b),<- e,List.replicate_succ,List.foldl_cons]
section
variable {X:Cx} {pins:List (Addr×Obj)} {σ:St} {H:Hp} {s:Shared} {l b:Addr} {xs ys zs:List V}
variable {a:List Value}{n t':Nat}
theorem Inv.lset{its':List Value}{f:Array Value->Array Value}(I:Inv X pins σ H s)(h:H l=some (.lst xs))
  (e:s.heap.get? l=some {cls:=.type "list",data:=.seq a.toArray n}) (d:f a.toArray=its'.toArray) (i:Vals ys its') (g:ys.length<=sizeLine):
  Inv X pins σ (upd H l (.lst ys)) {s with heap:=s.heap.update l (Obj.mapSeq f),toks:=t'}:=by
 have q:=PySem.IsL.update e f;rw[d]at q;refine I.write (x:=l) (e:=l) (by rw[h];exact trivial) (.inl rfl) (λj u b c=>(Heap.get?_update_other s.heap (Obj.mapSeq f) (Qa b)).trans c) ⟨_,q⟩ ?_;exact⟨g,its',_,i,q⟩
theorem Inv.lnew(I:Inv X pins σ H s)(c:Vals ys a)(b:ys.length<=sizeLine):
  Inv X pins σ (upd H s.heap.objs.size (.lst ys)) {s with heap:=s.heap.push {cls:=.type "list",data:=.seq a.toArray},toks:=t'}:=
 I.laid (λ_ _ q=>Qm _ q) (Yr _) ⟨b,a,0,c,Qo _ rfl⟩
theorem Inv.fresh(I:Inv X pins σ H s):H s.heap.objs.size=none:=I.hok.fresh (Yr _)
theorem Inv.lstM(I:Inv X pins σ H s)(b:H l=some (.lst xs)):xs.length<=sizeLine/\∃(a:List Value)(n:Nat),Vals xs a/\xs.length=a.length/\s.heap.get? l=some {cls:=.type "list",data:=.seq a.toArray n}:=by
 obtain⟨z,a,n,r,e⟩:=I.hok l _ b;exact⟨z,a,n,r,r.length,e⟩
theorem NG(h:n<=sizeLine):Builtin.List.listTooLong n=false:=by
 unfold Builtin.List.listTooLong;exact decide_eq_false (by omega)
end
section
variable {X:Cx}
def ao:V->List V->Hp->VK->Prop:=λx vs H Q=>∃ l xs y,x=.ref l/\vs=[y]/\H l=some (.lst xs)/\xs.length < sizeLine/\Q .non (upd H l (.lst (xs++[y])))
theorem ap:MtM X "list.append" ao:=by
 intro pins s σ H x g v j Q I f d h;obtain⟨l,xs,y,rfl,rfl,b,i,q⟩:=h;cases f;obtain⟨u,rfl,c⟩:=d.one;obtain⟨z,a,n,r,hl,e⟩:=I.lstM b;refine call_meets F.slot_list_append ⟨_,e,rfl⟩ F.entry_list_append (F.args_list_append_2 _ _) (PySem.list_append l a.toArray n u (by rw[Yn];omega)) ⟨e,?_⟩;refine⟨.non,_,I.lset (its':=a++[u]) b e (by simp) (r.append (.cons c .nil)) ?_,rfl,q⟩;rw[Yj,List.length_singleton];omega
def aq:V->List V->Hp->VK->Prop:=λx vs H Q=>∃ l b xs zs,x=.ref l/\vs=[.ref b]/\H l=some (.lst xs)/\H b=some (.lst zs)/\xs.length+zs.length<=sizeLine/\Q .non (upd H l (.lst (xs++zs)))
theorem ar:MtM X "list.extend" aq:=by
 intro pins s σ H x A v D Q I i t h;obtain⟨l,b,xs,zs,rfl,rfl,g,p,B,q⟩:=h;cases i;obtain⟨u,rfl,k⟩:=t.one;cases k;obtain⟨z,c,n,r,hl,e⟩:=I.lstM g;obtain⟨y,a,w,j,m,o⟩:=I.lstM p;have f:c.toArray.size+a.toArray.size<=sizeLine:=by rw[Yn,Yn];omega
 have d:¬ (!c.toArray.isEmpty&&Builtin.List.listTooLong (c.toArray.size+a.toArray.size))=true:=by
  rw[NG f,Bool.and_false];exact YY
 refine call_meets F.slot_list_extend ⟨_,e,rfl⟩ F.entry_list_extend (F.args_list_extend_2 _ _)
  (AutoSeq1.list_extend_list_list_0 l c.toArray n b a.toArray w d (by rw[Yn];omega) (by omega)) ⟨e,o,?_⟩
 refine⟨.non,_,I.lset (its':=c++a) g e (by simp) (r.append j) ?_,rfl,q⟩;rw[Yj];omega
def Ft:R2:=λx y H Q=>∃ l b xs zs,x=.ref l/\y=.ref b/\H l=some (.lst xs)/\H b=some (.lst zs)/\xs.length+zs.length<=sizeLine/\∀ p,H p=none->Q (.ref p) (upd H p (.lst (xs++zs)))
theorem au:OpR X (binaryOp .Add) Ft:=by
 intro pins s σ H x y v u Q I f o h;obtain⟨l,b,xs,zs,rfl,rfl,m,k,t,q⟩:=h;cases f;cases o;obtain⟨z,c,n,r,hl,e⟩:=I.lstM m;obtain⟨p,a,w,g,i,j⟩:=I.lstM k;refine PySem.P.add_list e j ?_ (by rw[Yn,Yn];omega);have d:c.toArray++a.toArray=(c++a).toArray:=by simp
 rw[d];exact⟨.ref _,_,I.lnew (t':=s.toks) (r.append g) (by rw[Yj];omega),rfl,q _ I.fresh⟩
def NH:R2:=λx y H Q=>∃ l k xs,x=.ref l/\y=.int k/\H l=some (.lst xs)/\-(2 ^ 63)<=k/\k < 2 ^ 63/\xs.length*k.toNat<=sizeLine/\
 ∀ p,H p=none->Q (.ref p) (upd H p (.lst (List.replicate k.toNat xs).flatten))
theorem av{α:Type}(xs:List α)(k:Nat):(List.replicate k xs).flatten.length=k*xs.length:=by
 induction k with
 | zero=>simp
 | succ k a=>rw[List.replicate_succ,List.flatten_cons,Yj,a,Nat.succ_mul,Nat.add_comm]
theorem aw:OpR X (binaryOp .Mult) NH:=by
 intro pins s σ H x y v u Q I w D h;obtain⟨l,k,xs,rfl,rfl,A,h1,h2,p,q⟩:=h;cases w;obtain⟨t,rfl⟩:=D;obtain⟨z,b,n,r,hl,e⟩:=I.lstM A;have d:b.toArray.size*k.toNat<=sizeLine:=by rw[Yn,<- hl];exact p
 have f:¬ b.toArray.size*k.toNat >(2 ^ 63 - 1) / 8:=by
  have:(sizeLine:Nat)<=(2 ^ 63 - 1) / 8:=by decide
  omega
 have i:¬ (!Builtin.List.listFitsIndex k)=true:=by
  rw[fitsIndex_both h1 h2];exact YY
 have c:¬ Builtin.List.listTooLong (b.toArray.size*k.toNat)=true:=by
  rw[NG d];exact YY
 have g:List.foldl (λo j=>o++j) #[] (List.replicate (if b.toArray.isEmpty=true then 0 else k.toNat) b.toArray)=(List.replicate k.toNat b).flatten.toArray:=by
  have B:∀ m:Nat,List.foldl (λo j=>o++j) #[] (List.replicate m b.toArray)=(List.replicate m b).flatten.toArray:=λm=>by
   have:=NF b m [];rw[Yw]at this;exact this
  rw[B];cases b with
  | nil=>simp
  | cons a r'=>rw[if_neg (by simp)]
 refine wpAny_binaryOp_repeat_ref (T:="list") (U:="int") (by decide) ⟨_,e,rfl⟩ (λs'=>typeIs_int s' k t) noFill_list_mul F.fills_int_mul F.slot_int_rmul repeat_list F.slot_int_index.lookup
  (call_meets F.slot_int_rmul (typeIs_int s k t) F.entry_int_rmul (F.args_int_rmul_2 _ _) (int___rmul___int_list k t l b.toArray n)
   ⟨e,rfl,⟨_,e,rfl⟩,call_meets F.slot_list_mul ⟨_,e,rfl⟩ F.entry_list_mul (F.args_list_mul_2 _ _) (AutoListH.list___mul___list_int_3 l b.toArray n k t i f c) ⟨e,?_⟩⟩)
 rw[g];exact⟨.ref _,_,I.lnew (t':=s.toks) (r.rep k.toNat) (by rw[av,Nat.mul_comm];exact p),rfl,q _ I.fresh⟩
end
section
variable {prog:Program} {w:World} {A:Around} {E:Value->Shared->Prop} {s:Shared}
end
section
variable {X:Cx}
end
end L2
namespace Att
open PySem PySem.W PySem.Calls PyProof.Rows
variable {P:Params}{h:Heap}
theorem ax:∀(ns:List Int)(vs:List Value),WellAll P h vs (ns.map WData.int)->IntsAre vs ns:=by
 intro ns;induction ns with
 | nil =>
  intro vs w;rw[YJ]at w;cases w;exact .nil
 | cons n ns c =>
  intro vs w;rw[Ym]at w;cases w with
  | cons a b =>
   cases a;exact .cons _ _ (c _ b)
variable {l:OpenLaw}{n:Nat}
theorem ay(p:l.most=some n){args:List WData}
  (b:l.row.toRowW.claim.pre args=true) (i:WellAll P h vals args):
  ∃ a vs ns,vals=[Value.ref a]/\args=[WData.list (ns.map WData.int)]/\h.get? a=some {cls:=.type "list",data:=.seq vs.toArray}/\IntsAre vs ns/\ns.length<=n:=by
 have j:WShape.hasAll [] args [.list .int]=true:=(pre_splitW b).1;have hc:l.pre.holds [] {args:=args}=true:=(pre_splitW b).2;obtain⟨d,r,rfl,h1,h2⟩:=hasAllW_cons j;obtain rfl:=hasAllW_nil h2;obtain⟨xs,rfl,k⟩:=hasW_list h1;obtain⟨ns,rfl⟩:=items_int k
 have e:ns.length<=n:=by
  unfold OpenLaw.pre at hc
  have f:(WTm.not (.lt (.lit (.int (n:Int))) (.len (.arg 0)))).holds [] {args:=[.list (ns.map .int)]}=true:=by
   have f:=(holds_andW hc).1;rw[p]at f;exact f
  have g:=condW_of f (w_not (w_lt w_lit (w_len_list (w_arg rfl))));rw[Yh]at g;refine Nat.le_of_not_lt λq=>?_;have o:(n:Int) <((ns.length:Nat):Int):=by omega
  first
   |(rw[YI o]at g;exact absurd g (by decide))
   |(simp at g;omega)
 cases i with
 | cons m s =>
  cases s;cases m with
  | list t c=>exact⟨_,_,ns,rfl,rfl,t,ax ns _ c,e⟩
theorem az(l:OpenLaw)(args:List WData):l.row.toRowW.claim.post args (.bool true) args=true :=
 postW_of (r:=l.row.toRowW) (X:=(true==true))
  (show WShape.has [] (.bool true) .bool=true by first | rfl | decide | simp[WShape.has,WShape.arms,WShape.armsAll])
  (show(WTm.eq .res (.lit (.bool true))).value [] {args:=args,res:=some (.bool true),after:=args}=some (.bool (true==true))from w_eq_bool (w_res rfl) w_lit) rfl
theorem attach_call{q:Program}{loose:List Str}{XP:(Str->Option Value)->Heap->Prop}{YP:World->Heap->Prop}{d:DefRec}
  (y:l.most=some n) (m:d.params.defaults=[])
  (call:∀(w:World)(s₀ b:Shared)(mg mb:Str->Option Value)(g:Addr)(o:Obj)(pm cd e:Value)(a:Addr)(vs:List Value)(ns:List Int),
   Ground q loose [] XP w s₀ mg mb b.heap->YP w b.heap->
   b.heap.get? g=some o->o.data=.func (docDef d.name d.params d.body d.scope pm cd e)->b.heap.CodeRec cd d.name->mg d.name=some (.ref g)->
   b.heap.get? a=some {cls:=.type "list",data:=.seq vs.toArray}->IntsAre vs ns->ns.length<=n->b.gens=#[]->
   codeAny (model l.prog w) callerA (.call (.ref g) ⟨[.ref a],[]⟩) (λr s'=>r=.ok (.ret (.bool true))/\OldK b.heap s'.heap/\s'.os=b.os/\AllBare s'.gens) b):
  WalkO q loose XP YP l.row.toRowW d [] (λf vs=>PySem.call f vs):=by
 intro w s₀ b mg mb G Y g o pm cd e H kV x hd k u s I v vals J h t D p B;obtain rfl:H=.none:=Dflts.none u m;obtain rfl:kV=.none:=Dflts.noKw u;obtain⟨a,vs,ns,rfl,rfl,i,c,j⟩:=ay y h p;refine enter_call (codeAny_mono (call w s₀ b mg mb g o pm cd e a vs ns G Y x (fd_plain hd) k s i c j I) λr s' E=>?_);obtain⟨rfl,h2,F,z⟩:=E;exact⟨.inl ⟨.bool true,.bool true,[],rfl,λ_=>rfl,.bool true,az l _,λ_=>⟨List.Pairwise.nil,λ_ A=>(nomatch A)⟩⟩,h2,F,z⟩
section
variable {prog:Program} {w:World} {A:Around} {E:Value->Shared->Prop} {s:Shared} {K:Frag}
end
end Att
namespace L2
open PySem PySem.Spec PyProof.Rows
theorem NI:∀{vs:List Value}{ns:List Int},IntsAre vs ns->Vals (ns.map V.int) vs
 | _,_,.nil=>.nil
 | _,_,.cons n t h=>.cons ⟨t,rfl⟩ (NI h)
def Gz(H:Hp):Prop:=∀ b,H b=none\/∃ o xs,H b=some (.frz o (.lst xs))
variable {K:PySem.W.Frag}{k:Nat}{a:Addr}{x:Str}
theorem aA{P:Program}{w:World}{mg mb:Str->Option Value}{CX:CXT}{G:Addr}{sp:Sp}{c:Shared}{vs:List Value}{ns:List Int}
  (KX:K.In c.heap) (y:c.heap.Ns mainGlobals mg) (f:c.heap.Ns builtinsNs mb) (L:∀ x:Str,x≠"__name__"->mb x=bootBuiltins x) (B:c.heap.NoLimit) (hg:c.gens=#[])
  (D:c.heap.get? a=some {cls:=.type "list",data:=.seq vs.toArray}) (hi:IntsAre vs ns) (hl:ns.length<=sizeLine) (hr:Room k callerA)
  (F:∀ base:Heap,K.In base->base.Ns mainGlobals mg->FnOk P w K mg base CX k G fd [x] sp) (i:∀(s:Shared)(u:Value),BindsTo s fd ⟨[u],[]⟩ [(x,u)])
  (J:∀ H:Hp,Gz H->SqL K H a (ns.map V.int)->sp [.ref a] H (λv _=>v=.bl true) λ_ _ _=>False)
  (O:∀ H e s',CX [] H c (λ_ _ _=>False) e s'->False):
  codeAny (model P w) callerA (.call (.ref G) ⟨[.ref a],[]⟩) (λr s'=>r=.ok (.ret (.bool true))/\OldK c.heap s'.heap/\s'.os=c.os/\AllBare s'.gens) c:=by
 have S:=NI hi;have t:=hi.length
 have g:∀ H:Hp,Gz H->SqL K H a (ns.map V.int)->HOk P w H c.heap->(∀ b,H b≠none->b=a)->(H a≠none->K.lookup a=none)->
   codeAny (model P w) callerA (.call (.ref G) ⟨[.ref a],[]⟩) (λr s'=>r=.ok (.ret (.bool true))/\OldK c.heap s'.heap/\s'.os=c.os/\AllBare s'.gens) c:=by
  intro H R Y hok Q hK;have base_of:∀{b:Addr}{o:Obj},c.heap.get? b=some o->H b=none->(C2 c.heap H).get? b=some o:=λe n=>Xy e n
  have I:∀{b:Addr}{o:Obj}{es:Array DictEntry}{p:Nat},c.heap.get? b=some o->o.data=.dict es p->H b=none:=λ{b o es p}e d=>by
   cases q:H b with
   | none=>rfl
   | some u =>
    have N:b=a:=Q b (by rw[q];simp);subst N;rw[D]at e;cases e;have d':Data.seq vs.toArray _=Data.dict es p:=d;cases d'
  have nsK:∀{b:Addr}{m:Str->Option Value},c.heap.Ns b m->(C2 c.heap H).Ns b m:=λ{b m}⟨o,es,p,e,d,r⟩=>⟨o,es,p,base_of e (I e d),d,r⟩
  have j:K.In (C2 c.heap H):=λb o e=>base_of (KX b o e) (by
   cases q:H b with
   | none=>rfl
   | some u =>
    have N:b=a:=Q b (by rw[q];simp);subst N;rw[hK (by rw[q];simp)]at e;cases e)
  have hM:Mod K mg (C2 c.heap H):=⟨j,nsK y,⟨mb,nsK f,L⟩,let⟨mc,h1,h2⟩:=B;⟨mc,nsK h1,h2⟩⟩;have e0:Env0 P w K mg (C2 c.heap H) callerA [] c H:=⟨rfl,hM,λb o e=>Xz e,Nat.le_of_eq (Xx _ _),trivial,λb f=>absurd (show b∈([]:List Addr)from f) (by simp),hok,.of_eq hg⟩;refine codeAny_mono ((F _ j (nsK y)).run callerA [] c H ⟨[.ref a],[]⟩ [.ref a] [.ref a] _ _ hr e0 (i c (.ref a)) (.cons rfl .nil) (J H R Y)) λr s' h=>?_;cases r with
  | error e=>exact(O H e s' h).elim
  | ok U =>
   cases U with
   | next=>exact Ql h
   | brk=>exact Ql h
   | cont=>exact Ql h
   | ret u =>
    obtain⟨v,H',os,bare,un,A,r',q⟩:=h;have q':v=.bl true:=q;subst q';obtain rfl:u=Value.bool true:=r';refine⟨rfl,OldK.of_keep λb o e=>?_,os,bare⟩;cases q:H b with
    | none=>exact un.keep b o e q (by intro z;exact absurd (show b∈([]:List Addr)from z) (by simp)) (by simp)
    | some u =>
     rcases R b with z |⟨Z,xs,z⟩
     ·rw[q]at z;cases z
     ·have z2:=un.frzs b Z _ z;obtain⟨T,_⟩:=hok b _ z;obtain⟨X,_⟩:=A b _ z2;rw[e]at T;cases T;exact X
 cases E:K.lookup a with
 | some o =>
  have e:=KX a o E;rw[D]at e;cases e;refine g (λ_=>none) (λ_=>.inl rfl) (.inr ⟨_,vs.toArray,_,E,rfl,rfl,rfl,by rw[Yn,t];exact hl,by simpa using S⟩) (λb u z=>by have l:(none:Option HO)=some u:=z;cases l) (λb z=>absurd rfl z) λz=>absurd rfl z
 | none =>
  refine g (λb=>if b=a then some (.frz {cls:=.type "list",data:=.seq vs.toArray} (.lst (ns.map V.int)))else none) (λb=>?_) (.inl (.inr ⟨{cls:=.type "list",data:=.seq vs.toArray},if_pos rfl⟩)) (λb u z=>?_) (λb z=>?_) λ_=>E
  ·by_cases f:b=a
   ·exact .inr ⟨_,_,if_pos f⟩
   ·exact .inl (if_neg f)
  ·by_cases f:b=a
   ·have l:=(if_pos f).symm.trans z;cases l;subst f;exact⟨D,by rw[Yh];exact hl,vs,_,S,D⟩
   ·have l:=(if_neg f).symm.trans z;cases l
  ·by_cases f:b=a
   ·exact f
   ·exact absurd (if_neg f) z
abbrev KOf{K:PySem.W.Frag}{h:Heap}(_:K.In h):PySem.W.Frag:=K
theorem aB{l:PySem.W.OpenLaw}{n:Nat}{q:Program}{loose:List Str}{XP:(Str->Option Value)->Heap->Prop}{YP:World->Heap->Prop}{d:DefRec}{K:Params->PySem.W.Frag}{CX:World->CXT}{sp:World->Sp}
  (E:l.most=some n) (r:n<=sizeLine) (t:d.params.defaults=[]) (I:Room k callerA)
  (O:∀(w:World)(h:Heap),YP w h->(K w.params).In h)
  (F:∀(w:World)(mg:Str->Option Value)(p:Addr)(h:Heap),(K w.params).In h->h.Ns mainGlobals mg->mg d.name=some (.ref p)->
   ∃ fd:FuncData,(∀(s:Shared)(u:Value),BindsTo s fd ⟨[u],[]⟩ [(x,u)])/\
    ∀ base:Heap,(K w.params).In base->base.Ns mainGlobals mg->FnOk l.prog w (K w.params) mg base (CX w) k p fd [x] (sp w))
  (y:∀(w:World)(H:Hp)(a:Addr)(ns:List Int),ns.length<=n->Gz H->SqL (K w.params) H a (ns.map V.int)->sp w [.ref a] H (λv _=>v=.bl true) λ_ _ _=>False)
  (A:∀(w:World)(H:Hp)(s:Shared)(e:Value)(s':Shared),CX w [] H s (λ_ _ _=>False) e s'->False):
  PySem.W.WalkO q loose XP YP l.row.toRowW d [] (λf vs=>PySem.call f vs):=by
 refine Att.attach_call E t λw s₀ j mg mb p o pm cd N a vs ns G Y Q hd B z m i c P=>?_;have KX:=O w _ Y;obtain⟨fd,L,hF⟩:=F w mg p _ KX G.T.g z;exact aA KX G.T.g G.T.b G.T.builtins G.T.nolimit P m i (Yt c r) I hF L (λH J D=>y w H a ns c J D) λH e s'=>A w H j e s'
abbrev CX0:CXT:=λ_ _ _ _ _ _=>False
abbrev E0:XK:=λ_ _ _=>False
structure Fun(K:PySem.W.Frag)(x qual:Str)(st:Stmt)(f:Addr)(fd:FuncData):Prop where
 ex:∃(oc:Value)(od:Option Addr)(kV doc pm:Value)(an:Option Addr)(cdv ct:Value)(osl:Array (Option Value)),
  fd=PySem.W.fnOf x qual (Dv st) (Bn st) (Aq st) .none kV doc pm an cdv ct/\K.lookup f=some ⟨oc,od,.func fd,osl⟩/\PySem.W.codeIn K cdv qual=true
 kp:PySem.W.keepIn K (.ref f)=true
section
variable {P:Program} {w:World} {K:PySem.W.Frag} {mg:Str->Option Value} {base:Heap}
variable {qual:Str}{st:Stmt}{f:Addr}{fd:FuncData}{ps:List Str}
theorem Fun.ok{N:List Str}{sp:Sp}(F:Fun K x qual st f fd)(S:Az N ps (Aq st))(len:∀ vs H Q E,sp vs H Q E->vs.length=ps.length)
  (a:∀(cdv:Value)(A:Around)(outer:List Env)(s:Shared)(H:Hp)(vs:List V)(Q:VK)(E:XK),Room k (A.deeper (envOfC qual (Aq st) s.heap.objs.size f cdv))->sp vs H Q E->
   ∃ t,PSs (Bj CX0 P w K mg base N qual (Aq st) f cdv A outer s H E).nox (Bn st) t/\t {nx:=λ_ H'=>Q .non H',rt:=Q} (BU N vs) H):FnOk P w K mg base CX0 (k+1) f fd ps sp:=by
 obtain⟨m,j,kV,i,pm,l,cdv,ct,e,rfl,g,b⟩:=F.ex;refine Gx g b S len λA outer s H vs Q E d c=>?_;obtain⟨t,h,q⟩:=a cdv A outer s H vs Q E d c;exact⟨t,h.nox,q⟩
theorem Fun.binds(F:Fun K x qual st f fd)
  (h:∀(kV a pm:Value)(b:Option Addr)(cdv ct:Value)(us:List Value),us.length=ps.length->bindArgs (PySem.W.fnOf x qual (Dv st) (Bn st) (Aq st) .none kV a pm b cdv ct) ⟨us,[]⟩=pure (ps.zip us)):Binds K fd ps []:=by
 obtain⟨i,e,kV,a,pm,b,cdv,ct,c,rfl,g,d⟩:=F.ex;exact .all (h kV a pm b cdv ct)
theorem NJ{g:Value}{e d:Option Addr}{b:Array (Option Value)}{kV a cdv ct:Value}(l:K.lookup f=some ⟨g,e,.func (PySem.W.fnOf x qual (Dv st) (Bn st) (Aq st) .none kV a pm d cdv ct),b⟩)
  (c:PySem.W.codeIn K cdv qual=true) (k:PySem.W.keepIn K (.ref f)=true):Fun K x qual st f (PySem.W.fnOf x qual (Dv st) (Bn st) (Aq st) .none kV a pm d cdv ct):=⟨⟨g,e,kV,a,pm,d,cdv,ct,b,rfl,l,c⟩,k⟩
end
section
variable {X:Cx}
theorem pv(i:Nat)(b:X.N[i]?=some x:=by rfl)(c:Vis X.env.scope x:=by first | exact Or.inl rfl | exact Or.inr (Or.inl rfl)| exact Or.inr (Or.inr rfl))(hd:(x==("__debug__":Str))=false:=by decide)
  (a:(x==("__classdict__":Str))=false:=by decide):PE X (.Name x pos) (M9 i):=Na b c hd a
end
theorem BF{c A B:Prop}[Decidable c](h1:c->A)(h2:¬ c->B):if c then A else B:=by
 by_cases h:c
 ·rw[if_pos h];exact h1 h
 ·rw[if_neg h];exact h2 h
def Same(H H':Hp):Prop:=∀ b o,H b=some o->H' b=some o
theorem Same.refl(H:Hp):Same H H:=λ_ _ h=>h
variable {H:Hp}
theorem Same.trans{H1:Hp}(a:Same H H1)(b:Same H1 H2):Same H H2:=λc o h=>b c o (a c o h)
variable {H':Hp}
theorem Same.free(e:Same H H'){l:Addr}(h:H' l=Option.none):H l=Option.none:=by
 cases q:H l with
 | none=>rfl
 | some o =>
  rw[e l o q]at h;cases h
theorem Same.seq{xs:List V}(e:Same H H')(h:SqL K H a xs):SqL K H' a xs:=by
 rcases h with(h |⟨o,h⟩)| h
 ·exact .inl (.inl (e _ _ h))
 ·exact .inl (.inr ⟨o,e _ _ h⟩)
 ·exact .inr h
end L2
namespace L3
open PySem PySem.Spec PyProof.Rows L2
namespace Tb
def hop(M:Nat):Nat->Nat->Nat
 | 0,i=>i
 | n+1,i=>hop M n ((i*5+1) % M)
def cover(M:Nat):Bool:=(List.range M).all λi=>(List.range M).all λj=>(List.range M).any λn=>hop M n i==j
theorem cover8:cover 8=true:=by decide +kernel
theorem cover16:cover 16=true:=by decide +kernel
theorem cover32:cover 32=true:=by decide +kernel
theorem cover64:cover 64=true:=by decide +kernel
theorem GB(M:Nat):∀ m n i,hop M (m+n) i=hop M n (hop M m i)
 | 0,n,i=>by rw[Nat.zero_add];rfl
 | m+1,n,i=>by
  rw[Nat.add_right_comm];show hop M (m+n) ((i*5+1) % M)=_;rw[GB M m n];rfl
theorem aC{M:Nat}(d:((List.range M).all λj=>(List.range M).any λn=>hop M n 0==j)=true)(f:hop M M 0=0):cover M=true:=by
 have key:∀ j,j < M->∃ n,n < M/\hop M n 0=j:=λj a=>by
  obtain⟨n,c,e⟩:=List.any_eq_true.mp (List.all_eq_true.mp d j (List.mem_range.mpr a));exact⟨n,List.mem_range.mp c,by simpa using e⟩
 refine List.all_eq_true.mpr λi hi=>List.all_eq_true.mpr λj a=>List.any_eq_true.mpr ?_;obtain⟨m,g,b⟩:=key i (List.mem_range.mp hi);obtain⟨n,c,en⟩:=key j (List.mem_range.mp a);by_cases h:m<=n
 ·refine⟨n - m,List.mem_range.mpr (by omega),?_⟩;have z:=GB M m (n - m) 0;rw[b,show m+(n - m)=n by omega,en]at z;rw[<- z];simp
 ·refine⟨n+M - m,List.mem_range.mpr (by omega),?_⟩;have z:=GB M m (n+M - m) 0;rw[b,show m+(n+M - m)=M+n by omega,GB M M n 0,f,en]at z;rw[<- z];simp
theorem cover128:cover 128=true:=aC (by decide +kernel) (by decide +kernel)
variable {i:Nat}
theorem aD{M j:Nat}(h:cover M=true)(hi:i < M)(a:j < M):∃ n,n < M/\hop M n i=j:=by
 unfold cover at h;have h1:=List.all_eq_true.mp h i (List.mem_range.mpr hi);have h2:=List.all_eq_true.mp h1 j (List.mem_range.mpr a);obtain⟨n,b,e⟩:=List.any_eq_true.mp h2;exact⟨n,List.mem_range.mp b,by simpa using e⟩
variable {mask p:Nat}{owner:Array (Option Nat)}
theorem NK{a:Nat}(h:SetTable.layClean.free mask owner (a+1) i p=none):
  (owner.getD i (some 0)).isSome=true/\SetTable.layClean.free mask owner a ((i*5+1+p / 32) % (mask+1)) (p / 32)=none:=by
 unfold SetTable.layClean.free at h;have e:0 < SetTable.runEnd mask i+1 - i:=by unfold SetTable.runEnd;split <;> omega
 cases c:(List.range (SetTable.runEnd mask i+1 - i)).find? λk=>(owner.getD (i+k) (some 0)).isNone with
 | some k=>rw[c]at h;cases h
 | none =>
  rw[c]at h;refine⟨?_,h⟩;have d:=List.find?_eq_none.mp c 0 (List.mem_range.mpr e);rw[Nat.add_zero]at d;cases f:owner.getD i (some 0)with
  | some b=>rfl
  | none=>rw[f]at d;exact absurd rfl d
theorem NL{owner:Array (Option Nat)}:∀(n a i:Nat),SetTable.layClean.free mask owner (n+a) i 0=none->∀ m,m < n->(owner.getD (hop (mask+1) m i) (some 0)).isSome=true
 | 0,a,i,h,m,b=>by omega
 | n+1,a,i,h,m,b=>by
  rw[show n+1+a=(n+a)+1 by omega]at h;obtain⟨h1,h2⟩:=NK h;simp only[Nat.zero_div,Nat.add_zero]at h2;cases m with
  | zero=>exact h1
  | succ m=>exact NL n a _ h2 m (by omega)
theorem NM{owner:Array (Option Nat)}:∀(n a i p:Nat),SetTable.layClean.free mask owner (n+a) i p=none->i < mask+1->∃ b,b < mask+1/\SetTable.layClean.free mask owner a b (p / 32 ^ n)=none
 | 0,a,i,p,h,hi=>⟨i,hi,by rw[Nat.zero_add]at h;simpa using h⟩
 | n+1,a,i,p,h,hi=>by
  rw[show n+1+a=(n+a)+1 by omega]at h;obtain⟨_,h2⟩:=NK h;obtain⟨b,c,d⟩:=NM n a _ _ h2 (Nat.mod_lt _ (by omega));refine⟨b,c,?_⟩;rw[Nat.div_div_eq_div_mul,show 32*32 ^ n=32 ^ (n+1) by rw[Nat.pow_succ,Nat.mul_comm]]at d;exact d
theorem aE(hc:cover (mask+1)=true)(hi:i < mask+1)(g:p < 2 ^ 64)(d:∃ j,j < mask+1/\owner.getD j (some 0)=none):(SetTable.layClean.free mask owner (SetTable.turns mask) i p).isSome=true:=by
 cases h:SetTable.layClean.free mask owner (SetTable.turns mask) i p with
 | some j=>rfl
 | none =>
  exfalso;rw[show SetTable.turns mask=13+((mask+1)+1) by unfold SetTable.turns;omega]at h;obtain⟨c,a,h2⟩:=NM 13 _ i p h hi;rw[Nat.div_eq_of_lt (Yu g (by decide))]at h2;have b:=NL (mask+1) 1 c h2;obtain⟨j,f,e⟩:=d;obtain⟨n,k,en⟩:=aD hc a f;have:=b n k;rw[en,e]at this;cases this
theorem NO{owner:Array (Option Nat)}(d:owner.size=mask+1):∀(a i p j:Nat),SetTable.layClean.free mask owner a i p=some j->i < mask+1->j < mask+1/\owner.getD j (some 0)=none
 | 0,i,p,j,h,hi=>by unfold SetTable.layClean.free at h;cases h
 | a+1,i,p,j,h,hi=>by
  unfold SetTable.layClean.free at h;cases b:(List.range (SetTable.runEnd mask i+1 - i)).find? λk=>(owner.getD (i+k) (some 0)).isNone with
  | none =>
   rw[b]at h;exact NO d a _ _ j h (Nat.mod_lt _ (by omega))
  | some k =>
   rw[b]at h;cases h;have h1:=List.find?_some b;have h2:owner.getD (i+k) (some 0)=none:=by simpa using h1
   refine⟨?_,h2⟩;refine Nat.lt_of_not_le λc=>?_;rw[Array.getD_eq_getD_getElem?,Array.getElem?_eq_none (by omega)]at h2;cases h2
theorem JK{α:Type}(x:α):∀{l:List (Option α)}{j:Nat},l[j]?=some none->((l.set j (some x)).filterMap id).Perm (x::l.filterMap id)
 | [],j,h=>by simp at h
 | a::l,0,h=>by
  simp only[Yb,Option.some.injEq]at h;subst h;exact List.Perm.refl _
 | a::l,j+1,h=>by
  simp only[Yc]at h;rw[Yl];cases a with
  | none=>exact JK x h
  | some b =>
   show(b::(l.set j (some x)).filterMap id).Perm (x::b::l.filterMap id);exact((JK x h).cons b).trans (List.Perm.swap x b _)
theorem NP:∀{l:List (Option Nat)},(l.filterMap id).length < l.length->∃ j,j < l.length/\l[j]?=some none
 | [],h=>by simp at h
 | none::l,h=>⟨0,by simp,rfl⟩
 | some a::l,h=>by
  have h':(l.filterMap id).length+1 < l.length+1:=h;obtain⟨j,b,e⟩:=NP (l:=l) (by omega);exact⟨j+1,by simp;omega,by simpa using e⟩
structure Lay(M k:Nat)(owner:Array (Option Nat)):Prop where
 sz:owner.size=M
 pm:(owner.toList.filterMap id).Perm (List.range k)
theorem aF{k:Nat}(hc:cover (mask+1)=true)(L:Lay (mask+1) k owner)(n:k < mask+1)(h:Int):
  ∃ j,SetTable.layClean.free mask owner (SetTable.turns mask) (SetTable.bits h % (mask+1)) (SetTable.bits h)=some j/\Lay (mask+1) (k+1) (owner.setIfInBounds j (some k)):=by
 have g:SetTable.bits h < 2 ^ 64:=by
  unfold SetTable.bits;have:=Int.emod_lt_of_pos h (show(0:Int) < 2 ^ 64 by decide);have:=Int.emod_nonneg h (show(2 ^ 64:Int)≠0 by decide);omega
 have hl:(owner.toList.filterMap id).length=k:=by rw[L.pm.length_eq,List.length_range]
 obtain⟨j,d,e⟩:=NP (l:=owner.toList) (by rw[hl,YX,L.sz];exact n);have b:j < mask+1:=by rw[YX,L.sz]at d;exact d
 have hi:SetTable.bits h % (mask+1) < mask+1:=Nat.mod_lt _ (by omega)
 have o:=aE (owner:=owner) (i:=SetTable.bits h % (mask+1)) hc hi g ⟨j,b,by
  rw[Array.getD_eq_getD_getElem?];rw[YS]at e;rw[e];rfl⟩
 obtain⟨a,c⟩:=Option.isSome_iff_exists.mp o;obtain⟨h1,h2⟩:=NO L.sz _ _ _ _ c hi;refine⟨a,c,⟨by rw[Array.size_setIfInBounds];exact L.sz,?_⟩⟩
 have f:owner.toList[a]?=some none:=by
  rw[YS];rw[Array.getD_eq_getD_getElem?]at h2;have m:a < owner.size:=by rw[L.sz];exact h1
  rw[Qb m]at h2 ⊢;exact congrArg some h2
 rw[Array.toList_setIfInBounds];refine(JK k f).trans ?_;rw[List.range_succ];exact((L.pm.cons k).trans (List.perm_append_singleton k _).symm)
theorem NQ(hc:cover (mask+1)=true):∀(a:List Int)(k:Nat)(owner:Array (Option Nat)),Lay (mask+1) k owner->k+a.length<=mask+1->
  ∃ o',(a.foldl (λ(b:Option (Array (Option Nat)×Nat))h=>do
   let(owner,k) <- b
   let j <- SetTable.layClean.free mask owner (SetTable.turns mask) (SetTable.bits h % (mask+1)) (SetTable.bits h)
   pure (owner.setIfInBounds j (some k),k+1)) (some (owner,k)))=some (o',k+a.length)/\Lay (mask+1) (k+a.length) o'
 | [],k,owner,L,_=>⟨owner,rfl,L⟩
 | h::a,k,owner,L,f=>by
  simp only[Yg]at f;obtain⟨j,e,d⟩:=aF hc L (by omega) h;obtain⟨o',g,c⟩:=NQ hc a (k+1) _ d (by omega);refine⟨o',?_,by rw[Yg,show k+(a.length+1)=k+1+a.length by omega];exact c⟩;rw[List.foldl_cons];show a.foldl _ (some (owner,k) >>=λx=>_)=_;rw[Option.bind_eq_bind,Option.bind_some];dsimp only;rw[e];rw[Option.bind_eq_bind,Option.bind_some];rw[Yg,show k+(a.length+1)=k+1+a.length by omega];exact g
theorem aG(M:Nat):Lay M 0 (Array.replicate M none):=⟨by simp,by simp⟩
theorem aH(hc:cover (mask+1)=true)(a:Array Int)(b:a.size<=mask+1):∃ o',SetTable.layClean mask a=some o'/\Lay (mask+1) a.size o':=by
 obtain⟨o',e,L⟩:=NQ hc a.toList 0 _ (aG (mask+1)) (by simpa using b);refine⟨o',?_,by simpa using L⟩;unfold SetTable.layClean;rw[<- Array.foldl_toList];rw[e];rfl
theorem NR{M:Nat}(h:owner.size=M):(((List.range M).filterMap λj=>(owner.getD j none).map (j,·)).map (·.2))=owner.toList.filterMap id:=by
 have e:owner.toList=(List.range M).map λj=>owner.getD j none:=by
  apply List.ext_getElem?;intro i;rw[YT,YS];by_cases hi:i < M
  ·have h2:i < owner.size:=by omega
   rw[List.getElem?_range hi,Qb h2,YE,Array.getD_eq_getD_getElem?,Qb h2];rfl
  ·rw[Array.getElem?_eq_none (by omega),Qi (by simp;omega)];rfl
 rw[e,List.filterMap_map,List.map_filterMap];congr 1;funext j;show Option.map (·.2) (Option.map (j,·) (owner.getD j none))=owner.getD j none;cases owner.getD j none <;> rfl
theorem aI{M:Nat}(h:owner.size=M):((List.range M).filterMap λj=>(owner.getD j none).map (j,·)).length=(owner.toList.filterMap id).length:=by
 rw[<- NR h,Yh]
theorem laid_ok(hc:cover (mask+1)=true)(f m:Nat)(l p:Bool)(b:Array Int)(c:b.size<=mask+1):
  ∃ t a,SetTable.laid mask f m l p b=some (t,a)/\a.toList.Perm (List.range b.size)/\t.mask=mask/\t.place.size=b.size/\t.dummies=#[]/\t.led=l/\t.plain=p:=by
 obtain⟨o',e,L⟩:=aH hc b c;unfold SetTable.laid;rw[e];refine⟨_,_,rfl,?_,rfl,?_,rfl,rfl,rfl⟩
 ·rw[List.toList_toArray,NR L.sz];exact L.pm
 ·rw[Yn,Yh,aI L.sz,L.pm.length_eq,List.length_range]
theorem order_perm{α:Type}(es:Array α)(b:Array Nat)(h:b.toList.Perm (List.range es.size)):(b.filterMap (es[·]?)).toList.Perm es.toList:=by
 rw[Array.toList_filterMap];refine(h.filterMap _).trans ?_;rw[show(List.range es.size).filterMap (λx=>es[x]?)=es.toList from ?_]
 have:∀(l:List α),(List.range l.length).filterMap (λx=>l[x]?)=l:=λl=>by
  induction l with
  | nil=>rfl
  | cons a l c =>
   rw[Yg,List.range_succ_eq_map,List.filterMap_cons];simp only[Yb,List.filterMap_map];congr 1
 have h2:=this es.toList;rw[YX]at h2;simpa only[YS]using h2
end Tb
def bt(w:World):Bool:=w.params.followText "set-order"
structure Tab(w:World)(es:Array (Int×Value))(t:SetTable)(ks:List Str):Prop where
 el:∀ e∈es.toList,∃ x u,e=(hashStr w x,Value.str x u)
 pm:(es.toList.map λe=>strOf e.2).Perm ks
 nd:ks.Nodup
 ft:t.fits es.size=true
 ld:bt w=false->t.led=true
 pl:t.plain=true->ks=[]
def SS(w:World)(h:Heap)(a:Addr)(ks:List Str):Prop:=∃ o es ep t,h.get? a=some o/\o.ExactSet/\o.data=.set es ep t/\Tab w es t ks
namespace Tab
variable {w:World} {es es':Array (Int×Value)} {t t':SetTable} {ks ks':List Str}
theorem len(T:Tab w es t ks):es.size=ks.length:=by
 have:=T.pm.length_eq;rw[Yh,YX]at this;exact this
theorem elems(prog:Program)(T:Tab w es t ks):ElemsOf (strKind prog w) es.toList:=λe a=>by
 obtain⟨x,u,rfl⟩:=T.el e a;exact⟨⟨x,by show Value.isStrOf x (.str x u)=true;simp[Value.isStrOf],rfl⟩,rfl⟩
theorem perm(T:Tab w es t ks)(p:es'.toList.Perm es.toList)(f:t'.fits es'.size=true)(l:bt w=false->t'.led=true)(q:t'.plain=true->ks=[]):Tab w es' t' ks :=
 ⟨λe a=>T.el e (p.mem_iff.mp a),(p.map _).trans T.pm,T.nd,f,l,q⟩
theorem mem(T:Tab w es t ks)(k:Str):k∈ks↔∃ e∈es.toList,Value.isStrOf k e.2=true:=by
 rw[<- T.pm.mem_iff,YC];constructor
 ·rintro⟨e,a,rfl⟩;obtain⟨x,u,rfl⟩:=T.el e a;exact⟨_,a,by show Value.isStrOf x (.str x u)=true;simp[Value.isStrOf]⟩
 ·rintro⟨e,a,h⟩;obtain⟨x,u,rfl⟩:=T.el e a;refine⟨_,a,?_⟩;obtain⟨t,b⟩:=Value.isStrOf_shape h;injection b
end Tab
theorem aJ(t:SetTable)(n:Nat):(t.orStandIn n).led=t.led:=by
 unfold SetTable.orStandIn;split <;> rfl
theorem aK(t:SetTable)(es:Array (Int×Value))(h:Int)(x:Value):(layNew t es h x).2.1.led=t.led:=by
 unfold layNew;split
 ·exact aJ _ _
 ·rfl
theorem aL(t:SetTable)(es:Array (Int×Value))(n:Nat):(relayAll t es n).2.1.led=t.led/\((relayAll t es n).2.1.plain=true->t.plain=true):=by
 unfold relayAll;split
 ·rename_i t' a e;dsimp only;split
  ·unfold SetTable.relaid SetTable.laid at e;simp only[Option.bind_eq_bind,Qg]at e;obtain⟨o,_,e⟩:=e;cases e;exact⟨rfl,id⟩
  ·exact⟨rfl,λh=>by cases h⟩
 ·exact⟨rfl,λh=>by cases h⟩
section
variable {prog:Program} {w:World} {A:Around} {E:Value->Shared->Prop} {s:Shared}
variable {a:Addr}{es:Array (Int×Value)}{t:SetTable}{ks:List Str}
theorem EO{h:Heap}{o:Obj}{b:Nat}{t':SetTable}(f:h.get? a=some o)(e:o.ExactSet)(hd:o.data=.set es b t)(T:Tab w es' t' ks):
  (h.update a (Obj.putSet es' t')).get? a=some {o with data:=.set es' (b+1) t'}/\SS w (h.update a (Obj.putSet es' t')) a ks:=by
 have d:(h.update a (Obj.putSet es' t')).get? a=some {o with data:=.set es' (b+1) t'}:=by
  have c:=Qr (Obj.putSet es' t') f (by rw[putSet_of es' t' hd];rfl);rw[putSet_of es' t' hd]at c;exact c
 exact⟨d,_,es',b+1,t',d,e,rfl,T⟩
variable {k:Str}{u:Tok}
theorem aM{a:Array (Int×Value)}{c:SetTable}(T:Tab w es t ks)(d:k∉ks)(p:a.toList.Perm (es.toList++[(hashStr w k,Value.str k u)]))(f:c.fits a.size=true)(l:c.led=t.led)(q:c.plain=false):Tab w a c (k::ks):=by
 refine⟨λe b=>?_,?_,YW.mpr ⟨d,T.nd⟩,f,λh=>by rw[l];exact T.ld h,λh=>by rw[q]at h;cases h⟩
 ·rcases Yz.mp (p.mem_iff.mp b)with b | b
  ·exact T.el e b
  ·exact⟨k,u,YA.mp b⟩
 ·refine(p.map _).trans ?_;rw[Yy];exact(List.perm_append_singleton k _).trans (T.pm.cons k)
theorem JL{Q:Bool->Shared->Prop}(hS:SS w s.heap a ks)(hn:ks.length+1 < scanBound)
  (h:∀ h' b,Heap.SameBut a s.heap h'->SS w h' a (if k∈ks then ks else k::ks)->Q b {s with heap:=h'}):wpAny (model prog w) A (setAddHashed a (.str k u) (hashStr w k)) Q E s:=by
 obtain⟨o,es,ep,t,v,G,hd,T⟩:=hS;have D:=T.elems prog;have y:(strKind prog w).is k (.str k u)=true:=by show Value.isStrOf k (.str k u)=true;simp[Value.isStrOf]
 have x:(Value.str k u).scannable=true:=rfl;have hsz:=T.len;have hb:es.size < scanBound:=by omega
 unfold setAddHashed setAddHashedIn;refine wpAny_holding (wpAny_bind (wpAny_setState_of v hd T.ft ?_));dsimp only;rw[byScan_of x hb D,if_pos rfl];refine wpAny_bind ?_;unfold setAddByScan;refine wpAny_bind (wpAny_rule ?_);refine wpAny_bind (wpAny_setScan_of (knd:=strKind prog w) y v hd T.ft D ?_)
 have m:∀(b:Bool){l:Shared}{F:Unit->Shared->Prop},F () l->wpAny (model prog w) A (match b with | true=>rule "set.scan.the-table-gave-way" | false=>pure ()) F E l:=λb l F z=>by
  cases b
  ·exact wpAny_pure z
  ·exact wpAny_rule z
 cases U:List.findIdx? (λe=>(strKind prog w).is k e.2) es.toList with
 | some j =>
  obtain⟨hj,N,_⟩:=List.findIdx?_eq_some_iff_getElem.mp U;have p:k∈ks:=(T.mem k).mpr ⟨_,Qk hj,N⟩;have J:=h s.heap false (Heap.SameBut.refl a s.heap) (by rw[if_pos p];exact⟨o,es,ep,t,v,G,hd,T⟩);exact wpAny_pure (wpAny_pure J)
 | none =>
  have n:k∉ks:=λp=>by
   obtain⟨e,he,K⟩:=(T.mem k).mp p;have J:=List.findIdx?_eq_none_iff.mp U e he;exact Bool.noConfusion (J.symm.trans K)
  have d:=layNew_perm t es (hashStr w k) (.str k u);have f:=layNew_fits t es (hashStr w k) (.str k u);have g:=aK t es (hashStr w k) (.str k u);rw[if_neg n]at h;dsimp only;show wpAny (model prog w) A _ _ E s;have R:(strKind prog w).hash k=hashStr w k:=rfl;revert d f g;generalize layNew t es (hashStr w k) (.str k u)=L;obtain⟨c,t1,dm,gv⟩:=L;intro d f g;dsimp only at d f g ⊢;rw[Array.toList_push]at d;refine wpAny_bind (m _ ?_);have hz1:c.size=es.size+1:=by rw[<- YX,d.length_eq,Yj,YX];rfl
  have q:∀ i:SetTable,i.fits c.size=true->i.led=t.led->i.plain=false->wpAny (model prog w) A (do
    storeSet a c i
    if(!dm&&i.tooFull)=true then do
      (match(relayAll i c (SetTable.grown c.size)).2.2 with | true=>rule "set.scan.the-table-gave-way" | false=>pure ())
      storeSet a (relayAll i c (SetTable.grown c.size)).1 (relayAll i c (SetTable.grown c.size)).2.1
      pure (some true)
     else pure (some true)) (λr s'=>wpAny (model prog w) A (match r with | some added=>pure added | none=>setAddHashedIn a (.str k u) (hashStr w k) 99999) Q E s') E s:=λi f2 S p2=>by
   have P:Tab w c i (k::ks):=aM T n d f2 S p2;refine wpAny_bind (wpAny_storeSet_of v hd ?_ (fits_of_scanBound (by omega)));obtain⟨B,O⟩:=EO v G hd P;have X:=Qq s.heap a (Obj.putSet c i);split
   ·have K:=relayAll_perm i c (SetTable.grown c.size);have hf:=relayAll_fits i c (SetTable.grown c.size);have Z:=aL i c (SetTable.grown c.size);have Y:=P.perm K hf (λz=>by rw[Z.1,S];exact T.ld z) (λz=>by rw[Z.2 z]at p2;cases p2);refine wpAny_bind (m _ ?_);refine wpAny_bind (wpAny_storeSet_of B rfl ?_ (fits_of_scanBound (by rw[Y.len,<- P.len];omega)));obtain⟨_,H⟩:=EO B G rfl Y;exact wpAny_pure (wpAny_pure (h _ _ (X.trans (Qq _ a _)) H))
   ·exact wpAny_pure (wpAny_pure (h _ _ X O))
  split
  ·refine wpAny_bind ?_;rw[hashByValue_scannable 8 x];refine wpAny_pure ?_;exact q _ (SetTable.fits_plain_off f) g rfl
  ·rename_i I;refine wpAny_bind (wpAny_pure ?_);exact q _ f g (by simpa using I)
end
section
variable {prog:Program} {w:World} {A:Around} {E:Value->Shared->Prop} {s:Shared}
variable {h:Heap}{a:Addr}{ks:List Str}
theorem SS.kept{h':Heap}(S:SS w h a ks)(k:∀ o,h.get? a=some o->h'.get? a=some o):SS w h' a ks:=by
 obtain⟨o,es,c,t,b,r⟩:=S;exact⟨o,es,c,t,k o b,r⟩
theorem SS.nd(S:SS w h a ks):ks.Nodup:=by
 obtain⟨o,es,c,t,b,_,_,T⟩:=S;exact T.nd
theorem JM(led:Bool)(hl:bt w=false->led=true)(b:h.get? a=some {cls:=.type "set",dict:=none,data:=.set #[] 0 (.fresh 0 0 led)}):SS w h a []:=
 ⟨_,#[],0,_,b,⟨rfl,rfl,rfl⟩,rfl,⟨λe c=>by simp at c,List.Perm.refl _,List.nodup_nil,rfl,hl,λ_=>rfl⟩⟩
theorem aN{R:Result->Shared->Prop}{Q:List Addr}{G:Array GenState->Array GenState->Prop}{n:Nat}{P:Nat->Value->Prop}{St:Nat->Shared->Prop}(W:WalksS prog w A.in1 I Q wr G n P St)(g:S∉Q)
  {val:Nat->Str} (l:∀ i v,P i v->∃ t,v=.str (val i) t):∀(k i:Nat)(s:Shared)(ks:List Str),n - i=k->i<=n->St i s->SS w s.heap S ks->ks.length+k < scanBound->
   (∀ s' ks',Moved (S::wr) G s s'->SS w s'.heap S ks'->(∀ x,x∈ks'↔x∈ks\/∃ j,i<=j/\j < n/\val j=x)->R (.ok (.ret .none)) s')->
   codeAny (model prog w) A (.builtin "set.update.loop" ⟨[.ref S,.ref I],[]⟩) R s:=by
 have u:S∉wr:=λz=>g (W.sub _ z);have a:∀ b∈wr,b∈S::wr:=λb z=>Yd _ z;intro k;induction k with
 | zero =>
  intro i s ks U hi f J _ E;obtain rfl:i=n:=by omega
  refine codeAny_builtin PyProof.Rows.F.entry_set_update_loop ?_;rw[Around.under_plainId PyProof.Rows.F.plain_set_update_loop _];refine wpAny_bind (m:=pyNext (.ref I)) (W.done s _ _ f λs' p=>?_);refine wpAny_pure (E s' ks (p.mono a) (J.kept λo e=>p.heap S o u e) λx=>⟨.inl,?_⟩);rintro(h |⟨j,h1,h2,_⟩)
  ·exact h
  ·omega
 | succ k Y =>
  intro i s ks U hi f J hn E;have d:i < n:=by omega
  refine codeAny_builtin PyProof.Rows.F.entry_set_update_loop ?_;rw[Around.under_plainId PyProof.Rows.F.plain_set_update_loop _];refine wpAny_bind (m:=pyNext (.ref I)) (W.item i s _ _ d f λv B Z y p=>?_);obtain⟨t,rfl⟩:=l i v Z;have O:SS w B.heap S ks:=J.kept λo e=>p.heap S o u e;refine wpAny_bind (m:=holding [Value.str (val i) t] (setAdd S (.str (val i) t))) (wpAny_holding ?_);unfold setAdd;refine wpAny_holding (wpAny_bind ((strKind prog w).pyHash (k:=val i) (by show Value.isStrOf (val i) (.str (val i) t)=true;simp[Value.isStrOf]) ?_));refine JL (s:={B with toks:=B.toks+1}) O (by omega) λh' b q H=>?_;refine wpAny_pure ⟨plainId_quiet PyProof.Rows.F.plain_set_update_loop _,Y (i+1) _ _ (by omega) d (W.frame _ B _ _ y (Nat.le_succ _) λc hc o e=>?_) H ?_ λX ks' L N T=>?_⟩
  ·rw[q.2 c λz:c=S=>g (by rw[<- z];exact hc)];exact e
  ·split
   ·omega
   ·rw[Yg];omega
  ·refine E X ks' (Moved.trans W.gtrans ((p.mono a).then_heap (Nat.le_succ _) λc o hc e=>?_) L) N λx=>(T x).trans ?_
   ·rw[q.2 c λz:c=S=>hc (by rw[z];exact Ye)];exact e
   ·have r:x∈(if val i∈ks then ks else val i::ks)↔x∈ks\/val i=x:=by
     split
     ·rename_i K;exact⟨.inl,λz=>z.elim id λe=>e▸K⟩
     ·rw[Yo];exact⟨λz=>z.elim (λe=>.inr e.symm) .inl,λz=>z.elim .inr λe=>.inl e.symm⟩
    rw[r];constructor
    ·rintro((h | h)|⟨j,h1,h2,D⟩)
     ·exact .inl h
     ·exact .inr ⟨i,Yr _,d,h⟩
     ·exact .inr ⟨j,by omega,h2,D⟩
    ·rintro(h |⟨j,h1,h2,D⟩)
     ·exact .inl (.inl h)
     ·by_cases e:j=i
      ·subst e;exact .inl (.inr D)
      ·exact .inr ⟨j,by omega,h2,D⟩
end
abbrev Bo(led:Bool):Obj:={cls:=.type "set",dict:=none,data:=.set #[] 0 (.fresh 0 0 led)}
section
variable {prog:Program} {w:World} {A:Around} {E:Value->Shared->Prop} {s:Shared}
variable {Q:Value->Shared->Prop}
theorem aO(h:∀ led:Bool,(bt w=false->led=true)->Q (.ref s.heap.objs.size) {s with heap:=s.heap.push (Bo led)}):wpAny (model prog w) A (newSet (.type "set")) Q E s:=by
 unfold newSet setsByText;walk_at "pb";simp only[newObj];refine wpAny_bind (wpAny_alloc (wpAny_pure (h _ λz=>?_)));show(!(bt w))=true;rw[z];rfl
theorem NS(a:Value)(h:∀ led:Bool,(bt w=false->led=true)->Q (.ref s.heap.objs.size) {s with heap:=s.heap.push (Bo led)}):
  codeAny (model prog w) A (.call (.builtin "set.__new__") ⟨[.type "set",a],[]⟩) (wants Q E) s:=by
 refine codeAny_of_tree (?_:wpAny _ A.in1 (do checkBuiltinCall "set.__new__" ⟨[.type "set",a],[]⟩;again (.builtin "set.__new__" ⟨[.type "set",a],[]⟩)) _ _ s);refine wpAny_bind (wpAny_of_eq (PySem.F.newCall_set_1 a) (wpAny_pure ⟨plainId_quiet PySem.F.plain_set_new _,codeAny_builtin PySem.F.entry_set_new ?_⟩));rw[Around.under_plainId PySem.F.plain_set_new _];unfold Builtin.«set.__new__» Builtin.Frozenset.newClass;have c:=sub_set_self;obtain⟨b,g,d,tk,os⟩:=s;dsimp only;wp_walk;refine wpAny_askSetting (wpAny_pure ?_);simp only[newObj];refine wpAny_bind (wpAny_alloc (wpAny_pure (wpAny_pure (h _ λz=>?_))));show(!(bt w))=true;rw[z];rfl
theorem NT:∀{vs:List Value}{xs:List Str},StrsAre vs xs->∀(i:Nat)(v:Value),vs[i]?=some v->∃ t,v=.str (xs.getD i (Str.ofString "")) t
 | _,_,.nil,i,v,h=>by simp at h
 | _,_,.cons x t r,0,v,h=>⟨t,by simp at h;exact h.symm⟩
 | _,_,.cons x t r,i+1,v,h=>NT r i v (by simpa using h)
set_option maxHeartbeats 3200000 in
theorem aP{l:Addr}{items:Array Value}{xs:List Str}(hh:A.handled=none)(hl:s.heap.IsList l items)(hi:StrsAre items.toList xs)(S:items.size < scanBound)
  (h:∀(h':Heap)(tk:Nat)(ks:List Str),SS w h' s.heap.objs.size ks->(∀ x,x∈ks↔x∈xs)->(∀ b o,b < s.heap.objs.size->s.heap.get? b=some o->h'.get? b=some o)->Q (.ref s.heap.objs.size) {s with heap:=h',toks:=tk}):
  wpAny (model prog w) A (call (.type "set") [.ref l]) Q E s:=by
 obtain⟨c,tl,hmro⟩:=PySem.F.called_set.mro;have N:=PySem.F.called_set.made;have hsub:=PySem.F.called_set.sub;refine wpAny_call (codeAny_of_tree (?_:wpAny _ _ (callAny (.type "set") _) _ _ _));refine wpAny_pure ⟨Code.quiet_builtin _ (by decide +kernel),codeAny_builtin PySem.F.entry_type_call ?_⟩;rw[Around.under_plain (weight_type_call_type "set" [.ref l] []) rfl];have h1:=PySem.F.called_set.notType;have h2:=PySem.F.called_set.canCreate;have hct:=PySem.F.typeCall_set_1 (.ref l);(repeat (any_goals (first | assumption | wp_step)));refine codeAny_mono (NS (.ref l) (E:=E) (Q:=λobj f=>∃ led:Bool,(bt w=false->led=true)/\obj=.ref s.heap.objs.size/\f={s with heap:=s.heap.push (Bo led)}) λled z=>⟨led,z,rfl,rfl⟩) λr f d=>?_
 match r,d with
 | .error e,d=>exact d
 | .ok .next,d=>exact d.elim
 | .ok .brk,d=>exact d.elim
 | .ok .cont,d=>exact d.elim
 | .ok (.ret obj),d =>
  obtain⟨led,q,rfl,rfl⟩:=d;have Z:(s.heap.push (Bo led)).get? s.heap.objs.size=some (Bo led):=Qo _ rfl;have hT:Shared.TypeIs {s with heap:=s.heap.push (Bo led)} (.ref s.heap.objs.size) "set":=⟨_,Z,rfl⟩;have hli:=PySem.F.called_set.init.lookup;have hbi:=PySem.F.called_set.init.bind (.ref s.heap.objs.size);(repeat (any_goals (first | assumption | wp_step)));refine codeAny_mono (codeAny_call_builtin (R:=wants (λr g=>r=.none/\∃ h' tk ks,g={s with heap:=h',toks:=tk}/\SS w h' s.heap.objs.size ks/\(∀ x,x∈ks↔x∈xs)/\(∀ b o,b < s.heap.objs.size->s.heap.get? b=some o->h'.get? b=some o)) E) PySem.F.called_set.init.plain PySem.F.entry_set_init (check_set_init_1 hT ?_)) λG g a=>?_
  ·obtain⟨ol,J,H,Y,B⟩:=hl;obtain⟨ocls,k,T,oslots⟩:=ol;simp only at H B;subst H B;have n:(s.heap.push (Bo led)).get? l=some {cls:=.type "list",dict:=k,data:=.seq items Y,slots:=oslots}:=Qm _ J;have hs1:=PySem.F.sub_list_set;have hs2:=PySem.F.sub_list_frozenset;have hne:(Value.type "list"==Value.type "dict")=false:=by decide
   have I:(s.heap.push (Bo led)).IsList l items:=⟨_,n,rfl,Y,rfl⟩;unfold Builtin.«set.__init__» noKeywords Builtin.Frozenset.updateFrom;generalize P:pyIter=PI;wp_walk;subst P;refine wpAny_pyIter_list I (wpAny_bind (wpAny_runValue ?_));have y:l < s.heap.objs.size:=Qn J;have D:l≠(s.heap.push (Bo led)).objs.size:=by rw[Qp];exact Ys (Nat.lt_succ_of_lt y)
   have O:s.heap.objs.size∉[(s.heap.push (Bo led)).objs.size,l]:=by
    rw[Qp];walk_at "pe";exact⟨Ys (Nat.lt_succ_self _),Nat.ne_of_gt y⟩
   have u:∀(i:Nat)(v:Value),items[i]?=some v->∃ t,v=.str (xs.getD i (Str.ofString "")) t:=λi v hv=>NT hi i v (by rw[YS];exact hv);have hxl:items.size=xs.length:=by rw[<- YX];exact hi.length
   refine aN ((Walks.list (by simp[hh]) _ l D items).toS) O u (items.size - 0) 0 _ [] (by omega) (YZ _) ⟨⟨_,Qo _ rfl,rfl,rfl⟩,I.push _⟩ ?_ (by simp only[Yi];omega) ?_
   ·exact JM led q (Qm _ Z)
   ·intro s' ks K m p;obtain⟨h',g',d',U,X⟩:=s';obtain rfl:g'=s.gens:=K.gens;obtain rfl:d'=s.drawn:=K.drawn;obtain rfl:X=s.os:=K.os;refine wpAny_pure (wpAny_pure ⟨rfl,h',U,ks,rfl,m,λx=>(p x).trans ?_,λb o S e=>?_⟩)
    ·constructor
     ·rintro(z |⟨j,_,hj,e⟩)
      ·cases z
      ·rw[<- e];rw[Qe,Yp (by omega)];exact Qk _
     ·intro p;obtain⟨j,hj,e⟩:=List.getElem_of_mem p;refine .inr ⟨j,YZ _,by omega,?_⟩;rw[Qe,Yp hj];exact e
    ·refine K.heap b o ?_ (Qm _ (Qm _ e));walk_at "pe";rw[Qp];exact⟨Ys S,Ys (Nat.lt_succ_of_lt S)⟩
  ·match G,a with
   | .error e,a=>exact a
   | .ok .next,a=>exact a.elim
   | .ok .brk,a=>exact a.elim
   | .ok .cont,a=>exact a.elim
   | .ok (.ret r),a =>
    obtain⟨rfl,h',tk,ks,rfl,m,p,L⟩:=a;(repeat (any_goals (first | assumption | wp_step)));exact h _ _ _ m p L
end
section
variable {prog:Program} {w:World} {A:Around} {E:Value->Shared->Prop} {s:Shared}
end
theorem NU:entryFor table "dict.update.loop"=some Builtin.«dict.update.loop»:=entryFor_of_tree (by kernel_rfl)
theorem GC:plainId "dict.update.loop"=true:=by decide +kernel
section
variable {prog:Program} {w:World} {A:Around} {E:Value->Shared->Prop} {s:Shared}
variable {S:Addr}
theorem aQ{p:Addr}{x:Str}{t:Tok}{v:Value}{a:List (Key×Value)}{i:Int}{Q:Unit->Shared->Prop}(b:s.heap.IsTuple p #[.str x t,v])(d:s.heap.DictOf (A6 prog w) S a)(j:a.length<=sizeLine)
  (h:∀ h',h'.DictOf (A6 prog w) S (stored a (.inr x) v)->Heap.SameBut S s.heap h'->Q () {s with heap:=h',toks:=s.toks+1}):
  wpAny (model prog w) A (holding [Value.ref p] do
   let pair <-(Builtin.Dict.pairItems (.ref p)).tryCatch λe=>do
    if !(<- isInstance e (.type "TypeError"))then throw e
    rule "dict.update.element-no-sequence"
    raiseError "TypeError" s!"cannot convert dictionary update sequence element #{i} to a sequence"
   match pair with
   | [k,v]=>holding [k,v] (dictSet S k v)
   | l =>
    rule "dict.update.element-length"
    raiseError "ValueError" s!"dictionary update sequence element #{i} has length {l.length}; 2 is required") Q E s:=by
 refine wpAny_holding ?_;have g:s.TypeIs (.ref p) "tuple":=b.typeIs
 have c:wpAny (model prog w) A (Builtin.Dict.pairItems (.ref p)) (λr s'=>r=[Value.str x t,v]/\s'=s) (λ_ _=>False) s:=by
  obtain⟨o,f,hc,n,hd⟩:=b;unfold Builtin.Dict.pairItems;refine wpAny_bind (wpAny_typeOf g ?_);rw[if_pos (by decide)];refine wpAny_bind (wpAny_seqItems f hd ?_);exact wpAny_pure ⟨rfl,rfl⟩
 refine wpAny_bind (wpAny_tryCatch (wpAny_mono c ?_ λ_ _ z=>z.elim));rintro r s' ⟨rfl,rfl⟩;refine wpAny_holding ?_;exact wpAny_dictSet_pairs (knd:=A6 prog w) (k:=.inr x) (by simp[A6,C1,Value.isStrOf]) d h j
theorem aR{R:Result->Shared->Prop}{fp:List Addr}{G:Array GenState->Array GenState->Prop}{n:Nat}{P:Nat->Value->Prop}{St:Nat->Shared->Prop}(W:WalksS prog w A.in1 I fp wr G n P St)(B:S∉fp)
  {ps:List (Str×Value)} (hps:ps.length=n):∀(k i:Nat)(s:Shared)(u:Tok)(a:List (Key×Value)),n - i=k->i<=n->St i s->s.heap.DictOf (A6 prog w) S a->a.length+k<=sizeLine->
   (∀ j v,i<=j->j < n->P j v->∃ p t y,v=.ref p/\p∉S::wr/\ps[j]?=some y/\s.heap.IsTuple p #[.str y.1 t,y.2])->
   (∀ s',Moved (S::wr) G s s'->s'.heap.DictOf (A6 prog w) S (merged a ((ps.drop i).map λy=>(Sum.inr y.1,y.2)))->R (.ok (.ret .none)) s')->
   codeAny (model prog w) A (.builtin "dict.update.loop" ⟨[.ref S,.ref I,.int i u,.none],[]⟩) R s:=by
 have D:S∉wr:=λz=>B (W.sub _ z);have d:∀ b∈wr,b∈S::wr:=λb z=>Yd _ z;intro k;induction k with
 | zero =>
  intro i s u a hk hi h N _ _ J;obtain rfl:i=n:=by omega
  refine codeAny_builtin NU ?_;rw[Around.under_plainId GC _];refine wpAny_bind (m:=pyNext (.ref I)) (W.done s _ _ h λs' g=>?_);refine wpAny_bind (wpAny_pure (wpAny_pure (J s' (g.mono d) ?_)));rw[List.drop_eq_nil_of_le (by omega)];obtain⟨o,es,T,O,r⟩:=N;exact⟨o,es,T,g.heap S o D O,r⟩
 | succ k ih =>
  intro i s u a hk hi h N hn hP J;have f:i < n:=by omega
  refine codeAny_builtin NU ?_;rw[Around.under_plainId GC _];refine wpAny_bind (m:=pyNext (.ref I)) (W.item i s _ _ f h λv U hPv F g=>?_);obtain⟨p,t,y,rfl,Q,hy,E⟩:=hP i v (Yr _) f hPv
  have Z:U.heap.DictOf (A6 prog w) S a:=by
   obtain⟨o,es,T,O,r⟩:=N;exact⟨o,es,T,g.heap S o D O,r⟩
  have q:U.heap.IsTuple p #[.str y.1 t,y.2]:=E.at λo e=>g.heap p o (λz=>Q (d _ z)) e;refine wpAny_bind (aQ (i:=i) q Z (by omega) λh' L l=>?_)
  have x:ps.drop i=y::ps.drop (i+1):=by
   rw[List.drop_eq_getElem_cons (by omega)];rw[Yp (by omega)]at hy;rw[YF hy]
  refine wpAny_pure ⟨plainId_quiet GC _,ih (i+1) _ _ (stored a (.inr y.1) y.2) (by omega) f (W.frame _ U _ _ F (Nat.le_succ _) λc hc o e=>?_) L ?_ (λj v h1 h2 hv=>?_) λs2 Y X=>?_⟩
  ·rw[l.2 c λz:c=S=>B (by rw[<- z];exact hc)];exact e
  ·have:=merged_length_le a [((Sum.inr y.1:Key),y.2)];have e:merged a [((Sum.inr y.1:Key),y.2)]=stored a (.inr y.1) y.2:=rfl;rw[e]at this;simp only[Yg,Yi]at this;omega
  ·obtain⟨H,t',y',e1,K,e3,e4⟩:=hP j v (by omega) h2 hv;refine⟨H,t',y',e1,K,e3,(e4.at λo e=>g.heap H o (λz=>K (d _ z)) e).at λo e=>?_⟩;rw[l.2 H λz:H=S=>K (by rw[z];exact Ye)];exact e
  ·refine J s2 (Moved.trans W.gtrans ((g.mono d).then_heap (Nat.le_succ _) λc o hc e=>?_) Y) ?_
   ·rw[l.2 c λz:c=S=>hc (by rw[z];exact Ye)];exact e
   ·rw[x];exact X
end
section
variable {prog:Program} {w:World} {A:Around} {E:Value->Shared->Prop} {s:Shared}
end
end L3
namespace L2
open PySem PySem.Spec PyProof.Rows
section
variable {prog:Program} {w:World} {A:Around} {R:Result->Shared->Prop} {s:Shared}
theorem aS{elt:Expr}{it k:Value}{env:Env}{E':Value->Shared->Prop}(I:Nat->Shared->Prop)
  (l:∀ e s',E' e s'->notedBy (model prog w) A env (λe s'=>R (.error e) s') e s')
  (t:∀ n s,I n s->wpAny (model prog w) A (pyNext it) (λr a=>match r with
   | none=>R (.ok .next) a
   | some v=>wpAny (model prog w) A (letOwnedTupleGo target it v) (λ_ s₁'=>wpAny (model prog w) A (assign target env v) (λ_ j=>
     wpAny (model prog w) A (forIn ifs true λc r=>if r=true then do let ok <- isTrue c env (eval c env);pure (ForInStep.yield ok)else pure (ForInStep.yield r)) (λok b=>
      if ok=true then wpAny (model prog w) A (eval elt env) (λx f=>
       wpAny (model prog w) A (call (.builtin "list.append") [k,x]) (λ_ i=>∃ m,m < n/\I m i) E' f) E' b
      else ∃ m,m < n/\I m b) E' j) E' s₁') E' a) E' s)
  (n:Nat) (h:I n s):
  codeAny (model prog w) A (.compLoop (.ListComp elt [⟨target,iter,ifs,0⟩] scope pos) 0 it k env) R s:=by
 refine codeAny_loop rfl I (λn s u=>?_) n h;show wpAny _ A ((compTurn (.ListComp elt [⟨target,iter,ifs,0⟩] scope pos) 0 it k env).onRaise (λx=>do noteFrame x env;theTreesLotGoes x)) _ _ s;refine wpAny_noted ?_;rw[compTurn_list];refine wpAny_bind (wpAny_standAt (wpAny_bind (wpAny_mono (t n s u) (λr a d=>?_) l)));cases r with
 | none=>exact wpAny_pure d
 | some v =>
  refine wpAny_bind (wpAny_mono d (λ_ s₁' h₁'=>?_) l);refine wpAny_bind (wpAny_mono h₁' (λ_ j o=>wpAny_bind (wpAny_mono o (λok b g=>?_) l)) l);cases ok with
  | false=>exact wpAny_pure ⟨rfl,g⟩
  | true =>
   exact wpAny_bind (wpAny_bind (wpAny_mono g (λx f q=>wpAny_bind (wpAny_mono q (λ_ i p=>wpAny_pure (wpAny_pure ⟨rfl,p⟩)) l)) l))
end
def PF(X:Cx)(ifs:List Expr)(t:TT):Prop :=
 ∀(pins:List (Addr×Obj))(s:Shared)(σ:St)(H:Hp)(Q:Bool->Hp->Prop),Inv X pins σ H s->t σ H Q->
  wpAny (model X.prog X.w) X.A (forIn ifs true λc r=>if r=true then do let ok <- isTrue c X.env (eval c X.env);pure (ForInStep.yield ok)else pure (ForInStep.yield r)) (TP X pins σ Q) X.xe s
def aT:TT:=λ_ H Q=>Q true H
variable {X:Cx}
theorem aU:PF X [] aT:=λ_ _ _ H _ I h=>wpAny_tests_nil ⟨H,I,h⟩
theorem aV{c:Expr}{t:TT}(hc:PT X c t):PF X [c] t:=λpins s σ H Q I h=>wpAny_tests_one (hc pins s σ H Q I h)
noncomputable def cxB(X:Cx)(Nc:List Str)(scope:Scope)(cl:List (Str×Addr))(C:Addr)(fp:List Addr)(s:Shared)(H:Hp):Cx :=
 {X with N:=Nc,s₀:=s,H₀:=H,env:=compEnvC scope cl C X.env,outer:=X.stack,ex:=fp,fn:=λ_=>false,pn:=[],xe:=λ_ _=>False}
structure Blk(X:Cx)(Nc:List Str)(scope:Scope)(cl:List (Str×Addr))(cap:St->St):Prop where
 clos:closureFor scope X.env=pure cl
 kind:scope.kind=.function
 names:∀ x∈scope.names,x.2=.local->scope.names.lookup x.1=some .local
 nocell:∀ y∈scope.names,y.2≠.cell
 sub:∀ y c,cl.lookup y=some c->X.env.cells.lookup y=some c
 has:∀ y,((relabel scope X.env).names.lookup y=some .cell\/(relabel scope X.env).names.lookup y=some .free)->∃ c,cl.lookup y=some c
 take:∀(σ:St)(i:Nat)(y:Str)(v:V),Nc[i]?=some y->(cap σ)[i]?=some (some v)->Vis (relabel scope X.env) y->
  ((relabel scope X.env).names.lookup y=some .cell\/(relabel scope X.env).names.lookup y=some .free)/\Vis X.env.scope y/\X.env.scope.names.lookup y≠some .local/\∃ j:Nat,X.N[j]?=some y/\σ[j]?=some (some v)
 len:∀ σ:St,(cap σ).length=Nc.length
variable {scope:Scope}
theorem aW{env:Env}(h:∀ y∈scope.names,y.2≠.free):relabel scope env=scope:=by
 unfold relabel
 rw[map_eq_self (l:=scope.names) (λx a=>by
  obtain⟨n,k⟩:=x;have:(k==NameKind.free)=false:=by simpa using h _ a
  simp[this])]
variable {x:Str}
theorem JN{names:List (Str×NameKind)}{k:NameKind}(h:names.lookup x=some k):(x,k)∈names:=PySem.mem_of_lookup h
theorem BV{Nc:List Str}(kind:scope.kind=.function)(all:∀ y∈scope.names,y.2≠.free/\y.2≠.cell)(names:∀ x∈scope.names,x.2=.local->scope.names.lookup x.1=some .local):
  Blk X Nc scope [] (λ_=>List.replicate Nc.length none) where
 clos:=closureFor_none λx a=>(all x a).1
 kind:=kind
 names:=names
 nocell:=λy d=>(all y d).2
 sub:=λy c h=>by cases h
 has:=λy h=>by
  rw[aW λz b=>(all z b).1]at h;rcases h with h | h
  ·exact absurd rfl (all _ (JN h)).2
  ·exact absurd rfl (all _ (JN h)).1
 take:=λσ i y v h1 h2 e=>by
  rw[List.getElem?_replicate]at h2;split at h2 <;> cases h2
 len:=λσ=>List.length_replicate ..
def cOk(cap:St->St)(g:TG)(tt:TT)(te:TE)(K:List V->Hp->Prop)(σ:St)(J:It)(H1:Hp):Prop :=
 ∃ W:Nat->Nat->St->Hp->List V->Prop,(∃ m,W 0 m (cap σ) H1 [])/\∀ i m σ' H' ys,W i m σ' H' ys->
  (J.stop i H'/\K ys H')\/
  (J.go i H'/\ys.length < sizeLine/\∃ N:St->Hp->List V->Prop,(∀ σ2 H2 ys2,N σ2 H2 ys2->∃ m',m' < m/\W (i+1) m' σ2 H2 ys2)/\
   ∀ x H2,J.yld i H' x H2->g x σ' H2 λσ3 H3=>tt σ3 H3 λb H4=>if b=true then te σ3 H4 λy H5=>N σ3 H5 (ys++[y])else N σ3 H4 ys)
def JO(wi:TI)(cap:St->St)(g:TG)(tt:TT)(te:TE):TE:=λσ H Q=>wi σ H λJ H1=>cOk cap g tt te (λys H'=>∀ a,H' a=none->Q (.ref a) (upd H' a (.lst ys))) σ J H1
section
variable {X:Cx} {elt tg iter:Expr} {ifs:List Expr} {scope:Scope} {pos:Pos} {g:TG} {tt:TT} {te:TE} {Nc:List Str} {cap:St->St} {cl:List (Str×Addr)}
theorem aX(hc:X.calm=true)(B:Blk X Nc scope cl cap)(hg:∀ C O s H,PG (cxB X Nc scope cl C O s H) tg g)(ht:∀ C O s H,PF (cxB X Nc scope cl C O s H) ifs tt)(he:∀ C O s H,PE (cxB X Nc scope cl C O s H) elt te)
     {Q:Shared} {E:Value->Shared->Prop} {RR:Value->Addr->Result->Shared->Prop}    {tn:Nat->Heap->Prop} {K:List V->Hp->Prop}
  (F:Inv X pins σ H2 Q) (T:Dx X.prog X.w X.K tg J O it tn) (st2:tn 0 Q.heap) (f2:∀ b∈O,CD X pins H2 b) (w2:cOk cap g tt te K σ J H2)
  (fin:∀(D C:Addr)(s':Shared)(H':Hp)(ys:List V)(oC:Obj),H' D=none->K ys H'->Inv X pins σ (upd H' D (.lst ys)) s'->CD X pins (upd H' D (.lst ys)) C->s'.heap.get? C=some oC->(∀ v,oC.data≠.cell v)->(∃ m,s'.heap.Ns C m)->RR (.ref D) C (.ok .next) s'):
  wpAny (model X.prog X.w) X.A (newList []) (λacc s₃=>wpAny (model X.prog X.w) X.A (newFunctionEnv scope X.env.globals cl [] X.env.qual none .none (some X.env)) (λcenv s₄=>
   codeAny (model X.prog X.w) X.A (.compStart (.ListComp elt [⟨tg,iter,ifs,0⟩] scope pos) 0 (.ref it) acc {cenv with scope:=relabel scope X.env}) (RR acc cenv.locals) s₄) E s₃) E Q:=by
 refine wpAny_newObj_type (wpAny_newFunctionEnv B.nocell (by intro y hy;simp at hy) (λZ G t=>?_) B.kind);dsimp only at G t ⊢;generalize hP2:Q.heap.push {cls:=.type "list",dict:=none,data:=.seq ([]:List Value).toArray}=P2 at G t ⊢;generalize L:Q.heap.objs.size=D at G t ⊢;have hCs:P2.objs.size=D+1:=by rw[<- hP2,Qp,L]
 generalize hCC:P2.objs.size=C at G t hCs ⊢;have hDC:D≠C:=Ys (by rw[hCs];exact Nat.lt_succ_self _);have S:∀ b:Addr,b < D->b≠C:=λb h=>Ys (by rw[hCs];exact Nat.lt_succ_of_lt h);have leC:D<=C:=by rw[hCs];exact Nat.le_succ _
 have U:∀ b o,Q.heap.get? b=some o->Z.get? b=some o:=λb o e=>by
  have f:=Qn e;rw[L]at f;refine t.extBut b o (S b f) (Qm _ ?_);rw[<- hP2];exact Qm _ e
 have hacc:Z.get? D=some {cls:=.type "list",data:=.seq #[]}:=by
  refine t.extBut D _ hDC (Qm _ ?_);rw[<- hP2,<- L];exact Qo _ rfl
 have lt2:∀ b o,Q.heap.get? b=some o->b < D:=λb o e=>by rw[<- L];exact Qn e
 have Y:∀ b∈O,b < D:=λb f=>by
  obtain⟨o,e,_⟩:=T.obj _ _ st2 b f;exact lt2 b o e
 have celt:∀ x c,X.env.cells.lookup x=some c->c < D:=λx c e=>by
  obtain⟨v,z⟩:=F.cell x c e;rw[<- L];exact z.lt
 have R:∀ p∈X.pn++pins,p.1 < D:=λp hp=>lt2 _ _ (F.pin p hp).1;have fstk:∀ b∈O,b∉frs X.stack:=λb f z=>(Yo.mp (F.stkSub b z)).elim (f2 b f).2.1 (f2 b f).2.2.1;have hDn:H2 D=none:=F.hok.fresh (by rw[L];exact Yr _);have hCn:H2 C=none:=F.hok.fresh (by rw[L];exact leC);have sz0:X.s₀.heap.objs.size<=D:=by rw[<- L];exact F.sz
 let Xc:=cxB X Nc scope cl C O Q H2
 have okc:Xc.Ok:=by
  refine⟨F.ok.mod,?_,F.ok.glob,F.ok.blt,?_,λx y c h1 h2=>F.ok.inj x y c (B.sub x c h1) (B.sub y c h2),λx hx=>B.has x hx,(λx c h=>by cases h),F.ok.hd,F.ok.frames,.inl rfl,?_,F.bs,Yt F.ok.bsz F.sz,?_,fstk,F.stack,F.stkFree⟩
  ·exact B.kind
  ·show Q.heap.objs.size<=C;rw[L];exact leC
  ·intro b f;refine⟨?_,λx c e=>?_⟩
   ·exact S b (Y b f)
   ·exact(f2 b f).2.2.2.2.1 x c (B.sub x c e)
  ·intro b o e f;rcases(f2 b f).2.2.2.1 with z | z
   ·exact F.ok.noex b o e z
   ·exact absurd (Yu (Qn (F.ok.bs b o e).1) z) (YM _)
 have I0:∀ tk,Inv Xc (X.pn++pins) (cap σ) H2 {Q with heap:=Z,toks:=tk}:=λtk=>by
  refine⟨okc,rfl,F.bare,Un.kept U,⟨_,G,λi y v h1 h2 h3=>?_⟩,λx c e=>?_,hCn,λx c e=>F.freeC x c (B.sub x c e),λp hp=>?_,F.hok.kept U,B.len σ⟩
  ·obtain⟨k1,k2,k3,j,k4,k5⟩:=B.take σ i y v h1 h2 h3;obtain⟨m,hn,hl⟩:=F.loc;obtain⟨u,r,l⟩:=hl j y v k4 k5 k2;refine⟨u,r,.inr ⟨k1,?_⟩⟩;rcases l with⟨l,_⟩|⟨_,c,e,z⟩
   ·exact absurd l k3
   ·obtain⟨c',e'⟩:=B.has y k1;have:=B.sub y c' e';rw[e]at this;cases this;obtain⟨oc,ec,dc⟩:=z;exact⟨c,e',oc,U _ _ ec,dc⟩
  ·obtain⟨v,oc,ec,dc⟩:=F.cell x c (B.sub x c e);exact⟨v,oc,U _ _ ec,dc⟩
  ·have hp':p∈X.pn++pins:=by simpa[Xc,cxB]using hp
   obtain⟨e,n,ne,nf,d⟩:=F.pin p hp';exact⟨U _ _ e,n,S _ (R p hp'),λz=>(Yo.mp (F.stkSub _ z)).elim ne nf,d⟩
 have fpc:∀{H':Hp}{o:Obj},(∀ b∈O,H' b=none)->∀ b∈O,CD Xc ((X.pn++pins)++[(D,o)]) H' b:=λ{H' o}hn b f=>by
  refine⟨hn b f,S b (Y b f),fstk b f,.inl f,λx c e=>(f2 b f).2.2.2.2.1 x c (B.sub x c e),λp hp=>?_⟩
  ·have hp':p∈X.pn++pins\/p=(D,o):=by
    rcases Yz.mp hp with z | z
    ·cases z
    ·rcases Yz.mp z with z | z
     ·exact .inl z
     ·exact .inr (YA.mp z)
   rcases hp' with z | z
   ·exact(f2 b f).2.2.2.2.2 p z
   ·subst z;exact Nat.ne_of_gt (Y b f)
 obtain⟨W,⟨m0,w0⟩,turn⟩:=w2
 have loop:∀ tk,codeAny (model X.prog X.w) X.A (.compLoop (.ListComp elt [⟨tg,iter,ifs,0⟩] scope pos) 0 (.ref it) (.ref D) Xc.env) (RR (.ref D) C) {Q with heap:=Z,toks:=tk}:=by
  intro tk
  refine aS (E':=λ_ _=>False)
   (λn s'=>∃(i:Nat)(σ':St)(H':Hp)(ys:List V)(I:List Value)(k:Nat),Inv Xc (X.pn++pins) σ' H' s'/\tn i s'.heap/\(∀ b∈O,H' b=none)/\H' D=none/\s'.heap.get? D=some {cls:=.type "list",data:=.seq I.toArray k}/\
    Vals ys I/\ys.length<=sizeLine/\W i n σ' H' ys) (λ_ _ z=>z.elim) ?_ m0
   ⟨0,cap σ,H2,[],[],0,I0 tk,T.keep _ _ _ st2 λb _ o e=>U b o e,λb f=>(f2 b f).1,hDn,hacc,.nil,YZ _,w0⟩
  rintro n s3 ⟨i,σ3,H3,ys,I,k,I3,st3,fr3,hD3,o3,rv3,hz3,w3⟩
  have I3':Inv Xc ((X.pn++pins)++[(D,{cls:=.type "list",data:=.seq I.toArray k})]) σ3 H3 s3:=I3.pins_of λp hp=>by
   have hp':p∈X.pn++pins\/p=(D,{cls:=.type "list",data:=.seq I.toArray k}):=by
    rcases Yz.mp hp with z | z
    ·exact .inl z
    ·exact .inr (YA.mp z)
   rcases hp' with z | z
   ·exact I3.pin p (by simpa[Xc,cxB]using z)
   ·subst z;refine⟨o3,hD3,hDC,λz=>?_,(λv z=>by cases z)⟩
    ·obtain⟨_,o,ho,_⟩:=F.stack.mem z;exact absurd (lt2 _ _ ho) (YM _)
  rcases turn i n σ3 H3 ys w3 with⟨stop,qn⟩|⟨go,hlt,N,hN,step⟩
  ·refine thn (T.done Xc rfl rfl rfl hc i _ s3 σ3 H3 _ I3' (fpc fr3) st3 stop) λr s4 zz1=>?_;obtain⟨hr,I4⟩:=zz1;subst hr;have pD:=I4.pin (D,{cls:=.type "list",data:=.seq I.toArray k}) (by simp);obtain⟨m4,hn4,_⟩:=I4.loc;obtain⟨oC,es,ep,eC,dC,rC⟩:=id hn4;have hD4:H3 D=none:=hD3;have hC4:H3 C=none:=I4.free;have P:∀ b u,H3 b=some u->upd H3 D (.lst ys) b=some u:=λb u e=>by rw[AX (Dw e hD4)];exact e
   have un:Un (frs X.stack) O H2 (upd H3 D (.lst ys)) Q.heap s4.heap:=by
    have u:=I4.base;refine⟨u.keep,u.slot,λb o e n hx=>?_,u.there,λb xs e=>P _ _ (u.tups b xs e),λb o v e=>P _ _ (u.frzs b o v e),λb ps e=>?_⟩
    ·rw[AX (Ys (lt2 b o e))];exact u.free b o e n hx
    ·obtain⟨more,q⟩:=u.tbls b ps e;exact⟨more,P _ _ q⟩
   have hok:HOk X.prog X.w (upd H3 D (.lst ys)) s4.heap:=λb u e=>by
    by_cases f:b=D
    ·subst f;rw[BL]at e;cases e;exact⟨hz3,I,k,rv3,pD.1⟩
    ·rw[AX f]at e;exact(I4.hok b u e).stay (λ_ _ _ q=>q) (λc q=>P _ _ q) λc xs q=>P _ _ q
   have I5:Inv X pins σ (upd H3 D (.lst ys)) s4:=F.call' (ch:=O) I4.os un hok I4.bare λb f=>⟨(f2 b f).2.2.2.1,(f2 b f).2.1,(f2 b f).2.2.2.2.1,(f2 b f).2.2.2.2.2⟩;refine fin D C s4 H3 ys oC hD4 qn I5 ⟨?_,?_,λz=>?_,.inr (Yt sz0 leC),λx c e=>?_,λp hp=>?_⟩ eC (λv z=>by rw[dC]at z;cases z) ⟨m4,hn4⟩
   ·rw[AX (Qa hDC)];exact hC4
   ·have:=F.lt;rw[L]at this;exact Qa (S _ this)
   ·exact F.nofs (a:=C) (by rw[L];exact leC) z
   ·exact S _ (celt x c e)
   ·exact S _ (R p hp)
  ·refine thn (T.item Xc rfl rfl rfl hc i _ s3 σ3 H3 _ I3' (fpc fr3) st3 go) λr s4 zz2=>?_;obtain⟨u,hr,h4⟩:=zz2;subst hr;refine thn h4 λ_ s5 zz3=>?_;obtain⟨x,H5,I5,r5,y5,st5,fr5⟩:=zz3;have I5':=I5.pinned (fpc fr5) (T.obj _ _ st5);refine thn (hg C O Q H2 _ s5 σ3 H5 x u _ I5' r5 (step x H5 y5)) λ_ s6 zz4=>?_;obtain⟨σ6,H6,I6,q6⟩:=zz4;refine thn (ht C O Q H2 _ s6 σ6 H6 _ I6 q6) λok s7 zz5=>?_;obtain⟨H7,I7,q7⟩:=zz5
   have again:∀{σ8:St}{H8:Hp}{s8:Shared},Inv Xc (((X.pn++pins)++[(D,{cls:=.type "list",data:=.seq I.toArray k})])++Fp O s5.heap) σ8 H8 s8->
     tn (i+1) s8.heap/\(∀ b∈O,H8 b=none)/\s8.heap.get? D=some {cls:=.type "list",data:=.seq I.toArray k}/\H8 D=none:=λ{σ8 H8 s8}I8=>by
    refine⟨T.keep _ _ _ st5 λb f o e=>(I8.pin (b,o) (YQ _ (YQ _ (Gs f e)))).1,λb f=>?_,?_⟩
    ·obtain⟨o,e,d⟩:=T.obj _ _ st5 b f;exact(I8.pin (b,o) (YQ _ (YQ _ (Gs f e)))).2.1
    ·have:=I8.pin (D,{cls:=.type "list",data:=.seq I.toArray k}) (by simp);exact⟨this.1,this.2.1⟩
   cases ok with
   | false =>
    rw[if_neg YY]at q7 ⊢;obtain⟨m',hm,w7⟩:=hN _ _ _ q7;obtain⟨t7,f7,o7,d7⟩:=again I7;exact⟨m',hm,i+1,σ6,H7,ys,I,k,I7.unpinned.unpinned,t7,f7,d7,o7,rv3,hz3,w7⟩
   | true =>
    rw[if_pos rfl]at q7 ⊢;refine thn (he C O Q H2 _ s7 σ6 H7 _ I7 q7) λy s8 zz6=>?_;obtain⟨yv,H8,I8,r8,q8⟩:=zz6;obtain⟨m',hm,w8⟩:=hN _ _ _ q8;obtain⟨t8,f8,o8,d8⟩:=again I8;have hlen:=rv3.length;refine wpAny_list_append_plain (s:=s8) (items:=I.toArray) ⟨k,o8⟩ (λh9 zz7 sb9=>?_) (by rw[Yn];omega);obtain⟨k9,l9⟩:=zz7
    have I9:Inv Xc (X.pn++pins) σ6 H8 {s8 with heap:=h9}:=by
     refine I8.unpinned.unpinned.turned (t':=s8.toks) (λb o f e=>(sb9.2 b f).trans e) d8 ?_ (.inr ?_) (λx c e=>?_) λp hp=>?_
     ·exact hDC
     ·show Q.heap.objs.size<=D;rw[L];exact Yr _
     ·exact Ys (celt x c (B.sub x c e))
     ·exact Ys (R p (by simpa[Xc,cxB]using hp))
    refine⟨m',hm,i+1,σ6,H8,ys++[yv],I++[y],k9,I9,?_,f8,d8,?_,rv3.append (.cons r8 .nil),?_,w8⟩
    ·refine T.keep _ _ _ t8 λb f o e=>?_;exact(sb9.2 b (Ys (Y b f))).trans e
    ·rw[l9];simp
    ·rw[Yj,List.length_singleton];omega
 have env_eq:Xc.env=compEnvC scope cl C X.env:=rfl;exact codeAny_compStart_list (loop _) (T.self _ 0 _ _ _ (T.keep _ _ _ st2 λb _ o e=>U b o e) (loop _))
theorem NV{f:TI}(hc:X.calm=true)(hi:PI X tg iter f)(B:Blk X Nc scope cl cap)(P:∀ C a s H,PG (cxB X Nc scope cl C a s H) tg g)(t:∀ C a s H,PF (cxB X Nc scope cl C a s H) ifs tt)(k:∀ C a s H,PE (cxB X Nc scope cl C a s H) elt te)
  (n:∀ x,foldedSetIterable iter X.env x=pure x:=by intro _;rfl):PE X (.ListComp elt [⟨tg,iter,ifs,0⟩] scope pos) (JO f cap g tt te):=by
 intro pins s σ H Q I h;rw[eval_ListComp];refine wpAny_comprehension_free (use:=none) rfl n B.clos B.kind B.names (thn (hi pins s σ H _ I h) λv U h1=>thn h1 λE Z h2=>?_);obtain⟨it,a,Y,J,H2,e,j,T,d,l,N⟩:=h2;subst e;refine aX (RR:=λc C=>compPost (model X.prog X.w) X.A X.xe none (EP X pins σ Q) c C) hc B P t k j T d l N ?_;intro D C s' H' ys R L q y F S dC ⟨m,r⟩;obtain⟨O,u,_,p,i,K⟩:=F;exact⟨m,r,λh' z=>⟨.ref D,_,y.turned (t':=s'.toks) (λb o G e=>(z.2 b G).trans e) O u p i K,rfl,q D L⟩⟩
end
variable {P:Program}{w:World}{H:Hp}{h:Heap}{o:HO}
theorem ObjOk.at{a:Addr}(x:ObjOk P w H h a o):∃ u,h.get? a=some u:=by
 cases o with
 | lst xs=>obtain⟨_,_,_,_,e⟩:=x;exact⟨_,e⟩
 | tup xs=>obtain⟨_,_,_,c,e,_⟩:=x;exact⟨_,e⟩
 | dK b=>obtain⟨_,_,_,_,o,_,_,e,_⟩:=x;exact⟨_,e⟩
 | dT b=>obtain⟨_,_,_,_,o,_,_,e,_⟩:=x;exact⟨_,e⟩
 | set S n=>obtain⟨o,_,_,_,e,_⟩:=x;exact⟨_,e⟩
 | ins C dx fs=>obtain⟨_,_,_,e,_⟩:=x;exact⟨_,e⟩
 | own y=>obtain⟨_,e⟩:=x;exact⟨_,e⟩
 | xd fs=>obtain⟨_,⟨_,_,_,e,_⟩,_⟩:=x;exact⟨_,e⟩
 | rng lo hi=>obtain⟨_,_,_,e⟩:=x;exact⟨_,e⟩
 | frz c u=>obtain⟨e,_⟩:=x;exact⟨_,e⟩
 | tbl ps=>exact⟨_,(show h.get? a=some _ from x)⟩
 | met f y=>exact⟨_,(show h.get? a=some _ from x)⟩
 | ext φ=>obtain⟨_,⟨_,e⟩,_⟩:=x;exact⟨_,e⟩
structure Fly(P:Program)(w:World)(outer:List Env)(H0:Hp)(s0:Shared)(H':Hp)(e C:Addr)(s':Shared):Prop where
 os:s'.os=s0.os
 bare:AllBare s'.gens
 un:Un (frs outer) [] H0 H' s0.heap s'.heap
 hok:HOk P w H' s'.heap
 fly:∃(B:Heap)(a0:Value),Heap.FlyingW B outer e (.ref C) a0 s'.heap/\∀ b,b∉frs outer->((∃ o,s0.heap.get? b=some o)\/H' b≠none)->∃ o,B.get? b=some o
 new:s0.heap.get? e=none
 free:H' e=none
def CXe(P:Program)(w:World):CXT:=λouter H0 s0 E ev s'=>∃(e C:Addr)(H':Hp),ev=.ref e/\Fly P w outer H0 s0 H' e C s'/\E (.ref C) none H'
variable {outer:List Env}{h1 h':Heap}
theorem NW{s H':Hp}{i B:Heap}(un:Un (frs outer) [] s H' i h1)(hok:HOk P w H' h1)(d:∀ b∈frs outer,H' b=none)
  (r:∀ b∈frs outer,∃ o,h1.get? b=some o/\∀ vs,o.data≠.fields vs) (y:B.StaysIn h1) (p:∀ b,b∉frs outer->((∃ o,i.get? b=some o)\/H' b≠none)->∃ o,B.get? b=some o)
  (st:B.StaysIn h') (up:h1.UpToSlots h'):Un (frs outer) [] s H' i h'/\HOk P w H' h':=by
 have exact_:∀ b o,b∉frs outer->((∃ o,i.get? b=some o)\/H' b≠none)->h1.get? b=some o->h'.get? b=some o:=λb o c k e=>by
  obtain⟨o',t⟩:=p b c k;have:=y b o' t;rw[e]at this;cases this;exact st b _ t
 refine⟨⟨λb o q n c f=>exact_ b o c (.inl ⟨o,q⟩) (un.keep b o q n c f),λb o q n c f=>?_,un.free,λb o q f=>?_,un.tups,un.frzs,un.tbls⟩,λa o e=>?_⟩
 ·obtain⟨A,j⟩:=un.slot b o q n c f;obtain⟨x,h,l⟩:=r b c;rw[j]at h;cases h;obtain⟨g,m⟩:=up b _ j l;exact⟨g,m⟩
 ·obtain⟨o',j⟩:=un.there b o q f;by_cases c:b∈frs outer
  ·obtain⟨x,h,l⟩:=r b c;obtain⟨g,m⟩:=up b _ h l;exact⟨_,m⟩
  ·exact⟨o',exact_ b o' c (.inl ⟨o,q⟩) j⟩
 ·refine(hok a o e).stay (λb u c q=>?_) (λ_ q=>q) λ_ _ q=>q
  have v:H' b≠none:=by
   rcases c with rfl | c
   ·rw[e];simp
   ·rw[c];simp
  exact exact_ b u (λz=>v (d b z)) (.inr v) q
section
variable {X:Cx} {pins:List (Addr×Obj)} {σ:St} {H H':Hp} {s s':Shared} {e C:Addr}
theorem Fly.inv(I:Inv X pins σ H s)(F:Fly X.prog X.w X.stack H s H' e C s'){B:Heap}{g:Value}(f:Heap.FlyingW B X.stack e (.ref C) g s'.heap)
  (d:∀ b,b∉frs X.stack->((∃ o,s.heap.get? b=some o)\/H' b≠none)->∃ o,B.get? b=some o) (st:B.StaysIn h') (up:s'.heap.UpToSlots h'):Inv X pins σ H' {s' with heap:=h'}:=by
 have a:∀ b∈frs X.stack,H' b=none:=λb c=>by
  obtain⟨_,o,h,_⟩:=I.stack.mem c;exact F.un.free b o h (I.stkFree b c) (by simp)
 obtain⟨u,k⟩:=NW F.un F.hok a (λb c=>(f.2.2.1.mem c).2) f.1 d st up;exact I.call' (s':={s' with heap:=h'}) (ch:=[]) F.os u k F.bare (λb z=>absurd z (by simp))
end
variable {K:PySem.W.Frag}{mg:Str->Option Value}{base:Heap}{N:List Str}{qual:Str}{f:Addr}{cd:Value}{A:Around}{s:Shared}{E:XK}
theorem aY:
  ZS (CXe P w) (Bj (CXe P w) P w K mg base N qual scope f cd A outer s H E) E:=by
 intro pins σ Hc r ev s' I ⟨e,C,H',p,F,q⟩;subst p;obtain⟨B,n,l,h⟩:=F.fly;show wpAny _ _ (leaving _ (.ref e)) _ _ s';refine wpAny_leaves_onW I.ok.frames rfl l λh' g up=>?_;have c:=F.inv I l h g.1 up;refine⟨e,C,H',rfl,⟨c.os,c.bare,c.base,c.hok,⟨B,n,g,λb m d=>?_⟩,?_,F.free⟩,q⟩
 ·have k:b∉frs (Bj (CXe P w) P w K mg base N qual scope f cd A outer s H E).stack:=λz=>by
   rcases Yo.mp (c.stkSub b z)with a | a
   ·rcases d with⟨o,j⟩| i
    ·have h1:=Qn j;have h2:=I.ok.above;rw[a]at h1;exact absurd (Yu h1 h2) (YM _)
    ·rw[a]at i;exact i c.free
   ·exact m a
  refine h b k ?_;rcases d with⟨o,j⟩| i
  ·exact .inl (I.base.there b o j (by intro z;cases z))
  ·exact .inr i
 ·cases z:s.heap.get? e with
  | none=>rfl
  | some o =>
   obtain⟨o',a⟩:=I.base.there e o z (by intro z;cases z);rw[F.new]at a;cases a
variable {pins:List (Addr×Obj)}{σ:St}{e:Addr}
theorem aZ
     {g:Shared}  {C:Addr} {vs:List Value} (I:Inv (Bj (CXe P w) P w K mg base N qual scope f cd A outer s H E) pins σ Hc g) (i:Heap.MadeExcOf g.heap h1 e (.ref C) vs) (q:E (.ref C) none Hc):
  (Bj (CXe P w) P w K mg base N qual scope f cd A outer s H E).xe (.ref e) {g with heap:=h1}:=by
 have p:∀ env∈(Bj (CXe P w) P w K mg base N qual scope f cd A outer s H E).stack,∀ b,env.frame=some b->b∈frs (Bj (CXe P w) P w K mg base N qual scope f cd A outer s H E).stack:=λenv B b h=>List.mem_filterMap.mpr ⟨env,B,h⟩;show wpAny _ _ (leaving _ (.ref e)) _ _ _;refine wpAny_leaves_madeW (base:=PySem.W.hideAll g.heap (frs (Bj (CXe P w) P w K mg base N qual scope f cd A outer s H E).stack)) I.ok.frames rfl (λb o z=>PySem.W.of_hideAll _ z) (PySem.W.funFrames_hide I.stack p) i λh' t v y x up=>?_
 have m:∀ b,b∉frs (Bj (CXe P w) P w K mg base N qual scope f cd A outer s H E).stack->((∃ o,g.heap.get? b=some o)\/Hc b≠none)->∃ o,(PySem.W.hideAll g.heap (frs (Bj (CXe P w) P w K mg base N qual scope f cd A outer s H E).stack)).get? b=some o:=λb h c=>by
  have:∃ o,g.heap.get? b=some o:=by
   rcases c with z | z
   ·exact z
   ·cases a:Hc b with
    | none=>exact absurd a z
    | some o=>exact(I.hok b o a).at
  obtain⟨o,j⟩:=this;exact⟨o,PySem.W.hideAll_get _ j h⟩
 obtain⟨u,k⟩:=NW (P:=P) (w:=w) (Un.kept i.keeps) (I.hok.kept i.keeps) I.stkFree (λb h=>by
  obtain⟨_,o,j,d⟩:=I.stack.mem h;exact⟨o,i.keeps _ _ j,d⟩) (λb o z=>i.keeps _ _ (PySem.W.of_hideAll _ z)) m v.1 up
 have l:=I.call' (s':={g with heap:=h'}) (ch:=[]) rfl u k I.bare (λb z=>absurd z (by simp))
 have en:Hc e=none:=by
  cases z:Hc e with
  | none=>rfl
  | some o =>
   obtain⟨o',a⟩:=(I.hok e o z).at
   rw[i.new]at a;cases a
 refine⟨e,C,Hc,rfl,⟨l.os,l.bare,l.base,l.hok,⟨_,_,v,λb h c=>?_⟩,?_,en⟩,q⟩
 ·have r:b∉frs (Bj (CXe P w) P w K mg base N qual scope f cd A outer s H E).stack:=λz=>by
   rcases Yo.mp (l.stkSub b z)with a | a
   ·rcases c with⟨o,j⟩| n
    ·have h1:=Qn j;have h2:=I.ok.above;rw[a]at h1;exact absurd (Yu h1 h2) (YM _)
    ·rw[a]at n;exact n l.free
   ·exact h a
  refine m b r ?_;rcases c with⟨o,j⟩| n
  ·exact .inl (I.base.there b o j (by intro z;cases z))
  ·exact .inr n
 ·cases z:s.heap.get? e with
  | none=>rfl
  | some o =>
   obtain⟨o',a⟩:=I.base.there e o z (by intro z;cases z);rw[i.new]at a;cases a
theorem a5{C:Addr}{d:List Value}{a:String}(X:K.In h)(q:PySem.W.excIn K C d a=true):
  ∃ bm N nm q bs hdct sn sub ab col dd k0 k1 k2 k3 k5 mN,h.get? C=some (excClassObj nm q C N bs bm hdct sn sub ab col dd k0 k1 k2 k3 k5 a)/\h.Ns N mN/\mN "__init__"=none/\OwnTail h d bm:=by
 unfold PySem.W.excIn at q;split at q
 ·rename_i dd cd i o;split at q
  ·rename_i p bm k0 k1 k2 k3 n k5 f g;simp only[YH,beq_iff_eq,Bool.not_eq_true']at q;obtain⟨⟨⟨⟨⟨rfl,rfl⟩,b⟩,j⟩,hok⟩,c⟩:=q;obtain⟨nm,bs,mro,ns,m,hd,sn,sub,ab,col,k⟩:=cd;dsimp only at f b hok c;subst f b
   have e:i=#[k0,k1,k2,k3,some (.builtin n),k5]:=by
    obtain⟨l⟩:=i;simp only at g;rw[g]
   subst e;exact⟨bm,ns,nm,m,bs,hd,sn,sub,ab,col,dd,k0,k1,k2,k3,k5,_,X _ _ o,.of_isNs (PySem.W.isNs_of_in X hok),PySem.W.nsMap_none_of_in X hok c,PySem.W.tail_of_in X j⟩
  ·cases q
 ·cases q
def a6(C:Addr)(E:XK)(t:TA):TS:=λ_ σ H=>t σ H λvs H1=>vs.length<=sizeLine/\E (.ref C) none H1
section
variable {P:Program} {w:World} {K:PySem.W.Frag} {mg:Str->Option Value} {base:Heap} {N:List Str} {qual:Str} {scope:Scope} {f:Addr} {cd:Value} {A:Around} {outer:List Env} {s:Shared} {H:Hp} {E:XK}
theorem a7{C:Addr}{B b initId:String}{bm:List Value}{l cpos pos:Pos}{a:Expr}{Aw:List Expr}{t:TA}
  (z:Gl (Bj (CXe P w) P w K mg base N qual scope f cd A outer s H E) x) (m:mg x=some (.ref C)) (q:PySem.W.excIn K C bm b=true) (FB:ExcBaseFacts B b initId bm)
  (n:PA (Bj (CXe P w) P w K mg base N qual scope f cd A outer s H E) (a::Aw) t)
  (k:starEach (a::Aw) (Bj (CXe P w) P w K mg base N qual scope f cd A outer s H E).env=(false,eval a (Bj (CXe P w) P w K mg base N qual scope f cd A outer s H E).env)::starEach Aw (Bj (CXe P w) P w K mg base N qual scope f cd A outer s H E).env:=by rfl)
  (hplain:(backTo cpos (starEach Aw (Bj (CXe P w) P w K mg base N qual scope f cd A outer s H E).env)).any (·.1)=false:=by rfl) (hd:(x==("__debug__":Str))=false:=by decide):
  PS (Bj (CXe P w) P w K mg base N qual scope f cd A outer s H E) (.Raise (some (.Call (.Name x l) (a::Aw) [] cpos)) none pos) (a6 C E t):=by
 intro pins v σ Hc D I h;obtain⟨tl,r,nm,p,bs,hdct,sn,sub,ab,col,dd,k0,k1,k2,k3,k5,mN,o,y,i,T⟩:=a5 I.ok.mod.kin q
 refine wpAny_Raise_call_subT (C:=C) (nm:=nm) (q:=p) (N:=r) (bs:=bs) (bm:=tl) (hdct:=hdct) (sn:=sn) (sub:=sub) (ab:=ab) (col:=col) (dd:=dd) (k0:=k0) (k1:=k1) (k2:=k2) (k3:=k3) (k5:=k5)
  FB (mN:=mN) (T.hasType FB.hasBase) (I.ok.hd rfl) (by rw[k];show(false||(backTo cpos (starEach Aw _)).any (·.1))=false;rw[hplain];rfl) i (EI I z m ⟨rfl,?_⟩ hd)
 have c:=n cpos pins v σ Hc _ I h;rw[k]at c ⊢;refine Calls.evalArgs_plain (thn c λu J j=>?_);obtain⟨F,H1,d,r1,G,q1⟩:=j;exact⟨rfl,by have:=r1.length;show u.length<=_;omega,d.bk _ _ o,y.keeps d.bk,T.keeps d.bk,λh' e g=>aZ d g q1⟩
end
variable {D:Addr}
theorem a8{M:Model}{E:Value->Shared->Prop}{C:Addr}{i:Obj}{b:Bool}{Q:Bool->Shared->Prop}(X:K.In s.heap)(l:s.heap.get? e=some i)(a:i.cls=.ref C)
  (v:PySem.W.typeIn K (.ref D)=some (.type "type")) (f:(PySem.W.clsIn K D).isSome=true) (o:PySem.W.subIn K (.ref D) (.type "BaseException")=some true) (n:PySem.W.subIn K (.ref C) (.ref D)=some b) (h:Q b s):
  wpAny M A (excMatches (.ref e) (.ref D)) Q E s:=by
 obtain⟨c,g,d,t,os⟩:=s;have x:PySem.W.Looks M c (isInstance (.ref D) (.type "tuple")) false:=(PySem.W.looks_typeIn X v).andThen (PySem.W.Looks.of_pure tc_notTuple)
 have j:PySem.W.Looks M c (isType (.ref D)) true:=by
  unfold PySem.W.clsIn at f;split at f
  ·rename_i F H m w p;intro G z B s' k q;unfold isType loadHead;exact wpAny_bind (wpAny_loadPart (k _ _ (X _ _ p)) (wpAny_pure q))
  ·cases f
 have r:PySem.W.Looks M c (isExcClass (.ref D)) true:=by
  unfold isExcClass;refine j.andThen ?_;rw[if_pos rfl];exact PySem.W.looks_subIn X o
 have y:PySem.W.Looks M c (typeOf (.ref e)) (.ref C):=by
  rw[<- a];exact(PySem.W.Looks.ld l).andThen .now
 have u:=PySem.W.looks_subIn (M:=M) X n;unfold excMatches;refine wpAny_bind (x.at ?_);rw[if_neg YY];show wpAny M A (forIn [Value.ref D] PUnit.unit _ >>=_) Q E _;rw[List.forIn_cons];refine wpAny_bind (wpAny_bind (wpAny_bind (r.at ?_)));rw[if_neg (by decide)];refine wpAny_pure ?_;refine wpAny_pure ?_;refine wpAny_bind (y.at ?_);rw[List.forIn_cons];refine wpAny_bind (wpAny_bind (wpAny_bind (u.at ?_)));cases b with
 | true =>
  rw[if_pos rfl];exact wpAny_pure (wpAny_pure (wpAny_pure h))
 | false =>
  rw[if_neg YY];exact wpAny_pure (wpAny_pure (wpAny_pure h))
variable {i:Nat}{n:Str}
theorem Inv.gone{w:Option Value}{m:Str->Option Value}(I:Inv X pins σ H s)(L:X.N.Nodup)(hi:X.N[i]?=some n)
  (P:s.heap.Ns X.env.locals m) (hl:∀(i:Nat)(x:Str)(v:V),X.N[i]?=some x->σ[i]?=some (some v)->Vis X.env.scope x->∃ u,RelV v u/\M8 X.env s.heap m x u) (t:h'.Ns X.env.locals (λx=>if x=n then w else m x)) (a:Heap.SameBut X.env.locals s.heap h'):
  Inv X pins (σ.set i none) H {s with heap:=h',toks:=tk}:=by
 have cne:=I.cne;have hiσ:i < σ.length:=by rw[I.len];exact(Qc.mp hi).1
 refine⟨I.ok,I.os,I.bare,⟨λb o e n l g=>?_,λb o e n l g=>?_,I.base.free,λb o e g=>?_,I.base.tups,I.base.frzs,I.base.tbls⟩,⟨_,t,λj y O f h F=>?_⟩,λy c e=>?_,I.free,I.freeC,λp G=>?_,λb J e=>?_,by simpa using I.len⟩
 ·exact(a.2 b (Ys (Yu (Qn e) I.ok.above))).trans (I.base.keep b o e n l g)
 ·obtain⟨K,f⟩:=I.base.slot b o e n l g;exact⟨K,(a.2 b (Ys (Yu (Qn e) I.ok.above))).trans f⟩
 ·obtain⟨o',f⟩:=I.base.there b o e g;exact⟨o',(a.2 b (Ys (Yu (Qn e) I.ok.above))).trans f⟩
 ·by_cases r:j=i
  ·subst r;rw[List.getElem?_set_self hiσ]at h;cases h
  ·rw[List.getElem?_set_ne (Qa r)]at h;obtain⟨D,r',q⟩:=hl j y O f h F;refine⟨D,r',?_⟩;rcases q with⟨k,e⟩|⟨k,c,e,z⟩
   ·refine .inl ⟨k,?_⟩;have:y≠n:=λe=>r (Jp L f (e▸hi));simp[this,e]
   ·exact .inr ⟨k,c,e,z.sameBut a (cne y c e)⟩
 ·obtain⟨A,z⟩:=I.cell y c e;exact⟨A,z.sameBut a (cne y c e)⟩
 ·obtain⟨e,n,B,E,d⟩:=I.pin p G;exact⟨(a.2 p.1 B).trans e,n,B,E,d⟩
 ·refine(I.hok b J e).stay (λc A hc q=>(a.2 c ?_).trans q) (λ_ q=>q) λ_ _ q=>q;rintro rfl;rcases hc with hc | hc
  ·rw[<- hc,I.free]at e;cases e
  ·rw[I.free]at hc;cases hc
theorem Inv.track(I:Inv X pins σ H s)(h:H e=none)(l:e≠X.env.locals)(hc:∀ x c,X.env.cells.lookup x=some c->c≠e)(k:∀ p∈X.pn++pins,p.1≠e)
  (j:X.s₀.heap.get? e=none) (ok:ObjOk X.prog X.w (upd H e o) s.heap e o):Inv X pins σ (upd H e o) s:=by
 have a:∀ b u,H b=some u->upd H e o b=some u:=λb u z=>by rw[AX (Dw z h)];exact z
 refine⟨I.ok,I.os,I.bare,⟨I.base.keep,I.base.slot,λb f z n i=>?_,I.base.there,λb xs z=>a _ _ (I.base.tups b xs z),λb f u z=>a _ _ (I.base.frzs b f u z),λb ps z=>?_⟩,I.loc,I.cell,?_,λx c z=>?_,λp z=>?_,λb u z=>?_,I.len⟩
 ·rw[AX (λq=>by rw[q,j]at z;cases z)];exact I.base.free b f z n i
 ·obtain⟨d,q⟩:=I.base.tbls b ps z;exact⟨d,a _ _ q⟩
 ·rw[AX (Qa l)];exact I.free
 ·rw[AX (hc x c z)];exact I.freeC x c z
 ·obtain⟨q1,q2,q3⟩:=I.pin p z;exact⟨q1,by rw[AX (k p z)];exact q2,q3⟩
 ·by_cases g:b=e
  ·subst g;rw[BL]at z;cases z;exact ok
  ·rw[AX g]at z;exact(I.hok b u z).stay (λ_ _ _ q=>q) (λc q=>a _ _ q) λc xs q=>a _ _ q
def cxH(X:Cx)(e:Addr):Cx:={X with A:=X.A.mark (some (.ref e)),calm:=false,xe:=λ_ _=>False}
theorem Inv.toH(I:Inv X pins σ H s):Inv (cxH X e) pins σ H s :=
 ⟨⟨I.ok.mod,I.ok.kind,I.ok.glob,I.ok.blt,I.ok.above,I.ok.inj,I.ok.has,I.ok.cab,(λz=>by cases z),I.ok.frames,I.ok.stk,I.ok.exf,I.ok.bs,I.ok.bsz,I.ok.noex,I.ok.exfs,I.ok.funs,I.ok.frf⟩,I.os,I.bare,I.base,I.loc,I.cell,I.free,I.freeC,I.pin,I.hok,I.len⟩
theorem Inv.ofH(ok:X.Ok)(I:Inv (cxH X e) pins σ H s):Inv X pins σ H s :=
 ⟨ok,I.os,I.bare,I.base,I.loc,I.cell,I.free,I.freeC,I.pin,I.hok,I.len⟩
def cxT(X:Cx)(pn:List (Addr×Obj))(xe:Value->Shared->Prop):Cx:={X with pn:=pn,xe:=xe}
variable {xe:Value->Shared->Prop}
theorem Inv.toT(I:Inv X pins σ H s):Inv (cxT X (X.pn++pins) xe) [] σ H s :=
 ⟨⟨I.ok.mod,I.ok.kind,I.ok.glob,I.ok.blt,I.ok.above,I.ok.inj,I.ok.has,I.ok.cab,I.ok.hd,I.ok.frames,I.ok.stk,I.ok.exf,I.ok.bs,I.ok.bsz,I.ok.noex,I.ok.exfs,I.ok.funs,I.ok.frf⟩,I.os,I.bare,I.base,I.loc,I.cell,I.free,I.freeC,(λp a=>I.pin p (by simpa[cxT]using a)),I.hok,I.len⟩
theorem Inv.ofT{a:List (Addr×Obj)}(ok:X.Ok)(I:Inv (cxT X (X.pn++pins) xe) a σ H s):Inv X pins σ H s :=
 ⟨ok,I.os,I.bare,I.base,I.loc,I.cell,I.free,I.freeC,(λp b=>I.pin p (YO _ b)),I.hok,I.len⟩
def Cp(e C:Addr):Heap->Prop:=λh=>∃ ox,h.get? e=some ox/\ox.cls=.ref C
def Fu(CX:CXT)(X:Cx)(Eσ:St->XK):Prop:=∀(pins:List (Addr×Obj))(σ:St)(H:Hp)(s:Shared)(e:Value)(s':Shared),Inv X pins σ H s->CX X.stack H s (Eσ σ) e s'->X.xe e s'
def a9(K:PySem.W.Frag)(D:Addr)(i:Nat)(tb:(St->XK)->TS)(th:TS):TS:=λDn σ H=>
 tb (λσ' Cv _ H'=>∃ C,Cv=.ref C/\PySem.W.subIn K (.ref C) (.ref D)=some true/\∀ e,H' e=none->
  th {nx:=λσ2 H2=>Dn.nx (σ2.set i none) H2,rt:=Dn.rt,bk:=λσ2 H2=>Dn.bk (σ2.set i none) H2,ct:=λσ2 H2=>Dn.ct (σ2.set i none) H2} (σ'.set i (some (.ref e))) (upd H' e (.ext (Cp e C)))) Dn σ H
variable {body:List Stmt}
theorem ba{d:List Stmt}{b0:Stmt}{np E:Pos}{tb:(St->XK)->TS}{th:TS}(hN:X.N.Nodup)(hi:X.N[i]?=some n)(hn:X.env.scope.names.lookup n=some .local)
  (frm:X.stack=X.env::X.outer) (frl:X.env.frame=some X.env.locals) (hex:X.ex=[]) (hgx:Gl X x) (hmx:X.mg x=some (.ref D)) (hD:PySem.W.typeIn X.K (.ref D)=some (.type "type")) (hT:(PySem.W.clsIn X.K D).isSome=true) (hB:PySem.W.subIn X.K (.ref D) (.type "BaseException")=some true)
  (hb:∀(Eσ:St->XK)(pn:List (Addr×Obj))(xe:Value->Shared->Prop),Fu (CXe X.prog X.w) (cxT X pn xe) Eσ->PSs (cxT X pn xe) body (tb Eσ)) (hh:∀ e,PSs (cxH X e) (b0::d) th) (hdb:(x==("__debug__":Str))=false:=by decide):
  PS X (.Try body [.ExceptHandler (some (.Name x np)) (some n) (b0::d) E] [] [] pos) (a9 X.K D i tb th):=by
 intro pins s σ H Dn I h;refine wpAny_Try_except ?_
 let T:Value->Shared->Prop:=λev t=>wpAny (model X.prog X.w) X.A (noteFrame ev X.env) (λ_ s₂=>wpAny (model X.prog X.w) X.A (setFlight ev none) (λ_ s₃=>
  wpAny (model X.prog X.w) X.A (handleBy ev X.env [.ExceptHandler (some (.Name x np)) (some n) (b0::d) E]) (SP X pins Dn) X.xe s₃) X.xe s₂) X.xe t
 have ok:=I.ok;refine wpAny_mono (hb _ (X.pn++pins) T ?_ [] s σ H Dn I.toT h) (λf t q=>?_) (λev t q=>q)
 ·intro pins' σ' H' s' ev y I2 hcx;obtain⟨e,C,H2,rfl,F,C',eC,hsub,q⟩:=hcx;cases eC;show T (.ref e) y;obtain⟨B,a0,fl,cov⟩:=F.fly;have fr:X.A.frames=some (X.env::X.outer):=by rw[<- frm];exact ok.frames
  have fl':Heap.FlyingW B (X.env::X.outer) e (.ref C) a0 y.heap:=by rw[<- frm];exact fl
  refine wpAny_looks_onW fr frl fl' λh₄ J L=>?_;refine wpAny_landsW J λh₅ g G=>?_;have I5:Inv X pins σ' H2 {y with heap:=h₅}:=Inv.ofT ok (F.inv I2 fl cov g.1 (L.trans G));obtain⟨ob,hob,hobc⟩:=g.there;refine wpAny_handleBy_cons (codeAny_handlers_test (EI (X:=cxH X e) I5.toH hgx hmx ?_ hdb)) (by intro q;cases q);refine a8 I5.kIn hob hobc hD hT hB hsub ?_;refine codeAny_handlers_suite_as ?_;refine lands_againW g λR O S=>?_;have I6:Inv X pins σ' H2 {y with heap:=R}:=Inv.ofT ok (F.inv I2 fl cov O.1 ((L.trans G).trans S));have Z:∀ b o,s'.heap.get? b=some o->b≠e:=λb o z w=>by rw[w,F.new]at z;cases z
  obtain⟨oe,hoe,hoec⟩:=O.there
  have I7:Inv X pins σ' (upd H2 e (.ext (Cp e C))) {y with heap:=R}:=by
   refine I6.track F.free ?_ (λx c z=>?_) (λp z=>?_) ?_ ⟨⟨oe,hoe,hoec⟩,⟨oe,hoe⟩,(by rintro g1 g2 ⟨ox,z1,z2⟩ k;exact⟨ox,k _ z1,z2⟩)⟩
   ·obtain⟨m,hm,_⟩:=I2.loc;obtain⟨o,es,ep,ho,_⟩:=hm;exact(Z _ _ ho).symm
   ·obtain⟨v,o,ho,_⟩:=I2.cell x c z;exact Z _ _ ho
   ·exact Z _ _ (I2.pin p (YO _ z)).1
   ·cases z:X.s₀.heap.get? e with
    | none=>rfl
    | some o =>
     obtain⟨o',e1⟩:=I2.base.there e o z (λw=>by
      have w':e∈X.ex:=w;rw[hex]at w';cases w')
     rw[F.new]at e1;cases e1
  refine Gr (X:=cxH X e) I7.toH hN hi (.inl hn) (v:=.ref e) rfl (λs8 I8=>?_) (.inr hn);refine wpAny_mono (hh e pins s8 _ _ _ I8 (q e F.free)) (λf s9 l=>?_) (λ_ _ z=>z.elim)
  have P:∀{σ9:St}{Y:Hp}{K9:Shared->Prop},Inv (cxH X e) pins σ9 Y s9->(∀ a,Inv X pins (σ9.set i none) Y a->K9 a)->
    wpAny (model X.prog X.w) X.A (do bindName X.env n .none;unbindBehindTheSuite X.env n E) (λ_ a=>K9 a) X.xe s9:=λ{σ9 Y K9}Q k9=>by
   have I9':=Inv.ofH ok Q;obtain⟨m,hm,hl⟩:=id I9'.loc;refine wpAny_nameGoes_keeps hn hm (by rw[ok.kind];rfl) λh' v hn' hs=>k9 _ (I9'.gone hN hi hm hl hn' hs)
  cases f with
  | next=>obtain⟨σ9,Y,Q,l⟩:=l;exact P Q λa j=>⟨_,_,j,l⟩
  | brk=>obtain⟨σ9,Y,Q,l⟩:=l;exact P Q λa j=>⟨_,_,j,l⟩
  | cont=>obtain⟨σ9,Y,Q,l⟩:=l;exact P Q λa j=>⟨_,_,j,l⟩
  | ret u=>obtain⟨v,σ9,Y,Q,r9,l⟩:=l;exact P Q λa j=>⟨v,_,_,j,r9,l⟩
 ·cases f with
  | next=>obtain⟨σ',H',U,q⟩:=q;exact wpAny_execs_nil ⟨σ',H',Inv.ofT ok U,q⟩
  | brk=>obtain⟨σ',H',U,q⟩:=q;exact⟨σ',H',Inv.ofT ok U,q⟩
  | cont=>obtain⟨σ',H',U,q⟩:=q;exact⟨σ',H',Inv.ofT ok U,q⟩
  | ret u=>obtain⟨v,σ',H',U,r,q⟩:=q;exact⟨v,σ',H',Inv.ofT ok U,r,q⟩
def NX(sp:Sp)(dvs:List V)(Eσ:St->XK)(t:TA):TE:=λσ H Q=>t σ H λvs H1=>sp (vs++dvs) H1 Q (Eσ σ)
section
variable {X:Cx} {CX:CXT} {k:Nat} {f:Addr} {fd:FuncData} {ps:List Str} {sp:Sp} {dvs:List V} {ds:List Value} {Eσ:St->XK} {x:Str} {p pos:Pos} {e:Expr} {es:List Expr} {t:TA}
theorem bb(F:FnOk X.prog X.w X.K X.mg X.base CX k f fd ps sp)(m:Room k X.A)(E:Gl X x)(v:X.mg x=some (.ref f))(B:PySem.W.keepIn X.K (.ref f)=true)(o:Binds X.K fd ps ds)(hd:Vals dvs ds)(z:Fu CX X Eσ)
  (y:PA X (e::es) t) (d:(x==("__debug__":Str))=false:=by decide) (D:starEach (e::es) X.env=(false,eval e X.env)::starEach es X.env:=by rfl) (g:(backTo pos (starEach es X.env)).any (·.1)=false:=by rfl):
  PE X (.Call (.Name x p) (e::es) [] pos) (NX sp dvs Eσ t):=by
 intro pins s σ H Q I h;refine wpAny_Call_Name_kw (EI I E v ?_ d);refine PySem.W.callWith_K (h₀:=X.base) I.ok.mod.kin B (thn (y pos pins s σ H _ I h) λc i⟨l,H1,b,r,q⟩=>⟨b.kIn,?_⟩) D g;have j:Vals (l++dvs) (c++ds):=r.append hd;have hl:(c++ds).length=ps.length:=by rw[<- j.length];exact F.len _ _ _ _ q
 refine wpAny_call (codeAny_mono (F.run X.A X.stack i H1 ⟨c,[]⟩ (c++ds) (l++dvs) Q (Eσ σ) m b.env0 (o i c b.kIn hl) j q) λr s' a=>?_);cases r with
 | error e=>exact z pins σ H1 i e s' b a
 | ok n =>
  cases n with
  | ret u=>exact b.after a
  | next=>exact Ql a
  | brk=>exact Ql a
  | cont=>exact Ql a
end
structure GF(k:Nat)(A:Around):Prop where
 dp:A.depth+3*k+5 < recursionLimit
 un:A.units+16*k+200 < cLine
structure JP(P:Program)(w:World)(K:PySem.W.Frag)(mg:Str->Option Value)(base:Heap)(CX:CXT)(k:Nat)(f:Addr)(fd:FuncData)(ps:List Str)(sp:Sp):Prop where
 len:∀ vs H Q E,sp vs H Q E->vs.length=ps.length
 run:∀(A:Around)(outer:List Env)(s:Shared)(H:Hp)(args:Args)(us:List Value)(vs:List V)(Q:VK)(E:XK),GF k A->Env0 P w K mg base A outer s H->BindsTo s fd args (ps.zip us)->Vals vs us->sp vs H Q E->
  codeAny (model P w) A (.call (.ref f) args) (CR CX outer P w H s Q E) s
def cxN(P:Program)(w:World)(K:PySem.W.Frag)(mg:Str->Option Value)(base:Heap)(N:List Str)(qual:Str)(scope:Scope)(f:Addr)(cd:Value)(A:Around)(outer:List Env)(s:Shared)(H:Hp):Cx :=
 {Bj CX0 P w K mg base N qual scope f cd A outer s H E0 with calm:=false,xe:=λ_ _=>False}
theorem bc{CX:CXT}{k:Nat}{name:Str}{params:Arguments}{O kV l pm cdv ct oc:Value}{G od:Option Addr}
  {F:Array (Option Value)} {ps:List Str} {sp:Sp} (U:K.lookup f=some ⟨oc,od,.func (PySem.W.fnOf name qual params body scope O kV l pm G cdv ct),F⟩) (p:PySem.W.codeIn K cdv qual=true) (S:Az N ps scope)
  (len:∀ vs H Q E,sp vs H Q E->vs.length=ps.length)
  (d:∀(A:Around)(outer:List Env)(s:Shared)(H:Hp)(vs:List V)(Q:VK)(E:XK),sp vs H Q E->∃ t,PSs (cxN P w K mg base N qual scope f cdv A outer s H) body t/\t {nx:=λ_ H'=>Q .non H',rt:=Q} (BU N vs) H):
  JP P w K mg base CX (k+1) f (PySem.W.fnOf name qual params body scope O kV l pm G cdv ct) ps sp:=by
 refine⟨len,λA outer s H L us vs Q E X c hb r j=>?_⟩;have hl:=len _ _ _ _ j;have KX:K.In s.heap:=c.mod.kin.keeps λb o e=>(c.bs b o e).1;have m:s.heap.NoLimit:=c.mod.nolimit.keeps λb o e=>(c.bs b o e).1
 have g:∀ y∈ps.zip us,scope.names.lookup y.1=some .local\/(scope.names.lookup y.1=some .cell/\((cellsFrom (s.heap.objs.size+1) scope.names []).lookup y.1).isSome=true):=by
  rintro⟨n,v⟩ hy;rcases S.par n (List.of_mem_zip hy).1 with q | q
  ·exact .inl q
  ·exact .inr ⟨q,PySem.W.cellsFrom_some _ _ _ (.inl q)⟩
 refine codeAny_call_function (by have:=X.dp;omega) (KX _ _ U) rfl S.co S.gen rfl (PySem.W.codeRec_of KX p) (hb _ _ _ _ ?_);refine wpAny_newFunctionEnv_cells S.kind g λenv T D x=>?_;subst T;refine⟨m.keeps x.toInCall.keep,codeAny_func ?_⟩;obtain⟨t,Y,Z⟩:=d A outer s H vs Q E j;have e1:Env0 P w K mg base {A with handled:=none} outer s H:=⟨c.frames,c.mod,c.bs,c.bsz,c.funs,c.frf,c.hok,c.bare⟩;have a:Inv (Bj CX0 P w K mg base N qual scope f cdv {A with handled:=none} outer s H E0) [] (BU N vs) H D:=Nw S rfl e1 hl r x
 have I:Inv (cxN P w K mg base N qual scope f cdv A outer s H) [] (BU N vs) H D :=
  ⟨⟨a.ok.mod,a.ok.kind,a.ok.glob,a.ok.blt,a.ok.above,a.ok.inj,a.ok.has,a.ok.cab,(λz=>by cases z),Around.frames_deeper c.frames,a.ok.stk,a.ok.exf,a.ok.bs,a.ok.bsz,a.ok.noex,a.ok.exfs,a.ok.funs,a.ok.frf⟩,a.os,a.bare,a.base,a.loc,a.cell,a.free,a.freeC,a.pin,a.hok,a.len⟩
 refine wpAny_mono (Y [] D (BU N vs) H _ I Z) (λR s' h=>?_) λe s' h=>h.elim
 have i:∀{σ':St}{H':Hp}{v:V}{u:Value},Inv (cxN P w K mg base N qual scope f cdv A outer s H) [] σ' H' s'->RelV v u->Q v H'->CE outer P w H s Q u s' :=
  λ{σ' H' v u}J B q=>⟨v,H',J.os,J.bare,J.base,J.hok,B,q⟩
 cases R with
 | ret u =>
  obtain⟨v,σ',H',J,B,q⟩:=h;exact i J B q
 | next =>
  obtain⟨σ',H',J,q⟩:=h;exact i (v:=V.non) (u:=Value.none) J rfl q
 | brk =>
  obtain⟨_,_,_,q⟩:=h;exact Ql q
 | cont =>
  obtain⟨_,_,_,q⟩:=h;exact Ql q
section
variable {X:Cx} {k:Nat} {f:Addr} {fd:FuncData} {ps:List Str} {sp:Sp} {x:Str} {p pos:Pos} {e:Expr} {es:List Expr} {t:TA}
theorem bd(F:JP X.prog X.w X.K X.mg X.base CX0 k f fd ps sp)(m:GF k X.A)(D:Gl X x)(v:X.mg x=some (.ref f))(z:PySem.W.keepIn X.K (.ref f)=true)(o:Binds X.K fd ps [])
  (y:PA X (e::es) t) (d:(x==("__debug__":Str))=false:=by decide) (B:starEach (e::es) X.env=(false,eval e X.env)::starEach es X.env:=by rfl) (g:(backTo pos (starEach es X.env)).any (·.1)=false:=by rfl):
  PE X (.Call (.Name x p) (e::es) [] pos) (ZR sp [] E0 t):=by
 intro pins s σ H Q I h;refine wpAny_Call_Name_kw (EI I D v ?_ d);refine PySem.W.callWith_K (h₀:=X.base) I.ok.mod.kin z (thn (y pos pins s σ H _ I h) λb l⟨j,H1,c,r,q⟩=>⟨c.kIn,?_⟩) B g;have i:Vals (j++[]) (b++[]):=r.append .nil;have hl:(b++[]).length=ps.length:=by rw[<- i.length];exact F.len _ _ _ _ q
 refine wpAny_call (codeAny_mono (F.run X.A X.stack l H1 ⟨b,[]⟩ (b++[]) (j++[]) Q E0 m c.env0 (o l b c.kIn hl) i q) λr s' a=>?_);cases r with
 | error e=>exact Ql a
 | ok n =>
  cases n with
  | ret u=>exact c.after a
  | next=>exact Ql a
  | brk=>exact Ql a
  | cont=>exact Ql a
end
end L2
namespace L3
open PySem PySem.Spec PyProof.Rows L2
abbrev St:=L2.St
inductive W where
 | non | bl (b:Bool)| int (i:Int)| str (x:Str)| tup (xs:List W)| rol (xs:List W)| ref (a:Addr)
inductive HW where
 | lst (xs:List W)| exc (C:Addr)| ins (C:Addr) (fs:List (Str×W))| dct (kvs:List (Key×W))
abbrev Sw:=List (Option W)
abbrev Hw:=Addr->Option HW
def put(H:Hw)(a:Addr)(o:HW):Hw:=λb=>if b=a then some o else H b
variable {a:Addr}{o:HW}
theorem Ak{H:Hw}:put H a o a=some o:=by unfold put;rw[if_pos rfl]
variable {b:Addr}
theorem Aj{H:Hw}(h:b≠a):put H a o b=H b:=by unfold put;rw[if_neg h]
section
variable (K:PySem.W.Frag)
def RoL(H:Hp)(a:Addr)(xs:List V):Prop:=(∃ o,H a=some (.frz o (.lst xs)))\/
 ∃(o:Obj)(its:Array Value)(n:Nat),K.lookup a=some o/\o.cls=.type "list"/\o.dict=none/\o.data=.seq its n/\its.size<=sizeLine/\Vals xs its.toList
theorem RoL.sq{H:Hp}{xs:List V}(h:RoL K H a xs):SqL K H a xs:=by
 rcases h with⟨o,h⟩| h
 ·exact .inl (.inr ⟨o,h⟩)
 ·exact .inr h
mutual
inductive Tr(H:Hp):V->W->Prop where
 | non:Tr H .non .non
 | bl (b:Bool):Tr H (.bl b) (.bl b)
 | int (i:Int):Tr H (.int i) (.int i)
 | str (x:Str):Tr H (.str x) (.str x)
 | tup {a:Addr} {vs:List V} {ws:List W}:SqT K H a vs->TrL H vs ws->Tr H (.ref a) (.tup ws)
 | rol {a:Addr} {vs:List V} {ws:List W}:RoL K H a vs->TrL H vs ws->Tr H (.ref a) (.rol ws)
 | ref (a:Addr):Tr H (.ref a) (.ref a)
inductive TrL(H:Hp):List V->List W->Prop where
 | nil:TrL H [] []
 | cons {v:V} {w:W} {vs:List V} {ws:List W}:Tr H v w->TrL H vs ws->TrL H (v::vs) (w::ws)
end
inductive TrP{α:Type}(H:Hp):List (α×V)->List (α×W)->Prop where
 | nil:TrP H [] []
 | cons {f:α} {v:V} {w:W} {vs:List (α×V)} {ws:List (α×W)}:Tr K H v w->TrP H vs ws->TrP H ((f,v)::vs) ((f,w)::ws)
structure Mono(H H':Hp):Prop where
 tup:∀ a vs,SqT K H a vs->SqT K H' a vs
 rol:∀ a vs,RoL K H a vs->RoL K H' a vs
def RelO2(H:Hp)(a:Addr):HW->Prop
 | .lst ws=>∃ vs,H a=some (.lst vs)/\TrL K H vs ws
 | .exc C=>H a=some (.ext (Cp a C))
 | .ins C ws=>∃ dx vs,H a=some (.ins C dx vs)/\TrP K H vs ws
 | .dct ws=>∃ vs,H a=some (.dK vs)/\TrP K H vs ws
def RelH(H:Hp)(G:Hw):Prop:=∀ a o,G a=some o->RelO2 K H a o
structure TrSt(H:Hp)(σ:St)(ω:Sw):Prop where
 len:σ.length=ω.length
 get:∀(i:Nat)(w:W),ω[i]?=some (some w)->∃ v,σ[i]?=some (some v)/\Tr K H v w
end
variable {K:PySem.W.Frag} {H H' H2:Hp}
theorem Mono.refl:Mono K H H:=⟨λ_ _ h=>h,λ_ _ h=>h⟩
theorem Mono.trans(m:Mono K H H')(c:Mono K H' H2):Mono K H H2:=⟨λa b h=>c.tup a b (m.tup a b h),λa b h=>c.rol a b (m.rol a b h)⟩
mutual
theorem Tr.mono(m:Mono K H H'){v:V}{w:W}(t:Tr K H v w):Tr K H' v w:=by
 cases t with
 | non=>exact .non
 | bl b=>exact .bl b
 | int i=>exact .int i
 | str x=>exact .str x
 | tup h l=>exact .tup (m.tup _ _ h) (TrL.mono m l)
 | rol h l=>exact .rol (m.rol _ _ h) (TrL.mono m l)
 | ref a=>exact .ref a
theorem TrL.mono(m:Mono K H H'){vs:List V}{a:List W}(t:TrL K H vs a):TrL K H' vs a:=by
 cases t with
 | nil=>exact .nil
 | cons h l=>exact .cons (Tr.mono m h) (TrL.mono m l)
end
theorem TrP.mono{α:Type}(m:Mono K H H'):∀{vs:List (α×V)}{a:List (α×W)},TrP K H vs a->TrP K H' vs a
 | _,_,.nil=>.nil
 | _,_,.cons r t=>.cons (r.mono m) (TrP.mono m t)
theorem RelO2.mono(m:Mono K H H')(e:H' a=H a):∀{o:HW},RelO2 K H a o->RelO2 K H' a o
 | .lst c,⟨b,z,t⟩=>⟨b,e.trans z,t.mono m⟩
 | .exc C,z=>(e.trans z:H' a=_)
 | .ins C c,⟨dx,b,z,t⟩=>⟨dx,b,e.trans z,t.mono m⟩
 | .dct c,⟨b,z,t⟩=>⟨b,e.trans z,t.mono m⟩
theorem RelO2.some:∀{o:HW},RelO2 K H a o->H a≠none
 | .lst b,⟨c,z,t⟩,q=>by rw[q]at z;cases z
 | .exc C,z,q=>by rw[show H a=_ from z]at q;cases q
 | .ins C b,⟨dx,c,z,t⟩,q=>by rw[q]at z;cases z
 | .dct b,⟨c,z,t⟩,q=>by rw[q]at z;cases z
variable {σ:St}{ω:Sw}
theorem TrSt.mono(m:Mono K H H')(t:TrSt K H σ ω):TrSt K H' σ ω:=⟨t.len,λi w e=>let⟨v,e',r⟩:=t.get i w e;⟨v,e',r.mono m⟩⟩
variable {v:V}{w:W}
theorem TrSt.set(t:TrSt K H σ ω)(i:Nat)(r:Tr K H v w):TrSt K H (σ.set i (some v)) (ω.set i (some w)):=by
 refine⟨by simp[t.len],λj u e=>?_⟩;by_cases h:i=j
 ·subst h;by_cases hl:i < ω.length
  ·rw[List.getElem?_set_self hl]at e;cases e;exact⟨v,List.getElem?_set_self (by rw[t.len];exact hl),r⟩
  ·rw[Qi (by simp;omega)]at e;cases e
 ·rw[List.getElem?_set_ne h]at e;obtain⟨a,b,r'⟩:=t.get j u e;exact⟨a,by rw[List.getElem?_set_ne h];exact b,r'⟩
theorem TrSt.unset(t:TrSt K H σ ω)(i:Nat):TrSt K H (σ.set i none) (ω.set i none):=by
 refine⟨by simp[t.len],λj u e=>?_⟩;by_cases h:i=j
 ·subst h;by_cases hl:i < ω.length
  ·rw[List.getElem?_set_self hl]at e;cases e
  ·rw[Qi (by simp;omega)]at e;cases e
 ·rw[List.getElem?_set_ne h]at e;obtain⟨a,b,r'⟩:=t.get j u e;exact⟨a,by rw[List.getElem?_set_ne h];exact b,r'⟩
theorem TrL.length:∀{vs:List V}{a:List W},TrL K H vs a->vs.length=a.length
 | _,_,.nil=>rfl
 | _,_,.cons _ t=>congrArg (·+1) t.length
theorem TrL.get:∀{vs:List V}{a:List W}{i:Nat}{w:W},TrL K H vs a->a[i]?=some w->∃ v,vs[i]?=some v/\Tr K H v w
 | _,_,_,_,.nil,e=>by simp at e
 | _,_,0,_,.cons r _,e=>by simp at e;subst e;exact⟨_,rfl,r⟩
 | _,_,i+1,w,.cons _ t,e=>by
  obtain⟨v,h1,h2⟩:=TrL.get (i:=i) (w:=w) t (by simpa using e);exact⟨v,by simpa using h1,h2⟩
theorem TrL.get':∀{vs:List V}{a:List W}{i:Nat}{v:V},TrL K H vs a->vs[i]?=some v->∃ w,a[i]?=some w/\Tr K H v w
 | _,_,_,_,.nil,e=>by simp at e
 | _,_,0,_,.cons r _,e=>by simp at e;subst e;exact⟨_,rfl,r⟩
 | _,_,i+1,v,.cons _ t,e=>by
  obtain⟨w,h1,h2⟩:=TrL.get' (i:=i) (v:=v) t (by simpa using e);exact⟨w,by simpa using h1,h2⟩
theorem TrL.append:∀{vs b:List V}{c a:List W},TrL K H vs c->TrL K H b a->TrL K H (vs++b) (c++a)
 | _,_,_,_,.nil,s=>s
 | _,_,_,_,.cons r t,s=>.cons r (t.append s)
theorem TrL.set{v:V}{w:W}(r:Tr K H v w):∀{vs:List V}{a:List W}(i:Nat),TrL K H vs a->TrL K H (vs.set i v) (a.set i w)
 | _,_,_,.nil=>.nil
 | _,_,0,.cons _ t=>.cons r t
 | _,_,i+1,.cons q t=>.cons q (TrL.set r i t)
theorem TrL.take:∀{vs:List V}{a:List W}(n:Nat),TrL K H vs a->TrL K H (vs.take n) (a.take n)
 | _,_,0,_=>.nil
 | _,_,_+1,.nil=>.nil
 | _,_,n+1,.cons r t=>.cons r (TrL.take n t)
theorem TrL.drop:∀{vs:List V}{a:List W}(n:Nat),TrL K H vs a->TrL K H (vs.drop n) (a.drop n)
 | _,_,0,r=>r
 | _,_,_+1,.nil=>.nil
 | _,_,n+1,.cons _ t=>TrL.drop n t
variable {vs:List V}
theorem JQ{o:HO}(h:SqT K H a vs)(f:∀ xs,H b≠some (.tup xs))(d:∀ c xs,H b≠some (.frz c (.tup xs))):SqT K (upd H b o) a vs:=by
 rcases h with(h |⟨c,h⟩)| h
 ·exact .inl (.inl (by rw[AX (λe=>f _ (e▸h))];exact h))
 ·exact .inl (.inr ⟨c,by rw[AX (λe=>d _ _ (e▸h))];exact h⟩)
 ·exact .inr h
theorem JR{o:HO}(h:RoL K H a vs)(d:∀ c u,H b≠some (.frz c u)):RoL K (upd H b o) a vs:=by
 rcases h with⟨c,h⟩| h
 ·exact .inl ⟨c,by rw[AX (λe=>d _ _ (e▸h))];exact h⟩
 ·exact .inr h
variable {p:Addr}
theorem Mono.new(b:H p=none)(o:HO):Mono K H (upd H p o):=
 ⟨λa c h=>JQ h (λxs e=>by rw[b]at e;cases e) (λd xs e=>by rw[b]at e;cases e),λa c h=>JR h (λd xs e=>by rw[b]at e;cases e)⟩
variable {xs:List V}
theorem Mono.lst(b:H p=some (.lst xs))(o:HO):Mono K H (upd H p o):=
 ⟨λa c h=>JQ h (λxs e=>by rw[b]at e;cases e) (λd xs e=>by rw[b]at e;cases e),λa c h=>JR h (λd xs e=>by rw[b]at e;cases e)⟩
theorem Mono.was(b:H p=some o')(o:HO)(h1:∀ xs,o'≠.tup xs)(h2:∀ c u,o'≠.frz c u):Mono K H (upd H p o):=
 ⟨λa d h=>JQ h (λxs e=>by rw[b]at e;exact h1 _ (YF e)) (λc xs e=>by rw[b]at e;exact h2 _ _ (YF e)),λa d h=>JR h (λc xs e=>by rw[b]at e;exact h2 _ _ (YF e))⟩
variable {G:Hw}
theorem RelH.no(r:RelH K H G)(a:H p=none):G p=none:=by
 cases e:G p with
 | none=>rfl
 | some o=>exact absurd a (r p o e).some
theorem RelH.mono0{o:HO}(r:RelH K H G)(b:H p=none):RelH K (upd H p o) G:=λa u e=>
 have q:=r a u e
 q.mono (Mono.new b o) (AX (by rintro rfl;exact q.some b))
theorem RelH.laid{o:HO}{u:HW}(r:RelH K H G)(m:Mono K H (upd H p o))(t:RelO2 K (upd H p o) p u):RelH K (upd H p o) (put G p u):=λa b e=>by
 by_cases h:a=p
 ·subst h;rw[Ak]at e;cases e;exact t
 ·rw[Aj h]at e;exact(r a _ e).mono m (AX h)
theorem RelH.new{a:List W}(r:RelH K H G)(b:H p=none)(t:TrL K H vs a):RelH K (upd H p (.lst vs)) (put G p (.lst a)):=
 r.laid (Mono.new b _) ⟨vs,BL,t.mono (Mono.new b _)⟩
theorem RelH.chg{a:List W}(r:RelH K H G)(b:H p=some (.lst xs))(t:TrL K H vs a):RelH K (upd H p (.lst vs)) (put G p (.lst a)):=
 r.laid (Mono.lst b _) ⟨vs,BL,t.mono (Mono.lst b _)⟩
abbrev Kw:=W->Hw->Prop
abbrev GE:=Sw->Hw->Kw->Prop
abbrev GT:=Sw->Hw->(Bool->Hw->Prop)->Prop
abbrev GA:=Sw->Hw->(List W->Hw->Prop)->Prop
structure Ew where
 nx:Sw->Hw->Prop
 rt:Kw
 bk:Sw->Hw->Prop
 ct:Sw->Hw->Prop
abbrev GS:=Ew->Sw->Hw->Prop
abbrev GG:=W->Sw->Hw->(Sw->Hw->Prop)->Prop
def GE.M(g:GE):Prop:=∀ ω G(Q Q':Kw),(∀ w G',Q w G'->Q' w G')->g ω G Q->g ω G Q'
def GT.M(g:GT):Prop:=∀ ω G(Q Q':Bool->Hw->Prop),(∀ w G',Q w G'->Q' w G')->g ω G Q->g ω G Q'
def GA.M(g:GA):Prop:=∀ ω G(Q Q':List W->Hw->Prop),(∀ w G',Q w G'->Q' w G')->g ω G Q->g ω G Q'
def GS.M(g:GS):Prop:=∀ ω G(D D':Ew),(∀ a b,D.nx a b->D'.nx a b)->(∀ a b,D.rt a b->D'.rt a b)->(∀ a b,D.bk a b->D'.bk a b)->(∀ a b,D.ct a b->D'.ct a b)->g D ω G->g D' ω G
def GG.M(g:GG):Prop:=∀ w ω G(Q Q':Sw->Hw->Prop),(∀ a b,Q a b->Q' a b)->g w ω G Q->g w ω G Q'
def dn(K:PySem.W.Frag)(H:Hp)(Q:VK):Kw:=λw G=>∀ v H',Mono K H H'->Tr K H' v w->RelH K H' G->Q v H'
def dnT(K:PySem.W.Frag)(H:Hp)(Q:Bool->Hp->Prop):Bool->Hw->Prop:=λb G=>∀ H',Mono K H H'->RelH K H' G->Q b H'
def dnA(K:PySem.W.Frag)(H:Hp)(Q:List V->Hp->Prop):List W->Hw->Prop:=λws G=>∀ vs H',Mono K H H'->TrL K H' vs ws->RelH K H' G->Q vs H'
def dnS(K:PySem.W.Frag)(H:Hp)(Q:St->Hp->Prop):Sw->Hw->Prop:=λω G=>∀ σ H',Mono K H H'->TrSt K H' σ ω->RelH K H' G->Q σ H'
def dnD(K:PySem.W.Frag)(H:Hp)(D:EH):Ew:=⟨dnS K H D.nx,dn K H D.rt,dnS K H D.bk,dnS K H D.ct⟩
theorem Ca{Q:VK}(m:Mono K H H')(q:dn K H Q w G):dn K H' Q w G:=λv H2 a t r=>q v H2 (m.trans a) t r
theorem NY{Q:Bool->Hp->Prop}(m:Mono K H H'){w:Bool}(q:dnT K H Q w G):dnT K H' Q w G:=λH2 a r=>q H2 (m.trans a) r
theorem be{Q:St->Hp->Prop}(m:Mono K H H'){w:Sw}(q:dnS K H Q w G):dnS K H' Q w G:=λv H2 a t r=>q v H2 (m.trans a) t r
def up(K:PySem.W.Frag)(g:GE):TE:=λσ H Q=>∃ ω G,TrSt K H σ ω/\RelH K H G/\g ω G (dn K H Q)
def upT(K:PySem.W.Frag)(g:GT):TT:=λσ H Q=>∃ ω G,TrSt K H σ ω/\RelH K H G/\g ω G (dnT K H Q)
def upA(K:PySem.W.Frag)(g:GA):TA:=λσ H Q=>∃ ω G,TrSt K H σ ω/\RelH K H G/\g ω G (dnA K H Q)
def upS(K:PySem.W.Frag)(B:Hp)(g:GS):TS:=λD σ H=>∃ ω G,TrSt K H σ ω/\RelH K H G/\Mono K B H/\g (dnD K B D) ω G
variable {X:Cx}{e:Expr}
theorem A7{t t':TE}(h:PE X e t)(i:∀ σ H Q,t' σ H Q->t σ H Q):PE X e t':=λpins s σ H Q I q=>h pins s σ H Q I (i σ H Q q)
theorem GH{t t':TT}(h:PT X e t)(i:∀ σ H Q,t' σ H Q->t σ H Q):PT X e t':=λpins s σ H Q I q=>h pins s σ H Q I (i σ H Q q)
theorem NZ{e:List Expr}{t t':TA}(h:PA X e t)(i:∀ σ H Q,t' σ H Q->t σ H Q):PA X e t':=λpos pins s σ H Q I q=>h pos pins s σ H Q I (i σ H Q q)
variable {t t':TS}
theorem CQ{e:Stmt}(h:PS X e t)(i:∀ D σ H,t' D σ H->t D σ H):PS X e t':=λpins s σ H D I q=>h pins s σ H D I (i D σ H q)
theorem JS{e:List Stmt}(h:PSs X e t)(i:∀ D σ H,t' D σ H->t D σ H):PSs X e t':=λpins s σ H D I q=>h pins s σ H D I (i D σ H q)
section
variable {X:Cx} {a b c e:Expr} {es:List Expr} {pos:Pos} {ga gb gc:GE} {gt:GT} {gs:GA}
abbrev PEw(X:Cx)(e:Expr)(g:GE):Prop:=PE X e (up X.K g)
abbrev PTw(X:Cx)(e:Expr)(g:GT):Prop:=PT X e (upT X.K g)
abbrev PAw(X:Cx)(es:List Expr)(g:GA):Prop:=PA X es (upA X.K g)
abbrev PSw(X:Cx)(P:Hp->Prop)(st:Stmt)(g:GS):Prop:=∀ B,P B->PS X st (upS X.K B g)
abbrev C4(X:Cx)(P:Hp->Prop)(st:List Stmt)(g:GS):Prop:=∀ B,P B->PSs X st (upS X.K B g)
abbrev N0:Hp->Prop:=λ_=>True
abbrev atB(X:Cx):Hp->Prop:=λB=>B=X.H₀
def gC(w:W):GE:=λ_ G Q=>Q w G
def Ab(i:Nat):GE:=λω G Q=>match ω[i]? with | some (some w)=>Q w G | _=>False
theorem EQ:GE.M (gC w):=λ_ _ _ _ h q=>h _ _ q
variable {i:Nat}
theorem bf:GE.M (Ab i):=λω G Q a h q=>by
 have z:Ab i ω G Q=(match ω[i]? with | some (some w)=>Q w G | _=>False):=rfl;have b:Ab i ω G a=(match ω[i]? with | some (some w)=>a w G | _=>False):=rfl;rw[z]at q;rw[b];cases e:ω[i]? with
 | none=>rw[e]at q;exact q
 | some o =>
  cases o with
  | none=>rw[e]at q;exact q
  | some w=>rw[e]at q;exact h _ _ q
variable {x:Str}
theorem bg(b:X.N[i]?=some x)(c:Vis X.env.scope x)(hd:(x==("__debug__":Str))=false)(a:(x==("__classdict__":Str))=false):PEw X (.Name x pos) (Ab i):=
 A7 (Na b c hd a) <| by
  rintro σ H Q ⟨ω,G,d,r,q⟩;unfold Ab at q;split at q
  ·rename_i w z;obtain⟨v,e,t⟩:=d.get i w z;exact⟨v,e,q v H .refl t r⟩
  ·exact q.elim
theorem bh{i:Int}{j}:PEw X (.Constant (.int i) j pos) (gC (.int i)):=A7 XD (by rintro σ H Q ⟨ω,G,a,r,q⟩;exact q _ H .refl (.int i) r)
theorem bi{i:Bool}{j}:PEw X (.Constant (.bool i) j pos) (gC (.bl i)):=A7 XE (by rintro σ H Q ⟨ω,G,a,r,q⟩;exact q _ H .refl (.bl i) r)
theorem bj{j}:PEw X (.Constant .none j pos) (gC .non):=A7 XG (by rintro σ H Q ⟨ω,G,a,r,q⟩;exact q _ H .refl .non r)
theorem bn{i:Str}{j}:PEw X (.Constant (.str i) j pos) (gC (.str i)):=A7 XH (by rintro σ H Q ⟨ω,G,a,r,q⟩;exact q _ H .refl (.str i) r)
theorem N1{u:Value}(c:Gl X x)(a:X.mg x=some u)(b:RelV v u)(t:∀ H,Tr X.K H v w)(hd:(x==("__debug__":Str))=false):PEw X (.Name x pos) (gC w):=
 A7 (Nb c a b hd) (by rintro σ H Q ⟨ω,G,d,r,q⟩;exact q _ H .refl (t H) r)
abbrev RW2:=W->W->Hw->Kw->Prop
def RW2.M(r:RW2):Prop:=∀ x y G(Q Q':Kw),(∀ w G',Q w G'->Q' w G')->r x y G Q->r x y G Q'
def Ad(r:RW2)(ga gb:GE):GE:=λω G Q=>ga ω G λx G1=>gb ω G1 λy G2=>r x y G2 Q
variable {r:RW2}
theorem Cb(mr:r.M)(a:ga.M)(mb:gb.M):GE.M (Ad r ga gb):=λω G Q c h q=>a _ _ _ _ (λx b q1=>mb _ _ _ _ (λy d q2=>mr _ _ _ _ _ h q2) q1) q
variable {r2:R2}
theorem GJ(mr:r.M)(f:ga.M)(mb:gb.M)
  (e:∀(x y:W)(v u:V)(G:Hw)(H:Hp)(Q:VK),Tr K H v x->Tr K H u y->RelH K H G->r x y G (dn K H Q)->r2 v u H Q) (σ:St) (H:Hp) (Q:VK) (h:up K (Ad r ga gb) σ H Q):tOp r2 (up K ga) (up K gb) σ H Q:=by
 obtain⟨ω,G,d,j,q⟩:=h;refine⟨ω,G,d,j,f _ _ _ _ (λx i q1 v H1 b g r1=>?_) q⟩;refine⟨ω,i,d.mono b,r1,mb _ _ _ _ (λy k q2 u H2 c ty a=>?_) q1⟩;exact e x y v u k H2 Q (g.mono c) ty a (mr _ _ _ _ _ (λw l z=>Ca (b.trans c) z) q2)
theorem Dz{op:Operator}(g:OpR X (binaryOp op) r2)(mr:r.M)(d:ga.M)(mb:gb.M)(c:∀(x y:W)(v u:V)(G:Hw)(H:Hp)(Q:VK),Tr X.K H v x->Tr X.K H u y->RelH X.K H G->r x y G (dn X.K H Q)->r2 v u H Q)
  (f:PEw X a ga) (e:PEw X b gb):PEw X (.BinOp a op b pos) (Ad r ga gb):=A7 (Zi g f e) (GJ mr d mb c)
theorem bo{op:CmpOp}(h:OpR X (compareOp op) r2)(mr:r.M)(d:ga.M)(mb:gb.M)(c:∀(x y:W)(v u:V)(G:Hw)(H:Hp)(Q:VK),Tr X.K H v x->Tr X.K H u y->RelH X.K H G->r x y G (dn X.K H Q)->r2 v u H Q)
  (g:PEw X a ga) (e:PEw X b gb) (f:behindInMarks op b=false):PEw X (.Compare a [op] [b] pos) (Ad r ga gb):=A7 (ZA h g e f) (GJ mr d mb c)
theorem N2(h:IxR X r2)(mr:r.M)(d:ga.M)(mb:gb.M)(c:∀(x y:W)(v u:V)(G:Hw)(H:Hp)(Q:VK),Tr X.K H v x->Tr X.K H u y->RelH X.K H G->r x y G (dn X.K H Q)->r2 v u H Q)
  (f:PEw X a ga) (e:PEw X b gb) (g:Gy b):PEw X (.Subscript a b pos) (Ad r ga gb):=A7 (Z7 h f e g) (GJ mr d mb c)
end
abbrev Xw:=Sw->Addr->Hw->Prop
abbrev XF:Xw:=λ_ _ _=>False
def upX(K:PySem.W.Frag)(ex:Xw):St->XK:=λσ Cv _ H'=>∃ C ω G,Cv=.ref C/\TrSt K H' σ ω/\RelH K H' G/\ex ω C G
abbrev DA(X:Cx)(ex:Xw):Prop:=Fu (CXe X.prog X.w) X (upX X.K ex)
theorem Un.mono'{fs b:List Addr}{h h':Heap}(u:Un fs b H H' h h'):Mono K H H':=by
 refine⟨λa c q=>?_,λa c q=>?_⟩
 ·rcases q with(q |⟨o,q⟩)| q
  ·exact .inl (.inl (u.tups a c q))
  ·exact .inl (.inr ⟨o,u.frzs a o _ q⟩)
  ·exact .inr q
 ·rcases q with⟨o,q⟩| q
  ·exact .inl ⟨o,u.frzs a o _ q⟩
  ·exact .inr q
abbrev Spw:=List W->Hw->Kw->(Addr->Hw->Prop)->Prop
def dnX(K:PySem.W.Frag)(H:Hp)(E:XK):Addr->Hw->Prop:=λC G'=>∀ H',Mono K H H'->RelH K H' G'->E (.ref C) none H'
def DB(K:PySem.W.Frag)(sp:Spw):Sp:=λvs H Q E=>∃ ws G,TrL K H vs ws/\RelH K H G/\sp ws G (dn K H Q) (dnX K H E)
def Spw.M(sp:Spw):Prop:=∀ ws G(Q Q':Kw)(E E':Addr->Hw->Prop),(∀ w G',Q w G'->Q' w G')->(∀ w G',E w G'->E' w G')->sp ws G Q E->sp ws G Q' E'
structure Df(P:Program)(w:World)(K:PySem.W.Frag)(mg:Str->Option Value)(base:Heap)(x:Str)(k n:Nat)(sp:Spw):Prop where
 ex:∃(f:Addr)(fd:FuncData)(ps:List Str),mg x=some (.ref f)/\PySem.W.keepIn K (.ref f)=true/\Binds K fd ps []/\ps.length=n/\FnOk P w K mg base (CXe P w) k f fd ps (DB K sp)
 mono:sp.M
section
variable {X:Cx} {e:Expr} {es:List Expr} {pos p:Pos} {ga gb:GE} {gs:GA} {ex:Xw}
def Ac:GA:=λ_ G Q=>Q [] G
def Aa(g:GE)(gs:GA):GA:=λω G Q=>g ω G λx G1=>gs ω G1 λxs G2=>Q (x::xs) G2
theorem bp:GA.M Ac:=λ_ _ _ _ h q=>h _ _ q
theorem bq(a:ga.M)(b:gs.M):GA.M (Aa ga gs):=λω G Q c h q=>a _ _ _ _ (λx d q1=>b _ _ _ _ (λxs e q2=>h _ _ q2) q1) q
theorem br:PAw X [] Ac:=NZ Gw (by rintro σ H Q ⟨ω,G,a,r,q⟩;exact q [] H .refl .nil r)
theorem bu(g:ga.M)(m:gs.M)(i:PEw X e ga)(k:PAw X es gs)(b:starEach (e::es) X.env=(false,eval e X.env)::starEach es X.env:=by rfl):PAw X (e::es) (Aa ga gs):=
 NZ (EM i k b) (by rintro σ H Q ⟨ω,G,f,r,q⟩;exact⟨ω,G,f,r,g _ _ _ _ (λx l q1 v H1 c j r1=>⟨ω,l,f.mono c,r1,m _ _ _ _ (λxs o q2 n H2 d a h=>q2 _ H2 (c.trans d) (.cons (j.mono d) a) h) q1⟩) q⟩)
def Ag(sp:Spw)(ex:Xw)(gs:GA):GE:=λω G Q=>gs ω G λws G1=>sp ws G1 Q (ex ω)
variable {sp:Spw}
theorem N3(m:sp.M)(a:gs.M):GE.M (Ag sp ex gs):=λω G Q d h q=>a _ _ _ _ (λc b q1=>m _ _ _ _ _ _ h (λ_ _ z=>z) q1) q
theorem bv{x:Str}{k n:Nat}(D:Df X.prog X.w X.K X.mg X.base x k n sp)(t:Room k X.A)(J:Gl X x)(B:DA X ex)(s:gs.M)(v:PAw X (e::es) gs)
  (b:(x==("__debug__":Str))=false:=by decide) (m:starEach (e::es) X.env=(false,eval e X.env)::starEach es X.env:=by rfl) (a:(backTo pos (starEach es X.env)).any (·.1)=false:=by rfl):
  PEw X (.Call (.Name x p) (e::es) [] pos) (Ag sp ex gs):=by
 obtain⟨f,fd,ps,u,l,I,_,F⟩:=D.ex;refine A7 (bb F t J u l I .nil B v b m a) λσ H Q d=>?_;obtain⟨ω,G,i,r,q⟩:=d;refine⟨ω,G,i,r,s _ _ _ _ (λE o q1 L H1 h c r1=>?_) q⟩;refine⟨E,o,by rw[Yx];exact c,r1,D.mono _ _ _ _ _ _ (λw g z=>Ca h z) (λC g z H2 y j=>?_) q1⟩;exact⟨C,ω,g,rfl,(i.mono h).mono y,j,z⟩
end
def AU(N:List Str)(ws:List W):Sw:=ws.map some++List.replicate (N.length - ws.length) none
variable {N:List Str}
theorem GK{a:List W}(t:TrL K H vs a):TrSt K H (L2.BU N vs) (AU N a):=by
 have hl:=t.length;refine⟨by simp[L2.BU,AU,hl],λi w e=>?_⟩;unfold AU at e;by_cases hi:i < a.length
 ·rw[YK (by simpa using hi),YT]at e;cases z:a[i]? with
  | none=>rw[z]at e;cases e
  | some c =>
   rw[z]at e;cases e;obtain⟨v,b,r⟩:=t.get z;exact⟨v,by unfold L2.BU;rw[YK (by simp;omega),YT,b];rfl,r⟩
 ·rw[List.getElem?_append_right (by simpa using hi),List.getElem?_replicate]at e;split at e <;> cases e
def Sub(G G':Hw):Prop:=∀ a o,G a=some o->G' a=some o
theorem Sub.refl:Sub G G:=λ_ _ h=>h
theorem Sub.trans{d e:Hw}(a:Sub G d)(b:Sub d e):Sub G e:=λc o h=>b c o (a c o h)
theorem Sub.put{b:Hw}(h:Sub G b)(d:G a=none):Sub G (put b a o):=λc u z=>by
 rw[Aj (λe=>by rw[e,d]at z;cases z)];exact h c u z
theorem Sub.put2{b:Hw}(h:Sub G b):Sub (L3.put G a o) (L3.put b a o):=λc u z=>by
 by_cases e:c=a
 ·subst e;rw[Ak]at z ⊢;exact z
 ·rw[Aj e]at z ⊢;exact h c u z
theorem RelH.sub{b:Hw}(r:RelH K H b)(s:Sub G b):RelH K H G:=λa o e=>r a o (s a o e)
def Kw.C(Q:Kw):Prop:=∀ w G G',Sub G G'->Q w G->Q w G'
def Xc(E:Addr->Hw->Prop):Prop:=∀ w G G',Sub G G'->E w G->E w G'
theorem GL{Q:VK}:Kw.C (dn K H Q):=λw G a s q v H2 m t r=>q v H2 m t (r.sub s)
theorem bw{E:XK}:Xc (dnX K H E):=λw G a s q H2 m r=>q H2 m (r.sub s)
def Ar(Q:Kw):Ew:=⟨λ_ G=>Q .non G,Q,λ_ _=>False,λ_ _=>False⟩
section
variable {P:Program} {w:World} {mg:Str->Option Value} {base:Heap}
abbrev cxW(P:Program)(w:World)(K:PySem.W.Frag)(mg:Str->Option Value)(base:Heap)(N:List Str)(qual:Str)(scope:Scope)(f:Addr)(cd:Value)(A:Around)(outer:List Env)(s:Shared)(H:Hp)(E:XK):Cx :=
 Bj (CXe P w) P w K mg base N qual scope f cd A outer s H E
theorem BI{f:Addr}{A:Around}{outer:List Env}{s:Shared}{E:XK}:DA (cxW P w K mg base N qual scope f cd A outer s H E) (λ_=>dnX K H E):=by
 intro pins σ Hc b ev s' I ⟨e,C,H',a,F,d,ω,G,c,g,r,q⟩;cases c;refine aY pins σ Hc b ev s' I ⟨e,C,H',a,F,q H' ?_ r⟩;exact(Un.mono' I.base).trans (Un.mono' F.un)
end
section
variable {X:Cx} {a b c e:Expr} {st:Stmt} {sts sts':List Stmt} {pos pos':Pos} {ga gb gc:GE} {gt gu:GT} {g1 g2:GS} {ex:Xw} {P:Hp->Prop}
def Al:GS:=λD ω G=>D.nx ω G
def Af(g1 g2:GS):GS:=λD ω G=>g1 {D with nx:=g2 D} ω G
theorem bx:GS.M Al:=λ_ _ _ _ h _ _ _ q=>h _ _ q
theorem bz(c:g1.M)(d:g2.M):GS.M (Af g1 g2):=λω G D e h1 h2 a b q=>c _ _ {D with nx:=g2 D} _ (λ_ _ z=>d _ _ _ _ h1 h2 a b z) h2 a b q
theorem bA:C4 X P [] Al:=λB b=>JS X5 (by rintro D σ H ⟨ω,G,a,r,mb,q⟩;exact q σ H mb a r)
theorem bB(d:g1.M)(f:g2.M)(h1:PSw X P st g1)(h2:C4 X P sts g2):C4 X P (st::sts) (Af g1 g2):=λB b=>
 JS (X6 (h1 B b) (h2 B b)) (by rintro D σ H ⟨ω,G,e,r,mb,q⟩;exact⟨ω,G,e,r,mb,d _ _ {dnD X.K B D with nx:=g2 (dnD X.K B D)} _ (λω' c z σ' H' m a r'=>⟨ω',c,a,r',m,z⟩) (λ_ _ z=>z) (λ_ _ z=>z) (λ_ _ z=>z) q⟩)
theorem bC(h1:PSw X P st g1):C4 X P [st] g1:=λB a=>JS (X7 (h1 B a)) λD σ H z=>z
def An(i:Nat)(ga:GE):GS:=λD ω G=>ga ω G λw G1=>D.nx (ω.set i (some w)) G1
variable {i:Nat}
theorem N4(a:ga.M):GS.M (An i ga):=λω G D b h _ _ _ q=>a _ _ _ _ (λ_ _ z=>h _ _ z) q
theorem N5{x:Str}(h:X.N.Nodup)(hi:X.N[i]?=some x)(d:Loc X.env.scope x)(b:ga.M)(c:PEw X e ga)(f:swapsWith e (some (.Name x pos')) pos.line X.env=pure false)(g:X.fn x=true\/X.env.scope.names.lookup x=some .local):
  PSw X P (.Assign [.Name x pos'] e pos) (An i ga):=λB j=>
 CQ (Y5 h hi d c f g) (by rintro D σ H ⟨ω,G,a,r,mb,q⟩;exact⟨ω,G,a,r,b _ _ _ _ (λw k z v H1 m t r1=>z _ H1 (mb.trans m) ((a.mono m).set i t) r1) q⟩)
def Ai(ga:GE):GS:=λD ω G=>ga ω G D.rt
theorem bD(a:ga.M):GS.M (Ai ga):=λω G D b _ h _ _ q=>a _ _ _ _ (λ_ _ z=>h _ _ z) q
theorem bE(a:ga.M)(b:PEw X e ga):PSw X P (.Return (some e) pos) (Ai ga):=λB f=>CQ (Y1 b) (by rintro D σ H ⟨ω,G,c,r,mb,q⟩;exact⟨ω,G,c,r,a _ _ _ _ (λw d z v H1 m t r1=>z v H1 (mb.trans m) t r1) q⟩)
def AA(ga:GE):GS:=λD ω G=>ga ω G λ_ G1=>D.nx ω G1
theorem bF(a:ga.M):GS.M (AA ga):=λω G D b h _ _ _ q=>a _ _ _ _ (λ_ _ z=>h _ _ z) q
theorem bG(b:ga.M)(c:PEw X e ga)(d:swapsWith e none pos.line X.env=pure false):PSw X P (.Expr e pos) (AA ga):=λB f=>
 CQ (X9 c d) (by rintro D σ H ⟨ω,G,a,r,mb,q⟩;exact⟨ω,G,a,r,b _ _ _ _ (λw g z v H1 m t r1=>z _ H1 (mb.trans m) (a.mono m) r1) q⟩)
def gIf(gt:GT)(g1 g2:GS):GS:=λD ω G=>gt ω G λb G1=>if b=true then g1 D ω G1 else g2 D ω G1
theorem bH(f:gt.M)(d:g1.M)(e:g2.M):GS.M (gIf gt g1 g2):=λω G D g h1 h2 a c q=>f _ _ _ _ (λb h z=>by
 cases b with
 | true=>exact d _ _ _ _ h1 h2 a c z
 | false=>exact e _ _ _ _ h1 h2 a c z) q
theorem bI(f:gt.M)(g:g1.M)(h:g2.M)(hc:PTw X c gt)(h1:C4 X P sts g1)(h2:C4 X P sts' g2):PSw X P (.If c sts sts' pos) (gIf gt g1 g2):=λB d=>
 CQ (Y3 hc (h1 B d) (h2 B d)) λD σ H⟨ω,G,a,r,mb,q⟩=>⟨ω,G,a,r,f _ _ _ _ (λb e z H1 m r1=>by
  cases b with
  | true=>exact⟨ω,e,a.mono m,r1,mb.trans m,z⟩
  | false=>exact⟨ω,e,a.mono m,r1,mb.trans m,z⟩) q⟩
def gTB(g:GE):GT:=λω G Q=>g ω G λw G1=>match w with | .bl b=>Q b G1 | _=>False
theorem N6(m:ga.M):GT.M (gTB ga):=λω G Q b h q=>m _ _ _ _ (λw a z=>by
 cases w <;> first | exact h _ _ z | exact z) q
theorem D7{b:Bool}(t:Tr K H v (.bl b)):v=.bl b:=by cases t;rfl
theorem N7{b:Int}(t:Tr K H v (.int b)):v=.int b:=by cases t;rfl
theorem bJ{b:Str}(t:Tr K H v (.str b)):v=.str b:=by cases t;rfl
theorem bK{a:Addr}(t:Tr K H v (.ref a)):v=.ref a:=by cases t;rfl
theorem N8(m:ga.M){f:Bool->Hp->Prop}(h:upT K (gTB ga) σ H f):up K ga σ H (λx H1=>∃ k,x=.bl k/\f k H1):=by
 obtain⟨ω,G,c,r,q⟩:=h;refine⟨ω,G,c,r,m _ _ _ _ (λw d z v H1 a t r1=>?_) q⟩;cases w with
 | bl b=>exact⟨b,D7 t,z H1 a r1⟩
 | _=>exact z.elim
theorem bL{op:CmpOp}{r:RW2}{r2:R2}(h:OpR X (compareOp op) r2)(mr:r.M)(c:ga.M)(mb:gb.M)(d:∀(x y:W)(v u:V)(G:Hw)(H:Hp)(Q:VK),Tr X.K H v x->Tr X.K H u y->RelH X.K H G->r x y G (dn X.K H Q)->r2 v u H Q)
  (g:PEw X a ga) (e:PEw X b gb) (f:behindInMarks op b=false):PTw X (.Compare a [op] [b] pos) (gTB (Ad r ga gb)):=
 GH (ZC h g e f) λσ H Q z=>GJ mr c mb d σ H _ (N8 (Cb mr c mb) z)
def AN(w:W)(G:Hw):Option Bool:=match w with
 | .non=>some false
 | .bl b=>some b
 | .int i=>some (i != 0)
 | .tup xs=>some (!xs.isEmpty)
 | .rol xs=>some (!xs.isEmpty)
 | .ref a=>match G a with | some (.lst xs)=>some (!xs.isEmpty)| _=>none
 | .str _=>none
def Ay(g:GE):GT:=λω G Q=>g ω G λw G1=>match AN w G1 with | some b=>Q b G1 | none=>False
theorem bM(m:ga.M):GT.M (Ay ga):=λω G Q c h q=>m _ _ _ _ (λw a z=>by
 cases e:AN w a with
 | none=>rw[e]at z;exact z
 | some b=>rw[e]at z;exact h _ _ z) q
theorem JT:∀{vs:List V}{a:List W},TrL K H vs a->vs.isEmpty=a.isEmpty
 | _,_,.nil=>rfl
 | _,_,.cons _ _=>rfl
theorem bN{b:Bool}(t:Tr K H v w)(r:RelH K H G)(e:AN w G=some b):JA K v H b:=by
 cases t with
 | non=>cases e;rfl
 | bl c=>cases e;rfl
 | int i=>cases e;rfl
 | str x=>cases e
 | tup h l=>cases e;exact .inr (.inl ⟨_,h,by rw[JT l]⟩)
 | rol h l=>cases e;exact .inl ⟨_,h.sq,by rw[JT l]⟩
 | ref a =>
  unfold AN at e;dsimp only at e;cases z:G a with
  | none=>rw[z]at e;cases e
  | some o =>
   rw[z]at e;cases o with
   | exc C=>cases e
   | ins C fs=>cases e
   | dct d=>cases e
   | lst xs =>
    cases e;obtain⟨g,f,l⟩:=r a _ z;exact .inl ⟨g,SqL.of f,by rw[JT l]⟩
theorem bO(d:ga.M)(f:PEw X e ga)(g:∀ a,isTrue e X.env a=(do let v <- a;standAt e.pos;holding [v] (truthy v)):=by intro _;rfl):PTw X e (Ay ga):=
 GH (ZH f g) λσ H Q⟨ω,G,i,r,q⟩=>⟨ω,G,i,r,d _ _ _ _ (λw h z v H1 m t r1=>by
  cases c:AN w h with
  | none=>rw[c]at z;exact z.elim
  | some b=>rw[c]at z;exact⟨b,bN t r1 c,z H1 m r1⟩) q⟩
def gNt(g:GT):GT:=λω G Q=>g ω G λb G1=>Q (!b) G1
theorem bP(m:gt.M):GT.M (gNt gt):=λω G Q b h q=>m _ _ _ _ (λw a z=>h _ _ z) q
theorem bQ(b:PTw X a gt):PTw X (.UnaryOp .Not a pos) (gNt gt):=GH (XS b) λσ H Q z=>z
abbrev PWw(X:Cx)(e:Expr)(g:GT):Prop:=PW X e (upT X.K g)
theorem GM{t t':TT}(h:PW X e t)(i:∀ σ H Q,t' σ H Q->t σ H Q):PW X e t':=λa pins s σ H Q I q=>h a pins s σ H Q I (i σ H Q q)
def AV(g1 g2:GT):GT:=λω G Q=>g1 ω G λb G1=>if b=true then g2 ω G1 Q else Q false G1
def gOr(g1 g2:GT):GT:=λω G Q=>g1 ω G λb G1=>if b=true then Q true G1 else g2 ω G1 Q
theorem bR(c:gt.M)(a:gu.M):GT.M (AV gt gu):=λω G Q e h q=>c _ _ _ _ (λb d z=>by
 cases b with
 | true=>exact a _ _ _ _ h z
 | false=>exact h _ _ z) q
theorem bU(c:gt.M)(a:gu.M):GT.M (gOr gt gu):=λω G Q e h q=>c _ _ _ _ (λb d z=>by
 cases b with
 | true=>exact h _ _ z
 | false=>exact a _ _ _ _ h z) q
variable {Aw:List Expr}
theorem bV(b:PTw X a gt):PWw X (.BoolOp .And [a] pos) gt:=GM (XN b) λσ H Q z=>z
theorem bW(b:PTw X a gt):PWw X (.BoolOp .Or [a] pos) gt:=GM (XO b) λσ H Q z=>z
theorem bX(e:gt.M)(g:gu.M)(f:PTw X a gt)(d:PWw X (.BoolOp .And (b::Aw) pos) gu):PWw X (.BoolOp .And (a::b::Aw) pos) (AV gt gu):=
 GM (XQ f d) λσ H Q⟨ω,G,c,r,q⟩=>⟨ω,G,c,r,e _ _ _ _ (λb h z H1 m r1=>by
  cases b with
  | true=>exact⟨ω,h,c.mono m,r1,g _ _ _ _ (λ_ _ z=>NY m z) z⟩
  | false=>exact z H1 m r1) q⟩
theorem bY(e:gt.M)(g:gu.M)(f:PTw X a gt)(d:PWw X (.BoolOp .Or (b::Aw) pos) gu):PWw X (.BoolOp .Or (a::b::Aw) pos) (gOr gt gu):=
 GM (XR f d) λσ H Q⟨ω,G,c,r,q⟩=>⟨ω,G,c,r,e _ _ _ _ (λb h z H1 m r1=>by
  cases b with
  | true=>exact z H1 m r1
  | false=>exact⟨ω,h,c.mono m,r1,g _ _ _ _ (λ_ _ z=>NY m z) z⟩) q⟩
variable {op:BoolOp}
theorem bZ{vs:List Expr}(h:PWw X (.BoolOp op vs pos) gt):PTw X (.BoolOp op vs pos) gt:=PW.pt h
def AZ(ga gb:GE):GE:=λω G Q=>ga ω G λx G1=>match x with | .bl c=>if c=true then gb ω G1 Q else Q (.bl false) G1 | _=>False
def Bp(ga gb:GE):GE:=λω G Q=>ga ω G λx G1=>match x with | .bl c=>if c=true then Q (.bl true) G1 else gb ω G1 Q | _=>False
def Bd(ga:GE):GE:=λω G Q=>ga ω G λx G1=>match x with | .bl c=>Q (.bl (!c)) G1 | _=>False
def AQ(gt:GT)(ga gb:GE):GE:=λω G Q=>gt ω G λc G1=>if c=true then ga ω G1 Q else gb ω G1 Q
theorem b1(a:ga.M)(mb:gb.M):GE.M (AZ ga gb):=λω G Q d h q=>a _ _ _ _ (λx b z=>by
 cases x with
 | bl c =>
  cases c with
  | true=>exact mb _ _ _ _ h z
  | false=>exact h _ _ z
 | _=>exact z) q
theorem b2(a:ga.M)(mb:gb.M):GE.M (Bp ga gb):=λω G Q d h q=>a _ _ _ _ (λx b z=>by
 cases x with
 | bl c =>
  cases c with
  | true=>exact h _ _ z
  | false=>exact mb _ _ _ _ h z
 | _=>exact z) q
theorem b4(a:ga.M):GE.M (Bd ga):=λω G Q d h q=>a _ _ _ _ (λx b z=>by
 cases x with
 | bl c=>exact h _ _ z
 | _=>exact z) q
theorem b5(b:gt.M)(a:ga.M)(mb:gb.M):GE.M (AQ gt ga gb):=λω G Q e h q=>b _ _ _ _ (λc d z=>by
 cases c with
 | true=>exact a _ _ _ _ h z
 | false=>exact mb _ _ _ _ h z) q
theorem b6(h:PEw X a ga):PEw X (.BoolOp op [a] pos) ga:=XX h
theorem b7(e:ga.M)(mb:gb.M)(g:PEw X a ga)(f:PEw X (.BoolOp .And (b::Aw) pos) gb):PEw X (.BoolOp .And (a::b::Aw) pos) (AZ ga gb):=
 A7 (XY g f) λσ H Q⟨ω,G,d,r,q⟩=>⟨ω,G,d,r,e _ _ _ _ (λx h z v H1 m t r1=>by
  cases x with
  | bl c =>
   refine⟨c,D7 t,?_⟩;cases c with
   | true=>exact⟨ω,h,d.mono m,r1,mb _ _ _ _ (λ_ _ z=>Ca m z) z⟩
   | false=>exact z _ H1 m (.bl false) r1
  | _=>exact z.elim) q⟩
theorem b8(e:ga.M)(mb:gb.M)(g:PEw X a ga)(f:PEw X (.BoolOp .Or (b::Aw) pos) gb):PEw X (.BoolOp .Or (a::b::Aw) pos) (Bp ga gb):=
 A7 (XZ g f) λσ H Q⟨ω,G,d,r,q⟩=>⟨ω,G,d,r,e _ _ _ _ (λx h z v H1 m t r1=>by
  cases x with
  | bl c =>
   refine⟨c,D7 t,?_⟩;cases c with
   | true=>exact z _ H1 m (.bl true) r1
   | false=>exact⟨ω,h,d.mono m,r1,mb _ _ _ _ (λ_ _ z=>Ca m z) z⟩
  | _=>exact z.elim) q⟩
theorem b9(b:ga.M)(d:PEw X a ga):PEw X (.UnaryOp .Not a pos) (Bd ga):=
 A7 (X0 d) λσ H Q⟨ω,G,e,r,q⟩=>⟨ω,G,e,r,b _ _ _ _ (λx f z v H1 m t r1=>by
  cases x with
  | bl c=>exact⟨c,D7 t,z _ H1 m (.bl _) r1⟩
  | _=>exact z.elim) q⟩
theorem cb(i:gt.M)(f:ga.M)(mb:gb.M)(hc:PTw X c gt)(h:PEw X a ga)(g:PEw X b gb):PEw X (.IfExp c a b pos) (AQ gt ga gb):=
 A7 (X1 hc h g) λσ H Q⟨ω,G,d,r,q⟩=>⟨ω,G,d,r,i _ _ _ _ (λc e z H1 m r1=>by
  cases c with
  | true=>exact⟨ω,e,d.mono m,r1,f _ _ _ _ (λ_ _ z=>Ca m z) z⟩
  | false=>exact⟨ω,e,d.mono m,r1,mb _ _ _ _ (λ_ _ z=>Ca m z) z⟩) q⟩
variable {es:List Expr} {gs:GA}
def Ah(gs:GA):GE:=λω G Q=>gs ω G λws G1=>ws.length<=sizeLine/\Q (.tup ws) G1
def Ap(gs:GA):GE:=λω G Q=>gs ω G λws G1=>ws.length<=sizeLine/\∀ p,G1 p=none->Q (.ref p) (put G1 p (.lst ws))
theorem cc(m:gs.M):GE.M (Ah gs):=λω G Q c h q=>m _ _ _ _ (λb a z=>⟨z.1,h _ _ z.2⟩) q
theorem ce(m:gs.M):GE.M (Ap gs):=λω G Q d h q=>m _ _ _ _ (λc b z=>⟨z.1,λp a=>h _ _ (z.2 p a)⟩) q
theorem cf{x1}(m:gs.M)(h:PAw X es gs):PEw X (.Tuple es x1 pos) (Ah gs):=
 A7 (ZP h) λσ H Q⟨ω,G,c,r,q⟩=>⟨ω,G,c,r,m _ _ _ _ (λd f z e H1 b t r1=>⟨by rw[t.length];exact z.1,λp a=>
  z.2 _ _ (b.trans (Mono.new a _)) (.tup (SqT.of BL) (t.mono (Mono.new a _))) (r1.mono0 a)⟩) q⟩
theorem cg(m:gs.M)(h:PAw X es gs):PEw X (.List es pos) (Ap gs):=
 A7 (ZQ h) λσ H Q⟨ω,G,c,r,q⟩=>⟨ω,G,c,r,m _ _ _ _ (λd f z e H1 b t r1=>⟨by rw[t.length];exact z.1,λp a=>
  z.2 p (r1.no a) _ _ (b.trans (Mono.new a _)) (.ref p) (r1.new a t)⟩) q⟩
end
def CF(z:Str):List V:=z.cps.toList.map λc=>V.str ⟨#[c]⟩
def Itk(xs:List V):It:=⟨λi _=>i < xs.length,λi H x H'=>H'=H/\xs[i]?=some x,λi _=>xs.length<=i⟩
variable {P:Program}{tg:Expr}
theorem ci{w:World}(B:∀ it u,letOwnedTupleGo tg it u=pure ())(it:Addr)(z:Str)(t:Tok):Dx P w K tg (Itk (CF z)) [it] it (λi h=>h.IsStrIter it "str_ascii_iterator" z t i) where
 mem:=by simp
 obj:=λi h st b a=>by
  have e:b=it:=by simpa using a
  subst e;obtain⟨o,e,c,d⟩:=st;exact⟨o,e,λv z=>by rw[d]at z;cases z⟩
 keep:=λi h h' st k=>by
  obtain⟨o,e,c,d⟩:=st;exact⟨o,k it (by simp) o e,c,d⟩
 item:=by
  intro X p hw m hc i pins s σ H E I f st y;subst p hw m;obtain⟨q,n,F,r,j,l⟩:=f it (by simp);have W:=Walks.strAscii (prog:=X.prog) (w:=X.w) (I.ok.hd hc) it z t;have hi:i < z.cps.size:=by simpa[CF,Itk]using y
  refine W.item i s _ _ hi st λv h' tk J g D=>?_;obtain⟨c,t',x,rfl⟩:=J;have G:Inv X pins σ H {s with heap:=h',toks:=tk}:=I.turned (λb o a e=>D b o (by simpa using a) e) q n r j l;exact⟨_,rfl,wpAny_of_eq (B _ _) ⟨.str ⟨#[c]⟩,H,G,⟨_,rfl⟩,⟨rfl,by simp[CF,x]⟩,g,λb a=>(f b a).1⟩⟩
 done:=by
  intro X p hw m hc i pins s σ H E I f st y;subst p hw m;obtain⟨q,n,F,r,j,l⟩:=f it (by simp);have hi:z.cps.size<=i:=by simpa[CF,Itk]using y
  exact wpAny_pyNext_ascii_end (I.ok.hd hc) st (by simp[hi]) λh' eb=>⟨rfl,I.turned (t':=s.toks) (λb o a e=>eb b o a e) q n r j l⟩
 self:=λA i s Q E st h=>wpAny_pyIter_striter_ascii st h
theorem cj{w:World}(B:∀ it u,letOwnedTupleGo tg it u=pure ())(it:Addr)(z:Str)(t:Tok):Dx P w K tg (Itk (CF z)) [it] it (λi h=>h.IsStrIter it "str_iterator" z t i) where
 mem:=by simp
 obj:=λi h st b a=>by
  have e:b=it:=by simpa using a
  subst e;obtain⟨o,e,c,d⟩:=st;exact⟨o,e,λv z=>by rw[d]at z;cases z⟩
 keep:=λi h h' st k=>by
  obtain⟨o,e,c,d⟩:=st;exact⟨o,k it (by simp) o e,c,d⟩
 item:=by
  intro X p hw m hc i pins s σ H E I f st y;subst p hw m;obtain⟨q,n,F,r,j,l⟩:=f it (by simp);have W:=Walks.strWide (prog:=X.prog) (w:=X.w) (I.ok.hd hc) it z t;have hi:i < z.cps.size:=by simpa[CF,Itk]using y
  refine W.item i s _ _ hi st λv h' tk J g D=>?_;obtain⟨c,t',x,rfl⟩:=J;have G:Inv X pins σ H {s with heap:=h',toks:=tk}:=I.turned (λb o a e=>D b o (by simpa using a) e) q n r j l;exact⟨_,rfl,wpAny_of_eq (B _ _) ⟨.str ⟨#[c]⟩,H,G,⟨_,rfl⟩,⟨rfl,by simp[CF,x]⟩,g,λb a=>(f b a).1⟩⟩
 done:=by
  intro X p hw m hc i pins s σ H E I f st y;subst p hw m;obtain⟨q,n,F,r,j,l⟩:=f it (by simp);have hi:z.cps.size<=i:=by simpa[CF,Itk]using y
  exact wpAny_pyNext_wide_end (I.ok.hd hc) st (by simp[hi]) λh' eb=>⟨rfl,I.turned (t':=s.toks) (λb o a e=>eb b o a e) q n r j l⟩
 self:=λA i s Q E st h=>wpAny_pyIter_striter_wide st h
def ck(K:PySem.W.Frag)(tl:TE):TI:=λσ H R=>tl σ H λx H1=>(∃ a,x=.ref a/\(∃ xs,SqL K H1 a xs)/\R (Itl K a) H1)\/(∃ a,x=.ref a/\(∃ xs,SqT K H1 a xs)/\R (Itt K a) H1)\/(∃ z,x=.str z/\R (Itk (CF z)) H1)
variable {l:Expr}
theorem cm(k:∀ it u,letOwnedTupleGo tg it u=pure ())(hl:PE X l tl):PI X tg l (ck X.K tl):=by
 intro pins s σ H R I h;refine thn (hl pins s σ H _ I h) λv c j=>?_;obtain⟨x,H1,d,r1,q1⟩:=j;rcases q1 with⟨a,e,⟨xs,i⟩,q⟩|⟨a,e,⟨xs,i⟩,q⟩|⟨z,e,q⟩
 ·subst e;cases r1;obtain⟨g,r,p,w⟩:=d.list i;refine wpAny_pyIter_list p.isList ?_;refine⟨c.heap.objs.size,[c.heap.objs.size],_,_,H1,rfl,d.kept (t':=c.toks) λb o e=>Qm _ e,Ni a _,⟨_,Qo _ rfl,rfl,rfl⟩,λb f=>?_,q⟩;have e:b=c.heap.objs.size:=by simpa using f
  subst e;walk_at "pi"
 ·subst e;cases r1;obtain⟨g,r,p,w⟩:=d.tuple i;refine wpAny_pyIter_tuple (show c.heap.IsTuple a g.toArray from p) ?_;refine⟨c.heap.objs.size,[c.heap.objs.size],_,_,H1,rfl,d.kept (t':=c.toks) λb o e=>Qm _ e,Nj a _,⟨_,Qo _ rfl,rfl,rfl⟩,λb f=>?_,q⟩;have e:b=c.heap.objs.size:=by simpa using f
  subst e;walk_at "pi"
 ·subst e;obtain⟨t,rfl⟩:=r1
  have n:∀ b∈[c.heap.objs.size],CD X pins H1 b:=λb f=>by
   have e:b=c.heap.objs.size:=by simpa using f
   subst e;walk_at "pi"
  cases m:z.cps.all (· < 128)
  ·exact wpAny_pyIter_wide m ⟨c.heap.objs.size,[c.heap.objs.size],_,_,H1,rfl,d.kept (t':=c.toks) λb o e=>Qm _ e,cj k _ z t,⟨_,Qo _ rfl,rfl,rfl⟩,n,q⟩
  ·exact wpAny_pyIter_ascii m ⟨c.heap.objs.size,[c.heap.objs.size],_,_,H1,rfl,d.kept (t':=c.toks) λb o e=>Qm _ e,ci k _ z t,⟨_,Qo _ rfl,rfl,rfl⟩,n,q⟩
abbrev GI:=Sw->Hw->(List W->(Hw->Prop)->Hw->Prop)->Prop
def GI.M(g:GI):Prop:=∀ ω G(R R':List W->(Hw->Prop)->Hw->Prop),(∀ ws gd G',R ws gd G'->R' ws gd G')->g ω G R->g ω G R'
def D8(z:Str):List W:=z.cps.toList.map λc=>W.str ⟨#[c]⟩
theorem cn{z:Str}:TrL K H (CF z) (D8 z):=by
 unfold CF D8;generalize z.cps.toList=l;induction l with
 | nil=>exact .nil
 | cons c l a=>exact .cons (.str _) a
def yes:Hw->Prop:=λ_=>True
def holds(a:Addr)(ws:List W):Hw->Prop:=λG=>G a=some (.lst ws)
def AD(ga:GE):GI:=λω G R=>ga ω G λw G1=>match w with
 | .tup ws=>R ws yes G1
 | .rol ws=>R ws yes G1
 | .str z=>R (D8 z) yes G1
 | .ref a=>match G1 a with | some (.lst ws)=>R ws (holds a ws) G1 | _=>False
 | _=>False
variable {ga:GE}
theorem cp(m:ga.M):GI.M (AD ga):=λω G R f h q=>m _ _ _ _ (λw d z=>by
 cases w with
 | tup b=>exact h _ _ _ z
 | rol b=>exact h _ _ _ z
 | str x=>exact h _ _ _ z
 | ref a =>
  dsimp only at z ⊢;cases e:d a with
  | none=>rw[e]at z;exact z
  | some o =>
   rw[e]at z;cases o with
   | lst b=>exact h _ _ _ z
   | exc C=>exact z
   | ins C fs=>exact z
   | dct c=>exact z
 | _=>exact z) q
structure D9(K:PySem.W.Frag)(H1:Hp)(J:It)(ws:List W)(gd:Hw->Prop):Prop where
 go:∀(i:Nat)(H:Hp)(G:Hw),Mono K H1 H->RelH K H G->gd G->i < ws.length->J.go i H
 yld:∀(i:Nat)(H:Hp)(G:Hw)(x:V)(H':Hp),Mono K H1 H->RelH K H G->gd G->J.yld i H x H'->i < ws.length->Mono K H H'/\RelH K H' G/\∃ w,ws[i]?=some w/\Tr K H' x w
 stop:∀(H:Hp)(G:Hw),Mono K H1 H->RelH K H G->gd G->J.stop ws.length H
variable {i:Nat}
theorem GN{x:V}{a:List W}(r:RelH K H G)(e:H'=H)(h:∃ w,a[i]?=some w/\Tr K H x w):Mono K H H'/\RelH K H' G/\∃ w,a[i]?=some w/\Tr K H' x w:=by
 subst e;exact⟨.refl,r,h⟩
variable {gd:Hw->Prop}{H1:Hp}
theorem GP{b:List W}(h:∀ H G,Mono K H1 H->RelH K H G->gd G->∃ vs,SqL K H a vs/\TrL K H vs b):D9 K H1 (Itl K a) b gd where
 go:=λi H G m r g hi=>by
  obtain⟨vs,q,t⟩:=h H G m r g;have hl:=t.length;exact⟨vs,vs[i]'(by omega),q,by simp⟩
 yld:=λi H G x H' m r g y hi=>by
  obtain⟨vs,q,t⟩:=h H G m r g;obtain⟨w,e,c⟩:=t.get' (y.2 vs q);exact GN r y.1 ⟨w,e,c⟩
 stop:=λH G m r g=>by
  obtain⟨vs,q,t⟩:=h H G m r g;exact⟨vs,q,Nat.le_of_eq t.length⟩
theorem N9{b:List W}(q:SqT K H1 a vs)(t:TrL K H1 vs b):D9 K H1 (Itt K a) b gd where
 go:=λi H G m r g hi=>by
  have hl:=t.length;exact⟨vs,vs[i]'(by omega),m.tup _ _ q,by simp⟩
 yld:=λi H G x H' m r g y hi=>by
  obtain⟨w,e,c⟩:=(t.mono m).get' (y.2 vs (m.tup _ _ q));exact GN r y.1 ⟨w,e,c⟩
 stop:=λH G m r g=>⟨vs,m.tup _ _ q,Nat.le_of_eq t.length⟩
theorem cq{a:List W}(t:TrL K H1 vs a):D9 K H1 (Itk vs) a gd where
 go:=λi H G m r g hi=>by show i < vs.length;rw[t.length];exact hi
 yld:=λi H G x H' m r g y hi=>by
  obtain⟨w,e,b⟩:=(t.mono m).get' y.2;exact GN r y.1 ⟨w,e,b⟩
 stop:=λH G m r g=>by show vs.length<=a.length;exact Nat.le_of_eq t.length
def PIw(X:Cx)(tg l:Expr)(gi:GI):Prop:=∃ wi:TI,PI X tg l wi/\∀(σ:St)(H:Hp)(ω:Sw)(G:Hw)(R:List W->(Hw->Prop)->Hw->Prop)(R0:It->Hp->Prop),TrSt X.K H σ ω->RelH X.K H G->gi ω G R->
 (∀ ws gd G1 H1 J,R ws gd G1->Mono X.K H H1->RelH X.K H1 G1->gd G1->D9 X.K H1 J ws gd->R0 J H1)->wi σ H R0
theorem cr(n:∀ it u,letOwnedTupleGo tg it u=pure ())(f:ga.M)(hl:PEw X l ga):PIw X tg l (AD ga):=by
 refine⟨_,cm n hl,λσ H ω G R E A r q k=>⟨ω,G,A,r,f _ _ _ _ (λw s z v H1 m t r1=>?_) q⟩⟩;cases t with
 | tup h l=>exact .inr (.inl ⟨_,rfl,⟨_,h⟩,k _ _ _ H1 _ z m r1 trivial (N9 h l)⟩)
 | rol h l=>exact .inl ⟨_,rfl,⟨_,h.sq⟩,k _ _ _ H1 _ z m r1 trivial (GP λH2 y c _ _=>⟨_,(c.rol _ _ h).sq,l.mono c⟩)⟩
 | str x=>exact .inr (.inr ⟨x,rfl,k _ _ _ H1 _ z m r1 trivial (cq cn)⟩)
 | ref a =>
  dsimp only at z;cases e:s a with
  | none=>rw[e]at z;exact z.elim
  | some o =>
   rw[e]at z;cases o with
   | exc C=>exact z.elim
   | ins C fs=>exact z.elim
   | dct j=>exact z.elim
   | lst B =>
    obtain⟨d,p,D⟩:=r1 a _ e;exact .inl ⟨a,rfl,⟨d,SqL.of p⟩,k _ _ _ H1 _ z m r1 e (GP λH2 y c g g2=>let⟨d,e2,t2⟩:=g a _ g2;⟨d,SqL.of e2,t2⟩)⟩
 | non=>exact z.elim
 | bl b=>exact z.elim
 | int i=>exact z.elim
structure TgW(X:Cx)(tg:Expr)(gg:GG):Prop where
 ex:∃ g:TG,PG X tg g/\∀(x:V)(w:W)(σ:St)(ω:Sw)(H:Hp)(G:Hw)(Q:St->Hp->Prop),Tr X.K H x w->TrSt X.K H σ ω->RelH X.K H G->gg w ω G (dnS X.K H Q)->g x σ H Q
 mono:gg.M
def gNm(i:Nat):GG:=λw ω G Q=>Q (ω.set i (some w)) G
variable {x:Str}
theorem Oa{p:Pos}(b:X.N.Nodup)(hi:X.N[i]?=some x)(d:Loc X.env.scope x)(a:X.fn x=true\/X.env.scope.names.lookup x=some .local):TgW X (.Name x p) (gNm i) where
 ex:=⟨_,CN b hi d a,λx w σ ω H G Q t c r q=>q _ H .refl (c.set i t) r⟩
 mono:=λ_ _ _ _ _ h q=>h _ _ q
def BW(i j:Nat):GG:=λw ω G Q=>match w with | .tup [a,b]=>Q ((ω.set i (some a)).set j (some b)) G | _=>False
variable {y:Str}{g pos:Pos}{k j:Nat}
theorem Ob{p:Pos}(hc:X.calm=true)(d:X.N.Nodup)(hi:X.N[i]?=some x)(f:Loc X.env.scope x)(n:X.fn x=true\/X.env.scope.names.lookup x=some .local)
  (m:X.N[j]?=some y) (e:Loc X.env.scope y) (c:X.fn y=true\/X.env.scope.names.lookup y=some .local):TgW X (.Tuple [.Name x p,.Name y g] k pos) (BW i j) where
 ex:=⟨_,Jt hc (D4 (CN d hi f n) (D4 (CN d m e c) Js)),λv w σ ω H G Q t o r q=>by
  unfold BW at q;split at q
  ·rename_i a b;cases t with
   | tup h l =>
    cases l with
    | cons ta l =>
     cases l with
     | cons tb l =>
      cases l;exact⟨_,_,rfl,h,rfl,_,_,rfl,_,_,rfl,rfl,q _ H .refl ((o.set i ta).set j tb) r⟩
  ·exact q.elim⟩
 mono:=λw ω G Q s h q=>by
  unfold BW at q ⊢;split
  ·exact h _ _ q
  ·rename_i z;split at q
   ·exact(z _ _ rfl).elim
   ·exact q
def A8(gd:Hw->Prop)(gg:GG)(gb:GS)(D:Ew):List W->Sw->Hw->Prop
 | [],ω,G=>gd G/\D.nx ω G
 | x::xs,ω,G=>gd G/\gg x ω G λω1 G1=>gb {nx:=A8 gd gg gb D xs,rt:=D.rt,bk:=D.nx,ct:=A8 gd gg gb D xs} ω1 G1
def AB(gi:GI)(gg:GG)(gb:GS):GS:=λD ω G=>gi ω G λws gd G1=>A8 gd gg gb D ws ω G1
theorem JU{gd:Hw->Prop}{c:GG}{gb:GS}(mg:c.M)(mb:gb.M){D d:Ew}(h1:∀ a b,D.nx a b->d.nx a b)(h2:∀ a b,D.rt a b->d.rt a b):∀(e:List W)(ω:Sw)(G:Hw),A8 gd c gb D e ω G->A8 gd c gb d e ω G
 | [],ω,G,q=>⟨q.1,h1 _ _ q.2⟩
 | x::xs,ω,G,q=>⟨q.1,mg _ _ _ _ _ (λω1 f z=>mb _ _ {nx:=A8 gd c gb D xs,rt:=D.rt,bk:=D.nx,ct:=A8 gd c gb D xs} _ (λa b y=>JU mg mb h1 h2 xs a b y) h2 h1 (λa b y=>JU mg mb h1 h2 xs a b y) z) q.2⟩
variable {gi:GI}{gb:GS}
theorem cu{a:GG}(c:gi.M)(mg:a.M)(mb:gb.M):GS.M (AB gi a gb):=λω G D f h1 h2 e g q=>c _ _ _ _ (λb h d z=>JU mg mb h1 h2 b ω d z) q
variable {D:Ew}
theorem cw{b:GG}{a:List W}(q:A8 gd b gb D a ω G):gd G:=by
 cases a with
 | nil=>exact q.1
 | cons w a=>exact q.1
variable {iter:Expr}{body:List Stmt}
theorem cx{P:Hp->Prop}{p:GG}(hp:PassesOwn (model X.prog X.w) X.A X.env X.xe)(hc:X.calm=true)(mi:gi.M)(mb:gb.M)(hi:PIw X tg iter gi)(hg:TgW X tg p)(hb:C4 X N0 body gb)
  (hs:∀ x,foldedSetIterable iter X.env x=pure x:=by intro _;rfl):PSw X P (.For tg iter body [] pos) (AB gi p gb):=by
 intro B hB;obtain⟨wi,T,hi⟩:=hi;obtain⟨g,N,S⟩:=hg.ex;have mg:=hg.mono;have F:PSs X body (λD σ H=>∃ v,upS X.K v gb D σ H):=(by rintro pins s σ H D I ⟨v,z⟩;exact hb v trivial pins s σ H D I z);refine CQ (Zg hp hc T N F hs) λD σ H u=>?_;obtain⟨ω,G,ts,r,E,q⟩:=u;refine hi σ H ω G _ _ ts r q λd Z G1 H1 J z U r1 hgd O=>?_;have h:=E.trans U;refine⟨λi m σ' H'=>m=d.length - i/\i<=d.length/\Mono X.K H1 H'/\∃ ω' f,TrSt X.K H' σ' ω'/\RelH X.K H' f/\A8 Z p gb (dnD X.K B D) (d.drop i) ω' f,⟨d.length,by simp,YZ _,.refl,ω,G1,ts.mono U,r1,by simpa using z⟩,?_⟩;rintro i m σ' H' ⟨rfl,hle,l,ω',f,o,r',n⟩;have c:=cw n;by_cases j:i < d.length
 ·refine .inr ⟨O.go i H' f l r' c j,λσ2 H2=>Mono X.K H1 H2/\∃ ω2 G2,TrSt X.K H2 σ2 ω2/\RelH X.K H2 G2/\A8 Z p gb (dnD X.K B D) (d.drop (i+1)) ω2 G2,
   (by rintro σ2 H2 ⟨y1,y2⟩;exact⟨d.length -(i+1),by omega,rfl,j,y1,y2⟩),λx H2 y=>?_⟩
  obtain⟨Y,ry,w,ew,tw⟩:=O.yld i H' f x H2 l r' c y j;have l:=l.trans Y
  have ed:d.drop i=w::d.drop (i+1):=by
   obtain⟨h',e'⟩:=Qc.mp ew;rw[<- e'];exact List.drop_eq_getElem_cons h'
  rw[ed]at n;refine S x w σ' ω' _ f _ tw (o.mono Y) ry (mg _ _ _ _ _ (λω1 Q z1 σ1 H3 m3 R r3=>?_) n.2);exact⟨H1,ω1,Q,R,r3,l.trans m3,mb _ _ _ _ (λa b y σ4 H4 t k L=>⟨t,a,b,k,L,y⟩) (λa b y=>Ca h y) (λa b y=>be h y) (λa b y σ4 H4 t k L=>⟨t,a,b,k,L,y⟩) z1⟩
 ·have e:i=d.length:=by omega
  subst e;rw[List.drop_length]at n;exact .inl ⟨O.stop H' f l r' c,n.2 σ' H' (h.trans l) o r'⟩
def Be(gd:Hw->Prop)(gg:GG)(gt:GT)(ge:GE)(R:List W->Hw->Prop):List W->Sw->Hw->List W->Prop
 | [],_,G,ys=>gd G/\R ys G
 | x::xs,ω,G,ys=>gd G/\ys.length < sizeLine/\gg x ω G λω1 G1=>gt ω1 G1 λb G2=>if b=true then ge ω1 G2 λy G3=>Be gd gg gt ge R xs ω1 G3 (ys++[y])else Be gd gg gt ge R xs ω1 G2 ys
def AF(gi:GI)(n:Nat)(gg:GG)(gt:GT)(ge:GE):GE:=λω G Q=>gi ω G λws gd G1=>Be gd gg gt ge (λys G2=>∀ p,G2 p=none->Q (.ref p) (put G2 p (.lst ys))) ws (List.replicate n none) G1 []
theorem GQ{gd:Hw->Prop}{c:GG}{gt:GT}{ge:GE}(mg:c.M)(e:gt.M)(d:ge.M){R i:List W->Hw->Prop}(h:∀ a b,R a b->i a b):∀(f:List W)(ω:Sw)(G:Hw)(ys:List W),Be gd c gt ge R f ω G ys->Be gd c gt ge i f ω G ys
 | [],ω,G,ys,q=>⟨q.1,h _ _ q.2⟩
 | x::xs,ω,G,ys,q=>⟨q.1,q.2.1,mg _ _ _ _ _ (λω1 m z=>e _ _ _ _ (λb l g=>by
   cases b with
   | true=>exact d _ _ _ _ (λy j k=>GQ mg e d h xs ω1 j _ k) g
   | false=>exact GQ mg e d h xs ω1 l _ g) z) q.2.2⟩
variable {n:Nat}{gt:GT}{ge:GE}
theorem cy{a:GG}(b:gi.M)(mg:a.M)(e:gt.M)(d:ge.M):GE.M (AF gi n a gt ge):=λω G Q g h q=>
 b _ _ _ _ (λf i j z=>GQ mg e d (λys k z p c=>h _ _ (z p c)) _ _ _ _ z) q
variable {ys:List W}
theorem Oc{b:GG}{R:List W->Hw->Prop}{a:List W}(q:Be gd b gt ge R a ω G ys):gd G:=by
 cases a with
 | nil=>exact q.1
 | cons w a=>exact q.1
def AM:GT:=λ_ G Q=>Q true G
theorem cz:GT.M AM:=λ_ _ _ _ h q=>h _ _ q
abbrev PFw(X:Cx)(ifs:List Expr)(g:GT):Prop:=PF X ifs (upT X.K g)
theorem cA:PFw X [] AM:=(by rintro pins s σ H Q I ⟨ω,G,a,r,q⟩;exact aU pins s σ H Q I (q H .refl r))
theorem cB{c:Expr}{g:GT}(h:PTw X c g):PFw X [c] g:=aV h
theorem cC(h:σ=List.replicate n none):TrSt K H σ (List.replicate n none):=by
 subst h;refine⟨by simp,λi w e=>?_⟩;rw[List.getElem?_replicate]at e;split at e <;> cases e
variable {Nc:List Str}
theorem cD{u:GG}{wi:TI}{g:TG}(P:∀(σ:St)(H:Hp)(ω:Sw)(G:Hw)(R:List W->(Hw->Prop)->Hw->Prop)(R0:It->Hp->Prop),TrSt X.K H σ ω->RelH X.K H G->gi ω G R->
   (∀ a gd t H1 J,R a gd t->Mono X.K H H1->RelH X.K H1 t->gd t->D9 X.K H1 J a gd->R0 J H1)->wi σ H R0)
  (N:∀(x:V)(w:W)(σ:St)(ω:Sw)(H:Hp)(G:Hw)(Q:St->Hp->Prop),Tr X.K H x w->TrSt X.K H σ ω->RelH X.K H G->u w ω G (dnS X.K H Q)->g x σ H Q) (mg:u.M) (mt:gt.M) (me:ge.M) (σ:St) (H:Hp) (Q:VK) (h:up X.K (AF gi Nc.length u gt ge) σ H Q):
  JO wi (λ_=>List.replicate Nc.length none) g (upT X.K gt) (up X.K ge) σ H Q:=by
 obtain⟨ω,G,ts,r,q⟩:=h;refine P σ H ω G _ _ ts r q λa gd t H1 J z m1 r1 hgd F=>?_
 refine⟨λi m σ' H' S=>m=a.length - i/\i<=a.length/\Mono X.K H1 H'/\∃ ω' l ys,TrSt X.K H' σ' ω'/\RelH X.K H' l/\TrL X.K H' S ys/\Be gd u gt ge (λys k=>∀ p,k p=none->dn X.K H Q (.ref p) (put k p (.lst ys))) (a.drop i) ω' l ys,
  ⟨a.length,by simp,YZ _,.refl,_,t,[],cC rfl,r1,.nil,by simpa using z⟩,?_⟩
 rintro i m σ' H' S ⟨rfl,hle,j,ω',l,ys,I,r',tv,o⟩;have c:=Oc o;by_cases d:i < a.length
 ·have hw:∃ w,a[i]?=some w:=⟨a[i],by simp[d]⟩;obtain⟨w0,A⟩:=hw
  have ed:a.drop i=w0::a.drop (i+1):=by
   obtain⟨h',e'⟩:=Qc.mp A;rw[<- e'];exact List.drop_eq_getElem_cons h'
  rw[ed]at o
  refine .inr ⟨F.go i H' l j r' c d,by rw[tv.length];exact o.2.1,λσ2 H2 v=>Mono X.K H1 H2/\∃ ω2 k s,TrSt X.K H2 σ2 ω2/\RelH X.K H2 k/\TrL X.K H2 v s/\Be gd u gt ge (λys k=>∀ p,k p=none->dn X.K H Q (.ref p) (put k p (.lst ys))) (a.drop (i+1)) ω2 k s,
   (by rintro σ2 H2 v ⟨y1,y2⟩;exact⟨a.length -(i+1),by omega,rfl,d,y1,y2⟩),λx H2 y=>?_⟩
  obtain⟨D,ry,w,Z,tw⟩:=F.yld i H' l x H2 j r' c y d;have j:=j.trans D;have tv:=tv.mono D;rw[A]at Z;cases Z;refine N x _ σ' ω' _ l _ tw (I.mono D) ry (mg _ _ _ _ _ (λω1 L z1 σ1 H3 B f r3=>?_) o.2.2);refine⟨ω1,L,f,r3,mt _ _ _ _ (λb U Y H4 n T=>?_) z1⟩;cases b with
  | true=>exact⟨ω1,U,f.mono n,T,me _ _ _ _ (λy5 G5 z5 v5 H5 O t5 r5=>⟨((j.trans B).trans n).trans O,ω1,G5,_,(f.mono n).mono O,r5,(((tv.mono B).mono n).mono O).append (.cons t5 .nil),z5⟩) Y⟩
  | false=>exact⟨(j.trans B).trans n,ω1,U,_,f.mono n,T,(tv.mono B).mono n,Y⟩
 ·have e:i=a.length:=by omega
  subst e;rw[List.drop_length]at o;exact .inl ⟨F.stop H' l j r' c,λp E=>o.2 p (r'.no E) _ _ ((m1.trans j).trans (Mono.new E _)) (.ref p) (r'.new E tv)⟩
structure TgU(X:Cx)(Nc:List Str)(scope:Scope)(tg:Expr)(gg:GG):Prop where
 ex:∃ g:TG,(∀ C fp s H,PG (cxB X Nc scope [] C fp s H) tg g)/\∀(x:V)(w:W)(σ:St)(ω:Sw)(H:Hp)(G:Hw)(Q:St->Hp->Prop),Tr X.K H x w->TrSt X.K H σ ω->RelH X.K H G->gg w ω G (dnS X.K H Q)->g x σ H Q
 mono:gg.M
variable {scope:Scope}
theorem Cc{p:Pos}(b:Nc.Nodup)(hi:Nc[i]?=some x)(a:scope.names.lookup x=some .local):TgU X Nc scope (.Name x p) (gNm i) where
 ex:=⟨C3 i,λC c s H=>CN (X:=cxB X Nc scope [] C c s H) b hi (.inl (lookup_relabel_local a)) (.inr (lookup_relabel_local a)),λx w σ ω H G Q t d r q=>q _ H .refl (d.set i t) r⟩
 mono:=λ_ _ _ _ _ h q=>h _ _ q
theorem cE:GG.M (BW i j):=λw ω G Q a h q=>by
 unfold BW at q ⊢;split
 ·exact h _ _ q
 ·rename_i z;split at q
  ·exact(z _ _ rfl).elim
  ·exact q
theorem Od{p:Pos}(hc:X.calm=true)(e:Nc.Nodup)(hi:Nc[i]?=some x)(d:scope.names.lookup x=some .local)(m:Nc[j]?=some y)(c:scope.names.lookup y=some .local):
  TgU X Nc scope (.Tuple [.Name x p,.Name y g] k pos) (BW i j) where
 ex:=⟨L2.Ah X.K 2 (L2.Aa (C3 i) (L2.Aa (C3 j) L2.Ac)),λC f s H=>Jt (X:=cxB X Nc scope [] C f s H) hc (D4 (CN e hi (.inl (lookup_relabel_local d)) (.inr (lookup_relabel_local d))) (D4 (CN e m (.inl (lookup_relabel_local c)) (.inr (lookup_relabel_local c))) Js)),
  λv w σ ω H G Q t n r q=>by
   unfold BW at q;split at q
   ·rename_i a b;cases t with
    | tup h l =>
     cases l with
     | cons ta l =>
      cases l with
      | cons tb l =>
       cases l;exact⟨_,_,rfl,h,rfl,_,_,rfl,_,_,rfl,rfl,q _ H .refl ((n.set i ta).set j tb) r⟩
   ·exact q.elim⟩
 mono:=cE
theorem cF{e:GG}(hc:X.calm=true)(hi:PIw X tg iter gi)(B:Blk X Nc scope [] (λ_=>List.replicate Nc.length none))
  (f:TgU X Nc scope tg e) (l:gt.M) (h:∀ C a s H,PFw (cxB X Nc scope [] C a s H) ifs gt) (k:ge.M) (i:∀ C a s H,PEw (cxB X Nc scope [] C a s H) elt ge) (j:∀ x,foldedSetIterable iter X.env x=pure x):
  PEw X (.ListComp elt [⟨tg,iter,ifs,0⟩] scope pos) (AF gi Nc.length e gt ge):=by
 obtain⟨m,c,hi⟩:=hi;obtain⟨g,d,b⟩:=f.ex;exact A7 (NV hc c B d h i j) (cD hi b f.mono l k)
def Au(C:Int->Int->Prop)(f:Int->Int->Int):RW2:=λx y G Q=>match x,y with
 | .int i,.int j=>C i j/\Q (.int (f i j)) G
 | _,_=>False
theorem CS{C:Int->Int->Prop}{f:Int->Int->Int}:RW2.M (Au C f):=λx y G Q a h q=>by
 cases x <;> cases y <;> first | exact q | exact⟨q.1,h _ _ q.2⟩
theorem Fv{C:Int->Int->Prop}{f:Int->Int->Int}(x y:W)(v u:V)(G:Hw)(H:Hp)(Q:VK)(a:Tr K H v x)(ty:Tr K H u y)(r:RelH K H G)(q:Au C f x y G (dn K H Q)):rI C (λi j=>.int (f i j)) v u H Q:=by
 cases a <;> first | exact q.elim |(cases ty <;> first | exact q.elim | exact⟨_,_,rfl,rfl,q.1,q.2 _ H .refl (.int _) r⟩)
def AJ:RW2:=λx y G Q=>match x,y with
 | .int i,.int j=>Q (.int (i+j)) G
 | .str a,.str b=>a.length+b.length<=sizeLine/\Q (.str (a++b)) G
 | .ref a,.ref b=>(match G a,G b with
  | some (.lst xs),some (.lst ys)=>xs.length+ys.length<=sizeLine/\∀ p,G p=none->Q (.ref p) (put G p (.lst (xs++ys)))
  | _,_=>False)
 | _,_=>False
theorem JV:RW2.M AJ:=λx y G Q g h q=>by
 cases x <;> cases y <;> first | exact q | exact h _ _ q | exact⟨q.1,h _ _ q.2⟩| skip
 rename_i a b;unfold AJ at q ⊢;dsimp only at q ⊢;cases c:G a with
 | none=>rw[c]at q;exact q
 | some d =>
  cases eb:G b with
  | none=>rw[c,eb]at q;cases d <;> exact q
  | some f =>
   rw[c,eb]at q;cases d <;> cases f <;> first | exact q | exact⟨q.1,λp e=>h _ _ (q.2 p e)⟩
theorem Oe:OpR X (binaryOp .Add) (λx y H Q=>(rI0 λi j=>.int (i+j)) x y H Q\/(∃ i j,x=.str i/\y=.str j/\i.length+j.length<=sizeLine/\Q (.str (i++j)) H)\/Ft x y H Q):=OpR.or Zl (OpR.or ZI au)
theorem Of(x y:W)(v u:V)(G:Hw)(H:Hp)(Q:VK)(n:Tr K H v x)(ty:Tr K H u y)(r:RelH K H G)(q:AJ x y G (dn K H Q)):
  (rI0 λi j=>.int (i+j)) v u H Q\/(∃ i j,v=.str i/\u=.str j/\i.length+j.length<=sizeLine/\Q (.str (i++j)) H)\/Ft v u H Q:=by
 cases n with
 | int i=>cases ty <;> first | exact q.elim | exact .inl ⟨_,_,rfl,rfl,q _ H .refl (.int _) r⟩
 | str i=>cases ty <;> first | exact q.elim | exact .inr (.inl ⟨_,_,rfl,rfl,q.1,q.2 _ H .refl (.str _) r⟩)
 | ref a =>
  cases ty <;> try exact q.elim
  rename_i b;unfold AJ at q;dsimp only at q;cases c:G a with
  | none=>rw[c]at q;exact q.elim
  | some f =>
   cases eb:G b with
   | none=>rw[c,eb]at q;cases f <;> exact q.elim
   | some m =>
    rw[c,eb]at q;cases f <;> cases m <;> try exact q.elim
    obtain⟨k,l,g⟩:=r a _ c;obtain⟨o,h,e⟩:=r b _ eb;exact .inr (.inr ⟨a,b,k,o,rfl,rfl,l,h,by rw[g.length,e.length];exact q.1,λp d=>q.2 p (r.no d) _ _ (Mono.new d _) (.ref p) (r.new d (g.append e))⟩)
 | _=>exact q.elim
def AR(f:Int->Int->Bool):RW2:=λx y G Q=>match x,y with
 | .int i,.int j=>Q (.bl (f i j)) G
 | _,_=>False
variable {f:Int->Int->Bool}
theorem Og:RW2.M (AR f):=λx y G Q a h q=>by
 cases x <;> cases y <;> first | exact q | exact h _ _ q
theorem Oh(x y:W)(v u:V)(G:Hw)(H:Hp)(Q:VK)(a:Tr K H v x)(ty:Tr K H u y)(r:RelH K H G)(q:AR f x y G (dn K H Q)):rI0 (λi j=>.bl (f i j)) v u H Q:=by
 cases a <;> first | exact q.elim |(cases ty <;> first | exact q.elim | exact⟨_,_,rfl,rfl,q _ H .refl (.bl _) r⟩)
def opt(o:Option W)(f:W->Prop):Prop:=match o with | some w=>f w | none=>False
theorem JW{o:Option W}{f a:W->Prop}(h:∀ w,f w->a w)(q:opt o f):opt o a:=by
 cases o with
 | none=>exact q
 | some w=>exact h _ q
theorem Cd{o:Option W}{f:W->Prop}(q:opt o f):∃ w,o=some w/\f w:=by
 cases o with
 | none=>exact q.elim
 | some w=>exact⟨w,rfl,q⟩
def Ae(f:W->W->Hw->Option W):RW2:=λx y G Q=>opt (f x y G) λw=>Q w G
theorem CG{f:W->W->Hw->Option W}:RW2.M (Ae f):=λx y G Q a h q=>JW (λw z=>h _ _ z) q
def ixW(x y:W)(G:Hw):Option W:=match x,y with
 | .tup xs,.int i=>atI xs i
 | .rol xs,.int i=>atI xs i
 | .ref a,.int i=>(match G a with | some (.lst xs)=>atI xs i | _=>none)
 | .str z,.int i=>if z.length<=sizeLine then(atI z.cps.toList i).map λc=>.str ⟨#[c]⟩else none
 | _,_=>none
theorem JX{a:List W}{i:Int}(t:TrL K H vs a)(e:atI a i=some w):∃ v,atI vs i=some v/\Tr K H v w:=by
 unfold atI at e ⊢;rw[t.length];cases z:ixN a.length i with
 | none=>rw[z]at e;cases e
 | some j =>
  rw[z]at e;exact t.get e
theorem cG:IxR X (λx y H Q=>JF X.K x y H Q\/JG X.K x y H Q\/JH x y H Q):=IxR.or Z8 (IxR.or Z9 aa)
theorem cH(x y:W)(v u:V)(G:Hw)(H:Hp)(Q:VK)(m:Tr K H v x)(ty:Tr K H u y)(r:RelH K H G)(q:Ae ixW x y G (dn K H Q)):JF K v u H Q\/JG K v u H Q\/JH v u H Q:=by
 obtain⟨w,e,f⟩:=Cd q;cases ty with
 | int i =>
  cases m with
  | tup h l =>
   obtain⟨j,b,t'⟩:=JX l e;exact .inr (.inl ⟨_,_,_,_,rfl,rfl,h,b,f _ H .refl t' r⟩)
  | rol h l =>
   obtain⟨j,b,t'⟩:=JX l e;exact .inl ⟨_,_,_,_,rfl,rfl,h.sq,b,f _ H .refl t' r⟩
  | str z =>
   unfold ixW at e;dsimp only at e;split at e
   ·rename_i n;cases d:atI z.cps.toList i with
    | none=>rw[d]at e;cases e
    | some c =>
     rw[d]at e;cases e;exact .inr (.inr ⟨z,i,c,rfl,rfl,n,d,f _ H .refl (.str _) r⟩)
   ·cases e
  | ref a =>
   unfold ixW at e;dsimp only at e;cases g:G a with
   | none=>rw[g]at e;cases e
   | some o =>
    rw[g]at e;cases o with
    | exc C=>cases e
    | ins C fs=>cases e
    | dct k=>cases e
    | lst p =>
     obtain⟨s,d,l⟩:=r a _ g;obtain⟨j,b,t'⟩:=JX l e;exact .inl ⟨_,_,_,_,rfl,rfl,SqL.of d,b,f _ H .refl t' r⟩
  | _=>cases e
 | _=>cases x <;> cases e
structure Em(X:Cx)(e:Expr)(g:GE):Prop where
 p:PEw X e g
 m:g.M
structure Tm(X:Cx)(e:Expr)(g:GT):Prop where
 p:PTw X e g
 m:g.M
structure Wm(X:Cx)(e:Expr)(g:GT):Prop where
 p:PWw X e g
 m:g.M
structure Am(X:Cx)(es:List Expr)(g:GA):Prop where
 p:PAw X es g
 m:g.M
structure Sm(X:Cx)(P:Hp->Prop)(s:Stmt)(g:GS):Prop where
 p:PSw X P s g
 m:g.M
structure Ssm(X:Cx)(P:Hp->Prop)(s:List Stmt)(g:GS):Prop where
 p:C4 X P s g
 m:g.M
structure Im(X:Cx)(tg l:Expr)(g:GI):Prop where
 p:PIw X tg l g
 m:g.M
def place(N:List Str)(x:Str):Option Nat:=N.findIdx? (·==x)
theorem Oi(h:place N x=some i):N[i]?=some x:=by
 unfold place at h;obtain⟨hi,e,_⟩:=List.findIdx?_eq_some_iff_getElem.mp h;rw[Yp hi,eq_of_beq e]
def seen(sc:Scope)(x:Str):Bool:=match sc.names.lookup x with | some .local=>true | some .cell=>true | some .free=>true | _=>false
theorem Oj{a:Scope}(h:seen a x=true):Vis a x:=by
 unfold seen at h;split at h <;> first |(rename_i e;exact .inl e)|(rename_i e;exact .inr (.inl e))|(rename_i e;exact .inr (.inr e))| cases h
def Fw(sc:Scope)(x:Str):Bool:=match sc.names.lookup x with | some .local=>true | _=>false
theorem Fy{a:Scope}(h:Fw a x=true):a.names.lookup x=some .local:=by
 unfold Fw at h;split at h
 ·rename_i e;exact e
 ·cases h
section
variable {X:Cx} {a b c e f:Expr} {es Aw:List Expr} {st:Stmt} {sts sts':List Stmt} {pos pos' p:Pos} {ga gb gc:GE} {gt gu:GT} {gs:GA} {g1 g2:GS} {ex:Xw} {P:Hp->Prop}
theorem GR{i:Int}{j}:Em X (.Constant (.int i) j pos) (gC (.int i)):=⟨bh,EQ⟩
theorem cI{i:Bool}{j}:Em X (.Constant (.bool i) j pos) (gC (.bl i)):=⟨bi,EQ⟩
theorem Ol{j}:Em X (.Constant .none j pos) (gC .non):=⟨bj,EQ⟩
theorem cJ{i:Str}{j}:Em X (.Constant (.str i) j pos) (gC (.str i)):=⟨bn,EQ⟩
theorem cK(c:Em X a ga)(d:Em X b gb):Em X (.BinOp a .Add b pos) (Ad AJ ga gb):=⟨Dz Oe JV c.m d.m Of c.p d.p,Cb JV c.m d.m⟩
theorem cL(c:Em X a ga)(d:Em X b gb):Em X (.BinOp a .Sub b pos) (Ad (Au (λ_ _=>True) λi j=>i - j) ga gb):=
 ⟨Dz (r2:=rI (λ_ _=>True) λi j=>.int (i - j)) (opI λ_ _ _ _ _ _ _ _ q=>sub_int q) CS c.m d.m Fv c.p d.p,Cb CS c.m d.m⟩
theorem cM(c:Em X a ga)(d:Em X b gb):Em X (.BinOp a .Mult b pos) (Ad (Au CMul λi j=>i*j) ga gb):=⟨Dz Nl CS c.m d.m Fv c.p d.p,Cb CS c.m d.m⟩
theorem cN(c:Em X a ga)(d:Em X b gb):Em X (.BinOp a .FloorDiv b pos) (Ad (Au EJ λi j=>i / j) ga gb):=⟨Dz Zm CS c.m d.m Fv c.p d.p,Cb CS c.m d.m⟩
theorem cO(c:Em X a ga)(d:Em X b gb):Em X (.BinOp a .Mod b pos) (Ad (Au (λ_ j=>0 < j) λi j=>i % j) ga gb):=⟨Dz Zn CS c.m d.m Fv c.p d.p,Cb CS c.m d.m⟩
theorem cP(c:Em X a ga)(d:Em X b gb):Em X (.BinOp a .Pow b pos) (Ad (Au D5 λi j=>i ^ j.toNat) ga gb):=⟨Dz Zo CS c.m d.m Fv c.p d.p,Cb CS c.m d.m⟩
theorem On(e:Gy b)(c:Em X a ga)(d:Em X b gb):Em X (.Subscript a b pos) (Ad (Ae ixW) ga gb):=⟨N2 cG CG c.m d.m cH c.p d.p e,Cb CG c.m d.m⟩
theorem Oo{k}(h:Am X es gs):Em X (.Tuple es k pos) (Ah gs):=⟨cf h.m h.p,cc h.m⟩
theorem GU(h:Am X es gs):Em X (.List es pos) (Ap gs):=⟨cg h.m h.p,ce h.m⟩
variable {op:BoolOp}
theorem JY(h:Em X a ga):Em X (.BoolOp op [a] pos) ga:=⟨b6 h.p,h.m⟩
theorem JZ(c:Em X a ga)(d:Em X (.BoolOp .And (b::Aw) pos) gb):Em X (.BoolOp .And (a::b::Aw) pos) (AZ ga gb):=⟨b7 c.m d.m c.p d.p,b1 c.m d.m⟩
theorem cQ(c:Em X a ga)(d:Em X (.BoolOp .Or (b::Aw) pos) gb):Em X (.BoolOp .Or (a::b::Aw) pos) (Bp ga gb):=⟨b8 c.m d.m c.p d.p,b2 c.m d.m⟩
theorem Oq(b:Em X a ga):Em X (.UnaryOp .Not a pos) (Bd ga):=⟨b9 b.m b.p,b4 b.m⟩
theorem Os(hc:Tm X c gt)(d:Em X a ga)(e:Em X b gb):Em X (.IfExp c a b pos) (AQ gt ga gb):=⟨cb hc.m d.m e.m hc.p d.p e.p,b5 hc.m d.m e.m⟩
theorem Bu:Am X [] Ac:=⟨br,bp⟩
theorem AT(b:starEach (e::es) X.env=(false,eval e X.env)::starEach es X.env)(a:Em X e ga)(c:Am X es gs):Am X (e::es) (Aa ga gs):=⟨bu a.m c.m a.p c.p b,bq a.m c.m⟩
theorem Br{sp:Spw}(D:Df X.prog X.w X.K X.mg X.base x k n sp)(d:Room k X.A)(h:Gl X x)(g:DA X ex)(a:(x==("__debug__":Str))=false)(f:starEach (e::es) X.env=(false,eval e X.env)::starEach es X.env)(c:(backTo pos (starEach es X.env)).any (·.1)=false)
  (b:Am X (e::es) gs):Em X (.Call (.Name x p) (e::es) [] pos) (Ag sp ex gs):=⟨bv D d h g b.m b.p a f c,N3 D.mono b.m⟩
theorem ER(c:∀ a,isTrue e X.env a=(do let v <- a;standAt e.pos;holding [v] (truthy v)))(b:Em X e ga):Tm X e (Ay ga):=⟨bO b.m b.p c,bM b.m⟩
theorem ES(b:Tm X a gt):Tm X (.UnaryOp .Not a pos) (gNt gt):=⟨bQ b.p,bP b.m⟩
theorem cR{vs:List Expr}(h:Wm X (.BoolOp op vs pos) gt):Tm X (.BoolOp op vs pos) gt:=⟨bZ h.p,h.m⟩
theorem cS(h:Tm X a gt):Wm X (.BoolOp .And [a] pos) gt:=⟨bV h.p,h.m⟩
theorem cT(h:Tm X a gt):Wm X (.BoolOp .Or [a] pos) gt:=⟨bW h.p,h.m⟩
theorem cU(c:Tm X a gt)(d:Wm X (.BoolOp .And (b::Aw) pos) gu):Wm X (.BoolOp .And (a::b::Aw) pos) (AV gt gu):=⟨bX c.m d.m c.p d.p,bR c.m d.m⟩
theorem cV(c:Tm X a gt)(d:Wm X (.BoolOp .Or (b::Aw) pos) gu):Wm X (.BoolOp .Or (a::b::Aw) pos) (gOr gt gu):=⟨bY c.m d.m c.p d.p,bU c.m d.m⟩
theorem CH:Ssm X P [] Al:=⟨bA,bx⟩
theorem AO(h:Sm X P st g1):Ssm X P [st] g1:=⟨bC h.p,h.m⟩
theorem Ax(h1:Sm X P st g1)(h2:Ssm X P sts g2):Ssm X P (st::sts) (Af g1 g2):=⟨bB h1.m h2.m h1.p h2.p,bz h1.m h2.m⟩
theorem BG(a:Em X e ga):Sm X P (.Return (some e) pos) (Ai ga):=⟨bE a.m a.p,bD a.m⟩
theorem BX(b:swapsWith e none pos.line X.env=pure false)(a:Em X e ga):Sm X P (.Expr e pos) (AA ga):=⟨bG a.m a.p b,bF a.m⟩
theorem BY(hc:Tm X c gt)(h1:Ssm X P sts g1)(h2:Ssm X P sts' g2):Sm X P (.If c sts sts' pos) (gIf gt g1 g2):=⟨bI hc.m h1.m h2.m hc.p h1.p h2.p,bH hc.m h1.m h2.m⟩
theorem Ot(a:∀ it u,letOwnedTupleGo tg it u=pure ())(hl:Em X l ga):Im X tg l (AD ga):=⟨cr a hl.m hl.p,cp hl.m⟩
theorem J0{b:GG}{gb:GS}(d:PassesOwn (model X.prog X.w) X.A X.env X.xe)(hc:X.calm=true)(e:∀ x,foldedSetIterable iter X.env x=pure x)(hi:Im X tg iter gi)(c:TgW X tg b)(a:Ssm X N0 sts gb):Sm X P (.For tg iter sts [] pos) (AB gi b gb):=
 ⟨cx d hc hi.m a.m hi.p c a.p e,cu hi.m c.mono a.m⟩
end
theorem Ou{bs:List Bool}{a:List Value}(r:Vals (bs.map V.bl) a){v:Value}(e:a.toArray[i]?=some v):v=.bool (bs.getD i false):=by
 have c:a[i]?=some v:=by simpa using e
 have hl:=r.length;rw[Yh]at hl;have hi:i < a.length:=(Qc.mp c).1;have d:bs[i]?=some (bs[i]'(by omega)):=Yp _;obtain⟨u,b,r1⟩:=r.get (i:=i) (x:=.bl (bs[i]'(by omega))) (by rw[YT,d];rfl);rw[c]at b;cases b;rw[Qe,d];exact r1
theorem cW{bs:List Bool}:(List.range bs.length).all (λi=>bs.getD i false)=bs.all id:=by
 rw[Bool.eq_iff_iff];simp only[List.all_eq_true,List.mem_range,id];constructor
 ·intro h b a;obtain⟨i,hi,e⟩:=List.mem_iff_getElem.mp a;have:=h i hi;rw[Qe,Yp hi]at this;rw[<- e];exact this
 ·intro h i hi;rw[Qe,Yp hi];exact h _ (Qk hi)
theorem cX{bs:List Bool}:(List.range bs.length).any (λi=>bs.getD i false)=bs.any id:=by
 rw[Bool.eq_iff_iff];simp only[List.any_eq_true,List.mem_range,id];constructor
 ·rintro⟨i,hi,h⟩;rw[Qe,Yp hi]at h;exact⟨_,Qk hi,h⟩
 ·rintro⟨b,a,h⟩;obtain⟨i,hi,e⟩:=List.mem_iff_getElem.mp a;exact⟨i,hi,by rw[Qe,Yp hi,Option.getD_some,e];exact h⟩
section
variable {X:Cx}
theorem cY(hc:X.calm=true):CallR X (.builtin "all") (λxs H Q=>∃(p:Addr)(bs:List Bool),xs=[.ref p]/\SqL X.K H p (bs.map V.bl)/\Q (.bl (bs.all id)) H):=by
 intro pins s σ H xs j Q I r h;obtain⟨p,bs,rfl,a,q⟩:=h;obtain⟨u,rfl,f⟩:=CO r;cases f;obtain⟨c,r',pl,g⟩:=I.list a;have hl:=r'.length;rw[Yh]at hl;obtain⟨o,n,e,_⟩:=id pl
 refine call_all_walk (wpAny_pyIter_list pl.isList ⟨s.heap.objs.size,_,_,_,_,_,λi=>bs.getD i false,rfl,Walks.list (A:=X.A.in1) (I.ok.hd hc) _ p (Ys (Qn e)) c.toArray,
  ⟨⟨_,Qo _ rfl,rfl,rfl⟩,pl.isList.push _⟩,λi v s Q E d a=>by rw[Ou r' d];exact wpAny_truthy_bool a,λh' tk k=>?_⟩)
 refine⟨.bl (bs.all id),H,I.kept (t':=tk) λb o e=>k b o (by simpa using Ys (Qn e)) (Qm _ e),?_,q⟩;show Value.bool _=_;rw[Yn,<- hl,cW]
theorem cZ(hc:X.calm=true):CallR X (.builtin "any") (λxs H Q=>∃(p:Addr)(bs:List Bool),xs=[.ref p]/\SqL X.K H p (bs.map V.bl)/\Q (.bl (bs.any id)) H):=by
 intro pins s σ H xs j Q I r h;obtain⟨p,bs,rfl,a,q⟩:=h;obtain⟨u,rfl,f⟩:=CO r;cases f;obtain⟨c,r',pl,g⟩:=I.list a;have hl:=r'.length;rw[Yh]at hl;obtain⟨o,n,e,_⟩:=id pl
 refine call_any_walk (wpAny_pyIter_list pl.isList ⟨s.heap.objs.size,_,_,_,_,_,λi=>bs.getD i false,rfl,Walks.list (A:=X.A.in1) (I.ok.hd hc) _ p (Ys (Qn e)) c.toArray,
  ⟨⟨_,Qo _ rfl,rfl,rfl⟩,pl.isList.push _⟩,λi v s Q E d a=>by rw[Ou r' d];exact wpAny_truthy_bool a,λh' tk k=>?_⟩)
 refine⟨.bl (bs.any id),H,I.kept (t':=tk) λb o e=>k b o (by simpa using Ys (Qn e)) (Qm _ e),?_,q⟩;show Value.bool _=_;rw[Yn,<- hl,cX]
theorem c0{ns:List Int}{a:List Value}(r:Vals (ns.map V.int) a){v:Value}(e:a.toArray[i]?=some v):∃ t,v=.int (ns.getD i 0) t:=by
 have c:a[i]?=some v:=by simpa using e
 have hl:=r.length;rw[Yh]at hl;have hi:i < a.length:=(Qc.mp c).1;have d:ns[i]?=some (ns[i]'(by omega)):=Yp _;obtain⟨u,b,r1⟩:=r.get (i:=i) (x:=.int (ns[i]'(by omega))) (by rw[YT,d];rfl);rw[c]at b;cases b;rw[Qe,d];exact r1
theorem c4(hc:X.calm=true):CallR X (.builtin "sum") (λxs H Q=>∃(p:Addr)(ns:List Int),xs=[.ref p]/\SqL X.K H p (ns.map V.int)/\PyProof.Rows.SumFits ns/\Q (.int ns.sum) H):=by
 intro pins s σ H xs x Q I r h;obtain⟨p,ns,rfl,f,t,q⟩:=h;obtain⟨u,rfl,m⟩:=CO r;cases m;obtain⟨a,r',pl,w⟩:=I.list f;have hl:=r'.length;rw[Yh]at hl;obtain⟨o,n,e,_⟩:=id pl
 refine call_sum_walk (wpAny_pyIter_list pl.isList ⟨s.heap.objs.size,_,_,_,_,_,λi=>ns.getD i 0,rfl,Walks.list (A:=X.A.in1) (I.ok.hd hc) _ p (Ys (Qn e)) a.toArray,
  ⟨⟨_,Qo _ rfl,rfl,rfl⟩,pl.isList.push _⟩,λb g=>?_,λi v l=>c0 r' l,λj d=>?_,λh' tk t' k=>?_⟩)
 ·rw[Qp];rcases Yo.mp g with c | c
  ·rw[c];exact Nat.lt_succ_self _
  ·rw[YA.mp c];exact Nat.lt_succ_of_lt (Qn e)
 ·rw[Yn,<- hl]at d;have:=t j d;rw[preSum_getD];exact this
 ·refine⟨.int ns.sum,H,I.kept (t':=tk) λb o e=>k b o (by simpa using Ys (Qn e)) (Qm _ e),⟨t',?_⟩,q⟩;rw[Yn,<- hl,preSum_getD,List.take_length]
end
abbrev RWc:=List W->Hw->Kw->Prop
def RWc.M(r:RWc):Prop:=∀ ws G(Q Q':Kw),(∀ w G',Q w G'->Q' w G')->r ws G Q->r ws G Q'
def gB(r:RWc)(gs:GA):GE:=λω G Q=>gs ω G λws G1=>r ws G1 Q
variable {r:RWc}{gs:GA}
theorem Ov(mr:r.M)(a:gs.M):GE.M (gB r gs):=λω G Q d h q=>a _ _ _ _ (λc b z=>mr _ _ _ _ h z) q
theorem Ow{r1:List V->Hp->VK->Prop}(mr:r.M)(f:gs.M)(c:∀ a vs G H Q,TrL K H vs a->RelH K H G->r a G (dn K H Q)->r1 vs H Q)(σ:St)(H:Hp)(Q:VK)(h:up K (gB r gs) σ H Q):tCB r1 (upA K gs) σ H Q:=by
 obtain⟨ω,G,g,e,q⟩:=h;exact⟨ω,G,g,e,f _ _ _ _ (λa d z vs H1 m t b=>c a vs d H1 Q t b (mr _ _ _ _ (λw i y=>Ca m y) z)) q⟩
section
variable {X:Cx} {x:Str} {p pos:Pos} {e:Expr} {es:List Expr} {gs:GA} {r:RWc} {r1:List V->Hp->VK->Prop} {id T:String}
theorem c5(hc:CallR X (.builtin id) r1)(mr:r.M)(f:∀ d vs G H Q,TrL X.K H vs d->RelH X.K H G->r d G (dn X.K H Q)->r1 vs H Q)(k:Gl X x)(g:X.mg x=none)(j:bootBuiltins x=some (.builtin id))(h:x≠"__name__")(a:(x==("__debug__":Str))=false)
  (i:starEach (e::es) X.env=(false,eval e X.env)::starEach es X.env) (c:(backTo pos (starEach es X.env)).any (·.1)=false) (b:Am X (e::es) gs):Em X (.Call (.Name x p) (e::es) [] pos) (gB r gs):=
 ⟨A7 (ZT hc k g j b.p h a i c) (Ow mr b.m f),Ov mr b.m⟩
theorem c6(hc:CallR X (.type T) r1)(mr:r.M)(f:∀ d vs G H Q,TrL X.K H vs d->RelH X.K H G->r d G (dn X.K H Q)->r1 vs H Q)(k:Gl X x)(g:X.mg x=none)(j:bootBuiltins x=some (.type T))(h:x≠"__name__")(a:(x==("__debug__":Str))=false)
  (i:starEach (e::es) X.env=(false,eval e X.env)::starEach es X.env) (c:(backTo pos (starEach es X.env)).any (·.1)=false) (b:Am X (e::es) gs):Em X (.Call (.Name x p) (e::es) [] pos) (gB r gs):=
 ⟨A7 (ZU hc k g j b.p h a i c) (Ow mr b.m f),Ov mr b.m⟩
end
def rF(f:List W->Hw->Option W):RWc:=λws G Q=>opt (f ws G) λw=>Q w G
theorem Fz{f:List W->Hw->Option W}:RWc.M (rF f):=λa G Q b h q=>JW (λw z=>h _ _ z) q
def DC:List W->Option (List Bool)
 | []=>some []
 | .bl b::r=>(DC r).map (b::·)
 | _=>none
theorem J1:∀{a:List W}{bs:List Bool}{vs:List V},DC a=some bs->TrL K H vs a->vs=bs.map V.bl
 | [],bs,vs,e,t=>by cases e;cases t;rfl
 | w::a,bs,vs,e,t=>by
  cases t with
  | cons c t =>
   cases w with
   | bl b =>
    unfold DC at e;cases z:DC a with
    | none=>rw[z]at e;cases e
    | some d =>
     rw[z]at e;cases e;rw[D7 c,J1 z t];rfl
   | _=>cases e
def Ea:List W->Option (List Int)
 | []=>some []
 | .int b::r=>(Ea r).map (b::·)
 | _=>none
theorem Ox:∀{a:List W}{bs:List Int}{vs:List V},Ea a=some bs->TrL K H vs a->vs=bs.map V.int
 | [],bs,vs,e,t=>by cases e;cases t;rfl
 | w::a,bs,vs,e,t=>by
  cases t with
  | cons c t =>
   cases w with
   | int b =>
    unfold Ea at e;cases z:Ea a with
    | none=>rw[z]at e;cases e
    | some d =>
     rw[z]at e;cases e;rw[N7 c,Ox z t];rfl
   | _=>cases e
def CT(G:Hw)(w:W):Option (List W):=match w with
 | .ref a=>(match G a with | some (.lst xs)=>some xs | _=>none)
 | _=>none
theorem ET{xs:List W}(r:RelH K H G)(t:Tr K H v w)(e:CT G w=some xs):∃ a vs,v=.ref a/\w=.ref a/\G a=some (.lst xs)/\H a=some (.lst vs)/\TrL K H vs xs:=by
 cases t with
 | ref a =>
  unfold CT at e;dsimp only at e;cases z:G a with
  | none=>rw[z]at e;cases e
  | some o =>
   rw[z]at e;cases o with
   | lst ys=>cases e;obtain⟨vs,c,d⟩:=r a _ z;exact⟨a,vs,rfl,rfl,z,c,d⟩
   | exc C=>cases e
   | ins C fs=>cases e
   | dct b=>cases e
 | _=>cases e
def Bc(ws:List W)(G:Hw):Option W:=match ws with | [w]=>(CT G w).bind λxs=>(DC xs).map λbs=>.bl (bs.all id)| _=>none
def Bs(ws:List W)(G:Hw):Option W:=match ws with | [w]=>(CT G w).bind λxs=>(DC xs).map λbs=>.bl (bs.any id)| _=>none
theorem c7(b:List W)(vs:List V)(G:Hw)(H:Hp)(Q:VK)(t:TrL K H vs b)(r:RelH K H G)(q:rF Bc b G (dn K H Q)):∃(p:Addr)(bs:List Bool),vs=[.ref p]/\SqL K H p (bs.map V.bl)/\Q (.bl (bs.all id)) H:=by
 obtain⟨w,e,g⟩:=Cd q;unfold Bc at e;split at e
 ·rename_i l;cases t with
  | cons f t =>
   cases t;obtain⟨xs,j,i⟩:=Qg.mp e;obtain⟨bs,h,c⟩:=YV.mp i;obtain⟨a,m,rfl,rfl,_,d,k⟩:=ET r f j;subst c;have:=J1 h k;subst this;exact⟨a,bs,rfl,SqL.of d,g _ H .refl (.bl _) r⟩
 ·cases e
theorem c8(b:List W)(vs:List V)(G:Hw)(H:Hp)(Q:VK)(t:TrL K H vs b)(r:RelH K H G)(q:rF Bs b G (dn K H Q)):∃(p:Addr)(bs:List Bool),vs=[.ref p]/\SqL K H p (bs.map V.bl)/\Q (.bl (bs.any id)) H:=by
 obtain⟨w,e,g⟩:=Cd q;unfold Bs at e;split at e
 ·rename_i l;cases t with
  | cons f t =>
   cases t;obtain⟨xs,j,i⟩:=Qg.mp e;obtain⟨bs,h,c⟩:=YV.mp i;obtain⟨a,m,rfl,rfl,_,d,k⟩:=ET r f j;subst c;have:=J1 h k;subst this;exact⟨a,bs,rfl,SqL.of d,g _ H .refl (.bl _) r⟩
 ·cases e
def DD:RWc:=λws G Q=>match ws with
 | [w]=>(match(CT G w).bind Ea with | some ns=>PyProof.Rows.SumFits ns/\Q (.int ns.sum) G | none=>False)
 | _=>False
theorem c9:RWc.M DD:=λa G Q b h q=>by
 unfold DD at q ⊢;split at q
 ·split at q
  ·exact⟨q.1,h _ _ q.2⟩
  ·exact q.elim
 ·exact q.elim
theorem da(b:List W)(vs:List V)(G:Hw)(H:Hp)(Q:VK)(t:TrL K H vs b)(r:RelH K H G)(q:DD b G (dn K H Q)):∃(p:Addr)(ns:List Int),vs=[.ref p]/\SqL K H p (ns.map V.int)/\PyProof.Rows.SumFits ns/\Q (.int ns.sum) H:=by
 unfold DD at q;split at q
 ·rename_i i;split at q
  ·rename_i ns e;cases t with
   | cons d t =>
    cases t;obtain⟨xs,g,f⟩:=Qg.mp e;obtain⟨a,j,rfl,rfl,_,c,h⟩:=ET r d g;have:=Ox f h;subst this;exact⟨a,ns,rfl,SqL.of c,q.1,q.2 _ H .refl (.int _) r⟩
  ·exact q.elim
 ·exact q.elim
def A9(w:W)(G:Hw):Option W:=match w with
 | .tup xs=>some (.int xs.length)
 | .rol xs=>some (.int xs.length)
 | .str z=>if z.length<=sizeLine then some (.int z.length)else none
 | .ref a=>(match G a with | some (.lst xs)=>some (.int xs.length)| _=>none)
 | _=>none
def AK(ws:List W)(G:Hw):Option W:=match ws with | [w]=>A9 w G | _=>none
theorem db(c:List W)(vs:List V)(G:Hw)(H:Hp)(Q:VK)(t:TrL K H vs c)(r:RelH K H G)(q:rF AK c G (dn K H Q)):∃ x n,vs=[x]/\Nq K x H n/\Q (.int n) H:=by
 obtain⟨w,e,b⟩:=Cd q;unfold AK at e;split at e
 ·cases t with
  | cons f t =>
   cases t;cases f with
   | tup h l=>cases e;exact⟨_,_,rfl,.inr ⟨_,h,rfl⟩,by rw[l.length];exact b _ H .refl (.int _) r⟩
   | rol h l=>cases e;exact⟨_,_,rfl,.inl ⟨_,h.sq,rfl⟩,by rw[l.length];exact b _ H .refl (.int _) r⟩
   | str z =>
    unfold A9 at e;dsimp only at e;split at e
    ·rename_i j;cases e;exact⟨_,_,rfl,⟨j,rfl⟩,b _ H .refl (.int _) r⟩
    ·cases e
   | ref a =>
    unfold A9 at e;dsimp only at e;cases z:G a with
    | none=>rw[z]at e;cases e
    | some o =>
     rw[z]at e;cases o with
     | exc C=>cases e
     | ins C fs=>cases e
     | dct d=>cases e
     | lst xs =>
      cases e;obtain⟨k,i,g⟩:=r a _ z;exact⟨_,_,rfl,.inl ⟨_,SqL.of i,rfl⟩,by rw[g.length];exact b _ H .refl (.int _) r⟩
   | _=>cases e
 ·cases e
mutual
def eqD:W->W->Option Bool
 | .tup xs,.tup ys=>Bv xs ys
 | .non,.non=>some true
 | .bl a,.bl b=>some (a==b)
 | .bl a,.int b=>some ((if a then 1 else 0)==b)
 | .int a,.bl b=>some (a==(if b then 1 else 0))
 | .int a,.int b=>some (a==b)
 | .str a,.str b=>some (a==b)
 | .non,.int _=>some false
 | .int _,.non=>some false
 | .int _,.str _=>some false
 | .str _,.int _=>some false
 | .bl _,.str _=>some false
 | .str _,.bl _=>some false
 | .non,.str _=>some false
 | .str _,.non=>some false
 | .non,.bl _=>some false
 | .bl _,.non=>some false
 | .tup _,.str _=>some false
 | .str _,.tup _=>some false
 | .tup _,.bl _=>some false
 | .bl _,.tup _=>some false
 | .tup _,.int _=>some false
 | .int _,.tup _=>some false
 | _,_=>none
def Bv:List W->List W->Option Bool
 | [],[]=>some true
 | [],_::_=>some false
 | _::_,[]=>some false
 | x::xs,y::ys=>match eqD x y,Bv xs ys with
  | some a,some b=>some (a&&b)
  | _,_=>none
end
mutual
def dpW:W->Nat
 | .tup xs=>dpL xs+1
 | _=>0
def dpL:List W->Nat
 | []=>0
 | x::xs=>max (dpW x) (dpL xs)
end
def FA:W->Option V
 | .non=>some .non
 | .bl b=>some (.bl b)
 | .int i=>some (.int i)
 | .str x=>some (.str x)
 | _=>none
theorem Oy{f:V}(t:Tr K H v w)(e:FA w=some f):v=f/\CP v=true:=by
 cases t <;> first | cases e;exact⟨rfl,rfl⟩| cases e
theorem GV:∀{xs ys:List W}{b:Bool},Bv xs ys=some b->∃ e:Nat->Bool,(∀(i:Nat)x y,xs[i]?=some x->ys[i]?=some y->eqD x y=some (e i))/\b=((List.range (min xs.length ys.length)).all e&&xs.length==ys.length)
 | [],[],b,h=>by
  cases(show some true=some b from h);exact⟨λ_=>true,λi x y h1 h2=>by simp at h1,by simp⟩
 | [],_::_,b,h=>by
  cases(show some false=some b from h);exact⟨λ_=>true,λi x y h1 h2=>by simp at h1,by simp⟩
 | _::_,[],b,h=>by
  cases(show some false=some b from h);exact⟨λ_=>true,λi x y h1 h2=>by simp at h2,by simp⟩
 | x::xs,y::ys,b,h=>by
  have h':(match eqD x y,Bv xs ys with | some a,some b=>some (a&&b)| _,_=>none)=some b:=by rw[<- h];rfl
  cases d:eqD x y with
  | none=>rw[d]at h';cases h'
  | some a =>
   cases g:Bv xs ys with
   | none=>rw[d,g]at h';cases h'
   | some c =>
    rw[d,g]at h';cases h';obtain⟨f,n,hc⟩:=GV g;refine⟨λi=>match i with | 0=>a | j+1=>f j,λi k o h1 h2=>?_,?_⟩
    ·cases i with
     | zero=>simp at h1 h2;subst h1;subst h2;exact d
     | succ j=>exact n j k o (by simpa using h1) (by simpa using h2)
    ·have m:min (x::xs).length (y::ys).length=min xs.length ys.length+1:=by simp only[Yg];omega
     rw[m,List.range_succ_eq_map,List.all_cons,List.all_map,hc];have l:((x::xs).length==(y::ys).length)=(xs.length==ys.length):=by simp
     rw[l,Bool.and_assoc];rfl
theorem Oz:∀(xs:List W),(∀ x∈xs,eqD x x=some true\/eqD x x=none)->Bv xs xs=some true\/Bv xs xs=none
 | [],_=>.inl rfl
 | x::xs,h=>by
  have e:Bv (x::xs) (x::xs)=(match eqD x x,Bv xs xs with | some a,some b=>some (a&&b)| _,_=>none):=rfl;rw[e];rcases h x Ye with h1 | h1
  ·rcases Oz xs (λy c=>h y (Yd _ c))with h2 | h2
   ·rw[h1,h2];exact .inl rfl
   ·rw[h1,h2];exact .inr rfl
  ·rw[h1];exact .inr rfl
theorem OA:∀(x:W),eqD x x=some true\/eqD x x=none
 | .non=>.inl rfl
 | .bl b=>.inl (by show some (b==b)=_;simp)
 | .int b=>.inl (by show some (b==b)=_;simp)
 | .str b=>.inl (by show some (b==b)=_;simp)
 | .tup xs=>Oz xs (λx _=>OA x)
 | .rol _=>.inr rfl
 | .ref _=>.inr rfl
theorem Eb:∀{xs:List W}{x:W},x∈xs->dpW x<=dpL xs
 | y::xs,x,h=>by
  have e:dpL (y::xs)=max (dpW y) (dpL xs):=rfl;rw[e];walk_at "ph"
  ·exact Nat.le_max_left ..
  ·exact Yt (Eb h) (Nat.le_max_right ..)
theorem de:∀(c:List W)(ys:List W)(vs:List V),(∀(v:V)(w y:W),w∈c->Tr K H v w->Tr K H v y->eqD w y≠none->w=y)->TrL K H vs c->TrL K H vs ys->Bv c ys≠none->c=ys:=by
 intro c;induction c with
 | nil =>
  intro ys vs _ l d _;cases l;cases d;rfl
 | cons w c g =>
  intro ys vs h l d f;cases l with
  | cons t l =>
   cases d with
   | @cons _ y _ ys t' d =>
    have e:Bv (w::c) (y::ys)=(match eqD w y,Bv c ys with | some a,some b=>some (a&&b)| _,_=>none):=rfl;have h1:eqD w y≠none:=λz=>f (by rw[e,z]);have h2:Bv c ys≠none:=λz=>f (by rw[e,z];cases eqD w y <;> rfl);rw[h _ w y Ye t t' h1,g ys _ (λv w y i=>h v w y (Yd _ i)) l d h2]
variable {pins:List (Addr×Obj)}{s:Shared}
theorem df(I:Inv X pins σ H s)(n:Nat):∀(v:V)(w y:W),dpW w < n->Tr X.K H v w->Tr X.K H v y->eqD w y≠none->w=y:=by
 induction n with
 | zero=>intro v w y h;exact absurd h (Nat.not_lt_zero _)
 | succ n g =>
  intro v w y h m ty b;cases m with
  | tup i l =>
   rename_i a p f;generalize c:V.ref a=vr at ty;cases ty with
   | tup d j =>
    cases c;have e:=I.tuple_inj i d;subst e;have o:dpL f+1 < n+1:=h;rw[de f _ _ (λv w y k=>g v w y (by have:=Eb k;omega)) l j b]
   | rol _ _=>exact absurd rfl b
   | ref _=>exact absurd rfl b
   | non=>cases c
   | bl _=>cases c
   | int _=>cases c
   | str _=>cases c
  | rol _ _=>exact absurd (by cases y <;> rfl) b
  | ref _=>exact absurd (by cases y <;> rfl) b
  | non=>cases ty;rfl
  | bl _=>cases ty;rfl
  | int _=>cases ty;rfl
  | str _=>cases ty;rfl
theorem dg(I:Inv X pins σ H s)(n:Nat):∀(w y:W)(v u:V)(r B:Value)(b:Bool)(A:Around),dpW w < n->Tr X.K H v w->Tr X.K H u y->RelV v r->RelV u B->eqD w y=some b->A.units+n < cLine->SeqAt.EqAt A s r B b:=by
 induction n with
 | zero=>intro w _ _ _ _ _ _ _ h;exact absurd h (Nat.not_lt_zero _)
 | succ n Z =>
  intro w y v u r B b A h tw ty k m e hu;cases tw with
  | tup i l =>
   cases ty with
   | tup q E =>
    rename_i a vs o O us ys;cases k;cases m;by_cases p:a=O
    ·subst p;have ew:=df I (dpW (.tup o)+1) _ _ _ (Nat.lt_succ_self _) (.tup i l) (.tup q E) (by rw[e];simp);cases ew;rcases OA (.tup o)with z | z
     ·rw[e]at z;cases z;exact SeqAt.EqAt.same _
     ·rw[e]at z;cases z
    ·obtain⟨d,r1,p1,_⟩:=I.tuple i;obtain⟨g,N,p2,_⟩:=I.tuple q;obtain⟨f,Y,T⟩:=GV (show Bv o ys=some b from e);have l1:=r1.length;have l2:=N.length;have l3:=l.length;have l4:=E.length;refine SeqAt.EqAt.of_refs p ?_;have key:=SeqAt.RcAt.tuples (A:=A) (s:=s) (e:=f) (show s.heap.IsTuple a d.toArray from p1) (show s.heap.IsTuple O g.toArray from p2) (by omega) (λj h1 h2=>?_)
     ·rw[T];have e1:d.toArray.size=o.length:=by rw[Yn];omega
      have R:g.toArray.size=ys.length:=by rw[Yn];omega
      rw[e1,R]at key;exact key
     ·have J:j < o.length:=by rw[Yn]at h1;omega
      have P:j < ys.length:=by rw[Yn]at h2;omega
      obtain⟨v1,g1,S⟩:=l.get (Yp J);obtain⟨v2,g2,t2⟩:=E.get (Yp P);obtain⟨Q,g3,F⟩:=r1.get g1;obtain⟨U,g4,G⟩:=N.get g2
      have x:d.toArray[j]=Q:=by
       have z:d[j]?=some d[j]:=Yp (by omega);rw[g3]at z;have D:=YF z;rw[D];simp
      have L:g.toArray[j]=U:=by
       have z:g[j]?=some g[j]:=Yp (by omega);rw[g4]at z;have D:=YF z;rw[D];simp
      rw[x,L];have hd:dpW (o[j])<=dpL o:=Eb (Qk J);have hd2:dpL o+1 < n+1:=h;exact Z _ _ _ _ _ _ _ A.in1 (by omega) S t2 F G (Y j _ _ (Yp J) (Yp P)) (by show A.units+1+n < cLine;omega)
   | str _ =>
    cases e;cases k;obtain⟨t,rfl⟩:=m;obtain⟨d,r1,p1,_⟩:=I.tuple i;exact SeqAt.EqAt.tuple_str (A:=A) _ _ p1 (by omega)
   | bl _ =>
    cases e;cases k;cases m;obtain⟨d,r1,p1,_⟩:=I.tuple i;exact SeqAt.EqAt.tuple_bool _ p1 (by omega)
   | int _ =>
    cases e;cases k;obtain⟨t,rfl⟩:=m;obtain⟨d,r1,p1,_⟩:=I.tuple i;exact SeqAt.EqAt.tuple_int (A:=A) _ _ p1 (by omega)
   | _=>cases e
  | non=>cases ty <;> cases e <;> exact Fq k m rfl rfl
  | bl c =>
   cases ty with
   | tup i l =>
    cases e;cases k;cases m;obtain⟨d,r1,p1,_⟩:=I.tuple i;exact SeqAt.EqAt.bool_tuple _ p1 (by omega)
   | _=>cases e <;> exact Fq k m rfl rfl
  | int c =>
   cases ty with
   | tup i l =>
    cases e;cases m;obtain⟨t,rfl⟩:=k;obtain⟨d,r1,p1,_⟩:=I.tuple i;exact SeqAt.EqAt.int_tuple (A:=A) _ _ p1 (by omega)
   | _=>cases e <;> exact Fq k m rfl rfl
  | str c =>
   cases ty with
   | tup i l =>
    cases e;cases m;obtain⟨t,rfl⟩:=k;obtain⟨d,r1,p1,_⟩:=I.tuple i;exact SeqAt.EqAt.str_tuple (A:=A) _ _ p1 (by omega)
   | _=>cases e <;> exact Fq k m rfl rfl
  | rol _ _=>cases y <;> cases e
  | ref _=>cases y <;> cases e
def rSq(K:PySem.W.Frag)(neg:Bool):R2:=λv u H Q=>∃(a b:Addr)(vs us:List V)(ws ys:List W)(c:Bool),v=.ref a/\u=.ref b/\((SqT K H a vs/\SqT K H b us)\/(SqL K H a vs/\SqL K H b us))/\TrL K H vs ws/\TrL K H us ys/\dpL ws < 90/\Bv ws ys=some c/\Q (.bl (c != neg)) H
section
variable {X:Cx} {pins:List (Addr×Obj)} {σ:St} {H:Hp} {s:Shared}
theorem GW(I:Inv X pins σ H s){A:Around}{us:List V}{b:List W}{a its':List Value}(r1:Vals vs a)(r2:Vals us its')(m:TrL X.K H vs b)(o:TrL X.K H us ys)(hd:dpL b < 90)(t:A.units+100 < cLine){f:Nat->Bool}
  (r:∀(i:Nat)x y,b[i]?=some x->ys[i]?=some y->eqD x y=some (f i)) (j:Nat) (h1:j < a.toArray.size) (h2:j < its'.toArray.size):SeqAt.EqAt A.in1 s a.toArray[j] its'.toArray[j] (f j):=by
 have w:=r1.length;have u:=r2.length;have E:=m.length;have v:=o.length;have k:j < b.length:=by rw[Yn]at h1;omega
 have n:j < ys.length:=by rw[Yn]at h2;omega
 obtain⟨D,g1,d⟩:=m.get (Yp k);obtain⟨B,g2,h⟩:=o.get (Yp n);obtain⟨p,g3,e⟩:=r1.get g1;obtain⟨q,g4,g⟩:=r2.get g2
 have c:a.toArray[j]=p:=by
  have z:a[j]?=some a[j]:=Yp (by omega);rw[g3]at z;rw[YF z];simp
 have l:its'.toArray[j]=q:=by
  have z:its'[j]?=some its'[j]:=Yp (by omega);rw[g4]at z;rw[YF z];simp
 rw[c,l];exact dg I 99 _ _ _ _ _ _ _ A.in1 (by have:=Eb (Qk k);omega) d h e g (r j _ _ (Yp k) (Yp n)) (by show A.units+1+99 < cLine;omega)
end
theorem dh(t:X.A.units+100 < cLine):OpR X (compareOp .Eq) (rSq X.K false):=by
 intro pins s σ H x y v u Q I B F h;obtain⟨a,b,G,N,o,ys,c,rfl,rfl,E,n,r,hd,e,q⟩:=h;cases B;cases F;obtain⟨f,w,p⟩:=GV e;have L:=n.length;have J:=r.length;have j:∀ d:Bool,d=c->EP X pins σ Q (.bool d) s:=λd hd=>by subst hd;exact⟨.bl d,H,I,rfl,by simpa using q⟩
 rcases E with⟨h1,h2⟩|⟨h1,h2⟩
 ·obtain⟨i,r1,p1,_⟩:=I.tuple h1;obtain⟨g,k,p2,_⟩:=I.tuple h2;have D:=r1.length;have z:=k.length;refine SeqAt.eq_tupleAt (e:=f) (show s.heap.IsTuple a i.toArray from p1) (show s.heap.IsTuple b g.toArray from p2) (by omega) (GW I r1 k n r hd t w) (j _ ?_);have l:i.toArray.size=o.length:=by rw[Yn];omega
  have m:g.toArray.size=ys.length:=by rw[Yn];omega
  rw[l,m,p]
 ·obtain⟨i,r1,p1,_⟩:=I.list h1;obtain⟨g,k,p2,_⟩:=I.list h2;have D:=r1.length;have z:=k.length;have l:i.toArray.size=o.length:=by rw[Yn];omega
  have m:g.toArray.size=ys.length:=by rw[Yn];omega
  by_cases hl:o.length=ys.length
  ·refine SeqAt.eq_listAt (e:=f) p1.isList p2.isList (by omega) (by omega) (GW I r1 k n r hd t w) (j _ ?_);rw[l,p,hl];simp
  ·refine SeqAt.eq_list_lengthsAt p1.isList p2.isList (by rw[l,m];simpa using hl) (by omega) (j _ ?_);rw[p];simp[hl]
theorem di(t:X.A.units+100 < cLine):OpR X (compareOp .NotEq) (rSq X.K true):=by
 intro pins s σ H x y v u Q I B F h;obtain⟨a,b,G,N,o,ys,c,rfl,rfl,E,n,r,hd,e,q⟩:=h;cases B;cases F;obtain⟨f,w,p⟩:=GV e;have L:=n.length;have J:=r.length;have j:∀ d:Bool,d=!c->EP X pins σ Q (.bool d) s:=λd hd=>by subst hd;exact⟨.bl _,H,I,rfl,by simpa using q⟩
 rcases E with⟨h1,h2⟩|⟨h1,h2⟩
 ·obtain⟨i,r1,p1,_⟩:=I.tuple h1;obtain⟨g,k,p2,_⟩:=I.tuple h2;have D:=r1.length;have z:=k.length;refine SeqAt.RcNeAt.tuples (e:=f) (show s.heap.IsTuple a i.toArray from p1) (show s.heap.IsTuple b g.toArray from p2) (by omega) (GW I r1 k n r hd t w) _ _ _ _ (j _ ?_);have l:i.toArray.size=o.length:=by rw[Yn];omega
  have m:g.toArray.size=ys.length:=by rw[Yn];omega
  rw[l,m,p]
 ·obtain⟨i,r1,p1,_⟩:=I.list h1;obtain⟨g,k,p2,_⟩:=I.list h2;have D:=r1.length;have z:=k.length;have l:i.toArray.size=o.length:=by rw[Yn];omega
  have m:g.toArray.size=ys.length:=by rw[Yn];omega
  by_cases hl:o.length=ys.length
  ·refine SeqAt.RcNeAt.lists (e:=f) p1.isList p2.isList (by omega) (by omega) (GW I r1 k n r hd t w) _ _ _ _ (j _ ?_);rw[l,p,hl];simp
  ·refine SeqAt.RcNeAt.lists_lengths p1.isList p2.isList (by rw[l,m];simpa using hl) (by omega) _ _ _ _ (j _ ?_);rw[p];simp[hl]
def eqW(x y:W)(G:Hw):Option Bool:=match x,y with
 | .tup xs,.tup ys=>if dpL xs < 90 then Bv xs ys else none
 | .ref a,.ref b=>(match G a,G b with
  | some (.lst xs),some (.lst ys)=>if dpL xs < 90 then Bv xs ys else none
  | _,_=>none)
 | .int a,.int b=>some (a==b)
 | .bl a,.bl b=>some (a==b)
 | .str a,.str b=>some (a==b)
 | .non,.non=>some true
 | .int _,.non=>some false
 | .non,.int _=>some false
 | .int _,.str _=>some false
 | .str _,.int _=>some false
 | .bl _,.str _=>some false
 | .str _,.bl _=>some false
 | .non,.str _=>some false
 | .str _,.non=>some false
 | .non,.bl _=>some false
 | .bl _,.non=>some false
 | _,_=>none
def eqF(neg:Bool)(x y:W)(G:Hw):Option W:=(eqW x y G).map λc=>.bl (c != neg)
theorem J2(c:Bool):(c != true)=!c:=by cases c <;> rfl
theorem OC(f:Bool)(x y:W)(v u:V)(G:Hw)(H:Hp)(Q:VK)(F:Tr K H v x)(ty:Tr K H u y)(r:RelH K H G)(q:Ae (eqF f) x y G (dn K H Q)):(D6 v u=true/\Q (.bl (decide (v=u) != f)) H)\/rSq K f v u H Q:=by
 obtain⟨w,e,B⟩:=Cd q;obtain⟨c,d,o⟩:=YV.mp e;subst o;have k:=B (.bl (c != f)) H .refl (.bl _) r;have h:∀{i j:V},decide (i=j)=c->D6 i j=true->(D6 i j=true/\Q (.bl (decide (i=j) != f)) H)\/rSq K f i j H Q:=λ{i j}h1 h2=>.inl ⟨h2,by rw[h1];exact k⟩;cases F with
 | tup A l =>
  cases ty with
  | tup m s =>
   unfold eqW at d;dsimp only at d;split at d
   ·rename_i hd;exact .inr ⟨_,_,_,_,_,_,c,rfl,rfl,.inl ⟨A,m⟩,l,s,hd,d,k⟩
   ·cases d
  | _=>cases d
 | ref a =>
  cases ty with
  | ref b =>
   unfold eqW at d;dsimp only at d;cases g:G a with
   | none=>rw[g]at d;cases d
   | some n =>
    cases eb:G b with
    | none=>rw[g,eb]at d;cases n <;> cases d
    | some p =>
     rw[g,eb]at d;cases n <;> cases p <;> try cases d
     dsimp only at d;split at d
     ·rename_i hd;obtain⟨I,z,t⟩:=r a _ g;obtain⟨J,D,E⟩:=r b _ eb;exact .inr ⟨_,_,_,_,_,_,c,rfl,rfl,.inr ⟨SqL.of z,SqL.of D⟩,t,E,hd,d,k⟩
     ·cases d
  | _=>cases d
 | rol _ _=>cases y <;> cases d
 | non=>cases ty <;> cases d <;> exact h (by simp) rfl
 | bl b=>cases ty <;> cases d <;> exact h (by first | exact Jx | simp) rfl
 | int b=>cases ty <;> cases d <;> exact h (by first | exact Jw | simp) rfl
 | str b=>cases ty <;> cases d <;> exact h (by first | exact Jy | simp) rfl
theorem dj(c:X.A.units+100 < cLine):OpR X (compareOp .Eq) (λx y H Q=>(D6 x y=true/\Q (.bl (decide (x=y) != false)) H)\/rSq X.K false x y H Q):=by
 intro pins s σ H x y v u Q I a b h;rcases h with⟨h1,h2⟩| h
 ·exact Zr pins s σ H x y v u Q I a b ⟨h1,by simpa using h2⟩
 ·exact dh c pins s σ H x y v u Q I a b h
theorem dk(c:X.A.units+100 < cLine):OpR X (compareOp .NotEq) (λx y H Q=>(D6 x y=true/\Q (.bl (decide (x=y) != true)) H)\/rSq X.K true x y H Q):=by
 intro pins s σ H x y v u Q I a b h;rcases h with⟨h1,h2⟩| h
 ·exact Zs pins s σ H x y v u Q I a b ⟨h1,by rw[<- J2];exact h2⟩
 ·exact di c pins s σ H x y v u Q I a b h
section
variable {X:Cx} {a b c e:Expr} {es Aw:List Expr} {pos pos' p:Pos} {ga gb gc:GE} {gt gu:GT} {gs:GA}
def Ec(G:Hw)(w:W):Option (List W):=match w with
 | .tup xs=>some xs
 | .rol xs=>some xs
 | .ref a=>(match G a with | some (.lst xs)=>some xs | _=>none)
 | _=>none
theorem J3{xs:List W}(r:RelH K H G)(t:Tr K H v w)(e:Ec G w=some xs):∃ a vs,v=.ref a/\(SqL K H a vs\/SqT K H a vs)/\TrL K H vs xs:=by
 cases t with
 | tup h l=>cases e;exact⟨_,_,rfl,.inr h,l⟩
 | rol h l=>cases e;exact⟨_,_,rfl,.inl h.sq,l⟩
 | ref a =>
  unfold Ec at e;dsimp only at e;cases z:G a with
  | none=>rw[z]at e;cases e
  | some o =>
   rw[z]at e;cases o with
   | lst ys=>cases e;obtain⟨vs,c,d⟩:=r a _ z;exact⟨a,vs,rfl,.inl (SqL.of c),d⟩
   | exc C=>cases e
   | ins C fs=>cases e
   | dct b=>cases e
 | _=>cases e
def EU:List W->Option (List V)
 | []=>some []
 | w::ws=>(FA w).bind λv=>(EU ws).map (v::·)
theorem OD:∀{a:List W}{vs us:List V},EU a=some us->TrL K H vs a->vs=us/\vs.all CP=true
 | [],vs,us,e,t=>by cases e;cases t;exact⟨rfl,rfl⟩
 | w::a,vs,us,e,t=>by
  cases t with
  | cons d t =>
   obtain⟨f,i,h⟩:=Qg.mp (show(FA w).bind (λv=>(EU a).map (v::·))=some us from e);obtain⟨fs,g,j⟩:=YV.mp h;obtain⟨h1,h2⟩:=Oy d i;obtain⟨b,c⟩:=OD g t;subst j;exact⟨by rw[h1,b],by rw[List.all_cons,h2,c];rfl⟩
def inF(neg:Bool)(x y:W)(G:Hw):Option W:=(FA x).bind λv=>(Ec G y).bind λxs=>(EU xs).map λus=>.bl (if neg then !inV v us else inV v us)
theorem dq(b:Bool)(x y:W)(v u:V)(G:Hw)(H:Hp)(Q:VK)(p:Tr K H v x)(ty:Tr K H u y)(r:RelH K H G)(q:Ae (inF b) x y G (dn K H Q)):rIn K b v u H Q:=by
 obtain⟨w,e,j⟩:=Cd q;obtain⟨f,o,l⟩:=Qg.mp e;obtain⟨xs,k,c⟩:=Qg.mp l;obtain⟨s,h,n⟩:=YV.mp c;subst n;obtain⟨h1,h2⟩:=Oy p o;obtain⟨a,m,rfl,g,t⟩:=J3 r ty k;obtain⟨d,i⟩:=OD h t;subst h1;subst d;exact⟨a,m,rfl,g,h2,i,j _ H .refl (.bl _) r⟩
end
section
variable {X:Cx} {P:Hp->Prop} {a b c e o i:Expr} {sts:List Stmt} {pos pos':Pos} {ga gb gc gv go gi:GE} {gt:GT} {g:GS} {gs:GA}
def FC(gt:GT)(g:GS):GS:=λD ω G=>∃ W:Nat->Sw->Hw->Prop,(∃ m,W m ω G)/\∀ m ω G,W m ω G->
 gt ω G λb G1=>if b=true then g {nx:=λω' G'=>∃ m',m' < m/\W m' ω' G',rt:=D.rt,bk:=D.nx,ct:=λω' G'=>∃ m',m' < m/\W m' ω' G'} ω G1 else D.nx ω G1
theorem dr(f:gt.M)(mb:g.M):GS.M (FC gt g):=λω G D i h1 h2 h j⟨W,e,c⟩=>⟨W,e,λm ω G w=>f _ _ _ _ (λb k z=>by
 cases b with
 | true=>exact mb _ _ {nx:=λω' d=>∃ a,a < m/\W a ω' d,rt:=D.rt,bk:=D.nx,ct:=λω' d=>∃ a,a < m/\W a ω' d} _ (λ_ _ y=>y) h2 h1 (λ_ _ y=>y) z
 | false=>exact h1 _ _ z) (c m ω G w)⟩
theorem dt(t:PassesOwn (model X.prog X.w) X.A X.env X.xe)(I:gt.M)(mb:g.M)(hc:PTw X c gt)(x:C4 X P sts g):PSw X P (.While c sts [] pos) (FC gt g):=λB q=>
 CQ (Y9 t hc (x B q)) <| by
  rintro D σ H ⟨ω,G,u,r,l,W,⟨E,F⟩,i⟩;refine⟨λm σ' H'=>Mono X.K B H'/\∃ ω' e,TrSt X.K H' σ' ω'/\RelH X.K H' e/\W m ω' e,⟨E,l,ω,G,u,r,F⟩,?_⟩;rintro m σ' H' ⟨o,ω',e,f,r',v⟩;refine⟨ω',e,f,r',I _ _ _ _ (λb s z H1 j r1=>?_) (i m ω' e v)⟩;cases b with
  | true =>
   rw[if_pos rfl];refine⟨λσ2 H2=>∃ d,d < m/\Mono X.K B H2/\∃ ω2 p,TrSt X.K H2 σ2 ω2/\RelH X.K H2 p/\W d ω2 p,(by rintro σ2 H2 ⟨d,h1,h2⟩;exact⟨d,h1,h2⟩),ω',s,f.mono j,r1,o.trans j,?_⟩
   exact mb _ _ {nx:=λω' e=>∃ d,d < m/\W d ω' e,rt:=(dnD X.K B D).rt,bk:=(dnD X.K B D).nx,ct:=λω' e=>∃ d,d < m/\W d ω' e} _
    ((by rintro a b ⟨d,h1,h2⟩ σ2 H2 n h k;exact⟨d,h1,n,a,b,h,k,h2⟩)) (λa b y=>y) (λa b y=>y) ((by rintro a b ⟨d,h1,h2⟩ σ2 H2 n h k;exact⟨d,h1,n,a,b,h,k,h2⟩)) z
  | false =>
   rw[if_neg YY];exact z σ' H1 (o.trans j) (f.mono j) r1
theorem J4(b:PassesOwn (model X.prog X.w) X.A X.env X.xe)(hc:Tm X c gt)(a:Ssm X P sts g):Sm X P (.While c sts [] pos) (FC gt g):=⟨dt b hc.m a.m hc.p a.p,dr hc.m a.m⟩
def Ce(ω:Sw)(i:Nat):Option W:=match ω[i]? with | some (some w)=>some w | _=>none
theorem du(ts:TrSt K H σ ω)(e:Ce ω n=some w):∃ v,σ[n]?=some (some v)/\Tr K H v w:=by
 unfold Ce at e;split at e
 ·rename_i u z;cases e;exact ts.get n _ z
 ·cases e
def Bf(n:Nat)(r:RW2)(ga:GE):GS:=λD ω G=>opt (Ce ω n) λx=>ga ω G λy G1=>r x y G1 λz G2=>D.nx (ω.set n (some z)) G2
theorem dv{r:RW2}(mr:r.M)(a:ga.M):GS.M (Bf n r ga):=λω G D c h1 _ _ _ q=>JW (λx q=>a _ _ _ _ (λy d z=>mr _ _ _ _ _ (λw e b=>h1 _ _ b) z) q) q
theorem dw{op:Operator}{r:RW2}{r2:R2}(i:OpR X (inplaceOp op) r2)(mr:r.M)(j:∀(x y:W)(v u:V)(G:Hw)(H:Hp)(Q:VK),Tr X.K H v x->Tr X.K H u y->RelH X.K H G->r x y G (dn X.K H Q)->r2 v u H Q)
  (J:X.N.Nodup) (hi:X.N[n]?=some x) (d:Loc X.env.scope x) (A:X.fn x=true\/X.env.scope.names.lookup x=some .local) (c:ga.M) (k:PEw X e ga):PSw X P (.AugAssign (.Name x pos') op e pos) (Bf n r ga):=λB L=>
 CQ (Y7 J hi d k (λpins s σ H x y v u Q I r1 r2 h=>i pins s σ H x y v u Q I r1 r2 h) A) <| by
  rintro D σ H ⟨ω,G,a,l,mb,q⟩;obtain⟨w,F,q⟩:=Cd q;obtain⟨v,f,t⟩:=du a F;refine⟨v,f,ω,G,a,l,c _ _ _ _ (λy g z u H1 m p r1=>?_) q⟩;exact j w y v u g H1 _ (t.mono m) p r1 (mr _ _ _ _ _ (λR S o O H2 b E r2=>o _ H2 ((mb.trans m).trans b) (((a.mono m).mono b).set n E) r2) z)
def Bg:RW2:=λx y G Q=>match x,y with
 | .int i,.int j=>Q (.int (i+j)) G
 | .str a,.str b=>a.length+b.length<=sizeLine/\Q (.str (a++b)) G
 | _,_=>False
theorem OF:RW2.M Bg:=λx y G Q a h q=>by
 cases x <;> cases y <;> first | exact q | exact h _ _ q | exact⟨q.1,h _ _ q.2⟩
theorem dy(x y:W)(v u:V)(G:Hw)(H:Hp)(Q:VK)(a:Tr K H v x)(ty:Tr K H u y)(r:RelH K H G)(q:Bg x y G (dn K H Q)):
  (rI0 λi j=>.int (i+j)) v u H Q\/(∃ i j,v=.str i/\u=.str j/\i.length+j.length<=sizeLine/\Q (.str (i++j)) H):=by
 cases a with
 | int i=>cases ty <;> first | exact q.elim | exact .inl ⟨_,_,rfl,rfl,q _ H .refl (.int _) r⟩
 | str i=>cases ty <;> first | exact q.elim | exact .inr ⟨_,_,rfl,rfl,q.1,q.2 _ H .refl (.str _) r⟩
 | _=>exact q.elim
def CU(o k v:W)(G:Hw)(Q:Hw->Prop):Prop:=match o,k with
 | .ref a,.int j=>(match G a with
  | some (.lst xs)=>(match ixN xs.length j with | some n=>Q (put G a (.lst (xs.set n v)))| none=>False)
  | _=>False)
 | _,_=>False
variable {Q:Hw->Prop}
theorem OG{o k v:W}(q:CU o k v G Q):∃ a j xs n,o=.ref a/\k=.int j/\G a=some (.lst xs)/\ixN xs.length j=some n/\Q (put G a (.lst (xs.set n v))):=by
 unfold CU at q;split at q
 ·split at q
  ·rename_i xs e;split at q
   ·rename_i n b;exact⟨_,_,xs,n,rfl,rfl,e,b,q⟩
   ·exact q.elim
  ·exact q.elim
 ·exact q.elim
theorem J5{v:W}{a:Addr}{j:Int}{xs:List W}(e:G a=some (.lst xs))(b:ixN xs.length j=some n)(q:Q (put G a (.lst (xs.set n v)))):CU (.ref a) (.int j) v G Q:=by
 unfold CU;dsimp only;rw[e];dsimp only;rw[b];exact q
theorem dz{o k v:W}{b:Hw->Prop}(h:∀ G,Q G->b G)(q:CU o k v G Q):CU o k v G b:=by
 obtain⟨a,j,xs,n,rfl,rfl,e,c,q⟩:=OG q;exact J5 e c (h _ q)
theorem dA{o k v:W}{x y u:V}{Pq:Hw->Prop}{R:Hp->Prop}(l:Tr K H x v)(ty:Tr K H y o)(g:Tr K H u k)(r:RelH K H G)(q:CU o k v G Pq)(f:∀ d c,Mono K H c->RelH K c d->Pq d->R c):NC y u x H R:=by
 obtain⟨a,j,xs,n,rfl,rfl,e,h,q⟩:=OG q;cases ty;cases g;obtain⟨i,b,t⟩:=r a _ e;exact⟨a,i,j,n,rfl,rfl,b,by rw[t.length];exact h,f _ _ (Mono.lst b _) (r.chg b (TrL.set l n t)) q⟩
def Bw(gv go gi:GE):GS:=λD ω G=>gv ω G λv G1=>go ω G1 λo G2=>gi ω G2 λk G3=>CU o k v G3 λG4=>D.nx ω G4
theorem dB(b:gv.M)(c:go.M)(a:gi.M):GS.M (Bw gv go gi):=λω G D e h1 _ _ _ q=>
 b _ _ _ _ (λv g z=>c _ _ _ _ (λo h z=>a _ _ _ _ (λk d z=>dz (λf z=>h1 _ _ z) z) z) z) q
theorem dD(t:∀ v,assign (.Subscript o i pos') X.env v=(do
   let ov <- holding [v] (eval o X.env)
   let iv <- holding [v,ov] (eval i X.env)
   standAt pos'
   holding [v,ov,iv] (setItem ov iv v)
   release [v,ov,iv] [])) (n:swapsWithSole [.Subscript o i pos'] e pos.line X.env=pure false) (hw:swappedStores [.Subscript o i pos'] e X.env=pure none)
  (h1:(assignEach [.Subscript o i pos'] X.env).map (·.2)=[assign (.Subscript o i pos') X.env]) (g:Em X e gv) (f:Em X o go) (hi:Em X i gi):Sm X P (.Assign [.Subscript o i pos'] e pos) (Bw gv go gi):=
 ⟨λB Q=>CQ (Nh g.p (Nf f.p hi.p ae t) n hw h1) λD σ H⟨ω,G,d,r,mb,q⟩=>⟨ω,G,d,r,g.m _ _ _ _ (λv s z x H1 a I r1=>
  ⟨ω,s,d.mono a,r1,f.m _ _ _ _ (λO L A y H2 b ty j=>
   ⟨ω,L,(d.mono a).mono b,j,hi.m _ _ _ _ (λk N J u S c E K=>
    dA ((I.mono b).mono c) (ty.mono c) E K J (λR F h w l=>l σ F ((((mb.trans a).trans b).trans c).trans h) ((((d.mono a).mono b).mono c).mono h) w)) A⟩) z⟩) q⟩,dB g.m f.m hi.m⟩
abbrev GO:=Sw->Hw->(Option Int->Hw->Prop)->Prop
def GO.M(g:GO):Prop:=∀ ω G(Q Q':Option Int->Hw->Prop),(∀ w G',Q w G'->Q' w G')->g ω G Q->g ω G Q'
def dnO(K:PySem.W.Frag)(H:Hp)(Q:Option Int->Hp->Prop):Option Int->Hw->Prop:=λb G=>∀ H',Mono K H H'->RelH K H' G->Q b H'
def upO(K:PySem.W.Frag)(g:GO):TO:=λσ H Q=>∃ ω G,TrSt K H σ ω/\RelH K H G/\g ω G (dnO K H Q)
structure Om(X:Cx)(e:Option Expr)(g:GO):Prop where
 p:PO X e (upO X.K g)
 m:g.M
def Bx:GO:=λ_ G Q=>Q none G
def By(ga:GE):GO:=λω G Q=>ga ω G λw G1=>match w with | .int j=>Q (some j) G1 | _=>False
theorem dE:Om X none Bx:=⟨(by rintro pins s σ H Q I ⟨ω,G,a,r,q⟩;exact Z2 pins s σ H Q I (q H .refl r)),λ_ _ _ _ h q=>h _ _ q⟩
theorem dF(h:Em X e ga):Om X (some e) (By ga):=⟨λpins s σ H Q I⟨ω,G,c,r,q⟩=>Z3 h.p pins s σ H Q I ⟨ω,G,c,r,h.m _ _ _ _ (λw a z v H1 m t r1=>by
  cases w with
  | int j=>exact⟨j,N7 t,z H1 m r1⟩
  | _=>exact z.elim) q⟩,λω G Q d b q=>h.m _ _ _ _ (λw a z=>by cases w <;> first | exact b _ _ z | exact z) q⟩
def Cq{α:Type}(xs:List α)(lo hi:Option Int):List α:=(xs.drop (HT.sIx xs.length 0 lo)).take (HT.sIx xs.length xs.length hi - HT.sIx xs.length 0 lo)
def slW(w:W)(lo hi:Option Int)(G:Hw)(Q:Kw):Prop:=match w with
 | .tup xs=>¬ (HT.sIx xs.length 0 lo=0/\HT.sIx xs.length xs.length hi=xs.length)/\Q (.tup (Cq xs lo hi)) G
 | .rol xs=>∀ p,G p=none->Q (.ref p) (put G p (.lst (Cq xs lo hi)))
 | .ref a=>(match G a with | some (.lst xs)=>∀ p,G p=none->Q (.ref p) (put G p (.lst (Cq xs lo hi)))| _=>False)
 | _=>False
variable {lo hi:Option Int}
theorem OH{Q d:Kw}(h:∀ w c,Q w c->d w c)(q:slW w lo hi G Q):slW w lo hi G d:=by
 cases w with
 | tup xs=>exact⟨q.1,h _ _ q.2⟩
 | rol xs=>exact λp b=>h _ _ (q p b)
 | ref a =>
  unfold slW at q ⊢;dsimp only at q ⊢;cases e:G a with
  | none=>rw[e]at q;exact q.elim
  | some g =>
   rw[e]at q;cases g with
   | lst xs=>exact λp b=>h _ _ (q p b)
   | exc C=>exact q.elim
   | ins C fs=>exact q.elim
   | dct f=>exact q.elim
 | _=>exact q.elim
theorem TrL.cut{a:List W}(t:TrL K H vs a)(lo hi:Option Int):TrL K H (Dy vs lo hi) (Cq a lo hi):=by
 unfold Dy Cq;rw[t.length];exact(t.drop _).take _
theorem dG{Q:VK}(t:Tr K H v w)(r:RelH K H G)(q:slW w lo hi G (dn K H Q)):NA K v lo hi H Q\/ND K v lo hi H Q:=by
 cases t with
 | tup h l =>
  refine .inl ⟨_,_,rfl,h,by rw[l.length];exact q.1,λp b=>?_⟩;exact q.2 _ _ (Mono.new b _) (.tup (SqT.of BL) ((l.cut lo hi).mono (Mono.new b _))) (r.mono0 b)
 | rol h l=>exact .inr ⟨_,_,rfl,h.sq,λp b=>q p (r.no b) _ _ (Mono.new b _) (.ref p) (r.new b (l.cut lo hi))⟩
 | ref a =>
  unfold slW at q;dsimp only at q;cases e:G a with
  | none=>rw[e]at q;exact q.elim
  | some f =>
   rw[e]at q;cases f with
   | lst xs =>
    obtain⟨g,d,l⟩:=r a _ e;exact .inr ⟨_,_,rfl,SqL.of d,λp b=>q p (r.no b) _ _ (Mono.new b _) (.ref p) (r.new b (l.cut lo hi))⟩
   | exc C=>exact q.elim
   | ins C fs=>exact q.elim
   | dct c=>exact q.elim
 | _=>exact q.elim
def gSl(ga:GE)(gl gh:GO):GE:=λω G Q=>ga ω G λw G1=>gl ω G1 λlo G2=>gh ω G2 λhi G3=>slW w lo hi G3 Q
theorem dH{lo hi:Option Expr}{o:GO}(b:Em X e ga)(hl:Om X lo o)(f:Om X hi gh):Em X (.Subscript e (.Slice lo hi none p2) pos) (gSl ga o gh):=
 ⟨A7 (Z4 (SlR.or Z5 ah) b.p hl.p f.p) λσ H Q⟨ω,G,i,r,q⟩=>⟨ω,G,i,r,b.m _ _ _ _ (λw k z v H1 a t r1=>⟨ω,k,i.mono a,r1,hl.m _ _ _ _ (λl n c H2 d x=>
   ⟨ω,n,(i.mono a).mono d,x,f.m _ _ _ _ (λh s g D j y=>dG ((t.mono d).mono j) y (OH (λw A z=>Ca ((a.trans d).trans j) z) g)) c⟩) z⟩) q⟩,
  λω G Q B h q=>b.m _ _ _ _ (λw k z=>hl.m _ _ _ _ (λl n c=>f.m _ _ _ _ (λu s g=>OH h g) c) z) q⟩
end
abbrev UpW(K:PySem.W.Frag)(r:RW2)(r2:R2):Prop:=∀(x y:W)(v u:V)(G:Hw)(H:Hp)(Q:VK),Tr K H v x->Tr K H u y->RelH K H G->r x y G (dn K H Q)->r2 v u H Q
structure Cop(X:Cx)(op:CmpOp)(r:RW2):Prop where
 ex:∃ r2,OpR X (compareOp op) r2/\UpW X.K r r2
 m:r.M
def As(a b:Str):Bool:=decide (a.cps.toList < b.cps.toList)
def AG(f:Int->Int->Bool)(g:Str->Str->Bool):RW2:=λx y G Q=>match x,y with
 | .int i,.int j=>Q (.bl (f i j)) G
 | .str i,.str j=>Q (.bl (g i j)) G
 | _,_=>False
theorem OI{g:Str->Str->Bool}:RW2.M (AG f g):=λx y G Q a h q=>by
 cases x <;> cases y <;> first | exact q | exact h _ _ q
theorem OJ{g:Str->Str->Bool}:UpW K (AG f g) (λx y H Q=>rI0 (λi j=>.bl (f i j)) x y H Q\/∃ i j,x=.str i/\y=.str j/\Q (.bl (g i j)) H):=λx y v u G H Q a ty r q=>by
 cases a with
 | int i=>cases ty <;> first | exact q.elim | exact .inl ⟨_,_,rfl,rfl,q _ H .refl (.bl _) r⟩
 | str i=>cases ty <;> first | exact q.elim | exact .inr ⟨_,_,rfl,rfl,q _ H .refl (.bl _) r⟩
 | _=>exact q.elim
theorem dI:OpR X (compareOp .LtE) (λx y H Q=>∃ i j,x=.str i/\y=.str j/\Q (.bl (!As j i)) H):=by
 intro pins s σ H x y v u Q I a b h;obtain⟨i,j,rfl,rfl,q⟩:=h;obtain⟨t,rfl⟩:=a;obtain⟨t',rfl⟩:=b;exact PySem.P.le_str ⟨.bl _,H,I,rfl,q⟩
theorem OK:Cop X .Lt (AG (λi j=>decide (i < j)) As):=⟨⟨_,OpR.or Zt Zx,OJ⟩,OI⟩
theorem OL:Cop X .LtE (AG (λi j=>decide (i<=j)) (λa b=>!As b a)):=⟨⟨_,OpR.or Zu dI,OJ⟩,OI⟩
theorem OM:Cop X .Gt (AR λi j=>decide (j < i)):=⟨⟨_,Zv,Oh⟩,Og⟩
theorem ON:Cop X .GtE (AR λi j=>decide (j<=i)):=⟨⟨_,Zw,Oh⟩,Og⟩
theorem J6(a:X.A.units+100 < cLine):Cop X .Eq (Ae (eqF false)):=⟨⟨_,dj a,OC false⟩,CG⟩
theorem OO(a:X.A.units+100 < cLine):Cop X .NotEq (Ae (eqF true)):=⟨⟨_,dk a,OC true⟩,CG⟩
theorem OP:Cop X .In (Ae (inF false)):=⟨⟨_,ai,dq false⟩,CG⟩
section
variable {X:Cx} {op op':CmpOp} {r r':RW2} {a b c e:Expr} {es:List Expr} {pos:Pos} {ga gb gc:GE}
theorem J7(C:Cop X op r)(e:behindInMarks op b=false)(c:Em X a ga)(d:Em X b gb):Em X (.Compare a [op] [b] pos) (Ad r ga gb):=
 let⟨_,h1,h2⟩:=C.ex
 ⟨bo h1 C.m c.m d.m h2 c.p d.p e,Cb C.m c.m d.m⟩
theorem dJ(C:Cop X op r)(e:behindInMarks op b=false)(c:Em X a ga)(d:Em X b gb):Tm X (.Compare a [op] [b] pos) (gTB (Ad r ga gb)):=
 let⟨_,h1,h2⟩:=C.ex
 ⟨bL h1 C.m c.m d.m h2 c.p d.p e,N6 (Cb C.m c.m d.m)⟩
def Bk(r r':RW2)(ga gb gc:GE):GE:=λω G Q=>ga ω G λx G1=>gb ω G1 λy G2=>r x y G2 λz G3=>match z with
 | .bl k=>if k=true then gc ω G3 λw G4=>r' y w G4 Q else Q (.bl false) G3
 | _=>False
theorem J8(mr:r.M)(a:r'.M)(b:ga.M)(mb:gb.M)(c:gc.M):GE.M (Bk r r' ga gb gc):=λω G Q f h q=>
 b _ _ _ _ (λx i z=>mb _ _ _ _ (λy j z=>mr _ _ _ _ _ (λd e z=>by
  cases d with
  | bl k =>
   cases k with
   | true=>exact c _ _ _ _ (λw g z=>a _ _ _ _ _ h z) z
   | false=>exact h _ _ z
  | _=>exact z) z) z) q
theorem OQ{r2 a:R2}(u:UpW K r r2)(B:UpW K r' a)(mr:r.M)(e:r'.M)(m:ga.M)(mb:gb.M)(I:gc.M)(σ:St)(H:Hp)(Q:VK)(h:up K (Bk r r' ga gb gc) σ H Q):Jz r2 a (up K ga) (up K gb) (up K gc) σ H Q:=by
 obtain⟨ω,G,f,s,q⟩:=h;refine⟨ω,G,f,s,m _ _ _ _ (λx o A v H1 b O r1=>⟨ω,o,f.mono b,r1,mb _ _ _ _ (λy P D j H2 c ty r2=>?_) A⟩) q⟩;refine u x y v j P H2 _ (O.mono c) ty r2 (mr _ _ _ _ _ (λk n g S J d tk l=>?_) D);cases k with
 | bl k =>
  refine⟨k,D7 tk,?_⟩;cases k with
  | true =>
   rw[if_pos rfl];refine⟨ω,n,((f.mono b).mono c).mono d,l,I _ _ _ _ (λw E F p N i L z=>?_) g⟩;exact B y w j p E N Q ((ty.mono d).mono i) L z (e _ _ _ _ _ (λT R t=>Ca (((b.trans c).trans d).trans i) t) F)
  | false =>
   rw[if_neg YY];exact g _ J ((b.trans c).trans d) (.bl false) l
 | _=>exact g.elim
theorem dL(C:Cop X op r)(e:Cop X op' r')(g:lastMarks [op,op'] [b,c]=false)(d:Em X a ga)(f:Em X b gb)(hc:Em X c gc):Em X (.Compare a [op,op'] [b,c] pos) (Bk r r' ga gb gc):=
 let⟨_,h1,h2⟩:=C.ex
 let⟨_,h3,h4⟩:=e.ex
 ⟨A7 (ZD h1 h3 d.p f.p hc.p g) (OQ h2 h4 C.m e.m d.m f.m hc.m),J8 C.m e.m d.m f.m hc.m⟩
theorem dM(C:Cop X op r)(e:Cop X op' r')(g:lastMarks [op,op'] [b,c]=false)(d:Em X a ga)(f:Em X b gb)(hc:Em X c gc):Tm X (.Compare a [op,op'] [b,c] pos) (gTB (Bk r r' ga gb gc)):=
 let⟨_,h1,h2⟩:=C.ex
 let⟨_,h3,h4⟩:=e.ex
 ⟨GH (ZE h1 h3 d.p f.p hc.p g) λσ H Q z=>OQ h2 h4 C.m e.m d.m f.m hc.m σ H _ (N8 (J8 C.m e.m d.m f.m hc.m) z),N6 (J8 C.m e.m d.m f.m hc.m)⟩
end
abbrev UpC(K:PySem.W.Frag)(r:RWc)(r1:List V->Hp->VK->Prop):Prop:=∀ ws vs G H Q,TrL K H vs ws->RelH K H G->r ws G (dn K H Q)->r1 vs H Q
structure Blt(X:Cx)(f:Value)(r:RWc):Prop where
 ex:∃ r1,CallR X f r1/\UpC X.K r r1
 m:r.M
section
variable {X:Cx} {x:Str} {p pos:Pos} {e:Expr} {es:List Expr} {gs:GA} {r:RWc} {id T:String}
theorem B7(h:bootBuiltins x=some (.builtin id))(B:Blt X (.builtin id) r)(f:Gl X x)(c:X.mg x=none)(i:x≠"__name__")(a:(x==("__debug__":Str))=false)
  (g:starEach (e::es) X.env=(false,eval e X.env)::starEach es X.env) (b:(backTo pos (starEach es X.env)).any (·.1)=false) (d:Am X (e::es) gs):Em X (.Call (.Name x p) (e::es) [] pos) (gB r gs):=
 let⟨_,h1,h2⟩:=B.ex
 c5 h1 B.m h2 f c h i a g b d
theorem CI(h:bootBuiltins x=some (.type T))(B:Blt X (.type T) r)(f:Gl X x)(c:X.mg x=none)(i:x≠"__name__")(a:(x==("__debug__":Str))=false)
  (g:starEach (e::es) X.env=(false,eval e X.env)::starEach es X.env) (b:(backTo pos (starEach es X.env)).any (·.1)=false) (d:Am X (e::es) gs):Em X (.Call (.Name x p) (e::es) [] pos) (gB r gs):=
 let⟨_,h1,h2⟩:=B.ex
 c6 h1 B.m h2 f c h i a g b d
end
theorem dN:Blt X (.builtin "len") (rF AK):=⟨⟨_,ZL,db⟩,Fz⟩
theorem Ed(hc:X.calm=true):Blt X (.builtin "all") (rF Bc):=⟨⟨_,cY hc,c7⟩,Fz⟩
theorem OR(hc:X.calm=true):Blt X (.builtin "any") (rF Bs):=⟨⟨_,cZ hc,c8⟩,Fz⟩
theorem OS(hc:X.calm=true):Blt X (.builtin "sum") DD:=⟨⟨_,c4 hc,da⟩,c9⟩
def Ee:RWc:=λws G Q=>match ws with
 | [w]=>(match Ec G w with | some xs=>∀ p,G p=none->Q (.ref p) (put G p (.lst xs))| none=>False)
 | _=>False
theorem dO:RWc.M Ee:=λb G Q c h q=>by
 unfold Ee at q ⊢;split at q
 ·split at q
  ·exact λp a=>h _ _ (q p a)
  ·exact q.elim
 ·exact q.elim
theorem dP:UpC K Ee (λxs H Q=>∃ p ys,xs=[.ref p]/\(SqL K H p ys\/SqT K H p ys)/\∀ l,H l=none->Q (.ref l) (upd H l (.lst ys))):=λg i G H Q t r q=>by
 unfold Ee at q;split at q
 ·rename_i h;split at q
  ·rename_i xs e;cases t with
   | cons d t =>
    cases t;obtain⟨a,f,rfl,c,l⟩:=J3 r d e;exact⟨a,f,rfl,c,λp b=>q p (r.no b) _ _ (Mono.new b _) (.ref p) (r.new b l)⟩
  ·exact q.elim
 ·exact q.elim
theorem dQ:Blt X (.type "list") Ee:=⟨⟨_,aj,dP⟩,dO⟩
def AI(ws:List W)(G:Hw):Option W:=match ws with | [w]=>(Ec G w).map W.tup | _=>none
theorem dR:UpC K (rF AI) (λxs H Q=>∃ p ys,xs=[.ref p]/\((SqL K H p ys/\∀ l,H l=none->Q (.ref l) (upd H l (.tup ys)))\/(SqT K H p ys/\Q (.ref p) H))):=λj k G H Q t r q=>by
 obtain⟨w,e,d⟩:=Cd q;unfold AI at e;split at e
 ·obtain⟨xs,i,h⟩:=YV.mp e;subst h;cases t with
  | cons g t =>
   cases t;obtain⟨a,f,rfl,b,l⟩:=J3 r g i;rcases b with b | b
   ·exact⟨a,f,rfl,.inl ⟨b,λp c=>d _ _ (Mono.new c _) (.tup (SqT.of BL) (l.mono (Mono.new c _))) (r.mono0 c)⟩⟩
   ·exact⟨a,f,rfl,.inr ⟨b,d _ H .refl (.tup b l) r⟩⟩
 ·cases e
theorem Ef:Blt X (.type "tuple") (rF AI):=⟨⟨_,ak,dR⟩,Fz⟩
def BP(ws:List W)(_:Hw):Option W:=match ws with | [.int i]=>some (.int i)| [.bl k]=>some (.int (if k then 1 else 0))| _=>none
theorem dS:UpC K (rF BP) (λxs H Q=>(∃ i,xs=[.int i]/\Q (.int i) H)\/∃ k,xs=[.bl k]/\Q (.int (if k then 1 else 0)) H):=λc d G H Q t r q=>by
 obtain⟨w,e,b⟩:=Cd q;unfold BP at e;split at e
 ·cases e;cases t with
  | cons a t=>cases t;cases a;exact .inl ⟨_,rfl,b _ H .refl (.int _) r⟩
 ·cases e;cases t with
  | cons a t=>cases t;cases a;exact .inr ⟨_,rfl,b _ H .refl (.int _) r⟩
 ·cases e
theorem dU:Blt X (.type "int") (rF BP):=⟨⟨_,ZK,dS⟩,Fz⟩
structure Mth(X:Cx)(T:String)(name:Str)(id:String)(pre:W->Hw->Prop)(r:W->List W->Hw->Kw->Prop):Prop where
 pa:PlainAttrs T
 slot:Slot T name id
 ty:typeOf (.builtin id)=pure (.type "method_descriptor")
 ex:∃ r2,MtR X id r2/\∀(o:W)(ws:List W)(v:V)(vs:List V)(G:Hw)(H:Hp)(Q:VK),Tr X.K H v o->TrL X.K H vs ws->RelH X.K H G->r o ws G (dn X.K H Q)->r2 v vs H Q
 pr:∀(o:W)(v:V)(G:Hw)(H:Hp),Tr X.K H v o->RelH X.K H G->pre o G->tyV X.K T v H
 m:∀ o ws G(Q Q':Kw),(∀ w G',Q w G'->Q' w G')->r o ws G Q->r o ws G Q'
def gMt(pre:W->Hw->Prop)(r:W->List W->Hw->Kw->Prop)(go:GE)(gs:GA):GE:=λω G Q=>go ω G λo G1=>pre o G1/\gs ω G1 λws G2=>r o ws G2 Q
section
variable {X:Cx} {o e:Expr} {es:List Expr} {go:GE} {gs:GA} {name:Str} {apos cpos:Pos} {T id:String} {pre:W->Hw->Prop} {r:W->List W->Hw->Kw->Prop}
theorem FD(M:Mth X T name id pre r)(a:attributeBase o name X.env (eval o X.env)=eval o X.env)
  (c:((backTo cpos (starEach (e::es) X.env)).all (λx=>!x.1)&&(backToKw cpos (keywordEach [] X.env)).all (λx=>x.1.isSome)&&decide ((e::es).length+([]:List Keyword).length+(if([]:List Keyword).isEmpty then 0 else 1) < 30))=true)
  (b:(apos.endLine==cpos.line)=true) (D:starEach (e::es) X.env=(false,eval e X.env)::starEach es X.env) (hplain:(backTo cpos (starEach es X.env)).any (·.1)=false) (g:Em X o go) (i:Am X (e::es) gs):
  Em X (.Call (.Attribute o name apos) (e::es) [] cpos) (gMt pre r go gs):=
 let⟨_,h1,h2⟩:=M.ex
 ⟨A7 (am M.pa M.slot M.ty h1 g.p i.p a c b D hplain) λσ H Q⟨ω,G,s,E,q⟩=>⟨ω,G,s,E,g.m _ _ _ _ (λd f z v H1 l tv r1=>⟨M.pr d v f H1 tv r1 z.1,
   ω,f,s.mono l,r1,i.m _ _ _ _ (λt u j B H2 n k A=>h2 d t v B u H2 Q (tv.mono n) k A (M.m _ _ _ _ _ (λw F y=>Ca (l.trans n) y) j)) z.2⟩) q⟩,
  λω G Q I h q=>g.m _ _ _ _ (λd f z=>⟨z.1,i.m _ _ _ _ (λt u j=>M.m _ _ _ _ _ h j) z.2⟩) q⟩
end
def BZ(o:W)(G:Hw):Prop:=∃ xs,CT G o=some xs
theorem OT{o:W}(t:Tr K H v o)(r:RelH K H G)(h:BZ o G):tyV K "list" v H:=by
 obtain⟨xs,e⟩:=h;obtain⟨a,c,rfl,_,_,b,_⟩:=ET r t e;exact .inl ⟨rfl,_,SqL.of b⟩
def DE(o:W)(G:Hw)(f:List W->Option (List W))(Q:Kw):Prop:=match o with
 | .ref a=>(match G a with | some (.lst xs)=>(match f xs with | some ys=>Q .non (put G a (.lst ys))| none=>False)| _=>False)
 | _=>False
variable {Q:Kw}
theorem J9{o:W}{f:List W->Option (List W)}(q:DE o G f Q):∃ a xs ys,o=.ref a/\G a=some (.lst xs)/\f xs=some ys/\Q .non (put G a (.lst ys)):=by
 unfold DE at q;split at q
 ·split at q
  ·rename_i xs e;split at q
   ·rename_i ys b;exact⟨_,xs,ys,rfl,e,b,q⟩
   ·exact q.elim
  ·exact q.elim
 ·exact q.elim
theorem Ka{f:List W->Option (List W)}{xs:List W}(e:G a=some (.lst xs))(b:f xs=some ys)(q:Q .non (put G a (.lst ys))):DE (.ref a) G f Q:=by
 unfold DE;dsimp only;rw[e];dsimp only;rw[b];exact q
theorem OU{o:W}{f:List W->Option (List W)}{b:Kw}(h:∀ w c,Q w c->b w c)(q:DE o G f Q):DE o G f b:=by
 obtain⟨a,xs,ys,rfl,e,d,q⟩:=J9 q;exact Ka e d (h _ _ q)
def CV(o:W)(ws:List W)(G:Hw)(Q:Kw):Prop:=match ws with
 | [y]=>DE o G (λxs=>if xs.length < sizeLine then some (xs++[y])else none) Q
 | _=>False
theorem dV:Mth X "list" "append" "list.append" BZ CV where
 pa:=PySem.F.plainAttrs_list
 slot:=PySem.F.slot_list_append
 ty:=PySem.F.type_list_append
 ex:=⟨_,ap,λo g v k G H Q tv c r q=>by
  unfold CV at q;split at q
  ·obtain⟨a,xs,ys,rfl,e,d,q⟩:=J9 q;split at d
   ·rename_i b;cases d;cases tv;cases c with
    | cons ty t =>
     cases t;obtain⟨i,f,l⟩:=r a _ e;exact⟨a,i,_,rfl,rfl,f,by rw[l.length];exact b,q _ _ (Mono.lst f _) .non (r.chg f (l.append (.cons ty .nil)))⟩
   ·cases d
  ·exact q.elim⟩
 pr:=λo v G H t r h=>OT t r h
 m:=λo g G Q j h q=>by
  unfold CV at q ⊢;split at q
  ·exact OU h q
  ·exact q.elim
def CJ(o:W)(ws:List W)(G:Hw)(Q:Kw):Prop:=match ws with
 | [y]=>DE o G (λxs=>(CT G y).bind λzs=>if xs.length+zs.length<=sizeLine then some (xs++zs)else none) Q
 | _=>False
theorem Kb:Mth X "list" "extend" "list.extend" BZ CJ where
 pa:=PySem.F.plainAttrs_list
 slot:=PySem.F.slot_list_extend
 ty:=PySem.F.type_list_extend
 ex:=⟨_,ar,λo k v x G H Q tv d r q=>by
  unfold CJ at q;split at q
  ·obtain⟨a,xs,ys,rfl,e,u,q⟩:=J9 q;obtain⟨zs,s,i⟩:=Qg.mp u;split at i
   ·rename_i c;cases i;cases tv;cases d with
    | cons ty t =>
     cases t;obtain⟨p,g,l⟩:=r a _ e;obtain⟨b,f,rfl,_,_,n,j⟩:=ET r ty s;exact⟨a,b,p,f,rfl,rfl,g,n,by rw[l.length,j.length];exact c,q _ _ (Mono.lst g _) .non (r.chg g (l.append j))⟩
   ·cases i
  ·exact q.elim⟩
 pr:=λo v G H t r h=>OT t r h
 m:=λo k G Q w h q=>by
  unfold CJ at q ⊢;split at q
  ·exact OU h q
  ·exact q.elim
def Eg(C:Addr)(E:Addr->Hw->Prop)(gs:GA):GS:=λ_ ω G=>gs ω G λws G1=>ws.length<=sizeLine/\E C G1
section
variable {P:Program} {w:World} {mg:Str->Option Value} {base:Heap} {N:List Str} {qual:Str} {scope:Scope} {f:Addr} {cd:Value} {A:Around} {outer:List Env} {s:Shared} {E:XK} {Pb:Hp->Prop}
theorem Kc{C:Addr}{B b initId:String}{bm:List Value}{n cpos:Pos}{a:Expr}{Aw:List Expr}(e:mg x=some (.ref C))(q:PySem.W.excIn K C bm b=true)(FB:ExcBaseFacts B b initId bm)
  (o:Gl (cxW P w K mg base N qual scope f cd A outer s H E) x)
  (k:starEach (a::Aw) (cxW P w K mg base N qual scope f cd A outer s H E).env=(false,eval a (cxW P w K mg base N qual scope f cd A outer s H E).env)::starEach Aw (cxW P w K mg base N qual scope f cd A outer s H E).env)
  (hplain:(backTo cpos (starEach Aw (cxW P w K mg base N qual scope f cd A outer s H E).env)).any (·.1)=false) (hd:(x==("__debug__":Str))=false) (c:Am (cxW P w K mg base N qual scope f cd A outer s H E) (a::Aw) gs):
  Sm (cxW P w K mg base N qual scope f cd A outer s H E) Pb (.Raise (some (.Call (.Name x n) (a::Aw) [] cpos)) none pos) (Eg C (dnX K H E) gs):=by
 refine⟨λJ l pins i σ Hc D I h=>?_,λω G D v _ _ _ _ q=>q⟩;obtain⟨ω,G,j,r,mb,g⟩:=h;exact a7 o e q FB c.p k hplain hd pins i σ Hc D I ⟨ω,G,j,r,c.m _ _ _ _ (λu F z y H1 d t r1=>⟨by rw[t.length];exact z.1,z.2 H1 ((Un.mono' I.base).trans d) r1⟩) g⟩
end
theorem RelH.newX{C:Addr}(r:RelH K H G)(b:H p=none):RelH K (upd H p (.ext (Cp p C))) (put G p (.exc C)):=λa u e=>by
 by_cases h:a=p
 ·subst h;rw[Ak]at e;cases e;exact BL
 ·rw[Aj h]at e;exact r.mono0 b a u e
structure GX(D D':Ew):Prop where
 nx:∀ a b,D.nx a b->D'.nx a b
 rt:∀ a b,D.rt a b->D'.rt a b
 bk:∀ a b,D.bk a b->D'.bk a b
 ct:∀ a b,D.ct a b->D'.ct a b
theorem GS.M.le{g:GS}(m:g.M){a:Ew}(h:GX D a)(q:g D ω G):g a ω G:=m ω G D a h.nx h.rt h.bk h.ct q
def GY(i:Nat)(D:Ew):Ew:={nx:=λω G=>D.nx (ω.set i none) G,rt:=D.rt,bk:=λω G=>D.bk (ω.set i none) G,ct:=λω G=>D.ct (ω.set i none) G}
def OV(K:PySem.W.Frag)(C0:Addr)(i:Nat)(gb:Xw->GS)(gh:GS):GS:=λD ω G=>
 gb (λω' C G'=>PySem.W.subIn K (.ref C) (.ref C0)=some true/\∀ e,G' e=none->gh (GY i D) (ω'.set i (some (.ref e))) (put G' e (.exc C))) D ω G
def Ke(K:PySem.W.Frag)(C0:Addr)(i:Nat)(gb:Xw->GS)(gh:GS):GS:=λD ω G=>∃ D0,GX D0 D/\OV K C0 i gb gh D0 ω G
theorem dW{c:List Stmt}{b0:Stmt}{n:Str}{np t:Pos}{o:Addr}{gb:Xw->GS}(U:X.mg x=some (.ref o))(hD:PySem.W.typeIn X.K (.ref o)=some (.type "type"))(hT:(PySem.W.clsIn X.K o).isSome=true)(hB:PySem.W.subIn X.K (.ref o) (.type "BaseException")=some true)
  (hN:X.N.Nodup) (hi:place X.N n=some i) (hn:Fw X.env.scope n=true) (O:X.stack=X.env::X.outer) (J:X.env.frame=some X.env.locals) (Z:X.ex=[]) (L:Gl X x) (Q:(x==("__debug__":Str))=false)
  (hb:∀(ex:Xw)(pn:List (Addr×Obj))(xe:Value->Shared->Prop),DA (cxT X pn xe) ex->Ssm (cxT X pn xe) (atB X) body (gb ex)) (hh:∀ e,Ssm (cxH X e) (atB X) (b0::c) gh):
  Sm X (atB X) (.Try body [.ExceptHandler (some (.Name x np)) (some n) (b0::c) t] [] [] pos) (Ke X.K o i gb gh):=by
 refine⟨λB h=>?_,(by rintro ω G D D' h1 h2 h3 h4 ⟨f,le,q⟩;exact⟨f,⟨λa b z=>h1 a b (le.nx a b z),λa b z=>h2 a b (le.rt a b z),λa b z=>h3 a b (le.bk a b z),λa b z=>h4 a b (le.ct a b z)⟩,q⟩)⟩;have v:B=X.H₀:=h
 let tb:(St->XK)->TS:=λEσ Dn σ H=>∃(ex:Xw)(f:Ew)(ω:Sw)(G:Hw),TrSt X.K H σ ω/\RelH X.K H G/\Mono X.K B H/\
  (∀ σ' C H' ω' k,Mono X.K B H'->TrSt X.K H' σ' ω'->RelH X.K H' k->ex ω' C k->Eσ σ' (.ref C) none H')/\GX f (dnD X.K B Dn)/\gb ex f ω G
 have hbody':∀(Eσ:St->XK)(pn:List (Addr×Obj))(xe:Value->Shared->Prop),Fu (CXe X.prog X.w) (cxT X pn xe) Eσ->PSs (cxT X pn xe) body (tb Eσ):=by
  intro Eσ pn xe hp pins s σ H Dn I ⟨ex,f,ω,G,P,r,mb,A,T,q⟩
  have pw:DA (cxT X pn xe) ex:=by
   intro g σ' H1 s1 ev s' I1 ⟨e,C,H',ee,F,C',ω',k,eC,j,r',q'⟩;cases eC;exact hp g σ' H1 s1 ev s' I1 ⟨e,C,H',ee,F,A σ' C H' ω' k (by rw[v];exact(Un.mono' I1.base).trans (Un.mono' F.un)) j r' q'⟩
  have S:=hb ex pn xe pw;exact S.p B h pins s σ H Dn I ⟨ω,G,P,r,mb,S.m.le T q⟩
 refine CQ (ba (tb:=tb) (th:=upS X.K B gh) hN (Oi hi) (Fy hn) O J Z L U hD hT hB hbody' (λe=>(hh e).p B h) Q) λD σ H Y=>?_;obtain⟨ω,G,P,r,mb,f,le,q⟩:=Y;refine⟨_,f,ω,G,P,r,mb,λσ' C H' ω' k m' j r' z=>?_,le,q⟩;refine⟨C,rfl,z.1,λe E=>⟨ω'.set i (some (.ref e)),put k e (.exc C),(j.mono (Mono.new E _)).set i (.ref e),r'.newX E,m'.trans (Mono.new E _),?_⟩⟩
 have R:GX (GY i f) (dnD X.K B {nx:=λσ2 H2=>D.nx (σ2.set i none) H2,rt:=D.rt,bk:=λσ2 H2=>D.bk (σ2.set i none) H2,ct:=λσ2 H2=>D.ct (σ2.set i none) H2}):=by
  refine⟨λa b y σ2 H2 u d l=>?_,λa b y=>le.rt a b y,λa b y σ2 H2 u d l=>?_,λa b y σ2 H2 u d l=>?_⟩
  ·exact le.nx _ _ y (σ2.set i none) H2 u (d.unset i) l
  ·exact le.bk _ _ y (σ2.set i none) H2 u (d.unset i) l
  ·exact le.ct _ _ y (σ2.set i none) H2 u (d.unset i) l
 exact(hh e).m.le R (z.2 e (r'.no E))
structure DfN(P:Program)(w:World)(K:PySem.W.Frag)(mg:Str->Option Value)(base:Heap)(x:Str)(k n:Nat)(sp:Spw):Prop where
 ex:∃(f:Addr)(fd:FuncData)(ps:List Str),mg x=some (.ref f)/\PySem.W.keepIn K (.ref f)=true/\Binds K fd ps []/\ps.length=n/\JP P w K mg base CX0 k f fd ps (DB K sp)
 mono:sp.M
section
variable {X:Cx} {e:Expr} {es:List Expr} {pos p:Pos} {gs:GA}
theorem dX{sp:Spw}(D:DfN X.prog X.w X.K X.mg X.base x k n sp)(h:GF k X.A)(B:Gl X x)(a:(x==("__debug__":Str))=false)(v:starEach (e::es) X.env=(false,eval e X.env)::starEach es X.env)(g:(backTo pos (starEach es X.env)).any (·.1)=false)
  (b:Am X (e::es) gs):Em X (.Call (.Name x p) (e::es) [] pos) (Ag sp (λ_ _ _=>False) gs):=by
 obtain⟨f,fd,ps,s,t,j,_,F⟩:=D.ex;refine⟨A7 (bd F h B s t j b.p a v g) λσ H Q d=>?_,N3 D.mono b.m⟩;obtain⟨ω,G,u,r,q⟩:=d;refine⟨ω,G,u,r,b.m _ _ _ _ (λi y q1 E H1 o c r1=>?_) q⟩;exact⟨i,y,by rw[Yx];exact c,r1,D.mono _ _ _ _ _ _ (λw l z=>Ca o z) (λC l z=>z.elim) q1⟩
end
def tyN(w:W)(G:Hw):Option String:=match w with
 | .non=>some "NoneType"
 | .bl _=>some "bool"
 | .int _=>some "int"
 | .str _=>some "str"
 | .tup _=>some "tuple"
 | .rol _=>some "list"
 | .ref a=>(match G a with | some (.lst _)=>some "list" | _=>none)
def BK(n T:String):Bool:=n==T||(n=="bool"&&T=="int")
variable {T:String}
theorem Eh{n:String}(b:n∈["NoneType","bool","int","str","tuple","list"])(a:T∈["tuple","list","str","int","bool","dict"]):PySem.W.kitOne K (.type n) (.type T)=some (BK n T):=by
 simp only[Yo,Qd,or_false]at b a;rcases b with rfl | rfl | rfl | rfl | rfl | rfl <;> rcases a with rfl | rfl | rfl | rfl | rfl | rfl <;> kernel_rfl
def AH(T:String)(ge:GE):GE:=λω G Q=>ge ω G λw G1=>match tyN w G1 with | some n=>Q (.bl (BK n T)) G1 | none=>False
theorem dY(m:ge.M):GE.M (AH T ge):=λω G Q b h q=>m _ _ _ _ (λw a z=>by
 cases e:tyN w a with
 | none=>rw[e]at z;exact z
 | some n=>rw[e]at z;exact h _ _ z) q
theorem dZ{u:Value}{n:String}{Q:Value->Shared->Prop}{E:Value->Shared->Prop}(I:Inv X pins σ H s)(b:RelV v u)(t:Tr X.K H v w)(r:RelH X.K H G)(e:tyN w G=some n)
  (c:T∈["tuple","list","str","int","bool","dict"]) (h:∀ tk,Q (.bool (BK n T)) {s with toks:=tk}):wpAny (model X.prog X.w) X.A (call (.builtin "isinstance") [u,.type T]) Q E s:=by
 cases t with
 | non=>cases e;cases(show u=Value.none from b);exact PySem.W.kia_one PySem.W.kitx_none I.kIn True.intro (Eh (by simp) c) (λz=>nomatch z) h
 | bl y=>cases e;cases(show u=Value.bool y from b);exact PySem.W.kia_one PySem.W.kitx_bool I.kIn True.intro (Eh (by simp) c) (λz=>nomatch z) h
 | int i=>cases e;obtain⟨t,rfl⟩:=b;exact PySem.W.kia_one PySem.W.kitx_int I.kIn True.intro (Eh (by simp) c) (λz=>nomatch z) h
 | str y=>cases e;obtain⟨t,rfl⟩:=b;exact PySem.W.kia_one PySem.W.kitx_str I.kIn True.intro (Eh (by simp) c) (λz=>nomatch z) h
 | tup g l =>
  cases e;cases b;obtain⟨d,_,p,_⟩:=I.tuple g;obtain⟨o,h1,h2,_⟩:=p;exact PySem.W.kia_one PySem.W.kitx_tuple I.kIn ⟨o,h1,h2⟩ (Eh (by simp) c) (λz=>nomatch z) h
 | rol g l =>
  cases e;cases b;obtain⟨d,_,p,_⟩:=I.list g.sq;obtain⟨o,h1,h2,_⟩:=p.isList;exact PySem.W.kia_one PySem.W.kitx_list I.kIn ⟨o,h1,h2⟩ (Eh (by simp) c) (λz=>nomatch z) h
 | ref a =>
  unfold tyN at e;dsimp only at e;cases f:G a with
  | none=>rw[f]at e;cases e
  | some o =>
   rw[f]at e;cases o with
   | exc C=>cases e
   | ins C fs=>cases e
   | dct j=>cases e
   | lst xs =>
    cases e;cases b;obtain⟨m,k,_⟩:=r a _ f;obtain⟨d,_,p,_⟩:=I.list (SqL.of k);obtain⟨o,h1,h2,_⟩:=p.isList;exact PySem.W.kia_one PySem.W.kitx_list I.kIn ⟨o,h1,h2⟩ (Eh (by simp) c) (λz=>nomatch z) h
theorem OW:bootBuiltins "isinstance"=some (.builtin "isinstance"):=by decide +kernel
section
variable {X:Cx} {e:Expr} {p pc pos:Pos} {ge:GE}
theorem EV{c:Str}(F:T∈["tuple","list","str","int","bool","dict"])(A:bootBuiltins c=some (.type T))(k:X.mg c=none)(f:X.mg "isinstance"=none)(j:Gl X "isinstance")(g:Gl X c)(B:c≠"__name__")(hd:(c==("__debug__":Str))=false)
  (l:starEach [e,.Name c pc] X.env=[(false,eval e X.env),(false,eval (.Name c pc) X.env)]) (a:starEach [.Name c pc] X.env=[(false,eval (.Name c pc) X.env)]) (h:Em X e ge):Em X (.Call (.Name "isinstance" p) [e,.Name c pc] [] pos) (AH T ge):=by
 refine⟨λpins s σ H Q I i=>?_,dY h.m⟩;obtain⟨ω,G,D,r,q⟩:=i;have pa:PA X [e,.Name c pc] (EL (up X.K ge) (EL (tC (.ty T)) Gv)):=EM h.p (EM (Nd g k A rfl B hd) Gw (by rw[a];rfl)) (by rw[l,a]);refine wpAny_Call_Name_kw (CC I j f OW ?_ (by decide) (by decide));refine PyProof.Rows.callWith_builtin1 (thn (pa pos pins s σ H (λo H1=>∃ v w b n,o=[v,.ty T]/\Tr X.K H1 v w/\RelH X.K H1 b/\tyN w b=some n/\Q (.bl (BK n T)) H1) I ?_) λP O⟨o,H1,x,r1,v,w,b,n,L,tv,y,d,J⟩=>?_) (by rw[l,a]) (by rw[a];rfl)
 ·refine⟨ω,G,D,r,h.m _ _ _ _ (λw b z v H1 m t r1=>?_) q⟩;cases d:tyN w b with
  | none=>rw[d]at z;exact z.elim
  | some n=>rw[d]at z;exact⟨v,w,b,n,rfl,t,r1,d,z _ H1 m (.bl _) r1⟩
 ·subst L;obtain⟨u,N,rfl,E,rt⟩:=JB r1;cases rt;exact dZ x E tv y d F λtk=>⟨.bl _,H1,x.tok tk,rfl,J⟩
end
structure C5(K:PySem.W.Frag)(C:Addr):Prop where
 ga:PySem.W.findIn K (.ref C) "__getattribute__"=some (some (.builtin "BaseException.__getattribute__"))
 gh:PySem.W.findIn K (.ref C) "__getattr__"=some none
 cl:(PySem.W.clsIn K C).isSome=true
 fc:PySem.W.findIn K (.ref C) "__class__"=some (some (.builtin "object.__class__"))
 sp:PySem.W.specialIn K (.builtin "object.__class__") "__get__"=some (some (.builtin "getset_descriptor.__get__"))
 tk:PySem.W.takesIn K (.builtin "object.__class__")=some true
 mr:PySem.W.mroIn K C (.type "object")=some true
 mb:PySem.W.mroIn K C (.type "BaseException")=some true
end L3
namespace L3
open PySem PySem.W PySem.Spec PySem.Calls PyProof.Rows PySem.Builtin PySem.Builtin.ObjectAttr PySem.Builtin.Getset_descriptor
section
variable {prog:Program} {w:World} {A:Around} {E:Value->Shared->Prop} {s:Shared} {K:Frag} {x C:Addr} {name:Str}
variable {h:Heap}
theorem FE{M:Model}(I:L2.Cp x C h):Looks M h (typeOf (.ref x)) (.ref C):=by
 obtain⟨a,e,c⟩:=I;rw[<- c];exact(Looks.ld e).andThen .now
variable {a:Value}
theorem d0{M:Model}{g:Value}(X:K.In h)(e:findIn K (.ref C) name=some (some a))(i:specialIn K a "__get__"=some (some g))(f:takesIn K a=some true):Looks M h (find (.ref x) (.ref C) name) (.bind g a):=by
 have c:=looks_findIn (M:=M) X e;have d:Looks M h (getOf (some a)) (some g):=looks_specialIn X i;have b:Looks M h (dataDescriptor? (some a) (some g)) (some (g,a)):=(looks_takesIn (M:=M) X f).andThen .now;exact c.andThen (d.andThen (b.andThen (Looks.tag .now)))
variable {R:Result->Shared->Prop}
theorem d3(X:K.In s.heap)(I:L2.Cp x C s.heap)(b:mroIn K C (.type "object")=some true)
  (h:R (.ok (.ret (.ref C))) s):codeAny (model prog w) A (.call (.builtin "getset_descriptor.__get__") ⟨[.builtin "object.__class__",.ref x,a],[]⟩) R s:=by
 obtain⟨e,c,d,tt,os⟩:=s;have LT:=FE (M:=model prog w) I;have LM:=looks_mroIn (M:=model prog w) X b;refine codeAny_call_builtin KF.slot_gs.plain KF.entry_gs (KF.slot_gs.check _ _ _ _ _ _ _ _ KF.type_class (KF.args_gs _ _ _) (?_:wpAny _ _ _ _ _ _));(unfold Builtin.«getset_descriptor.__get__» descrGet);(rw[dga_obj]);(refine wpAny_bind (wpAny_pure ?_));(unfold descrGetter descrCheckInstance descrNameAndClass isInstance);(simp only[KF.owner_class]);(repeat lk);refine⟨Code.quiet_builtin _ (by decide +kernel),(codeAny_builtin KF.entry_class ?_:codeAny _ _ _ _ _)⟩;(unfold Builtin.«object.__class__» shownTypeOf);(repeat lk);exact h
theorem d4{M:Model}{Q:Unit->Shared->Prop}(X:K.In s.heap)(I:L2.Cp x C s.heap)(c:mroIn K C (.type "BaseException")=some true)(d:Q () s):
  wpAny M A (checkBuiltinCall "BaseException.__getattribute__" ⟨[.ref x,a],[]⟩) Q E s:=by
 obtain⟨h,e,f,tt,os⟩:=s;have LT:=FE (M:=M) I;have LM:=looks_mroIn (M:=M) X c;have b:builtinKind "BaseException.__getattribute__"=some .slot:=by decide +kernel
 have sp:splitId "BaseException.__getattribute__"=some ("BaseException","__getattribute__"):=by decide +kernel
 have g:=F.args_bexc_ga (.ref x) a;simp only[checkBuiltinCall,b,sp];refine wpAny_bind ?_;unfold isInstance
 repeat lk
 repeat (any_goals (first | assumption | wp_step))
theorem d5(XC:C5 K C)(X:K.In s.heap)(I:L2.Cp x C s.heap)(h:R (.ok (.ret (.ref C))) s):
  codeAny (model prog w) A (.call (.builtin "BaseException.__getattribute__") ⟨[.ref x,.str "__class__" tk],[]⟩) R s:=by
 refine codeAny_call_builtin F.attr_Exception.ga.plain F.entry_bexc_ga (d4 X I XC.mb ?_);obtain⟨b,c,a,tt,os⟩:=s;have LT:=FE (M:=model prog w) I;have LF:=d0 (M:=model prog w) (x:=x) X XC.fc XC.sp XC.tk;(unfold Builtin.«object.__getattribute__»)
 repeat (first | with_reducible refine wpAny_call (d3 X I XC.mr ?_)| lk | wp_step)
 all_goals exact h
theorem d6{Q:Option Value->Shared->Prop}(XC:C5 K C)(X:K.In s.heap)(I:L2.Cp x C s.heap)(h:Q (some (.ref C)) {s with toks:=s.toks+1}):wpAny (model prog w) A (getAttr? (.ref x) "__class__") Q E s:=by
 obtain⟨b,c,a,tt,os⟩:=s;have LT:=FE (M:=model prog w) I;have LG:=looks_findIn (M:=model prog w) X XC.ga;have LH:=looks_findIn (M:=model prog w) X XC.gh;unfold getAttr? getAttrBy? getAttrBy;refine wpAny_bind (wpAny_mkText (wpAny_bind (wpAny_attempt (wpAny_holding (wpAny_bind (LT.at (wpAny_bind (LG.at (?_:wpAny _ _ _ _ _ _)))))))));show wpAny _ _ (getAttrByItsOwn _ _ _ _ _ _) _ _ _;unfold getAttrByItsOwn callGetattribute boundAndCalled;refine wpAny_bind ((LH:Looks _ _ (hookBefore (.ref C)) none).at (wpAny_bind (wpAny_attempt (wpAny_holding ?_))));show wpAny _ _ (bindSpecial (.builtin "BaseException.__getattribute__") (.ref x) >>=_) _ _ _;refine wpAny_bind (wpAny_of_eq (F.attr_Exception.ga.bind _) ?_);refine wpAny_call (d5 (s:=⟨b,c,a,tt+1,os⟩) XC X I ?_)
 first
  | exact wpAny_pure (handed_on rfl (wpAny_pure h))
  | exact wpAny_pure (wpAny_pure h)
  | exact wpAny_pure h
theorem d9(XC:C5 K C):KitX K (.ref x) (.ref C) (L2.Cp x C) where
 ty:=λ_ _ _ I=>FE I
 it:=λ_ _ X _=>by
  have hc:=XC.cl;unfold clsIn at hc;split at hc
  ·rename_i _ _ _ _ b;intro f g j s' k q;unfold isType loadHead;exact wpAny_bind (wpAny_loadPart (k _ _ (X _ _ b)) (wpAny_pure q))
  ·cases hc
 ne:=λh c i d n l X a=>by
  have hc:=XC.cl;refine Bool.eq_false_iff.mpr λq=>?_;have e:C=c:=Value.ref.inj (beq_iff_eq.mp q);subst e;unfold clsIn at hc;split at hc
  ·rename_i _ _ _ _ b;have z:=(X _ _ b).symm.trans a;cases z
  ·cases hc
 ca:=λX I k=>d6 XC X I k
end
end L3
namespace L3
open PySem PySem.Spec PyProof.Rows L2
variable {K:PySem.W.Frag} {H H' H2:Hp}
def Cf(K:PySem.W.Frag)(cv:Value)(ge:GE):GE:=λω G Q=>ge ω G λw G1=>match w with
 | .ref a=>(match G1 a with | some (.exc C)=>∃ b,C5 K C/\PySem.W.kitOne K (.ref C) cv=some b/\Q (.bl b) G1 | _=>False)
 | _=>False
theorem ea{cv:Value}{ge:GE}(m:ge.M):GE.M (Cf K cv ge):=λω G Q g h q=>m _ _ _ _ (λw d z=>by
 cases w with
 | ref a =>
  dsimp only at z ⊢;cases e:d a with
  | none=>rw[e]at z;exact z
  | some o =>
   rw[e]at z;cases o with
   | lst xs=>exact z
   | ins C fs=>exact z
   | dct c=>exact z
   | exc C=>obtain⟨b,h1,h2,f⟩:=z;exact⟨b,h1,h2,h _ _ f⟩
 | _=>exact z) q
section
variable {X:Cx} {e:Expr} {p pc pos:Pos} {ge:GE}
variable {c:Str}
theorem OX{cv:V}{f:Value}(Y:RelV cv f)(hc:PE X (.Name c pc) (tC cv))(g:X.mg "isinstance"=none)(i:Gl X "isinstance")
  (x:starEach [e,.Name c pc] X.env=[(false,eval e X.env),(false,eval (.Name c pc) X.env)]) (d:starEach [.Name c pc] X.env=[(false,eval (.Name c pc) X.env)]) (k:∀ u,RelV cv u->u=f) (h:Em X e ge):Em X (.Call (.Name "isinstance" p) [e,.Name c pc] [] pos) (Cf X.K f ge):=by
 refine⟨λpins s σ H Q I n=>?_,ea h.m⟩;obtain⟨ω,G,J,r,q⟩:=n;have pa:PA X [e,.Name c pc] (EL (up X.K ge) (EL (tC cv) Gv)):=EM h.p (EM hc Gw (by rw[d];rfl)) (by rw[x,d]);refine wpAny_Call_Name_kw (CC I i g OW ?_ (by decide) (by decide));refine PyProof.Rows.callWith_builtin1 (thn (pa pos pins s σ H (λy H1=>∃ a C b,y=[.ref a,cv]/\H1 a=some (.ext (Cp a C))/\C5 X.K C/\PySem.W.kitOne X.K (.ref C) f=some b/\Q (.bl b) H1) I ?_) λU T⟨y,H1,l,r1,a,C,b,R,F,B,D,P⟩=>?_) (by rw[x,d]) (by rw[d];rfl)
 ·refine⟨ω,G,J,r,h.m _ _ _ _ (λw E z v H1 m t r1=>?_) q⟩;cases w with
  | ref a =>
   dsimp only at z;cases j:E a with
   | none=>rw[j]at z;exact z.elim
   | some o =>
    rw[j]at z;cases o with
    | lst xs=>exact z.elim
    | ins C fs=>exact z.elim
    | dct A=>exact z.elim
    | exc C =>
     obtain⟨b,h1,h2,O⟩:=z;have L:H1 a=some (.ext (Cp a C)):=r1 a _ j;exact⟨a,C,b,by rw[bK t],L,h1,h2,O _ H1 m (.bl _) r1⟩
  | _=>exact z.elim
 ·subst R;obtain⟨u,S,rfl,N,rt⟩:=JB r1;cases N;rw[k _ rt];obtain⟨h1,_⟩:=l.hok a _ F;exact PySem.W.kia_one (d9 B) l.kIn h1 D (λz=>nomatch z) λtk=>⟨.bl b,H1,l.tok tk,rfl,P⟩
theorem EW{C:Addr}(d:X.mg c=some (.ref C))(b:X.mg "isinstance"=none)(a:Gl X "isinstance")(f:Gl X c)(hd:(c==("__debug__":Str))=false)
  (i:starEach [e,.Name c pc] X.env=[(false,eval e X.env),(false,eval (.Name c pc) X.env)]) (g:starEach [.Name c pc] X.env=[(false,eval (.Name c pc) X.env)]) (h:Em X e ge):Em X (.Call (.Name "isinstance" p) [e,.Name c pc] [] pos) (Cf X.K (.ref C) ge):=
 OX (cv:=.ref C) rfl (Nb f d rfl hd) b a i g (λ_ z=>z) h
theorem ef{T:String}(j:bootBuiltins c=some (.type T))(d:X.mg c=none)(b:X.mg "isinstance"=none)(a:Gl X "isinstance")(f:Gl X c)(k:c≠"__name__")(hd:(c==("__debug__":Str))=false)
  (i:starEach [e,.Name c pc] X.env=[(false,eval e X.env),(false,eval (.Name c pc) X.env)]) (g:starEach [.Name c pc] X.env=[(false,eval (.Name c pc) X.env)]) (h:Em X e ge):Em X (.Call (.Name "isinstance" p) [e,.Name c pc] [] pos) (Cf X.K (.type T) ge):=
 OX (cv:=.ty T) rfl (Nd f d j rfl k hd) b a i g (λ_ z=>z) h
end
theorem eg{n:Nat}{gd:Hw->Prop}:D9 K H1 (Itr 0 n) ((List.range n).map λi:Nat=>W.int i) gd where
 go:=λi H G m r g hi=>by show i < n;simpa using hi
 yld:=λi H G x H' m r g y hi=>by
  obtain⟨e,ex⟩:=y;subst ex;have a:i < n:=by simpa using hi
  refine GN r e ⟨.int i,by simp[a],?_⟩;rw[Int.zero_add];exact .int _
 stop:=λH G m r g=>by show n<=_;simp
def AS(gs:GA):GI:=λω G R=>gs ω G λws G1=>match ws with
 | [.int j]=>-(2 ^ 62)<=j/\j < 2 ^ 62/\R ((List.range j.toNat).map λi:Nat=>W.int i) yes G1
 | _=>False
variable {gs:GA}
theorem eh(m:gs.M):GI.M (AS gs):=λω G R c h q=>m _ _ _ _ (λb a z=>by
 split at z
 ·exact⟨z.1,z.2.1,h _ _ _ z.2.2⟩
 ·exact z.elim) q
variable {X:Cx}{a:Expr}{p pos:Pos}
theorem ei(c:X.mg "range"=none)(g:Gl X "range")(f:starEach [a] X.env=[(false,eval a X.env)])(b:Am X [a] gs):Im X tg (.Call (.Name "range" p) [a] [] pos) (AS gs):=by
 refine⟨⟨_,Zd g c b.p f,λσ H ω G R i e r q k=>⟨ω,G,e,r,b.m _ _ _ _ (λh l z j H1 m t r1=>?_) q⟩⟩,eh b.m⟩;split at z
 ·cases t with
  | cons d t=>cases t;cases d;exact⟨_,rfl,z.1,z.2.1,k _ _ _ H1 _ z.2.2 m r1 trivial eg⟩
 ·exact z.elim
theorem Inv.turneds{s:Shared}{h':Heap}{t':Nat}{g:List Addr}(I:Inv X pins σ H s)(a:∀ b∈g,CD X pins H b)(k:∀ b o,b∉g->s.heap.get? b=some o->h'.get? b=some o):Inv X pins σ H {s with heap:=h',toks:=t'}:=by
 have d:∀ b u,H b=some u->b∉g:=λb u e z=>by rw[(a b z).1]at e;cases e
 refine I.step (g':=s.gens) (d':=s.drawn) (ch:=g) (λb f=>⟨(a b f).2.2.2.1,(a b f).2.1,(a b f).2.2.2.2.1,(a b f).2.2.2.2.2⟩) (λb o _ _ hc e _=>k b o hc e) (λb o _ _ hc e _=>⟨o.slots,k b o hc e⟩) (λ_ _ _ _ n=>n)
  (λb o hc e=>⟨o,k b o hc e⟩) (λ_ _ e=>e) (λ_ _ _ e=>e) (λb ps e=>⟨#[],by rw[e];simp⟩) (λm h=>?_) (λb u e=>?_) I.bare
 ·obtain⟨o,es,i,j,r⟩:=h;exact⟨o,es,i,k _ o (λz=>(a _ z).2.1 rfl) j,r⟩
 ·refine(I.hok b u e).stay (λc v hc q=>k c v ?_ q) (λ_ q=>q) λ_ _ q=>q;rcases hc with z | z
  ·rw[z];exact d b u e
  ·exact d c _ z
variable {w:World}
theorem OY{prog:Program}{A:Around}(O:A.handled=none)(z TI TO f d j g:Addr)(D:ZipApart z TI TO f d j g)(xs ys:Array Value):
  WalksT prog w A z [z,TI,TO,f,d,j,g] [z,TO,f,d] (min xs.size ys.size) (λi vals=>∃ x y,xs[i]?=some x/\ys[i]?=some y/\vals=#[x,y])
   (λi h=>IsZip h z TI TO .none/\IsPair h TI (.ref f) (.ref d)/\(∃ a b,IsPair h TO a b)/\h.IsListIter f j i/\h.IsListIter d g i/\h.IsList j xs/\h.IsList g ys)
   (λi T h=>(IsZip h z TI TO (rawInt T)/\IsPair h TI (.ref f) (.ref d)/\(∃ a b,IsPair h TO a b)/\h.IsListIter f j (i+1)/\h.IsListIter d g (i+1)/\h.IsList j xs/\h.IsList g ys/\
    T≠z/\T≠TO/\T≠f/\T≠d)/\NoD h T):=
 have l:=WalksT.zip2 (prog:=prog) (w:=w) (A:=A) O z TI TO f d j g D xs ys
 {
  sub:=l.sub
  frame:=l.frame
  item:=λi s Q E hi F G=>by
   obtain⟨H,t,⟨a,b,m⟩,h1,h2,u,n⟩:=F;have q:i < xs.size:=Yu hi (Nat.min_le_left ..);have p:i < ys.size:=Yu hi (Nat.min_le_right ..);refine wpAny_pyNext_zip_item D H t m h1 h2 u n (Qb q) (Qb p) λh' K J N L I P v=>?_;have lt:∀{c o},s.heap.get? c=some o->s.heap.objs.size≠c:=λe=>Nat.ne_of_gt (Qn e)
   exact G s.heap.objs.size #[xs[i],ys[i]] h' s.toks ⟨_,_,Qb q,Qb p,rfl⟩ (Yr _) ⟨_,I,rfl,_,rfl⟩
    ⟨⟨K,v _ _ D.TIz D.TITO D.TIi1 D.TIi2 t,⟨_,_,J⟩,N,L,u.at λo e=>v _ o D.l1z D.l1TO D.l1i1 D.l1i2 e,n.at λo e=>v _ o D.l2z D.l2TO D.l2i1 D.l2i2 e,
     lt H,lt m,(by obtain⟨_,e,_⟩:=h1;exact lt e),(by obtain⟨_,e,_⟩:=h2;exact lt e)⟩,_,I,rfl⟩
    λc o hc e=>v c o (λx=>hc (by simp[x])) (λx=>hc (by simp[x])) (λx=>hc (by simp[x])) (λx=>hc (by simp[x])) e
  go:=λr k pos i T s Q E B G=>l.go r k pos i T s Q E B.1 G
  apart:=λi T h B=>l.apart i T h B.1
  done:=l.done
  self:=l.self}
def Itz(K:PySem.W.Frag)(l1 l2:Addr):It :=
 ⟨λi H=>∃ xs ys,SqL K H l1 xs/\SqL K H l2 ys/\i < xs.length/\i < ys.length,
  λi H v H'=>∃ T x y,H T=none/\v=.ref T/\H'=upd H T (.tup [x,y])/\∀ xs ys,SqL K H l1 xs->SqL K H l2 ys->xs[i]?=some x/\ys[i]?=some y,
  λi H=>∃ xs ys,SqL K H l1 xs/\SqL K H l2 ys/\i=min xs.length ys.length⟩
variable {k:Nat}{tpos:Pos}
theorem ej{P:Program}{F:List Expr}{z TI TO y u Y U:Addr}(D:ZipApart z TI TO y u Y U):
  Dx P w K (.Tuple F k tpos) (Itz K Y U) [z,TI,TO,y,u] z (λi h=>IsZip h z TI TO .none/\IsPair h TI (.ref y) (.ref u)/\(∃ a b,IsPair h TO a b)/\h.IsListIter y Y i/\h.IsListIter u U i) where
 mem:=by simp
 obj:=λi h st b n=>by
  obtain⟨B,l,⟨a,c,f⟩,⟨o1,e1,_,d1⟩,⟨o2,e2,_,d2⟩⟩:=st;simp only[Yo,Qd,or_false]at n;rcases n with rfl | rfl | rfl | rfl | rfl
  ·exact⟨_,B,λv z=>by cases z⟩
  ·exact⟨_,l,λv z=>by cases z⟩
  ·exact⟨_,f,λv z=>by cases z⟩
  ·exact⟨o1,e1,λv z=>by rw[d1]at z;cases z⟩
  ·exact⟨o2,e2,λv z=>by rw[d2]at z;cases z⟩
 keep:=λi h h' st O=>by
  obtain⟨B,l,⟨a,c,f⟩,h1,h2⟩:=st;exact⟨O z (by simp) _ B,O TI (by simp) _ l,⟨a,c,O TO (by simp) _ f⟩,h1.at λo e=>O y (by simp) o e,h2.at λo e=>O u (by simp) o e⟩
 item:=by
  intro X hP hw hK hc i pins s σ H E I hf st hg;subst hP hw hK;obtain⟨xs,ys,hx,hy,hix,hiy⟩:=hg;obtain⟨j,r1,J,z1⟩:=I.list hx;obtain⟨g,r2,G,z2⟩:=I.list hy;have n1:=r1.length;have n2:=r2.length;obtain⟨B,l,f,h1,h2⟩:=st;have Wk:=OY (prog:=X.prog) (w:=X.w) (A:=X.A) (I.ok.hd hc) z TI TO y u Y U D j.toArray g.toArray;refine Wk.item i s _ _ (by simp only[Yn];omega) ⟨B,l,f,h1,h2,J.isList,G.isList⟩ λT vals h' tk hPt hT hTup r hk=>⟨.ref T,rfl,?_⟩;refine Wk.go F k tpos i T _ _ _ r λN t hk2=>?_;obtain⟨v1,v2,g1,g2,rfl⟩:=hPt;have g1':j[i]?=some v1:=by simpa using g1
  have g2':g[i]?=some v2:=by simpa using g2
  have gx:xs[i]?=some xs[i]:=Yp hix;have gy:ys[i]?=some ys[i]:=Yp hiy;obtain⟨u1,q1,rv1⟩:=r1.get gx;obtain⟨u2,q2,rv2⟩:=r2.get gy;rw[g1']at q1;cases q1;rw[g2']at q2;cases q2
  have Z:∀ b,b∉[z,TI,TO,y,u]->b∉[z,TO,y,u]:=λb n hc=>n (by
   simp only[Yo,Qd,or_false]at hc ⊢;rcases hc with h | h | h | h <;> simp[h])
  have I1:Inv X pins σ H {s with heap:=N,toks:=tk}:=Inv.turneds I hf λb o n e=>hk2 b o (Z b n) (hk b o (Z b n) e);have S:H T=none:=I.hok.fresh hT
  have L:TupP N T #[v1,v2]:=by
   obtain⟨o,e,c,m,d⟩:=hTup;obtain⟨o',e',hd⟩:=r.2;rw[e]at e';cases e';exact⟨o,hk2 _ _ (Wk.apart _ _ _ r) e,c,hd,m,d⟩
  have lt:∀{b:Addr}{o:Obj},s.heap.get? b=some o->b≠T:=λe q=>absurd (Yu (Qn e) hT) (by rw[q];exact YM _)
  have I2:Inv X pins σ (upd H T (.tup [xs[i],ys[i]])) {s with heap:=N,toks:=tk}:=by
   refine I1.track S ?_ (λx c e=>?_) (λp hp=>?_) ?_ ⟨by show 2<=sizeLine;decide,[v1,v2],.cons rv1 (.cons rv2 .nil),L⟩
   ·obtain⟨m,⟨o,es,ep,ho,_⟩,_⟩:=I.loc;exact Qa (lt ho)
   ·obtain⟨v,o,ho,_⟩:=I.cell x c e;exact lt ho
   ·exact lt (I.pin p hp).1
   ·cases e:X.s₀.heap.get? T with
    | none=>rfl
    | some o=>exact absurd (Yu (Qn e) (Yt I.sz hT)) (YM _)
  refine⟨.ref T,_,I2,rfl,⟨T,_,_,S,rfl,rfl,λxs' ys' hx' hy'=>?_⟩,⟨t.1,t.2.1,t.2.2.1,t.2.2.2.1,t.2.2.2.2.1⟩,λb n=>?_⟩
  ·rw[I.list_inj hx' hx,I.list_inj hy' hy];exact⟨gx,gy⟩
  ·have hb':=(hf b n).1
   have:b≠T:=by
    obtain⟨o,e,_⟩:∃ o,s.heap.get? b=some o/\True:=by
     obtain⟨a,c,R⟩:=f;obtain⟨o1,e1,_⟩:=h1;obtain⟨o2,e2,_⟩:=h2;simp only[Yo,Qd,or_false]at n;rcases n with rfl | rfl | rfl | rfl | rfl
     ·exact⟨_,B,trivial⟩
     ·exact⟨_,l,trivial⟩
     ·exact⟨_,R,trivial⟩
     ·exact⟨_,e1,trivial⟩
     ·exact⟨_,e2,trivial⟩
    exact lt e
   rw[AX this];exact hb'
 done:=by
  intro X hP hw hK hc i pins s σ H E I hf st hg;subst hP hw hK;obtain⟨xs,ys,hx,hy,hi⟩:=hg;obtain⟨j,r1,J,z1⟩:=I.list hx;obtain⟨g,r2,G,z2⟩:=I.list hy;have n1:=r1.length;have n2:=r2.length;obtain⟨B,l,f,h1,h2⟩:=st;have Wk:=OY (prog:=X.prog) (w:=X.w) (A:=X.A) (I.ok.hd hc) z TI TO y u Y U D j.toArray g.toArray;have hi':i=min j.toArray.size g.toArray.size:=by simp only[Yn];omega
  subst hi';refine Wk.done s _ _ ⟨B,l,f,h1,h2,J.isList,G.isList⟩ λh' tk hk=>⟨rfl,Inv.turneds I hf λb o n e=>hk b o (λhc=>n ?_) e⟩;simp only[Yo,Qd,or_false]at hc ⊢;rcases hc with h | h | h | h <;> simp[h]
 self:=λA i s Q E st h=>wpAny_pyIter_zip st.1 h
def eo(K:PySem.W.Frag)(ta:TA):TI:=λσ H R=>ta σ H λvs H1=>∃ a b xs ys,vs=[.ref a,.ref b]/\SqL K H1 a xs/\SqL K H1 b ys/\R (Itz K a b) H1
variable {b:Expr}
theorem er{j:List Expr}(S:Gl X "zip")(L:X.mg "zip"=none)(N:PA X [a,b] ta)(F:starEach [a,b] X.env=[(false,eval a X.env),(false,eval b X.env)])(f:starEach [b] X.env=[(false,eval b X.env)]):
  PI X (.Tuple j k tpos) (.Call (.Name "zip" p) [a,b] [] pos) (eo X.K ta):=by
 intro pins s σ H R I h;refine Call_ (CC I S L boot_zip (Qh (thn (N pos pins s σ H _ I h) λY l n=>?_) (by rw[F,f]) (by rw[f];rfl)));obtain⟨T,H1,i,r1,q1⟩:=n;obtain⟨G,E,xs,ys,e,B,P,q⟩:=q1;subst e;obtain⟨u,U,rfl,Q,r⟩:=JB r1;cases Q;cases r;obtain⟨z,_,g,_⟩:=i.list B;obtain⟨x,_,d,_⟩:=i.list P;have O:G < l.heap.objs.size:=by obtain⟨_,e,_⟩:=g.isList;exact Qn e
 have A:E < l.heap.objs.size:=by obtain⟨_,e,_⟩:=d.isList;exact Qn e
 refine call_zip_2 g.isList d.isList λh' w v o t m J D=>wpAny_pyIter_zip w ?_;refine⟨_,_,_,_,H1,rfl,i.kept (t':=l.toks) D,ej (zipApart_new O A),⟨w,v,⟨_,_,o⟩,t,m⟩,λb y=>?_,q⟩
 have c:l.heap.objs.size<=b:=by
  simp only[Yo,Qd,or_false]at y;rcases y with rfl | rfl | rfl | rfl | rfl
  ·exact Nat.le_add_right _ 4
  ·exact Nat.le_add_right _ 2
  ·exact Nat.le_add_right _ 3
  ·exact Yr _
  ·exact Nat.le_add_right _ 1
 exact i.fpOk c (i.hok.fresh c)
def rdL(G:Hw)(w:W):Option (List W):=match w with
 | .rol xs=>some xs
 | .ref a=>(match G a with | some (.lst xs)=>some xs | _=>none)
 | _=>none
theorem DF{G:Hw}{w:W}{xs:List W}{v:V}(r:RelH K H G)(t:Tr K H v w)(e:rdL G w=some xs):∃ a vs,v=.ref a/\SqL K H a vs/\TrL K H vs xs:=by
 cases t with
 | rol h l=>cases e;exact⟨_,_,rfl,h.sq,l⟩
 | ref a =>
  unfold rdL at e;dsimp only at e;cases z:G a with
  | none=>rw[z]at e;cases e
  | some o =>
   rw[z]at e;cases o with
   | lst ys=>cases e;obtain⟨vs,c,d⟩:=r a _ z;exact⟨a,vs,rfl,SqL.of c,d⟩
   | exc C=>cases e
   | ins C fs=>cases e
   | dct b=>cases e
 | _=>cases e
def B8:List W->List W->List W
 | x::xs,y::ys=>.tup [x,y]::B8 xs ys
 | _,_=>[]
theorem Kf:∀(xs ys:List W),(B8 xs ys).length=min xs.length ys.length
 | [],_=>by simp[B8]
 | _::_,[]=>by simp[B8]
 | _::xs,_::ys=>by simp only[B8,Yg,Kf xs ys];omega
theorem OZ:∀(xs ys:List W)(i:Nat){x y:W},xs[i]?=some x->ys[i]?=some y->(B8 xs ys)[i]?=some (.tup [x,y])
 | [],_,_,_,_,h,_=>by simp at h
 | _::_,[],_,_,_,_,h=>by simp at h
 | a::xs,b::ys,0,x,y,h,h'=>by simp at h h';subst h;subst h';rfl
 | a::xs,b::ys,i+1,x,y,h,h'=>by
  have:=OZ xs ys i (x:=x) (y:=y) (by simpa using h) (by simpa using h');simpa[B8]using this
def Bz(gs:GA):GI:=λω G R=>gs ω G λws G1=>match ws with
 | [x,y]=>(match rdL G1 x,rdL G1 y with
  | some xs,some ys=>R (B8 xs ys) (λG=>rdL G x=some xs/\rdL G y=some ys) G1
  | _,_=>False)
 | _=>False
theorem O0{gs:GA}{R:List W->(Hw->Prop)->Hw->Prop}{b:List W}{a:Hw}(z:match b with
 | [x,y]=>(match rdL a x,rdL a y with
  | some xs,some ys=>R (B8 xs ys) (λG=>rdL G x=some xs/\rdL G y=some ys) a
  | _,_=>False)
 | _=>False):∃ x y xs ys,b=[x,y]/\rdL a x=some xs/\rdL a y=some ys/\R (B8 xs ys) (λG=>rdL G x=some xs/\rdL G y=some ys) a:=by
 split at z
 ·rename_i x y;split at z
  ·rename_i xs ys c d;exact⟨x,y,xs,ys,rfl,c,d,z⟩
  ·exact z.elim
 ·exact z.elim
theorem et(m:gs.M):GI.M (Bz gs):=λω G R d h q=>m _ _ _ _ (λc e z=>by
 obtain⟨x,y,xs,ys,rfl,a,b,z⟩:=O0 (gs:=gs) z;dsimp only;rw[a,b];exact h _ _ _ z) q
theorem eu{s:List Expr}(hm:X.mg "zip"=none)(hg:Gl X "zip")(hs:starEach [a,b] X.env=[(false,eval a X.env),(false,eval b X.env)])(B:starEach [b] X.env=[(false,eval b X.env)])(D:Am X [a,b] gs):
  Im X (.Tuple s k tpos) (.Call (.Name "zip" p) [a,b] [] pos) (Bz gs):=by
 refine⟨⟨_,er hg hm D.p hs B,λσ H ω G R R0 ts r q kk=>⟨ω,G,ts,r,D.m _ _ _ _ (λws G1 z vs H1 m t r1=>?_) q⟩⟩,et D.m⟩;obtain⟨x,y,xs,ys,rfl,Y,P,z⟩:=O0 (gs:=gs) z;cases t with
 | cons w t =>
  cases t with
  | cons ty t =>
   cases t;obtain⟨a1,F,rfl,I,l1⟩:=DF r1 w Y;obtain⟨Z,N,rfl,E,l2⟩:=DF r1 ty P;refine⟨a1,Z,F,N,rfl,I,E,kk _ _ _ H1 _ z m r1 ⟨Y,P⟩ ⟨λi u O f e g3 hi=>?_,λi u O v H4 f e g3 y3 hi=>?_,λu O f e g3=>?_⟩⟩
   ·obtain⟨S,c,l,o,h⟩:=DF e (w.mono f) g3.1;obtain⟨Q,d,j,g,n⟩:=DF e (ty.mono f) g3.2;cases l;cases j;rw[Kf]at hi;exact⟨c,d,o,g,by rw[h.length];omega,by rw[n.length];omega⟩
   ·obtain⟨S,c,l,o,h⟩:=DF e (w.mono f) g3.1;obtain⟨Q,d,j,g,n⟩:=DF e (ty.mono f) g3.2;cases l;cases j;obtain⟨T,v1,v2,U,rfl,rfl,hv⟩:=y3;obtain⟨g1,g2⟩:=hv _ _ o g;obtain⟨w1,q1,A⟩:=h.get' g1;obtain⟨w2,q2,J⟩:=n.get' g2;have L:Mono X.K u (upd u T (.tup [v1,v2])):=Mono.new U _;exact⟨L,e.mono0 U,_,OZ _ _ i q1 q2,.tup (SqT.of BL) (.cons (A.mono L) (.cons (J.mono L) .nil))⟩
   ·obtain⟨S,c,l,o,h⟩:=DF e (w.mono f) g3.1;obtain⟨Q,d,j,g,n⟩:=DF e (ty.mono f) g3.2;cases l;cases j;exact⟨c,d,o,g,by rw[Kf,h.length,n.length]⟩
theorem eA:bootBuiltins "len"=some (.builtin "len"):=by decide +kernel
theorem Ei:bootBuiltins "all"=some (.builtin "all"):=by decide +kernel
theorem O1:bootBuiltins "any"=some (.builtin "any"):=by decide +kernel
theorem O2:bootBuiltins "sum"=some (.builtin "sum"):=by decide +kernel
theorem O3:bootBuiltins "list"=some (.type "list"):=by decide +kernel
theorem DG:bootBuiltins "tuple"=some (.type "tuple"):=by decide +kernel
theorem O4:bootBuiltins "int"=some (.type "int"):=by decide +kernel
theorem eB:bootBuiltins "str"=some (.type "str"):=by decide +kernel
theorem eD:bootBuiltins "bool"=some (.type "bool"):=by decide +kernel
theorem Kg:bootBuiltins "dict"=some (.type "dict"):=by decide +kernel
theorem eE:bootBuiltins "ValueError"=some (.type "ValueError"):=by decide +kernel
section
variable {X:Cx} {P:Hp->Prop} {a b c e:Expr} {es:List Expr} {pos pos' p:Pos} {ga gb ge:GE} {gt:GT}
variable {x:Str}{i:Nat}
theorem eF(hi:X.N[i]?=some x)(a:seen X.env.scope x=true)(hd:(x==("__debug__":Str))=false)(hc:(x==("__classdict__":Str))=false):Em X (.Name x pos) (Ab i):=⟨bg hi (Oj a) hd hc,bf⟩
theorem FG(c:X.N.Nodup)(hi:X.N[i]?=some x)(b:Fw X.env.scope x=true)(d:swapsWith e (some (.Name x pos')) pos.line X.env=pure false)(a:Em X e ga):Sm X P (.Assign [.Name x pos'] e pos) (An i ga):=
 ⟨N5 c hi (.inl (Fy b)) a.m a.p d (.inr (Fy b)),N4 a.m⟩
theorem eG{n:Nat}(c:X.N.Nodup)(hi:X.N[n]?=some x)(b:Fw X.env.scope x=true)(a:Em X e ga):Sm X P (.AugAssign (.Name x pos') .Add e pos) (Bf n Bg ga):=
 ⟨dw (OpR.or Zp ZJ) OF dy c hi (.inl (Fy b)) (.inr (Fy b)) a.m a.p,dv OF a.m⟩
def Glb(K:PySem.W.Frag)(mg:Str->Option Value)(x:Str)(w:W):Prop:=∃ v u,mg x=some u/\RelV v u/\∀ H,Tr K H v w
theorem Ej{w:W}(h:Glb X.K X.mg x w)(a:Gl X x)(hd:(x==("__debug__":Str))=false):Em X (.Name x pos) (gC w):=
 let⟨_,_,h1,h2,h3⟩:=h
 ⟨N1 a h1 h2 h3 hd,EQ⟩
structure Fm(X:Cx)(ifs:List Expr)(g:GT):Prop where
 p:PFw X ifs g
 m:g.M
theorem BH:Fm X [] AM:=⟨cA,cz⟩
theorem eH(h:Tm X c gt):Fm X [c] gt:=⟨cB h.p,h.m⟩
theorem B0{elt:Expr}{Nc:List Str}{b:GG}(hc:X.calm=true)(B:Blk X Nc scope [] (λ_=>List.replicate Nc.length none))(h:∀ x,foldedSetIterable iter X.env x=pure x)(hi:Im X tg iter gi)
  (e:TgU X Nc scope tg b) (c:∀ C a s H,Fm (cxB X Nc scope [] C a s H) ifs gt) (d:∀ C a s H,Em (cxB X Nc scope [] C a s H) elt ge):Em X (.ListComp elt [⟨tg,iter,ifs,0⟩] scope pos) (AF gi Nc.length b gt ge):=
 have g:gt.M:=(c 0 [] X.s₀ X.H₀).m
 have f:ge.M:=(d 0 [] X.s₀ X.H₀).m
 ⟨cF hc hi.p B e g (λC a s H=>(c C a s H).p) f (λC a s H=>(d C a s H).p) h,cy hi.m e.mono g f⟩
theorem DH:DA X (λ_ _ _=>False):=(by rintro pins σ H s ev s' I ⟨e,C,H',d,F,a,ω,G,c,b,r,q⟩;exact q.elim)
variable {A:Around}
theorem Ba(a:Room k A):A.units+100 < cLine:=by have:=a.un;omega
theorem eI{j:Nat}{e:Option Value}(a:Room k A)(h:j<=k):GF j (A.mark e):=⟨by have:=a.dp;show A.depth+3*j+5 < recursionLimit;omega,by have:=a.un;show A.units+16*j+200 < cLine;omega⟩
end
def BB:List (Str×Int)->Str->W
 | [],_=>.non
 |(x,i)::D,z=>if z=x then .int i else BB D z
def Kh(mg:Str->Option Value)(base:Heap)(x:Str)(D:List (Str×Int)):Prop:=∃ d,mg x=some (.ref d)/\KTD.TextTab base d (D.map λp=>(p.1,KTD.Dat.flat (.int p.2)))
theorem O5:∀{D:List (Str×Int)}{z:Str}{d:KTD.Dat},KTD.datumAt z (D.map λp=>(p.1,KTD.Dat.flat (.int p.2)))=some d->∃ i,d=.flat (.int i)/\BB D z=.int i
 | [],_,_,h=>by cases h
 |(x,i)::D,z,d,h=>by
  have h':(if decide (z=x)=true then some (KTD.Dat.flat (.int i))else KTD.datumAt z (D.map λp=>(p.1,KTD.Dat.flat (.int p.2))))=some d:=h;unfold BB;by_cases a:z=x
  ·rw[if_pos (YI a)]at h';cases h';exact⟨i,rfl,if_pos a⟩
  ·rw[if_neg (by simpa using a)]at h';rw[if_neg a];exact O5 h'
theorem O6:∀{D:List (Str×Int)}{z:Str},KTD.datumAt z (D.map λp=>(p.1,KTD.Dat.flat (.int p.2)))=none->BB D z=.non
 | [],_,_=>rfl
 |(x,i)::D,z,h=>by
  have h':(if decide (z=x)=true then some (KTD.Dat.flat (.int i))else KTD.datumAt z (D.map λp=>(p.1,KTD.Dat.flat (.int p.2))))=none:=h;unfold BB;by_cases a:z=x
  ·rw[if_pos (YI a)]at h';cases h'
  ·rw[if_neg (by simpa using a)]at h';rw[if_neg a];exact O6 h'
def Cg(D:List (Str×Int))(gk:GE):GE:=λω G Q=>gk ω G λw G1=>match w with | .str z=>Q (BB D z) G1 | _=>False
theorem eJ{x:Str}{D:List (Str×Int)}{e:Expr}{j apos cpos:Pos}(h:Kh X.mg X.base x D)(hg:Gl X x)(hd:(x==("__debug__":Str))=false)(c:attributeBase (.Name x j) "get" X.env (eval (.Name x j) X.env)=eval (.Name x j) X.env)
  (g:((backTo cpos (starEach [e] X.env)).all (λx=>!x.1)&&(backToKw cpos (keywordEach [] X.env)).all (λx=>x.1.isSome)&&decide ([e].length+([]:List Keyword).length+(if([]:List Keyword).isEmpty then 0 else 1) < 30))=true)
  (f:(apos.endLine==cpos.line)=true) (B:starEach [e] X.env=(false,eval e X.env)::starEach [] X.env) (hplain:(backTo cpos (starEach [] X.env)).any (·.1)=false) (l:Em X e gk):
  Em X (.Call (.Attribute (.Name x j) "get" apos) [e] [] cpos) (Cg D gk):=by
 refine⟨λpins s σ H Q I⟨ω,G,S,r,q⟩=>?_,λω G Q Q' Z q=>l.m _ _ _ _ (λw L z=>by cases w <;> first | exact Z _ _ z | exact z) q⟩;obtain⟨d,P,T⟩:=h;have b:KTD.Here X.base s.heap d (D.map λp=>(p.1,KTD.Dat.flat (.int p.2))):=⟨T,I.bk⟩;refine wpAny_Call_method_late c g f rfl (EI I hg P ⟨"dict","dict.get",PySem.F.plainAttrs_dict,PySem.F.slot_dict_get,PySem.F.type_dict_get,b.typeIs,b.noDict,?_⟩ hd);have pa:PA X [e] (EL (up X.K gk) Gv):=EM l.p Gw B
 have o:=pa cpos pins s σ H (λA H1=>∃ z,A=[.str z]/\∀ v,Tr X.K H1 v (BB D z)->Q v H1) I ⟨ω,G,S,r,l.m _ _ _ _ (λw L z v H1 m t r1=>by
  cases w with
  | str y=>exact⟨y,by rw[bJ t],λv tv=>z v H1 m tv r1⟩
  | _=>exact z.elim) q⟩
 rw[B]at o ⊢;refine Calls.callWith_builtin (by show(false||(backTo cpos (starEach [] X.env)).any (·.1))=false;rw[hplain] <;> rfl) (Calls.evalArgs_plain ?_);refine thn o λus U n=>?_;obtain⟨A,H2,k,E,z,e1,q2⟩:=n;subst e1;obtain⟨u,rfl,Y⟩:=CO E;obtain⟨t,rfl⟩:=Y;have a:KTD.Here X.base U.heap d (D.map λp=>(p.1,KTD.Dat.flat (.int p.2))):=⟨T,k.bk⟩;refine call_meetsIn PySem.F.slot_dict_get a.typeIs PySem.F.entry_dict_get (PySem.F.args_dict_get_2 _ _) (KTD.meets_get1 (h₀:=X.base) (D:=D.map λp=>(p.1,KTD.Dat.flat (.int p.2)))) ⟨a,λdd v R N=>?_,λO=>?_⟩
 ·obtain⟨i,rfl,J⟩:=O5 R;obtain⟨t2,rfl⟩:=PyProof.V.Flat.int_inv N;exact⟨.int i,H2,k.tok _,⟨_,rfl⟩,q2 _ (by rw[J];exact .int i)⟩
 ·exact⟨.non,H2,k.tok _,rfl,q2 _ (by rw[O6 O];exact .non)⟩
def Fn(K:PySem.W.Frag)(mg:Str->Option Value)(st:Stmt)(x:Str)(ps:List Str):Prop:=∃ f fd,mg x=some (.ref f)/\Fun K x x st f fd/\Binds K fd ps []
section
variable {P:Program} {w:World} {mg:Str->Option Value} {base:Heap}
variable {x:Str}{n:Nat}{sp:Spw}
theorem Df.le{j:Nat}(D:Df P w K mg base x j n sp)(h:j<=k):Df P w K mg base x k n sp :=
 ⟨let⟨f,fd,ps,h1,h2,h3,h4,F⟩:=D.ex;⟨f,fd,ps,h1,h2,h3,h4,F.mono h⟩,D.mono⟩
variable {st:Stmt}{N ps:List Str}{g:GS}
theorem mk0(Fx:Fn K mg st x ps)(i:ps.length=n)(S:Az N ps (Aq st))(d:sp.M)(len:∀ c G Q E,sp c G Q E->c.length=n)
  (J:∀{f:Addr}{cdv:Value}{A:Around}{outer:List Env}{s:Shared}{H:Hp}{E:XK},Room k (A.deeper (envOfC x (Aq st) s.heap.objs.size f cdv))->Ssm (cxW P w K mg base N x (Aq st) f cdv A outer s H E).nox (λB=>B=H) (Bn st) g)
  (ok:∀ c G(Q:Kw)(E:Addr->Hw->Prop),Kw.C Q->sp c G Q E->g (Ar Q) (AU N c) G):Df P w K mg base x (k+1) n sp:=by
 obtain⟨f,fd,h1,F,l⟩:=Fx;refine⟨⟨f,fd,ps,h1,F.kp,l,i,?_⟩,d⟩;obtain⟨T,L,kV,I,pm,R,cdv,ct,u,rfl,y,e⟩:=F.ex;refine Gx y e S ((by rintro v H Q E ⟨c,G,t,r,q⟩;rw[t.length,i];exact len c G _ _ q)) λA outer s H v Q E j h=>?_;obtain⟨c,G,t,r,q⟩:=h;have D:=J (cdv:=cdv) (outer:=outer) (H:=H) (E:=E) j;refine⟨_,(D.p H rfl).nox,AU N c,G,GK t,r,.refl,?_⟩;exact D.m _ _ (Ar (dn K H Q)) _ (λa b z σ H2 m O o=>z _ H2 m Tr.non o) (λa b z=>z) (λa b z=>z.elim) (λa b z=>z.elim) (ok c G _ _ GL q)
theorem mkX{g:(Addr->Hw->Prop)->GS}(Fx:Fn K mg st x ps)(i:ps.length=n)(S:Az N ps (Aq st))(d:sp.M)(len:∀ c G Q E,sp c G Q E->c.length=n)
  (J:∀{f:Addr}{cdv:Value}{A:Around}{outer:List Env}{s:Shared}{H:Hp}{E:XK},Room k (A.deeper (envOfC x (Aq st) s.heap.objs.size f cdv))->Ssm (cxW P w K mg base N x (Aq st) f cdv A outer s H E) (λB=>B=H) (Bn st) (g (dnX K H E)))
  (ok:∀ c G(Q:Kw)(E:Addr->Hw->Prop),Kw.C Q->Xc E->sp c G Q E->g E (Ar Q) (AU N c) G):Df P w K mg base x (k+1) n sp:=by
 obtain⟨f,fd,h1,F,l⟩:=Fx;refine⟨⟨f,fd,ps,h1,F.kp,l,i,?_⟩,d⟩;obtain⟨T,L,kV,I,pm,R,cdv,ct,u,rfl,y,e⟩:=F.ex;refine Gx y e S ((by rintro v H Q E ⟨c,G,t,r,q⟩;rw[t.length,i];exact len c G _ _ q)) λA outer s H v Q E j h=>?_;obtain⟨c,G,t,r,q⟩:=h;have D:=J (cdv:=cdv) (outer:=outer) (H:=H) (E:=E) j;refine⟨_,D.p H rfl,AU N c,G,GK t,r,.refl,?_⟩;exact D.m _ _ (Ar (dn K H Q)) _ (λa b z σ H2 m O o=>z _ H2 m Tr.non o) (λa b z=>z) (λa b z=>z.elim) (λa b z=>z.elim) (ok c G _ _ GL bw q)
theorem mkN(Fx:Fn K mg st x ps)(i:ps.length=n)(S:Az N ps (Aq st))(d:sp.M)(len:∀ c G Q E,sp c G Q E->c.length=n)
  (I:∀{f:Addr}{cdv:Value}{A:Around}{outer:List Env}{s:Shared}{H:Hp},Ssm (cxN P w K mg base N x (Aq st) f cdv A outer s H) (λB=>B=H) (Bn st) g)
  (ok:∀ c G(Q:Kw)(E:Addr->Hw->Prop),Kw.C Q->sp c G Q E->g (Ar Q) (AU N c) G):DfN P w K mg base x (k+1) n sp:=by
 obtain⟨f,fd,h1,F,j⟩:=Fx;refine⟨⟨f,fd,ps,h1,F.kp,j,i,?_⟩,d⟩;obtain⟨R,J,kV,y,pm,O,cdv,ct,o,rfl,v,e⟩:=F.ex;refine bc v e S ((by rintro u H Q E ⟨c,G,t,r,q⟩;rw[t.length,i];exact len c G _ _ q)) λA outer s H u Q E h=>?_;obtain⟨c,G,t,r,q⟩:=h;have D:=I (f:=f) (cdv:=cdv) (A:=A) (outer:=outer) (s:=s) (H:=H);refine⟨_,D.p H rfl,AU N c,G,GK t,r,.refl,?_⟩;exact D.m _ _ (Ar (dn K H Q)) _ (λa b z σ H2 m L l=>z _ H2 m Tr.non l) (λa b z=>z) (λa b z=>z.elim) (λa b z=>z.elim) (ok c G _ _ GL q)
end
end L3
namespace L3
open PySem PySem.Spec PyProof.Rows L2
def Bh{α:Type}(n:Nat)(js:List Nat)(l:List (Option α)):List (Option α):=List.replicate n none++js.map λj=>(l[j]?).getD none
variable {n:Nat}{js:List Nat}
theorem Ki{α:Type}{l:List (Option α)}:(Bh n js l).length=n+js.length:=by simp[Bh]
variable {i:Nat}
theorem O7{α:Type}{l:List (Option α)}{v:α}(h:(Bh n js l)[i]?=some (some v)):∃ m j,i=n+m/\js[m]?=some j/\l[j]?=some (some v):=by
 unfold Bh at h;by_cases hi:i < n
 ·rw[YK (by simpa using hi),List.getElem?_replicate]at h;split at h <;> cases h
 ·rw[List.getElem?_append_right (by simpa using Nat.le_of_not_lt hi),List.length_replicate,YT]at h;cases a:js[i - n]? with
  | none=>rw[a]at h;cases h
  | some j =>
   rw[a]at h;refine⟨i - n,j,by omega,a,?_⟩;have h':(l[j]?).getD none=some v:=YF h;cases e:l[j]? with
   | none=>rw[e]at h';cases h'
   | some o=>rw[e]at h';exact congrArg some h'
variable {j:Nat}
theorem eK{α:Type}{m:Nat}{l:List (Option α)}{v:α}(h1:js[m]?=some j)(h2:l[j]?=some (some v)):(Bh n js l)[n+m]?=some (some v):=by
 unfold Bh;rw[List.getElem?_append_right (by simp),List.length_replicate,YT];have:n+m - n=m:=by omega
 rw[this,h1];show some ((l[j]?).getD none)=_;rw[h2];rfl
variable {K:PySem.W.Frag}
theorem TrSt.cap{H:Hp}(t:TrSt K H σ ω)(n:Nat)(js:List Nat):TrSt K H (Bh n js σ) (Bh n js ω):=by
 refine⟨by rw[Ki,Ki],λi w e=>?_⟩;obtain⟨m,j,rfl,h1,h2⟩:=O7 e;obtain⟨v,a,r⟩:=t.get j w h2;exact⟨v,eK h1 a,r⟩
def C6(env:Env):List (Str×NameKind)->List (Str×Addr)->List (Str×Addr)
 | [],cs=>cs
 |(n,k)::r,cs=>C6 env r (if k=.free then(n,(env.cells.lookup n).getD 0)::cs else cs)
theorem O8{env:Env}:∀(l:List (Str×NameKind))(a:List (Str×Addr)),(∀ y∈l,y.2=.free->∃ c,env.cells.lookup y.1=some c)->
  (forIn l a λ(x:Str×NameKind)r=>if(x.2==NameKind.free)=true then do let c <- cellOf env x.1;pure (ForInStep.yield ((x.1,c)::r))else pure (ForInStep.yield r):Sem (List (Str×Addr)))=pure (C6 env l a)
 | [],a,_=>by simp[C6]
 |(n,k)::r,a,h=>by
  have d:=λa=>O8 r a λy f=>h y (Yd _ f);rw[List.forIn_cons];by_cases b:k=.free
  ·obtain⟨c,hc⟩:=h (n,k) Ye b;subst b;have e:cellOf env n=pure c:=by unfold cellOf;rw[hc]
   simp only[beq_self_eq_true,if_true,e,pure_bind,C6,hc,Option.getD_some];exact d _
  ·have:(k==NameKind.free)=false:=by simpa using b
   simp only[this,Yq,if_false,pure_bind,C6,b];exact d _
theorem O9{env:Env}{y:Str}{c:Addr}:∀(l:List (Str×NameKind))(a:List (Str×Addr)),(C6 env l a).lookup y=some c->a.lookup y=some c\/((y,NameKind.free)∈l/\c=(env.cells.lookup y).getD 0)
 | [],a,h=>.inl h
 |(n,k)::r,a,h=>by
  rcases O9 r _ h with q |⟨q1,q2⟩
  ·split at q
   ·rename_i b;subst b;rw[List.lookup_cons]at q;split at q
    ·rename_i e;have d:y=n:=beq_iff_eq.mp e;subst d;exact .inr ⟨Ye,(YF q).symm⟩
    ·exact .inl q
   ·exact .inl q
  ·exact .inr ⟨Yd _ q1,q2⟩
theorem Pa{env:Env}{y:Str}:∀(l:List (Str×NameKind))(a:List (Str×Addr)),(∃ c,a.lookup y=some c)->∃ c,(C6 env l a).lookup y=some c
 | [],a,h=>h
 |(n,k)::r,a,h=>Pa r _ (by
  split
  ·rw[List.lookup_cons];split
   ·exact⟨_,rfl⟩
   ·exact h
  ·exact h)
theorem Pc{env:Env}{y:Str}:∀(l:List (Str×NameKind))(a:List (Str×Addr)),(y,NameKind.free)∈l->∃ c,(C6 env l a).lookup y=some c
 | [],a,h=>by cases h
 |(n,k)::r,a,h=>by
  rcases Yo.mp h with h | h
  ·cases h;refine Pa r _ ⟨(env.cells.lookup y).getD 0,?_⟩;rw[if_pos rfl,List.lookup_cons,beq_self_eq_true]
  ·exact Pc r _ h
variable {scope:Scope}{y:Str}
theorem Pd{env:Env}{k:NameKind}(nocell:∀ z∈scope.names,z.2≠.cell)(h:(relabel scope env).names.lookup y=some k)(b:k=.cell\/k=.free):(y,NameKind.free)∈scope.names:=by
 have m:=JN h;unfold relabel at m;obtain⟨⟨n,c⟩,a,e⟩:=YC.mp m;dsimp only at e;split at e
 ·rename_i hc;cases e;simp only[YH,beq_iff_eq]at hc;rw[hc.1.1]at a;exact a
 ·cases e;rcases b with rfl | rfl
  ·exact absurd rfl (nocell _ a)
  ·exact a
theorem Pe{env:Env}(f:env.scope.kind=.function):∀{names:List (Str×NameKind)}{x:Str},names.lookup x=some .free->env.kindOf x=some .cell->
  (names.map λ(n,k)=>if(k==NameKind.free&&env.scope.kind==.function&&env.kindOf n==some .cell)then(n,NameKind.cell)else(n,k)).lookup x=some .cell
 | [],_,h,_=>by cases h
 |(n,k)::r,x,h,a=>by
  rw[List.lookup_cons]at h;rw[Ym];split at h
  ·rename_i e;have i:x=n:=beq_iff_eq.mp e;subst i;cases h;have c:(NameKind.free==NameKind.free&&env.scope.kind==ScopeKind.function&&env.kindOf x==some NameKind.cell)=true:=by rw[f,a];rfl
   dsimp only;rw[if_pos c,List.lookup_cons,beq_self_eq_true]
  ·rename_i e;have g:=Pe f (names:=r) h a;rw[List.lookup_cons]
   have d:(x==(if(k==NameKind.free&&env.scope.kind==ScopeKind.function&&env.kindOf n==some NameKind.cell)=true then(n,NameKind.cell)else(n,k)).1)=false:=by
    split <;> exact e
   dsimp only at d ⊢;split
   ·rename_i b;rw[d]at b;cases b
   ·exact g
variable {X:Cx}
theorem FH{own fr:List Str}{scX:Scope}(kind:scope.kind=.function)(names:∀ x∈scope.names,x.2=.local->scope.names.lookup x.1=some .local)(nocell:∀ y∈scope.names,y.2≠.cell)
  (t:∀ y∈scope.names,y.2=.free->y.1∈fr) (u:∀ y∈fr,scope.names.lookup y=some .free) (d:X.env.scope=scX) (k:scX.kind=.function) (f:X.env.cells=cellsFrom n scX.names []) (r:∀ y∈fr,scX.names.lookup y=some .cell)
  (s:js.map (λj=>X.N[j]?)=fr.map some):Blk X (own++fr) scope (C6 X.env scope.names []) (Bh own.length js):=by
 have b:∀ y∈fr,∃ c,X.env.cells.lookup y=some c:=λy a=>by
  rw[f];exact JC (r y a)
 have g:js.length=fr.length:=by have:=congrArg List.length s;simpa using this
 refine⟨?_,kind,names,nocell,λy c h=>?_,λy h=>?_,λσ i y v h1 h2 B=>?_,λσ=>by rw[Ki,Yj,g]⟩
 ·have:=O8 (env:=X.env) scope.names [] λy a o=>b _ (t y a o);unfold closureFor;simp only[bind_pure];exact this
 ·rcases O9 _ _ h with q |⟨q1,q2⟩
  ·cases q
  ·obtain⟨D,e⟩:=b y (t _ q1 rfl);rw[e]at q2 ⊢;exact congrArg some q2.symm
 ·refine Pc _ _ ?_;rcases h with h | h
  ·exact Pd nocell h (.inl rfl)
  ·exact Pd nocell h (.inr rfl)
 ·obtain⟨m,j,rfl,A,w⟩:=O7 h2;rw[List.getElem?_append_right (by omega)]at h1;have:own.length+m - own.length=m:=by omega
  rw[this]at h1;have a:y∈fr:=List.mem_of_getElem? h1;have q:=congrArg (λl=>l[m]?) s;simp only[YT,A,h1,YE]at q;have p:X.env.scope.names.lookup y=some .cell:=by rw[d];exact r y a
  refine⟨.inl (Pe (by rw[d];exact k) (u y a) p),.inr (.inl p),(by rw[p];intro z;cases z),j,YF q,w⟩
def BA(gi:GI)(n:Nat)(js:List Nat)(gg:GG)(gt:GT)(ge:GE):GE:=λω G Q=>gi ω G λws gd G1=>Be gd gg gt ge (λys G2=>∀ p,G2 p=none->Q (.ref p) (put G2 p (.lst ys))) ws (Bh n js ω) G1 []
variable {gi:GI}{gt:GT}{ge:GE}
theorem eL{a:GG}(b:gi.M)(mg:a.M)(e:gt.M)(d:ge.M):GE.M (BA gi n js a gt ge):=λω G Q g h q=>
 b _ _ _ _ (λf i j z=>GQ mg e d (λys k z p c=>h _ _ (z p c)) _ _ _ _ z) q
theorem eM{v:GG}{wi:TI}{g:TG}(S:∀(σ:St)(H:Hp)(ω:Sw)(G:Hw)(R:List W->(Hw->Prop)->Hw->Prop)(R0:It->Hp->Prop),TrSt X.K H σ ω->RelH X.K H G->gi ω G R->
   (∀ a gd u H1 J,R a gd u->Mono X.K H H1->RelH X.K H1 u->gd u->D9 X.K H1 J a gd->R0 J H1)->wi σ H R0)
  (O:∀(x:V)(w:W)(σ:St)(ω:Sw)(H:Hp)(G:Hw)(Q:St->Hp->Prop),Tr X.K H x w->TrSt X.K H σ ω->RelH X.K H G->v w ω G (dnS X.K H Q)->g x σ H Q) (mg:v.M) (mt:gt.M) (me:ge.M) (σ:St) (H:Hp) (Q:VK) (h:up X.K (BA gi n js v gt ge) σ H Q):
  JO wi (Bh n js) g (upT X.K gt) (up X.K ge) σ H Q:=by
 obtain⟨ω,G,Z,r,q⟩:=h;refine S σ H ω G _ _ Z r q λa gd u H1 J z T r1 hgd I=>?_
 refine⟨λi m σ' H' U=>m=a.length - i/\i<=a.length/\Mono X.K H1 H'/\∃ ω' l ys,TrSt X.K H' σ' ω'/\RelH X.K H' l/\TrL X.K H' U ys/\Be gd v gt ge (λys k=>∀ p,k p=none->dn X.K H Q (.ref p) (put k p (.lst ys))) (a.drop i) ω' l ys,
  ⟨a.length,by simp,YZ _,.refl,_,u,[],(Z.mono T).cap n js,r1,.nil,by simpa using z⟩,?_⟩
 rintro i m σ' H' U ⟨rfl,hle,j,ω',l,ys,L,r',tv,s⟩;have c:=Oc s;by_cases d:i < a.length
 ·have hw:∃ w,a[i]?=some w:=⟨a[i],by simp[d]⟩;obtain⟨w0,B⟩:=hw
  have ed:a.drop i=w0::a.drop (i+1):=by
   obtain⟨h',e'⟩:=Qc.mp B;rw[<- e'];exact List.drop_eq_getElem_cons h'
  rw[ed]at s
  refine .inr ⟨I.go i H' l j r' c d,by rw[tv.length];exact s.2.1,λσ2 H2 A=>Mono X.K H1 H2/\∃ ω2 k t,TrSt X.K H2 σ2 ω2/\RelH X.K H2 k/\TrL X.K H2 A t/\Be gd v gt ge (λys k=>∀ p,k p=none->dn X.K H Q (.ref p) (put k p (.lst ys))) (a.drop (i+1)) ω2 k t,
   (by rintro σ2 H2 A ⟨y1,y2⟩;exact⟨a.length -(i+1),by omega,rfl,d,y1,y2⟩),λx H2 y=>?_⟩
  obtain⟨E,ry,w,ew,tw⟩:=I.yld i H' l x H2 j r' c y d;have j:=j.trans E;have tv:=tv.mono E;rw[B]at ew;cases ew;refine O x _ σ' ω' _ l _ tw (L.mono E) ry (mg _ _ _ _ _ (λω1 N z1 σ1 H3 D f r3=>?_) s.2.2);refine⟨ω1,N,f,r3,mt _ _ _ _ (λb G4 z4 H4 o Y=>?_) z1⟩;cases b with
  | true=>exact⟨ω1,G4,f.mono o,Y,me _ _ _ _ (λy5 G5 z5 v5 H5 P t5 r5=>⟨((j.trans D).trans o).trans P,ω1,G5,_,(f.mono o).mono P,r5,(((tv.mono D).mono o).mono P).append (.cons t5 .nil),z5⟩) z4⟩
  | false=>exact⟨(j.trans D).trans o,ω1,G4,_,f.mono o,Y,(tv.mono D).mono o,z4⟩
 ·have e:i=a.length:=by omega
  subst e;rw[List.drop_length]at s;exact .inl ⟨I.stop H' l j r' c,λp F=>s.2 p (r'.no F) _ _ ((T.trans j).trans (Mono.new F _)) (.ref p) (r'.new F tv)⟩
structure TgC(X:Cx)(Nc:List Str)(scope:Scope)(cl:List (Str×Addr))(tg:Expr)(gg:GG):Prop where
 ex:∃ g:TG,(∀ C fp s H,PG (cxB X Nc scope cl C fp s H) tg g)/\∀(x:V)(w:W)(σ:St)(ω:Sw)(H:Hp)(G:Hw)(Q:St->Hp->Prop),Tr X.K H x w->TrSt X.K H σ ω->RelH X.K H G->gg w ω G (dnS X.K H Q)->g x σ H Q
 mono:gg.M
variable {x:Str}{p:Pos}
theorem FI{Nc:List Str}(b:Nc.Nodup)(hi:Nc[i]?=some x)(a:scope.names.lookup x=some .local):TgC X Nc scope cl (.Name x p) (gNm i) where
 ex:=⟨C3 i,λC c s H=>CN (X:=cxB X Nc scope cl C c s H) b hi (.inl (lookup_relabel_local a)) (.inr (lookup_relabel_local a)),λx w σ ω H G Q t d r q=>q _ H .refl (d.set i t) r⟩
 mono:=λ_ _ _ _ _ h q=>h _ _ q
def C7(i j k:Nat):GG:=λw ω G Q=>match w with
 | .tup [a,b,c]=>Q (((ω.set i (some a)).set j (some b)).set k (some c)) G
 | _=>False
variable {k:Nat}
theorem eN:GG.M (C7 i j k):=λw ω G Q a h q=>by
 unfold C7 at q ⊢;split
 ·exact h _ _ q
 ·rename_i z;split at q
  ·exact(z _ _ _ rfl).elim
  ·exact q
theorem eO(v:V)(w:W)(σ:St)(ω:Sw)(H:Hp)(G:Hw)(Q:St->Hp->Prop)(t:Tr K H v w)(ts:TrSt K H σ ω)(r:RelH K H G)(q:C7 i j k w ω G (dnS K H Q)):
  L2.Ah K 3 (L2.Aa (C3 i) (L2.Aa (C3 j) (L2.Aa (C3 k) L2.Ac))) v σ H Q:=by
 unfold C7 at q;split at q
 ·cases t with
  | tup h l =>
   cases l with
   | cons ta l =>
    cases l with
    | cons tb l =>
     cases l with
     | cons tc l =>
      cases l;exact⟨_,_,rfl,h,rfl,_,_,rfl,_,_,rfl,_,_,rfl,rfl,q _ H .refl (((ts.set i ta).set j tb).set k tc) r⟩
 ·exact q.elim
section
variable {X:Cx} {P:Hp->Prop} {e:Expr} {pos pos':Pos} {ga ge:GE} {gt:GT}
theorem FJ{elt:Expr}{Nc:List Str}{f:GG}(hc:X.calm=true)(B:Blk X Nc scope cl (Bh n js))(l:∀ x,foldedSetIterable iter X.env x=pure x)(hi:Im X tg iter gi)
  (b:TgC X Nc scope cl tg f) (h:∀ C a s H,Fm (cxB X Nc scope cl C a s H) ifs gt) (i:∀ C a s H,Em (cxB X Nc scope cl C a s H) elt ge):Em X (.ListComp elt [⟨tg,iter,ifs,0⟩] scope pos) (BA gi n js f gt ge):=by
 have k:gt.M:=(h 0 [] X.s₀ X.H₀).m;have j:ge.M:=(i 0 [] X.s₀ X.H₀).m;refine⟨?_,eL hi.m b.mono k j⟩;obtain⟨o,d,hi⟩:=hi.p;obtain⟨g,e,c⟩:=b.ex;exact A7 (NV hc d B e (λC a s H=>(h C a s H).p) (λC a s H=>(i C a s H).p) l) (eM hi c b.mono k j)
def Kj(sc:Scope)(x:Str):Bool:=match sc.names.lookup x with | some .cell=>true | _=>false
theorem eP{a:Scope}(h:Kj a x=true):a.names.lookup x=some .cell:=by
 unfold Kj at h;split at h
 ·assumption
 ·cases h
theorem Pf(f:X.N.Nodup)(hi:X.N[i]?=some x)(b:Kj X.env.scope x=true)(d:X.fn x=true)(c:swapsWith e (some (.Name x pos')) pos.line X.env=pure false)(a:Em X e ga):Sm X P (.Assign [.Name x pos'] e pos) (An i ga):=
 ⟨N5 f hi (.inr (eP b)) a.m a.p c (.inl d),N4 a.m⟩
end
variable {pos:Pos}
theorem eQ{z:Str}{h:Pos}(hc:X.calm=true)(c:X.N.Nodup)(hi:X.N[i]?=some x)(f:Loc X.env.scope x)(m:X.fn x=true\/X.env.scope.names.lookup x=some .local)
  (l:X.N[j]?=some y) (d:Loc X.env.scope y) (b:X.fn y=true\/X.env.scope.names.lookup y=some .local) (g:X.N[k]?=some z) (e:Loc X.env.scope z) (a:X.fn z=true\/X.env.scope.names.lookup z=some .local):
  TgW X (.Tuple [.Name x p,.Name y h,.Name z p2] n pos) (C7 i j k) where
 ex:=⟨_,Jt hc (D4 (CN c hi f m) (D4 (CN c l d b) (D4 (CN c g e a) Js))),eO⟩
 mono:=eN
section
variable {prog:Program} {w:World} {A:Around} {E:Value->Shared->Prop} {s:Shared}
theorem eR{t b:Addr}{h:List Value}{Q:Value->Shared->Prop}(l:IsTup s.heap t #[])(k:IsTup s.heap b h.toArray)(h1:Q (.ref b) s):wpAny (model prog w) A (binaryOp .Add (.ref t) (.ref b)) Q E s:=by
 obtain⟨⟨cls,m,data,o⟩,j,hc,n,hd⟩:=id l;obtain⟨⟨i,g,e,f⟩,a,c,p,d⟩:=id k;simp only at hc hd c d;subst hc hd c d;exact concat_meets ⟨_,j,rfl⟩ ⟨_,a,rfl⟩ noFill_tuple_add seq_tuple_add PySem.F.slot_tuple_add PySem.F.entry_tuple_add (PySem.F.args_tuple_add_2 _ _) (tuple_addW0 t b #[] h.toArray n p m g o f rfl) ⟨j,a,h1⟩
end
def Kk(K:PySem.W.Frag):R2:=λx y H Q=>∃ a b ys,x=.ref a/\y=.ref b/\SqT K H a []/\SqT K H b ys/\Q (.ref b) H
theorem eS:OpR X (binaryOp .Add) (Kk X.K):=by
 intro pins s σ H x y v u Q I g i h;obtain⟨a,b,ys,rfl,rfl,e,d,q⟩:=h;cases g;cases i;obtain⟨f,r1,p1,_⟩:=I.tuple e;obtain⟨c,j,p2,_⟩:=I.tuple d;cases r1;exact eR p1 p2 ⟨.ref b,H,I,rfl,q⟩
def A0:RW2:=λx y G Q=>match x,y with
 | .tup xs,.tup ys=>xs.length+ys.length<=sizeLine/\Q (.tup (xs++ys)) G
 | x,y=>AJ x y G Q
variable {G:Hw}{Q:Kw}
theorem C8{xs ys:List W}:A0 (.tup xs) (.tup ys) G Q=(xs.length+ys.length<=sizeLine/\Q (.tup (xs++ys)) G):=rfl
theorem Ek{x y:W}(a:¬((∃ xs,x=.tup xs)/\∃ ys,y=.tup ys)):A0 x y G Q=AJ x y G Q:=by
 cases x <;> cases y <;> first | rfl | exact absurd ⟨⟨_,rfl⟩,⟨_,rfl⟩⟩ a
theorem Pg:RW2.M A0:=λx y G Q b h q=>by
 by_cases a:(∃ xs,x=.tup xs)/\∃ ys,y=.tup ys
 ·obtain⟨⟨xs,rfl⟩,⟨ys,rfl⟩⟩:=a;exact⟨q.1,h _ _ q.2⟩
 ·rw[Ek a]at q ⊢;exact JV _ _ _ _ _ h q
theorem eT:OpR X (binaryOp .Add) (λx y H Q=>((rI0 λi j=>.int (i+j)) x y H Q\/(∃ i j,x=.str i/\y=.str j/\i.length+j.length<=sizeLine/\Q (.str (i++j)) H)\/Ft x y H Q)\/Kk X.K x y H Q\/JD X.K x y H Q):=OpR.or Oe (OpR.or eS Z6)
theorem eU(x y:W)(v u:V)(G:Hw)(H:Hp)(Q:VK)(m:Tr K H v x)(ty:Tr K H u y)(r:RelH K H G)(q:A0 x y G (dn K H Q)):
  ((rI0 λi j=>.int (i+j)) v u H Q\/(∃ i j,v=.str i/\u=.str j/\i.length+j.length<=sizeLine/\Q (.str (i++j)) H)\/Ft v u H Q)\/Kk K v u H Q\/JD K v u H Q:=by
 by_cases l:(∃ xs,x=.tup xs)/\∃ ys,y=.tup ys
 ·obtain⟨⟨xs,rfl⟩,⟨ys,rfl⟩⟩:=l;rw[C8]at q;cases m with
  | tup h c =>
   cases ty with
   | tup k d =>
    rename_i a o b n;cases c with
    | nil=>exact .inr (.inl ⟨a,b,n,rfl,rfl,h,k,by simpa using q.2 _ H .refl (.tup k d) r⟩)
    | cons f c =>
     refine .inr (.inr ⟨a,b,_,n,rfl,rfl,h,k,by simp,?_,λe=>?_,λe p g=>?_⟩)
     ·rw[(TrL.cons f c).length,d.length];exact q.1
     ·subst e;cases d;have:=q.2 (.ref a) H .refl (by simpa using Tr.tup h (.cons f c)) r;exact this
     ·exact q.2 _ _ (Mono.new g _) (.tup (SqT.of BL) (((TrL.cons f c).append d).mono (Mono.new g _))) (r.mono0 g)
 ·refine .inl (Of x y v u G H Q m ty r ?_);rwa [Ek l]at q
theorem FK{a b:Expr}{ga:GE}(c:Em X a ga)(d:Em X b gb):Em X (.BinOp a .Add b pos) (Ad A0 ga gb):=⟨Dz eT Pg c.m d.m eU c.p d.p,Cb Pg c.m d.m⟩
end L3
namespace L3
open PySem PySem.Spec PyProof.Rows L2
variable {K:PySem.W.Frag} {H H' H2:Hp}
theorem TrP.lookup{α:Type}[BEq α]:∀{vs:List (α×V)}{a:List (α×W)}{f:α}{w:W},TrP K H vs a->a.lookup f=some w->∃ v,vs.lookup f=some v/\Tr K H v w
 | _,_,_,_,.nil,e=>by cases e
 | _,_,f,w,.cons (f:=g) r t,e=>by
  rw[List.lookup_cons]at e ⊢;cases b:f==g with
  | true=>rw[b]at e;cases e;exact⟨_,rfl,r⟩
  | false=>rw[b]at e;exact t.lookup e
theorem TrP.length{α:Type}:∀{vs:List (α×V)}{a:List (α×W)},TrP K H vs a->vs.length=a.length
 | _,_,.nil=>rfl
 | _,_,.cons _ t=>congrArg (·+1) t.length
section
variable {X:Cx} {P:Hp->Prop} {o e value:Expr} {es:List Expr} {f m:Str} {C:Addr} {pos pos' tpos apos p:Pos} {ga gv:GE} {gs:GA} {ex:Xw}
theorem Mono.ins{p C:Addr}{xs:List (Str×V)}(a:H p=some (.ins C dx xs))(o:HO):Mono K H (upd H p o):=Mono.was a _ (λ_ z=>by cases z) (λ_ _ z=>by cases z)
structure DfM(P:Program)(w:World)(K:PySem.W.Frag)(mg:Str->Option Value)(base:Heap)(C:Addr)(m:Str)(k n:Nat)(sp:Spw):Prop where
 ex:∃(f:Addr)(fd:FuncData)(ps:List Str),ZM K C m f/\Binds K fd ps []/\ps.length=n/\FnOk P w K mg base (CXe P w) k f fd ps (DB K sp)
 mono:sp.M
end
section
variable {X:Cx} {P:Hp->Prop} {o e value:Expr} {es:List Expr} {f m:Str} {C:Addr} {pos pos' tpos apos p:Pos} {ga gv:GE} {gs:GA} {ex:Xw}
end
section
variable {P:Program} {w:World} {mg:Str->Option Value} {base:Heap} {C:Addr}
theorem DfM.le{m:Str}{j k n:Nat}{sp:Spw}(D:DfM P w K mg base C m j n sp)(h:j<=k):DfM P w K mg base C m k n sp :=
 ⟨let⟨f,fd,ps,h1,h2,h3,F⟩:=D.ex;⟨f,fd,ps,h1,h2,h3,F.mono h⟩,D.mono⟩
end
end L3
namespace HT
open PySem PySem.Spec PyProof.Rows
section
variable {prog:Program} {w:World} {A:Around} {E:Value->Shared->Prop} {s:Shared}
end
end HT
namespace L3
open PySem PySem.Spec PyProof.Rows L2
variable {K:PySem.W.Frag} {H H' H2:Hp}
section
variable {X:Cx} {a b e:Expr} {ga gb:GE} {pos:Pos}
end
theorem StrsAre.len:∀{vs:List Value}{ys:List Str},StrsAre vs ys->vs.length=ys.length
 | _,_,.nil=>rfl
 | _,_,.cons _ _ r=>congrArg (·+1) (StrsAre.len r)
section
variable {prog:Program} {w:World} {A:Around} {E:Value->Shared->Prop} {s:Shared}
end
def C9:RW2:=λx y G Q=>match x,y with
 | .int i,.int j=>CMul i j/\Q (.int (i*j)) G
 | .str x,.int n=>MulOk x n/\Q (.str (Txt.mul x n)) G
 | .ref a,.int k=>(match G a with
  | some (.lst xs)=>-(2 ^ 63)<=k/\k < 2 ^ 63/\xs.length*k.toNat<=sizeLine/\∀ p,G p=none->Q (.ref p) (put G p (.lst (List.replicate k.toNat xs).flatten))
  | _=>False)
 | _,_=>False
theorem Ph:RW2.M C9:=λx y G Q c h q=>by
 cases x <;> cases y <;> first | exact q | exact⟨q.1,h _ _ q.2⟩| skip
 rename_i a k;unfold C9 at q ⊢;dsimp only at q ⊢;cases e:G a with
 | none=>rw[e]at q;exact q
 | some o =>
  rw[e]at q;cases o <;> first | exact q | exact⟨q.1,q.2.1,q.2.2.1,λp b=>h _ _ (q.2.2.2 p b)⟩
def Pi:R2:=λx y H Q=>∃ z n,x=.str z/\y=.int n/\MulOk z n/\Q (.str (Txt.mul z n)) H
variable {X:Cx}
theorem eV:OpR X (binaryOp .Mult) Pi:=by
 intro pins s σ H x y v u Q I a b h;obtain⟨z,n,rfl,rfl,ok,q⟩:=h;obtain⟨t,rfl⟩:=a;obtain⟨c,rfl⟩:=b;exact SB.mul ok λt' k=>⟨.str _,H,I.tok k,⟨t',rfl⟩,q⟩
theorem TrL.rep{vs:List V}{a:List W}(t:TrL K H vs a):∀ k:Nat,TrL K H (List.replicate k vs).flatten (List.replicate k a).flatten
 | 0=>.nil
 | k+1=>by
  rw[List.replicate_succ,List.replicate_succ,List.flatten_cons,List.flatten_cons];exact t.append (t.rep k)
theorem eW(x y:W)(v u:V)(G:Hw)(H:Hp)(Q:VK)(h:Tr K H v x)(ty:Tr K H u y)(r:RelH K H G)(q:C9 x y G (dn K H Q)):(rI CMul λi j=>.int (i*j)) v u H Q\/Pi v u H Q\/NH v u H Q:=by
 cases h with
 | int i=>cases ty <;> first | exact q.elim | exact .inl ⟨_,_,rfl,rfl,q.1,q.2 _ H .refl (.int _) r⟩
 | str z=>cases ty <;> first | exact q.elim | exact .inr (.inl ⟨_,_,rfl,rfl,q.1,q.2 _ H .refl (.str _) r⟩)
 | ref a =>
  cases ty <;> try exact q.elim
  unfold C9 at q;dsimp only at q;cases b:G a with
  | none=>rw[b]at q;exact q.elim
  | some e =>
   rw[b]at q;cases e <;> try exact q.elim
   obtain⟨g,f,d⟩:=r a _ b;exact .inr (.inr ⟨a,_,g,rfl,rfl,f,q.1,q.2.1,by rw[d.length];exact q.2.2.1,λp c=>q.2.2.2 p (r.no c) _ _ (Mono.new c _) (.ref p) (r.new c (d.rep _))⟩)
 | _=>exact q.elim
variable {ga:GE}
theorem Pj{a b:Expr}(c:Em X a ga)(d:Em X b gb):Em X (.BinOp a .Mult b pos) (Ad C9 ga gb):=⟨Dz (OpR.or Nl (OpR.or eV aw)) Ph c.m d.m eW c.p d.p,Cb Ph c.m d.m⟩
def eX(K:PySem.W.Frag)(tl:TE):TI:=λσ H R=>tl σ H λx H1=>(∃ a,x=.ref a/\(∃ xs,SqL K H1 a xs)/\R (Itl K a) H1)\/(∃ a,x=.ref a/\(∃ xs,SqT K H1 a xs)/\R (Itt K a) H1)
variable {tg l:Expr}
theorem eY(hl:PE X l tl):PI X tg l (eX X.K tl):=by
 intro pins s σ H R I h;refine thn (hl pins s σ H _ I h) λv c j=>?_;obtain⟨x,H1,d,r1,q1⟩:=j;rcases q1 with⟨a,e,⟨xs,g⟩,q⟩|⟨a,e,⟨xs,g⟩,q⟩
 ·subst e;cases r1;obtain⟨f,k,p,m⟩:=d.list g;refine wpAny_pyIter_list p.isList ?_;refine⟨c.heap.objs.size,[c.heap.objs.size],_,_,H1,rfl,d.kept (t':=c.toks) λb o e=>Qm _ e,Ni a _,⟨_,Qo _ rfl,rfl,rfl⟩,λb i=>?_,q⟩;have e:b=c.heap.objs.size:=by simpa using i
  subst e;walk_at "pi"
 ·subst e;cases r1;obtain⟨f,k,p,m⟩:=d.tuple g;refine wpAny_pyIter_tuple (show c.heap.IsTuple a f.toArray from p) ?_;refine⟨c.heap.objs.size,[c.heap.objs.size],_,_,H1,rfl,d.kept (t':=c.toks) λb o e=>Qm _ e,Nj a _,⟨_,Qo _ rfl,rfl,rfl⟩,λb i=>?_,q⟩;have e:b=c.heap.objs.size:=by simpa using i
  subst e;walk_at "pi"
def B9(ga:GE):GI:=λω G R=>ga ω G λw G1=>match w with
 | .tup ws=>R ws yes G1
 | .rol ws=>R ws yes G1
 | .ref a=>match G1 a with | some (.lst ws)=>R ws (holds a ws) G1 | _=>False
 | _=>False
theorem eZ(m:ga.M):GI.M (B9 ga):=λω G R d h q=>m _ _ _ _ (λw b z=>by
 cases w with
 | tup c=>exact h _ _ _ z
 | rol c=>exact h _ _ _ z
 | ref a =>
  dsimp only at z ⊢;cases e:b a with
  | none=>rw[e]at z;exact z
  | some o =>
   rw[e]at z;cases o <;> first | exact h _ _ _ z | exact z
 | _=>exact z) q
theorem e6(hl:Em X l ga):Im X tg l (B9 ga):=by
 refine⟨⟨_,eY hl.p,λσ H ω G R u j r q k=>⟨ω,G,j,r,hl.m _ _ _ _ (λw g z v H1 m t r1=>?_) q⟩⟩,eZ hl.m⟩;cases t with
 | tup h l=>exact .inr ⟨_,rfl,⟨_,h⟩,k _ _ _ H1 _ z m r1 trivial (N9 h l)⟩
 | rol h l=>exact .inl ⟨_,rfl,⟨_,h.sq⟩,k _ _ _ H1 _ z m r1 trivial (GP λH2 i b _ _=>⟨_,(b.rol _ _ h).sq,l.mono b⟩)⟩
 | ref a =>
  dsimp only at z;cases e:g a with
  | none=>rw[e]at z;exact z.elim
  | some o =>
   rw[e]at z;cases o with
   | lst n =>
    obtain⟨c,f,s⟩:=r1 a _ e;exact .inl ⟨a,rfl,⟨c,SqL.of f⟩,k _ _ _ H1 _ z m r1 e (GP λH2 i b d g2=>let⟨c,e2,t2⟩:=d a _ g2;⟨c,SqL.of e2,t2⟩)⟩
   | _=>exact z.elim
 | _=>exact z.elim
section
variable {X:Cx} {CX:CXT} {k:Nat} {f:Addr} {fd:FuncData} {ps:List Str} {sp:Sp} {Eσ:St->XK} {x:Str} {p pos:Pos} {e:Expr} {es:List Expr} {t:TA}
variable {i:Nat}
theorem e7{E:Value->Shared->Prop}{s:Shared}{v:V}{Q:Value->Shared->Prop}(I:Inv X pins σ H s)(h:X.N[i]?=some x)(j:Vis X.env.scope x)(e:σ[i]?=some (some v))(hd:(x==("__debug__":Str))=false)(f:(x==("__classdict__":Str))=false)
  (d:∀ u,RelV v u->Q u s):wpAny (model X.prog X.w) X.A (eval (.Name x pos) X.env) Q E s:=by
 obtain⟨m,k,hl⟩:=I.loc;obtain⟨u,r,l⟩:=hl i x v h e j;rcases l with⟨b,g⟩|⟨b,c,hc,a⟩
 ·exact wpAny_Name (wpAny_loadName_local I.ok.kind b k g (d u r)) hd
 ·rcases b with b | b
  ·exact wpAny_Name (wpAny_loadName_cell I.ok.kind b hc a (d u r)) hd
  ·exact wpAny_Name (wpAny_loadName_free I.ok.kind b hc a (d u r) f) hd
theorem e8(F:FnOk X.prog X.w X.K X.mg X.base CX k f fd ps sp)(E:Room k X.A)(L:X.N[i]?=some x)(D:Vis X.env.scope x)(y:PySem.W.keepIn X.K (.ref f)=true)(J:Binds X.K fd ps [])(v:Fu CX X Eσ)
  (G:PA X (e::es) t) (j:(x==("__debug__":Str))=false) (d:(x==("__classdict__":Str))=false) (z:starEach (e::es) X.env=(false,eval e X.env)::starEach es X.env) (g:(backTo pos (starEach es X.env)).any (·.1)=false):
  PE X (.Call (.Name x p) (e::es) [] pos) (λσ H Q=>σ[i]?=some (some (.ref f))/\NX sp [] Eσ t σ H Q):=by
 intro pins s σ H Q I ⟨hi,h⟩;refine wpAny_Call_Name_kw (e7 I L D hi j d λu B=>?_);cases B;refine PySem.W.callWith_K (h₀:=X.base) I.ok.mod.kin y (thn (G pos pins s σ H _ I h) λc l⟨n,H1,b,r,q⟩=>⟨b.kIn,?_⟩) z g;have m:Vals (n++[]) (c++[]):=r.append .nil;have hl:(c++[]).length=ps.length:=by rw[<- m.length];exact F.len _ _ _ _ q
 refine wpAny_call (codeAny_mono (F.run X.A X.stack l H1 ⟨c,[]⟩ (c++[]) (n++[]) Q (Eσ σ) E b.env0 (J l c b.kIn hl) m q) λr s' a=>?_);cases r with
 | error e=>exact v pins σ H1 l e s' b a
 | ok o =>
  cases o with
  | ret u=>exact b.after a
  | next=>exact Ql a
  | brk=>exact Ql a
  | cont=>exact Ql a
end
def fAt(mg:Str->Option Value)(x:Str):Addr:=match mg x with | some (.ref f)=>f | _=>0
theorem Pk{mg:Str->Option Value}{x:Str}{f:Addr}(h:mg x=some (.ref f)):fAt mg x=f:=by unfold fAt;rw[h]
section
variable {X:Cx} {e:Expr} {es:List Expr} {pos p:Pos} {ga gb:GE} {gs:GA} {ex:Xw}
def B3(i:Nat)(f:Addr)(sp:Spw)(ex:Xw)(gs:GA):GE:=λω G Q=>ω[i]?=some (some (.ref f))/\gs ω G λws G1=>sp ws G1 Q (ex ω)
variable {i:Nat}{sp:Spw}
theorem fe{f:Addr}(m:sp.M)(a:gs.M):GE.M (B3 i f sp ex gs):=λω G Q d h q=>⟨q.1,a _ _ _ _ (λc b q1=>m _ _ _ _ _ _ h (λ_ _ z=>z) q1) q.2⟩
variable {x y:Str}{k n:Nat}
theorem ff(D:Df X.prog X.w X.K X.mg X.base y k n sp)(I:Room k X.A)(T:X.N[i]?=some x)(B:Vis X.env.scope x)(P:DA X ex)(E:gs.M)(L:PAw X (e::es) gs)
  (d:(x==("__debug__":Str))=false) (a:(x==("__classdict__":Str))=false) (s:starEach (e::es) X.env=(false,eval e X.env)::starEach es X.env) (b:(backTo pos (starEach es X.env)).any (·.1)=false):
  PEw X (.Call (.Name x p) (e::es) [] pos) (B3 i (fAt X.mg y) sp ex gs):=by
 obtain⟨f,fd,ps,J,o,S,_,F⟩:=D.ex;rw[Pk J];refine A7 (e8 F I T B o S P L d a s b) λσ H Q h=>?_;obtain⟨ω,G,c,r,u,q⟩:=h;obtain⟨v,ev,tv⟩:=c.get i _ u;cases tv;refine⟨ev,ω,G,c,r,E _ _ _ _ (λR t q1 U H1 l g r1=>?_) q⟩;refine⟨R,t,by rw[Yx];exact g,r1,D.mono _ _ _ _ _ _ (λw j z=>Ca l z) (λC j z H2 O m=>?_) q1⟩;exact⟨C,ω,j,rfl,(c.mono l).mono O,m,z⟩
theorem GZ(D:Df X.prog X.w X.K X.mg X.base y k n sp)(f:Room k X.A)(hi:place X.N x=some i)(j:seen X.env.scope x=true)(h:DA X ex)(a:(x==("__debug__":Str))=false)(c:(x==("__classdict__":Str))=false)(g:starEach (e::es) X.env=(false,eval e X.env)::starEach es X.env)(d:(backTo pos (starEach es X.env)).any (·.1)=false)
  (b:Am X (e::es) gs):Em X (.Call (.Name x p) (e::es) [] pos) (B3 i (fAt X.mg y) sp ex gs):=⟨ff D f (Oi hi) (Oj j) h b.m b.p a c g d,fe D.mono b.m⟩
theorem G8(D:Df X.prog X.w X.K X.mg X.base x k n sp)(b:Gl X x)(hd:(x==("__debug__":Str))=false):Em X (.Name x pos) (gC (.ref (fAt X.mg x))):=by
 obtain⟨f,fd,ps,a,c,d,_,F⟩:=D.ex;rw[Pk a];exact⟨N1 (v:=.ref f) b a rfl (λH=>.ref f) hd,EQ⟩
end
end L3
namespace L3
open PySem PySem.Spec PyProof.Rows L2
variable {n:Nat}
theorem fg(h:n < 128):(SetTable.sizeAbove n=8\/SetTable.sizeAbove n=16\/SetTable.sizeAbove n=32\/SetTable.sizeAbove n=64\/SetTable.sizeAbove n=128)/\n < SetTable.sizeAbove n:=by
 have:∀ m:Fin 128,(SetTable.sizeAbove m.1=8\/SetTable.sizeAbove m.1=16\/SetTable.sizeAbove m.1=32\/SetTable.sizeAbove m.1=64\/SetTable.sizeAbove m.1=128)/\m.1 < SetTable.sizeAbove m.1:=by decide +kernel
 exact this ⟨n,h⟩
theorem Pl(h:n < 128):Tb.cover (SetTable.sizeAbove n - 1+1)=true/\n < SetTable.sizeAbove n/\SetTable.sizeAbove n<=128:=by
 obtain⟨h1,h2⟩:=fg h;rcases h1 with e | e | e | e | e <;> rw[e]at h2 ⊢
 ·exact⟨Tb.cover8,h2,by decide⟩
 ·exact⟨Tb.cover16,h2,by decide⟩
 ·exact⟨Tb.cover32,h2,by decide⟩
 ·exact⟨Tb.cover64,h2,by decide⟩
 ·exact⟨Tb.cover128,h2,by decide⟩
theorem Pm{t:SetTable}(h1:t.place.size=n)(h2:t.dummies=#[])(a:n<=t.mask):t.fits n=true:=by
 unfold SetTable.fits SetTable.fill;rw[h2,h1];simp;exact a
section
variable {prog:Program} {w:World} {A:Around} {E:Value->Shared->Prop} {s:Shared}
variable {ks:List Str}
theorem Pn{es:Array (Int×Value)}{t:SetTable}(T:Tab w es t ks){mask f m:Nat}{l p:Bool}(hc:Tb.cover (mask+1)=true)(q:ks.length<=mask)(hl:bt w=false->l=true)(j:p=true->ks=[]):
  ∃ t' a,SetTable.laid mask f m l p (es.map (·.1))=some (t',a)/\(a.filterMap (es[·]?)).size=es.size/\Tab w (a.filterMap (es[·]?)) t' ks:=by
 have o:=T.len;obtain⟨t',a,e,c,k,g,i,n,h⟩:=Tb.laid_ok hc f m l p (es.map (·.1)) (by rw[Array.size_map];omega);rw[Array.size_map]at c g;have d:=Tb.order_perm es a c;have b:(a.filterMap (es[·]?)).size=es.size:=by rw[<- YX,d.length_eq,YX]
 refine⟨t',a,e,b,T.perm d ?_ (λz=>by rw[n];exact hl z) λz=>j (by rw[<- h];exact z)⟩;rw[b];exact Pm g i (by rw[k];omega)
variable {a:Addr}{Q:Unit->Shared->Prop}
theorem fh(i:SS w s.heap a ks)(k:n < 128)(q:ks.length<=n)
  (h:∀ h',Heap.SameBut a s.heap h'->SS w h' a ks->Q () {s with heap:=h'}):wpAny (model prog w) A (setRelay a n) Q E s:=by
 obtain⟨o,es,r,t,d,g,hd,T⟩:=i;obtain⟨hc,h1,h2⟩:=Pl k;have u:=T.len;unfold setRelay;refine wpAny_bind (wpAny_setState_of d hd T.ft ?_);dsimp only
 rw[if_neg (by have:(128:Nat)<=sizeLine:=by decide
               omega)]
 obtain⟨t',b,e,c,j⟩:=Pn (f:=t.finger) (m:=t.movedTo (SetTable.sizeAbove n - 1)) (l:=t.led) (p:=t.plain) T hc (by omega) T.ld T.pl;refine wpAny_bind ?_;unfold SetTable.relaid;rw[e];show wpAny (model prog w) A (if((b.filterMap (es[·]?)).size != es.size)=true then _ else pure (b.filterMap (es[·]?),t')) _ E s;rw[if_neg (by rw[c];simp)];refine wpAny_pure (wpAny_storeSet_of d hd ?_ (fits_of_scanBound (by rw[c];unfold scanBound;omega)));exact h _ (Qq s.heap a _) (EO d g hd j).2
theorem Po(c:SS w s.heap a ks)(k:ks.length+n < 64)
  (h:∀ h',Heap.SameBut a s.heap h'->SS w h' a ks->Q () {s with heap:=h'}):wpAny (model prog w) A (setRoomFor a n) Q E s:=by
 have b:=c;obtain⟨o,es,g,t,d,f,hd,T⟩:=c;have j:=T.len;unfold setRoomFor;refine wpAny_bind (wpAny_setState_of d hd T.ft ?_)
 have i:t.place.size=es.size:=by
  have:=T.ft;unfold SetTable.fits at this;simp only[YH,beq_iff_eq]at this;exact this.1
 dsimp only;unfold SetTable.roomFor;split
 ·rename_i v e;split at e
  ·cases e;exact fh b (by omega) (by omega) h
  ·cases e
 ·exact wpAny_pure (h s.heap (Heap.SameBut.refl a s.heap) b)
end
theorem Kl{α:Type}:∀(l:List α)(i:Nat)(h:i < l.length),(l[i]::l.eraseIdx i).Perm l
 | a::l,0,h=>List.Perm.refl _
 | a::l,i+1,h=>by
  have h':i < l.length:=Nat.lt_of_succ_lt_succ h;exact(List.Perm.swap a (l[i]'h') (l.eraseIdx i)).trans ((Kl l i h').cons a)
theorem Pp{α:Type}(next:Nat->Nat):∀(n k:Nat)(a:List α)(out:Array α),a.length=n->(pickOrder.go next n k a out).toList.Perm (out.toList++a)
 | 0,k,a,out,h=>by
  obtain rfl:=Qj.mp h;rw[Yx];exact List.Perm.refl _
 | n+1,k,a,out,h=>by
  have b:next k % a.length < a.length:=Nat.mod_lt _ (by omega)
  unfold pickOrder.go;rw[Yp b];dsimp only;refine(Pp next n (k+1) _ _ (by rw[List.length_eraseIdx_of_lt b];omega)).trans ?_;rw[Array.toList_push,Yv];refine List.Perm.append_left _ ?_;exact Kl a _ b
theorem Pt{α:Type}(next:Nat->Nat)(xs:Array α):(pickOrder next xs).toList.Perm xs.toList:=by
 have:=Pp next xs.size 0 xs.toList #[] (by simp)
 unfold pickOrder;simpa using this
section
variable {prog:Program} {w:World} {A:Around} {E:Value->Shared->Prop} {s:Shared}
theorem Km{Q:Option Bool×Unit->Shared->Prop}{f:Int×Value->Option Bool×Unit->Sem (ForInStep (Option Bool×Unit))}(a:∀ e,(∃ x u,e=(hashStr w x,Value.str x u))->f e (none,())=pure (ForInStep.yield (none,()))):
  ∀(l:List (Int×Value)),(∀ e∈l,∃ x u,e=(hashStr w x,Value.str x u))->Q (none,()) s->wpAny (model prog w) A (forIn l (none,()) f) Q E s
 | [],_,q=>wpAny_pure q
 | e::l,h,q=>by
  rw[List.forIn_cons,a e (h e Ye)];exact wpAny_bind (wpAny_pure (Km a l (λx b=>h x (Yd _ b)) q))
theorem fi{a b:Addr}{m i:List Str}{Q:Bool->Shared->Prop}(l:SS w s.heap a m)(k:SS w s.heap b i)(q:Q true s):wpAny (model prog w) A (setsQuiet [a,b]) Q E s:=by
 obtain⟨p,h,pa,ta,n,o,hd,T⟩:=l;obtain⟨r,eb,t,tb,c,j,f,g⟩:=k;have hyield:∀ e:Int×Value,(∃ x u,e=(hashStr w x,Value.str x u))->True:=λ_ _=>trivial;unfold setsQuiet;refine wpAny_bind ?_;rw[List.forIn_cons];refine wpAny_bind (wpAny_bind (wpAny_setEntries_of n hd T.ft ?_));rw[<- Array.forIn_toList];refine wpAny_bind (Km (w:=w) (λe d=>?_) h.toList T.el (wpAny_pure ?_))
 ·obtain⟨x,u,rfl⟩:=d;rfl
 dsimp only;rw[List.forIn_cons];refine wpAny_bind (wpAny_bind (wpAny_setEntries_of c f g.ft ?_));rw[<- Array.forIn_toList];refine wpAny_bind (Km (w:=w) (λe d=>?_) eb.toList g.el (wpAny_pure ?_))
 ·obtain⟨x,u,rfl⟩:=d;rfl
 dsimp only;rw[List.forIn_nil];exact wpAny_pure (wpAny_pure q)
theorem fj{o f:Addr}{u ks:List Str}{g:Obj}{es:Array (Int×Value)}{t:SetTable}{Q:Array (Int×Value)->Shared->Prop}(m:s.heap.get? o=some g)(q:g.ExactSet)(hd:g.data=.set es n t)(T:Tab w es t u)(e:SS w s.heap f ks)(r:ks.length < scanBound)
  (h:∀ h' l,Heap.SameBut f s.heap h'->SS w h' f ks->l.toList.Perm es.toList->Q l {s with heap:=h'}):wpAny (model prog w) A (setWalkUnseen o [f] (some f)) Q E s:=by
 have v:=T.len
 have d:bt w=true\/es.size<=1->wpAny (model prog w) A (setWalk o) Q E s:=λhw=>by
  unfold setWalk;refine wpAny_bind (wpAny_setState_of m hd T.ft ?_);dsimp only;unfold setsByText;walk_at "pb";show wpAny (model prog w) A (if bt w=true then _ else _) Q E s;by_cases c:bt w=true
  ·rw[if_pos c];exact wpAny_bind (wpAny_askSetting (wpAny_pure (h s.heap _ (Heap.SameBut.refl _ _) e (Pt _ _))))
  ·rw[if_neg c];have h1:es.size<=1:=hw.resolve_left c;show wpAny (model prog w) A (if(!t.plain&&decide (es.size > 1))=true then _ else _) Q E s
   rw[if_neg (by have:¬ es.size > 1:=by omega
                 simp[this])]
   refine wpAny_bind ?_;show wpAny (model prog w) A (if(!t.led&&decide (es.size > 1))=true then _ else pure ()) _ E s
   rw[if_neg (by have:¬ es.size > 1:=by omega
                 simp[this])]
   exact wpAny_pure (wpAny_pure (h s.heap _ (Heap.SameBut.refl _ _) e (List.Perm.refl _)))
 unfold setWalkUnseen;refine wpAny_bind (wpAny_setState_of m hd T.ft ?_);dsimp only;unfold setsByText;walk_at "pb";show wpAny (model prog w) A (if(bt w||t.led&&t.plain||decide (es.size<=1))=true then _ else _) Q E s;by_cases hc:(bt w||t.led&&t.plain||decide (es.size<=1))=true
 ·rw[if_pos hc];refine d ?_;simp only[Bool.or_eq_true,YH,YU]at hc;rcases hc with(hc | hc)| hc
  ·exact .inl hc
  ·have:=T.pl hc.2;subst this;exact .inr (by rw[v];decide)
  ·exact .inr hc
 ·rw[if_neg hc];simp only[Bool.or_eq_true,YH,YU,not_or]at hc;have c:bt w=false:=by simpa using hc.1.1
  refine wpAny_bind (fi ⟨g,es,n,t,m,q,hd,T⟩ e ?_);rw[if_neg (by decide)];refine wpAny_bind (wpAny_rule ?_);have i:=e;obtain⟨of,x,y,j,a,k,b,Tf⟩:=e;refine wpAny_bind (wpAny_setState_of a b Tf.ft ?_);dsimp only;split
  ·refine wpAny_bind (wpAny_storeSet_of a b ?_ ?_)
   ·refine wpAny_pure (h _ _ (Qq s.heap f _) (EO a k b (Tf.perm (List.Perm.refl _) ?_ (λ_=>?_) λz=>?_)).2 (List.Perm.refl _))
    ·cases j;exact Tf.ft
    ·show(j.led&&t.led)=true;rw[Tf.ld c,T.ld c];rfl
    ·refine Tf.pl ?_;have p:(j.plain&&t.plain)=true:=z;simp only[YH]at p;exact p.1
   ·exact fits_of_scanBound (by rw[Tf.len];exact r)
  ·exact wpAny_pure (h _ _ (Heap.SameBut.refl _ _) i (List.Perm.refl _))
theorem Pu{a o:Addr}{n:Obj}{es:Array (Int×Value)}{G:Nat}{t:SetTable}(i:o≠a)(hd:n.data=.set es G t)(H:t.fits es.size=true){d:Sem Unit}(F:∀(s':Shared)(D:Unit->Shared->Prop),s'.heap.get? o=some n->D () s'->wpAny (model prog w) A d D E s'){f:Int×Value->PUnit->Sem (ForInStep PUnit)}
  (c:∀ x u,f (hashStr w x,Value.str x u) PUnit.unit=(do let _ <- holding [Value.str x u] (setAddHashed a (Value.str x u) (hashStr w x));d;let r <- setState o;if(r.2.1 != G)=true then(do unsupported "set.changed-during-merge";pure (ForInStep.yield PUnit.unit))else pure (ForInStep.yield PUnit.unit))):
  ∀(l:List (Int×Value))(s:Shared)(ks:List Str)(Q:PUnit->Shared->Prop),(∀ e∈l,∃ x u,e=(hashStr w x,Value.str x u))->s.heap.get? o=some n->SS w s.heap a ks->ks.length+l.length < scanBound->
   (∀ h' ks',Heap.SameBut a s.heap h'->SS w h' a ks'->(∀ x,x∈ks'↔x∈ks\/x∈l.map λe=>strOf e.2)->Q PUnit.unit {s with heap:=h'})->wpAny (model prog w) A (forIn l PUnit.unit f) Q E s
 | [],s,ks,Q,_,_,q,_,h=>wpAny_pure (h s.heap ks (Heap.SameBut.refl _ _) q λx=>⟨.inl,λz=>z.elim id λz=>by cases z⟩)
 | e::l,s,ks,Q,m,J,q,K,h=>by
  obtain⟨x,u,rfl⟩:=m e Ye;simp only[Yg]at K;rw[List.forIn_cons,c x u];refine wpAny_bind (wpAny_bind (wpAny_holding (JL q (by omega) λh1 b k B=>?_)));have g:h1.get? o=some n:=by rw[k.2 o i];exact J
  refine wpAny_bind (F _ _ g (wpAny_bind (wpAny_setState_of g hd H ?_)));rw[if_neg (by simp)];refine wpAny_pure (Pu i hd H F c l _ _ Q (λy N=>m y (Yd _ N)) g B (by split <;>(try rw[Yg]) <;> omega) λh2 ks' j p I=>?_);refine h h2 ks' (k.trans j) p λy=>(I y).trans ?_;rw[Ym,Yo];show _↔y∈ks\/y=x\/_
  have L:y∈(if x∈ks then ks else x::ks)↔y∈ks\/y=x:=by
   split
   ·rename_i v;exact⟨.inl,λz=>z.elim id λe=>e▸v⟩
   ·rw[Yo];exact⟨λz=>z.elim .inr .inl,λz=>z.elim .inr .inl⟩
  rw[L,or_assoc]
end
section
variable {prog:Program} {w:World} {A:Around} {E:Value->Shared->Prop} {s:Shared}
structure Bare(led:Bool)(n:Nat)(t:SetTable):Prop where
 pl:t.place=#[]
 dm:t.dummies=#[]
 cv:Tb.cover (t.mask+1)=true
 rm:n<=t.mask
 ld:t.led=led
variable {led:Bool}
theorem Bare.fits{t:SetTable}(B:Bare led n t):t.fits 0=true:=Pm (by rw[B.pl];rfl) B.dm (YZ _)
variable {a:Addr}{Q:Unit->Shared->Prop}
theorem fk(d:s.heap.get? a=some (Bo led))(q:n < 32)
  (h:∀ h' k t,Heap.SameBut a s.heap h'->h'.get? a=some {Bo led with data:=.set #[] k t}->Bare led n t->Q () {s with heap:=h'}):wpAny (model prog w) A (setRoomFor a n) Q E s:=by
 unfold setRoomFor;refine wpAny_bind (wpAny_setState_of d rfl rfl ?_);show wpAny (model prog w) A (match(if(0+n)*5>=7*3 then some ((0+n)*2)else none)with | some v=>setRelay a v | _=>pure ()) Q E s;by_cases hc:(0+n)*5>=7*3
 ·rw[if_pos hc];obtain⟨f,h1,h2⟩:=Pl (n:=(0+n)*2) (by omega);dsimp only;unfold setRelay;refine wpAny_bind (wpAny_setState_of d rfl rfl ?_);dsimp only
  rw[if_neg (by have:(128:Nat)<=sizeLine:=by decide
                omega)]
  obtain⟨t',b,e,g,i,m,l,o,p⟩:=Tb.laid_ok f (SetTable.fresh 0 0 led).finger ((SetTable.fresh 0 0 led).movedTo (SetTable.sizeAbove ((0+n)*2) - 1)) (SetTable.fresh 0 0 led).led (SetTable.fresh 0 0 led).plain (Array.map (·.1) (#[]:Array (Int×Value))) (by simp);refine wpAny_bind ?_;unfold SetTable.relaid;rw[e]
  have c:b=#[]:=by
   have:=g.length_eq;simp at this;exact this
  subst c;show wpAny (model prog w) A (pure ((#[]:Array Nat).filterMap ((#[]:Array (Int×Value))[·]?),t')) _ E s;refine wpAny_pure (wpAny_storeSet_of d rfl ?_ (YZ _));refine h _ 1 t' (Qq s.heap a _) ?_ ⟨?_,l,by rw[i];exact f,by rw[i];omega,o⟩
  ·have j:=Qr (Obj.putSet #[] t') d (by rw[putSet_of #[] t' rfl];rfl);rw[putSet_of #[] t' rfl]at j;exact j
  ·exact Array.eq_empty_of_size_eq_zero (by rw[m];simp)
 ·rw[if_neg hc];exact wpAny_pure (h s.heap 0 _ (Heap.SameBut.refl _ _) d ⟨rfl,rfl,Tb.cover8,by show n<=7;omega,rfl⟩)
variable {o:Addr}
theorem Pv{g:List Str}{r:Sem Unit}(u:o≠a)(v:s.heap.get? a=some (Bo led))(hl:bt w=false->led=true)(D:SS w s.heap o g)(K:g.length < 32)
  (h:∀ h',Heap.SameBut a s.heap h'->SS w h' a g->(g=[]->h'.get? a=some (Bo led))->Q () {s with heap:=h'}):wpAny (model prog w) A (setMerge a o r) Q E s:=by
 obtain⟨J,es,L,t,F,I,hd,T⟩:=D;have x:=T.len;unfold setMerge;rw[if_neg (by simp only[beq_iff_eq];exact λz=>u z.symm)];refine wpAny_bind (wpAny_setState_of F hd T.ft ?_);dsimp only;by_cases c:es.isEmpty=true
 ·rw[if_pos c]
  have:g=[]:=by
   rw[Array.isEmpty_iff]at c;subst c;exact Qj.mp x.symm
  subst this;exact wpAny_pure (h s.heap (Heap.SameBut.refl _ _) (JM led hl v) λ_=>v)
 ·rw[if_neg c]
  have p:g≠[]:=λz=>by
   subst z;exact c (by rw[Array.isEmpty_iff];exact Array.eq_empty_of_size_eq_zero x)
  refine wpAny_bind (fk v (by omega) λh1 H j n d B=>?_);refine wpAny_bind (wpAny_setState_of d rfl B.fits ?_);dsimp only;have q:bt w=false->(j.led&&t.led)=true:=λz=>by rw[B.ld,hl z,T.ld z];rfl
  have k:(j.plain&&t.plain)=true->g=[]:=λz=>by
   simp only[YH]at z;exact T.pl z.2
  have i:(j.fill != 0)=false:=by unfold SetTable.fill;rw[B.pl,B.dm];rfl
  unfold SetTable.road;rw[i];simp only[Yq,if_false];by_cases y:(j.mask==t.mask&&t.dummies.isEmpty)=true
  ·rw[if_pos y];dsimp only;refine wpAny_storeSet_of d rfl ?_ (fits_of_scanBound (by unfold scanBound;omega));refine h _ (n.trans (Qq h1 a _)) (EO d ⟨rfl,rfl,rfl⟩ rfl (T.perm (List.Perm.refl _) ?_ q k)).2 λz=>absurd z p;have:=T.ft;cases t;exact this
  ·rw[if_neg y];dsimp only;obtain⟨t',b,e,l,G⟩:=Pn (f:=j.finger) (m:=j.moves) T B.cv (by have:=B.rm;omega) q k;refine wpAny_bind ?_;rw[e];show wpAny (model prog w) A (if((b.filterMap (es[·]?)).size != es.size)=true then _ else pure (b.filterMap (es[·]?),t')) _ E _;rw[if_neg (by rw[l];simp)];refine wpAny_pure (wpAny_storeSet_of d rfl ?_ (fits_of_scanBound (by rw[l];unfold scanBound;omega)));exact h _ (n.trans (Qq h1 a _)) (EO d ⟨rfl,rfl,rfl⟩ rfl G).2 λz=>absurd z p
theorem fq{ks r:List Str}{f:Sem Unit}(b:o≠a)(L:ks≠[])(J:SS w s.heap a ks)(N:SS w s.heap o r)(U:ks.length+r.length < 64)
  (D:∀ i,s.heap.get? o=some i->∀(s':Shared)(K:Unit->Shared->Prop),s'.heap.get? o=some i->K () s'->wpAny (model prog w) A f K E s')
  (h:∀ h' ks',Heap.SameBut a s.heap h'->SS w h' a ks'->(∀ x,x∈ks'↔x∈ks\/x∈r)->Q () {s with heap:=h'}):wpAny (model prog w) A (setMerge a o f) Q E s:=by
 obtain⟨i,es,Y,t,F,B,hd,T⟩:=N;have O:=T.len;have D:=D i F;unfold setMerge;rw[if_neg (by simp only[beq_iff_eq];exact λz=>b z.symm)];refine wpAny_bind (wpAny_setState_of F hd T.ft ?_);dsimp only;by_cases c:es.isEmpty=true
 ·rw[if_pos c]
  have:r=[]:=by
   rw[Array.isEmpty_iff]at c;subst c;exact Qj.mp O.symm
  subst this;exact wpAny_pure (h s.heap ks (Heap.SameBut.refl _ _) J λx=>⟨.inl,λz=>z.elim id λz=>by cases z⟩)
 ·rw[if_neg c];refine wpAny_bind (Po J (by omega) λh1 m k=>?_);have n:=k;obtain⟨X,Z,pa,ta,G,S,v,Ta⟩:=k;refine wpAny_bind (wpAny_setState_of G v Ta.ft ?_);dsimp only
  have g:(ta.fill != 0)=true:=by
   have j:=Ta.ft;unfold SetTable.fits at j;simp only[YH,beq_iff_eq]at j;have hl:=Ta.len;have:ks.length≠0:=λz=>L (Qj.mp z);unfold SetTable.fill;simp only[bne_iff_ne,ne_eq];omega
  unfold SetTable.road;rw[g];simp only[if_true];have p:h1.get? o=some i:=by rw[m.2 o b];exact F
  refine wpAny_bind (fj p B hd T n (by unfold scanBound;omega) λh2 l d H j=>?_);have I:h2.get? o=some i:=by rw[d.2 o b];exact p
  rw[<- Array.forIn_toList];refine wpAny_bind (Pu b hd T.ft D (λx u=>rfl) l.toList _ ks _ (λe P=>T.el e (j.mem_iff.mp P)) I H ?_ λR ks' q y B=>?_)
  ·have hl:l.toList.length=es.size:=j.length_eq.trans YX;rw[hl];unfold scanBound;omega
  ·refine wpAny_pure (h R ks' ((m.trans d).trans q) y λx=>(B x).trans ?_);rw[((j.map _).trans T.pm).mem_iff]
end
theorem fu:entryFor table "set.__or__"=some Builtin.«frozenset.__or__»:=entryFor_alias (id':="frozenset.__or__") (by kernel_rfl) rfl (by decide +kernel) (by kernel_rfl)
section
variable {prog:Program} {w:World} {A:Around} {E:Value->Shared->Prop} {s:Shared}
variable {a:Addr}{ks:List Str}
theorem SS.ty(S:SS w s.heap a ks):s.TypeIs (.ref a) "set":=by
 obtain⟨o,es,d,t,c,b,_⟩:=S;exact⟨o,c,b.1⟩
theorem Kn{Q:Bool->Shared->Prop}(b:s.TypeIs (.ref a) "set")(q:Q true s):wpAny (model prog w) A (Builtin.Frozenset.isAnySet (.ref a)) Q E s:=by
 unfold Builtin.Frozenset.isAnySet;refine wpAny_bind (wpAny_isInstance b sub_set_self ?_);exact wpAny_pure q
theorem SS.new(S:SS w s.heap a ks)(o:Obj):SS w (s.heap.push o) a ks:=S.kept λ_ e=>Qm _ e
theorem SS.lt(S:SS w s.heap a ks):a < s.heap.objs.size:=by
 obtain⟨o,es,c,t,b,_⟩:=S;exact Qn b
variable {b:Addr}
theorem SS.same{h h':Heap}(S:SS w h a ks)(d:a≠b)(c:Heap.SameBut b h h'):SS w h' a ks:=S.kept λo e=>by rw[c.2 a d];exact e
theorem fv{r n:List Str}{Q:Value->Shared->Prop}(J:a≠b)(l:SS w s.heap a r)(p:SS w s.heap b n)(L:r.length < 32)(B:n.length < 32)
  (h:∀ h' ks,SS w h' s.heap.objs.size ks->(∀ x,x∈ks↔x∈r\/x∈n)->(∀ c o,c < s.heap.objs.size->s.heap.get? c=some o->h'.get? c=some o)->Q (.ref s.heap.objs.size) {s with heap:=h'}):
  wpAny (model prog w) A (binaryOp .BitOr (.ref a) (.ref b)) Q E s:=by
 refine wpAny_binaryOp_same (op:=.BitOr) (T:="set") l.ty p.ty PySem.F.fills_set_or PySem.F.slot_set_or (wpAny_call_entry PySem.F.slot_set_or l.ty fu ?_ (PySem.F.args_set_or_2 _ _));unfold Builtin.«frozenset.__or__»;refine wpAny_bind (m:=Builtin.Frozenset.slot1 "__or__" ⟨[.ref a,.ref b],[]⟩) ?_;unfold Builtin.Frozenset.slot1;refine wpAny_bind (wpAny_pure (a:=(Value.ref a,[Value.ref b])) ?_);refine wpAny_pure ?_;refine wpAny_bind (m:=(Builtin.Frozenset.isAnySet (.ref a) <&&> Builtin.Frozenset.isAnySet (.ref b))) ?_;refine wpAny_bind (Kn l.ty (Kn p.ty ?_));rw[if_neg (by decide)];refine wpAny_bind (m:=Builtin.Frozenset.addrOf (.ref a)) (wpAny_pure ?_);refine wpAny_bind ?_;refine wpAny_bind (m:=Builtin.Frozenset.copyOf a) ?_;unfold Builtin.Frozenset.copyOf Builtin.Frozenset.baseOf;refine wpAny_bind (wpAny_bind (wpAny_isInstance l.ty sub_set_self (wpAny_pure ?_)));rw[if_pos rfl];refine wpAny_bind (aO λled j=>?_);refine wpAny_bind (wpAny_pure ?_);have f:∀{c:Addr},c < s.heap.objs.size->c≠s.heap.objs.size:=λz=>Ys z;have N:(s.heap.push (Bo led)).get? s.heap.objs.size=some (Bo led):=Qo _ rfl;refine wpAny_bind (Pv (s:={s with heap:=s.heap.push (Bo led)}) (f l.lt) N j (l.new _) L λh1 u I v=>?_);refine wpAny_pure ?_;show wpAny (model prog w) A.in1 (if(Value.ref b != Value.ref a)=true then _ else _) _ E _;rw[if_pos (by simp only[bne_iff_ne,ne_eq,Value.ref.injEq];exact λz=>J z.symm)];refine wpAny_bind (m:=Builtin.Frozenset.addrOf _) (wpAny_pure ?_);have k:SS w h1 b n:=(p.new (Bo led)).same (f p.lt) u;have D:Shared.TypeIs {s with heap:=h1} (.ref b) "set":=SS.ty (s:={s with heap:=h1}) k
 have keep:∀ h2,Heap.SameBut s.heap.objs.size h1 h2->∀ c o,c < s.heap.objs.size->s.heap.get? c=some o->h2.get? c=some o:=λh2 d c o hc e=>by
  rw[d.2 c (f hc),u.2 c (f hc)];exact Qm _ e
 refine wpAny_bind (wpAny_holding ?_);unfold Builtin.Frozenset.updateFrom;refine wpAny_bind (Kn D ?_);rw[if_pos rfl];refine wpAny_bind (m:=Builtin.Frozenset.addrOf (.ref b)) (wpAny_pure ?_);unfold Builtin.Frozenset.merge;have i:=k;obtain⟨R,es,X,t,P,y,hd,T⟩:=k;refine wpAny_bind (wpAny_setEpoch_of P hd T.ft ?_);have q:∀ h2 ks,Heap.SameBut s.heap.objs.size h1 h2->SS w h2 s.heap.objs.size ks->(∀ x,x∈ks↔x∈r\/x∈n)->Q (.ref s.heap.objs.size) {s with heap:=h2}:=λh2 ks d g y=>h h2 ks g y (keep h2 d);by_cases O:r=[]
 ·subst O;refine Pv (s:={s with heap:=h1}) (f p.lt) (v rfl) j i B λh2 d g _=>?_;refine wpAny_pure (wpAny_pure ⟨_,rfl,by simp,q h2 n d g λx=>⟨.inr,λz=>z.elim (λz=>by cases z) id⟩⟩)
 ·refine fq (s:={s with heap:=h1}) (f p.lt) O I i (by omega) (λG K s' U H S=>?_) λh2 ks d g y=>?_
  ·have e:G=R:=by
    have:=K.symm.trans P;exact YF this
   subst e;unfold Builtin.Frozenset.unchanged;refine wpAny_bind (wpAny_setEpoch_of H hd T.ft ?_);rw[if_neg (by simp)];exact wpAny_pure S
  ·exact wpAny_pure (wpAny_pure ⟨_,rfl,by simp,q h2 ks d g y⟩)
end
theorem El:Slot "set_iterator" "__next__" "set_iterator.__next__":=.of (owner:="set_iterator") (n:="__next__") (by rw[typeLookup_type,builtinLookup_eq_fast];kernel_rfl) (by decide +kernel) (by decide +kernel) (by decide +kernel) (by first | exact .inl (by decide +kernel)| exact .inr (by decide +kernel)) (by rw[isSubtype_type];kernel_rfl)
theorem Pw:Slot "set" "__iter__" "set.__iter__":=.of (owner:="set") (n:="__iter__") (by rw[typeLookup_type,builtinLookup_eq_fast];kernel_rfl) (by decide +kernel) (by decide +kernel) (by decide +kernel) (by first | exact .inl (by decide +kernel)| exact .inr (by decide +kernel)) (by rw[isSubtype_type];kernel_rfl)
theorem Px:entryFor table "set_iterator.__next__"=some Builtin.«set_iterator.__next__»:=entryFor_of_fast (by kernel_rfl)
theorem fw:entryFor table "set.__iter__"=some Builtin.«frozenset.__iter__»:=entryFor_alias (id':="frozenset.__iter__") (by kernel_rfl) rfl (by decide +kernel) (by kernel_rfl)
theorem Py(a:Value):argsOk "set_iterator.__next__" ⟨[a],[]⟩:=by unfold argsOk;kernel_rfl
theorem fx(a:Value):argsOk "set.__iter__" ⟨[a],[]⟩:=by unfold argsOk;kernel_rfl
section
variable {prog:Program} {w:World} {A:Around} {E:Value->Shared->Prop} {s:Shared}
theorem fy{a:Source}{Q:Nat->Shared->Prop}(b:n≠0)(h:∀ i d,i < n->Q i {s with drawn:=d}):wpAny (model prog w) A (choose a n) Q E s :=
 λ_ _ _=>⟨b,h _ _ (Nat.mod_lt _ (Nat.pos_of_ne_zero b))⟩
theorem Pz{α:Type}:∀(n:Nat)(xs:List α)(s:Shared)(Q:List α->Shared->Prop),xs.length=n->(∀ ys d,ys.Perm xs->Q ys {s with drawn:=d})->wpAny (model prog w) A (drawOrder n xs) Q E s
 | 0,xs,s,Q,h,q=>by
  obtain rfl:=Qj.mp h;exact wpAny_pure (q [] s.drawn (List.Perm.refl _))
 | n+1,[],s,Q,h,q=>by cases h
 | n+1,x::xs,s,Q,h,q=>by
  unfold drawOrder;refine wpAny_bind (fy (by simp) λi d hi=>?_);rw[Yp hi];dsimp only;refine wpAny_bind (Pz n _ _ _ (by rw[List.length_eraseIdx_of_lt hi];simpa using h) λys a b=>?_);exact wpAny_pure (q _ a ((b.cons _).trans (Kl _ i hi)))
abbrev Itr(first:Value)(i:Nat)(a:Addr)(n ep:Nat):Obj:={cls:=.type "set_iterator",data:=.fields #[first,.int i 0,.ref a,.int n 0,.int ep 0]}
inductive Md(w:World)(a T:Addr)(es:Array (Int×Value))(ep:Nat)(t:SetTable)(l:List (Int×Value))(h:Heap):Value->Nat->Prop where
 | drawn {ps:List Nat} {oT:Obj} {c i:Nat}:h.get? T=some oT->oT.data=.seq (ps.map λp:Nat=>rawInt p).toArray c->ps.length=l.length->(∀(j p:Nat),ps[j]?=some p->∃ e,es[p]?=some e/\l[j]?=some e)->Md w a T es ep t l h (.ref T) i
 | text {k i:Nat}:bt w=true->l=(pickOrder (w.params.setOrder a ep) es).toList->Md w a T es ep t l h (.int k 0) i
 | few {k i:Nat}:bt w=false->t.led=true->es.size<=1->l=es.toList->(i=0->k=0)->(∀ j:Nat,i=1->t.place[0]?=some j->k=j+1)->Md w a T es ep t l h (.int k 0) i
structure Wk(w:World)(it a T:Addr)(ob:Obj)(es:Array (Int×Value))(ep:Nat)(t:SetTable)(l:List (Int×Value))(i:Nat)(h:Heap):Prop where
 st:∃ first,h.get? it=some (Itr first i a es.size ep)/\Md w a T es ep t l h first i
 ob:h.get? a=some ob
variable {a:Addr}{h:Heap}{i:Nat}
theorem Md.at{T:Addr}{es:Array (Int×Value)}{d:Nat}{t:SetTable}{l:List (Int×Value)}{h':Heap}{v:Value}(M:Md w a T es d t l h v i)(k:∀ o,h.get? T=some o->h'.get? T=some o):Md w a T es d t l h' v i:=by
 cases M with
 | drawn h1 h2 b c=>exact .drawn (k _ h1) h2 b c
 | text h1 h2=>exact .text h1 h2
 | few h1 h2 b c f e=>exact .few h1 h2 b c f e
variable {it:Addr}{first:Value}{b:Nat}
theorem PB(e:h.get? it=some (Itr first i a n b))(j:Nat):(h.update it (Obj.mapFields (·.setIfInBounds 1 (rawInt j)))).get? it=some (Itr first j a n b):=by
 have c:=Qr (Obj.mapFields (·.setIfInBounds 1 (rawInt j))) e (Obj.isFreed_of_fields (Obj.data_mapFields rfl _));rw[c];rfl
theorem G9(e:h.get? it=some (Itr first i a n b))(v:Value):(h.update it (Obj.mapFields (·.setIfInBounds 0 v))).get? it=some (Itr v i a n b):=by
 have c:=Qr (Obj.mapFields (·.setIfInBounds 0 v)) e (Obj.isFreed_of_fields (Obj.data_mapFields rfl _));rw[c];rfl
end
section
variable {prog:Program} {w:World} {A:Around} {E:Value->Shared->Prop} {s:Shared}
theorem PC(j k:Nat):SetTable.below #[j] k=if j < k then 1 else 0:=by
 show SetTable.below.go #[j] k 1 0 1=_;unfold SetTable.below.go;simp only[Nat.zero_lt_one,if_true];show(if j < k then SetTable.below.go #[j] k 0 1 1 else SetTable.below.go #[j] k 0 0 0)=_;rfl
theorem Ha{α:Type}{xs:Array α}(h:xs.size<=1):xs=#[]\/∃ x,xs=#[x]:=by
 obtain⟨l⟩:=xs
 match l,h with
 | [],_=>exact .inl rfl
 | [x],_=>exact .inr ⟨x,rfl⟩
theorem fz{it a T:Addr}{u:Obj}{es:Array (Int×Value)}{m:Nat}{t:SetTable}{ks:List Str}{l:List (Int×Value)}{i:Nat}{e:Int×Value}{Q:Option Value->Shared->Prop}(X:u.ExactSet)(hd:u.data=.set es m t)(Tb:Tab w es t ks)(g:a≠it)(n:T≠it)(S:Wk w it a T u es m t l i s.heap)(hl:l[i]?=some e)
  (J:∀ h',Wk w it a T u es m t l (i+1) h'->Heap.SameBut it s.heap h'->Q (some e.2) {s with heap:=h'}):wpAny (model prog w) A (pyNext (.ref it)) Q E s:=by
 obtain⟨⟨first,hi,M⟩,d⟩:=S;have I:s.TypeIs (.ref it) "set_iterator":=⟨_,hi,rfl⟩;unfold pyNext;refine wpAny_bind (wpAny_attempt (wpAny_callSpecial?_slot (name:=Str.ofString "__next__") I El (wpAny_call_entry El I Px ?_ (Py _))));unfold Builtin.«set_iterator.__next__»;refine wpAny_bind (wpAny_pure (a:=(Value.ref it,([]:List Value))) ?_);refine wpAny_bind (wpAny_fieldsOf hi rfl ?_);dsimp only;refine wpAny_bind (wpAny_setEntries_of d hd Tb.ft ?_);rw[if_neg (by simp)]
 have two:∀(v:Value),Md w a T es m t l s.heap v (i+1)->Q (some e.2) {s with heap:=(s.heap.update it (Obj.mapFields (·.setIfInBounds 0 v))).update it (Obj.mapFields (·.setIfInBounds 1 (rawInt (i+1))))}:=λv U=>by
  have f:=(Qq s.heap it (Obj.mapFields (·.setIfInBounds 0 v))).trans (Qq _ it (Obj.mapFields (·.setIfInBounds 1 (rawInt (i+1)))));refine J _ ⟨⟨v,PB (G9 hi v) (i+1),U.at λo z=>by rw[f.2 T n];exact z⟩,by rw[f.2 a g];exact d⟩ f
 cases M with
 | drawn h1 h2 B y =>
  rename_i ps Y c
  obtain⟨p,H⟩:∃ p,ps[i]?=some p:=by
   obtain⟨h,_⟩:=Qc.mp hl;exact⟨_,Yp (by omega)⟩
  obtain⟨P,L,D⟩:=y i p H;obtain rfl:P=e:=YF (D.symm.trans hl);dsimp only;refine wpAny_bind (wpAny_seqItems h1 h2 ?_);dsimp only
  have O:(ps.map λp:Nat=>rawInt p).toArray[(Int.ofNat i).toNat]?=some (rawInt p):=by
   simp[H]
  have G:(ps.map λp:Nat=>rawInt p).toArray[((i:Int)).toNat]?=some (.int (p:Int) 0):=O;rw[G];dsimp only;refine wpAny_bind ?_;unfold setNextDrawn;refine wpAny_bind (wpAny_setState_of d hd Tb.ft ?_);dsimp only;rw[if_neg (by simp)];rw[show((p:Int)).toNat=p from Int.toNat_natCast p,L];dsimp only;refine wpAny_pure (wpAny_bind (wpAny_setField hi rfl (by simp) (wpAny_pure ⟨_,rfl,wpAny_pure ?_⟩)));have f:=Qq s.heap it (Obj.mapFields (·.setIfInBounds 1 (rawInt (i+1))));exact J _ ⟨⟨_,PB hi (i+1),.drawn (by rw[f.2 T n];exact h1) h2 B y⟩,by rw[f.2 a g];exact d⟩ f
 | text h1 h2 =>
  rename_i k;dsimp only;refine wpAny_bind ?_;unfold setNext;refine wpAny_bind (wpAny_setState_of d hd Tb.ft ?_);dsimp only;unfold setsByText;walk_at "pb";walk_at "pf";rw[if_pos h1,if_neg (by simp)];unfold setWalk;refine wpAny_bind (wpAny_bind (wpAny_setState_of d hd Tb.ft ?_));dsimp only;unfold setsByText;walk_at "pb";walk_at "pf";rw[if_pos h1];refine wpAny_bind (wpAny_askSetting (wpAny_pure ?_));subst h2;rw[YS]at hl;show wpAny (model prog w) _ (pure (((pickOrder (w.params.setOrder a m) es)[((i:Int)).toNat]?).map _)) _ _ s;rw[show((i:Int)).toNat=i from Int.toNat_natCast i,hl];refine wpAny_pure ?_;dsimp only[Option.map_some];walk_at "pk";refine wpAny_bind (wpAny_setField (G9 hi _) rfl (by simp) (wpAny_pure ⟨_,rfl,wpAny_pure ?_⟩));exact two _ (.text h1 rfl)
 | few h1 h2 B y R Z =>
  rename_i k;subst y;rw[YS]at hl;have b:=Tb.ft;rcases Ha B with z |⟨x,z⟩
  ·rw[z]at hl;simp at hl
  ·rw[z]at hl
   have F:i=0:=by
    obtain⟨h,_⟩:=Array.getElem?_eq_some_iff.mp hl;simpa using h
   subst F;obtain rfl:x=e:=by simpa using hl
   obtain rfl:=R rfl
   have r:t.place.size=1:=by
    unfold SetTable.fits at b;rw[z]at b;simp only[YH,beq_iff_eq]at b;exact b.1
   obtain⟨j,K⟩:∃ j,t.place=#[j]:=by
    rcases Ha (by omega:t.place.size<=1)with q | q
    ·rw[q]at r;cases r
    ·exact q
   dsimp only;refine wpAny_bind ?_;unfold setNext;refine wpAny_bind (wpAny_setState_of d hd Tb.ft ?_);dsimp only;unfold setsByText;walk_at "pb";walk_at "pf";rw[if_neg (by rw[h1];decide)];show wpAny (model prog w) _ (if(!t.plain&&decide (es.size > 1))=true then _ else _) _ _ s
   rw[if_neg (by have:¬ es.size > 1:=by omega
                 simp[this])]
   refine wpAny_bind ?_;show wpAny (model prog w) _ (if(!t.led&&!es.isEmpty)=true then _ else pure ()) _ _ s;rw[if_neg (by rw[h2];simp)];refine wpAny_pure ?_;show wpAny (model prog w) _ (pure (match es[SetTable.below t.place 0]?,t.place[SetTable.below t.place 0]? with | some (_,x),some j=>some (x,j+1)| _,_=>none)) _ _ s;rw[K,PC,if_neg (by omega),z];refine wpAny_pure ?_;walk_at "pk";refine wpAny_bind (wpAny_setField (G9 hi _) rfl (by simp) (wpAny_pure ⟨_,rfl,wpAny_pure ?_⟩));refine two _ (.few (k:=j+1) h1 h2 B rfl (λq=>by cases q) λN _ q=>?_);rw[K]at q;have:j=N:=by simpa using q
   omega
end
section
variable {prog:Program} {w:World} {A:Around} {E:Value->Shared->Prop} {s:Shared}
variable {it:Addr}{Q:Option Value->Shared->Prop}
theorem Ko{c:Heap}{R:Fin->Shared->Prop}(f:A.handled=none)(x:Heap.ExtBut it c h1)(d:∀ h',Heap.ExtBut it c h'->Q none {s with heap:=h'}):
  wpAny (model prog w) A.in1 (do let e <- newExc (.type "StopIteration") [];raiseNew e) R (λe s'=>wpAny (model prog w) A (do let b <- isInstance e (.type "StopIteration");if b=true then pure none else throw e) Q E s') {s with heap:=h1}:=by
 refine wpAny_bind ?_;simp only[newExc,newTuple];refine wpAny_bind (wpAny_newObj_type ?_ (by size_fits));refine wpAny_bind (m:=firstArgMember _ _) (wpAny_of_eq (a:=Value.none) (by first | rfl |(simp only[firstArgMember];rfl)) (wpAny_newObj_type ?_ (by size_fits)));simp only[raiseNew];refine wpAny_bind (wpAny_handled ?_);rw[show A.in1.handled=none from f];refine wpAny_bind (wpAny_pure (wpAny_throw ?_));refine wpAny_bind (wpAny_isInstance (T:="StopIteration") (b:=true) ⟨_,Qo _ rfl,rfl⟩ isSubtype_stop ?_);exact wpAny_pure (d _ ((x.push _).push _))
variable {a T:Addr}{es:Array (Int×Value)}{t:SetTable}{ks:List Str}{l:List (Int×Value)}
theorem fA{h:Obj}{g:Nat}{i:Nat}(r:A.handled=none)(I:h.ExactSet)(hd:h.data=.set es g t)(Tb:Tab w es t ks)(S:Wk w it a T h es g t l i s.heap)(hl:l.length=i)(m:es.size=i)
  (o:∀ h',Heap.ExtBut it s.heap h'->Q none {s with heap:=h'}):wpAny (model prog w) A (pyNext (.ref it)) Q E s:=by
 obtain⟨⟨first,hi,M⟩,f⟩:=S;have u:s.TypeIs (.ref it) "set_iterator":=⟨_,hi,rfl⟩;unfold pyNext;refine wpAny_bind (wpAny_attempt (wpAny_callSpecial?_slot (name:=Str.ofString "__next__") u El (wpAny_call_entry El u Px ?_ (Py _))));unfold Builtin.«set_iterator.__next__»;refine wpAny_bind (wpAny_pure (a:=(Value.ref it,([]:List Value))) ?_);refine wpAny_bind (wpAny_fieldsOf hi rfl ?_);dsimp only;refine wpAny_bind (wpAny_setEntries_of f hd Tb.ft ?_);rw[if_neg (by simp)];have B:((i:Int)).toNat=i:=Int.toNat_natCast i;cases M with
 | drawn h1 h2 v F =>
  rename_i ps J c;dsimp only;refine wpAny_bind (wpAny_seqItems h1 h2 ?_);dsimp only
  have G:(ps.map λp:Nat=>rawInt p).toArray[((i:Int)).toNat]?=none:=by
   rw[B];simp;omega
  rw[G];dsimp only;walk_at "pk";refine wpAny_bind (wpAny_setField (G9 hi _) rfl (by simp) ?_);exact Ko r ((Qq s.heap it (Obj.mapFields (·.setIfInBounds 0 (rawInt 0)))).trans (Qq _ it _)).extBut o
 | text h1 h2 =>
  rename_i k;dsimp only;refine wpAny_bind ?_;unfold setNext;refine wpAny_bind (wpAny_setState_of f hd Tb.ft ?_);dsimp only;unfold setsByText;walk_at "pb";walk_at "pf";rw[if_pos h1,if_neg (by simp)];unfold setWalk;refine wpAny_bind (wpAny_bind (wpAny_setState_of f hd Tb.ft ?_));dsimp only;unfold setsByText;walk_at "pb";walk_at "pf";rw[if_pos h1];refine wpAny_bind (wpAny_askSetting (wpAny_pure ?_));show wpAny (model prog w) _ (pure (((pickOrder (w.params.setOrder a g) es)[((i:Int)).toNat]?).map _)) _ _ s
  have D:(pickOrder (w.params.setOrder a g) es)[i]?=none:=by
   rw[<- YS,<- h2];exact Qi (by omega)
  rw[B,D];refine wpAny_pure ?_;dsimp only[Option.map_none];walk_at "pk";exact Ko r (Qq s.heap it _).extBut o
 | few h1 h2 v F K H =>
  rename_i k;have b:=Tb.ft
  have d:es[SetTable.below t.place k]?=none:=by
   refine Array.getElem?_eq_none ?_;rcases Ha v with z |⟨x,z⟩
   ·rw[z];exact YZ _
   ·have e:t.place.size=1:=by
     unfold SetTable.fits at b;rw[z]at b;simp only[YH,beq_iff_eq]at b;exact b.1
    obtain⟨j,y⟩:∃ j,t.place=#[j]:=by
     rcases Ha (by omega:t.place.size<=1)with q | q
     ·rw[q]at e;cases e
     ·exact q
    have n:i=1:=by rw[<- m,z];rfl
    have:=H j n (by rw[y];rfl);rw[y,this,PC,if_pos (by omega),z];exact Yr _
  dsimp only;refine wpAny_bind ?_;unfold setNext;refine wpAny_bind (wpAny_setState_of f hd Tb.ft ?_);dsimp only;unfold setsByText;walk_at "pb";walk_at "pf";rw[if_neg (by rw[h1];decide)];show wpAny (model prog w) _ (if(!t.plain&&decide (es.size > 1))=true then _ else _) _ _ s
  rw[if_neg (by have:¬ es.size > 1:=by omega
                simp[this])]
  refine wpAny_bind ?_;show wpAny (model prog w) _ (if(!t.led&&!es.isEmpty)=true then _ else pure ()) _ _ s;rw[if_neg (by rw[h2];simp)];refine wpAny_pure ?_;show wpAny (model prog w) _ (pure (match es[SetTable.below t.place ((k:Int)).toNat]?,t.place[SetTable.below t.place ((k:Int)).toNat]? with | some (_,x),some j=>some (x,j+1)| _,_=>none)) _ _ s;rw[show((k:Int)).toNat=k from Int.toNat_natCast k,d];refine wpAny_pure ?_;walk_at "pk";exact Ko r (Qq s.heap it _).extBut o
theorem PD:Slot "set_iterator" "__iter__" "set_iterator.__iter__":=.of (owner:="set_iterator") (n:="__iter__") (by rw[typeLookup_type,builtinLookup_eq_fast];kernel_rfl) (by decide +kernel) (by decide +kernel) (by decide +kernel) (by first | exact .inl (by decide +kernel)| exact .inr (by decide +kernel)) (by rw[isSubtype_type];kernel_rfl)
theorem fB:entryFor table "set_iterator.__iter__"=some Builtin.«dict_keyiterator.__iter__»:=entryFor_alias (id':="dict_keyiterator.__iter__") (by kernel_rfl) rfl (by decide +kernel) (by kernel_rfl)
theorem fC(a:Value):argsOk "set_iterator.__iter__" ⟨[a],[]⟩:=by unfold argsOk;kernel_rfl
theorem fD{m:Obj}{r:Nat}(y:A.handled=none)(q:m.ExactSet)(hd:m.data=.set es r t)(Tb:Tab w es t ks)(j:a≠it)(p:T≠it)(hl:l.length=es.size):
  Walks prog w A it [it,a,T] [it] es.size (λi v=>∃ e,l[i]?=some e/\v=e.2) (λi h=>Wk w it a T m es r t l i h) where
 sub:=λb c=>by simp at c;simp[c]
 frame:=λ_ _ _ st g=>by
  obtain⟨⟨first,hi,M⟩,x⟩:=st;exact⟨⟨first,g it (by simp) _ hi,M.at λo e=>g T (by simp) o e⟩,g a (by simp) _ x⟩
 item:=λi s Q E hi st d=>by
  obtain⟨e,u⟩:∃ e,l[i]?=some e:=⟨_,Yp (by omega)⟩;refine fz q hd Tb j p st u λh' W k=>?_;exact d _ h' s.toks ⟨e,u,rfl⟩ W (λb o c z=>k.extBut b o (λh=>c (by simp[h])) z)
 done:=λs Q E st d=>fA y q hd Tb st hl rfl λh' f=>d h' s.toks λb o c e=>f b o (λh=>c (by simp[h])) e
 self:=λ_ s Q E st d=>by
  obtain⟨⟨first,hi,M⟩,x⟩:=st;have n:s.TypeIs (.ref it) "set_iterator":=⟨_,hi,rfl⟩;refine wpAny_pyIter_slot n PD (wpAny_call_entry PD n fB (wpAny_pure ⟨_,rfl,"set_iterator",_,n,El.lookup,d⟩) (fC _))
end
theorem PH{α:Type}{es:Array α}:∀{ys:List Nat},(∀ p∈ys,p < es.size)->(ys.filterMap (es[·]?)).length=ys.length/\∀(j p:Nat),ys[j]?=some p->∃ e,es[p]?=some e/\(ys.filterMap (es[·]?))[j]?=some e
 | [],_=>⟨rfl,λj p h=>by simp at h⟩
 | y::ys,h=>by
  have b:es[y]?=some (es[y]'(h y Ye)):=Qb _;obtain⟨h1,h2⟩:=PH (ys:=ys) λp c=>h p (Yd _ c);rw[List.filterMap_cons,b];refine⟨by simp[h1],λj p a=>?_⟩;cases j with
  | zero =>
   simp only[Yb,Option.some.injEq]at a;subst a;exact⟨_,b,rfl⟩
  | succ j =>
   simp only[Yc]at a ⊢;exact h2 j p a
section
variable {prog:Program} {w:World} {A:Around} {E:Value->Shared->Prop} {s:Shared}
theorem fE{a:Addr}{x:Obj}{es:Array (Int×Value)}{r:Nat}{t:SetTable}{ks:List Str}{Q:Value->Shared->Prop}(f:s.heap.get? a=some x)(I:x.ExactSet)(hd:x.data=.set es r t)(Tb:Tab w es t ks)(J:ks.length < scanBound)
  (h:∀ it T l h' d,s.heap.objs.size<=it->T≠it->(T=a\/s.heap.objs.size<=T)->(∀ c o,s.heap.get? c=some o->h'.get? c=some o)->Wk w it a T x es r t l 0 h'->l.Perm es.toList->T < h'.objs.size->it < h'.objs.size->Q (.ref it) {s with heap:=h',drawn:=d}):wpAny (model prog w) A (pyIter (.ref a)) Q E s:=by
 have H:s.TypeIs (.ref a) "set":=⟨x,f,I.1⟩;have v:a < s.heap.objs.size:=Qn f;have G:=Tb.len;refine wpAny_pyIter_slot H Pw (wpAny_call_entry Pw H fw ?_ (fx _));unfold Builtin.«frozenset.__iter__»;refine wpAny_bind (m:=Builtin.Frozenset.slot0 "__iter__" ⟨[.ref a],[]⟩) (wpAny_pure (a:=a) ?_);refine wpAny_bind (m:=Builtin.Frozenset.sizeOf a) (wpAny_bind (wpAny_setEntries_of f hd Tb.ft (wpAny_pure ?_)));refine wpAny_bind ?_;unfold setDrawn;refine wpAny_bind (wpAny_setState_of f hd Tb.ft ?_);dsimp only;unfold setsByText;walk_at "pb";show wpAny (model prog w) _ (pure (!(bt w)&&(!t.plain&&decide (es.size > 1)))) _ _ s;refine wpAny_pure ?_;by_cases hc:(!(bt w)&&(!t.plain&&decide (es.size > 1)))=true
 ·rw[if_pos hc];refine wpAny_bind (Pz es.size (List.range es.size) s _ (List.length_range) λys d u=>?_);have D:ys.length=es.size:=by rw[u.length_eq,List.length_range]
  refine wpAny_bind (wpAny_newTuple (items:=ys.map λi:Nat=>rawInt i) ?_ (by rw[Yh,D,G];exact fits_of_scanBound J));refine wpAny_bind (wpAny_setEpoch_of (s:={s with heap:=s.heap.push _,drawn:=d}) (Qm _ f) hd Tb.ft ?_);simp only[newFields];refine wpAny_bind (wpAny_newObj_type ?_ (by show(5:Nat)<=sizeLine+2;decide));refine wpAny_pure ⟨_,rfl,"set_iterator",_,⟨_,Qo _ rfl,rfl⟩,El.lookup,?_⟩;obtain⟨b,y⟩:=PH (es:=es) (ys:=ys) λp z=>List.mem_range.mp (u.mem_iff.mp z)
  have g:(ys.filterMap (es[·]?)).Perm es.toList:=by
   have B:=L3.Tb.order_perm es ys.toArray (by simpa using u);simpa using B
  refine h _ s.heap.objs.size (ys.filterMap (es[·]?)) _ d ?_ ?_ (.inr (Yr _)) (λc o e=>Qm _ (Qm _ e)) ⟨⟨_,Qo _ rfl,.drawn (Qm _ (Qo _ rfl)) rfl b.symm y⟩,Qm _ (Qm _ f)⟩ g ?_ ?_
  ·rw[Qp];exact Nat.le_succ _
  ·rw[Qp];exact Ys (Nat.lt_succ_self _)
  ·rw[Qp,Qp];exact Nat.lt_succ_of_lt (Nat.lt_succ_self _)
  ·simp only[Qp];exact Nat.lt_succ_self _
 ·rw[if_neg hc];refine wpAny_bind (wpAny_pure ?_);refine wpAny_bind (wpAny_setEpoch_of f hd Tb.ft ?_);simp only[newFields];refine wpAny_bind (wpAny_newObj_type ?_ (by show(5:Nat)<=sizeLine+2;decide));refine wpAny_pure ⟨_,rfl,"set_iterator",_,⟨_,Qo _ rfl,rfl⟩,El.lookup,?_⟩
  have q:∀ l,l.Perm es.toList->Md w a a es r t l (s.heap.push (Itr (rawInt 0) 0 a es.size r)) (rawInt 0) 0->Q (.ref s.heap.objs.size) {s with heap:=s.heap.push (Itr (rawInt 0) 0 a es.size r)}:=λl u M=>
   h _ a l _ s.drawn (Yr _) (Ys v) (.inl rfl) (λc o e=>Qm _ e) ⟨⟨_,Qo _ rfl,M⟩,Qm _ f⟩ u (by rw[Qp];exact Nat.lt_succ_of_lt v) (by rw[Qp];exact Nat.lt_succ_self _)
  by_cases F:bt w=true
  ·exact q _ (Pt _ _) (.text (k:=0) F rfl)
  ·have n:bt w=false:=by simpa using F
   have h1:es.size<=1:=by
    rw[n]at hc;simp only[YR,Bool.true_and,YH,YU,not_and]at hc;cases b:t.plain with
    | true=>have:=Tb.pl b;subst this;rw[G];decide
    | false=>have:=hc (by rw[b];rfl);omega
   exact q es.toList (List.Perm.refl _) (.few (k:=0) n (Tb.ld n) h1 rfl (λ_=>rfl) λj z=>by cases z)
end
theorem fF:Slot "set" "__len__" "set.__len__":=.of (owner:="set") (n:="__len__") (by rw[typeLookup_type,builtinLookup_eq_fast];kernel_rfl) (by decide +kernel) (by decide +kernel) (by decide +kernel) (by first | exact .inl (by decide +kernel)| exact .inr (by decide +kernel)) (by rw[isSubtype_type];kernel_rfl)
section
variable {prog:Program} {w:World} {A:Around} {E:Value->Shared->Prop} {s:Shared}
variable {a:Addr}
theorem fG{Q:Bool->Shared->Prop}(b:s.TypeIs (.ref a) "set")(q:Q false s):wpAny (model prog w) A (Builtin.List.listLengthHint (.ref a)) Q E s:=by
 unfold Builtin.List.listLengthHint;refine wpAny_bind (wpAny_specialOf b fF.lookup ?_);have c:splitId "set.__len__"=some ("set","__len__"):=by kernel_rfl
 dsimp only;rw[c];dsimp only;refine wpAny_bind (wpAny_isInstance b sub_set_self ?_);rw[if_neg (by decide)];show wpAny (model prog w) A (if _=true then _ else _) Q E s;rw[if_pos (by decide +kernel)];refine wpAny_bind (wpAny_typeOf b ?_);exact wpAny_pure q
variable {ks:List Str}
theorem fH{Q:List Value->Shared->Prop}(hh:A.handled=none)(hS:SS w s.heap a ks)(hn:ks.length < scanBound)
  (h:∀(s':Shared)(vs:List Value)(xs:List Str),StrsAre vs xs->xs.Perm ks->(∀ c o,c < s.heap.objs.size->s.heap.get? c=some o->s'.heap.get? c=some o)->s'.gens=s.gens->s'.os=s.os->s.heap.objs.size<=s'.heap.objs.size->Q vs s'):wpAny (model prog w) A (collect (.ref a)) Q E s:=by
 have p:=hS;obtain⟨R,es,ep,t,ho,N,hd,T⟩:=hS;have hz:=T.len;have z:a < s.heap.objs.size:=Qn ho;unfold collect;refine wpAny_bind (wpAny_runValue (codeAny_builtin PySem.F.entry_proto_collect ?_));rw[Around.under_plainId PySem.F.plain_proto_collect _];refine wpAny_bind (m:=newList []) (wpAny_newList ?_ (YZ _));refine wpAny_pure ⟨plainId_quiet PySem.F.plain_list_iadd _,codeAny_builtin PySem.F.entry_list_iadd ?_⟩;rw[Around.under_plainId PySem.F.plain_list_iadd _];have g:s.heap.objs.size≠a:=Qa (Ys z);have I:(s.heap.push (seqObj "list" #[] 0)).get? a=some R:=Qm _ ho;have U:Shared.TypeIs {s with heap:=s.heap.push (seqObj "list" #[] 0)} (.ref a) "set":=⟨R,I,N.1⟩;refine(?_:wpAny (model prog w) A.in1 (Builtin.List.listExtendWith (.ref s.heap.objs.size) (.ref a) (.ref s.heap.objs.size)) _ _ {s with heap:=s.heap.push (seqObj "list" #[] 0)});unfold Builtin.List.listExtendWith;refine wpAny_bind (wpAny_typeOf U ?_);have c1:Builtin.List.listSameRef (.ref s.heap.objs.size) (.ref a)=false:=by simp[Builtin.List.listSameRef,g]
 have c2:(Value.type "set"==Value.type "list")=false:=by decide
 have c3:(Value.type "set"==Value.type "tuple")=false:=by decide
 simp only[c1,c2,c3,Bool.or_false,Yq,if_false];refine wpAny_bind (fE I N hd T hn λO Tp l h' d H K hTa keep W Z hTl hil=>?_);obtain⟨⟨first,hi,M⟩,r⟩:=id W;have hT2:Shared.TypeIs {s with heap:=h',drawn:=d} (.ref a) "set":=⟨R,r,N.1⟩;refine wpAny_bind (wpAny_holding (fG hT2 ?_));refine(?_:wpAny (model prog w) A.in1 (rule "list.extend.makes-room" >>=λ_=>Builtin.List.listTouch (.ref s.heap.objs.size) >>=λ_=>again (.builtin "list.extend.loop" ⟨[.ref s.heap.objs.size,.ref O,.ref s.heap.objs.size],[]⟩)) _ _ {s with heap:=h',drawn:=d});refine wpAny_bind (wpAny_rule ?_);have G:h'.get? s.heap.objs.size=some (seqObj "list" #[] 0):=keep _ _ (Qo _ rfl);refine wpAny_bind (m:=Builtin.List.listTouch (.ref s.heap.objs.size)) (wpAny_bind (m:=updateSeq s.heap.objs.size (·.push .none)) (wpAny_updateSeq (s:={s with heap:=h',drawn:=d}) G rfl ?_));have y:=Qr (Obj.mapSeq (·.push Value.none)) G rfl;refine(?_:wpAny (model prog w) A.in1 (updateSeq s.heap.objs.size (·.pop)) _ _ _);refine wpAny_updateSeq y rfl ?_;have hS3:=Qr (Obj.mapSeq (·.pop)) y rfl;have f:s.heap.objs.size < O:=by rw[Qp]at H;exact H
 have D:s.heap.objs.size≠Tp:=by
  rcases hTa with e | e
  ·rw[e];exact g
  ·rw[Qp]at e;exact Ys e
 have S:s.heap.objs.size∉[O,a,Tp]:=by
  walk_at "pe";exact⟨Ys f,g,D⟩
 have hai:a≠O:=Ys (Nat.lt_trans z f);have J:l.length=es.size:=by rw[Z.length_eq,YX]
 have WS:=(fD (prog:=prog) (w:=w) (A:=A.in1) (by simp[hh]) N hd T hai K J).toS
 have j:∀ b o,b≠s.heap.objs.size->h'.get? b=some o->((h'.update s.heap.objs.size (Obj.mapSeq (·.push Value.none))).update s.heap.objs.size (Obj.mapSeq (·.pop))).get? b=some o :=
  λb o q e=>(Heap.get?_update_other _ _ (Qa q)).trans ((Heap.get?_update_other _ _ (Qa q)).trans e)
 refine wpAny_pure ⟨plainId_quiet PySem.F.plain_extend_loop _,codeAny_extend_loopS WS (fits_of_scanBound (by rw[hz];exact hn)) _ S _ es.size 0 _ _ _ rfl (YZ _)
  ⟨⟨first,j _ _ (Qa (Ys f)) hi,M.at λo e=>j _ _ (Qa D) e⟩,j _ _ (Qa g) r⟩ hS3 (ItemsOf.nil _) λs' n c Y p k=>?_⟩
 refine wpAny_bind (m:=load s.heap.objs.size) (wpAny_load p (wpAny_pure ?_))
 have hvs:n.toList=l.map (·.2):=by
  apply List.ext_getElem?;intro i;rw[YT,YS];by_cases L:i < n.size
  ·obtain⟨e,P,X⟩:=k.2 i _ (Qb L);rw[Qb L,P,X];rfl
  ·rw[Array.getElem?_eq_none (by omega),Qi (by rw[J,<- k.1];omega)];rfl
 have B:∀ v∈l.map (·.2),∃ x t,v=Value.str x t:=λv X=>by
  obtain⟨e,P,rfl⟩:=YC.mp X;obtain⟨x,u,rfl⟩:=T.el e (Z.mem_iff.mp P);exact⟨x,u,rfl⟩
 refine h s' n.toList ((l.map (·.2)).map strOf) (by rw[hvs];exact strsAre_map _ B) ?_ (λb o q e=>?_) Y.gens Y.os ?_
 ·rw[YB];exact((Z.map _).trans T.pm)
 ·refine Y.heap b o ?_ (j b o (Ys q) (keep b o (Qm _ e)));walk_at "pe";exact⟨Ys q,Ys (Nat.lt_trans q f)⟩
 ·exact YL (Qn p)
theorem fI{Q:Value->Shared->Prop}(G:A.handled=none)(B:SS w s.heap a ks)(D:ks.length < 64)
  (h:∀(s':Shared)(p:Addr)(vs:List Value)(xs:List Str)(e:Nat),s.heap.objs.size<=p->s'.heap.get? p=some (seqObj "list" vs.toArray e)->StrsAre vs xs->xs.Perm ks->sortedS xs=true->(∀ c o,c < s.heap.objs.size->s.heap.get? c=some o->s'.heap.get? c=some o)->s'.gens=s.gens->s'.os=s.os->Q (.ref p) s'):
  wpAny (model prog w) A (call (.builtin "sorted") [.ref a]) Q E s:=by
 refine Calls.call_function_entry kind_sorted plain_sorted entry_sorted (args_sorted1 _) ?_;unfold Builtin.«sorted»;refine wpAny_bind (m:=checkCount "sorted" 1 1 _) (wpAny_pure ?_);refine wpAny_bind (fH (by simp[G]) B (by unfold scanBound;omega) λi vs xs g v keep H u d=>?_);have t:vs.length < 64:=by rw[g.length,v.length_eq];exact D
 refine wpAny_bind (wpAny_newList ?_ (by have:(64:Nat)<=sizeLine:=by decide
                                         omega))
 have b:(i.heap.push (seqObj "list" vs.toArray 0)).get? i.heap.objs.size=some (seqObj "list" vs.toArray 0):=Qo _ rfl;refine wpAny_bind (wpAny_holding (wpAny_call_entry slot_list_sort ⟨_,b,rfl⟩ entry_list_sort (list_sort_treeK (s:={i with heap:=i.heap.push (seqObj "list" vs.toArray 0)}) strKind_oneLt b g.keysOf (λJ I r e=>keyKind_strs (by rw[<- e];exact g)) t λf F x=>⟨_,rfl,?_⟩) (args_list_sort _)));obtain⟨j,k,l,q⟩:=sorted_out_str g F x;obtain⟨e,y⟩:=sortedHeap_at (n:=0) (vs:=vs) (out:=(arrOf f).map (·.2)) b;refine wpAny_pure ⟨_,rfl,h _ _ ((arrOf f).map (·.2)).toList j e d (by rw[Array.toArray_toList];exact y) k (l.trans v) q (λc o hc z=>?_) H u⟩;rw[sortedHeap_old (Ys (Yu hc d)) (by rw[Qp];exact Nat.lt_succ_of_lt (Yu hc d))];exact Qm _ (keep c o hc z)
end
end L3
namespace L3
open PySem PySem.Spec PyProof.Rows L2
variable {K:PySem.W.Frag} {H H' H2:Hp}
theorem PJ:∀{xs:List Str}{a:List Value},Vals (xs.map V.str) a->StrsAre a xs
 | [],_,.nil=>.nil
 | x::xs,_,.cons r b=>by
  obtain⟨t,rfl⟩:=r;exact .cons x t (PJ b)
theorem PK:∀{xs:List Str}{a:List Value},StrsAre a xs->Vals (xs.map V.str) a
 | [],_,.nil=>.nil
 | x::xs,_,.cons _ t b=>.cons ⟨t,rfl⟩ (PK b)
theorem EX{α:Type}[BEq α][LawfulBEq α]:∀{ks xs:List α},ks.Nodup->(∀ x∈ks,x∈xs)->ks.length<=xs.length
 | [],xs,_,_=>YZ _
 | k::ks,xs,d,h=>by
  have c:=YW.mp d;have a:k∈xs:=h k Ye;have h1:=EX (xs:=xs.erase k) c.2 λx b=>(List.mem_erase_of_ne (λe=>c.1 (by rw[<- e];exact b))).mpr (h x (Yd _ b));rw[List.length_erase_of_mem a]at h1;have:0 < xs.length:=List.length_pos_of_mem a;rw[Yg];omega
section
variable {X:Cx} {e eb:Expr} {p1 p2 p3 q1 q2 q3 qb:Pos} {ta tb:TE}
theorem Hb{A:Around}{E:Value->Shared->Prop}{s:Shared}{Q:List Value->Shared->Prop}(b:starEach [e] X.env=(false,eval e X.env)::starEach [] X.env)(h:wpAny (model X.prog X.w) A (eval e X.env) (λv a=>Q [v] a) E s):wpAny (model X.prog X.w) A (spliced (backTo pos (starEach [e] X.env))) Q E s:=by
 rw[b];refine Calls.spliced_cons (wpAny_mono h (λv a q=>?_) λ_ _ z=>z);exact Calls.spliced_nil q
theorem PL:∀{xs:List Str}{vs:List V},TrL K H vs (xs.map W.str)->vs=xs.map V.str
 | [],_,.nil=>rfl
 | x::xs,_,.cons t a=>by
  cases t;rw[PL a];rfl
theorem PM:∀(xs:List Str),TrL K H (xs.map V.str) (xs.map W.str)
 | []=>.nil
 | x::xs=>.cons (.str x) (PM xs)
end
end L3
namespace L3
open PySem PySem.Spec PyProof.Rows L2
def BM{α:Type}(kvs:List (Key×α))(x:Str)(d:α):α:=((kvs.find? λy=>decide (y.1=Sum.inr x)).map (·.2)).getD d
theorem FL{α:Type}{k:Key}{v d:α}{a:List (Key×α)}{x:Str}:BM ((k,v)::a) x d=if k=Sum.inr x then v else BM a x d:=by
 unfold BM;rw[List.find?_cons];by_cases h:k=Sum.inr x
 ·simp[h]
 ·simp[h]
theorem PN{x:Str}{d:V}{r:Value}(c:RelV d r):∀{a:List (Key×V)}{vs:List (Key×Value)},KV a vs->RelV (BM a x d) ((valueAt vs (Sum.inr x)).getD r)
 | _,_,.nil=>c
 |(k,v)::a,(f,i)::vs,.cons ⟨e,g⟩ t=>by
  have b:=PN (x:=x) c t;cases(show k=f from e);rw[FL];unfold valueAt at b ⊢;rw[List.find?_cons];by_cases h:k=Sum.inr x
  ·simp[h];exact g
  ·simp[h];exact b
theorem PP{K:PySem.W.Frag}{H:Hp}{x:Str}{d:V}{w:W}(b:Tr K H d w):∀{vs:List (Key×V)}{a:List (Key×W)},TrP K H vs a->Tr K H (BM vs x d) (BM a x w)
 | _,_,.nil=>b
 |(k,v)::vs,(_,u)::a,.cons tv t=>by
  rw[FL,FL];split
  ·exact tv
  ·exact PP b t
def Kp(o:W)(ws:List W)(G:Hw)(Q:Kw):Prop:=∃ p kvs x d,o=.ref p/\ws=[.str x,d]/\G p=some (.dct kvs)/\Q (BM kvs x d) G
def Kq(o:W)(G:Hw):Prop:=∃ p kvs,o=.ref p/\G p=some (.dct kvs)
variable {X:Cx}
theorem fJ:MtR X "dict.get" (λv vs H Q=>∃ p a x d,v=.ref p/\vs=[.str x,d]/\H p=some (.dK a)/\Q (BM a x d) H):=by
 intro pins s σ H x vs v j Q I g f h;obtain⟨p,a,x,d,rfl,rfl,i,q⟩:=h;cases g;cases f with
 | cons r1 t =>
  cases t with
  | cons e t =>
   cases t;obtain⟨t,rfl⟩:=r1;obtain⟨z,hd,vs,b,c⟩:a.length<=sizeLine/\(p==sysModules)=false/\∃ vs,KV a vs/\s.heap.DictOf (A6 X.prog X.w) p vs:=I.hok p _ i;refine call_meetsIn PySem.F.slot_dict_get c.typeIs PySem.F.entry_dict_get (PySem.F.args_dict_get_3 _ _ _) (meets_dict_get_default (A6 X.prog X.w) p (k:=Sum.inr x) (by simp[A6,C1,Value.isStrOf]) hd _) ⟨_,c.mapOf,?_⟩;exact⟨_,H,I.tok _,PN e b,q⟩
theorem fK:Mth X "dict" "get" "dict.get" Kq Kp where
 pa:=PySem.F.plainAttrs_dict
 slot:=PySem.F.slot_dict_get
 ty:=PySem.F.type_dict_get
 ex:=⟨_,fJ,λo g v s G H Q tv b r q=>by
  obtain⟨p,a,x,d,rfl,rfl,e,q⟩:=q;cases tv;cases b with
  | cons k t =>
   cases t with
   | cons j t =>
    cases t;cases k;obtain⟨f,c,l⟩:=r p _ e;exact⟨p,f,x,_,rfl,rfl,c,q _ _ .refl (PP j l) r⟩⟩
 pr:=λo v G H t r h=>by
  obtain⟨p,a,rfl,e⟩:=h;cases t;obtain⟨f,c,l⟩:=r p _ e;exact .inr (.inr (.inl ⟨rfl,.inl ⟨f,c⟩⟩))
 m:=(by rintro o g G Q n h ⟨p,a,x,d,h1,h2,i,q⟩;exact⟨p,a,x,d,h1,h2,i,h _ _ q⟩)
inductive PV(K:PySem.W.Frag)(H:Hp):List V->List (Str×V)->Prop where
 | nil:PV K H [] []
 | cons {q:Addr} {x:Str} {v:V} {ys:List V} {pv:List (Str×V)}:SqT K H q [.str x,v]->PV K H ys pv->PV K H (.ref q::ys) ((x,v)::pv)
theorem PQ{K:PySem.W.Frag}{H:Hp}:∀{a:List (Str×W)}{vs:List V},TrL K H vs (a.map λy=>.tup [.str y.1,y.2])->∃ pv,PV K H vs pv/\TrP K H pv a
 | [],_,.nil=>⟨[],.nil,.nil⟩
 |(x,w)::a,_,.cons t r=>by
  obtain⟨pv,h1,h2⟩:=PQ r;cases t with
  | tup c l =>
   cases l with
   | cons d l =>
    cases l with
    | cons b l =>
     cases l;cases d;exact⟨(x,_)::pv,.cons c h1,.cons b h2⟩
theorem PR{K:PySem.W.Frag}{H:Hp}:∀{pv:List (Str×V)}{a:List (Str×W)},TrP K H pv a->TrP K H (pv.map λy=>((Sum.inr y.1:Key),y.2)) (a.map λy=>((Sum.inr y.1:Key),y.2))
 | _,_,.nil=>.nil
 | _,_,.cons t r=>.cons t (PR r)
theorem Kr{K:PySem.W.Frag}{H:Hp}:∀{pv:List (Str×V)}{a:List (Str×W)},TrP K H pv a->pv.map (·.1)=a.map (·.1)
 | _,_,.nil=>rfl
 | _,_,.cons t r=>by rw[Ym,Ym,Kr r]
theorem PU{X:Cx}{H:Hp}{s:Shared}(I:Inv X pins σ H s):∀{ys:List V}{pv:List (Str×V)}{a:List Value},PV X.K H ys pv->Vals ys a->
  ∃ ps:List (Str×Value),KV (pv.map λy=>((Sum.inr y.1:Key),y.2)) (ps.map λy=>((Sum.inr y.1:Key),y.2))/\ps.map (·.1)=pv.map (·.1)/\ps.length=a.length/\∀(j:Nat)(v:Value),a[j]?=some v->∃ p t y,v=.ref p/\ps[j]?=some y/\s.heap.IsTuple p #[.str y.1 t,y.2]
 | _,_,_,.nil,r=>by
  cases r;exact⟨[],.nil,rfl,rfl,λj v h=>by simp at h⟩
 | _,_,_,.cons (q:=q) (x:=x) (v:=v) (pv:=pv) e h,r=>by
  cases r with
  | cons r1 f =>
   obtain⟨ps,h1,h2,d,g⟩:=PU I h f;cases(show _=Value.ref q from r1);obtain⟨o,i,pt,_⟩:=I.tuple e;cases i with
   | cons n t =>
    cases t with
    | cons c t =>
     cases t;obtain⟨t,rfl⟩:=n;refine⟨(x,_)::ps,.cons ⟨rfl,c⟩ h1,by rw[Ym,Ym,h2],by rw[Yg,Yg,d],λj u b=>?_⟩;cases j with
     | zero =>
      rw[Yb]at b;cases b;exact⟨q,t,_,rfl,Yb,pt⟩
     | succ j =>
      rw[Yc]at b;obtain⟨p,t',y,m,l,k⟩:=g j u b;exact⟨p,t',y,m,by rw[Yc];exact l,k⟩
section
variable {X:Cx} {e:Expr} {p1 p3 q1 q3:Pos} {ta:TE}
end
section
variable {prog:Program} {w:World} {A:Around} {E:Value->Shared->Prop} {s:Shared}
end
end L3
namespace L3
open PySem PySem.Spec PyProof.Rows L2
variable {K:PySem.W.Frag} {H H' H2:Hp}
section
variable {prog:Program} {w:World} {A:Around} {E:Value->Shared->Prop} {s:Shared}
theorem tat{h h':Heap}{a t:Addr}{i:Nat}(x:h.IsTupleIter a t i)(k:∀ o,h.get? a=some o->h'.get? a=some o):h'.IsTupleIter a t i:=by
 obtain⟨o,e,r⟩:=x;exact⟨o,k o e,r⟩
end
end L3
namespace L3
open PySem PySem.Spec PyProof.Rows L2
abbrev FM(h:Heap)(T:Addr)(a b c:Value):Prop:=h.get? T=some {cls:=.type "tuple",data:=.seq #[a,b,c]}
section
variable {prog:Program} {w:World} {A:Around} {E:Value->Shared->Prop} {s:Shared}
def St3(n l1 l2 l3:Nat)(f0:Value)(i:Nat)(h:Heap):Prop:=IsZip h (n+5) (n+3) (n+4) f0/\FM h (n+3) (.ref n) (.ref (n+1)) (.ref (n+2))/\(∃ a b c,FM h (n+4) a b c)/\h.IsListIter n l1 i/\h.IsListIter (n+1) l2 i/\h.IsListIter (n+2) l3 i
end
end L3
namespace L3
open PySem PySem.Spec PyProof.Rows L2
variable {K:PySem.W.Frag} {H H' H2:Hp}
section
variable {prog:Program} {w:World} {A:Around} {E:Value->Shared->Prop} {s:Shared}
theorem St3.at{n m j g:Nat}{l:Value}{i:Nat}{h h':Heap}(st:St3 n m j g l i h)(k:∀(c:Nat)o,n<=c->c<=n+5->h.get? c=some o->h'.get? c=some o):St3 n m j g l i h':=by
 obtain⟨s,d,⟨a,b,c,f⟩,p,r,q⟩:=st;exact⟨k _ _ (by omega) (by omega) s,k _ _ (by omega) (by omega) d,⟨a,b,c,k _ _ (by omega) (by omega) f⟩,p.at λo e=>k _ o (by omega) (by omega) e,r.at λo e=>k _ o (by omega) (by omega) e,q.at λo e=>k _ o (by omega) (by omega) e⟩
end
def FN(w:W):Bool:=match w with | .non=>true | _=>false
def isF(neg:Bool)(x y:W)(_:Hw):Option W:=match y with | .non=>some (.bl (FN x != neg))| _=>none
theorem PX{v:V}{x:W}(t:Tr K H v x):decide (v=.non)=FN x:=by cases t <;> rfl
theorem fL{u:V}(t:Tr K H u .non):u=.non:=by cases t;rfl
theorem PY(a:Bool)(x y:W)(v u:V)(G:Hw)(H:Hp)(Q:VK)(c:Tr K H v x)(ty:Tr K H u y)(r:RelH K H G)(q:Ae (isF a) x y G (dn K H Q)):u=.non/\Q (.bl (FN x != a)) H:=by
 obtain⟨w,e,b⟩:=Cd q;cases y with
 | non=>cases e;exact⟨fL ty,b _ H .refl (.bl _) r⟩
 | _=>cases e
variable {X:Cx}
theorem Ks:Cop X .Is (Ae (isF false)):=⟨⟨_,Zy,λx y v u G H Q a ty r q=>by
 obtain⟨h1,h2⟩:=PY false x y v u G H Q a ty r q;refine⟨h1,?_⟩;rw[PX a];simpa using h2⟩,CG⟩
theorem PZ:Cop X .IsNot (Ae (isF true)):=⟨⟨_,Zz,λx y v u G H Q a ty r q=>by
 obtain⟨h1,h2⟩:=PY true x y v u G H Q a ty r q;refine⟨h1,?_⟩;rw[PX a];simpa using h2⟩,CG⟩
section
variable {prog:Program} {w:World} {A:Around} {E:Value->Shared->Prop} {s:Shared}
end
section
variable {prog:Program} {w:World} {A:Around} {E:Value->Shared->Prop} {s:Shared}
end
section
variable {prog:Program} {w:World} {A:Around} {E:Value->Shared->Prop} {s:Shared}
end
end L3
namespace L3
open PySem PySem.Spec PyProof.Rows L2
abbrev fM(h:Heap)(z TI TO:Addr)(f0:Value)(b:Bool):Prop:=h.get? z=some {cls:=.type "zip",dict:=none,data:=.fields #[f0,.bool b,.bool false,.ref TI,.ref TO],slots:=#[]}
section
variable {prog:Program} {w:World} {A:Around} {E:Value->Shared->Prop} {s:Shared}
def Hd3(n l1 l2 l3 i:Nat)(h:Heap):Prop:=(∃(T:Nat)(o:Obj)(b:Bool),fM h (n+5) (n+3) (n+4) (rawInt T) b/\h.get? T=some o/\(T < n\/n+5 < T))/\FM h (n+3) (.ref n) (.ref (n+1)) (.ref (n+2))/\h.IsListIter n l1 i/\h.IsListIter (n+1) l2 i/\h.IsListIter (n+2) l3 i
def Cm3(n l1 l2 l3 i:Nat)(h:Heap):Prop:=(i=0/\St3 n l1 l2 l3 .none 0 h)\/Hd3 n l1 l2 l3 i h
theorem Cm3.zip{n e d c i:Nat}{h:Heap}(st:Cm3 n e d c i h):∃ o,h.get? (n+5)=some o/\o.cls=.type "zip":=by
 rcases st with⟨_,st⟩| st
 ·exact⟨_,st.1,rfl⟩
 ·obtain⟨⟨T,o,b,a,_⟩,_⟩:=st;exact⟨_,a,rfl⟩
end
section
variable {prog:Program} {w:World} {A:Around} {E:Value->Shared->Prop} {s:Shared}
end
end L3
namespace L3
open PySem PySem.Spec PyProof.Rows L2
variable {K:PySem.W.Frag} {H H' H2:Hp}
theorem P0:∀ ts:List Addr,Vals (ts.map V.ref) (ts.map Value.ref)
 | []=>.nil
 | _::ts=>.cons rfl (P0 ts)
section
variable {prog:Program} {w:World} {A:Around} {E:Value->Shared->Prop} {s:Shared}
def St3M(n l1 l2 l3:Nat)(f0:Value)(i:Nat)(h:Heap):Prop:=IsZip h (n+5) (n+3) (n+4) f0/\FM h (n+3) (.ref n) (.ref (n+1)) (.ref (n+2))/\(∃ a b c,FM h (n+4) a b c)/\h.IsListIter n l1 i/\h.IsTupleIter (n+1) l2 i/\h.IsTupleIter (n+2) l3 i
theorem St3M.at{n m j g:Nat}{l:Value}{i:Nat}{h h':Heap}(st:St3M n m j g l i h)(k:∀(c:Nat)o,n<=c->c<=n+5->h.get? c=some o->h'.get? c=some o):St3M n m j g l i h':=by
 obtain⟨s,d,⟨a,b,c,f⟩,p,r,q⟩:=st;exact⟨k _ _ (by omega) (by omega) s,k _ _ (by omega) (by omega) d,⟨a,b,c,k _ _ (by omega) (by omega) f⟩,p.at λo e=>k _ o (by omega) (by omega) e,tat r λo e=>k _ o (by omega) (by omega) e,tat q λo e=>k _ o (by omega) (by omega) e⟩
end
end L3
namespace L3
open PySem PySem.Spec PyProof.Rows L2
end L3
namespace L3
open PySem PySem.Spec PyProof.Rows L2
variable {K:PySem.W.Frag} {H H' H2:Hp}
def atT{α:Type}(kvs:List (Key×α))(x:Str):Option α:=(kvs.find? λy=>decide (y.1=Sum.inr x)).map (·.2)
variable {k:Key}
theorem Hd{α:Type}{v:α}{a:List (Key×α)}{x:Str}:atT ((k,v)::a) x=if k=Sum.inr x then some v else atT a x:=by
 unfold atT;rw[List.find?_cons];by_cases h:k=Sum.inr x
 ·simp[h]
 ·simp[h]
theorem Kt{x:Str}:∀{a:List (Key×V)}{vs:List (Key×Value)},KV a vs->(atT a x=none/\valueAt vs (Sum.inr x)=none)\/∃ v u,atT a x=some v/\valueAt vs (Sum.inr x)=some u/\RelV v u
 | _,_,.nil=>.inl ⟨rfl,rfl⟩
 |(k,v)::a,(c,f)::vs,.cons ⟨e,d⟩ t=>by
  have b:=Kt (x:=x) t;cases(show k=c from e);rw[Hd];unfold valueAt at b ⊢;rw[List.find?_cons];by_cases h:k=Sum.inr x
  ·simp only[h,if_true,decide_true];exact .inr ⟨v,f,rfl,rfl,d⟩
  ·simp only[h,if_false,decide_false];exact b
theorem Ku{x:Str}:∀{vs:List (Key×V)}{a:List (Key×W)},TrP K H vs a->(atT vs x=none/\atT a x=none)\/∃ v w,atT vs x=some v/\atT a x=some w/\Tr K H v w
 | _,_,.nil=>.inl ⟨rfl,rfl⟩
 |(k,v)::vs,(_,u)::a,.cons tv t=>by
  rw[Hd,Hd];by_cases h:k=Sum.inr x
  ·rw[if_pos h,if_pos h];exact .inr ⟨_,_,rfl,rfl,tv⟩
  ·rw[if_neg h,if_neg h];exact Ku t
def P1(neg:Bool):R2:=λx y H Q=>∃ p kvs z,x=.str z/\y=.ref p/\H p=some (.dK kvs)/\Q (.bl ((atT kvs z).isSome != neg)) H
variable {X:Cx}
theorem fN:OpR X (compareOp .NotIn) (P1 true):=by
 intro pins s σ H x y v u Q I g j h;obtain⟨p,a,z,rfl,rfl,i,q⟩:=h;obtain⟨t,rfl⟩:=g;cases j;obtain⟨_,hd,c,b,f⟩:a.length<=sizeLine/\(p==sysModules)=false/\∃ c,KV a c/\s.heap.DictOf (A6 X.prog X.w) p c:=I.hok p _ i;refine wpAny_notIn_of (knd:=A6 X.prog X.w) (k:=Sum.inr z) (by simp[A6,C1,Value.isStrOf]) hd f.mapOf ⟨.bl _,H,I.tok _,?_,q⟩;rcases Kt (x:=z) b with⟨e,d⟩|⟨v,u,e,d,_⟩ <;> rw[e,d] <;> rfl
def inK(neg:Bool)(x y:W)(G:Hw):Option W:=match x,y with
 | .str z,.ref p=>(match G p with | some (.dct kvs)=>some (.bl ((atT kvs z).isSome != neg))| _=>none)
 | _,_=>none
theorem fO(a:Bool)(x y:W)(v u:V)(G:Hw)(H:Hp)(Q:VK)(i:Tr K H v x)(ty:Tr K H u y)(r:RelH K H G)(q:Ae (inK a) x y G (dn K H Q)):P1 a v u H Q:=by
 obtain⟨w,e,h⟩:=Cd q;unfold inK at e;split at e
 ·rename_i z p;split at e
  ·rename_i c g;cases e;cases i;cases ty;obtain⟨f,b,l⟩:=r p _ g;refine⟨p,f,z,rfl,rfl,b,?_⟩;have:(atT f z).isSome=(atT c z).isSome:=by rcases Ku (x:=z) l with⟨b,d⟩|⟨v,u,b,d,_⟩ <;> rw[b,d] <;> rfl
   rw[this];exact h _ H .refl (.bl _) r
  ·cases e
 ·cases e
theorem P3:Cop X .NotIn (Ae (inK true)):=⟨⟨_,fN,fO true⟩,CG⟩
def P4:R2:=λx y H Q=>∃ p kvs z v,x=.ref p/\y=.str z/\H p=some (.dK kvs)/\atT kvs z=some v/\Q v H
theorem fP:IxR X P4:=by
 intro value e pins s σ H x y v u Q I m o h l;obtain⟨p,a,z,v,rfl,rfl,n,b,q⟩:=h;cases m;obtain⟨t,rfl⟩:=o;obtain⟨_,hd,d,c,g⟩:a.length<=sizeLine/\(p==sysModules)=false/\∃ d,KV a d/\s.heap.DictOf (A6 X.prog X.w) p d:=I.hok p _ n;rcases Kt (x:=z) c with⟨f,_⟩|⟨A,u,f,i,j⟩
 ·rw[f]at b;cases b
 ·rw[f]at b;cases b;refine subscriptTail_builtinR (x:=u) g.typeIs PySem.F.slot_dict_getitem.lookup ?_ l;exact wpAny_getItem_of (knd:=A6 X.prog X.w) (k:=Sum.inr z) (Q:=λr s'=>r=u/\EP X pins σ Q r s') (by simp[A6,C1,Value.isStrOf]) g.mapOf i ⟨rfl,_,H,I.tok _,j,q⟩
def ixK(x y:W)(G:Hw):Option W:=match x,y with
 | .ref p,.str z=>(match G p with | some (.dct kvs)=>atT kvs z | _=>none)
 | _,_=>none
theorem fQ(x y:W)(v u:V)(G:Hw)(H:Hp)(Q:VK)(h:Tr K H v x)(ty:Tr K H u y)(r:RelH K H G)(q:Ae ixK x y G (dn K H Q)):P4 v u H Q:=by
 obtain⟨w,e,d⟩:=Cd q;unfold ixK at e;split at e
 ·rename_i p z;split at e
  ·rename_i c b;cases h;cases ty;obtain⟨i,g,l⟩:=r p _ b;rcases Ku (x:=z) l with⟨_,a⟩|⟨v,u,a,f,tv⟩
   ·rw[a]at e;cases e
   ·rw[f]at e;cases e;exact⟨p,i,z,v,rfl,rfl,g,a,d _ H .refl tv r⟩
  ·cases e
 ·cases e
variable {pos:Pos}
theorem fR{a b:Expr}{ga:GE}(e:Gy b)(c:Em X a ga)(d:Em X b gb):Em X (.Subscript a b pos) (Ad (Ae ixK) ga gb):=⟨N2 fP CG c.m d.m fQ c.p d.p e,Cb CG c.m d.m⟩
def BN{α:Type}(kvs:List (Key×α))(k:Key)(v:α):List (Key×α):=if kvs.any (λkv=>decide (kv.1=k))then kvs.map (λkv=>if kv.1=k then(kv.1,v)else kv)else kvs++[(k,v)]
theorem fS{α:Type}(a:List (Key×α))(k:Key)(v:α):(BN a k v).length<=a.length+1:=by unfold BN;split <;> simp
theorem P5{k:Key}:∀{a:List (Key×V)}{vs:List (Key×Value)},KV a vs->a.any (λkv=>decide (kv.1=k))=vs.any (λkv=>decide (kv.1=k))
 | _,_,.nil=>rfl
 | _,_,.cons ⟨e,_⟩ t=>by rw[List.any_cons,List.any_cons,P5 t,e]
theorem P6{k:Key}{v:V}{u:Value}(r:RelV v u):∀{c:List (Key×V)}{vs:List (Key×Value)},KV c vs->KV (c.map λkv=>if kv.1=k then(kv.1,v)else kv) (vs.map λkv=>if kv.1=k then(kv.1,u)else kv)
 | _,_,.nil=>.nil
 |(a,x)::_,(b,y)::_,.cons ⟨e,d⟩ t=>by
  cases(show a=b from e);rw[Ym,Ym];refine .cons ?_ (P6 r t);by_cases h:a=k
  ·rw[if_pos h,if_pos h];exact⟨rfl,r⟩
  ·rw[if_neg h,if_neg h];exact⟨rfl,d⟩
theorem P7{k:Key}{v:V}{u:Value}(r:RelV v u):∀{a:List (Key×V)}{vs:List (Key×Value)},KV a vs->KV (a++[(k,v)]) (vs++[(k,u)])
 | _,_,.nil=>.cons ⟨rfl,r⟩ .nil
 | _,_,.cons h t=>.cons h (P7 r t)
variable {v:V}
theorem fT{u:Value}(r:RelV v u){a:List (Key×V)}{vs:List (Key×Value)}(h:KV a vs):KV (BN a k v) (stored vs k u):=by
 unfold BN stored;rw[P5 h];split
 ·exact P6 r h
 ·exact P7 r h
theorem P8{k:Key}:∀{vs:List (Key×V)}{a:List (Key×W)},TrP K H vs a->vs.any (λkv=>decide (kv.1=k))=a.any (λkv=>decide (kv.1=k))
 | _,_,.nil=>rfl
 | _,_,.cons _ t=>by rw[List.any_cons,List.any_cons,P8 t]
theorem Kv{k:Key}{v:V}{w:W}(r:Tr K H v w):∀{vs:List (Key×V)}{b:List (Key×W)},TrP K H vs b->TrP K H (vs.map λkv=>if kv.1=k then(kv.1,v)else kv) (b.map λkv=>if kv.1=k then(kv.1,w)else kv)
 | _,_,.nil=>.nil
 |(a,x)::_,(_,y)::_,.cons tv t=>by
  rw[Ym,Ym];by_cases h:a=k
  ·simp only[h,if_true];exact .cons r (Kv r t)
  ·simp only[h,if_false];exact .cons tv (Kv r t)
theorem P9{k:Key}{v:V}{w:W}(r:Tr K H v w):∀{vs:List (Key×V)}{a:List (Key×W)},TrP K H vs a->TrP K H (vs++[(k,v)]) (a++[(k,w)])
 | _,_,.nil=>.cons r .nil
 | _,_,.cons h t=>.cons h (P9 r t)
theorem fU{w:W}(r:Tr K H v w){vs:List (Key×V)}{a:List (Key×W)}(h:TrP K H vs a):TrP K H (BN vs k v) (BN a k w):=by
 unfold BN;rw[P8 h];split
 ·exact Kv r h
 ·exact P9 r h
theorem Qs:∀{vs:List (Key×V)}{a:List (Key×W)},TrP K H vs a->vs.length=a.length
 | _,_,.nil=>rfl
 | _,_,.cons _ t=>by rw[Yg,Yg,Qs t]
def Qt:V->V->V->Hp->(Hp->Prop)->Prop:=λo i v H Q=>∃ p kvs z,o=.ref p/\i=.str z/\H p=some (.dK kvs)/\kvs.length < sizeLine/\Q (upd H p (.dK (BN kvs (Sum.inr z) v)))
theorem fV:Jr X Qt:=by
 intro pins s σ H o i v F E u Q I m r A h;obtain⟨p,a,z,rfl,rfl,j,hl,q⟩:=h;cases m;obtain⟨t,rfl⟩:=r;obtain⟨_,hd,f,c,y⟩:a.length<=sizeLine/\(p==sysModules)=false/\∃ f,KV a f/\s.heap.DictOf (A6 X.prog X.w) p f:=I.hok p _ j;have g:=Paired.length c;refine wpAny_setItem_pairs (knd:=A6 X.prog X.w) (k:=Sum.inr z) (by simp[A6,C1,Value.isStrOf]) y (λh' d B=>?_) (by omega);have n:∃ o,h'.get? p=some o:=by obtain⟨o,_,_,D,_⟩:=d;exact⟨o,D⟩
 refine⟨_,I.write (t':=s.toks+1) (x:=p) (e:=p) (o:=.dK (BN a (Sum.inr z) v)) (by rw[j];trivial) (.inl rfl) (λb w l e=>(B.2 b l).trans e) n ?_,q⟩;have:=fS a (Sum.inr z) v;exact⟨by omega,hd,_,fT A c,d⟩
def Qu(o k v:W)(G:Hw)(Q:Hw->Prop):Prop:=∃ p kvs z,o=.ref p/\k=.str z/\G p=some (.dct kvs)/\kvs.length < sizeLine/\Q (put G p (.dct (BN kvs (Sum.inr z) v)))
theorem fW{o k v:W}{x y u:V}{G:Hw}{Pq:Hw->Prop}{R:Hp->Prop}(j:Tr K H x v)(ty:Tr K H y o)(h:Tr K H u k)(r:RelH K H G)(q:Qu o k v G Pq)(f:∀ g b,Mono K H b->RelH K b g->Pq g->R b):Qt y u x H R:=by
 obtain⟨p,a,z,rfl,rfl,e,i,q⟩:=q;cases ty;cases h;obtain⟨d,c,t⟩:=r p _ e;have m:Mono K H (upd H p (.dK (BN d (Sum.inr z) x))):=Mono.was c _ (λ_ z=>by cases z) (λ_ _ z=>by cases z);exact⟨p,d,z,rfl,rfl,c,by rw[Qs t];exact i,f _ _ m (RelH.laid (u:=.dct (BN a (Sum.inr z) v)) r m ⟨_,BL,(fU j t).mono m⟩) q⟩
def Ci(gv go gi:GE):GS:=λD ω G=>gv ω G λv G1=>go ω G1 λo G2=>gi ω G2 λk G3=>Qu o k v G3 λG4=>D.nx ω G4
variable {gv go gi:GE}
theorem fX(e:gv.M)(f:go.M)(d:gi.M):GS.M (Ci gv go gi):=λω G D j h1 _ _ _ q=>
 e _ _ _ _ (λv l z=>f _ _ _ _ (λo m z=>d _ _ _ _ ((by rintro k i ⟨p,a,z,h,b,g,c,q⟩;exact⟨p,a,z,h,b,g,c,h1 _ _ q⟩)) z) z) q
theorem fY{P:Hp->Prop}{o i e:Expr}(t:∀ v,assign (.Subscript o i pos') X.env v=(do
   let ov <- holding [v] (eval o X.env)
   let iv <- holding [v,ov] (eval i X.env)
   standAt pos'
   holding [v,ov,iv] (setItem ov iv v)
   release [v,ov,iv] [])) (n:swapsWithSole [.Subscript o i pos'] e pos.line X.env=pure false) (hw:swappedStores [.Subscript o i pos'] e X.env=pure none)
  (h1:(assignEach [.Subscript o i pos'] X.env).map (·.2)=[assign (.Subscript o i pos') X.env]) (g:Em X e gv) (f:Em X o go) (hi:Em X i gi):Sm X P (.Assign [.Subscript o i pos'] e pos) (Ci gv go gi):=
 ⟨λB Q=>CQ (Nh g.p (Nf f.p hi.p fV t) n hw h1) λD σ H⟨ω,G,d,r,mb,q⟩=>⟨ω,G,d,r,g.m _ _ _ _ (λv s z x H1 a I r1=>
  ⟨ω,s,d.mono a,r1,f.m _ _ _ _ (λO L A y H2 b ty j=>
   ⟨ω,L,(d.mono a).mono b,j,hi.m _ _ _ _ (λk N J u S c E K=>
    fW ((I.mono b).mono c) (ty.mono c) E K J (λR F h w l=>l σ F ((((mb.trans a).trans b).trans c).trans h) ((((d.mono a).mono b).mono c).mono h) w)) A⟩) z⟩) q⟩,fX g.m f.m hi.m⟩
def fZ:TE:=λ_ H Q=>∀ l,H l=none->Q (.ref l) (upd H l (.dK []))
theorem f9:PE X (.Dict [] [] pos) fZ:=by
 intro pins s σ H Q I h;refine wpAny_Dict_empty ?_
 have a:sysModules < s.heap.objs.size:=by
  have h:mainGlobals < s.heap.objs.size:=(I.mod.glob.keeps I.bk).lt;exact Nat.lt_trans (by decide) h
 have c:=I.hok.fresh (Yr s.heap.objs.size);have J:Inv X pins σ (upd H s.heap.objs.size (.dK [])) {s with heap:=s.heap.push {cls:=.type "dict",data:=.dict #[]},toks:=s.toks}:=I.laid (t':=s.toks) (λb u e=>Qm _ e) (Yr _) (show ObjOk X.prog X.w _ _ _ (.dK _)from⟨YZ _,by simpa using Nat.ne_of_gt a,[],.nil,Heap.DictOf.new s.heap⟩);exact⟨.ref _,_,J,rfl,h _ c⟩
def FO:GE:=λ_ G Q=>∀ l,G l=none->Q (.ref l) (put G l (.dct []))
theorem gf:Em X (.Dict [] [] pos) FO:=by
 refine⟨A7 f9 λσ H Q⟨ω,G,b,r,q⟩l hl=>?_,λω G Q a h q l hl=>h _ _ (q l hl)⟩;exact q l (r.no hl) _ _ (Mono.new hl _) (.ref l) (RelH.laid r (Mono.new hl _) ⟨_,BL,.nil⟩)
end L3
namespace L3
open PySem PySem.Spec PyProof.Rows L2
section
variable {prog:Program} {w:World} {A:Around} {E:Value->Shared->Prop} {s:Shared}
theorem gj:typeLookup (.type "tuple") "keys"=pure none:=by rw[typeLookup_type,builtinLookup_eq_fast];kernel_rfl
set_option maxRecDepth 8000 in
theorem gm{a:Addr}{xs:Array Value}{k:Nat}{l:Array (Option Value)}{Q:Option Value->Shared->Prop}(j:s.heap.get? a=some {cls:=.type "tuple",dict:=none,data:=.seq xs k,slots:=l})(n:A.handled=none)
  (h:∀ h' tk,(∀ b o,s.heap.get? b=some o->h'.get? b=some o)->Q none {s with heap:=h',toks:=tk}):wpAny (model prog w) A (getAttr? (.ref a) "keys") Q E s:=by
 obtain⟨q,g,d,tk,os⟩:=s;have m:∀ c,(⟨q,g,d,c,os⟩:Shared).TypeIs (.ref a) "tuple":=λ_=>⟨_,j,rfl⟩;have v:=sub_AttributeError;have x:=F.slot_tuple_getattribute.lookup;have t:=F.slot_tuple_getattribute.bind (.ref a);have u:=am_tuple_getattr_none;unfold getAttr? getAttrBy? getAttrBy
 repeat (any_goals (first | assumption | exact m _ |((with_reducible show wpAny _ _ (call (Value.builtin "tuple.__getattribute__") _ _) _ _ _);refine call_meets F.slot_tuple_getattribute (m _) am_entry_tuple_getattribute (F.args_tuple_getattribute_2 _ _) (meets_getattribute_miss_tuple a xs k l "keys" _ gj (by decide +kernel) (by decide)) ⟨j,n,λh' c e f=>?_⟩)| wp_step))
 obtain⟨t',r,p⟩:=f.there;have i:∀ c,(⟨h',g,d,c,os⟩:Shared).TypeIs (.ref e) "AttributeError":=λ_=>⟨_,p,rfl⟩;show wpAny _ _ (getattributeRaised _ _ _ _ _ _ _) _ _ _;unfold getattributeRaised
 repeat (any_goals (first | assumption | exact i _ | wp_step))
 exact h _ _ f.of.keeps
theorem gn{l:Addr}{items:Array Value}{n:Nat}{R:Array (Option Value)}{ps:List (Str×Value)}{Q:Value->Shared->Prop}(X:A.handled=none)(hl:s.heap.get? l=some {cls:=.type "tuple",dict:=none,data:=.seq items n,slots:=R})
  (J:∀(j:Nat)(v:Value),items[j]?=some v->∃ p t y,v=.ref p/\ps[j]?=some y/\s.heap.IsTuple p #[.str y.1 t,y.2]) (I:ps.length=items.size) (hsz:ps.length<=sizeLine) (hn:(ps.map (·.1)).Nodup)
  (h:∀ h' tk,h'.DictOf (A6 prog w) s.heap.objs.size (ps.map λy=>(Sum.inr y.1,y.2))->(∀ b o,b < s.heap.objs.size->s.heap.get? b=some o->h'.get? b=some o)->Q (.ref s.heap.objs.size) {s with heap:=h',toks:=tk}):
  wpAny (model prog w) A (call (.type "dict") [.ref l]) Q E s:=by
 refine callType_codes (Q₁:=λobj f=>obj=.ref s.heap.objs.size/\f={s with heap:=s.heap.push {cls:=.type "dict",data:=.dict #[]}}) F.kt_called_dict (F.kt_typeCall_dict_1 _) F.entry_dict_init (kt_code_dict_new _ ⟨rfl,rfl⟩) ?_;rintro obj f ⟨rfl,rfl⟩;have d:(s.heap.push {cls:=.type "dict",data:=.dict #[]}).DictOf (A6 prog w) s.heap.objs.size []:=Heap.DictOf.new s.heap;have g:(s.heap.push {cls:=.type "dict",data:=.dict #[]}).get? l=some {cls:=.type "tuple",dict:=none,data:=.seq items n,slots:=R}:=Qm _ hl;refine⟨d.typeIs,F.args_dict_init_2 _ _,?_⟩;unfold Builtin.«dict.__init__»;refine wpAny_bind ?_;unfold Builtin.Dict.selfAndRest;refine wpAny_bind (wpAny_notOrdered_dict d.typeIs ?_);show wpAny _ _ (pure (s.heap.objs.size,[Value.ref l])) _ _ _;refine wpAny_pure ?_;show wpAny _ _ (Builtin.Dict.updateFrom "dict.__init__" s.heap.objs.size (.ref l) [] .none) _ _ _;unfold Builtin.Dict.updateFrom;refine wpAny_bind (wpAny_typeOf (T:="tuple") ⟨_,g,rfl⟩ ?_);rw[if_pos (by decide)];refine wpAny_bind (gm g (by simp[X]) λh2 tk2 G=>?_);simp only[Option.isNone_none,if_true];refine wpAny_bind (wpAny_rule ?_);have B:h2.IsTuple l items:=⟨_,G _ _ g,rfl,n,rfl⟩
 have i:h2.DictOf (A6 prog w) s.heap.objs.size []:=by
  obtain⟨o,es,O,k,r⟩:=d;exact⟨o,es,O,G _ _ k,r⟩
 have m:l < s.heap.objs.size:=Qn hl
 have c:s.heap.objs.size < h2.objs.size:=by
  obtain⟨o,es,O,k,r⟩:=i;exact Qn k
 refine wpAny_bind (wpAny_pyIter_tuple B ?_);refine wpAny_pure ⟨plainId_quiet GC _,?_⟩;have q:l≠h2.objs.size:=Ys (Nat.lt_trans m c)
 have H:s.heap.objs.size∉[h2.objs.size,l]:=by
  walk_at "pe";exact⟨Ys c,Nat.ne_of_gt m⟩
 refine aR (A:=A.in1) ((Walks.tuple (by simp[X]) _ l q items).toS) H (ps:=ps) I (items.size - 0) 0 _ _ [] (by omega) (YZ _) ⟨⟨_,Qo _ rfl,rfl,rfl⟩,B.push _⟩ (i.push _) (by simp only[Yi];omega) ?_ ?_
 ·intro j v _ _ Z;obtain⟨p,t,y,e1,Y,U⟩:=J j v Z;have P:p < s.heap.objs.size:=by obtain⟨o,k,_⟩:=U;exact Qn k
  refine⟨p,t,y,e1,?_,Y,(U.at λo e=>G _ _ (Qm _ e)).push _⟩;walk_at "pe";exact⟨Ys P,Ys (Nat.lt_trans P c)⟩
 ·intro s' D u;obtain⟨h',g',d',K,N⟩:=s';obtain rfl:g'=s.gens:=D.gens;obtain rfl:d'=s.drawn:=D.drawn;obtain rfl:N=s.os:=D.os;refine⟨rfl,h h' K ?_ λb o S e=>?_⟩
  ·rw[List.drop_zero,merged_nil_of_nodup _ ?_]at u
   ·exact u
   ·rw[YB];have:((λx:Key×Value=>x.1)∘λy:Str×Value=>((Sum.inr y.1:Key),y.2))=(λx:Str=>(Sum.inr x:Key))∘(·.1):=rfl;rw[this,<- YB];exact List.Pairwise.map _ (λa b L z=>L (Sum.inr.inj z)) hn
  ·refine D.heap b o ?_ (Qm _ (G _ _ (Qm _ e)));walk_at "pe";exact⟨Ys S,Ys (Nat.lt_trans S c)⟩
end
variable {X:Cx}
theorem gp(hc:X.calm=true):CallR X (.type "dict") (λxs H Q=>∃ p ys pv,xs=[.ref p]/\SqT X.K H p ys/\PV X.K H ys pv/\(pv.map (·.1)).Nodup/\∀ l,H l=none->Q (.ref l) (upd H l (.dK (pv.map λy=>((Sum.inr y.1:Key),y.2))))):=by
 intro pins s σ H xs P Q I r h;obtain⟨p,ys,pv,rfl,E,f,B,q⟩:=h;obtain⟨u,rfl,t⟩:=CO r;cases t;obtain⟨m,r',pl,L⟩:=I.tupP E;obtain⟨o,x,d,c,n,a⟩:=pl;obtain⟨O,N,A,J⟩:=o;simp only at d c a;subst d c a;obtain⟨ps,h1,h2,F,D⟩:=PU I f r';have hl:=r'.length;have g:=Paired.length h1;rw[Yh,Yh]at g;refine gn (ps:=ps) (I.ok.hd hc) x (λj v z=>D j v (by simpa using z)) (by rw[Yn];exact F) (by omega) (by rw[h2];exact B) λh' tk G keep=>?_
 have i:sysModules < s.heap.objs.size:=by
  have h:mainGlobals < s.heap.objs.size:=(I.mod.glob.keeps I.bk).lt;exact Nat.lt_trans (by decide) h
 have k:Inv X pins σ (upd H s.heap.objs.size (.dK (pv.map λy=>((Sum.inr y.1:Key),y.2)))) {s with heap:=h',toks:=tk}:=
  I.laid (t':=tk) (λb u e=>keep b u (Qn e) e) (Yr _) (show ObjOk X.prog X.w _ _ _ (.dK _)from⟨by rw[Yh];omega,by simpa using Nat.ne_of_gt i,_,h1,G⟩)
 exact⟨.ref s.heap.objs.size,_,k,rfl,q _ (I.hok.fresh (Yr _))⟩
def He(ws:List W)(G:Hw)(Q:Kw):Prop:=∃ ps:List (Str×W),ws=[.tup (ps.map λy=>.tup [.str y.1,y.2])]/\(ps.map (·.1)).Nodup/\∀ l,G l=none->Q (.ref l) (put G l (.dct (ps.map λy=>((Sum.inr y.1:Key),y.2))))
theorem gq:RWc.M He:=λb G Q c h⟨ps,h1,a,q⟩=>⟨ps,h1,a,λl hl=>h _ _ (q l hl)⟩
theorem gr{K:PySem.W.Frag}:UpC K He (λxs H Q=>∃ p ys pv,xs=[.ref p]/\SqT K H p ys/\PV K H ys pv/\(pv.map (·.1)).Nodup/\∀ l,H l=none->Q (.ref l) (upd H l (.dK (pv.map λy=>((Sum.inr y.1:Key),y.2))))):=λd e G H Q t r q=>by
 obtain⟨ps,rfl,c,q⟩:=q;cases t with
 | cons b t =>
  cases t;cases b with
  | tup a l =>
   obtain⟨pv,h1,h2⟩:=PQ l;refine⟨_,_,pv,rfl,a,h1,by rw[Kr h2];exact c,λl hl=>?_⟩;exact q l (r.no hl) _ _ (Mono.new hl _) (.ref l) (RelH.laid r (Mono.new hl _) ⟨_,BL,(PR h2).mono (Mono.new hl _)⟩)
theorem gw(hc:X.calm=true):Blt X (.type "dict") He:=⟨⟨_,gp hc,gr⟩,gq⟩
theorem Qv{prog:Program}{w:World}{z:Str}{v:Value}(h:(A6 prog w).is (Sum.inr z) v=true):∃ t,v=.str z t:=by
 rcases CB (show C1 (Sum.inr z) v=true from h)with⟨i,t,e,_⟩|⟨x,t,e,rfl⟩
 ·cases e
 ·cases e;exact⟨t,rfl⟩
theorem Qw:∀{a:List (Key×V)}{vs:List (Key×Value)},KV a vs->vs.map (·.1)=a.map (·.1)
 | _,_,.nil=>rfl
 | _,_,.cons h t=>by rw[Ym,Ym,Qw t,h.1]
theorem Qx{K:PySem.W.Frag}{H:Hp}:∀{vs:List (Key×V)}{a:List (Key×W)},TrP K H vs a->vs.map (·.1)=a.map (·.1)
 | _,_,.nil=>rfl
 | _,_,.cons _ t=>by rw[Ym,Ym,Qx t]
def FP(g:GE):GE:=λω G Q=>g ω G λx G1=>∃ i,x=.int i/\Q (.int (-i)) G1
variable {g:GE}
theorem gz(m:g.M):GE.M (FP g):=λω G Q b h q=>m _ _ _ _ (by rintro x a ⟨i,e,z⟩;exact⟨i,e,h _ _ z⟩) q
theorem gA{a:Expr}(h:Em X a g):Em X (.UnaryOp .USub a pos) (FP g):=
 ⟨A7 (Zj Zq h.p) λσ H Q⟨ω,G,b,r,q⟩=>⟨ω,G,b,r,h.m _ _ _ _ (λx c z v H1 m t r1=>by
  obtain⟨i,rfl,z⟩:=z;cases t;exact⟨_,rfl,z _ _ m (.int _) r1⟩) q⟩,gz h.m⟩
end L3
namespace L3
open PySem PySem.Spec PyProof.Rows L2
variable {K:PySem.W.Frag} {H H' H2:Hp}
section
variable {X:Cx} {e:Expr} {p pc pd pt pos:Pos} {ge:GE}
end
end L3
namespace L3
open PySem PySem.Spec PyProof.Rows L2
def ev{α:Type}(lt:Nat->Nat->Bool)(n:Nat):PySem.W.KasT α->Option α
 | .ret a=>some a
 | .ask i j k=>if i≠j/\i < n/\j < n then ev lt n (k (lt i j))else none
theorem Qy{α:Type}{lt:Nat->Nat->Bool}{n:Nat}{c:Nat->Nat->(Bool->Shared->Prop)->Shared->Prop}{s:Shared}(hc:∀ i j(C:Bool->Shared->Prop),i≠j->i < n->j < n->C (lt i j) s->c i j C s):∀(t:PySem.W.KasT α){a:α}{Q:α->Shared->Prop},ev lt n t=some a->Q a s->t.kasWp c Q s
 | .ret b,a,Q,e,q=>by cases e;exact q
 | .ask i j k,a,Q,e,q=>by
  have d:(if i≠j/\i < n/\j < n then ev lt n (k (lt i j))else none)=some a:=e;by_cases h:i≠j/\i < n/\j < n
  ·rw[if_pos h]at d;exact hc i j _ h.1 h.2.1 h.2.2 (Qy hc (k (lt i j)) d q)
  ·rw[if_neg h]at d;cases d
theorem Qz{α:Type}{lt b:Nat->Nat->Bool}{n:Nat}(h:∀ i j,i < n->j < n->lt i j=b i j):∀ t:PySem.W.KasT α,ev lt n t=ev b n t
 | .ret a=>rfl
 | .ask i j k=>by
  show(if i≠j/\i < n/\j < n then ev lt n (k (lt i j))else none)=(if i≠j/\i < n/\j < n then ev b n (k (b i j))else none);by_cases z:i≠j/\i < n/\j < n
  ·rw[if_pos z,if_pos z,h i j z.2.1 z.2.2,Qz h (k (b i j))]
  ·rw[if_neg z,if_neg z]
def okR(n:Nat)(r:List Nat):Bool:=match ev (λi j=>decide (r.getD i 0 < r.getD j 0)) n (PySem.W.kas_sort n)with
 | some p=>(p.toList.map (λi=>r.getD i 0)==List.range n)&&p.toList.all (λi=>decide (i < n))
 | none=>false
def Kx(n j:Nat):List Nat:=(List.range n).filter (λi=>decide (i≠j))++[j]
theorem gD:([2,3,4,5,6,7,8,9,10,11,12].all λn=>(List.range n).all λj=>okR n (Kx n j))=true:=by decide +kernel
theorem QA:∀{l m:List Nat},l.Pairwise (· < ·)->m.Pairwise (· < ·)->(∀ x,x∈l↔x∈m)->l=m
 | [],[],_,_,_=>rfl
 | [],y::m,_,_,h=>absurd ((h y).mpr Ye) (by simp)
 | x::l,[],_,_,h=>absurd ((h x).mp Ye) (by simp)
 | x::l,y::m,hl,f,h=>by
  obtain⟨d,i⟩:=YD.mp hl;obtain⟨c,g⟩:=YD.mp f
  have e:x=y:=by
   rcases Yo.mp ((h x).mp Ye)with e | e
   ·exact e
   ·rcases Yo.mp ((h y).mpr Ye)with b | b
    ·exact b.symm
    ·exact absurd (c x e) (Nat.lt_asymm (d y b))
  subst e;rw[QA i g λz=>⟨λa=>(Yo.mp ((h z).mp (Yd _ a))).resolve_left λe=>by have:=d z a;omega,λa=>(Yo.mp ((h z).mpr (Yd _ a))).resolve_left λe=>by have:=c z a;omega⟩]
theorem Hf(a:Str):As a a=false:=by
 unfold As;exact decide_eq_false (List.lt_irrefl _)
theorem QB{a b c:Str}(h1:As a b=true)(h2:As b c=true):As a c=true:=by
 unfold As at h1 h2 ⊢;exact YI (List.lt_trans (of_decide_eq_true h1) (of_decide_eq_true h2))
theorem gF{x y:Str}(h:As x y=false)(a:x≠y):As y x=true:=by
 unfold As at h ⊢;refine YI ?_;have h1:y.cps.toList<=x.cps.toList:=of_decide_eq_false h;rcases List.le_iff_lt_or_eq.mp h1 with z | z
 ·exact z
 ·exact absurd (by cases x;cases y;congr 1;exact(Array.toList_inj.mp z).symm) a
abbrev Rs(xs:List Str):Prop:=xs.Pairwise (λx y=>As x y=true)
theorem QC(x:Str):∀ zs:List Str,x∉zs->Rs zs->∃ ys:List Str,Rs ys/\ys.Perm (x::zs)
 | [],_,_=>⟨[x],.cons (λ_ h=>by cases h) .nil,.refl _⟩
 | z::zs,b,h=>by
  obtain⟨h1,h2⟩:=YD.mp h;cases hl:As x z with
  | true =>
   refine⟨x::z::zs,.cons (λy a=>?_) h,.refl _⟩;walk_at "pg"
   ·exact hl
   ·exact QB hl (h1 y a)
  | false =>
   obtain⟨ys,p,m⟩:=QC x zs (λq=>b (Yd _ q)) h2;refine⟨z::ys,.cons (λy a=>?_) p,(m.cons z).trans (.swap x z zs)⟩;rcases Yo.mp (m.mem_iff.mp a)with rfl | a
   ·exact gF hl λe=>b (by rw[e];exact Ye)
   ·exact h1 y a
theorem QD:∀ xs:List Str,xs.Nodup->∃ ys:List Str,Rs ys/\ys.Perm xs
 | [],_=>⟨[],.nil,.refl _⟩
 | x::xs,h=>by
  obtain⟨h1,h2⟩:=YW.mp h;obtain⟨ys,p,m⟩:=QD xs h2;obtain⟨zs,b,a⟩:=QC x ys (λq=>h1 (m.mem_iff.mp q)) p;exact⟨zs,b,a.trans (m.cons x)⟩
def idx:List Str->Str->Nat
 | [],_=>0
 | y::ys,x=>if y=x then 0 else idx ys x+1
theorem Ky:∀ ys:List Str,ys.Nodup->ys.map (idx ys)=List.range ys.length
 | [],_=>rfl
 | y::ys,h=>by
  obtain⟨h1,h2⟩:=YW.mp h;rw[Ym,Yg,List.range_succ_eq_map,<- Ky ys h2,YB];congr 1
  ·exact if_pos rfl
  ·refine List.map_congr_left λx a=>?_;exact if_neg λe=>h1 (by rw[e];exact a)
theorem QE:∀{ys:List Str}{x y:Str},x∈ys->y∈ys->idx ys x=idx ys y->x=y
 | z::ys,x,y,c,d,h=>by
  have h':(if z=x then 0 else idx ys x+1)=(if z=y then 0 else idx ys y+1):=h;by_cases a:z=x
  ·by_cases b:z=y
   ·exact a.symm.trans b
   ·rw[if_pos a,if_neg b]at h';cases h'
  ·by_cases b:z=y
   ·rw[if_neg a,if_pos b]at h';cases h'
   ·rw[if_neg a,if_neg b]at h';exact QE ((Yo.mp c).resolve_left λe=>a e.symm) ((Yo.mp d).resolve_left λe=>b e.symm) (Nat.succ.inj h')
theorem Kz:∀{ys:List Str}{x y:Str},Rs ys->x∈ys->y∈ys->As x y=decide (idx ys x < idx ys y)
 | z::ys,x,y,h,f,d=>by
  obtain⟨h1,h2⟩:=YD.mp h;show As x y=decide ((if z=x then 0 else idx ys x+1) <(if z=y then 0 else idx ys y+1));by_cases a:z=x
  ·by_cases b:z=y
   ·rw[if_pos a,if_pos b,<- a,<- b,Hf];rfl
   ·rw[if_pos a,if_neg b,<- a,h1 y ((Yo.mp d).resolve_left λe=>b e.symm)];exact(YI (Nat.succ_pos _)).symm
  ·have c:=(Yo.mp f).resolve_left λe=>a e.symm;by_cases b:z=y
   ·rw[if_neg a,if_pos b,<- b]
    have:As x z=false:=by
     cases e:As x z with
     | false=>rfl
     | true=>have:=QB (h1 x c) e;rw[Hf]at this;cases this
    rw[this];exact(decide_eq_false (Nat.not_lt_zero _)).symm
   ·rw[if_neg a,if_neg b,Kz h2 c ((Yo.mp d).resolve_left λe=>b e.symm)];simp
theorem QF{α β:Type}{f:α->β}:∀{xs ys:List α},(∀ x∈xs,∀ y∈ys,f x=f y->x=y)->xs.map f=ys.map f->xs=ys
 | [],[],_,_=>rfl
 | [],_::_,_,h=>by cases h
 | _::_,[],_,h=>by cases h
 | x::xs,y::ys,c,h=>by
  rw[Ym,Ym]at h;injection h with e1 e2;rw[c x Ye y Ye e1,QF (λa d b e=>c a (Yd _ d) b (Yd _ e)) e2]
theorem FQ{α:Type}{l:List α}{d:α}{i:Nat}(h:i < l.length):l.getD i d∈l:=by
 have e:l.getD i d=l[i]:=by simp[h]
 rw[e];exact Qk h
theorem gG{ns:List Str}(t:ns.Nodup)(hd:Rs ns.dropLast)(h2:2<=ns.length)(G:ns.length<=12):∃ p:Array Nat,ev (λi j=>As (ns.getD i "") (ns.getD j "")) ns.length (PySem.W.kas_sort ns.length)=some p/\(∀ i∈p.toList,i < ns.length)/\Rs (p.toList.map λi=>ns.getD i "")/\∀ x,x∈(p.toList.map λi=>ns.getD i "")↔x∈ns:=by
 obtain⟨ys,r,a⟩:=QD ns t;have g:ys.Nodup:=a.nodup_iff.mpr t
 have d:(ns.map (idx ys)).Perm (List.range ns.length):=by
  rw[<- a.length_eq,<- Ky ys g];exact(a.map _).symm
 have c:okR ns.length (ns.map (idx ys))=true:=by
  obtain⟨xs,x,rfl⟩:∃ xs x,ns=xs++[x]:=⟨ns.dropLast,ns.getLast (by intro e;rw[e]at h2;simp at h2),(List.dropLast_concat_getLast _).symm⟩;rw[List.dropLast_concat]at hd;have k:((xs++[x]).map (idx ys)).Nodup:=d.nodup_iff.mpr List.nodup_range;rw[Yy]at k d;have A:∀ i,i∈xs.map (idx ys)->i≠idx ys x:=λi hi=>(List.nodup_append.mp k).2.2 i hi _ Ye
  have e:(xs++[x]).map (idx ys)=Kx (xs++[x]).length (idx ys x):=by
   rw[Yy];unfold Kx;congr 1;refine QA ?_ (List.pairwise_lt_range.filter _) λi=>?_
   ·rw[List.pairwise_map];refine List.Pairwise.imp_of_mem (λ{u v}D F l=>?_) hd;rw[Kz r (a.mem_iff.mpr (YO _ D)) (a.mem_iff.mpr (YO _ F))]at l;exact of_decide_eq_true l
   ·rw[List.mem_filter,YU];constructor
    ·exact λhi=>⟨d.mem_iff.mp (YO _ hi),A i hi⟩
    ·rintro⟨h1,h2⟩;rcases Yz.mp (d.mem_iff.mpr h1)with h | h
     ·exact h
     ·exact absurd (YA.mp h) h2
  rw[e];have m:idx ys x <(xs++[x]).length:=List.mem_range.mp (d.mem_iff.mp (YQ _ Ye));refine List.all_eq_true.mp (List.all_eq_true.mp gD _ ?_) _ (List.mem_range.mpr m);generalize(xs++[x]).length=n at h2 G ⊢;simp only[Yo,Qd,or_false];omega
 have o:∀ i,i < ns.length->(ns.map (idx ys)).getD i 0=idx ys (ns.getD i ""):=λi hi=>by simp[hi]
 have el:ev (λi j=>As (ns.getD i "") (ns.getD j "")) ns.length (PySem.W.kas_sort ns.length)=ev (λi j=>decide ((ns.map (idx ys)).getD i 0 <(ns.map (idx ys)).getD j 0)) ns.length (PySem.W.kas_sort ns.length):=Qz (λi j hi z=>by
  rw[o i hi,o j z];exact Kz r (a.mem_iff.mpr (FQ hi)) (a.mem_iff.mpr (FQ z))) _
 unfold okR at c;rw[<- el]at c;cases e:ev (λi j=>As (ns.getD i "") (ns.getD j "")) ns.length (PySem.W.kas_sort ns.length)with
 | none=>rw[e]at c;cases c
 | some p =>
  rw[e]at c;have b:((p.toList.map (λi=>(ns.map (idx ys)).getD i 0)==List.range ns.length)&&p.toList.all (λi=>decide (i < ns.length)))=true:=c;rw[YH]at b;have E:=eq_of_beq b.1;have s:∀ i∈p.toList,i < ns.length:=λi hi=>of_decide_eq_true (List.all_eq_true.mp b.2 i hi)
  have w:(p.toList.map λi=>ns.getD i "")=ys:=by
   refine QF (f:=idx ys) (λx B y q h=>?_) ?_
   ·obtain⟨i,hi,rfl⟩:=YC.mp B;exact QE (a.mem_iff.mpr (FQ (s i hi))) q h
   ·rw[Ky ys g,a.length_eq,<- E,YB];exact List.map_congr_left λi hi=>(o i (s i hi)).symm
  refine⟨p,rfl,s,?_,λx=>?_⟩
  ·rw[w];exact r
  ·rw[w];exact a.mem_iff
def EY(h:Heap)(v:Value)(n:Str):Prop:=∃ b o xs k t,v=.ref b/\h.get? b=some o/\o.cls=.type "tuple"/\o.data=.seq xs k/\xs[0]?=some (Value.str n t)
section
variable {prog:Program} {w:World} {A:Around} {E:Value->Shared->Prop} {s:Shared}
theorem QG{xs:Array Value}{v:Value}(h:xs[0]?=some v):∃ r,xs.toList=v::r:=by
 have h':xs.toList[0]?=some v:=by simpa using h
 cases e:xs.toList with
 | nil=>rw[e]at h';cases h'
 | cons y r=>rw[e]at h';cases h';exact⟨r,rfl⟩
variable {vs:List Value}{ns:List Str}
theorem gH(e:∀ i,i < ns.length->EY s.heap (vs.getD i Value.none) (ns.getD i ""))(o:ns.Nodup){i j:Nat}{C:Bool->Shared->Prop}(c:i≠j)(hi:i < ns.length)(a:j < ns.length)(h:C (As (ns.getD i "") (ns.getD j "")) s):
  PySem.W.kas_ask prog w A (tuples' true) vs i j C s:=by
 obtain⟨G,D,H,B,r,x,g1,_,k,p⟩:=e i hi;obtain⟨F,I,E,J,v,g,g2,_,u,l⟩:=e j a;unfold PySem.W.kas_ask;rw[x,g];refine PySem.W.kat_lt g1 k g2 u ?_;obtain⟨r1,n⟩:=QG p;obtain⟨y,m⟩:=QG l;rw[n,m,List.zip_cons_cons]
 have b:ns.getD i ""≠ns.getD j "":=by
  have t:ns.getD i ""=ns[i]:=by simp[hi]
  have f:ns.getD j ""=ns[j]:=by simp[a]
  rw[t,f];have d:=List.pairwise_iff_getElem.mp o;rcases Nat.lt_or_gt_of_ne c with z | z
  ·exact d i j hi a z
  ·exact λq=>d j i a hi z q.symm
 refine PySem.W.kat_cons (wpAny_eqBool_str ?_);rw[decide_eq_false b];refine PySem.W.kat_no ?_;show wpAny (model prog w) A (oneLt' true (.str (ns.getD i "") r) (.str (ns.getD j "") v)) _ _ s;exact oneLt_str h
theorem QH{h:Heap}:∀{vs:List Value}{ns:List Str},ns.length=vs.length->(∀ i,i < ns.length->EY h (vs.getD i Value.none) (ns.getD i ""))->∃ fs:List Value,PySem.W.KatTups h vs fs/\fs.length=vs.length/\∀ v∈fs,∃ x t,v=Value.str x t
 | [],[],_,_=>⟨[],trivial,rfl,λv q=>by cases q⟩
 | [],_::_,e,_=>by cases e
 | _::_,[],e,_=>by cases e
 | v::vs,n::ns,e,l=>by
  obtain⟨b,o,xs,k,t,p,g,c,d,f⟩:=l 0 (by simp)
  obtain⟨fs,h1,h2,m⟩:=QH (vs:=vs) (ns:=ns) (by simpa using e) λi hi=>by
   have:=l (i+1) (by simp only[Yg];omega);simpa using this
  have j:v=.ref b:=by simpa using p
  refine⟨.str n t::fs,⟨⟨b,o,xs,k,j,g,c,d,by simpa using f⟩,h1⟩,by rw[Yg,Yg,h2],λu a=>?_⟩;walk_at "pg"
  ·exact⟨_,_,rfl⟩
  ·exact m u a
theorem KA{α:Type}(d:α):∀ l:List α,(List.range l.length).map (λi=>l.getD i d)=l:=λl=>by
 apply List.ext_getElem?;intro i;rw[YT];by_cases h:i < l.length
 ·simp[h]
 ·rw[Qi (by simpa using h),Qi (by omega)];rfl
theorem gI{a:Addr}{n:Nat}{P:PySem.Fin->Shared->Prop}(B:s.heap.get? a=some (seqObj "list" vs.toArray n))(hl:ns.length=vs.length)(ht:∀ i,i < ns.length->EY s.heap (vs.getD i Value.none) (ns.getD i ""))(X:ns.Nodup)(hd:Rs ns.dropLast)(Y:vs.length<=12)
  (h:∀ ps:List Nat,(∀ i∈ps,i < ns.length)->Rs (ps.map λi=>ns.getD i "")->(∀ x,x∈(ps.map λi=>ns.getD i "")↔x∈ns)->P (.done (.ret .none)) {s with heap:=sortedHeap s.heap a vs (List.toArray (ps.map λi=>vs.getD i Value.none))}):
  wpAny (model prog w) A (Builtin.«list.sort» ⟨[.ref a],[]⟩) P E s:=by
 rw[list_sort_plain];have ha:a < s.heap.objs.size:=Qn B;have H:vs.length<=sizeLine:=Yt Y (by decide);refine wpAny_bind (listItems_at B rfl ?_);refine wpAny_bind (listUpdate_at B rfl ?_ (by rw[Yn];exact H) (YZ _));obtain⟨S,D⟩:∃ S,(s.heap.update a (Obj.mapSeq λ_=>(#[]:Array Value))).get? a=some (seqObj "list" #[] S):=⟨_,get?_update_seq B (λ_=>#[])⟩;refine wpAny_bind (seqEpoch_at D rfl ?_);refine wpAny_bind (wpAny_newTuple ?_ (by show vs.length<=_;exact H));refine wpAny_bind (wpAny_newList ?_ (YZ _));refine wpAny_holding ?_;have r:(((s.heap.update a (Obj.mapSeq λ_=>(#[]:Array Value))).push (seqObj "tuple" vs.toArray 0)).push (seqObj "list" #[] 0)).get? a=some (seqObj "list" #[] S):=Qm _ (Qm _ D);show wpAny (model prog w) A _ P E {s with heap:=((s.heap.update a (Obj.mapSeq λ_=>(#[]:Array Value))).push (seqObj "tuple" vs.toArray 0)).push (seqObj "list" #[] 0)};dsimp only;have N:∀ ps:List Nat,ps.length<=12->(∀ i∈ps,i < ns.length)->Rs (ps.map λi=>ns.getD i "")->(∀ x,x∈(ps.map λi=>ns.getD i "")↔x∈ns)->∀ u:Array Value,u=List.toArray (ps.map λi=>vs.getD i Value.none)->P (.done (.ret .none)) {s with heap:=sortedHeap s.heap a vs u}:=λps _ h1 h2 h3 u e=>by rw[e];exact h ps h1 h2 h3
 by_cases h2:vs.toArray.size < 2
 ·rw[if_pos h2,if_pos h2];refine wpAny_bind (wpAny_pure ?_);rw[StateT.run_pure];refine wpAny_bind (wpAny_pure ?_);dsimp only
  have l:(Array.map (λx:Value×Value=>x.2) (vs.toArray.zip vs.toArray))=vs.toArray:=by
   apply Array.toList_inj.mp;simp[List.map_snd_zip]
  refine wpAny_bind (seqEpoch_at r rfl ?_);refine wpAny_bind (listUpdate_at r rfl ?_ (YZ _) (by show(Array.map (λx:Value×Value=>x.2) (vs.toArray.zip vs.toArray)).size<=_;rw[l,Yn];exact Yt Y (by decide)));simp only[bne_self_eq_false,Yq,if_false];have F:vs.length < 2:=by simpa using h2
  refine wpAny_pure (N (List.range ns.length) (by rw[List.length_range];omega) (λi hi=>List.mem_range.mp hi) ?_ (λx=>by rw[KA]) _ ?_)
  ·rw[KA];have J:ns.length < 2:=by omega
   match ns,J with
   | [],_=>exact .nil
   | [_],_=>exact .cons (λ_ z=>by cases z) .nil
   | _::_::_,z=>exact absurd z (by simp only[Yg];omega)
  ·rw[hl,KA];exact l
 ·rw[if_neg h2,if_neg h2];have F:2<=vs.length:=by simp only[Yn]at h2;omega
  obtain⟨p,pe,p1,p2,p3⟩:=gG X hd (by omega) (by omega)
  have R:∀ i,i < ns.length->EY (((s.heap.update a (Obj.mapSeq λ_=>(#[]:Array Value))).push (seqObj "tuple" vs.toArray 0)).push (seqObj "list" #[] 0)) (vs.getD i Value.none) (ns.getD i ""):=λi hi=>by
   obtain⟨b,o,xs,k,t,e,g,c,d,f⟩:=ht i hi;have hb:b≠a:=λz=>by subst z;rw[B]at g;cases g;exact absurd (show Value.type "list"=.type "tuple" from c) (by decide)
   exact⟨b,o,xs,k,t,e,Qm _ (Qm _ ((Heap.get?_update_other _ _ (Qa hb)).trans g)),c,d,f⟩
  generalize U:({s with heap:=((s.heap.update a (Obj.mapSeq λ_=>(#[]:Array Value))).push (seqObj "tuple" vs.toArray 0)).push (seqObj "list" #[] 0)}:Shared)=S0;have y:∀ i,i < ns.length->EY S0.heap (vs.getD i Value.none) (ns.getD i ""):=by rw[<- U];exact R
  obtain⟨fs,kt,kl,ks⟩:=QH hl y;refine wpAny_bind (PySem.W.kat_kind (T:=.type "str") kt (by omega) (λv hv=>by obtain⟨x,t,rfl⟩:=ks v hv;exact PySem.W.Looks.of_pure rfl) (by decide) ?_)
  have run:=PySem.W.kat_run (prog:=prog) (w:=w) (A:=A) (E:=E) (κ:=tuples' true) (ks:=vs) (vs:=vs) (s:=S0) (G:=λq s'=>s'=S0/\q=p) (Q:=λm s'=>s'=S0/\(arrOf m).map (·.2)=List.toArray (p.toList.map λi=>vs.getD i Value.none)/\failedOf m=none) rfl F (by omega) (λq m s' hq L I Z=>⟨Z.1,by rw[PySem.W.kat_snds rfl L,Z.2],I⟩)
   (Qy (lt:=λi j=>As (ns.getD i "") (ns.getD j "")) (n:=ns.length) (λi j C a1 a2 a3 a4=>gH y X a1 a2 a3 a4) _ (by rw[<- hl];exact pe) ⟨rfl,rfl⟩)
  refine wpAny_bind (wpAny_mono run ?_ λ_ _ e=>e);rintro⟨⟨⟩,m⟩ s' ⟨rfl,l,I⟩;subst U;dsimp only at l I ⊢;rw[l];refine wpAny_bind (seqEpoch_at r rfl ?_);refine wpAny_bind (listUpdate_at r rfl ?_ (YZ _) ?_)
  ·rw[I];simp only[bne_self_eq_false,Yq,if_false];exact wpAny_pure (h p.toList p1 p2 p3)
  ·rw[Yn,Yh]
   have O:p.toList.length<=12:=by
    have K:(p.toList.map λi=>ns.getD i "").Nodup:=p2.imp λz e=>by subst e;rw[Hf]at z;cases z
    have:=EX K (xs:=ns) λx hx=>(p3 x).mp hx;rw[Yh]at this;omega
   exact Yt O (by decide)
end
end L3
namespace L3
open PySem PySem.Spec PyProof.Rows L2
variable {K:PySem.W.Frag} {H H' H2:Hp}
theorem gJ{vs:List V}{a:List Value}(r:Vals vs a){i:Nat}(hi:i < vs.length):RelV (vs.getD i .non) (a.getD i Value.none):=by
 have e:vs[i]?=some (vs.getD i .non):=by simp[hi]
 obtain⟨u,b,c⟩:=r.get e;have:a.getD i Value.none=u:=by simp[b]
 rw[this];exact c
theorem QI{vs:List V}{a:List Value}(r:Vals vs a):∀ ps:List Nat,(∀ i∈ps,i < vs.length)->Vals (ps.map λi=>vs.getD i .non) (ps.map λi=>a.getD i Value.none)
 | [],_=>.nil
 | i::ps,h=>.cons (gJ r (h i Ye)) (QI r ps λj b=>h j (Yd _ b))
theorem QJ{vs:List V}{a:List W}(t:TrL K H vs a):∀ ps:List Nat,(∀ i∈ps,i < a.length)->TrL K H (ps.map λi=>vs.getD i .non) (ps.map λi=>a.getD i .non)
 | [],_=>.nil
 | i::ps,h=>by
  have hi:=h i Ye;have e:a[i]?=some (a.getD i .non):=by simp[hi]
  obtain⟨v,d,tv⟩:=t.get e;have c:vs.getD i .non=v:=by simp[d]
  refine .cons ?_ (QJ t ps λj b=>h j (Yd _ b));show Tr K H (vs.getD i .non) (a.getD i .non);rw[c];exact tv
theorem Hg{α:Type}:∀{l:List (Str×α)}{z y:Str×α},(l.map (·.1)).Nodup->z∈l->y∈l->z.1=y.1->z=y
 | u::l,z,y,f,g,c,e=>by
  rw[Ym]at f;obtain⟨d,h⟩:=YW.mp f;rcases Yo.mp g with a | a
  ·rcases Yo.mp c with b | b
   ·rw[a,b]
   ·exact absurd (YC.mpr ⟨y,b,by rw[<- e,a]⟩) d
  ·rcases Yo.mp c with b | b
   ·exact absurd (YC.mpr ⟨z,a,by rw[e,b]⟩) d
   ·exact Hg h a b e
end L3
namespace L3
open PySem PySem.Spec PyProof.Rows L2
section
variable {prog:Program} {w:World} {A:Around} {E:Value->Shared->Prop} {s:Shared}
theorem gK{v d:Addr}{c:List (Key×Value)}{ns:List Str}{Q:Value->Shared->Prop}(hh:A.handled=none)(T:s.heap.IsItemsView v d)(hm:s.heap.DictAt (A6 prog w) d c ep)(S:c.map (·.1)=ns.map Sum.inr)(hn:ns.Nodup)(hd:Rs ns.dropLast)(X:ns.length<=12)(B:s.heap.objs.size<=v+1)
  (h:∀(h':Heap)(tk:Nat)(g:List Addr)(r e:Nat)(ps:List Nat),(∀ b o,s.heap.get? b=some o->h'.get? b=some o)->g.length=ns.length->g.Nodup->(∀ a∈g,s.heap.objs.size<=a)->s.heap.objs.size<=r->r∉g->
   (∀(j:Nat)(a:Addr),g[j]?=some a->∃ z t x,ns[j]?=some z/\c[j]?=some (Sum.inr z,x)/\h'.get? a=some {cls:=.type "tuple",data:=.seq #[.str z t,x]})->
   h'.get? r=some (seqObj "list" (List.toArray (ps.map λi=>(g.map Value.ref).getD i Value.none)) e)->(∀ i∈ps,i < ns.length)->Rs (ps.map λi=>ns.getD i "")->(∀ x,x∈(ps.map λi=>ns.getD i "")↔x∈ns)->Q (.ref r) {s with heap:=h',toks:=tk}):
  wpAny (model prog w) A (call (.builtin "sorted") [.ref v]) Q E s:=by
 have G:c.length=ns.length:=by have:=congrArg List.length S;simpa using this
 refine Calls.call_function_entry kind_sorted plain_sorted entry_sorted (args_sorted1 _) ?_;unfold Builtin.«sorted»;refine wpAny_bind (m:=checkCount "sorted" 1 1 _) (wpAny_pure ?_);refine wpAny_bind (PySem.W.kdx_collect (A:=A.in1) hh T hm (by rw[G];exact Yt X (by decide)) λh1 D g p O K=>?_)
 have l:∀(j:Nat)(a:Addr),g[j]?=some a->∃ z t x,ns[j]?=some z/\c[j]?=some (Sum.inr z,x)/\h1.get? a=some {cls:=.type "tuple",data:=.seq #[.str z t,x]}:=λj a q=>by
  obtain⟨key,k,x,F,J,I⟩:=K.pairs j a q;have U:(c.map (·.1))[j]?=some k:=by rw[YT,F];rfl
  rw[S,YT]at U;obtain⟨z,ez,rfl⟩:=YV.mp U;obtain⟨t,rfl⟩:=Qv J;exact⟨z,t,x,ez,F,I⟩
 generalize f:g.map Value.ref=its;have L:its.length=ns.length:=by rw[<- f,Yh,O,G]
 refine wpAny_bind (wpAny_newList ?_ (by rw[L];exact Yt X (by decide)));have y:(h1.push (seqObj "list" its.toArray 0)).get? h1.objs.size=some (seqObj "list" its.toArray 0):=Qo _ rfl
 have P:∀ i,i < ns.length->EY (h1.push (seqObj "list" its.toArray 0)) (its.getD i Value.none) (ns.getD i ""):=λi hi=>by
  obtain⟨a,q⟩:∃ a,g[i]?=some a:=⟨_,Yp (by omega)⟩;obtain⟨z,t,x,F,J,I⟩:=l i a q;have Z:ns.getD i ""=z:=by simp[F]
  have R:its.getD i Value.none=.ref a:=by rw[<- f];simp[q]
  rw[Z,R];exact⟨_,_,_,_,t,rfl,Qm _ I,rfl,rfl,rfl⟩
 show wpAny _ _ _ _ _ {s with heap:=h1.push (seqObj "list" its.toArray 0),toks:=D};refine wpAny_bind (wpAny_holding (wpAny_call_entry slot_list_sort ⟨_,y,rfl⟩ entry_list_sort (gI (s:={s with heap:=h1.push (seqObj "list" its.toArray 0),toks:=D}) y (by omega) P hn hd (by omega) λps p1 p2 p3=>⟨_,rfl,?_⟩) (args_list_sort _)));obtain⟨e,Y⟩:=sortedHeap_at (n:=0) (vs:=its) (out:=List.toArray (ps.map λi=>its.getD i Value.none)) y
 have u:∀ b o,h1.get? b=some o->(sortedHeap (h1.push (seqObj "list" its.toArray 0)) h1.objs.size its (List.toArray (ps.map λi=>its.getD i Value.none))).get? b=some o:=λb o z=>by
  have H:b < h1.objs.size:=Qn z;rw[sortedHeap_old (Ys H) (by rw[size_push'];exact Nat.lt_succ_of_lt H)];exact Qm _ z
 have N:s.heap.objs.size<=h1.objs.size:=by
  obtain⟨o,ho,_⟩:=T;exact Yt B (Qn (p _ _ ho))
 refine wpAny_pure ⟨_,rfl,h _ D g h1.objs.size e ps (λb o z=>u b o (p b o z)) (by omega) (K.rise.imp λz=>Ys z) (λa q=>YL (K.above a q)) N (λz=>absurd (K.there z) (YM _)) (λj a q=>?_) (by rw[f];exact Y) p1 p2 p3⟩;obtain⟨z,t,x,F,J,I⟩:=l j a q;exact⟨z,t,x,F,J,u _ _ I⟩
end
theorem gL{X:Cx}{s:Shared}(d:List Addr):∀{H:Hp}{pv:List (Str×V)}{ps:List (Str×Value)},Inv X pins σ H s->d.Nodup->(∀ a∈d,H a=none/\a≠X.env.locals/\(∀ x c,X.env.cells.lookup x=some c->c≠a)/\(∀ p∈X.pn++pins,p.1≠a)/\X.s₀.heap.get? a=none)->
  Paired (λ(y:Str×V)(z:Str×Value)=>y.1=z.1/\RelV y.2 z.2) pv ps->Paired (λ(a:Addr)(z:Str×Value)=>∃ t,s.heap.get? a=some {cls:=.type "tuple",data:=.seq #[.str z.1 t,z.2]}) d ps->
  ∃ H',Inv X pins σ H' s/\Mono X.K H H'/\(∀ b o,H b=some o->H' b=some o)/\(∀ b,b∉d->H' b=H b)/\PV X.K H' (d.map V.ref) pv:=by
 induction d with
 | nil =>
  intro H pv ps I _ _ r h;cases h;cases r;exact⟨H,I,.refl,λ_ _ e=>e,λ_ _=>rfl,.nil⟩
 | cons a d Q =>
  intro H pv ps I D l r h;cases h with
  | @cons _ z _ ps F has =>
   cases r with
   | @cons y _ pv _ r R =>
    obtain⟨O,S⟩:=YW.mp D;obtain⟨j,A,B,v,L⟩:=l a Ye;obtain⟨t,E⟩:=F;obtain⟨y1,y2⟩:=y;obtain⟨G,N⟩:=z;cases(show y1=G from r.1);have ok:ObjOk X.prog X.w (upd H a (.tup [.str y1,y2])) s.heap a (.tup [.str y1,y2]):=⟨(Qzz 2),[.str y1 t,N],.cons ⟨t,rfl⟩ (.cons r.2 .nil),⟨_,E,rfl,rfl,_,rfl⟩⟩;have P:Inv X pins σ (upd H a (.tup [.str y1,y2])) s:=I.track j A B v L ok
    obtain⟨H',J,m,k,u,i⟩:=Q P S (λb f=>by
     obtain⟨g1,g⟩:=l b (Yd _ f);refine⟨?_,g⟩;rw[AX (λq=>O (by rw[<- q];exact f))];exact g1) R has
    have n:Mono X.K H (upd H a (.tup [.str y1,y2])):=Mono.new j _;refine⟨H',J,n.trans m,λb o e=>k b o (by rw[AX (Dw e j)];exact e),λb f=>?_,?_⟩
    ·rw[u b λz=>f (Yd _ z),AX λz=>f (by rw[z];exact Ye)]
    ·rw[Ym];exact .cons (m.tup _ _ (SqT.of BL)) i
abbrev kyd{α:Type}(y:Str×α):Key×α:=(Sum.inr y.1,y.2)
theorem QK{α β:Type}{R:α->β->Prop}:∀{c:List α}{bs:List β},c.length=bs.length->(∀(j:Nat)(a:α),c[j]?=some a->∃ b,bs[j]?=some b/\R a b)->Paired R c bs
 | [],[],_,_=>.nil
 | [],_::_,h,_=>by cases h
 | _::_,[],h,_=>by cases h
 | a::c,b::bs,h,f=>by
  obtain⟨g,e,r⟩:=f 0 a rfl;cases e;exact .cons r (QK (Nat.succ.inj h) λj x d=>f (j+1) x d)
theorem QL:∀{pv:List (Str×V)}{vs:List (Key×Value)},KV (pv.map kyd) vs->∃ ps:List (Str×Value),vs=ps.map kyd/\Paired (λ(y:Str×V)(z:Str×Value)=>y.1=z.1/\RelV y.2 z.2) pv ps
 | [],vs,h=>by cases h;exact⟨[],rfl,.nil⟩
 | y::pv,vs,h=>by
  rw[Ym]at h;cases h with
  | @cons _ u _ a r t =>
   obtain⟨ps,e,q⟩:=QL t;obtain⟨k,x⟩:=u;cases(show Sum.inr y.1=k from r.1);exact⟨(y.1,x)::ps,by rw[Ym,e],.cons ⟨rfl,r.2⟩ q⟩
theorem QM:∀{pv:List (Str×V)}{ps:List (Str×Value)},Paired (λ(y:Str×V)(z:Str×Value)=>y.1=z.1/\RelV y.2 z.2) pv ps->ps.map (·.1)=pv.map (·.1)
 | _,_,.nil=>rfl
 | _,_,.cons r t=>by rw[Ym,Ym,QM t,r.1]
section
variable {X:Cx} {e:Expr} {p3 pa q1 q3:Pos} {ta:TE}
def gM(K:PySem.W.Frag)(ta:TE):TE:=λσ H Q=>ta σ H λx H2=>∃(p:Addr)(pv:List (Str×V)),x=.ref p/\H2 p=some (.dK (pv.map kyd))/\(pv.map (·.1)).Nodup/\Rs (pv.map (·.1)).dropLast/\pv.length<=12/\
 ∀(H':Hp)(vs:List V)(ps:List Nat)(r:Addr),Mono K H2 H'->(∀ b o,H2 b=some o->H' b=some o)->PV K H' vs pv->(∀ i∈ps,i < pv.length)->Rs (ps.map λi=>(pv.map λy=>y.1).getD i ("":Str))->(∀ x,x∈(ps.map λi=>(pv.map λy=>y.1).getD i ("":Str))↔x∈pv.map (·.1))->H' r=none->Q (.ref r) (upd H' r (.lst (ps.map λi=>vs.getD i .non)))
theorem gN(hc:X.calm=true)(n1:X.mg "sorted"=none)(g1:Gl X "sorted")(hb:attributeBase e "items" X.env (eval e X.env)=eval e X.env)(D:(pa.endLine==q1.line)=true)
  (h3:starEach [.Call (.Attribute e "items" pa) [] [] q1] X.env=(false,eval (.Call (.Attribute e "items" pa) [] [] q1) X.env)::starEach [] X.env) (l:PE X e ta):
  PE X (.Call (.Name "sorted" p3) [.Call (.Attribute e "items" pa) [] [] q1] [] q3) (gM X.K ta):=by
 intro pins s σ H Q I h;have bS:bootBuiltins "sorted"=some (.builtin "sorted"):=by decide +kernel
 have hh:X.A.handled=none:=I.ok.hd hc;refine wpAny_Call_Name_kw (CC I g1 n1 bS ?_);refine PyProof.Rows.callWith_builtin1 (Hb h3 ?_) h3 rfl;refine wpAny_Call_method (T:="dict") (id:="dict.items") hb rfl D F.plainAttrs_dict F.slot_dict_items F.type_dict_items ?_;refine thn (l pins s σ H _ I h) λv d⟨x,H2,G,r1,p,pv,ex,hH,hn,hdl,h7,q2⟩=>?_;subst ex;cases r1;obtain⟨hz,hd,vs,rel,U⟩:(pv.map kyd).length<=sizeLine/\(p==sysModules)=false/\∃ vs,KV (pv.map kyd) vs/\d.heap.DictOf (A6 X.prog X.w) p vs:=G.hok p _ hH;obtain⟨ws,rfl,g⟩:=QL rel;have hwl:ws.length=pv.length:=(Paired.length g).symm;have N:=QM g;refine⟨U.typeIs,U.mapOf.noDict,?_⟩;show wpAny _ _ (callWith q1 (.builtin "dict.items") [.ref p] [] []) _ _ d;refine method_meetsIn F.slot_dict_items F.entry_dict_items rfl (PySem.evalArgs_none ⟨rfl,U.typeIs,F.args_dict_items_1 _,_,meets_dict_items (A6 X.prog X.w) p hd,⟨_,U⟩,?_⟩);obtain⟨ep,hat⟩:=U.dictAt;refine gK (s:={d with heap:=d.heap.push {cls:=.type "dict_items",data:=.fields #[.ref p]}}) (ns:=pv.map (·.1)) hh ⟨_,Qo _ rfl,rfl,rfl⟩ (hat.push _) ?_ hn hdl (by rw[Yh];exact h7) (by show(d.heap.push _).objs.size<=_;rw[Qp];exact Yr _) λh' tk n r en ps keep P B hab hr hra E Z p1 p2 p3=>?_
 ·rw[<- N,YB,YB];rfl
 have O:d.heap.objs.size<=(d.heap.push {cls:=.type "dict_items",data:=.fields #[.ref p]}).objs.size:=by rw[Qp];exact Nat.le_succ _
 have Y:∀ b u,d.heap.get? b=some u->h'.get? b=some u:=λb u z=>keep b u (Qm _ z);have I6:Inv X pins σ H2 {d with heap:=h',toks:=tk}:=G.kept (t':=tk) Y
 have R:∀ a,d.heap.objs.size<=a->H2 a=none/\a≠X.env.locals/\(∀ x c,X.env.cells.lookup x=some c->c≠a)/\(∀ q∈X.pn++pins,q.1≠a)/\X.s₀.heap.get? a=none:=λa l=>by
  refine⟨G.hok.fresh l,λz=>absurd G.lt (by rw[<- z];exact Nat.not_lt.mpr l),λx c z q=>?_,λq hq z=>?_,?_⟩
  ·obtain⟨v,o,ho,_⟩:=G.cell x c z;exact absurd (Qn ho) (by rw[q];exact Nat.not_lt.mpr l)
  ·exact absurd (Qn (G.pin q hq).1) (by rw[z];exact Nat.not_lt.mpr l)
  ·cases z:X.s₀.heap.get? a with
   | none=>rfl
   | some o=>exact absurd (Yu (Qn z) G.sz) (Nat.not_lt.mpr l)
 have L:n.length=ws.length:=by rw[P,Yh,hwl]
 have pr:Paired (λ(a:Addr)(z:Str×Value)=>∃ t,h'.get? a=some {cls:=.type "tuple",data:=.seq #[.str z.1 t,z.2]}) n ws:=QK L λj a hj=>by
  obtain⟨z,t,x,e1,e2,e3⟩:=E j a hj;rw[YT]at e2;obtain⟨y,ey,eq⟩:=YV.mp e2;obtain⟨y1,y2⟩:=y;cases eq;exact⟨_,ey,t,e3⟩
 obtain⟨H',J,m,k,u,pvv⟩:=gL (s:={d with heap:=h',toks:=tk}) n I6 B (λa l=>R a (Yt O (hab a l))) g pr;have f:=R r (Yt O hr);have S:H' r=none:=by rw[u r hra];exact f.1
 have hpl:∀ i∈ps,i < n.length:=λi hi=>by rw[P];exact p1 i hi
 have hps:ps.length<=12:=by
  have B:(ps.map λi=>(pv.map λy=>y.1).getD i ("":Str)).Nodup:=p2.imp λz e=>by subst e;rw[Hf]at z;cases z
  have:=EX B (xs:=pv.map (·.1)) λx hx=>(p3 x).mp hx;rw[Yh,Yh]at this;omega
 have ok:ObjOk X.prog X.w (upd H' r (.lst (ps.map λi=>(n.map V.ref).getD i .non))) h' r (.lst (ps.map λi=>(n.map V.ref).getD i .non)):=⟨by rw[Yh];exact Yt hps (by decide),ps.map (λi=>(n.map Value.ref).getD i Value.none),en,QI (P0 n) ps (λi hi=>by rw[Yh];exact hpl i hi),Z⟩;refine⟨.ref r,_,J.track S f.2.1 f.2.2.1 f.2.2.2.1 f.2.2.2.2 ok,rfl,q2 H' (n.map V.ref) ps r m k pvv (λi hi=>by have:=p1 i hi;rw[Yh]at this;exact this) p2 p3 S⟩
end
end L3
namespace L3
open PySem PySem.Spec PyProof.Rows L2
variable {K:PySem.W.Frag} {H H' H2:Hp}
def DI(ga:GE):GE:=λω G Q=>ga ω G λy G2=>∃(p:Addr)(l:List (Str×W)),y=.ref p/\G2 p=some (.dct (l.map kyd))/\(l.map (·.1)).Nodup/\Rs (l.map (·.1)).dropLast/\l.length<=12/\
 ∀(l':List (Str×W))(r:Addr),Rs (l'.map (·.1))->(∀ y,y∈l'↔y∈l)->G2 r=none->Q (.ref r) (put G2 r (.lst (l'.map λy=>.tup [.str y.1,y.2])))
variable {ga:GE}
theorem gO(d:ga.M):GE.M (DI ga):=λω G Q j h q=>d _ _ _ _ (λx k⟨p,l,h1,h2,e,g,i,q1⟩=>⟨p,l,h1,h2,e,g,i,λf r a b c=>h _ _ (q1 f r a b c)⟩) q
theorem gP{G:Hw}(r:RelH K H G)(m:Mono K H H')(k:∀ b o,H b=some o->H' b=some o):RelH K H' G:=λa u e=>by
 have q:=r a u e;refine q.mono m ?_;cases z:H a with
 | none=>exact absurd z q.some
 | some o=>exact k a o z
theorem QN:∀{l:List (Str×W)}{vs:List (Key×V)},TrP K H vs (l.map kyd)->∃ pv:List (Str×V),vs=pv.map kyd/\TrP K H pv l
 | [],_,.nil=>⟨[],rfl,.nil⟩
 | y::l,_,.cons t r=>by
  obtain⟨pv,e,q⟩:=QN r;exact⟨(y.1,_)::pv,by rw[Ym,e],.cons t q⟩
theorem gQ{vs:List V}{pv:List (Str×V)}(h:PV K H vs pv):∀{l:List (Str×W)},TrP K H pv l->TrL K H vs (l.map λy=>.tup [.str y.1,y.2]):=by
 induction h with
 | nil =>
  intro l t;cases t;exact .nil
 | cons b _ a =>
  intro l t;cases t with
  | cons t r=>exact .cons (.tup b (.cons (.str _) (.cons t .nil))) (a r)
theorem gS{X:Cx}{e:Expr}{p3 pa q1:Pos}(hc:X.calm=true)(N:X.mg "sorted"=none)(g1:Gl X "sorted")(L:attributeBase e "items" X.env (eval e X.env)=eval e X.env)(b:(pa.endLine==q1.line)=true)
  (P:starEach [.Call (.Attribute e "items" pa) [] [] q1] X.env=(false,eval (.Call (.Attribute e "items" pa) [] [] q1) X.env)::starEach [] X.env) (g:Em X e ga):
  Em X (.Call (.Name "sorted" p3) [.Call (.Attribute e "items" pa) [] [] q1] [] q3) (DI ga):=by
 refine⟨A7 (gN hc N g1 L b P g.p) λσ H Q⟨ω,G,I,F,q⟩=>?_,gO g.m⟩;refine⟨ω,G,I,F,g.m _ _ _ _ (λx D z v H1 A U r1=>?_) q⟩;obtain⟨p,l,rfl,J,u,h,Z,q1⟩:=z;cases U;obtain⟨Y,T,tl⟩:=r1 p _ J;obtain⟨pv,rfl,w⟩:=QN tl;have d:=Kr w;have hl:pv.length=l.length:=by have:=congrArg List.length d;simpa using this
 refine⟨p,pv,rfl,T,by rw[d];exact u,by rw[d];exact h,by omega,λH' B ps r m k j p1 p2 p3 f=>?_⟩;have s:RelH X.K H' D:=gP r1 m k;have S:TrL X.K H' B (l.map λy=>.tup [.str y.1,y.2]):=gQ j (w.mono m);rw[d]at p2 p3;have a:∀ i∈ps,i < l.length:=λi hi=>by have:=p1 i hi;omega
 have en:∀ i∈ps,(l.map λy=>y.1).getD i ("":Str)=(l.getD i (("":Str),.non)).1:=λi hi=>by simp[a i hi]
 have O:(ps.map λi=>(l.map λy=>y.1).getD i ("":Str))=(ps.map λi=>l.getD i (("":Str),.non)).map (·.1):=by rw[YB];exact List.map_congr_left en
 have R:(ps.map λi=>(l.map λy=>W.tup [.str y.1,y.2]).getD i .non)=(ps.map λi=>l.getD i (("":Str),.non)).map λy=>W.tup [.str y.1,y.2]:=by rw[YB];exact List.map_congr_left λi hi=>by simp[a i hi]
 rw[O]at p2 p3;refine q1 (ps.map λi=>l.getD i (("":Str),.non)) r p2 (λy=>⟨λc=>?_,λc=>?_⟩) (s.no f) _ _ ((A.trans m).trans (Mono.new f _)) (.ref r) (s.new f ?_)
 ·obtain⟨i,hi,rfl⟩:=YC.mp c;exact FQ (a i hi)
 ·have E:=(p3 y.1).mpr (YC.mpr ⟨y,c,rfl⟩);obtain⟨z,t,o⟩:=YC.mp E;obtain⟨i,hi,rfl⟩:=YC.mp t;have n:l.getD i (("":Str),.non)∈l:=FQ (a i hi);have:l.getD i (("":Str),.non)=y:=Hg u n c o;rw[<- this];exact t
 ·rw[<- R];exact QJ S ps λi hi=>by rw[Yh];exact a i hi
end L3
namespace L3
open PySem PySem.Spec PyProof.Rows L2
section
variable {prog:Program} {w:World} {A:Around} {E:Value->Shared->Prop} {s:Shared}
theorem QO{f:Nat->PUnit->Sem (ForInStep PUnit)}{P:Nat->Shared->Prop}{n:Nat}(a:∀ i s,i < n->P i s->wpAny (model prog w) A (f i ⟨⟩) (λr s'=>r=ForInStep.yield ⟨⟩/\P (i+1) s') E s):
  ∀(k i:Nat)(s:Shared),i+k=n->P i s->wpAny (model prog w) A (forIn (List.range' i k 1) PUnit.unit f) (λ_ s'=>P n s') E s
 | 0,i,s,h,b=>by
  rw[show i=n by omega]at b;rw[show List.range' i 0 1=[]from rfl,List.forIn_nil];exact wpAny_pure b
 | k+1,i,s,h,b=>by
  rw[List.range'_succ,List.forIn_cons];refine wpAny_bind (wpAny_mono (a i s (by omega) b) ?_ λ_ _ z=>z);rintro r s' ⟨rfl,c⟩;exact QO a k (i+1) s' (by omega) c
theorem gT{f:Nat->PUnit->Sem (ForInStep PUnit)}{P:Nat->Shared->Prop}{n:Nat}(a:∀ i s,i < n->P i s->wpAny (model prog w) A (f i ⟨⟩) (λr s'=>r=ForInStep.yield ⟨⟩/\P (i+1) s') E s)(b:P 0 s):
  wpAny (model prog w) A (forIn [0:n] PUnit.unit f) (λ_ s'=>P n s') E s:=by
 rw[Std.Legacy.Range.forIn_eq_forIn_range'];have:([0:n]:Std.Legacy.Range).size=n:=by simp[Std.Legacy.Range.size]
 rw[this];exact QO a n 0 s (by omega) b
end
section
variable {prog:Program} {w:World} {A:Around} {E:Value->Shared->Prop} {s:Shared}
set_option maxHeartbeats 3200000 in
theorem gU{d:Addr}{g:List (Key×Value)}{zs:List Str}{Q:Value->Shared->Prop}(hh:A.handled=none)(hd:(d==sysModules)=false)(hD:s.heap.DictOf (A6 prog w) d g)(hk:g.map (·.1)=zs.map Sum.inr)(hn:zs.length < 32)
  (h:∀(h':Heap)(tk:Nat)(ks:List Str),SS w h' s.heap.objs.size ks->(∀ x,x∈ks↔x∈zs)->(∀ b o,b < s.heap.objs.size->s.heap.get? b=some o->h'.get? b=some o)->Q (.ref s.heap.objs.size) {s with heap:=h',toks:=tk}):
  wpAny (model prog w) A (call (.type "set") [(.ref d)]) Q E s:=by
 obtain⟨c,tl,hmro⟩:=PySem.F.called_set.mro;have hmade:=PySem.F.called_set.made;have hsub:=PySem.F.called_set.sub;refine wpAny_call (codeAny_of_tree (?_:wpAny _ _ (callAny (.type "set") _) _ _ _));refine wpAny_pure ⟨Code.quiet_builtin _ (by decide +kernel),codeAny_builtin PySem.F.entry_type_call ?_⟩;rw[Around.under_plain (weight_type_call_type "set" [(.ref d)] []) rfl];have h1:=PySem.F.called_set.notType;have h2:=PySem.F.called_set.canCreate;have hct:=PySem.F.typeCall_set_1 (.ref d);(repeat (any_goals (first | assumption | wp_step)));refine codeAny_mono (NS (.ref d) (E:=E) (Q:=λobj u=>∃ led:Bool,(bt w=false->led=true)/\obj=.ref s.heap.objs.size/\u={s with heap:=s.heap.push (Bo led)}) λled z=>⟨led,z,rfl,rfl⟩) λr u l=>?_
 match r,l with
 | .error e,l=>exact l
 | .ok .next,l=>exact l.elim
 | .ok .brk,l=>exact l.elim
 | .ok .cont,l=>exact l.elim
 | .ok (.ret obj),l =>
  obtain⟨led,I,rfl,rfl⟩:=l;have hS:(s.heap.push (Bo led)).get? s.heap.objs.size=some (Bo led):=Qo _ rfl;have hT:Shared.TypeIs {s with heap:=s.heap.push (Bo led)} (.ref s.heap.objs.size) "set":=⟨_,hS,rfl⟩;have hli:=PySem.F.called_set.init.lookup;have hbi:=PySem.F.called_set.init.bind (.ref s.heap.objs.size);(repeat (any_goals (first | assumption | wp_step)));refine codeAny_mono (codeAny_call_builtin (R:=wants (λr D=>r=.none/\∃ h' tk ks,D={s with heap:=h',toks:=tk}/\SS w h' s.heap.objs.size ks/\(∀ x,x∈ks↔x∈zs)/\(∀ b o,b < s.heap.objs.size->s.heap.get? b=some o->h'.get? b=some o)) E) PySem.F.called_set.init.plain PySem.F.entry_set_init (check_set_init_1 hT ?_)) λS D a=>?_
  ·have hds:(d==sysModules)=false:=hd;obtain⟨O,es,ep,L,q,f,hko,Z,hnd⟩:=hD;have p:(s.heap.push (Bo led)).get? d=some O:=Qm _ L;have hT1:Shared.TypeIs {s with heap:=s.heap.push (Bo led)} (.ref d) "dict":=⟨O,p,q.1⟩;have hs1:=PySem.F.sub_dict_set;have hs2:=PySem.F.sub_dict_frozenset;have hne:(Value.type "dict"==Value.type "dict")=true:=by decide
   have hdS:d < s.heap.objs.size:=Qn L;have m:d≠s.heap.objs.size:=Ys hdS
   have hel:es.size=zs.length:=by
    have h1:=Z.length;have h2:=congrArg List.length hk;simp at h2;simp at h1;omega
   have hent:∀ i,i < es.size->∃ e t,es[i]?=some e/\e.key=.str (zs.getD i (Str.ofString "")) t/\e.hash=hashStr w (zs.getD i (Str.ofString "")):=λi hi=>by
    have he:es[i]?=some es[i]:=Qb hi;have hkl:g.length=zs.length:=by simpa using congrArg List.length hk
    obtain⟨⟨k,x⟩,X⟩:∃ y,g[i]?=some y:=⟨_,Yp (by omega)⟩;obtain⟨h1,_⟩:=Z.get? (e:=es[i]) (by simpa using he) X;have ek:(g.map (·.1))[i]?=some k:=by rw[YT,X];rfl
    rw[hk,YT]at ek;obtain⟨z,ez,rfl⟩:=YV.mp ek;obtain⟨t,ht⟩:=Qv h1;obtain⟨k',g1,g2⟩:=hko es[i] (Array.getElem_mem hi);have hz:zs.getD i (Str.ofString "")=z:=by simp[ez]
    rw[hz];refine⟨es[i],t,he,ht,?_⟩;rw[ht]at g1;rcases CB (show C1 k' (Value.str z t)=true from g1)with⟨_,_,_,e2⟩|⟨x',t',e1,e2⟩
    ·cases e2
    ·cases e2;rw[g2,e1];rfl
   unfold Builtin.«set.__init__» noKeywords Builtin.Frozenset.updateFrom;wp_walk;rw[f];refine wpAny_pure ?_;have hfr:SS w (s.heap.push (Bo led)) s.heap.objs.size []:=JM led I hS;have hsc:(64:Nat)<=scanBound:=by unfold scanBound;omega
   refine wpAny_bind (wpAny_dictEntries p f ?_);refine wpAny_bind (Po hfr (by rw[hel];simp only[Yi];omega) λh1 N S1=>?_);have B:h1.get? d=some O:=(N.2 d m).trans p;refine wpAny_bind (wpAny_dictEntries (s:={s with heap:=h1}) B f ?_);refine wpAny_bind (wpAny_mono (gT (n:=es.size) (P:=λi s'=>∃ h' ks,s'={s with heap:=h'}/\Heap.SameBut s.heap.objs.size h1 h'/\SS w h' s.heap.objs.size ks/\ks.length<=i/\∀ x,x∈ks↔∃ j,j < i/\zs.getD j (Str.ofString "")=x) ?_ ⟨h1,[],rfl,Heap.SameBut.refl _ _,S1,Yr _,λx=>by simp⟩) ?_ λ_ _ z=>z)
   ·rintro i s' hi ⟨h',ks,rfl,sb,Sk,hl,q⟩;obtain⟨e,t,he,T,H⟩:=hent i hi;have v:h'.get? d=some O:=(sb.2 d m).trans B;refine wpAny_bind (wpAny_dictEntries (s:={s with heap:=h'}) v f ?_);rw[he];dsimp only;rw[T,H];refine wpAny_bind (wpAny_holding (JL (s:={s with heap:=h'}) Sk (by omega) λG b Y S'=>?_));have U:G.get? d=some O:=(Y.2 d m).trans v;refine wpAny_bind (wpAny_dictEpoch (s:={s with heap:=G}) U f ?_);rw[if_neg (by simp)];refine wpAny_pure ⟨rfl,G,_,rfl,sb.trans Y,S',?_,λx=>?_⟩
    ·split
     ·omega
     ·rw[Yg];omega
    ·constructor
     ·intro J;split at J
      ·obtain⟨j,hj,e⟩:=(q x).mp J;exact⟨j,by omega,e⟩
      ·rcases Yo.mp J with z | z
       ·exact⟨i,by omega,z.symm⟩
       ·obtain⟨j,hj,e⟩:=(q x).mp z;exact⟨j,by omega,e⟩
     ·rintro⟨j,hj,e⟩;by_cases hji:j=i
      ·subst hji;split
       ·rename_i hin;rw[<- e];exact hin
       ·rw[<- e];exact Ye
      ·have:=(q x).mpr ⟨j,by omega,e⟩;split
       ·exact this
       ·exact Yd _ this
   ·rintro _ s' ⟨h',ks,rfl,sb,Sk,_,q⟩;refine wpAny_pure (wpAny_pure ⟨rfl,h',s.toks,ks,rfl,Sk,λx=>(q x).trans ?_,λb o hb e=>?_⟩)
    ·constructor
     ·rintro⟨j,hj,e⟩;rw[<- e,Qe,Yp (by omega)];exact Qk _
     ·intro J;obtain⟨j,hj,e⟩:=List.getElem_of_mem J;refine⟨j,by omega,?_⟩;rw[Qe,Yp hj];exact e
    ·have K:b≠s.heap.objs.size:=Ys hb;rw[sb.2 b K,N.2 b K];exact Qm _ e
  ·match S,a with
   | .error e,a=>exact a
   | .ok .next,a=>exact a.elim
   | .ok .brk,a=>exact a.elim
   | .ok .cont,a=>exact a.elim
   | .ok (.ret r),a =>
    obtain⟨rfl,h',tk,ks,rfl,hS',q,hk'⟩:=a;(repeat (any_goals (first | assumption | wp_step)));exact h _ _ _ hS' q hk'
end
end L3
namespace L3
open PySem PySem.Spec PyProof.Rows L2
variable {K:PySem.W.Frag} {H H' H2:Hp}
section
variable {X:Cx} {e eb:Expr} {p1 p2 p3 q1 q2 q3 qb:Pos} {ta tb:TE}
def gW(K:PySem.W.Frag)(ta tb:TE):TE:=λσ H Q=>ta σ H λx H1=>∃(p:Addr)(kvs:List (Key×V))(xs:List Str),x=.ref p/\H1 p=some (.dK kvs)/\kvs.map (·.1)=xs.map Sum.inr/\xs.length < 32/\tb σ H1 λy H2=>∃(q:Addr)(ys:List Str),y=.ref q/\SqL K H2 q (ys.map V.str)/\ys.length < 32/\
 ∀(zs:List Str)(r:Addr),zs.Nodup->sortedS zs=true->(∀ x,x∈zs↔x∈xs\/x∈ys)->H2 r=none->Q (.ref r) (upd H2 r (.lst (zs.map V.str)))
theorem gX(hc:X.calm=true)(n1:X.mg "sorted"=none)(n2:X.mg "set"=none)(g1:Gl X "sorted")(g2:Gl X "set")(h1:starEach [e] X.env=(false,eval e X.env)::starEach [] X.env)(h2:starEach [eb] X.env=(false,eval eb X.env)::starEach [] X.env)
  (N:starEach [.BinOp (.Call (.Name "set" p1) [e] [] q1) .BitOr (.Call (.Name "set" p2) [eb] [] q2) qb] X.env=(false,eval (.BinOp (.Call (.Name "set" p1) [e] [] q1) .BitOr (.Call (.Name "set" p2) [eb] [] q2) qb) X.env)::starEach [] X.env) (ha:PE X e ta) (hb:PE X eb tb):
  PE X (.Call (.Name "sorted" p3) [.BinOp (.Call (.Name "set" p1) [e] [] q1) .BitOr (.Call (.Name "set" p2) [eb] [] q2) qb] [] q3) (gW X.K ta tb):=by
 intro pins s σ H Q I h;have bS:bootBuiltins "sorted"=some (.builtin "sorted"):=by decide +kernel
 have bT:bootBuiltins "set"=some (.type "set"):=by decide +kernel
 have hh:X.A.handled=none:=I.ok.hd hc;refine wpAny_Call_Name_kw (CC I g1 n1 bS ?_);refine PyProof.Rows.callWith_builtin1 (Hb N ?_) N rfl;refine wpAny_BinOp ?_;refine wpAny_Call_Name_kw (CC I g2 n2 bT ?_);refine Qh (Hb h1 ?_) h1 rfl;refine thn (ha pins s σ H _ I h) λv j zz1=>?_;obtain⟨x,H1,L,r1,p,l,xs,ex,hq,hkx,hn,q1⟩:=zz1;subst ex;cases r1;obtain⟨_,hdm,vd,rel,dd⟩:l.length<=sizeLine/\(p==sysModules)=false/\∃ R,KV l R/\j.heap.DictOf (A6 X.prog X.w) p R:=L.hok p _ hq;refine gU hh hdm dd (by rw[Qw rel];exact hkx) hn λh' tk ka hA O keep=>?_;have hA':=hA;obtain⟨S,esA,epA,tA,hoA,hxA,E,TA⟩:=hA;have I2:Inv X pins σ H1 {j with heap:=h',toks:=tk}:=L.kept λb u z=>keep b u (Qn z) z
 have I3:Inv X (pins++[(j.heap.objs.size,S)]) σ H1 {j with heap:=h',toks:=tk}:=I2.pins_of λp f=>by
  rcases Yz.mp f with f | f
  ·exact I2.pin p (YQ _ f)
  ·have e:=YA.mp f;subst e;exact⟨hoA,L.hok.fresh (Yr _),Qa (Ys L.lt),L.nofs (Yr _),λv z=>by rw[E]at z;cases z⟩
 refine wpAny_Call_Name_kw (CC I3 g2 n2 bT ?_);refine Qh (Hb h2 ?_) h2 rfl;refine thn (hb _ _ σ H1 _ I3 q1) λv2 g zz2=>?_;obtain⟨y,H2,I4,r2,q,ys,ey,hq2,Y,q2⟩:=zz2;subst ey;cases r2;have a:g.heap.get? j.heap.objs.size=some S:=(I4.pin (j.heap.objs.size,S) (YQ _ (YQ _ (YA.mpr rfl)))).1;have I5:Inv X pins σ H2 g:=I4.unpinned;obtain⟨t,F,pl2,hz2⟩:=I5.list hq2;have G:t.length=ys.length:=by have:=F.length;rw[Yh]at this;exact this.symm
 refine aP hh pl2.isList (by simpa using PJ F) (by rw[Yn,G];unfold scanBound;omega) λc tk2 kb hB D d=>?_;have hA2:SS X.w c j.heap.objs.size ka:=⟨S,esA,epA,tA,d _ _ (Qn a) a,hxA,E,TA⟩;have lka:ka.length < 32:=Nat.lt_of_le_of_lt (EX hA'.nd λx m=>(O x).mp m) hn;have U:kb.length < 32:=Nat.lt_of_le_of_lt (EX hB.nd λx m=>(D x).mp m) Y;refine fv (s:={g with heap:=c,toks:=tk2}) (Ys (Qn a)) hA2 hB lka U λN kc T o k=>?_
 have Z:kc.length < 64:=by
  have:=EX (xs:=ka++kb) T.nd λx m=>Yz.mpr ((o x).mp m);rw[Yj]at this;omega
 refine fI hh T Z λs' r R zs en hr P hv f hs i hg hos=>?_;have z1:g.heap.objs.size < c.objs.size:=SS.lt (s:={g with heap:=c}) hB;have z2:c.objs.size < N.objs.size:=SS.lt (s:={g with heap:=N}) T;have n:g.heap.objs.size<=r:=YL (Yu (Nat.lt_trans z1 z2) hr)
 have B:∀ b u,g.heap.get? b=some u->s'.heap.get? b=some u:=λb u z=>by
  have y1:=d b u (Qn z) z;have y2:=k b u (Qn y1) y1;exact i b u (Qn y2) y2
 have hzl:zs.length<=sizeLine:=by
  have:(64:Nat)<=sizeLine:=by decide
  rw[f.length_eq];omega
 have J:Inv X pins σ (upd H2 r (.lst (zs.map V.str))) {g with heap:=s'.heap,toks:=s'.toks}:=I5.laid (t':=s'.toks) B n (show ObjOk X.prog X.w _ s'.heap r (.lst (zs.map V.str))from⟨by rw[Yh];exact hzl,R,en,PK hv,P⟩);refine⟨.ref r,_,⟨J.ok,by rw[hos];exact J.os,by rw[hg];exact J.bare,J.base,J.loc,J.cell,J.free,J.freeC,J.pin,J.hok,J.len⟩,rfl,q2 zs r (f.nodup_iff.mpr T.nd) hs (λx=>?_) (I5.hok.fresh n)⟩;rw[f.mem_iff,o,O,D]
def Hh(ga gb:GE):GE:=λω G Q=>ga ω G λx G1=>∃(p:Addr)(kvs:List (Key×W))(xs:List Str),x=.ref p/\G1 p=some (.dct kvs)/\kvs.map (·.1)=xs.map Sum.inr/\xs.length < 32/\gb ω G1 λy G2=>∃ ys:List Str,CT G2 y=some (ys.map W.str)/\ys.length < 32/\
 ∀(zs:List Str)(p:Addr),zs.Nodup->sortedS zs=true->(∀ x,x∈zs↔x∈xs\/x∈ys)->G2 p=none->Q (.ref p) (put G2 p (.lst (zs.map W.str)))
variable {ga gb:GE}
theorem gY(f:ga.M)(mb:gb.M):GE.M (Hh ga gb):=λω G Q l h q=>f _ _ _ _ ((by rintro x m ⟨p,e,xs,h1,j,k,h2,q1⟩;exact⟨p,e,xs,h1,j,k,h2,mb _ _ _ _ ((by rintro y n ⟨ys,g,i,q2⟩;exact⟨ys,g,i,λzs p a b c d=>h _ _ (q2 zs p a b c d)⟩)) q1⟩)) q
theorem gZ(hc:X.calm=true)(L:X.mg "sorted"=none)(S:X.mg "set"=none)(g1:Gl X "sorted")(g2:Gl X "set")(h1:starEach [e] X.env=(false,eval e X.env)::starEach [] X.env)(h2:starEach [eb] X.env=(false,eval eb X.env)::starEach [] X.env)
  (N:starEach [.BinOp (.Call (.Name "set" p1) [e] [] q1) .BitOr (.Call (.Name "set" p2) [eb] [] q2) qb] X.env=(false,eval (.BinOp (.Call (.Name "set" p1) [e] [] q1) .BitOr (.Call (.Name "set" p2) [eb] [] q2) qb) X.env)::starEach [] X.env) (g:Em X e ga) (h:Em X eb gb):
  Em X (.Call (.Name "sorted" p3) [.BinOp (.Call (.Name "set" p1) [e] [] q1) .BitOr (.Call (.Name "set" p2) [eb] [] q2) qb] [] q3) (Hh ga gb):=by
 refine⟨A7 (gX hc L S g1 g2 h1 h2 N g.p h.p) λσ H Q f=>?_,gY g.m h.m⟩;obtain⟨ω,G,o,D,q⟩:=f;refine⟨ω,G,o,D,g.m _ _ _ _ (λx w d v H1 n P r1=>?_) q⟩;obtain⟨p,t,xs,rfl,F,j,z,q1⟩:=d;cases P;obtain⟨s,O,tl⟩:=r1 p _ F;refine⟨p,s,xs,rfl,O,by rw[Qx tl];exact j,z,ω,w,o.mono n,r1,h.m _ _ _ _ (λy T l u H2 A ty c=>?_) q1⟩;obtain⟨ys,I,a,q2⟩:=l;obtain⟨b,s,rfl,rfl,B,i,K⟩:=ET c ty I;obtain rfl:=PL K;refine⟨b,ys,rfl,.inl (.inl i),a,λzs r E J R k=>?_⟩;exact q2 zs r E J R (c.no k) _ _ (n.trans (A.trans (Mono.new k _))) (.ref r) (c.new k (PM zs))
end
end L3
namespace L3
open PySem PySem.Spec PyProof.Rows L2
section
variable {prog:Program} {w:World} {A:Around} {E:Value->Shared->Prop} {s:Shared}
end
end L3
namespace L3
open PySem PySem.Spec PyProof.Rows L2
variable {K:PySem.W.Frag} {H H' H2:Hp}
section
variable {prog:Program} {w:World} {A:Around} {E:Value->Shared->Prop} {s:Shared}
end
def eqI(x y:W)(_:Hw):Option W:=match y with
 | .int j=>(match x with
  | .int i=>some (.bl (i==j))
  | .bl b=>some (.bl ((if b then(1:Int)else 0)==j))
  | .tup _=>some (.bl false)
  | _=>none)
 | _=>none
def rDI(K:PySem.W.Frag):R2:=λv u H Q=>∃(j:Int)(c:Bool),u=.int j/\((∃ i,v=.int i/\c=(i==j))\/(∃ b,v=.bl b/\c=((if b then(1:Int)else 0)==j))\/(∃ a vs,v=.ref a/\SqT K H a vs/\c=false))/\Q (.bl c) H
variable {X:Cx}
theorem g7(l:X.A.units+100 < cLine):OpR X (compareOp .Eq) (rDI X.K):=by
 intro pins s σ H x y v u Q I e k h;obtain⟨j,c,rfl,h,q⟩:=h;obtain⟨t',rfl⟩:=k;have d:EP X pins σ Q (.bool c) s:=⟨.bl c,H,I,rfl,q⟩;rcases h with⟨i,rfl,rfl⟩|⟨b,rfl,rfl⟩|⟨a,m,rfl,f,rfl⟩
 ·obtain⟨t,rfl⟩:=e;exact eq_int d
 ·cases e;exact SeqAt.RcAt.bool_int _ _ _ _ _ _ _ d
 ·cases e;obtain⟨g,r1,p1,_⟩:=I.tuple f;exact SeqAt.RcAt.tuple_int _ _ p1 (by omega) _ _ _ _ d
theorem g8(x y:W)(v u:V)(G:Hw)(H:Hp)(Q:VK)(d:Tr K H v x)(ty:Tr K H u y)(r:RelH K H G)(q:Ae eqI x y G (dn K H Q)):rDI K v u H Q:=by
 obtain⟨w,e,a⟩:=Cd q;cases ty with
 | int j =>
  cases d with
  | int i=>cases e;exact⟨j,_,rfl,.inl ⟨i,rfl,rfl⟩,a _ H .refl (.bl _) r⟩
  | bl b=>cases e;exact⟨j,_,rfl,.inr (.inl ⟨b,rfl,rfl⟩),a _ H .refl (.bl _) r⟩
  | tup c l=>cases e;exact⟨j,_,rfl,.inr (.inr ⟨_,_,rfl,c,rfl⟩),a _ H .refl (.bl _) r⟩
  | _=>cases e
 | _=>cases e
theorem g9(a:X.A.units+100 < cLine):Cop X .Eq (Ae eqI):=⟨⟨_,g7 a,g8⟩,CG⟩
end L3
namespace L2
open PySem PySem.Spec PyProof.Rows
end L2
namespace L3
open PySem PySem.Spec PyProof.Rows L2
section
variable {prog:Program} {w:World} {A:Around} {E:Value->Shared->Prop} {s:Shared}
end
section
variable {α:Type} {x y z:α} {xs:List α}
theorem A1:atI (x::xs) 0=some x:=EN (j:=0) (xs:=x::xs) rfl
theorem Bb:atI (x::y::xs) 1=some y:=EN (j:=1) (xs:=x::y::xs) rfl
theorem Bl:atI (x::y::z::xs) 2=some z:=EN (j:=2) (xs:=x::y::z::xs) rfl
end
theorem Ao{w:W}{f:W->Prop}:opt (some w) f=f w:=rfl
variable {p:Addr}{o:HW}
theorem A3{G:Hw}(h:G p=none):Sub G (put G p o):=Sub.refl.put h
theorem BC{G a:Hw}(s:Sub G a)(h:a p=none):Sub G (put a p o):=s.trans (A3 h)
theorem Cr{G:Hw}:put (put G p o) p o'=put G p o':=by
 funext b;unfold put;split <;> rfl
variable {xs:List W}
theorem Fo{G:Hw}(h:G p=some (.lst xs)):CT G (.ref p)=some xs:=by unfold CT;dsimp only;rw[h]
theorem Zip{G:Hw}(h:G p=some (.lst xs)):Ec G (.ref p)=some xs:=by unfold Ec;dsimp only;rw[h]
theorem QP{G:Hw}(h:G p=some (.lst xs)):rdL G (.ref p)=some xs:=by unfold rdL;dsimp only;rw[h]
theorem BQ{G:Hw}{i:Int}(h:G p=some (.lst xs)):ixW (.ref p) (.int i) G=atI xs i:=by unfold ixW;dsimp only;rw[h]
theorem M4:∀ bs:List Bool,DC (bs.map W.bl)=some bs
 | []=>rfl
 | b::bs=>by show(DC (bs.map W.bl)).map (b::·)=_;rw[M4 bs];rfl
theorem QQ:∀ bs:List Int,Ea (bs.map W.int)=some bs
 | []=>rfl
 | b::bs=>by show(Ea (bs.map W.int)).map (b::·)=_;rw[QQ bs];rfl
theorem hE:∀ bs:List Str,EU (bs.map W.str)=some (bs.map V.str)
 | []=>rfl
 | b::bs=>by show(FA (.str b)).bind (λv=>(EU (bs.map W.str)).map (v::·))=_;rw[hE bs];rfl
theorem QR(s:Str):∀ bs:List Str,inV (.str s) (bs.map V.str)=bs.any (·==s)
 | []=>rfl
 | b::bs=>by
  show(eqV (.str b) (.str s)||inV (.str s) (bs.map V.str))=_;rw[QR s bs];rfl
theorem Da{gd:Hw->Prop}{R:List W->Hw->Prop}{f:W->W}{G:Hw}(a:gd G):∀(b:List W)(o:Option W)(ys:List W),(∀ x∈b,∀ Q:Kw,Q (f x) G->ge [some x] G Q)->
  ys.length+b.length<=sizeLine->R (ys++b.map f) G->Be gd (gNm 0) AM ge R b [o] G ys
 | [],o,ys,_,_,r=>⟨a,by simpa using r⟩
 | x::b,o,ys,h,hl,r=>by
  refine⟨a,by simp only[Yg]at hl;omega,?_⟩;show ge [some x] G λy c=>Be gd (gNm 0) AM ge R b [some x] c (ys++[y]);refine h x Ye _ (Da a b (some x) (ys++[f x]) (λy d=>h y (Yd _ d)) ?_ ?_)
  ·simp only[Yj,Yg,Yi]at hl ⊢;omega
  ·simpa[Yv]using r
theorem QS{gd:Hw->Prop}{R:List W->Hw->Prop}{f:W->W->W}{G:Hw}(a:gd G):∀(b:List (W×W))(o o':Option W)(ys:List W),(∀ x∈b,∀ Q:Kw,Q (f x.1 x.2) G->ge [some x.1,some x.2] G Q)->
  ys.length+b.length<=sizeLine->R (ys++b.map λx=>f x.1 x.2) G->Be gd (BW 0 1) AM ge R (b.map λx=>W.tup [x.1,x.2]) [o,o'] G ys
 | [],o,o',ys,_,_,r=>⟨a,by simpa using r⟩
 | x::b,o,o',ys,h,hl,r=>by
  refine⟨a,by simp only[Yg]at hl;omega,?_⟩;show ge [some x.1,some x.2] G λy c=>Be gd (BW 0 1) AM ge R (b.map λx=>W.tup [x.1,x.2]) [some x.1,some x.2] c (ys++[y]);refine h x Ye _ (QS a b (some x.1) (some x.2) (ys++[f x.1 x.2]) (λy d=>h y (Yd _ d)) ?_ ?_)
  ·simp only[Yj,Yg,Yi]at hl ⊢;omega
  ·simpa[Yv]using r
theorem QT:∀(xs ys:List W),B8 xs ys=(xs.zip ys).map λx=>W.tup [x.1,x.2]
 | [],_=>by simp[B8]
 | _::_,[]=>by simp[B8]
 | x::xs,y::ys=>by simp[B8,QT xs ys]
def spR{α:Type}(A:α->List W->Hw->Prop)(f:α->W):Spw:=λws G Q _=>∃ x,A x ws G/\Q (f x) G
theorem BJ{α:Type}{A:α->List W->Hw->Prop}{f:α->W}:Spw.M (spR A f):=(by rintro a G Q b E c h _ ⟨x,h1,q⟩;exact⟨x,h1,h _ _ q⟩)
def spL{α:Type}(A:α->List W->Hw->Prop)(f:α->List W):Spw:=λws G Q _=>∃ x,A x ws G/\∀ p,G p=none->Q (.ref p) (put G p (.lst (f x)))
theorem Eo{α:Type}{A:α->List W->Hw->Prop}{f:α->List W}:Spw.M (spL A f):=(by rintro b G Q c E d h _ ⟨x,h1,q⟩;exact⟨x,h1,λp a=>h _ _ (q p a)⟩)
theorem Hi{α:Type}(xs:List α):Cq xs (some 1) none=xs.drop 1:=by
 have e:HT.sIx xs.length 0 (some 1)=min 1 xs.length:=HT.sIx_nat xs.length 0 1;unfold Cq;rw[e,HT.sIx_none];cases xs with
 | nil=>rfl
 | cons x xs =>
  have a:min 1 (x::xs).length=1:=by simp only[Yg];omega
  rw[a];show(xs.take ((xs.length+1) - 1))=xs;rw[Nat.add_sub_cancel,List.take_length]
theorem hI{α:Type}(x:α)(xs:List α):¬ (HT.sIx (x::xs).length 0 (some 1)=0/\HT.sIx (x::xs).length (x::xs).length none=(x::xs).length):=by
 have e:HT.sIx (x::xs).length 0 (some 1)=min 1 (x::xs).length:=HT.sIx_nat (x::xs).length 0 1;intro h;have:=h.1;rw[e]at this;simp only[Yg]at this;omega
theorem hJ{G:Hw}{lo:Option Int}{Q:Kw}(h:G p=some (.lst xs))(q:∀ p1,G p1=none->Q (.ref p1) (put G p1 (.lst (Cq xs lo hi)))):slW (.ref p) lo hi G Q:=by
 unfold slW;dsimp only;rw[h];exact q
theorem AC{G:Hw}{q:Addr}(h:G p=some o)(h':G q=none):p≠q:=by intro e;rw[e,h']at h;cases h
variable {n:Nat}
theorem BE(h:n<=100000):n<=sizeLine:=Yt h (by decide)
theorem Ep(h:n<=100000):n < sizeLine:=Nat.lt_of_le_of_lt h (by decide)
section
variable {P:Program} {w:World} {K:PySem.W.Frag} {mg:Str->Option Value} {base:Heap}
theorem ok0{x:Str}{st:Stmt}{f:Addr}{fd:FuncData}{N ps:List Str}{k:Nat}{sp:Spw}{g:GS}(F:Fun K x x st f fd)(S:Az N ps (Aq st))(len:∀ c G Q E,sp c G Q E->c.length=ps.length)
  (u:∀{f:Addr}{cdv:Value}{A:Around}{outer:List Env}{s:Shared}{H:Hp}{E:XK},Room k (A.deeper (envOfC x (Aq st) s.heap.objs.size f cdv))->Ssm (cxW P w K mg base N x (Aq st) f cdv A outer s H E).nox (λB=>B=H) (Bn st) g)
  (ok:∀ c G(Q:Kw)(E:Addr->Hw->Prop),Kw.C Q->sp c G Q E->g (Ar Q) (AU N c) G):FnOk P w K mg base (CXe P w) (k+1) f fd ps (DB K sp):=by
 obtain⟨J,v,kV,o,pm,I,cdv,ct,j,rfl,n,d⟩:=F.ex;refine Gx n d S ((by rintro l H Q E ⟨c,G,t,r,q⟩;rw[t.length];exact len c G _ _ q)) λA outer s H l Q E h e=>?_;obtain⟨c,G,t,r,q⟩:=e;have D:=u (cdv:=cdv) (outer:=outer) (H:=H) (E:=E) h;refine⟨_,(D.p H rfl).nox,AU N c,G,GK t,r,.refl,?_⟩;exact D.m _ _ (Ar (dn K H Q)) _ (λa b z σ H2 m y i=>z _ H2 m Tr.non i) (λa b z=>z) (λa b z=>z.elim) (λa b z=>z.elim) (ok c G _ _ GL q)
end
def Hj:Spw:=λws _ Q _=>∃ ns:List Int,ws=[.rol (ns.map W.int)]/\ns.length<=63/\∀ G',Q (.bl true) G'
theorem QU{K:PySem.W.Frag}{H:Hp}:∀ ns:List Int,TrL K H (ns.map V.int) (ns.map W.int)
 | []=>.nil
 | n::ns=>.cons (.int n) (QU ns)
variable {K:PySem.W.Frag}{H:Hp}
theorem hL{a:Addr}{ns:List Int}(hl:ns.length<=63)(b:Gz H)(c:SqL K H a (ns.map V.int)):DB K Hj [.ref a] H (λv _=>v=.bl true) (λ_ _ _=>False):=by
 have d:RoL K H a (ns.map V.int):=by
  rcases c with(h |⟨o,h⟩)| h
  ·rcases b a with z |⟨o,xs,z⟩
   ·rw[z]at h;cases h
   ·rw[z]at h;cases h
  ·exact .inl ⟨o,h⟩
  ·exact .inr h
 exact⟨[.rol (ns.map W.int)],λ_=>none,.cons (.rol d (QU ns)) .nil,(λa o e=>by cases e),ns,rfl,hl,λf v H' m t r=>D7 t⟩
theorem hO{P:Program}{w:World}{s:Shared}{e:Value}{s':Shared}(h:CXe P w [] H s (λ_ _ _=>False) e s'):False:=by
 obtain⟨_,_,_,_,_,q⟩:=h;exact q
section
variable {K:PySem.W.Frag} {h:Heap} {mg:Str->Option Value} (X:K.In h) (G:h.Ns mainGlobals mg)
include X G
variable {x:Str}
theorem hQ{st:Stmt}{ps:List Str}{f:Addr}{i:Value}{g d:Option Addr}{e:Array (Option Value)}{kV a pm cdv ct:Value}(h:PySem.W.nsIn K mainGlobals x=some (some (.ref f)))
  (l:K.lookup f=some ⟨i,g,.func (PySem.W.fnOf x x (Dv st) (Bn st) (Aq st) .none kV a pm d cdv ct),e⟩) (c:PySem.W.codeIn K cdv x=true) (k:PySem.W.keepIn K (.ref f)=true)
  (b:∀(kV a pm:Value)(d:Option Addr)(cdv ct:Value)(us:List Value),us.length=ps.length->bindArgs (PySem.W.fnOf x x (Dv st) (Bn st) (Aq st) .none kV a pm d cdv ct) ⟨us,[]⟩=pure (ps.zip us)):Fn K mg st x ps :=
 ⟨f,_,PySem.W.mg_of X G h,NJ l c k,(NJ l c k).binds b⟩
theorem FR{i:Int}{t:Tok}(e:PySem.W.nsIn K mainGlobals x=some (some (.int i t))):Glb K mg x (.int i):=⟨.int i,.int i t,PySem.W.mg_of X G e,⟨t,rfl⟩,λH=>.int i⟩
theorem hU{d:Addr}{ts:List (Str×Tok)}{dd:Option Addr}{f:Array (Option Value)}(e:PySem.W.nsIn K mainGlobals x=some (some (.ref d)))(l:K.lookup d=some ⟨.type "tuple",none,.seq ((ts.map λp=>Value.str p.1 p.2).toArray) n,f⟩)(g:ts.length<=1000):
  Glb K mg x (.tup (ts.map λp=>.str p.1)):=by
 have c:∀ ts:List (Str×Tok),Vals (ts.map λp=>V.str p.1) (ts.map λp=>Value.str p.1 p.2):=λts=>by
  induction ts with
  | nil=>exact .nil
  | cons p ts a=>exact .cons ⟨p.2,rfl⟩ a
 have b:∀(H:Hp)(ts:List (Str×Tok)),TrL K H (ts.map λp=>V.str p.1) (ts.map λp=>W.str p.1):=λH ts=>by
  induction ts with
  | nil=>exact .nil
  | cons p ts a=>exact .cons (.str _) a
 refine⟨.ref d,.ref d,PySem.W.mg_of X G e,rfl,λH=>.tup (.inr ⟨_,_,n,l,rfl,rfl,rfl,?_,by simpa using c ts⟩) (b H ts)⟩;simp only[Yn,Yh];exact Yt g (by decide)
end
theorem hV{h base:Heap}{mg:Str->Option Value}(X:K.In h)(G:h.Ns mainGlobals mg)(B:K.In base){x:Str}{d:Addr}{o:Obj}{es:Array DictEntry}{a:Nat}{D:List (Str×Int)}(e:PySem.W.nsIn K mainGlobals x=some (some (.ref d)))(l:K.lookup d=some o)
  (hd:(d==sysModules)=false) (c:o.ExactDict) (f:o.data=.dict es a) (b:KTD.Rows (KTD.Dat.At base) es.toList (D.map λp=>(p.1,KTD.Dat.flat (.int p.2)))):Kh mg base x D :=
 ⟨d,PySem.W.mg_of X G e,hd,o,es,a,B _ _ l,c,f,b⟩
variable {b:Bool}
theorem CW{C D:Addr}(a:(Value.ref C==Value.ref D)=false)(c:(PySem.W.clsIn K D).isSome=true)(h1:PySem.W.typeIn K (.ref D)=some (.type "type"))(h2:PySem.W.subIn K (.ref C) (.ref D)=some b):PySem.W.kitOne K (.ref C) (.ref D)=some b:=by
 unfold PySem.W.kitOne PySem.W.kitCls;rw[if_neg (by rw[a];exact YY)];dsimp only;rw[if_pos (by rw[c,h1];rfl)];exact h2
theorem QV{C:Addr}:PySem.W.kitOne K (.ref C) (.ref C)=some true:=by
 unfold PySem.W.kitOne;rw[if_pos (by simp)]
theorem QW{C:Addr}{T:String}(a:PySem.W.kitMeta T=true)(h2:PySem.W.subIn K (.ref C) (.type T)=some b):PySem.W.kitOne K (.ref C) (.type T)=some b:=by
 unfold PySem.W.kitOne PySem.W.kitCls;rw[if_neg (by intro h;cases beq_iff_eq.mp h)];dsimp only;rw[if_pos a];exact h2
theorem hW{l:PySem.W.OpenLaw}{q:Program}{loose:List Str}{XP:(Str->Option Value)->Heap->Prop}{YP:World->Heap->Prop}{d:DefRec}{K:Params->PySem.W.Frag}{k:Nat}(g:Room k callerA)(o:l.most=some 63)(b:d.params.defaults=[])
  (j:∀(w:World)(h:Heap),YP w h->(K w.params).In h)
  (F:∀(w:World)(mg:Str->Option Value)(c:Addr)(h:Heap),(K w.params).In h->h.Ns mainGlobals mg->mg d.name=some (.ref c)->
   ∃ fd:FuncData,(∀(s:Shared)(u:Value),BindsTo s fd ⟨[u],[]⟩ [("script",u)])/\∀ base:Heap,(K w.params).In base->base.Ns mainGlobals mg->FnOk l.prog w (K w.params) mg base (CXe l.prog w) k c fd ["script"] (DB (K w.params) Hj)):
  PySem.W.WalkO q loose XP YP l.row.toRowW d [] (λf vs=>PySem.call f vs):=
 L2.aB (n:=63) (k:=k) (x:="script") (CX:=λw=>CXe l.prog w) (sp:=λw=>DB (K w.params) Hj) o (by decide) b g j F (λw H a ns hl i m=>hL hl i m) λw H s e s' z=>hO z
theorem Cj{α:Type}{o:Option α}{x:α}(h:o=some x):o.isSome=true:=by rw[h];rfl
variable {us:List Value}
theorem ln0(h:us.length=0):us=[]:=Qj.mp h
theorem ln1(h:us.length=n+1):∃ a r,us=a::r/\r.length=n:=by
 cases us with
 | nil=>cases h
 | cons a r=>exact⟨a,r,rfl,Nat.succ.inj h⟩
end L3
namespace KR
open PySem L2 L3
mutual
inductive Kd where
 | any | num | truth
 | to (a b:Kd)| box (a:Kd)| row (fs:Fs) (o:Bool)
inductive Fs where
 | nil | cons (n:Str) (m:Bool) (k:Kd) (r:Fs)
end
def mark(m:Bool):Str:=if m then "must" else "may"
mutual
def Kd.enc:Kd->W
 | .any=>.tup [.str "any"]
 | .num=>.tup [.str "num"]
 | .truth=>.tup [.str "truth"]
 | .to a b=>.tup [.str "to",a.enc,b.enc]
 | .box a=>.tup [.str "box",a.enc]
 | .row fs o=>.tup [.str "row",.tup fs.enc,.bl o]
def Fs.enc:Fs->List W
 | .nil=>[]
 | .cons n m k r=>.tup [.str n,.str (mark m),k.enc]::r.enc
end
def Fs.kinds:Fs->List Kd
 | .nil=>[]
 | .cons _ _ k r=>k::r.kinds
def Fs.names:Fs->List Str
 | .nil=>[]
 | .cons n _ _ r=>n::r.names
def Kd.kids:Kd->List Kd
 | .to a b=>[a,b]
 | .box a=>[a]
 | .row fs _=>fs.kinds
 | _=>[]
mutual
def Kd.cnt:Kd->Nat
 | .to a b=>1+(a.cnt+b.cnt)
 | .box a=>1+a.cnt
 | .row fs _=>1+fs.cnt
 | _=>1
def Fs.cnt:Fs->Nat
 | .nil=>0
 | .cons _ _ k r=>k.cnt+r.cnt
end
mutual
def Kd.dp:Kd->Nat
 | .to a b=>1+max a.dp b.dp
 | .box a=>1+a.dp
 | .row fs _=>1+fs.dp
 | _=>1
def Fs.dp:Fs->Nat
 | .nil=>0
 | .cons _ _ k r=>max k.dp r.dp
end
mutual
def Kd.all:Kd->List Kd
 | .to a b=>.to a b::(a.all++b.all)
 | .box a=>.box a::a.all
 | .row fs o=>.row fs o::fs.all
 | .any=>[.any]
 | .num=>[.num]
 | .truth=>[.truth]
def Fs.all:Fs->List Kd
 | .nil=>[]
 | .cons _ _ k r=>k.all++r.all
end
def Bi:List Kd->Nat
 | []=>0
 | k::r=>k.cnt+Bi r
def dpL:List Kd->Nat
 | []=>0
 | k::r=>max k.dp (dpL r)
theorem KB:∀ fs:Fs,fs.cnt=Bi fs.kinds
 | .nil=>rfl
 | .cons _ _ k r=>by show k.cnt+r.cnt=k.cnt+Bi r.kinds;rw[KB r]
theorem QX:∀ fs:Fs,fs.dp=dpL fs.kinds
 | .nil=>rfl
 | .cons _ _ k r=>by show max k.dp r.dp=max k.dp (dpL r.kinds);rw[QX r]
theorem QY:∀ fs:Fs,fs.all=fs.kinds.flatMap Kd.all
 | .nil=>rfl
 | .cons _ _ k r=>by show k.all++r.all=(k::r.kinds).flatMap Kd.all;rw[QY r,Qf]
theorem FT(k:Kd):k.cnt=1+Bi k.kids:=by
 cases k with
 | to a b=>show 1+(a.cnt+b.cnt)=1+(a.cnt+(b.cnt+0));omega
 | box a=>show 1+a.cnt=1+(a.cnt+0);omega
 | row fs o=>show 1+fs.cnt=1+Bi fs.kinds;rw[KB]
 | _=>rfl
theorem Hk(k:Kd):k.dp=1+dpL k.kids:=by
 cases k with
 | to a b=>show 1+max a.dp b.dp=1+max a.dp (max b.dp 0);omega
 | box a=>show 1+a.dp=1+max a.dp 0;omega
 | row fs o=>show 1+fs.dp=1+dpL fs.kinds;rw[QX]
 | _=>rfl
theorem KC(k:Kd):k.all=k::k.kids.flatMap Kd.all:=by
 cases k with
 | to a b=>show Kd.to a b::(a.all++b.all)=Kd.to a b::[a,b].flatMap Kd.all;simp[Qf]
 | box a=>show Kd.box a::a.all=Kd.box a::[a].flatMap Kd.all;simp[Qf]
 | row fs o=>show Kd.row fs o::fs.all=Kd.row fs o::fs.kinds.flatMap Kd.all;rw[QY]
 | _=>rfl
theorem QZ:∀(l m:List Kd),Bi (l++m)=Bi l+Bi m
 | [],m=>by simp[Bi]
 | k::l,m=>by show k.cnt+Bi (l++m)=k.cnt+Bi l+Bi m;rw[QZ l m];omega
theorem Q0:∀(l m:List Kd),dpL (l++m)=max (dpL l) (dpL m)
 | [],m=>by simp[dpL]
 | k::l,m=>by show max k.dp (dpL (l++m))=max (max k.dp (dpL l)) (dpL m);rw[Q0 l m];omega
theorem Q1(k:Kd):1<=k.cnt:=by rw[FT];omega
theorem Dc(k:Kd):1<=k.dp:=by rw[Hk];omega
theorem Q2:∀ l:List Kd,Bi l=l.length+Bi (l.flatMap Kd.kids)
 | []=>rfl
 | k::l=>by
  show k.cnt+Bi l=(l.length+1)+Bi ((k::l).flatMap Kd.kids);rw[Qf,QZ,Q2 l,FT k];omega
theorem Q3:∀ l:List Kd,l≠[]->dpL l=1+dpL (l.flatMap Kd.kids)
 | [],h=>absurd rfl h
 | [k],_=>by
  show max k.dp 0=1+dpL ([k].flatMap Kd.kids);rw[Qf,List.flatMap_nil,Yx,Hk];omega
 | k::a::l,_=>by
  have b:=Q3 (a::l) (by simp);show max k.dp (dpL (a::l))=1+dpL ((k::a::l).flatMap Kd.kids);rw[Qf,Q0,b,Hk k];omega
theorem Q4:∀ l:List Kd,l.length<=Bi l
 | []=>Yr _
 | k::l=>by have:=Q4 l;have:=Q1 k;show l.length+1<=k.cnt+Bi l;omega
theorem Q5:∀{l:List Kd}{k:Kd},k∈l->k.cnt<=Bi l
 | a::l,k,h=>by
  show k.cnt<=a.cnt+Bi l;walk_at "ph"
  ·omega
  ·have:=Q5 h;omega
theorem Eb:∀{l:List Kd}{k:Kd},k∈l->k.dp<=dpL l
 | a::l,k,h=>by
  show k.dp<=max a.dp (dpL l);walk_at "ph"
  ·omega
  ·have:=Eb h;omega
theorem FU{k c:Kd}(h:c∈k.kids):c.dp+1<=k.dp:=by rw[Hk k];have:=Eb h;omega
theorem KD:∀ fs:Fs,fs.enc.length=fs.kinds.length
 | .nil=>rfl
 | .cons _ _ k r=>by show r.enc.length+1=r.kinds.length+1;rw[KD r]
theorem hX:∀(n:Nat)(k:Kd),k.dp<=n->k.all.length=k.cnt:=by
 intro n;induction n with
 | zero=>intro k h;have:=Dc k;omega
 | succ n b =>
  intro k h
  have key:∀ l:List Kd,(∀ c∈l,c.dp<=n)->(l.flatMap Kd.all).length=Bi l:=by
   intro l;induction l with
   | nil=>intro _;rfl
   | cons c l a =>
    intro hl;rw[Qf,Yj,b c (hl c Ye),a (λd hd=>hl d (Yd _ hd))];rfl
  rw[KC,Yg,key k.kids (λc hc=>by have:=FU hc;omega),FT];omega
theorem KG(k:Kd):k.all.length=k.cnt:=hX k.dp k (Yr _)
def Kd.unk:Kd->Bool
 | .any=>true
 | .row _ o=>o
 | _=>false
def Kd.fb:Kd->Bool
 | .to _ _=>true
 | .box _=>true
 | _=>false
def Kd.known(k:Kd):Bool:=!(k.all.any Kd.unk)
def Kd.data(k:Kd):Bool:=!(k.all.any Kd.fb)
def Kd.hd:Kd->Str
 | .any=>"any"
 | .num=>"num"
 | .truth=>"truth"
 | .to _ _=>"to"
 | .box _=>"box"
 | .row _ _=>"row"
def Kd.own:Kd->List Str
 | .row _ o=>if o then["row","open"]else["row"]
 | k=>[k.hd]
def FV(z:Str):Bool:=!As z "a"&&!As "z" z
def AE(n:Str):Bool:=decide (1<=n.length)&&decide (n.length<=8)&&n.cps.toList.all λc=>FV ⟨#[c]⟩
def rise:List Str->Bool
 | a::b::r=>As a b&&rise (b::r)
 | _=>true
mutual
def Kd.ok:Kd->Bool
 | .to a b=>a.ok&&b.ok
 | .box a=>a.ok
 | .row fs _=>rise fs.names&&fs.ok
 | _=>true
def Fs.ok:Fs->Bool
 | .nil=>true
 | .cons n _ k r=>AE n&&k.ok&&r.ok
end
theorem KH:∀{fs:Fs},fs.ok=true->∀ c∈fs.kinds,c.ok=true
 | .nil,_,c,hc=>by cases hc
 | .cons n m k r,h,c,hc=>by
  have h':(AE n&&k.ok&&r.ok)=true:=h;walk_at "pc";rcases Yo.mp hc with rfl | hc
  ·exact h'.1.2
  ·exact KH h'.2 c hc
theorem Hl{k:Kd}(h:k.ok=true):∀ c∈k.kids,c.ok=true:=by
 intro c hc;cases k with
 | to a b =>
  have h':(a.ok&&b.ok)=true:=h;walk_at "pc";have d:c=a\/c=b:=by simpa[Kd.kids]using hc
  rcases d with rfl | rfl
  ·exact h'.1
  ·exact h'.2
 | box a=>have d:c=a:=by simpa[Kd.kids]using hc
          subst d;exact h
 | row fs o =>
  have h':(rise fs.names&&fs.ok)=true:=h;walk_at "pc";exact KH h'.2 c hc
 | _=>cases hc
theorem A2(n:Bool)(i j:Int)(G:Hw):eqF n (.int i) (.int j) G=some (.bl ((i==j) != n)):=rfl
theorem A4(n:Bool)(i j:Str)(G:Hw):eqF n (.str i) (.str j) G=some (.bl ((i==j) != n)):=rfl
theorem A5(n:Bool)(i j:Bool)(G:Hw):eqF n (.bl i) (.bl j) G=some (.bl ((i==j) != n)):=rfl
open PySem PySem.Spec PyProof.Rows L2 L3
abbrev KI:Stmt:=top 28
abbrev KJ:Stmt:=top 29
abbrev KM:Stmt:=top 27
abbrev KN:Stmt:=top 26
abbrev KO:Stmt:=top 25
abbrev KP:Stmt:=top 24
abbrev KQ:Stmt:=top 23
abbrev Hm:Stmt:=top 21
abbrev EZ:Stmt:=top 20
abbrev KS:Stmt:=top 19
abbrev FW:Stmt:=top 18
abbrev KU:Stmt:=top 22
abbrev FX:Stmt:=top 17
abbrev KW:Stmt:=top 14
abbrev KY:Stmt:=top 15
abbrev hY:Stmt:=top 16
abbrev FY:Stmt:=top 40
abbrev KZ:Stmt:=top 42
abbrev K0:Stmt:=top 44
abbrev K1:Stmt:=top 43
abbrev FZ:Stmt:=top 41
abbrev K2:Stmt:=top 31
abbrev K3:Stmt:=top 45
abbrev K4:Stmt:=top 48
abbrev K5:Stmt:=top 47
abbrev K6:Stmt:=top 46
abbrev F0:Stmt:=top 37
abbrev F1:Stmt:=top 36
abbrev K7:Stmt:=top 49
abbrev F2:Stmt:=top 38
abbrev hZ:Stmt:=top 55
abbrev h5:Stmt:=top 54
abbrev h6:Stmt:=top 53
abbrev ia:Stmt:=top 52
abbrev ib:Stmt:=top 51
abbrev K8:Stmt:=top 50
abbrev F3:Stmt:=top 39
abbrev La:Stmt:=top 57
abbrev Lb:Stmt:=top 58
abbrev Lc:Stmt:=top 59
abbrev Ld:Stmt:=top 60
abbrev Le:Stmt:=top 61
abbrev Lf:Stmt:=top 62
abbrev Lg:Stmt:=top 65
abbrev Lh:Stmt:=top 66
abbrev Li:Stmt:=top 67
abbrev Lj:Stmt:=top 69
abbrev Lk:Stmt:=top 68
abbrev Ll:Stmt:=top 63
abbrev Hn:Stmt:=top 64
abbrev Ho:Stmt:=top 70
abbrev Hq:Stmt:=top 71
abbrev Hr:Stmt:=top 74
abbrev F4:Stmt:=top 72
abbrev Lm:Stmt:=top 73
abbrev E1:Stmt:=top 75
def B4:List (Str×Int):=[("any",1),("num",1),("truth",1),("to",3),("box",2),("row",3)]
structure Adr where
 CastError:Addr
 NoKind:Addr
 NoTerm:Addr
 BadUse:Addr
 NoValue:Addr
 NoNumber:Addr
 BadNote:Addr
structure Fns(K:PySem.W.Frag)(mg:Str->Option Value):Prop where
 ic:Fn K mg KI "is_small_letter" ["sign"]
 ie:Fn K mg KJ "names_rise" ["names"]
 ig:Fn K mg KM "is_name" ["thing"]
 ii:Fn K mg KN "is_field" ["thing"]
 ij:Fn K mg KO "are_fields" ["thing"]
 ik:Fn K mg KP "has_form" ["thing"]
 il:Fn K mg KQ "kinds_within" ["kind"]
 Q6:Fn K mg Hm "layer_within" ["layer","things_within"]
 Q7:Fn K mg EZ "is_made_of" ["thing","is_formed","things_within","most","deepest"]
 im:Fn K mg KS "is_kind" ["thing"]
 io:Fn K mg FW "check_kind" ["thing"]
 Q8:Fn K mg KU "kinds_in" ["kind"]
 ip:Fn K mg FX "is_data" ["kind"]
 iq:Fn K mg KW "entry_of" ["row","name"]
 ir:Fn K mg KY "names_of" ["row"]
 nu:Fn K mg hY "names_of_both" ["one","other"]
 iu:Fn K mg FY "check_data_kind" ["thing"]
 iw:Fn K mg KZ "values_within" ["value"]
 ix:Fn K mg K0 "is_value_field" ["thing"]
 iy:Fn K mg K1 "has_value_form" ["thing"]
 iz:Fn K mg FZ "check_value" ["thing"]
 iA:Fn K mg K2 "behind" ["step","path"]
 iB:Fn K mg K3 "head_of" ["value"]
 iC:Fn K mg K4 "misfit_of_field" ["fields","name","entry"]
 iD:Fn K mg K5 "misfit_of_row" ["fields","row"]
 Q9:Fn K mg K6 "misfit_of" ["value","kind"]
 iE:Fn K mg F0 "misfit" ["value","kind"]
 iF:Fn K mg F1 "fits" ["value","kind"]
 Ra:Fn K mg K7 "sample" ["kind"]
 iG:Fn K mg F2 "sample_of" ["kind"]
 nv:Fn K mg hZ "two_letters" ["number"]
 nw:Fn K mg h5 "name_beyond" ["names"]
 ny:Fn K mg h6 "sample_with" ["row","name","found"]
 nz:Fn K mg ia "parting_field" ["one","other"]
 iH:Fn K mg ib "parting_row" ["one","other"]
 iI:Fn K mg K8 "parting" ["one","other"]
 iJ:Fn K mg F3 "parting_value" ["one","other"]
 iK:Fn K mg La "_law_cell_at" ["script","k"]
 iL:Fn K mg Lb "_law_state" ["script","k"]
 iM:Fn K mg Lc "_law_choice" ["state","many"]
 Rb:Fn K mg Ld "_law_row" ["state","deep","plain","known"]
 Ln:Fn K mg Le "_law_kind" ["state","deep","plain","known"]
 iN:Fn K mg Lf "_law_drawn_kind" ["script","k","plain","known"]
 Rc:Fn K mg Lg "_law_value" ["state","deep"]
 Re:Fn K mg Lh "_law_value_of" ["state","kind"]
 Rf:Fn K mg Li "_law_turned" ["state","value"]
 Rg:Fn K mg Lj "_law_values" ["value"]
 iO:Fn K mg Lk "_law_drawn_value" ["script","k","kind"]
 iP:Fn K mg Ll "_law_nested_kind" ["deep","kind"]
 iQ:Fn K mg Hn "_law_bad_kind" ["state"]
 iR:Fn K mg Ho "_law_marks" ["e"]
 iS:Fn K mg Hq "_law_refused" ["marks","which"]
 iT:Fn K mg Hr "_law_bad_value" ["state"]
 iU:Fn K mg F4 "_law_called" ["way","kind","value"]
 iV:Fn K mg Lm "_law_told" ["way","kind","value"]
 iW:Fn K mg E1 "law" ["script"]
structure Bls(mg:Str->Option Value):Prop where
 iX:mg "ValueError"=none
 Er:mg "all"=none
 Rh:mg "any"=none
 iY:mg "bool"=none
 Lo:mg "dict"=none
 Ri:mg "int"=none
 Ck:mg "isinstance"=none
 iZ:mg "len"=none
 Rj:mg "list"=none
 i2:mg "range"=none
 Rk:mg "set"=none
 F5:mg "sorted"=none
 i3:mg "str"=none
 Rl:mg "sum"=none
 DJ:mg "tuple"=none
 i4:mg "zip"=none
structure Tx(K:PySem.W.Frag)(mg:Str->Option Value)(base:Heap)(a:Adr):Prop extends Fns K mg,Bls mg where
 Rm:mg "CastError"=some (.ref a.CastError)
 Hs:mg "NoKind"=some (.ref a.NoKind)
 Rn:mg "NoTerm"=some (.ref a.NoTerm)
 Ro:mg "BadUse"=some (.ref a.BadUse)
 Lp:mg "NoValue"=some (.ref a.NoValue)
 Rp:mg "NoNumber"=some (.ref a.NoNumber)
 Rq:mg "BadNote"=some (.ref a.BadNote)
 Es:PySem.W.excIn K a.NoKind [.type "ValueError",.type "Exception",.type "BaseException",.type "object"] "ValueError.__new__"=true
 E2:PySem.W.excIn K a.NoValue [.type "ValueError",.type "Exception",.type "BaseException",.type "object"] "ValueError.__new__"=true
 E3:PySem.W.typeIn K (.ref a.CastError)=some (.type "type")
 E4:(PySem.W.clsIn K a.CastError).isSome=true
 E5:PySem.W.subIn K (.ref a.CastError) (.type "BaseException")=some true
 E6:Glb K mg "LETTERS" (.str "abcdefghijklmnopqrstuvwxyz")
 E7:Glb K mg "MARKS" (.tup [(.str "must"),(.str "may")])
 E8:Glb K mg "MOST_DEPTH" (.int 8)
 E9:Glb K mg "MOST_KINDS" (.int 40)
 Fa:Glb K mg "MOST_LETTERS" (.int 8)
 Fb:Glb K mg "MOST_VALUES" (.int 100)
 Fc:Glb K mg "MOST_VALUE_DEPTH" (.int 10)
 Rr:Kh mg base "LENGTHS" B4
 Rt:PySem.W.subIn K (.ref a.NoKind) (.ref a.CastError)=some true
 Ru:C5 K a.NoKind
 Rv:PySem.W.kitOne K (.ref a.NoKind) (.ref a.NoKind)=some true
 Rw:PySem.W.kitOne K (.ref a.NoKind) (.ref a.NoTerm)=some false
 Rx:PySem.W.kitOne K (.ref a.NoKind) (.ref a.BadUse)=some false
 Ry:PySem.W.kitOne K (.ref a.NoKind) (.ref a.NoValue)=some false
 Rz:PySem.W.kitOne K (.ref a.NoKind) (.ref a.NoNumber)=some false
 RA:PySem.W.kitOne K (.ref a.NoKind) (.ref a.BadNote)=some false
 RB:PySem.W.kitOne K (.ref a.NoKind) (.type "ValueError")=some true
 RC:PySem.W.subIn K (.ref a.NoValue) (.ref a.CastError)=some true
 RD:C5 K a.NoValue
 RE:PySem.W.kitOne K (.ref a.NoValue) (.ref a.NoKind)=some false
 RF:PySem.W.kitOne K (.ref a.NoValue) (.ref a.NoTerm)=some false
 RG:PySem.W.kitOne K (.ref a.NoValue) (.ref a.BadUse)=some false
 RH:PySem.W.kitOne K (.ref a.NoValue) (.ref a.NoValue)=some true
 RI:PySem.W.kitOne K (.ref a.NoValue) (.ref a.NoNumber)=some false
 RJ:PySem.W.kitOne K (.ref a.NoValue) (.ref a.BadNote)=some false
 RK:PySem.W.kitOne K (.ref a.NoValue) (.type "ValueError")=some true
def Dn(P:Program)(w:World)(K:PySem.W.Frag)(mg:Str->Option Value)(base:Heap)(N:List Str)(x:Str)(st:Stmt)(k:Nat)(g:GS):Prop:=∀{f:Addr}{cdv:Value}{A:Around}{outer:List Env}{s:Shared}{H:Hp}{E:XK},Room k (A.deeper (envOfC x (Aq st) s.heap.objs.size f cdv))->Ssm (cxW P w K mg base N x (Aq st) f cdv A outer s H E).nox (λB=>B=H) (Bn st) g
variable {K:PySem.W.Frag}{mg:Str->Option Value}{base:Heap}{x:Str}{st:Stmt}{k n:Nat}{sp:Spw}
theorem mk0{P:Program}{w:World}{N ps:List Str}{g:GS}(Fx:Fn K mg st x ps)(c:ps.length=n)(S:Az N ps (Aq st))(b:sp.M)(len:∀ a G Q E,sp a G Q E->a.length=n)(d:Dn P w K mg base N x st k g)(ok:∀ a G(Q:Kw)(E:Addr->Hw->Prop),Kw.C Q->sp a G Q E->g (Ar Q) (AU N a) G):Df P w K mg base x (k+1) n sp:=L3.mk0 Fx c S b len d ok
set_option hygiene false in
local macro_rules | `(tactic| walk_at "s") => `(tactic| exact ⟨rfl, rfl, rfl, by decide +kernel, rfl, by decide +kernel, by decide +kernel⟩)
set_option hygiene false in
local macro_rules | `(tactic| walk_at "c") => `(tactic| first | exact J6 hu | exact OO hu | exact OP | exact cop_nin | exact OM | exact OK | exact ON | exact OL | exact Ks | exact PZ | exact cop_inT hu | exact cop_nInT hu | exact cop_nInU hu | exact cop_isB | exact cop_inN hu | exact cop_inK | exact P3 | exact cop_inS)
set_option hygiene false in
local macro_rules | `(tactic| walk_at "b") => `(tactic| first | refine B7 Ei (Ed rfl) rfl T.Er (by decide) rfl rfl rfl ?_ | refine B7 O1 (OR rfl) rfl T.Rh (by decide) rfl rfl rfl ?_ | refine CI Kg (blt_dict rfl) rfl T.Lo (by decide) rfl rfl rfl ?_ | refine CI O4 (dU) rfl T.Ri (by decide) rfl rfl rfl ?_ | refine B7 eA (dN) rfl T.iZ (by decide) rfl rfl rfl ?_ | refine CI O3 (dQ) rfl T.Rj (by decide) rfl rfl rfl ?_ | refine B7 bt_sorted (blt_sorted) rfl T.F5 (by decide) rfl rfl rfl ?_ | refine B7 O2 (OS rfl) rfl T.Rl (by decide) rfl rfl rfl ?_ | refine CI DG (Ef) rfl T.DJ (by decide) rfl rfl rfl ?_ | refine CI Kg (gw rfl) rfl T.Lo (by decide) rfl rfl rfl ?_ | refine B7 bt_sorted (blt_sortK rfl) rfl T.F5 (by decide) rfl rfl rfl ?_ | refine EV (T := "tuple") (by decide) DG T.DJ T.Ck rfl rfl (by decide) rfl rfl rfl ?_ | refine EV (T := "list") (by decide) O3 T.Rj T.Ck rfl rfl (by decide) rfl rfl rfl ?_ | refine EV (T := "str") (by decide) eB T.i3 T.Ck rfl rfl (by decide) rfl rfl rfl ?_ | refine EV (T := "int") (by decide) O4 T.Ri T.Ck rfl rfl (by decide) rfl rfl rfl ?_ | refine EV (T := "bool") (by decide) eD T.iY T.Ck rfl rfl (by decide) rfl rfl rfl ?_ | refine EV (T := "dict") (by decide) Kg T.Lo T.Ck rfl rfl (by decide) rfl rfl rfl ?_ | refine em_sortU rfl T.F5 T.Rk rfl rfl rfl rfl rfl ?_ ?_ | refine eJ T.Rr rfl rfl rfl rfl rfl rfl rfl ?_ | refine FD dV rfl rfl rfl rfl rfl ?_ ?_ | refine FD Kb rfl rfl rfl rfl rfl ?_ ?_ | refine FD fK rfl rfl rfl rfl rfl ?_ ?_ | exact Ej T.E6 rfl rfl | exact Ej T.E7 rfl rfl | exact Ej T.E8 rfl rfl | exact Ej T.E9 rfl rfl | exact Ej T.Fa rfl rfl | exact Ej T.Fb rfl rfl | exact Ej T.Fc rfl rfl)
set_option hygiene false in
local macro_rules | `(tactic| walk_at "v") => `(tactic| (first | (show Am _ _ _; first | exact Bu | refine AT rfl ?_ ?_) | (show Em _ _ _; first | exact eF rfl rfl rfl rfl | exact GR | exact cJ | refine On (fun _ _ => rfl) ?_ ?_ | refine Br (by assumption) (hr.mono (by assumption)) rfl DH rfl rfl rfl ?_ | refine Oo ?_ | refine GU ?_ | exact cI | refine J7 (by walk_at "c") rfl ?_ ?_ | refine FK ?_ ?_ | refine cL ?_ ?_ | refine cO ?_ ?_ | refine cM ?_ ?_ | refine Pj ?_ ?_ | refine cN ?_ ?_ | refine cP ?_ ?_ | walk_at "b" | exact Ol | refine Os ?_ ?_ ?_ | refine JZ ?_ ?_ | refine cQ ?_ ?_ | refine JY ?_ | refine Oq ?_ | refine cK ?_ ?_ | refine em_slA ?_ ?_ ?_ | refine dH ?_ ?_ ?_ | refine dL (by walk_at "c") (by walk_at "c") rfl ?_ ?_ ?_ | refine fR (fun _ _ => rfl) ?_ ?_ | exact gf | refine gS rfl T.F5 rfl rfl rfl rfl ?_ | refine gZ rfl T.F5 T.Rk rfl rfl rfl rfl rfl ?_ ?_) | (show Tm _ _ _; first | refine dJ (by walk_at "c") rfl ?_ ?_ | refine ES ?_ | refine cR ?_ | refine ER (fun _ => rfl) ?_ | refine dM (by walk_at "c") (by walk_at "c") rfl ?_ ?_ ?_) | (show Ssm _ _ _ _; first | refine Ax ?_ ?_ | exact CH | refine AO ?_) | (show Sm _ _ _ _; first | refine BG ?_ | refine FG hN rfl rfl rfl ?_ | refine BY ?_ ?_ ?_ | refine BX rfl ?_ | refine J0 PassesOwn.never rfl (fun _ => rfl) ?_ ?_ ?_ | refine J4 PassesOwn.never ?_ ?_ | refine eG hN rfl rfl ?_ | refine dD (fun _ => rfl) rfl rfl rfl ?_ ?_ ?_ | refine sm_asg rfl rfl rfl ?_ ?_ | refine Pf hN rfl rfl rfl rfl ?_ | exact sm_pass | exact sm_never | refine fY (fun _ => rfl) rfl rfl rfl ?_ ?_ ?_) | (show Wm _ _ _; first | refine cU ?_ ?_ | refine cV ?_ ?_ | refine cS ?_ | refine cT ?_) | (show Im _ _ _ _; first | refine e6 ?_ | refine Ot (fun _ _ => rfl) ?_ | refine ei T.i2 rfl rfl ?_) | (show Om _ _ _; first | exact dE | refine dF ?_) | (show Fm _ _ _; first | exact BH | refine eH ?_) | exact Oa hN rfl (.inl rfl) (.inr rfl) | exact eQ rfl hN rfl (.inl rfl) (.inr rfl) rfl (.inl rfl) (.inr rfl) rfl (.inl rfl) (.inr rfl) | exact Ob rfl hN rfl (.inl rfl) (.inr rfl) rfl (.inl rfl) (.inr rfl) | exact Ob rfl hN rfl (.inr rfl) (.inl rfl) rfl (.inl rfl) (.inr rfl) | exact Oa hN rfl (.inr rfl) (.inl rfl)) <;> walk_at "v")
set_option hygiene false in
local macro_rules | `(tactic| walk_at "z") => `(tactic| (intro f cdv A outer s H E hr; have hu := Ba hr; walk_at "v"))
variable {P:Program} {w:World} {K:PySem.W.Frag} {mg:Str->Option Value} {base:Heap} {a:Adr}
abbrev RL:List Str:=["sign"]
theorem RM:Az RL ["sign"] (Aq KI):=by walk_at "s"
def RN:GS:=(Ai (Bk (AG (λi j=>decide (i<=j)) (λa b=>!As b a)) (AG (λi j=>decide (i<=j)) (λa b=>!As b a)) (gC (.str "a")) (Ab 0) (gC (.str "z"))))
theorem i5(T:Tx K mg base a):Dn P w K mg base RL "is_small_letter" KI k (RN):=by
 have hN:=RM.nd;walk_at "z"
abbrev RO:List Str:=["names"]
theorem RP:Az RO ["names"] (Aq KJ):=by walk_at "s"
def RQ:GS:=(Ai (gB (rF Bc) (Aa (AF (Bz (Aa (Ab 0) (Aa (gSl (Ab 0) (By (gC (.int 1))) Bx) Ac))) 2 (BW 0 1) AM (Ad (AG (λi j=>decide (i < j)) As) (Ab 0) (Ab 1))) Ac)))
theorem i6(T:Tx K mg base a):Dn P w K mg base RO "names_rise" KJ k (RQ):=λ{f cdv A outer s H E}hr=>
 have hu:=Ba hr
 have hN:=RP.nd
 (AO (BG (B7 Ei (Ed rfl) rfl T.Er (by decide) rfl rfl rfl (AT rfl (B0 (Nc:=["one","other"]) rfl (BV rfl (by decide +kernel) (by decide +kernel)) (λ_=>rfl) (eu T.i4 rfl rfl rfl (by walk_at "v")) (Od (i:=0) (j:=1) rfl (by decide) rfl rfl rfl rfl) (λC fp s1 H1=>BH) (λC fp s1 H1=>(by walk_at "v"))) Bu))))
abbrev Lq:List Str:=["thing"]
theorem RS:Az Lq ["thing"] (Aq KM):=by walk_at "s"
def F6(Ht:Spw):GS:=(Af (gIf (gOr (gNt (Ay (AH "str" (Ab 0)))) (gNt (gTB (Bk (AG (λi j=>decide (i<=j)) (λa b=>!As b a)) (AG (λi j=>decide (i<=j)) (λa b=>!As b a)) (gC (.int 1)) (gB (rF AK) (Aa (Ab 0) Ac)) (gC (.int 8)))))) (Ai (gC (.bl false))) Al) (Ai (gB (rF Bc) (Aa (AF (AD (Ab 0)) 1 (gNm 0) AM (Ag Ht XF (Aa (Ab 0) Ac))) Ac))))
theorem i7(T:Tx K mg base a){Hu:Nat}(nA:Df P w K mg base "is_small_letter" Hu 1 Ht)(nB:Hu<=k):Dn P w K mg base Lq "is_name" KM k (F6 Ht):=λ{f cdv A outer s H E}hr=>
 have hu:=Ba hr
 have hN:=RS.nd
 (Ax (by walk_at "v") (AO (BG (B7 Ei (Ed rfl) rfl T.Er (by decide) rfl rfl rfl (AT rfl (B0 (Nc:=["sign"]) rfl (BV rfl (by decide +kernel) (by decide +kernel)) (λ_=>rfl) (by walk_at "v") (Cc (i:=0) (by decide) rfl rfl) (λC fp s1 H1=>BH) (λC fp s1 H1=>(by walk_at "v"))) Bu)))))
abbrev RT:List Str:=["thing"]
theorem RU:Az RT ["thing"] (Aq KN):=by walk_at "s"
def RV(Dd:Spw):GS:=(Af (gIf (gOr (gNt (Ay (AH "tuple" (Ab 0)))) (gTB (Ad (Ae (eqF true)) (gB (rF AK) (Aa (Ab 0) Ac)) (gC (.int 3))))) (Ai (gC (.bl false))) Al) (Ai (AZ (Ag Dd XF (Aa (Ad (Ae ixW) (Ab 0) (gC (.int 0))) Ac)) (Ad (Ae (inF false)) (Ad (Ae ixW) (Ab 0) (gC (.int 1))) (gC (.tup [(.str "must"),(.str "may")]))))))
variable {Dd:Spw}
theorem i8(T:Tx K mg base a){DK:Nat}(i9:Df P w K mg base "is_name" DK 1 Dd)(ja:DK<=k):Dn P w K mg base RT "is_field" KN k (RV Dd):=by
 have hN:=RU.nd;walk_at "z"
abbrev RW:List Str:=["thing"]
theorem RX:Az RW ["thing"] (Aq KO):=by walk_at "s"
def RY(Hv:Spw)(De:Spw):GS:=(Af (gIf (gNt (Ay (AH "tuple" (Ab 0)))) (Ai (gC (.bl false))) Al) (Ai (AZ (gB (rF Bc) (Aa (AF (AD (Ab 0)) 1 (gNm 0) AM (Ag Hv XF (Aa (Ab 0) Ac))) Ac)) (Ag De XF (Aa (AF (AD (Ab 0)) 1 (gNm 0) AM (Ad (Ae ixW) (Ab 0) (gC (.int 0)))) Ac)))))
variable {De:Spw}
theorem jb(T:Tx K mg base a){Hx:Nat}(nC:Df P w K mg base "is_field" Hx 1 Hv)(nD:Hx<=k){DL:Nat}(Lr:Df P w K mg base "names_rise" DL 1 De)(Ls:DL<=k):Dn P w K mg base RW "are_fields" KO k (RY Hv De):=λ{f cdv A outer s H E}hr=>
 have hu:=Ba hr
 have hN:=RX.nd
 (Ax (by walk_at "v") (AO (BG (JZ (B7 Ei (Ed rfl) rfl T.Er (by decide) rfl rfl rfl (AT rfl (B0 (Nc:=["part"]) rfl (BV rfl (by decide +kernel) (by decide +kernel)) (λ_=>rfl) (by walk_at "v") (Cc (i:=0) (by decide) rfl rfl) (λC fp s1 H1=>BH) (λC fp s1 H1=>(by walk_at "v"))) Bu)) (JY (Br Lr (hr.mono Ls) rfl DH rfl rfl rfl (AT rfl (B0 (Nc:=["part"]) rfl (BV rfl (by decide +kernel) (by decide +kernel)) (λ_=>rfl) (by walk_at "v") (Cc (i:=0) (by decide) rfl rfl) (λC fp s1 H1=>BH) (λC fp s1 H1=>(by walk_at "v"))) Bu)))))))
local macro_rules | `(tactic| walk_at "rd") => `(tactic| ((try dsimp only [Af,gIf,Ai,An,AA,Al,Ab,gC,Ad,gTB,Ay,gNt,AV,gOr,AZ,Bp,Bd,AQ,L3.Ah,Ap,L3.Aa,L3.Ac,Ag,gB,rF,Ae,AH,gMt,Bf,Bk,AG,AR,Au,L3.AJ,Bg,gSl,By,Bx,AF,AD,Bz,Ar,AU,List.map_cons,List.map_nil,List.length_cons,List.length_nil,List.cons_append,List.nil_append,List.getElem?_cons_zero,List.getElem?_cons_succ,List.set_cons_zero,List.set_cons_succ,List.replicate,AN,tyN,Ao,A1,Bb,Bl,ixW,A2,A4,A5,AK,A9,Bc,Bs,List.getElem?_nil]); (try simp only [Af,gIf,Ai,An,AA,Al,Ab,gC,Ad,gTB,Ay,gNt,AV,gOr,AZ,Bp,Bd,AQ,L3.Ah,Ap,L3.Aa,L3.Ac,Ag,gB,rF,Ae,AH,gMt,Bf,Bk,AG,AR,Au,L3.AJ,Bg,gSl,By,Bx,AF,AD,Bz,Ar,AU,List.map_cons,List.map_nil,List.length_cons,List.length_nil,List.cons_append,List.nil_append,List.getElem?_cons_zero,List.getElem?_cons_succ,List.set_cons_zero,List.set_cons_succ,List.replicate,AN,tyN,Ao,A1,Bb,Bl,ixW,A2,A4,A5,AK,A9,Bc,Bs,List.getElem?_nil])))
abbrev RZ:Spw:=spR (λ(z:Str)ws _=>ws=[.str z]) λz=>.bl (FV z)
theorem Hu(T:Tx K mg base a):Df P w K mg base "is_small_letter" 1 1 RZ:=by
 refine mk0 T.ic rfl RM BJ ((by rintro b G Q E ⟨z,e,_⟩;rw[e];rfl)) (i5 T) λb G Q E c q=>?_;obtain⟨z,rfl,q⟩:=q;unfold RN;walk_at "rd";dsimp only at q;unfold FV at q;refine BF (λh=>?_) (λh=>?_)
 ·rw[h]at q;simpa using q
 ·rw[Bool.eq_false_iff.mpr h]at q;simpa using q
theorem R1:∀ ns:List Str,rise ns=((ns.zip (ns.drop 1)).map λx=>As x.1 x.2).all id
 | []=>rfl
 | [_]=>rfl
 | a::b::r=>by
  show(As a b&&rise (b::r))=_;rw[R1 (b::r)];rfl
abbrev jc:Spw:=spR (λ(ns:List Str)ws G=>∃ p,ws=[.ref p]/\G p=some (.lst (ns.map W.str))/\ns.length<=1000) λns=>.bl (rise ns)
def ltW(x y:W):W:=match x,y with | .str a,.str b=>.bl (As a b)| _,_=>.non
theorem DL(T:Tx K mg base a):Df P w K mg base "names_rise" 1 1 jc:=by
 refine mk0 T.ie rfl RP BJ ((by rintro h G Q E ⟨ns,⟨p,e,_⟩,_⟩;rw[e];rfl)) (i6 T) λh G Q E l q=>?_;obtain⟨ns,⟨p,rfl,c,hl⟩,q⟩:=q;unfold RQ;walk_at "rd";refine hJ c λp1 h1=>?_;have g:=AC c h1;have d:rdL (put G p1 (.lst (Cq (ns.map W.str) (some 1) none))) (.ref p)=some (ns.map W.str):=QP (by rw[Aj g];exact c);have b:rdL (put G p1 (.lst (Cq (ns.map W.str) (some 1) none))) (.ref p1)=some (Cq (ns.map W.str) (some 1) none):=QP Ak;simp only[d,b];rw[Hi,<- List.map_drop,QT,List.zip_map,YB];have k:((λx:W×W=>W.tup [x.1,x.2])∘Prod.map W.str W.str)=(λx:W×W=>W.tup [x.1,x.2])∘λx:Str×Str=>(W.str x.1,W.str x.2):=rfl;rw[k,<- YB];refine QS (f:=ltW) ⟨by rw[Hi,<- List.map_drop]at d;exact d,by rw[Hi,<- List.map_drop]at b;exact b⟩ _ none none [] (λx j o i=>?_) ?_ ?_
 ·obtain⟨y,n,rfl⟩:=YC.mp j;exact i
 ·rw[Yh,List.length_zip];exact BE (by simp only[Yi];omega)
 ·intro p2 h2;rw[YB];have m:((λx:W×W=>ltW x.1 x.2)∘λx:Str×Str=>(W.str x.1,W.str x.2))=W.bl∘λx:Str×Str=>As x.1 x.2:=rfl;rw[m,<- YB,Yw];walk_at "pd";rw[<- R1];exact l _ _ _ (BC (A3 h1) h2) q
def R3(x:W):W:=match x with | .str z=>.bl (FV z)| _=>.non
abbrev R4:List Str:=["thing"]
theorem R5:Az R4 ["thing"] (Aq KP):=by walk_at "s"
def R6(Hy:Spw):GS:=(Af (gIf (gOr (gNt (Ay (AH "tuple" (Ab 0)))) (gOr (gTB (Ad (Ae (eqF false)) (gB (rF AK) (Aa (Ab 0) Ac)) (gC (.int 0)))) (gNt (Ay (AH "str" (Ad (Ae ixW) (Ab 0) (gC (.int 0)))))))) (Ai (gC (.bl false))) Al) (Af (gIf (gTB (Ad (Ae (eqF true)) (gB (rF AK) (Aa (Ab 0) Ac)) (Cg B4 (Ad (Ae ixW) (Ab 0) (gC (.int 0)))))) (Ai (gC (.bl false))) Al) (Ai (Bp (Ad (Ae (eqF true)) (Ad (Ae ixW) (Ab 0) (gC (.int 0))) (gC (.str "row"))) (AZ (Ag Hy XF (Aa (Ad (Ae ixW) (Ab 0) (gC (.int 1))) Ac)) (AH "bool" (Ad (Ae ixW) (Ab 0) (gC (.int 2)))))))))
theorem jd(T:Tx K mg base a){Hz:Nat}(nE:Df P w K mg base "are_fields" Hz 1 Hy)(nF:Hz<=k):Dn P w K mg base R4 "has_form" KP k (R6 Hy):=by
 have hN:=R5.nd;walk_at "z"
abbrev R7:List Str:=["kind"]
theorem R8:Az R7 ["kind"] (Aq KQ):=by walk_at "s"
def R9:GS:=(Af (gIf (gTB (Ad (Ae (eqF false)) (Ad (Ae ixW) (Ab 0) (gC (.int 0))) (gC (.str "row")))) (Ai (AF (AD (Ad (Ae ixW) (Ab 0) (gC (.int 1)))) 1 (gNm 0) AM (Ad (Ae ixW) (Ab 0) (gC (.int 2))))) Al) (Ai (gB (Ee) (Aa (gSl (Ab 0) (By (gC (.int 1))) Bx) Ac))))
theorem je(T:Tx K mg base a):Dn P w K mg base R7 "kinds_within" KQ k (R9):=λ{f cdv A outer s H E}hr=>
 have hu:=Ba hr
 have hN:=R8.nd
 (Ax (BY (by walk_at "v") (AO (BG (B0 (Nc:=["field"]) rfl (BV rfl (by decide +kernel) (by decide +kernel)) (λ_=>rfl) (by walk_at "v") (Cc (i:=0) (by decide) rfl rfl) (λC fp s1 H1=>BH) (λC fp s1 H1=>(by walk_at "v"))))) CH) (by walk_at "v"))
abbrev Lu:List Str:=["layer","things_within","found","thing"]
theorem HA:Az Lu ["layer","things_within"] (Aq Hm):=by walk_at "s"
def Sa(mg:Str->Option Value)(Cm:Spw):GS:=(Af (An 2 (Ap Ac)) (Af (AB (AD (Ab 0)) (gNm 3) (AA (gMt BZ CJ (Ab 2) (Aa (B3 1 (fAt mg "kinds_within") Cm XF (Aa (Ab 3) Ac)) Ac)))) (Ai (Ab 2))))
variable {Cm:Spw}
theorem jf(T:Tx K mg base a){Cs:Nat}(HB:Df P w K mg base "kinds_within" Cs 1 Cm)(Lv:Cs<=k):Dn P w K mg base Lu "layer_within" Hm k (Sa mg Cm):=λ{f cdv A outer s H E}hr=>
 have hu:=Ba hr
 have hN:=HA.nd
 (Ax (by walk_at "v") (Ax (J0 PassesOwn.never rfl (λ_=>rfl) (by walk_at "v") (by walk_at "v") (AO (BX rfl (FD Kb rfl rfl rfl rfl rfl (by walk_at "v") (AT rfl (GZ (i:=1) HB (hr.mono Lv) rfl rfl DH rfl rfl rfl rfl (by walk_at "v")) Bu))))) (by walk_at "v")))
abbrev Lw:List Str:=["thing","is_formed","things_within","most","deepest","layer","count","depth"]
theorem HC:Az Lw ["thing","is_formed","things_within","most","deepest"] (Aq EZ):=by walk_at "s"
def Sb(mg:Str->Option Value)(DM:Spw)(Dg:Spw):GS:=(Af (An 5 (Ap (Aa (Ab 0) Ac))) (Af (An 6 (gC (.int 0))) (Af (An 7 (gC (.int 0))) (Af (FC (gTB (Ad (AR λi j=>decide (j < i)) (gB (rF AK) (Aa (Ab 5) Ac)) (gC (.int 0)))) (Af (Bf 6 Bg (gB (rF AK) (Aa (Ab 5) Ac))) (Af (Bf 7 Bg (gC (.int 1))) (Af (gIf (gOr (gTB (Ad (AR λi j=>decide (j < i)) (Ab 6) (Ab 3))) (gTB (Ad (AR λi j=>decide (j < i)) (Ab 7) (Ab 4)))) (Ai (gC (.bl false))) Al) (Af (gIf (gNt (Ay (gB (rF Bc) (Aa (BA (AD (Ab 5)) 1 [1] (gNm 0) AM (B3 1 (fAt mg "has_form") DM XF (Aa (Ab 0) Ac))) Ac)))) (Ai (gC (.bl false))) Al) (An 5 (Ag Dg XF (Aa (Ab 5) (Aa (Ab 2) Ac))))))))) (Ai (gC (.bl true)))))))
variable {DM Dg:Spw}
theorem jg(T:Tx K mg base a){DN:Nat}(Lx:Df P w K mg base "has_form" DN 1 DM)(Sd:DN<=k){Et:Nat}(jh:Df P w K mg base "layer_within" Et 2 Dg)(ji:Et<=k):Dn P w K mg base Lw "is_made_of" EZ k (Sb mg DM Dg):=λ{f cdv A outer s H E}hr=>
 have hu:=Ba hr
 have hN:=HC.nd
 (Ax (by walk_at "v") (Ax (by walk_at "v") (Ax (by walk_at "v") (Ax (J4 PassesOwn.never (by walk_at "v") (Ax (by walk_at "v") (Ax (by walk_at "v") (Ax (by walk_at "v") (Ax (BY (ES (ER (λ_=>rfl) (B7 Ei (Ed rfl) rfl T.Er (by decide) rfl rfl rfl (AT rfl (FJ rfl (FH (own:=["part"]) (fr:=["is_formed"]) (js:=[1]) (scX:=Aq EZ) (n:=s.heap.objs.size+1) rfl (by decide +kernel) (by decide +kernel) (by decide +kernel) (by decide +kernel) rfl rfl rfl (by decide +kernel) rfl) (λ_=>rfl) (by walk_at "v") (FI (i:=0) (by decide) rfl rfl) (λC fp s1 H1=>BH) (λC fp s1 H1=>(GZ (i:=1) Lx (hr.mono Sd) rfl rfl DH rfl rfl rfl rfl (by walk_at "v")))) Bu)))) (by walk_at "v") CH) (by walk_at "v")))))) (by walk_at "v")))))
abbrev Se:List Str:=["thing"]
theorem Sf:Az Se ["thing"] (Aq KS):=by walk_at "s"
def Sg(mg:Str->Option Value)(DM:Spw)(Cm:Spw)(Dh:Spw):GS:=(Ai (Ag Dh XF (Aa (Ab 0) (Aa (gC (.ref (fAt mg "has_form"))) (Aa (gC (.ref (fAt mg "kinds_within"))) (Aa (gC (.int 40)) (Aa (gC (.int 8)) Ac)))))))
variable {Dh:Spw}
theorem jj(T:Tx K mg base a){DN:Nat}(Lx:Df P w K mg base "has_form" DN 1 DM)(Sd:DN<=k){Cs:Nat}(HB:Df P w K mg base "kinds_within" Cs 1 Cm)(Lv:Cs<=k){Eu:Nat}(Ly:Df P w K mg base "is_made_of" Eu 5 Dh)(Lz:Eu<=k):Dn P w K mg base Se "is_kind" KS k (Sg mg DM Cm Dh):=λ{f cdv A outer s H E}hr=>
 have hu:=Ba hr
 have hN:=Sf.nd
 (AO (BG (Br Ly (hr.mono Lz) rfl DH rfl rfl rfl (AT rfl (by walk_at "v") (AT rfl (G8 Lx rfl rfl) (AT rfl (G8 HB rfl rfl) (by walk_at "v")))))))
abbrev Sh:List Str:=["thing"]
theorem Si:Az Sh ["thing"] (Aq FW):=by walk_at "s"
def LC(K:PySem.W.Frag)(a:Adr)(HD:Spw)(E:Addr->Hw->Prop):GS:=(gIf (gNt (Ay (Ag HD (λ_=>E) (Aa (Ab 0) Ac)))) (Eg a.NoKind E (Aa (gC (.str "this is no kind")) Ac)) Al)
variable {f:Addr}{cdv:Value}{A:Around}{outer:List Env}{s:Shared}{H:Hp}{E:XK}
theorem jk(T:Tx K mg base a){HE:Nat}(jl:Df P w K mg base "is_kind" HE 1 HD)(jm:HE<=k)(hr:Room k (A.deeper (envOfC "check_kind" (Aq FW) s.heap.objs.size f cdv))):Ssm (cxW P w K mg base Sh "check_kind" (Aq FW) f cdv A outer s H E) (λB=>B=H) (Bn FW) (LC K a HD (dnX K H E)):=
 have hu:=Ba hr
 have hN:=Si.nd
 (AO (BY (ES (ER (λ_=>rfl) (Br jl (hr.mono jm) rfl BI rfl rfl rfl (by walk_at "v")))) (AO (Kc T.Hs T.Es PySem.F.excBase_ValueError rfl rfl rfl rfl (by walk_at "v"))) CH))
abbrev Sj:List Str:=["kind","found","inner"]
theorem Sl:Az Sj ["kind"] (Aq KU):=by walk_at "s"
def Sn(Cm:Spw)(Di:Spw):GS:=(Af (An 1 (Ap (Aa (Ab 0) Ac))) (Af (AB (AD (Ag Cm XF (Aa (Ab 0) Ac))) (gNm 2) (AA (gMt BZ CJ (Ab 1) (Aa (Ag Di XF (Aa (Ab 2) Ac)) Ac)))) (Ai (Ab 1))))
variable {Di:Spw}
theorem jn(T:Tx K mg base a){Cs:Nat}(HB:Df P w K mg base "kinds_within" Cs 1 Cm)(Lv:Cs<=k){DO:Nat}(So:Df P w K mg base "kinds_in" DO 1 Di)(Sq:DO<=k):Dn P w K mg base Sj "kinds_in" KU k (Sn Cm Di):=by
 have hN:=Sl.nd;walk_at "z"
abbrev Sr:List Str:=["kind"]
theorem Ss:Az Sr ["kind"] (Aq FX):=by walk_at "s"
def LD(HF:Spw)(Di:Spw)(E:Addr->Hw->Prop):GS:=(Af (AA (Ag HF (λ_=>E) (Aa (Ab 0) Ac))) (Ai (Bd (gB (rF Bs) (Aa (AF (AD (Ag Di (λ_=>E) (Aa (Ab 0) Ac))) 1 (gNm 0) AM (Ad (Ae (inF false)) (Ad (Ae ixW) (Ab 0) (gC (.int 0))) (Ah (Aa (gC (.str "to")) (Aa (gC (.str "box")) Ac))))) Ac)))))
theorem jo(T:Tx K mg base a){HG:Nat}(jp:Df P w K mg base "check_kind" HG 1 HF)(jq:HG<=k){DO:Nat}(So:Df P w K mg base "kinds_in" DO 1 Di)(Sq:DO<=k)(hr:Room k (A.deeper (envOfC "is_data" (Aq FX) s.heap.objs.size f cdv))):Ssm (cxW P w K mg base Sr "is_data" (Aq FX) f cdv A outer s H E) (λB=>B=H) (Bn FX) (LD HF Di (dnX K H E)):=
 have hu:=Ba hr
 have hN:=Ss.nd
 (Ax (BX rfl (Br jp (hr.mono jq) rfl BI rfl rfl rfl (by walk_at "v"))) (AO (BG (Oq (B7 O1 (OR rfl) rfl T.Rh (by decide) rfl rfl rfl (AT rfl (B0 (Nc:=["part"]) rfl (BV rfl (by decide +kernel) (by decide +kernel)) (λ_=>rfl) (Ot (λ_ _=>rfl) (Br So (hr.mono Sq) rfl BI rfl rfl rfl (by walk_at "v"))) (Cc (i:=0) (by decide) rfl rfl) (λC fp s1 H1=>BH) (λC fp s1 H1=>(by walk_at "v"))) Bu))))))
def Su(mg:Str->Option Value)(DP:Spw):GS:=(Af (An 2 (Ap Ac)) (Af (AB (AD (Ab 0)) (gNm 3) (AA (gMt BZ CJ (Ab 2) (Aa (B3 1 (fAt mg "values_within") DP XF (Aa (Ab 3) Ac)) Ac)))) (Ai (Ab 2))))
variable {DP:Spw}
theorem jr(T:Tx K mg base a){DQ:Nat}(LI:Df P w K mg base "values_within" DQ 1 DP)(Sv:DQ<=k):Dn P w K mg base Lu "layer_within" Hm k (Su mg DP):=λ{f cdv A outer s H E}hr=>
 have hu:=Ba hr
 have hN:=HA.nd
 (Ax (by walk_at "v") (Ax (J0 PassesOwn.never rfl (λ_=>rfl) (by walk_at "v") (by walk_at "v") (AO (BX rfl (FD Kb rfl rfl rfl rfl rfl (by walk_at "v") (AT rfl (GZ (i:=1) LI (hr.mono Sv) rfl rfl DH rfl rfl rfl rfl (by walk_at "v")) Bu))))) (by walk_at "v")))
def Sx(mg:Str->Option Value)(DR:Spw)(Dg:Spw):GS:=(Af (An 5 (Ap (Aa (Ab 0) Ac))) (Af (An 6 (gC (.int 0))) (Af (An 7 (gC (.int 0))) (Af (FC (gTB (Ad (AR λi j=>decide (j < i)) (gB (rF AK) (Aa (Ab 5) Ac)) (gC (.int 0)))) (Af (Bf 6 Bg (gB (rF AK) (Aa (Ab 5) Ac))) (Af (Bf 7 Bg (gC (.int 1))) (Af (gIf (gOr (gTB (Ad (AR λi j=>decide (j < i)) (Ab 6) (Ab 3))) (gTB (Ad (AR λi j=>decide (j < i)) (Ab 7) (Ab 4)))) (Ai (gC (.bl false))) Al) (Af (gIf (gNt (Ay (gB (rF Bc) (Aa (BA (AD (Ab 5)) 1 [1] (gNm 0) AM (B3 1 (fAt mg "has_value_form") DR XF (Aa (Ab 0) Ac))) Ac)))) (Ai (gC (.bl false))) Al) (An 5 (Ag Dg XF (Aa (Ab 5) (Aa (Ab 2) Ac))))))))) (Ai (gC (.bl true)))))))
variable {DR:Spw}
theorem jt(T:Tx K mg base a){DS:Nat}(LJ:Df P w K mg base "has_value_form" DS 1 DR)(Sy:DS<=k){Et:Nat}(jh:Df P w K mg base "layer_within" Et 2 Dg)(ji:Et<=k):Dn P w K mg base Lw "is_made_of" EZ k (Sx mg DR Dg):=λ{f cdv A outer s H E}hr=>
 have hu:=Ba hr
 have hN:=HC.nd
 (Ax (by walk_at "v") (Ax (by walk_at "v") (Ax (by walk_at "v") (Ax (J4 PassesOwn.never (by walk_at "v") (Ax (by walk_at "v") (Ax (by walk_at "v") (Ax (by walk_at "v") (Ax (BY (ES (ER (λ_=>rfl) (B7 Ei (Ed rfl) rfl T.Er (by decide) rfl rfl rfl (AT rfl (FJ rfl (FH (own:=["part"]) (fr:=["is_formed"]) (js:=[1]) (scX:=Aq EZ) (n:=s.heap.objs.size+1) rfl (by decide +kernel) (by decide +kernel) (by decide +kernel) (by decide +kernel) rfl rfl rfl (by decide +kernel) rfl) (λ_=>rfl) (by walk_at "v") (FI (i:=0) (by decide) rfl rfl) (λC fp s1 H1=>BH) (λC fp s1 H1=>(GZ (i:=1) LJ (hr.mono Sy) rfl rfl DH rfl rfl rfl rfl (by walk_at "v")))) Bu)))) (by walk_at "v") CH) (by walk_at "v")))))) (by walk_at "v")))))
local macro_rules | `(tactic| walk_at "rd") => `(tactic| ((try dsimp only [Af,gIf,Ai,An,AA,Al,Ab,gC,Ad,gTB,Ay,gNt,AV,gOr,AZ,Bp,Bd,AQ,L3.Ah,Ap,L3.Aa,L3.Ac,Ag,gB,rF,Ae,AH,gMt,Bf,Ce,Bk,AG,AR,Au,L3.AJ,Bg,gSl,By,Bx,AF,AD,Bz,AS,AB,Cg,Bw,Ar,AU,List.map_cons,List.map_nil,List.length_cons,List.length_nil,List.cons_append,List.nil_append,List.getElem?_cons_zero,List.getElem?_cons_succ,List.set_cons_zero,List.set_cons_succ,List.replicate,AN,tyN,Ao,A1,Bb,Bl,ixW,A2,A4,A5,AK,A9,Bc,Bs,AI,BP,List.getElem?_nil]); (try simp only [Af,gIf,Ai,An,AA,Al,Ab,gC,Ad,gTB,Ay,gNt,AV,gOr,AZ,Bp,Bd,AQ,L3.Ah,Ap,L3.Aa,L3.Ac,Ag,gB,rF,Ae,AH,gMt,Bf,Ce,Bk,AG,AR,Au,L3.AJ,Bg,gSl,By,Bx,AF,AD,Bz,AS,AB,Cg,Bw,Ar,AU,List.map_cons,List.map_nil,List.length_cons,List.length_nil,List.cons_append,List.nil_append,List.getElem?_cons_zero,List.getElem?_cons_succ,List.set_cons_zero,List.set_cons_succ,List.replicate,AN,tyN,Ao,A1,Bb,Bl,ixW,A2,A4,A5,AK,A9,Bc,Bs,AI,BP,List.getElem?_nil])))
def Fd:W->Bool
 | .str z=>decide (z.length<=1000)
 | .bl _=>true
 | .tup _=>true
 | _=>false
def nmW:W->Bool
 | .str z=>AE z
 | _=>false
abbrev ju:Spw:=spR (λ(w:W)ws _=>ws=[w]/\Fd w=true) λw=>.bl (nmW w)
theorem jv:BK "str" "str"=true:=by decide
theorem Co:BK "tuple" "tuple"=true:=by decide
theorem jw:BK "bool" "bool"=true:=by decide
theorem Sz:BK "bool" "str"=false:=by decide
theorem SA:BK "tuple" "str"=false:=by decide
theorem LK:BK "str" "tuple"=false:=by decide
theorem HH:BK "bool" "tuple"=false:=by decide
theorem jx:BK "tuple" "bool"=false:=by decide
variable {z:Str}{G:Hw}{Q:Kw}
theorem jy(g:z.length<=100000)(m:Kw.C Q)(q:Q (.bl (AE z)) G):F6 RZ (Ar Q) (AU Lq [.str z]) G:=by
 unfold F6;walk_at "rd";have d:z.length<=sizeLine:=BE g;have l:BK "str" "str"=true:=by decide
 simp only[l,d,if_true,Ao,YG,Yq,if_false];unfold AE at q;by_cases h1:1<=z.length
 ·by_cases e:z.length<=8
  ·have a:(1:Int)<=(z.length:Int):=by omega
   have b:(z.length:Int)<=8:=by omega
   simp only[a,b,decide_true,if_true,YG,Yq,if_false];refine Da (f:=R3) trivial (D8 z) none [] (λx j n i=>?_) ?_ ?_
   ·obtain⟨c,hc,rfl⟩:=YC.mp j;exact⟨_,rfl,i⟩
   ·rw[D8,Yh];exact BE (by show 0+z.cps.toList.length<=100000;rw[Nat.zero_add];simpa[Str.length]using g)
   ·intro p k
    have h:(D8 z).map R3=(z.cps.toList.map λc=>FV ⟨#[c]⟩).map W.bl:=by
     unfold D8;rw[YB,YB];rfl
    rw[Yw,h];walk_at "pd";rw[List.all_map];simp only[h1,e,decide_true,Bool.true_and]at q;exact m _ _ _ (A3 k) q
  ·have a:(1:Int)<=(z.length:Int):=by omega
   have b:¬ (z.length:Int)<=8:=by omega
   simp only[h1,e,decide_true,decide_false,Bool.true_and,Bool.false_and]at q;simp only[a,b,decide_true,decide_false,if_true,YR,Yq,if_false];exact q
 ·have a:¬ (1:Int)<=(z.length:Int):=by omega
  simp only[h1,decide_false,Bool.false_and]at q;simp only[a,decide_false,if_true,YR,Yq,if_false];exact q
theorem DK(T:Tx K mg base a):Df P w K mg base "is_name" 2 1 ju:=by
 refine mk0 T.ig rfl RS BJ (λc G Q E⟨z,⟨e,_⟩,_⟩=>by rw[e];rfl) (i7 T (Hu T) (Yr _)) λc G Q E d q=>?_;obtain⟨w,⟨rfl,hw⟩,q⟩:=q;dsimp only at q;cases w with
 | str z =>
  have f:z.length<=1000:=of_decide_eq_true hw;exact jy (by omega) d q
 | bl b =>
  unfold F6;walk_at "rd";simp only[Sz,YR,if_true];exact q
 | tup xs =>
  unfold F6;walk_at "rd";simp only[SA,YR,if_true];exact q
 | non=>cases hw
 | int i=>cases hw
 | rol xs=>cases hw
 | ref r=>cases hw
def flB:W->Bool
 | .str _=>true
 | .bl _=>true
 | _=>false
def F7:W->Bool
 | .str z=>z=="must"||z=="may"
 | _=>false
theorem jz{x:W}(h:flB x=true)(G:Hw):inF false x (.tup [.str "must",.str "may"]) G=some (.bl (F7 x)):=by
 cases x with
 | str z =>
  show some (W.bl (inV (.str z) [.str "must",.str "may"]))=some (W.bl (z=="must"||z=="may"));have e:inV (.str z) (([("must":Str),"may"]:List Str).map V.str)=([("must":Str),"may"]:List Str).any (·==z):=QR _ _;refine congrArg (λb=>some (W.bl b)) (Eq.trans e ?_);show(("must":Str)==z||(("may":Str)==z||false))=_;rw[Bool.or_false,BEq.comm (a:=("must":Str)),BEq.comm (a:=("may":Str))]
 | bl b=>rfl
 | non=>cases h
 | int i=>cases h
 | rol xs=>cases h
 | ref r=>cases h
 | tup xs=>cases h
def okF:W->Bool
 | .str _=>true
 | .bl _=>true
 | .tup xs=>match xs with
  | [x,y,_]=>Fd x&&flB y
  | _=>true
 | _=>false
def fdF:W->Bool
 | .tup xs=>match xs with
  | [x,y,_]=>nmW x&&F7 y
  | _=>false
 | _=>false
abbrev jA:Spw:=spR (λ(w:W)ws _=>ws=[w]/\okF w=true) λw=>.bl (fdF w)
theorem Hx(T:Tx K mg base a):Df P w K mg base "is_field" 3 1 jA:=by
 refine mk0 T.ii rfl RU BJ (λf G Q E⟨x,⟨e,_⟩,_⟩=>by rw[e];rfl) (i8 T (DK T) (Yr _)) λf G Q E g q=>?_;obtain⟨w,⟨rfl,hw⟩,q⟩:=q;dsimp only at q;unfold RV;cases w with
 | str z=>walk_at "rd";simp only[LK,Bool.not_false,if_true];exact q
 | bl z=>walk_at "rd";simp only[HH,Bool.not_false,if_true];exact q
 | non=>cases hw
 | int i=>cases hw
 | rol xs=>cases hw
 | ref r=>cases hw
 | tup xs =>
  rcases xs with _ |⟨x,_ |⟨y,_ |⟨z,_ |⟨u,r⟩⟩⟩⟩
  ·walk_at "rd";simp only[Co,Bool.not_true,Bool.false_eq_true,if_false];exact q
  ·walk_at "rd";simp only[Co,Bool.not_true,Bool.false_eq_true,if_false];exact q
  ·walk_at "rd";simp only[Co,Bool.not_true,Bool.false_eq_true,if_false];exact q
  ·have b:(Fd x&&flB y)=true:=hw;simp only[YH]at b;have c:Q (.bl (nmW x&&F7 y)) G:=q;walk_at "rd";simp only[Co,Bool.not_true,Bool.false_eq_true,if_false];refine⟨x,⟨rfl,b.1⟩,?_⟩;dsimp only;cases d:nmW x with
   | false=>rw[d]at c;exact c
   | true =>
    rw[d]at c;simp only[if_true];rw[jz b.2,Ao];exact c
  ·have e:((((x::y::z::u::r).length:Nat):Int)==3)=false:=by
    rw[beq_eq_false_iff_ne];simp only[Yg];omega
   show Af _ _ (Ar Q) [some (.tup (x::y::z::u::r))] G;simp only[Af,gIf,gOr,gNt,Ay,AH,gTB,Ad,gB,rF,Ae,Ab,gC,Ai,L3.Aa,L3.Ac,Yb,tyN,AN,AK,A9,Ao,A2,A4,A5,Co,e,YE,YG,Yq,if_false,show(false != true)=true from rfl,if_true];exact q
def HI:W->Bool
 | .str _=>true
 | .bl _=>true
 | .tup xs=>decide (xs.length<=1000)&&xs.all okF
 | _=>false
def nmS:W->Str
 | .tup (.str n::_)=>n
 | _=>""
def arF:W->Bool
 | .tup xs=>xs.all fdF&&rise (xs.map nmS)
 | _=>false
abbrev jB:Spw:=spR (λ(w:W)ws _=>ws=[w]/\HI w=true) λw=>.bl (arF w)
def DT(x:W):W:=match x with | .tup (n::_)=>n | _=>.non
theorem LL{x:W}(h:fdF x=true):∃ n y z,x=.tup [.str n,y,z]/\AE n=true:=by
 cases x with
 | tup xs =>
  rcases xs with _ |⟨x,_ |⟨y,_ |⟨z,_ |⟨u,r⟩⟩⟩⟩ <;> first |(cases h;done)| skip
  have h':(nmW x&&F7 y)=true:=h;walk_at "pc";cases x with
  | str n=>exact⟨n,y,z,rfl,h'.1⟩
  | non=>cases h'.1
  | int i=>cases h'.1
  | rol xs=>cases h'.1
  | ref r=>cases h'.1
  | tup xs=>cases h'.1
  | bl xs=>cases h'.1
 | non=>cases h
 | int i=>cases h
 | rol xs=>cases h
 | ref r=>cases h
 | str xs=>cases h
 | bl xs=>cases h
theorem SC:∀{xs:List W},(∀ x∈xs,fdF x=true)->xs.map DT=(xs.map nmS).map W.str
 | [],_=>rfl
 | x::xs,h=>by
  obtain⟨n,y,z,rfl,_⟩:=LL (h x Ye);rw[Ym,Ym,Ym,SC λy a=>h y (Yd _ a)];rfl
theorem Hz(T:Tx K mg base a):Df P w K mg base "are_fields" 4 1 jB:=by
 refine mk0 T.ij rfl RX BJ (λo G Q E⟨x,⟨e,_⟩,_⟩=>by rw[e];rfl) (jb T (Hx T) (Yr _) (DL T) (by omega)) λo G Q E m q=>?_;obtain⟨w,⟨rfl,hw⟩,q⟩:=q;dsimp only at q;unfold RY;cases w with
 | str z=>walk_at "rd";simp only[LK,Bool.not_false,if_true];exact q
 | bl z=>walk_at "rd";simp only[HH,Bool.not_false,if_true];exact q
 | non=>cases hw
 | int i=>cases hw
 | rol xs=>cases hw
 | ref r=>cases hw
 | tup xs =>
  have c:(decide (xs.length<=1000)&&xs.all okF)=true:=hw;simp only[YH,YU,List.all_eq_true]at c;have b:Q (.bl (xs.all fdF&&rise (xs.map nmS))) G:=q;walk_at "rd";simp only[Co,YG,Yq,if_false];refine Da (f:=λx=>.bl (fdF x)) trivial xs none [] (λx h k b=>?_) (by simp only[Yi];exact BE (by omega)) ?_
  ·exact⟨x,⟨rfl,c.2 x h⟩,b⟩
  ·intro p l;rw[Yw,show(λx:W=>W.bl (fdF x))=W.bl∘fdF from rfl,<- YB];walk_at "pd";rw[List.all_map,show(id∘fdF)=fdF from rfl];cases g:xs.all fdF with
   | false=>rw[g]at b;exact m _ _ _ (A3 l) b
   | true =>
    rw[g]at b;have d:=List.all_eq_true.mp g;simp only[if_true];refine Da (f:=DT) trivial xs none [] (λx h k b=>?_) (by simp only[Yi];exact BE (by omega)) ?_
    ·obtain⟨n,y,z,rfl,_⟩:=LL (d x h);show Ad (Ae ixW) (Ab 0) (gC (.int 0)) [some (W.tup [.str n,y,z])] _ k;walk_at "rd";exact b
    ·intro p2 j;rw[Yw,SC d];refine⟨xs.map nmS,⟨p2,rfl,Ak,by rw[Yh];omega⟩,?_⟩;exact m _ _ _ (BC (A3 l) j) b
def Ct(n:Nat):W->Bool
 | .int i=>(n:Int)==i
 | _=>false
theorem jC(D:List (Str×Int))(h:Str)(n:Nat)(G:Hw):eqF true (.int (n:Int)) (BB D h) G=some (.bl (!Ct n (BB D h))):=by
 induction D with
 | nil=>rfl
 | cons x D a =>
  obtain⟨y,i⟩:=x;unfold BB;by_cases e:h=y
  ·rw[if_pos e];show some (W.bl (((n:Int)==i) != true))=_;rw[J2];rfl
  ·rw[if_neg e];exact a
def HJ:W->Bool
 | .bl _=>true
 | _=>false
def rwF:List W->Bool
 | [f,o]=>arF f&&HJ o
 | _=>false
def Fe:List W->Bool
 | [f,o]=>HI f&&Fd o
 | _=>true
def hF:W->Bool
 | .tup (.str h::r)=>Ct (r.length+1) (BB B4 h)&&(h != "row"||rwF r)
 | _=>false
def okL:W->Bool
 | .str _=>true
 | .bl _=>true
 | .tup []=>true
 | .tup (.str h::r)=>decide (r.length<=1000)&&(h != "row"||Fe r)
 | .tup (.bl _::r)=>true
 | .tup (.tup _::r)=>true
 | _=>false
abbrev jD:Spw:=spR (λ(w:W)ws _=>ws=[w]/\okL w=true) λw=>.bl (hF w)
theorem jE:BB B4 "row"=.int 3:=by kernel_rfl
variable {r:List W}
theorem LN(h:Ct (r.length+1) (BB B4 "row")=true):∃ f o,r=[f,o]:=by
 rw[jE]at h;have h':((r.length+1:Nat):Int)=3:=eq_of_beq h;rcases r with _ |⟨x,_ |⟨y,_ |⟨z,r⟩⟩⟩
 ·simp at h'
 ·simp at h'
 ·exact⟨x,y,rfl⟩
 ·simp only[Yg]at h';omega
theorem DN(T:Tx K mg base a):Df P w K mg base "has_form" 5 1 jD:=by
 refine mk0 T.ik rfl R5 BJ (λm G Q E⟨x,⟨e,_⟩,_⟩=>by rw[e];rfl) (jd T (Hz T) (Yr _)) λm G Q E n q=>?_;obtain⟨w,⟨rfl,hw⟩,q⟩:=q;dsimp only at q;unfold R6;cases w with
 | str z=>walk_at "rd";simp only[LK,Bool.not_false,if_true];exact q
 | bl z=>walk_at "rd";simp only[HH,Bool.not_false,if_true];exact q
 | non=>cases hw
 | int i=>cases hw
 | rol xs=>cases hw
 | ref r=>cases hw
 | tup xs =>
  cases xs with
  | nil=>walk_at "rd";simp only[Co,Bool.not_true,Bool.false_eq_true,if_false];exact q
  | cons x r =>
   have g:((((x::r).length:Nat):Int)==0)=false:=by rw[beq_eq_false_iff_ne];simp only[Yg];omega
   cases x with
   | non=>cases hw
   | int i=>cases hw
   | rol xs=>cases hw
   | ref r=>cases hw
   | bl b =>
    show Af _ _ (Ar Q) [some (.tup (.bl b::r))] G;simp only[Af,gIf,gOr,gNt,Ay,AH,gTB,Ad,gB,rF,Ae,Ab,gC,Ai,L3.Aa,L3.Ac,Yb,tyN,AN,AK,A9,Ao,A2,A4,A5,Co,g,YE,YG,Yq,if_false,show(false != false)=false from rfl,ixW,A1,Sz,YR,if_true];exact q
   | tup b =>
    show Af _ _ (Ar Q) [some (.tup (.tup b::r))] G;simp only[Af,gIf,gOr,gNt,Ay,AH,gTB,Ad,gB,rF,Ae,Ab,gC,Ai,L3.Aa,L3.Ac,Yb,tyN,AN,AK,A9,Ao,A2,A4,A5,Co,g,YE,YG,Yq,if_false,show(false != false)=false from rfl,ixW,A1,SA,YR,if_true];exact q
   | str h =>
    have j:(decide (r.length<=1000)&&(h != "row"||Fe r))=true:=hw;have c:Q (.bl (Ct (r.length+1) (BB B4 h)&&(h != "row"||rwF r))) G:=q;have el:=jC B4 h (r.length+1) G;show Af _ _ (Ar Q) [some (.tup (.str h::r))] G;simp only[Af,gIf,gOr,gNt,Ay,AH,gTB,Ad,gB,rF,Ae,Ab,gC,Ai,Al,L3.Aa,L3.Ac,Yb,tyN,AN,AK,A9,Ao,Co,YG,Yq,if_false,ixW,A1,jv,Cg]
    rw[show eqF false (.int (((W.str h::r).length:Nat):Int)) (.int 0) G=some (.bl false) by
     show some (W.bl (((((W.str h::r).length:Nat):Int)==0) != false))=_;rw[g];rfl,Ao]
    simp only[Yq,if_false];rw[show((W.str h::r).length:Nat)=r.length+1 from rfl,el,Ao];cases hl:Ct (r.length+1) (BB B4 h)with
    | false=>rw[hl]at c;exact c
    | true =>
     rw[hl]at c;simp only[YG,Yq,if_false,Bp,AZ,Ad,Ae,Ab,gC,Yb,ixW,A1,Ao,A2,A4,A5,YE,J2];cases k:(h=="row")with
     | false =>
      have:(h != "row")=true:=by show(!(h=="row"))=true;rw[k];rfl
      rw[this]at c;exact c
     | true =>
      obtain rfl:=eq_of_beq k;obtain⟨f,o,rfl⟩:=LN hl;have d:(HI f&&Fd o)=true:=by simpa[Fe]using j
      simp only[YH]at d;have q2:Q (.bl (arF f&&HJ o)) G:=by simpa[rwF]using c
      simp only[AN,YG,Yq,if_false,Ag,L3.Aa,L3.Ac,Ad,Ae,Ab,gC,Yb,ixW,Bb,Bl,Ao,AH];refine⟨f,⟨rfl,d.1⟩,?_⟩;dsimp only;cases l:arF f with
      | false=>rw[l]at q2;exact q2
      | true =>
       rw[l]at q2;simp only[AN,if_true];cases o with
       | bl b=>exact q2
       | str b=>exact q2
       | tup b=>exact q2
       | non=>cases d.2
       | int i=>cases d.2
       | rol xs=>cases d.2
       | ref r=>cases d.2
local macro_rules | `(tactic| walk_at "rd") => `(tactic| ((try dsimp only [Af,gIf,Ai,An,AA,Al,Ab,gC,Ad,gTB,Ay,gNt,AV,gOr,AZ,Bp,Bd,AQ,L3.Ah,Ap,L3.Aa,L3.Ac,Ag,gB,rF,Ae,AH,gMt,Bf,Ce,Bk,AG,AR,Au,L3.AJ,Bg,gSl,By,Bx,AF,AD,Bz,AS,AB,Cg,Bw,B3,BA,Bh,Ar,AU,List.map_cons,List.map_nil,List.length_cons,List.length_nil,List.cons_append,List.nil_append,List.getElem?_cons_zero,List.getElem?_cons_succ,List.set_cons_zero,List.set_cons_succ,List.replicate,AN,tyN,Ao,A1,Bb,Bl,ixW,A2,A4,A5,AK,A9,Bc,Bs,AI,BP,List.getElem?_nil]); (try simp only [Af,gIf,Ai,An,AA,Al,Ab,gC,Ad,gTB,Ay,gNt,AV,gOr,AZ,Bp,Bd,AQ,L3.Ah,Ap,L3.Aa,L3.Ac,Ag,gB,rF,Ae,AH,gMt,Bf,Ce,Bk,AG,AR,Au,L3.AJ,Bg,gSl,By,Bx,AF,AD,Bz,AS,AB,Cg,Bw,B3,BA,Bh,Ar,AU,List.map_cons,List.map_nil,List.length_cons,List.length_nil,List.cons_append,List.nil_append,List.getElem?_cons_zero,List.getElem?_cons_succ,List.set_cons_zero,List.set_cons_succ,List.replicate,AN,tyN,Ao,A1,Bb,Bl,ixW,A2,A4,A5,AK,A9,Bc,Bs,AI,BP,List.getElem?_nil])))
def DU(x:W):W:=match x with | .tup [_,_,k]=>k | _=>.non
def Bm:W->List W
 | .tup (.str h::r)=>if h="row" then(match r with | .tup fs::_=>fs.map DU | _=>[])else r
 | _=>[]
theorem SD{w:W}(h:hF w=true):∃ t r,w=.tup (.str t::r)/\Ct (r.length+1) (BB B4 t)=true/\(t="row"->rwF r=true):=by
 unfold hF at h;split at h
 ·rename_i t r;simp only[YH]at h;refine⟨t,r,rfl,h.1,λe=>?_⟩;subst e;simpa using h.2
 ·cases h
theorem SE{f:W}(h:arF f=true):∃ fs,f=.tup fs/\∀ x∈fs,fdF x=true:=by
 unfold arF at h;split at h
 ·rename_i xs;simp only[YH,List.all_eq_true]at h;exact⟨xs,rfl,h.1⟩
 ·cases h
theorem SF{w:W}(h:hF w=true)(i:okL w=true):(Bm w).length<=1000:=by
 obtain⟨t,r,rfl,hl,g⟩:=SD h;have a:(decide (r.length<=1000)&&(t != "row"||Fe r))=true:=i;simp only[YH,YU]at a;show(if t="row" then _ else r).length<=1000;by_cases e:t="row"
 ·rw[if_pos e];subst e;obtain⟨f,o,rfl⟩:=LN hl;have c:(arF f&&HJ o)=true:=g rfl;simp only[YH]at c;obtain⟨fs,rfl,_⟩:=SE c.1;have d:(HI (.tup fs)&&Fd o)=true:=by simpa[Fe]using a.2
  simp only[YH]at d;have b:(decide (fs.length<=1000)&&fs.all okF)=true:=d.1;simp only[YH,YU]at b;show(fs.map DU).length<=1000;rw[Yh];exact b.1
 ·rw[if_neg e];exact a.1
abbrev SG:Spw:=spL (λ(w:W)ws _=>ws=[w]/\hF w=true/\okL w=true) Bm
theorem Cs(T:Tx K mg base a):Df P w K mg base "kinds_within" 1 1 SG:=by
 refine mk0 T.il rfl R8 Eo (λl G Q E⟨x,⟨e,_⟩,_⟩=>by rw[e];rfl) (je T) λl G Q E z q=>?_;obtain⟨w,⟨rfl,i,v⟩,q⟩:=q;have d:=SF i v;obtain⟨t,r,rfl,hl,j⟩:=SD i;unfold R9;by_cases e:t="row"
 ·subst e;obtain⟨f,o,rfl⟩:=LN hl;have c:(arF f&&HJ o)=true:=j rfl;simp only[YH]at c;obtain⟨fs,rfl,g⟩:=SE c.1
  have h:fs.length<=1000:=by
   have:(fs.map DU).length<=1000:=d;rwa [Yh]at this
  walk_at "rd";refine Da (f:=DU) trivial fs none [] (λx p s m=>?_) (by simp only[Yi];exact BE (by omega)) ?_
  ·obtain⟨n,b,k,rfl,_⟩:=LL (g x p);show Ad (Ae ixW) (Ab 0) (gC (.int 2)) [some (W.tup [.str n,b,k])] _ s;walk_at "rd";exact m
  ·rw[Yw];exact q
 ·have u:(t=="row")=false:=by simpa using e
  have y:Bm (.tup (.str t::r))=r:=if_neg e;rw[y]at q;simp only[Af,gIf,gTB,Ad,Ae,Ab,gC,AU,Ym,YJ,Yg,Yi,List.cons_append,Yw,List.replicate,Yb,ixW,A1,Ao,A2,A4,A5,u,YE,show(false != false)=false from rfl,Yq,if_false,Al];walk_at "rd";refine⟨hI _ _,?_⟩;show Ee [.tup (Cq (.str t::r) (some 1) none)] G Q;rw[Hi];exact q
variable {p:Addr}{xs:List W}
theorem LO{r:Addr}{zs:List W}(b:G p=some (.lst xs))(a:G r=some (.lst zs))(hl:xs.length+zs.length<=sizeLine)(q:Q .non (put G p (.lst (xs++zs)))):CJ (.ref p) [.ref r] G Q:=by
 unfold CJ;refine Ka b ?_ q;rw[Fo a,Option.bind_some,if_pos hl]
theorem Ff(h:G p=some (.lst xs)):BZ (.ref p) G:=⟨xs,Fo h⟩
abbrev jF(mg:Str->Option Value):Spw:=spL (λ(l:List W)ws G=>∃ p,ws=[.ref p,.ref (fAt mg "kinds_within")]/\G p=some (.lst l)/\l.length<=40/\∀ x∈l,hF x=true/\okL x=true) λl=>l.flatMap Bm
theorem SH{D:Ew}{p q j:Addr}{items:List W}:∀(l:List W)(o:Option W)(k0:W)(G:Hw)(a:List W),a.length+1000*l.length<=90000->(∀ x∈l,hF x=true/\okL x=true)->p≠q->G p=some (.lst a)->G q=some (.lst items)->
  (∀ ω g,(∃ o',ω=[some k0,some (.ref j),some (.ref p),o'])->g p=some (.lst (a++l.flatMap Bm))->(∀ b,b≠p->∀ u,G b=some u->g b=some u)->D.nx ω g)->
  A8 (holds q items) (gNm 3) (AA (gMt BZ CJ (Ab 2) (L3.Aa (B3 1 j SG XF (L3.Aa (Ab 3) L3.Ac)) L3.Ac))) D l [some k0,some (.ref j),some (.ref p),o] G
 | [],o,k0,G,a,_,_,e,i,f,d=>⟨f,d _ G ⟨o,rfl⟩ (by simpa using i) λ_ _ _ h=>h⟩
 | c::l,o,k0,G,a,hl,t,e,i,f,d=>by
  have hc:=t c Ye;have A:=SF hc.1 hc.2;have z:a.length+1000*(l.length+1)<=90000:=hl;refine⟨f,?_⟩;show AA _ _ [some k0,some (.ref j),some (.ref p),some c] G;walk_at "rd";refine⟨Ff i,trivial,c,⟨rfl,hc⟩,λr k=>?_⟩;have n:=AC i k;have m:=AC f k;refine LO (by rw[Aj n];exact i) Ak (BE (by omega)) ?_;refine SH l (some c) k0 _ (a++Bm c) (by rw[Yj];omega) (λy w=>t y (Yd _ w)) e Ak ?_ ?_
  ·rw[Aj (Qa e),Aj m];exact f
  ·intro ω g hω h1 h2;refine d ω g hω (by rw[h1,Qf,Yv]) λb s u v=>h2 b s u ?_;rw[Aj s,Aj (AC v k)];exact v
theorem Et(T:Tx K mg base a):Df P w K mg base "layer_within" 2 2 (jF mg):=by
 refine mk0 T.Q6 rfl HA Eo (λk G Q E⟨x,⟨p,e,_⟩,_⟩=>by rw[e];rfl) (jf T (Cs T) (by omega)) λk G Q E r q=>?_;obtain⟨l,⟨h,rfl,i,hl,n⟩,q⟩:=q;unfold Sa;walk_at "rd";refine⟨by decide,λp j=>?_⟩;have d:p≠h:=Qa (AC i j);have c:put G p (.lst []) h=some (.lst l):=by rw[Aj (Qa d)];exact i
 simp only[c];refine SH l none (.ref h) _ [] (by simp only[Yi];omega) n d Ak c ?_;intro ω m hω h1 h2;obtain⟨o',rfl⟩:=hω;simp only[Yb,Yc];rw[Yw]at h1
 have o:Sub (put G p (.lst (l.flatMap Bm))) m:=λb u g=>by
  by_cases f:b=p
  ·subst f;rw[Ak]at g;cases g;exact h1
  ·rw[Aj f]at g;exact h2 b f u (by rw[Aj f];exact g)
 exact r _ _ _ o (q p j)
def OKW:Nat->W->Prop
 | 0,w=>okL w=true
 | n+1,w=>okL w=true/\(hF w=true->∀ c∈Bm w,OKW n c)
theorem OKW.ok:∀{n:Nat}{w:W},OKW n w->okL w=true
 | 0,_,h=>h
 | _+1,_,h=>h.1
def mdW:Nat->Nat->List W->Bool
 | _,_,[]=>true
 | 0,_,_::_=>false
 | n+1,c,x::l=>if 40 < c+(x::l).length then false else if(x::l).all hF then mdW n (c+(x::l).length) ((x::l).flatMap Bm)else false
def isK(w:W):Bool:=mdW 8 0 [w]
theorem Ex{α:Type}{enc f:α->W}{gd:Hw->Prop}{ge:GE}{R:List W->Hw->Prop}{G:Hw}{cst:Sw}(a:gd G):∀(l:List α)(o:Option W)(ys:List W),(∀ x∈l,∀ Q:Kw,Q (f x) G->ge (some (enc x)::cst) G Q)->
  ys.length+l.length<=sizeLine->R (ys++l.map f) G->Be gd (gNm 0) AM ge R (l.map enc) (o::cst) G ys
 | [],o,ys,_,_,r=>⟨a,by simpa using r⟩
 | x::l,o,ys,h,hl,r=>by
  refine⟨a,by simp only[Yg]at hl;omega,?_⟩;show ge (some (enc x)::cst) G λy b=>Be gd (gNm 0) AM ge R (l.map enc) (some (enc x)::cst) b (ys++[y]);refine h x Ye _ (Ex a l (some (enc x)) (ys++[f x]) (λy c=>h y (Yd _ c)) ?_ ?_)
  ·simp only[Yj,Yg,Yi]at hl ⊢;omega
  ·simpa[Yv]using r
abbrev jG(mg:Str->Option Value):Spw:=spR (λ(w:W)ws _=>ws=[w,.ref (fAt mg "has_form"),.ref (fAt mg "kinds_within"),.int 40,.int 8]/\OKW 7 w) λw=>.bl (isK w)
theorem Eu(T:Tx K mg base a):Df P w K mg base "is_made_of" 6 5 (jG mg):=by
 refine mk0 T.Q7 rfl HC BJ (λR G Q E⟨x,⟨e,_⟩,_⟩=>by rw[e];rfl) (jg T (DN T) (Yr _) (Et T) (by omega)) λR G Q E r q=>?_;obtain⟨k,⟨rfl,L⟩,q⟩:=q;dsimp only at q;unfold Sb;walk_at "rd";refine⟨by decide,λp O=>?_⟩;refine⟨λm ω H=>∃(l:List W)(p:Addr)(c d:Nat),ω=[some k,some (.ref (fAt mg "has_form")),some (.ref (fAt mg "kinds_within")),some (.int 40),some (.int 8),some (.ref p),some (.int c),some (.int d)]/\H p=some (.lst l)/\Sub G H/\mdW (8 - d) c l=isK k/\(d<=7->∀ x∈l,OKW (7 - d) x)/\c<=40/\d<=8/\m=9 - d,⟨9,[k],p,0,0,rfl,Ak,A3 O,rfl,?_,by omega,by omega,rfl⟩,?_⟩
 ·intro _ x J;rw[YA.mp J];exact L
 rintro m ω Z ⟨l,p,c,d,rfl,hl,n,h,hok,U,h8,rfl⟩;walk_at "rd";simp only[hl,Ao];cases l with
 | nil =>
  have v:¬ ((0:Int) <((([]:List W).length:Nat):Int)):=by simp
  simp only[v,decide_false,Yq,if_false];have F:isK k=true:=by rw[<- h];cases(8 - d) <;> rfl
  rw[F]at q;exact r _ _ _ n q
 | cons x l =>
  have v:(0:Int) <(((x::l).length:Nat):Int):=by simp only[Yg];omega
  simp only[v,decide_true,if_true,hl,Ao]
  have D:decide ((40:Int) <(c:Int)+(((x::l).length:Nat):Int))=decide (40 < c+(x::l).length):=by
   rw[decide_eq_decide];omega
  have N:decide ((8:Int) <(d:Int)+1)=decide (8 < d+1):=by
   rw[decide_eq_decide];omega
  rw[D,N];by_cases I:8 < d+1
  ·have F:isK k=false:=by
    rw[<- h,show 8 - d=0 by omega];rfl
   rw[F]at q;by_cases b:40 < c+(x::l).length
   ·simp only[b,decide_true,if_true];exact r _ _ _ n q
   ·simp only[b,I,decide_true,decide_false,if_true,Yq,if_false];exact r _ _ _ n q
  ·have X:mdW (8 - d) c (x::l)=if 40 < c+(x::l).length then false else if(x::l).all hF then mdW (8 -(d+1)) (c+(x::l).length) ((x::l).flatMap Bm)else false:=by
    rw[show 8 - d=(8 -(d+1))+1 by omega];rfl
   rw[X]at h;by_cases b:40 < c+(x::l).length
   ·rw[if_pos b]at h;rw[<- h]at q;simp only[b,decide_true,if_true];exact r _ _ _ n q
   ·rw[if_neg b]at h;simp only[b,I,decide_false,Yq,if_false];have g:=hok (by omega);have j:(x::l).map id=x::l:=List.map_id _;rw[<- j];refine Ex (enc:=id) (f:=λz=>.bl (hF z)) (cst:=[some (.ref (fAt mg "has_form"))]) (by rw[j];exact hl) (x::l) none [] (λz u Y S=>?_) (by exact BE (by simp only[Yi];omega)) ?_
    ·exact⟨rfl,z,⟨rfl,(g z u).ok⟩,S⟩
    ·intro p1 i;rw[Yw,show(λz:W=>W.bl (hF z))=W.bl∘hF from rfl,<- YB];walk_at "pd";rw[List.all_map,show(id∘hF)=hF from rfl];cases B:(x::l).all hF with
     | false =>
      rw[B]at h;rw[<- h]at q;simp only[YR,if_true];exact r _ _ _ (BC n i) q
     | true =>
      rw[B,if_pos rfl]at h;have t:=List.all_eq_true.mp B;walk_at "pl";refine⟨x::l,⟨p,rfl,by rw[Aj (AC hl i)];exact hl,by omega,λy o=>⟨t y o,(g y o).ok⟩⟩,λp2 A=>?_⟩;refine⟨9 -(d+1),by omega,(x::l).flatMap Bm,p2,c+(x::l).length,d+1,?_,Ak,?_,h,?_,by omega,by omega,rfl⟩
      ·rw[j];simp only[Int.natCast_add,Int.natCast_one]
      ·exact BC (BC n i) A
      ·intro hd y o;obtain⟨z,u,o⟩:=List.mem_flatMap.mp o;have s:=g z u;rw[show 7 - d=(7 -(d+1))+1 by omega]at s;exact s.2 (t z u) y o
abbrev SI:Spw:=spR (λ(w:W)ws _=>ws=[w]/\OKW 7 w) λw=>.bl (isK w)
theorem HE(T:Tx K mg base a):Df P w K mg base "is_kind" 7 1 SI:=by
 refine mk0 T.im rfl Sf BJ (λb G Q E⟨x,⟨e,_⟩,_⟩=>by rw[e];rfl) (jj T (DN T) (by omega) (Cs T) (by omega) (Eu T) (Yr _)) λb G Q E d q=>?_;obtain⟨k,⟨rfl,c⟩,q⟩:=q;unfold Sg;walk_at "rd";exact⟨k,⟨rfl,c⟩,q⟩
abbrev LP(C:Addr):Spw:=λws G Q E=>∃ w:W,(ws=[w]/\OKW 7 w)/\(isK w=true->Q .non G)/\(isK w=false->E C G)
theorem jH{C:Addr}:Spw.M (LP C):=λa G Q b E c h h'⟨k,h1,q1,q2⟩=>⟨k,h1,λz=>h _ _ (q1 z),λz=>h' _ _ (q2 z)⟩
theorem jI{C:Addr}:∀ a G Q E,LP C a G Q E->a.length=1:=λa G Q E⟨k,⟨e,_⟩,_⟩=>by rw[e];rfl
theorem HG(T:Tx K mg base a):Df P w K mg base "check_kind" 8 1 (LP a.NoKind):=by
 refine mkX T.io rfl Si jH jI (g:=λE=>LC K a SI E) (jk T (HE T) (Yr _)) λd G Q E f e q=>?_;obtain⟨k,⟨rfl,c⟩,q1,q2⟩:=q;unfold LC;walk_at "rd";refine⟨k,⟨rfl,c⟩,?_⟩;dsimp only;cases b:isK k with
 | true =>
  walk_at "pl";exact q1 b
 | false =>
  simp only[YR,if_true];unfold Eg;walk_at "rd";exact⟨by decide,q2 b⟩
local macro_rules | `(tactic| walk_at "rd") => `(tactic| ((try dsimp only [Af,gIf,Ai,An,AA,Al,Ab,gC,Ad,gTB,Ay,gNt,AV,gOr,AZ,Bp,Bd,AQ,L3.Ah,Ap,L3.Aa,L3.Ac,Ag,gB,rF,Ae,AH,gMt,Bf,Ce,Bk,AG,AR,Au,L3.AJ,Bg,gSl,By,Bx,AF,AD,Bz,AS,AB,Cg,Bw,Ar,AU,List.map_cons,List.map_nil,List.length_cons,List.length_nil,List.cons_append,List.nil_append,List.getElem?_cons_zero,List.getElem?_cons_succ,List.set_cons_zero,List.set_cons_succ,List.replicate,AN,tyN,Ao,A1,Bb,Bl,ixW,A2,A4,A5,AK,A9,Bc,Bs,AI,BP,List.getElem?_nil]); (try simp only [Af,gIf,Ai,An,AA,Al,Ab,gC,Ad,gTB,Ay,gNt,AV,gOr,AZ,Bp,Bd,AQ,L3.Ah,Ap,L3.Aa,L3.Ac,Ag,gB,rF,Ae,AH,gMt,Bf,Ce,Bk,AG,AR,Au,L3.AJ,Bg,gSl,By,Bx,AF,AD,Bz,AS,AB,Cg,Bw,Ar,AU,List.map_cons,List.map_nil,List.length_cons,List.length_nil,List.cons_append,List.nil_append,List.getElem?_cons_zero,List.getElem?_cons_succ,List.set_cons_zero,List.set_cons_succ,List.replicate,AN,tyN,Ao,A1,Bb,Bl,ixW,A2,A4,A5,AK,A9,Bc,Bs,AI,BP,List.getElem?_nil])))
theorem SJ{n:Str}(h:AE n=true):n.length<=8:=by
 unfold AE at h;simp only[YH,YU]at h;exact h.1.2
theorem jJ(k:Kd):∃ xs,k.enc=.tup (.str k.hd::xs):=by cases k <;> exact⟨_,rfl⟩
theorem SK:∀ fs:Fs,fs.enc.map DT=fs.names.map W.str
 | .nil=>rfl
 | .cons n m k r=>by show W.str n::r.enc.map DT=W.str n::r.names.map W.str;rw[SK r]
theorem LQ:∀ fs:Fs,fs.names.length=fs.enc.length
 | .nil=>rfl
 | .cons n m k r=>by show r.names.length+1=r.enc.length+1;rw[LQ r]
theorem jK(fs:Fs):fs.enc.length<=fs.cnt:=by rw[KD,KB];exact Q4 _
theorem SL:∀{fs:Fs}{x:W},x∈fs.enc->∃ n b k,x=.tup [.str n,.str (mark b),k]
 | .nil,x,h=>by cases h
 | .cons n m k r,x,h=>by
  walk_at "ph"
  ·exact⟨n,m,k.enc,rfl⟩
  ·exact SL h
abbrev SM:List Str:=["script","k"]
theorem SN:Az SM ["script","k"] (Aq La):=by walk_at "s"
def SO:GS:=(Af (gIf (gTB (Ad (AG (λi j=>decide (i < j)) As) (Ab 1) (gB (rF AK) (Aa (Ab 0) Ac)))) (Ai (Ad (Ae ixW) (Ab 0) (Ab 1))) Al) (Ai (gC (.int 0))))
theorem jL(T:Tx K mg base a):Dn P w K mg base SM "_law_cell_at" La k (SO):=by
 have hN:=SN.nd;walk_at "z"
abbrev SQ:List Str:=["script","k","cell"]
theorem SR:Az SQ ["script","k"] (Aq Lb):=by walk_at "s"
def ST(HK:Spw):GS:=(Af (An 2 (Ag HK XF (Aa (Ab 0) (Aa (Ab 1) Ac)))) (Af (gIf (gTB (Ad (AR λi j=>decide (j<=i)) (Ab 2) (Ad (Au D5 λi j=>i ^ j.toNat) (gC (.int 10)) (gC (.int 18))))) (Ai (Ap (Aa (Ad (Au (λ_ _=>True) λi j=>i - j) (Ab 2) (Ad (Au D5 λi j=>i ^ j.toNat) (gC (.int 10)) (gC (.int 18)))) (Aa (gC (.bl true)) Ac)))) Al) (Ai (Ap (Aa (Ad (Au (λ_ j=>0 < j) λi j=>i % j) (Ab 2) (gC (.int 2147483647))) (Aa (gC (.bl false)) Ac))))))
theorem jM(T:Tx K mg base a){HL:Nat}(nG:Df P w K mg base "_law_cell_at" HL 2 HK)(nH:HL<=k):Dn P w K mg base SQ "_law_state" Lb k (ST HK):=by
 have hN:=SR.nd;walk_at "z"
abbrev SU:List Str:=["state","many","mixed","found"]
theorem SV:Az SU ["state","many"] (Aq Lc):=by walk_at "s"
def SW:GS:=(Af (gIf (Ay (Ad (Ae ixW) (Ab 0) (gC (.int 1)))) (Af (An 3 (Ad (Au (λ_ j=>0 < j) λi j=>i % j) (Ad (Ae ixW) (Ab 0) (gC (.int 0))) (Ab 1))) (Af (Bw (Ad (Au EJ λi j=>i / j) (Ad (Ae ixW) (Ab 0) (gC (.int 0))) (Ab 1)) (Ab 0) (gC (.int 0))) (Ai (Ab 3)))) Al) (Af (Bw (Ad (Au (λ_ j=>0 < j) λi j=>i % j) (Ad (AJ) (Ad (Au CMul λi j=>i*j) (Ad (Ae ixW) (Ab 0) (gC (.int 0))) (gC (.int 48271))) (gC (.int 29))) (gC (.int 2147483647))) (Ab 0) (gC (.int 0))) (Af (An 2 (Ad (Au (λ_ j=>0 < j) λi j=>i % j) (Ad (AJ) (Ad (AJ) (Ad (Au CMul λi j=>i*j) (Ad (Ae ixW) (Ab 0) (gC (.int 0))) (Ad (Ae ixW) (Ab 0) (gC (.int 0)))) (Ad (Au CMul λi j=>i*j) (gC (.int 39373)) (Ad (Ae ixW) (Ab 0) (gC (.int 0))))) (gC (.int 7))) (gC (.int 2147483629)))) (Af (An 2 (Ad (Au (λ_ j=>0 < j) λi j=>i % j) (Ad (AJ) (Ad (Au CMul λi j=>i*j) (Ab 2) (Ab 2)) (Ad (Au CMul λi j=>i*j) (gC (.int 16807)) (Ab 2))) (gC (.int 2147483587)))) (Ai (Ad (Au (λ_ j=>0 < j) λi j=>i % j) (Ad (Au EJ λi j=>i / j) (Ab 2) (gC (.int 8))) (Ab 1)))))))
theorem jN(T:Tx K mg base a):Dn P w K mg base SU "_law_choice" Lc k (SW):=by
 have hN:=SV.nd;walk_at "z"
abbrev SX:List Str:=["state","deep","plain","known","fields","some","name","mark"]
theorem SY:Az SX ["state","deep","plain","known"] (Aq Ld):=by walk_at "s"
def SZ(Av:Spw)(BR:Spw):GS:=(Af (An 4 (Ap Ac)) (Af (An 5 (Ap (Aa (Ap (Aa (gC (.str "a")) (Aa (gC (.str "ab")) (Aa (gC (.str "b")) (Aa (gC (.str "cab")) (Aa (gC (.str "zzzzzzzz")) Ac)))))) (Aa (Ap (Aa (gC (.str "any")) (Aa (gC (.str "in")) (Aa (gC (.str "inside")) (Aa (gC (.str "num")) (Aa (gC (.str "out")) Ac)))))) Ac)))) (Af (AA (gMt BZ CV (Ab 5) (Aa (Ap (Aa (gC (.str "aa")) (Aa (gC (.str "new")) (Aa (gC (.str "other")) (Aa (gC (.str "x")) (Aa (gC (.str "zz")) Ac)))))) Ac))) (Af (AB (AD (Ad (Ae ixW) (Ab 5) (Ad (Ae ixW) (Ap (Aa (gC (.int 0)) (Aa (gC (.int 0)) (Aa (gC (.int 1)) (Aa (gC (.int 2)) Ac))))) (Ag Av XF (Aa (Ab 0) (Aa (gC (.int 4)) Ac)))))) (gNm 6) (gIf (AV (gTB (Ad (Ae (eqF false)) (Ag Av XF (Aa (Ab 0) (Aa (gC (.int 2)) Ac))) (gC (.int 1)))) (gTB (Ad (AR λi j=>decide (j < i)) (Ad (Ae ixW) (Ab 0) (gC (.int 2))) (gC (.int 0))))) (Af (An 7 (Ad (Ae ixW) (Ap (Aa (gC (.str "must")) (Aa (gC (.str "may")) Ac))) (Ag Av XF (Aa (Ab 0) (Aa (gC (.int 2)) Ac))))) (AA (gMt BZ CV (Ab 4) (Aa (Ah (Aa (Ab 6) (Aa (Ab 7) (Aa (Ag BR XF (Aa (Ab 0) (Aa (Ad (Au (λ_ _=>True) λi j=>i - j) (Ab 1) (gC (.int 1))) (Aa (Ab 2) (Aa (Ab 3) Ac))))) Ac)))) Ac)))) Al)) (Ai (Ah (Aa (gC (.str "row")) (Aa (gB (rF AI) (Aa (Ab 4) Ac)) (Aa (AZ (Ad (Ae (eqF false)) (Ag Av XF (Aa (Ab 0) (Aa (gC (.int 2)) Ac))) (gC (.int 1))) (Bd (Ab 3))) Ac)))))))))
variable {Av BR:Spw}
theorem jO(T:Tx K mg base a){AL:Nat}(Dj:Df P w K mg base "_law_choice" AL 2 Av)(Dk:AL<=k){Cu:Nat}(S3:Df P w K mg base "_law_kind" Cu 4 BR)(S4:Cu<=k):Dn P w K mg base SX "_law_row" Ld k (SZ Av BR):=by
 have hN:=SY.nd;walk_at "z"
abbrev LR:List Str:=["state","deep","plain","known","pick","some"]
theorem LS:Az LR ["state","deep","plain","known"] (Aq Le):=by walk_at "s"
def LU(Av:Spw)(BR:Spw)(HM:Spw):GS:=(Af (Bw (Ad (Au (λ_ _=>True) λi j=>i - j) (Ad (Ae ixW) (Ab 0) (gC (.int 2))) (gC (.int 1))) (Ab 0) (gC (.int 2))) (Af (An 4 (Ag Av XF (Aa (Ab 0) (Aa (gC (.int 8)) Ac)))) (Af (gIf (gOr (gTB (Ad (AG (λi j=>decide (i < j)) As) (Ab 1) (gC (.int 2)))) (gOr (gTB (Ad (AG (λi j=>decide (i < j)) As) (Ad (Ae ixW) (Ab 0) (gC (.int 2))) (gC (.int 2)))) (gTB (Ad (AG (λi j=>decide (i < j)) As) (Ab 4) (gC (.int 2)))))) (Af (An 5 (Ap (Aa (Ah (Aa (gC (.str "num")) Ac)) (Aa (Ah (Aa (gC (.str "truth")) Ac)) (Aa (Ah (Aa (gC (.str "any")) Ac)) Ac))))) (Ai (Ad (Ae ixW) (Ab 5) (Ag Av XF (Aa (Ab 0) (Aa (Ad (Au (λ_ _=>True) λi j=>i - j) (gC (.int 3)) (gB (rF BP) (Aa (Ab 3) Ac))) Ac)))))) Al) (Af (gIf (AV (gTB (Ad (AG (λi j=>decide (i < j)) As) (Ab 4) (gC (.int 4)))) (gNt (Ay (Ab 2)))) (Ai (Ah (Aa (gC (.str "to")) (Aa (Ag BR XF (Aa (Ab 0) (Aa (Ad (Au (λ_ _=>True) λi j=>i - j) (Ab 1) (gC (.int 1))) (Aa (Ab 2) (Aa (Ab 3) Ac))))) (Aa (Ag BR XF (Aa (Ab 0) (Aa (Ad (Au (λ_ _=>True) λi j=>i - j) (Ab 1) (gC (.int 1))) (Aa (Ab 2) (Aa (Ab 3) Ac))))) Ac))))) Al) (Af (gIf (AV (gTB (Ad (Ae (eqF false)) (Ab 4) (gC (.int 4)))) (gNt (Ay (Ab 2)))) (Ai (Ah (Aa (gC (.str "box")) (Aa (Ag BR XF (Aa (Ab 0) (Aa (Ad (Au (λ_ _=>True) λi j=>i - j) (Ab 1) (gC (.int 1))) (Aa (Ab 2) (Aa (Ab 3) Ac))))) Ac)))) Al) (Ai (Ag HM XF (Aa (Ab 0) (Aa (Ab 1) (Aa (Ab 2) (Aa (Ab 3) Ac)))))))))))
theorem S6(T:Tx K mg base a){AL:Nat}(Dj:Df P w K mg base "_law_choice" AL 2 Av)(Dk:AL<=k){Cu:Nat}(S3:Df P w K mg base "_law_kind" Cu 4 BR)(S4:Cu<=k){HN:Nat}(nI:Df P w K mg base "_law_row" HN 4 HM)(nJ:HN<=k):Dn P w K mg base LR "_law_kind" Le k (LU Av BR HM):=by
 have hN:=LS.nd;walk_at "z"
abbrev S7:List Str:=["script","k","plain","known","state","deep"]
theorem S8:Az S7 ["script","k","plain","known"] (Aq Lf):=by walk_at "s"
def S9(BS:Spw)(Av:Spw)(BR:Spw):GS:=(Af (An 4 (Ad (A0) (Ag BS XF (Aa (Ab 0) (Aa (Ab 1) Ac))) (Ap (Aa (gC (.int 9)) Ac)))) (Af (An 5 (gC (.int 3))) (Af (gIf (gTB (Ad (Ae (eqF false)) (Ag Av XF (Aa (Ab 4) (Aa (gC (.int 6)) Ac))) (gC (.int 1)))) (Af (Bw (gC (.int 30)) (Ab 4) (gC (.int 2))) (An 5 (gC (.int 8)))) Al) (Ai (Ag BR XF (Aa (Ab 4) (Aa (Ab 5) (Aa (Ab 2) (Aa (Ab 3) Ac)))))))))
variable {BS:Spw}
theorem jP(T:Tx K mg base a){Cw:Nat}(Tc:Df P w K mg base "_law_state" Cw 2 BS)(Td:Cw<=k){AL:Nat}(Dj:Df P w K mg base "_law_choice" AL 2 Av)(Dk:AL<=k){Cu:Nat}(S3:Df P w K mg base "_law_kind" Cu 4 BR)(S4:Cu<=k):Dn P w K mg base S7 "_law_drawn_kind" Lf k (S9 BS Av BR):=by
 have hN:=S8.nd;walk_at "z"
local macro_rules | `(tactic| walk_at "rd") => `(tactic| ((try dsimp only [BA,B9,C8,Bh,Af,gIf,Ai,An,AA,Al,Ab,gC,Ad,gTB,Ay,gNt,AV,gOr,AZ,Bp,Bd,AQ,L3.Ah,Ap,L3.Aa,L3.Ac,Ag,gB,rF,Ae,AH,gMt,Bf,Bk,AG,AR,Au,L3.AJ,Bg,gSl,By,Bx,AF,AD,Bz,AB,Ar,AU,List.map_cons,List.map_nil,List.length_cons,List.length_nil,List.cons_append,List.nil_append,List.getElem?_cons_zero,List.getElem?_cons_succ,List.set_cons_zero,List.set_cons_succ,List.replicate,AN,tyN,Ao,A1,Bb,Bl,ixW,A2,A4,A5,AK,A9,Bc,Bs,List.getElem?_nil]); (try simp only [BA,B9,C8,Bh,Af,gIf,Ai,An,AA,Al,Ab,gC,Ad,gTB,Ay,gNt,AV,gOr,AZ,Bp,Bd,AQ,L3.Ah,Ap,L3.Aa,L3.Ac,Ag,gB,rF,Ae,AH,gMt,Bf,Bk,AG,AR,Au,L3.AJ,Bg,gSl,By,Bx,AF,AD,Bz,AB,Ar,AU,List.map_cons,List.map_nil,List.length_cons,List.length_nil,List.cons_append,List.nil_append,List.getElem?_cons_zero,List.getElem?_cons_succ,List.set_cons_zero,List.set_cons_succ,List.replicate,AN,tyN,Ao,A1,Bb,Bl,ixW,A2,A4,A5,AK,A9,Bc,Bs,List.getElem?_nil])))
theorem jQ{ns:List Int}{k:Int}(c:0<=k)(h:k <(ns.length:Int)):∃ v:Int,atI (ns.map W.int) k=some (.int v):=by
 have a:k.toNat < ns.length:=by omega
 have b:k=((k.toNat:Nat):Int):=by omega
 refine⟨ns[k.toNat],?_⟩;have q:atI (ns.map W.int) ((k.toNat:Nat):Int)=some (.int ns[k.toNat]):=EN (by rw[YT,Yp a] <;> rfl);rw[<- b]at q;exact q
def Te:Spw:=λws G Q _=>∃(ns:List Int)(k:Int),ws=[.rol (ns.map W.int),.int k]/\0<=k/\∀ v:Int,Q (.int v) G
theorem jR:Spw.M Te:=(by rintro a G Q b E c h _ ⟨ns,k,h1,h2,q⟩;exact⟨ns,k,h1,h2,λv=>h _ _ (q v)⟩)
theorem HL(T:Tx K mg base a):Df P w K mg base "_law_cell_at" 1 2 Te:=by
 refine mk0 T.iK rfl SN jR ((by rintro c G Q E ⟨ns,k,e,_⟩;rw[e];rfl)) (jL T) λc G Q E f q=>?_;obtain⟨ns,k,rfl,d,q⟩:=q;unfold SO;show Af _ _ (Ar Q) [some (.rol (ns.map W.int)),some (.int k)] G;by_cases b:k <((ns.map W.int).length:Int)
 ·obtain⟨v,e⟩:=jQ d (by simpa using b);simp only[Af,gIf,gTB,Ad,AG,gB,rF,AK,A9,L3.Aa,L3.Ac,Ab,Yb,Yc,Ao,b,decide_true,if_true,Ae,ixW,e,Ai];exact q v
 ·simp only[Af,gIf,gTB,Ad,AG,gB,rF,AK,A9,L3.Aa,L3.Ac,Ab,Yb,Yc,Ao,b,decide_false,Yq,if_false,Al,Ai,gC];exact q 0
def HP:Spw:=λws G Q _=>∃(ns:List Int)(k:Int),ws=[.rol (ns.map W.int),.int k]/\0<=k/\∀ p(x:Int)(b:Bool),G p=none->Q (.ref p) (put G p (.lst [.int x,.bl b]))
theorem jS:Spw.M HP:=(by rintro b G Q c E d h _ ⟨ns,k,h1,h2,q⟩;exact⟨ns,k,h1,h2,λp x y a=>h _ _ (q p x y a)⟩)
theorem Tg:D5 10 18:=⟨by decide,by decide,by decide⟩
theorem Cw(T:Tx K mg base a):Df P w K mg base "_law_state" 2 2 HP:=by
 refine mk0 (k:=1) T.iL rfl SR jS ((by rintro c G Q E ⟨ns,k,e,_⟩;rw[e];rfl)) (jM T (HL T) (Yr _)) λc G Q E f q=>?_;obtain⟨ns,k,rfl,d,q⟩:=q;unfold ST;show Af _ _ (Ar Q) [some (.rol (ns.map W.int)),some (.int k),none] G;refine⟨ns,k,rfl,d,λv=>?_⟩;walk_at "rd";refine⟨Tg,?_⟩;refine BF (λh=>?_) (λh=>?_)
 ·exact⟨Tg,trivial,by decide,λp b=>q p _ _ b⟩
 ·exact⟨by decide,by decide,λp b=>q p _ _ b⟩
def BO:Spw:=λws G Q _=>∃(s:Addr)(m x:Int)(b:Bool)(l:List W),ws=[.ref s,.int m]/\0 < m/\m < 1267650600228229401496703205376/\G s=some (.lst (.int x::.bl b::l))/\∀ r x':Int,0<=r->r < m->Q (.int r) (put G s (.lst (.int x'::.bl b::l)))
theorem jT:Spw.M BO:=(by rintro g G Q i E j h _ ⟨s,m,x,b,l,h1,h2,c,d,q⟩;exact⟨s,m,x,b,l,h1,h2,c,d,λr a f e=>h _ _ (q r a f e)⟩)
theorem jU(n:Nat):ixN (n+1) 0=some 0:=by unfold ixN;rw[if_pos (Int.le_refl 0),if_pos (by omega)];rfl
theorem jV(n:Nat):ixN (n+3) 2=some 2:=by unfold ixN;rw[if_pos (by decide),if_pos (by omega)];rfl
theorem Th{s:Addr}{x v:W}{l:List W}{Q:Hw->Prop}(h:G s=some (.lst (x::l)))(q:Q (put G s (.lst (v::l)))):CU (.ref s) (.int 0) v G Q:=J5 h (jU l.length) q
variable {y:W}
theorem LW{s:Addr}{x z v:W}{Q:Hw->Prop}(h:G s=some (.lst [x,y,z]))(q:Q (put G s (.lst [x,y,v]))):CU (.ref s) (.int 2) v G Q:=J5 h (jV 0) q
theorem ix0{s:Addr}{x:W}{l:List W}(h:G s=some (.lst (x::l))):ixW (.ref s) (.int 0) G=some x:=by rw[BQ h];exact A1
theorem ix1{s:Addr}{x:W}{l:List W}(h:G s=some (.lst (x::y::l))):ixW (.ref s) (.int 1) G=some y:=by rw[BQ h];exact Bb
theorem ix2{s:Addr}{x z:W}{l:List W}(h:G s=some (.lst (x::y::z::l))):ixW (.ref s) (.int 2) G=some z:=by rw[BQ h];exact Bl
theorem Ti{x m:Int}(b:0<=x)(h1:x < m)(a:m<=2147483647):-(2 ^ 64) < x/\x < 2 ^ 64:=by
 have:(2:Int) ^ 64=18446744073709551616:=by decide
 rw[this];omega
theorem AL(T:Tx K mg base a):Df P w K mg base "_law_choice" 1 2 BO:=by
 refine mk0 T.iM rfl SV jT ((by rintro j G Q E ⟨s,m,x,b,l,e,_⟩;rw[e];rfl)) (jN T) λj G Q E r q=>?_;obtain⟨s,m,x,b,l,rfl,c,i,h,q⟩:=q;unfold SW;show Af (gIf _ _ Al) _ (Ar Q) [some (.ref s),some (.int m),none,none] G;simp only[Af,gIf,Ay,Ad,Ae,Ab,gC,Yb,Yc,ix1 h,Ao,AN];cases b with
 | true =>
  simp only[if_true,Af,An,Bw,Ad,Au,Ae,Ab,gC,Ai,Ar,Yb,Yc,Yk,Yl,ix0 h,Ao];refine⟨c,?_⟩;refine⟨⟨c,i⟩,?_⟩;refine Th h ?_;exact q _ _ (Int.emod_nonneg _ (by omega)) (Int.emod_lt_of_pos _ c)
 | false =>
  simp only[Yq,if_false,Al,Af,Bw,Ad,Au,Ae,gC,Ab,Yb,Yc,ix0 h,Ao,C9,A0,L3.AJ];refine⟨.inr ⟨by decide,by decide⟩,by decide,?_⟩;refine Th h ?_;generalize f:(x*48271+29) % 2147483647=d;have p:0<=d:=by rw[<- f];exact Int.emod_nonneg _ (by decide)
  have o:d < 2147483647:=by rw[<- f];exact Int.emod_lt_of_pos _ (by decide)
  have h2:put G s (.lst (.int d::.bl false::l)) s=some (.lst (.int d::.bl false::l)):=Ak;simp only[An,Ad,Au,Ae,gC,Ab,Yb,Yc,Yk,Yl,ix0 h2,Ao,Ai,Ar,C9,A0,L3.AJ];refine⟨.inl (Ti p o (by decide)),.inl ⟨by decide,by decide⟩,by decide,?_⟩;generalize g:(d*d+39373*d+7) % 2147483629=x3;have k:0<=x3:=by rw[<- g];exact Int.emod_nonneg _ (by decide)
  have n:x3 < 2147483629:=by rw[<- g];exact Int.emod_lt_of_pos _ (by decide)
  refine⟨.inl (Ti k n (by decide)),.inl ⟨by decide,by decide⟩,(show(0:Int) < 2147483587 by decide),?_⟩;refine⟨⟨by decide,by decide⟩,c,?_⟩;exact q _ _ (Int.emod_nonneg _ (by omega)) (Int.emod_lt_of_pos _ c)
theorem CY{ps:List Str}(Fx:Fn K mg st x ps)(m:sp.M)(no:∀ a G Q E,¬ sp a G Q E):Df P w K mg base x k ps.length sp:=by
 obtain⟨f,fd,h1,F,c⟩:=Fx;exact⟨⟨f,fd,_,h1,F.kp,c,rfl,⟨(by rintro d H Q E ⟨a,G,t,r,q⟩;exact absurd q (no _ _ _ _)),(by rintro A outer s H b e d Q E _ _ _ _ ⟨a,G,t,r,q⟩;exact absurd q (no _ _ _ _))⟩⟩,m⟩
def F8:Spw:=λ_ _ _ _=>False
theorem HQ:Spw.M F8:=λ_ _ _ _ _ _ _ _ q=>q
theorem LX(a:G p=some (.lst xs))(hl:xs.length < sizeLine)(q:Q .non (put G p (.lst (xs++[y])))):CV (.ref p) [y] G Q:=by
 unfold CV;refine Ka a ?_ q;rw[if_pos hl]
def CK(m:Nat)(ns:List Str):Bool:=decide (ns.length<=m)
variable {m:Nat}{ns:List Str}
theorem LY(h:CK m ns=true):ns.length<=m:=of_decide_eq_true h
theorem Tj(h:ns.length<=m):CK m ns=true:=YI h
mutual
def Kd.thr(m:Nat):Kd->Bool
 | .to a b=>a.thr m&&b.thr m
 | .box a=>a.thr m
 | .row fs _=>CK m fs.names&&fs.thr m
 | _=>true
def Fs.thr(m:Nat):Fs->Bool
 | .nil=>true
 | .cons _ _ k r=>k.thr m&&r.thr m
end
def wf(m:Nat)(k:Kd):Prop:=k.ok=true/\k.thr m=true
mutual
def Kd.dpr:Kd->Nat
 | .to a b=>1+max a.dpr b.dpr
 | .box a=>1+a.dpr
 | .row fs _=>1+max 1 fs.dpr
 | _=>1
def Fs.dpr:Fs->Nat
 | .nil=>0
 | .cons _ _ k r=>max k.dpr r.dpr
end
mutual
def Kd.knw:Kd->Bool
 | .any=>false
 | .to a b=>a.knw&&b.knw
 | .box a=>a.knw
 | .row fs o=>!o&&fs.knw
 | _=>true
def Fs.knw:Fs->Bool
 | .nil=>true
 | .cons _ _ k r=>k.knw&&r.knw
end
mutual
def Kd.dat:Kd->Bool
 | .to _ _=>false
 | .box _=>false
 | .row fs _=>fs.dat
 | _=>true
def Fs.dat:Fs->Bool
 | .nil=>true
 | .cons _ _ k r=>k.dat&&r.dat
end
def kdt(kn:Bool)(k:Kd):Prop:=k.dat=true/\(kn=true->k.knw=true)
mutual
theorem F9:∀ k:Kd,k.dp<=k.dpr
 | .any=>Yr _
 | .num=>Yr _
 | .truth=>Yr _
 | .to a b=>by have:=F9 a;have:=F9 b;show 1+max a.dp b.dp<=1+max a.dpr b.dpr;omega
 | .box a=>by have:=F9 a;show 1+a.dp<=1+a.dpr;omega
 | .row fs o=>by have:=Tl fs;show 1+fs.dp<=1+max 1 fs.dpr;omega
theorem Tl:∀ fs:Fs,fs.dp<=fs.dpr
 | .nil=>Yr _
 | .cons _ _ k r=>by have:=F9 k;have:=Tl r;show max k.dp r.dp<=max k.dpr r.dpr;omega
end
def Bt(x:Str×Bool×Kd):W:=.tup [.str x.1,.str (mark x.2.1),x.2.2.enc]
def ofL:List (Str×Bool×Kd)->Fs
 | []=>.nil
 | x::l=>.cons x.1 x.2.1 x.2.2 (ofL l)
theorem HR:∀ l,(ofL l).enc=l.map Bt
 | []=>rfl
 | x::l=>by show Bt x::(ofL l).enc=Bt x::l.map Bt;rw[HR l]
theorem Ga:∀ l,(ofL l).names=l.map (·.1)
 | []=>rfl
 | x::l=>by show x.1::(ofL l).names=x.1::l.map (·.1);rw[Ga l]
theorem Tn{n:Nat}:∀ l:List (Str×Bool×Kd),(∀ y∈l,y.2.2.dpr<=n)->(ofL l).dpr<=n
 | [],_=>YZ _
 | x::l,h=>by
  have h1:=h x Ye;have h2:=Tn l λy a=>h y (Yd _ a);show max x.2.2.dpr (ofL l).dpr<=n;omega
theorem To:∀ l:List (Str×Bool×Kd),(∀ y∈l,y.2.2.knw=true)->(ofL l).knw=true
 | [],_=>rfl
 | y::l,h=>by
  show(y.2.2.knw&&(ofL l).knw)=true;rw[h y Ye,To l λz a=>h z (Yd _ a)];rfl
theorem Tq:∀ l:List (Str×Bool×Kd),(∀ y∈l,y.2.2.dat=true)->(ofL l).dat=true
 | [],_=>rfl
 | y::l,h=>by
  show(y.2.2.dat&&(ofL l).dat)=true;rw[h y Ye,Tq l λz a=>h z (Yd _ a)];rfl
theorem Ts{M:Nat}:∀ l:List (Str×Bool×Kd),(∀ y∈l,AE y.1=true/\wf M y.2.2)->(ofL l).ok=true/\(ofL l).thr M=true
 | [],_=>⟨rfl,rfl⟩
 | x::l,h=>by
  obtain⟨h1,h2,a⟩:=h x Ye;obtain⟨b,c⟩:=Ts l λy d=>h y (Yd _ d);constructor
  ·show(AE x.1&&x.2.2.ok&&(ofL l).ok)=true;rw[h1,h2,b];rfl
  ·show(x.2.2.thr M&&(ofL l).thr M)=true;rw[a,c];rfl
theorem Tt:∀(l a:List (Str×Bool×Kd)),(ofL (l++a)).cnt=(ofL l).cnt+(ofL a).cnt
 | [],a=>by show(ofL a).cnt=0+(ofL a).cnt;omega
 | x::l,a=>by show x.2.2.cnt+(ofL (l++a)).cnt=x.2.2.cnt+(ofL l).cnt+(ofL a).cnt;rw[Tt l a];omega
theorem LZ:∀{ns:List Str},ns.Pairwise (λx y=>As x y=true)->rise ns=true
 | [],_=>rfl
 | [_],_=>rfl
 | x::y::r,h=>by
  show(As x y&&rise (y::r))=true;cases h with
  | cons h1 h2=>rw[h1 y Ye,LZ h2];rfl
variable {o:Bool}
theorem jW{l:List (Str×Bool×Kd)}(h1:(l.map (·.1)).Pairwise (λx y=>As x y=true))(h2:CK M (l.map (·.1))=true)(a:∀ y∈l,AE y.1=true/\wf M y.2.2):wf M (.row (ofL l) o):=by
 obtain⟨b,c⟩:=Ts l a;constructor
 ·show(rise (ofL l).names&&(ofL l).ok)=true;rw[Ga,LZ h1,b];rfl
 ·show(CK M (ofL l).names&&(ofL l).thr M)=true;rw[Ga,h2,c];rfl
def gk(d c:Int)(kn:Bool)(k:Kd):Prop:=wf 5 k/\(k.dpr:Int)<=d/\(k.cnt:Int)<=max c 1+(d - 1)/\(c<=2->k.cnt=1)/\kdt kn k
def Dl(n:Nat):Spw:=λws G Q _=>∃(s:Addr)(x d c:Int)(b kn:Bool),ws=[.ref s,.int d,.bl true,.bl kn]/\1<=d/\d<=(n:Int)+1/\G s=some (.lst [.int x,.bl b,.int c])/\∀(k:Kd)(x':Int),gk d c kn k->Q k.enc (put G s (.lst [.int x',.bl b,.int (c - k.cnt)]))
theorem Tu:Spw.M (Dl n):=(by rintro j G Q l E m h _ ⟨s,x,d,c,b,i,h1,h2,e,f,q⟩;exact⟨s,x,d,c,b,i,h1,h2,e,f,λk a g=>h _ _ (q k a g)⟩)
def L0(n:Nat):Spw:=λws G Q _=>∃(s:Addr)(x d c:Int)(b kn:Bool),ws=[.ref s,.int d,.bl true,.bl kn]/\2<=d/\d<=(n:Int)+2/\2<=c/\G s=some (.lst [.int x,.bl b,.int c])/\∀(k:Kd)(x':Int),wf 5 k->(k.dpr:Int)<=d->1<=k.cnt->(k.cnt:Int)<=c+d - 1->kdt kn k->Q k.enc (put G s (.lst [.int x',.bl b,.int (c+1 - k.cnt)]))
theorem jX:Spw.M (L0 n):=(by rintro l G Q m E o h _ ⟨s,x,d,c,b,j,h1,h2,e,f,i,q⟩;exact⟨s,x,d,c,b,j,h1,h2,e,f,i,λk a g1 g2 g3 g4 g=>h _ _ (q k a g1 g2 g3 g4 g)⟩)
def Gb(xs:List Str):Prop:=xs.Pairwise (λx y=>As x y=true)/\(∀ x∈xs,AE x=true)/\xs.length<=5
abbrev gRB(sp:Spw):GS:=(gIf (AV (gTB (Ad (Ae (eqF false)) (Ag BO XF (L3.Aa (Ab 0) (L3.Aa (gC (.int 2)) L3.Ac))) (gC (.int 1)))) (gTB (Ad (AR λi j=>decide (j < i)) (Ad (Ae ixW) (Ab 0) (gC (.int 2))) (gC (.int 0))))) (Af (An 7 (Ad (Ae ixW) (Ap (L3.Aa (gC (.str "must")) (L3.Aa (gC (.str "may")) L3.Ac))) (Ag BO XF (L3.Aa (Ab 0) (L3.Aa (gC (.int 2)) L3.Ac))))) (AA (gMt BZ CV (Ab 4) (L3.Aa (L3.Ah (L3.Aa (Ab 6) (L3.Aa (Ab 7) (L3.Aa (Ag sp XF (L3.Aa (Ab 0) (L3.Aa (Ad (Au (λ_ _=>True) λi j=>i - j) (Ab 1) (gC (.int 1))) (L3.Aa (Ab 2) (L3.Aa (Ab 3) L3.Ac))))) L3.Ac)))) L3.Ac)))) Al)
theorem jY{r:Int}(a:0<=r)(h2:r < 2):∃ b:Bool,atI [W.str "must",W.str "may"] r=some (.str (mark b)):=by
 have:r=0\/r=1:=by omega
 rcases this with e | e
 ·exact⟨true,by rw[e];exact A1⟩
 ·exact⟨false,by rw[e];exact Bb⟩
theorem L1{n:Nat}{D:Ew}{s p:Addr}{d c:Int}{b:Bool}{items:List W}{U:Option W}(N:2<=d)(O:d<=(n:Int)+2)(hc:2<=c):∀(xs:List Str)(T y:Option W)(G:Hw)(l:List (Str×Bool×Kd))(x a:Int),G s=some (.lst [.int x,.bl b,.int a])->G p=some (.lst (l.map Bt))->G B=some (.lst items)->p≠s->B≠s->B≠p->l.length+xs.length<=100->a=c -(ofL l).cnt->((ofL l).cnt:Int)<=c+d - 2->
  (∀ ω w j L,(∃ u v,ω=[some (.ref s),some (.int d),some (.bl true),some (.bl I),some (.ref p),U,u,v])->w s=some (.lst [.int L,.bl b,.int (c -(ofL (l++j)).cnt)])->((ofL (l++j)).cnt:Int)<=c+d - 2->w p=some (.lst ((l++j).map Bt))->(∀ b,b≠s->b≠p->∀ u,G b=some u->w b=some u)->(j.map (·.1)).Sublist xs->(∀ z∈j,wf 5 z.2.2/\(z.2.2.dpr:Int)<=d - 1/\kdt I z.2.2)->D.nx ω w)->
  A8 (holds B items) (gNm 6) (gRB (Dl n)) D (xs.map W.str) [some (.ref s),some (.int d),some (.bl true),some (.bl I),some (.ref p),U,T,y] G
 | [],T,y,G,l,x,a,hs,hp,S,_,_,_,_,e0,e1,i=>⟨S,i _ G [] x ⟨T,y,rfl⟩ (by rw[Yx,<- e0];exact hs) (by rw[Yx];exact e1) (by rw[Yx];exact hp) (λb _ _ u h=>h) (.refl _) (by intro z J;cases J)⟩
 | nm::xs,T,y,G,l,x,a,hs,hp,S,e,g,F,hl,e0,e1,i=>by
  refine⟨S,?_⟩;show gRB (Dl n) _ [some (.ref s),some (.int d),some (.bl true),some (.bl I),some (.ref p),U,some (.str nm),y] G;have hlx:l.length+(xs.length+1)<=100:=hl;simp only[gIf,AV,gTB,Ad,Ag,L3.Aa,L3.Ac,Ab,gC,Ae,Yb,Yc];refine⟨s,2,x,b,[.int a],rfl,by decide,by decide,hs,λr f r0 r1=>?_⟩;have t:put G s (.lst [.int f,.bl b,.int a]) s=some (.lst [.int f,.bl b,.int a]):=Ak;have E:put G s (.lst [.int f,.bl b,.int a]) p=some (.lst (l.map Bt)):=by rw[Aj e];exact hp
  have A:put G s (.lst [.int f,.bl b,.int a]) B=some (.lst items):=by rw[Aj g];exact S
  have skip:∀ y,A8 (holds B items) (gNm 6) (gRB (Dl n)) D (xs.map W.str) [some (.ref s),some (.int d),some (.bl true),some (.bl I),some (.ref p),U,some (.str nm),y] (put G s (.lst [.int f,.bl b,.int a])):=λy=>by
   refine L1 N O hc xs _ _ _ l f a t E A e g F (by omega) e0 e1 ?_;intro ω w j L hω R q Q f3 Z f5;exact i ω w j L hω R q Q (λc H X u hu=>f3 c H X u (by rw[Aj H];exact hu)) (Z.cons nm) f5
  show opt (eqF false (.int r) (.int 1) (put G s (.lst [.int f,.bl b,.int a]))) _;rw[show eqF false (.int r) (.int 1) (put G s (.lst [.int f,.bl b,.int a]))=some (.bl (r==1)) by unfold eqF eqW;show some (W.bl ((r==1) != false))=_;cases(r==1) <;> rfl,Ao];dsimp only;cases(r==1)with
  | false=>exact skip _
  | true =>
   rw[if_pos rfl,ix2 t,Ao];show if decide (0 < a)=true then _ else _
   by_cases h0:0 < a
   ·rw[if_pos (YI h0)];simp only[Af,An,Ad,Ap,Ag,L3.Aa,L3.Ac,Ab,gC,Ae,Yb,Yc];refine⟨(Qzz 2),λp2 o=>?_⟩;have n2:s≠p2:=AC t o;have n3:p≠p2:=AC E o;have n4:B≠p2:=AC A o;refine⟨s,2,f,b,[.int a],rfl,by decide,by decide,by rw[Aj n2];exact t,λr2 x2 r20 Y=>?_⟩;obtain⟨m,em⟩:=jY r20 Y
    have fm:ixW (.ref p2) (.int r2) (put (put (put G s (.lst [.int f,.bl b,.int a])) p2 (.lst [.str "must",.str "may"])) s (.lst [.int x2,.bl b,.int a]))=some (.str (mark m)):=by
     rw[BQ (by rw[Aj (Qa n2)];exact Ak)];exact em
    rw[fm,Ao];simp only[AA,gMt,L3.Ah,Ad,Ag,Au,L3.Aa,L3.Ac,Ab,gC,Yk,Yl,Yb,Yc];have K:put (put (put G s (.lst [.int f,.bl b,.int a])) p2 (.lst [.str "must",.str "may"])) s (.lst [.int x2,.bl b,.int a]) p=some (.lst (l.map Bt)):=by rw[Aj e,Aj n3];exact E
    refine⟨Ff K,trivial,s,x2,d - 1,a,b,I,rfl,by omega,by omega,Ak,λk x3 P=>?_⟩;refine⟨(Qzz 3),?_⟩;refine LX (by rw[Aj e];exact K) (by rw[Yh];exact Ep (by omega)) ?_;have ee:l.map Bt++[W.tup [.str nm,.str (mark m),k.enc]]=(l++[(nm,m,k)]).map Bt:=by rw[Yy];rfl
    rw[ee];have ec:(ofL (l++[(nm,m,k)])).cnt=(ofL l).cnt+k.cnt:=by rw[Tt];rfl
    have hk3:=P.2.2.1;refine L1 N O hc xs _ _ _ (l++[(nm,m,k)]) x3 (a - k.cnt) (by rw[Aj (Qa e)];exact Ak) Ak ?_ e g F (by rw[Yj];simp only[Yg,Yi];omega) (by rw[ec];omega) (by rw[ec];omega) ?_
    ·rw[Aj F,Aj g,Aj g,Aj n4];exact A
    ·intro ω w j L hω R q Q f3 Z f5;rw[Yv]at R q Q;refine i ω w ((nm,m,k)::j) L hω R q Q (λc H X u hu=>f3 c H X u ?_) (Z.cons_cons nm) ?_
     ·have hc:put G s (.lst [.int f,.bl b,.int a]) c=some u:=by rw[Aj H];exact hu
      rw[Aj X,Aj H,Aj H,Aj (AC hc o)];exact hc
     ·intro z J;rcases Yo.mp J with rfl | J
      ·exact⟨P.1,P.2.1,P.2.2.2.2⟩
      ·exact f5 z J
   ·rw[if_neg (by simpa using h0)];exact skip _
theorem jZ{d:Hw}{s:Addr}(f:G p=none)(h:∀ b,b≠s->b≠p->∀ u,G b=some u->d b=some u)(g:d s=some S):Sub (put G s S) d:=λb u a=>by
 by_cases c:b=s
 ·subst c;rw[Ak]at a;rw[g];exact a
 ·rw[Aj c]at a;exact h b c (λe=>by subst e;rw[f]at a;cases a) u a
abbrev LA:List Str:=["a","ab","b","cab","zzzzzzzz"]
abbrev LB':List Str:=["any","in","inside","num","out"]
abbrev LC':List Str:=["aa","new","other","x","zz"]
theorem Tv:Gb LA:=⟨by decide +kernel,by decide +kernel,by decide⟩
theorem j0:Gb LB':=⟨by decide +kernel,by decide +kernel,by decide⟩
theorem j1:Gb LC':=⟨by decide +kernel,by decide +kernel,by decide⟩
abbrev gRT(sp:Spw):GS:=Af (AB (AD (Ad (Ae ixW) (Ab 5) (Ad (Ae ixW) (Ap (L3.Aa (gC (.int 0)) (L3.Aa (gC (.int 0)) (L3.Aa (gC (.int 1)) (L3.Aa (gC (.int 2)) L3.Ac))))) (Ag BO XF (L3.Aa (Ab 0) (L3.Aa (gC (.int 4)) L3.Ac)))))) (gNm 6) (gRB sp)) (Ai (L3.Ah (L3.Aa (gC (.str "row")) (L3.Aa (gB (rF AI) (L3.Aa (Ab 4) L3.Ac)) (L3.Aa (AZ (Ad (Ae (eqF false)) (Ag BO XF (L3.Aa (Ab 0) (L3.Aa (gC (.int 2)) L3.Ac))) (gC (.int 1))) (Bd (Ab 3))) L3.Ac)))))
variable {c:Int}{b:Bool}
theorem j2{s K:Addr}{x d:Int}(hC:Kw.C Q)(hd1:2<=d)(hd2:d<=(n:Int)+2)(hc:2<=c)(J:G s=some (.lst [.int x,.bl b,.int c]))(hp:G p=some (.lst []))(E:p≠s)
  (h3:G p3=some (.lst [.ref p1,.ref p2,.ref K])) (h1:G p1=some (.lst (LA.map W.str))) (h2:G p2=some (.lst (LB'.map W.str))) (h4:G K=some (.lst (LC'.map W.str)))
  (q:∀(k:Kd)(X:Int)g,wf 5 k->(k.dpr:Int)<=d->1<=k.cnt->(k.cnt:Int)<=c+d - 1->kdt B k->g s=some (.lst [.int X,.bl b,.int (c+1 - k.cnt)])->(∀ b,b≠s->b≠p->∀ u,G b=some u->g b=some u)->Q k.enc g):
  gRT (Dl n) (Ar Q) [some (.ref s),some (.int d),some (.bl true),some (.bl B),some (.ref p),some (.ref p3),none,none] G:=by
 unfold gRT;simp only[Af,AB,AD,Ad,Ap,Ag,L3.Aa,L3.Ac,Ab,gC,Ae,Yb,Yc];refine⟨(Qzz 4),λt e5=>?_⟩
 have R:∀{r:Addr}{L:List W},G r=some (.lst L)->L.length≠3->r≠s:=λh S e=>by
  subst e;rw[J]at h;cases h;exact S rfl
 have n5:s≠t:=AC J e5;refine⟨s,4,x,b,[.int c],rfl,by decide,by decide,by rw[Aj n5];exact J,λr A r0 r1=>?_⟩
 have keep:∀ a,a≠s->∀ u,G a=some u->put (put G t (.lst [.int 0,.int 0,.int 1,.int 2])) s (.lst [.int A,.bl b,.int c]) a=some u:=λa ha u I=>by
  rw[Aj ha,Aj (AC I e5)];exact I
 have f5:put (put G t (.lst [.int 0,.int 0,.int 1,.int 2])) s (.lst [.int A,.bl b,.int c]) t=some (.lst [.int 0,.int 0,.int 1,.int 2]):=by rw[Aj (Qa n5)];exact Ak
 have fs:put (put G t (.lst [.int 0,.int 0,.int 1,.int 2])) s (.lst [.int A,.bl b,.int c]) s=some (.lst [.int A,.bl b,.int c]):=Ak
 have n3:p3≠s:=λe=>by
  subst e;rw[J]at h3;have:=HW.lst.inj (YF h3);cases this
 generalize put (put G t (.lst [.int 0,.int 0,.int 1,.int 2])) s (.lst [.int A,.bl b,.int c])=G1 at keep f5 fs ⊢
 have Gc:∃(pn:Addr)(L:List Str),Gb L/\(∃ j:Int,atI [W.int 0,.int 0,.int 1,.int 2] r=some (.int j)/\atI [W.ref p1,.ref p2,.ref K] j=some (.ref pn))/\G pn=some (.lst (L.map W.str))/\L.length≠3/\L≠[]:=by
  have:r=0\/r=1\/r=2\/r=3:=by omega
  rcases this with rfl | rfl | rfl | rfl
  ·exact⟨p1,LA,Tv,⟨0,rfl,rfl⟩,h1,by decide,by decide⟩
  ·exact⟨p1,LA,Tv,⟨0,rfl,rfl⟩,h1,by decide,by decide⟩
  ·exact⟨p2,LB',j0,⟨1,rfl,rfl⟩,h2,by decide,by decide⟩
  ·exact⟨K,LC',j1,⟨2,rfl,rfl⟩,h4,by decide,by decide⟩
 obtain⟨pn,L,H,⟨j,Y,ej2⟩,D,Z,N⟩:=Gc;show opt (ixW (.ref t) (.int r) G1) _;rw[BQ f5,Y,Ao,BQ (keep p3 n3 _ h3),ej2,Ao];have m:pn≠s:=R D (by rw[Yh];exact Z)
 have npp:pn≠p:=λe=>by
  subst e;rw[hp]at D;have:=HW.lst.inj (YF D);cases L with
  | nil=>exact N rfl
  | cons y L=>cases this
 simp only[keep pn m _ D];refine L1 (n:=n) (c:=c) hd1 hd2 hc L none none G1 [] A c fs (keep p E _ hp) (keep pn m _ D) E m npp (by have:=H.2.2;simp only[Yi];omega) (by show c=c -((0:Nat):Int);omega) (by show((0:Nat):Int)<=c+d - 2;omega) ?_;intro ω g f X hω f1 f1' f2 f3 O i;obtain⟨u,v,rfl⟩:=hω;rw[Yw]at f1 f1' f2;simp only[Ai,L3.Ah,gB,AZ,Bd,Ad,Ag,L3.Aa,L3.Ac,Ab,gC,Ae,rF,Yb,Yc];rw[show AI [.ref p] g=some (.tup (f.map Bt)) by unfold AI;dsimp only;rw[Zip f2];rfl,Ao];refine⟨s,2,X,b,[.int (c -(ofL f).cnt)],rfl,by decide,by decide,f1,λw F _ _=>?_⟩
 have done:∀ o:Bool,(B=true->o=false)->3<=sizeLine/\Q (.tup [.str "row",.tup (f.map Bt),.bl o]) (put g s (.lst [.int F,.bl b,.int (c -(ofL f).cnt)])):=λo hko=>by
  refine⟨by decide,?_⟩;have U:CK 5 (f.map (·.1))=true:=Tj (by have h1:=O.length_le;have:=H.2.2;omega);have wk:wf 5 (.row (ofL f) o):=jW (H.1.sublist O) U λy l=>⟨H.2.1 _ (O.subset (YN l)),(i y l).1⟩;have T:(Kd.row (ofL f) o).cnt=1+(ofL f).cnt:=rfl;have hdp:(ofL f).dpr<=(d - 1).toNat:=Tn f λy l=>by have:=(i y l).2.1;omega
  have ed:(Kd.row (ofL f) o).dpr=1+max 1 (ofL f).dpr:=rfl
  have P:kdt B (Kd.row (ofL f) o):=⟨Tq f λy l=>(i y l).2.2.1,λz=>by
   show(!o&&(ofL f).knw)=true;rw[hko z,To f λy l=>(i y l).2.2.2 z];rfl⟩
  have:=q (.row (ofL f) o) F (put g s (.lst [.int F,.bl b,.int (c -(ofL f).cnt)])) wk (by rw[ed];omega) (by rw[T];omega) (by rw[T];omega) P (by rw[Ak,T,show c+1 -((1+(ofL f).cnt:Nat):Int)=c -(ofL f).cnt by omega]) λa h1 h2 u I=>by
   rw[Aj h1];exact f3 a h1 h2 u (keep a h1 u I)
  rw[show(Kd.row (ofL f) o).enc=.tup [.str "row",.tup (f.map Bt),.bl o] by rw[<- HR];rfl]at this;exact this
 show opt (eqF false (.int w) (.int 1) (put g s (.lst [.int F,.bl b,.int (c -(ofL f).cnt)]))) _;rw[show eqF false (.int w) (.int 1) (put g s (.lst [.int F,.bl b,.int (c -(ofL f).cnt)]))=some (.bl (w==1)) by unfold eqF eqW;show some (W.bl ((w==1) != false))=_;cases(w==1) <;> rfl,Ao];dsimp only;cases(w==1)with
 | false=>exact done false (λ_=>rfl)
 | true=>rw[if_pos rfl];exact done (!B) (λz=>by rw[z];rfl)
theorem HN(T:Tx K mg base a)(Z:1<=m)(D:Df P w K mg base "_law_kind" m 4 (Dl n)):Df P w K mg base "_law_row" (m+1) 4 (L0 n):=by
 refine mk0 (k:=m) T.Rb rfl SY jX ((by rintro ws G Q E ⟨s,x,d,c,b,O,e,_⟩;rw[e];rfl)) (jO T (AL T) Z D (Yr _)) λws G Q E J q=>?_;obtain⟨s,x,d,c,b,O,rfl,z,B,hc,I,q⟩:=q;unfold SZ;show Af (An 4 (Ap L3.Ac)) _ (Ar Q) [some (.ref s),some (.int d),some (.bl true),some (.bl O),none,none,none,none] G;simp only[Af,An,Ap,L3.Aa,L3.Ac,gC,Yk,Yl];refine⟨(Qzz 0),λp t=>⟨(Qzz 5),λp1 e1=>⟨(Qzz 5),λp2 X=>⟨(Qzz 2),λp3 L=>?_⟩⟩⟩⟩;have j:p≠s:=Qa (AC I t);have s0:Sub G (put G p (.lst [])):=A3 t;have fp:put G p (.lst []) p=some (.lst []):=Ak;generalize put G p (.lst [])=G0 at *;have N:Sub G0 (put G0 p1 (.lst [.str "a",.str "ab",.str "b",.str "cab",.str "zzzzzzzz"])):=A3 e1;have f1:put G0 p1 (.lst [.str "a",.str "ab",.str "b",.str "cab",.str "zzzzzzzz"]) p1=some (.lst (LA.map W.str)):=Ak;generalize put G0 p1 (.lst [.str "a",.str "ab",.str "b",.str "cab",.str "zzzzzzzz"])=G1 at *;have A:Sub G1 (put G1 p2 (.lst [.str "any",.str "in",.str "inside",.str "num",.str "out"])):=A3 X;have Y:put G1 p2 (.lst [.str "any",.str "in",.str "inside",.str "num",.str "out"]) p2=some (.lst (LB'.map W.str)):=Ak;generalize put G1 p2 (.lst [.str "any",.str "in",.str "inside",.str "num",.str "out"])=G2 at *;have F:Sub G2 (put G2 p3 (.lst [.ref p1,.ref p2])):=A3 L;have g:put G2 p3 (.lst [.ref p1,.ref p2]) p3=some (.lst [.ref p1,.ref p2]):=Ak;have l:=L;generalize put G2 p3 (.lst [.ref p1,.ref p2])=G3 at F g ⊢;simp only[AA,gMt,Ab,L3.Aa,L3.Ac,Ap,gC,Yb,Yc];refine⟨Ff g,(Qzz 5),λf y=>?_⟩;have v:Sub G3 (put G3 f (.lst [.str "aa",.str "new",.str "other",.str "x",.str "zz"])):=A3 y;have H:put G3 f (.lst [.str "aa",.str "new",.str "other",.str "x",.str "zz"]) f=some (.lst (LC'.map W.str)):=Ak;generalize put G3 f (.lst [.str "aa",.str "new",.str "other",.str "x",.str "zz"])=G4 at v H ⊢;refine LX (v _ _ g) (show 2 < sizeLine by decide) ?_;have S2:Sub G G2:=(s0.trans N).trans A;have n3:∀{r:Addr}{o:HW},G2 r=some o->r≠p3:=λh=>AC h l;have keep:∀ r o,G2 r=some o->put G4 p3 (.lst ([.ref p1,.ref p2]++[.ref f])) r=some o:=λr o h=>by rw[Aj (n3 h)];exact v _ _ (F _ _ h)
 have i:f≠p3:=λe=>by subst e;rw[g]at y;cases y
 refine j2 (x:=x) J z B hc (keep _ _ (S2 _ _ I)) (keep _ _ (A _ _ (N _ _ fp))) j Ak (keep _ _ (A _ _ f1)) (keep _ _ Y) (by rw[Aj i];exact H) λk x' G' R w2 w3 w4 w5 hG S=>?_;refine J _ _ _ (jZ t (λr h1 h2 u U=>S r h1 h2 u (keep _ _ (S2 _ _ U))) hG) (q k x' R w2 w3 w4 w5)
theorem j3{r:Int}(a:0<=r)(b:r < 3):∃ k:Kd,(k=.any\/k=.num\/k=.truth)/\(r < 2->k.knw=true)/\atI [W.tup [.str "num"],W.tup [.str "truth"],W.tup [.str "any"]] r=some k.enc:=by
 have:r=0\/r=1\/r=2:=by omega
 rcases this with e | e | e
 ·exact⟨.num,.inr (.inl rfl),λ_=>rfl,by rw[e];exact A1⟩
 ·exact⟨.truth,.inr (.inr rfl),λ_=>rfl,by rw[e];exact Bb⟩
 ·exact⟨.any,.inl rfl,λz=>absurd z (by omega),by rw[e];exact Bl⟩
theorem Tw{k:Kd}(h:k=.any\/k=.num\/k=.truth):wf 5 k/\k.dpr=1/\k.cnt=1:=by rcases h with rfl | rfl | rfl <;> exact⟨⟨rfl,rfl⟩,rfl,rfl⟩
abbrev gLf:GS:=(Af (An 5 (Ap (L3.Aa (L3.Ah (L3.Aa (gC (.str "num")) L3.Ac)) (L3.Aa (L3.Ah (L3.Aa (gC (.str "truth")) L3.Ac)) (L3.Aa (L3.Ah (L3.Aa (gC (.str "any")) L3.Ac)) L3.Ac))))) (Ai (Ad (Ae ixW) (Ab 5) (Ag BO XF (L3.Aa (Ab 0) (L3.Aa (Ad (Au (λ_ _=>True) λi j=>i - j) (gC (.int 3)) (gB (rF BP) (L3.Aa (Ab 3) L3.Ac))) L3.Ac))))))
variable {D:Ew}
theorem j4(v:D.rt=Q){s:Addr}{x:Int}{d:Bool}{t y A:Option W}(E:Kw.C Q)(l:G s=some (.lst [.int x,.bl b,.int c]))(q:∀(k:Kd)(m:Int),(k=.any\/k=.num\/k=.truth)->kdt d k->Q k.enc (put G s (.lst [.int m,.bl b,.int c]))):
  gLf D [some (.ref s),t,y,some (.bl d),A,none] G:=by
 unfold gLf;simp only[Af,An,Ai,Ap,L3.Ah,Ad,Ag,gB,rF,L3.Aa,L3.Ac,Ab,gC,Ae,Au,Yk,Yl,Yb,Yc];refine⟨by decide,by decide,by decide,by decide,λp j=>?_⟩;have u:BP [.bl d] (put G p (.lst [.tup [.str "num"],.tup [.str "truth"],.tup [.str "any"]]))=some (.int (if d then 1 else 0)):=by cases d <;> rfl
 rw[u,Ao];have n:s≠p:=AC l j;refine⟨trivial,s,_,x,b,[.int c],rfl,by cases d <;> decide,by cases d <;> decide,by rw[Aj n];exact l,λr H w r1=>?_⟩;have B:r < 3:=by cases d with | true=>have:r < 3 - 1:=r1;omega | false=>have:r < 3 - 0:=r1;omega
 obtain⟨k,i,f,F⟩:=j3 w B;have e:kdt d k:=⟨by rcases i with rfl | rfl | rfl <;> rfl,λz=>f (by subst z;have:r < 3 - 1:=r1;omega)⟩;show opt (ixW (.ref p) (.int r) _) _;rw[BQ (by rw[Aj (Qa n)];exact Ak),F,Ao,v];refine E _ _ _ (λa o h=>?_) (q k H i e);by_cases g:a=s
 ·subst g;rw[Ak]at h ⊢;exact h
 ·rw[Aj g]at h ⊢;rw[Aj (AC h j)];exact h
theorem j5{d:Int}{a:Bool}{k:Kd}(hd:1<=d)(h:k=.any\/k=.num\/k=.truth)(b:kdt a k):gk d c a k:=by
 obtain⟨w,f,e⟩:=Tw h;exact⟨w,by omega,by omega,λ_=>e,b⟩
theorem Tz{h g:Spw}{D:List W}{E:Addr->Hw->Prop}(K:Kw.C Q)(q:Dl n D G Q E)(O:n=0\/∃ m,n=m+1/\h=Dl m/\g=L0 m):LU BO h g (Ar Q) (AU LR D) G:=by
 obtain⟨s,x,d,c,b,f,rfl,u,v,y,q⟩:=q;unfold LU;show Af (Bw _ _ _) _ (Ar Q) [some (.ref s),some (.int d),some (.bl true),some (.bl f),none,none] G;simp only[Af,Bw,Ad,Au,Ae,Ab,gC,Yb,Yc,ix2 y,Ao];refine⟨trivial,LW y ?_⟩;have h1:put G s (.lst [.int x,.bl b,.int (c - 1)]) s=some (.lst [.int x,.bl b,.int (c - 1)]):=Ak;simp only[An,Ag,L3.Aa,L3.Ac,Ab,gC,Yb,Yc];refine⟨s,8,x,b,[.int (c - 1)],rfl,by decide,by decide,h1,λr a X P=>?_⟩;rw[Cr];have h2:put G s (.lst [.int a,.bl b,.int (c - 1)]) s=some (.lst [.int a,.bl b,.int (c - 1)]):=Ak;walk_at "pa"
 have i:gLf {Ar Q with nx:=(λ_ _=>False)} [some (.ref s),some (.int d),some (.bl true),some (.bl f),some (.int r),none] (put G s (.lst [.int a,.bl b,.int (c - 1)])):=by
  refine j4 (Q:=Q) rfl K h2 λk l w j=>?_;rw[Cr];have:=q k l (j5 u w j);rw[(Tw w).2.2]at this;exact this
 have p:∀{t:GT}{Aw:GS}{b':Bool},(∀ R:Bool->Hw->Prop,R b' (put G s (.lst [.int a,.bl b,.int (c - 1)]))->t [some (.ref s),some (.int d),some (.bl true),some (.bl f),some (.int r),none] (put G s (.lst [.int a,.bl b,.int (c - 1)])) R)->(b'=false->Aw (Ar Q) [some (.ref s),some (.int d),some (.bl true),some (.bl f),some (.int r),none] (put G s (.lst [.int a,.bl b,.int (c - 1)])))->
   Af (gIf t gLf Al) Aw (Ar Q) [some (.ref s),some (.int d),some (.bl true),some (.bl f),some (.int r),none] (put G s (.lst [.int a,.bl b,.int (c - 1)])):=by
  intro t Aw b' o J;refine o _ ?_;cases b' with
  | true=>exact i
  | false=>exact J rfl
 refine p (b':=decide (d < 2)||decide (c - 1 < 2)||decide (r < 2)) (λR e=>?_) λF=>?_
 ·simp only[gOr,gTB,Ad,AG,Ae,Ab,gC,Yb,Yc];by_cases A:d < 2
  ·simp only[A,decide_true,if_true,Bool.true_or]at e ⊢;exact e
  ·simp only[A,decide_false,Yq,if_false,Bool.false_or]at e ⊢;rw[ix2 h2,Ao];dsimp only;by_cases H:c - 1 < 2
   ·simp only[H,decide_true,if_true,Bool.true_or]at e ⊢;exact e
   ·simp only[H,decide_false,Yq,if_false,Bool.false_or]at e ⊢;exact e
 ·simp only[Bool.or_eq_false_iff,decide_eq_false_iff_not,Int.not_lt]at F;obtain⟨⟨Y,S⟩,U⟩:=F;rcases O with rfl |⟨m,rfl,rfl,rfl⟩
  ·exact absurd v (by omega)
  have two:∀{t:GT}{B Aw:GS},(∀ R:Bool->Hw->Prop,R false (put G s (.lst [.int a,.bl b,.int (c - 1)]))->t [some (.ref s),some (.int d),some (.bl true),some (.bl f),some (.int r),none] (put G s (.lst [.int a,.bl b,.int (c - 1)])) R)->Aw (Ar Q) [some (.ref s),some (.int d),some (.bl true),some (.bl f),some (.int r),none] (put G s (.lst [.int a,.bl b,.int (c - 1)]))->
    Af (gIf t B Al) Aw (Ar Q) [some (.ref s),some (.int d),some (.bl true),some (.bl f),some (.int r),none] (put G s (.lst [.int a,.bl b,.int (c - 1)])):=λo h1=>o _ h1
  refine two (λR e=>?_) (two (λR e=>?_) ?_)
  ·simp only[AV,gTB,gNt,Ay,Ad,AG,Ab,gC,Yb,Yc];exact BF (λ_=>e) (λ_=>e)
  ·simp only[AV,gTB,gNt,Ay,Ad,Ae,Ab,gC,Yb,Yc];show opt (eqF false (.int r) (.int 4) (put G s (.lst [.int a,.bl b,.int (c - 1)]))) _;rw[show eqF false (.int r) (.int 4) (put G s (.lst [.int a,.bl b,.int (c - 1)]))=some (.bl (r==4)) by unfold eqF eqW;show some (W.bl ((r==4) != false))=_;cases(r==4) <;> rfl,Ao];exact BF (λ_=>e) (λ_=>e)
  ·simp only[Ai,Ag,L3.Aa,L3.Ac,Ab,Yb,Yc];refine⟨s,a,d,c - 1,b,f,rfl,by omega,by omega,by omega,h2,λk l I L T Z N=>?_⟩;rw[Cr];have:=q k l ⟨I,L,by omega,λz=>absurd z (by omega),N⟩;rw[show c - 1+1 -(k.cnt:Int)=c - k.cnt by omega];exact this
theorem Cu(T:Tx K mg base a):∀ n:Nat,Df P w K mg base "_law_kind" (2*n+2) 4 (Dl n)
 | 0=>mk0 (k:=1) T.Ln rfl LS Tu ((by rintro f G Q E ⟨s,x,d,c,b,i,e,_⟩;rw[e];rfl)) (S6 T (AL T) (Yr _) (CY (sp:=F8) (k:=0) T.Ln HQ λ_ _ _ _ h=>h) (by omega) (CY (sp:=F8) (k:=0) T.Rb HQ λ_ _ _ _ h=>h) (by omega)) λf G Q E g q=>Tz g q (.inl rfl)
 | n+1=>mk0 (k:=2*n+3) T.Ln rfl LS Tu ((by rintro f G Q E ⟨s,x,d,c,b,i,e,_⟩;rw[e];rfl)) (S6 T (AL T) (by omega) (Cu T n) (by omega) (HN T (by omega) (Cu T n)) (by omega)) λf G Q E g q=>Tz g q (.inr ⟨n,rfl,rfl,rfl⟩)
def kd8(k:Kd):Prop:=wf 10 k/\k.cnt<=40/\k.dp<=8
def kd9(k:Kd):Prop:=wf 5 k/\k.cnt<=40/\k.dpr<=8
def TB:Spw:=λws G Q _=>∃(ns:List Int)(i:Int)(kn:Bool),ws=[.rol (ns.map W.int),.int i,.bl true,.bl kn]/\0<=i/\∀ k:Kd,kd9 k->kdt kn k->Q k.enc G
theorem j6:Spw.M TB:=(by rintro b G Q c E d h _ ⟨ns,i,a,h1,h2,q⟩;exact⟨ns,i,a,h1,h2,λk g g2=>h _ _ (q k g g2)⟩)
theorem CL{o:HW}(h:G p=none){c:Hw}(s:Sub G c):Sub G (put c p o):=λa u b=>by rw[Aj (AC b h)];exact s _ _ b
theorem HS(T:Tx K mg base a):Df P w K mg base "_law_drawn_kind" 17 4 TB:=by
 refine mk0 (k:=16) T.iN rfl S8 j6 ((by rintro J G Q E ⟨ns,i,f,e,_⟩;rw[e];rfl)) (jP T (Cw T) (by omega) (AL T) (by omega) (Cu T 7) (by omega)) λJ G Q E t q=>?_;obtain⟨ns,i,f,rfl,H,q⟩:=q;unfold S9;show Af (An 4 _) _ (Ar Q) [some (.rol (ns.map W.int)),some (.int i),some (.bl true),some (.bl f),none,none] G;simp only[Af,An,Ad,Ag,Ap,L3.Aa,L3.Ac,Ab,gC,Yb,Yc];refine⟨ns,i,rfl,H,λp x b I=>⟨(Qzz 1),λp1 B=>?_⟩⟩;have v:Sub G (put G p (.lst [.int x,.bl b])):=A3 I;have y:put G p (.lst [.int x,.bl b]) p=some (.lst [.int x,.bl b]):=Ak;generalize put G p (.lst [.int x,.bl b])=G0 at v y B ⊢;have m:Sub G0 (put G0 p1 (.lst [.int 9])):=A3 B;have o:put G0 p1 (.lst [.int 9]) p1=some (.lst [.int 9]):=Ak;generalize put G0 p1 (.lst [.int 9])=G1 at m o ⊢;rw[Ek (by rintro⟨⟨_,h⟩,_⟩;cases h)];unfold L3.AJ;simp only[m _ _ y,o];refine⟨(Qzz 3),λs es=>?_⟩;have S:Sub G G1:=v.trans m
 have c:G s=none:=by
  cases z:G s with
  | none=>rfl
  | some u=>rw[S _ _ z]at es;cases es
 have n:put G1 s (.lst ([.int x,.bl b]++[.int 9])) s=some (.lst [.int x,.bl b,.int 9]):=Ak;have S2:Sub G (put G1 s (.lst ([.int x,.bl b]++[.int 9]))):=CL c S;generalize put G1 s (.lst ([.int x,.bl b]++[.int 9]))=G2 at n S2 ⊢;simp only[Yk,Yl,gIf,gTB,Ad,Ag,Ae,L3.Aa,L3.Ac,Ab,gC,Yb,Yc];refine⟨s,6,x,b,[.int 9],rfl,by decide,by decide,n,λr d N r1=>?_⟩;have A:put G2 s (.lst [.int d,.bl b,.int 9]) s=some (.lst [.int d,.bl b,.int 9]):=Ak;show opt (eqF false (.int r) (.int 1) (put G2 s (.lst [.int d,.bl b,.int 9]))) _;rw[show eqF false (.int r) (.int 1) (put G2 s (.lst [.int d,.bl b,.int 9]))=some (.bl (r==1)) by unfold eqF eqW;show some (W.bl ((r==1) != false))=_;cases(r==1) <;> rfl,Ao];dsimp only;cases(r==1)with
 | false =>
  simp only[Yq,if_false,Al,Ai,Ag,L3.Aa,L3.Ac,Ab,Yb,Yc];refine⟨s,d,3,9,b,f,rfl,by decide,by decide,A,λk D g=>?_⟩;obtain⟨j,L,F,_,l⟩:=g;exact t _ _ _ (CL c (CL c S2)) (q k ⟨j,by omega,by omega⟩ l)
 | true =>
  simp only[if_true,Af,Bw,An,Ab,gC,Yb,Yc];refine LW A ?_;simp only[Yk,Yl,Ai,Ag,L3.Aa,L3.Ac,Ab,Yb,Yc];refine⟨s,d,8,30,b,f,rfl,by decide,by decide,Ak,λk D g=>?_⟩;obtain⟨j,L,F,_,l⟩:=g;exact t _ _ _ (CL c (CL c (CL c S2))) (q k ⟨j,by omega,by omega⟩ l)
local macro_rules | `(tactic| walk_at "rd") => `(tactic| ((try dsimp only [Af,gIf,Ai,An,AA,Al,Ab,gC,Ad,gTB,Ay,gNt,AV,gOr,AZ,Bp,Bd,AQ,L3.Ah,Ap,L3.Aa,L3.Ac,Ag,gB,rF,Ae,AH,gMt,Bf,Bk,AG,AR,Au,L3.AJ,Bg,gSl,By,Bx,AF,AD,Bz,Ar,AU,List.map_cons,List.map_nil,List.length_cons,List.length_nil,List.cons_append,List.nil_append,List.getElem?_cons_zero,List.getElem?_cons_succ,List.set_cons_zero,List.set_cons_succ,List.replicate,AN,tyN,Ao,A1,Bb,Bl,ixW,A2,A4,A5,AK,A9,Bc,Bs,List.getElem?_nil]); (try simp only [Af,gIf,Ai,An,AA,Al,Ab,gC,Ad,gTB,Ay,gNt,AV,gOr,AZ,Bp,Bd,AQ,L3.Ah,Ap,L3.Aa,L3.Ac,Ag,gB,rF,Ae,AH,gMt,Bf,Bk,AG,AR,Au,L3.AJ,Bg,gSl,By,Bx,AF,AD,Bz,Ar,AU,List.map_cons,List.map_nil,List.length_cons,List.length_nil,List.cons_append,List.nil_append,List.getElem?_cons_zero,List.getElem?_cons_succ,List.set_cons_zero,List.set_cons_succ,List.replicate,AN,tyN,Ao,A1,Bb,Bl,ixW,A2,A4,A5,AK,A9,Bc,Bs,List.getElem?_nil])))
def Fs.find:Fs->Str->Option (Bool×Kd)
 | .nil,_=>none
 | .cons n m k r,x=>if n=x then some (m,k)else r.find x
inductive En where
 | free | nope | told (m:Bool) (k:Kd)
def En.enc:En->W
 | .free=>.tup [.str "free"]
 | .nope=>.tup [.str "none"]
 | .told m k=>.tup [.str (mark m),k.enc]
def ent(fs:Fs)(o:Bool)(x:Str):En:=match fs.find x with | some (m,k)=>.told m k | none=>if o then .free else .nope
theorem TC:∀{fs:Fs}{x:Str}{m:Bool}{k:Kd},fs.find x=some (m,k)->k∈fs.kinds/\x∈fs.names
 | .nil,x,m,k,h=>by cases h
 | .cons n a b r,x,m,k,h=>by
  unfold Fs.find at h;split at h
  ·rename_i e;cases h;subst e;exact⟨Ye,Ye⟩
  ·obtain⟨h1,h2⟩:=TC h;exact⟨Yd _ h1,Yd _ h2⟩
theorem Gd(a:Str):As a a=false:=by
 unfold As;exact decide_eq_false (List.lt_irrefl _)
theorem HU{a b c:Str}(h1:As a b=true)(h2:As b c=true):As a c=true:=by
 unfold As at h1 h2 ⊢;exact YI (List.lt_trans (of_decide_eq_true h1) (of_decide_eq_true h2))
theorem HV:∀{ns:List Str},rise ns=true->ns.Pairwise (λx y=>As x y=true)
 | [],_=>.nil
 | [_],_=>.cons (λ_ h=>by cases h) .nil
 | x::y::r,h=>by
  have h':(As x y&&rise (y::r))=true:=h;walk_at "pc";have b:=HV h'.2;refine .cons (λz a=>?_) b;walk_at "pg"
  ·exact h'.1
  ·exact HU h'.1 ((YD.mp b).1 z a)
theorem TD:∀{xs ys:List Str},xs.Pairwise (λx y=>As x y=true)->ys.Pairwise (λx y=>As x y=true)->(∀ x,x∈xs↔x∈ys)->xs=ys
 | [],[],_,_,_=>rfl
 | [],y::ys,_,_,h=>by cases(h y).mpr Ye
 | x::xs,[],_,_,h=>by cases(h x).mp Ye
 | x::xs,y::ys,i,g,h=>by
  obtain⟨d,f⟩:=YD.mp i;obtain⟨c,j⟩:=YD.mp g
  have e:x=y:=by
   rcases Yo.mp ((h x).mp Ye)with e | e
   ·exact e
   ·rcases Yo.mp ((h y).mpr Ye)with b | b
    ·exact b.symm
    ·have:=HU (d y b) (c x e);rw[Gd]at this;cases this
  subst e;congr 1;refine TD f j λz=>⟨λa=>?_,λa=>?_⟩
  ·rcases Yo.mp ((h z).mp (Yd _ a))with e | e
   ·subst e;have:=d _ a;rw[Gd]at this;cases this
   ·exact e
  ·rcases Yo.mp ((h z).mpr (Yd _ a))with e | e
   ·subst e;have:=c _ a;rw[Gd]at this;cases this
   ·exact e
theorem j7{fs:Fs}(h:(Kd.row fs o).ok=true):fs.names.Pairwise (λx y=>As x y=true)/\∀ c∈fs.kinds,c.ok=true:=by
 have h':(rise fs.names&&fs.ok)=true:=h;walk_at "pc";exact⟨HV h'.1,KH h'.2⟩
local macro_rules | `(tactic| walk_at "rd") => `(tactic| ((try dsimp only [Af,gIf,Ai,An,AA,Al,Ab,gC,Ad,gTB,Ay,gNt,AV,gOr,AZ,Bp,Bd,AQ,L3.Ah,Ap,L3.Aa,L3.Ac,Ag,gB,rF,Ae,AH,gMt,Bf,Ce,Bk,AG,AR,Au,L3.AJ,Bg,gSl,By,Bx,AF,AD,Bz,AS,AB,Cg,Bw,B3,BA,Bh,Ar,AU,List.map_cons,List.map_nil,List.length_cons,List.length_nil,List.cons_append,List.nil_append,List.getElem?_cons_zero,List.getElem?_cons_succ,List.set_cons_zero,List.set_cons_succ,List.replicate,AN,tyN,Ao,A1,Bb,Bl,ixW,A2,A4,A5,AK,A9,Bc,Bs,AI,BP,List.getElem?_nil]); (try simp only [Af,gIf,Ai,An,AA,Al,Ab,gC,Ad,gTB,Ay,gNt,AV,gOr,AZ,Bp,Bd,AQ,L3.Ah,Ap,L3.Aa,L3.Ac,Ag,gB,rF,Ae,AH,gMt,Bf,Ce,Bk,AG,AR,Au,L3.AJ,Bg,gSl,By,Bx,AF,AD,Bz,AS,AB,Cg,Bw,B3,BA,Bh,Ar,AU,List.map_cons,List.map_nil,List.length_cons,List.length_nil,List.cons_append,List.nil_append,List.getElem?_cons_zero,List.getElem?_cons_succ,List.set_cons_zero,List.set_cons_succ,List.replicate,AN,tyN,Ao,A1,Bb,Bl,ixW,A2,A4,A5,AK,A9,Bc,Bs,AI,BP,List.getElem?_nil])))
theorem L4:∀{fs:Fs},fs.ok=true->∀ x∈fs.enc,fdF x=true/\okF x=true
 | .nil,_,x,h=>by cases h
 | .cons n m k r,a,x,h=>by
  have h':(AE n&&k.ok&&r.ok)=true:=a;walk_at "pc";walk_at "ph"
  ·have hl:n.length<=8:=SJ h'.1.1;constructor
   ·show(AE n&&F7 (.str (mark m)))=true;rw[h'.1.1];cases m <;> decide +kernel
   ·show(decide (n.length<=1000)&&true)=true;rw[YI (by omega)];rfl
  ·exact L4 h'.2 x h
theorem TF:∀ fs:Fs,fs.enc.map nmS=fs.names
 | .nil=>rfl
 | .cons n m k r=>by show n::r.enc.map nmS=n::r.names;rw[TF r]
theorem TH:∀ fs:Fs,fs.enc.map DU=fs.kinds.map Kd.enc
 | .nil=>rfl
 | .cons n m k r=>by show k.enc::r.enc.map DU=k.enc::r.kinds.map Kd.enc;rw[TH r]
theorem j8{fs:Fs}(h:fs.ok=true)(a:rise fs.names=true):arF (.tup fs.enc)=true:=by
 show(fs.enc.all fdF&&rise (fs.enc.map nmS))=true;rw[TF,a,List.all_eq_true.mpr λx b=>(L4 h x b).1];rfl
variable {h:Str}
theorem TJ(h1:Ct (r.length+1) (BB B4 h)=true)(h2:(h != "row")=true):hF (.tup (.str h::r))=true:=by
 show(Ct (r.length+1) (BB B4 h)&&(h != "row"||rwF r))=true;rw[h1,h2];rfl
theorem TK(h1:r.length<=1000)(h2:(h != "row")=true):okL (.tup (.str h::r))=true:=by
 show(decide (r.length<=1000)&&(h != "row"||Fe r))=true;rw[YI h1,h2];rfl
theorem Ey(e:h≠"row"):Bm (.tup (.str h::r))=r:=if_neg e
theorem TL{fs:List W}:Bm (.tup (.str "row"::.tup fs::r))=fs.map DU:=by
 show(if("row":Str)="row" then fs.map DU else(.tup fs::r))=_;exact if_pos rfl
theorem TN{k:Kd}(h:k.ok=true):hF k.enc=true:=by
 cases k with
 | any=>decide +kernel
 | num=>decide +kernel
 | truth=>decide +kernel
 | to x y =>
  exact TJ (h:="to") (r:=[x.enc,y.enc]) (show Ct 3 (BB B4 "to")=true by decide +kernel) (by decide +kernel)
 | box x =>
  exact TJ (h:="box") (r:=[x.enc]) (show Ct 2 (BB B4 "box")=true by decide +kernel) (by decide +kernel)
 | row fs o =>
  have h':(rise fs.names&&fs.ok)=true:=h;walk_at "pc";show(Ct 3 (BB B4 "row")&&(("row":Str) != "row"||(arF (.tup fs.enc)&&true)))=true;rw[show Ct 3 (BB B4 "row")=true by decide +kernel,j8 h'.2 h'.1];simp
theorem L5{k:Kd}(h:k.ok=true)(hc:k.cnt<=1000):okL k.enc=true:=by
 cases k with
 | any=>decide +kernel
 | num=>decide +kernel
 | truth=>decide +kernel
 | to x y =>
  exact TK (h:="to") (r:=[x.enc,y.enc]) (show 2<=1000 by decide) (by decide +kernel)
 | box x =>
  exact TK (h:="box") (r:=[x.enc]) (show 1<=1000 by decide) (by decide +kernel)
 | row fs o =>
  have h':(rise fs.names&&fs.ok)=true:=h;walk_at "pc";have b:1+fs.cnt<=1000:=hc;have hl:=jK fs;show(decide (2<=1000)&&(("row":Str) != "row"||((decide (fs.enc.length<=1000)&&fs.enc.all okF)&&true)))=true;rw[YI (show fs.enc.length<=1000 by omega),List.all_eq_true.mpr λx a=>(L4 h'.2 x a).2];simp
theorem L6(k:Kd):Bm k.enc=k.kids.map Kd.enc:=by
 cases k with
 | any=>exact Ey (h:="any") (r:=[]) (by decide +kernel)
 | num=>exact Ey (h:="num") (r:=[]) (by decide +kernel)
 | truth=>exact Ey (h:="truth") (r:=[]) (by decide +kernel)
 | to x y=>exact Ey (h:="to") (r:=[x.enc,y.enc]) (by decide +kernel)
 | box x=>exact Ey (h:="box") (r:=[x.enc]) (by decide +kernel)
 | row fs o=>exact(TL (fs:=fs.enc) (r:=[.bl o])).trans (TH fs)
theorem HX:∀(n:Nat){k:Kd},k.ok=true->k.cnt<=1000->OKW n k.enc
 | 0,k,h,hc=>L5 h hc
 | n+1,k,h,hc=>by
  refine⟨L5 h hc,λ_ c a=>?_⟩;rw[L6]at a;obtain⟨d,hd,rfl⟩:=YC.mp a;have:=Q5 hd;have:=FT k;exact HX n (Hl h d hd) (by omega)
theorem TQ:∀(n c:Nat)(l:List Kd),(∀ k∈l,k.ok=true)->c<=40->mdW n c (l.map Kd.enc)=decide (c+Bi l<=40/\dpL l<=n)
 | n,c,[],_,hc=>by
  have e:mdW n c []=true:=by cases n <;> rfl
  show mdW n c []=_;rw[e];exact(YI ⟨hc,YZ _⟩).symm
 | 0,c,x::l,_,hc=>by
  show false=_;have:1<=dpL (x::l):=by have h1:=Dc x;show 1<=max x.dp (dpL l);omega
  exact(decide_eq_false (λz=>by omega)).symm
 | n+1,c,x::l,b,hc=>by
  have h1:=Q2 (x::l);have h2:=Q3 (x::l) (by simp);have hl:((x::l).map Kd.enc).length=(x::l).length:=Yh _;show(if 40 < c+((x::l).map Kd.enc).length then false else if((x::l).map Kd.enc).all hF then mdW n (c+((x::l).map Kd.enc).length) (((x::l).map Kd.enc).flatMap Bm)else false)=_;rw[hl];by_cases g:40 < c+(x::l).length
  ·rw[if_pos g];exact(decide_eq_false (λz=>by omega)).symm
  ·have d:((x::l).map Kd.enc).all hF=true:=by
    rw[List.all_map];exact List.all_eq_true.mpr λk a=>TN (b k a)
   have f:((x::l).map Kd.enc).flatMap Bm=((x::l).flatMap Kd.kids).map Kd.enc:=by
    rw[List.flatMap_map,List.map_flatMap];congr 1;funext k;exact L6 k
   rw[if_neg g,d,if_pos rfl,f,TQ n _ _ (λk a=>by
    obtain⟨z,h,a⟩:=List.mem_flatMap.mp a;exact Hl (b z h) k a) (by omega),decide_eq_decide]
   omega
def TR(k:Kd):Bool:=decide (k.cnt<=40/\k.dp<=8)
theorem L7{k:Kd}(h:k.ok=true):isK k.enc=TR k:=by
 have e:=TQ 8 0 [k] (λx a=>by rw[YA.mp a];exact h) (by omega);refine Eq.trans e ?_;unfold TR;rw[decide_eq_decide];have b:Bi [k]=k.cnt+0:=rfl;have c:dpL [k]=max k.dp 0:=rfl;omega
def bdW:Nat->W->Bool
 | 0,w=>!hF w
 | d+1,w=>!hF w||(Bm w).any (bdW d)
theorem TU:∀(d n c:Nat)(l:List W){w:W},w∈l->bdW d w=true->mdW n c l=false
 | d,n,c,[],w,h,_=>by cases h
 | d,0,c,x::l,w,_,_=>rfl
 | d,n+1,c,x::l,w,h,e=>by
  show(if 40 < c+(x::l).length then false else if(x::l).all hF then mdW n (c+(x::l).length) ((x::l).flatMap Bm)else false)=false;by_cases g:40 < c+(x::l).length
  ·rw[if_pos g]
  ·rw[if_neg g];cases f:(x::l).all hF with
   | false=>rfl
   | true =>
    have hw:=List.all_eq_true.mp f w h;rw[if_pos rfl];cases d with
    | zero=>have a:(!hF w)=true:=e;rw[hw]at a;cases a
    | succ d =>
     have a:(!hF w||(Bm w).any (bdW d))=true:=e;rw[hw]at a;obtain⟨v,i,b⟩:=List.any_eq_true.mp (by simpa using a);exact TU d n _ _ (List.mem_flatMap.mpr ⟨w,h,i⟩) b
theorem j9{d:Nat}{w:W}(h:bdW d w=true):isK w=false:=TU d 8 0 [w] Ye h
def bad(w:W):Prop:=OKW 7 w/\isK w=false
theorem ke{k:Kd}(h:kd8 k):OKW 7 k.enc/\isK k.enc=true:=by
 obtain⟨⟨h1,h2⟩,b,a⟩:=h;refine⟨HX 7 (k:=k) h1 (by omega),?_⟩;rw[L7 (k:=k) h1];exact YI ⟨b,a⟩
abbrev TV:List Str:=["row","name","field"]
theorem TX:Az TV ["row","name"] (Aq KW):=by walk_at "s"
def TY:GS:=(Af (AB (AD (Ad (Ae ixW) (Ab 0) (gC (.int 1)))) (gNm 2) (gIf (gTB (Ad (Ae (eqF false)) (Ad (Ae ixW) (Ab 2) (gC (.int 0))) (Ab 1))) (Ai (Ah (Aa (Ad (Ae ixW) (Ab 2) (gC (.int 1))) (Aa (Ad (Ae ixW) (Ab 2) (gC (.int 2))) Ac)))) Al)) (Ai (AQ (Ay (Ad (Ae ixW) (Ab 0) (gC (.int 2)))) (Ah (Aa (gC (.str "free")) Ac)) (Ah (Aa (gC (.str "none")) Ac)))))
theorem kf(T:Tx K mg base a):Dn P w K mg base TV "entry_of" KW k (TY):=by
 have hN:=TX.nd;walk_at "z"
abbrev TZ:List Str:=["row"]
theorem T1:Az TZ ["row"] (Aq KY):=by walk_at "s"
def T2:GS:=(Ai (AF (AD (Ad (Ae ixW) (Ab 0) (gC (.int 1)))) 1 (gNm 0) AM (Ad (Ae ixW) (Ab 0) (gC (.int 0)))))
theorem kg(T:Tx K mg base a):Dn P w K mg base TZ "names_of" KY k (T2):=λ{f cdv A outer s H E}hr=>
 have hu:=Ba hr
 have hN:=T1.nd
 (AO (BG (B0 (Nc:=["field"]) rfl (BV rfl (by decide +kernel) (by decide +kernel)) (λ_=>rfl) (by walk_at "v") (Cc (i:=0) (by decide) rfl rfl) (λC fp s1 H1=>BH) (λC fp s1 H1=>(by walk_at "v")))))
local macro_rules | `(tactic| walk_at "rd") => `(tactic| ((try dsimp only [BA,B9,C8,Bh,Af,gIf,Ai,An,AA,Al,Ab,gC,Ad,gTB,Ay,gNt,AV,gOr,AZ,Bp,Bd,AQ,L3.Ah,Ap,L3.Aa,L3.Ac,Ag,gB,rF,Ae,AH,gMt,Bf,Bk,AG,AR,Au,L3.AJ,Bg,gSl,By,Bx,AF,AD,Bz,AB,Ar,AU,List.map_cons,List.map_nil,List.length_cons,List.length_nil,List.cons_append,List.nil_append,List.getElem?_cons_zero,List.getElem?_cons_succ,List.set_cons_zero,List.set_cons_succ,List.replicate,AN,tyN,Ao,A1,Bb,Bl,ixW,A2,A4,A5,AK,A9,Bc,Bs,List.getElem?_nil]); (try simp only [BA,B9,C8,Bh,Af,gIf,Ai,An,AA,Al,Ab,gC,Ad,gTB,Ay,gNt,AV,gOr,AZ,Bp,Bd,AQ,L3.Ah,Ap,L3.Aa,L3.Ac,Ag,gB,rF,Ae,AH,gMt,Bf,Bk,AG,AR,Au,L3.AJ,Bg,gSl,By,Bx,AF,AD,Bz,AB,Ar,AU,List.map_cons,List.map_nil,List.length_cons,List.length_nil,List.cons_append,List.nil_append,List.getElem?_cons_zero,List.getElem?_cons_succ,List.set_cons_zero,List.set_cons_succ,List.replicate,AN,tyN,Ao,A1,Bb,Bl,ixW,A2,A4,A5,AK,A9,Bc,Bs,List.getElem?_nil])))
theorem CM(k:Kd)(G:Hw):ixW k.enc (.int 0) G=some (.str k.hd):=by
 obtain⟨xs,e⟩:=jJ k;rw[e];exact A1
abbrev T3:Spw:=spR (λ(x:Fs×Bool×Str)ws _=>ws=[(Kd.row x.1 x.2.1).enc,.str x.2.2]) λx=>(ent x.1 x.2.1 x.2.2).enc
theorem T4{D:Ew}{G:Hw}{x:Str}:∀(fs:Fs)(o':Option W),(∀ m k,fs.find x=some (m,k)->D.rt (.tup [.str (mark m),k.enc]) G)->(fs.find x=none->∀ b,D.nx [some row,some (.str x),b] G)->
  A8 yes (gNm 2) (gIf (gTB (Ad (Ae (eqF false)) (Ad (Ae ixW) (Ab 2) (gC (.int 0))) (Ab 1))) (Ai (L3.Ah (L3.Aa (Ad (Ae ixW) (Ab 2) (gC (.int 1))) (L3.Aa (Ad (Ae ixW) (Ab 2) (gC (.int 2))) L3.Ac)))) Al) D fs.enc [some row,some (.str x),o'] G
 | .nil,o',_,h=>⟨trivial,h rfl o'⟩
 | .cons n m k r,o',h1,h2=>by
  refine⟨trivial,?_⟩;show gIf _ _ Al _ [some row,some (.str x),some (.tup [.str n,.str (mark m),k.enc])] G;walk_at "rd";by_cases a:n=x
  ·subst a;simp only[beq_self_eq_true,bne_iff_ne,ne_eq,Bool.true_eq_false,not_false_eq_true,if_true];exact⟨by decide,h1 _ _ (by unfold Fs.find;rw[if_pos rfl])⟩
  ·have e:(n==x)=false:=by simpa using a
   simp only[e,bne_self_eq_false,Yq,if_false];refine T4 r _ (λd c f=>h1 d c ?_) (λg=>h2 ?_)
   ·unfold Fs.find;rw[if_neg a];exact f
   ·unfold Fs.find;rw[if_neg a];exact g
theorem HY(T:Tx K mg base a):Df P w K mg base "entry_of" 1 2 T3:=by
 refine mk0 T.iq rfl TX BJ (λb G Q E⟨x,e,_⟩=>by rw[e];rfl) (kf T) λb G Q E g q=>?_;obtain⟨⟨fs,o,x⟩,rfl,q⟩:=q;dsimp only at q;unfold TY;simp only[Kd.enc];walk_at "rd";refine T4 fs none (λm k d=>?_) (λf c=>?_)
 ·unfold ent at q;rw[d]at q;exact q
 ·unfold ent at q;rw[f]at q;simp only[Yb,Yc,Bl,Ao];cases o with
  | true=>exact⟨by decide,q⟩
  | false=>exact⟨by decide,q⟩
abbrev kh:Spw:=spL (λ(x:Fs×Bool)ws _=>ws=[(Kd.row x.1 x.2).enc]/\x.1.names.length<=100) λx=>x.1.names.map W.str
theorem HZ(T:Tx K mg base a):Df P w K mg base "names_of" 1 1 kh:=by
 refine mk0 T.ir rfl T1 Eo (λc G Q E⟨x,⟨e,_⟩,_⟩=>by rw[e];rfl) (kg T) λc G Q E j q=>?_;obtain⟨⟨fs,o⟩,⟨rfl,hl⟩,q⟩:=q;have i:fs.enc.length<=100:=by rw[<- LQ];exact hl
 unfold T2;simp only[Kd.enc];walk_at "rd";refine Da (f:=DT) trivial fs.enc none [] (λx g h d=>?_) (by simp only[Yi];exact BE (by omega)) ?_
 ·obtain⟨n,b,k,rfl⟩:=SL g;show Ad (Ae ixW) (Ab 0) (gC (.int 0)) [some (W.tup [.str n,.str (mark b),k])] _ h;walk_at "rd";exact d
 ·rw[Yw,SK];exact q
theorem T5{M:Nat}:∀{fs:Fs},fs.thr M=true->∀ c∈fs.kinds,c.thr M=true
 | .nil,_,c,hc=>by cases hc
 | .cons n m k r,h,c,hc=>by
  have h':(k.thr M&&r.thr M)=true:=h;walk_at "pc";rcases Yo.mp hc with rfl | hc
  ·exact h'.1
  ·exact T5 h'.2 c hc
theorem T6{M:Nat}{k c:Kd}(h:wf M k)(hc:c∈k.kids):wf M c:=by
 refine⟨Hl h.1 c hc,?_⟩;have a:=h.2;cases k with
 | to x y =>
  have h':(x.thr M&&y.thr M)=true:=a;walk_at "pc";simp only[Kd.kids,Yo,Qd,or_false]at hc;rcases hc with rfl | rfl
  ·exact h'.1
  ·exact h'.2
 | box x =>
  simp only[Kd.kids,Yo,Qd,or_false]at hc;subst hc;exact a
 | row fs o =>
  have h':(CK M fs.names&&fs.thr M)=true:=a;walk_at "pc";exact T5 h'.2 c hc
 | any=>simp[Kd.kids]at hc
 | num=>simp[Kd.kids]at hc
 | truth=>simp[Kd.kids]at hc
theorem ki{m a:Bool}(h:m≠a):(mark m==mark a)=false:=by
 cases m <;> cases a <;> first | exact absurd rfl h | decide
theorem L8{fs:Fs}{m:Bool}{k:Kd}(e:ent fs o x=.told m k):k∈fs.kinds:=by
 unfold ent at e;cases q:fs.find x with
 | none=>rw[q]at e;cases o <;> cases e
 | some p=>rw[q]at e;cases e;exact(TC q).1
theorem kj{m a:Bool}(h:mark m=mark a):m=a:=by
 by_cases e:m=a
 ·exact e
 ·have:=ki e;rw[h]at this;simp at this
theorem T7{fs:Fs}(h:wf m (.row fs o)):fs.names.length<=m:=by
 have h':(CK m fs.names&&fs.thr m)=true:=h.2;rw[YH]at h';exact LY h'.1
mutual
theorem Ge{m n:Nat}(h:m<=n):∀{k:Kd},k.thr m=true->k.thr n=true
 | .any,_=>rfl
 | .num,_=>rfl
 | .truth,_=>rfl
 | .to a b,z=>by
  have c:(a.thr m&&b.thr m)=true:=z;rw[YH]at c;exact Bool.and_eq_true_iff.mpr ⟨Ge h c.1,Ge h c.2⟩
 | .box a,z=>Ge (k:=a) h z
 | .row fs o,z=>by
  have c:(CK m fs.names&&fs.thr m)=true:=z;rw[YH]at c;exact Bool.and_eq_true_iff.mpr ⟨Tj (Yt (LY c.1) h),T8 h c.2⟩
theorem T8{m n:Nat}(h:m<=n):∀{fs:Fs},fs.thr m=true->fs.thr n=true
 | .nil,_=>rfl
 | .cons _ _ k r,z=>by
  have a:(k.thr m&&r.thr m)=true:=z;rw[YH]at a;exact Bool.and_eq_true_iff.mpr ⟨Ge h a.1,T8 h a.2⟩
end
theorem km{k:Kd}(h:wf 5 k):wf 10 k:=⟨h.1,Ge (by decide) h.2⟩
theorem T9{y:Str}(h:As x y=false)(a:x≠y):As y x=true:=by
 unfold As at h ⊢;refine YI ?_;have h1:y.cps.toList<=x.cps.toList:=of_decide_eq_false h;rcases List.le_iff_lt_or_eq.mp h1 with z | z
 ·exact z
 ·exact absurd (by cases x;cases y;congr 1;exact(Array.toList_inj.mp z).symm) a
theorem Ua:∀(p:Str)(r:List Str),risingS p r=true->(p::r).Nodup->(p::r).Pairwise (λx y=>As x y=true)
 | p,[],_,_=>.cons (λ_ h=>by cases h) .nil
 | p,x::r,h,g=>by
  have h':(!ltCps x.cps.toList p.cps.toList&&risingS x r)=true:=h;simp only[YH,Bool.not_eq_true']at h';obtain⟨d,f⟩:=YW.mp g;have c:=Ua x r h'.2 f;have a:As p x=true:=T9 (by rw[<- h'.1,ltCps_eq];rfl) λe=>d (by rw[e];exact Ye);refine .cons (λz b=>?_) c;rcases Yo.mp b with rfl | b
  ·exact a
  ·exact HU a ((YD.mp c).1 z b)
open Classical in
theorem Ub(x:Str):∀ zs:List Str,zs.Pairwise (λx y=>As x y=true)->∃ ys:List Str,ys.Pairwise (λx y=>As x y=true)/\∀ y,y∈ys↔y=x\/y∈zs
 | [],_=>⟨[x],.cons (λ_ h=>by cases h) .nil,λy=>by simp⟩
 | z::zs,h=>by
  obtain⟨h1,h2⟩:=YD.mp h;by_cases e:x=z
  ·exact⟨z::zs,h,λy=>by subst e;simp⟩
  ·cases hl:As x z with
   | true =>
    refine⟨x::z::zs,.cons (λy a=>?_) h,λy=>by simp⟩;walk_at "pg"
    ·exact hl
    ·exact HU hl (h1 y a)
   | false =>
    obtain⟨ys,p,m⟩:=Ub x zs h2;refine⟨z::ys,.cons (λy a=>?_) p,λy=>?_⟩
    ·rcases(m y).mp a with rfl | a
     ·exact T9 hl e
     ·exact h1 y a
    ·rw[Yo,m,Yo];constructor
     ·rintro(z | z | z)
      ·exact .inr (.inl z)
      ·exact .inl z
      ·exact .inr (.inr z)
     ·rintro(z | z | z)
      ·exact .inr (.inl z)
      ·exact .inl z
      ·exact .inr (.inr z)
theorem H9:∀ xs:List Str,∃ ys:List Str,ys.Pairwise (λx y=>As x y=true)/\∀ y,y∈ys↔y∈xs
 | []=>⟨[],.nil,λ_=>Iff.rfl⟩
 | x::xs=>by
  obtain⟨ys,p,m⟩:=H9 xs;obtain⟨zs,b,a⟩:=Ub x ys p;exact⟨zs,b,λy=>by rw[a,m,Yo]⟩
noncomputable def srt(xs:List Str):List Str:=Classical.choose (H9 xs)
theorem ko(xs:List Str):(srt xs).Pairwise (λx y=>As x y=true):=(Classical.choose_spec (H9 xs)).1
theorem kq{xs:List Str}:x∈srt xs↔x∈xs:=(Classical.choose_spec (H9 xs)).2 x
theorem kr{xs zs:List Str}(c:zs.Nodup)(a:sortedS zs=true)(b:∀ x,x∈zs↔x∈xs):zs=srt xs:=by
 refine TD ?_ (ko xs) λx=>by rw[b,kq]
 cases zs with
 | nil=>exact .nil
 | cons x r=>exact Ua x r a c
noncomputable abbrev ku(fs gs:Fs):List Str:=srt (fs.names++gs.names)
def Ez:List (Str×Option (List Str))->Option (List Str)
 | []=>none
 |(x,some p)::_=>some (x::p)
 |(_,none)::r=>Ez r
def clE(f:Kd->Kd->Option (List Str)):En->En->Option (List Str)
 | .free,_=>none
 | _,.free=>none
 | .nope,.nope=>none
 | .told m k,.told m' k'=>if m=m' then f k k' else some []
 | _,_=>some []
noncomputable def cl:Nat->Kd->Kd->Option (List Str)
 | 0,_,_=>none
 | _+1,.any,_=>none
 | _+1,_,.any=>none
 | _+1,.num,.num=>none
 | _+1,.truth,.truth=>none
 | n+1,.row fs o,.row gs p=>Ez ((ku fs gs).map λx=>(x,clE (cl n) (ent fs o x) (ent gs p x)))
 | _+1,_,_=>some []
def pW:Option (List Str)->W
 | none=>.non
 | some l=>.tup (l.map W.str)
theorem Uc{n:Nat}:∀{us:List (Str×Option (List Str))}{p:List Str},(∀ u∈us,∀ q,u.2=some q->q.length<=n)->Ez us=some p->p.length<=n+1
 |(x,some q)::_,p,h,e=>by
  cases e;have:=h _ Ye q rfl;simp only[Yg];omega
 |(_,none)::r,p,h,e=>Uc (us:=r) (λu a=>h u (Yd _ a)) e
abbrev Ud:List Str:=["step","path"]
theorem Ue:Az Ud ["step","path"] (Aq K2):=by walk_at "s"
def Ug:GS:=(Ai (AQ (gTB (Ad (Ae (isF false)) (Ab 1) (gC .non))) (gC .non) (Ad (A0) (Ah (Aa (Ab 0) Ac)) (Ab 1))))
theorem kx(T:Tx K mg base a):Dn P w K mg base Ud "behind" K2 k (Ug):=by
 have hN:=Ue.nd;walk_at "z"
abbrev Uh:List Str:=["value"]
theorem Ui:Az Uh ["value"] (Aq K3):=by walk_at "s"
def Uj:GS:=(Af (gIf (Ay (AH "bool" (Ab 0))) (Ai (gC (.str "truth"))) Al) (Ai (AQ (Ay (AH "int" (Ab 0))) (gC (.str "num")) (gC (.str "row")))))
theorem ky(T:Tx K mg base a):Dn P w K mg base Uh "head_of" K3 k (Uj):=by
 have hN:=Ui.nd;walk_at "z"
abbrev Uk:List Str:=["fields","name","entry"]
theorem Ul:Az Uk ["fields","name","entry"] (Aq K4):=by walk_at "s"
def Um(Dm:Spw):GS:=(Af (gIf (gTB (Ad (Ae (inK true)) (Ab 1) (Ab 0))) (Ai (AQ (gTB (Ad (Ae (eqF false)) (Ad (Ae ixW) (Ab 2) (gC (.int 0))) (gC (.str "must")))) (Ah Ac) (gC .non))) Al) (Af (gIf (gTB (Ad (Ae (eqF false)) (Ad (Ae ixW) (Ab 2) (gC (.int 0))) (gC (.str "none")))) (Ai (Ah Ac)) Al) (Ai (AQ (gTB (Ad (Ae (eqF false)) (Ad (Ae ixW) (Ab 2) (gC (.int 0))) (gC (.str "free")))) (gC .non) (Ag Dm XF (Aa (Ad (Ae ixK) (Ab 0) (Ab 1)) (Aa (Ad (Ae ixW) (Ab 2) (gC (.int 1))) Ac)))))))
variable {Dm:Spw}
theorem kz(T:Tx K mg base a){DV:Nat}(Uo:Df P w K mg base "misfit_of" DV 2 Dm)(Up:DV<=k):Dn P w K mg base Uk "misfit_of_field" K4 k (Um Dm):=by
 have hN:=Ul.nd;walk_at "z"
abbrev Uq:List Str:=["fields","row","name","found"]
theorem Ur:Az Uq ["fields","row"] (Aq K5):=by walk_at "s"
def Us(Ia:Spw)(Ib:Spw)(Ic:Spw)(Ie:Spw):GS:=(Af (AB (AD (Hh (Ab 0) (Ag Ia XF (Aa (Ab 1) Ac)))) (gNm 2) (Af (An 3 (Ag Ic XF (Aa (Ab 0) (Aa (Ab 2) (Aa (Ag Ib XF (Aa (Ab 1) (Aa (Ab 2) Ac))) Ac))))) (gIf (gTB (Ad (Ae (isF true)) (Ab 3) (gC .non))) (Ai (Ag Ie XF (Aa (Ab 2) (Aa (Ab 3) Ac)))) Al))) (Ai (gC .non)))
theorem kA(T:Tx K mg base a){HZ:Nat}(nK:Df P w K mg base "names_of" HZ 1 Ia)(nL:HZ<=k){HY:Nat}(nM:Df P w K mg base "entry_of" HY 2 Ib)(nN:HY<=k){Ig:Nat}(nO:Df P w K mg base "misfit_of_field" Ig 3 Ic)(nP:Ig<=k){Ih:Nat}(nQ:Df P w K mg base "behind" Ih 2 Ie)(nR:Ih<=k):Dn P w K mg base Uq "misfit_of_row" K5 k (Us Ia Ib Ic Ie):=by
 have hN:=Ur.nd;walk_at "z"
abbrev Ut:List Str:=["value","kind"]
theorem Uu:Az Ut ["value","kind"] (Aq K6):=by walk_at "s"
def Uv(Ii:Spw)(Ij:Spw):GS:=(Af (gIf (gTB (Ad (Ae (eqF false)) (Ad (Ae ixW) (Ab 1) (gC (.int 0))) (gC (.str "any")))) (Ai (gC .non)) Al) (Af (gIf (gTB (Ad (Ae (eqF true)) (Ag Ii XF (Aa (Ab 0) Ac)) (Ad (Ae ixW) (Ab 1) (gC (.int 0))))) (Ai (Ah Ac)) Al) (Ai (AQ (gTB (Ad (Ae (eqF false)) (Ad (Ae ixW) (Ab 1) (gC (.int 0))) (gC (.str "row")))) (Ag Ij XF (Aa (gB (He) (Aa (Ab 0) Ac)) (Aa (Ab 1) Ac))) (gC .non)))))
theorem kB(T:Tx K mg base a){Ik:Nat}(nS:Df P w K mg base "head_of" Ik 1 Ii)(nT:Ik<=k){Il:Nat}(nU:Df P w K mg base "misfit_of_row" Il 2 Ij)(nW:Il<=k):Dn P w K mg base Ut "misfit_of" K6 k (Uv Ii Ij):=by
 have hN:=Uu.nd;walk_at "z"
abbrev Uw:List Str:=["value","kind"]
theorem Ux:Az Uw ["value","kind"] (Aq F0):=by walk_at "s"
def L9(B5:Spw)(Io:Spw)(Dm:Spw)(E:Addr->Hw->Prop):GS:=(Af (AA (Ag B5 (λ_=>E) (Aa (Ab 1) Ac))) (Af (AA (Ag Io (λ_=>E) (Aa (Ab 0) Ac))) (Ai (Ag Dm (λ_=>E) (Aa (Ab 0) (Aa (Ab 1) Ac))))))
variable {B5:Spw}
theorem kC(T:Tx K mg base a){Cy:Nat}(Fg:Df P w K mg base "check_data_kind" Cy 1 B5)(Fh:Cy<=k){Ip:Nat}(kD:Df P w K mg base "check_value" Ip 1 Io)(kE:Ip<=k){DV:Nat}(Uo:Df P w K mg base "misfit_of" DV 2 Dm)(Up:DV<=k)(hr:Room k (A.deeper (envOfC "misfit" (Aq F0) s.heap.objs.size f cdv))):Ssm (cxW P w K mg base Uw "misfit" (Aq F0) f cdv A outer s H E) (λB=>B=H) (Bn F0) (L9 B5 Io Dm (dnX K H E)):=
 have hu:=Ba hr
 have hN:=Ux.nd
 (Ax (BX rfl (Br Fg (hr.mono Fh) rfl BI rfl rfl rfl (by walk_at "v"))) (Ax (BX rfl (Br kD (hr.mono kE) rfl BI rfl rfl rfl (by walk_at "v"))) (AO (BG (Br Uo (hr.mono Up) rfl BI rfl rfl rfl (by walk_at "v"))))))
abbrev Uy:List Str:=["value","kind"]
theorem Uz:Az Uy ["value","kind"] (Aq F1):=by walk_at "s"
def Ma(Do:Spw)(E:Addr->Hw->Prop):GS:=(Ai (Ad (Ae (isF false)) (Ag Do (λ_=>E) (Aa (Ab 0) (Aa (Ab 1) Ac))) (gC .non)))
variable {Do:Spw}
theorem kF(T:Tx K mg base a){DW:Nat}(Mb:Df P w K mg base "misfit" DW 2 Do)(Mc:DW<=k)(hr:Room k (A.deeper (envOfC "fits" (Aq F1) s.heap.objs.size f cdv))):Ssm (cxW P w K mg base Uy "fits" (Aq F1) f cdv A outer s H E) (λB=>B=H) (Bn F1) (Ma Do (dnX K H E)):=
 have hu:=Ba hr
 have hN:=Uz.nd
 (AO (BG (J7 Ks rfl (Br Mb (hr.mono Mc) rfl BI rfl rfl rfl (by walk_at "v")) Ol)))
def En.hd:En->Str
 | .free=>"free"
 | .nope=>"none"
 | .told m _=>mark m
theorem UA(e:En)(G:Hw):ixW e.enc (.int 0) G=some (.str e.hd):=by cases e <;> exact A1
variable {t:Str}{e:GE}{ω:Sw}
theorem kG{x:W}{s:Str}{Aw:GS}(b:ω[0]?=some (some x))(h1:ω[1]?=some (some y))(a:ixW x (.int 0) G=some (.str s))(c:ixW y (.int 0) G=some (.str t))(h:if s=t then Aw D ω G else e ω G D.rt):
  Af (gIf (gTB (Ad (Ae (eqF true)) (Ad (Ae ixW) (Ab 0) (gC (.int 0))) (Ad (Ae ixW) (Ab 1) (gC (.int 0))))) (Ai e) Al) Aw D ω G:=by
 simp only[Af,gIf,gTB,Ad,Ae,Ab,b,h1,gC,Ai,Al];rw[a,Ao,c,Ao];simp only[A2,A4,A5,YE,Ao];by_cases z:s=t
 ·rw[if_pos z]at h;have:(s==t)=true:=by simp[z]
  simp only[this,bne_self_eq_false,Yq,if_false];exact h
 ·rw[if_neg z]at h;have:(s==t)=false:=by simp[z]
  simp only[this,show(false != true)=true from rfl,if_true];exact h
theorem UB(m:Bool):mark m≠"free"/\mark m≠"none"/\(("free":Str)≠"none"):=by cases m <;> decide +kernel
theorem Me{k:Kd}(h:k.hd="row"):∃ fs o,k=.row fs o:=by
 cases k <;> first | exact⟨_,_,rfl⟩| exact absurd h (by simp only[Kd.hd];decide)
abbrev Mf:Spw:=spR (λ(x:Str×Option (List Str))ws _=>ws=[.str x.1,pW x.2]/\∀ p,x.2=some p->p.length<=100) λx=>pW (x.2.map (x.1::·))
theorem Ih(T:Tx K mg base a):Df P w K mg base "behind" 1 2 Mf:=by
 refine mk0 T.iA rfl Ue BJ (λb G Q E⟨x,⟨e,_⟩,_⟩=>by rw[e];rfl) (kx T) λb G Q E d q=>?_;obtain⟨⟨s,c⟩,⟨rfl,hl⟩,q⟩:=q;dsimp only at hl q;unfold Ug;show Ai _ (Ar Q) [some (.str s),some (pW c)] G;cases c with
 | none=>exact q
 | some p =>
  simp only[Ai,AQ,gTB,Ad,Ae,Ab,gC,pW,Yb,Yc,isF,FN,Ao,show(false != false)=false from rfl,Yq,if_false,L3.Ah,L3.Aa,L3.Ac,Ar];refine⟨(Qzz 1),?_⟩;rw[C8];have:=hl p rfl;exact⟨by simp only[Yg,Yi,Yh];exact BE (by omega),q⟩
variable {i j:Nat}{ge:GE}
theorem kH{c:Option (List Str)}{s:Str}(f:ω[j]?=some (some (.str s)))(a:j≠i)(hi:i < ω.length)(b:∀ p,c=some p->p.length<=100)(g:∀ Q:Kw,Q (pW c) G->ge ω G Q)(h1:c=none->D.nx (ω.set i (some .non)) G)(h2:∀ p,c=some p->D.rt (pW (some (s::p))) G):
  Af (An i ge) (gIf (gTB (Ad (Ae (isF true)) (Ab i) (gC .non))) (Ai (Ag Mf XF (L3.Aa (Ab j) (L3.Aa (Ab i) L3.Ac)))) Al) D ω G:=by
 refine g _ ?_;have gi:∀ r:W,(ω.set i (some r))[i]?=some (some r):=λr=>by rw[List.getElem?_set_self hi]
 have d:∀ r:W,(ω.set i (some r))[j]?=some (some (.str s)):=λr=>by rw[List.getElem?_set_ne (Qa a)];exact f
 simp only[gIf,gTB,Ad,Ae,Ab,gi,d,gC,isF,Ao,Ai,Ag,L3.Aa,L3.Ac,Al];cases c with
 | none=>exact h1 rfl
 | some p =>
  have hl:=b p rfl;simp only[pW,FN,show(false != true)=true from rfl,if_true];exact⟨(s,some p),⟨rfl,λh e=>by cases e;exact hl⟩,h2 p rfl⟩
theorem Mg{k:Kd}{Aw:GS}(h1:ω[0]?=some (some k.enc))(h:if k.hd=t then e ω G D.rt else Aw D ω G):
  Af (gIf (gTB (Ad (Ae (eqF false)) (Ad (Ae ixW) (Ab 0) (gC (.int 0))) (gC (.str t)))) (Ai e) Al) Aw D ω G:=by
 simp only[Af,gIf,gTB,Ad,Ae,Ab,h1,gC,Ai,Al];rw[CM];simp only[Ao,A2,A4,A5,YE];by_cases z:k.hd=t
 ·rw[if_pos z]at h;simp only[z,beq_self_eq_true,show(true != false)=true from rfl,if_true];exact h
 ·rw[if_neg z]at h;have:(k.hd==t)=false:=by simpa using z
  simp only[this,bne_self_eq_false,Yq,if_false];exact h
theorem Gf{k:Kd}{Aw:GS}(h1:ω[1]?=some (some k.enc))(h:if k.hd=t then e ω G D.rt else Aw D ω G):
  Af (gIf (gTB (Ad (Ae (eqF false)) (Ad (Ae ixW) (Ab 1) (gC (.int 0))) (gC (.str t)))) (Ai e) Al) Aw D ω G:=by
 simp only[Af,gIf,gTB,Ad,Ae,Ab,h1,gC,Ai,Al];rw[CM];simp only[Ao,A2,A4,A5,YE];by_cases z:k.hd=t
 ·rw[if_pos z]at h;simp only[z,beq_self_eq_true,show(true != false)=true from rfl,if_true];exact h
 ·rw[if_neg z]at h;have:(k.hd==t)=false:=by simpa using z
  simp only[this,bne_self_eq_false,Yq,if_false];exact h
abbrev S2(x:Int)(b:Bool)(r:List W):HW:=.lst (.int x::.bl b::r)
mutual
def plW:W->Bool
 | .str _=>true
 | .bl _=>true
 | .tup xs=>plL xs
 | _=>false
def plL:List W->Bool
 | []=>true
 | x::xs=>plW x&&plL xs
end
theorem UC{x:W}(h:plL (x::xs)=true):plW x=true/\plL xs=true:=Bool.and_eq_true_iff.mp h
variable {ys:List W}
theorem kI{x:W}{a:Bool}(h1:eqD x y=some a)(h2:Bv xs ys=some b):Bv (x::xs) (y::ys)=some (a&&b):=by
 show(match eqD x y,Bv xs ys with | some a,some b=>some (a&&b)| _,_=>none)=_;rw[h1,h2]
mutual
theorem plD:∀(x y:W),plW x=true->plW y=true->∃ b,eqD x y=some b/\(b=true↔x=y)
 | .str s,.str t,_,_=>⟨s==t,rfl,by simp⟩
 | .str s,.bl t,_,_=>⟨false,rfl,by simp⟩
 | .str s,.tup t,_,_=>⟨false,rfl,by simp⟩
 | .bl s,.str t,_,_=>⟨false,rfl,by simp⟩
 | .bl s,.bl t,_,_=>⟨s==t,rfl,by simp⟩
 | .bl s,.tup t,_,_=>⟨false,rfl,by simp⟩
 | .tup s,.str t,_,_=>⟨false,rfl,by simp⟩
 | .tup s,.bl t,_,_=>⟨false,rfl,by simp⟩
 | .tup s,.tup t,h,h'=>by
  obtain⟨b,e,i⟩:=UD s t h h';exact⟨b,e,by rw[i];simp⟩
 | .str _,.non,_,h=>by cases h
 | .str _,.int _,_,h=>by cases h
 | .str _,.rol _,_,h=>by cases h
 | .str _,.ref _,_,h=>by cases h
 | .bl _,.non,_,h=>by cases h
 | .bl _,.int _,_,h=>by cases h
 | .bl _,.rol _,_,h=>by cases h
 | .bl _,.ref _,_,h=>by cases h
 | .tup _,.non,_,h=>by cases h
 | .tup _,.int _,_,h=>by cases h
 | .tup _,.rol _,_,h=>by cases h
 | .tup _,.ref _,_,h=>by cases h
 | .non,_,h,_=>by cases h
 | .int _,_,h,_=>by cases h
 | .rol _,_,h,_=>by cases h
 | .ref _,_,h,_=>by cases h
theorem UD:∀(xs ys:List W),plL xs=true->plL ys=true->∃ b,Bv xs ys=some b/\(b=true↔xs=ys)
 | [],[],_,_=>⟨true,rfl,by simp⟩
 | [],_::_,_,_=>⟨false,rfl,by simp⟩
 | _::_,[],_,_=>⟨false,rfl,by simp⟩
 | x::xs,y::ys,h,h'=>by
  obtain⟨h1,h2⟩:=UC h;obtain⟨d,a⟩:=UC h';obtain⟨b,e,i⟩:=plD x y h1 d;obtain⟨c,g,f⟩:=UD xs ys h2 a;exact⟨b&&c,kI e g,by rw[YH,i,f,List.cons.injEq]⟩
end
mutual
theorem Iq:∀ k:Kd,plW k.enc=true
 | .any=>rfl
 | .num=>rfl
 | .truth=>rfl
 | .to x y=>by
  have h1:=Iq x;have h2:=Iq y;show(true&&(plW x.enc&&(plW y.enc&&true)))=true;rw[h1,h2];rfl
 | .box x=>by
  have h1:=Iq x;show(true&&(plW x.enc&&true))=true;rw[h1];rfl
 | .row fs o=>by
  have h1:=UE fs;show(true&&(plL fs.enc&&(true&&true)))=true;rw[h1];rfl
theorem UE:∀ fs:Fs,plL fs.enc=true
 | .nil=>rfl
 | .cons n m k r=>by
  have h1:=Iq k;have h2:=UE r;show((true&&(true&&(plW k.enc&&true)))&&plL r.enc)=true;rw[h1,h2];rfl
end
theorem Fi{k l:Kd}(h:k.enc=l.enc):k.hd=l.hd:=by
 have h1:=CM k (λ_=>none);rw[h,CM]at h1;exact(W.str.inj (YF h1)).symm
mutual
theorem Ir:∀{k l:Kd},k.enc=l.enc->k=l
 | .any,l,h=>by
  cases l with
  | any=>rfl
  | _=>have:=Fi h;simp only[Kd.hd]at this;exact absurd this (by decide)
 | .num,l,h=>by
  cases l with
  | num=>rfl
  | _=>have:=Fi h;simp only[Kd.hd]at this;exact absurd this (by decide)
 | .truth,l,h=>by
  cases l with
  | truth=>rfl
  | _=>have:=Fi h;simp only[Kd.hd]at this;exact absurd this (by decide)
 | .to x y,l,h=>by
  cases l with
  | to a b =>
   have h':W.tup [.str "to",x.enc,y.enc]=W.tup [.str "to",a.enc,b.enc]:=h;injection h' with h';injection h' with _ h';injection h' with h1 h';injection h' with h2 _;rw[Ir h1,Ir h2]
  | _=>have:=Fi h;simp only[Kd.hd]at this;exact absurd this (by decide)
 | .box x,l,h=>by
  cases l with
  | box a =>
   have h':W.tup [.str "box",x.enc]=W.tup [.str "box",a.enc]:=h;injection h' with h';injection h' with _ h';injection h' with h1 h';rw[Ir h1]
  | _=>have:=Fi h;simp only[Kd.hd]at this;exact absurd this (by decide)
 | .row fs o,l,h=>by
  cases l with
  | row gs p =>
   have h':W.tup [.str "row",.tup fs.enc,.bl o]=W.tup [.str "row",.tup gs.enc,.bl p]:=h;injection h' with h';injection h' with _ h';injection h' with h1 h';injection h' with h2 _;injection h1 with h1;injection h2 with h2;rw[UF h1,h2]
  | _=>have:=Fi h;simp only[Kd.hd]at this;exact absurd this (by decide)
theorem UF:∀{fs gs:Fs},fs.enc=gs.enc->fs=gs
 | .nil,gs,h=>by
  cases gs with
  | nil=>rfl
  | cons n m k r=>exact absurd (show([]:List W)=_::_ from h) (by simp)
 | .cons n m k r,gs,h=>by
  cases gs with
  | nil=>exact absurd (show _::_=([]:List W)from h) (by simp)
  | cons c a b r' =>
   have h':W.tup [.str n,.str (mark m),k.enc]::r.enc=W.tup [.str c,.str (mark a),b.enc]::r'.enc:=h;injection h' with h1 h2;injection h1 with h1;injection h1 with a1 h1;injection h1 with a2 h1;injection h1 with a3 _;injection a1 with a1;injection a2 with a2;rw[a1,kj a2,Ir a3,UF h2]
end
mutual
theorem Iu:∀ k:Kd,dpW k.enc<=3*k.dp
 | .any=>by show 1<=3*1;omega
 | .num=>by show 1<=3*1;omega
 | .truth=>by show 1<=3*1;omega
 | .to x y=>by have:=Iu x;have:=Iu y;show max 0 (max (dpW x.enc) (max (dpW y.enc) 0))+1<=3*(1+max x.dp y.dp);omega
 | .box x=>by have:=Iu x;show max 0 (max (dpW x.enc) 0)+1<=3*(1+x.dp);omega
 | .row fs o=>by have:=UG fs;show max 0 (max (L3.dpL fs.enc+1) (max 0 0))+1<=3*(1+fs.dp);omega
theorem UG:∀ fs:Fs,L3.dpL fs.enc<=3*fs.dp+1
 | .nil=>YZ _
 | .cons n m k r=>by
  have:=Iu k;have:=UG r;show max (max 0 (max 0 (max (dpW k.enc) 0))+1) (L3.dpL r.enc)<=3*max k.dp r.dp+1;omega
end
abbrev UH:List Str:=["thing"]
theorem UI:Az UH ["thing"] (Aq FY):=by walk_at "s"
def Mh(K:PySem.W.Frag)(a:Adr)(Iv:Spw)(E:Addr->Hw->Prop):GS:=(gIf (gNt (Ay (Ag Iv (λ_=>E) (Aa (Ab 0) Ac)))) (Eg a.NoKind E (Aa (gC (.str "this is no kind of data")) Ac)) Al)
theorem kJ(T:Tx K mg base a){Iw:Nat}(kK:Df P w K mg base "is_data" Iw 1 Iv)(kL:Iw<=k)(hr:Room k (A.deeper (envOfC "check_data_kind" (Aq FY) s.heap.objs.size f cdv))):Ssm (cxW P w K mg base UH "check_data_kind" (Aq FY) f cdv A outer s H E) (λB=>B=H) (Bn FY) (Mh K a Iv (dnX K H E)):=
 have hu:=Ba hr
 have hN:=UI.nd
 (AO (BY (ES (ER (λ_=>rfl) (Br kK (hr.mono kL) rfl BI rfl rfl rfl (by walk_at "v")))) (AO (Kc T.Hs T.Es PySem.F.excBase_ValueError rfl rfl rfl rfl (by walk_at "v"))) CH))
abbrev UJ:List Str:=["value"]
theorem UK:Az UJ ["value"] (Aq KZ):=by walk_at "s"
def UL:GS:=(Ai (AQ (Ay (AH "tuple" (Ab 0))) (AF (AD (Ab 0)) 1 (gNm 0) AM (Ad (Ae ixW) (Ab 0) (gC (.int 1)))) (Ap Ac)))
theorem kM(T:Tx K mg base a):Dn P w K mg base UJ "values_within" KZ k (UL):=λ{f cdv A outer s H E}hr=>
 have hu:=Ba hr
 have hN:=UK.nd
 (AO (BG (Os (by walk_at "v") (B0 (Nc:=["field"]) rfl (BV rfl (by decide +kernel) (by decide +kernel)) (λ_=>rfl) (by walk_at "v") (Cc (i:=0) (by decide) rfl rfl) (λC fp s1 H1=>BH) (λC fp s1 H1=>(by walk_at "v"))) (by walk_at "v"))))
abbrev UM:List Str:=["thing"]
theorem UN:Az UM ["thing"] (Aq K0):=by walk_at "s"
def UO(Dd:Spw):GS:=(Ai (AZ (AH "tuple" (Ab 0)) (AZ (Ad (Ae (eqF false)) (gB (rF AK) (Aa (Ab 0) Ac)) (gC (.int 2))) (Ag Dd XF (Aa (Ad (Ae ixW) (Ab 0) (gC (.int 0))) Ac)))))
theorem kN(T:Tx K mg base a){DK:Nat}(i9:Df P w K mg base "is_name" DK 1 Dd)(ja:DK<=k):Dn P w K mg base UM "is_value_field" K0 k (UO Dd):=by
 have hN:=UN.nd;walk_at "z"
abbrev UP:List Str:=["thing"]
theorem UQ:Az UP ["thing"] (Aq K1):=by walk_at "s"
def UR(Iy:Spw)(De:Spw):GS:=(Af (gIf (Ay (AH "int" (Ab 0))) (Ai (gC (.bl true))) Al) (Af (gIf (gNt (Ay (AH "tuple" (Ab 0)))) (Ai (gC (.bl false))) Al) (Ai (AZ (gB (rF Bc) (Aa (AF (AD (Ab 0)) 1 (gNm 0) AM (Ag Iy XF (Aa (Ab 0) Ac))) Ac)) (Ag De XF (Aa (AF (AD (Ab 0)) 1 (gNm 0) AM (Ad (Ae ixW) (Ab 0) (gC (.int 0)))) Ac))))))
theorem kO(T:Tx K mg base a){Iz:Nat}(nX:Df P w K mg base "is_value_field" Iz 1 Iy)(nY:Iz<=k){DL:Nat}(Lr:Df P w K mg base "names_rise" DL 1 De)(Ls:DL<=k):Dn P w K mg base UP "has_value_form" K1 k (UR Iy De):=λ{f cdv A outer s H E}hr=>
 have hu:=Ba hr
 have hN:=UQ.nd
 (Ax (by walk_at "v") (Ax (by walk_at "v") (AO (BG (JZ (B7 Ei (Ed rfl) rfl T.Er (by decide) rfl rfl rfl (AT rfl (B0 (Nc:=["part"]) rfl (BV rfl (by decide +kernel) (by decide +kernel)) (λ_=>rfl) (by walk_at "v") (Cc (i:=0) (by decide) rfl rfl) (λC fp s1 H1=>BH) (λC fp s1 H1=>(by walk_at "v"))) Bu)) (JY (Br Lr (hr.mono Ls) rfl DH rfl rfl rfl (AT rfl (B0 (Nc:=["part"]) rfl (BV rfl (by decide +kernel) (by decide +kernel)) (λ_=>rfl) (by walk_at "v") (Cc (i:=0) (by decide) rfl rfl) (λC fp s1 H1=>BH) (λC fp s1 H1=>(by walk_at "v"))) Bu))))))))
abbrev US:List Str:=["thing"]
theorem UT:Az US ["thing"] (Aq FZ):=by walk_at "s"
def Mi(K:PySem.W.Frag)(a:Adr)(mg:Str->Option Value)(DR:Spw)(DP:Spw)(Dh:Spw)(E:Addr->Hw->Prop):GS:=(gIf (gNt (Ay (Ag Dh (λ_=>E) (Aa (Ab 0) (Aa (gC (.ref (fAt mg "has_value_form"))) (Aa (gC (.ref (fAt mg "values_within"))) (Aa (gC (.int 100)) (Aa (gC (.int 10)) Ac)))))))) (Eg a.NoValue E (Aa (gC (.str "this is no value of data")) Ac)) Al)
theorem kP(T:Tx K mg base a){DS:Nat}(LJ:Df P w K mg base "has_value_form" DS 1 DR)(Sy:DS<=k){DQ:Nat}(LI:Df P w K mg base "values_within" DQ 1 DP)(Sv:DQ<=k){Eu:Nat}(Ly:Df P w K mg base "is_made_of" Eu 5 Dh)(Lz:Eu<=k)(hr:Room k (A.deeper (envOfC "check_value" (Aq FZ) s.heap.objs.size f cdv))):Ssm (cxW P w K mg base US "check_value" (Aq FZ) f cdv A outer s H E) (λB=>B=H) (Bn FZ) (Mi K a mg DR DP Dh (dnX K H E)):=
 have hu:=Ba hr
 have hN:=UT.nd
 (AO (BY (ES (ER (λ_=>rfl) (Br Ly (hr.mono Lz) rfl BI rfl rfl rfl (AT rfl (by walk_at "v") (AT rfl (G8 LJ rfl rfl) (AT rfl (G8 LI rfl rfl) (by walk_at "v"))))))) (AO (Kc T.Lp T.E2 PySem.F.excBase_ValueError rfl rfl rfl rfl (by walk_at "v"))) CH))
abbrev UU(n:Nat):Spw:=spL (λ(k:Kd)ws _=>ws=[k.enc]/\k.ok=true/\k.dp<=n/\k.cnt<=1000) λk=>k.all.map Kd.enc
theorem UV{n:Nat}{D:Ew}{p v:Addr}{items:List W}:∀(l:List Kd)(o:Option W)(k0:W)(G:Hw)(a:List W),(∀ c∈l,c.ok=true/\c.dp<=n)->a.length+Bi l<=20000->Bi l<=1000->p≠v->G p=some (.lst a)->G v=some (.lst items)->
  (∀ ω i,(∃ o',ω=[some k0,some (.ref p),o'])->i p=some (.lst (a++(l.flatMap Kd.all).map Kd.enc))->(∀ b,b≠p->∀ u,G b=some u->i b=some u)->D.nx ω i)->
  A8 (holds v items) (gNm 2) (AA (gMt BZ CJ (Ab 1) (L3.Aa (Ag (UU n) XF (L3.Aa (Ab 2) L3.Ac)) L3.Ac))) D (l.map Kd.enc) [some k0,some (.ref p),o] G
 | [],o,k0,G,a,_,_,_,f,k,g,e=>⟨g,e _ G ⟨o,rfl⟩ (by simpa using k) λ_ _ _ h=>h⟩
 | c::l,o,k0,G,a,hd,hl,hc,f,k,g,e=>by
  have z:c.cnt+Bi l<=1000:=hc;have y:a.length+(c.cnt+Bi l)<=20000:=hl;have j:=hd c Ye;refine⟨g,?_⟩;show AA _ _ [some k0,some (.ref p),some c.enc] G;walk_at "rd";refine⟨Ff k,c,⟨rfl,j.1,j.2,by omega⟩,λr m=>?_⟩;have s:=AC k m;have q:=AC g m;refine LO (by rw[Aj s];exact k) Ak (by rw[Yh,KG];exact BE (by omega)) ?_;refine UV l (some c.enc) k0 _ (a++c.all.map Kd.enc) (λd t=>hd d (Yd _ t)) (by rw[Yj,Yh,KG];omega) (by omega) f Ak ?_ ?_
  ·rw[Aj (Qa f),Aj q];exact g
  ·intro ω i hω h1 h2;refine e ω i hω (by rw[h1,Qf,Yy,Yv]) λb w u x=>h2 b w u ?_;rw[Aj w,Aj (AC x m)];exact x
theorem DO(T:Tx K mg base a):∀ n:Nat,Df P w K mg base "kinds_in" (n+1) 1 (UU n)
 | 0=>CY T.Q8 Eo λl G Q E⟨k,⟨_,_,hd,_⟩,_⟩=>by have:=Dc k;omega
 | n+1=>by
  refine mk0 T.Q8 rfl Sl Eo (λl G Q E⟨x,⟨e,_⟩,_⟩=>by rw[e];rfl) (jn T (Cs T) (by omega) (DO T n) (Yr _)) λl G Q E s q=>?_;obtain⟨k,⟨rfl,j,hd,hc⟩,q⟩:=q;have v:=FT k;unfold Sn;walk_at "rd";refine⟨by decide,λp o=>?_⟩;refine⟨k.enc,⟨rfl,TN j,L5 j hc⟩,λt d=>?_⟩;rw[L6];have i:p≠t:=AC Ak d;simp only[Ak];refine UV k.kids none k.enc _ [k.enc] (λc h=>⟨Hl j c h,by have:=FU h;omega⟩) (by simp only[Yg,Yi];omega) (by omega) i (by rw[Aj i];exact Ak) Ak ?_;intro ω m hω h1 h2;obtain⟨o',rfl⟩:=hω;simp only[Yb,Yc]
  have r:Sub (put G p (.lst (k.all.map Kd.enc))) m:=λb u f=>by
   by_cases g:b=p
   ·subst g;rw[Ak]at f;cases f;rw[h1,KC,Ym];rfl
   ·rw[Aj g]at f;refine h2 b g u ?_;rw[Aj (λz=>by subst z;rw[Aj g]at d;rw[d]at f;cases f),Aj g];exact f
  exact s _ _ _ r (q p o)
theorem UW:∀{fs:Fs},fs.dat=true->∀ c∈fs.kinds,c.dat=true
 | .nil,_,c,hc=>by cases hc
 | .cons n m k r,h,c,hc=>by
  have h':(k.dat&&r.dat)=true:=h;walk_at "pc";rcases Yo.mp hc with rfl | hc
  ·exact h'.1
  ·exact UW h'.2 c hc
theorem kQ{k c:Kd}(h:k.dat=true)(hc:c∈k.kids):c.dat=true:=by
 cases k with
 | to a b=>cases h
 | box a=>cases h
 | row fs o=>exact UW h c hc
 | any=>cases hc
 | num=>cases hc
 | truth=>cases hc
theorem UX{gd:Hw->Prop}{R:List W->Hw->Prop}{f:Kd->W}{G:Hw}(a:gd G):∀(ks:List Kd)(o:Option W)(ys:List W),(∀ k∈ks,∀ Q:Kw,Q (f k) G->ge [some k.enc] G Q)->
  ys.length+ks.length<=sizeLine->R (ys++ks.map f) G->Be gd (gNm 0) AM ge R (ks.map Kd.enc) [o] G ys
 | [],o,ys,_,_,r=>⟨a,by simpa using r⟩
 | x::ks,o,ys,h,hl,r=>by
  refine⟨a,by simp only[Yg]at hl;omega,?_⟩;show ge [some x.enc] G λy b=>Be gd (gNm 0) AM ge R (ks.map Kd.enc) [some x.enc] b (ys++[y]);refine h x Ye _ (UX a ks (some x.enc) (ys++[f x]) (λy c=>h y (Yd _ c)) ?_ ?_)
  ·simp only[Yj,Yg,Yi]at hl ⊢;omega
  ·simpa[Yv]using r
theorem kR(k:Kd)(G:Hw):inF false (.str k.hd) (.tup [.str "to",.str "box"]) G=some (.bl k.fb):=by cases k <;> kernel_rfl
theorem Mj(m:Bool)(G:Hw):eqF false (.str (mark m)) (.str "must") G=some (.bl m):=by
 unfold eqF eqW;show some (W.bl ((mark m=="must") != false))=_;rw[show(mark m==("must":Str))=m by cases m <;> first | rfl | decide +kernel];cases m <;> rfl
theorem UY:∀ fs:Fs,fs.dat=fs.kinds.all Kd.dat
 | .nil=>rfl
 | .cons _ _ k r=>by show(k.dat&&r.dat)=(k.dat&&r.kinds.all Kd.dat);rw[UY r]
theorem UZ:∀(n:Nat)(k:Kd),k.dp<=n->k.all.any Kd.fb=!k.dat
 | 0,k,h=>by have:=Dc k;omega
 | n+1,k,h=>by
  rw[KC,List.any_cons];cases k with
  | to x y=>rfl
  | box x=>rfl
  | row fs o =>
   show(false||(fs.kinds.flatMap Kd.all).any Kd.fb)=!fs.dat;rw[Bool.false_or,UY,List.not_all_eq_any_not,Bool.eq_iff_iff,List.any_eq_true,List.any_eq_true];have d:∀ c∈fs.kinds,c.all.any Kd.fb=!c.dat:=λc hc=>UZ n c (by have:=FU (k:=.row fs o) (c:=c) hc;omega);constructor
   ·rintro⟨x,a,b⟩;obtain⟨c,hc,a⟩:=List.mem_flatMap.mp a;exact⟨c,hc,by rw[<- d c hc];exact List.any_eq_true.mpr ⟨x,a,b⟩⟩
   ·rintro⟨c,hc,hd⟩;rw[<- d c hc]at hd;obtain⟨x,a,b⟩:=List.any_eq_true.mp hd;exact⟨x,List.mem_flatMap.mpr ⟨c,hc,a⟩,b⟩
  | any=>rfl
  | num=>rfl
  | truth=>rfl
def Mk(C:Addr):Spw:=λws G Q E=>(∃ w,ws=[w]/\bad w/\E C G)\/∃ k:Kd,ws=[k.enc]/\kd8 k/\Q (.bl k.dat) G
theorem kS{C:Addr}:Spw.M (Mk C):=λd G Q e E f h h' q=>q.elim (λ⟨w,a,b,c⟩=>.inl ⟨w,a,b,h' _ _ c⟩) λ⟨k,a,b,c⟩=>.inr ⟨k,a,b,h _ _ c⟩
theorem kT{C:Addr}:∀ a G Q E,Mk C a G Q E->a.length=1:=λa G Q E q=>q.elim (λ⟨w,e,_⟩=>by rw[e];rfl) λ⟨w,e,_⟩=>by rw[e];rfl
theorem Iw(T:Tx K mg base a):Df P w K mg base "is_data" 10 1 (Mk a.NoKind):=by
 refine mkX T.ip rfl Ss kS kT (g:=λE=>LD _ _ E) (jo T (HG T) (by omega) (DO T 8) (by omega)) λr G Q E o t q=>?_;unfold LD;rcases q with⟨x,rfl,e,q⟩|⟨k,rfl,b,q⟩
 ·walk_at "rd";exact⟨x,⟨rfl,e.1⟩,λz=>(by rw[e.2]at z;cases z),λ_=>q⟩
 ·obtain⟨m,l⟩:=ke b;have i:=b.2.1;walk_at "rd";refine⟨k.enc,⟨rfl,m⟩,λ_=>⟨k,⟨rfl,b.1.1,b.2.2,by omega⟩,λp n=>?_⟩,λz=>(by rw[l]at z;cases z)⟩;simp only[Ak];refine UX (f:=λc=>.bl c.fb) Ak k.all none [] (λy s j h=>?_) (by rw[KG];exact BE (by simp only[Yi];omega)) λp1 d=>?_
  ·show Ad (Ae (inF false)) (Ad (Ae ixW) (Ab 0) (gC (.int 0))) (L3.Ah (L3.Aa (gC (.str "to")) (L3.Aa (gC (.str "box")) L3.Ac))) [some y.enc] _ j;simp only[Ad,Ae,Ab,gC,L3.Ah,L3.Aa,L3.Ac,Yb,CM,Ao];refine⟨by decide,?_⟩;rw[kR];exact h
  rw[Yw,show(k.all.map λc=>W.bl c.fb)=(k.all.map Kd.fb).map W.bl by rw[YB];rfl];walk_at "pd";rw[List.any_map,show(k.all.any (id∘Kd.fb))=!k.dat from UZ 8 k b.2.2];rw[Bool.not_not];exact o _ _ _ (BC (A3 n) d) q
def Dp(w:W):Prop:=bad w\/∃ k:Kd,w=k.enc/\kd8 k/\k.dat=false
def Ml(C:Addr):Spw:=λws G Q E=>(∃ w,ws=[w]/\Dp w/\E C G)\/∃ k:Kd,ws=[k.enc]/\kd8 k/\k.dat=true/\Q .non G
theorem kU{C:Addr}:Spw.M (Ml C):=λe G Q f E g h h' q=>q.elim (λ⟨w,a,b,c⟩=>.inl ⟨w,a,b,h' _ _ c⟩) λ⟨k,a,b,d,c⟩=>.inr ⟨k,a,b,d,h _ _ c⟩
theorem kW{C:Addr}:∀ a G Q E,Ml C a G Q E->a.length=1:=λa G Q E q=>q.elim (λ⟨w,e,_⟩=>by rw[e];rfl) λ⟨w,e,_⟩=>by rw[e];rfl
theorem Cy(T:Tx K mg base a):Df P w K mg base "check_data_kind" 11 1 (Ml a.NoKind):=by
 refine mkX T.iu rfl UI kU kW (g:=λE=>Mh K a _ E) (kJ T (Iw T) (by omega)) λd G Q E f e q=>?_;unfold Mh;rcases q with⟨x,rfl,b,q⟩|⟨k,rfl,c,hd,q⟩
 ·walk_at "rd";rcases b with b |⟨k,rfl,c,hd⟩
  ·exact .inl ⟨x,rfl,b,q⟩
  ·refine .inr ⟨k,rfl,c,?_⟩;rw[hd];simp only[YR,if_true];unfold Eg;walk_at "rd";exact⟨by decide,q⟩
 ·walk_at "rd";refine .inr ⟨k,rfl,c,?_⟩;rw[hd];walk_at "pl";exact q
local macro_rules | `(tactic| walk_at "rd") => `(tactic| ((try dsimp only [Af,gIf,Ai,An,AA,Al,Ab,gC,Ad,gTB,Ay,gNt,AV,gOr,AZ,Bp,Bd,AQ,L3.Ah,Ap,L3.Aa,L3.Ac,Ag,gB,rF,Ae,AH,gMt,Bf,Ce,Bk,AG,AR,Au,L3.AJ,Bg,gSl,By,Bx,AF,AD,Bz,AS,AB,Cg,Bw,B3,BA,Bh,Ar,AU,List.map_cons,List.map_nil,List.length_cons,List.length_nil,List.cons_append,List.nil_append,List.getElem?_cons_zero,List.getElem?_cons_succ,List.set_cons_zero,List.set_cons_succ,List.replicate,AN,tyN,Ao,A1,Bb,Bl,ixW,A2,A4,A5,AK,A9,Bc,Bs,AI,BP,List.getElem?_nil]); (try simp only [Af,gIf,Ai,An,AA,Al,Ab,gC,Ad,gTB,Ay,gNt,AV,gOr,AZ,Bp,Bd,AQ,L3.Ah,Ap,L3.Aa,L3.Ac,Ag,gB,rF,Ae,AH,gMt,Bf,Ce,Bk,AG,AR,Au,L3.AJ,Bg,gSl,By,Bx,AF,AD,Bz,AS,AB,Cg,Bw,B3,BA,Bh,Ar,AU,List.map_cons,List.map_nil,List.length_cons,List.length_nil,List.cons_append,List.nil_append,List.getElem?_cons_zero,List.getElem?_cons_succ,List.set_cons_zero,List.set_cons_succ,List.replicate,AN,tyN,Ao,A1,Bb,Bl,ixW,A2,A4,A5,AK,A9,Bc,Bs,AI,BP,List.getElem?_nil])))
mutual
inductive Vl where
 | int (i:Int)| bl (b:Bool)| row (ps:Ps)
inductive Ps where
 | nil | cons (n:Str) (v:Vl) (r:Ps)
end
mutual
def Vl.enc:Vl->W
 | .int i=>.int i
 | .bl b=>.bl b
 | .row ps=>.tup ps.enc
def Ps.enc:Ps->List W
 | .nil=>[]
 | .cons n v r=>.tup [.str n,v.enc]::r.enc
end
def Ps.vals:Ps->List Vl
 | .nil=>[]
 | .cons _ v r=>v::r.vals
def Ps.names:Ps->List Str
 | .nil=>[]
 | .cons n _ r=>n::r.names
def Ps.find(x:Str):Ps->Option Vl
 | .nil=>none
 | .cons n v r=>if n=x then some v else r.find x
def Vl.kids:Vl->List Vl
 | .row ps=>ps.vals
 | _=>[]
def Vl.hd:Vl->Str
 | .int _=>"num"
 | .bl _=>"truth"
 | .row _=>"row"
mutual
def Vl.cnt:Vl->Nat
 | .row ps=>1+ps.cnt
 | _=>1
def Ps.cnt:Ps->Nat
 | .nil=>0
 | .cons _ v r=>v.cnt+r.cnt
end
mutual
def Vl.dp:Vl->Nat
 | .row ps=>1+ps.dp
 | _=>1
def Ps.dp:Ps->Nat
 | .nil=>0
 | .cons _ v r=>max v.dp r.dp
end
mutual
def Vl.ok(m:Nat):Vl->Bool
 | .row ps=>rise ps.names&&(decide (ps.names.length<=m)&&ps.ok m)
 | _=>true
def Ps.ok(m:Nat):Ps->Bool
 | .nil=>true
 | .cons n v r=>AE n&&v.ok m&&r.ok m
end
def Bq:List Vl->Nat
 | []=>0
 | v::r=>v.cnt+Bq r
def vdp:List Vl->Nat
 | []=>0
 | v::r=>max v.dp (vdp r)
theorem IA:∀ ps:Ps,ps.cnt=Bq ps.vals
 | .nil=>rfl
 | .cons _ v r=>by show v.cnt+r.cnt=v.cnt+Bq r.vals;rw[IA r]
theorem U0:∀ ps:Ps,ps.dp=vdp ps.vals
 | .nil=>rfl
 | .cons _ v r=>by show max v.dp r.dp=max v.dp (vdp r.vals);rw[U0 r]
theorem Mm(v:Vl):v.cnt=1+Bq v.kids:=by
 cases v with
 | row ps=>show 1+ps.cnt=1+Bq ps.vals;rw[IA]
 | _=>rfl
theorem IB(v:Vl):v.dp=1+vdp v.kids:=by
 cases v with
 | row ps=>show 1+ps.dp=1+vdp ps.vals;rw[U0]
 | _=>rfl
theorem U1:∀(l m:List Vl),Bq (l++m)=Bq l+Bq m
 | [],m=>by simp[Bq]
 | v::l,m=>by show v.cnt+Bq (l++m)=v.cnt+Bq l+Bq m;rw[U1 l m];omega
theorem U2:∀(l m:List Vl),vdp (l++m)=max (vdp l) (vdp m)
 | [],m=>by simp[vdp]
 | v::l,m=>by show max v.dp (vdp (l++m))=max (max v.dp (vdp l)) (vdp m);rw[U2 l m];omega
theorem Mn(v:Vl):1<=v.cnt:=by rw[Mm];omega
theorem Gg(v:Vl):1<=v.dp:=by rw[IB];omega
theorem Mo:∀ l:List Vl,Bq l=l.length+Bq (l.flatMap Vl.kids)
 | []=>rfl
 | v::l=>by
  show v.cnt+Bq l=(l.length+1)+Bq ((v::l).flatMap Vl.kids);rw[Qf,U1,Mo l,Mm v];omega
theorem U3:∀ l:List Vl,l≠[]->vdp l=1+vdp (l.flatMap Vl.kids)
 | [],h=>absurd rfl h
 | [v],_=>by
  show max v.dp 0=1+vdp ([v].flatMap Vl.kids);rw[Qf,List.flatMap_nil,Yx,IB];omega
 | v::u::l,_=>by
  have a:=U3 (u::l) (by simp);show max v.dp (vdp (u::l))=1+vdp ((v::u::l).flatMap Vl.kids);rw[Qf,U2,a,IB v];omega
theorem IC:∀ l:List Vl,l.length<=Bq l
 | []=>Yr _
 | v::l=>by have:=IC l;have:=Mn v;show l.length+1<=v.cnt+Bq l;omega
theorem U4:∀{l:List Vl}{v:Vl},v∈l->v.cnt<=Bq l
 | u::l,v,h=>by
  show v.cnt<=u.cnt+Bq l;walk_at "ph"
  ·omega
  ·have:=U4 h;omega
theorem U5:∀{l:List Vl}{v:Vl},v∈l->v.dp<=vdp l
 | u::l,v,h=>by
  show v.dp<=max u.dp (vdp l);walk_at "ph"
  ·omega
  ·have:=U5 h;omega
theorem kX(v:Vl):v.kids.length+1<=v.cnt:=by rw[Mm v];have:=IC v.kids;omega
theorem ID:∀ ps:Ps,ps.enc.length=ps.vals.length
 | .nil=>rfl
 | .cons _ v r=>by show r.enc.length+1=r.vals.length+1;rw[ID r]
theorem U6:∀ ps:Ps,ps.names.length=ps.vals.length
 | .nil=>rfl
 | .cons _ v r=>by show r.names.length+1=r.vals.length+1;rw[U6 r]
theorem Mp:∀{m:Nat}{ps:Ps},ps.ok m=true->∀ c∈ps.vals,c.ok m=true
 | m,.nil,_,c,hc=>by cases hc
 | m,.cons n v r,h,c,hc=>by
  have h':(AE n&&v.ok m&&r.ok m)=true:=h;walk_at "pc";rcases Yo.mp hc with rfl | hc
  ·exact h'.1.2
  ·exact Mp h'.2 c hc
variable {ps:Ps}
theorem EA(h:(Vl.row ps).ok m=true):rise ps.names=true/\ps.ok m=true:=by
 have h':(rise ps.names&&(decide (ps.names.length<=m)&&ps.ok m))=true:=h;walk_at "pc";exact⟨h'.1,h'.2.2⟩
theorem Mq(h:(Vl.row ps).ok m=true):ps.names.length<=m:=by
 have h':(rise ps.names&&(decide (ps.names.length<=m)&&ps.ok m))=true:=h;simp only[YH,YU]at h';exact h'.2.1
variable {v:Vl}
theorem U7(h:v.ok m=true):∀ c∈v.kids,c.ok m=true:=by
 cases v with
 | row ps=>exact Mp (EA h).2
 | _=>intro c hc;cases hc
def Mr(x:W):W:=match x with | .tup [_,k]=>k | _=>.non
theorem U8:∀ ps:Ps,ps.enc.map Mr=ps.vals.map Vl.enc
 | .nil=>rfl
 | .cons n v r=>by show v.enc::r.enc.map Mr=v.enc::r.vals.map Vl.enc;rw[U8 r]
theorem U9:∀ ps:Ps,ps.enc.map DT=ps.names.map W.str
 | .nil=>rfl
 | .cons n v r=>by show W.str n::r.enc.map DT=W.str n::r.names.map W.str;rw[U9 r]
theorem Ms:∀{ps:Ps}{x:W},x∈ps.enc->∃ n v,x=.tup [.str n,v]
 | .nil,x,h=>by cases h
 | .cons n v r,x,h=>by
  walk_at "ph"
  ·exact⟨n,v.enc,rfl⟩
  ·exact Ms h
theorem kY:BK "int" "tuple"=false:=by decide
theorem IE:BK "int" "int"=true:=by decide
theorem Mt:BK "bool" "int"=true:=by decide
theorem IF:BK "tuple" "int"=false:=by decide
theorem kZ:BK "int" "bool"=false:=by decide
abbrev Va:Spw:=spL (λ(v:Vl)ws _=>ws=[v.enc]/\v.cnt<=20000) λv=>v.kids.map Vl.enc
theorem DQ(T:Tx K mg base a):Df P w K mg base "values_within" 1 1 Va:=by
 refine mk0 T.iw rfl UK Eo (λd G Q E⟨x,⟨e,_⟩,_⟩=>by rw[e];rfl) (kM T) λd G Q E l q=>?_;obtain⟨v,⟨rfl,hc⟩,q⟩:=q;unfold UL;cases v with
 | int i =>
  simp only[Vl.enc];walk_at "rd";simp only[kY,Yq,if_false];exact⟨by decide,λp c=>q p c⟩
 | bl b =>
  simp only[Vl.enc];walk_at "rd";simp only[HH,Yq,if_false];exact⟨by decide,λp c=>q p c⟩
 | row ps =>
  have k:1+ps.cnt<=20000:=hc;have hl:ps.enc.length<=ps.cnt:=by rw[ID,IA];exact IC _
  simp only[Vl.enc];walk_at "rd";simp only[Co,if_true];refine Da (f:=Mr) trivial ps.enc none [] (λx h j g=>?_) (by simp only[Yi];exact BE (by omega)) ?_
  ·obtain⟨n,u,rfl⟩:=Ms h;show Ad (Ae ixW) (Ab 0) (gC (.int 1)) [some (W.tup [.str n,u])] _ j;walk_at "rd";exact g
  ·rw[Yw,U8];exact q
mutual
def Vl.sh:Vl->Bool
 | .row ps=>ps.sh
 | _=>true
def Ps.sh:Ps->Bool
 | .nil=>true
 | .cons n v r=>decide (n.length<=1000)&&(v.sh&&r.sh)
end
def vF:Vl->Bool
 | .row ps=>ps.names.all AE&&rise ps.names
 | _=>true
theorem Vb:∀{ps:Ps},ps.sh=true->∀ c∈ps.vals,c.sh=true
 | .nil,_,c,hc=>by cases hc
 | .cons n v r,h,c,hc=>by
  have h':(decide (n.length<=1000)&&(v.sh&&r.sh))=true:=h;walk_at "pc";rcases Yo.mp hc with rfl | hc
  ·exact h'.2.1
  ·exact Vb h'.2.2 c hc
theorem k6(h:v.sh=true):∀ c∈v.kids,c.sh=true:=by
 cases v with
 | row ps=>exact Vb h
 | _=>intro c hc;cases hc
theorem Vc:∀{m:Nat}{ps:Ps},ps.ok m=true->(∀ c∈ps.vals,c.sh=true)->ps.sh=true
 | m,.nil,_,_=>rfl
 | m,.cons n v r,h,a=>by
  have h':(AE n&&v.ok m&&r.ok m)=true:=h;walk_at "pc";have:=SJ h'.1.1;show(decide (n.length<=1000)&&(v.sh&&r.sh))=true;rw[YI (show n.length<=1000 by omega),a v Ye,Vc h'.2 λc hc=>a c (Yd _ hc)];rfl
theorem Vd:∀(n m:Nat){v:Vl},v.dp<=n->v.ok m=true->v.sh=true
 | 0,m,v,hd,_=>by have:=Gg v;omega
 | n+1,m,.int i,_,_=>rfl
 | n+1,m,.bl b,_,_=>rfl
 | n+1,m,.row ps,hd,a=>by
  have e:=IB (.row ps);refine Vc (EA a).2 λc hc=>Vd n m ?_ (U7 a c hc);have h2:c.dp<=vdp (Vl.row ps).kids:=U5 hc;omega
theorem Ve:∀{m:Nat}{ps:Ps},ps.ok m=true->ps.names.all AE=true
 | m,.nil,_=>rfl
 | m,.cons n v r,h=>by
  have h':(AE n&&v.ok m&&r.ok m)=true:=h;walk_at "pc";show(AE n&&r.names.all AE)=true;rw[h'.1.1,Ve h'.2];rfl
theorem k7(h:v.ok m=true):vF v=true:=by
 cases v with
 | row ps =>
  obtain⟨h1,h2⟩:=EA h;show(ps.names.all AE&&rise ps.names)=true;rw[h1,Ve h2];rfl
 | _=>rfl
theorem Vf:∀ ps:Ps,ps.enc.map nmS=ps.names
 | .nil=>rfl
 | .cons n v r=>by show n::r.enc.map nmS=n::r.names;rw[Vf r]
theorem Vg:∀{ps:Ps}{x:W},ps.sh=true->x∈ps.enc->∃ n v,x=.tup [.str n,v]/\n.length<=1000
 | .nil,x,_,h=>by cases h
 | .cons n v r,x,a,h=>by
  have h':(decide (n.length<=1000)&&(v.sh&&r.sh))=true:=a;simp only[YH,YU]at h';walk_at "ph"
  ·exact⟨n,v.enc,rfl,h'.1⟩
  ·exact Vg h'.2.2 h
abbrev k8:Spw:=spR (λ(x:Str×W)ws _=>ws=[.tup [.str x.1,x.2]]/\x.1.length<=1000) λx=>.bl (AE x.1)
theorem Iz(T:Tx K mg base a):Df P w K mg base "is_value_field" 3 1 k8:=by
 refine mk0 T.ix rfl UN BJ (λc G Q E⟨x,⟨e,_⟩,_⟩=>by rw[e];rfl) (kN T (DK T) (Yr _)) λc G Q E d q=>?_;obtain⟨⟨n,u⟩,⟨rfl,b⟩,q⟩:=q;dsimp only at q b;unfold UO;walk_at "rd";simp only[Co,if_true];exact⟨.str n,⟨rfl,YI b⟩,q⟩
abbrev la:Spw:=spR (λ(v:Vl)ws _=>ws=[v.enc]/\v.sh=true/\v.cnt<=1000) λv=>.bl (vF v)
theorem DS(T:Tx K mg base a):Df P w K mg base "has_value_form" 4 1 la:=by
 refine mk0 T.iy rfl UQ BJ (λr G Q E⟨x,⟨e,_⟩,_⟩=>by rw[e];rfl) (kO T (Iz T) (Yr _) (DL T) (by omega)) λr G Q E o q=>?_;obtain⟨v,⟨rfl,t,hc⟩,q⟩:=q;unfold UR;cases v with
 | int i =>
  simp only[Vl.enc];walk_at "rd";simp only[IE,if_true];exact q
 | bl b =>
  simp only[Vl.enc];walk_at "rd";simp only[Mt,if_true];exact q
 | row ps =>
  have s:1+ps.cnt<=1000:=hc;have hl:ps.enc.length<=ps.cnt:=by rw[ID,IA];exact IC _
  simp only[Vl.enc];walk_at "rd";simp only[IF,Co,YG,Yq,if_false];refine Da (f:=λx=>.bl (AE (nmS x))) trivial ps.enc none [] (λx h l g=>?_) (by simp only[Yi];exact BE (by omega)) ?_
  ·obtain⟨n,u,rfl,y⟩:=Vg t h;exact⟨(n,u),⟨rfl,y⟩,g⟩
  ·intro p m;rw[Yw,show(λx:W=>W.bl (AE (nmS x)))=W.bl∘(AE∘nmS)from rfl,<- YB];walk_at "pd";have c:(ps.enc.map (AE∘nmS)).all id=ps.names.all AE:=by rw[<- YB,Vf,List.all_map];rfl
   have d:Q (.bl (ps.names.all AE&&rise ps.names)) G:=q;rw[c];cases k:ps.names.all AE with
   | false =>
    rw[k]at d;simp only[Yq,if_false];exact o _ _ _ (A3 m) d
   | true =>
    rw[k]at d;simp only[if_true];refine Da (f:=DT) trivial ps.enc none [] (λx h l g=>?_) (by simp only[Yi];exact BE (by omega)) ?_
    ·obtain⟨n,u,rfl⟩:=Ms h;show Ad (Ae ixW) (Ab 0) (gC (.int 0)) [some (W.tup [.str n,u])] _ l;walk_at "rd";exact g
    ·intro p2 j;rw[Yw,U9];refine⟨ps.names,⟨p2,rfl,Ak,by rw[U6,<- ID];omega⟩,?_⟩;exact o _ _ _ (BC (A3 m) j) d
abbrev lb(mg:Str->Option Value):Spw:=spL (λ(l:List Vl)ws G=>∃ p,ws=[.ref p,.ref (fAt mg "values_within")]/\G p=some (.lst (l.map Vl.enc))/\Bq l<=10000) λl=>(l.flatMap Vl.kids).map Vl.enc
theorem Vh{D:Ew}{p q j:Addr}{items:List W}:∀(l:List Vl)(o:Option W)(k0:W)(G:Hw)(a:List W),a.length+Bq l<=20000->p≠q->G p=some (.lst a)->G q=some (.lst items)->
  (∀ ω g,(∃ o',ω=[some k0,some (.ref j),some (.ref p),o'])->g p=some (.lst (a++(l.flatMap Vl.kids).map Vl.enc))->(∀ b,b≠p->∀ u,G b=some u->g b=some u)->D.nx ω g)->
  A8 (holds q items) (gNm 3) (AA (gMt BZ CJ (Ab 2) (L3.Aa (B3 1 j Va XF (L3.Aa (Ab 3) L3.Ac)) L3.Ac))) D (l.map Vl.enc) [some k0,some (.ref j),some (.ref p),o] G
 | [],o,k0,G,a,_,e,i,f,d=>⟨f,d _ G ⟨o,rfl⟩ (by simpa using i) λ_ _ _ h=>h⟩
 | c::l,o,k0,G,a,hl,e,i,f,d=>by
  have v:a.length+(c.cnt+Bq l)<=20000:=hl;have w:=kX c;refine⟨f,?_⟩;show AA _ _ [some k0,some (.ref j),some (.ref p),some c.enc] G;walk_at "rd";refine⟨Ff i,trivial,c,⟨rfl,by omega⟩,λr k=>?_⟩;have n:=AC i k;have m:=AC f k;refine LO (by rw[Aj n];exact i) Ak (by rw[Yh];exact BE (by omega)) ?_;refine Vh l (some c.enc) k0 _ (a++c.kids.map Vl.enc) (by rw[Yj,Yh];omega) e Ak ?_ ?_
  ·rw[Aj (Qa e),Aj m];exact f
  ·intro ω g hω h1 h2;refine d ω g hω (by rw[h1,Qf,Yy,Yv]) λb s u t=>h2 b s u ?_;rw[Aj s,Aj (AC t k)];exact t
theorem lc(T:Tx K mg base a):Df P w K mg base "layer_within" 2 2 (lb mg):=by
 refine mk0 T.Q6 rfl HA Eo ((by rintro k G Q E ⟨x,⟨p,e,_⟩,_⟩;rw[e];rfl)) (jr T (DQ T) (by omega)) λk G Q E o q=>?_;obtain⟨l,⟨h,rfl,i,hl⟩,q⟩:=q;unfold Su;walk_at "rd";refine⟨by decide,λp j=>?_⟩;have d:p≠h:=Qa (AC i j);have c:put G p (.lst []) h=some (.lst (l.map Vl.enc)):=by rw[Aj (Qa d)];exact i
 simp only[c];refine Vh l none (.ref h) _ [] (by simp only[Yi];omega) d Ak c ?_;intro ω m hω h1 h2;obtain⟨o',rfl⟩:=hω;simp only[Yb,Yc];rw[Yw]at h1
 have n:Sub (put G p (.lst ((l.flatMap Vl.kids).map Vl.enc))) m:=λb u g=>by
  by_cases f:b=p
  ·subst f;rw[Ak]at g;cases g;exact h1
  ·rw[Aj f]at g;exact h2 b f u (by rw[Aj f];exact g)
 exact o _ _ _ n (q p j)
def mdV:Nat->Nat->List Vl->Bool
 | _,_,[]=>true
 | 0,_,_::_=>false
 | n+1,c,x::l=>if 100 < c+(x::l).length then false else if(x::l).all vF then mdV n (c+(x::l).length) ((x::l).flatMap Vl.kids)else false
def isV(v:Vl):Bool:=mdV 10 0 [v]
def vg(v:Vl):Prop:=v.ok 12=true/\v.cnt<=100/\v.dp<=10
theorem Vi:∀(n c:Nat)(l:List Vl),(∀ v∈l,v.ok 12=true)->c+Bq l<=100->vdp l<=n->mdV n c l=true
 | n,c,[],_,_,_=>by cases n <;> rfl
 | 0,c,x::l,_,_,hd=>by
  have:=Gg x;have h2:max x.dp (vdp l)<=0:=hd;omega
 | n+1,c,x::l,b,hc,hd=>by
  have h1:=Mo (x::l);have h2:=U3 (x::l) (by simp);show(if 100 < c+(x::l).length then false else if(x::l).all vF then mdV n (c+(x::l).length) ((x::l).flatMap Vl.kids)else false)=true;rw[if_neg (by omega),List.all_eq_true.mpr λv a=>k7 (b v a),if_pos rfl];refine Vi n _ _ (λv a=>?_) (by omega) (by omega);obtain⟨z,d,a⟩:=List.mem_flatMap.mp a;exact U7 (b z d) v a
theorem lf(h:vg v):isV v=true:=by
 refine Vi 10 0 [v] (λx a=>by rw[YA.mp a];exact h.1) ?_ ?_
 ·have:=h.2.1;show 0+(v.cnt+0)<=100;omega
 ·have:=h.2.2;show max v.dp 0<=10;omega
def vl(v:Vl):Prop:=v.sh=true/\v.cnt<=1000
theorem lg(h:vg v):vl v:=⟨Vd 10 12 h.2.2 h.1,by have:=h.2.1;omega⟩
abbrev lh(mg:Str->Option Value):Spw:=spR (λ(v:Vl)ws _=>ws=[v.enc,.ref (fAt mg "has_value_form"),.ref (fAt mg "values_within"),.int 100,.int 10]/\vl v) λv=>.bl (isV v)
theorem li(T:Tx K mg base a):Df P w K mg base "is_made_of" 6 5 (lh mg):=by
 refine mk0 (k:=5) T.Q7 rfl HC BJ ((by rintro O G Q E ⟨x,⟨e,_⟩,_⟩;rw[e];rfl)) (jt T (DS T) (by omega) (lc T) (by omega)) λO G Q E n q=>?_;obtain⟨v,⟨rfl,I,hc⟩,q⟩:=q;dsimp only at q;unfold Sx;walk_at "rd";refine⟨by decide,λp N=>?_⟩;refine⟨λm ω B=>∃(l:List Vl)(p:Addr)(c d:Nat),ω=[some v.enc,some (.ref (fAt mg "has_value_form")),some (.ref (fAt mg "values_within")),some (.int 100),some (.int 10),some (.ref p),some (.int c),some (.int d)]/\B p=some (.lst (l.map Vl.enc))/\Sub G B/\mdV (10 - d) c l=isV v/\Bq l<=1000/\(∀ x∈l,x.sh=true)/\d<=10/\m=11 - d,⟨11,[v],p,0,0,rfl,Ak,A3 N,rfl,?_,?_,by omega,rfl⟩,?_⟩
 ·show v.cnt+0<=1000;omega
 ·intro x H;rw[YA.mp H];exact I
 rintro m ω G1 ⟨l,p,c,d,rfl,hl,j,g,X,hok,Y,rfl⟩;have h:(l.map Vl.enc).length=l.length:=Yh _;walk_at "rd";simp only[hl,Ao,h];cases l with
 | nil =>
  have r:¬ ((0:Int) <((([]:List Vl).length:Nat):Int)):=by simp
  simp only[r,decide_false,Yq,if_false];have A:isV v=true:=by rw[<- g];cases(10 - d) <;> rfl
  rw[A]at q;exact n _ _ _ j q
 | cons x l =>
  have L:=Mo (x::l);have r:(0:Int) <(((x::l).length:Nat):Int):=by simp only[Yg];omega
  simp only[r,decide_true,if_true,hl,Ao,h]
  have u:decide ((100:Int) <(c:Int)+(((x::l).length:Nat):Int))=decide (100 < c+(x::l).length):=by
   rw[decide_eq_decide];omega
  have J:decide ((10:Int) <(d:Int)+1)=decide (10 < d+1):=by
   rw[decide_eq_decide];omega
  rw[u,J];by_cases F:10 < d+1
  ·have A:isV v=false:=by
    rw[<- g,show 10 - d=0 by omega];rfl
   rw[A]at q;by_cases b:100 < c+(x::l).length
   ·simp only[b,decide_true,if_true];exact n _ _ _ j q
   ·simp only[b,F,decide_true,decide_false,if_true,Yq,if_false];exact n _ _ _ j q
  ·have S:mdV (10 - d) c (x::l)=if 100 < c+(x::l).length then false else if(x::l).all vF then mdV (10 -(d+1)) (c+(x::l).length) ((x::l).flatMap Vl.kids)else false:=by
    rw[show 10 - d=(10 -(d+1))+1 by omega];rfl
   rw[S]at g;by_cases b:100 < c+(x::l).length
   ·rw[if_pos b]at g;rw[<- g]at q;simp only[b,decide_true,if_true];exact n _ _ _ j q
   ·rw[if_neg b]at g;simp only[b,F,decide_false,Yq,if_false];refine Ex (f:=λz=>.bl (vF z)) (cst:=[some (.ref (fAt mg "has_value_form"))]) hl (x::l) none [] (λz o Z R=>?_) (by exact BE (by simp only[Yi];omega)) ?_
    ·have U:=U4 o;exact⟨rfl,z,⟨rfl,hok z o,by omega⟩,R⟩
    ·intro p1 i;rw[Yw,show(λz:Vl=>W.bl (vF z))=W.bl∘vF from rfl,<- YB];walk_at "pd";rw[List.all_map,show(id∘vF)=vF from rfl];cases D:(x::l).all vF with
     | false =>
      rw[D]at g;rw[<- g]at q;simp only[YR,if_true];exact n _ _ _ (BC j i) q
     | true =>
      rw[D,if_pos rfl]at g;walk_at "pl";refine⟨x::l,⟨p,rfl,by rw[Aj (AC hl i)];exact hl,by omega⟩,λp2 s=>?_⟩;refine⟨11 -(d+1),by omega,(x::l).flatMap Vl.kids,p2,c+(x::l).length,d+1,?_,Ak,?_,g,by omega,?_,by omega,rfl⟩
      ·simp only[Int.natCast_add,Int.natCast_one]
      ·exact BC (BC j i) s
      ·intro y t;obtain⟨z,o,t⟩:=List.mem_flatMap.mp t;exact k6 (hok z o) y t
def Mu(C:Addr):Spw:=λws G Q E=>∃ v:Vl,(ws=[v.enc]/\vl v)/\(isV v=true->Q .non G)/\(isV v=false->E C G)
theorem lj{C:Addr}:Spw.M (Mu C):=λa G Q b E c h h'⟨k,h1,q1,q2⟩=>⟨k,h1,λz=>h _ _ (q1 z),λz=>h' _ _ (q2 z)⟩
theorem ll{C:Addr}:∀ a G Q E,Mu C a G Q E->a.length=1:=λa G Q E⟨k,⟨e,_⟩,_⟩=>by rw[e];rfl
theorem Ip(T:Tx K mg base a):Df P w K mg base "check_value" 7 1 (Mu a.NoValue):=by
 refine mkX T.iz rfl UT lj ll (g:=λE=>Mi K a mg _ _ _ E) (kP T (DS T) (by omega) (DQ T) (by omega) (li T) (Yr _)) λc G Q E e d q=>?_;obtain⟨v,⟨rfl,h⟩,q1,q2⟩:=q;unfold Mi;walk_at "rd";refine⟨v,⟨rfl,h⟩,?_⟩;cases b:isV v with
 | true =>
  dsimp only;rw[b];walk_at "pl";exact q1 b
 | false =>
  dsimp only;rw[b];simp only[YR,if_true];unfold Eg;walk_at "rd";exact⟨by decide,q2 b⟩
abbrev lm:Spw:=spR (λ(v:Vl)ws _=>ws=[v.enc]) λv=>.str v.hd
theorem Ik(T:Tx K mg base a):Df P w K mg base "head_of" 1 1 lm:=by
 refine mk0 T.iB rfl Ui BJ (λc G Q E⟨x,e,_⟩=>by rw[e];rfl) (ky T) λc G Q E d q=>?_;obtain⟨v,rfl,q⟩:=q;unfold Uj;cases v with
 | int i =>
  simp only[Vl.enc];walk_at "rd";simp only[kZ,IE,Yq,if_false,if_true];exact q
 | bl b =>
  simp only[Vl.enc];walk_at "rd";simp only[jw,if_true];exact q
 | row ps =>
  simp only[Vl.enc];walk_at "rd";simp only[jx,IF,Yq,if_false];exact q
local macro_rules | `(tactic| walk_at "rd") => `(tactic| ((try dsimp only [BA,B9,C8,Bh,Af,gIf,Ai,An,AA,Al,Ab,gC,Ad,gTB,Ay,gNt,AV,gOr,AZ,Bp,Bd,AQ,L3.Ah,Ap,L3.Aa,L3.Ac,Ag,gB,rF,Ae,AH,gMt,Bf,Bk,AG,AR,Au,L3.AJ,Bg,gSl,By,Bx,AF,AD,Bz,AB,Ar,AU,List.map_cons,List.map_nil,List.length_cons,List.length_nil,List.cons_append,List.nil_append,List.getElem?_cons_zero,List.getElem?_cons_succ,List.set_cons_zero,List.set_cons_succ,List.replicate,AN,tyN,Ao,A1,Bb,Bl,ixW,A2,A4,A5,AK,A9,Bc,Bs,List.getElem?_nil]); (try simp only [BA,B9,C8,Bh,Af,gIf,Ai,An,AA,Al,Ab,gC,Ad,gTB,Ay,gNt,AV,gOr,AZ,Bp,Bd,AQ,L3.Ah,Ap,L3.Aa,L3.Ac,Ag,gB,rF,Ae,AH,gMt,Bf,Bk,AG,AR,Au,L3.AJ,Bg,gSl,By,Bx,AF,AD,Bz,AB,Ar,AU,List.map_cons,List.map_nil,List.length_cons,List.length_nil,List.cons_append,List.nil_append,List.getElem?_cons_zero,List.getElem?_cons_succ,List.set_cons_zero,List.set_cons_succ,List.replicate,AN,tyN,Ao,A1,Bb,Bl,ixW,A2,A4,A5,AK,A9,Bc,Bs,List.getElem?_nil])))
def mfE(f:Vl->Kd->Option (List Str)):Option Vl->En->Option (List Str)
 | none,.told m _=>if m then some []else none
 | none,_=>none
 | some _,.nope=>some []
 | some _,.free=>none
 | some v,.told _ k=>f v k
noncomputable def mfR(f:Vl->Kd->Option (List Str)):Vl->Kd->Option (List Str)
 | .row ps,.row fs o=>Ez ((srt (ps.names++fs.names)).map λx=>(x,mfE f (ps.find x) (ent fs o x)))
 | _,_=>none
noncomputable def mf:Nat->Vl->Kd->Option (List Str)
 | 0,_,_=>none
 | n+1,v,k=>if k.hd="any" then none else if v.hd=k.hd then mfR (mf n) v k else some []
theorem Vj{f:Vl->Kd->Option (List Str)}(h:∀ v k p,f v k=some p->p.length<=n){e:Option Vl}{b:En}{p:List Str}(a:mfE f e b=some p):p.length<=n:=by
 cases e with
 | none =>
  cases b with
  | free=>cases a
  | nope=>cases a
  | told m k =>
   cases m with
   | true=>cases a;exact YZ _
   | false=>cases a
 | some v =>
  cases b with
  | free=>cases a
  | nope=>cases a;exact YZ _
  | told m k=>exact h _ _ _ a
theorem Vk:∀(n:Nat)(v:Vl)(k:Kd)(p:List Str),mf n v k=some p->p.length<=n
 | 0,_,_,p,h=>by cases h
 | n+1,v,k,p,h=>by
  rw[mf]at h;split at h
  ·cases h
  ·split at h
   ·cases v with
    | row ps =>
     cases k with
     | row fs o =>
      refine Uc (λu a q b=>?_) h;obtain⟨x,_,rfl⟩:=YC.mp a;exact Vj (Vk n) b
     | _=>cases h
    | _=>cases k <;> cases h
   ·cases h;exact YZ _
theorem Vm:∀{ps:Ps}{x:Str}{v:Vl},ps.find x=some v->v∈ps.vals
 | .cons n u r,x,v,h=>by
  have h':(if n=x then some u else r.find x)=some v:=h;by_cases e:n=x
  ·rw[if_pos e]at h';cases h';exact Ye
  ·rw[if_neg e]at h';exact Yd _ (Vm h')
def Ps.kv:Ps->List (Key×W)
 | .nil=>[]
 | .cons n v r=>(Sum.inr n,v.enc)::r.kv
theorem Mv:∀(ps:Ps)(x:Str),atT ps.kv x=(ps.find x).map Vl.enc
 | .nil,x=>rfl
 | .cons n v r,x=>by
  show atT ((Sum.inr n,v.enc)::r.kv) x=(if n=x then some v else r.find x).map Vl.enc;rw[Hd];by_cases e:n=x
  ·rw[if_pos e,if_pos (by rw[e])];rfl
  ·rw[if_neg e,if_neg (λz=>e (Sum.inr.inj z))];exact Mv r x
theorem Vn:∀ ps:Ps,ps.kv.map (·.1)=ps.names.map Sum.inr
 | .nil=>rfl
 | .cons n v r=>by show Sum.inr n::r.kv.map (·.1)=Sum.inr n::r.names.map Sum.inr;rw[Vn r]
def Ps.toW:Ps->List (Str×W)
 | .nil=>[]
 | .cons n v r=>(n,v.enc)::r.toW
theorem Vo:∀ ps:Ps,ps.toW.map (λy=>W.tup [.str y.1,y.2])=ps.enc
 | .nil=>rfl
 | .cons n v r=>by show W.tup [.str n,v.enc]::r.toW.map (λy=>W.tup [.str y.1,y.2])=W.tup [.str n,v.enc]::r.enc;rw[Vo r]
theorem Vp:∀ ps:Ps,ps.toW.map (λy=>((Sum.inr y.1:Key),y.2))=ps.kv
 | .nil=>rfl
 | .cons n v r=>by show(Sum.inr n,v.enc)::r.toW.map (λy=>((Sum.inr y.1:Key),y.2))=(Sum.inr n,v.enc)::r.kv;rw[Vp r]
theorem Vq:∀ ps:Ps,ps.toW.map (·.1)=ps.names
 | .nil=>rfl
 | .cons n v r=>by show n::r.toW.map (·.1)=n::r.names;rw[Vq r]
theorem lp(h:rise ns=true):ns.Nodup:=(HV h).imp λ{x y}a e=>by rw[e,Gd]at a;cases a
def vk(n:Nat)(v:Vl)(k:Kd):Prop:=v.ok 12=true/\wf 10 k/\k.dat=true/\k.dp<=n
abbrev Vr(n:Nat):Spw:=spR (λ(x:Vl×Kd)ws _=>ws=[x.1.enc,x.2.enc]/\vk n x.1 x.2) λx=>pW (mf n x.1 x.2)
noncomputable def Gh(n:Nat):Spw:=λws G Q _=>∃(p:Addr)(ps:Ps)(x:Str)(e:En),ws=[.ref p,.str x,e.enc]/\G p=some (.dct ps.kv)/\(∀ v m k,ps.find x=some v->e=.told m k->vk n v k)/\Q (pW (mfE (mf n) (ps.find x) e)) G
theorem lq:Spw.M (Gh n):=(by rintro b G Q d E c h _ ⟨p,ps,x,e,h1,h2,a,q⟩;exact⟨p,ps,x,e,h1,h2,a,h _ _ q⟩)
theorem lr(a:Bool)(h:G p=some (.dct ps.kv)):inK a (.str x) (.ref p) G=some (.bl ((ps.find x).isSome != a)):=by
 unfold inK;dsimp only;rw[h];dsimp only;rw[Mv];cases ps.find x <;> rfl
theorem ls(h:G p=some (.dct ps.kv))(a:ps.find x=some v):ixK (.ref p) (.str x) G=some v.enc:=by
 unfold ixK;dsimp only;rw[h];dsimp only;rw[Mv,a];rfl
theorem lu:(("free":Str)=="none")=false:=by decide +kernel
theorem Ig(T:Tx K mg base a)(D:Df P w K mg base "misfit_of" j 2 (Vr n)):Df P w K mg base "misfit_of_field" (j+1) 3 (Gh n):=by
 refine mk0 (k:=j) T.iC rfl Ul lq (λf G Q E⟨_,_,_,_,e,_⟩=>by rw[e];rfl) (kz T D (Yr _)) λf G Q E g q=>?_;obtain⟨p,ps,x,e,rfl,c,d,q⟩:=q;unfold Um;show Af (gIf _ _ Al) _ (Ar Q) [some (.ref p),some (.str x),some e.enc] G;simp only[Af,gIf,gTB,Ad,Ae,Ab,Yb,Yc,lr true c,Ao];cases b:ps.find x with
 | none =>
  rw[b]at q;simp only[Option.isSome_none,show(false != true)=true from rfl,if_true,Ai,AQ,gTB,Ad,Ae,Ab,gC,Yb,Yc,UA,Ao];cases e with
  | free=>exact q
  | nope=>exact q
  | told m k =>
   simp only[En.hd,Mj,Ao];cases m with
   | true=>exact⟨by decide,q⟩
   | false=>exact q
 | some v =>
  rw[b]at q d;simp only[Option.isSome_some,show(true != true)=false from rfl,Yq,if_false,Af,gIf,Ai,Al,AQ,gTB,Ad,Ae,Ab,gC,Yb,Yc,UA,Ao,A2,A4,A5,YE];cases e with
  | free =>
   simp only[En.hd,lu,beq_self_eq_true,bne_self_eq_false,Yq,if_false,show(true != false)=true from rfl,if_true];exact q
  | nope =>
   simp only[En.hd,beq_self_eq_true,show(true != false)=true from rfl,if_true];exact⟨by decide,q⟩
  | told m k =>
   have h1:(mark m=="none")=false:=by simpa using(UB m).2.1
   have h2:(mark m=="free")=false:=by simpa using(UB m).1
   simp only[En.hd,h1,h2,bne_self_eq_false,Yq,if_false,Ag,L3.Aa,L3.Ac,Ad,Ae,Ab,gC,Yb,Yc,ls c b,Ao];simp only[En.enc,ixW,Bb,Ao];exact⟨(v,k),⟨rfl,d v m k rfl rfl⟩,q⟩
abbrev gMR(sp:Spw):GS:=Af (An 3 (Ag sp XF (L3.Aa (Ab 0) (L3.Aa (Ab 2) (L3.Aa (Ag T3 XF (L3.Aa (Ab 1) (L3.Aa (Ab 2) L3.Ac))) L3.Ac))))) (gIf (gTB (Ad (Ae (isF true)) (Ab 3) (gC .non))) (Ai (Ag Mf XF (L3.Aa (Ab 2) (L3.Aa (Ab 3) L3.Ac)))) Al)
theorem Vs{n:Nat}{D:Ew}{gd:Hw->Prop}{G:Hw}{ps:Ps}{fs:Fs}{o:Bool}{p:Addr}(b:gd G)(r:n<=100)(g:G p=some (.dct ps.kv))(l:∀ x v m k,ps.find x=some v->ent fs o x=.told m k->vk n v k):∀(xs:List Str)(d a:Option W),
  (∀ q,Ez (xs.map λx=>(x,mfE (mf n) (ps.find x) (ent fs o x)))=some q->D.rt (pW (some q)) G)->(Ez (xs.map λx=>(x,mfE (mf n) (ps.find x) (ent fs o x)))=none->∀ d a,D.nx [some (.ref p),some (Kd.row fs o).enc,d,a] G)->
  A8 gd (gNm 2) (gMR (Gh n)) D (xs.map W.str) [some (.ref p),some (Kd.row fs o).enc,d,a] G
 | [],d,a,_,h=>⟨b,h rfl d a⟩
 | x::xs,d,a,f,h=>by
  refine⟨b,?_⟩;show gMR (Gh n) _ [some (.ref p),some (Kd.row fs o).enc,some (.str x),a] G;refine kH (i:=3) (j:=2) (c:=mfE (mf n) (ps.find x) (ent fs o x)) (s:=x) rfl (by decide) (by simp) (λq e=>Yt (Vj (Vk n) e) r) (λQ t=>?_) (λe=>?_) (λq e=>?_)
  ·simp only[Ag,L3.Aa,L3.Ac,Ab,Yb,Yc];exact⟨(fs,o,x),rfl,p,ps,x,ent fs o x,rfl,g,λv m k=>l x v m k,t⟩
  ·refine Vs b r g l xs _ _ (λq z=>f q ?_) (λz=>h ?_)
   ·rw[Ym,e];exact z
   ·rw[Ym,e];exact z
  ·exact f _ (by rw[Ym,e];rfl)
noncomputable def Vt(n:Nat):Spw:=λws G Q _=>∃(p:Addr)(ps:Ps)(fs:Fs)(o:Bool),ws=[.ref p,(Kd.row fs o).enc]/\G p=some (.dct ps.kv)/\vk (n+1) (.row ps) (.row fs o)/\Q (pW (mfR (mf n) (.row ps) (.row fs o))) G
theorem lv:Spw.M (Vt n):=(by rintro b G Q d E c h _ ⟨p,ps,fs,o,h1,h2,a,q⟩;exact⟨p,ps,fs,o,h1,h2,a,h _ _ q⟩)
theorem lw{fs:Fs}(h:vk (n+1) (.row ps) (.row fs o))(x:Str)(v:Vl)(m:Bool)(k:Kd)(c:ps.find x=some v)(a:ent fs o x=.told m k):vk n v k:=by
 obtain⟨h1,h2,b,d⟩:=h;have:=FU (k:=.row fs o) (L8 a);exact⟨Mp (EA h1).2 v (Vm c),T6 h2 (L8 a),kQ b (L8 a),by omega⟩
theorem Il(T:Tx K mg base a)(g:1<=j)(B:n<=90)(D:Df P w K mg base "misfit_of_field" j 3 (Gh n)):Df P w K mg base "misfit_of_row" (j+1) 2 (Vt n):=by
 refine mk0 (k:=j) T.iD rfl Ur lv (λt G Q E⟨_,_,_,_,e,_⟩=>by rw[e];rfl) (kA T (HZ T) g (HY T) g D (Yr _) (Ih T) g) λt G Q E i q=>?_;obtain⟨p,ps,fs,o,rfl,h,c,q⟩:=q;have H:=Mq c.1;have J:=T7 c.2.1;unfold Us;show Af (AB _ _ _) _ (Ar Q) [some (.ref p),some (Kd.row fs o).enc,none,none] G;simp only[Af,AB,AD,Hh,Ag,Ab,L3.Aa,L3.Ac,Yb,Yc];refine⟨p,ps.kv,ps.names,rfl,h,Vn ps,by omega,(fs,o),⟨rfl,by dsimp only;omega⟩,λp1 d=>⟨fs.names,Fo Ak,by omega,λzs r s v A y=>?_⟩⟩;have m:=kr (xs:=ps.names++fs.names) s v λx=>by rw[A,Yz]
 simp only[Ak];have f:Sub G (put (put G p1 (.lst (fs.names.map W.str))) r (.lst (zs.map W.str))):=BC (A3 d) y;have b:Q (pW (Ez (zs.map λx=>(x,mfE (mf n) (ps.find x) (ent fs o x))))) G:=by rw[m];exact q
 refine Vs (gd:=λl=>l r=some (.lst (zs.map W.str))) Ak (by omega) (f _ _ h) (lw c) zs none none (λu z=>?_) (λz I F=>?_)
 ·rw[z]at b;exact i _ _ _ f b
 ·rw[z]at b;exact i _ _ _ f b
theorem lx(h:v.hd="row"):∃ ps,v=.row ps:=by
 cases v <;> first | exact⟨_,rfl⟩| exact absurd h (by simp only[Vl.hd];decide)
theorem ly{f:Vl->Kd->Option (List Str)}{k:Kd}(h:k.hd≠"row"):mfR f v k=none:=by
 cases v <;> cases k <;> first | rfl | exact absurd rfl h
theorem DV(T:Tx K mg base a):∀ n:Nat,n<=90->Df P w K mg base "misfit_of" (3*n+2) 2 (Vr n)
 | 0,_=>CY T.Q9 BJ λf G Q E⟨x,⟨_,h⟩,_⟩=>by have:=Dc x.2;have:=h.2.2.2;omega
 | n+1,m=>by
  refine mk0 (k:=3*n+4) T.Q9 rfl Uu BJ (λf G Q E⟨_,⟨e,_⟩,_⟩=>by rw[e];rfl) (kB T (Ik T) (by omega) (Il T (n:=n) (j:=3*n+3) (by omega) (by omega) (Ig T (DV T n (by omega)))) (by omega)) λf G Q E i q=>?_;obtain⟨⟨v,k⟩,⟨rfl,d⟩,q⟩:=q;dsimp only at d q;rw[mf]at q;unfold Uv;show Af (gIf _ _ Al) _ (Ar Q) [some v.enc,some k.enc] G;refine Gf rfl ?_;by_cases g:k.hd="any"
  ·rw[if_pos g]at q ⊢;exact q
  rw[if_neg g]at q ⊢;simp only[Af,gIf,gTB,Ad,Ae,Ag,Ab,gC,L3.Aa,L3.Ac,Yb,Yc];refine⟨v,rfl,?_⟩;dsimp only;rw[CM,Ao];simp only[A2,A4,A5,YE,Ao];by_cases c:v.hd=k.hd
  ·rw[if_pos c]at q;rw[show(v.hd==k.hd)=true by simp[c]];simp only[bne_self_eq_false,Yq,if_false,Al,Ai,AQ,gTB,Ad,Ae,Ab,gC,Yb,Yc,CM,Ao,A2,A4,A5,YE];by_cases b:k.hd="row"
   ·simp only[b,beq_self_eq_true,show(true != false)=true from rfl,if_true];obtain⟨fs,o,rfl⟩:=Me b;obtain⟨ps,rfl⟩:=lx (c.trans b);simp only[Ag,gB,Ab,L3.Aa,L3.Ac,Yb,Yc];refine⟨ps.toW,by rw[Vo];rfl,by rw[Vq];exact lp (EA d.1).1,λl hl=>?_⟩;rw[Vp];exact⟨l,ps,fs,o,rfl,Ak,d,i _ _ _ (A3 hl) q⟩
   ·rw[ly b]at q;have:(k.hd=="row")=false:=by simpa using b
    simp only[this,bne_self_eq_false,Yq,if_false];exact q
  ·rw[if_neg c]at q;rw[show(v.hd==k.hd)=false by simpa using c];simp only[show(false != true)=true from rfl,if_true,Ai,L3.Ah,L3.Ac];exact⟨by decide,q⟩
def vkg(v:Vl)(k:Kd):Prop:=vg v/\kd8 k/\k.dat=true
def no2(a:Adr)(v w:W)(C:Addr):Prop:=(Dp w/\C=a.NoKind)\/(∃(k:Kd)(u:Vl),w=k.enc/\v=u.enc/\kd8 k/\k.dat=true/\vl u/\isV u=false/\C=a.NoValue)
noncomputable def Gi(a:Adr)(f:Option (List Str)->W):Spw:=λws G Q E=>(∃ v w C,ws=[v,w]/\no2 a v w C/\E C G)\/∃(v:Vl)(k:Kd),ws=[v.enc,k.enc]/\vkg v k/\Q (f (mf 8 v k)) G
theorem Vu{f:Option (List Str)->W}:Spw.M (Gi a f):=λd G Q g E i h h' q=>q.elim (λ⟨v,w,C,e,b,c⟩=>.inl ⟨v,w,C,e,b,h' _ _ c⟩) λ⟨v,k,e,b,c⟩=>.inr ⟨v,k,e,b,h _ _ c⟩
theorem Vv{f:Option (List Str)->W}:∀ b G Q E,Gi a f b G Q E->b.length=2:=λb G Q E q=>q.elim (λ⟨v,w,C,e,_⟩=>by rw[e];rfl) λ⟨v,k,e,_⟩=>by rw[e];rfl
theorem DW(T:Tx K mg base a):Df P w K mg base "misfit" 27 2 (Gi a pW):=by
 refine mkX (k:=26) T.iE rfl Ux Vu Vv (g:=λE=>L9 _ _ _ E) (kC T (Cy T) (by omega) (Ip T) (by omega) (DV T 8 (by omega)) (by omega)) λi G Q E l j q=>?_;unfold L9;rcases q with⟨v,x,C,rfl,⟨c,rfl⟩|⟨k,u,rfl,rfl,e,h,d,f,rfl⟩,q⟩|⟨v,k,rfl,⟨h1,h2,b⟩,q⟩
 ·walk_at "rd";exact .inl ⟨x,rfl,c,q⟩
 ·walk_at "rd";exact .inr ⟨k,rfl,e,h,u,⟨rfl,d⟩,λz=>(by rw[f]at z;cases z),λ_=>q⟩
 ·walk_at "rd";exact .inr ⟨k,rfl,h2,b,v,⟨rfl,lg h1⟩,λ_=>⟨(v,k),⟨rfl,h1.1,h2.1,b,h2.2.2⟩,q⟩,λz=>(by rw[lf h1]at z;cases z)⟩
theorem lz(c:Option (List Str))(G:Hw):isF false (pW c) .non G=some (.bl c.isNone):=by cases c <;> rfl
theorem IG(T:Tx K mg base a):Df P w K mg base "fits" 28 2 (Gi a λc=>.bl c.isNone):=by
 refine mkX (k:=27) T.iF rfl Uz Vu Vv (g:=λE=>Ma _ E) (kF T (DW T) (by omega)) λd G Q E f e q=>?_;unfold Ma;rcases q with⟨v,x,C,rfl,b,q⟩|⟨v,k,rfl,h,q⟩
 ·walk_at "rd";exact .inl ⟨v,x,C,rfl,b,q⟩
 ·walk_at "rd";refine .inr ⟨v,k,rfl,h,?_⟩;dsimp only;rw[lz,Ao];exact q
abbrev Vw:List Str:=["state","deep","pick","found","name"]
theorem Vx:Az Vw ["state","deep"] (Aq Lg):=by walk_at "s"
def Vy(Av:Spw)(Dq:Spw):GS:=(Af (An 2 (Ag Av XF (Aa (Ab 0) (Aa (gC (.int 7)) Ac)))) (Af (Bw (Ad (Au (λ_ _=>True) λi j=>i - j) (Ad (Ae ixW) (Ab 0) (gC (.int 2))) (gC (.int 1))) (Ab 0) (gC (.int 2))) (Af (gIf (gTB (Ad (Ae (eqF false)) (Ab 2) (gC (.int 0)))) (Ai (Ad (Ae (eqF false)) (Ag Av XF (Aa (Ab 0) (Aa (gC (.int 2)) Ac))) (gC (.int 1)))) Al) (Af (gIf (gOr (gTB (Ad (AG (λi j=>decide (i < j)) As) (Ab 2) (gC (.int 3)))) (gOr (gTB (Ad (AG (λi j=>decide (i < j)) As) (Ab 1) (gC (.int 2)))) (gTB (Ad (AG (λi j=>decide (i < j)) As) (Ad (Ae ixW) (Ab 0) (gC (.int 2))) (gC (.int 1)))))) (Ai (Ad (C9) (Ad (Ae ixW) (Ap (Aa (gC (.int 1)) (Aa (FP (gC (.int 1))) Ac))) (Ag Av XF (Aa (Ab 0) (Aa (gC (.int 2)) Ac)))) (Ag Av XF (Aa (Ab 0) (Aa (Ad (Ae ixW) (Ap (Aa (gC (.int 5)) (Aa (Ad (Au D5 λi j=>i ^ j.toNat) (gC (.int 10)) (gC (.int 30))) Ac))) (Ad (Au EJ λi j=>i / j) (Ag Av XF (Aa (Ab 0) (Aa (gC (.int 6)) Ac))) (gC (.int 5)))) Ac))))) Al) (Af (An 3 (Ap Ac)) (Af (AB (AD (Ap (Aa (gC (.str "a")) (Aa (gC (.str "ab")) (Aa (gC (.str "b")) (Aa (gC (.str "c")) (Aa (gC (.str "zzzzzzzz")) Ac))))))) (gNm 4) (gIf (AV (gTB (Ad (Ae (eqF false)) (Ag Av XF (Aa (Ab 0) (Aa (gC (.int 2)) Ac))) (gC (.int 1)))) (gTB (Ad (AR λi j=>decide (j < i)) (Ad (Ae ixW) (Ab 0) (gC (.int 2))) (gC (.int 0))))) (AA (gMt BZ CV (Ab 3) (Aa (Ah (Aa (Ab 4) (Aa (Ag Dq XF (Aa (Ab 0) (Aa (Ad (Au (λ_ _=>True) λi j=>i - j) (Ab 1) (gC (.int 1))) Ac))) Ac))) Ac))) Al)) (Ai (gB (rF AI) (Aa (Ab 3) Ac)))))))))
variable {Dq:Spw}
theorem lA(T:Tx K mg base a){AL:Nat}(Dj:Df P w K mg base "_law_choice" AL 2 Av)(Dk:AL<=k){EB:Nat}(lB:Df P w K mg base "_law_value" EB 2 Dq)(lC:EB<=k):Dn P w K mg base Vw "_law_value" Lg k (Vy Av Dq):=λ{f cdv A outer s H E}hr=>
 have hu:=Ba hr
 have hN:=Vx.nd
 (Ax (by walk_at "v") (Ax (by walk_at "v") (Ax (by walk_at "v") (Ax (BY (by walk_at "v") (AO (BG (Pj (On (λ_ _=>rfl) (GU (AT rfl GR (AT rfl (gA GR) Bu))) (by walk_at "v")) (by walk_at "v")))) CH) (by walk_at "v")))))
abbrev Vz:List Str:=["state","kind","found","name","mark","inner"]
theorem VB:Az Vz ["state","kind"] (Aq Lh):=by walk_at "s"
def VC(Av:Spw)(Dr:Spw):GS:=(Af (gIf (gTB (Ad (Ae (eqF false)) (Ad (Ae ixW) (Ab 1) (gC (.int 0))) (gC (.str "num")))) (Ai (Ad (Au (λ_ _=>True) λi j=>i - j) (Ag Av XF (Aa (Ab 0) (Aa (gC (.int 9)) Ac))) (gC (.int 4)))) Al) (Af (gIf (gTB (Ad (Ae (eqF false)) (Ad (Ae ixW) (Ab 1) (gC (.int 0))) (gC (.str "truth")))) (Ai (Ad (Ae (eqF false)) (Ag Av XF (Aa (Ab 0) (Aa (gC (.int 2)) Ac))) (gC (.int 1)))) Al) (Af (gIf (gTB (Ad (Ae (eqF false)) (Ad (Ae ixW) (Ab 1) (gC (.int 0))) (gC (.str "any")))) (Ai (Ad (Ae ixW) (Ap (Aa (gC (.int 0)) (Aa (gC (.bl true)) (Aa (Ah Ac) (Aa (Ah (Aa (Ah (Aa (gC (.str "b")) (Aa (gC (.int 2)) Ac))) Ac)) Ac))))) (Ag Av XF (Aa (Ab 0) (Aa (gC (.int 4)) Ac))))) Al) (Af (An 2 FO) (Af (AB (B9 (Ad (Ae ixW) (Ab 1) (gC (.int 1)))) (C7 3 4 5) (gIf (gOr (gTB (Ad (Ae (eqF false)) (Ab 4) (gC (.str "must")))) (gTB (Ad (Ae (eqF false)) (Ag Av XF (Aa (Ab 0) (Aa (gC (.int 2)) Ac))) (gC (.int 1))))) (Ci (Ag Dr XF (Aa (Ab 0) (Aa (Ab 5) Ac))) (Ab 2) (Ab 3)) Al)) (Af (gIf (AV (Ay (Ad (Ae ixW) (Ab 1) (gC (.int 2)))) (gTB (Ad (Ae (eqF false)) (Ag Av XF (Aa (Ab 0) (Aa (gC (.int 2)) Ac))) (gC (.int 1))))) (Ci (gMt Kq Kp (Ab 2) (Aa (gC (.str "b")) (Aa (gC (.int 7)) Ac))) (Ab 2) (gC (.str "b"))) Al) (Ai (gB (rF AI) (Aa (DI (Ab 2)) Ac)))))))))
variable {Dr:Spw}
theorem lD(T:Tx K mg base a){AL:Nat}(Dj:Df P w K mg base "_law_choice" AL 2 Av)(Dk:AL<=k){DX:Nat}(lE:Df P w K mg base "_law_value_of" DX 2 Dr)(lF:DX<=k):Dn P w K mg base Vz "_law_value_of" Lh k (VC Av Dr):=by
 have hN:=VB.nd;walk_at "z"
abbrev VD:List Str:=["state","value","found","name","inner"]
theorem VE:Az VD ["state","value"] (Aq Li):=by walk_at "s"
def VF(Av:Spw)(Ds:Spw):GS:=(Af (gIf (gTB (Ad (Ae (eqF false)) (Ag Av XF (Aa (Ab 0) (Aa (gC (.int 6)) Ac))) (gC (.int 0)))) (Ai (Ad (Ae ixW) (Ap (Aa (gC (.int 3)) (Aa (gC (.bl false)) (Aa (Ah Ac) (Aa (Ah (Aa (Ah (Aa (gC (.str "a")) (Aa (gC (.int 1)) Ac))) Ac)) Ac))))) (Ag Av XF (Aa (Ab 0) (Aa (gC (.int 4)) Ac))))) Al) (Af (gIf (Ay (AH "int" (Ab 1))) (Ai (Ab 1)) Al) (Af (An 2 FO) (Af (AB (B9 (Ab 1)) (BW 3 4) (gIf (gTB (Ad (AR λi j=>decide (j < i)) (Ag Av XF (Aa (Ab 0) (Aa (gC (.int 8)) Ac))) (gC (.int 0)))) (Ci (Ag Ds XF (Aa (Ab 0) (Aa (Ab 4) Ac))) (Ab 2) (Ab 3)) Al)) (Af (gIf (gTB (Ad (Ae (eqF false)) (Ag Av XF (Aa (Ab 0) (Aa (gC (.int 8)) Ac))) (gC (.int 1)))) (Ci (gMt Kq Kp (Ab 2) (Aa (gC (.str "c")) (Aa (gC (.int 0)) Ac))) (Ab 2) (gC (.str "c"))) Al) (Ai (gB (rF AI) (Aa (DI (Ab 2)) Ac))))))))
variable {Ds:Spw}
theorem lG(T:Tx K mg base a){AL:Nat}(Dj:Df P w K mg base "_law_choice" AL 2 Av)(Dk:AL<=k){DY:Nat}(lH:Df P w K mg base "_law_turned" DY 2 Ds)(lI:DY<=k):Dn P w K mg base VD "_law_turned" Li k (VF Av Ds):=by
 have hN:=VE.nd;walk_at "z"
abbrev VG:List Str:=["value"]
theorem VH:Az VG ["value"] (Aq Lj):=by walk_at "s"
def VI(Dt:Spw):GS:=(Af (gIf (Ay (AH "int" (Ab 0))) (Ai (gC (.int 1))) Al) (Ai (Ad (A0) (gC (.int 1)) (gB (DD) (Aa (AF (B9 (Ab 0)) 2 (BW 0 1) AM (Ag Dt XF (Aa (Ab 1) Ac))) Ac)))))
variable {Dt:Spw}
theorem lJ(T:Tx K mg base a){DZ:Nat}(lK:Df P w K mg base "_law_values" DZ 1 Dt)(lL:DZ<=k):Dn P w K mg base VG "_law_values" Lj k (VI Dt):=λ{f cdv A outer s H E}hr=>
 have hu:=Ba hr
 have hN:=VH.nd
 (Ax (by walk_at "v") (AO (BG (FK GR (B7 O2 (OS rfl) rfl T.Rl (by decide) rfl rfl rfl (AT rfl (B0 (Nc:=["name","inner"]) rfl (BV rfl (by decide +kernel) (by decide +kernel)) (λ_=>rfl) (by walk_at "v") (Od (i:=0) (j:=1) rfl (by decide) rfl rfl rfl rfl) (λC fp s1 H1=>BH) (λC fp s1 H1=>(by walk_at "v"))) Bu))))))
abbrev VJ:List Str:=["script","k","kind","state","way","value","turned","some"]
theorem VL:Az VJ ["script","k","kind"] (Aq Lk):=by walk_at "s"
def VM(BS:Spw)(Av:Spw)(Dq:Spw)(Dr:Spw)(Ds:Spw)(Dt:Spw):GS:=(Af (An 3 (Ad (A0) (Ag BS XF (Aa (Ab 0) (Aa (Ab 1) Ac))) (Ap (Aa (gC (.int 12)) Ac)))) (Af (An 4 (Ag Av XF (Aa (Ab 3) (Aa (gC (.int 4)) Ac)))) (Af (gIf (gTB (Ad (Ae (eqF false)) (Ab 4) (gC (.int 0)))) (Ai (Ag Dq XF (Aa (Ab 3) (Aa (gC (.int 4)) Ac)))) Al) (Af (An 5 (Ag Dr XF (Aa (Ab 3) (Aa (Ab 2) Ac)))) (Af (An 6 (Ab 5)) (Af (gIf (gTB (Ad (Ae (eqF false)) (Ab 4) (gC (.int 1)))) (An 6 (Ag Ds XF (Aa (Ab 3) (Aa (Ab 5) Ac)))) Al) (Af (AB (AD (Ap (Aa (Ab 6) (Aa (Ab 5) Ac)))) (gNm 7) (gIf (gTB (Ad (AG (λi j=>decide (i < j)) As) (Ag Dt XF (Aa (Ab 7) Ac)) (gC (.int 101)))) (Ai (Ab 7)) Al)) (Ai (gC (.int 0))))))))))
theorem lM(T:Tx K mg base a){Cw:Nat}(Tc:Df P w K mg base "_law_state" Cw 2 BS)(Td:Cw<=k){AL:Nat}(Dj:Df P w K mg base "_law_choice" AL 2 Av)(Dk:AL<=k){EB:Nat}(lB:Df P w K mg base "_law_value" EB 2 Dq)(lC:EB<=k){DX:Nat}(lE:Df P w K mg base "_law_value_of" DX 2 Dr)(lF:DX<=k){DY:Nat}(lH:Df P w K mg base "_law_turned" DY 2 Ds)(lI:DY<=k){DZ:Nat}(lK:Df P w K mg base "_law_values" DZ 1 Dt)(lL:DZ<=k):Dn P w K mg base VJ "_law_drawn_value" Lk k (VM BS Av Dq Dr Ds Dt):=by
 have hN:=VL.nd;walk_at "z"
theorem sum_nat:∀ a:List Nat,(a.map λc:Nat=>(c:Int)).sum=((a.sum:Nat):Int)
 | []=>rfl
 | c::a=>by rw[Ym,List.sum_cons,List.sum_cons,sum_nat a];omega
theorem VN:∀(a:List Nat)(j:Nat),(a.take j).sum<=a.sum
 | [],j=>by simp
 | c::a,0=>by simp
 | c::a,j+1=>by have:=VN a j;rw[List.take_succ_cons,List.sum_cons,List.sum_cons];omega
theorem Mw:∀{a:List Nat}{c:Nat},c∈a->c<=a.sum
 | d::a,c,h=>by
  rw[List.sum_cons];walk_at "ph"
  ·omega
  ·have:=Mw h;omega
theorem VO{i:Int}(a:0<=i)(h1:i<=1000000):InLong i:=by unfold InLong;omega
theorem lN(a:List Nat)(h:a.sum<=1000000):PyProof.Rows.SumFits (a.map λc:Nat=>(c:Int)):=by
 intro j b;rw[Yh]at b;refine⟨?_,?_⟩
 ·have e:(a.map λc:Nat=>(c:Int)).getD j 0=(a[j]:Int):=by rw[Qe,YT,Yp b];rfl
  have:=Mw (Qk b);rw[e];exact VO (by omega) (by omega)
 ·rw[<- List.map_take,sum_nat];have:=VN a (j+1);exact VO (by omega) (by omega)
theorem lO{a:List Nat}(h:a.sum<=1000000)(e:Kw.C Q)(q:Q (.int (1+(a.sum:Nat))) G)(d:G p=none):DD [.ref p] (put G p (.lst (a.map λc:Nat=>W.int (c:Int)))) λy b=>A0 (.int 1) y b Q:=by
 unfold DD;simp only[Fo Ak,Option.bind_some];rw[show(a.map λc:Nat=>W.int (c:Int))=(a.map λc:Nat=>(c:Int)).map W.int by rw[YB];rfl,L3.QQ];dsimp only;refine⟨lN a h,?_⟩;rw[sum_nat];exact e _ _ _ (A3 d) q
theorem lP(h:n<=1000000):n < sizeLine:=by unfold sizeLine;omega
theorem EC(i:Int)(G:Hw):eqF false (.int i) (.int 1) G=some (.bl (i==1)):=by unfold eqF eqW;show some (W.bl ((i==1) != false))=_;cases(i==1) <;> rfl
theorem VP{d:Hw}{s:Addr}{x e:Int}(i:G s=some (S2 x b r))(g:G p=none)(f:d s=some (S2 e b r))(h:∀ c,c≠s->c≠p->∀ u,G c=some u->d c=some u):Sub (put G s (S2 e b r)) d:=λc u a=>by
 by_cases hc:c=s
 ·subst hc;rw[Ak]at a;rw[f];exact a
 ·rw[Aj hc]at a;exact h c hc (λz=>by subst z;rw[g]at a;cases a) u a
abbrev Pr:=List (Str×Vl)
def ofP:Pr->Ps
 | []=>.nil
 | y::l=>.cons y.1 y.2 (ofP l)
def AW(y:Str×Vl):W:=.tup [.str y.1,y.2.enc]
theorem VQ:∀ l:Pr,(ofP l).enc=l.map AW
 | []=>rfl
 | y::l=>by show AW y::(ofP l).enc=AW y::l.map AW;rw[VQ l]
theorem Mx:∀ l:Pr,(ofP l).names=l.map (·.1)
 | []=>rfl
 | y::l=>by show y.1::(ofP l).names=y.1::l.map (·.1);rw[Mx l]
theorem Fj:∀ l:Pr,(ofP l).cnt=(l.map λy=>y.2.cnt).sum
 | []=>rfl
 | y::l=>by rw[Ym,List.sum_cons,<- Fj l];rfl
theorem IH{n:Nat}:∀ l:Pr,(∀ y∈l,y.2.dp<=n)->(ofP l).dp<=n
 | [],_=>YZ _
 | y::l,h=>by
  have h1:=h y Ye;have h2:=IH l λz a=>h z (Yd _ a);show max y.2.dp (ofP l).dp<=n;omega
theorem VR{m:Nat}:∀ l:Pr,(∀ y∈l,AE y.1=true/\y.2.ok m=true)->(ofP l).ok m=true
 | [],_=>rfl
 | y::l,h=>by
  obtain⟨h1,h2⟩:=h y Ye;show(AE y.1&&y.2.ok m&&(ofP l).ok m)=true;rw[h1,h2,VR l λz a=>h z (Yd _ a)];rfl
variable {l:Pr}
theorem Gj(h1:(l.map (·.1)).Pairwise (λx y=>As x y=true))(h2:l.length<=m)(a:∀ y∈l,AE y.1=true/\y.2.ok m=true):(Vl.row (ofP l)).ok m=true:=by
 show(rise (ofP l).names&&(decide ((ofP l).names.length<=m)&&(ofP l).ok m))=true;rw[Mx,LZ h1,VR l a,Yh,YI h2];rfl
theorem D1(l:Pr):(Vl.row (ofP l)).enc=.tup (l.map AW):=by rw[<- VQ];rfl
def Ps.toP:Ps->Pr
 | .nil=>[]
 | .cons n v r=>(n,v)::r.toP
theorem My:∀ ps:Ps,ofP ps.toP=ps
 | .nil=>rfl
 | .cons n v r=>by show Ps.cons n v (ofP r.toP)=_;rw[My r]
theorem lQ(h:(Vl.row (ofP l)).ok m=true):(l.map (·.1)).Pairwise (λx y=>As x y=true)/\l.length<=m/\∀ y∈l,AE y.1=true/\y.2.ok m=true:=by
 obtain⟨h1,h2⟩:=EA h;have b:=Mq h;rw[Mx]at h1 b;rw[Yh]at b;refine⟨HV h1,b,?_⟩
 have go:∀ l:Pr,(ofP l).ok m=true->∀ y∈l,AE y.1=true/\y.2.ok m=true:=by
  intro l;induction l with
  | nil=>intro _ y a;cases a
  | cons z l d =>
   intro g y a;have c:(AE z.1&&z.2.ok m&&(ofP l).ok m)=true:=g;simp only[YH]at c;walk_at "pg"
   ·exact c.1
   ·exact d c.2 y a
 exact go l h2
theorem Mz:∀ y∈l,y.2.dp<=(ofP l).dp:=by
 induction l with
 | nil=>intro y a;cases a
 | cons z l b =>
  intro y a;show _<=max z.2.dp (ofP l).dp;walk_at "pg"
  ·exact Nat.le_max_left _ _
  ·exact Yt (b y a) (Nat.le_max_right _ _)
mutual
theorem II:∀{m n:Nat}(v:Vl),m<=n->v.ok m=true->v.ok n=true
 | m,n,.int _,_,_=>rfl
 | m,n,.bl _,_,_=>rfl
 | m,n,.row ps,h,a=>by
  obtain⟨h1,h2⟩:=EA a;have b:=Mq a;show(rise ps.names&&(decide (ps.names.length<=n)&&ps.ok n))=true;rw[h1,VS ps h h2,YI (Yt b h)];rfl
theorem VS:∀{m n:Nat}(ps:Ps),m<=n->ps.ok m=true->ps.ok n=true
 | m,n,.nil,_,_=>rfl
 | m,n,.cons x v r,h,a=>by
  have h':(AE x&&v.ok m&&r.ok m)=true:=a;walk_at "pc";show(AE x&&v.ok n&&r.ok n)=true;rw[h'.1.1,II v h h'.1.2,VS r h h'.2];rfl
end
theorem lR{a:Pr}(h:a.Perm l):(a.map λy=>y.2.cnt).sum=(l.map λy=>y.2.cnt).sum:=(h.map _).sum_nat
theorem VT(h:(l.map (·.1)).Nodup):l.Nodup:=List.Pairwise.of_map _ (λa b c e=>c (by rw[e])) h
theorem lS{a:Pr}(h1:(a.map (·.1)).Nodup)(h2:(l.map (·.1)).Nodup)(h:∀ y,y∈a↔y∈l):a.Perm l:=(List.perm_ext_iff_of_nodup (VT h1) (VT h2)).mpr h
abbrev ED(n:Nat):Spw:=spR (λ(v:Vl)ws _=>ws=[v.enc]/\v.dp<=n/\v.cnt<=1000000) λv=>.int v.cnt
theorem VU{n:Nat}{R:List W->Hw->Prop}{G:Hw}:∀(l:Pr)(b c:Option W)(a:List W),(∀ y∈l,y.2.dp<=n/\y.2.cnt<=1000000)->a.length+l.length < sizeLine->R (a++l.map λy=>W.int y.2.cnt) G->
  Be yes (BW 0 1) AM (Ag (ED n) XF (L3.Aa (Ab 1) L3.Ac)) R (l.map AW) [b,c] G a
 | [],b,c,a,_,_,h=>⟨trivial,by rw[YJ,Yx]at h;exact h⟩
 | y::l,b,c,a,d,hl,h=>by
  rw[Yg]at hl;refine⟨trivial,by omega,?_⟩;show Ag (ED n) XF (L3.Aa (Ab 1) L3.Ac) [some (.str y.1),some y.2.enc] G λz e=>Be yes (BW 0 1) AM (Ag (ED n) XF (L3.Aa (Ab 1) L3.Ac)) R (l.map AW) [some (.str y.1),some y.2.enc] e (a++[z]);refine⟨y.2,⟨rfl,d y Ye⟩,?_⟩;refine VU l _ _ _ (λz f=>d z (Yd _ f)) (by rw[Yj];simp only[Yg,Yi];omega) ?_;rw[Yv];exact h
theorem VV:∀ l:Pr,l.length<=(l.map λy=>y.2.cnt).sum
 | []=>YZ _
 | y::l=>by have:=VV l;have:=Mn y.2;rw[Ym,List.sum_cons,Yg];omega
theorem DZ(T:Tx K mg base a):∀ n:Nat,Df P w K mg base "_law_values" (n+1) 1 (ED n)
 | 0=>CY T.Rg BJ λg G Q E⟨v,⟨_,hd,_⟩,_⟩=>by have:=Gg v;omega
 | n+1=>by
  refine mk0 T.Rg rfl VH BJ (λg G Q E⟨x,⟨e,_⟩,_⟩=>by rw[e];rfl) (lJ T (DZ T n) (Yr _)) λg G Q E m q=>?_;obtain⟨v,⟨rfl,hd,hc⟩,q⟩:=q;dsimp only at hd hc q;unfold VI;show Af (gIf _ _ Al) _ (Ar Q) [some v.enc] G;simp only[Af,gIf,Ay,AH,Ab,Yb];cases v with
  | int i =>
   simp only[Vl.enc,tyN,IE,AN,if_true,Ai,gC];exact q
  | bl b =>
   simp only[Vl.enc,tyN,Mt,AN,if_true,Ai,gC];exact q
  | row ps =>
   obtain⟨l,rfl⟩:∃ l,ps=ofP l:=⟨ps.toP,(My ps).symm⟩;have k:1+(ofP l).dp<=n+1:=hd;have d:1+(ofP l).cnt<=1000000:=hc;rw[Fj]at d;have hl:=VV l;rw[D1];simp only[tyN,IF,AN,Yq,if_false,Al,Ai,Ad,gB,AF,B9,Ab,gC,L3.Aa,L3.Ac,Yb];refine VU (n:=n) l none none [] (λy h=>⟨by have:=Mz (l:=l) y h;omega,by have:=Mw (YN (f:=λy:Str×Vl=>y.2.cnt) h);omega⟩) (lP (by simp only[Yi];omega)) λp j=>?_;rw[Yw,show(l.map λy=>W.int y.2.cnt)=(l.map λy=>y.2.cnt).map λc:Nat=>W.int (c:Int) by rw[YB];rfl];refine lO (by omega) m ?_ j
   have e:(1:Int)+((l.map λy=>y.2.cnt).sum:Nat)=((Vl.row (ofP l)).cnt:Int):=by
    show(1:Int)+((l.map λy=>y.2.cnt).sum:Nat)=((1+(ofP l).cnt:Nat):Int);rw[Fj];omega
   rw[e];exact q
def VW(d c:Int)(v:Vl):Prop:=v.ok 5=true/\(v.dp:Int)<=d/\(v.cnt:Int)<=max c 1
def Du(n:Nat):Spw:=λws G Q _=>∃(s:Addr)(x d c:Int)(b:Bool),ws=[.ref s,.int d]/\1<=d/\d<=(n:Int)+1/\G s=some (.lst [.int x,.bl b,.int c])/\∀(v:Vl)(x':Int),VW d c v->Q v.enc (put G s (.lst [.int x',.bl b,.int (c - v.cnt)]))
theorem lT:Spw.M (Du n):=(by rintro i G Q j E l h _ ⟨s,x,d,c,b,h1,h2,e,f,q⟩;exact⟨s,x,d,c,b,h1,h2,e,f,λk a g=>h _ _ (q k a g)⟩)
abbrev gVB(sp:Spw):GS:=gIf (AV (gTB (Ad (Ae (eqF false)) (Ag BO XF (L3.Aa (Ab 0) (L3.Aa (gC (.int 2)) L3.Ac))) (gC (.int 1)))) (gTB (Ad (AR λi j=>decide (j < i)) (Ad (Ae ixW) (Ab 0) (gC (.int 2))) (gC (.int 0))))) (AA (gMt BZ CV (Ab 3) (L3.Aa (L3.Ah (L3.Aa (Ab 4) (L3.Aa (Ag sp XF (L3.Aa (Ab 0) (L3.Aa (Ad (Au (λ_ _=>True) λi j=>i - j) (Ab 1) (gC (.int 1))) L3.Ac))) L3.Ac))) L3.Ac))) Al
theorem MA{n:Nat}{D:Ew}{s p w:Addr}{d c:Int}{b:Bool}{items:List W}{K:Option W}(E:2<=d)(H:d<=(n:Int)+2):∀(xs:List Str)(L:Option W)(G:Hw)(l:Pr)(x a:Int),G s=some (.lst [.int x,.bl b,.int a])->G p=some (.lst (l.map AW))->G w=some (.lst items)->p≠s->w≠s->w≠p->l.length+xs.length<=100->a=c -(ofP l).cnt->0<=a->
  (∀ ω k g A,(∃ u,ω=[some (.ref s),some (.int d),K,some (.ref p),u])->k s=some (.lst [.int A,.bl b,.int (c -(ofP (l++g)).cnt)])->((ofP (l++g)).cnt:Int)<=c->k p=some (.lst ((l++g).map AW))->(∀ b,b≠s->b≠p->∀ u,G b=some u->k b=some u)->(g.map (·.1)).Sublist xs->(∀ z∈g,z.2.ok 5=true/\(z.2.dp:Int)<=d - 1)->D.nx ω k)->
  A8 (holds w items) (gNm 4) (gVB (Du n)) D (xs.map W.str) [some (.ref s),some (.int d),K,some (.ref p),L] G
 | [],L,G,l,x,a,S,U,B,_,_,_,_,T,Z,f=>⟨B,f _ G [] x ⟨L,rfl⟩ (by rw[Yx,<- T];exact S) (by rw[Yx];omega) (by rw[Yx];exact U) (λb _ _ u h=>h) (.refl _) (by intro z y;cases y)⟩
 | nm::xs,L,G,l,x,a,S,U,B,e,i,o,hl,T,Z,f=>by
  refine⟨B,?_⟩;show gVB (Du n) _ [some (.ref s),some (.int d),K,some (.ref p),some (.str nm)] G;have hlx:l.length+(xs.length+1)<=100:=hl;simp only[gIf,AV,gTB,Ad,Ag,L3.Aa,L3.Ac,Ab,gC,Ae,Yb,Yc];refine⟨s,2,x,b,[.int a],rfl,by decide,by decide,S,λr q r0 r1=>?_⟩;have t:put G s (.lst [.int q,.bl b,.int a]) s=some (.lst [.int q,.bl b,.int a]):=Ak;have m:put G s (.lst [.int q,.bl b,.int a]) p=some (.lst (l.map AW)):=by rw[Aj e];exact U
  have Q:put G s (.lst [.int q,.bl b,.int a]) w=some (.lst items):=by rw[Aj i];exact B
  have skip:A8 (holds w items) (gNm 4) (gVB (Du n)) D (xs.map W.str) [some (.ref s),some (.int d),K,some (.ref p),some (.str nm)] (put G s (.lst [.int q,.bl b,.int a])):=by
   refine MA E H xs _ _ l q a t m Q e i o (by omega) T Z ?_;intro ω k g A hω J j I R O X;exact f ω k g A hω J j I (λc F N u P=>R c F N u (by rw[Aj F];exact P)) (O.cons nm) X
  dsimp only;rw[EC,Ao];dsimp only;refine BF (λ_=>?_) (λ_=>skip);rw[ix2 t,Ao];show if decide (0 < a)=true then _ else _
  refine BF (λY=>?_) (λ_=>skip);have Y:0 < a:=by simpa using Y
  simp only[AA,gMt,L3.Ah,Ad,Ag,Au,L3.Aa,L3.Ac,Ab,gC,Yb,Yc];refine⟨Ff m,trivial,s,q,d - 1,a,b,rfl,by omega,by omega,t,λv x3 hk=>?_⟩;refine⟨(Qzz 2),?_⟩;refine LX (by rw[Aj e];exact m) (by rw[Yh];exact Ep (by omega)) ?_;have ee:l.map AW++[W.tup [.str nm,v.enc]]=(l++[(nm,v)]).map AW:=by rw[Yy];rfl
  rw[ee,Cr];have ec:(ofP (l++[(nm,v)])).cnt=(ofP l).cnt+v.cnt:=by rw[Fj,Fj,Yy,List.sum_append];simp
  obtain⟨k1,k2,k3⟩:=hk;refine MA (c:=c) E H xs _ _ (l++[(nm,v)]) x3 (a - v.cnt) (by rw[Aj (Qa e)];exact Ak) Ak ?_ e i o (by rw[Yj];simp only[Yg,Yi];omega) (by rw[ec];omega) (by omega) ?_
  ·rw[Aj o,Aj i];exact B
  ·intro ω k g A hω J j I R O X;rw[Yv]at J j I;refine f ω k ((nm,v)::g) A hω J j I (λc F N u P=>R c F N u ?_) (O.cons_cons nm) ?_
   ·rw[Aj N,Aj F];exact P
   ·intro z y;rcases Yo.mp y with rfl | y
    ·exact⟨k1,k2⟩
    ·exact X z y
abbrev LV:List Str:=["a","ab","b","c","zzzzzzzz"]
theorem VX:Gb LV:=⟨by decide +kernel,by decide +kernel,by decide⟩
theorem lU{d:Int}(hd:1<=d)(h:(∃ i,v=.int i)\/∃ b,v=.bl b):VW d c v/\v.cnt=1:=by
 rcases h with⟨i,rfl⟩|⟨b,rfl⟩
 ·exact⟨⟨rfl,by show(1:Int)<=d;omega,by show(1:Int)<=_;omega⟩,rfl⟩
 ·exact⟨⟨rfl,by show(1:Int)<=d;omega,by show(1:Int)<=_;omega⟩,rfl⟩
theorem VY(T:Tx K mg base a)(D:Df P w K mg base "_law_value" j 2 sp)(hj:j<=n+1)(hK:n=0\/∃ m,n=m+1/\sp=Du m):Df P w K mg base "_law_value" (n+2) 2 (Du n):=by
 refine mk0 (k:=n+1) T.Rc rfl Vx lT ((by rintro ws G Q E ⟨s,x,d,c,b,e,_⟩;rw[e];rfl)) (lA T (AL T) (by omega) D hj) λws G Q E hC q=>?_;obtain⟨s,x,d,c,b,rfl,hd1,hd2,hs,q⟩:=q;unfold Vy;show Af (An 2 _) _ (Ar Q) [some (.ref s),some (.int d),none,none,none] G;simp only[Af,An,Ag,L3.Aa,L3.Ac,Ab,gC,Yb,Yc];refine⟨s,7,x,b,[.int c],rfl,by decide,by decide,hs,λr f r0 r7=>?_⟩;have h1:put G s (.lst [.int f,.bl b,.int c]) s=some (.lst [.int f,.bl b,.int c]):=Ak;simp only[Yk,Yl,Bw,Ad,Au,Ae,Ab,gC,Yb,Yc,ix2 h1,Ao];refine⟨trivial,LW h1 ?_⟩;rw[Cr];have h2:put G s (.lst [.int f,.bl b,.int (c - 1)]) s=some (.lst [.int f,.bl b,.int (c - 1)]):=Ak
 have t:∀(v:Vl)(S:Int),((∃ i,v=.int i)\/∃ b,v=.bl b)->Q v.enc (put (put G s (.lst [.int f,.bl b,.int (c - 1)])) s (.lst [.int S,.bl b,.int (c - 1)])):=λv S hv=>by
  obtain⟨g1,g2⟩:=lU (c:=c) hd1 hv;rw[Cr];have:=q v S g1;rw[g2]at this;exact this
 have hG2:∀ a u,G a=some u->a≠s->put G s (.lst [.int f,.bl b,.int (c - 1)]) a=some u:=λa u g h=>by rw[Aj h];exact g
 simp only[Af,gIf,gTB,Ad,Ae,Ab,gC,Yb,Yc];rw[show eqF false (.int r) (.int 0) (put G s (.lst [.int f,.bl b,.int (c - 1)]))=some (.bl (r==0)) by unfold eqF eqW;show some (W.bl ((r==0) != false))=_;cases(r==0) <;> rfl,Ao];refine BF (λ_=>?_) (λ_=>?_)
 ·simp only[Ai,Ad,Ag,Ae,L3.Aa,L3.Ac,Ab,gC,Yb,Yc];refine⟨s,2,f,b,[.int (c - 1)],rfl,by decide,by decide,h2,λL o _ _=>?_⟩;dsimp only;rw[EC,Ao];exact t (.bl (L==1)) o (.inr ⟨_,rfl⟩)
 simp only[Al,Af,gIf,gOr,gTB,Ad,AG,Ae,Ab,gC,Yb,Yc,ix2 h2,Ao]
 have num:∀ D:Ew,D.rt=Q->Ai (Ad (C9) (Ad (Ae ixW) (Ap (L3.Aa (gC (.int 1)) (L3.Aa (FP (gC (.int 1))) L3.Ac))) (Ag BO XF (L3.Aa (Ab 0) (L3.Aa (gC (.int 2)) L3.Ac)))) (Ag BO XF (L3.Aa (Ab 0) (L3.Aa (Ad (Ae ixW) (Ap (L3.Aa (gC (.int 5)) (L3.Aa (Ad (Au D5 λi j=>i ^ j.toNat) (gC (.int 10)) (gC (.int 30))) L3.Ac))) (Ad (Au EJ λi j=>i / j) (Ag BO XF (L3.Aa (Ab 0) (L3.Aa (gC (.int 6)) L3.Ac))) (gC (.int 5)))) L3.Ac)))) D [some (.ref s),some (.int d),some (.int r),none,none] (put G s (.lst [.int f,.bl b,.int (c - 1)])):=λD hD=>by
  simp only[Ai,Ad,Ap,FP,Ag,Ae,Au,L3.Aa,L3.Ac,Ab,gC,Yb,Yc,hD];refine⟨1,rfl,(Qzz 2),λp R=>?_⟩;have H:s≠p:=AC h2 R;refine⟨s,2,f,b,[.int (c - 1)],rfl,by decide,by decide,by rw[Aj H];exact h2,λL o g0 g1=>?_⟩;have hp3:put (put (put G s (.lst [.int f,.bl b,.int (c - 1)])) p (.lst [.int 1,.int (-1)])) s (.lst [.int o,.bl b,.int (c - 1)]) p=some (.lst [.int 1,.int (-1)]):=by rw[Aj (Qa H)];exact Ak
  have z:put (put (put G s (.lst [.int f,.bl b,.int (c - 1)])) p (.lst [.int 1,.int (-1)])) s (.lst [.int o,.bl b,.int (c - 1)]) s=some (.lst [.int o,.bl b,.int (c - 1)]):=Ak;have k3:∀ a u,put G s (.lst [.int f,.bl b,.int (c - 1)]) a=some u->a≠s->put (put (put G s (.lst [.int f,.bl b,.int (c - 1)])) p (.lst [.int 1,.int (-1)])) s (.lst [.int o,.bl b,.int (c - 1)]) a=some u:=λa u g h=>by rw[Aj h,Aj (AC g R)];exact g
  generalize put (put (put G s (.lst [.int f,.bl b,.int (c - 1)])) p (.lst [.int 1,.int (-1)])) s (.lst [.int o,.bl b,.int (c - 1)])=G3 at hp3 z k3 ⊢
  obtain⟨X,hsg,esg⟩:∃ X:Int,(-(2 ^ 64) < X/\X < 2 ^ 64)/\atI [W.int 1,.int (-1)] L=some (.int X):=by
   have:L=0\/L=1:=by omega
   rcases this with rfl | rfl
   ·exact⟨1,by decide,A1⟩
   ·exact⟨-1,by decide,Bb⟩
  dsimp only;rw[BQ hp3,esg,Ao];refine⟨⟨by decide,by decide,by decide⟩,(Qzz 2),λI Z=>?_⟩;have n4:s≠I:=AC z Z;refine⟨s,6,o,b,[.int (c - 1)],rfl,by decide,by decide,by rw[Aj n4];exact z,λr5 J g5 g6=>⟨⟨by decide,by decide⟩,?_⟩⟩;have N:put (put G3 I (.lst [.int 5,.int ((10:Int) ^ (30:Int).toNat)])) s (.lst [.int J,.bl b,.int (c - 1)]) I=some (.lst [.int 5,.int ((10:Int) ^ (30:Int).toNat)]):=by rw[Aj (Qa n4)];exact Ak
  have O:put (put G3 I (.lst [.int 5,.int ((10:Int) ^ (30:Int).toNat)])) s (.lst [.int J,.bl b,.int (c - 1)]) s=some (.lst [.int J,.bl b,.int (c - 1)]):=Ak;have k5:∀ a u,G3 a=some u->a≠s->put (put G3 I (.lst [.int 5,.int ((10:Int) ^ (30:Int).toNat)])) s (.lst [.int J,.bl b,.int (c - 1)]) a=some u:=λa u g h=>by rw[Aj h,Aj (AC g Z)];exact g
  generalize put (put G3 I (.lst [.int 5,.int ((10:Int) ^ (30:Int).toNat)])) s (.lst [.int J,.bl b,.int (c - 1)])=G5 at N O k5 ⊢
  obtain⟨U,Y,emm⟩:∃ U:Int,(0 < U/\U < 1267650600228229401496703205376)/\atI [W.int 5,.int ((10:Int) ^ (30:Int).toNat)] (r5 / 5)=some (.int U):=by
   have:r5 / 5=0\/r5 / 5=1:=by omega
   rcases this with e | e <;> rw[e]
   ·exact⟨5,by decide,A1⟩
   ·exact⟨_,by decide,Bb⟩
  try dsimp only
  rw[BQ N,emm,Ao];refine⟨s,U,J,b,[.int (c - 1)],rfl,Y.1,Y.2,O,λr6 x6 _ _=>⟨.inl hsg,?_⟩⟩;refine hC _ _ _ (λa u g=>?_) (t (.int (X*r6)) x6 (.inl ⟨_,rfl⟩));by_cases h:a=s
  ·subst h;rw[Ak]at g ⊢;exact g
  ·rw[Aj h]at g ⊢;exact k5 a u (k3 a u g h) h
 have row:2<=d->1<=c - 1->(∃ m,n=m+1/\sp=Du m)->Af (An 3 (Ap L3.Ac)) (Af (AB (AD (Ap (L3.Aa (gC (.str "a")) (L3.Aa (gC (.str "ab")) (L3.Aa (gC (.str "b")) (L3.Aa (gC (.str "c")) (L3.Aa (gC (.str "zzzzzzzz")) L3.Ac))))))) (gNm 4) (gVB sp)) (Ai (gB (rF AI) (L3.Aa (Ab 3) L3.Ac)))) (Ar Q) [some (.ref s),some (.int d),some (.int r),none,none] (put G s (.lst [.int f,.bl b,.int (c - 1)])):=by
  rintro z1 z2 ⟨m,rfl,rfl⟩;simp only[Af,An,Ap,AB,AD,L3.Aa,L3.Ac,gC,Yk,Yl];refine⟨(Qzz 0),λp R=>⟨(Qzz 5),λq0 A=>?_⟩⟩;have H:s≠p:=AC h2 R;have n2:s≠q0:=AC (by rw[Aj H];exact h2) A;have n3:p≠q0:=AC Ak A;simp only[Ak];refine MA (n:=m) (c:=c - 1) z1 (by omega) LV none _ [] f (c - 1) (by rw[Aj n2,Aj H];exact h2) (by rw[Aj n3];exact Ak) Ak (Qa H) (Qa n2) (Qa n3) (by decide) (by show c - 1=c - 1 -((0:Nat):Int);omega) (by omega) ?_;intro ω G' l S hω f1 f1' f2 f3 f4 f5;obtain⟨u,rfl⟩:=hω;rw[Yw]at f1 f1' f2;simp only[Ai,gB,rF,Ab,L3.Aa,L3.Ac,Yb,Yc];rw[show AI [.ref p] G'=some (.tup (l.map AW)) by unfold AI;dsimp only;rw[Zip f2];rfl,Ao];have hdp:(ofP l).dp<=(d - 1).toNat:=IH l λy hy=>by have:=(f5 y hy).2;omega
  have ek:(Vl.row (ofP l)).cnt=1+(ofP l).cnt:=rfl;have ed:(Vl.row (ofP l)).dp=1+(ofP l).dp:=rfl;have:=q (.row (ofP l)) S ⟨Gj (VX.1.sublist f4) (by have h1:=f4.length_le;have h2:LV.length=5:=rfl;rw[Yh]at h1;omega) λy hy=>⟨VX.2.1 _ (f4.subset (YN hy)),(f5 y hy).1⟩,by rw[ed];omega,by rw[ek];omega⟩;rw[D1,ek]at this;refine hC _ _ _ (λa u g=>?_) this;by_cases h:a=s
  ·subst h;rw[Ak]at g;rw[f1,<- g,show c - 1 -((ofP l).cnt:Int)=c -((1+(ofP l).cnt:Nat):Int) by omega]
  ·rw[Aj h]at g;have F:put G s (.lst [.int f,.bl b,.int (c - 1)]) a=some u:=by rw[Aj h];exact g
   have B:=AC F R;have haq:a≠q0:=AC (by rw[Aj B];exact F) A;exact f3 a h B u (by rw[Aj haq,Aj B];exact F)
 refine BF (λ_=>num _ rfl) (λz3=>?_);refine BF (λ_=>num _ rfl) (λzd=>?_)
 have zd:2<=d:=by have:¬ d < 2:=by simpa using zd
                  omega
 refine BF (λ_=>num _ rfl) (λzc=>?_)
 have zc:1<=c - 1:=by have:¬ c - 1 < 1:=by simpa using zc
                      omega
 rcases hK with rfl | hK
 ·exact absurd hd2 (by omega)
 ·exact row zd zc hK
theorem EB(T:Tx K mg base a):∀ n:Nat,Df P w K mg base "_law_value" (n+2) 2 (Du n):=λn=>by
 induction n with
 | zero=>exact VY T (n:=0) (sp:=F8) (CY (sp:=F8) (k:=0) T.Rc HQ λ_ _ _ _ h=>h) (by omega) (.inl rfl)
 | succ n b=>exact VY T (n:=n+1) (sp:=Du n) b (by omega) (.inr ⟨n,rfl,rfl⟩)
theorem Gk{xs:List Str}(h:xs.Pairwise (λx y=>As x y=true)):xs.Nodup:=h.imp λ{x y}a e=>by rw[e,Gd]at a;cases a
def Fs.toL:Fs->List (Str×Bool×Kd)
 | .nil=>[]
 | .cons n m k r=>(n,m,k)::r.toL
theorem VZ:∀ fs:Fs,ofL fs.toL=fs
 | .nil=>rfl
 | .cons n m k r=>by show Fs.cons n m k (ofL r.toL)=_;rw[VZ r]
theorem lV{M:Nat}{l:List (Str×Bool×Kd)}(h:wf M (.row (ofL l) o)):(l.map (·.1)).Pairwise (λx y=>As x y=true)/\CK M (l.map (·.1))=true/\∀ y∈l,AE y.1=true/\wf M y.2.2:=by
 obtain⟨h1,h2⟩:=h;have p:=(j7 h1).1;rw[Ga]at p;have b:(CK M (ofL l).names&&(ofL l).thr M)=true:=h2;simp only[YH]at b;have e:(rise (ofL l).names&&(ofL l).ok)=true:=h1;simp only[YH]at e;refine⟨p,by have:=b.1;rw[Ga]at this;exact this,?_⟩
 have go:∀ l:List (Str×Bool×Kd),(ofL l).ok=true->(ofL l).thr M=true->∀ y∈l,AE y.1=true/\wf M y.2.2:=by
  intro l;induction l with
  | nil=>intro _ _ y d;cases d
  | cons z l f =>
   intro g1 g2 y d;have a:(AE z.1&&z.2.2.ok&&(ofL l).ok)=true:=g1;have c:(z.2.2.thr M&&(ofL l).thr M)=true:=g2;simp only[YH]at a c;rcases Yo.mp d with rfl | d
   ·exact⟨a.1.1,a.1.2,c.1⟩
   ·exact f a.2 c.2 y d
 exact go l e.2 b.2
theorem V0{l:List (Str×Bool×Kd)}:∀ y∈l,y.2.2.dp<=(ofL l).dp:=by
 induction l with
 | nil=>intro y a;cases a
 | cons z l b =>
  intro y a;show _<=max z.2.2.dp (ofL l).dp;walk_at "pg"
  ·exact Nat.le_max_left _ _
  ·exact Yt (b y a) (Nat.le_max_right _ _)
theorem lW{l:List (Str×Bool×Kd)}:(ofL l).dat=true->∀ y∈l,y.2.2.dat=true:=by
 induction l with
 | nil=>intro _ y a;cases a
 | cons z l b =>
  intro h y a;have h':(z.2.2.dat&&(ofL l).dat)=true:=h;walk_at "pc";walk_at "pg"
  ·exact h'.1
  ·exact b h'.2 y a
def kvP(y:Str×Vl):Key×W:=(Sum.inr y.1,y.2.enc)
theorem V1{x:Str}:∀ l:Pr,x∉l.map (·.1)->(l.map kvP).any (λkv=>decide (kv.1=Sum.inr x))=false
 | [],_=>rfl
 | y::l,h=>by
  rw[Ym,List.any_cons,V1 l λz=>h (Yd _ z),Bool.or_false];exact decide_eq_false λz=>h (by rw[show x=y.1 from(Sum.inr.inj z).symm];exact Ye)
theorem MB(h:x∉l.map (·.1)):BN (l.map kvP) (Sum.inr x) v.enc=(l++[(x,v)]).map kvP:=by
 unfold BN;rw[V1 l h,if_neg (by decide),Yy];rfl
theorem V2{x:Str}{d:W}:∀ l:Pr,x∉l.map (·.1)->BM (l.map kvP) x d=d
 | [],_=>rfl
 | y::l,h=>by
  show BM ((Sum.inr y.1,y.2.enc)::l.map kvP) x d=d;rw[FL,if_neg λz=>h (by rw[show x=y.1 from(Sum.inr.inj z).symm];exact Ye)];exact V2 l λz=>h (Yd _ z)
theorem V3{x:Str}{d:W}:∀ l:Pr,(l.map (·.1)).Nodup->∀ v,(x,v)∈l->BM (l.map kvP) x d=v.enc
 | y::l,h,v,a=>by
  have h':(y.1::l.map (·.1)).Nodup:=h;obtain⟨h1,h2⟩:=YW.mp h';show BM ((Sum.inr y.1,y.2.enc)::l.map kvP) x d=v.enc;rw[FL];rcases Yo.mp a with e | a
  ·rw[<- e,if_pos rfl]
  ·rw[if_neg λz=>h1 (by rw[Sum.inr.inj z];exact YC.mpr ⟨_,a,rfl⟩)];exact V3 l h2 v a
theorem lX(h:(l.map (·.1)).Nodup)(a:(x,v)∈l):BN (l.map kvP) (Sum.inr x) v.enc=l.map kvP:=by
 unfold BN;rw[if_pos (List.any_eq_true.mpr ⟨kvP (x,v),YN a,YI rfl⟩),YB];refine List.map_congr_left λy b=>?_;show(if(kvP y).1=Sum.inr x then((kvP y).1,v.enc)else kvP y)=kvP y;by_cases e:(kvP y).1=Sum.inr x
 ·rw[if_pos e];have:y=(x,v):=Hg h b a (Sum.inr.inj e);rw[this];rfl
 ·rw[if_neg e]
variable {d:Vl}
theorem V4(h:(l.map (·.1)).Nodup):∃ b:Pr,BN (l.map kvP) (Sum.inr x) (BM (l.map kvP) x d.enc)=b.map kvP/\(b=l\/(b=l++[(x,d)]/\x∉l.map (·.1))):=by
 by_cases a:x∈l.map (·.1)
 ·obtain⟨y,c,rfl⟩:=YC.mp a;refine⟨l,?_,.inl rfl⟩;rw[V3 l h y.2 c,lX h c]
 ·exact⟨l++[(x,d)],by rw[V2 l a,MB a],.inr ⟨rfl,a⟩⟩
theorem lY(h:(l.map (·.1)).Nodup)(g:x∉l.map (·.1)):((l++[(x,d)]).map (·.1)).Nodup:=by
 rw[Yy]
 exact List.nodup_append.mpr ⟨h,.cons (by intro a c;cases c) .nil,λa c b i e=>by
  have f:b=x:=YA.mp i;subst f;subst e;exact g c⟩
theorem nd3{a:Pr}(h:(l.map (·.1)).Nodup)(b:a=l\/(a=l++[(x,d)]/\x∉l.map (·.1))):(a.map (·.1)).Nodup:=by
 rcases b with rfl |⟨rfl,c⟩
 ·exact h
 ·exact lY h c
theorem dl3{a:Pr}(h:Rs (l.map (·.1)))(b:a=l\/(a=l++[(x,d)]/\x∉l.map (·.1))):Rs (a.map (·.1)).dropLast:=by
 rcases b with rfl |⟨rfl,c⟩
 ·exact h.sublist (List.dropLast_sublist _)
 ·rw[Yy,Ym,YJ,List.dropLast_concat];exact h
def prW(y:Str×Vl):Str×W:=(y.1,y.2.enc)
theorem V5{l:Pr}:∀ b:List (Str×W),(∀ y∈b,∃ z∈l,prW z=y)->∃ c:Pr,c.map prW=b/\∀ z∈c,z∈l
 | [],_=>⟨[],rfl,by intro z d;cases d⟩
 | y::b,h=>by
  obtain⟨z,d,e⟩:=h y Ye;obtain⟨c,f,h2⟩:=V5 b λu a=>h u (Yd _ a);refine⟨z::c,by rw[Ym,e,f],λu a=>?_⟩;walk_at "pg"
  ·exact d
  ·exact h2 u a
theorem V6(s:Kw.C Q)(hω:ω[2]?=some (some (.ref p)))(o:G p=some (.dct (l.map kvP)))(j:l.length<=12)(h:(l.map (·.1)).Nodup)(g:Rs (l.map (·.1)).dropLast)(q:∀ a:Pr,(a.map (·.1)).Pairwise (λx y=>As x y=true)->a.Perm l->Q (Vl.row (ofP a)).enc G):Ai (gB (rF AI) (L3.Aa (DI (Ab 2)) L3.Ac)) (Ar Q) ω G:=by
 simp only[Ai,gB,rF,DI,L3.Aa,L3.Ac,Ab,hω];refine⟨p,l.map prW,rfl,by rw[YB];exact o,by rw[YB];exact h,by rw[YB];exact g,by rw[Yh];exact j,λa r h1 h2 k=>?_⟩
 obtain⟨c,n,i⟩:=V5 (l:=l) a λy d=>by
  obtain⟨z,f,e⟩:=YC.mp ((h2 y).mp d);exact⟨z,f,e⟩
 subst n;rw[YB]at h1
 have m:∀ y,y∈c↔y∈l:=λy=>⟨i y,λd=>by
  obtain⟨z,f,e⟩:=YC.mp ((h2 (prW y)).mpr (YC.mpr ⟨y,d,rfl⟩));have:z=y:=Hg h (i z f) d (congrArg (λt:Str×W=>t.1) e);rw[<- this];exact f⟩
 have b:(c.map (·.1)).Pairwise (λx y=>As x y=true):=h1;rw[YB,show((λy:Str×W=>W.tup [.str y.1,y.2])∘prW)=AW from rfl];rw[show AI [.ref r] (put G r (.lst (c.map AW)))=some (.tup (c.map AW)) by unfold AI;dsimp only;rw[Zip Ak];rfl,Ao,<- D1];exact s _ _ _ (A3 k) (q c b (lS (Gk b) h m))
def EE(n:Nat):Spw:=λws G Q _=>∃(s:Addr)(x:Int)(b:Bool)(r:List W)(k:Kd),ws=[.ref s,k.enc]/\wf 10 k/\k.dat=true/\k.dp<=n/\G s=some (S2 x b r)/\∀(v:Vl)(x':Int),v.ok 11=true->v.dp<=k.dp+1->v.cnt<=3*k.cnt->Q v.enc (put G s (S2 x' b r))
theorem V7:Spw.M (EE n):=(by rintro l G Q m E o h _ ⟨s,x,b,r,k,h1,h2,c,d,g,q⟩;exact⟨s,x,b,r,k,h1,h2,c,d,g,λf a j e i=>h _ _ (q f a j e i)⟩)
abbrev gOB(sp:Spw):GS:=gIf (gOr (gTB (Ad (Ae (eqF false)) (Ab 4) (gC (.str "must")))) (gTB (Ad (Ae (eqF false)) (Ag BO XF (L3.Aa (Ab 0) (L3.Aa (gC (.int 2)) L3.Ac))) (gC (.int 1))))) (Ci (Ag sp XF (L3.Aa (Ab 0) (L3.Aa (Ab 5) L3.Ac))) (Ab 2) (Ab 3)) Al
theorem MC{n M:Nat}{D:Ew}{s p:Addr}{b:Bool}{r:List W}(d:p≠s):∀(l:List (Str×Bool×Kd))(dn:Pr)(K N L:Option W)(G:Hw)(x:Int),(∀ y∈l,wf 10 y.2.2/\y.2.2.dat=true/\y.2.2.dp<=n/\y.2.2.dp<=M)->(dn.map (·.1)++l.map (·.1)).Nodup->dn.length+l.length<=100->G s=some (S2 x b r)->G p=some (.dct (dn.map kvP))->
  (∀ ω g j F,(∃ u v t,ω=[some (.ref s),J,some (.ref p),u,v,t])->g s=some (S2 F b r)->g p=some (.dct ((dn++j).map kvP))->(∀ c,c≠s->c≠p->∀ u,G c=some u->g c=some u)->(j.map (·.1)).Sublist (l.map (·.1))->(∀ y∈j,y.2.ok 11=true/\y.2.dp<=M+1)->(j.map λy=>y.2.cnt).sum<=3*(ofL l).cnt->D.nx ω g)->
  A8 yes (C7 3 4 5) (gOB (EE n)) D (l.map Bt) [some (.ref s),J,some (.ref p),K,N,L] G
 | [],dn,K,N,L,G,x,_,_,_,m,o,e=>⟨trivial,e _ G [] x ⟨K,N,L,rfl⟩ m (by rw[Yx];exact o) (λb _ _ u h=>h) .slnil (by intro y f;cases f) (YZ _)⟩
 | u::l,dn,K,N,L,G,x,Y,O,hl,m,o,e=>by
  rw[Yg]at hl;have w:(ofL (u::l)).cnt=u.2.2.cnt+(ofL l).cnt:=rfl;have a:(dn.map (·.1)++u.1::l.map (·.1)).Nodup:=O;have X:u.1∉dn.map (·.1):=λhm=>(List.nodup_append.mp a).2.2 _ hm _ Ye rfl;have U:(dn.map (·.1)++l.map (·.1)).Nodup:=a.sublist ((List.Sublist.refl _).append (List.sublist_cons_self _ _))
  have A:∀(z:Hw)(x:Int),z s=some (S2 x b r)->z p=some (.dct (dn.map kvP))->(∀ c,c≠s->c≠p->∀ u,G c=some u->z c=some u)->
    Ci (Ag (EE n) XF (L3.Aa (Ab 0) (L3.Aa (Ab 5) L3.Ac))) (Ab 2) (Ab 3) {nx:=A8 yes (C7 3 4 5) (gOB (EE n)) D (l.map Bt),rt:=D.rt,bk:=D.nx,ct:=A8 yes (C7 3 4 5) (gOB (EE n)) D (l.map Bt)} [some (.ref s),J,some (.ref p),some (.str u.1),some (.str (mark u.2.1)),some u.2.2.enc] z:=by
   intro z x m o hk;obtain⟨g1,g2,g3,g4⟩:=Y u Ye;simp only[Ci,Ag,Ab,Yb,Yc,L3.Aa,L3.Ac];refine⟨s,x,b,r,u.2.2,rfl,g1,g2,g3,m,λv x2 k1 k2 k3=>?_⟩;refine⟨p,dn.map kvP,u.1,rfl,rfl,by rw[Aj d];exact o,by rw[Yh];exact Ep (by omega),?_⟩;rw[MB X];refine MC (M:=M) d l (dn++[(u.1,v)]) _ _ _ _ x2 (λy f=>Y y (Yd _ f)) (by rw[Yy,Yv];exact a) (by rw[Yj];simp only[Yg,Yi];omega) (by rw[Aj (Qa d)];exact Ak) Ak λω g j F hω S Q R P T f6=>?_;refine e ω g ((u.1,v)::j) F hω S (by rw[Q,Yv];rfl) (λc q E y f=>R c q E y ?_) (P.cons_cons _) (λy f=>?_) ?_
   ·rw[Aj E,Aj q];exact hk c q E y f
   ·rcases Yo.mp f with rfl | f
    ·exact⟨k1,by show v.dp<=_;omega⟩
    ·exact T y f
   ·rw[Ym,List.sum_cons,w];show v.cnt+_<=_;omega
  refine⟨trivial,?_⟩;show gOB (EE n) _ [some (.ref s),J,some (.ref p),some (.str u.1),some (.str (mark u.2.1)),some u.2.2.enc] G;unfold gOB;simp only[gIf,gOr,gTB,Ad,Ag,Ae,Ab,gC,Yb,Yc,L3.Aa,L3.Ac,Al];rw[Mj,Ao];dsimp only;refine BF (λ_=>?_) (λ_=>?_)
  ·exact A G x m o λc Z c2 v k=>k
  ·refine⟨s,2,x,b,r,rfl,by decide,by decide,m,λi H _ _=>?_⟩;have I:put G s (S2 H b r) s=some (S2 H b r):=Ak;have B:put G s (S2 H b r) p=some (.dct (dn.map kvP)):=by rw[Aj d];exact o
   dsimp only;rw[EC,Ao];dsimp only;refine BF (λh=>?_) (λh=>?_)
   ·exact A _ H I B λc Z c2 v k=>by rw[Aj Z];exact k
   ·refine MC (M:=M) d l dn _ _ _ _ H (λv k=>Y v (Yd _ k)) U (by omega) I B λω g j F hω S Q R P T f6=>?_;exact e ω g j F hω S Q (λc q E v k=>R c q E v (by rw[Aj q];exact k)) (P.cons _) T (by rw[w];omega)
theorem V8{i j:Int}{c:Bool}(d:AE t=true){r:Int}(h:0<=r)(g:r < 4)(f:1<=m):∃ v:Vl,atI [W.int i,.bl c,.tup [],.tup [.tup [.str t,.int j]]] r=some v.enc/\v.ok m=true/\v.dp<=2/\v.cnt<=2:=by
 have:r=0\/r=1\/r=2\/r=3:=by omega
 rcases this with rfl | rfl | rfl | rfl
 ·exact⟨.int i,rfl,rfl,(show 1<=2 by decide),(show 1<=2 by decide)⟩
 ·exact⟨.bl c,rfl,rfl,(show 1<=2 by decide),(show 1<=2 by decide)⟩
 ·refine⟨.row .nil,rfl,Gj (l:=[]) .nil (YZ _) (by intro y b;cases b),by decide,by decide⟩
 ·refine⟨.row (.cons t (.int j) .nil),rfl,Gj (l:=[(t,.int j)]) (.cons (by intro a e;cases e) .nil) f (λy b=>?_),(show 1+max 1 0<=2 by decide),(show 1+(1+0)<=2 by decide)⟩;rw[YA.mp b];exact⟨d,rfl⟩
theorem V9{a:Pr}(h:l.Perm a):(ofP l).cnt=(a.map λy=>y.2.cnt).sum:=by rw[Fj];exact lR h
theorem DX(T:Tx K mg base a):∀ n:Nat,Df P w K mg base "_law_value_of" (n+1) 2 (EE n)
 | 0=>CY T.Re V7 λws G Q E⟨s,x,b,r,k,_,_,_,h,_⟩=>by have:=Dc k;omega
 | n+1=>by
  refine mk0 (k:=n+1) T.Re rfl VB V7 (λws G Q E⟨s,x,b,r,k,e,_⟩=>by rw[e];rfl) (lD T (AL T) (by omega) (DX T n) (Yr _)) λws G Q E hC q=>?_;obtain⟨s,x,b,r,k,rfl,w1,kd,hd,N,q⟩:=q;have kp:=Dc k;have kc:=Q1 k;unfold VC;show Af (gIf _ _ Al) _ (Ar Q) [some (.ref s),some k.enc,none,none,none,none] G;refine Gf rfl ?_;by_cases h1:k.hd="num"
  ·rw[if_pos h1];simp only[Ad,Ag,Au,Ab,gC,L3.Aa,L3.Ac,Yb,Yc];refine⟨s,9,x,b,r,rfl,by decide,by decide,N,λi x1 _ _=>⟨trivial,?_⟩⟩;exact q (.int (i - 4)) x1 rfl (by show 1<=_;omega) (by show 1<=_;omega)
  rw[if_neg h1];refine Gf rfl ?_;by_cases h2:k.hd="truth"
  ·rw[if_pos h2];simp only[Ad,Ag,Ae,Ab,gC,L3.Aa,L3.Ac,Yb,Yc];refine⟨s,2,x,b,r,rfl,by decide,by decide,N,λi x1 _ _=>?_⟩;dsimp only;rw[EC,Ao];exact q (.bl (i==1)) x1 rfl (by show 1<=_;omega) (by show 1<=_;omega)
  rw[if_neg h2];refine Gf rfl ?_;by_cases D:k.hd="any"
  ·rw[if_pos D];simp only[Ad,Ap,Ag,Ae,L3.Ah,Ab,gC,L3.Aa,L3.Ac,Yb,Yc];refine⟨(Qzz 0),(Qzz 2),(Qzz 1),(Qzz 4),λp hp=>?_⟩;have n1:s≠p:=AC N hp;refine⟨s,4,x,b,r,rfl,by decide,by decide,by rw[Aj n1];exact N,λi x1 i0 i1=>?_⟩;obtain⟨v,ev,v1,v2,v3⟩:=V8 (t:="b") (i:=0) (j:=2) (c:=true) (by decide +kernel) i0 i1 (m:=11) (by decide);rw[BQ (by rw[Aj (Qa n1)];exact Ak),ev,Ao];refine hC _ _ _ (λc u B=>?_) (q v x1 v1 (by omega) (by omega));by_cases hc:c=s
   ·subst hc;rw[Ak]at B ⊢;exact B
   ·rw[Aj hc]at B ⊢;rw[Aj (AC B hp)];exact B
  rw[if_neg D];have hr:k.hd="row":=by cases k <;> first | rfl |(cases kd;done)| exact absurd rfl h1 | exact absurd rfl h2 | exact absurd rfl D
  obtain⟨fs,o,rfl⟩:=Me hr;obtain⟨l,rfl⟩:∃ l,fs=ofL l:=⟨fs.toL,(VZ fs).symm⟩;obtain⟨p5,l5,hy⟩:=lV w1;have l6:=LY l5;rw[Yh]at l6;have ek:(Kd.row (ofL l) o).cnt=1+(ofL l).cnt:=rfl;have edp:(Kd.row (ofL l) o).dp=1+(ofL l).dp:=rfl;have eenc:(Kd.row (ofL l) o).enc=.tup [.str "row",.tup (l.map Bt),.bl o]:=by rw[<- HR];rfl
  rw[eenc];simp only[Af,An,FO];intro p hp;have J:p≠s:=Qa (AC N hp);simp only[Yk,Yl,AB,B9,Ad,Ae,Ab,gC,Yb,Yc,ixW,Bb,Ao];refine MC (n:=n) (M:=(ofL l).dp) J l [] none none none _ x (λy f=>⟨(hy y f).2,lW kd y f,by have:=V0 (l:=l) y f;omega,V0 (l:=l) y f⟩) (Gk p5) (by simp only[Yi];omega) (by rw[Aj (Qa J)];exact N) Ak λω Y g x2 hω f1 f2 f3 Z f5 f6=>?_;obtain⟨u,v,t,rfl⟩:=hω;rw[Yw]at f2;have hk:∀ c,c≠s->c≠p->∀ u,G c=some u->Y c=some u:=λc U R u B=>f3 c U R u (by rw[Aj R];exact B);have nd2:(g.map (·.1)).Nodup:=(Gk p5).sublist Z
  have okb:∀ y∈g,AE y.1=true:=λy f=>by
   obtain⟨z,hz,e⟩:=YC.mp (Z.subset (YN f));rw[<- e];exact(hy z hz).1
  have done:∀(I:Pr)(X:Hw)(H:Int),(I=g\/(I=g++[(("b":Str),.int 7)]/\("b":Str)∉g.map (·.1)))->X p=some (.dct (I.map kvP))->X s=some (S2 H b r)->(∀ c,c≠s->c≠p->∀ u,G c=some u->X c=some u)->
    Ai (gB (rF AI) (L3.Aa (DI (Ab 2)) L3.Ac)) (Ar Q) [some (.ref s),some (.tup [.str "row",.tup (l.map Bt),.bl o]),some (.ref p),u,v,t] X:=by
   intro I X H D g1 g2 g3;have n3:=nd3 nd2 D
   have hl3:I.length<=11:=by
    have:=Z.length_le;rw[Yh,Yh]at this;rcases D with rfl |⟨rfl,_⟩
    ·omega
    ·rw[Yj];simp only[Yg,Yi];omega
   refine V6 hC rfl g1 (by omega) n3 (dl3 (p5.sublist Z) D) λS hr O=>?_;have A:∀ y∈S,y∈I:=λy f=>O.mem_iff.mp f
   have F:∀ y∈I,AE y.1=true/\y.2.ok 11=true/\y.2.dp<=(ofL l).dp+1:=λy f=>by
    rcases D with rfl |⟨rfl,_⟩
    ·exact⟨okb y f,f5 y f⟩
    ·rcases Yz.mp f with f | f
     ·exact⟨okb y f,f5 y f⟩
     ·rw[YA.mp f];exact⟨by decide +kernel,rfl,by show 1<=_;omega⟩
   have hsum:(I.map λy=>y.2.cnt).sum<=(g.map λy=>y.2.cnt).sum+1:=by
    rcases D with rfl |⟨rfl,_⟩
    ·omega
    ·rw[Yy,List.sum_append];exact Yr _
   have:=q (.row (ofP S)) H (Gj hr (by rw[O.length_eq];exact hl3) λy f=>⟨(F y (A y f)).1,(F y (A y f)).2.1⟩) (by
    have:(ofP S).dp<=(ofL l).dp+1:=IH S λy f=>(F y (A y f)).2.2;show 1+(ofP S).dp<=_
    omega) (by
    show 1+(ofP S).cnt<=_;rw[V9 O,ek]
    omega)
   exact hC _ _ _ (VP N hp g2 g3) this
  simp only[gIf,AV,Ay,gTB,Ad,Ag,Ae,Ab,gC,L3.Aa,L3.Ac,Yb,Yc,ixW,Bl,Ao,AN,Al];refine BF (λ_=>?_) (λ_=>done g Y x2 (.inl rfl) f2 f1 hk);refine⟨s,2,x2,b,r,rfl,by decide,by decide,f1,λi H _ _=>?_⟩;have h3s:put Y s (S2 H b r) s=some (S2 H b r):=Ak;have L:put Y s (S2 H b r) p=some (.dct (g.map kvP)):=by rw[Aj J];exact f2
  have h3k:∀ c,c≠s->c≠p->∀ u,G c=some u->put Y s (S2 H b r) c=some u:=λc U R u B=>by rw[Aj U];exact hk c U R u B
  simp only[gC,Ae,EC,Ao];refine BF (λ_=>?_) (λ_=>done g _ H (.inl rfl) L h3s h3k);simp only[Ci,gMt,Ab,gC,L3.Aa,L3.Ac,Yb,Yc];refine⟨⟨p,_,rfl,L⟩,p,_,"b",.int 7,rfl,rfl,L,p,g.map kvP,"b",rfl,rfl,L,by rw[Yh];have:=Z.length_le;rw[Yh,Yh]at this;exact Ep (by omega),?_⟩;obtain⟨I,e3,D⟩:=V4 (x:="b") (d:=.int 7) nd2;rw[show BM (g.map kvP) "b" (.int 7)=BM (g.map kvP) "b" (Vl.int 7).enc from rfl,e3];exact done I _ H D Ak (by rw[Aj (Qa J)];exact h3s) λc U R u B=>by rw[Aj R];exact h3k c U R u B
def IJ(n:Nat):Spw:=λws G Q _=>∃(s:Addr)(x:Int)(b:Bool)(r:List W)(v0:Vl),ws=[.ref s,v0.enc]/\v0.ok 11=true/\v0.dp<=n/\G s=some (S2 x b r)/\∀(v:Vl)(x':Int),v.ok 12=true->v.dp<=v0.dp+1->v.cnt<=3*v0.cnt->Q v.enc (put G s (S2 x' b r))
theorem Wa:Spw.M (IJ n):=(by rintro j G Q l E m h _ ⟨s,x,b,r,k,h1,h2,c,d,q⟩;exact⟨s,x,b,r,k,h1,h2,c,d,λf a i e g=>h _ _ (q f a i e g)⟩)
abbrev Wb(sp:Spw):GS:=gIf (gTB (Ad (AR λi j=>decide (j < i)) (Ag BO XF (L3.Aa (Ab 0) (L3.Aa (gC (.int 8)) L3.Ac))) (gC (.int 0)))) (Ci (Ag sp XF (L3.Aa (Ab 0) (L3.Aa (Ab 4) L3.Ac))) (Ab 2) (Ab 3)) Al
theorem MD{n M:Nat}{D:Ew}{s p:Addr}{b:Bool}{r:List W}{E:Option W}(d:p≠s):∀(l dn:Pr)(w B:Option W)(G:Hw)(x:Int),(∀ y∈l,y.2.ok 11=true/\y.2.dp<=n/\y.2.dp<=M)->(dn.map (·.1)++l.map (·.1)).Nodup->dn.length+l.length<=100->G s=some (S2 x b r)->G p=some (.dct (dn.map kvP))->
  (∀ ω g j m,(∃ u v,ω=[some (.ref s),E,some (.ref p),u,v])->g s=some (S2 m b r)->g p=some (.dct ((dn++j).map kvP))->(∀ c,c≠s->c≠p->∀ u,G c=some u->g c=some u)->(j.map (·.1)).Sublist (l.map (·.1))->(∀ y∈j,y.2.ok 12=true/\y.2.dp<=M+1)->(j.map λy=>y.2.cnt).sum<=3*(ofP l).cnt->D.nx ω g)->
  A8 yes (BW 3 4) (Wb (IJ n)) D (l.map AW) [some (.ref s),E,some (.ref p),w,B] G
 | [],dn,w,B,G,x,_,_,_,K,z,e=>⟨trivial,e _ G [] x ⟨w,B,rfl⟩ K (by rw[Yx];exact z) (λb _ _ u h=>h) .slnil (by intro y f;cases f) (YZ _)⟩
 | u::l,dn,w,B,G,x,S,F,hl,K,z,e=>by
  rw[Yg]at hl;have k:(ofP (u::l)).cnt=u.2.cnt+(ofP l).cnt:=rfl;have a:(dn.map (·.1)++u.1::l.map (·.1)).Nodup:=F;have R:u.1∉dn.map (·.1):=λU=>(List.nodup_append.mp a).2.2 _ U _ Ye rfl;have Q:(dn.map (·.1)++l.map (·.1)).Nodup:=a.sublist ((List.Sublist.refl _).append (List.sublist_cons_self _ _));refine⟨trivial,?_⟩;show Wb (IJ n) _ [some (.ref s),E,some (.ref p),some (.str u.1),some u.2.enc] G;simp only[gIf,gTB,Ad,Ag,AR,Ab,gC,Yb,Yc,L3.Aa,L3.Ac,Al];refine⟨s,8,x,b,r,rfl,by decide,by decide,K,λi q _ _=>?_⟩;have t:put G s (S2 q b r) s=some (S2 q b r):=Ak;have O:put G s (S2 q b r) p=some (.dct (dn.map kvP)):=by rw[Aj d];exact z
  refine BF (λh=>?_) (λh=>?_)
  ·obtain⟨g1,g3,g4⟩:=S u Ye;simp only[Ci,Ag,Ab,Yb,Yc,L3.Aa,L3.Ac];refine⟨s,q,b,r,u.2,rfl,g1,g3,t,λv X T k2 Z=>?_⟩;rw[Cr];refine⟨p,dn.map kvP,u.1,rfl,rfl,by rw[Aj d];exact z,by rw[Yh];exact Ep (by omega),?_⟩;rw[MB R];refine MD (M:=M) d l (dn++[(u.1,v)]) _ _ _ X (λy f=>S y (Yd _ f)) (by rw[Yy,Yv];exact a) (by rw[Yj];simp only[Yg,Yi];omega) (by rw[Aj (Qa d)];exact Ak) Ak λω g j m hω N I J H P Y=>?_;refine e ω g ((u.1,v)::j) m hω N (by rw[I,Yv];rfl) (λc o A y f=>J c o A y ?_) (H.cons_cons _) (λy f=>?_) ?_
   ·rw[Aj A,Aj o];exact f
   ·rcases Yo.mp f with rfl | f
    ·exact⟨T,by show v.dp<=_;omega⟩
    ·exact P y f
   ·rw[Ym,List.sum_cons,k];show v.cnt+_<=_;omega
  ·refine MD (M:=M) d l dn _ _ _ q (λv L=>S v (Yd _ L)) Q (by omega) t O λω g j m hω N I J H P Y=>?_;exact e ω g j m hω N I (λc o A v L=>J c o A v (by rw[Aj o];exact L)) (H.cons _) P (by rw[k];omega)
theorem DY(T:Tx K mg base a):∀ n:Nat,Df P w K mg base "_law_turned" (n+1) 2 (IJ n)
 | 0=>CY T.Rf Wa λws G Q E⟨s,x,b,r,k,_,_,h,_⟩=>by have:=Gg k;omega
 | n+1=>by
  refine mk0 (k:=n+1) T.Rf rfl VE Wa (λws G Q E⟨s,x,b,r,k,e,_⟩=>by rw[e];rfl) (lG T (AL T) (by omega) (DY T n) (Yr _)) λws G Q E hC q=>?_;obtain⟨s,x,b,r,v0,rfl,ok0',hd,hs,q⟩:=q;have kp:=Gg v0;have kc:=Mn v0;unfold VF;show Af (gIf _ _ Al) _ (Ar Q) [some (.ref s),some v0.enc,none,none,none] G;simp only[Af,gIf,gTB,Ad,Ag,Ae,Ab,gC,L3.Aa,L3.Ac,Yb,Yc];refine⟨s,6,x,b,r,rfl,by decide,by decide,hs,λi L i0 i1=>?_⟩;dsimp only;have J:put G s (S2 L b r) s=some (S2 L b r):=Ak;rw[show eqF false (.int i) (.int 0) (put G s (S2 L b r))=some (.bl (i==0)) by unfold eqF eqW;show some (W.bl ((i==0) != false))=_;cases(i==0) <;> rfl,Ao];dsimp only;refine BF (λ_=>?_) (λ_=>?_)
  ·simp only[Ai,Ad,Ap,Ag,Ae,L3.Ah,Ab,gC,L3.Aa,L3.Ac,Yb,Yc];refine⟨(Qzz 0),(Qzz 2),(Qzz 1),(Qzz 4),λp X=>?_⟩;have n1:s≠p:=AC J X;refine⟨s,4,L,b,r,rfl,by decide,by decide,by rw[Aj n1];exact J,λi x2 i0 i1=>?_⟩;obtain⟨v,ev,v1,v2,v3⟩:=V8 (t:="a") (i:=3) (j:=1) (c:=false) (by decide +kernel) i0 i1 (m:=12) (by decide);rw[BQ (by rw[Aj (Qa n1)];exact Ak),ev,Ao];refine hC _ _ _ (λc u D=>?_) (q v x2 v1 (by omega) (by omega));by_cases hc:c=s
   ·subst hc;rw[Ak]at D ⊢;exact D
   ·rw[Aj hc]at D ⊢;have hu1:put G s (S2 L b r) c=some u:=by rw[Aj hc];exact D
    rw[Aj (AC hu1 X)];exact hu1
  simp only[Al,Af,gIf,Ay,AH,Ab,Yb,Yc];cases v0 with
  | int i =>
   simp only[Vl.enc,tyN,IE,AN,if_true,Ai,Ab,Yb,Yc];exact q (.int i) L rfl (by show 1<=2;decide) (by show 1<=3;decide)
  | bl i =>
   simp only[Vl.enc,tyN,Mt,AN,if_true,Ai,Ab,Yb,Yc];exact q (.bl i) L rfl (by show 1<=2;decide) (by show 1<=3;decide)
  | row ps =>
   obtain⟨l,rfl⟩:∃ l,ps=ofP l:=⟨ps.toP,(My ps).symm⟩;obtain⟨p5,l6,hy⟩:=lQ ok0';have ek:(Vl.row (ofP l)).cnt=1+(ofP l).cnt:=rfl;have edp:(Vl.row (ofP l)).dp=1+(ofP l).dp:=rfl;rw[D1];simp only[tyN,IF,AN,Yq,if_false,An,FO];intro p X;have A:p≠s:=Qa (AC J X);simp only[Yk,Yl,AB,B9,Ab,Yb,Yc];refine MD (n:=n) (M:=(ofP l).dp) A l [] none none _ L (λy f=>⟨(hy y f).2,by have:=Mz (l:=l) y f;omega,Mz (l:=l) y f⟩) (Gk p5) (by simp only[Yi];omega) (by rw[Aj (Qa A)];exact J) Ak λω G' g x2 hω f1 f2 f3 f4 f5 f6=>?_;obtain⟨u,v,rfl⟩:=hω;rw[Yw]at f2;have hp0:G p=none:=by rw[Aj A]at X;exact X
   have hk:∀ c,c≠s->c≠p->∀ u,G c=some u->G' c=some u:=λc R S u D=>f3 c R S u (by rw[Aj S,Aj R];exact D);have nd2:(g.map (·.1)).Nodup:=(Gk p5).sublist f4;have len2:g.length<=11:=by have:=f4.length_le;rw[Yh,Yh]at this;omega
   have okb:∀ y∈g,AE y.1=true:=λy f=>by
    obtain⟨z,hz,e⟩:=YC.mp (f4.subset (YN f));rw[<- e];exact(hy z hz).1
   have done:∀(H:Pr)(Y:Hw)(F:Int),(H=g\/(H=g++[(("c":Str),.int 0)]/\("c":Str)∉g.map (·.1)))->Y p=some (.dct (H.map kvP))->Y s=some (S2 F b r)->(∀ c,c≠s->c≠p->∀ u,G c=some u->Y c=some u)->
     Ai (gB (rF AI) (L3.Aa (DI (Ab 2)) L3.Ac)) (Ar Q) [some (.ref s),some (.tup (l.map AW)),some (.ref p),u,v] Y:=by
    intro H Y F N g1 g2 g3;have n3:=nd3 nd2 N
    have hl3:H.length<=12:=by
     rcases N with rfl |⟨rfl,_⟩
     ·omega
     ·rw[Yj];simp only[Yg,Yi];omega
    refine V6 hC rfl g1 hl3 n3 (dl3 (p5.sublist f4) N) λU hr O=>?_;have o:∀ y∈U,y∈H:=λy f=>O.mem_iff.mp f
    have B:∀ y∈H,AE y.1=true/\y.2.ok 12=true/\y.2.dp<=(ofP l).dp+1:=λy f=>by
     rcases N with rfl |⟨rfl,_⟩
     ·exact⟨okb y f,f5 y f⟩
     ·rcases Yz.mp f with f | f
      ·exact⟨okb y f,f5 y f⟩
      ·rw[YA.mp f];exact⟨by decide +kernel,rfl,by show 1<=_;omega⟩
    have hsum:(H.map λy=>y.2.cnt).sum<=(g.map λy=>y.2.cnt).sum+1:=by
     rcases N with rfl |⟨rfl,_⟩
     ·omega
     ·rw[Yy,List.sum_append];exact Yr _
    have:=q (.row (ofP U)) F (Gj hr (by rw[O.length_eq];exact hl3) λy f=>⟨(B y (o y f)).1,(B y (o y f)).2.1⟩) (by
     have:(ofP U).dp<=(ofP l).dp+1:=IH U λy f=>(B y (o y f)).2.2;show 1+(ofP U).dp<=_
     omega) (by
     show 1+(ofP U).cnt<=_;rw[V9 O,ek]
     omega)
    exact hC _ _ _ (VP hs hp0 g2 g3) this
   simp only[Af,gIf,gTB,Ad,Ag,Ae,Ab,gC,L3.Aa,L3.Ac,Yb,Yc,Al];refine⟨s,8,x2,b,r,rfl,by decide,by decide,f1,λi F _ _=>?_⟩;have h3s:put G' s (S2 F b r) s=some (S2 F b r):=Ak;have I:put G' s (S2 F b r) p=some (.dct (g.map kvP)):=by rw[Aj A];exact f2
   have Z:∀ c,c≠s->c≠p->∀ u,G c=some u->put G' s (S2 F b r) c=some u:=λc R S u D=>by rw[Aj R];exact hk c R S u D
   simp only[gC,Ae,EC,Ao];refine BF (λ_=>?_) (λ_=>done g _ F (.inl rfl) I h3s Z);simp only[Ci,gMt,Ab,gC,L3.Aa,L3.Ac,Yb,Yc];refine⟨⟨p,_,rfl,I⟩,p,_,"c",.int 0,rfl,rfl,I,p,g.map kvP,"c",rfl,rfl,I,by rw[Yh];exact Ep (by omega),?_⟩;obtain⟨H,e3,N⟩:=V4 (x:="c") (d:=.int 0) nd2;rw[show BM (g.map kvP) "c" (.int 0)=BM (g.map kvP) "c" (Vl.int 0).enc from rfl,e3];exact done H _ F N Ak (by rw[Aj (Qa A)];exact h3s) λc R S u D=>by rw[Aj S];exact Z c R S u D
def Wc:Spw:=λws G Q _=>∃(ns:List Int)(i:Int)(k:Kd),ws=[.rol (ns.map W.int),.int i,k.enc]/\0<=i/\kd8 k/\k.dat=true/\∀ v:Vl,vg v->Q v.enc G
theorem lZ:Spw.M Wc:=(by rintro c G Q d E e h _ ⟨ns,i,k,h1,h2,a,b,q⟩;exact⟨ns,i,k,h1,h2,a,b,λv g=>h _ _ (q v g)⟩)
theorem IK(T:Tx K mg base a):Df P w K mg base "_law_drawn_value" 12 3 Wc:=by
 refine mk0 (k:=11) T.iO rfl VL lZ ((by rintro ws G Q E ⟨ns,i,k,e,_⟩;rw[e];rfl)) (lM T (Cw T) (by omega) (AL T) (by omega) (EB T 3) (by omega) (DX T 8) (by omega) (DY T 9) (by omega) (DZ T 10) (by omega)) λws G Q E J q=>?_;obtain⟨ns,i,k,rfl,h0,D,kd,q⟩:=q;unfold VM;show Af (An 3 _) _ (Ar Q) [some (.rol (ns.map W.int)),some (.int i),some k.enc,none,none,none,none,none] G;simp only[Af,An,Ad,Ag,Ap,L3.Aa,L3.Ac,Ab,gC,Yb,Yc];refine⟨ns,i,rfl,h0,λp x b hp=>⟨(Qzz 1),λp1 e1=>?_⟩⟩;have s0:Sub G (put G p (.lst [.int x,.bl b])):=A3 hp;have f0:put G p (.lst [.int x,.bl b]) p=some (.lst [.int x,.bl b]):=Ak;generalize put G p (.lst [.int x,.bl b])=G0 at s0 f0 e1 ⊢;have R:Sub G0 (put G0 p1 (.lst [.int 12])):=A3 e1;have f1:put G0 p1 (.lst [.int 12]) p1=some (.lst [.int 12]):=Ak;generalize put G0 p1 (.lst [.int 12])=G1 at R f1 ⊢;rw[Ek (by rintro⟨⟨_,h⟩,_⟩;cases h)];unfold L3.AJ;simp only[R _ _ f0,f1];refine⟨(Qzz 3),λs es=>?_⟩;have S:Sub G G1:=s0.trans R
 have c:G s=none:=by
  cases z:G s with
  | none=>rfl
  | some u=>rw[S _ _ z]at es;cases es
 have Y:put G1 s (.lst ([.int x,.bl b]++[.int 12])) s=some (.lst [.int x,.bl b,.int 12]):=Ak;have y:Sub G (put G1 s (.lst ([.int x,.bl b]++[.int 12]))):=CL c S;generalize put G1 s (.lst ([.int x,.bl b]++[.int 12]))=G2 at Y y ⊢;simp only[Yk,Yl,gIf,gTB,Ad,Ag,Ae,L3.Aa,L3.Ac,Ab,gC,Yb,Yc];refine⟨s,4,x,b,[.int 12],rfl,by decide,by decide,Y,λr o r0 r1=>?_⟩;have U:put G2 s (.lst [.int o,.bl b,.int 12]) s=some (.lst [.int o,.bl b,.int 12]):=Ak;have I:Sub G (put G2 s (.lst [.int o,.bl b,.int 12])):=CL c y;generalize put G2 s (.lst [.int o,.bl b,.int 12])=G3 at U I ⊢;simp only[Yk,Yl,Af,gIf,gTB,Ad,Ae,Ab,gC,Yb,Yc];rw[show eqF false (.int r) (.int 0) G3=some (.bl (r==0)) by unfold eqF eqW;show some (W.bl ((r==0) != false))=_;cases(r==0) <;> rfl,Ao];dsimp only;refine BF (λ_=>?_) (λ_=>?_)
 ·simp only[Ai,Ag,L3.Aa,L3.Ac,Ab,gC,Yb,Yc];refine⟨s,o,4,12,b,rfl,by decide,by decide,U,λv n g=>?_⟩;obtain⟨B,N,u3⟩:=g;exact J _ _ _ (CL c I) (q v ⟨II v (by decide) B,by omega,by omega⟩)
 simp only[Al,An,Ag,L3.Aa,L3.Ac,Ab,gC,Yb,Yc];have c40:=D.2.1;have d8:=D.2.2;refine⟨s,o,b,[.int 12],k,rfl,D.1,kd,d8,U,λv n L v2 v3=>?_⟩;have Z:put G3 s (S2 n b [.int 12]) s=some (S2 n b [.int 12]):=Ak;have A:Sub G (put G3 s (S2 n b [.int 12])):=CL c I;generalize put G3 s (S2 n b [.int 12])=G4 at Z A ⊢;simp only[Yk,Yl,Af,gIf,gTB,Ad,Ae,An,Ab,gC,Yb,Yc]
 have d:∀(t:Vl)(m:Hw),Sub G m->t.ok 12=true->t.dp<=10->t.cnt<=1000000->
   Af (AB (AD (Ap (L3.Aa (Ab 6) (L3.Aa (Ab 5) L3.Ac)))) (gNm 7) (gIf (gTB (Ad (AG (λi j=>decide (i < j)) As) (Ag (ED 10) XF (L3.Aa (Ab 7) L3.Ac)) (gC (.int 101)))) (Ai (Ab 7)) Al)) (Ai (gC (.int 0))) (Ar Q) [some (.rol (ns.map W.int)),some (.int i),some k.enc,some (.ref s),some (.int r),some v.enc,some t.enc,none] m:=by
  intro t m S5 H t2 t3;simp only[Af,AB,AD,Ap,Ab,L3.Aa,L3.Ac,Yb,Yc];refine⟨(Qzz 2),λp2 F=>?_⟩;simp only[Ak];have O:Sub G (put m p2 (.lst [t.enc,v.enc])):=BC S5 F;have X:put m p2 (.lst [t.enc,v.enc]) p2=some (.lst [t.enc,v.enc]):=Ak;generalize put m p2 (.lst [t.enc,v.enc])=G6 at O X ⊢
  have f:∀(u:Vl)(l:Option W)(xs:List W),u.ok 12=true->u.dp<=10->u.cnt<=1000000->(∀ l,A8 (holds p2 [t.enc,v.enc]) (gNm 7) (gIf (gTB (Ad (AG (λi j=>decide (i < j)) As) (Ag (ED 10) XF (L3.Aa (Ab 7) L3.Ac)) (gC (.int 101)))) (Ai (Ab 7)) Al) {nx:=Ai (gC (.int 0)) (Ar Q),rt:=(Ar Q).rt,bk:=(Ar Q).bk,ct:=(Ar Q).ct} xs [some (.rol (ns.map W.int)),some (.int i),some k.enc,some (.ref s),some (.int r),some v.enc,some t.enc,l] G6)->
    A8 (holds p2 [t.enc,v.enc]) (gNm 7) (gIf (gTB (Ad (AG (λi j=>decide (i < j)) As) (Ag (ED 10) XF (L3.Aa (Ab 7) L3.Ac)) (gC (.int 101)))) (Ai (Ab 7)) Al) {nx:=Ai (gC (.int 0)) (Ar Q),rt:=(Ar Q).rt,bk:=(Ar Q).bk,ct:=(Ar Q).ct} (u.enc::xs) [some (.rol (ns.map W.int)),some (.int i),some k.enc,some (.ref s),some (.int r),some v.enc,some t.enc,l] G6:=by
   intro u l xs B N u3 nx;refine⟨X,?_⟩;show gIf _ _ Al _ [some (.rol (ns.map W.int)),some (.int i),some k.enc,some (.ref s),some (.int r),some v.enc,some t.enc,some u.enc] G6;simp only[gIf,gTB,Ad,AG,Ag,Ab,gC,L3.Aa,L3.Ac,Yb,Yc,Al,Ai];refine⟨u,⟨rfl,N,u3⟩,?_⟩;refine BF (λh=>?_) (λ_=>nx _)
   have hu:u.cnt<=100:=by have h':(u.cnt:Int) < 101:=by simpa using h
                          omega
   exact J _ _ _ O (q u ⟨B,hu,N⟩)
  refine f t none [v.enc] H t2 t3 λl=>f v l [] (II v (by decide) L) (by omega) (by omega) λl=>⟨X,J _ _ _ O (q (.int 0) ⟨rfl,by decide,by decide⟩)⟩
 rw[EC,Ao];dsimp only;refine BF (λ_=>?_) (λ_=>d v G4 A (II v (by decide) L) (by omega) (by omega));simp only[Ag,L3.Aa,L3.Ac,Ab,Yb,Yc];refine⟨s,n,b,[.int 12],v,rfl,L,by omega,Z,λt x3 H t2 t3=>?_⟩;walk_at "pa";exact d t _ (CL c A) H (by omega) (by omega)
abbrev Wd:List Str:=["kind"]
theorem We:Az Wd ["kind"] (Aq K7):=by walk_at "s"
def Wf(B6:Spw):GS:=(Af (gIf (gTB (Ad (Ae (eqF false)) (Ad (Ae ixW) (Ab 0) (gC (.int 0))) (gC (.str "truth")))) (Ai (gC (.bl false))) Al) (Af (gIf (gTB (Ad (Ae (eqF false)) (Ad (Ae ixW) (Ab 0) (gC (.int 0))) (gC (.str "row")))) (Ai (gB (rF AI) (Aa (AF (AD (Ad (Ae ixW) (Ab 0) (gC (.int 1)))) 1 (gNm 0) (gTB (Ad (Ae (eqF false)) (Ad (Ae ixW) (Ab 0) (gC (.int 1))) (gC (.str "must")))) (Ah (Aa (Ad (Ae ixW) (Ab 0) (gC (.int 0))) (Aa (Ag B6 XF (Aa (Ad (Ae ixW) (Ab 0) (gC (.int 2))) Ac)) Ac)))) Ac))) Al) (Ai (gC (.int 0)))))
variable {B6:Spw}
theorem l0(T:Tx K mg base a){Cz:Nat}(ME:Df P w K mg base "sample" Cz 1 B6)(MF:Cz<=k):Dn P w K mg base Wd "sample" K7 k (Wf B6):=λ{f cdv A outer s H E}hr=>
 have hu:=Ba hr
 have hN:=We.nd
 (Ax (by walk_at "v") (Ax (BY (by walk_at "v") (AO (BG (CI DG (Ef) rfl T.DJ (by decide) rfl rfl rfl (AT rfl (B0 (Nc:=["field"]) rfl (BV rfl (by decide +kernel) (by decide +kernel)) (λ_=>rfl) (by walk_at "v") (Cc (i:=0) (by decide) rfl rfl) (λC fp s1 H1=>(by walk_at "v")) (λC fp s1 H1=>(by walk_at "v"))) Bu)))) CH) (by walk_at "v")))
abbrev Wg:List Str:=["kind"]
theorem Wh:Az Wg ["kind"] (Aq F2):=by walk_at "s"
def MG(B5:Spw)(B6:Spw)(E:Addr->Hw->Prop):GS:=(Af (AA (Ag B5 (λ_=>E) (Aa (Ab 0) Ac))) (Ai (Ag B6 (λ_=>E) (Aa (Ab 0) Ac))))
theorem l7(T:Tx K mg base a){Cy:Nat}(Fg:Df P w K mg base "check_data_kind" Cy 1 B5)(Fh:Cy<=k){Cz:Nat}(ME:Df P w K mg base "sample" Cz 1 B6)(MF:Cz<=k)(hr:Room k (A.deeper (envOfC "sample_of" (Aq F2) s.heap.objs.size f cdv))):Ssm (cxW P w K mg base Wg "sample_of" (Aq F2) f cdv A outer s H E) (λB=>B=H) (Bn F2) (MG B5 B6 (dnX K H E)):=
 have hu:=Ba hr
 have hN:=Wh.nd
 (Ax (BX rfl (Br Fg (hr.mono Fh) rfl BI rfl rfl rfl (by walk_at "v"))) (AO (BG (Br ME (hr.mono MF) rfl BI rfl rfl rfl (by walk_at "v")))))
abbrev Wi:List Str:=["one","other"]
theorem Wj:Az Wi ["one","other"] (Aq K8):=by walk_at "s"
def Wl(B6:Spw)(IL:Spw):GS:=(Af (gIf (gTB (Ad (Ae (eqF false)) (Ad (Ae ixW) (Ab 1) (gC (.int 0))) (gC (.str "any")))) (Ai (gC .non)) Al) (Af (gIf (gTB (Ad (Ae (eqF false)) (Ad (Ae ixW) (Ab 0) (gC (.int 0))) (gC (.str "any")))) (Ai (Ag B6 XF (Aa (AQ (gTB (Ad (Ae (eqF false)) (Ad (Ae ixW) (Ab 1) (gC (.int 0))) (gC (.str "num")))) (Ah (Aa (gC (.str "truth")) Ac)) (Ah (Aa (gC (.str "num")) Ac))) Ac))) Al) (Af (gIf (gTB (Ad (Ae (eqF true)) (Ad (Ae ixW) (Ab 0) (gC (.int 0))) (Ad (Ae ixW) (Ab 1) (gC (.int 0))))) (Ai (Ag B6 XF (Aa (Ab 0) Ac))) Al) (Ai (AQ (gTB (Ad (Ae (eqF false)) (Ad (Ae ixW) (Ab 0) (gC (.int 0))) (gC (.str "row")))) (Ag IL XF (Aa (Ab 0) (Aa (Ab 1) Ac))) (gC .non))))))
theorem l8(T:Tx K mg base a){Cz:Nat}(ME:Df P w K mg base "sample" Cz 1 B6)(MF:Cz<=k){k_parting_row:Nat}(nZ:Df P w K mg base "parting_row" k_parting_row 2 IL)(n0:k_parting_row<=k):Dn P w K mg base Wi "parting" K8 k (Wl B6 IL):=by
 have hN:=Wj.nd;walk_at "z"
abbrev Wn:List Str:=["one","other"]
theorem Wo:Az Wn ["one","other"] (Aq F3):=by walk_at "s"
def MH(B5:Spw)(IM:Spw)(E:Addr->Hw->Prop):GS:=(Af (AA (Ag B5 (λ_=>E) (Aa (Ab 0) Ac))) (Af (AA (Ag B5 (λ_=>E) (Aa (Ab 1) Ac))) (Ai (Ag IM (λ_=>E) (Aa (Ab 0) (Aa (Ab 1) Ac))))))
theorem ma(T:Tx K mg base a){Cy:Nat}(Fg:Df P w K mg base "check_data_kind" Cy 1 B5)(Fh:Cy<=k){IN:Nat}(md:Df P w K mg base "parting" IN 2 IM)(mh:IN<=k)(hr:Room k (A.deeper (envOfC "parting_value" (Aq F3) s.heap.objs.size f cdv))):Ssm (cxW P w K mg base Wn "parting_value" (Aq F3) f cdv A outer s H E) (λB=>B=H) (Bn F3) (MH B5 IM (dnX K H E)):=
 have hu:=Ba hr
 have hN:=Wo.nd
 (Ax (BX rfl (Br Fg (hr.mono Fh) rfl BI rfl rfl rfl (by walk_at "v"))) (Ax (BX rfl (Br Fg (hr.mono Fh) rfl BI rfl rfl rfl (by walk_at "v"))) (AO (BG (Br md (hr.mono mh) rfl BI rfl rfl rfl (by walk_at "v"))))))
def MI(n:Nat):Spw:=λws G Q _=>∃ k:Kd,ws=[k.enc]/\wf 10 k/\k.dp<=n/\∀ v,Q v G
theorem Wp:Spw.M (MI n):=(by rintro b G Q d E c h _ ⟨k,h1,h2,a,q⟩;exact⟨k,h1,h2,a,λv=>h _ _ (q v)⟩)
theorem MJ{n:Nat}{R:List W->Hw->Prop}{G:Hw}(b:∀ ys,R ys G):∀(fs:Fs)(o:Option W)(a:List W),(∀ c∈fs.kinds,wf 10 c/\c.dp<=n)->a.length+fs.kinds.length<=100->
  Be yes (gNm 0) (gTB (Ad (Ae (eqF false)) (Ad (Ae ixW) (Ab 0) (gC (.int 1))) (gC (.str "must")))) (L3.Ah (L3.Aa (Ad (Ae ixW) (Ab 0) (gC (.int 0))) (L3.Aa (Ag (MI n) XF (L3.Aa (Ad (Ae ixW) (Ab 0) (gC (.int 2))) L3.Ac)) L3.Ac))) R fs.enc [o] G a
 | .nil,o,a,_,_=>⟨trivial,b _⟩
 | .cons x m k r,o,a,d,hl=>by
  have f:a.length+(r.kinds.length+1)<=100:=hl;refine⟨trivial,Ep (by omega),?_⟩;show gTB _ [some (.tup [.str x,.str (mark m),k.enc])] G _;simp only[gTB,Ad,Ae,Ab,gC,Yb,ixW,Bb,Ao];rw[Mj,Ao];cases m with
  | true =>
   dsimp only;rw[if_pos rfl];simp only[L3.Ah,L3.Aa,L3.Ac,Ag,Ad,Ae,Ab,gC,Yb,ixW,A1,Bl,Ao];obtain⟨e,g⟩:=d k Ye;refine⟨k,rfl,e,g,λv=>⟨(Qzz 2),?_⟩⟩;exact MJ b r _ _ (λc hc=>d c (Yd _ hc)) (by rw[Yj];simp only[Yg,Yi];omega)
  | false =>
   dsimp only;rw[if_neg (by decide)];exact MJ b r _ _ (λc hc=>d c (Yd _ hc)) (by omega)
theorem Cz(T:Tx K mg base a):∀ n:Nat,Df P w K mg base "sample" (n+1) 1 (MI n)
 | 0=>CY T.Ra Wp λd G Q E⟨k,_,_,hd,_⟩=>by have:=Dc k;omega
 | n+1=>by
  refine mk0 (k:=n+1) T.Ra rfl We Wp (λd G Q E⟨x,e,_⟩=>by rw[e];rfl) (l0 T (Cz T n) (Yr _)) λd G Q E i q=>?_;obtain⟨k,rfl,f,hd,q⟩:=q;unfold Wf;show Af (gIf _ _ Al) _ (Ar Q) [some k.enc] G;refine Mg rfl ?_;by_cases g:k.hd="truth"
  ·rw[if_pos g];exact q _
  rw[if_neg g];refine Mg rfl ?_;by_cases b:k.hd="row"
  ·rw[if_pos b];obtain⟨fs,o,rfl⟩:=Me b;have j:=T7 f;simp only[Ai,gB,rF,AF,AD,Ad,Ae,Ab,gC,L3.Aa,L3.Ac,Kd.enc,Yb,ixW,Bb,Ao];refine MJ (n:=n) (λys=>?_) fs none [] (λc hc=>⟨T6 f hc,by have:=FU (k:=.row fs o) hc;omega⟩) (by rw[<- KD,<- LQ];simp only[Yi];omega);intro p h;rw[show AI [.ref p] (put G p (.lst ys))=some (.tup ys) by unfold AI;dsimp only;rw[Zip Ak];rfl,Ao];exact i _ _ _ (A3 h) (q _)
  ·rw[if_neg b];exact q _
def MK(a:Adr):Spw:=λws G Q E=>(∃ w,ws=[w]/\Dp w/\E a.NoKind G)\/∃ k:Kd,ws=[k.enc]/\kd8 k/\k.dat=true/\∀ v,Q v G
theorem mj:Spw.M (MK a):=λf G Q g E i h h' q=>q.elim (λ⟨w,e,b,c⟩=>.inl ⟨w,e,b,h' _ _ c⟩) λ⟨k,e,b,d,c⟩=>.inr ⟨k,e,b,d,λv=>h _ _ (c v)⟩
theorem ml:∀ b G Q E,MK a b G Q E->b.length=1:=λb G Q E q=>q.elim (λ⟨w,e,_⟩=>by rw[e];rfl) λ⟨k,e,_⟩=>by rw[e];rfl
theorem IP(T:Tx K mg base a):Df P w K mg base "sample_of" 12 1 (MK a):=by
 refine mkX (k:=11) T.iG rfl Wh mj ml (g:=λE=>MG _ _ E) (l7 T (Cy T) (by omega) (Cz T 8) (by omega)) λe G Q E h f q=>?_;unfold MG;rcases q with⟨x,rfl,c,q⟩|⟨k,rfl,b,d,q⟩
 ·walk_at "rd";exact .inl ⟨x,rfl,c,q⟩
 ·walk_at "rd";exact .inr ⟨k,rfl,b,d,k,rfl,b.1,b.2.2,q⟩
def Wq:Spw:=λws G Q _=>∃ k l:Kd,ws=[k.enc,l.enc]/\wf 10 k/\k.dp<=8/\(k.hd="row"->l.hd≠"row")/\∀ v,Q v G
theorem mm:Spw.M Wq:=(by rintro c G Q d E e h _ ⟨k,l,h1,h2,a,b,q⟩;exact⟨k,l,h1,h2,a,b,λv=>h _ _ (q v)⟩)
theorem Wr(x y:Str)(G:Hw):eqF false (.str x) (.str y) G=some (.bl (x==y)):=by unfold eqF eqW;show some (W.bl ((x==y) != false))=_;cases(x==y) <;> rfl
theorem IN(T:Tx K mg base a):Df P w K mg base "parting" 10 2 Wq:=by
 refine mk0 (k:=9) T.iI rfl Wj mm (λh G Q E⟨_,_,e,_⟩=>by rw[e];rfl) (l8 T (Cz T 8) (by omega) (CY (k:=1) T.iH HQ λ_ _ _ _ q=>q) (by omega)) λh G Q E m q=>?_;obtain⟨k,l,rfl,j,hd,i,q⟩:=q;unfold Wl;show Af (gIf _ _ Al) _ (Ar Q) [some k.enc,some l.enc] G;refine Gf rfl ?_;by_cases d:l.hd="any"
 ·rw[if_pos d];exact q _
 rw[if_neg d];refine Mg rfl ?_;by_cases b:k.hd="any"
 ·rw[if_pos b];simp only[Ai,Ag,AQ,gTB,Ad,Ae,Ab,gC,L3.Ah,L3.Aa,L3.Ac,Yb,Yc,CM,Ao,Wr];by_cases c:l.hd="num"
  ·rw[show(l.hd=="num")=true by simp[c],if_pos rfl];exact⟨(Qzz 1),.truth,rfl,⟨rfl,rfl⟩,by decide,q⟩
  ·rw[show(l.hd=="num")=false by simpa using c,if_neg (by decide)];exact⟨(Qzz 1),.num,rfl,⟨rfl,rfl⟩,by decide,q⟩
 rw[if_neg b];refine kG rfl rfl (CM k G) (CM l G) ?_;by_cases g:k.hd=l.hd
 ·rw[if_pos g];simp only[Ai,AQ,gTB,Ad,Ae,Ab,gC,Ag,L3.Aa,L3.Ac,Yb,Yc,CM,Ao,Wr];by_cases f:k.hd="row"
  ·exact absurd (g.symm.trans f) (i f)
  ·rw[show(k.hd=="row")=false by simpa using f,if_neg (by decide)];exact q _
 ·rw[if_neg g];simp only[Ai,Ag,Ab,L3.Aa,L3.Ac,Yb,Yc];exact⟨k,rfl,j,hd,q⟩
def ML(a:Adr):Spw:=λws G Q E=>(∃ v w,ws=[v,w]/\((Dp v)\/(∃ k:Kd,v=k.enc/\kd8 k/\k.dat=true/\Dp w))/\E a.NoKind G)\/∃ k l:Kd,ws=[k.enc,l.enc]/\(kd8 k/\k.dat=true)/\(kd8 l/\l.dat=true)/\(k.hd="row"->l.hd≠"row")/\∀ v,Q v G
theorem mn:Spw.M (ML a):=λg G Q i E j h h' q=>q.elim (λ⟨v,w,e,b,c⟩=>.inl ⟨v,w,e,b,h' _ _ c⟩) λ⟨k,l,e,b,d,f,c⟩=>.inr ⟨k,l,e,b,d,f,λv=>h _ _ (c v)⟩
theorem mo:∀ b G Q E,ML a b G Q E->b.length=2:=λb G Q E q=>q.elim (λ⟨v,w,e,_⟩=>by rw[e];rfl) λ⟨k,l,e,_⟩=>by rw[e];rfl
theorem IQ(T:Tx K mg base a):Df P w K mg base "parting_value" 12 2 (ML a):=by
 refine mkX (k:=11) T.iJ rfl Wo mn mo (g:=λE=>MH _ _ E) (ma T (Cy T) (by omega) (IN T) (by omega)) λi G Q E m j q=>?_;unfold MH;rcases q with⟨v,x,rfl,c |⟨k,rfl,b,d,c⟩,q⟩|⟨k,l,rfl,⟨b,d⟩,⟨f,e⟩,h,q⟩
 ·walk_at "rd";exact .inl ⟨v,rfl,c,q⟩
 ·walk_at "rd";exact .inr ⟨k,rfl,b,d,.inl ⟨x,rfl,c,q⟩⟩
 ·walk_at "rd";exact .inr ⟨k,rfl,b,d,.inr ⟨l,rfl,f,e,k,l,rfl,b.1,b.2.2,h,q⟩⟩
abbrev Ws:List Str:=["deep","kind","k"]
theorem Wt:Az Ws ["deep","kind"] (Aq Ll):=by walk_at "s"
def Wu:GS:=(Af (AB (AS (Aa (Ab 0) Ac)) (gNm 2) (An 1 (Ad (Ae ixW) (Ap (Aa (Ah (Aa (gC (.str "box")) (Aa (Ab 1) Ac))) (Aa (Ah (Aa (gC (.str "to")) (Aa (Ah (Aa (gC (.str "num")) Ac)) (Aa (Ab 1) Ac)))) (Aa (Ah (Aa (gC (.str "row")) (Aa (Ah (Aa (Ah (Aa (gC (.str "a")) (Aa (gC (.str "may")) (Aa (Ab 1) Ac)))) Ac)) (Aa (gC (.bl true)) Ac)))) Ac)))) (Ad (Au (λ_ j=>0 < j) λi j=>i % j) (Ab 2) (gC (.int 3)))))) (Ai (Ab 1)))
theorem mq(T:Tx K mg base a):Dn P w K mg base Ws "_law_nested_kind" Ll k (Wu):=by
 have hN:=Wt.nd;walk_at "z"
abbrev Wv:List Str:=["state","one","some","way","fields"]
theorem MM:Az Wv ["state"] (Aq Hn):=by walk_at "s"
def Ww(Av:Spw)(Gm:Spw):GS:=(Af (An 1 (Ah (Aa (gC (.str "num")) Ac))) (Af (An 2 (Ap (Aa (Ah Ac) (Aa (Ah (Aa (gC (.str "nun")) Ac)) (Aa (Ah (Aa (gC (.str "num")) (Aa (Ab 1) Ac))) (Aa (Ah (Aa (gC (.str "to")) (Aa (Ab 1) Ac))) (Aa (Ah (Aa (gC (.str "to")) (Aa (Ab 1) (Aa (Ab 1) (Aa (Ab 1) Ac))))) (Aa (Ah (Aa (gC (.str "box")) Ac)) (Aa (Ah (Aa (gC (.str "box")) (Aa (Ab 1) (Aa (Ab 1) Ac)))) (Aa (Ah (Aa (gC (.str "row")) (Aa (Ah Ac) Ac))) Ac)))))))))) (Af (An 2 (Ad (A0) (Ab 2) (Ap (Aa (Ah (Aa (gC (.str "row")) (Aa (Ah (Aa (Ah (Aa (gC (.str "a")) (Aa (gC (.str "must")) Ac))) Ac)) (Aa (gC (.bl false)) Ac)))) (Aa (Ah (Aa (gC (.str "row")) (Aa (Ah (Aa (Ah (Aa (gC (.str "A")) (Aa (gC (.str "must")) (Aa (Ab 1) Ac)))) Ac)) (Aa (gC (.bl false)) Ac)))) (Aa (Ah (Aa (gC (.str "any")) (Aa (Ab 1) Ac))) Ac)))))) (Af (An 2 (Ad (A0) (Ab 2) (Ap (Aa (Ah (Aa (gC (.str "row")) (Aa (Ah (Aa (Ah (Aa (gC (.str "")) (Aa (gC (.str "must")) (Aa (Ab 1) Ac)))) Ac)) (Aa (gC (.bl true)) Ac)))) (Aa (Ah (Aa (gC (.str "row")) (Aa (Ah (Aa (Ah (Aa (gC (.str "a")) (Aa (gC (.str "should")) (Aa (Ab 1) Ac)))) Ac)) (Aa (gC (.bl false)) Ac)))) (Aa (Ah (Aa (gC (.str "Num")) Ac)) Ac)))))) (Af (An 2 (Ad (A0) (Ab 2) (Ap (Aa (Ah (Aa (gC (.str "row")) (Aa (Ah (Aa (Ah (Aa (gC (.str "b")) (Aa (gC (.str "may")) (Aa (Ab 1) Ac)))) (Aa (Ah (Aa (gC (.str "a")) (Aa (gC (.str "may")) (Aa (Ab 1) Ac)))) Ac))) (Aa (gC (.bl false)) Ac)))) (Aa (Ah (Aa (gC (.str "row")) (Aa (Ah (Aa (Ah (Aa (gC (.str "a")) (Aa (gC (.str "may")) (Aa (Ah Ac) Ac)))) Ac)) (Aa (gC (.bl true)) Ac)))) Ac))))) (Af (An 2 (Ad (A0) (Ab 2) (Ap (Aa (Ah (Aa (gC (.str "row")) (Aa (Ah (Aa (Ah (Aa (gC (.str "a")) (Aa (gC (.str "may")) (Aa (Ab 1) Ac)))) (Aa (Ah (Aa (gC (.str "a")) (Aa (gC (.str "may")) (Aa (Ab 1) Ac)))) Ac))) (Aa (gC (.bl true)) Ac)))) (Aa (Ah (Aa (gC (.str "row")) (Aa (Ah (Aa (Ah (Aa (gC (.str "abcdefghi")) (Aa (gC (.str "may")) (Aa (Ab 1) Ac)))) Ac)) (Aa (gC (.bl true)) Ac)))) Ac))))) (Af (An 3 (Ag Av XF (Aa (Ab 0) (Aa (gC (.int 4)) Ac)))) (Af (gIf (gTB (Ad (Ae (eqF false)) (Ab 3) (gC (.int 0)))) (Ai (Ag Gm XF (Aa (Ad (A0) (gC (.int 8)) (Ag Av XF (Aa (Ab 0) (Aa (gC (.int 3)) Ac)))) (Aa (Ab 1) Ac)))) Al) (Af (gIf (gTB (Ad (Ae (eqF false)) (Ab 3) (gC (.int 1)))) (Af (An 4 (gB (rF AI) (Aa (BA (AS (Aa (gC (.int 20)) Ac)) 1 [1] (gNm 0) AM (Ah (Aa (Ad (A0) (gC (.str "a")) (Ad (Ae ixW) (gC (.str "abcdefghijklmnopqrst")) (Ab 0))) (Aa (gC (.str "may")) (Aa (Ah (Aa (gC (.str "box")) (Aa (Ab 1) Ac))) Ac))))) Ac))) (Ai (Ah (Aa (gC (.str "row")) (Aa (Ab 4) (Aa (gC (.bl true)) Ac)))))) Al) (Ai (Ag Gm XF (Aa (Ag Av XF (Aa (Ab 0) (Aa (gC (.int 4)) Ac))) (Aa (Ad (Ae ixW) (Ab 2) (Ag Av XF (Aa (Ab 0) (Aa (gB (rF AK) (Aa (Ab 2) Ac)) Ac)))) Ac)))))))))))))
theorem ms(T:Tx K mg base a){AL:Nat}(Dj:Df P w K mg base "_law_choice" AL 2 Av)(Dk:AL<=k){IR:Nat}(n6:Df P w K mg base "_law_nested_kind" IR 2 Gm)(n7:IR<=k):Dn P w K mg base Wv "_law_bad_kind" Hn k (Ww Av Gm):=λ{f cdv A outer s H E}hr=>
 have hu:=Ba hr
 have hN:=MM.nd
 (Ax (by walk_at "v") (Ax (by walk_at "v") (Ax (by walk_at "v") (Ax (by walk_at "v") (Ax (by walk_at "v") (Ax (by walk_at "v") (Ax (by walk_at "v") (Ax (by walk_at "v") (Ax (BY (by walk_at "v") (Ax (FG (i:=4) MM.nd rfl rfl rfl (CI DG (Ef) rfl T.DJ (by decide) rfl rfl rfl (AT rfl (FJ rfl (FH (own:=["k"]) (fr:=["one"]) (js:=[1]) (scX:=Aq Hn) (n:=s.heap.objs.size+1) rfl (by decide +kernel) (by decide +kernel) (by decide +kernel) (by decide +kernel) rfl rfl rfl (by decide +kernel) rfl) (λ_=>rfl) (by walk_at "v") (FI (i:=0) (by decide) rfl rfl) (λC fp s1 H1=>BH) (λC fp s1 H1=>(by walk_at "v"))) Bu))) (by walk_at "v")) CH) (by walk_at "v"))))))))))
abbrev Wx:List Str:=["e","marks"]
theorem Wy:Az Wx ["e"] (Aq Ho):=by walk_at "s"
def MN(K:PySem.W.Frag)(a:Adr):GS:=(Af (An 1 (Ap (Aa (Cf K (.ref a.NoKind) (Ab 0)) (Aa (Cf K (.ref a.NoTerm) (Ab 0)) (Aa (Cf K (.ref a.BadUse) (Ab 0)) (Aa (Cf K (.ref a.NoValue) (Ab 0)) Ac)))))) (Ai (Ad (A0) (Ab 1) (Ap (Aa (Cf K (.ref a.NoNumber) (Ab 0)) (Aa (Cf K (.ref a.BadNote) (Ab 0)) (Aa (Cf K (.type "ValueError") (Ab 0)) Ac)))))))
theorem mu{k:Nat}(T:Tx K mg base a){E:XK}:Ssm (cxN P w K mg base Wx "_law_marks" (Aq Ho) f cdv A outer s H) (λB=>B=H) (Bn Ho) (MN K a):=
 (Ax (FG (i:=1) Wy.nd rfl rfl rfl (GU (AT rfl (EW T.Hs T.Ck rfl rfl rfl rfl rfl (by walk_at "v")) (AT rfl (EW T.Rn T.Ck rfl rfl rfl rfl rfl (by walk_at "v")) (AT rfl (EW T.Ro T.Ck rfl rfl rfl rfl rfl (by walk_at "v")) (AT rfl (EW T.Lp T.Ck rfl rfl rfl rfl rfl (by walk_at "v")) Bu)))))) (AO (BG (FK (by walk_at "v") (GU (AT rfl (EW T.Rp T.Ck rfl rfl rfl rfl rfl (by walk_at "v")) (AT rfl (EW T.Rq T.Ck rfl rfl rfl rfl rfl (by walk_at "v")) (AT rfl (ef eE T.iX T.Ck rfl rfl (by decide) rfl rfl rfl (by walk_at "v")) Bu))))))))
abbrev Wz:List Str:=["marks","which"]
theorem WA:Az Wz ["marks","which"] (Aq Hq):=by walk_at "s"
def MO:GS:=(Ai (Ad (Ae (eqF false)) (Ab 0) (Ad (A0) (BA (AS (Aa (gC (.int 6)) Ac)) 1 [1] (gNm 0) AM (Ad (Ae (eqF false)) (Ab 0) (Ab 1))) (Ap (Aa (gC (.bl true)) Ac)))))
theorem mv(T:Tx K mg base a):Dn P w K mg base Wz "_law_refused" Hq k (MO):=λ{f cdv A outer s H E}hr=>
 have hu:=Ba hr
 have hN:=WA.nd
 (AO (BG (J7 (J6 hu) rfl (by walk_at "v") (FK (FJ rfl (FH (own:=["k"]) (fr:=["which"]) (js:=[1]) (scX:=Aq Hq) (n:=s.heap.objs.size+1) rfl (by decide +kernel) (by decide +kernel) (by decide +kernel) (by decide +kernel) rfl rfl rfl (by decide +kernel) rfl) (λ_=>rfl) (by walk_at "v") (FI (i:=0) (by decide) rfl rfl) (λC fp s1 H1=>BH) (λC fp s1 H1=>(by walk_at "v"))) (by walk_at "v")))))
abbrev WB:List Str:=["state","way","some","bad","k","inner"]
theorem MP:Az WB ["state"] (Aq Hr):=by walk_at "s"
def WC(Av:Spw):GS:=(Af (An 1 (Ag Av XF (Aa (Ab 0) (Aa (gC (.int 10)) Ac)))) (Af (An 2 (Ap (Aa (Ah (Aa (Ah (Aa (gC (.str "")) (Aa (gC (.int 1)) Ac))) Ac)) (Aa (Ah (Aa (Ah (Aa (gC (.str "A")) (Aa (gC (.int 1)) Ac))) Ac)) (Aa (Ah (Aa (Ah (Aa (gC (.str "abcdefghi")) (Aa (gC (.int 1)) Ac))) Ac)) (Aa (Ah (Aa (Ah (Aa (gC (.str "a")) (Aa (gC (.int 1)) Ac))) (Aa (Ah (Aa (gC (.str "a")) (Aa (gC (.int 2)) Ac))) Ac))) (Aa (Ah (Aa (Ah (Aa (gC (.str "b")) (Aa (gC (.int 1)) Ac))) (Aa (Ah (Aa (gC (.str "a")) (Aa (gC (.int 2)) Ac))) Ac))) (Aa (Ah (Aa (Ah (Aa (gC (.str "a b")) (Aa (gC (.int 0)) Ac))) Ac)) Ac)))))))) (Af (An 3 (Ad (Ae ixW) (Ab 2) (Ag Av XF (Aa (Ab 0) (Aa (gC (.int 6)) Ac))))) (Af (gIf (gTB (Ad (Ae (eqF false)) (Ab 1) (gC (.int 0)))) (Af (An 3 (gC (.int 1))) (Af (AB (AS (Aa (Ad (A0) (gC (.int 10)) (Ag Av XF (Aa (Ab 0) (Aa (gC (.int 3)) Ac)))) Ac)) (gNm 4) (An 3 (Ah (Aa (Ah (Aa (gC (.str "a")) (Aa (Ab 3) Ac))) Ac)))) (Ai (Ab 3)))) Al) (Af (gIf (gTB (Ad (Ae (eqF false)) (Ab 1) (gC (.int 1)))) (Af (An 5 (gB (rF AI) (Aa (AF (AS (Aa (gC (.int 10)) Ac)) 1 (gNm 0) AM (Ah (Aa (Ad (A0) (gC (.str "b")) (Ad (Ae ixW) (gC (.str "abcdefghij")) (Ab 0))) (Aa (Ab 0) Ac)))) Ac))) (Ai (Ad (A0) (gB (rF AI) (Aa (BA (AS (Aa (gC (.int 9)) Ac)) 1 [5] (gNm 0) AM (Ah (Aa (Ad (A0) (gC (.str "a")) (Ad (Ae ixW) (gC (.str "abcdefghi")) (Ab 0))) (Aa (Ab 1) Ac)))) Ac)) (Ah (Aa (Ah (Aa (gC (.str "b")) (Aa (gC (.bl true)) Ac))) Ac))))) Al) (Ai (Ad (Ae ixW) (Ap (Aa (Ab 3) (Aa (Ah (Aa (Ah (Aa (gC (.str "a")) (Aa (Ab 3) Ac))) Ac)) (Aa (Ah (Aa (Ah (Aa (gC (.str "a")) (Aa (gC (.int 1)) Ac))) (Aa (Ah (Aa (gC (.str "b")) (Aa (Ab 3) Ac))) Ac))) (Aa (Ah (Aa (Ah (Aa (gC (.str "a")) (Aa (Ah (Aa (Ah (Aa (gC (.str "ab")) (Aa (Ab 3) Ac))) Ac)) Ac))) Ac)) Ac))))) (Ad (Au (λ_ j=>0 < j) λi j=>i % j) (Ab 1) (gC (.int 4))))))))))
theorem mw(T:Tx K mg base a){AL:Nat}(Dj:Df P w K mg base "_law_choice" AL 2 Av)(Dk:AL<=k):Dn P w K mg base WB "_law_bad_value" Hr k (WC Av):=λ{f cdv A outer s H E}hr=>
 have hu:=Ba hr
 have hN:=MP.nd
 (Ax (by walk_at "v") (Ax (by walk_at "v") (Ax (by walk_at "v") (Ax (by walk_at "v") (Ax (BY (by walk_at "v") (Ax (Pf (i:=5) MP.nd rfl rfl rfl rfl (CI DG (Ef) rfl T.DJ (by decide) rfl rfl rfl (AT rfl (B0 (Nc:=["k"]) rfl (BV rfl (by decide +kernel) (by decide +kernel)) (λ_=>rfl) (by walk_at "v") (Cc (i:=0) (by decide) rfl rfl) (λC fp s1 H1=>BH) (λC fp s1 H1=>(by walk_at "v"))) Bu))) (AO (BG (FK (CI DG (Ef) rfl T.DJ (by decide) rfl rfl rfl (AT rfl (FJ rfl (FH (own:=["k"]) (fr:=["inner"]) (js:=[5]) (scX:=Aq Hr) (n:=s.heap.objs.size+1) rfl (by decide +kernel) (by decide +kernel) (by decide +kernel) (by decide +kernel) rfl rfl rfl (by decide +kernel) rfl) (λ_=>rfl) (by walk_at "v") (FI (i:=0) (by decide) rfl rfl) (λC fp s1 H1=>BH) (λC fp s1 H1=>(by walk_at "v"))) Bu)) (by walk_at "v"))))) CH) (by walk_at "v"))))))
local macro_rules | `(tactic| walk_at "lg") => `(tactic| (simp only [L3.Ah, L3.Aa, L3.Ac, gC, Ab, Ad, Yb, Yc, Yg, Yi]; repeat refine ⟨by decide, ?_⟩))
abbrev due(b0 b3:Bool):List W:=[.bl b0,.bl false,.bl false,.bl b3,.bl false,.bl false,.bl true]
def WD(a:Adr):Spw:=λws G Q _=>∃(e:Addr)(b:Bool),ws=[.ref e]/\G e=some (.exc (if b then a.NoKind else a.NoValue))/\∀ p,G p=none->Q (.ref p) (put G p (.lst (due b !b)))
theorem mx:Spw.M (WD a):=λd G Q f E g h _⟨e,b,h1,h2,q⟩=>⟨e,b,h1,h2,λp c=>h _ _ (q p c)⟩
theorem EF{e C:Addr}{cv:Value}(d:G e=some (.exc C))(hω:ω[0]?=some (some (.ref e)))(a:C5 K C)(c:PySem.W.kitOne K (.ref C) cv=some b)(q:Q (.bl b) G):Cf K cv (Ab 0) ω G Q:=by
 unfold Cf Ab;rw[hω];dsimp only;rw[d];exact⟨b,a,c,q⟩
theorem Fk{q:Addr}{o:HW}(h:put G p o q=none):G q=none:=by
 by_cases a:q=p
 ·subst a;rw[Ak]at h;cases h
 ·rw[Aj a]at h;exact h
theorem WE{a:Hw}{o:HW}(s:Sub G a):Sub (put G p o) (put a p o):=Sub.put2 s
variable {b0 b3:Bool}
theorem WF{C:Addr}{e:Addr}(b:C5 K C)(n:PySem.W.kitOne K (.ref C) (.ref a.NoKind)=some b0)(j:PySem.W.kitOne K (.ref C) (.ref a.NoTerm)=some false)(s:PySem.W.kitOne K (.ref C) (.ref a.BadUse)=some false)(i:PySem.W.kitOne K (.ref C) (.ref a.NoValue)=some b3)(r:PySem.W.kitOne K (.ref C) (.ref a.NoNumber)=some false)(w:PySem.W.kitOne K (.ref C) (.ref a.BadNote)=some false)(l:PySem.W.kitOne K (.ref C) (.type "ValueError")=some true)(v:Kw.C Q)(d:G e=some (.exc C))(q:∀ p,G p=none->Q (.ref p) (put G p (.lst (due b0 b3)))):MN K a (Ar Q) [some (.ref e),none] G:=by
 unfold MN;simp only[Af,An,Ap,L3.Aa,L3.Ac,Ai,Ar];refine EF d rfl b n (EF d rfl b j (EF d rfl b s (EF d rfl b i ?_)));refine⟨(Qzz 4),λp h=>?_⟩;have k:e≠p:=AC d h;have c:put G p (.lst [.bl b0,.bl false,.bl false,.bl b3]) e=some (.exc C):=by rw[Aj k];exact d
 simp only[Ad,Ab,Ap,L3.Aa,L3.Ac,Yb,Yc,Yk,Yl];refine EF c rfl b r (EF c rfl b w (EF c rfl b l ?_));refine⟨by decide,λp2 f=>?_⟩;have t:p≠p2:=AC Ak f;rw[Ek (λz=>by obtain⟨⟨u,m⟩,_⟩:=z;cases m)];unfold L3.AJ;have o:put (put G p (.lst [.bl b0,.bl false,.bl false,.bl b3])) p2 (.lst [.bl false,.bl false,.bl true]) p=some (.lst [.bl b0,.bl false,.bl false,.bl b3]):=by rw[Aj t];exact Ak
 simp only[o,Ak];refine⟨(Qzz 7),λp3 g=>?_⟩;refine v _ _ _ (Sub.put2 (BC (A3 h) f)) (q p3 (Fk (Fk g)))
theorem IS(T:Tx K mg base a):DfN P w K mg base "_law_marks" 1 1 (WD a):=by
 refine mkN T.iR rfl Wy mx (λf G Q E⟨e,b,h,_⟩=>by rw[h];rfl) (mu (k:=0) (E:=λ_ _ _=>True) T) λf G Q E c q=>?_;obtain⟨e,b,rfl,d,q⟩:=q;cases b with
 | true=>exact WF T.Ru T.Rv T.Rw T.Rx T.Ry T.Rz T.RA T.RB c d q
 | false=>exact WF T.RD T.RE T.RF T.RG T.RH T.RI T.RJ T.RK c d q
abbrev BD:W:=.tup [.str "num"]
def wr(i:Nat)(w:W):W:=match i % 3 with
 | 0=>.tup [.str "box",w]
 | 1=>.tup [.str "to",BD,w]
 | _=>.tup [.str "row",.tup [.tup [.str "a",.str "may",w]],.bl true]
def nsW:Nat->Nat->W->W
 | 0,_,w=>w
 | n+1,i,w=>nsW n (i+1) (wr i w)
def wrK(i:Nat)(k:Kd):Kd:=match i % 3 with
 | 0=>.box k
 | 1=>.to .num k
 | _=>.row (.cons "a" false k .nil) true
def nsK:Nat->Nat->Kd->Kd
 | 0,_,k=>k
 | n+1,i,k=>nsK n (i+1) (wrK i k)
theorem IT(i:Nat):i % 3=0\/i % 3=1\/i % 3=2:=by omega
theorem MQ(h:i % 3=0)(w:W):wr i w=.tup [.str "box",w]:=by unfold wr;rw[h];rfl
theorem MR(h:i % 3=1)(w:W):wr i w=.tup [.str "to",BD,w]:=by unfold wr;rw[h];rfl
theorem MS(h:i % 3=2)(w:W):wr i w=.tup [.str "row",.tup [.tup [.str "a",.str "may",w]],.bl true]:=by unfold wr;rw[h];rfl
theorem WG(h:i % 3=0)(k:Kd):wrK i k=.box k:=by unfold wrK;rw[h];rfl
theorem WH(h:i % 3=1)(k:Kd):wrK i k=.to .num k:=by unfold wrK;rw[h];rfl
theorem WI(h:i % 3=2)(k:Kd):wrK i k=.row (.cons "a" false k .nil) true:=by unfold wrK;rw[h];rfl
theorem my(i:Nat)(k:Kd):wr i k.enc=(wrK i k).enc:=by
 rcases IT i with h | h | h
 ·rw[MQ h,WG h];rfl
 ·rw[MR h,WH h];rfl
 ·rw[MS h,WI h];rfl
theorem WJ:∀(n i:Nat)(k:Kd),nsW n i k.enc=(nsK n i k).enc
 | 0,_,_=>rfl
 | n+1,i,k=>by show nsW n (i+1) (wr i k.enc)=_;rw[my,WJ n];rfl
theorem mz(i:Nat){k:Kd}(h1:k.ok=true):(wrK i k).ok=true/\(wrK i k).dp=1+k.dp/\(wrK i k).cnt<=k.cnt+2:=by
 have a:=Dc k;rcases IT i with h | h | h
 ·rw[WG h];exact⟨h1,rfl,by show 1+k.cnt<=_;omega⟩
 ·rw[WH h];refine⟨by show(true&&k.ok)=true;rw[h1];rfl,by show 1+max 1 k.dp=_;omega,by show 1+(1+k.cnt)<=_;omega⟩
 ·rw[WI h];refine⟨?_,by show 1+max k.dp 0=_;omega,by show 1+(k.cnt+0)<=_;omega⟩;show(rise ["a"]&&(AE "a"&&k.ok&&true))=true;rw[h1,show AE "a"=true by decide +kernel];rfl
theorem WK:∀(n i:Nat){k:Kd},k.ok=true->(nsK n i k).ok=true/\(nsK n i k).dp=n+k.dp/\(nsK n i k).cnt<=k.cnt+2*n
 | 0,_,k,h1=>⟨h1,(Nat.zero_add _).symm,by show k.cnt<=_;omega⟩
 | n+1,i,k,h1=>by
  obtain⟨a,e,c⟩:=mz i h1;obtain⟨b,d,f⟩:=WK n (i+1) a;exact⟨b,by show(nsK n (i+1) (wrK i k)).dp=_;omega,by show(nsK n (i+1) (wrK i k)).cnt<=_;omega⟩
theorem CA{Aw:GS}(h:ge ω G λw a=>Aw D (ω.set i (some w)) a):Af (An i ge) Aw D ω G:=h
theorem at3(w:W):atI [.tup [.str "box",w],.tup [.str "to",BD,w],.tup [.str "row",.tup [.tup [.str "a",.str "may",w]],.bl true]] ((i:Int) % 3)=some (wr i w):=by
 have e:(i:Int) % 3=((i % 3:Nat):Int):=by omega
 rw[e];rcases IT i with h | h | h
 ·rw[h,MQ h];rfl
 ·rw[h,MR h];rfl
 ·rw[h,MS h];rfl
abbrev gNs:GS:=An 1 (Ad (Ae ixW) (Ap (L3.Aa (L3.Ah (L3.Aa (gC (.str "box")) (L3.Aa (Ab 1) L3.Ac))) (L3.Aa (L3.Ah (L3.Aa (gC (.str "to")) (L3.Aa (L3.Ah (L3.Aa (gC (.str "num")) L3.Ac)) (L3.Aa (Ab 1) L3.Ac)))) (L3.Aa (L3.Ah (L3.Aa (gC (.str "row")) (L3.Aa (L3.Ah (L3.Aa (L3.Ah (L3.Aa (gC (.str "a")) (L3.Aa (gC (.str "may")) (L3.Aa (Ab 1) L3.Ac)))) L3.Ac)) (L3.Aa (gC (.bl true)) L3.Ac)))) L3.Ac)))) (Ad (Au (λ_ j=>0 < j) λi j=>i % j) (Ab 2) (gC (.int 3))))
theorem WL{D:Ew}{c:Option W}:∀(n i:Nat)(w:W)(a:Option W)(G:Hw),(∀ a b,Sub G b->D.nx [c,some (nsW n i w),a] b)->
  A8 yes (gNm 2) gNs D ((List.range' i n).map λj:Nat=>W.int j) [c,some w,a] G
 | 0,i,w,a,G,h=>⟨trivial,h a G Sub.refl⟩
 | n+1,i,w,a,G,h=>by
  refine⟨trivial,?_⟩;show gNs _ [c,some w,some (.int i)] G;simp only[gNs,An,Ad,Ap,L3.Ah,L3.Aa,L3.Ac,gC,Ab,Yb,Yc,Yg,Yi,Au]
  repeat refine⟨by decide,?_⟩
  intro p d;refine⟨by decide,?_⟩;show opt (ixW (.ref p) (.int ((i:Int) % 3)) _) _;rw[BQ Ak,at3,Ao];walk_at "pa";exact WL n (i+1) (wr i w) _ _ λa b e=>h a b ((A3 d).trans e)
def mB:Spw:=spR (λ(x:Nat×W)ws _=>ws=[.int x.1,x.2]/\x.1<=20) λx=>nsW x.1 0 x.2
theorem IR(T:Tx K mg base a):Df P w K mg base "_law_nested_kind" 1 2 mB:=by
 refine mk0 T.iP rfl Wt BJ (λb G Q E⟨x,⟨e,_⟩,_⟩=>by rw[e];rfl) (mq T) λb G Q E f q=>?_;obtain⟨⟨d,w⟩,⟨rfl,hd⟩,q⟩:=q;dsimp only at hd q;unfold Wu;show Af (AB _ _ gNs) _ (Ar Q) [some (.int d),some w,none] G;simp only[Af,AB,AS,L3.Aa,L3.Ac,Ab,Yb];refine⟨by omega,by omega,?_⟩;rw[Int.toNat_natCast,List.range_eq_range'];exact WL d 0 w none G λh g c=>f _ _ _ c q
abbrev bd1:List W:=[.tup [],.tup [.str "nun"],.tup [.str "num",BD],.tup [.str "to",BD],.tup [.str "to",BD,BD,BD],.tup [.str "box"],.tup [.str "box",BD,BD],.tup [.str "row",.tup []]]
abbrev bd2:List W:=[.tup [.str "row",.tup [.tup [.str "a",.str "must"]],.bl false],.tup [.str "row",.tup [.tup [.str "A",.str "must",BD]],.bl false],.tup [.str "any",BD]]
abbrev bd3:List W:=[.tup [.str "row",.tup [.tup [.str "",.str "must",BD]],.bl true],.tup [.str "row",.tup [.tup [.str "a",.str "should",BD]],.bl false],.tup [.str "Num"]]
abbrev bd4:List W:=[.tup [.str "row",.tup [.tup [.str "b",.str "may",BD],.tup [.str "a",.str "may",BD]],.bl false],.tup [.str "row",.tup [.tup [.str "a",.str "may",.tup []]],.bl true]]
abbrev bd5:List W:=[.tup [.str "row",.tup [.tup [.str "a",.str "may",BD],.tup [.str "a",.str "may",BD]],.bl true],.tup [.str "row",.tup [.tup [.str "abcdefghi",.str "may",BD]],.bl true]]
def CZ:List W:=bd1++bd2++bd3++bd4++bd5
def okB:Nat->W->Bool
 | 0,w=>okL w
 | n+1,w=>okL w&&(!hF w||(Bm w).all (okB n))
theorem MT:∀{n:Nat}{w:W},okB n w=true->OKW n w
 | 0,_,h=>h
 | n+1,w,h=>by
  have h':(okL w&&(!hF w||(Bm w).all (okB n)))=true:=h;walk_at "pc";refine⟨h'.1,λa c hc=>?_⟩;have z:=h'.2;rw[a]at z;exact MT (List.all_eq_true.mp (by simpa using z) c hc)
theorem OKW.down:∀{n:Nat}{w:W},OKW (n+1) w->OKW n w
 | 0,_,h=>h.1
 | n+1,_,h=>⟨h.1,λa c hc=>(h.2 a c hc).down⟩
theorem MU:CZ.length=18:=by decide +kernel
theorem mC:(CZ.all λw=>bdW 1 w&&okB 7 w)=true:=by decide +kernel
theorem mD{w:W}(h:w∈CZ):bdW 1 w=true/\OKW 7 w:=by
 have z:=List.all_eq_true.mp mC w h;simp only[YH]at z;exact⟨z.1,MT z.2⟩
theorem MV{w v:W}{d:Nat}(a:v∈Bm w)(h:bdW d v=true):bdW (d+1) w=true:=by
 show(!hF w||(Bm w).any (bdW d))=true;rw[List.any_eq_true.mpr ⟨v,a,h⟩,Bool.or_true]
theorem WM(w:W):Bm (.tup [.str "box",w])=[w]:=Ey (h:="box") (r:=[w]) (by decide +kernel)
theorem WN(v w:W):Bm (.tup [.str "to",v,w])=[v,w]:=Ey (h:="to") (r:=[v,w]) (by decide +kernel)
theorem WO(w:W):Bm (.tup [.str "row",.tup [.tup [.str "a",.str "may",w]],.bl true])=[w]:=TL (fs:=[.tup [.str "a",.str "may",w]]) (r:=[.bl true])
theorem mE(i:Nat){w:W}{d:Nat}(h1:bdW d w=true)(h2:OKW 7 w):bdW (d+1) (wr i w)=true/\OKW 7 (wr i w):=by
 rcases IT i with h | h | h
 ·rw[MQ h];refine⟨MV (by rw[WM];exact YA.mpr rfl) h1,rfl,λ_ c hc=>?_⟩;rw[WM]at hc;rw[YA.mp hc];exact h2.down
 ·rw[MR h];refine⟨MV (by rw[WN];exact Yd _ (YA.mpr rfl)) h1,rfl,λ_ c hc=>?_⟩;rw[WN]at hc;simp only[Yo,Qd,or_false]at hc;rcases hc with rfl | rfl
  ·exact MT (by decide +kernel)
  ·exact h2.down
 ·rw[MS h];refine⟨MV (by rw[WO];exact YA.mpr rfl) h1,rfl,λ_ c hc=>?_⟩;rw[WO]at hc;rw[YA.mp hc];exact h2.down
theorem WP:∀(n i:Nat){w:W}{d:Nat},bdW d w=true->OKW 7 w->bdW (d+n) (nsW n i w)=true/\OKW 7 (nsW n i w)
 | 0,_,_,_,h1,h2=>⟨h1,h2⟩
 | n+1,i,w,d,h1,h2=>by
  obtain⟨b,a⟩:=mE i h1 h2;obtain⟨e,c⟩:=WP n (i+1) b a;rw[show d+(n+1)=d+1+n by omega];exact⟨e,c⟩
theorem mF{w:W}(h:w∈CZ)(n:Nat):bad (nsW n 0 w):=by
 obtain⟨h1,h2⟩:=mD h;obtain⟨b,a⟩:=WP n 0 h1 h2;exact⟨a,j9 b⟩
theorem mG(b:8<=n)(a:n<=20):bad (nsW n 0 BD):=by
 have e:BD=Kd.num.enc:=rfl;rw[e,WJ];obtain⟨h1,c,d⟩:=WK n 0 (k:=.num) rfl;have f:Kd.num.dp=1:=rfl;have g:Kd.num.cnt=1:=rfl;refine⟨HX 7 h1 (by omega),?_⟩;rw[L7 h1];exact decide_eq_false λz=>by omega
def sgn(z:Str)(i:Nat):Str:=match atI z.cps.toList (i:Int)with | some c=>⟨#[c]⟩| none=>""
theorem IU(G:Hw)(a:z.length<=sizeLine)(h:i < z.cps.toList.length):ixW (.str z) (.int i) G=some (.str (sgn z i)):=by
 have e:atI z.cps.toList (i:Int)=some z.cps.toList[i]:=EN (Yp h);show(if z.length<=sizeLine then(atI z.cps.toList (i:Int)).map (λc=>W.str ⟨#[c]⟩)else none)=_;unfold sgn;rw[if_pos a,e];rfl
theorem IV(z:Str)(i:Nat):(sgn z i).length<=1:=by
 unfold sgn;split
 ·exact Yr 1
 ·exact YZ _
def rl(z:Str)(n:Nat):List (Str×Bool×Kd):=(List.range n).map λi=>("a"++sgn z i,false,.box .num)
abbrev z20:Str:="abcdefghijklmnopqrst"
theorem r20:(Kd.row (ofL (rl z20 20)) true).ok=true/\(Kd.row (ofL (rl z20 20)) true).cnt=41:=by decide +kernel
theorem mH:bad (Kd.row (ofL (rl z20 20)) true).enc:=by
 obtain⟨h1,h2⟩:=r20;refine⟨HX 7 h1 (by omega),?_⟩;rw[L7 h1];exact decide_eq_false λz=>by omega
theorem mI(l:List (Str×Bool×Kd))(o:Bool):(Kd.row (ofL l) o).enc=.tup [.str "row",.tup (l.map Bt),.bl o]:=by rw[<- HR];rfl
variable {ga:GA}
theorem IW{Aw:GS}(g:ω[i]?=some (some (.ref p)))(c:G p=some (.lst xs))(hl:xs.length+ys.length<=100)(k:∀ R:List W->Hw->Prop,R ys G->ga ω G R)(h:∀ r a,Sub G a->a r=some (.lst (xs++ys))->Aw D (ω.set i (some (.ref r))) a):Af (An i (Ad A0 (Ab i) (Ap ga))) Aw D ω G:=by
 simp only[Af,An,Ad,Ab,g,Ap];refine k _ ⟨BE (by omega),λq b=>?_⟩;have e:p≠q:=AC c b;have j:put G q (.lst ys) p=some (.lst xs):=by rw[Aj e];exact c
 rw[Ek (λz=>by obtain⟨⟨u,f⟩,_⟩:=z;cases f)];unfold L3.AJ;simp only[j,Ak];exact⟨BE (by omega),λr d=>h r _ (BC (A3 b) d) Ak⟩
theorem WQ{Aw:GS}(hl:ys.length<=100)(c:∀ R:List W->Hw->Prop,R ys G->ga ω G R)(h:∀ r a,Sub G a->a r=some (.lst ys)->Aw D (ω.set i (some (.ref r))) a):Af (An i (Ap ga)) Aw D ω G:=by
 simp only[Af,An,Ap];exact c _ ⟨BE (by omega),λq b=>h q _ (A3 b) Ak⟩
theorem D2{i j:Int}{s t:GS}(a:ω[n]?=some (some (.int i)))(h:if i=j then s D ω G else t D ω G):gIf (gTB (Ad (Ae (eqF false)) (Ab n) (gC (.int j)))) s t D ω G:=by
 simp only[gIf,gTB,Ad,Ae,Ab,a,gC,A2,A4,A5,YE,Ao];by_cases z:i=j
 ·rw[if_pos z]at h;have:(i==j)=true:=by simp[z]
  rw[this];exact h
 ·rw[if_neg z]at h;have:(i==j)=false:=by simp[z]
  rw[this];exact h
theorem MW{i:Int}(c:0<=i)(h:i <(xs.length:Int)):∃ w∈xs,atI xs i=some w:=by
 have a:i.toNat < xs.length:=by omega
 have b:i=((i.toNat:Nat):Int):=by omega
 refine⟨xs[i.toNat],Qk a,?_⟩;have q:atI xs ((i.toNat:Nat):Int)=some xs[i.toNat]:=EN (Yp a);rw[<- b]at q;exact q
abbrev St(x:Int)(b:Bool):HW:=.lst [.int x,.bl b]
def MX:Spw:=λws G Q _=>∃(s:Addr)(x:Int)(b:Bool),ws=[.ref s]/\G s=some (St x b)/\∀ w x',bad w->Q w (put G s (St x' b))
theorem mJ:Spw.M MX:=λc G Q e E d h _⟨s,x,b,h1,h2,q⟩=>⟨s,x,b,h1,h2,λw a z=>h _ _ (q w a z)⟩
variable {R:List W->Hw->Prop}
theorem mK{cst:Sw}(g:n<=50)(d:z.length<=sizeLine)(hl:n<=z.cps.toList.length)(c:∀ i,i < n->∀ Q:Kw,Q (Bt ("a"++sgn z i,false,.box .num)) G->ge (some (.int i)::cst) G Q)(r:R ((rl z n).map Bt) G):Be yes (gNm 0) AM ge R ((List.range n).map λi:Nat=>W.int i) (none::cst) G []:=by
 refine Ex (enc:=λi:Nat=>W.int i) (f:=λi=>Bt ("a"++sgn z i,false,.box .num)) trivial (List.range n) none [] (λi hi b a=>c i (List.mem_range.mp hi) b a) (by rw[List.length_range];exact BE (by simp only[Yi];omega)) ?_;rw[Yw];have e:(rl z n).map Bt=(List.range n).map λi=>Bt ("a"++sgn z i,false,.box .num):=by unfold rl;rw[YB];rfl
 rw[<- e];exact r
theorem IX(T:Tx K mg base a):Df P w K mg base "_law_bad_kind" 2 1 MX:=by
 refine mk0 (k:=1) T.iQ rfl MM mJ (λws G Q E⟨s,x,b,e,_⟩=>by rw[e];rfl) (ms T (AL T) (Yr _) (IR T) (Yr _)) λws G Q E hC q=>?_;obtain⟨s,x,b,rfl,hs,q⟩:=q;unfold Ww;show Af (An 1 _) _ (Ar Q) [some (.ref s),none,none,none,none] G;refine CA ?_;refine⟨(Qzz 1),?_⟩;walk_at "pa";refine WQ (ys:=bd1) (by decide) (λR hR=>?_) λp1 G1 s1 e1=>?_
 ·walk_at "lg";exact hR
 walk_at "pa";refine IW (xs:=bd1) (ys:=bd2) rfl e1 (by decide) (λR hR=>?_) λp2 G2 s2 e2=>?_
 ·walk_at "lg";exact hR
 walk_at "pa";refine IW (xs:=bd1++bd2) (ys:=bd3) rfl e2 (by decide) (λR hR=>?_) λp3 G3 s3 e3=>?_
 ·walk_at "lg";exact hR
 walk_at "pa";refine IW (xs:=bd1++bd2++bd3) (ys:=bd4) rfl e3 (by decide) (λR hR=>?_) λp4 G4 s4 e4=>?_
 ·walk_at "lg";exact hR
 walk_at "pa";refine IW (xs:=bd1++bd2++bd3++bd4) (ys:=bd5) rfl e4 (by decide) (λR hR=>?_) λp5 G5 s5 e5=>?_
 ·walk_at "lg";exact hR
 walk_at "pa";have sb:Sub G G5:=((((s1.trans s2).trans s3).trans s4).trans s5);have e9:G5 p5=some (.lst CZ):=e5;have hs5:G5 s=some (St x b):=sb s _ hs
 have hne:p5≠s:=λz=>by
  rw[z,hs5]at e9;have e0:CZ=[.int x,.bl b]:=by injection e9 with e9;injection e9 with e9;exact e9.symm
  have:=MU;rw[e0]at this;cases this
 refine CA ?_;refine⟨s,4,x,b,[],rfl,by decide,by decide,hs5,λway x1 r0 r1=>?_⟩;walk_at "pa";have sb1:∀{y:Int},Sub (put G s (St y b)) (put (put G5 s (St x1 b)) s (St y b)):=λ{y}=>by rw[Cr];exact Sub.put2 sb
 simp only[Af];refine D2 (n:=3) rfl ?_;by_cases h0:way=0
 ·rw[if_pos h0];simp only[Ai,Ag,L3.Aa,L3.Ac,Ad,gC,Ab,Yb,Yc,A0,L3.AJ];refine⟨s,3,x1,b,[],rfl,by decide,by decide,Ak,λr2 x2 u0 u1=>?_⟩;refine⟨((8+r2).toNat,BD),⟨?_,by dsimp only;omega⟩,?_⟩
  ·dsimp only;rw[Int.toNat_of_nonneg (by omega)]
  ·exact hC _ _ _ sb1 (q _ _ (mG (by omega) (by omega)))
 rw[if_neg h0];simp only[Al];refine D2 (n:=3) rfl ?_;by_cases h1:way=1
 ·rw[if_pos h1];simp only[Af,An,gB,L3.Aa,L3.Ac,BA,AS,gC,Bh,Ab,Ym,YJ,List.replicate,List.cons_append,Yw,Yb,Yc,Option.getD_some];walk_at "pj";refine mK (z:=z20) (n:=20) (by decide) (by decide) (by decide +kernel) (λi hi Q' q'=>?_) λp hp=>?_
  ·simp only[L3.Ah,L3.Aa,L3.Ac,Ad,gC,Ab,Ae,Yb,Yc,Yg,Yi];rw[IU _ (by decide) (Yu hi (by decide +kernel)),Ao];refine⟨?_,?_⟩
   ·exact Yt (Nat.add_le_add_left (IV z20 i) _) (by decide)
   ·refine⟨by decide,by decide,q'⟩
  ·simp only[rF,AI,Zip Ak,YE,Ao,Yk,Yl,Ai,L3.Ah,L3.Aa,L3.Ac,gC,Ab,Yb,Yc,Ar,Yg,Yi];refine⟨by decide,?_⟩;have z:=q _ x1 mH;rw[mI]at z;exact hC _ _ _ (BC (Sub.put2 sb) hp) z
 rw[if_neg h1];simp only[Al,Ai,Ag,L3.Aa,L3.Ac,Ad,gC,Ab,Ae,gB,rF,Yb,Yc];refine⟨s,4,x1,b,[],rfl,by decide,by decide,Ak,λr2 x2 u0 u1=>?_⟩;rw[Cr];have ep:put G5 s (St x2 b) p5=some (.lst CZ):=by rw[Aj hne];exact e9
 simp only[AK,A9,ep,Ao];refine⟨s,CZ.length,x2,b,[],rfl,by rw[MU];decide,by rw[MU];decide,Ak,λr3 x3 v0 v1=>?_⟩;rw[Cr];obtain⟨v,hv,hat⟩:=MW (xs:=CZ) v0 v1;have ep3:put G5 s (St x3 b) p5=some (.lst CZ):=by rw[Aj hne];exact e9
 rw[BQ ep3,hat,Ao];refine⟨(r2.toNat,v),⟨?_,by dsimp only;omega⟩,?_⟩
 ·dsimp only;rw[Int.toNat_of_nonneg u0]
 ·exact hC _ _ _ (Sub.put2 sb) (q _ _ (mF hv _))
theorem WR(a:Bool){r:Addr}(h1:G p=some (.lst xs))(h2:G r=some (.lst xs))(hd:L3.dpL xs < 90)(b:Bv xs xs=some true):eqF a (.ref p) (.ref r) G=some (.bl (true != a)):=by
 have:eqW (.ref p) (.ref r) G=some true:=by
  unfold eqW;simp only[h1,h2];rw[if_pos hd,b]
 unfold eqF;rw[this];rfl
set_option hygiene false in
local macro_rules | `(tactic| walk_at "c") => `(tactic| first | exact J6 hu | exact OO hu | exact OP | exact cop_nin | exact OM | exact OK | exact ON | exact OL | exact Ks | exact PZ | exact cop_inT hu | exact cop_nInT hu | exact cop_nInU hu | exact cop_isB | exact cop_inN hu | exact cop_inK | exact P3 | exact cop_inS | exact g9 hu)
abbrev WT:List Str:=["way","kind","value"]
theorem WU:Az WT ["way","kind","value"] (Aq F4):=by walk_at "s"
def MY(IY:Spw)(Do:Spw)(IZ:Spw)(Gn:Spw)(E:Addr->Hw->Prop):GS:=(gIf (gTB (Ad (Ae (eqF false)) (Ab 0) (gC (.int 0)))) (AA (Ag IY (λ_=>E) (Aa (Ab 2) (Aa (Ab 1) Ac)))) (gIf (gTB (Ad (Ae (eqF false)) (Ab 0) (gC (.int 1)))) (AA (Ag Do (λ_=>E) (Aa (Ab 2) (Aa (Ab 1) Ac)))) (gIf (gTB (Ad (Ae (eqF false)) (Ab 0) (gC (.int 2)))) (AA (Ag IZ (λ_=>E) (Aa (Ab 1) Ac))) (gIf (gTB (Ad (Ae (eqF false)) (Ab 0) (gC (.int 3)))) (AA (Ag Gn (λ_=>E) (Aa (Ab 1) (Aa (Ah (Aa (gC (.str "num")) Ac)) Ac)))) (AA (Ag Gn (λ_=>E) (Aa (Ah (Aa (gC (.str "num")) Ac)) (Aa (Ab 1) Ac))))))))
theorem mL(T:Tx K mg base a){IG:Nat}(mM:Df P w K mg base "fits" IG 2 IY)(h_fits:IG<=k){DW:Nat}(Mb:Df P w K mg base "misfit" DW 2 Do)(Mc:DW<=k){IP:Nat}(mO:Df P w K mg base "sample_of" IP 1 IZ)(mP:IP<=k){IQ:Nat}(WV:Df P w K mg base "parting_value" IQ 2 Gn)(WW:IQ<=k)(hr:Room k (A.deeper (envOfC "_law_called" (Aq F4) s.heap.objs.size f cdv))):Ssm (cxW P w K mg base WT "_law_called" (Aq F4) f cdv A outer s H E) (λB=>B=H) (Bn F4) (MY IY Do IZ Gn (dnX K H E)):=
 have hu:=Ba hr
 have hN:=WU.nd
 (AO (BY (by walk_at "v") (AO (BX rfl (Br mM (hr.mono h_fits) rfl BI rfl rfl rfl (by walk_at "v")))) (AO (BY (by walk_at "v") (AO (BX rfl (Br Mb (hr.mono Mc) rfl BI rfl rfl rfl (by walk_at "v")))) (AO (BY (by walk_at "v") (AO (BX rfl (Br mO (hr.mono mP) rfl BI rfl rfl rfl (by walk_at "v")))) (AO (BY (by walk_at "v") (AO (BX rfl (Br WV (hr.mono WW) rfl BI rfl rfl rfl (by walk_at "v")))) (AO (BX rfl (Br WV (hr.mono WW) rfl BI rfl rfl rfl (by walk_at "v"))))))))))))
abbrev WX:List Str:=["way","kind","value","marks","e"]
theorem Ja:Az WX ["way","kind","value"] (Aq Lm):=by walk_at "s"
def WY(K:PySem.W.Frag)(a:Adr)(Jb:Spw)(Jc:Spw):GS:=(Af (An 3 (Ap Ac)) (Af (Ke K a.CastError 4 (λex=>(AA (Ag Jb ex (Aa (Ab 0) (Aa (Ab 1) (Aa (Ab 2) Ac)))))) (An 3 (Ag Jc XF (Aa (Ab 4) Ac)))) (Ai (Ab 3))))
theorem mQ(T:Tx K mg base a){Jd:Nat}(mR:Df P w K mg base "_law_called" Jd 3 Jb)(mS:Jd<=k){IS:Nat}(mT:DfN P w K mg base "_law_marks" IS 1 Jc)(mU:IS<=k):Dn P w K mg base WX "_law_told" Lm k (WY K a Jb Jc):=λ{f cdv A outer s H E}hr=>
 have hu:=Ba hr
 have hN:=Ja.nd
 (Ax (by walk_at "v") (Ax (dW (i:=4) T.Rm T.E3 T.E4 T.E5 Ja.nd rfl rfl rfl rfl rfl rfl rfl (λex pn xe hp=>(AO (BX rfl (Br mR (hr.mono mS) rfl hp rfl rfl rfl (by walk_at "v"))))) (λe=>(AO (FG (i:=3) Ja.nd rfl rfl rfl (dX mT (eI hr mU) rfl rfl rfl rfl (by walk_at "v")))))) (by walk_at "v")))
abbrev WZ:List Str:=["script","kind","value","state","edge","more","box","wrong","bad","way","k"]
theorem MZ:Az WZ ["script"] (Aq E1):=by walk_at "s"
def W0(Je:Spw)(Jf:Spw)(BS:Spw)(Av:Spw)(Jg:Spw)(Jh:Spw)(EG:Spw)(Gp:Spw):GS:=(Af (An 1 (Ag Je XF (Aa (Ab 0) (Aa (gC (.int 0)) (Aa (gC (.bl true)) (Aa (gC (.bl false)) Ac)))))) (Af (An 2 (Ag Jf XF (Aa (Ab 0) (Aa (gC (.int 1)) (Aa (Ab 1) Ac))))) (Af (An 3 (Ag BS XF (Aa (Ab 0) (Aa (gC (.int 2)) Ac)))) (Af (An 4 (Ad (Ae ixW) (Ap (Aa (Ab 2) (Aa (Ab 2) (Aa (Ab 2) (Aa (gC (.int 5)) Ac))))) (Ag Av XF (Aa (Ab 3) (Aa (gC (.int 4)) Ac))))) (Af (gIf (gTB (Ad (Ae eqI) (Ab 4) (gC (.int 5)))) (AB (AS (Aa (gC (.int 9)) Ac)) (gNm 10) (An 4 (Ah (Aa (Ah (Aa (gC (.str "a")) (Aa (Ab 4) Ac))) Ac)))) Al) (Af (An 5 (gB (rF AI) (Aa (AF (AS (Aa (gC (.int 9)) Ac)) 1 (gNm 0) AM (Ah (Aa (Ad (A0) (gC (.str "a")) (Ad (Ae ixW) (gC (.str "abcdefghi")) (Ab 0))) (Aa (gB (rF AI) (Aa (AF (AS (Aa (gC (.int 10)) Ac)) 1 (gNm 0) AM (Ah (Aa (Ad (A0) (gC (.str "b")) (Ad (Ae ixW) (gC (.str "abcdefghij")) (Ab 0))) (Aa (Ab 0) Ac)))) Ac)) Ac)))) Ac))) (Af (An 6 (Ad (Ae ixW) (Ap (Aa (Ah (Aa (gC (.str "box")) (Aa (Ah (Aa (gC (.str "num")) Ac)) Ac))) (Aa (Ah (Aa (gC (.str "to")) (Aa (Ah (Aa (gC (.str "num")) Ac)) (Aa (Ah (Aa (gC (.str "num")) Ac)) Ac)))) Ac))) (Ag Av XF (Aa (Ab 3) (Aa (gC (.int 2)) Ac))))) (Af (An 7 (Ad (Ae ixW) (Ap (Aa (Ag Jg XF (Aa (Ag BS XF (Aa (Ab 0) (Aa (gC (.int 3)) Ac))) Ac)) (Aa (Ab 6) (Aa (Ah (Aa (gC (.str "row")) (Aa (Ah (Aa (Ah (Aa (gC (.str "a")) (Aa (gC (.str "may")) (Aa (Ab 6) Ac)))) Ac)) (Aa (gC (.bl true)) Ac)))) Ac)))) (Ag Av XF (Aa (Ab 3) (Aa (gC (.int 3)) Ac))))) (Af (An 8 (Ag Jh XF (Aa (Ag BS XF (Aa (Ab 0) (Aa (gC (.int 4)) Ac))) Ac))) (Af (AB (AS (Aa (gC (.int 5)) Ac)) (gNm 9) (gIf (gOr (gNt (Ay (Ag Gp XF (Aa (Ag EG XF (Aa (Ab 9) (Aa (Ab 7) (Aa (Ab 8) Ac)))) (Aa (gC (.int 0)) Ac))))) (gTB (Ad (Ae (eqF true)) (Ag EG XF (Aa (Ab 9) (Aa (Ab 1) (Aa (Ab 4) Ac)))) (Ap Ac)))) (Ai (gC (.bl false))) Al)) (Af (AB (AS (Aa (gC (.int 2)) Ac)) (gNm 9) (gIf (gOr (gNt (Ay (Ag Gp XF (Aa (Ag EG XF (Aa (Ab 9) (Aa (Ab 1) (Aa (Ab 8) Ac)))) (Aa (gC (.int 3)) Ac))))) (gTB (Ad (Ae (eqF true)) (Ag EG XF (Aa (Ab 9) (Aa (Ab 1) (Aa (Ab 5) Ac)))) (Ap Ac)))) (Ai (gC (.bl false))) Al)) (Ai (gC (.bl true))))))))))))))
theorem mV(T:Tx K mg base a){HS:Nat}(n8:Df P w K mg base "_law_drawn_kind" HS 4 Je)(n9:HS<=k){IK:Nat}(oa:Df P w K mg base "_law_drawn_value" IK 3 Jf)(og:IK<=k){Cw:Nat}(Tc:Df P w K mg base "_law_state" Cw 2 BS)(Td:Cw<=k){AL:Nat}(Dj:Df P w K mg base "_law_choice" AL 2 Av)(Dk:AL<=k){IX:Nat}(oh:Df P w K mg base "_law_bad_kind" IX 1 Jg)(oi:IX<=k){Ji:Nat}(oj:Df P w K mg base "_law_bad_value" Ji 1 Jh)(om:Ji<=k){Jj:Nat}(oo:Df P w K mg base "_law_told" Jj 3 EG)(oq:Jj<=k){Jk:Nat}(ot:Df P w K mg base "_law_refused" Jk 2 Gp)(ou:Jk<=k)(hr:Room k (A.deeper (envOfC "law" (Aq E1) s.heap.objs.size f cdv))):Ssm (cxW P w K mg base WZ "law" (Aq E1) f cdv A outer s H E).nox (λB=>B=H) (Bn E1) (W0 Je Jf BS Av Jg Jh EG Gp):=
 have hu:=Ba hr
 have hN:=MZ.nd
 (Ax (by walk_at "v") (Ax (by walk_at "v") (Ax (by walk_at "v") (Ax (by walk_at "v") (Ax (by walk_at "v") (Ax (FG (i:=5) MZ.nd rfl rfl rfl (CI DG (Ef) rfl T.DJ (by decide) rfl rfl rfl (AT rfl (B0 (Nc:=["k"]) rfl (BV rfl (by decide +kernel) (by decide +kernel)) (λ_=>rfl) (by walk_at "v") (Cc (i:=0) (by decide) rfl rfl) (λC fp s1 H1=>BH) (λC fp s1 H1=>(Oo (AT rfl (by walk_at "v") (AT rfl (CI DG (Ef) rfl T.DJ (by decide) rfl rfl rfl (AT rfl (B0 (Nc:=["j"]) rfl (BV rfl (by decide +kernel) (by decide +kernel)) (λ_=>rfl) (by walk_at "v") (Cc (i:=0) (by decide) rfl rfl) (λC fp s1 H1=>BH) (λC fp s1 H1=>(by walk_at "v"))) Bu)) Bu))))) Bu))) (by walk_at "v")))))))
local macro_rules | `(tactic| walk_at "lg") => `(tactic| (simp only [L3.Ah, L3.Aa, L3.Ac, gC, Ab, Ad, Yb, Yc, Yg, Yi]; repeat refine ⟨by decide, ?_⟩))
abbrev p1(x:Str)(v:Vl):Vl:=.row (.cons x v .nil)
def bdV:List Vl:=[p1 "" (.int 1),p1 "A" (.int 1),p1 "abcdefghi" (.int 1),.row (.cons "a" (.int 1) (.cons "a" (.int 2) .nil)),.row (.cons "b" (.int 1) (.cons "a" (.int 2) .nil)),p1 "a b" (.int 0)]
def wrV(v:Vl):List Vl:=[v,p1 "a" v,.row (.cons "a" (.int 1) (.cons "b" v .nil)),p1 "a" (p1 "ab" v)]
def nV:Nat->Vl->Vl
 | 0,v=>v
 | n+1,v=>nV n (p1 "a" v)
def nov(v:Vl):Bool:=v.sh&&(decide (v.cnt<=1000)&&!isV v)
def Jl(v:Vl):Prop:=vl v/\isV v=false
theorem M0(h:nov v=true):Jl v:=by
 have h':(v.sh&&(decide (v.cnt<=1000)&&!isV v))=true:=h;simp only[YH,YU,Bool.not_eq_true']at h';exact⟨⟨h'.1,h'.2.1⟩,h'.2.2⟩
theorem mW:(bdV.all λv=>(wrV v).all nov)=true:=by decide +kernel
theorem mX:([10,11,12].all λn=>nov (nV n (.int 1)))=true:=by decide +kernel
abbrev zb:Str:="abcdefghij"
abbrev za:Str:="abcdefghi"
def inP:Pr:=(List.range 10).map λj=>("b"++sgn zb j,.int j)
def moP:Pr:=(List.range 9).map λj=>("a"++sgn za j,.row (ofP inP))
theorem mY:vg (.row (ofP moP)):=⟨by decide +kernel,by decide +kernel,by decide +kernel⟩
theorem mZ:vg (nV 9 (.int 5)):=⟨by decide +kernel,by decide +kernel,by decide +kernel⟩
theorem m2:nov (.row (ofP (moP++[(("b":Str),Vl.bl true)])))=true:=by decide +kernel
theorem m5(h:i≠j)(ω:Sw)(x y z t:Option W):((((ω.set j x).set i y).set i z).set j t)=(ω.set i z).set j t:=by
 rw[List.set_set,List.set_comm _ _ (Qa h),List.set_set]
abbrev gWr(i:Nat):GS:=An i (L3.Ah (L3.Aa (L3.Ah (L3.Aa (gC (.str "a")) (L3.Aa (Ab i) L3.Ac))) L3.Ac))
theorem M1{D:Ew}{i j:Nat}(h:i≠j){G:Hw}:∀(n m:Nat)(v:Vl)(ω:Sw),ω[i]?=some (some v.enc)->(∀ ω',(n=0/\ω'=ω)\/(∃ o,ω'=(ω.set i (some (nV n v).enc)).set j o)->D.nx ω' G)->
  A8 yes (gNm j) (gWr i) D ((List.range' m n).map λk:Nat=>W.int k) ω G
 | 0,m,v,ω,hω,a=>⟨trivial,a ω (.inl ⟨rfl,rfl⟩)⟩
 | n+1,m,v,ω,hω,a=>by
  refine⟨trivial,?_⟩;show gWr i _ (ω.set j (some (.int m))) G;have hi:(ω.set j (some (W.int m)))[i]?=some (some v.enc):=by rw[List.getElem?_set_ne (Qa h)];exact hω
  simp only[gWr,An,L3.Ah,L3.Aa,L3.Ac,gC,Ab,hi,Yg,Yi];walk_at "pj"
  have hl:i <(ω.set j (some (W.int m))).length:=by
   rcases Nat.lt_or_ge i (ω.set j (some (W.int m))).length with z | z
   ·exact z
   ·rw[Qi z]at hi;cases hi
  refine M1 h n (m+1) (p1 "a" v) _ (List.getElem?_set_self hl) λω' hω'=>a ω' (.inr ?_);rcases hω' with⟨rfl,rfl⟩|⟨o,rfl⟩
  ·refine⟨some (.int m),?_⟩;rw[List.set_comm _ _ h];rfl
  ·exact⟨o,m5 h ω _ _ _ _⟩
theorem W1{α:Type}{enc f:α->W}{R:List W->Hw->Prop}{cst:Sw}:∀(l:List α)(o:Option W)(ys:List W)(G:Hw),(∀ x∈l,∀(a:Hw)(Q:Kw),Sub G a->(∀ c,Sub a c->Q (f x) c)->ge (some (enc x)::cst) a Q)->
  ys.length+l.length<=sizeLine->(∀ b,Sub G b->R (ys++l.map f) b)->Be yes (gNm 0) AM ge R (l.map enc) (o::cst) G ys
 | [],o,ys,G,_,_,r=>⟨trivial,by simpa using r G Sub.refl⟩
 | x::l,o,ys,G,h,hl,r=>by
  refine⟨trivial,by simp only[Yg]at hl;omega,?_⟩;show ge (some (enc x)::cst) G λy e=>Be yes (gNm 0) AM ge R (l.map enc) (some (enc x)::cst) e (ys++[y]);refine h x Ye _ _ Sub.refl λc d=>W1 l (some (enc x)) (ys++[f x]) c (λy g a Q i=>h y (Yd _ g) a Q (d.trans i)) ?_ λb s'=>?_
  ·simp only[Yj,Yg,Yi]at hl ⊢;omega
  ·simpa[Yv]using r b (d.trans s')
abbrev gIn:GE:=L3.Ah (L3.Aa (Ad A0 (gC (.str "b")) (Ad (Ae ixW) (gC (.str zb)) (Ab 0))) (L3.Aa (Ab 0) L3.Ac))
theorem W2(r:R (inP.map AW) G):Be yes (gNm 0) AM gIn R ((List.range 10).map λi:Nat=>W.int i) [none] G []:=by
 refine Ex (enc:=λi:Nat=>W.int i) (f:=λi=>AW ("b"++sgn zb i,.int i)) (cst:=[]) trivial (List.range 10) none [] (λi hi b a=>?_) (by decide) ?_
 ·simp only[gIn,L3.Ah,L3.Aa,L3.Ac,Ad,gC,Ab,Ae,Yb,Yg,Yi];rw[IU _ (by decide) (Yu (List.mem_range.mp hi) (by decide +kernel)),Ao];exact⟨Yt (Nat.add_le_add_left (IV zb i) _) (by decide),by decide,a⟩
 ·have e:inP.map AW=(List.range 10).map λi=>AW ("b"++sgn zb i,.int i):=by unfold inP;rw[YB];rfl
  rw[Yw,<- e];exact r
theorem Jm:AI [.ref p] (put G p (.lst ys))=some (.tup ys):=by unfold AI;dsimp only;rw[Zip Ak];rfl
def moF(i:Nat):W:=AW ("a"++sgn za i,.row (ofP inP))
theorem W3:moP.map AW=(List.range 9).map moF:=by unfold moP;rw[YB];rfl
abbrev gMo:GE:=L3.Ah (L3.Aa (Ad A0 (gC (.str "a")) (Ad (Ae ixW) (gC (.str za)) (Ab 0))) (L3.Aa (gB (rF AI) (L3.Aa (AF (AS (L3.Aa (gC (.int 10)) L3.Ac)) 1 (gNm 0) AM gIn) L3.Ac)) L3.Ac))
theorem m6(r:∀ a,Sub G a->R (moP.map AW) a):Be yes (gNm 0) AM gMo R ((List.range 9).map λi:Nat=>W.int i) [none] G []:=by
 refine W1 (enc:=λi:Nat=>W.int i) (f:=moF) (cst:=[]) (List.range 9) none [] G (λi hi g d e b=>?_) (by decide) λa s'=>?_
 ·simp only[gMo,L3.Ah,L3.Aa,L3.Ac,Ad,gC,Ab,Ae,Yb,Yg,Yi];rw[IU _ (by decide) (Yu (List.mem_range.mp hi) (by decide +kernel)),Ao];refine⟨Yt (Nat.add_le_add_left (IV za i) _) (by decide),?_⟩;simp only[gB,L3.Aa,L3.Ac,AF,AS,gC,List.replicate];walk_at "pj";refine W2 λp c=>?_;simp only[rF,Jm,Ao];refine⟨by decide,?_⟩;have z:=b _ (A3 (o:=.lst (inP.map AW)) c);unfold moF at z;unfold AW at z;rw[show(Vl.row (ofP inP)).enc=.tup (inP.map AW)from D1 inP]at z;exact z
 ·rw[Yw,<- W3];exact r a s'
def M2:Spw:=λws G Q _=>∃(s:Addr)(x:Int)(b:Bool),ws=[.ref s]/\G s=some (St x b)/\∀ v x',Jl v->Q v.enc (put G s (St x' b))
theorem m7:Spw.M M2:=λc G Q e E d h _⟨s,x,b,h1,h2,q⟩=>⟨s,x,b,h1,h2,λw a z=>h _ _ (q w a z)⟩
theorem Ji(T:Tx K mg base a):Df P w K mg base "_law_bad_value" 2 1 M2:=by
 refine mk0 (k:=1) T.iT rfl MP m7 (λws G Q E⟨s,x,b,e,_⟩=>by rw[e];rfl) (mw T (AL T) (Yr _)) λws G Q E hC q=>?_;obtain⟨s,x,b,rfl,hs,q⟩:=q;unfold WC;show Af (An 1 _) _ (Ar Q) [some (.ref s),none,none,none,none,none] G;refine CA ?_;refine⟨s,10,x,b,[],rfl,by decide,by decide,hs,λway x1 r0 r1=>?_⟩;walk_at "pa";refine WQ (ys:=bdV.map Vl.enc) (by decide) (λR hR=>?_) λp2 G2 s2 e2=>?_
 ·walk_at "lg";exact hR
 walk_at "pa";have hs2:G2 s=some (St x1 b):=s2 s _ Ak
 have hne:p2≠s:=λz=>by
  rw[z,hs2]at e2;injection e2 with e2;injection e2 with e2;injection e2 with e2;cases e2
 refine CA ?_;simp only[Ad,Ag,L3.Aa,L3.Ac,Ab,gC,Ae,Yb,Yc];refine⟨s,6,x1,b,[],rfl,by decide,by decide,hs2,λr2 x2 u0 u1=>?_⟩;have e3:put G2 s (St x2 b) p2=some (.lst (bdV.map Vl.enc)):=by rw[Aj hne];exact e2
 obtain⟨w0,hw0,hat⟩:=MW (xs:=bdV.map Vl.enc) u0 u1;obtain⟨v0,hv0,rfl⟩:=YC.mp hw0;show opt (ixW (.ref p2) (.int r2) (put G2 s (St x2 b))) _;rw[BQ e3,hat,Ao];walk_at "pa"
 have sb:∀{y:Int},Sub (put G s (St y b)) (put G2 s (St y b)):=λ{y}c u hu=>by
  by_cases hc:c=s
  ·subst hc;rw[Ak]at hu ⊢;exact hu
  ·rw[Aj hc]at hu ⊢;exact s2 c u (by rw[Aj hc];exact hu)
 simp only[Af];refine D2 (n:=1) rfl ?_;by_cases h0:way=0
 ·rw[if_pos h0];simp only[Af,An,gC,Yk,Yl,AB,AS,L3.Aa,L3.Ac,Ad,Ag,Ab,Yb,Yc,A0,L3.AJ];refine⟨s,3,x2,b,[],rfl,by decide,by decide,Ak,λr3 x3 v0 v1=>?_⟩;rw[Cr];refine⟨by omega,by omega,?_⟩;have en:(10+r3).toNat=10\/(10+r3).toNat=11\/(10+r3).toNat=12:=by omega
  generalize(10+r3).toNat=n at en ⊢;rw[List.range_eq_range'];refine M1 (i:=3) (j:=4) (by decide) n 0 (.int 1) _ rfl λω' hω=>?_;rcases hω with⟨rfl,_⟩|⟨o,rfl⟩
  ·omega
  simp only[Yk,Yl,Ai,Ab,Yb,Yc,Ar];refine hC _ _ _ sb (q _ x3 (M0 ?_));have z:=List.all_eq_true.mp mX n;exact z (by simp only[Yo,Qd,or_false];exact en)
 rw[if_neg h0];simp only[Al];refine D2 (n:=1) rfl ?_;by_cases h1:way=1
 ·rw[if_pos h1];simp only[Af,An,gB,L3.Aa,L3.Ac,AF,AS,gC,List.replicate];walk_at "pj";refine W2 λp hp=>?_;simp only[rF,Jm,Ao,Yk,Yl,Ai,Ad,gB,L3.Aa,L3.Ac,BA,AS,gC,Bh,Ab,Ym,YJ,List.replicate,List.cons_append,Yw,Yb,Yc,Option.getD_some];walk_at "pj";refine Ex (enc:=λi:Nat=>W.int i) (f:=moF) (cst:=[some (.tup (inP.map AW))]) trivial (List.range 9) none [] (λi hi Q' q'=>?_) (by decide) λp3 hp3=>?_
  ·simp only[L3.Ah,L3.Aa,L3.Ac,Ad,gC,Ab,Ae,Yb,Yc,Yg,Yi];rw[IU _ (by decide) (Yu (List.mem_range.mp hi) (by decide +kernel)),Ao];refine⟨Yt (Nat.add_le_add_left (IV za i) _) (by decide),by decide,?_⟩;unfold moF at q';unfold AW at q';rw[show(Vl.row (ofP inP)).enc=.tup (inP.map AW)from D1 inP]at q';exact q'
  ·rw[Yw,<- W3];simp only[rF,Jm,Ao,L3.Ah,L3.Aa,L3.Ac,gC,C8,Ar,Yg,Yi];refine⟨by decide,by decide,(by decide +kernel:(moP.map AW).length+1<=sizeLine),?_⟩;have z:=q _ x2 (M0 m2);rw[D1,Yy]at z;exact hC _ _ _ (BC (BC sb hp) hp3) z
 rw[if_neg h1];simp only[Al,Ai,Ad,Ae,Ap,L3.Ah,L3.Aa,L3.Ac,gC,Ab,Au,Ar,Yb,Yc,Yg,Yi]
 repeat refine⟨by decide,?_⟩
 intro p3 hp3;refine⟨by decide,?_⟩;have hw:way % 4=0\/way % 4=1\/way % 4=2\/way % 4=3:=by omega
 obtain⟨u,hu,ew⟩:∃ u∈wrV v0,atI [v0.enc,(p1 "a" v0).enc,(Vl.row (.cons "a" (.int 1) (.cons "b" v0 .nil))).enc,(p1 "a" (p1 "ab" v0)).enc] (way % 4)=some u.enc:=by
  rcases hw with h | h | h | h <;> rw[h]
  ·exact⟨v0,Ye,rfl⟩
  ·exact⟨_,Yd _ Ye,rfl⟩
  ·exact⟨_,Yd _ (Yd _ Ye),rfl⟩
  ·exact⟨_,Yd _ (Yd _ (Yd _ Ye)),rfl⟩
 show opt (ixW (.ref p3) (.int (way % 4)) _) _;rw[BQ Ak];refine Eq.mpr (congrArg (λz=>opt z _) ew) ?_;rw[Ao];exact hC _ _ _ (BC sb hp3) (q _ x2 (M0 (List.all_eq_true.mp (List.all_eq_true.mp mW v0 hv0) u hu)))
theorem W4{n:Int}(l:((List.range 6).map λi:Nat=>W.bl ((i:Int)==n))++[.bl true]=due b0 b3)(o:Bv (due b0 b3) (due b0 b3)=some true)(h:G p=some (.lst (due b0 b3)))(t:Kw.C Q)(q:Q (.bl true) G):MO (Ar Q) [some (.ref p),some (.int n)] G:=by
 unfold MO;simp only[Ai,Ad,Ab,BA,AS,L3.Aa,L3.Ac,gC,Bh,Ym,YJ,List.replicate,List.cons_append,Yw,Yb,Yc,Option.getD_some];walk_at "pj";refine Ex (enc:=λi:Nat=>W.int i) (f:=λi=>.bl ((i:Int)==n)) (cst:=[some (.int n)]) trivial (List.range 6) none [] (λi hi v e=>?_) (by decide) λp1 c=>?_
 ·simp only[Ad,Ab,Ae,Yb,Yc,A2,Ao];cases g:((i:Int)==n)with
  | true=>rw[g]at e;exact e
  | false=>rw[g]at e;exact e
 ·rw[Yw];have a:((List.range 6).map λi:Nat=>W.bl ((i:Int)==n)).length=6:=by rw[Yh,List.length_range]
  generalize(List.range 6).map (λi:Nat=>W.bl ((i:Int)==n))=L at l a ⊢;simp only[Ap,L3.Aa,L3.Ac,gC,Yg,Yi];refine⟨by decide,λp2 b=>?_⟩;rw[Ek (λz=>by obtain⟨⟨u,r⟩,_⟩:=z;cases r)];unfold L3.AJ;have s:put (put G p1 (.lst L)) p2 (.lst [.bl true]) p1=some (.lst L):=by rw[Aj (AC Ak b)];exact Ak
  simp only[s,Ak];refine⟨by rw[a];decide,λp3 d=>?_⟩;rw[l];have j:put G p1 (.lst L) p=some (.lst (due b0 b3)):=by rw[Aj (AC h c)];exact h
  have k:put (put G p1 (.lst L)) p2 (.lst [.bl true]) p=some (.lst (due b0 b3)):=by rw[Aj (AC j b)];exact j
  have m:put (put (put G p1 (.lst L)) p2 (.lst [.bl true])) p3 (.lst (due b0 b3)) p=some (.lst (due b0 b3)):=by rw[Aj (AC k d)];exact k
  show opt (eqF false (.ref p) (.ref p3) _) _;rw[WR false m Ak (by show(0:Nat) < 90;decide) o,Ao];exact t _ _ _ (BC (BC (A3 c) b) d) q
def Gq:Spw:=λws G Q _=>∃(p:Addr)(b:Bool),ws=[.ref p,.int (if b then 0 else 3)]/\G p=some (.lst (due b !b))/\Q (.bl true) G
theorem m8:Spw.M Gq:=λa G Q c E d h _⟨p,b,h1,h2,q⟩=>⟨p,b,h1,h2,h _ _ q⟩
theorem Jk(T:Tx K mg base a):Df P w K mg base "_law_refused" 1 2 Gq:=by
 refine mk0 T.iS rfl WA m8 (λf G Q E⟨p,b,e,_⟩=>by rw[e];rfl) (mv T) λf G Q E d q=>?_;obtain⟨p,b,rfl,c,q⟩:=q;cases b with
 | true=>exact W4 (b0:=true) (b3:=false) rfl rfl c d q
 | false=>exact W4 (b0:=false) (b3:=true) rfl rfl c d q
def ask(i:Int)(w v:W)(A B1 B2:Prop):Prop:=(Dp w/\B1)\/((0<=i/\i < 2)/\(∃(k:Kd)(u:Vl),w=k.enc/\v=u.enc/\kd8 k/\k.dat=true/\Jl u)/\B2)\/(∃(k:Kd)(u:Vl),w=k.enc/\v=u.enc/\vkg u k)/\A
theorem ask.imp{i:Int}{w v:W}{A e d c a b:Prop}(h:A->c)(h1:e->a)(h2:d->b)(q:ask i w v A e d):ask i w v c a b:=by
 rcases q with⟨z,q⟩|⟨z,y,q⟩|⟨z,q⟩
 ·exact .inl ⟨z,h1 q⟩
 ·exact .inr (.inl ⟨z,y,h2 q⟩)
 ·exact .inr (.inr ⟨z,h q⟩)
def M3(a:Adr):Spw:=λws G Q E=>∃(i:Int)(w v:W),ws=[.int i,w,v]/\ask i w v (Q .non G) (E a.NoKind G) (E a.NoValue G)
theorem m9:Spw.M (M3 a):=λd G Q f E g h h'⟨i,b,c,e,q⟩=>⟨i,b,c,e,q.imp (h _ _) (h' _ _) (h' _ _)⟩
theorem nc:∀ b G Q E,M3 a b G Q E->b.length=3:=λb G Q E⟨i,c,d,e,_⟩=>by rw[e];rfl
theorem W5{f:Option (List Str)->W}{i:Int}{w v:W}{E:Addr->Hw->Prop}(q:ask i w v (Q .non G) (E a.NoKind G) (E a.NoValue G)):Gi a f [v,w] G (λ_ e=>Q .non e) E:=by
 rcases q with⟨z,q⟩|⟨_,⟨k,u,rfl,rfl,c,d,b⟩,q⟩|⟨⟨k,u,rfl,rfl,h⟩,q⟩
 ·exact .inl ⟨v,w,_,rfl,.inl ⟨z,rfl⟩,q⟩
 ·exact .inl ⟨_,_,_,rfl,.inr ⟨k,u,rfl,rfl,c,d,b.1,b.2,rfl⟩,q⟩
 ·exact .inr ⟨u,k,rfl,h,q⟩
theorem Jn:kd8 .num/\Kd.num.dat=true:=⟨⟨⟨rfl,rfl⟩,by decide,by decide⟩,rfl⟩
theorem nr:Kd.num.hd≠"row":=by show("num":Str)≠"row";decide +kernel
theorem Jd(T:Tx K mg base a):Df P w K mg base "_law_called" 31 3 (M3 a):=by
 refine mkX (k:=30) T.iU rfl WU m9 nc (g:=λE=>MY _ _ _ _ E) (mL T (IG T) (by omega) (DW T) (by omega) (IP T) (by omega) (IQ T) (by omega)) λm G Q E p o q=>?_;obtain⟨i,b,l,rfl,q⟩:=q;unfold MY;show gIf _ _ _ (Ar Q) [some (.int i),some b,some l] G;refine D2 (n:=0) rfl ?_;by_cases z:i=0
 ·rw[if_pos z];exact W5 (f:=λc=>.bl c.isNone) q
 rw[if_neg z];refine D2 (n:=0) rfl ?_;by_cases j:i=1
 ·rw[if_pos j];exact W5 (f:=pW) q
 rw[if_neg j];refine D2 (n:=0) rfl ?_;by_cases d:i=2
 ·rw[if_pos d];rcases q with⟨y,q⟩|⟨y,_,q⟩|⟨⟨k,u,rfl,rfl,h⟩,q⟩
  ·exact .inl ⟨b,rfl,y,q⟩
  ·omega
  ·exact .inr ⟨k,rfl,h.2.1,h.2.2,λ_=>q⟩
 rw[if_neg d];refine D2 (n:=0) rfl ?_;by_cases e:i=3
 ·rw[if_pos e];simp only[AA,Ag,L3.Ah,L3.Aa,L3.Ac,gC,Ab,Yb,Yc,Yg,Yi];refine⟨by decide,?_⟩;rcases q with⟨y,q⟩|⟨y,_,q⟩|⟨⟨k,u,rfl,rfl,h⟩,q⟩
  ·exact .inl ⟨b,_,rfl,.inl y,q⟩
  ·omega
  ·exact .inr ⟨k,.num,rfl,h.2,Jn,λ_=>nr,λ_=>q⟩
 rw[if_neg e];simp only[AA,Ag,L3.Ah,L3.Aa,L3.Ac,gC,Ab,Yb,Yc,Yg,Yi];refine⟨by decide,?_⟩;rcases q with⟨y,q⟩|⟨y,_,q⟩|⟨⟨k,u,rfl,rfl,h⟩,q⟩
 ·exact .inl ⟨_,b,rfl,.inr ⟨.num,rfl,Jn.1,Jn.2,y⟩,q⟩
 ·omega
 ·exact .inr ⟨.num,k,rfl,Jn,h.2,λz=>absurd z nr,λ_=>q⟩
def D3:Spw:=λws G Q _=>∃(i:Int)(w v:W),ws=[.int i,w,v]/\ask i w v (∀ p,G p=none->Q (.ref p) (put G p (.lst []))) (∀ p,G p=none->Q (.ref p) (put G p (.lst (due true false)))) (∀ p,G p=none->Q (.ref p) (put G p (.lst (due false true))))
theorem ng:Spw.M D3:=λd G Q f E g h h'⟨i,b,c,e,q⟩=>⟨i,b,c,e,q.imp (λz p a=>h _ _ (z p a)) (λz p a=>h _ _ (z p a)) (λz p a=>h _ _ (z p a))⟩
theorem Jj(T:Tx K mg base a):Df P w K mg base "_law_told" 32 3 D3:=by
 refine mk0 (k:=31) T.iV rfl Ja ng (λj G Q E⟨i,c,g,e,_⟩=>by rw[e];rfl) (mQ T (Jd T) (by omega) (IS T) (by omega)) λj G Q E h q=>?_;obtain⟨i,c,g,rfl,q⟩:=q;unfold WY;show Af (An 3 (Ap _)) (Af (Ke _ _ _ _ _) (Ai _)) (Ar Q) [some (.int i),some c,some g,none,none] G;simp only[Af,An,Ap,L3.Ac,Yk,Yl];refine⟨by decide,λl b=>?_⟩;refine⟨_,⟨λ_ _ z=>z,λ_ _ z=>z,λ_ _ z=>z,λ_ _ z=>z⟩,?_⟩;simp only[OV,An,AA,Ag,L3.Aa,L3.Ac,Ab,Yb,Yc,Yk,Yl];refine⟨i,c,g,rfl,q.imp (λz=>?_) (λz=>?_) (λz=>?_)⟩
 ·exact z l b
 ·refine⟨T.Rt,λe d=>?_⟩;refine⟨e,true,rfl,Ak,λp f=>?_⟩;simp only[GY,Ai,Ab,Ar,Yb,Yc,Yk,Yl];exact h _ _ _ (WE (BC (A3 b) d)) (z p (Fk (Fk f)))
 ·refine⟨T.RC,λe d=>?_⟩;refine⟨e,false,rfl,Ak,λp f=>?_⟩;simp only[GY,Ai,Ab,Ar,Yb,Yc,Yk,Yl];exact h _ _ _ (WE (BC (A3 b) d)) (z p (Fk (Fk f)))
abbrev gR(x y:Nat)(c:Int):GT:=gNt (Ay (Ag Gq XF (L3.Aa (Ag D3 XF (L3.Aa (Ab 9) (L3.Aa (Ab x) (L3.Aa (Ab y) L3.Ac)))) (L3.Aa (gC (.int c)) L3.Ac))))
abbrev gE(z t:Nat):GT:=gTB (Ad (Ae (eqF true)) (Ag D3 XF (L3.Aa (Ab 9) (L3.Aa (Ab z) (L3.Aa (Ab t) L3.Ac)))) (Ap L3.Ac))
abbrev gB5(x y z t:Nat)(c:Int):GS:=gIf (gOr (gR x y c) (gE z t)) (Ai (gC (.bl false))) Al
theorem nh{x y:Nat}{n:Int}{w v:W}{Q:Bool->Hw->Prop}(k:ω[9]?=some (some (.int n)))(i:ω[x]?=some (some w))(g:ω[y]?=some (some v))(d:∀ A c a:Prop,(b=true->c)->(b=false->a)->ask n w v A c a)(h:∀ f,Q false f):gR x y (if b then 0 else 3) ω G Q:=by
 simp only[gR,gNt,Ay,Ag,L3.Aa,L3.Ac,Ab,k,i,g,gC];refine⟨n,w,v,rfl,d _ _ _ (λe p j=>?_) (λe p j=>?_)⟩
 ·subst e;exact⟨p,true,rfl,Ak,h _⟩
 ·subst e;exact⟨p,false,rfl,Ak,h _⟩
variable {u:Vl}
theorem ni{z t:Nat}{n:Int}{k:Kd}{Q:Bool->Hw->Prop}(f:ω[9]?=some (some (.int n)))(g:ω[z]?=some (some k.enc))(c:ω[t]?=some (some u.enc))(i:vkg u k)(h:∀ b,Q false b):gE z t ω G Q:=by
 simp only[gE,gTB,Ad,Ae,Ag,L3.Aa,L3.Ac,Ab,f,g,c];refine⟨n,k.enc,u.enc,rfl,.inr (.inr ⟨⟨k,u,rfl,rfl,i⟩,λp1 d=>?_⟩)⟩;simp only[Ap,L3.Ac,Yi];refine⟨by decide,λp2 a=>?_⟩;have e:put (put G p1 (.lst [])) p2 (.lst []) p1=some (.lst []):=by rw[Aj (AC Ak a)];exact Ak
 show opt (eqF true (.ref p1) (.ref p2) (put (put G p1 (.lst [])) p2 (.lst []))) _;rw[WR true e Ak (by decide) rfl,Ao];exact h _
theorem W6{x y z t:Nat}{n:Int}{w v:W}{k:Kd}(d:ω[9]?=some (some (.int n)))(j:ω[x]?=some (some w))(g:ω[y]?=some (some v))(l:ω[z]?=some (some k.enc))(i:ω[t]?=some (some u.enc))(e:∀ A c a:Prop,(b=true->c)->(b=false->a)->ask n w v A c a)(m:vkg u k)(h:∀ f,D.nx ω f):gB5 x y z t (if b then 0 else 3) D ω G:=by
 simp only[gB5,gIf,gOr];refine nh d j g e λo=>?_;simp only[Yq,if_false];refine ni d l i m λp=>?_;simp only[Yq,if_false,Al];exact h _
theorem W7{D:Ew}{k:Kd}{u:Vl}{w v:W}{d f b g e a:Option W}(j:Dp w)(l:vkg u k):∀(is:List Nat)(o:Option W)(G:Hw),(∀ o c,D.nx [d,some k.enc,f,b,some u.enc,g,e,some w,some v,o,a] c)->
  A8 yes (gNm 9) (gB5 7 8 1 4 0) D (is.map λi:Nat=>W.int i) [d,some k.enc,f,b,some u.enc,g,e,some w,some v,o,a] G
 | [],o,G,h=>⟨trivial,h o G⟩
 | i::is,o,G,h=>by
  refine⟨trivial,?_⟩;show gB5 7 8 1 4 (if true then 0 else 3) _ [d,some k.enc,f,b,some u.enc,g,e,some w,some v,some (.int i),a] G;exact W6 rfl rfl rfl rfl rfl (λA n m h1 _=>.inl ⟨j,h1 rfl⟩) l λc=>W7 j l is _ c h
theorem W8{D:Ew}{k:Kd}{u b:Vl}{f l d m g n a:Option W}(p:Jl b)(c:vkg u k):∀(is:List Nat)(o:Option W)(G:Hw),(∀ i∈is,i < 2)->(∀ o e,D.nx [f,some k.enc,l,d,m,some u.enc,g,n,some b.enc,o,a] e)->
  A8 yes (gNm 9) (gB5 1 8 1 5 3) D (is.map λi:Nat=>W.int i) [f,some k.enc,l,d,m,some u.enc,g,n,some b.enc,o,a] G
 | [],o,G,_,h=>⟨trivial,h o G⟩
 | i::is,o,G,hi,h=>by
  refine⟨trivial,?_⟩;show gB5 1 8 1 5 (if false=true then 0 else 3) _ [f,some k.enc,l,d,m,some u.enc,g,n,some b.enc,some (.int i),a] G;have h2:=hi i Ye;exact W6 rfl rfl rfl rfl rfl (λA s r _ h1=>.inr (.inl ⟨⟨by omega,by omega⟩,⟨k,b,rfl,rfl,c.2.1,c.2.2,p⟩,h1 rfl⟩)) c λe=>W8 p c is _ e (λj q=>hi j (Yd _ q)) h
theorem nj(e:Vl)(G:Hw):∃ c,eqI e.enc (.int 5) G=some (.bl c)/\(c=true->e=.int 5):=by
 cases e with
 | int i=>exact⟨i==5,rfl,λh=>by rw[show i=5 by simpa using h]⟩
 | bl b=>exact⟨_,rfl,λh=>by cases b <;> cases h⟩
 | row ps=>exact⟨false,rfl,λh=>by cases h⟩
def W9:List Kd:=[.box .num,.to .num .num]
abbrev Xa(k:Kd):Kd:=.row (.cons "a" false k .nil) true
def noD(k:Kd):Bool:=k.ok&&(k.thr 10&&(decide (k.cnt<=40)&&(decide (k.dp<=8)&&!k.dat)))
theorem Xb{k:Kd}(h:noD k=true):Dp k.enc:=by
 have h':(k.ok&&(k.thr 10&&(decide (k.cnt<=40)&&(decide (k.dp<=8)&&!k.dat))))=true:=h;simp only[YH,YU,Bool.not_eq_true']at h';exact .inr ⟨k,rfl,⟨⟨h'.1,h'.2.1⟩,h'.2.2.1,h'.2.2.2.1⟩,h'.2.2.2.2⟩
theorem nk:(W9.all λk=>noD k&&noD (Xa k))=true:=by decide +kernel
theorem Gc{s:Addr}{x:Int}{n:Int}(f:G s=some (St x b))(a:G p=some (.lst xs))(m:n=xs.length)(h1:0 < n)(h2:n < 100)(j:xs≠[.int x,.bl b])(q:∀ w h,w∈xs->Q w (put G s (St h b))):BO [.ref s,.int n] G (λi g=>opt (ixW (.ref p) i g) λw=>Q w g) (λ_ _=>False):=by
 refine⟨s,n,x,b,[],rfl,h1,by omega,f,λr c l r1=>?_⟩
 have e:p≠s:=λz=>by
  rw[z,f]at a;injection a with a;injection a with a;exact j a.symm
 obtain⟨w,hw,d⟩:=MW (xs:=xs) l (by omega);have k:put G s (St c b) p=some (.lst xs):=by rw[Aj e];exact a
 show opt (ixW (.ref p) (.int r) (put G s (St c b))) _;rw[BQ k,d,Ao];exact q w c hw
abbrev Xd:GS:=(Af (An 5 (gB (rF AI) (L3.Aa (AF (AS (L3.Aa (gC (.int 9)) L3.Ac)) 1 (gNm 0) AM (L3.Ah (L3.Aa (Ad (A0) (gC (.str "a")) (Ad (Ae ixW) (gC (.str "abcdefghi")) (Ab 0))) (L3.Aa (gB (rF AI) (L3.Aa (AF (AS (L3.Aa (gC (.int 10)) L3.Ac)) 1 (gNm 0) AM (L3.Ah (L3.Aa (Ad (A0) (gC (.str "b")) (Ad (Ae ixW) (gC (.str "abcdefghij")) (Ab 0))) (L3.Aa (Ab 0) L3.Ac)))) L3.Ac)) L3.Ac)))) L3.Ac))) (Af (An 6 (Ad (Ae ixW) (Ap (L3.Aa (L3.Ah (L3.Aa (gC (.str "box")) (L3.Aa (L3.Ah (L3.Aa (gC (.str "num")) L3.Ac)) L3.Ac))) (L3.Aa (L3.Ah (L3.Aa (gC (.str "to")) (L3.Aa (L3.Ah (L3.Aa (gC (.str "num")) L3.Ac)) (L3.Aa (L3.Ah (L3.Aa (gC (.str "num")) L3.Ac)) L3.Ac)))) L3.Ac))) (Ag BO XF (L3.Aa (Ab 3) (L3.Aa (gC (.int 2)) L3.Ac))))) (Af (An 7 (Ad (Ae ixW) (Ap (L3.Aa (Ag MX XF (L3.Aa (Ag HP XF (L3.Aa (Ab 0) (L3.Aa (gC (.int 3)) L3.Ac))) L3.Ac)) (L3.Aa (Ab 6) (L3.Aa (L3.Ah (L3.Aa (gC (.str "row")) (L3.Aa (L3.Ah (L3.Aa (L3.Ah (L3.Aa (gC (.str "a")) (L3.Aa (gC (.str "may")) (L3.Aa (Ab 6) L3.Ac)))) L3.Ac)) (L3.Aa (gC (.bl true)) L3.Ac)))) L3.Ac)))) (Ag BO XF (L3.Aa (Ab 3) (L3.Aa (gC (.int 3)) L3.Ac))))) (Af (An 8 (Ag M2 XF (L3.Aa (Ag HP XF (L3.Aa (Ab 0) (L3.Aa (gC (.int 4)) L3.Ac))) L3.Ac))) (Af (AB (AS (L3.Aa (gC (.int 5)) L3.Ac)) (gNm 9) (gIf (gOr (gNt (Ay (Ag Gq XF (L3.Aa (Ag D3 XF (L3.Aa (Ab 9) (L3.Aa (Ab 7) (L3.Aa (Ab 8) L3.Ac)))) (L3.Aa (gC (.int 0)) L3.Ac))))) (gTB (Ad (Ae (eqF true)) (Ag D3 XF (L3.Aa (Ab 9) (L3.Aa (Ab 1) (L3.Aa (Ab 4) L3.Ac)))) (Ap L3.Ac)))) (Ai (gC (.bl false))) Al)) (Af (AB (AS (L3.Aa (gC (.int 2)) L3.Ac)) (gNm 9) (gIf (gOr (gNt (Ay (Ag Gq XF (L3.Aa (Ag D3 XF (L3.Aa (Ab 9) (L3.Aa (Ab 1) (L3.Aa (Ab 8) L3.Ac)))) (L3.Aa (gC (.int 3)) L3.Ac))))) (gTB (Ad (Ae (eqF true)) (Ag D3 XF (L3.Aa (Ab 9) (L3.Aa (Ab 1) (L3.Aa (Ab 5) L3.Ac)))) (Ap L3.Ac)))) (Ai (gC (.bl false))) Al)) (Ai (gC (.bl true)))))))))
theorem nl{w x z:W}(h:w∈[x,y,z]):w=x\/w=y\/w=z:=by simpa using h
theorem Xe(h:xs.length≠ys.length):xs≠ys:=λz=>h (by rw[z])
theorem Xf{ns:List Int}{k:Kd}{e:Vl}{s:Addr}{x:Int}{o:Option W}(B:G s=some (St x b))(A:kd8 k)(hd:k.dat=true)(N:vg e)(q:∀ L,Q (.bl true) L):Xd (Ar Q) [some (.rol (ns.map W.int)),some k.enc,some v.enc,some (.ref s),some e.enc,none,none,none,none,none,o] G:=by
 refine CA ?_;simp only[gB,L3.Aa,L3.Ac,AF,AS,gC,List.replicate];walk_at "pj";refine m6 λD K H u=>?_;simp only[rF,Jm,Ao,Yk,Yl];rw[show W.tup (moP.map AW)=(Vl.row (ofP moP)).enc from(D1 moP).symm];have a:put D H (.lst (moP.map AW)) s=some (St x b):=by rw[Aj (AC (K s _ B) u)];exact K s _ B
 generalize put D H (.lst (moP.map AW))=G2 at a ⊢;refine CA ?_;simp only[Ad,Ap,Ag,L3.Ah,L3.Aa,L3.Ac,Ab,gC,Ae,Yb,Yc,Yg,Yi]
 repeat refine⟨by decide,?_⟩
 intro p1 l;refine Gc (x:=x) (b:=b) (xs:=W9.map Kd.enc) (by rw[Aj (AC a l)];exact a) Ak rfl (by decide) (by decide) (λz=>by cases z) λw1 g hw=>?_;obtain⟨n,m,rfl⟩:=YC.mp hw;have c:=List.all_eq_true.mp nk n m;simp only[YH]at c;walk_at "pa";generalize w:put _ s (St g b)=G3;have d:G3 s=some (St g b):=by rw[<- w];exact Ak
 refine CA ?_;simp only[Ad,Ap,Ag,L3.Ah,L3.Aa,L3.Ac,Ab,gC,Ae,Yb,Yc,Yg,Yi];refine⟨ns,3,rfl,by decide,λF Y J r=>?_⟩;refine⟨F,Y,J,rfl,Ak,λO x5 p=>?_⟩;rw[Cr]
 repeat refine⟨by decide,?_⟩
 intro p2 j;have f:put G3 F (St x5 J) s=some (St g b):=by rw[Aj (AC d r)];exact d
 refine Gc (x:=g) (b:=b) (xs:=[O,n.enc,(Xa n).enc]) (by rw[Aj (AC f j)];exact f) Ak rfl (by decide) (by decide) (Xe (by simp)) λX P y=>?_
 have h:Dp X:=by
  rcases nl y with rfl | rfl | rfl
  ·exact .inl p
  ·exact Xb c.1
  ·exact Xb c.2
 walk_at "pa";generalize put _ s (St P b)=G4;refine CA ?_;simp only[Ag,L3.Aa,L3.Ac,Ab,gC,Yb,Yc];refine⟨ns,4,rfl,by decide,λE Z I U=>?_⟩;refine⟨E,Z,I,rfl,Ak,λvb R t=>?_⟩;walk_at "pa";generalize put _ E (St R I)=G5;show Af (AB _ _ (gB5 7 8 1 4 0)) (Af (AB _ _ (gB5 1 8 1 5 3)) _) (Ar Q) _ G5;simp only[Af,AB,AS,L3.Aa,L3.Ac,gC];walk_at "pj";refine W7 h ⟨N,A,hd⟩ (List.range 5) none _ λT G6=>?_;walk_at "pj";refine W8 t ⟨mY,A,hd⟩ (List.range 2) T _ (λi hi=>List.mem_range.mp hi) λS G7=>?_;exact q _
theorem nn(T:Tx K mg base a)(F:Fun K "law" "law" E1 f fd):FnOk P w K mg base (CXe P w) 33 f fd ["script"] (DB K Hj):=by
 refine ok0 F MZ (λt G Q E⟨ns,e,_⟩=>by rw[e];rfl) (mV (k:=32) T (HS T) (by omega) (IK T) (by omega) (Cw T) (by omega) (AL T) (by omega) (IX T) (by omega) (Ji T) (by omega) (Jj T) (by omega) (Jk T) (by omega)) λt G Q E H q=>?_;obtain⟨ns,rfl,y,q⟩:=q;unfold W0;show Af (An 1 _) _ (Ar Q) [some (.rol (ns.map W.int)),none,none,none,none,none,none,none,none,none,none] G;refine CA ⟨ns,0,false,rfl,by decide,λk n g=>?_⟩;have h:kd8 k:=⟨km n.1,n.2.1,Yt (F9 k) n.2.2⟩;walk_at "pa";refine CA ⟨ns,1,k,rfl,by decide,h,g.1,λv r=>?_⟩;walk_at "pa";refine CA ⟨ns,2,rfl,by decide,λs x b D=>?_⟩;walk_at "pa";refine CA ?_;simp only[Ad,Ap,Ag,L3.Aa,L3.Ac,Ab,gC,Ae,Yb,Yc,Yg,Yi];refine⟨by decide,λp B=>?_⟩;refine Gc (x:=x) (b:=b) (xs:=[v.enc,v.enc,v.enc,.int 5]) (by rw[Aj (AC Ak B)];exact Ak) Ak rfl (by decide) (by decide) (Xe (by simp)) λu l hw=>?_
 obtain⟨e,rfl,z⟩:∃ e:Vl,e.enc=u/\vg e:=by
  simp only[Yo,Qd,or_false]at hw;rcases hw with rfl | rfl | rfl | rfl
  ·exact⟨v,rfl,r⟩
  ·exact⟨v,rfl,r⟩
  ·exact⟨v,rfl,r⟩
  ·exact⟨.int 5,rfl,rfl,by decide,by decide⟩
 walk_at "pa";have d:put (put (put G s (St x b)) p (.lst [v.enc,v.enc,v.enc,.int 5])) s (St l b) s=some (St l b):=Ak;generalize put (put (put G s (St x b)) p (.lst [v.enc,v.enc,v.enc,.int 5])) s (St l b)=G1 at d ⊢;show Af (gIf _ (AB _ _ (gWr 4)) Al) Xd (Ar Q) _ G1;obtain⟨c,hc,m⟩:=nj e G1;simp only[Af,gIf,gTB,Ad,Ae,Ab,gC,Yb,Yc,hc,Ao];cases c with
 | true =>
  obtain rfl:=m rfl;simp only[if_true,AB,AS,L3.Aa,L3.Ac,gC];walk_at "pj";show A8 yes (gNm 10) (gWr 4) _ ((List.range 9).map λk:Nat=>W.int k) _ _;rw[List.range_eq_range'];refine M1 (i:=4) (j:=10) (by decide) 9 0 (.int 5) _ rfl λω' hω=>?_;rcases hω with⟨A,_⟩|⟨o,rfl⟩
  ·cases A
  ·exact Xf d h g.1 mZ q
 | false =>
  simp only[Yq,if_false,Al];exact Xf d h g.1 z q
theorem Fl{e:DictEntry}{i:Int}{t u:Tok}{es:List DictEntry}{D:List (Str×KTD.Dat)}(h1:e.key=.str x t)(h2:e.val=.int i u)(r:KTD.Rows (KTD.Dat.At base) es D):KTD.Rows (KTD.Dat.At base) (e::es) ((x,KTD.Dat.flat (.int i))::D):=
 .cons h1 (by rw[h2];exact PyProof.V.Flat.int i u) r
theorem nq{h:Heap}(X:K.In h)(G:h.Ns mainGlobals mg)(FF:Fns K mg)(NN:Bls mg){c_CastError c_NoKind c_NoTerm c_BadUse c_NoValue c_NoNumber c_BadNote:Addr}{z_MARKS:Addr}{w0_MARKS w1_MARKS:Tok}{nn_MARKS:Nat}{sl_MARKS:Array (Option Value)}{w_MOST_DEPTH:Tok}{w_MOST_KINDS:Tok}{w_MOST_LETTERS:Tok}{z_LENGTHS:Addr}{ep_LENGTHS:Nat}{e0_LENGTHS e1_LENGTHS e2_LENGTHS e3_LENGTHS e4_LENGTHS e5_LENGTHS:DictEntry}{a0_LENGTHS b0_LENGTHS:Tok}{a1_LENGTHS b1_LENGTHS:Tok}{a2_LENGTHS b2_LENGTHS:Tok}{a3_LENGTHS b3_LENGTHS:Tok}{a4_LENGTHS b4_LENGTHS:Tok}{a5_LENGTHS b5_LENGTHS:Tok}{w_MOST_VALUES:Tok}{w_MOST_VALUE_DEPTH:Tok}{w_LETTERS:Tok}{d_CastError d_NoKind d_NoTerm d_BadUse d_NoValue d_NoNumber d_BadNote:ClassData}
  (e_CastError:PySem.W.nsIn K mainGlobals "CastError"=some (some (.ref c_CastError)))
  (e_NoKind:PySem.W.nsIn K mainGlobals "NoKind"=some (some (.ref c_NoKind)))
  (e_NoTerm:PySem.W.nsIn K mainGlobals "NoTerm"=some (some (.ref c_NoTerm)))
  (e_BadUse:PySem.W.nsIn K mainGlobals "BadUse"=some (some (.ref c_BadUse)))
  (e_NoValue:PySem.W.nsIn K mainGlobals "NoValue"=some (some (.ref c_NoValue)))
  (e_NoNumber:PySem.W.nsIn K mainGlobals "NoNumber"=some (some (.ref c_NoNumber)))
  (e_BadNote:PySem.W.nsIn K mainGlobals "BadNote"=some (some (.ref c_BadNote)))
  (E7:PySem.W.nsIn K mainGlobals "MARKS"=some (some (.ref z_MARKS)))
  (l_MARKS:K.lookup z_MARKS=some ⟨.type "tuple",none,.seq #[.str "must" w0_MARKS,.str "may" w1_MARKS] nn_MARKS,sl_MARKS⟩)
  (E8:PySem.W.nsIn K mainGlobals "MOST_DEPTH"=some (some (.int 8 w_MOST_DEPTH)))
  (E9:PySem.W.nsIn K mainGlobals "MOST_KINDS"=some (some (.int 40 w_MOST_KINDS)))
  (Fa:PySem.W.nsIn K mainGlobals "MOST_LETTERS"=some (some (.int 8 w_MOST_LETTERS)))
  (v_LENGTHS:PySem.W.nsIn K mainGlobals "LENGTHS"=some (some (.ref z_LENGTHS)))
  (l_LENGTHS:K.lookup z_LENGTHS=some ⟨.type "dict",none,.dict #[e0_LENGTHS,e1_LENGTHS,e2_LENGTHS,e3_LENGTHS,e4_LENGTHS,e5_LENGTHS] ep_LENGTHS,#[]⟩)
  (u_LENGTHS:(z_LENGTHS==sysModules)=false)
  (a0_LENGTHS_:e0_LENGTHS.key=.str "any" a0_LENGTHS)
  (b0_LENGTHS_:e0_LENGTHS.val=.int 1 b0_LENGTHS)
  (a1_LENGTHS_:e1_LENGTHS.key=.str "num" a1_LENGTHS)
  (b1_LENGTHS_:e1_LENGTHS.val=.int 1 b1_LENGTHS)
  (a2_LENGTHS_:e2_LENGTHS.key=.str "truth" a2_LENGTHS)
  (b2_LENGTHS_:e2_LENGTHS.val=.int 1 b2_LENGTHS)
  (a3_LENGTHS_:e3_LENGTHS.key=.str "to" a3_LENGTHS)
  (b3_LENGTHS_:e3_LENGTHS.val=.int 3 b3_LENGTHS)
  (a4_LENGTHS_:e4_LENGTHS.key=.str "box" a4_LENGTHS)
  (b4_LENGTHS_:e4_LENGTHS.val=.int 2 b4_LENGTHS)
  (a5_LENGTHS_:e5_LENGTHS.key=.str "row" a5_LENGTHS)
  (b5_LENGTHS_:e5_LENGTHS.val=.int 3 b5_LENGTHS)
  (Fb:PySem.W.nsIn K mainGlobals "MOST_VALUES"=some (some (.int 100 w_MOST_VALUES)))
  (Fc:PySem.W.nsIn K mainGlobals "MOST_VALUE_DEPTH"=some (some (.int 10 w_MOST_VALUE_DEPTH)))
  (E6:PySem.W.nsIn K mainGlobals "LETTERS"=some (some (.str "abcdefghijklmnopqrstuvwxyz" w_LETTERS)))
  (Es:PySem.W.excIn K c_NoKind [.type "ValueError",.type "Exception",.type "BaseException",.type "object"] "ValueError.__new__"=true)
  (E2:PySem.W.excIn K c_NoValue [.type "ValueError",.type "Exception",.type "BaseException",.type "object"] "ValueError.__new__"=true)
  (E4:PySem.W.clsIn K c_CastError=some d_CastError)
  (k_NoKind:PySem.W.clsIn K c_NoKind=some d_NoKind)
  (k_NoTerm:PySem.W.clsIn K c_NoTerm=some d_NoTerm)
  (k_BadUse:PySem.W.clsIn K c_BadUse=some d_BadUse)
  (k_NoValue:PySem.W.clsIn K c_NoValue=some d_NoValue)
  (k_NoNumber:PySem.W.clsIn K c_NoNumber=some d_NoNumber)
  (k_BadNote:PySem.W.clsIn K c_BadNote=some d_BadNote)
  (E3:PySem.W.typeIn K (.ref c_CastError)=some (.type "type"))
  (t_NoKind:PySem.W.typeIn K (.ref c_NoKind)=some (.type "type"))
  (t_NoTerm:PySem.W.typeIn K (.ref c_NoTerm)=some (.type "type"))
  (t_BadUse:PySem.W.typeIn K (.ref c_BadUse)=some (.type "type"))
  (t_NoValue:PySem.W.typeIn K (.ref c_NoValue)=some (.type "type"))
  (t_NoNumber:PySem.W.typeIn K (.ref c_NoNumber)=some (.type "type"))
  (t_BadNote:PySem.W.typeIn K (.ref c_BadNote)=some (.type "type"))
  (E5:PySem.W.subIn K (.ref c_CastError) (.type "BaseException")=some true)
  (s_CastError:PySem.W.subIn K (.ref c_NoKind) (.ref c_CastError)=some true)
  (s_NoTerm:PySem.W.subIn K (.ref c_NoKind) (.ref c_NoTerm)=some false)
  (u_NoTerm:(Value.ref c_NoKind==Value.ref c_NoTerm)=false)
  (s_BadUse:PySem.W.subIn K (.ref c_NoKind) (.ref c_BadUse)=some false)
  (u_BadUse:(Value.ref c_NoKind==Value.ref c_BadUse)=false)
  (s_NoValue:PySem.W.subIn K (.ref c_NoKind) (.ref c_NoValue)=some false)
  (u_NoValue:(Value.ref c_NoKind==Value.ref c_NoValue)=false)
  (s_NoNumber:PySem.W.subIn K (.ref c_NoKind) (.ref c_NoNumber)=some false)
  (u_NoNumber:(Value.ref c_NoKind==Value.ref c_NoNumber)=false)
  (s_BadNote:PySem.W.subIn K (.ref c_NoKind) (.ref c_BadNote)=some false)
  (u_BadNote:(Value.ref c_NoKind==Value.ref c_BadNote)=false)
  (s_ValueError:PySem.W.subIn K (.ref c_NoKind) (.type "ValueError")=some true)
  (y1:PySem.W.findIn K (.ref c_NoKind) "__getattribute__"=some (some (.builtin "BaseException.__getattribute__")))
  (y2:PySem.W.findIn K (.ref c_NoKind) "__getattr__"=some none)
  (y4:PySem.W.findIn K (.ref c_NoKind) "__class__"=some (some (.builtin "object.__class__")))
  (y7:PySem.W.mroIn K c_NoKind (.type "object")=some true)
  (y8:PySem.W.mroIn K c_NoKind (.type "BaseException")=some true)
  (js_CastError:PySem.W.subIn K (.ref c_NoValue) (.ref c_CastError)=some true)
  (js_NoKind:PySem.W.subIn K (.ref c_NoValue) (.ref c_NoKind)=some false)
  (ju_NoKind:(Value.ref c_NoValue==Value.ref c_NoKind)=false)
  (js_NoTerm:PySem.W.subIn K (.ref c_NoValue) (.ref c_NoTerm)=some false)
  (ju_NoTerm:(Value.ref c_NoValue==Value.ref c_NoTerm)=false)
  (js_BadUse:PySem.W.subIn K (.ref c_NoValue) (.ref c_BadUse)=some false)
  (ju_BadUse:(Value.ref c_NoValue==Value.ref c_BadUse)=false)
  (js_NoNumber:PySem.W.subIn K (.ref c_NoValue) (.ref c_NoNumber)=some false)
  (ju_NoNumber:(Value.ref c_NoValue==Value.ref c_NoNumber)=false)
  (js_BadNote:PySem.W.subIn K (.ref c_NoValue) (.ref c_BadNote)=some false)
  (ju_BadNote:(Value.ref c_NoValue==Value.ref c_BadNote)=false)
  (js_ValueError:PySem.W.subIn K (.ref c_NoValue) (.type "ValueError")=some true)
  (jy1:PySem.W.findIn K (.ref c_NoValue) "__getattribute__"=some (some (.builtin "BaseException.__getattribute__")))
  (jy2:PySem.W.findIn K (.ref c_NoValue) "__getattr__"=some none)
  (jy4:PySem.W.findIn K (.ref c_NoValue) "__class__"=some (some (.builtin "object.__class__")))
  (jy7:PySem.W.mroIn K c_NoValue (.type "object")=some true)
  (jy8:PySem.W.mroIn K c_NoValue (.type "BaseException")=some true)
  (y5:PySem.W.specialIn K (.builtin "object.__class__") "__get__"=some (some (.builtin "getset_descriptor.__get__")))
  (y6:PySem.W.takesIn K (.builtin "object.__class__")=some true)
 :
  ∃ a:Adr,∀ base:Heap,K.In base->Tx K mg base a:=by
 refine⟨⟨c_CastError,c_NoKind,c_NoTerm,c_BadUse,c_NoValue,c_NoNumber,c_BadNote⟩,λbase B=>?_⟩
 exact{
  toFns:=FF
  toBls:=NN
  Rm:=PySem.W.mg_of X G e_CastError
  Hs:=PySem.W.mg_of X G e_NoKind
  Rn:=PySem.W.mg_of X G e_NoTerm
  Ro:=PySem.W.mg_of X G e_BadUse
  Lp:=PySem.W.mg_of X G e_NoValue
  Rp:=PySem.W.mg_of X G e_NoNumber
  Rq:=PySem.W.mg_of X G e_BadNote
  Fb:=FR X G Fb
  Fc:=FR X G Fc
  E7:=hU X G (dd:=none) (ts:=[("must",w0_MARKS),("may",w1_MARKS)]) E7 l_MARKS (by simp)
  E8:=FR X G E8
  E9:=FR X G E9
  Fa:=FR X G Fa
  Rr:=hV X G B v_LENGTHS l_LENGTHS u_LENGTHS ⟨rfl,rfl,rfl⟩ rfl (Fl a0_LENGTHS_ b0_LENGTHS_ (Fl a1_LENGTHS_ b1_LENGTHS_ (Fl a2_LENGTHS_ b2_LENGTHS_ (Fl a3_LENGTHS_ b3_LENGTHS_ (Fl a4_LENGTHS_ b4_LENGTHS_ (Fl a5_LENGTHS_ b5_LENGTHS_ .nil))))))
  E6:=⟨.str _,.str _ w_LETTERS,PySem.W.mg_of X G E6,⟨w_LETTERS,rfl⟩,λH=>.str _⟩
  E3:=E3
  E4:=Cj E4
  E5:=E5
  Es:=Es
  Rt:=s_CastError
  Ru:=⟨y1,y2,Cj k_NoKind,y4,y5,y6,y7,y8⟩
  Rv:=QV
  Rw:=CW u_NoTerm (Cj k_NoTerm) t_NoTerm s_NoTerm
  Rx:=CW u_BadUse (Cj k_BadUse) t_BadUse s_BadUse
  Ry:=CW u_NoValue (Cj k_NoValue) t_NoValue s_NoValue
  Rz:=CW u_NoNumber (Cj k_NoNumber) t_NoNumber s_NoNumber
  RA:=CW u_BadNote (Cj k_BadNote) t_BadNote s_BadNote
  RB:=QW (by decide +kernel) s_ValueError
  E2:=E2
  RC:=js_CastError
  RD:=⟨jy1,jy2,Cj k_NoValue,jy4,y5,y6,jy7,jy8⟩
  RH:=QV
  RE:=CW ju_NoKind (Cj k_NoKind) t_NoKind js_NoKind
  RF:=CW ju_NoTerm (Cj k_NoTerm) t_NoTerm js_NoTerm
  RG:=CW ju_BadUse (Cj k_BadUse) t_BadUse js_BadUse
  RI:=CW ju_NoNumber (Cj k_NoNumber) t_NoNumber js_NoNumber
  RJ:=CW ju_BadNote (Cj k_BadNote) t_BadNote js_BadNote
  RK:=QW (by decide +kernel) js_ValueError}
end KR
open PySem PySem.W PyProof.Rows
set_option hygiene false in
local macro_rules | `(tactic| walk_at "fb") => `(tactic| (intro _ _ _ _ _ _ us hl; first | (obtain rfl := L3.ln0 hl; rfl) | (obtain ⟨_, _, rfl, g0⟩ := L3.ln1 hl; first | (obtain rfl := L3.ln0 g0; rfl) | (obtain ⟨_, _, rfl, g1⟩ := L3.ln1 g0; first | (obtain rfl := L3.ln0 g1; rfl) | (obtain ⟨_, _, rfl, g2⟩ := L3.ln1 g1; first | (obtain rfl := L3.ln0 g2; rfl) | (obtain ⟨_, _, rfl, g3⟩ := L3.ln1 g2; first | (obtain rfl := L3.ln0 g3; rfl) | (obtain ⟨_, _, rfl, g4⟩ := L3.ln1 g3; obtain rfl := L3.ln0 g4; rfl)))))))
set_option hygiene false in
local macro_rules | `(tactic| walk_at "fk") => `(tactic| (dsimp only [L2.KOf]; refine' L3.hQ KX G ?e ?l ?c ?k ?b; (case e => k_is); (case l => k_is); (case c => k_is); (case k => k_is); (case b => walk_at "fb")))
set_option maxRecDepth 100000 in
set_option maxHeartbeats 0 in
theorem PySem.Challenge.cw_castwright_k65_no_values_holds : PySem.Challenge.rw_castwright_k65_no_values.Holds := by
 show KR.rwS.Holds
 w_on;o_law
 refine holds_open (r:=KR.rwS.row) (q:=KR.vwS) (loose:=["LENGTHS"]) (N:=6850)
  (Yf:=(kHook KR.KF KR.KL KR.kfe).obs) (Ya:=(kHook KR.KF KR.KL KR.kfe).val) (YP:=(kHook KR.KF KR.KL KR.kfe).says)
  (Xt:=λs=>xlAt KR.vwS [] s&&recOk (RowW.records KR.rwS.row.toRowW) s)
  (XP:=XL KR.vwS []) ?hl (kHook KR.KF KR.KL KR.kfe).of (kHook KR.KF KR.KL KR.kfe).keeps ?g1 XL.keeps rfl rfl rfl ?g2 rfl
  ?g3 (by decide +kernel) ?g4 ?hw ?hc
 case g1=>exact λs e=>xl_of s (Bool.and_eq_true_iff.mp e).1
 case g2=>exact λs e=>recFacts_of (Bool.and_eq_true_iff.mp e).2
 case g3=>first | assumption | decide +kernel
 case g4=>exact⟨rfl,rfl,rfl,rfl,rfl,by decide +kernel⟩
 case hw=>w_witness2
 case hl=>exact byRow2 "special-get-raises" KR.lbf KR.lbt
 k_fill
 refine L3.hW (l:=KR.rwS) (k:=33) ⟨rfl,by decide,by decide⟩ rfl rfl (λw h Y=>PySem.W.kIn_of Y) ?F
 case F =>
  intro w mg fa h KX G hmg
  have FF:KR.Fns (L2.KOf KX) mg:=by constructor <;> walk_at "fk"
  have NN:KR.Bls mg:=by constructor <;> exact PySem.W.mg_none_of KX G (by k_is)
  have T:∃ a:KR.Adr,∀ base:Heap,(L2.KOf KX).In base->KR.Tx (L2.KOf KX) mg base a:=by
   dsimp only[L2.KOf]at *
   refine' KR.nq KX G FF NN ?e_CastError ?e_NoKind ?e_NoTerm ?e_BadUse ?e_NoValue ?e_NoNumber ?e_BadNote ?E7 ?l_MARKS ?E8 ?E9 ?Fa ?v_LENGTHS ?l_LENGTHS ?u_LENGTHS ?a0_LENGTHS_ ?b0_LENGTHS_ ?a1_LENGTHS_ ?b1_LENGTHS_ ?a2_LENGTHS_ ?b2_LENGTHS_ ?a3_LENGTHS_ ?b3_LENGTHS_ ?a4_LENGTHS_ ?b4_LENGTHS_ ?a5_LENGTHS_ ?b5_LENGTHS_ ?Fb ?Fc ?E6 ?Es ?E2 ?E4 ?k_NoKind ?k_NoTerm ?k_BadUse ?k_NoValue ?k_NoNumber ?k_BadNote ?E3 ?t_NoKind ?t_NoTerm ?t_BadUse ?t_NoValue ?t_NoNumber ?t_BadNote ?E5 ?s_CastError ?s_NoTerm ?u_NoTerm ?s_BadUse ?u_BadUse ?s_NoValue ?u_NoValue ?s_NoNumber ?u_NoNumber ?s_BadNote ?u_BadNote ?s_ValueError ?y1 ?y2 ?y4 ?y7 ?y8 ?js_CastError ?js_NoKind ?ju_NoKind ?js_NoTerm ?ju_NoTerm ?js_BadUse ?ju_BadUse ?js_NoNumber ?ju_NoNumber ?js_BadNote ?ju_BadNote ?js_ValueError ?jy1 ?jy2 ?jy4 ?jy7 ?jy8 ?y5 ?y6
   (case e_CastError=>k_is)
   (case e_NoKind=>k_is)
   (case e_NoTerm=>k_is)
   (case e_BadUse=>k_is)
   (case e_NoValue=>k_is)
   (case e_NoNumber=>k_is)
   (case e_BadNote=>k_is)
   (case E7=>k_is)
   (case l_MARKS=>k_is)
   (case E8=>k_is)
   (case E9=>k_is)
   (case Fa=>k_is)
   (case v_LENGTHS=>k_is)
   (case l_LENGTHS=>k_is)
   (case u_LENGTHS=>decide)
   (case a0_LENGTHS_=>exact rfl)
   (case b0_LENGTHS_=>exact rfl)
   (case a1_LENGTHS_=>exact rfl)
   (case b1_LENGTHS_=>exact rfl)
   (case a2_LENGTHS_=>exact rfl)
   (case b2_LENGTHS_=>exact rfl)
   (case a3_LENGTHS_=>exact rfl)
   (case b3_LENGTHS_=>exact rfl)
   (case a4_LENGTHS_=>exact rfl)
   (case b4_LENGTHS_=>exact rfl)
   (case a5_LENGTHS_=>exact rfl)
   (case b5_LENGTHS_=>exact rfl)
   (case Fb=>k_is)
   (case Fc=>k_is)
   (case E6=>k_is)
   (case Es=>k_exc)
   (case E2=>k_exc)
   (case E4=>k_is)
   (case k_NoKind=>k_is)
   (case k_NoTerm=>k_is)
   (case k_BadUse=>k_is)
   (case k_NoValue=>k_is)
   (case k_NoNumber=>k_is)
   (case k_BadNote=>k_is)
   (case E3=>k_is)
   (case t_NoKind=>k_is)
   (case t_NoTerm=>k_is)
   (case t_BadUse=>k_is)
   (case t_NoValue=>k_is)
   (case t_NoNumber=>k_is)
   (case t_BadNote=>k_is)
   (case E5=>k_is)
   (case s_CastError=>k_is)
   (case s_NoTerm=>k_is)
   (case u_NoTerm=>decide)
   (case s_BadUse=>k_is)
   (case u_BadUse=>decide)
   (case s_NoValue=>k_is)
   (case u_NoValue=>decide)
   (case s_NoNumber=>k_is)
   (case u_NoNumber=>decide)
   (case s_BadNote=>k_is)
   (case u_BadNote=>decide)
   (case s_ValueError=>k_is)
   (case y1=>k_is)
   (case y2=>k_is)
   (case y4=>k_is)
   (case y7=>k_is)
   (case y8=>k_is)
   (case js_CastError=>k_is)
   (case js_NoKind=>k_is)
   (case ju_NoKind=>decide)
   (case js_NoTerm=>k_is)
   (case ju_NoTerm=>decide)
   (case js_BadUse=>k_is)
   (case ju_BadUse=>decide)
   (case js_NoNumber=>k_is)
   (case ju_NoNumber=>decide)
   (case js_BadNote=>k_is)
   (case ju_BadNote=>decide)
   (case js_ValueError=>k_is)
   (case jy1=>k_is)
   (case jy2=>k_is)
   (case jy4=>k_is)
   (case jy7=>k_is)
   (case jy8=>k_is)
   (case y5=>k_is)
   (case y6=>k_is)
  obtain⟨a,T⟩:=T
  obtain⟨f,fd,hm,F,_⟩:=FF.iW
  have e0:=hmg.symm.trans hm
  cases e0
  obtain⟨oc,od,kV,doc,pm,an,cdv,ct,osl,rfl,lk,hcd⟩:=F.ex
  exact⟨_,λs u=>.of_eq rfl,λbase kb nb=>KR.nn (T base kb) F⟩
