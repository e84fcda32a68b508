import PyProof.Rows.All
import Wide.All
import Wide.FinOn
import Lean
import PyProof.EqAt
import PyProof.EqKinds
import PyProof.TupleCall
import PyProof.AttrMissHeap
import KE.KDictOf
import PyProof.SetRoads
import PyProof.CollectWalk
import PyProof.ZipIter
import PyProof.TupleIter
import PyProof.NeKinds
import PyProof.DictStraight
import PyProof.WalksMore
import KE.KDictList
import KE.KSortTup
import KE.KItemsList
import KE.KxBytes
import OpenK.KRaise
import Open.Recs
import OpenK.KDescr
import OpenK.KGet
import OpenK.KMore
import Open.Fast
import OpenK.KWalk
import KE.KTab
import OpenK.KFacts
import KE.KSortAsk
import KE.KFromBytes
import OpenK.KCall
import Open.Claim
import KE.KIsAll
import OpenK.KMake
import OpenK.KLine
import Open.Line
import Open.Head
import Open.Strs
import Open.FastLooks
import OpenK.KOwn
import KE.KItem
import OpenK.Peek
import OpenK.KCls
import Open.FastTabs
import Open.Row
import PySem.Challenge.RW_castwright_k64_whole_met_and_either_by_v
set_option Elab.async false
set_option linter.all false
set_option maxRecDepth 100000
set_option maxHeartbeats 4000000
set_option compiler.extract_closed false
theorem Qzz(n:Nat)(h:n<=9:=by decide):n<=PySem.sizeLine:=Nat.le_trans h (by decide)
noncomputable section
abbrev Yb:=@List.getElem?_cons_zero
abbrev Yc:=@List.getElem?_cons_succ
abbrev Yd:=@List.mem_cons_of_mem
abbrev Ye:=@List.mem_cons_self
abbrev Yg:=@List.length_cons
abbrev Yh:=@List.length_map
abbrev Yi:=@List.length_nil
abbrev Yj:=@List.length_append
abbrev Yk:=@List.set_cons_zero
abbrev Yl:=@List.set_cons_succ
abbrev Ym:=@List.map_cons
abbrev Yn:=@List.size_toArray
abbrev Yo:=@List.mem_cons
abbrev Yp:=@List.getElem?_eq_getElem
abbrev Yq:=@Bool.false_eq_true
abbrev Yr:=@Nat.le_refl
abbrev Ys:=@Nat.ne_of_lt
abbrev Yt:=@Nat.le_trans
abbrev Yu:=@Nat.lt_of_lt_of_le
abbrev Yv:=@List.append_assoc
abbrev Yw:=@List.nil_append
abbrev Yx:=@List.append_nil
abbrev Yy:=@List.map_append
abbrev Yz:=@List.mem_append
abbrev YA:=@List.mem_singleton
abbrev YB:=@List.map_map
abbrev YC:=@List.mem_map
abbrev YD:=@List.pairwise_cons
abbrev YE:=@Option.map_some
abbrev YF:=@Option.some.inj
abbrev YG:=@Bool.not_true
abbrev YH:=@Bool.and_eq_true
abbrev YI:=@decide_eq_true
abbrev YJ:=@List.getElem?_append_left
abbrev YK:=@Nat.lt_of_le_of_lt
abbrev YL:=@Nat.le_of_lt
abbrev YM:=@Nat.lt_irrefl
abbrev YN:=@List.mem_map_of_mem
abbrev YO:=@List.mem_append_left
abbrev YQ:=@List.mem_append_right
abbrev YR:=@Array.getElem?_toList
abbrev YS:=@List.getElem?_map
abbrev YT:=@decide_eq_true_eq
abbrev YU:=@Option.map_eq_some_iff
abbrev YV:=@List.nodup_cons
abbrev YW:=@Array.length_toList
abbrev YX:=@Bool.false_ne_true
abbrev YY:=@Nat.zero_le
abbrev YZ:=@Ne.symm
abbrev Qa:=@Array.getElem?_eq_getElem
abbrev Qb:=@List.getElem?_eq_some_iff
abbrev Qc:=@Nat.le_add_right
abbrev Qd:=@List.not_mem_nil
abbrev Qe:=@List.getD_eq_getElem?_getD
abbrev Qf:=@List.flatMap_cons
abbrev Qg:=@Option.bind_eq_some_iff
abbrev Qh:=@PyProof.Rows.callWith_type1
abbrev Qi:=@List.getElem?_eq_none
abbrev Qj:=@List.length_eq_zero_iff
abbrev Qk:=@List.getElem_mem
abbrev Ql:=@False.elim
open PySem in
abbrev Qm:=@wpAny_bind
open PySem in
abbrev Qn:=@wpAny_pure
open PySem in
abbrev Qo:=@Heap.get?_push_of_some
open PySem in
abbrev Qp:=@Heap.lt_size
open PySem in
abbrev Qq:=@Heap.get?_push_size
open PySem in
abbrev Qr:=@Heap.size_push
open PySem in
abbrev Qs:=@Heap.SameBut.update
open PySem in
abbrev Qt:=@Heap.get?_update_self
set_option hygiene false in
local macro_rules | `(tactic| walk_at "pa")=>`(tactic| (refine Qm (Qm (wpAny_askSetting (Qn ?_)))))
set_option hygiene false in
local macro_rules | `(tactic| walk_at "pb")=>`(tactic| (simp only [YH] at h'))
set_option hygiene false in
local macro_rules | `(tactic| walk_at "pc")=>`(tactic| (simp only [El Ak,Option.bind_some,N1,YE,Ao]))
set_option hygiene false in
local macro_rules | `(tactic| walk_at "pd")=>`(tactic| (simp only [Yk,Yl]))
set_option hygiene false in
local macro_rules | `(tactic| walk_at "pe")=>`(tactic| (simp only [Yo,Qd,or_false,not_or]))
set_option hygiene false in
local macro_rules | `(tactic| walk_at "pf")=>`(tactic| (rcases Yo.mp a with rfl | a))
set_option hygiene false in
local macro_rules | `(tactic| walk_at "pg")=>`(tactic| (show wpAny (model prog w) _ (if bt w=true then _ else _) _ _ s))
set_option hygiene false in
local macro_rules | `(tactic| walk_at "ph")=>`(tactic| (simp only [this,bne_self_eq_false,Yq,if_false]))
set_option hygiene false in
local macro_rules | `(tactic| walk_at "pi")=>`(tactic| (simp only [b,c,YG,Yq,if_false]))
set_option hygiene false in
local macro_rules | `(tactic| walk_at "pj")=>`(tactic| (exact d.fpOk (Yr _) (d.hok.fresh (Yr _))))
set_option hygiene false in
local macro_rules | `(tactic| walk_at "pk")=>`(tactic| (rcases Yo.mp h with rfl | h))
set_option hygiene false in
local macro_rules | `(tactic| walk_at "pl")=>`(tactic| (refine Qm (wpAny_setField hi rfl (by simp) ?_)))
set_option hygiene false in
local macro_rules | `(tactic| walk_at "pm")=>`(tactic| (simp only [YG,Yq,if_false]))
namespace L2
open PySem PySem.Spec PyProof.Rows
def Eo(s:Stmt):Arguments:=match s with
 | .FunctionDef _ a _ _ _ _ _ _ _ _=>a
 | _=>{posonlyargs:=[],args:=[],vararg:=none,kwonlyargs:=[],kw_defaults:=[],kwarg:=none,defaults:=[]}
def B5(s:Stmt):List Stmt:=match s with
 | .FunctionDef _ _ b _ _ _ _ _ _ _=>b
 | _=>[]
def Aq(s:Stmt):Scope:=match s with
 | .FunctionDef _ _ _ _ _ _ sc _ _ _=>sc
 | _=>{kind:=.function,names:=[],isGenerator:=false,isCoroutine:=false}
end L2
namespace KQ
open PySem PySem.Spec PyProof.Rows L2
 def top (i:Nat):Stmt:=PySem.Challenge.pw_castwright_k64_whole_met_and_either_by_v.main.body.getD i (.Pass ⟨0,0,0,0⟩)
abbrev pwS:Program:=PySem.Challenge.pw_castwright_k64_whole_met_and_either_by_v
abbrev rwS:PySem.W.OpenLaw:=PySem.Challenge.rw_castwright_k64_whole_met_and_either_by_v
noncomputable def vwS:Program:=PySem.W.view pwS [1,2,3,5,6,7,8,9,10,11,12,13,14,15,16,17,18,19,20,21,22,23,24,25,26,27,28,30,31,32,33,34,35,36,37,38,39,40,41,42,44,45,46,47,48,49,50,51,52,53,54,55,56,58,59,60,61,63,64,65,66,67,68,69,70,71,72,73,74,75,76,77,78]
abbrev en(P:Params)(k:Str)(t:Tok)(v:Value):DictEntry:=⟨PyData.keyHash P k,.str k t,v⟩
abbrev co(n:Str)(a l g r f e:Nat)(x y:Value)(z t u:Nat):Obj:=.mk (.type "code") Option.none (.fields #[.str n a,.str n (a+1),.str "/claim/cut.py" (a+2),.int l 0,.int g 0,.int 0 0,.int 0 0,.int 3 0,.ref r,.bool Bool.true,.int f 0,.ref e,.none,x,y,.ref z,.int t 0,.int l 0,.str "/claim/cut.py" u]) #[]
abbrev fo(n:Str)(s:Stmt)(q:Str)(t c:Nat):Obj:=.mk (.type "function") Option.none (.func (PySem.W.fnOf n n (Eo s) (B5 s) (Aq s) .none .none .none (.str q t) Option.none (.ref c) .none)) #[]
noncomputable def KF:Params->PySem.W.Frag:=λP=>
 (nat_lit 2,.mk .none Option.none (.dict #[]) #[])::
 (nat_lit 3,.mk (.type "dict") Option.none (.dict #[en P "__name__" 165 (.str "law_castwright_k64_whole_met_and_either_by_v" 635),en P "__doc__" 166 .none,en P "__package__" 167 .none,en P "__loader__" 168 (.builtin "__main__.__loader__#opaque"),en P "__spec__" 169 .none,en P "__annotations__" 170 (.ref 6),en P "__builtins__" 171 (.ref 4),en P "__file__" 173 (.str "/claim/cut.py" 172),en P "__cached__" 174 .none,en P "CastError" 206 (.ref 24),en P "NoKind" 222 (.ref 37),en P "NoValue" 238 (.ref 49),en P "MOST_KINDS" 242 (.int 40 241),en P "MOST_DEPTH" 244 (.int 8 243),en P "MOST_LETTERS" 246 (.int 8 245),en P "MARKS" 249 (.ref 52),en P "LENGTHS" 268 (.ref 53),en P "parts_in" 275 (.ref 60),en P "entry_of" 284 (.ref 67),en P "names_of" 290 (.ref 72),en P "names_of_both" 298 (.ref 79),en P "row_of" 304 (.ref 84),en P "is_data" 310 (.ref 89),en P "check_kind" 317 (.ref 96),en P "check_kinds" 325 (.ref 103),en P "is_kind" 332 (.ref 110),en P "is_made_of" 338 (.ref 115),en P "layer_within" 348 (.ref 122),en P "kinds_in" 357 (.ref 129),en P "kinds_within" 363 (.ref 134),en P "has_form" 370 (.ref 141),en P "are_fields" 376 (.ref 146),en P "is_field" 383 (.ref 153),en P "is_name" 389 (.ref 158),en P "is_small_letter" 396 (.ref 165),en P "names_rise" 402 (.ref 170),en P "STEPS" 418 (.ref 171),en P "met" 426 (.ref 183),en P "joined" 434 (.ref 190),en P "behind" 442 (.ref 197),en P "clash_of" 454 (.ref 204),en P "clash_of_rows" 464 (.ref 211),en P "clash_of_entries" 472 (.ref 218),en P "meet_of" 478 (.ref 223),en P "meet_of_rows" 484 (.ref 228),en P "meet_of_entries" 492 (.ref 235),en P "join_of" 498 (.ref 240),en P "join_of_rows" 504 (.ref 245),en P "join_of_entries" 512 (.ref 252),en P "MOST_VALUES" 516 (.int 100 515),en P "MOST_VALUE_DEPTH" 518 (.int 10 517),en P "fits" 526 (.ref 259),en P "misfit" 534 (.ref 266),en P "check_data_kind" 541 (.ref 273),en P "check_value" 548 (.ref 280),en P "values_within" 554 (.ref 285),en P "has_value_form" 560 (.ref 290),en P "is_value_field" 567 (.ref 297),en P "head_of" 574 (.ref 304),en P "misfit_of" 582 (.ref 311),en P "misfit_of_row" 592 (.ref 318),en P "misfit_of_field" 601 (.ref 325),en P "either" 611 (.ref 332),en P "either_of" 619 (.ref 339),en P "either_of_rows" 625 (.ref 344),en P "either_of_entries" 634 (.ref 351),en P "_law_cell_at" 644 (.ref 358),en P "_law_state" 653 (.ref 365),en P "_law_choice" 663 (.ref 372),en P "_law_row" 677 (.ref 379),en P "_law_kind" 689 (.ref 386),en P "_law_drawn_kind" 701 (.ref 393),en P "_law_less" 707 (.ref 398),en P "_law_other" 720 (.ref 405),en P "_law_pair" 732 (.ref 412),en P "_law_value" 743 (.ref 419),en P "_law_value_of" 755 (.ref 426),en P "_law_turned" 766 (.ref 433),en P "_law_drawn_value" 780 (.ref 440),en P "_law_values" 786 (.ref 445),en P "_law_good" 794 (.ref 452),en P "law" 809 (.ref 459)] 82) #[])::
 (nat_lit 15,.mk (.type "tuple") Option.none (.seq #[.type "ValueError"]) #[])::
 (nat_lit 22,.mk (.type "tuple") Option.none (.seq #[]) #[])::
 (nat_lit 23,.mk (.type "dict") Option.none (.dict #[en P "__module__" 196 (.str "castwright.errors" 187),en P "__firstlineno__" 200 (.int 2 199),en P "__static_attributes__" 201 (.ref 22),en P "__weakref__" 203 (.ref 25),en P "__doc__" 204 .none] 3) #[])::
 (nat_lit 24,.mk (.type "type") Option.none (.cls (.mk "CastError" [.type "ValueError"] [.ref 24,.type "ValueError",.type "Exception",.type "BaseException",.type "object"] 23 "CastError" Bool.true [] [.ref 37,.ref 49] Bool.false Option.none Bool.false)) #[Option.some (.ref 15),Option.none,Option.some (.str "CastError" 189),Option.some (.str "CastError" 197),Option.some (.builtin "ValueError.__new__"),Option.some (.bool Bool.true)])::
 (nat_lit 25,.mk (.type "getset_descriptor") Option.none (.fields #[.str "__weakref__" 202,.ref 24,.builtin "ExceptionGroup.__weakref__",.none]) #[])::
 (nat_lit 28,.mk (.type "tuple") Option.none (.seq #[.ref 24]) #[])::
 (nat_lit 35,.mk (.type "tuple") Option.none (.seq #[]) #[])::
 (nat_lit 36,.mk (.type "dict") Option.none (.dict #[en P "__module__" 214 (.str "castwright.errors" 187),en P "__firstlineno__" 218 (.int 4 217),en P "__static_attributes__" 219 (.ref 35),en P "__doc__" 220 .none] 2) #[])::
 (nat_lit 37,.mk (.type "type") Option.none (.cls (.mk "NoKind" [.ref 24] [.ref 37,.ref 24,.type "ValueError",.type "Exception",.type "BaseException",.type "object"] 36 "NoKind" Bool.true [] [] Bool.false Option.none Bool.false)) #[Option.some (.ref 28),Option.none,Option.some (.str "NoKind" 207),Option.some (.str "NoKind" 215),Option.some (.builtin "ValueError.__new__"),Option.some (.bool Bool.true)])::
 (nat_lit 40,.mk (.type "tuple") Option.none (.seq #[.ref 24]) #[])::
 (nat_lit 47,.mk (.type "tuple") Option.none (.seq #[]) #[])::
 (nat_lit 48,.mk (.type "dict") Option.none (.dict #[en P "__module__" 230 (.str "castwright.errors" 187),en P "__firstlineno__" 234 (.int 6 233),en P "__static_attributes__" 235 (.ref 47),en P "__doc__" 236 .none] 2) #[])::
 (nat_lit 49,.mk (.type "type") Option.none (.cls (.mk "NoValue" [.ref 24] [.ref 49,.ref 24,.type "ValueError",.type "Exception",.type "BaseException",.type "object"] 48 "NoValue" Bool.true [] [] Bool.false Option.none Bool.false)) #[Option.some (.ref 40),Option.none,Option.some (.str "NoValue" 223),Option.some (.str "NoValue" 231),Option.some (.builtin "ValueError.__new__"),Option.some (.bool Bool.true)])::
 (nat_lit 52,.mk (.type "tuple") Option.none (.seq #[.str "must" 247,.str "may" 248]) #[])::
 (nat_lit 53,.mk (.type "dict") Option.none (.dict #[en P "any" 250 (.int 1 251),en P "num" 252 (.int 1 253),en P "truth" 254 (.int 1 255),en P "to" 256 (.int 3 257),en P "box" 258 (.int 2 259),en P "row" 260 (.int 3 261)] 6) #[])::
 (nat_lit 59,co "parts_in" 269 14 1 54 181 55 (.ref 56) (.ref 57) 58 273 274)::
 (nat_lit 60,fo "parts_in" (top 10) "castwright.kinds" 239 59)::
 (nat_lit 66,co "entry_of" 276 17 2 61 181 62 (.ref 63) (.ref 64) 65 282 283)::
 (nat_lit 67,fo "entry_of" (top 11) "castwright.kinds" 239 66)::
 (nat_lit 71,co "names_of" 285 22 1 68 181 69 .none .none 70 288 289)::
 (nat_lit 72,fo "names_of" (top 12) "castwright.kinds" 239 71)::
 (nat_lit 78,co "names_of_both" 291 24 2 73 181 74 (.ref 75) (.ref 76) 77 296 297)::
 (nat_lit 79,fo "names_of_both" (top 13) "castwright.kinds" 239 78)::
 (nat_lit 83,co "row_of" 299 26 3 80 181 81 .none .none 82 302 303)::
 (nat_lit 84,fo "row_of" (top 14) "castwright.kinds" 239 83)::
 (nat_lit 88,co "is_data" 305 29 1 85 181 86 .none .none 87 308 309)::
 (nat_lit 89,fo "is_data" (top 15) "castwright.kinds" 239 88)::
 (nat_lit 95,co "check_kind" 311 32 1 90 181 91 (.ref 92) (.ref 93) 94 315 316)::
 (nat_lit 96,fo "check_kind" (top 16) "castwright.kinds" 239 95)::
 (nat_lit 102,co "check_kinds" 318 35 2 97 181 98 (.ref 99) (.ref 100) 101 323 324)::
 (nat_lit 103,fo "check_kinds" (top 17) "castwright.kinds" 239 102)::
 (nat_lit 109,co "is_kind" 326 38 1 104 181 105 (.ref 106) (.ref 107) 108 330 331)::
 (nat_lit 110,fo "is_kind" (top 18) "castwright.kinds" 239 109)::
 (nat_lit 114,co "is_made_of" 333 40 5 111 181 112 .none .none 113 336 337)::
 (nat_lit 115,fo "is_made_of" (top 19) "castwright.kinds" 239 114)::
 (nat_lit 121,co "layer_within" 339 53 2 116 181 117 (.ref 118) (.ref 119) 120 346 347)::
 (nat_lit 122,fo "layer_within" (top 20) "castwright.kinds" 239 121)::
 (nat_lit 128,co "kinds_in" 349 58 1 123 181 124 (.ref 125) (.ref 126) 127 355 356)::
 (nat_lit 129,fo "kinds_in" (top 21) "castwright.kinds" 239 128)::
 (nat_lit 133,co "kinds_within" 358 63 1 130 181 131 .none .none 132 361 362)::
 (nat_lit 134,fo "kinds_within" (top 22) "castwright.kinds" 239 133)::
 (nat_lit 140,co "has_form" 364 67 1 135 181 136 (.ref 137) (.ref 138) 139 368 369)::
 (nat_lit 141,fo "has_form" (top 23) "castwright.kinds" 239 140)::
 (nat_lit 145,co "are_fields" 371 73 1 142 181 143 .none .none 144 374 375)::
 (nat_lit 146,fo "are_fields" (top 24) "castwright.kinds" 239 145)::
 (nat_lit 152,co "is_field" 377 77 1 147 181 148 (.ref 149) (.ref 150) 151 381 382)::
 (nat_lit 153,fo "is_field" (top 25) "castwright.kinds" 239 152)::
 (nat_lit 157,co "is_name" 384 81 1 154 181 155 .none .none 156 387 388)::
 (nat_lit 158,fo "is_name" (top 26) "castwright.kinds" 239 157)::
 (nat_lit 164,co "is_small_letter" 390 85 1 159 181 160 (.ref 161) (.ref 162) 163 394 395)::
 (nat_lit 165,fo "is_small_letter" (top 27) "castwright.kinds" 239 164)::
 (nat_lit 169,co "names_rise" 397 87 1 166 181 167 .none .none 168 400 401)::
 (nat_lit 170,fo "names_rise" (top 28) "castwright.kinds" 239 169)::
 (nat_lit 171,.mk (.type "dict") Option.none (.dict #[en P "any" 405 (.ref 172),en P "num" 406 (.ref 173),en P "truth" 407 (.ref 174),en P "to" 408 (.ref 175),en P "box" 411 (.ref 176)] 5) #[])::
 (nat_lit 172,.mk (.type "tuple") Option.none (.seq #[]) #[])::
 (nat_lit 173,.mk (.type "tuple") Option.none (.seq #[]) #[])::
 (nat_lit 174,.mk (.type "tuple") Option.none (.seq #[]) #[])::
 (nat_lit 175,.mk (.type "tuple") Option.none (.seq #[.str "in" 409,.str "out" 410]) #[])::
 (nat_lit 176,.mk (.type "tuple") Option.none (.seq #[.str "inside" 412]) #[])::
 (nat_lit 182,co "met" 419 91 2 177 181 178 (.ref 179) (.ref 180) 181 424 425)::
 (nat_lit 183,fo "met" (top 31) "castwright.known" 403 182)::
 (nat_lit 189,co "joined" 427 96 2 184 181 185 (.ref 186) (.ref 187) 188 432 433)::
 (nat_lit 190,fo "joined" (top 32) "castwright.known" 403 189)::
 (nat_lit 196,co "behind" 435 99 2 191 181 192 (.ref 193) (.ref 194) 195 440 441)::
 (nat_lit 197,fo "behind" (top 33) "castwright.known" 403 196)::
 (nat_lit 203,co "clash_of" 443 101 2 198 181 199 (.ref 200) (.ref 201) 202 452 453)::
 (nat_lit 204,fo "clash_of" (top 34) "castwright.known" 403 203)::
 (nat_lit 210,co "clash_of_rows" 455 113 2 205 181 206 (.ref 207) (.ref 208) 209 462 463)::
 (nat_lit 211,fo "clash_of_rows" (top 35) "castwright.known" 403 210)::
 (nat_lit 217,co "clash_of_entries" 465 119 2 212 181 213 (.ref 214) (.ref 215) 216 470 471)::
 (nat_lit 218,fo "clash_of_entries" (top 36) "castwright.known" 403 217)::
 (nat_lit 222,co "meet_of" 473 125 2 219 181 220 .none .none 221 476 477)::
 (nat_lit 223,fo "meet_of" (top 37) "castwright.known" 403 222)::
 (nat_lit 227,co "meet_of_rows" 479 133 2 224 181 225 .none .none 226 482 483)::
 (nat_lit 228,fo "meet_of_rows" (top 38) "castwright.known" 403 227)::
 (nat_lit 234,co "meet_of_entries" 485 137 2 229 181 230 (.ref 231) (.ref 232) 233 490 491)::
 (nat_lit 235,fo "meet_of_entries" (top 39) "castwright.known" 403 234)::
 (nat_lit 239,co "join_of" 493 143 2 236 181 237 .none .none 238 496 497)::
 (nat_lit 240,fo "join_of" (top 40) "castwright.known" 403 239)::
 (nat_lit 244,co "join_of_rows" 499 149 2 241 181 242 .none .none 243 502 503)::
 (nat_lit 245,fo "join_of_rows" (top 41) "castwright.known" 403 244)::
 (nat_lit 251,co "join_of_entries" 505 153 2 246 181 247 (.ref 248) (.ref 249) 250 510 511)::
 (nat_lit 252,fo "join_of_entries" (top 42) "castwright.known" 403 251)::
 (nat_lit 258,co "fits" 519 160 2 253 181 254 (.ref 255) (.ref 256) 257 524 525)::
 (nat_lit 259,fo "fits" (top 46) "castwright.data" 513 258)::
 (nat_lit 265,co "misfit" 527 162 2 260 181 261 (.ref 262) (.ref 263) 264 532 533)::
 (nat_lit 266,fo "misfit" (top 47) "castwright.data" 513 265)::
 (nat_lit 272,co "check_data_kind" 535 166 1 267 181 268 (.ref 269) (.ref 270) 271 539 540)::
 (nat_lit 273,fo "check_data_kind" (top 48) "castwright.data" 513 272)::
 (nat_lit 279,co "check_value" 542 169 1 274 181 275 (.ref 276) (.ref 277) 278 546 547)::
 (nat_lit 280,fo "check_value" (top 49) "castwright.data" 513 279)::
 (nat_lit 284,co "values_within" 549 172 1 281 181 282 .none .none 283 552 553)::
 (nat_lit 285,fo "values_within" (top 50) "castwright.data" 513 284)::
 (nat_lit 289,co "has_value_form" 555 174 1 286 181 287 .none .none 288 558 559)::
 (nat_lit 290,fo "has_value_form" (top 51) "castwright.data" 513 289)::
 (nat_lit 296,co "is_value_field" 561 180 1 291 181 292 (.ref 293) (.ref 294) 295 565 566)::
 (nat_lit 297,fo "is_value_field" (top 52) "castwright.data" 513 296)::
 (nat_lit 303,co "head_of" 568 182 1 298 181 299 (.ref 300) (.ref 301) 302 572 573)::
 (nat_lit 304,fo "head_of" (top 53) "castwright.data" 513 303)::
 (nat_lit 310,co "misfit_of" 575 186 2 305 181 306 (.ref 307) (.ref 308) 309 580 581)::
 (nat_lit 311,fo "misfit_of" (top 54) "castwright.data" 513 310)::
 (nat_lit 317,co "misfit_of_row" 583 192 2 312 181 313 (.ref 314) (.ref 315) 316 590 591)::
 (nat_lit 318,fo "misfit_of_row" (top 55) "castwright.data" 513 317)::
 (nat_lit 324,co "misfit_of_field" 593 198 3 319 181 320 (.ref 321) (.ref 322) 323 599 600)::
 (nat_lit 325,fo "misfit_of_field" (top 56) "castwright.data" 513 324)::
 (nat_lit 331,co "either" 604 205 2 326 181 327 (.ref 328) (.ref 329) 330 609 610)::
 (nat_lit 332,fo "either" (top 58) "castwright.serving" 602 331)::
 (nat_lit 338,co "either_of" 612 208 2 333 181 334 (.ref 335) (.ref 336) 337 617 618)::
 (nat_lit 339,fo "either_of" (top 59) "castwright.serving" 602 338)::
 (nat_lit 343,co "either_of_rows" 620 218 2 340 181 341 .none .none 342 623 624)::
 (nat_lit 344,fo "either_of_rows" (top 60) "castwright.serving" 602 343)::
 (nat_lit 350,co "either_of_entries" 626 222 2 345 181 346 (.ref 347) (.ref 348) 349 632 633)::
 (nat_lit 351,fo "either_of_entries" (top 61) "castwright.serving" 602 350)::
 (nat_lit 357,co "_law_cell_at" 637 232 2 352 181 353 (.ref 354) (.ref 355) 356 642 643)::
 (nat_lit 358,fo "_law_cell_at" (top 63) "law_castwright_k64_whole_met_and_either_by_v" 635 357)::
 (nat_lit 364,co "_law_state" 645 236 2 359 181 360 (.ref 361) (.ref 362) 363 651 652)::
 (nat_lit 365,fo "_law_state" (top 64) "law_castwright_k64_whole_met_and_either_by_v" 635 364)::
 (nat_lit 371,co "_law_choice" 654 241 2 366 181 367 (.ref 368) (.ref 369) 370 661 662)::
 (nat_lit 372,fo "_law_choice" (top 65) "law_castwright_k64_whole_met_and_either_by_v" 635 371)::
 (nat_lit 378,co "_law_row" 664 250 4 373 181 374 (.ref 375) (.ref 376) 377 675 676)::
 (nat_lit 379,fo "_law_row" (top 66) "law_castwright_k64_whole_met_and_either_by_v" 635 378)::
 (nat_lit 385,co "_law_kind" 678 259 4 380 181 381 (.ref 382) (.ref 383) 384 687 688)::
 (nat_lit 386,fo "_law_kind" (top 67) "law_castwright_k64_whole_met_and_either_by_v" 635 385)::
 (nat_lit 392,co "_law_drawn_kind" 690 270 4 387 181 388 (.ref 389) (.ref 390) 391 699 700)::
 (nat_lit 393,fo "_law_drawn_kind" (top 68) "law_castwright_k64_whole_met_and_either_by_v" 635 392)::
 (nat_lit 397,co "_law_less" 702 277 2 394 181 395 .none .none 396 705 706)::
 (nat_lit 398,fo "_law_less" (top 69) "law_castwright_k64_whole_met_and_either_by_v" 635 397)::
 (nat_lit 404,co "_law_other" 708 291 2 399 181 400 (.ref 401) (.ref 402) 403 718 719)::
 (nat_lit 405,fo "_law_other" (top 70) "law_castwright_k64_whole_met_and_either_by_v" 635 404)::
 (nat_lit 411,co "_law_pair" 721 308 3 406 181 407 (.ref 408) (.ref 409) 410 730 731)::
 (nat_lit 412,fo "_law_pair" (top 71) "law_castwright_k64_whole_met_and_either_by_v" 635 411)::
 (nat_lit 418,co "_law_value" 733 319 2 413 181 414 (.ref 415) (.ref 416) 417 741 742)::
 (nat_lit 419,fo "_law_value" (top 72) "law_castwright_k64_whole_met_and_either_by_v" 635 418)::
 (nat_lit 425,co "_law_value_of" 744 331 2 420 181 421 (.ref 422) (.ref 423) 424 753 754)::
 (nat_lit 426,fo "_law_value_of" (top 73) "law_castwright_k64_whole_met_and_either_by_v" 635 425)::
 (nat_lit 432,co "_law_turned" 756 345 2 427 181 428 (.ref 429) (.ref 430) 431 764 765)::
 (nat_lit 433,fo "_law_turned" (top 74) "law_castwright_k64_whole_met_and_either_by_v" 635 432)::
 (nat_lit 439,co "_law_drawn_value" 767 357 3 434 181 435 (.ref 436) (.ref 437) 438 778 779)::
 (nat_lit 440,fo "_law_drawn_value" (top 75) "law_castwright_k64_whole_met_and_either_by_v" 635 439)::
 (nat_lit 444,co "_law_values" 781 370 1 441 181 442 .none .none 443 784 785)::
 (nat_lit 445,fo "_law_values" (top 76) "law_castwright_k64_whole_met_and_either_by_v" 635 444)::
 (nat_lit 451,co "_law_good" 787 374 1 446 181 447 (.ref 448) (.ref 449) 450 792 793)::
 (nat_lit 452,fo "_law_good" (top 77) "law_castwright_k64_whole_met_and_either_by_v" 635 451)::
 (nat_lit 458,co "law" 795 381 1 453 181 454 (.ref 455) (.ref 456) 457 807 808)::
 (nat_lit 459,fo "law" (top 78) "law_castwright_k64_whole_met_and_either_by_v" 635 458)::
 []
noncomputable def KL:List Addr:=2::3::15::22::23::24::25::28::35::36::37::40::47::48::49::52::53::59::60::66::67::71::72::78::79::83::84::88::89::95::96::102::103::109::110::114::115::121::122::128::129::133::134::140::141::145::146::152::153::157::158::164::165::169::170::171::172::173::174::175::176::182::183::189::190::196::197::203::204::210::211::217::218::222::223::227::228::234::235::239::240::244::245::251::252::258::259::265::266::272::273::279::280::284::285::289::290::296::297::303::304::310::311::317::318::324::325::331::332::338::339::343::344::350::351::357::358::364::365::371::372::378::379::385::386::392::393::397::398::404::405::411::412::418::419::425::426::432::433::439::440::444::445::451::452::458::459::[]
theorem kfe(P:Params):KL=(KF P).map (·.1):=by kernel_rfl
section
open PySem.W
abbrev OE(w:World):=openEnds treeTable pwS w 5648
abbrev FS(s:Shared):=openSeen vwS ["LENGTHS","STEPS"] (importedModules pwS.main.body) (λs=>xlAt vwS [] s&&recOk (RowW.records rwS.row.toRowW) s) true s
abbrev OB(s:Shared):=(kHook KF KL kfe).obs s
abbrev VA(w:World):=(kHook KF KL kfe).val w
abbrev GD:=openGood vwS ["LENGTHS","STEPS"]
abbrev LB(w:World):Prop:=(OE w).map (λs=>(FS s,OB s))=some (GD,VA w)
theorem mpp{α β γ:Type}{o:Option α}{f:α->β}{g:α->γ}{a:β}{b:γ}(h1:o.map f=some a)(h2:o.map g=some b):o.map (λs=>(f s,g s))=some (a,b):=by
 cases o with
 | none=>cases h1
 | some s=>exact congrArg some (Prod.ext (YF h1) (YF h2))
theorem mpl{α β γ:Type}{o:Option α}{f:α->β}{g:α->γ}{a:β}{b:γ}(h:o.map (λs=>(f s,g s))=some (a,b)):o.map f=some a:=by
 cases o with
 | none=>cases h
 | some s=>exact congrArg some (Prod.ext_iff.mp (YF h)).1
theorem mpr{α β γ:Type}{o:Option α}{f:α->β}{g:α->γ}{a:β}{b:γ}(h:o.map (λs=>(f s,g s))=some (a,b)):o.map g=some b:=by
 cases o with
 | none=>cases h
 | some s=>exact congrArg some (Prod.ext_iff.mp (YF h)).2
theorem mpb{α:Type}{o:Option α}{k a b c d e f:α->Bool}(h1:o.map k=some true)(h2:o.map (λs=>a s&&b s&&c s&&d s&&e s&&f s)=some true):o.map (λs=>k s&&a s&&b s&&c s&&d s&&e s&&f s)=some true:=by
 cases o with
 | none=>cases h1
 | some s =>
  have x:k s=true:=YF h1;have y:(a s&&b s&&c s&&d s&&e s&&f s)=true:=YF h2;refine congrArg some ?_;show(k s&&a s&&b s&&c s&&d s&&e s&&f s)=true;rw[x];exact y
theorem Zi(w:World):(OE (w.withFollow "special-get-raises" false)).map (λs=>OB s)=some (VA (w.withFollow "special-get-raises" false)):=by kernel_rfl
theorem Zj(w:World):(OE (w.withFollow "special-get-raises" false)).map (λs=>seen ((recsOf vwS).map (·.name)) (ownsOf vwS) [] {s with gens:=#[]})=some (expectedOf vwS):=by kernel_rfl
theorem N2(w:World):(OE (w.withFollow "special-get-raises" false)).map (λs=>(s.heap.bltView,tabsOk vwS s))=some ((bltViewBooted,true)):=by kernel_rfl
theorem Zk(w:World):(OE (w.withFollow "special-get-raises" false)).map (λs=>s.heap.keysOk (looseW vwS ["LENGTHS","STEPS"]) ((recsOf vwS).map (·.name)) ((litsOf vwS).map (·.1)) ((clssOf vwS (looseW vwS ["LENGTHS","STEPS"])).map (·.name)))=some (true):=by kernel_rfl
theorem Zl(w:World):(OE (w.withFollow "special-get-raises" false)).map (λs=>s.heap.accountedOkI (importedModules pwS.main.body)&&s.heap.isNs mainGlobals&&s.heap.isNs builtinsNs&&tablesOk vwS s.heap&&(xlAt vwS [] s&&recOk (RowW.records rwS.row.toRowW) s)&&(s.gens.size==0))=some (true):=by kernel_rfl
theorem Zm(w:World):(OE (w.withFollow "special-get-raises" false)).map (λs=>(pinSeenD vwS (drecsOf vwS) s,plainSeenE vwS (looseW vwS ["LENGTHS","STEPS"]) s,plainSeenD vwS ["LENGTHS","STEPS"] s,wideSeen vwS s,clsSeenW vwS ["LENGTHS","STEPS"] s))=some ((pinGoodD (drecsOf vwS),plainGoodE vwS (looseW vwS ["LENGTHS","STEPS"]),plainGoodD vwS ["LENGTHS","STEPS"],wideGood vwS,clsGoodW vwS ["LENGTHS","STEPS"])):=by kernel_rfl
theorem lbf(w:World):LB (w.withFollow "special-get-raises" false):=mpp (mpp (Zj w) (mpp (mpl (N2 w)) (mpp (mpb (Zk w) (Zl w)) (mpp (mpr (N2 w)) (Zm w))))) (Zi w)
theorem Zn(w:World):(OE (w.withFollow "special-get-raises" true)).map (λs=>OB s)=some (VA (w.withFollow "special-get-raises" true)):=by kernel_rfl
theorem Zo(w:World):(OE (w.withFollow "special-get-raises" true)).map (λs=>seen ((recsOf vwS).map (·.name)) (ownsOf vwS) [] {s with gens:=#[]})=some (expectedOf vwS):=by kernel_rfl
theorem N3(w:World):(OE (w.withFollow "special-get-raises" true)).map (λs=>(s.heap.bltView,tabsOk vwS s))=some ((bltViewBooted,true)):=by kernel_rfl
theorem Zp(w:World):(OE (w.withFollow "special-get-raises" true)).map (λs=>s.heap.keysOk (looseW vwS ["LENGTHS","STEPS"]) ((recsOf vwS).map (·.name)) ((litsOf vwS).map (·.1)) ((clssOf vwS (looseW vwS ["LENGTHS","STEPS"])).map (·.name)))=some (true):=by kernel_rfl
theorem Zq(w:World):(OE (w.withFollow "special-get-raises" true)).map (λs=>s.heap.accountedOkI (importedModules pwS.main.body)&&s.heap.isNs mainGlobals&&s.heap.isNs builtinsNs&&tablesOk vwS s.heap&&(xlAt vwS [] s&&recOk (RowW.records rwS.row.toRowW) s)&&(s.gens.size==0))=some (true):=by kernel_rfl
theorem Zr(w:World):(OE (w.withFollow "special-get-raises" true)).map (λs=>(pinSeenD vwS (drecsOf vwS) s,plainSeenE vwS (looseW vwS ["LENGTHS","STEPS"]) s,plainSeenD vwS ["LENGTHS","STEPS"] s,wideSeen vwS s,clsSeenW vwS ["LENGTHS","STEPS"] s))=some ((pinGoodD (drecsOf vwS),plainGoodE vwS (looseW vwS ["LENGTHS","STEPS"]),plainGoodD vwS ["LENGTHS","STEPS"],wideGood vwS,clsGoodW vwS ["LENGTHS","STEPS"])):=by kernel_rfl
theorem lbt(w:World):LB (w.withFollow "special-get-raises" true):=mpp (mpp (Zo w) (mpp (mpl (N3 w)) (mpp (mpb (Zp w) (Zq w)) (mpp (mpr (N3 w)) (Zr w))))) (Zn w)
end
end KQ
namespace L2
open PySem PySem.Spec PyProof.Rows
abbrev Key:=Sum Int Str
def De:Key->Value->Bool
 | .inl k,v=>Value.isInt k v
 | .inr x,v=>Value.isStrOf x v
def Zs(w:World):Key->Int
 | .inl k=>hashInt k
 | .inr x=>hashStr w x
theorem CU:∀{k:Key}{v:Value},De k v=true->(∃ i t,k=Sum.inl i/\v=Value.int i t)\/(∃ x t,k=Sum.inr x/\v=Value.str x t)
 | .inl i,v,h=>by
  obtain⟨t,e⟩:=Value.isInt_shape (k:=i) (v:=v) h;exact .inl ⟨i,t,rfl,e⟩
 | .inr x,v,h=>by
  obtain⟨t,e⟩:=Value.isStrOf_shape (x:=x) (v:=v) h;exact .inr ⟨x,t,rfl,e⟩
theorem Zt(a b:Int):decide ((Sum.inl a:Key)=Sum.inl b)=(a==b):=by
 by_cases e:a=b
 ·subst e;simp
 ·have h:¬ (Sum.inl a:Key)=Sum.inl b:=λq=>e (Sum.inl.inj q);rw[decide_eq_false h];exact(beq_eq_false_iff_ne.mpr e).symm
theorem Zu(a b:Str):decide ((Sum.inr a:Key)=Sum.inr b)=decide (a=b):=by
 by_cases e:a=b
 ·subst e;simp
 ·have h:¬ (Sum.inr a:Key)=Sum.inr b:=λq=>e (Sum.inr.inj q);rw[decide_eq_false h,decide_eq_false e]
theorem Zv(a:Int)(b:Str):decide ((Sum.inl a:Key)=Sum.inr b)=false:=decide_eq_false (λq=>nomatch q)
theorem Zw(a:Str)(b:Int):decide ((Sum.inr a:Key)=Sum.inl b)=false:=decide_eq_false (λq=>nomatch q)
def AV(prog:Program)(w:World):PySem.KeyKind prog w Key where
 is:=De
 hash:=Zs w
 inj:=λv a b ha hb=>by
  rcases CU ha with⟨i,t,rfl,rfl⟩|⟨x,t,rfl,rfl⟩
  ·rcases CU hb with⟨j,u,rfl,e⟩|⟨y,u,rfl,e⟩
   ·injection e with e1 _;rw[e1]
   ·exact nomatch e
  ·rcases CU hb with⟨j,u,rfl,e⟩|⟨y,u,rfl,e⟩
   ·exact nomatch e
   ·injection e with e1 _;rw[e1]
 byValue:=λk v h=>by
  rcases CU h with⟨i,t,rfl,rfl⟩|⟨x,t,rfl,rfl⟩ <;> rfl
 pyHash:=λhv h=>by
  rcases CU hv with⟨i,t,rfl,rfl⟩|⟨x,t,rfl,rfl⟩
  ·exact wpAny_pyHash_int h
  ·exact wpAny_pyHash_str h
 eqBool:=λhu hv h=>by
  rcases CU hu with⟨i,t,rfl,rfl⟩|⟨x,t,rfl,rfl⟩
  ·rcases CU hv with⟨j,u,rfl,rfl⟩|⟨y,u,rfl,rfl⟩
   ·rw[Zt]at h;exact wpAny_eqBool_int h
   ·rw[Zv]at h;exact SeqAt.EqAt.int_str i t y u _ _ _ _ h
  ·rcases CU hv with⟨j,u,rfl,rfl⟩|⟨y,u,rfl,rfl⟩
   ·rw[Zw]at h;exact SeqAt.EqAt.str_int x t j u _ _ _ _ h
   ·rw[Zu]at h;exact wpAny_eqBool_str h
 «strs»:=λk x t v h=>by
  rcases CU h with⟨i,u,rfl,e⟩|⟨y,u,rfl,e⟩
  ·exact nomatch e
  ·injection e with e1 _
   subst e1
   cases v <;> rfl
inductive V where
 | non | bl (b:Bool)| int (i:Int)| str (x:Str)| byt (b:Array UInt8)| flt (b:UInt64)| ref (a:Addr)| ty (n:String)
 deriving DecidableEq
def RelV:V->Value->Prop
 | .non,u=>u=Value.none
 | .bl b,u=>u=Value.bool b
 | .int i,u=>∃ t,u=Value.int i t
 | .str x,u=>∃ t,u=Value.str x t
 | .byt b,u=>∃ t,u=Value.bytes b t
 | .flt b,u=>∃ t,u=Value.float b t
 | .ref a,u=>u=Value.ref a
 | .ty n,u=>u=Value.type n
abbrev Vals:List V->List Value->Prop:=Paired RelV
variable {us:List Value}
theorem Vals.length{xs:List V}(r:Vals xs us):xs.length=us.length:=Paired.length r
theorem Vals.get:∀{xs:List V}{us:List Value}{i:Nat}{x:V},Vals xs us->xs[i]?=some x->∃ u,us[i]?=some u/\RelV x u
 | _,_,_,_,.nil,e=>by simp at e
 | _,_,0,_,.cons r _,e=>by simp at e;subst e;exact⟨_,rfl,r⟩
 | _,_,i+1,x,.cons _ t,e=>by
  obtain⟨u,h1,h2⟩:=Vals.get (i:=i) (x:=x) t (by simpa using e);exact⟨u,by simpa using h1,h2⟩
theorem Vals.set{x:V}{u:Value}(r:RelV x u):∀{xs:List V}{us:List Value}(i:Nat),Vals xs us->Vals (xs.set i x) (us.set i u)
 | _,_,_,.nil=>.nil
 | _,_,0,.cons _ t=>.cons r t
 | _,_,i+1,.cons q t=>.cons q (Vals.set r i t)
theorem Vals.append:∀{xs ys:List V}{us a:List Value},Vals xs us->Vals ys a->Vals (xs++ys) (us++a)
 | _,_,_,_,.nil,s=>s
 | _,_,_,_,.cons r t,s=>.cons r (Vals.append t s)
theorem Vals.take:∀{xs:List V}{us:List Value}(n:Nat),Vals xs us->Vals (xs.take n) (us.take n)
 | _,_,0,_=>.nil
 | _,_,_+1,.nil=>.nil
 | _,_,n+1,.cons r t=>.cons r (Vals.take n t)
theorem Vals.drop:∀{xs:List V}{us:List Value}(n:Nat),Vals xs us->Vals (xs.drop n) (us.drop n)
 | _,_,0,r=>r
 | _,_,_+1,.nil=>.nil
 | _,_,n+1,.cons _ t=>Vals.drop n t
def N4:Option V->Option Value->Prop
 | some v,some u=>RelV v u
 | none,none=>True
 | _,_=>False
def KV{κ:Type}:List (κ×V)->List (κ×Value)->Prop:=Paired λ(p:κ×V)(q:κ×Value)=>p.1=q.1/\RelV p.2 q.2
def kV:Key->V
 | .inl i=>.int i
 | .inr x=>.str x
inductive HO where
 | lst (xs:List V)
 | tup (xs:List V)
 | dK (kvs:List (Key×V))| dT (kvs:List (List Key×V))
 | set (S:Int->Bool) (n:Nat)
 | ins (C dx:Addr) (fs:List (Str×V))
 | own (x:Addr)
 | xd (fs:List (Str×V))
 | met (f x:Addr)
 | rng (lo hi:Int)
 | frz (o:Obj) (u:HO)
 | tbl (ps:Array Value)
 | ext (φ:Heap->Prop)
abbrev Hp:=Addr->Option HO
def upd(H:Hp)(a:Addr)(o:HO):Hp:=λb=>if b=a then some o else H b
variable {H:Hp}{a:Addr}{o:HO}
theorem B0:upd H a o a=some o:=by unfold upd;rw[if_pos rfl]
variable {b:Addr}
theorem AN(h:b≠a):upd H a o b=H b:=by unfold upd;rw[if_neg h]
theorem DL(h:H a=some o)(h':H b=none):a≠b:=by
 intro e;subst e;rw[h]at h';cases h'
def TupP(h:Heap)(a:Addr)(items:Array Value):Prop:=∃ o,h.get? a=some o/\o.cls=.type "tuple"/\o.dict=none/\∃ n,o.data=.seq items n
theorem TupP.new(h:Heap)(items:Array Value):TupP (h.push {cls:=.type "tuple",data:=.seq items}) h.objs.size items:=⟨_,Qq _ rfl,rfl,rfl,_,rfl⟩
variable {h:Heap}
theorem TupP.up{items:Array Value}(x:TupP h a items):IsTup h a items:=let⟨o,e,c,_,d⟩:=x;⟨o,e,c,d⟩
def NoD(h:Heap)(a:Addr):Prop:=∃ o,h.get? a=some o/\o.dict=none
section
variable (P:Program) (w:World)
def ObjOk(H:Hp)(h:Heap)(a:Addr):HO->Prop
 | .lst xs=>xs.length<=sizeLine/\∃(its:List Value)(n:Nat),Vals xs its/\h.get? a=some {cls:=.type "list",data:=.seq its.toArray n}
 | .tup xs=>xs.length<=sizeLine/\∃ its:List Value,Vals xs its/\TupP h a its.toArray
 | .dK kvs=>kvs.length<=sizeLine/\(a==sysModules)=false/\∃ vs,KV kvs vs/\h.DictOf (AV P w) a vs
 | .dT kvs=>kvs.length<=sizeLine/\(a==sysModules)=false/\∃ xs:List (List Key×Addr×Value),
   Paired (λ(p:List Key×V)(q:List Key×Addr×Value)=>p.1=q.1/\H q.2.1=some (.tup (p.1.map kV))/\RelV p.2 q.2.2) kvs xs/\
   ∃ o es ep,h.get? a=some o/\o.ExactDict/\o.data=.dict es ep/\es.toList=xs.map (entryOfKey (tupleKind (AV P w)))/\(xs.map (·.1)).Nodup
 | .set S n=>h.SetOf (intKind P w) a S n
 | .ins C dx fs=>H dx=some (.own a)/\fs.length<=1000/\dx≠a/\h.get? a=some (PySem.W.instObj C dx)/\
   ∃ mA,h.Ns1 dx mA/\(∀ f,N4 (fs.lookup f) (mA f))/\PySem.Within mA (fs.map (·.1))
 | .own _=>∃ o,h.get? a=some o
 | .xd fs=>∃ mA,h.Ns1 a mA/\∀ f,N4 (fs.lookup f) (mA f)
 | .rng lo hi=>∃ t u v,h.get? a=some {cls:=.type "range",data:=.fields #[.int lo t,.int hi u,.int 1 v]}
 | .frz o u=>h.get? a=some o/\ObjOk H h a u
 | .tbl ps=>h.get? a=some {cls:=.none,data:=.fields ps}
 | .met f x=>h.get? a=some (PySem.W.methodObj (.ref f) (.ref x))
 | .ext φ=>φ h/\(∃ o,h.get? a=some o)/\∀ h1 h2:Heap,φ h1->(∀ o,h1.get? a=some o->h2.get? a=some o)->φ h2
def HOk(H:Hp)(h:Heap):Prop:=∀ a o,H a=some o->ObjOk P w H h a o
end
section
variable {P:Program} {w:World} {H H':Hp} {h h':Heap} {a:Addr} {o:HO}
theorem ObjOk.lt(x:ObjOk P w H h a o):a < h.objs.size:=by
 cases o with
 | lst xs=>obtain⟨_,_,_,_,e⟩:=x;exact Qp e
 | tup xs=>obtain⟨_,_,_,p⟩:=x;exact p.up.lt
 | dK b=>obtain⟨_,_,_,_,o,_,_,e,_⟩:=x;exact Qp e
 | dT b=>obtain⟨_,_,_,_,o,_,_,e,_⟩:=x;exact Qp e
 | set S n=>obtain⟨o,_,_,_,e,_⟩:=x;exact Qp e
 | ins C dx fs=>obtain⟨_,_,_,e,_⟩:=x;exact Qp e
 | own y=>obtain⟨_,e⟩:=x;exact Qp e
 | xd fs=>obtain⟨_,⟨_,_,_,e,_⟩,_⟩:=x;exact Qp e
 | rng lo hi=>obtain⟨_,_,_,e⟩:=x;exact Qp e
 | frz c u=>obtain⟨e,_⟩:=x;exact Qp e
 | tbl ps=>exact Qp (show h.get? a=some _ from x)
 | met f y=>exact Qp (show h.get? a=some _ from x)
 | ext φ=>obtain⟨_,⟨_,e⟩,_⟩:=x;exact Qp e
theorem Paired.mapP{α β:Type}{F G:α->β->Prop}:∀{c:List α}{d:List β},Paired F c d->(∀ a b,F a b->G a b)->Paired G c d
 | _,_,.nil,_=>.nil
 | _,_,.cons r t,f=>.cons (f _ _ r) (Paired.mapP t f)
theorem ObjOk.stay(x:ObjOk P w H h a o)(k:∀ b u,(b=a\/H b=some (.own a))->h.get? b=some u->h'.get? b=some u)
  (B:∀ b,H b=some (.own a)->H' b=some (.own a)) (s:∀ b xs,H b=some (.tup xs)->H' b=some (.tup xs)):ObjOk P w H' h' a o:=by
 induction o with
 | lst xs=>obtain⟨z,j,n,r,e⟩:=x;exact⟨z,j,n,r,k _ _ (.inl rfl) e⟩
 | tup xs=>obtain⟨z,j,r,g,e,c⟩:=x;exact⟨z,j,r,g,k _ _ (.inl rfl) e,c⟩
 | dK m=>obtain⟨z,y,F,r,g,es,i,e,c⟩:=x;exact⟨z,y,F,r,g,es,i,k _ _ (.inl rfl) e,c⟩
 | dT m =>
  obtain⟨z,y,xs,r,g,es,i,e,c⟩:=x;exact⟨z,y,xs,Paired.mapP r λp q z=>⟨z.1,s _ _ z.2.1,z.2.2⟩,g,es,i,k _ _ (.inl rfl) e,c⟩
 | set S n=>obtain⟨g,es,i,t,e,c⟩:=x;exact⟨g,es,i,t,k _ _ (.inl rfl) e,c⟩
 | ins C dx fs =>
  obtain⟨d,z,A,e,mA,⟨l,es,i,E,c⟩,r⟩:=x;exact⟨B _ d,z,A,k _ _ (.inl rfl) e,mA,⟨l,es,i,k _ _ (.inr d) E,c⟩,r⟩
 | own y=>obtain⟨g,e⟩:=x;exact⟨g,k _ _ (.inl rfl) e⟩
 | xd fs=>obtain⟨mA,⟨l,es,i,e,c⟩,r⟩:=x;exact⟨mA,⟨l,es,i,k _ _ (.inl rfl) e,c⟩,r⟩
 | rng lo hi=>obtain⟨t,u,v,e⟩:=x;exact⟨t,u,v,k _ _ (.inl rfl) e⟩
 | frz g u D=>obtain⟨e,q⟩:=x;exact⟨k _ _ (.inl rfl) e,D q⟩
 | tbl ps =>
  have e:h.get? a=some {cls:=.none,data:=.fields ps}:=x;show h'.get? a=some {cls:=.none,data:=.fields ps};exact k a _ (.inl rfl) e
 | met f y =>
  have e:h.get? a=some (PySem.W.methodObj (.ref f) (.ref y)):=x;show h'.get? a=some (PySem.W.methodObj (.ref f) (.ref y));exact k a _ (.inl rfl) e
 | ext φ=>obtain⟨p,⟨o,e⟩,st⟩:=x;exact⟨st _ _ p λo q=>k _ _ (.inl rfl) q,⟨o,k _ _ (.inl rfl) e⟩,st⟩
theorem HOk.lt(x:HOk P w H h)(e:H a=some o):a < h.objs.size:=(x a o e).lt
theorem HOk.fresh(x:HOk P w H h)(e:h.objs.size<=a):H a=none:=by
 cases q:H a with
 | none=>rfl
 | some u=>exact absurd (Yu (x.lt q) e) (YM _)
theorem HOk.kept(x:HOk P w H h)(k:∀ b u,h.get? b=some u->h'.get? b=some u):HOk P w H h':=λa o e=>
 (x a o e).stay (λb u _ q=>k b u q) (λ_ q=>q) λ_ _ q=>q
theorem HOk.laid(x:HOk P w H h)(k:∀ b u,h.get? b=some u->h'.get? b=some u)(g:h.objs.size<=a)(new:ObjOk P w (upd H a o) h' a o):HOk P w (upd H a o) h':=λb u e=>by
 have f:=x.fresh g;by_cases d:b=a
 ·subst d;rw[B0]at e;cases e;exact new
 ·rw[AN d]at e;exact(x b u e).stay (λc v _ q=>k c v q) (λc q=>by rw[AN (DL q f)];exact q) λc xs q=>by rw[AN (DL q f)];exact q
end
def Rd(H:Hp)(a:Addr)(u:HO):Prop:=H a=some u\/∃ o,H a=some (.frz o u)
theorem Rd.of{u:HO}(h:H a=some u):Rd H a u:=.inl h
variable {P:Program}{w:World}
theorem Rd.ok{u:HO}(r:Rd H a u)(x:HOk P w H h):ObjOk P w H h a u:=by
 rcases r with r |⟨o,r⟩
 ·exact x a u r
 ·obtain⟨_,q⟩:=x a _ r;exact q
def Mut:Option HO->Prop
 | some (.lst _)=>True
 | some (.dK _)=>True
 | some (.dT _)=>True
 | some (.set _ _)=>True
 | some (.ins _ _ _)=>True
 | some (.ext _)=>True
 | _=>False
section
variable {P:Program} {w:World} {H:Hp} {h h':Heap} {x e:Addr} {o':HO}
theorem HOk.write(ok:HOk P w H h)(i:Mut (H x))(l:e=x\/H e=some (.own x))(k:∀ b u,b≠e->h.get? b=some u->h'.get? b=some u)(j:∃ u,h'.get? e=some u)
  (new:ObjOk P w (upd H x o') h' x o'):HOk P w (upd H x o') h':=λb u q=>by
 have d:∀ c y,H c=some (.own y)->c≠x:=λc y r z=>by subst z;rw[r]at i;exact i
 have f:∀ c xs,H c=some (.tup xs)->c≠x:=λc xs r z=>by subst z;rw[r]at i;exact i
 by_cases g:b=x
 ·subst g;rw[B0]at q;cases q;exact new
 ·rw[AN g]at q;by_cases a:b=e
  ·have m:H b=some (.own x):=by
    rcases l with z | z
    ·exact absurd (a.trans z) g
    ·rw[a];exact z
   rw[q]at m;cases m;obtain⟨v,n⟩:=j;exact⟨v,by rw[a];exact n⟩
  ·refine(ok b u q).stay (λc v hc r=>k c v ?_ r) (λc r=>by rw[AN (d c b r)];exact r) λc xs r=>by rw[AN (f c xs r)];exact r
   rcases hc with rfl | hc
   ·exact a
   ·rintro rfl;rcases l with z | z
    ·exact d c b hc z
    ·rw[hc]at z;cases z;exact g rfl
end
structure Un(fs ex:List Addr)(H H':Hp)(h h':Heap):Prop where
 keep:∀ b o,h.get? b=some o->H b=none->b∉fs->b∉ex->h'.get? b=some o
 slot:∀ b o,h.get? b=some o->H b=none->b∈fs->b∉ex->∃ sl,h'.get? b=some {o with slots:=sl}
 free:∀ b o,h.get? b=some o->H b=none->b∉ex->H' b=none
 there:∀ b o,h.get? b=some o->b∉ex->∃ o',h'.get? b=some o'
 tups:∀ b xs,H b=some (.tup xs)->H' b=some (.tup xs)
 frzs:∀ b o u,H b=some (.frz o u)->H' b=some (.frz o u)
 tbls:∀ b ps,H b=some (.tbl ps)->∃ more,H' b=some (.tbl (ps++more))
section
variable {fs fs' ex ex':List Addr} {H H1 H2:Hp} {h h1 h2 h':Heap} {a x e:Addr} {o:HO}
theorem Un.any(u:Un fs ex H H1 h h1){a:Obj}(q:h.get? b=some a)(n:H b=none)(c:b∉ex):∃ e,h1.get? b=some {a with slots:=e}:=by
 by_cases d:b∈fs
 ·exact u.slot b a q n d c
 ·exact⟨a.slots,u.keep b a q n d c⟩
theorem Un.trans(a:Un fs ex H H1 h h1)(b:Un fs ex H1 H2 h1 h2):Un fs ex H H2 h h2 where
 keep:=λc e q n hc d=>b.keep c e (a.keep c e q n hc d) (a.free c e q n d) hc d
 slot:=λc e q n hc d=>by
  obtain⟨l,f⟩:=a.slot c e q n hc d;obtain⟨g,i⟩:=b.slot c _ f (a.free c e q n d) hc d;exact⟨g,i⟩
 free:=λc e q n d=>by
  obtain⟨o',f⟩:=a.there c e q d;exact b.free c o' f (a.free c e q n d) d
 there:=λc e q d=>by
  obtain⟨o',f⟩:=a.there c e q d;exact b.there c o' f d
 tups:=λc xs q=>b.tups c xs (a.tups c xs q)
 frzs:=λc e xs q=>b.frzs c e xs (a.frzs c e xs q)
 tbls:=λc ps q=>by
  obtain⟨j,f⟩:=a.tbls c ps q;obtain⟨k,i⟩:=b.tbls c _ f;exact⟨j++k,by rw[i,Array.append_assoc]⟩
theorem Un.kept(k:∀ b u,h.get? b=some u->h'.get? b=some u):Un fs ex H H h h' :=
 ⟨λb a q _ _ _=>k b a q,λb a q _ _ _=>⟨a.slots,k b a q⟩,λ_ _ _ n _=>n,λb a q _=>⟨a,k b a q⟩,λ_ _ q=>q,λ_ _ _ q=>q,λ_ ps q=>⟨#[],by rw[q];simp⟩⟩
theorem Un.refl:Un fs ex H H h h:=Un.kept λ_ _ q=>q
theorem Un.laid(k:∀ b u,h.get? b=some u->h'.get? b=some u)(d:h.objs.size<=a)(c:H a=none):Un fs ex H (upd H a o) h h' where
 keep:=λb u q _ _ _=>k b u q
 slot:=λb u q _ _ _=>⟨u.slots,k b u q⟩
 free:=λb u q n _=>by rw[AN (Ys (Yu (Qp q) d))];exact n
 there:=λb u q _=>⟨u,k b u q⟩
 tups:=λb xs q=>by rw[AN (DL q c)];exact q
 frzs:=λb u xs q=>by rw[AN (DL q c)];exact q
 tbls:=λb ps q=>⟨#[],by rw[AN (DL q c),q];simp⟩
theorem Un.write(c:Mut (H x))(j:e=x\/H e=some (.own x))(k:∀ b u,b≠e->h.get? b=some u->h'.get? b=some u)(d:∃ u,h'.get? e=some u):Un fs ex H (upd H x o) h h':=by
 have i:∀ b,H b=none->b≠x:=λb n z=>by subst z;rw[n]at c;exact c
 have g:∀ b,H b=none->b≠e:=λb n z=>by
  subst z;rcases j with r | r
  ·exact i b n r
  ·rw[n]at r;cases r
 have f:∀ b u,H b=some u->¬ Mut (some u)->b≠x:=λb u q nm z=>by subst z;rw[q]at c;exact nm c
 refine⟨λb u q n _ _=>k b u (g b n) q,λb u q n _ _=>⟨u.slots,k b u (g b n) q⟩,λb u q n _=>by rw[AN (i b n)];exact n,λb u q _=>?_,
  λb xs q=>by rw[AN (f b _ q λz=>z)];exact q,λb u xs q=>by rw[AN (f b _ q λz=>z)];exact q,λb ps q=>⟨#[],by rw[AN (f b _ q λz=>z),q];simp⟩⟩
 by_cases a:b=e
 ·subst a;exact d
 ·exact⟨u,k b u a q⟩
theorem Un.mono(u:Un fs ex H H1 h h1)(e:∀ b∈fs,b∈fs')(d:∀ b∈ex,b∈ex'):Un fs' ex' H H1 h h1 :=
 ⟨λb c q n f a=>u.keep b c q n (λz=>f (e b z)) λz=>a (d b z),λ_ _ q n _ a=>u.any q n λz=>a (d _ z),λb c q n a=>u.free b c q n λz=>a (d b z),λb c q a=>u.there b c q λz=>a (d b z),u.tups,u.frzs,u.tbls⟩
end
def trk(h:Heap)(H:Hp):List Addr:=(List.range h.objs.size).filter λa=>(H a).isSome
def Dg(h:Heap)(H:Hp):Heap:=PySem.W.hideAll h (trk h H)
theorem Zx(h:Heap)(H:Hp):(Dg h H).objs.size=h.objs.size:=PySem.W.hideAll_size _ _
theorem Zy{o:Obj}(e:h.get? b=some o)(n:H b=none):(Dg h H).get? b=some o :=
 PySem.W.hideAll_get _ e λa=>by
  have q:(H b).isSome=true:=(List.mem_filter.mp a).2;rw[n]at q;simp at q
theorem Zz{o:Obj}(e:(Dg h H).get? b=some o):h.get? b=some o/\H b=none:=by
 have a:h.get? b=some o:=PySem.W.of_hideAll (trk h H) e;refine⟨a,?_⟩;cases q:H b with
 | none=>rfl
 | some x =>
  have c:b∈trk h H:=List.mem_filter.mpr ⟨List.mem_range.mpr (Qp a),by simp[q]⟩;have z:(Dg h H).get? b=none:=PySem.W.hideAll_none (trk h H) c;rw[z]at e;cases e
def ZA(g h:Heap)(L:Addr):List (Addr×Obj):=(List.range h.objs.size).filterMap λa=>if a=L\/(g.get? a).isSome=true then none else(h.get? a).map λo=>(a,o)
def Av(g h:Heap)(L d:Addr):List (Addr×Obj):=(ZA g h L).filter λp=>decide (p.1≠d)
structure Mod(K:PySem.W.Frag)(mg:Str->Option Value)(base:Heap):Prop where
 kin:K.In base
 glob:base.Ns mainGlobals mg
 blt:∃ mb,base.Ns builtinsNs mb/\∀ x:Str,x≠"__name__"->mb x=bootBuiltins x
 nolimit:base.NoLimit
structure Cx where
 prog:Program
 w:World
 K:PySem.W.Frag
 mg:Str->Option Value
 base:Heap
 A:Around
 N:List Str
 s₀:Shared
 H₀:Hp
 env:Env
 outer:List Env
 stack:List Env
 ex:List Addr
 fn:Str->Bool
 calm:Bool
 pn:List (Addr×Obj)
 xe:Value->Shared->Prop
def frs(l:List Env):List Addr:=l.filterMap (·.frame)
abbrev Cx.fs(X:Cx):List Addr:=frs X.outer
def Vis(sc:Scope)(x:Str):Prop:=sc.names.lookup x=some .local\/sc.names.lookup x=some .cell\/sc.names.lookup x=some .free
def Loc(sc:Scope)(x:Str):Prop:=sc.names.lookup x=some .local\/sc.names.lookup x=some .cell
def ZC(env:Env)(h:Heap)(m:Str->Option Value)(x:Str)(u:Value):Prop :=
 (env.kindOf x=some .local/\m x=some u)\/((env.kindOf x=some .cell\/env.kindOf x=some .free)/\∃ c,env.cells.lookup x=some c/\h.IsCell c (some u))
structure Cx.Ok(X:Cx):Prop where
 mod:Mod X.K X.mg X.base
 kind:X.env.scope.kind=.function
 glob:X.env.globals=mainGlobals
 blt:X.env.builtins=builtinsNs
 above:X.s₀.heap.objs.size<=X.env.locals
 inj:∀ x y c,X.env.cells.lookup x=some c->X.env.cells.lookup y=some c->x=y
 has:∀ x,(X.env.kindOf x=some .cell\/X.env.kindOf x=some .free)->∃ c,X.env.cells.lookup x=some c
 cab:∀ x c,X.fn x=true->X.env.cells.lookup x=some c->X.s₀.heap.objs.size<=c
 hd:X.calm=true->X.A.handled=none
 frames:X.A.frames=some X.stack
 stk:X.stack=X.outer\/(X.stack=X.env::X.outer/\X.env.frame=some X.env.locals)
 exf:∀ b∈X.ex,b≠X.env.locals/\∀ x c,X.env.cells.lookup x=some c->c≠b
 bs:∀ b o,X.base.get? b=some o->X.s₀.heap.get? b=some o/\X.H₀ b=none
 bsz:X.base.objs.size<=X.s₀.heap.objs.size
 noex:∀ b o,X.base.get? b=some o->b∉X.ex
 exfs:∀ b∈X.ex,b∉X.fs
 funs:X.s₀.heap.FunFrames X.base X.outer
 frf:∀ b∈X.fs,X.H₀ b=none
structure Inv(X:Cx)(pins:List (Addr×Obj))(σ:List (Option V))(H:Hp)(s:Shared):Prop where
 ok:X.Ok
 os:s.os=X.s₀.os
 bare:AllBare s.gens
 base:Un X.fs X.ex X.H₀ H X.s₀.heap s.heap
 loc:∃ m,s.heap.Ns X.env.locals m/\∀(i:Nat)(x:Str)(v:V),X.N[i]?=some x->σ[i]?=some (some v)->Vis X.env.scope x->∃ u,RelV v u/\ZC X.env s.heap m x u
 cell:∀ x c,X.env.cells.lookup x=some c->∃ v,s.heap.IsCell c v
 free:H X.env.locals=none
 freeC:∀ x c,X.env.cells.lookup x=some c->H c=none
 pin:∀ p∈X.pn++pins,s.heap.get? p.1=some p.2/\H p.1=none/\p.1≠X.env.locals/\p.1∉X.fs/\∀ v,p.2.data≠.cell v
 hok:HOk X.prog X.w H s.heap
 len:σ.length=X.N.length
section
variable {X:Cx} {pins:List (Addr×Obj)} {σ:List (Option V)} {H H':Hp} {s:Shared} {h':Heap}
theorem Cx.Ok.nofr(ok:X.Ok){o:Obj}(e:X.base.get? b=some o):b∉X.fs:=λa=>by
 have:=(ok.funs.mem a).1;rw[e]at this;cases this
theorem Inv.bs(I:Inv X pins σ H s):∀ b o,X.base.get? b=some o->s.heap.get? b=some o/\H b=none:=λb o e=>
 ⟨I.base.keep b o (I.ok.bs b o e).1 (I.ok.bs b o e).2 (I.ok.nofr e) (I.ok.noex b o e),I.base.free b o (I.ok.bs b o e).1 (I.ok.bs b o e).2 (I.ok.noex b o e)⟩
theorem Inv.bk(I:Inv X pins σ H s):∀ b o,X.base.get? b=some o->s.heap.get? b=some o:=λb o e=>(I.bs b o e).1
theorem Inv.mod(I:Inv X pins σ H s):Mod X.K X.mg X.base:=I.ok.mod
theorem Inv.kIn(I:Inv X pins σ H s):X.K.In s.heap:=I.ok.mod.kin.keeps I.bk
theorem Inv.nolimit(I:Inv X pins σ H s):s.heap.NoLimit:=I.ok.mod.nolimit.keeps I.bk
theorem Inv.fr(I:Inv X pins σ H s):∃ m,Fr X.base X.env.locals s.heap m :=
 let⟨m,hn,_⟩:=I.loc
 ⟨m,hn,I.bk,Yt I.ok.bsz I.ok.above⟩
theorem Inv.lt(I:Inv X pins σ H s):X.env.locals < s.heap.objs.size:=let⟨_,hn,_⟩:=I.loc;hn.lt
theorem Inv.sz(I:Inv X pins σ H s):X.s₀.heap.objs.size<=s.heap.objs.size:=Yt I.ok.above (YL I.lt)
theorem Inv.nofs(I:Inv X pins σ H s)(h:s.heap.objs.size<=a):a∉X.fs:=λb=>by
 obtain⟨_,o,c,_⟩:=I.ok.funs.mem b;exact absurd (Yu (Qp c) (Yt I.sz h)) (YM _)
theorem Inv.cne(I:Inv X pins σ H s):∀ x c,X.env.cells.lookup x=some c->c≠X.env.locals:=λx c e z=>by
 obtain⟨v,o,d,hd⟩:=I.cell x c e;obtain⟨m,⟨o',es,f,b,a,_⟩,_⟩:=I.loc;rw[z,b]at d;cases d;rw[a]at hd;cases hd
theorem Inv.funs(I:Inv X pins σ H s):s.heap.FunFrames X.base X.outer:=by
 have all:∀(l:List Env),(∀ b∈frs l,b∈X.fs)->X.s₀.heap.FunFrames X.base l->s.heap.FunFrames X.base l:=by
  intro l;induction l with
  | nil=>intro _ _;trivial
  | cons env r k =>
   intro f hl;obtain⟨j,⟨L,o,c,h,i,hd⟩,g⟩:=hl;have d:L∈X.fs:=f L (by unfold frs;rw[List.filterMap_cons,c];exact Ye);obtain⟨m,e⟩:=I.base.slot L o i (I.ok.frf L d) d λz=>I.ok.exfs L z d;exact⟨j,⟨L,_,c,h,e,hd⟩,k (λb a=>f b (by unfold frs;rw[List.filterMap_cons,c];exact Yd _ a)) g⟩
 exact all X.outer (λ_ a=>a) I.ok.funs
theorem Inv.stack(I:Inv X pins σ H s):s.heap.FunFrames X.base X.stack:=by
 rcases I.ok.stk with e |⟨e,a⟩
 ·rw[e];exact I.funs
 ·rw[e];obtain⟨m,b,_⟩:=I.loc;refine .cons (by rw[I.ok.kind];decide) a b ?_ I.funs;exact Heap.get?_none_of_le (Yt I.ok.bsz I.ok.above)
theorem Inv.stkSub(I:Inv X pins σ H s):∀ b∈frs X.stack,b∈X.env.locals::X.fs:=λb a=>by
 rcases I.ok.stk with e |⟨e,c⟩
 ·rw[e]at a;exact Yd _ a
 ·rw[e]at a;unfold frs at a;rw[List.filterMap_cons,c]at a;exact a
theorem Inv.stkFree(I:Inv X pins σ H s):∀ b∈frs X.stack,H b=none:=λb a=>by
 rcases Yo.mp (I.stkSub b a)with e | a
 ·rw[e];exact I.free
 ·obtain⟨_,o,c,_⟩:=I.ok.funs.mem a;exact I.base.free b o c (I.ok.frf b a) λz=>I.ok.exfs b z a
variable {g':Array GenState}{t':Nat}{d':Drawn}{ch:List Addr}
theorem Inv.step(I:Inv X pins σ H s)
  (g:∀ b∈ch,(b∈X.ex\/X.s₀.heap.objs.size<=b)/\b≠X.env.locals/\(∀ x c,X.env.cells.lookup x=some c->c≠b)/\∀ p∈X.pn++pins,p.1≠b)
  (keep:∀ b o,b≠X.env.locals->b∉X.fs->b∉ch->s.heap.get? b=some o->H b=none->h'.get? b=some o)
  (slot:∀ b o,b≠X.env.locals->b∈X.fs->b∉ch->s.heap.get? b=some o->H b=none->∃ F,h'.get? b=some {o with slots:=F}) (free:∀ b o,b∉ch->s.heap.get? b=some o->H b=none->H' b=none)
  (there:∀ b o,b∉ch->s.heap.get? b=some o->∃ o',h'.get? b=some o')
  (tups:∀ b xs,H b=some (.tup xs)->H' b=some (.tup xs)) (frzs:∀ b o u,H b=some (.frz o u)->H' b=some (.frz o u)) (tbls:∀ b ps,H b=some (.tbl ps)->∃ B,H' b=some (.tbl (ps++B)))
  (ns:∀ m,s.heap.Ns X.env.locals m->h'.Ns X.env.locals m) (hok:HOk X.prog X.w H' h') (R:AllBare g'):
  Inv X pins σ H' {s with heap:=h',gens:=g',drawn:=d',toks:=t'}:=by
 have E:∀ b o,X.s₀.heap.get? b=some o->b≠X.env.locals:=λb o e=>Ys (Yu (Qp e) I.ok.above)
 have j:∀ b o,X.s₀.heap.get? b=some o->b∉X.ex->b∉ch:=λb o e a y=>by
  rcases(g b y).1 with z | z
  ·exact a z
  ·exact absurd (Yu (Qp e) z) (YM _)
 have f:∀ x c,X.env.cells.lookup x=some c->∀ v,s.heap.IsCell c v->h'.IsCell c v:=by
  rintro x c e v ⟨o,A,hd⟩;have h:c∉ch:=λz=>(g c z).2.2.1 x c e rfl;by_cases hc:c∈X.fs
  ·obtain⟨F,q⟩:=slot c o (I.cne x c e) hc h A (I.freeC x c e);exact⟨_,q,hd⟩
  ·exact⟨o,keep c o (I.cne x c e) hc h A (I.freeC x c e),hd⟩
 refine⟨I.ok,I.os,R,⟨λb o e n y a=>?_,λb o e n y a=>?_,λb o e n a=>?_,λb o e a=>?_,λb xs e=>tups b xs (I.base.tups b xs e),λb o xs e=>frzs b o xs (I.base.frzs b o xs e),λb ps e=>?_⟩,?_,λx c e=>?_,?_,λx c e=>?_,λp L=>?_,hok,I.len⟩
 ·exact keep b o (E b o e) y (j b o e a) (I.base.keep b o e n y a) (I.base.free b o e n a)
 ·obtain⟨F,t⟩:=I.base.slot b o e n y a;obtain⟨G,D⟩:=slot b _ (E b o e) y (j b o e a) t (I.base.free b o e n a);exact⟨G,D⟩
 ·obtain⟨o',t⟩:=I.base.there b o e a;exact free b o' (j b o e a) t (I.base.free b o e n a)
 ·obtain⟨o',t⟩:=I.base.there b o e a;exact there b o' (j b o e a) t
 ·obtain⟨P,t⟩:=I.base.tbls b ps e;obtain⟨Q,D⟩:=tbls b _ t;exact⟨P++Q,by rw[D,Array.append_assoc]⟩
 ·obtain⟨m,O,hl⟩:=I.loc;refine⟨m,ns m O,λi x v t D N=>?_⟩;obtain⟨u,r,l⟩:=hl i x v t D N;refine⟨u,r,?_⟩;rcases l with l |⟨k,c,e,z⟩
  ·exact .inl l
  ·exact .inr ⟨k,c,e,f x c e _ z⟩
 ·obtain⟨v,z⟩:=I.cell x c e;exact⟨v,f x c e v z⟩
 ·obtain⟨m,⟨o,_,_,A,_⟩,_⟩:=I.loc;exact free _ o (λz=>(g _ z).2.1 rfl) A I.free
 ·obtain⟨v,o,A,hd⟩:=I.cell x c e;exact free c o (λz=>(g c z).2.2.1 x c e rfl) A (I.freeC x c e)
 ·obtain⟨e,n,J,K,d⟩:=I.pin p L;have h:p.1∉ch:=λz=>(g p.1 z).2.2.2 p L rfl;exact⟨keep p.1 p.2 J K h e n,free p.1 p.2 h e n,J,K,d⟩
theorem Inv.un(I:Inv X pins σ H s)(u:Un X.fs [] H H' s.heap h')(hok:HOk X.prog X.w H' h'):Inv X pins σ H' {s with heap:=h',toks:=t'}:=by
 obtain⟨m,⟨o,es,i,f,r⟩,_⟩:=id I.loc;obtain⟨j,h⟩:=u.any f I.free (by simp)
 exact I.step (g':=s.gens) (d':=s.drawn) (ch:=[]) (λ_ z=>nomatch z) (λb o _ c _ e n=>u.keep b o e n c (by simp)) (λb o _ c _ e n=>u.slot b o e n c (by simp)) (λb o _ e n=>u.free b o e n (by simp)) (λb o _ e=>u.there b o e (by simp)) u.tups u.frzs u.tbls (λk g=>by
  obtain⟨o',es',d,a,r'⟩:=g;rw[f]at a;cases a;exact⟨_,es',d,h,r'⟩) hok I.bare
theorem Inv.call(I:Inv X pins σ H s)(u:Un (frs X.stack) ch H H' s.heap h')(hok:HOk X.prog X.w H' h')(i:AllBare g')
  (d:∀ b∈ch,(b∈X.ex\/X.s₀.heap.objs.size<=b)/\b≠X.env.locals/\(∀ x c,X.env.cells.lookup x=some c->c≠b)/\∀ p∈X.pn++pins,p.1≠b):
  Inv X pins σ H' {s with heap:=h',gens:=g',drawn:=d',toks:=t'}:=by
 obtain⟨m,⟨o,es,l,h,r⟩,_⟩:=id I.loc;obtain⟨q,g⟩:=u.any h I.free λz=>(d _ z).2.1 rfl
 exact I.step (ch:=ch) d (λb o g j hc e n=>u.keep b o e n (λz=>(Yo.mp (I.stkSub b z)).elim g j) hc) (λb o _ _ hc e n=>u.any e n hc) (λb o hc e n=>u.free b o e n hc) (λb o hc e=>u.there b o e hc) u.tups u.frzs u.tbls (λt k=>by
  obtain⟨o',es',f,a,r'⟩:=k;rw[h]at a;cases a;exact⟨_,es',f,g,r'⟩) hok i
theorem Inv.turned(I:Inv X pins σ H s)(k:∀ b o,b≠a->s.heap.get? b=some o->h'.get? b=some o)(i:H a=none)(f:a≠X.env.locals)
  (h1:a∈X.ex\/X.s₀.heap.objs.size<=a) (h2:∀ x c,X.env.cells.lookup x=some c->c≠a) (t:∀ p∈X.pn++pins,p.1≠a):Inv X pins σ H {s with heap:=h',toks:=t'}:=by
 have d:∀ b u,H b=some u->b≠a:=λb u e z=>by rw[z,i]at e;cases e
 refine I.step (g':=s.gens) (d':=s.drawn) (ch:=[a]) (λb h=>?_) (λb o _ _ hc e _=>k b o (λz=>hc (by simp[z])) e) (λb o _ _ hc e _=>⟨o.slots,k b o (λz=>hc (by simp[z])) e⟩) (λ_ _ _ _ n=>n)
  (λb o hc e=>⟨o,k b o (λz=>hc (by simp[z])) e⟩) (λ_ _ e=>e) (λ_ _ _ e=>e) (λb ps e=>⟨#[],by rw[e];simp⟩) (λm j=>?_) (λb u e=>?_) I.bare
 ·have e:b=a:=by simpa using h
  subst e;exact⟨h1,f,h2,t⟩
 ·obtain⟨o,es,g,l,r⟩:=j;exact⟨o,es,g,k _ o (YZ f) l,r⟩
 ·refine(I.hok b u e).stay (λc v hc q=>k c v ?_ q) (λ_ q=>q) λ_ _ q=>q;rcases hc with z | z
  ·rw[z];exact d b u e
  ·exact d c _ z
theorem Inv.tok(I:Inv X pins σ H s)(t:Nat):Inv X pins σ H {s with toks:=t}:=I.un (h':=s.heap) (t':=t) Un.refl I.hok
theorem Inv.kept(I:Inv X pins σ H s)(k:∀ b u,s.heap.get? b=some u->h'.get? b=some u):Inv X pins σ H {s with heap:=h',toks:=t'}:=I.un (Un.kept k) (I.hok.kept k)
theorem Inv.laid(I:Inv X pins σ H s)(k:∀ b u,s.heap.get? b=some u->h'.get? b=some u)(c:s.heap.objs.size<=a)(new:ObjOk X.prog X.w (upd H a o) h' a o):
  Inv X pins σ (upd H a o) {s with heap:=h',toks:=t'}:=I.un (Un.laid k c (I.hok.fresh c)) (I.hok.laid k c new)
theorem Inv.write{x e:Addr}(I:Inv X pins σ H s)(d:Mut (H x))(c:e=x\/H e=some (.own x))(k:∀ b u,b≠e->s.heap.get? b=some u->h'.get? b=some u)(a:∃ u,h'.get? e=some u)
  (new:ObjOk X.prog X.w (upd H x o) h' x o):Inv X pins σ (upd H x o) {s with heap:=h',toks:=t'}:=I.un (Un.write d c k a) (I.hok.write d c k a new)
theorem Inv.pins_of{a:List (Addr×Obj)}(I:Inv X pins σ H s)(h:∀ p∈a,s.heap.get? p.1=some p.2/\H p.1=none/\p.1≠X.env.locals/\p.1∉X.fs/\∀ v,p.2.data≠.cell v):Inv X a σ H s :=
 ⟨I.ok,I.os,I.bare,I.base,I.loc,I.cell,I.free,I.freeC,λp b=>(Yz.mp b).elim (λz=>I.pin p (YO _ z)) (h p),I.hok,I.len⟩
variable {i:Nat}{x:Str}
theorem N5{N:List Str}(e:N.Nodup){j:Nat}(a:N[i]?=some x)(b:N[j]?=some x):i=j:=by
 obtain⟨h1,c⟩:=Qb.mp a;obtain⟨h2,d⟩:=Qb.mp b;exact(List.getElem_inj e).mp (c.trans d.symm)
variable {A:Around}{E:Value->Shared->Prop}{v:V}{u:Value}{Q:Unit->Shared->Prop}
theorem ZD{M:Model}(I:Inv X pins σ H s)(hN:X.N.Nodup)(hi:X.N[i]?=some x)(l:Loc X.env.scope x)(r:RelV v u)
  (h:∀ s',Inv X pins (σ.set i (some v)) H s'->(∃ a,Heap.SameBut a s.heap s'.heap/\(a=X.env.locals\/X.env.cells.lookup x=some a))->Q () s') (hf:X.fn x=true\/X.env.scope.names.lookup x=some .local:=by first | exact .inl rfl | exact .inr rfl | assumption):wpAny M A (storeName X.env x u) Q E s:=by
 obtain⟨m,hn,hl⟩:=id I.loc;have P:(X.env.scope.kind==.class||(X.env.scope.kind==.module&&X.env.locals != X.env.globals))=false:=by rw[I.ok.kind];rfl
 have hiσ:i < σ.length:=by rw[I.len];exact(Qb.mp hi).1
 have cne:=I.cne
 have tracked:∀{a:Addr}{h':Heap},(∃ o,s.heap.get? a=some o/\H a=none)->Heap.SameBut a s.heap h'->HOk X.prog X.w H h':=λ{a h'}ha f b ob e=>by
  obtain⟨_,_,t⟩:=ha;refine(I.hok b ob e).stay (λc U hc q=>(f.2 c ?_).trans q) (λ_ q=>q) λ_ _ q=>q;rintro rfl;rcases hc with rfl | hc
  ·rw[t]at e;cases e
  ·rw[t]at hc;cases hc
 rcases l with D | D
 ·refine wpAny_storeName_local D hn (λh' hn' f=>?_) P;obtain⟨oL,_,_,hoL,_⟩:=id hn;refine h _ ⟨I.ok,I.os,I.bare,⟨λb o e n F l=>?_,λb o e n F l=>?_,I.base.free,λb o e l=>?_,I.base.tups,I.base.frzs,I.base.tbls⟩,⟨_,hn',λj y v' g B Y=>?_⟩,λy c e=>?_,I.free,I.freeC,λp hp=>?_,tracked ⟨oL,hoL,I.free⟩ f,by simpa using I.len⟩ ⟨_,f,.inl rfl⟩
  ·exact(f.2 b (Ys (Yu (Qp e) I.ok.above))).trans (I.base.keep b o e n F l)
  ·obtain⟨Z,g⟩:=I.base.slot b o e n F l;exact⟨Z,(f.2 b (Ys (Yu (Qp e) I.ok.above))).trans g⟩
  ·obtain⟨o',g⟩:=I.base.there b o e l;exact⟨o',(f.2 b (Ys (Yu (Qp e) I.ok.above))).trans g⟩
  ·by_cases J:j=i
   ·subst J;rw[hi]at g;cases g;rw[List.getElem?_set_self hiσ]at B;cases B;exact⟨u,r,.inl ⟨D,by simp⟩⟩
   ·rw[List.getElem?_set_ne (YZ J)]at B;obtain⟨u',r',q⟩:=hl j y v' g B Y;refine⟨u',r',?_⟩;rcases q with⟨k,e⟩|⟨k,c,e,z⟩
    ·refine .inl ⟨k,?_⟩;have:y≠x:=λe=>J (N5 hN g (e▸hi));simp[this,e]
    ·exact .inr ⟨k,c,e,z.sameBut f (cne y c e)⟩
  ·obtain⟨U,z⟩:=I.cell y c e;exact⟨U,z.sameBut f (cne y c e)⟩
  ·obtain⟨e,n,S,nf,d⟩:=I.pin p hp;exact⟨(f.2 p.1 S).trans e,n,S,nf,d⟩
 ·have G:X.fn x=true:=by
   rcases hf with z | z
   ·exact z
   ·rw[z]at D;cases D
  obtain⟨c,hc⟩:=I.ok.has x (.inl D);obtain⟨U,z⟩:=I.cell x c hc;refine wpAny_storeName_cell I.ok.kind D hc z (λh' K f=>?_);obtain⟨oc,O,R⟩:=id z;refine h {s with heap:=h'} ⟨I.ok,I.os,I.bare,⟨λb o e n F l=>?_,λb o e n F l=>?_,I.base.free,λb o e l=>?_,I.base.tups,I.base.frzs,I.base.tbls⟩,⟨m,hn.sameBut f (YZ (cne x c hc)),λj y v' g B Y=>?_⟩,λy T e=>?_,I.free,I.freeC,λp hp=>?_,tracked ⟨oc,O,I.freeC x c hc⟩ f,by simpa using I.len⟩ ⟨c,f,.inr hc⟩
  ·exact(f.2 b (Ys (Yu (Qp e) (I.ok.cab x c G hc)))).trans (I.base.keep b o e n F l)
  ·obtain⟨Z,g⟩:=I.base.slot b o e n F l;exact⟨Z,(f.2 b (Ys (Yu (Qp e) (I.ok.cab x c G hc)))).trans g⟩
  ·obtain⟨o',g⟩:=I.base.there b o e l;exact⟨o',(f.2 b (Ys (Yu (Qp e) (I.ok.cab x c G hc)))).trans g⟩
  ·by_cases J:j=i
   ·subst J;rw[hi]at g;cases g;rw[List.getElem?_set_self hiσ]at B;cases B;exact⟨u,r,.inr ⟨.inl D,c,hc,K⟩⟩
   ·rw[List.getElem?_set_ne (YZ J)]at B;obtain⟨u',r',q⟩:=hl j y v' g B Y;refine⟨u',r',?_⟩;rcases q with q |⟨k,T,e,z'⟩
    ·exact .inl q
    ·refine .inr ⟨k,T,e,z'.sameBut f ?_⟩;rintro rfl;exact J (N5 hN g (I.ok.inj _ _ _ e hc▸hi))
  ·by_cases L:T=c
   ·subst L;exact⟨_,K⟩
   ·obtain⟨w2,z2⟩:=I.cell y T e;exact⟨w2,z2.sameBut f L⟩
  ·obtain⟨e,n,S,nf,d⟩:=I.pin p hp;refine⟨(f.2 p.1 ?_).trans e,n,S,nf,d⟩;intro q;rw[q,O]at e;have q':oc=p.2:=YF e;exact d U (by rw[<- q'];exact R)
theorem GX{M:Model}(I:Inv X pins σ H s)(d:X.N.Nodup)(hi:X.N[i]?=some x)(a:Loc X.env.scope x)(r:RelV v u)
  (h:∀ s',Inv X pins (σ.set i (some v)) H s'->Q () s') (c:X.fn x=true\/X.env.scope.names.lookup x=some .local:=by first | exact .inl rfl | exact .inr rfl | assumption):wpAny M A (storeName X.env x u) Q E s :=
 ZD I d hi a r (λs' b _=>h s' b) c
theorem Inv.call'{s':Shared}(I:Inv X pins σ H s)(d:s'.os=s.os)(u:Un (frs X.stack) ch H H' s.heap s'.heap)(hok:HOk X.prog X.w H' s'.heap)(f:AllBare s'.gens)
  (a:∀ b∈ch,(b∈X.ex\/X.s₀.heap.objs.size<=b)/\b≠X.env.locals/\(∀ x c,X.env.cells.lookup x=some c->c≠b)/\∀ p∈X.pn++pins,p.1≠b):Inv X pins σ H' s':=by
 obtain⟨h',g',d',t',o'⟩:=s';have e:o'=s.os:=d;subst e;exact I.call (g':=g') (t':=t') (d':=d') u hok f a
end
abbrev XK:=Value->Option Addr->Hp->Prop
abbrev St:=List (Option V)
abbrev VK:=V->Hp->Prop
abbrev TE:=St->Hp->VK->Prop
abbrev TT:=St->Hp->(Bool->Hp->Prop)->Prop
abbrev TA:=St->Hp->(List V->Hp->Prop)->Prop
structure E2 where
 nx:St->Hp->Prop
 rt:VK
 bk:St->Hp->Prop:=λ_ _=>False
 ct:St->Hp->Prop:=λ_ _=>False
abbrev TS:=E2->St->Hp->Prop
def EP(X:Cx)(pins:List (Addr×Obj))(σ:St)(Q:VK)(u:Value)(s':Shared):Prop:=∃ v H',Inv X pins σ H' s'/\RelV v u/\Q v H'
def TP(X:Cx)(pins:List (Addr×Obj))(σ:St)(Q:Bool->Hp->Prop)(b:Bool)(s':Shared):Prop:=∃ H',Inv X pins σ H' s'/\Q b H'
def AP(X:Cx)(pins:List (Addr×Obj))(σ:St)(Q:List V->Hp->Prop)(us:List Value)(s':Shared):Prop:=∃ vs H',Inv X pins σ H' s'/\Vals vs us/\Q vs H'
def SP(X:Cx)(pins:List (Addr×Obj))(D:E2)(f:Flow)(s':Shared):Prop :=
 match f with
 | .next=>∃ σ' H',Inv X pins σ' H' s'/\D.nx σ' H'
 | .brk=>∃ σ' H',Inv X pins σ' H' s'/\D.bk σ' H'
 | .cont=>∃ σ' H',Inv X pins σ' H' s'/\D.ct σ' H'
 | .ret u=>∃ v σ' H',Inv X pins σ' H' s'/\RelV v u/\D.rt v H'
def PE(X:Cx)(e:Expr)(t:TE):Prop :=
 ∀(pins:List (Addr×Obj))(s:Shared)(σ:St)(H:Hp)(Q:VK),Inv X pins σ H s->t σ H Q->wpAny (model X.prog X.w) X.A (eval e X.env) (EP X pins σ Q) X.xe s
def PT(X:Cx)(e:Expr)(t:TT):Prop :=
 ∀(pins:List (Addr×Obj))(s:Shared)(σ:St)(H:Hp)(Q:Bool->Hp->Prop),Inv X pins σ H s->t σ H Q->wpAny (model X.prog X.w) X.A (isTrue e X.env (eval e X.env)) (TP X pins σ Q) X.xe s
def PW(X:Cx)(e:Expr)(t:TT):Prop :=
 ∀(whole:Sem Value)(pins:List (Addr×Obj))(s:Shared)(σ:St)(H:Hp)(Q:Bool->Hp->Prop),Inv X pins σ H s->t σ H Q->wpAny (model X.prog X.w) X.A (isTrue e X.env whole) (TP X pins σ Q) X.xe s
variable {X:Cx}
theorem PW.pt{e:Expr}{t:TT}(h:PW X e t):PT X e t:=h _
def PA(X:Cx)(es:List Expr)(t:TA):Prop :=
 ∀(pos:Pos)(pins:List (Addr×Obj))(s:Shared)(σ:St)(H:Hp)(Q:List V->Hp->Prop),Inv X pins σ H s->t σ H Q->wpAny (model X.prog X.w) X.A (spliced (backTo pos (starEach es X.env))) (AP X pins σ Q) X.xe s
def PS(X:Cx)(st:Stmt)(t:TS):Prop :=
 ∀(pins:List (Addr×Obj))(s:Shared)(σ:St)(H:Hp)(D:E2),Inv X pins σ H s->t D σ H->wpAny (model X.prog X.w) X.A (exec st X.env) (SP X pins D) X.xe s
def PSs(X:Cx)(st:List Stmt)(t:TS):Prop :=
 ∀(pins:List (Addr×Obj))(s:Shared)(σ:St)(H:Hp)(D:E2),Inv X pins σ H s->t D σ H->wpAny (model X.prog X.w) X.A (execs st X.env) (SP X pins D) X.xe s
variable {A:Around}{E:Value->Shared->Prop}{s:Shared}
theorem thn{α:Type}{t:Sem α}{Q b:α->Shared->Prop}{M:Model}(h:wpAny M A t Q E s)(c:∀ a s,Q a s->b a s):wpAny M A t b E s:=wpAny_mono h c λ_ _ x=>x
section
variable {X:Cx}
variable {pins:List (Addr×Obj)}{σ:St}
theorem bin{a b:Expr}{ta tb:TE}(l:PE X a ta)(k:PE X b tb){R:V->V->Hp->Prop}(I:Inv X pins σ H s)(h:ta σ H λx H1=>tb σ H1 λy H2=>R x y H2)
  {α:Type} {Q:α->Shared->Prop} {f:Value->Value->Sem α}
  (n:∀ v u e x y H2,Inv X pins σ H2 e->RelV x v->RelV y u->R x y H2->wpAny (model X.prog X.w) X.A (f v u) Q X.xe e):
  wpAny (model X.prog X.w) X.A (eval a X.env) (λv c=>wpAny (model X.prog X.w) X.A (eval b X.env) (λu d=>wpAny (model X.prog X.w) X.A (f v u) Q X.xe d) X.xe c) X.xe s:=by
 refine thn (l pins s σ H _ I h) λv p i=>?_;obtain⟨x,H1,j,r1,q1⟩:=i;refine thn (k pins p σ H1 _ j q1) λu e g=>?_;obtain⟨y,H2,o,m,q2⟩:=g;exact n v u e x y H2 o r1 m q2
def N6(i:Nat):TE:=λσ H Q=>∃ v,σ[i]?=some (some v)/\Q v H
def tC(v:V):TE:=λ_ H Q=>Q v H
variable {x:Str}{pos:Pos}
theorem N7{i:Nat}(g:X.N[i]?=some x)(n:Vis X.env.scope x)(hd:(x==("__debug__":Str))=false:=by decide)(f:(x==("__classdict__":Str))=false:=by decide):PE X (.Name x pos) (N6 i):=by
 intro pins s σ H Q I h;obtain⟨v,e,h⟩:=h;obtain⟨m,j,hl⟩:=I.loc;obtain⟨u,r,l⟩:=hl i x v g e n;have b:EP X pins σ Q u s:=⟨v,H,I,r,h⟩;rcases l with⟨d,k⟩|⟨d,c,hc,a⟩
 ·exact wpAny_Name (wpAny_loadName_local I.ok.kind d j k b) hd
 ·rcases d with d | d
  ·exact wpAny_Name (wpAny_loadName_cell I.ok.kind d hc a b) hd
  ·exact wpAny_Name (wpAny_loadName_free I.ok.kind d hc a b f) hd
theorem ZE{i j pos}:PE X (.Constant (.int i) j pos) (tC (.int i)):=λ_ _ _ H _ I h=>wpAny_Constant_int ⟨.int i,H,I.tok _,⟨_,rfl⟩,h⟩
theorem ZF{b j pos}:PE X (.Constant (.bool b) j pos) (tC (.bl b)):=λ_ _ _ H _ I h=>Constant_bool ⟨.bl b,H,I,rfl,h⟩
theorem ZG{j pos}:PE X (.Constant .none j pos) (tC .non):=λ_ _ _ H _ I h=>Constant_none ⟨.non,H,I,rfl,h⟩
theorem ZH{x j pos}:PE X (.Constant (.str x) j pos) (tC (.str x)):=λ_ _ _ H _ I h=>Calls.Constant_str ⟨.str x,H,I.tok _,⟨_,rfl⟩,h⟩
def Gl(X:Cx)(x:Str):Prop:=X.env.kindOf x=some .globalImplicit
variable {u:Value}{Q:Value->Shared->Prop}
theorem FR(I:Inv X pins σ H s)(a:Gl X x)(b:X.mg x=some u)(h:Q u s)
  (hd:(x==("__debug__":Str))=false:=by decide):wpAny (model X.prog X.w) X.A (eval (.Name x pos) X.env) Q E s :=
 Calls.Name_function_global I.ok.kind a (Calls.loadGlobal_global (by rw[I.ok.glob];exact I.mod.glob.keeps I.bk) b h) hd
theorem Cc(I:Inv X pins σ H s)(a:Gl X x)(c:X.mg x=none)(d:bootBuiltins x=some u)(h:Q u s)
  (b:x≠"__name__":=by decide) (hd:(x==("__debug__":Str))=false:=by decide):wpAny (model X.prog X.w) X.A (eval (.Name x pos) X.env) Q E s:=by
 obtain⟨e,h1,h2⟩:=I.mod.blt;exact Calls.Name_function_global I.ok.kind a (Calls.loadGlobal_builtin (by rw[I.ok.glob];exact I.mod.glob.keeps I.bk) c (by rw[I.ok.blt];exact h1.keeps I.bk) ((h2 x b).trans d) h) hd
variable {v:V}
theorem N8(a:Gl X x)(b:X.mg x=some u)(r:RelV v u)(hd:(x==("__debug__":Str))=false:=by decide):PE X (.Name x pos) (tC v):=
 λ_ _ _ H _ I h=>FR I a b ⟨v,H,I,r,h⟩ hd
theorem ZI(a:Gl X x)(c:X.mg x=none)(d:bootBuiltins x=some u)(r:RelV v u)(b:x≠"__name__":=by decide)(hd:(x==("__debug__":Str))=false:=by decide):PE X (.Name x pos) (tC v):=
 λ_ _ _ H _ I h=>Cc I a c d ⟨v,H,I,r,h⟩ b hd
def t2I(ta tb:TE)(k:Int->Int->Hp->Prop):St->Hp->Prop:=λσ H=>ta σ H λx H1=>tb σ H1 λy H2=>∃ i j,x=.int i/\y=.int j/\k i j H2
def ZJ(ta tb:TE):TE:=λσ H Q=>t2I ta tb (λi j H2=>Q (.int (i - j)) H2) σ H
variable {a b:Expr} {ta tb:TE} {pos:Pos}
theorem AW(f:PE X a ta)(e:PE X b tb):PE X (.BinOp a .Sub b pos) (ZJ ta tb):=by
 intro pins s σ H Q I h;refine wpAny_BinOp (bin f e I h λv u k x y H2 g c d q=>?_);obtain⟨i,j,rfl,rfl,q⟩:=q;obtain⟨t,rfl⟩:=c;obtain⟨t',rfl⟩:=d;exact sub_int ⟨.int _,H2,g.tok _,⟨_,rfl⟩,q⟩
variable {tA tB':TT} {Av:List Expr}
def ZK(t u:TT):TT:=λσ H Q=>t σ H λc H1=>if c=true then u σ H1 Q else Q false H1
def tOr(t u:TT):TT:=λσ H Q=>t σ H λc H1=>if c=true then Q true H1 else u σ H1 Q
def ZL(t:TT):TT:=λσ H Q=>t σ H λc H1=>Q (!c) H1
theorem ZM(b:PT X a tA):PW X (.BoolOp .And [a] pos) tA:=by
 intro f pins s σ H Q I h;refine isTrue_and (thn (b pins s σ H Q I h) λc d e=>?_);cases c with
 | true=>exact isTrue_and_nil e
 | false=>exact e
theorem ZN(b:PT X a tA):PW X (.BoolOp .Or [a] pos) tA:=by
 intro f pins s σ H Q I h;refine isTrue_or (thn (b pins s σ H Q I h) λc d e=>?_);cases c with
 | false=>exact isTrue_or_nil e
 | true=>exact e
theorem ZO(i:PT X a tA)(g:PW X (.BoolOp .And (b::Av) pos) tB'):PW X (.BoolOp .And (a::b::Av) pos) (ZK tA tB'):=by
 intro f pins s σ H Q I h;refine isTrue_and (thn (i pins s σ H _ I h) λc j d=>?_);obtain⟨H1,e,q1⟩:=d;cases c with
 | true=>exact g f pins j σ H1 Q e q1
 | false=>exact⟨H1,e,q1⟩
theorem ZP(i:PT X a tA)(g:PW X (.BoolOp .Or (b::Av) pos) tB'):PW X (.BoolOp .Or (a::b::Av) pos) (tOr tA tB'):=by
 intro f pins s σ H Q I h;refine isTrue_or (thn (i pins s σ H _ I h) λc j d=>?_);obtain⟨H1,e,q1⟩:=d;cases c with
 | true=>exact⟨H1,e,q1⟩
 | false=>exact g f pins j σ H1 Q e q1
theorem ZQ(b:PT X a tA):PT X (.UnaryOp .Not a pos) (ZL tA):=by
 intro pins s σ H Q I h;exact isTrue_not (b pins s σ H (λc H1=>Q (!c) H1) I h)
def ZR(ta tb:TE):TE:=λσ H Q=>ta σ H λx H1=>∃ c,x=.bl c/\if c=true then tb σ H1 Q else Q (.bl false) H1
def ZS(ta tb:TE):TE:=λσ H Q=>ta σ H λx H1=>∃ c,x=.bl c/\if c=true then Q (.bl true) H1 else tb σ H1 Q
def ZT(ta:TE):TE:=λσ H Q=>ta σ H λx H1=>∃ c,x=.bl c/\Q (.bl (!c)) H1
theorem ZU{op}{t:TE}(h:PE X a t):PE X (.BoolOp op [a] pos) t:=λpins s σ H Q I hw=>BoolOp_one (h pins s σ H Q I hw)
theorem ZV(g:PE X a ta)(f:PE X (.BoolOp .And (b::Av) pos) tb):PE X (.BoolOp .And (a::b::Av) pos) (ZR ta tb):=by
 intro pins s σ H Q I h;refine BoolOp_and (thn (g pins s σ H _ I h) λv i d=>?_);obtain⟨x,H1,e,r1,q1⟩:=d;obtain⟨c,rfl,q1⟩:=q1;cases r1;refine wpAny_truthy_bool ?_;cases c with
 | true=>exact f pins i σ H1 Q e q1
 | false=>exact⟨.bl false,H1,e,rfl,q1⟩
theorem ZW(g:PE X a ta)(f:PE X (.BoolOp .Or (b::Av) pos) tb):PE X (.BoolOp .Or (a::b::Av) pos) (ZS ta tb):=by
 intro pins s σ H Q I h;refine BoolOp_or (thn (g pins s σ H _ I h) λv i d=>?_);obtain⟨x,H1,e,r1,q1⟩:=d;obtain⟨c,rfl,q1⟩:=q1;cases r1;refine wpAny_truthy_bool ?_;cases c with
 | false=>exact f pins i σ H1 Q e q1
 | true=>exact⟨.bl true,H1,e,rfl,q1⟩
theorem ZX(e:PE X a ta):PE X (.UnaryOp .Not a pos) (ZT ta):=by
 intro pins s σ H Q I h;refine UnaryOp_ (thn (e pins s σ H _ I h) λv f b=>?_);obtain⟨x,H1,d,r1,q1⟩:=b;obtain⟨c,rfl,q1⟩:=q1;cases r1;exact not_of (wpAny_truthy_bool ⟨.bl (!c),H1,d,rfl,q1⟩)
def tIf(t:TT)(ta tb:TE):TE:=λσ H Q=>t σ H λc H1=>if c=true then ta σ H1 Q else tb σ H1 Q
theorem ZY{c:Expr}(hc:PT X c tA)(j:PE X a ta)(i:PE X b tb):PE X (.IfExp c a b pos) (tIf tA ta tb):=by
 intro pins s σ H Q I h;refine wpAny_IfExp (thn (hc pins s σ H _ I h) λd g e=>?_);obtain⟨H1,f,q1⟩:=e;cases d with
 | true=>exact j pins g σ H1 Q f q1
 | false=>exact i pins g σ H1 Q f q1
end
def SqL(K:PySem.W.Frag)(H:Hp)(a:Addr)(xs:List V):Prop :=
 Rd H a (.lst xs)\/
  ∃(o:Obj)(its:Array Value)(n:Nat),K.lookup a=some o/\o.cls=.type "list"/\o.dict=none/\o.data=.seq its n/\its.size<=sizeLine/\Vals xs its.toList
def SqT(K:PySem.W.Frag)(H:Hp)(a:Addr)(xs:List V):Prop :=
 Rd H a (.tup xs)\/
  ∃(o:Obj)(its:Array Value)(n:Nat),K.lookup a=some o/\o.cls=.type "tuple"/\o.dict=none/\o.data=.seq its n/\its.size<=sizeLine/\Vals xs its.toList
def ZZ:Value->Option V
 | .none=>some .non
 | .bool b=>some (.bl b)
 | .int i _=>some (.int i)
 | .str x _=>some (.str x)
 | .bytes b _=>some (.byt b)
 | .float b _=>some (.flt b)
 | .ref a=>some (.ref a)
 | .type n=>some (.ty n)
 | _=>none
variable {x:V}{u:Value}
theorem RelV.abs(r:RelV x u):ZZ u=some x:=by
 cases x with
 | non=>cases r;rfl
 | bl _=>cases r;rfl
 | int _=>obtain⟨t,rfl⟩:=r;rfl
 | str _=>obtain⟨t,rfl⟩:=r;rfl
 | byt _=>obtain⟨t,rfl⟩:=r;rfl
 | flt _=>obtain⟨t,rfl⟩:=r;rfl
 | ref _=>cases r;rfl
 | ty _=>cases r;rfl
theorem RelV.inj{y:V}(r:RelV x u)(q:RelV y u):x=y:=YF (r.abs.symm.trans q.abs)
theorem Vals.inj:∀{xs ys:List V}{us:List Value},Vals xs us->Vals ys us->xs=ys
 | _,_,_,.nil,.nil=>rfl
 | _,_,_,.cons r t,.cons r' t'=>by rw[r.inj r',Vals.inj t t']
section
variable {X:Cx} {pins:List (Addr×Obj)} {σ:St} {H:Hp} {s:Shared} {a:Addr} {xs ys:List V}
variable {K:PySem.W.Frag}
theorem SqL.of(h:H a=some (.lst xs)):SqL K H a xs:=.inl (.inl h)
theorem SqT.of(h:H a=some (.tup xs)):SqT K H a xs:=.inl (.inl h)
theorem Inv.list(I:Inv X pins σ H s)(h:SqL X.K H a xs):∃ b:List Value,Vals xs b/\PlainL s.heap a b.toArray/\xs.length<=sizeLine:=by
 rcases h with h |⟨o,b,n,c,hc,hd,d,f,r⟩
 ·obtain⟨z,b,n,r,e⟩:=h.ok I.hok;exact⟨b,r,⟨_,n,e,rfl,rfl,rfl⟩,z⟩
 ·refine⟨b.toList,r,⟨o,n,I.kIn a o c,hc,hd,by simpa using d⟩,?_⟩;have e:=r.length;simp only[YW]at e;omega
theorem Inv.tupP(I:Inv X pins σ H s)(h:SqT X.K H a xs):∃ b:List Value,Vals xs b/\TupP s.heap a b.toArray/\xs.length<=sizeLine:=by
 rcases h with h |⟨o,b,n,c,hc,hd,d,f,r⟩
 ·obtain⟨z,b,r,p⟩:=h.ok I.hok;exact⟨b,r,p,z⟩
 ·refine⟨b.toList,r,⟨o,I.kIn a o c,hc,hd,n,by simpa using d⟩,?_⟩;have e:=r.length;simp only[YW]at e;omega
theorem Inv.tuple(I:Inv X pins σ H s)(h:SqT X.K H a xs):∃ b:List Value,Vals xs b/\IsTup s.heap a b.toArray/\xs.length<=sizeLine :=
 let⟨b,r,p,z⟩:=I.tupP h
 ⟨b,r,p.up,z⟩
theorem Inv.list_inj(I:Inv X pins σ H s)(h:SqL X.K H a xs)(h':SqL X.K H a ys):xs=ys:=by
 obtain⟨c,r,⟨o,n,e,_,_,d⟩,_⟩:=I.list h;obtain⟨b,r',⟨o',i,f,_,_,g⟩,_⟩:=I.list h';rw[e]at f;cases f;rw[d]at g;injection g with d1 _;have:c=b:=by simpa using congrArg Array.toList d1
 subst this;exact r.inj r'
theorem Inv.tuple_inj(I:Inv X pins σ H s)(h:SqT X.K H a xs)(h':SqT X.K H a ys):xs=ys:=by
 obtain⟨c,r,⟨o,e,_,n,d⟩,_⟩:=I.tuple h;obtain⟨b,r',⟨o',f,_,i,g⟩,_⟩:=I.tuple h';rw[e]at f;cases f;rw[d]at g;injection g with d1 _;have:c=b:=by simpa using congrArg Array.toList d1
 subst this;exact r.inj r'
end
abbrev Cx.wish(X:Cx)(E:Value->Shared->Prop):Cx:={X with xe:=E}
abbrev Cx.nox(X:Cx):Cx:=X.wish λ_ _=>False
theorem Cx.Ok.wish(ok:X.Ok)(E:Value->Shared->Prop):(X.wish E).Ok :=
 ⟨ok.mod,ok.kind,ok.glob,ok.blt,ok.above,ok.inj,ok.has,ok.cab,ok.hd,ok.frames,ok.stk,ok.exf,ok.bs,ok.bsz,ok.noex,ok.exfs,ok.funs,ok.frf⟩
theorem Cx.Ok.unwish(ok:(X.wish E).Ok):X.Ok :=
 ⟨ok.mod,ok.kind,ok.glob,ok.blt,ok.above,ok.inj,ok.has,ok.cab,ok.hd,ok.frames,ok.stk,ok.exf,ok.bs,ok.bsz,ok.noex,ok.exfs,ok.funs,ok.frf⟩
section
variable {X:Cx} {pins:List (Addr×Obj)} {σ:St} {H:Hp} {s:Shared} {E:Value->Shared->Prop}
theorem Inv.wish(I:Inv X pins σ H s)(E:Value->Shared->Prop):Inv (X.wish E) pins σ H s:=⟨I.ok.wish E,I.os,I.bare,I.base,I.loc,I.cell,I.free,I.freeC,I.pin,I.hok,I.len⟩
theorem Inv.unwish(I:Inv (X.wish E) pins σ H s):Inv X pins σ H s:=⟨I.ok.unwish,I.os,I.bare,I.base,I.loc,I.cell,I.free,I.freeC,I.pin,I.hok,I.len⟩
theorem SP.unwish{D:E2}{f:Flow}{s':Shared}(h:SP (X.wish E) pins D f s'):SP X pins D f s':=by
 cases f with
 | next=>obtain⟨σ',H',I,q⟩:=h;exact⟨σ',H',I.unwish,q⟩
 | brk=>obtain⟨σ',H',I,q⟩:=h;exact⟨σ',H',I.unwish,q⟩
 | cont=>obtain⟨σ',H',I,q⟩:=h;exact⟨σ',H',I.unwish,q⟩
 | ret u=>obtain⟨v,σ',H',I,r,q⟩:=h;exact⟨v,σ',H',I.unwish,r,q⟩
variable {e:Expr}
theorem PE.nox{t:TE}(h:PE X.nox e t):PE X e t:=λpins s σ H Q I hw=>
 wpAny_mono (h pins s σ H Q (I.wish _) hw) ((by rintro _ _ ⟨v,H',a,r,q⟩;exact⟨v,H',a.unwish,r,q⟩)) λ_ _ z=>Ql z
theorem PT.nox{t:TT}(h:PT X.nox e t):PT X e t:=λpins s σ H Q I hw=>
 wpAny_mono (h pins s σ H Q (I.wish _) hw) ((by rintro _ _ ⟨H',a,q⟩;exact⟨H',a.unwish,q⟩)) λ_ _ z=>Ql z
theorem PSs.nox{st:List Stmt}{t:TS}(h:PSs X.nox st t):PSs X st t:=λpins s σ H D I hw=>
 wpAny_mono (h pins s σ H D (I.wish _) hw) (λ_ _ q=>q.unwish) λ_ _ z=>Ql z
end
section
variable {X:Cx} {st:Stmt} {Av:List Stmt} {t u:TS} {e:Expr} {te:TE} {pos:Pos}
def Z0:TS:=λD σ H=>D.nx σ H
def Z1(t u:TS):TS:=λD σ H=>t {D with nx:=u D} σ H
theorem Z2:PSs X [] Z0:=λ_ _ σ H _ I h=>wpAny_execs_nil ⟨σ,H,I,h⟩
theorem Z3(h1:PS X st t)(h2:PSs X Av u):PSs X (st::Av) (Z1 t u):=by
 intro pins s σ H D I h;refine wpAny_execs_cons (thn (h1 pins s σ H {D with nx:=u D} I h) λf b q=>?_);cases f with
 | next =>
  obtain⟨σ',H',a,q⟩:=q;exact h2 pins b σ' H' D a q
 | ret v=>exact q
 | brk=>exact q
 | cont=>exact q
theorem Z4(h1:PS X st t):PSs X [st] t:=by
 intro pins s σ H D I h;refine wpAny_execs_cons (thn (h1 pins s σ H D I h) λf a q=>?_);cases f with
 | next=>exact wpAny_execs_nil q
 | ret v=>exact q
 | brk=>exact q
 | cont=>exact q
theorem Inv.quiet(I:Inv X pins σ H s):interactive X.env=false:=by simp[interactive,I.ok.kind]
def Z5(te:TE):TS:=λD σ H=>te σ H λ_ H1=>D.nx σ H1
theorem Z6(a:PE X e te)(c:swapsWith e none pos.line X.env=pure false:=by rfl):PS X (.Expr e pos) (Z5 te):=by
 intro pins s σ H D I h;exact wpAny_Expr_any (thn (a pins s σ H _ I h) (by rintro v d ⟨x,H1,b,r1,q1⟩;exact⟨σ,H1,b,q1⟩)) I.quiet c
def Z7(te:TE):TS:=λD σ H=>te σ H D.rt
theorem Z8(a:PE X e te):PS X (.Return (some e) pos) (Z7 te):=by
 intro pins s σ H D I h;exact wpAny_Return_some (thn (a pins s σ H _ I h) (by rintro v c ⟨x,H1,b,r1,q1⟩;exact⟨x,σ,H1,b,r1,q1⟩))
def Z9(c:TT)(t u:TS):TS:=λD σ H=>c σ H λb H1=>if b=true then t D σ H1 else u D σ H1
theorem aa{c:Expr}{a b:List Stmt}(hc:PT X c tc)(j:PSs X a t)(i:PSs X b u):PS X (.If c a b pos) (Z9 tc t u):=by
 intro pins s σ H D I h;refine wpAny_If (thn (hc pins s σ H _ I h) λd g e=>?_);obtain⟨H1,f,q1⟩:=e;cases d with
 | true=>exact j pins g σ H1 D f q1
 | false=>exact i pins g σ H1 D f q1
end
abbrev TG:=V->St->Hp->(St->Hp->Prop)->Prop
abbrev TGs:=List V->St->Hp->(St->Hp->Prop)->Prop
def PG(X:Cx)(target:Expr)(t:TG):Prop :=
 ∀(pins:List (Addr×Obj))(s:Shared)(σ:St)(H:Hp)(v:V)(u:Value)(Q:St->Hp->Prop),Inv X pins σ H s->RelV v u->t v σ H Q->
  wpAny (model X.prog X.w) X.A (assign target X.env u) (λ_ s'=>∃ σ' H',Inv X pins σ' H' s'/\Q σ' H') X.xe s
def PGs(X:Cx)(ts:List Expr)(t:TGs):Prop :=
 ∀(pins:List (Addr×Obj))(s:Shared)(σ:St)(H:Hp)(vs:List V)(us:List Value)(Q:St->Hp->Prop),Inv X pins σ H s->Vals vs us->t vs σ H Q->
  wpAny (model X.prog X.w) X.A (assignInOrder ((assignEach ts X.env).map (·.2)) us) (λ_ s'=>∃ σ' H',Inv X pins σ' H' s'/\Q σ' H') X.xe s
abbrev JY:=V->V->V->Hp->(Hp->Prop)->Prop
def JZ(X:Cx)(t:JY):Prop :=
 ∀(pins:List (Addr×Obj))(s:Shared)(σ:St)(H:Hp)(o i v:V)(ov iv u:Value)(Q:Hp->Prop),Inv X pins σ H s->RelV o ov->RelV i iv->RelV v u->t o i v H Q->
  wpAny (model X.prog X.w) X.A (setItem ov iv u) (λ_ s'=>∃ H',Inv X pins σ H' s'/\Q H') X.xe s
abbrev TIp:=V->V->Hp->VK->Prop
noncomputable def PIp(X:Cx)(op:Operator)(t:TIp):Prop :=
 ∀(pins:List (Addr×Obj))(s:Shared)(σ:St)(H:Hp)(x y:V)(v u:Value)(Q:VK),Inv X pins σ H s->RelV x v->RelV y u->t x y H Q->
  wpAny (model X.prog X.w) X.A (inplaceOp op v u) (EP X pins σ Q) X.xe s
section
variable {X:Cx} {pos:Pos}
def B6(i:Nat):TG:=λv σ H Q=>Q (σ.set i (some v)) H
variable {i:Nat}
theorem B7{x:Str}(d:X.N.Nodup)(hi:X.N[i]?=some x)(a:Loc X.env.scope x)(c:X.fn x=true\/X.env.scope.names.lookup x=some .local:=by first | exact .inl rfl | exact .inr rfl | assumption):PG X (.Name x pos) (B6 i):=by
 intro pins s σ H v u Q I r h;exact wpAny_assign_Name (GX I d hi a r (λs' b=>⟨_,H,b,h⟩) c)
def Ch:TGs:=λvs σ H Q=>vs=[]/\Q σ H
def BT(t:TG)(u:TGs):TGs:=λvs σ H Q=>∃ v r,vs=v::r/\t v σ H λσ' H'=>u r σ' H' Q
theorem FT:PGs X [] Ch:=by
 intro pins s σ H a b Q I r h;obtain⟨e,h⟩:=h;subst e;cases r;exact assignInOrder_nil ⟨σ,H,I,h⟩
variable {e:Expr}{es:List Expr}
theorem CG{t:TG}{u:TGs}(h1:PG X e t)(h2:PGs X es u)
  (d:(assignEach (e::es) X.env).map (·.2)=assign e X.env::(assignEach es X.env).map (·.2):=by rfl):PGs X (e::es) (BT t u):=by
 intro pins s σ H k i Q I r h;obtain⟨v,j,b,h⟩:=h;subst b;cases r with
 | cons r f =>
  rw[d];refine assignInOrder_cons (thn (h1 pins s σ H _ _ _ I r h) λ_ g a=>?_);obtain⟨σ1,H1,c,q1⟩:=a;exact h2 pins g σ1 H1 _ _ Q c f q1
def Cl(K:PySem.W.Frag)(n:Nat)(t:TGs):TG:=λv σ H Q=>∃ a xs,v=.ref a/\SqT K H a xs/\xs.length=n/\t xs σ H Q
theorem FU{k:Nat}{t:TGs}{n:Nat}(hc:X.calm=true)(h:PGs X es t)
  (p:(assignEach es X.env).length=n:=by rfl) (c:(assignEach es X.env).findIdx? (·.1)=none:=by rfl):PG X (.Tuple es k pos) (Cl X.K n t):=by
 intro pins s σ H v u Q I r hw;obtain⟨a,xs,f,i,hl,hw⟩:=hw;subst f;cases r;obtain⟨j,d,m,q⟩:=I.tuple i;refine assign_Tuple_tuple (I.ok.hd hc) m (by simp[p,<- hl,d.length]) c λh' l=>?_;have g:Inv X pins σ H {s with heap:=h'}:=I.kept (t':=s.toks) λb o e=>l b o (Ys (Qp e)) e;exact h pins _ σ H xs _ Q g (by simpa using d) hw
def ac(to ti:TE)(t:JY):TG:=λv σ H Q=>to σ H λo H1=>ti σ H1 λi H2=>t o i v H2 λH3=>Q σ H3
theorem N9{o i:Expr}{to f:TE}{t:JY}(m:PE X o to)(hi:PE X i f)(k:JZ X t)
  (l:∀ v,assign (.Subscript o i pos) X.env v=(do
   let a <- holding [v] (eval o X.env)
   let e <- holding [v,a] (eval i X.env)
   standAt pos
   holding [v,a,e] (setItem a e v)
   release [v,a,e] []):=by intro _;rfl):PG X (.Subscript o i pos) (ac to f t):=by
 intro pins s σ H v u Q I r h;rw[l];refine Qm (wpAny_holding (thn (m pins s σ H _ I h) λa z d=>?_));obtain⟨x,H1,g,r1,q1⟩:=d;refine Qm (wpAny_holding (thn (hi pins z σ H1 _ g q1) λe j c=>?_));obtain⟨y,H2,q,n,q2⟩:=c;refine Qm (wpAny_standAt (Qm (wpAny_holding (thn (k pins j σ H2 x y v a e u _ q r1 n r q2) λ_ A b=>?_))));obtain⟨w,p,q3⟩:=b;exact wpAny_release ⟨σ,w,p,q3⟩
def J0(te:TE)(g:TG):TS:=λD σ H=>te σ H λx H1=>g x σ H1 D.nx
variable {te:TE}
theorem J1{g:TG}(c:PE X e te)(d:PG X tg g)(f:swapsWithSole [tg] e pos.line X.env=pure false:=by rfl)(hw:swappedStores [tg] e X.env=pure none:=by rfl)
  (h1:(assignEach [tg] X.env).map (·.2)=[assign tg X.env]:=by rfl):PS X (.Assign [tg] e pos) (J0 te g):=by
 intro pins s σ H D I h;refine wpAny_Assign_stores (thn (c pins s σ H _ I h) λv i a=>?_) f hw;obtain⟨x,H1,b,r1,q1⟩:=a;rw[h1];exact thn (d pins i σ H1 x v _ b r1 q1) λ_ j q=>q
variable {pos':Pos}
theorem ae{x:Str}(d:X.N.Nodup)(hi:X.N[i]?=some x)(g:Loc X.env.scope x)(c:PE X e te)(f:swapsWith e (some (.Name x pos')) pos.line X.env=pure false:=by rfl)(j:X.fn x=true\/X.env.scope.names.lookup x=some .local:=by first | exact .inl rfl | exact .inr rfl | assumption):
  PS X (.Assign [.Name x pos'] e pos) (J0 te (B6 i)):=by
 intro pins s σ H D I h;refine wpAny_Assign_Name (thn (c pins s σ H _ I h) λv m a=>?_) f;obtain⟨y,H1,b,r1,q1⟩:=a;exact GX b d hi g r1 (λl k=>⟨_,H1,k,q1⟩) j
def af(i:Nat)(te:TE)(ti:TIp):TS:=λD σ H=>∃ x,σ[i]?=some (some x)/\te σ H λy H1=>ti x y H1 λz H2=>D.nx (σ.set i (some z)) H2
theorem ag{x:Str}{op:Operator}{p:TIp}(q:X.N.Nodup)(hi:X.N[i]?=some x)(n:Loc X.env.scope x)(K:PE X e te)(E:PIp X op p)(Q:X.fn x=true\/X.env.scope.names.lookup x=some .local:=by first | exact .inl rfl | exact .inr rfl | assumption):
  PS X (.AugAssign (.Name x pos') op e pos) (af i te p):=by
 intro pins s σ H D I h;obtain⟨v,B,h⟩:=h;obtain⟨m,t,hl⟩:=I.loc;have o:Vis X.env.scope x:=by rcases n with k | k;exact .inl k;exact .inr (.inl k)
 obtain⟨u,r,l⟩:=hl i x v hi B o;refine wpAny_AugAssign_Name ?_
 have go:wpAny (model X.prog X.w) X.A (eval e X.env) (λw f=>wpAny (model X.prog X.w) X.A (inplaceOp op u w) (λr j=>wpAny (model X.prog X.w) X.A (storeName X.env x r) (λ_=>SP X pins D .next) X.xe j) X.xe f) X.xe s:=by
  refine thn (K pins s σ H _ I h) λw J d=>?_;obtain⟨y,H1,L,r1,q1⟩:=d;refine thn (E pins J σ H1 v y u w _ L r r1 q1) λz R g=>?_;obtain⟨T,H2,P,F,q2⟩:=g;exact GX P q hi n F (λS G=>⟨_,H2,G,q2⟩) Q
 rcases l with⟨a,O⟩|⟨a,c,hc,b⟩
 ·exact wpAny_loadName_local I.ok.kind a t O go
 ·rcases a with a | a
  ·exact wpAny_loadName_cell I.ok.kind a hc b go
  ·rcases n with k | k
   ·have:X.env.scope.names.lookup x=some .free:=a;rw[k]at this;cases this
   ·have:X.env.scope.names.lookup x=some .free:=a;rw[k]at this;cases this
end
section
variable {X:Cx} {pos:Pos}
def ah(c:TT)(tb:TS):TS:=λD σ H=>∃ W:Nat->St->Hp->Prop,(∃ m,W m σ H)/\∀ m σ H,W m σ H->
 c σ H λb H1=>if b=true then ∃ N:St->Hp->Prop,(∀ σ' H',N σ' H'->∃ m',m' < m/\W m' σ' H')/\tb {D with nx:=N,ct:=N,bk:=D.nx} σ H1 else D.nx σ H1
theorem ai{c:Expr}{tb:TS}(p:PassesOwn (model X.prog X.w) X.A X.env X.xe)(hc:PT X c tc)(q:PSs X body tb):PS X (.While c body [] pos) (ah tc tb):=by
 intro pins s σ H D I h;obtain⟨W,⟨t,r⟩,e⟩:=h;refine wpAny_While (codeAny_whileLoop (λn s'=>∃ σ' H',Inv X pins σ' H' s'/\W n σ' H') ?_ t ⟨σ,H,I,r⟩);rintro n x ⟨σ1,H1,y,z⟩;refine wpAny_passesOwn p (thn (hc pins x σ1 H1 _ y (e n σ1 H1 z)) λb u a=>?_);obtain⟨H2,o,q2⟩:=a;cases b with
 | true =>
  obtain⟨N,m,q2⟩:=q2;rw[if_pos rfl];refine wpAny_passesOwn p (thn (q pins u σ1 H2 _ o q2) λf B q3=>?_);cases f with
  | next =>
   obtain⟨σ3,d,i,l⟩:=q3;obtain⟨j,k,g⟩:=m σ3 d l;exact⟨j,k,σ3,d,i,g⟩
  | cont =>
   obtain⟨σ3,d,i,l⟩:=q3;obtain⟨j,k,g⟩:=m σ3 d l;exact⟨j,k,σ3,d,i,g⟩
  | brk=>exact q3
  | ret v=>exact q3
 | false =>
  rw[if_neg YX];exact wpAny_execs_nil ⟨σ1,H2,o,q2⟩
end
structure It where
 go:Nat->Hp->Prop
 yld:Nat->Hp->V->Hp->Prop
 stop:Nat->Hp->Prop
def CV(X:Cx)(pins:List (Addr×Obj))(H:Hp)(b:Addr):Prop :=
 H b=none/\b≠X.env.locals/\b∉X.fs/\(b∈X.ex\/X.s₀.heap.objs.size<=b)/\(∀ x c,X.env.cells.lookup x=some c->c≠b)/\∀ p∈X.pn++pins,p.1≠b
theorem Inv.fpOk{H':Hp}(I:Inv X pins σ H s)(a:s.heap.objs.size<=b)(d:H' b=none):CV X pins H' b:=by
 refine⟨d,Nat.ne_of_gt (Yu I.lt a),I.nofs a,.inr (Yt I.sz a),λx c e z=>?_,λp f z=>?_⟩
 ·obtain⟨v,q⟩:=I.cell x c e;exact absurd (Yu q.lt (by rw[z];exact a)) (YM _)
 ·exact absurd (Yu (Qp (I.pin p f).1) (by rw[z];exact a)) (YM _)
structure DM(P:Program)(w:World)(K:PySem.W.Frag)(tg:Expr)(J:It)(fp:List Addr)(it:Addr)(tn:Nat->Heap->Prop):Prop where
 mem:it∈fp
 obj:∀ i h,tn i h->∀ b∈fp,∃ o,h.get? b=some o/\∀ v,o.data≠.cell v
 keep:∀ i h h',tn i h->(∀ b∈fp,∀ o,h.get? b=some o->h'.get? b=some o)->tn i h'
 item:∀(X:Cx),X.prog=P->X.w=w->X.K=K->X.calm=true->∀(i:Nat)(pins:List (Addr×Obj))(s:Shared)(σ:St)(H:Hp)(E:Value->Shared->Prop),Inv X pins σ H s->(∀ b∈fp,CV X pins H b)->tn i s.heap->J.go i H->
  wpAny (model P w) X.A (pyNext (.ref it)) (λr s1=>∃ u,r=some u/\
   wpAny (model P w) X.A (letOwnedTupleGo tg (.ref it) u) (λ_ s2=>∃ x H',Inv X pins σ H' s2/\RelV x u/\J.yld i H x H'/\tn (i+1) s2.heap/\∀ b∈fp,H' b=none) E s1) E s
 done:∀(X:Cx),X.prog=P->X.w=w->X.K=K->X.calm=true->∀(i:Nat)(pins:List (Addr×Obj))(s:Shared)(σ:St)(H:Hp)(E:Value->Shared->Prop),Inv X pins σ H s->(∀ b∈fp,CV X pins H b)->tn i s.heap->J.stop i H->
  wpAny (model P w) X.A (pyNext (.ref it)) (λr s1=>r=none/\Inv X pins σ H s1) E s
 self:∀(A:Around)(i:Nat)(s:Shared)(Q:Value->Shared->Prop)(E:Value->Shared->Prop),tn i s.heap->Q (.ref it) s->wpAny (model P w) A (pyIter (.ref it)) Q E s
abbrev TI:=St->Hp->(It->Hp->Prop)->Prop
def PIE(X:Cx)(pins:List (Addr×Obj))(σ:St)(tg:Expr)(R:It->Hp->Prop)(itv:Value)(s2:Shared):Prop :=
 ∃(it:Addr)(fp:List Addr)(tn:Nat->Heap->Prop)(J:It)(H':Hp),itv=.ref it/\Inv X pins σ H' s2/\DM X.prog X.w X.K tg J fp it tn/\tn 0 s2.heap/\(∀ b∈fp,CV X pins H' b)/\R J H'
def PI(X:Cx)(tg iter:Expr)(wi:TI):Prop :=
 ∀(pins:List (Addr×Obj))(s:Shared)(σ:St)(H:Hp)(R:It->Hp->Prop),Inv X pins σ H s->wi σ H R->
  wpAny (model X.prog X.w) X.A (eval iter X.env) (λv s1=>wpAny (model X.prog X.w) X.A (pyIter v) (PIE X pins σ tg R) X.xe s1) X.xe s
variable {tg:Expr}
theorem Oa{M:Model}{o:Obj}{n:String}{vs:Array Value}{Q:Unit->Shared->Prop}(c:s.heap.get? b=some o)(hc:o.cls=.type n)(hd:o.data=.fields vs)
  (d:["enumerate","zip","dict_itemiterator","dict_reverseitemiterator","odict_iterator","itertools.zip_longest","itertools.pairwise"].contains n=false) (a:Q () s):wpAny M A (letOwnedTupleGo tg (.ref b) u) Q E s:=by
 unfold letOwnedTupleGo
 cases tg <;> first
  | exact Qn a
  |(cases u <;> first
    | exact Qn a
    |(refine Qm (wpAny_load c ?_)
      rw[hc,hd]
      show wpAny M A (if(["enumerate","zip","dict_itemiterator","dict_reverseitemiterator","odict_iterator","itertools.zip_longest","itertools.pairwise"].contains n&&vs[0]?==some (rawInt _))=true then _ else _) Q E s
      rw[if_neg (by intro h;rw[d,Bool.false_and]at h;cases h)]
      exact Qn a))
def Itl(K:PySem.W.Frag)(a:Addr):It :=
 ⟨λi H=>∃ xs x,SqL K H a xs/\xs[i]?=some x,λi H x H'=>H'=H/\∀ xs,SqL K H a xs->xs[i]?=some x,λi H=>∃ xs,SqL K H a xs/\xs.length<=i⟩
def Itt(K:PySem.W.Frag)(a:Addr):It :=
 ⟨λi H=>∃ xs x,SqT K H a xs/\xs[i]?=some x,λi H x H'=>H'=H/\∀ xs,SqT K H a xs->xs[i]?=some x,λi H=>∃ xs,SqT K H a xs/\xs.length<=i⟩
def Itr(lo:Int)(n:Nat):It:=⟨λi _=>i < n,λi H x H'=>H'=H/\x=.int (lo+i),λi _=>n<=i⟩
variable {K:PySem.W.Frag}
theorem Ob(a g:Addr):DM P w K tg (Itl K a) [g] g (λi h=>h.IsListIter g a i) where
 mem:=by simp
 obj:=λi h st b f=>by
  have e:b=g:=by simpa using f
  subst e;obtain⟨o,e,c,d⟩:=st;exact⟨o,e,λv z=>by rw[d]at z;cases z⟩
 keep:=λi h h' st k=>st.at λo e=>k g (by simp) o e
 item:=by
  intro X D hw q hc i pins s σ H E I m st F;subst D hw q;obtain⟨xs,x,l,t⟩:=F;obtain⟨r,y,p,R⟩:=I.list l;obtain⟨u,L,N⟩:=y.get t;obtain⟨A,n,T,J,G,B⟩:=m g (by simp);refine wpAny_pyNext_list_item st p.isList (x:=u) (by simpa using L) λh' j Q=>?_;have O:Inv X pins σ H {s with heap:=h'}:=I.turned (t':=s.toks) (λb o f e=>(Q.2 b f).trans e) A n J G B;obtain⟨o,e,c,d⟩:=id j;exact⟨u,rfl,Oa (s:={s with heap:=h'}) e c d (by decide) ⟨x,H,O,N,⟨rfl,λys S=>by rw[I.list_inj S l];exact t⟩,j,λb f=>(m b f).1⟩⟩
 done:=by
  intro X D hw q hc i pins s σ H E I m st F;subst D hw q;obtain⟨xs,l,t⟩:=F;obtain⟨r,y,p,R⟩:=I.list l;obtain⟨A,n,T,J,G,B⟩:=m g (by simp);have hl:=y.length;exact wpAny_pyNext_list_end (I.ok.hd hc) st p.isList (by simp;omega) λh' eb=>⟨rfl,I.turned (t':=s.toks) (λb o f e=>eb b o f e) A n J G B⟩
 self:=λ_ _ _ _ _ st h=>wpAny_pyIter_listiter st h
theorem Oc(a j:Addr):DM P w K tg (Itt K a) [j] j (λi h=>h.IsTupleIter j a i) where
 mem:=by simp
 obj:=λi h st b f=>by
  have e:b=j:=by simpa using f
  subst e;obtain⟨o,e,c,d⟩:=st;exact⟨o,e,λv z=>by rw[d]at z;cases z⟩
 keep:=λi h h' st k=>st.at λo e=>k j (by simp) o e
 item:=by
  intro X D hw r hc i pins s σ H E I n st F;subst D hw r;obtain⟨xs,x,m,t⟩:=F;obtain⟨g,y,p,R⟩:=I.tuple m;obtain⟨u,L,N⟩:=y.get t;obtain⟨A,q,T,J,G,B⟩:=n j (by simp);refine wpAny_pyNext_tuple_item st (show s.heap.IsTuple a g.toArray from p) (x:=u) (by simpa using L) λh' l Q=>?_;have O:Inv X pins σ H {s with heap:=h'}:=I.turned (t':=s.toks) (λb o f e=>(Q.2 b f).trans e) A q J G B;obtain⟨o,e,c,d⟩:=id l;exact⟨u,rfl,Oa (s:={s with heap:=h'}) e c d (by decide) ⟨x,H,O,N,⟨rfl,λys S=>by rw[I.tuple_inj S m];exact t⟩,l,λb f=>(n b f).1⟩⟩
 done:=by
  intro X D hw r hc i pins s σ H E I n st F;subst D hw r;obtain⟨xs,m,t⟩:=F;obtain⟨g,y,p,R⟩:=I.tuple m;obtain⟨A,q,T,J,G,B⟩:=n j (by simp);have hl:=y.length;exact wpAny_pyNext_tuple_end (I.ok.hd hc) st (show s.heap.IsTuple a g.toArray from p) (by simp;omega) λh' eb=>⟨rfl,I.turned (t':=s.toks) (λb o f e=>eb b o f e) A q J G B⟩
 self:=λ_ _ _ _ _ st h=>wpAny_pyIter_tupleiter st h
section
variable {X:Cx} {tg:Expr}
def aj(wi:TI)(g:TG)(tb:TS):TS:=λD σ H=>wi σ H λJ H1=>∃ W:Nat->Nat->St->Hp->Prop,(∃ m,W 0 m σ H1)/\∀ i m σ H,W i m σ H->
 (J.stop i H/\D.nx σ H)\/(J.go i H/\∃ N:St->Hp->Prop,(∀ σ' H',N σ' H'->∃ m',m' < m/\W (i+1) m' σ' H')/\∀ x H',J.yld i H x H'->g x σ H' λσ2 H2=>tb {D with nx:=N,ct:=N,bk:=D.nx} σ2 H2)
def E3(fp:List Addr)(h:Heap):List (Addr×Obj):=fp.filterMap λb=>(h.get? b).map λo=>(b,o)
variable {fp:List Addr}
theorem FV{o:Obj}(a:b∈fp)(e:h.get? b=some o):(b,o)∈E3 fp h:=List.mem_filterMap.mpr ⟨b,a,by rw[e];rfl⟩
theorem ak{p:Addr×Obj}(d:p∈E3 fp h):p.1∈fp/\h.get? p.1=some p.2:=by
 obtain⟨b,c,e⟩:=List.mem_filterMap.mp d;cases q:h.get? b with
 | none=>rw[q]at e;cases e
 | some o =>
  rw[q]at e;have a:(b,o)=p:=YF e;subst a;exact⟨c,q⟩
variable {pins:List (Addr×Obj)}{σ:St}
theorem Inv.pinned(I:Inv X pins σ H s)(i:∀ b∈fp,CV X pins H b)(j:∀ b∈fp,∃ o,s.heap.get? b=some o/\∀ v,o.data≠.cell v):Inv X (pins++E3 fp s.heap) σ H s :=
 I.pins_of λp g=>(Yz.mp g).elim (λz=>I.pin p (YQ _ z)) λz=>by
  obtain⟨c,e⟩:=ak z;obtain⟨f,h,k,_⟩:=i p.1 c;obtain⟨o,a,d⟩:=j p.1 c;rw[e]at a;cases a;exact⟨e,f,h,k,d⟩
theorem Inv.unpinned(I:Inv X (pins++pl) σ H s):Inv X pins σ H s:=I.pins_of λp a=>I.pin p (YQ _ (YO _ a))
theorem al{g:TG}{tb:TS}(G:PassesOwn (model X.prog X.w) X.A X.env X.xe)(hc:X.calm=true)(hi:PI X tg iter Z)(hg:PG X tg g)(a:PSs X body tb)
  (hs:∀ x,foldedSetIterable iter X.env x=pure x:=by intro _;rfl):PS X (.For tg iter body [] pos) (aj Z g tb):=by
 intro pins s σ H D I h;refine wpAny_For (thn (hi pins s σ H _ I h) λv s1 h1=>thn h1 λitv s2 h2=>?_) hs;obtain⟨it,O,tn,J,H2,e,I2,T,Y,f2,W,⟨m0,w0⟩,K⟩:=h2;subst e;have k:∀{H':Hp},(∀ b∈O,H' b=none)->∀ b∈O,CV X pins H' b:=λhn b a=>⟨hn b a,(f2 b a).2⟩;refine codeAny_forLoop_any (λn s'=>∃ i σ' H',Inv X pins σ' H' s'/\tn i s'.heap/\(∀ b∈O,H' b=none)/\W i n σ' H') ?_ m0 ⟨0,σ,H2,I2,Y,λb a=>(f2 b a).1,w0⟩;rintro n s3 ⟨i,σ3,P,I3,z,E,w3⟩;rcases K i n σ3 P w3 with⟨stop,qn⟩|⟨go,N,hN,step⟩
 ·refine wpAny_passesOwn G (thn (T.done X rfl rfl rfl hc i pins s3 σ3 P X.xe I3 (k E) z stop) λr s4 B=>?_);obtain⟨U,I4⟩:=B;subst U;exact wpAny_execs_nil ⟨σ3,P,I4,qn⟩
 ·refine wpAny_passesOwn G (thn (T.item X rfl rfl rfl hc i pins s3 σ3 P X.xe I3 (k E) z go) λr s4 y=>?_);obtain⟨u,U,h4⟩:=y;subst U;refine wpAny_passesOwn G (thn h4 λ_ s5 F=>?_);obtain⟨x,H5,I5,r5,y5,q,R⟩:=F;have S:=I5.pinned (k R) (T.obj _ _ q);refine wpAny_passesOwn G (thn (hg _ s5 σ3 H5 x u _ S r5 (step x H5 y5)) λ_ s6 t=>?_);obtain⟨σ6,H6,I6,q6⟩:=t;refine wpAny_passesOwn G (thn (a _ s6 σ6 H6 _ I6 q6) λf Q p=>?_)
  have l:∀{σ7:St}{c:Hp},Inv X (pins++E3 O s5.heap) σ7 c Q->N σ7 c->∃ m,m < n/\∃ i σ' H',Inv X pins σ' H' Q/\tn i Q.heap/\(∀ b∈O,H' b=none)/\W i m σ' H':=λ{σ7 c}j L=>by
   obtain⟨m',hm,w7⟩:=hN σ7 c L;refine⟨m',hm,i+1,σ7,c,j.unpinned,T.keep _ _ _ q λb a o e=>(j.pin (b,o) (YQ _ (YQ _ (FV a e)))).1,λb a=>?_,w7⟩;obtain⟨o,e,d⟩:=T.obj _ _ q b a;exact(j.pin (b,o) (YQ _ (YQ _ (FV a e)))).2.1
  cases f with
  | next=>obtain⟨σ7,c,j,L⟩:=p;exact l j L
  | cont=>obtain⟨σ7,c,j,L⟩:=p;exact l j L
  | brk=>obtain⟨σ7,c,j,p⟩:=p;exact⟨σ7,c,j.unpinned,p⟩
  | ret v=>obtain⟨x7,σ7,c,j,r7,p⟩:=p;exact⟨x7,σ7,c,j.unpinned,r7,p⟩
end
abbrev R2:=V->V->Hp->VK->Prop
def OpR(X:Cx)(f:Value->Value->Sem Value)(r:R2):Prop :=
 ∀(pins:List (Addr×Obj))(s:Shared)(σ:St)(H:Hp)(x y:V)(v u:Value)(Q:VK),Inv X pins σ H s->RelV x v->RelV y u->r x y H Q->
  wpAny (model X.prog X.w) X.A (f v u) (EP X pins σ Q) X.xe s
def UnR(X:Cx)(f:Value->Sem Value)(r:V->Hp->VK->Prop):Prop :=
 ∀(pins:List (Addr×Obj))(s:Shared)(σ:St)(H:Hp)(x:V)(v:Value)(Q:VK),Inv X pins σ H s->RelV x v->r x H Q->
  wpAny (model X.prog X.w) X.A (f v) (EP X pins σ Q) X.xe s
def CallR(X:Cx)(f:Value)(r:List V->Hp->VK->Prop):Prop :=
 ∀(pins:List (Addr×Obj))(s:Shared)(σ:St)(H:Hp)(xs:List V)(us:List Value)(Q:VK),Inv X pins σ H s->Vals xs us->r xs H Q->
  wpAny (model X.prog X.w) X.A (call f us) (EP X pins σ Q) X.xe s
def am(X:Cx)(r:V->Hp->(Bool->Hp->Prop)->Prop):Prop :=
 ∀(pins:List (Addr×Obj))(s:Shared)(σ:St)(H:Hp)(x:V)(v:Value)(Q:Bool->Hp->Prop),Inv X pins σ H s->RelV x v->r x H Q->
  wpAny (model X.prog X.w) X.A (truthy v) (TP X pins σ Q) X.xe s
def tOp(r:R2)(ta tb:TE):TE:=λσ H Q=>ta σ H λx H1=>tb σ H1 λy H2=>r x y H2 Q
def tUn(r:V->Hp->VK->Prop)(ta:TE):TE:=λσ H Q=>ta σ H λx H1=>r x H1 Q
def rI(C:Int->Int->Prop)(g:Int->Int->V):R2:=λx y H Q=>∃ i j,x=.int i/\y=.int j/\C i j/\Q (g i j) H
def rI0(g:Int->Int->V):R2:=λx y H Q=>∃ i j,x=.int i/\y=.int j/\Q (g i j) H
def rU(g:Int->V):V->Hp->VK->Prop:=λx H Q=>∃ i,x=.int i/\Q (g i) H
section
variable {X:Cx} {a b c:Expr} {ta tb tc:TE} {pos:Pos}
variable {f:Value->Value->Sem Value}
theorem GY(l:PE X a ta)(k:PE X b tb){R:V->V->Hp->Prop}(I:Inv X pins σ H s)
  (h:ta σ H λx H1=>tb σ H1 λy H2=>R x y H2) {Q:Value->Shared->Prop} 
  (n:∀ v u i x y H2,Inv X pins σ H2 i->RelV x v->RelV y u->R x y H2->wpAny (model X.prog X.w) X.A (f v u) Q X.xe i):
  wpAny (model X.prog X.w) X.A (eval a X.env) (λv d=>wpAny (model X.prog X.w) X.A (eval b X.env) (λu g=>wpAny (model X.prog X.w) X.A (f v u) Q X.xe g) X.xe d) X.xe s:=by
 refine thn (l pins s σ H _ I h) λv p c=>?_;obtain⟨x,H1,j,r1,q1⟩:=c;refine thn (k pins p σ H1 _ j q1) λu i e=>?_;obtain⟨y,H2,o,m,q2⟩:=e;exact n v u i x y H2 o r1 m q2
theorem ao{op:Operator}{r:R2}(i:OpR X (binaryOp op) r)(g:PE X a ta)(f:PE X b tb):PE X (.BinOp a op b pos) (tOp r ta tb):=by
 intro pins s σ H Q I h;exact wpAny_BinOp (GY g f I h λv u e x y H2 j c d q=>i pins e σ H2 x y v u Q j c d q)
theorem ap{op:UnaryOp}{r:V->Hp->VK->Prop}(e:UnR X (unaryOp op) r)(b:PE X a ta):PE X (.UnaryOp op a pos) (tUn r ta):=by
 intro pins s σ H Q I h;exact UnaryOp_ (thn (b pins s σ H _ I h) (by rintro v d ⟨x,H1,c,r1,q1⟩;exact e pins d σ H1 x v Q c r1 q1))
variable {g:Int->Int->Int}
theorem opI{C:Int->Int->Prop}
  (a:∀(i j:Int)(t u:Tok)(s:Shared)(Q:Value->Shared->Prop)(E:Value->Shared->Prop),C i j->Q (.int (g i j) s.toks) {s with toks:=s.toks+1}->wpAny (model X.prog X.w) X.A (f (.int i t) (.int j u)) Q E s):
  OpR X f (rI C λi j=>.int (g i j)):=by
 intro pins s σ H x y v u Q I b c h;obtain⟨i,j,rfl,rfl,hc,q⟩:=h;obtain⟨t,rfl⟩:=b;obtain⟨t',rfl⟩:=c;exact a i j t t' s _ _ hc ⟨.int (g i j),H,I.tok _,⟨_,rfl⟩,q⟩
theorem Od
  (a:∀(i j:Int)(t u:Tok)(s:Shared)(Q:Value->Shared->Prop)(E:Value->Shared->Prop),Q (.int (g i j) s.toks) {s with toks:=s.toks+1}->wpAny (model X.prog X.w) X.A (f (.int i t) (.int j u)) Q E s):
  OpR X f (rI0 λi j=>.int (g i j)):=by
 intro pins s σ H x y v u Q I b c h;obtain⟨i,j,rfl,rfl,q⟩:=h;obtain⟨t,rfl⟩:=b;obtain⟨t',rfl⟩:=c;exact a i j t t' s _ _ ⟨.int (g i j),H,I.tok _,⟨_,rfl⟩,q⟩
theorem GZ{g:Int->Int->Bool}
  (a:∀(i j:Int)(t u:Tok)(s:Shared)(Q:Value->Shared->Prop)(E:Value->Shared->Prop),Q (.bool (g i j)) s->wpAny (model X.prog X.w) X.A (f (.int i t) (.int j u)) Q E s):
  OpR X f (rI0 λi j=>.bl (g i j)):=by
 intro pins s σ H x y v u Q I b c h;obtain⟨i,j,rfl,rfl,q⟩:=h;obtain⟨t,rfl⟩:=b;obtain⟨t',rfl⟩:=c;exact a i j t t' s _ _ ⟨.bl (g i j),H,I,rfl,q⟩
theorem aq{x y:Int}(a:0 < y)(h:y < 1267650600228229401496703205376):Builtin.divisionGoesByPylong x y=false:=by
 refine PyProof.noPylong_of_log2 ?_;have h1:y.natAbs≠0:=by omega
 have h2:y.natAbs.log2 < 100:=(Nat.log2_lt h1).mpr (by omega);omega
def E4(i j:Int):Prop:=0 < j/\j < 1267650600228229401496703205376
def Ep(i j:Int):Prop:=0<=j/\j<=1000000/\i.natAbs < 2 ^ 64
def CMul(i j:Int):Prop:=(-(2 ^ 64) < i/\i < 2 ^ 64)\/(-(2 ^ 64) < j/\j < 2 ^ 64)
theorem CMul.ok{i j:Int}(h:CMul i j):IntMulOk i j:=by
 rcases h with⟨h1,h2⟩|⟨h1,h2⟩
 ·exact .of_left (intBits_le_64 h1 h2)
 ·exact .of_right (intBits_le_64 h1 h2)
theorem ar:OpR X (binaryOp .Add) (rI0 λi j=>.int (i+j)):=Od λ_ _ _ _ _ _ _ q=>add_int q
theorem Oe:OpR X (binaryOp .Mult) (rI CMul λi j=>.int (i*j)):=opI λ_ _ _ _ _ _ _ hc q=>mul_int q hc.ok
theorem au:OpR X (binaryOp .FloorDiv) (rI E4 λi j=>.int (i / j)):=opI λi j _ _ _ _ _ hc q=>by
 have h1:(0:Int) < j:=hc.1;have h2:j < 1267650600228229401496703205376:=hc.2;exact floordiv_int (by omega) (by rw[Int.fdiv_eq_ediv_of_nonneg i (by omega)];exact q) (.inl (aq h1 h2))
theorem av:OpR X (binaryOp .Mod) (rI (λ_ j=>0 < j) λi j=>.int (i % j)):=opI λi j _ _ _ _ _ hc q=>by
 have h1:(0:Int) < j:=hc;exact mod_int' (by omega) (by rw[Int.fmod_eq_emod_of_nonneg i (by omega)];exact q)
theorem aw:OpR X (binaryOp .Pow) (rI Ep λi j=>.int (i ^ j.toNat)):=opI λ_ _ _ _ _ _ _ hc q=>pow_int_small hc.1 hc.2.1 hc.2.2 q
theorem ax:OpR X (inplaceOp .Add) (rI0 λi j=>.int (i+j)):=Od λ_ _ _ _ _ _ _ q=>iadd_int q
theorem unI{f:Value->Sem Value}{g:Int->Int}
  (a:∀(i:Int)(t:Tok)(s:Shared)(Q:Value->Shared->Prop)(E:Value->Shared->Prop),Q (.int (g i) s.toks) {s with toks:=s.toks+1}->wpAny (model X.prog X.w) X.A (f (.int i t)) Q E s):
  UnR X f (rU λi=>.int (g i)):=by
 intro pins s σ H x v Q I b h;obtain⟨i,rfl,q⟩:=h;obtain⟨t,rfl⟩:=b;exact a i t s _ _ ⟨.int (g i),H,I.tok _,⟨_,rfl⟩,q⟩
theorem ay:UnR X (unaryOp .USub) (rU λi=>.int (-i)):=unI λ_ _ _ _ _ q=>neg_int q
end
def Er:V->V->Bool
 | .non,.non=>true | .non,.int _=>true | .int _,.non=>true | .non,.bl _=>true | .bl _,.non=>true | .non,.str _=>true | .str _,.non=>true
 | .int _,.int _=>true | .bl _,.bl _=>true | .str _,.str _=>true | .byt _,.byt _=>true
 | .int _,.str _=>true | .str _,.int _=>true | .bl _,.str _=>true | .str _,.bl _=>true
 | _,_=>false
def rEq:R2:=λx y H Q=>Er x y=true/\Q (.bl (decide (x=y))) H
def rNe:R2:=λx y H Q=>Er x y=true/\Q (.bl (!decide (x=y))) H
theorem J2{i j:Int}:decide (V.int i=V.int j)=(i==j):=by
 rw[Bool.eq_iff_iff];simp
theorem J3{i j:Bool}:decide (V.bl i=V.bl j)=(i==j):=by
 rw[Bool.eq_iff_iff];simp
theorem J4{i j:Str}:decide (V.str i=V.str j)=(i==j):=by
 rw[Bool.eq_iff_iff];simp
theorem Of{i j:Array UInt8}:decide (V.byt i=V.byt j)=(i.toList==j.toList):=by
 rw[Bool.eq_iff_iff];cases i;cases j;simp
section
variable {X:Cx} {a b c:Expr} {ta tb tc:TE} {pos:Pos}
theorem AS{Q:VK}{k k':Bool}(I:Inv X pins σ H s)(q:Q (.bl k) H)(e:k=k'):EP X pins σ Q (.bool k') s:=by
 subst e;exact⟨.bl k,H,I,rfl,q⟩
theorem az:OpR X (compareOp .Eq) rEq:=by
 intro pins s σ H x y v u Q I c a h;obtain⟨b,q⟩:=h;cases x with
 | non =>
  cases c;cases y with
  | non=>cases a;exact PySem.EqNone.eq_none_none (AS I q (by simp))
  | bl j=>cases a;exact PySem.EqNone.eq_none_bool (AS I q (by simp))
  | int j=>obtain⟨t',rfl⟩:=a;exact PySem.EqNone.eq_none_int (AS I q (by simp))
  | str j=>obtain⟨t',rfl⟩:=a;exact PySem.EqNone.eq_none_str (AS I q (by simp))
  | _=>exact absurd (show false=true from b) YX
 | bl i =>
  cases c;cases y with
  | non=>cases a;exact PySem.EqNone.eq_bool_none (AS I q (by simp))
  | bl j=>cases a;exact eq_bool (AS I q J3)
  | str j=>obtain⟨t',rfl⟩:=a;exact PySem.EqMixed.eq_bool_str (AS I q (by simp))
  | _=>exact absurd (show false=true from b) YX
 | int i =>
  obtain⟨t,rfl⟩:=c;cases y with
  | non=>cases a;exact PySem.EqNone.eq_int_none (AS I q (by simp))
  | int j=>obtain⟨t',rfl⟩:=a;exact eq_int (AS I q J2)
  | str j=>obtain⟨t',rfl⟩:=a;exact PySem.EqMixed.eq_int_str (AS I q (by simp))
  | _=>exact absurd (show false=true from b) YX
 | str i =>
  obtain⟨t,rfl⟩:=c;cases y with
  | non=>cases a;exact PySem.EqNone.eq_str_none (AS I q (by simp))
  | bl j=>cases a;exact PySem.EqMixed.eq_str_bool (AS I q (by simp))
  | int j=>obtain⟨t',rfl⟩:=a;exact PySem.EqMixed.eq_str_int (AS I q (by simp))
  | str j=>obtain⟨t',rfl⟩:=a;exact eq_str (AS I q J4)
  | _=>exact absurd (show false=true from b) YX
 | byt i =>
  obtain⟨t,rfl⟩:=c;cases y with
  | byt j=>obtain⟨t',rfl⟩:=a;exact PySem.W.eq_bytes (AS I q Of)
  | _=>exact absurd (show false=true from b) YX
 | _=>cases y <;> exact absurd (show false=true from b) YX
theorem aA:OpR X (compareOp .NotEq) rNe:=by
 intro pins s σ H x y v u Q I c a h;obtain⟨b,q⟩:=h;cases x with
 | non =>
  cases c;cases y with
  | non=>cases a;exact PySem.EqNone.ne_none_none (AS I q (by simp))
  | bl j=>cases a;exact PySem.EqNone.ne_none_bool (AS I q (by simp))
  | int j=>obtain⟨t',rfl⟩:=a;exact PySem.EqNone.ne_none_int (AS I q (by simp))
  | str j=>obtain⟨t',rfl⟩:=a;exact PySem.EqNone.ne_none_str (AS I q (by simp))
  | _=>exact absurd (show false=true from b) YX
 | bl i =>
  cases c;cases y with
  | non=>cases a;exact PySem.EqNone.ne_bool_none (AS I q (by simp))
  | bl j=>cases a;exact ne_bool (AS I q (congrArg not J3))
  | str j=>obtain⟨t',rfl⟩:=a;exact PySem.EqMixed.ne_bool_str (AS I q (by simp))
  | _=>exact absurd (show false=true from b) YX
 | int i =>
  obtain⟨t,rfl⟩:=c;cases y with
  | non=>cases a;exact PySem.EqNone.ne_int_none (AS I q (by simp))
  | int j=>obtain⟨t',rfl⟩:=a;exact ne_int (AS I q (congrArg not J2))
  | str j=>obtain⟨t',rfl⟩:=a;exact PySem.EqMixed.ne_int_str (AS I q (by simp))
  | _=>exact absurd (show false=true from b) YX
 | str i =>
  obtain⟨t,rfl⟩:=c;cases y with
  | non=>cases a;exact PySem.EqNone.ne_str_none (AS I q (by simp))
  | bl j=>cases a;exact PySem.EqMixed.ne_str_bool (AS I q (by simp))
  | int j=>obtain⟨t',rfl⟩:=a;exact PySem.EqMixed.ne_str_int (AS I q (by simp))
  | str j=>obtain⟨t',rfl⟩:=a;exact ne_str (AS I q (congrArg not J4))
  | _=>exact absurd (show false=true from b) YX
 | byt i =>
  obtain⟨t,rfl⟩:=c;cases y with
  | byt j=>obtain⟨t',rfl⟩:=a;exact PySem.W.ne_bytes (AS I q (congrArg not Of))
  | _=>exact absurd (show false=true from b) YX
 | _=>cases y <;> exact absurd (show false=true from b) YX
theorem aB:OpR X (compareOp .Lt) (rI0 λi j=>.bl (decide (i < j))):=GZ λ_ _ _ _ _ _ _ q=>lt_int q
theorem aC:OpR X (compareOp .LtE) (rI0 λi j=>.bl (decide (i<=j))):=GZ λ_ _ _ _ _ _ _ q=>le_int q
theorem aD:OpR X (compareOp .Gt) (rI0 λi j=>.bl (decide (j < i))):=GZ λ_ _ _ _ _ _ _ q=>gt_int q
theorem aE:OpR X (compareOp .GtE) (rI0 λi j=>.bl (decide (j<=i))):=GZ λ_ _ _ _ _ _ _ q=>ge_int q
theorem aF:OpR X (compareOp .Lt) (λx y H Q=>∃ i j,x=.str i/\y=.str j/\Q (.bl (decide (i.cps.toList < j.cps.toList))) H):=by
 intro pins s σ H x y v u Q I a b h;obtain⟨i,j,rfl,rfl,q⟩:=h;obtain⟨t,rfl⟩:=a;obtain⟨t',rfl⟩:=b;exact lt_str (AS I q rfl)
theorem aG:OpR X (compareOp .Is) (λx y H Q=>y=.non/\Q (.bl (decide (x=.non))) H):=by
 intro pins s σ H x y v u Q I a b h;obtain⟨rfl,q⟩:=h;cases b;refine is_none_gen (AS I q ?_)
 cases x <;> first
  |(cases a;rfl)
  |(obtain⟨t,rfl⟩:=a;rfl)
theorem aH:OpR X (compareOp .IsNot) (λx y H Q=>y=.non/\Q (.bl (!decide (x=.non))) H):=by
 intro pins s σ H x y v u Q I a b h;obtain⟨rfl,q⟩:=h;cases b;refine isnot_none_gen (AS I q ?_)
 cases x <;> first
  |(cases a;rfl)
  |(obtain⟨t,rfl⟩:=a;rfl)
variable {r r':R2}
theorem OpR.or{f:Value->Value->Sem Value}(h:OpR X f r)(h':OpR X f r'):OpR X f (λx y H Q=>r x y H Q\/r' x y H Q):=by
 intro pins s σ H x y v u Q I a b q;rcases q with q | q
 ·exact h pins s σ H x y v u Q I a b q
 ·exact h' pins s σ H x y v u Q I a b q
theorem oi(b:Expr){op:CmpOp}(h:op≠.In:=by decide)(h2:op≠.NotIn:=by decide):behindInMarks op b=false:=by
 have a:(op==CmpOp.In)=false:=by cases op <;> first | rfl | exact absurd rfl h
 have c:(op==CmpOp.NotIn)=false:=by cases op <;> first | rfl | exact absurd rfl h2
 cases b <;> simp[behindInMarks,a,c]
theorem aI{op:CmpOp}(j:OpR X (compareOp op) r)(g:PE X a ta)(f:PE X b tb)(i:behindInMarks op b=false):PE X (.Compare a [op] [b] pos) (tOp r ta tb):=by
 intro pins s σ H Q I h;exact wpAny_Compare1 (GY g f I h λv u e x y H2 k c d q=>j pins e σ H2 x y v u Q k c d q) i
def Og(t:TE):TT:=λσ H Q=>t σ H λx H'=>∃ k,x=.bl k/\Q k H'
theorem aJ{op:CmpOp}(l:OpR X (compareOp op) r)(i:PE X a ta)(g:PE X b tb)(j:behindInMarks op b=false):PT X (.Compare a [op] [b] pos) (Og (tOp r ta tb)):=by
 intro pins s σ H Q I h
 refine wpAny_isTrue_Compare1 (thn (i pins s σ H _ I h) λv t⟨x,H1,d,r1,q1⟩=>thn (g pins t σ H1 _ d q1) λu f⟨y,H2,p,m,q2⟩=>
  thn (l pins f σ H2 x y v u _ p r1 m q2) λc w⟨z,q,n,o,k,e,q3⟩=>?_) j
 subst e;cases o;exact wpAny_truthy_bool ⟨q,n,q3⟩
def J5(r r':R2)(ta tb tc:TE):TE:=λσ H Q=>ta σ H λx H1=>tb σ H1 λy H2=>r x y H2 λz H3=>∃ k,z=.bl k/\
 (if k=true then tc σ H3 λw' H4=>r' y w' H4 Q else Q (.bl false) H3)
variable {op':CmpOp}
theorem aK{op:CmpOp}(o:OpR X (compareOp op) r)(f:OpR X (compareOp op') r')(J:PE X a ta)(l:PE X b tb)(hc:PE X c tc)
  (B:lastMarks [op,op'] [b,c]=false:=by with_unfolding_all rfl):PE X (.Compare a [op,op'] [b,c] pos) (J5 r r' ta tb tc):=by
 intro pins s σ H Q I h
 refine Compare_chain (thn (J pins s σ H _ I h) λv t⟨x,H1,A,r1,q1⟩=>chain_link (thn (l pins t σ H1 _ A q1) λu n⟨y,H2,D,g,q2⟩=>
  thn (o pins n σ H2 x y v u _ D r1 g q2) λd p⟨z,j,i,m,k,e,q3⟩=>?_)) B
 subst e;cases m;refine wpAny_truthy_bool ?_;cases k with
 | false=>exact ite_ff ⟨.bl false,j,i,rfl,q3⟩
 | true=>exact ite_tt (chain_last (thn (hc pins p σ j _ i q3) (by rintro F K ⟨L,w,E,G,q⟩;exact f pins K σ w y L u F Q E g G q)))
theorem aL{op:CmpOp}(o:OpR X (compareOp op) r)(f:OpR X (compareOp op') r')(P:PE X a ta)(l:PE X b tb)(hc:PE X c tc)
  (G:lastMarks [op,op'] [b,c]=false:=by with_unfolding_all rfl):PT X (.Compare a [op,op'] [b,c] pos) (Og (J5 r r' ta tb tc)):=by
 intro pins s σ H Q I h
 refine isTrue_chain (thn (P pins s σ H _ I h) λv w⟨x,H1,E,r1,q1⟩=>test_link (thn (l pins w σ H1 _ E q1) λu n⟨y,H2,J,g,q2⟩=>
  thn (o pins n σ H2 x y v u _ J r1 g q2) λd p⟨z,j,i,m,k,e,q3⟩=>?_)) G
 subst e;cases m;refine wpAny_truthy_bool ?_;cases k with
 | false =>
  obtain⟨Z,L,S⟩:=q3;cases L;exact ite_ff ⟨j,i,S⟩
 | true =>
  refine ite_tt (test_last (thn (hc pins p σ j _ i q3) λN R⟨T,F,K,O,q⟩=>thn (f pins R σ F y T u N _ K g O q) λd' s5⟨Y,t,A,U,k2,B,D⟩=>?_));subst B;cases U;exact wpAny_truthy_bool ⟨t,A,D⟩
def J6(K:PySem.W.Frag)(x:V)(H:Hp)(k:Bool):Prop :=
 match x with
 | .non=>k=false
 | .bl b=>k=b
 | .int i=>k=(i != 0)
 | .str y=>y.length<=sizeLine/\k=((y.length:Int) != 0)
 | .byt y=>y.size<=sizeLine/\k=((y.size:Int) != 0)
 | .ref p=>(∃ xs,SqL K H p xs/\k=!xs.isEmpty)\/(∃ xs,SqT K H p xs/\k=!xs.isEmpty)\/∃ kvs,H p=some (.dK kvs)/\k=!kvs.isEmpty
 | _=>False
theorem aM{κ:Type}{a:List (κ×V)}{vs:List (κ×Value)}(r:KV a vs):(!vs.isEmpty)=!a.isEmpty:=by
 cases r <;> rfl
theorem Oh{xs:List V}{a:List Value}(r:Vals xs a):(!a.toArray.isEmpty)=!xs.isEmpty:=by
 cases r <;> simp
theorem E5:(sizeLine:Nat) < 2 ^ 63:=by rw[sizeLine_eq];decide
theorem aN:am X (λx H Q=>∃ k,J6 X.K x H k/\Q k H):=by
 intro pins s σ H x v Q I f h;obtain⟨k,e,q⟩:=h;have hl:=E5;have z:sizeLine=16777216:=sizeLine_eq;cases x with
 | non =>
  cases f;have a:k=false:=e;subst a;exact truthy_none ⟨H,I,q⟩
 | bl b =>
  cases f;have a:k=b:=e;subst a;exact wpAny_truthy_bool ⟨H,I,q⟩
 | int i =>
  obtain⟨t,rfl⟩:=f;have a:k=(i != 0):=e;subst a;exact PySem.P.truthy_int ⟨H,I,q⟩
 | str y =>
  obtain⟨t,rfl⟩:=f;obtain⟨u,a⟩:y.length<=sizeLine/\k=((y.length:Int) != 0):=e;subst a;exact PySem.P.truthy_str (by omega) ⟨H,I.tok _,q⟩
 | byt y =>
  obtain⟨t,rfl⟩:=f;obtain⟨u,a⟩:y.size<=sizeLine/\k=((y.size:Int) != 0):=e;subst a;exact PySem.W.truthy_bytes (by omega) ⟨H,I.tok _,q⟩
 | ref p =>
  cases f;have a:(∃ xs,SqL X.K H p xs/\k=!xs.isEmpty)\/(∃ xs,SqT X.K H p xs/\k=!xs.isEmpty)\/∃ c,H p=some (.dK c)/\k=!c.isEmpty:=e;rcases a with⟨xs,g,a⟩|⟨xs,g,a⟩|⟨c,g,a⟩
  ·subst a;obtain⟨l,r,pl,n⟩:=I.list g;have d:=r.length;exact wpAny_truthy_list pl.isList (by simp only[Yn];omega) ⟨H,I.tok _,by rw[Oh r];exact q⟩
  ·subst a;obtain⟨l,r,pl,n⟩:=I.tuple g;have d:=r.length;exact truthy_tuple pl (by simp only[Yn];omega) ⟨H,I.tok _,by rw[Oh r];exact q⟩
  ·subst a;obtain⟨n,o,j,r,m⟩:c.length<=sizeLine/\(p==sysModules)=false/\∃ j,KV c j/\s.heap.DictOf (AV X.prog X.w) p j:=I.hok p _ g;have d:c.length=j.length:=Paired.length r;exact wpAny_truthy_dict o m (by omega) ⟨H,I.tok _,by rw[aM r];exact q⟩
 | _=>exact(show False from e).elim
theorem aO(e:PE X a ta)(c:∀ b,isTrue a X.env b=(do let v <- b;standAt a.pos;holding [v] (truthy v))):
  PT X a (λσ H Q=>ta σ H λx H'=>∃ k,J6 X.K x H' k/\Q k H'):=by
 intro pins s σ H Q I h;exact isTrue_plain (thn (e pins s σ H _ I h) (by rintro v f ⟨x,H1,d,r1,q1⟩;exact aN pins f σ H1 x v Q d r1 q1)) (c _)
theorem aP:OpR X (binaryOp .Add) (λx y H Q=>∃ i j,x=.str i/\y=.str j/\i.length+j.length<=sizeLine/\Q (.str (i++j)) H):=by
 intro pins s σ H x y v u Q I b c h;obtain⟨i,j,rfl,rfl,a,q⟩:=h;obtain⟨t,rfl⟩:=b;obtain⟨t',rfl⟩:=c;exact add_str (λt' tk=>⟨.str (i++j),H,I.tok _,⟨_,rfl⟩,q⟩) a
theorem aQ:OpR X (inplaceOp .Add) (λx y H Q=>∃ i j,x=.str i/\y=.str j/\i.length+j.length<=sizeLine/\Q (.str (i++j)) H):=by
 intro pins s σ H x y v u Q I b c h;obtain⟨i,j,rfl,rfl,a,q⟩:=h;obtain⟨t,rfl⟩:=b;obtain⟨t',rfl⟩:=c;exact iadd_str (λt' tk=>⟨.str (i++j),H,I.tok _,⟨_,rfl⟩,q⟩) a
theorem C6(r:Vals [x] us):∃ u,us=[u]/\RelV x u:=by
 cases r with
 | cons r1 a=>cases a;exact⟨_,rfl,r1⟩
theorem J7{y:V}(r:Vals [x,y] us):∃ u a,us=[u,a]/\RelV x u/\RelV y a:=by
 cases r with
 | cons r1 b =>
  cases b with
  | cons c d=>cases d;exact⟨_,_,rfl,r1,c⟩
theorem aR:CallR X (.type "int") (λxs H Q=>(∃ i,xs=[.int i]/\Q (.int i) H)\/∃ k,xs=[.bl k]/\Q (.int (if k then 1 else 0)) H):=by
 intro pins s σ H xs a Q I r h;rcases h with⟨i,rfl,q⟩|⟨k,rfl,q⟩
 ·obtain⟨u,rfl,t,rfl⟩:=C6 r;exact call_int_int ⟨.int i,H,I,⟨_,rfl⟩,q⟩
 ·obtain⟨u,rfl,r1⟩:=C6 r;cases r1;exact call_int_bool ⟨.int (if k then 1 else 0),H,I.tok _,⟨_,rfl⟩,q⟩
def Oi(K:PySem.W.Frag)(x:V)(H:Hp)(n:Nat):Prop :=
 match x with
 | .str y=>y.length<=sizeLine/\n=y.length
 | .byt y=>y.size<=sizeLine/\n=y.size
 | .ref p=>(∃ xs,SqL K H p xs/\n=xs.length)\/∃ xs,SqT K H p xs/\n=xs.length
 | _=>False
theorem aS:CallR X (.builtin "len") (λxs H Q=>∃ x n,xs=[x]/\Oi X.K x H n/\Q (.int n) H):=by
 intro pins s σ H xs j Q I r h;obtain⟨x,n,rfl,e,q⟩:=h;obtain⟨u,rfl,c⟩:=C6 r;have hl:=E5;have k:sizeLine=16777216:=sizeLine_eq;cases x with
 | str y =>
  obtain⟨t,rfl⟩:=c;obtain⟨g,b⟩:y.length<=sizeLine/\n=y.length:=e;subst b;exact len_str (by omega) ⟨.int _,H,I.tok _,⟨_,rfl⟩,q⟩
 | byt y =>
  obtain⟨t,rfl⟩:=c;obtain⟨g,b⟩:y.size<=sizeLine/\n=y.size:=e;subst b;exact PySem.W.len_bytes (by omega) ⟨.int _,H,I.tok _,⟨_,rfl⟩,q⟩
 | ref p =>
  cases c;have b:(∃ xs,SqL X.K H p xs/\n=xs.length)\/∃ xs,SqT X.K H p xs/\n=xs.length:=e;rcases b with⟨xs,f,b⟩|⟨xs,f,b⟩
  ·subst b;obtain⟨d,r',pl,i⟩:=I.list f;have a:=r'.length;exact Calls.call_len_list pl.isList (by simp only[Yn];omega) ⟨.int xs.length,H,I.tok _,⟨_,by simp only[Yn];rw[a]⟩,q⟩
  ·subst b;obtain⟨d,r',pl,i⟩:=I.tuple f;have a:=r'.length;exact len_tuple pl (by simp only[Yn];omega) ⟨.int xs.length,H,I.tok _,⟨_,by simp only[Yn];rw[a]⟩,q⟩
 | _=>exact(show False from e).elim
end
section
variable {prog:Program} {w:World} {A:Around} {E:Value->Shared->Prop} {s:Shared} {K:PySem.W.Frag} {x dx C f:Addr} {mA:Str->Option Value} {name:Str} {v:Value}
end
section
variable {P:Program} {w:World} {H H':Hp} {h h':Heap} {a C dx:Addr} {fs fs':List (Str×V)}
end
structure Cls(K:PySem.W.Frag)(C:Addr):Prop where
 pg:PySem.W.plainGet K C Str.empty=true
 hd:PySem.W.hasDictIn K C=true
 po:PySem.W.plainOver K C=true
 sa:PySem.W.findIn K (.ref C) "__setattr__"=some (some (.builtin "object.__setattr__"))
theorem Cls.get{C:Addr}(c:Cls K C)(f:Str):PySem.W.plainGet K C f=true:=c.pg
structure aT(K:PySem.W.Frag)(C:Addr)(m:Str)(f:Addr):Prop where
 at_:PySem.W.findIn K (.ref C) m=some (some (.ref f))
 fn:PySem.W.isFn K (.ref f)=true
 kp:PySem.W.keepIn K (.ref f)=true
section
variable {X:Cx} {pins:List (Addr×Obj)} {σ:St} {H:Hp} {s:Shared} {a C dx:Addr} {fs:List (Str×V)} {f:Str} {v:V} {A:Around} {E:Value->Shared->Prop}
theorem Inv.made(I:Inv X pins σ H s):Inv X pins σ (upd (upd H s.heap.objs.size (.own (s.heap.objs.size+1))) (s.heap.objs.size+1) (.ins C s.heap.objs.size []))
  {s with heap:=(s.heap.push PySem.W.emptyDict).push (PySem.W.instObj C s.heap.objs.size)}:=by
 have c:(s.heap.push PySem.W.emptyDict).get? s.heap.objs.size=some PySem.W.emptyDict:=Qq s.heap rfl
 have j:((s.heap.push PySem.W.emptyDict).push (PySem.W.instObj C s.heap.objs.size)).get? (s.heap.objs.size+1)=some (PySem.W.instObj C s.heap.objs.size):=by
  have:=Qq (s.heap.push PySem.W.emptyDict) (o:=PySem.W.instObj C s.heap.objs.size) rfl;rwa [Qr]at this
 have f:(s.heap.push PySem.W.emptyDict).Ns s.heap.objs.size (λ_=>none):=⟨PySem.W.emptyDict,#[],_,c,rfl,(λe g=>absurd g (by simp)),λ_=>rfl⟩;have h:=I.laid (a:=s.heap.objs.size) (o:=.own (s.heap.objs.size+1)) (h':=s.heap.push PySem.W.emptyDict) (t':=s.toks) (λb u q=>Qo _ q) (Yr _) ⟨_,c⟩;refine h.laid (a:=s.heap.objs.size+1) (o:=.ins C s.heap.objs.size []) (t':=s.toks) (λb u q=>Qo _ q) (Nat.le_of_eq (Qr _ _)) ?_;have d:s.heap.objs.size≠s.heap.objs.size+1:=Ys (Nat.lt_succ_self _);refine⟨by rw[AN d,B0],YY _,d,j,λ_=>none,(Heap.Ns1.of_empty f).at λo q=>Qo _ q,λ_=>True.intro,λy i=>absurd rfl i⟩
end
section
variable {X:Cx} {o e value:Expr} {f:Str} {pos pos' tpos:Pos} {ta tv:TE}
def Cn:V->V->Hp->VK->Prop:=λx y H Q=>∃ i j,x=.int i/\y=.int j/\Q (.int (i+j)) H
end
section
variable {X:Cx} {pins:List (Addr×Obj)} {σ:St} {H:Hp} {s:Shared} {A:Around} {E:Value->Shared->Prop} {Q:Value->Shared->Prop} {c:Value} {b:Bool}
end
structure Room(k:Nat)(A:Around):Prop where
 hd:A.handled=none
 dp:A.depth+3*k+5 < recursionLimit
 un:A.units+16*k+200 < cLine
variable {j k:Nat}
theorem Room.mono(r:Room k A)(h:j<=k):Room j A:=⟨r.hd,by have:=r.dp;omega,by have:=r.un;omega⟩
theorem Room.deeper(r:Room (k+1) A)(env:Env):Room k (A.deeper env):=
 ⟨r.hd,by have:=r.dp;show A.depth+1+3*k+5 < _;omega,by have:=r.un;show A.units+3+16*k+200 < _;omega⟩
theorem Room.in1(r:Room (k+1) A):Room k A.in1 :=
 ⟨r.hd,by have:=r.dp;show A.depth+3*k+5 < _;omega,by have:=r.un;show A.units+1+16*k+200 < _;omega⟩
theorem Room.depth(r:Room k A):A.depth < recursionLimit:=by have:=r.dp;omega
theorem Room.units(r:Room k A):A.units+64 < cLine:=by have:=r.un;omega
def J8:TA:=λ_ H Q=>Q [] H
def G7(ta:TE)(tr:TA):TA:=λσ H Q=>ta σ H λx H1=>tr σ H1 λxs H2=>Q (x::xs) H2
section
variable {X:Cx} {e:Expr} {es:List Expr} {te:TE} {t:TA} {pos:Pos}
theorem J9:PA X [] J8:=λ_ _ _ _ H Q I h=>Calls.spliced_nil ⟨[],H,I,.nil,h⟩
theorem G8(f:PE X e te)(c:PA X es t)(d:starEach (e::es) X.env=(false,eval e X.env)::starEach es X.env:=by rfl):PA X (e::es) (G7 te t):=by
 intro pos pins s σ H Q I h;rw[d];show wpAny _ _ (spliced ((false,eval e X.env)::backTo pos (starEach es X.env))) _ _ s;refine Calls.spliced_cons (thn (f pins s σ H _ I h) λu j a=>?_);obtain⟨x,H1,b,r1,q1⟩:=a;exact thn (c pos pins j σ H1 _ b q1) (by rintro k l ⟨xs,H2,i,g,q2⟩;exact⟨x::xs,H2,i,.cons r1 g,q2⟩)
def aU(t:TA):TE:=λσ H Q=>t σ H λxs H1=>xs.length<=sizeLine/\∀ p,H1 p=none->Q (.ref p) (upd H1 p (.tup xs))
def aV(t:TA):TE:=λσ H Q=>t σ H λxs H1=>xs.length<=sizeLine/\∀ p,H1 p=none->Q (.ref p) (upd H1 p (.lst xs))
theorem aW{x1}(h:PA X es t):PE X (.Tuple es x1 pos) (aU t):=by
 intro pins s σ H Q I d;refine wpAny_Tuple_spliced (thn (h pos pins s σ H _ I d) λf a⟨xs,H1,c,r,z,q⟩=>⟨by rw[<- r.length];exact z,?_⟩);have g:H1 a.heap.objs.size=none:=c.hok.fresh (Yr _);refine⟨.ref a.heap.objs.size,upd H1 a.heap.objs.size (.tup xs),c.laid (t':=a.toks) (λb u e=>Qo _ e) (Yr _) ?_,rfl,q _ g⟩;exact⟨z,f,r,⟨_,Qq _ rfl,rfl,rfl,_,rfl⟩⟩
theorem aX(h:PA X es t):PE X (.List es pos) (aV t):=by
 intro pins s σ H Q I d;refine wpAny_List_spliced (thn (h pos pins s σ H _ I d) λf a⟨xs,H1,c,r,z,q⟩=>⟨by rw[<- r.length];exact z,?_⟩);have g:H1 a.heap.objs.size=none:=c.hok.fresh (Yr _);refine⟨.ref a.heap.objs.size,upd H1 a.heap.objs.size (.lst xs),c.laid (t':=a.toks) (λb u e=>Qo _ e) (Yr _) ?_,rfl,q _ g⟩;exact⟨z,f,0,r,Qq _ rfl⟩
end
abbrev Sp:=List V->Hp->VK->XK->Prop
abbrev CXT:=List Env->Hp->Shared->XK->Value->Shared->Prop
structure Env0(P:Program)(w:World)(K:PySem.W.Frag)(mg:Str->Option Value)(base:Heap)(A:Around)(outer:List Env)(s:Shared)(H:Hp):Prop where
 frames:A.frames=some outer
 mod:Mod K mg base
 bs:∀ b o,base.get? b=some o->s.heap.get? b=some o/\H b=none
 bsz:base.objs.size<=s.heap.objs.size
 funs:s.heap.FunFrames base outer
 frf:∀ b∈frs outer,H b=none
 hok:HOk P w H s.heap
 bare:AllBare s.gens
def CE(outer:List Env)(P:Program)(w:World)(H:Hp)(s:Shared)(Q:VK)(u:Value)(s':Shared):Prop :=
 ∃ v H',s'.os=s.os/\AllBare s'.gens/\Un (frs outer) [] H H' s.heap s'.heap/\HOk P w H' s'.heap/\RelV v u/\Q v H'
def CR(CX:CXT)(outer:List Env)(P:Program)(w:World)(H:Hp)(s:Shared)(Q:VK)(E:XK)(r:Result)(s':Shared):Prop :=
 match r with
 | .ok (.ret u)=>CE outer P w H s Q u s'
 | .ok _=>False
 | .error e=>CX outer H s E e s'
structure FnOk(P:Program)(w:World)(K:PySem.W.Frag)(mg:Str->Option Value)(base:Heap)(CX:CXT)(k:Nat)(f:Addr)(fd:FuncData)(ps:List Str)(sp:Sp):Prop where
 len:∀ vs H Q E,sp vs H Q E->vs.length=ps.length
 run:∀(A:Around)(outer:List Env)(s:Shared)(H:Hp)(args:Args)(us:List Value)(vs:List V)(Q:VK)(E:XK),Room k A->Env0 P w K mg base A outer s H->BindsTo s fd args (ps.zip us)->Vals vs us->sp vs H Q E->
  codeAny (model P w) A (.call (.ref f) args) (CR CX outer P w H s Q E) s
variable {mg:Str->Option Value}{base:Heap}{CX:CXT}{f:Addr}{fd:FuncData}{ps:List Str}{sp:Sp}
theorem FnOk.mono(F:FnOk P w K mg base CX j f fd ps sp)(h:j<=k):
  FnOk P w K mg base CX k f fd ps sp:=⟨F.len,λA outer s H a d c Q E b=>F.run A outer s H a d c Q E (b.mono h)⟩
theorem FnOk.imp{a:Sp}(F:FnOk P w K mg base CX k f fd ps sp)
  (h:∀ vs H Q E,a vs H Q E->sp vs H Q E):FnOk P w K mg base CX k f fd ps a :=
 ⟨λvs H Q E q=>F.len vs H Q E (h _ _ _ _ q),λA outer s H b e vs Q E d c i j g=>F.run A outer s H b e vs Q E d c i j (h _ _ _ _ g)⟩
variable {outer:List Env}
theorem Env0.in1(e:Env0 P w K mg base A outer s H):
  Env0 P w K mg base A.in1 outer s H:=⟨e.frames,e.mod,e.bs,e.bsz,e.funs,e.frf,e.hok,e.bare⟩
section
variable {X:Cx} {pins:List (Addr×Obj)} {σ:St} {H:Hp} {s s':Shared}
theorem Inv.env0(I:Inv X pins σ H s):Env0 X.prog X.w X.K X.mg X.base X.A X.stack s H :=
 ⟨I.ok.frames,I.ok.mod,I.bs,Yt I.ok.bsz I.sz,I.stack,I.stkFree,I.hok,I.bare⟩
theorem Inv.after{Q:VK}(I:Inv X pins σ H s)(h:CE X.stack X.prog X.w H s Q u s'):EP X pins σ Q u s':=by
 obtain⟨v,H',os,bare,un,hok,r,q⟩:=h;obtain⟨c,g,d,t,a⟩:=s';obtain rfl:a=s.os:=os;exact⟨v,H',I.call (h':=c) (g':=g) (d':=d) (t':=t) (ch:=[]) un hok bare (λb z=>absurd z (by simp)),r,q⟩
end
def Binds(K:PySem.W.Frag)(fd:FuncData)(ps:List Str)(ds:List Value):Prop :=
 ∀(s:Shared)(us:List Value),K.In s.heap->(us++ds).length=ps.length->BindsTo s fd ⟨us,[]⟩ (ps.zip (us++ds))
theorem Binds.all(h:∀ us:List Value,us.length=ps.length->bindArgs fd ⟨us,[]⟩=pure (ps.zip us)):Binds K fd ps []:=λs us _ hl=>by
 rw[Yx]at hl ⊢;exact .of_eq (h us hl)
def aY(CX:CXT)(X:Cx)(E:XK):Prop:=∀(pins:List (Addr×Obj))(σ:St)(H:Hp)(s:Shared)(e:Value)(s':Shared),Inv X pins σ H s->CX X.stack H s E e s'->X.xe e s'
section
variable {X:Cx} {CX:CXT} {k:Nat} {f C:Addr} {fd:FuncData} {ps:List Str} {sp:Sp} {dvs:List V} {ds:List Value} {E:XK} {x m:Str} {p pos apos:Pos} {e o:Expr} {es:List Expr} {ta:TE} {t:TA}
end
section
variable {X:Cx} {CX:CXT} {k:Nat} {f C:Addr} {fd:FuncData} {ps ks:List Str} {sp:Sp} {E:XK} {x m:Str} {p pos apos kpos:Pos} {e o:Expr} {es:List Expr} {kws:List Keyword} {te ta:TE} {t tk:TA} {nm:Option Str}
variable {g:List Value->List Value->List Value} {gV:List V->List V->List V}
end
structure Ax(N P:List Str)(sc:Scope):Prop where
 kind:sc.kind=.function
 co:sc.isCoroutine=false
 gen:sc.isGenerator=false
 nd:N.Nodup
 pre:N.take P.length=P
 par:∀ x∈P,sc.names.lookup x=some .local\/sc.names.lookup x=some .cell
 nofree:∀ y∈sc.names,y.2≠.free
theorem Oj{kindOf:Str->Option NameKind}{x:Str}:∀{binds:List (Str×Value)}{m:Str->Option Value},(∀ v,(x,v)∉binds)->bindL kindOf binds m x=m x
 | [],_,_=>rfl
 |(n,v)::r,m,h=>by
  unfold bindL;rw[Oj λw hw=>h w (Yd _ hw)];split
  ·have:x≠n:=by rintro rfl;exact h v Ye
   simp[this]
  ·rfl
theorem Ol{kindOf:Str->Option NameKind}{x:Str}:∀{binds:List (Str×Value)}{m:Str->Option Value},(∀ v,(x,v)∉binds)->bindC kindOf binds m x=m x
 | [],_,_=>rfl
 |(n,v)::r,m,h=>by
  unfold bindC;rw[Ol λw hw=>h w (Yd _ hw)];split
  ·rfl
  ·have:x≠n:=by rintro rfl;exact h v Ye
   simp[this]
theorem On{kindOf:Str->Option NameKind}{x:Str}{v:Value}:∀{P:List Str}{vs:List Value}{i:Nat}{m:Str->Option Value},P.Nodup->P[i]?=some x->vs[i]?=some v->kindOf x=some .local->
  bindL kindOf (P.zip vs) m x=some v
 | [],_,_,_,_,h,_,_=>by simp at h
 | _::_,[],_,_,_,_,h,_=>by simp at h
 | p::P,w::vs,0,m,nd,h1,h2,a=>by
  simp at h1 h2;subst h1;subst h2;show bindL kindOf ((p,w)::P.zip vs) m p=_;unfold bindL;rw[Oj λv b=>(YV.mp nd).1 (List.of_mem_zip b).1,if_pos a];simp
 | p::P,w::vs,i+1,m,nd,h1,h2,a=>by
  show bindL kindOf ((p,w)::P.zip vs) m x=_;unfold bindL;exact On (i:=i) (YV.mp nd).2 (by simpa using h1) (by simpa using h2) a
theorem Oo{kindOf:Str->Option NameKind}{x:Str}{v:Value}:∀{P:List Str}{vs:List Value}{i:Nat}{m:Str->Option Value},P.Nodup->P[i]?=some x->vs[i]?=some v->kindOf x≠some .local->
  bindC kindOf (P.zip vs) m x=some v
 | [],_,_,_,_,h,_,_=>by simp at h
 | _::_,[],_,_,_,_,h,_=>by simp at h
 | p::P,w::vs,0,m,nd,h1,h2,a=>by
  simp at h1 h2;subst h1;subst h2;show bindC kindOf ((p,w)::P.zip vs) m p=_;unfold bindC;rw[Ol λv b=>(YV.mp nd).1 (List.of_mem_zip b).1,if_neg a];simp
 | p::P,w::vs,i+1,m,nd,h1,h2,a=>by
  show bindC kindOf ((p,w)::P.zip vs) m x=_;unfold bindC;exact Oo (i:=i) (YV.mp nd).2 (by simpa using h1) (by simpa using h2) a
def CW(N:List Str)(vs:List V):St:=vs.map some++List.replicate (N.length - vs.length) none
def Bj(CX:CXT)(P:Program)(w:World)(K:PySem.W.Frag)(mg:Str->Option Value)(base:Heap)(N:List Str)(qual:Str)(scope:Scope)(f:Addr)(cd:Value)(A:Around)(outer:List Env)(s:Shared)(H:Hp)(E:XK):Cx where
 prog:=P
 w:=w
 K:=K
 mg:=mg
 base:=base
 A:=A.deeper (envOfC qual scope s.heap.objs.size f cd)
 N:=N
 s₀:=s
 H₀:=H
 env:=envOfC qual scope s.heap.objs.size f cd
 outer:=outer
 stack:=envOfC qual scope s.heap.objs.size f cd::outer
 ex:=[]
 calm:=true
 fn:=λ_=>true
 pn:=[]
 xe:=λe s'=>wpAny (model P w) (A.deeper (envOfC qual scope s.heap.objs.size f cd)) (leaving (envOfC qual scope s.heap.objs.size f cd) e) (λ_ s''=>CX outer H s E e s'') (λe' s''=>CX outer H s E e' s'') s'
theorem Ka{a:Scope}{n:Nat}{x:Str}(h:a.names.lookup x=some .cell):∃ c,(cellsFrom n a.names []).lookup x=some c:=by
 have q:=PySem.W.cellsFrom_some a.names n [] (.inl h);exact Option.isSome_iff_exists.mp q
variable {N:List Str}{qual:Str}{scope:Scope}
theorem aZ{t:Shared}{E:XK}{vs:List V}
  (S:Ax N ps scope) (hd:A.handled=none) (d:Env0 P w K mg base A outer s H) (hl:vs.length=ps.length) (r:Vals vs us)
  (x:InCallC s s.heap.objs.size (bindL (envOfC qual scope s.heap.objs.size f cd).kindOf (ps.zip us) λ_=>none) (cellsFrom (s.heap.objs.size+1) scope.names []) (bindC (envOfC qual scope s.heap.objs.size f cd).kindOf (ps.zip us) λ_=>none) t):
  Inv (Bj CX P w K mg base N qual scope f cd A outer s H E) [] (CW N vs) H t:=by
 have G:ps.length<=N.length:=by have:=congrArg List.length S.pre;rw[List.length_take]at this;omega
 obtain⟨h1,tk,rfl,B⟩:=x.done;have j:∀ b:Addr,b∉(Bj CX P w K mg base N qual scope f cd A outer s H E).ex:=λb z=>absurd (show b∈([]:List Addr)from z) (by simp)
 refine⟨⟨d.mod,S.kind,rfl,rfl,Yr _,λy z c h1 h2=>?_,λy g=>?_,λy c _ h=>?_,λ_=>hd,Around.frames_deeper d.frames,.inr ⟨rfl,rfl⟩,λb z=>absurd z (j b),d.bs,d.bsz,λb _ _=>j b,λb z=>absurd z (j b),d.funs,d.frf⟩,
  rfl,d.bare,Un.kept B,⟨_,x.toInCall.ns,λi y v h1 h2 I=>?_⟩,λy c h=>⟨_,x.cell y c h⟩,d.hok.fresh (Yr _),λy c h=>?_,λp l=>absurd (show p∈([]:List (Addr×Obj))from l) (by simp),d.hok.kept B,?_⟩
 ·exact name_of_addr x.apart (PySem.mem_of_lookup h1) (PySem.mem_of_lookup h2)
 ·have g:scope.names.lookup y=some .cell\/scope.names.lookup y=some .free:=g;rcases g with g | g
  ·exact Ka g
  ·exact absurd rfl (S.nofree _ (PySem.mem_of_lookup g))
 ·exact YL (x.above y c (PySem.mem_of_lookup h))
 ·have hi:i < vs.length:=by
   unfold CW at h2;by_cases hi:i < vs.length
   ·exact hi
   ·rw[List.getElem?_append_right (by simpa using hi)]at h2;rw[List.getElem?_replicate]at h2;split at h2 <;> cases h2
  have D:vs[i]?=some v:=by
   unfold CW at h2;rw[YJ (by simpa using hi),YS]at h2;cases e:vs[i]? with
   | none=>rw[e]at h2;cases h2
   | some a=>rw[e]at h2;cases h2;rfl
  obtain⟨u,o,F⟩:=r.get D
  have l:ps[i]?=some y:=by
   rw[<- S.pre,List.getElem?_take_of_lt (by omega)];exact h1
  have m:ps.Nodup:=by rw[<- S.pre];exact S.nd.sublist (List.take_sublist _ _)
  refine⟨u,F,?_⟩;rcases S.par y (List.mem_of_getElem? l)with k | k
  ·exact .inl ⟨k,On m l o k⟩
  ·obtain⟨c,e⟩:=Ka (n:=s.heap.objs.size+1) k;refine .inr ⟨.inl k,c,e,?_⟩;have q:=x.cell y c e;rw[Oo m l o (by show scope.names.lookup y≠_;rw[k];decide)]at q;exact q
 ·exact d.hok.fresh (YL (x.above y c (PySem.mem_of_lookup h)))
 ·unfold CW;show _=N.length;rw[Yj,Yh,List.length_replicate];omega
theorem G9{name:Str}{params:Arguments}{body:List Stmt}{L kV g pm cdv ct oc:Value}{G U:Option Addr}
  {B:Array (Option Value)}   (Y:K.lookup f=some ⟨oc,U,.func (PySem.W.fnOf name qual params body scope L kV g pm G cdv ct),B⟩) (l:PySem.W.codeIn K cdv qual=true) (S:Ax N ps scope)
  (len:∀ vs H Q E,sp vs H Q E->vs.length=ps.length)
  (c:∀(A:Around)(outer:List Env)(s:Shared)(H:Hp)(vs:List V)(Q:VK)(E:XK),Room k (A.deeper (envOfC qual scope s.heap.objs.size f cdv))->sp vs H Q E->
   ∃ t,PSs (Bj CX P w K mg base N qual scope f cdv A outer s H E) body t/\t {nx:=λ_ H'=>Q .non H',rt:=Q} (CW N vs) H):
  FnOk P w K mg base CX (k+1) f (PySem.W.fnOf name qual params body scope L kV g pm G cdv ct) ps sp:=by
 refine⟨len,λA outer s H D R vs Q E p j T r i=>?_⟩;have hl:=len _ _ _ _ i;have KX:K.In s.heap:=j.mod.kin.keeps λb o e=>(j.bs b o e).1;have z:s.heap.NoLimit:=j.mod.nolimit.keeps λb o e=>(j.bs b o e).1
 have a:∀ y∈ps.zip R,scope.names.lookup y.1=some .local\/(scope.names.lookup y.1=some .cell/\((cellsFrom (s.heap.objs.size+1) scope.names []).lookup y.1).isSome=true):=by
  rintro⟨n,v⟩ hy;rcases S.par n (List.of_mem_zip hy).1 with q | q
  ·exact .inl q
  ·exact .inr ⟨q,PySem.W.cellsFrom_some _ _ _ (.inl q)⟩
 refine codeAny_call_function p.depth (KX _ _ Y) rfl S.co S.gen rfl (PySem.W.codeRec_of KX l) (T _ _ _ _ ?_);refine wpAny_newFunctionEnv_cells S.kind a λenv X F x=>?_;subst X;refine⟨z.keeps x.toInCall.keep,codeAny_func ?_⟩;obtain⟨t,Z,O⟩:=c A outer s H vs Q E (p.deeper _) i;have I:Inv (Bj CX P w K mg base N qual scope f cdv A outer s H E) [] (CW N vs) H F:=aZ S p.hd j hl r x;refine wpAny_mono (Z [] F (CW N vs) H _ I O) (λfl s' d=>?_) λe s' d=>d
 have h:∀{σ':St}{H':Hp}{v:V}{u:Value},Inv (Bj CX P w K mg base N qual scope f cdv A outer s H E) [] σ' H' s'->RelV v u->Q v H'->CE outer P w H s Q u s' :=
  λ{σ' H' v u}J m q=>⟨v,H',J.os,J.bare,J.base,J.hok,m,q⟩
 cases fl with
 | ret u =>
  obtain⟨v,σ',H',J,m,q⟩:=d;exact h J m q
 | next =>
  obtain⟨σ',H',J,q⟩:=d;exact h (v:=V.non) (u:=Value.none) J rfl q
 | brk =>
  obtain⟨_,_,_,q⟩:=d;exact Ql q
 | cont =>
  obtain⟨_,_,_,q⟩:=d;exact Ql q
section
variable {X:Cx} {x:Str} {p pos:Pos} {e:Expr} {es:List Expr} {t:TA} {id T:String} {r:List V->Hp->VK->Prop}
def tCB(r:List V->Hp->VK->Prop)(t:TA):TE:=λσ H Q=>t σ H λvs H1=>r vs H1 Q
theorem a5(hc:CallR X (.builtin id) r)(f:Gl X x)(k:X.mg x=none)(m:bootBuiltins x=some (.builtin id))(i:PA X (e::es) t)(j:x≠"__name__":=by decide)(a:(x==("__debug__":Str))=false:=by decide)
  (d:starEach (e::es) X.env=(false,eval e X.env)::starEach es X.env:=by rfl) (b:(backTo pos (starEach es X.env)).any (·.1)=false:=by rfl):PE X (.Call (.Name x p) (e::es) [] pos) (tCB r t):=by
 intro pins s σ H Q I h;refine wpAny_Call_Name_kw (Cc I f k m ?_ j a);exact PyProof.Rows.callWith_builtin1 (thn (i pos pins s σ H _ I h) (by rintro g l ⟨n,H1,c,r1,q1⟩;exact hc pins l σ H1 n g Q c r1 q1)) d b
theorem a6(hc:CallR X (.type T) r)(f:Gl X x)(k:X.mg x=none)(m:bootBuiltins x=some (.type T))(i:PA X (e::es) t)(j:x≠"__name__":=by decide)(a:(x==("__debug__":Str))=false:=by decide)
  (d:starEach (e::es) X.env=(false,eval e X.env)::starEach es X.env:=by rfl) (b:(backTo pos (starEach es X.env)).any (·.1)=false:=by rfl):PE X (.Call (.Name x p) (e::es) [] pos) (tCB r t):=by
 intro pins s σ H Q I h;refine wpAny_Call_Name_kw (Cc I f k m ?_ j a);exact Qh (thn (i pos pins s σ H _ I h) (by rintro g l ⟨n,H1,c,r1,q1⟩;exact hc pins l σ H1 n g Q c r1 q1)) d b
end
end L2
namespace HT
open PySem PyProof.Rows
section
open PySem.SeqAt
open PySem.AutoSeq1 (wpAny_loadPart')
open PySem.MeetsSeq PySem.MeetsSeq2 PySem.MeetsSeq3
end
section
variable {prog:Program} {w:World} {A:Around} {E:Value->Shared->Prop} {s:Shared}
variable {t:Addr}{Q:Value->Shared->Prop}
theorem cat_tup{b:Addr}{vs a:List Value}(u:IsTup s.heap t vs.toArray)(r:IsTup s.heap b a.toArray)(p:vs≠[])
  (h1:a=[]->Q (.ref t) s) (h2:a≠[]->Q (.ref s.heap.objs.size) {s with heap:=s.heap.push {cls:=.type "tuple",data:=.seq (vs++a).toArray}})
  (j:vs.length+a.length<=sizeLine):wpAny (model prog w) A (binaryOp .Add (.ref t) (.ref b)) Q E s:=by
 obtain⟨⟨cls,m,data,l⟩,i,hc,n,hd⟩:=id u;obtain⟨⟨o,f,k,h⟩,c,d,q,g⟩:=id r;simp only at hc hd d g;subst hc hd d g;have e:vs.toArray++a.toArray=(vs++a).toArray:=by simp
 by_cases hw:a=[]
 ·exact concat_meets ⟨_,i,rfl⟩ ⟨_,c,rfl⟩ noFill_tuple_add seq_tuple_add PySem.F.slot_tuple_add PySem.F.entry_tuple_add (PySem.F.args_tuple_add_2 _ _)
   (tuple_addW1 t b vs.toArray a.toArray n q m f l h (by simpa using p) (by simp[hw])) ⟨i,c,h1 hw⟩
 ·refine concat_meets ⟨_,i,rfl⟩ ⟨_,c,rfl⟩ noFill_tuple_add seq_tuple_add PySem.F.slot_tuple_add PySem.F.entry_tuple_add (PySem.F.args_tuple_add_2 _ _)
   (tuple_addW2 t b vs.toArray a.toArray n q m f l h (by simpa using p) (by simpa using hw) (by rw[Yn,Yn];exact j)) ⟨i,c,?_⟩
  rw[e];exact h2 hw
def sIx(n d:Nat):Option Int->Nat
 | none=>d
 | some v=>if v < 0 then(v+(n:Int)).toNat else min v.toNat n
theorem sIx_none(n d:Nat):sIx n d none=d:=rfl
theorem sIx_nat(n d k:Nat):sIx n d (some (k:Int))=min k n:=by
 show(if(k:Int) < 0 then((k:Int)+(n:Int)).toNat else min (k:Int).toNat n)=min k n;rw[if_neg (by omega),Int.toNat_natCast]
theorem a7(n d:Nat)(hd:d<=n)(o:Option Int):sIx n d o<=n:=by
 cases o with
 | none=>exact hd
 | some v =>
  show(if v < 0 then(v+(n:Int)).toNat else min v.toNat n)<=n;by_cases a:v < 0
  ·rw[if_pos a];omega
  ·rw[if_neg a];exact Nat.min_le_right _ _
theorem Oq(v:Int)(n d:Nat):(if v < 0 then max (v+(n:Int)) 0 else min v (n:Int))=((sIx n d (some v):Nat):Int):=by
 show(if v < 0 then max (v+(n:Int)) 0 else min v (n:Int))=(((if v < 0 then(v+(n:Int)).toNat else min v.toNat n):Nat):Int);by_cases a:v < 0
 ·simp only[if_pos a];omega
 ·simp only[if_neg a];omega
theorem a8(lo hi:Option Int)(n:Nat):Builtin.Slice.sliceAdjust lo hi 1 (n:Int)=(((sIx n 0 lo:Nat):Int),((sIx n n hi:Nat):Int)):=by
 have h1:¬ ((1:Int) < 0):=by omega
 unfold Builtin.Slice.sliceAdjust;simp only[h1,if_false];refine Prod.ext ?_ ?_
 ·cases lo with
  | none=>rfl
  | some v=>exact Oq v n 0
 ·cases hi with
  | none=>rfl
  | some v=>exact Oq v n n
theorem a9(i j:Nat):Builtin.Slice.slicePlaces (i:Int) (j:Int) 1=j - i:=by
 unfold Builtin.Slice.slicePlaces;have h1:(1:Int) > 0:=by omega
 simp only[h1,if_true,Int.ediv_one];split <;> omega
theorem Os{v:Value}{o:Option Int}{Q:Option Int->Shared->Prop}(p:IsPart v o)(h:Q o s):wpAny (model prog w) A (Builtin.Slice.slicePartIndex v) Q E s:=by
 cases p with
 | none=>exact slicePart_none h
 | int i t=>exact slicePart_int h
variable {lo hi:Option Int}
theorem Ot{e:Addr}{c d:Value}{n:Nat}{Q:Int×Int×Nat->Shared->Prop}(f:s.heap.IsSliceOf e c d .none)(pl:IsPart c lo)(i:IsPart d hi)
  (h:Q (((sIx n 0 lo:Nat):Int),1,sIx n n hi - sIx n 0 lo) s):wpAny (model prog w) A (Builtin.Slice.sliceApplied (.ref e) (pure (n:Int))) Q E s:=by
 obtain⟨os,b,g,a⟩:=id f;unfold Builtin.Slice.sliceApplied Builtin.Slice.sliceFields;refine Qm (Qm (wpAny_field b a (x:=c) rfl (Qm (wpAny_field b a (x:=d) rfl (Qm (wpAny_field b a (x:=.none) rfl (Qn ?_)))))));refine Qm (slicePart_none ?_);show wpAny _ _ (if((1:Int)==0)=true then _ else _) _ _ s;rw[if_neg (by decide)];refine Qm (Os pl (Qm (Os i (Qm (Qn ?_)))));show wpAny _ _ (match Builtin.Slice.sliceAdjust lo hi 1 (n:Int)with |(lo,hi)=>pure (lo,(1:Int),Builtin.Slice.slicePlaces lo hi 1)) _ _ s;rw[a8 lo hi n];show wpAny _ _ (pure (((sIx n 0 lo:Nat):Int),(1:Int),Builtin.Slice.slicePlaces ((sIx n 0 lo:Nat):Int) ((sIx n n hi:Nat):Int) 1)) _ _ s;rw[a9];exact Qn h
theorem ba(xs:Array Value)(i k:Nat):((List.range k).filterMap λ(m:Nat)=>xs[((i:Int)+(m:Int)*1).toNat]?).toArray=((xs.toList.drop i).take k).toArray:=by
 have e:(λ(m:Nat)=>xs[((i:Int)+(m:Int)*1).toNat]?)=λm=>xs[i+m]?:=by
  funext m;have:((i:Int)+(m:Int)*1).toNat=i+m:=by omega
  rw[this]
 rw[e];have:=pick_run xs i k;rw[List.filterMap_map]at this;have a:((λx=>xs[x]?)∘λx=>i+x)=λm=>xs[i+m]?:=rfl;rw[a]at this;rw[this]
theorem getItem_tuple_cut{c:Addr}{items:Array Value}{k j:Value}(b:IsTup s.heap t items)(i:s.heap.IsSliceOf c k j .none)(pl:IsPart k lo)(n:IsPart j hi)
  (hw:¬ (sIx items.size 0 lo=0/\sIx items.size items.size hi=items.size))
  (h:Q (.ref s.heap.objs.size) {s with heap:=s.heap.push {cls:=.type "tuple",data:=.seq ((items.toList.drop (sIx items.size 0 lo)).take (sIx items.size items.size hi - sIx items.size 0 lo)).toArray}})
  (o:items.size<=sizeLine):wpAny (model prog w) A (getItem (.ref t) (.ref c)) Q E s:=by
 have a:sizeOk (.seq ((items.toList.drop (sIx items.size 0 lo)).take (sIx items.size items.size hi - sIx items.size 0 lo)).toArray):=by
  show((items.toList.drop (sIx items.size 0 lo)).take (sIx items.size items.size hi - sIx items.size 0 lo)).toArray.size<=sizeLine;rw[Yn,List.length_take,List.length_drop,YW];omega
 have p:sIx items.size items.size hi<=items.size:=a7 _ _ (Yr _) hi;obtain⟨os,d,f,l⟩:=id i;have e:s.TypeIs (.ref c) "slice":=⟨os,d,f⟩;unfold getItem
 try with_reducible refine wpAny_holding ?_
 first | refine Qm (Qn ?_)| skip
 refine Qm (wpAny_sequenceKey b.typeIs (by decide) ?_)
 refine Qm (wpAny_callSpecial?_slot (name:=Str.ofString "__getitem__") b.typeIs PyProof.Rows.slot_tuple_getitem
  (wpAny_call_entry PyProof.Rows.slot_tuple_getitem b.typeIs entry_tuple_getitem ?_ (args_tuple_getitem _ _)))
 show wpAny _ _ (Builtin.Tuple.tupleItemsOf (.ref t) >>=_) _ _ s;refine Qm (tupleItemsOf_ b ?_);refine Qm (wpAny_typeOf e ?_);rw[if_pos (by decide)];refine Qm (Ot i pl n ?_)
 have g:¬ ((((sIx items.size 0 lo:Nat):Int)==0&&(1:Int)==1&&(sIx items.size items.size hi - sIx items.size 0 lo)==items.size)=true):=by
  intro q;rw[YH,YH]at q;have q1:((sIx items.size 0 lo:Nat):Int)=0:=eq_of_beq q.1.1;have q2:sIx items.size items.size hi - sIx items.size 0 lo=items.size:=eq_of_beq q.2;exact hw ⟨by omega,by omega⟩
 show wpAny _ _ (if(((sIx items.size 0 lo:Nat):Int)==0&&(1:Int)==1&&(sIx items.size items.size hi - sIx items.size 0 lo)==items.size)=true then _ else _) _ _ s;rw[if_neg g,ba]
 first
  | exact Qm (m:=Builtin.Tuple.tupleExact _) (wpAny_newObj_type (Qn ⟨_,rfl,Qn h⟩) a)
  | exact Qm (m:=Builtin.Tuple.tupleExact _) (wpAny_newObj_type (Qm (Qn (Qn ⟨_,rfl,Qn h⟩))) a)
  | exact Qm (Qm (m:=Builtin.Tuple.tupleExact _) (wpAny_newObj_type (Qn (Qn ⟨_,rfl,Qn h⟩)) a))
  | exact Qm (Qm (m:=Builtin.Tuple.tupleExact _) (wpAny_newObj_type (Qn ⟨_,rfl,Qn h⟩) a))
end
end HT
namespace L2
open PySem PySem.Spec PyProof.Rows
abbrev TO:=St->Hp->(Option Int->Hp->Prop)->Prop
def PO(X:Cx)(e:Option Expr)(t:TO):Prop :=
 ∀(pins:List (Addr×Obj))(s:Shared)(σ:St)(H:Hp)(Q:Option Int->Hp->Prop),Inv X pins σ H s->t σ H Q->
  wpAny (model X.prog X.w) X.A (evalPart e X.env) (λu s'=>∃ o H',Inv X pins σ H' s'/\IsPart u o/\Q o H') X.xe s
def bb:TO:=λ_ H Q=>Q none H
def bc(t:TE):TO:=λσ H Q=>t σ H λx H1=>∃ i,x=.int i/\Q (some i) H1
section
variable {X:Cx} {e:Expr} {te:TE} {lo hi:Option Expr} {tl th:TO} {pos p2:Pos}
theorem bd:PO X none bb:=by
 intro pins s σ H Q I h;rw[evalPart_none];exact Qn ⟨none,H,I,.none,h⟩
theorem be(h:PE X e te):PO X (some e) (bc te):=by
 intro pins s σ H Q I hw;rw[evalPart_some];refine thn (h pins s σ H _ I hw) λu c a=>?_;obtain⟨x,H1,b,r1,q1⟩:=a;obtain⟨i,rfl,q⟩:=q1;obtain⟨t,rfl⟩:=r1;exact⟨some i,H1,b,.int i t,q⟩
def SlR(X:Cx)(r:V->Option Int->Option Int->Hp->VK->Prop):Prop :=
 ∀(pins:List (Addr×Obj))(s:Shared)(σ:St)(H:Hp)(x:V)(v vl vu:Value)(lo hi:Option Int)(sl:Addr)(Q:VK),Inv X pins σ H s->RelV x v->s.heap.IsSliceOf sl vl vu .none->IsPart vl lo->IsPart vu hi->r x lo hi H Q->
  ∃ T id,typeLookup (.type T) "__getitem__"=pure (some (.builtin id))/\s.TypeIs v T/\wpAny (model X.prog X.w) X.A (getItem v (.ref sl)) (EP X pins σ Q) X.xe s
variable {r:V->Option Int->Option Int->Hp->VK->Prop}
theorem SlR.or{r':V->Option Int->Option Int->Hp->VK->Prop}(h:SlR X r)(h':SlR X r'):SlR X (λx lo hi H Q=>r x lo hi H Q\/r' x lo hi H Q):=by
 intro pins s σ H x v d e lo hi b Q I a c pl f q;rcases q with q | q
 ·exact h pins s σ H x v d e lo hi b Q I a c pl f q
 ·exact h' pins s σ H x v d e lo hi b Q I a c pl f q
def tSl(r:V->Option Int->Option Int->Hp->VK->Prop)(te:TE)(tl th:TO):TE:=λσ H Q=>te σ H λx H1=>tl σ H1 λl H2=>th σ H2 λu H3=>r x l u H3 Q
theorem Ou(t:SlR X r)(o:PE X e te)(hl:PO X lo tl)(j:PO X hi th):PE X (.Subscript e (.Slice lo hi none p2) pos) (tSl r te tl th):=by
 intro pins s σ H Q I h;refine Subscript_ (thn (o pins s σ H _ I h) λv n c=>?_);obtain⟨x,H1,p,r1,q1⟩:=c;refine wpAny_Slice (thn (hl pins n σ H1 _ p q1) λf k⟨l,H2,z,pl,q2⟩=>thn (j pins k σ H2 _ z q2) λd a⟨u,g,m,i,q3⟩=>?_);rw[evalPart_none];refine Qn ?_;have B:Inv X pins σ g {a with heap:=a.heap.push {cls:=.type "slice",data:=.fields #[f,d,.none]}}:=m.kept (t':=a.toks) λb F q=>Qo _ q;obtain⟨T,id,E,y,D⟩:=t pins {a with heap:=a.heap.push {cls:=.type "slice",data:=.fields #[f,d,.none]}} σ g x v f d l u a.heap.objs.size Q B r1 (Heap.IsSliceOf.new ..) pl i q3;show wpAny (model X.prog X.w) X.A (subscriptTail e (.Slice lo hi none p2) v (.ref a.heap.objs.size)) (EP X pins σ Q) X.xe {a with heap:=a.heap.push {cls:=.type "slice",data:=.fields #[f,d,.none]}};exact tail_any (ops:=[.ref a.heap.objs.size,v]) y E D (by with_unfolding_all rfl)
def DN(xs:List V)(lo hi:Option Int):List V:=(xs.drop (HT.sIx xs.length 0 lo)).take (HT.sIx xs.length xs.length hi - HT.sIx xs.length 0 lo)
theorem Ov(xs:List V)(lo hi:Option Int):(DN xs lo hi).length<=xs.length:=by
 unfold DN;rw[List.length_take,List.length_drop];omega
def Kb(K:PySem.W.Frag):V->Option Int->Option Int->Hp->VK->Prop:=λx lo hi H Q=>∃ a xs,x=.ref a/\SqT K H a xs/\
 ¬ (HT.sIx xs.length 0 lo=0/\HT.sIx xs.length xs.length hi=xs.length)/\∀ p,H p=none->Q (.ref p) (upd H p (.tup (DN xs lo hi)))
theorem Ow:SlR X (Kb X.K):=by
 intro pins s σ H x v m p lo hi l Q I g i pl k h;obtain⟨a,xs,rfl,j,hw,q⟩:=h;cases g;obtain⟨d,r,e,f⟩:=I.tuple j;have c:d.toArray.size=xs.length:=by rw[Yn];exact r.length.symm
 refine⟨"tuple",_,PyProof.Rows.slot_tuple_getitem.lookup,e.typeIs,?_⟩;refine HT.getItem_tuple_cut e i pl k (by rw[c];exact hw) ?_ (by rw[c];exact f);rw[c];refine⟨.ref s.heap.objs.size,_,I.laid (t':=s.toks) (o:=.tup (DN xs lo hi)) (λb n q=>Qo _ q) (Yr _) ?_,rfl,q _ (I.hok.fresh (Yr _))⟩;exact⟨Yt (Ov xs lo hi) f,_,(r.drop (HT.sIx xs.length 0 lo)).take (HT.sIx xs.length xs.length hi - HT.sIx xs.length 0 lo),TupP.new _ _⟩
def Kc(K:PySem.W.Frag):R2:=λx y H Q=>∃ a b xs ys,x=.ref a/\y=.ref b/\SqT K H a xs/\SqT K H b ys/\xs≠[]/\xs.length+ys.length<=sizeLine/\
 (ys=[]->Q (.ref a) H)/\(ys≠[]->∀ p,H p=none->Q (.ref p) (upd H p (.tup (xs++ys))))
theorem Vals.nil_iff{xs:List V}{us:List Value}(r:Vals xs us):us=[]↔xs=[]:=by
 cases r with
 | nil=>simp
 | cons _ _=>simp
theorem bf:OpR X (binaryOp .Add) (Kc X.K):=by
 intro pins s σ H x y v u Q I f g h;obtain⟨a,b,xs,ys,rfl,rfl,l,j,k,e,q1,q2⟩:=h;cases f;cases g;obtain⟨i,r1,p1,_⟩:=I.tuple l;obtain⟨d,c,p2,_⟩:=I.tuple j;refine HT.cat_tup p1 p2 (λz=>k (r1.nil_iff.mp z)) (λz=>⟨.ref a,H,I,rfl,q1 (c.nil_iff.mp z)⟩) (λz=>?_) (by rw[<- r1.length,<- c.length];exact e);refine⟨.ref s.heap.objs.size,_,I.laid (t':=s.toks) (o:=.tup (xs++ys)) (λb m q=>Qo _ q) (Yr _) ?_,rfl,q2 (λw=>z (c.nil_iff.mpr w)) _ (I.hok.fresh (Yr _))⟩;exact⟨by rw[Yj];exact e,_,r1.append c,TupP.new _ _⟩
end
def ixN(n:Nat)(i:Int):Option Nat:=if 0<=i then(if i < n then some i.toNat else none)else if -(n:Int)<=i then some (i+n).toNat else none
def atI{α:Type}(xs:List α)(i:Int):Option α:=(ixN xs.length i).bind λj=>xs[j]?
variable {i:Int}{j:Nat}
theorem Ox{n:Nat}(h:ixN n i=some j):seqIndex? i n=some j/\j < n/\-(n:Int)<=i/\i < n:=by
 unfold ixN at h;by_cases a:0<=i
 ·rw[if_pos a]at h;by_cases h1:i < n
  ·rw[if_pos h1]at h;have e:i.toNat=j:=YF h;exact⟨by rw[seqIndex_of a h1,e],by omega,by omega,h1⟩
  ·rw[if_neg h1]at h;cases h
 ·rw[if_neg a]at h;by_cases h1:-(n:Int)<=i
  ·rw[if_pos h1]at h;have e:(i+n).toNat=j:=YF h;exact⟨by rw[seqIndex_neg (by omega) h1,e],by omega,h1,by omega⟩
  ·rw[if_neg h1]at h;cases h
theorem Ke{α:Type}{xs:List α}{v:α}(h:atI xs i=some v):∃ j,seqIndex? i xs.length=some j/\xs[j]?=some v/\j < xs.length/\-(xs.length:Int)<=i/\i < xs.length:=by
 unfold atI at h;cases e:ixN xs.length i with
 | none=>rw[e]at h;cases h
 | some j =>
  rw[e]at h;obtain⟨h1,h2,a,b⟩:=Ox e;exact⟨j,h1,h,h2,a,b⟩
theorem Ha{α:Type}{xs:List α}{v:α}(h:xs[j]?=some v):atI xs (j:Int)=some v:=by
 have a:j < xs.length:=(Qb.mp h).1
 have e:ixN xs.length (j:Int)=some j:=by
  unfold ixN;rw[if_pos (by omega),if_pos (by omega)];simp
 unfold atI;rw[e];exact h
def FW(b:Expr):Prop:=∀ o i,subscripted b false o i=operate [o,i] (getItem o i)
def IxR(X:Cx)(r:R2):Prop :=
 ∀(value slice:Expr)(pins:List (Addr×Obj))(s:Shared)(σ:St)(H:Hp)(x y:V)(v u:Value)(Q:VK),Inv X pins σ H s->RelV x v->RelV y u->r x y H Q->
  subscripted slice false v u=operate [v,u] (getItem v u)->wpAny (model X.prog X.w) X.A (subscriptTail value slice v u) (EP X pins σ Q) X.xe s
def MtR(X:Cx)(id:String)(r:V->List V->Hp->VK->Prop):Prop :=
 ∀(pins:List (Addr×Obj))(s:Shared)(σ:St)(H:Hp)(x:V)(xs:List V)(v:Value)(us:List Value)(Q:VK),Inv X pins σ H s->RelV x v->Vals xs us->r x xs H Q->
  wpAny (model X.prog X.w) X.A (call (.builtin id) (v::us)) (EP X pins σ Q) X.xe s
section
variable {X:Cx} {a b:Expr} {ta tb:TE} {pos:Pos}
variable {r:R2}
theorem IxR.or{r':R2}(h:IxR X r)(h':IxR X r'):IxR X (λx y H Q=>r x y H Q\/r' x y H Q):=by
 intro value slice pins s σ H x y v u Q I a b q c;rcases q with q | q
 ·exact h value slice pins s σ H x y v u Q I a b q c
 ·exact h' value slice pins s σ H x y v u Q I a b q c
theorem MtR.or{id:String}{r r':V->List V->Hp->VK->Prop}(h:MtR X id r)(h':MtR X id r'):MtR X id (λx xs H Q=>r x xs H Q\/r' x xs H Q):=by
 intro pins s σ H x xs v c Q I a b q;rcases q with q | q
 ·exact h pins s σ H x xs v c Q I a b q
 ·exact h' pins s σ H x xs v c Q I a b q
theorem bg(d:IxR X r)(j:PE X a ta)(i:PE X b tb)(f:FW b):PE X (.Subscript a b pos) (tOp r ta tb):=by
 intro pins s σ H Q I h;exact Subscript_ (GY j i I h λv u g x y H2 k c e q=>d a b pins g σ H2 x y v u Q k c e q (f _ _))
def Kf(K:PySem.W.Frag):R2:=λx y H Q=>∃ p xs i v,x=.ref p/\y=.int i/\SqL K H p xs/\atI xs i=some v/\Q v H
def Kg(K:PySem.W.Frag):R2:=λx y H Q=>∃ p xs i v,x=.ref p/\y=.int i/\SqT K H p xs/\atI xs i=some v/\Q v H
def Kh:R2:=λx y H Q=>∃ z i c,x=.str z/\y=.int i/\z.length<=sizeLine/\atI z.cps.toList i=some c/\Q (.str ⟨#[c]⟩) H
theorem bh:IxR X (Kf X.K):=by
 intro value slice pins s σ H x y v u Q I k o h e;obtain⟨p,xs,i,z,rfl,rfl,n,l,q⟩:=h;cases k;obtain⟨t,rfl⟩:=o;obtain⟨b,r,pl,D⟩:=I.list n;obtain⟨j,h1,h2,E,A,m⟩:=Ke l;obtain⟨w,g,d⟩:=r.get h2;have hl:=r.length;have B:=E5;have a:EP X pins σ Q w s:=⟨z,H,I,d,q⟩;by_cases f:0<=i
 ·have c:i.toNat=j:=by
   rw[seqIndex_of f m]at h1;exact YF h1
  exact item_listR pl.isList f (by omega) (by rw[c];simpa using g) a e
 ·have c:(i+(b.toArray.size:Int)).toNat=j:=by
   rw[seqIndex_neg (by omega) A]at h1;rw[Yn,<- hl];exact YF h1
  exact subscriptTail_builtinR (x:=w) pl.isList.typeIs slot_list_getitem.lookup
   (wpAny_getItem_list_neg (Q:=λr s'=>r=w/\EP X pins σ Q r s') pl.isList (by omega) (by rw[Yn] <;> omega) (by omega) (by rw[c];simpa using g) ⟨rfl,a⟩) e
theorem bi:IxR X (Kg X.K):=by
 intro value slice pins s σ H x y v u Q I c f h k;obtain⟨p,xs,i,z,rfl,rfl,e,d,q⟩:=h;cases c;obtain⟨t,rfl⟩:=f;obtain⟨g,r,pl,o⟩:=I.tuple e;obtain⟨j,h1,h2,A,B,m⟩:=Ke d;obtain⟨w,l,b⟩:=r.get h2;have hl:=r.length;have n:=E5;have a:EP X pins σ Q w s:=⟨z,H,I,b,q⟩
 exact subscriptTail_builtinR (x:=w) pl.typeIs slot_tuple_getitem.lookup
  (getItem_tuple (j:=j) (Q:=λr s'=>r=w/\EP X pins σ Q r s') pl (by omega) (by omega) (by rw[Yn,<- hl];exact h1) (by simpa using l) ⟨rfl,a⟩) k
theorem bj:IxR X Kh:=by
 intro value slice pins s σ H x y v u Q I e f h g;obtain⟨z,i,c,rfl,rfl,n,b,q⟩:=h;obtain⟨t,rfl⟩:=e;obtain⟨t',rfl⟩:=f;obtain⟨j,h1,h2,o,l,d⟩:=Ke b;have hl:z.cps.toList.length=z.length:=by simp[Str.length]
 rw[hl]at h1 l d;have m:=E5
 exact tail_any (typeIs_str s z t) slot_str_getitem.lookup (getItem_str (c:=c) (by
  have a:decide (i < -(2 ^ 63:Int))=false:=decide_eq_false (by omega);have k:decide (i>=2 ^ 63)=false:=decide_eq_false (by omega);rw[a,k,Bool.or_false]) (by rw[h1];simpa using h2) ⟨.str ⟨#[c]⟩,H,I.tok _,⟨_,rfl⟩,q⟩) g
theorem bn(a:List Value)(n j:Nat)(u:Value):Obj.mapSeq (·.setIfInBounds j u) {cls:=.type "list",data:=.seq a.toArray n}={cls:=.type "list",data:=.seq (a.set j u).toArray n}:=by
 simp[Obj.mapSeq]
variable {pins:List (Addr×Obj)}{σ:St}{H:Hp}{s:Shared}{p:Addr}{xs:List V}
theorem Inv.lst(I:Inv X pins σ H s)(h:H p=some (.lst xs)):
  ∃(a:List Value)(n:Nat),Vals xs a/\s.heap.get? p=some {cls:=.type "list",data:=.seq a.toArray n}/\xs.length<=sizeLine:=by
 obtain⟨z,a,n,r,e⟩:=I.hok p _ h;exact⟨a,n,r,e,z⟩
theorem Inv.lstUpd{ys:List V}{a its':List Value}{n c:Nat}{f:Obj->Obj}(I:Inv X pins σ H s)(h:H p=some (.lst xs))
  (j:s.heap.get? p=some {cls:=.type "list",data:=.seq a.toArray n}) (d:f {cls:=.type "list",data:=.seq a.toArray n}={cls:=.type "list",data:=.seq its'.toArray c}) (r:Vals ys its') (i:ys.length<=sizeLine) (t:Nat):
  Inv X pins σ (upd H p (.lst ys)) {s with heap:=s.heap.update p f,toks:=t}:=by
 have e:(s.heap.update p f).get? p=some {cls:=.type "list",data:=.seq its'.toArray c}:=by
  rw[Qt f j (by rw[d] <;> rfl),d]
 refine I.write (x:=p) (e:=p) (by rw[h];trivial) (.inl rfl) (λb u g q=>(Heap.get?_update_other _ _ (YZ g)).trans q) ⟨_,e⟩ ?_;exact⟨i,its',c,r,e⟩
def Oy:V->V->V->Hp->(Hp->Prop)->Prop:=λo i v H Q=>∃ p xs k j,o=.ref p/\i=.int k/\H p=some (.lst xs)/\ixN xs.length k=some j/\Q (upd H p (.lst (xs.set j v)))
theorem bo:JZ X Oy:=by
 intro pins s σ H o i v B D u Q I m w x h;obtain⟨p,xs,k,j,rfl,rfl,d,z,q⟩:=h;cases m;obtain⟨t,rfl⟩:=w;obtain⟨a,n,r,b,y⟩:=I.lst d;obtain⟨h1,h2,e,g⟩:=Ox z;have hl:=r.length;have A:=E5
 have f:Inv X pins σ (upd H p (.lst (xs.set j v))) {s with heap:=s.heap.update p (Obj.mapSeq (·.setIfInBounds j u))}:=
  I.lstUpd d b (bn a n j u) (r.set x j) (by rw[List.length_set];exact y) s.toks
 by_cases l:0<=k
 ·have c:k.toNat=j:=by
   rw[seqIndex_of l g]at h1;exact YF h1
  exact PySem.W.ki_setAt b l (by omega) (by rw[Yn,<- hl];exact g) (by rw[c];exact⟨_,f,q⟩)
 ·have c:(k+(a.toArray.size:Int)).toNat=j:=by
   rw[seqIndex_neg (by omega) e]at h1;rw[Yn,<- hl];exact YF h1
  exact PySem.W.ki_setBack b (by omega) (by rw[Yn,<- hl];exact e) (by omega) (by rw[c];exact⟨_,f,q⟩)
theorem bp(lo hi:Option Int)(n:Nat):(sliceBounds lo hi none n).1=((HT.sIx n 0 lo:Nat):Int)/\(sliceBounds lo hi none n).2.1=((HT.sIx n n hi:Nat):Int)/\(sliceBounds lo hi none n).2.2=1:=by
 refine⟨?_,?_,rfl⟩
 ·cases lo with
  | none=>simp[sliceBounds,HT.sIx]
  | some i =>
   simp only[sliceBounds,HT.sIx,Option.getD_none,show(1:Int) > 0 by decide,if_true];by_cases h:i < 0
   ·simp only[h,if_true] <;> omega
   ·simp only[h,if_false] <;> omega
 ·cases hi with
  | none=>simp[sliceBounds,HT.sIx]
  | some i =>
   simp only[sliceBounds,HT.sIx,Option.getD_none,show(1:Int) > 0 by decide,if_true];by_cases h:i < 0
   ·simp only[h,if_true] <;> omega
   ·simp only[h,if_false] <;> omega
theorem bq(a:List Value)(lo hi:Option Int):slicePick a.toArray lo hi none=((a.drop (HT.sIx a.length 0 lo)).take (HT.sIx a.length a.length hi - HT.sIx a.length 0 lo)).toArray:=by
 obtain⟨h1,h2,b⟩:=bp lo hi a.toArray.size;unfold slicePick;rw[h1,h2,b];simp only[sliceRange_one,pick_run,Yn] <;> rfl
def Ki(K:PySem.W.Frag):V->Option Int->Option Int->Hp->VK->Prop:=λx lo hi H Q=>∃ a xs,x=.ref a/\SqL K H a xs/\∀ p,H p=none->Q (.ref p) (upd H p (.lst (DN xs lo hi)))
theorem Oz:SlR X (Ki X.K):=by
 intro pins s σ H x v m p lo hi l Q I e g pl k h;obtain⟨a,xs,rfl,i,q⟩:=h;cases e;obtain⟨f,r,d,j⟩:=I.list i;have c:=r.length;refine⟨"list",_,slot_list_getitem.lookup,d.isList.typeIs,?_⟩;refine wpAny_getItem_list_slice d.isList g pl k .none (by simp) ?_ (by rw[Yn] <;> omega);rw[bq,<- c];refine⟨.ref s.heap.objs.size,_,I.laid (t':=s.toks) (o:=.lst (DN xs lo hi)) (λb n q=>Qo _ q) (Yr _) ?_,rfl,q _ (I.hok.fresh (Yr _))⟩;exact⟨Yt (Ov xs lo hi) j,_,0,(r.drop (HT.sIx xs.length 0 lo)).take (HT.sIx xs.length xs.length hi - HT.sIx xs.length 0 lo),Qq _ rfl⟩
def C7:V->Bool
 | .non=>true
 | .bl _=>true
 | .int _=>true
 | .str _=>true
 | _=>false
def eqV:V->V->Bool
 | .non,.non=>true
 | .bl a,.bl b=>a==b
 | .bl a,.int b=>(if a then 1 else 0)==b
 | .int a,.bl b=>a==(if b then 1 else 0)
 | .int a,.int b=>a==b
 | .str a,.str b=>a==b
 | _,_=>false
variable {y x:V}{u v:Value}
theorem FX{A:Around}(e:RelV y u)(c:RelV x v)(f:C7 y=true)(d:C7 x=true):SeqAt.EqAt A s u v (eqV y x):=by
 cases y with
 | non =>
  cases e;cases x with
  | non=>cases c;exact SeqAt.EqAt.same _
  | bl b=>cases c;exact SeqAt.EqAt.none_bool b
  | int b=>obtain⟨t,rfl⟩:=c;exact SeqAt.EqAt.none_int b t
  | str b=>obtain⟨t,rfl⟩:=c;exact SeqAt.EqAt.none_str b t
  | _=>exact absurd (show false=true from d) YX
 | bl a =>
  cases e;cases x with
  | non=>cases c;exact SeqAt.EqAt.bool_none a
  | bl b=>cases c;exact SeqAt.EqAt.bool_bool a b
  | int b=>obtain⟨t,rfl⟩:=c;exact SeqAt.EqAt.bool_int a b t
  | str b=>obtain⟨t,rfl⟩:=c;exact SeqAt.EqAt.bool_str a b t
  | _=>exact absurd (show false=true from d) YX
 | int a =>
  obtain⟨t',rfl⟩:=e;cases x with
  | non=>cases c;exact SeqAt.EqAt.int_none a t'
  | bl b=>cases c;exact SeqAt.EqAt.int_bool a t' b
  | int b=>obtain⟨t,rfl⟩:=c;exact SeqAt.EqAt.int_int a t' b t
  | str b=>obtain⟨t,rfl⟩:=c;exact SeqAt.EqAt.int_str a t' b t
  | _=>exact absurd (show false=true from d) YX
 | str a =>
  obtain⟨t',rfl⟩:=e;cases x with
  | non=>cases c;exact SeqAt.EqAt.str_none a t'
  | bl b=>cases c;exact SeqAt.EqAt.str_bool a t' b
  | int b=>obtain⟨t,rfl⟩:=c;exact SeqAt.EqAt.str_int a t' b t
  | str b=>obtain⟨t,rfl⟩:=c;exact SeqAt.EqAt.str_str a t' b t
  | _=>exact absurd (show false=true from d) YX
 | _=>exact absurd (show false=true from f) YX
def eqU(x:V)(u:Value):Bool:=match u with
 | .none=>eqV .non x
 | .bool b=>eqV (.bl b) x
 | .int i _=>eqV (.int i) x
 | .str z _=>eqV (.str z) x
 | _=>false
theorem OA(r:RelV y u)(f:C7 y=true):eqU x u=eqV y x:=by
 cases y with
 | non=>cases r;rfl
 | bl b=>cases r;rfl
 | int i=>obtain⟨t,rfl⟩:=r;rfl
 | str z=>obtain⟨t,rfl⟩:=r;rfl
 | _=>exact absurd (show false=true from f) YX
theorem Kj{x:V}:∀{xs:List V}{us:List Value},Vals xs us->xs.all C7=true->us.any (eqU x)=xs.any λy=>eqV y x
 | _,_,.nil,_=>rfl
 | y::xs,u::us,.cons r t,f=>by
  rw[List.all_cons,YH]at f;rw[List.any_cons,List.any_cons,OA r f.1,Kj t f.2]
theorem Kk{A:Around}{s:Shared}{x:V}{v:Value}(b:RelV x v)(c:C7 x=true):∀{xs:List V}{us:List Value},Vals xs us->xs.all C7=true->∀ u∈us,SeqAt.EqAt A s u v (eqU x u)
 | _,_,.nil,_=>λu a=>by cases a
 | y::xs,u::us,.cons r t,f=>λd a=>by
  rw[List.all_cons,YH]at f;walk_at "pf"
  ·rw[OA r f.1];exact FX r b f.1 c
  ·exact Kk b c t f.2 d a
def inV(x:V)(xs:List V):Bool:=xs.any λy=>eqV y x
def rIn(K:PySem.W.Frag)(neg:Bool):R2:=λx y H Q=>∃ p xs,y=.ref p/\(SqL K H p xs\/SqT K H p xs)/\C7 x=true/\xs.all C7=true/\Q (.bl (if neg then !inV x xs else inV x xs)) H
theorem br:OpR X (compareOp .In) (rIn X.K false):=by
 intro pins s σ H x y v u Q I c e h;obtain⟨p,xs,rfl,b,d,fs,q⟩:=h;cases e;rcases b with b | b
 ·obtain⟨a,r,pl,f⟩:=I.list b;refine SeqAt.in_listAt (eqU x) pl.isList (λw hw=>Kk c d r fs w (by simpa using hw)) ⟨.bl _,H,I,rfl,?_⟩;rw[show a.toArray.any (eqU x)=a.any (eqU x) by simp,Kj r fs];exact q
 ·obtain⟨a,r,pl,f⟩:=I.tuple b;refine SeqAt.in_tupleAt (eqU x) pl (λw hw=>Kk c d r fs w (by simpa using hw)) ⟨.bl _,H,I,rfl,?_⟩;rw[show a.toArray.any (eqU x)=a.any (eqU x) by simp,Kj r fs];exact q
theorem CallR.or{f:Value}{r r':List V->Hp->VK->Prop}(h:CallR X f r)(h':CallR X f r'):CallR X f (λxs H Q=>r xs H Q\/r' xs H Q):=by
 intro pins s σ H xs b Q I a q;rcases q with q | q
 ·exact h pins s σ H xs b Q I a q
 ·exact h' pins s σ H xs b Q I a q
theorem bu:CallR X (.type "list") (λxs H Q=>∃ p ys,xs=[.ref p]/\(SqL X.K H p ys\/SqT X.K H p ys)/\∀ l,H l=none->Q (.ref l) (upd H l (.lst ys))):=by
 intro pins s σ H xs m Q I r h;obtain⟨p,ys,rfl,d,q⟩:=h;obtain⟨u,rfl,k⟩:=C6 r;cases k
 have f:∀(a:List Value),Vals ys a->ys.length<=sizeLine->∀(h':Heap)(c:Nat),(∀ b o',s.heap.get? b=some o'->h'.get? b=some o')->
   h'.get? s.heap.objs.size=some {cls:=.type "list",dict:=none,data:=.seq a.toArray c,slots:=#[]}->EP X pins σ Q (.ref s.heap.objs.size) {s with heap:=h'}:=λa r' g h' c kp e=>
  ⟨.ref s.heap.objs.size,_,I.laid (t':=s.toks) kp (Yr _) (show ObjOk X.prog X.w _ h' _ (.lst ys)from⟨g,a,c,r',e⟩),rfl,q _ (I.hok.fresh (Yr _))⟩
 rcases d with d | d
 ·obtain⟨a,r',pl,g⟩:=I.list d;have i:=r'.length;obtain⟨o,j,hc,n,hd⟩:=pl.isList;exact call_list_seq p (.inl rfl) j hc hd (λh' c kp e=>f a r' g h' c kp e) (by simp only[Yn] <;> omega)
 ·obtain⟨a,r',pl,g⟩:=I.tuple d;have i:=r'.length;obtain⟨o,j,hc,n,hd⟩:=pl;exact call_list_seq p (.inr rfl) j hc hd (λh' c kp e=>f a r' g h' c kp e) (by simp only[Yn] <;> omega)
theorem bv:CallR X (.type "tuple") (λxs H Q=>∃ p ys,xs=[.ref p]/\((SqL X.K H p ys/\∀ l,H l=none->Q (.ref l) (upd H l (.tup ys)))\/(SqT X.K H p ys/\Q (.ref p) H))):=by
 intro pins s σ H xs k Q I r h;obtain⟨p,ys,rfl,h⟩:=h;obtain⟨u,rfl,i⟩:=C6 r;cases i;rcases h with⟨c,q⟩|⟨c,q⟩
 ·obtain⟨a,r',pl,f⟩:=I.list c;have g:=r'.length;refine call_tuple_list pl.isList (λh' kp=>?_) (by simp only[Yn] <;> omega);have d:Inv X pins σ H {s with heap:=h'}:=I.kept (t':=s.toks) kp
  have j:Inv X pins σ (upd H h'.objs.size (.tup ys)) {s with heap:=h'.push {cls:=.type "tuple",data:=.seq a.toArray}}:=
   d.laid (t':=s.toks) (λb o e=>Qo _ e) (Yr _) (show ObjOk X.prog X.w _ _ _ (.tup ys)from⟨f,a,r',TupP.new _ _⟩)
  exact⟨.ref h'.objs.size,_,j,rfl,q _ (d.hok.fresh (Yr _))⟩
 ·obtain⟨a,r',pl,f⟩:=I.tuple c;exact call_tuple_same pl ⟨.ref p,H,I,rfl,q⟩
def tyV(K:PySem.W.Frag)(T:String)(x:V)(H:Hp):Prop:=match x with
 | .str _=>T="str"
 | .int _=>T="int"
 | .ref p=>(T="list"/\∃ xs,SqL K H p xs)\/(T="tuple"/\∃ o,K.lookup p=some o/\o.cls=.type "tuple"/\o.dict=none)\/
   (T="dict"/\((∃ kvs,H p=some (.dK kvs))\/∃ kvs,H p=some (.dT kvs)))\/(T="set"/\∃ S n,H p=some (.set S n))
 | _=>False
theorem bw{T:String}(I:Inv X pins σ H s)(r:RelV x v)(ty:tyV X.K T x H):
  s.TypeIs v T/\∀ a,v=.ref a->∃ g,s.heap.get? a=some g/\g.dict=none:=by
 cases x with
 | str z =>
  obtain⟨t,rfl⟩:=r;cases(show T="str" from ty);exact⟨typeIs_str s z t,λ_ e=>nomatch e⟩
 | int i =>
  obtain⟨t,rfl⟩:=r;cases(show T="int" from ty);exact⟨typeIs_int s i t,λ_ e=>nomatch e⟩
 | ref p =>
  cases r;rcases ty with⟨rfl,xs,h⟩|⟨rfl,o,b,hc,hd⟩|⟨rfl,b⟩|⟨rfl,S,n,b⟩
  ·obtain⟨j,_,pl,_⟩:=I.list h;refine⟨pl.isList.typeIs,λa e=>?_⟩;cases e;obtain⟨o,n,e,c,hd,_⟩:=pl;exact⟨o,e,hd⟩
  ·refine⟨⟨o,I.kIn p o b,hc⟩,λa e=>?_⟩;cases e;exact⟨o,I.kIn _ o b,hd⟩
  ·have z:∃ o,s.heap.get? p=some o/\o.ExactDict:=by
    rcases b with⟨d,b⟩|⟨d,b⟩
    ·obtain⟨_,_,_,_,o,_,_,e,ex,_⟩:=I.hok p _ b;exact⟨o,e,ex⟩
    ·obtain⟨_,_,_,_,o,_,_,e,ex,_⟩:=I.hok p _ b;exact⟨o,e,ex⟩
   obtain⟨o,e,ex⟩:=z;refine⟨⟨o,e,ex.1⟩,λa f=>?_⟩;cases f;exact⟨o,e,ex.2.1⟩
  ·obtain⟨o,_,_,_,e,ex,_⟩:=I.hok p _ b;refine⟨⟨o,e,ex.1⟩,λa f=>?_⟩;cases f;exact⟨o,e,ex.2.1⟩
 | _=>exact Ql ty
def tBM(K:PySem.W.Frag)(T:String)(r:V->List V->Hp->VK->Prop)(to:TE)(t:TA):TE:=λσ H Q=>to σ H λx H1=>tyV K T x H1/\t σ H1 λxs H2=>r x xs H2 Q
variable {o e:Expr} {es:List Expr} {to:TE} {t:TA} {name:Str} {apos cpos:Pos} {T id:String} {r:V->List V->Hp->VK->Prop}
theorem bx(pa:PlainAttrs T)(slot:Slot T name id)(f:typeOf (.builtin id)=pure (.type "method_descriptor"))(n:MtR X id r)(p:PE X o to)(m:PA X (e::es) t)
  (b:attributeBase o name X.env (eval o X.env)=eval o X.env:=by rfl)
  (d:((backTo cpos (starEach (e::es) X.env)).all (λx=>!x.1)&&(backToKw cpos (keywordEach [] X.env)).all (λx=>x.1.isSome)
   && decide ((e::es).length+([]:List Keyword).length+(if([]:List Keyword).isEmpty then 0 else 1) < 30))=true:=by rfl)
  (a:(apos.endLine==cpos.line)=true:=by rfl) (j:starEach (e::es) X.env=(false,eval e X.env)::starEach es X.env:=by rfl) (hplain:(backTo cpos (starEach es X.env)).any (·.1)=false:=by rfl):
  PE X (.Call (.Attribute o name apos) (e::es) [] cpos) (tBM X.K T r to t):=by
 intro pins s σ H Q I h;refine wpAny_Call_method_late b d a rfl (thn (p pins s σ H _ I h) λv w c=>?_);obtain⟨x,H1,i,r1,ty,q1⟩:=c;obtain⟨h1,h2⟩:=bw i r1 ty;refine⟨T,id,pa,slot,f,h1,h2,?_⟩;have g:=m cpos pins w σ H1 _ i q1;rw[j]at g ⊢;refine Calls.callWith_builtin (by show(false||(backTo cpos (starEach es X.env)).any (·.1))=false;rw[hplain] <;> rfl) (Calls.evalArgs_plain ?_);exact thn g (by rintro l k ⟨y,H2,u,q,q2⟩;exact n pins k σ H2 x y v l Q u r1 q q2)
end
def MtM(X:Cx)(id:String)(r:V->List V->Hp->VK->Prop):Prop :=
 ∀(pins:List (Addr×Obj))(s:Shared)(σ:St)(H:Hp)(x:V)(xs:List V)(v:Value)(us:List Value)(Q:VK),Inv X pins σ H s->RelV x v->Vals xs us->r x xs H Q->
  wpAny (model X.prog X.w) X.A (call (.builtin id) (v::us)) (EP X pins σ Q) X.xe s
theorem Vals.one:∀{x:V}{us:List Value},Vals [x] us->∃ u,us=[u]/\RelV x u
 | _,_,.cons r .nil=>⟨_,rfl,r⟩
theorem Vals.two:∀{x y:V}{us:List Value},Vals [x,y] us->∃ u v,us=[u,v]/\RelV x u/\RelV y v
 | _,_,_,.cons r (.cons q .nil)=>⟨_,_,rfl,r,q⟩
theorem Vals.zero:∀{us:List Value},Vals [] us->us=[]
 | _,.nil=>rfl
theorem Vals.dropLast{xs:List V}{us:List Value}(h:Vals xs us):Vals xs.dropLast us.dropLast:=by
 induction h with
 | nil=>exact .nil
 | cons r t a =>
  cases t with
  | nil=>exact .nil
  | cons q t'=>exact .cons r a
theorem Vals.eraseIdx:∀{xs:List V}{us:List Value}(i:Nat),Vals xs us->Vals (xs.eraseIdx i) (us.eraseIdx i)
 | _,_,_,.nil=>.nil
 | _,_,0,.cons _ t=>t
 | _,_,i+1,.cons r t=>.cons r (Vals.eraseIdx i t)
theorem Vals.rep{xs:List V}{us:List Value}(h:Vals xs us):∀ k:Nat,Vals (List.replicate k xs).flatten (List.replicate k us).flatten
 | 0=>.nil
 | k+1=>by
  rw[List.replicate_succ,List.replicate_succ,List.flatten_cons,List.flatten_cons];exact Vals.append h (Vals.rep h k)
theorem OC(b:List Value):∀(k:Nat)(a:List Value),
  List.foldl (λd c=>d++c) a.toArray (List.replicate k b.toArray)=(a++(List.replicate k b).flatten).toArray
 | 0,a=>by simp
 | k+1,a=>by
  have e:a.toArray++b.toArray=(a++b).toArray:=by simp
  have f:(a++b)++(List.replicate k b).flatten=a++(List.replicate (k+1) b).flatten:=by
   rw[List.replicate_succ,List.flatten_cons,Yv]
  rw[<- f,<- OC b k (a++b),<- e,List.replicate_succ,List.foldl_cons]
section
variable {X:Cx} {pins:List (Addr×Obj)} {σ:St} {H:Hp} {s:Shared} {l b:Addr} {xs ys zs:List V}
variable {a:List Value}{n t':Nat}
theorem Inv.lset{its':List Value}{f:Array Value->Array Value}(I:Inv X pins σ H s)(d:H l=some (.lst xs))
  (e:s.heap.get? l=some {cls:=.type "list",data:=.seq a.toArray n}) (h:f a.toArray=its'.toArray) (i:Vals ys its') (g:ys.length<=sizeLine):
  Inv X pins σ (upd H l (.lst ys)) {s with heap:=s.heap.update l (Obj.mapSeq f),toks:=t'}:=by
 have q:=PySem.IsL.update e f;rw[h]at q;refine I.write (x:=l) (e:=l) (by rw[d];exact trivial) (.inl rfl) (λj u c b=>(Heap.get?_update_other s.heap (Obj.mapSeq f) (YZ c)).trans b) ⟨_,q⟩ ?_;exact⟨g,its',_,i,q⟩
theorem Inv.lnew(I:Inv X pins σ H s)(c:Vals ys a)(b:ys.length<=sizeLine):
  Inv X pins σ (upd H s.heap.objs.size (.lst ys)) {s with heap:=s.heap.push {cls:=.type "list",data:=.seq a.toArray},toks:=t'}:=
 I.laid (λ_ _ q=>Qo _ q) (Yr _) ⟨b,a,0,c,Qq _ rfl⟩
theorem Inv.fresh(I:Inv X pins σ H s):H s.heap.objs.size=none:=I.hok.fresh (Yr _)
theorem Inv.lstM(I:Inv X pins σ H s)(b:H l=some (.lst xs)):xs.length<=sizeLine/\∃(a:List Value)(n:Nat),Vals xs a/\xs.length=a.length/\s.heap.get? l=some {cls:=.type "list",data:=.seq a.toArray n}:=by
 obtain⟨z,a,n,r,e⟩:=I.hok l _ b;exact⟨z,a,n,r,r.length,e⟩
theorem OD(h:n<=sizeLine):Builtin.List.listTooLong n=false:=by
 unfold Builtin.List.listTooLong;exact decide_eq_false (by omega)
end
section
variable {X:Cx}
def bz:V->List V->Hp->VK->Prop:=λx vs H Q=>∃ l xs y,x=.ref l/\vs=[y]/\H l=some (.lst xs)/\xs.length < sizeLine/\Q .non (upd H l (.lst (xs++[y])))
theorem bA:MtM X "list.append" bz:=by
 intro pins s σ H x j v g Q I c f h;obtain⟨l,xs,y,rfl,rfl,b,i,q⟩:=h;cases c;obtain⟨u,rfl,d⟩:=f.one;obtain⟨z,a,n,r,hl,e⟩:=I.lstM b;refine call_meets F.slot_list_append ⟨_,e,rfl⟩ F.entry_list_append (F.args_list_append_2 _ _) (PySem.list_append l a.toArray n u (by rw[Yn];omega)) ⟨e,?_⟩;refine⟨.non,_,I.lset (its':=a++[u]) b e (by simp) (r.append (.cons d .nil)) ?_,rfl,q⟩;rw[Yj,List.length_singleton];omega
def bB:V->List V->Hp->VK->Prop:=λx vs H Q=>∃ l b xs zs,x=.ref l/\vs=[.ref b]/\H l=some (.lst xs)/\H b=some (.lst zs)/\xs.length+zs.length<=sizeLine/\Q .non (upd H l (.lst (xs++zs)))
theorem bC:MtM X "list.extend" bB:=by
 intro pins s σ H x D v A Q I i m h;obtain⟨l,b,xs,zs,rfl,rfl,g,k,B,q⟩:=h;cases i;obtain⟨u,rfl,j⟩:=m.one;cases j;obtain⟨z,c,n,r,hl,e⟩:=I.lstM g;obtain⟨y,a,w,o,p,t⟩:=I.lstM k;have f:c.toArray.size+a.toArray.size<=sizeLine:=by rw[Yn,Yn];omega
 have d:¬ (!c.toArray.isEmpty&&Builtin.List.listTooLong (c.toArray.size+a.toArray.size))=true:=by
  rw[OD f,Bool.and_false];exact YX
 refine call_meets F.slot_list_extend ⟨_,e,rfl⟩ F.entry_list_extend (F.args_list_extend_2 _ _)
  (AutoSeq1.list_extend_list_list_0 l c.toArray n b a.toArray w d (by rw[Yn];omega) (by omega)) ⟨e,t,?_⟩
 refine⟨.non,_,I.lset (its':=c++a) g e (by simp) (r.append o) ?_,rfl,q⟩;rw[Yj];omega
def FY:R2:=λx y H Q=>∃ l b xs zs,x=.ref l/\y=.ref b/\H l=some (.lst xs)/\H b=some (.lst zs)/\xs.length+zs.length<=sizeLine/\∀ p,H p=none->Q (.ref p) (upd H p (.lst (xs++zs)))
theorem bD:OpR X (binaryOp .Add) FY:=by
 intro pins s σ H x y v u Q I d g h;obtain⟨l,b,xs,zs,rfl,rfl,j,i,t,q⟩:=h;cases d;cases g;obtain⟨z,c,n,r,hl,e⟩:=I.lstM j;obtain⟨p,a,w,k,m,o⟩:=I.lstM i;refine PySem.P.add_list e o ?_ (by rw[Yn,Yn];omega);have f:c.toArray++a.toArray=(c++a).toArray:=by simp
 rw[f];exact⟨.ref _,_,I.lnew (t':=s.toks) (r.append k) (by rw[Yj];omega),rfl,q _ I.fresh⟩
def OF:R2:=λx y H Q=>∃ l k xs,x=.ref l/\y=.int k/\H l=some (.lst xs)/\-(2 ^ 63)<=k/\k < 2 ^ 63/\xs.length*k.toNat<=sizeLine/\
 ∀ p,H p=none->Q (.ref p) (upd H p (.lst (List.replicate k.toNat xs).flatten))
theorem bE{α:Type}(xs:List α)(k:Nat):(List.replicate k xs).flatten.length=k*xs.length:=by
 induction k with
 | zero=>simp
 | succ k a=>rw[List.replicate_succ,List.flatten_cons,Yj,a,Nat.succ_mul,Nat.add_comm]
theorem bF:OpR X (binaryOp .Mult) OF:=by
 intro pins s σ H x y v u Q I w A h;obtain⟨l,k,xs,rfl,rfl,D,h1,h2,p,q⟩:=h;cases w;obtain⟨t,rfl⟩:=A;obtain⟨z,b,n,r,hl,e⟩:=I.lstM D;have g:b.toArray.size*k.toNat<=sizeLine:=by rw[Yn,<- hl];exact p
 have i:¬ b.toArray.size*k.toNat >(2 ^ 63 - 1) / 8:=by
  have:(sizeLine:Nat)<=(2 ^ 63 - 1) / 8:=by decide
  omega
 have d:¬ (!Builtin.List.listFitsIndex k)=true:=by
  rw[fitsIndex_both h1 h2];exact YX
 have c:¬ Builtin.List.listTooLong (b.toArray.size*k.toNat)=true:=by
  rw[OD g];exact YX
 have f:List.foldl (λo j=>o++j) #[] (List.replicate (if b.toArray.isEmpty=true then 0 else k.toNat) b.toArray)=(List.replicate k.toNat b).flatten.toArray:=by
  have B:∀ m:Nat,List.foldl (λo j=>o++j) #[] (List.replicate m b.toArray)=(List.replicate m b).flatten.toArray:=λm=>by
   have:=OC b m [];rw[Yw]at this;exact this
  rw[B];cases b with
  | nil=>simp
  | cons a r'=>rw[if_neg (by simp)]
 refine wpAny_binaryOp_repeat_ref (T:="list") (U:="int") (by decide) ⟨_,e,rfl⟩ (λs'=>typeIs_int s' k t) noFill_list_mul F.fills_int_mul F.slot_int_rmul repeat_list F.slot_int_index.lookup
  (call_meets F.slot_int_rmul (typeIs_int s k t) F.entry_int_rmul (F.args_int_rmul_2 _ _) (int___rmul___int_list k t l b.toArray n)
   ⟨e,rfl,⟨_,e,rfl⟩,call_meets F.slot_list_mul ⟨_,e,rfl⟩ F.entry_list_mul (F.args_list_mul_2 _ _) (AutoListH.list___mul___list_int_3 l b.toArray n k t d i c) ⟨e,?_⟩⟩)
 rw[f];exact⟨.ref _,_,I.lnew (t':=s.toks) (r.rep k.toNat) (by rw[bE,Nat.mul_comm];exact p),rfl,q _ I.fresh⟩
end
section
variable {prog:Program} {w:World} {A:Around} {E:Value->Shared->Prop} {s:Shared}
end
section
variable {X:Cx}
end
end L2
namespace Att
open PySem PySem.W PySem.Calls PyProof.Rows
variable {P:Params}{h:Heap}
theorem bG:∀(ns:List Int)(vs:List Value),WellAll P h vs (ns.map WData.int)->IntsAre vs ns:=by
 intro ns;induction ns with
 | nil =>
  intro vs w;rw[List.map_nil]at w;cases w;exact .nil
 | cons n ns c =>
  intro vs w;rw[Ym]at w;cases w with
  | cons a b =>
   cases a;exact .cons _ _ (c _ b)
variable {l:OpenLaw}{n:Nat}
theorem bH(k:l.most=some n){args:List WData}
  (b:l.row.toRowW.claim.pre args=true) (j:WellAll P h vals args):
  ∃ a vs ns,vals=[Value.ref a]/\args=[WData.list (ns.map WData.int)]/\h.get? a=some {cls:=.type "list",data:=.seq vs.toArray}/\IntsAre vs ns/\ns.length<=n:=by
 have i:WShape.hasAll [] args [.list .int]=true:=(pre_splitW b).1;have hc:l.pre.holds [] {args:=args}=true:=(pre_splitW b).2;obtain⟨d,r,rfl,h1,h2⟩:=hasAllW_cons i;obtain rfl:=hasAllW_nil h2;obtain⟨xs,rfl,s⟩:=hasW_list h1;obtain⟨ns,rfl⟩:=items_int s
 have e:ns.length<=n:=by
  unfold OpenLaw.pre at hc
  have g:(WTm.not (.lt (.lit (.int (n:Int))) (.len (.arg 0)))).holds [] {args:=[.list (ns.map .int)]}=true:=by
   have g:=(holds_andW hc).1;rw[k]at g;exact g
  have f:=condW_of g (w_not (w_lt w_lit (w_len_list (w_arg rfl))));rw[Yh]at f;refine Nat.le_of_not_lt λq=>?_;have m:(n:Int) <((ns.length:Nat):Int):=by omega
  first
   |(rw[YI m]at f;exact absurd f (by decide))
   |(simp at f;omega)
 cases j with
 | cons p t =>
  cases t;cases p with
  | list o c=>exact⟨_,_,ns,rfl,rfl,o,bG ns _ c,e⟩
theorem bI(l:OpenLaw)(args:List WData):l.row.toRowW.claim.post args (.bool true) args=true :=
 postW_of (r:=l.row.toRowW) (X:=(true==true))
  (show WShape.has [] (.bool true) .bool=true by first | rfl | decide | simp[WShape.has,WShape.arms,WShape.armsAll])
  (show(WTm.eq .res (.lit (.bool true))).value [] {args:=args,res:=some (.bool true),after:=args}=some (.bool (true==true))from w_eq_bool (w_res rfl) w_lit) rfl
theorem attach_call{q:Program}{loose:List Str}{XP:(Str->Option Value)->Heap->Prop}{YP:World->Heap->Prop}{d:DefRec}
  (z:l.most=some n) (t:d.params.defaults=[])
  (call:∀(w:World)(s₀ b:Shared)(mg s:Str->Option Value)(g:Addr)(o:Obj)(pm cd e:Value)(a:Addr)(vs:List Value)(ns:List Int),
   Ground q loose [] XP w s₀ mg s b.heap->YP w b.heap->
   b.heap.get? g=some o->o.data=.func (docDef d.name d.params d.body d.scope pm cd e)->b.heap.CodeRec cd d.name->mg d.name=some (.ref g)->
   b.heap.get? a=some {cls:=.type "list",data:=.seq vs.toArray}->IntsAre vs ns->ns.length<=n->b.gens=#[]->
   codeAny (model l.prog w) callerA (.call (.ref g) ⟨[.ref a],[]⟩) (λr s'=>r=.ok (.ret (.bool true))/\OldK b.heap s'.heap/\s'.os=b.os/\AllBare s'.gens) b):
  WalkO q loose XP YP l.row.toRowW d [] (λf vs=>PySem.call f vs):=by
 intro w s₀ b mg s G Y g o pm cd e J kV B hd p x m H u vals K j v E k A;obtain rfl:J=.none:=Dflts.none x t;obtain rfl:kV=.none:=Dflts.noKw x;obtain⟨a,vs,ns,rfl,rfl,h,c,i⟩:=bH z j k;refine enter_call (codeAny_mono (call w s₀ b mg s g o pm cd e a vs ns G Y B (fd_plain hd) p m h c i H) λr s' y=>?_);obtain⟨rfl,h2,I,F⟩:=y;exact⟨.inl ⟨.bool true,.bool true,[],rfl,λ_=>rfl,.bool true,bI l _,λ_=>⟨List.Pairwise.nil,λ_ D=>(nomatch D)⟩⟩,h2,I,F⟩
section
variable {prog:Program} {w:World} {A:Around} {E:Value->Shared->Prop} {s:Shared} {K:Frag}
end
end Att
namespace L2
open PySem PySem.Spec PyProof.Rows
theorem OG:∀{vs:List Value}{ns:List Int},IntsAre vs ns->Vals (ns.map V.int) vs
 | _,_,.nil=>.nil
 | _,_,.cons n t h=>.cons ⟨t,rfl⟩ (OG h)
def Hb(H:Hp):Prop:=∀ b,H b=none\/∃ o xs,H b=some (.frz o (.lst xs))
variable {K:PySem.W.Frag}{k:Nat}{a:Addr}{x:Str}
theorem bJ{P:Program}{w:World}{mg J:Str->Option Value}{CX:CXT}{sp:Sp}{c:Shared}{vs:List Value}{ns:List Int}
  (KX:K.In c.heap) (A:c.heap.Ns mainGlobals mg) (f:c.heap.Ns builtinsNs J) (G:∀ x:Str,x≠"__name__"->J x=bootBuiltins x) (t:c.heap.NoLimit) (hg:c.gens=#[])
  (E:c.heap.get? a=some {cls:=.type "list",data:=.seq vs.toArray}) (hi:IntsAre vs ns) (hl:ns.length<=sizeLine) (hr:Room k callerA)
  (F:∀ base:Heap,K.In base->base.Ns mainGlobals mg->FnOk P w K mg base CX k I fd [x] sp) (j:∀(s:Shared)(u:Value),BindsTo s fd ⟨[u],[]⟩ [(x,u)])
  (R:∀ H:Hp,Hb H->SqL K H a (ns.map V.int)->sp [.ref a] H (λv _=>v=.bl true) λ_ _ _=>False)
  (N:∀ H e s',CX [] H c (λ_ _ _=>False) e s'->False):
  codeAny (model P w) callerA (.call (.ref I) ⟨[.ref a],[]⟩) (λr s'=>r=.ok (.ret (.bool true))/\OldK c.heap s'.heap/\s'.os=c.os/\AllBare s'.gens) c:=by
 have U:=OG hi;have y:=hi.length
 have i:∀ H:Hp,Hb H->SqL K H a (ns.map V.int)->HOk P w H c.heap->(∀ b,H b≠none->b=a)->(H a≠none->K.lookup a=none)->
   codeAny (model P w) callerA (.call (.ref I) ⟨[.ref a],[]⟩) (λr s'=>r=.ok (.ret (.bool true))/\OldK c.heap s'.heap/\s'.os=c.os/\AllBare s'.gens) c:=by
  intro H X Y hok S Z;have base_of:∀{b:Addr}{o:Obj},c.heap.get? b=some o->H b=none->(Dg c.heap H).get? b=some o:=λe n=>Zy e n
  have L:∀{b:Addr}{o:Obj}{es:Array DictEntry}{l:Nat},c.heap.get? b=some o->o.data=.dict es l->H b=none:=λ{b o es l}e d=>by
   cases q:H b with
   | none=>rfl
   | some u =>
    have Q:b=a:=S b (by rw[q];simp);subst Q;rw[E]at e;cases e;have d':Data.seq vs.toArray _=Data.dict es l:=d;cases d'
  have g:∀{b:Addr}{m:Str->Option Value},c.heap.Ns b m->(Dg c.heap H).Ns b m:=λ{b m}⟨o,es,l,e,d,r⟩=>⟨o,es,l,base_of e (L e d),d,r⟩
  have B:K.In (Dg c.heap H):=λb o e=>base_of (KX b o e) (by
   cases q:H b with
   | none=>rfl
   | some u =>
    have Q:b=a:=S b (by rw[q];simp);subst Q;rw[Z (by rw[q];simp)]at e;cases e)
  have hM:Mod K mg (Dg c.heap H):=⟨B,g A,⟨J,g f,G⟩,let⟨mc,h1,h2⟩:=t;⟨mc,g h1,h2⟩⟩;have e0:Env0 P w K mg (Dg c.heap H) callerA [] c H:=⟨rfl,hM,λb o e=>Zz e,Nat.le_of_eq (Zx _ _),trivial,λb f=>absurd (show b∈([]:List Addr)from f) (by simp),hok,.of_eq hg⟩;refine codeAny_mono ((F _ B (g A)).run callerA [] c H ⟨[.ref a],[]⟩ [.ref a] [.ref a] _ _ hr e0 (j c (.ref a)) (.cons rfl .nil) (R H X Y)) λr s' h=>?_;cases r with
  | error e=>exact(N H e s' h).elim
  | ok fl =>
   cases fl with
   | next=>exact Ql h
   | brk=>exact Ql h
   | cont=>exact Ql h
   | ret u =>
    obtain⟨v,H',os,bare,un,p,r',q⟩:=h;have q':v=.bl true:=q;subst q';obtain rfl:u=Value.bool true:=r';refine⟨rfl,OldK.of_keep λb o e=>?_,os,bare⟩;cases q:H b with
    | none=>exact un.keep b o e q (by intro z;exact absurd (show b∈([]:List Addr)from z) (by simp)) (by simp)
    | some u =>
     rcases X b with z |⟨ob,xs,z⟩
     ·rw[q]at z;cases z
     ·have z2:=un.frzs b ob _ z;obtain⟨T,_⟩:=hok b _ z;obtain⟨e2,_⟩:=p b _ z2;rw[e]at T;cases T;exact e2
 cases O:K.lookup a with
 | some o =>
  have e:=KX a o O;rw[E]at e;cases e;refine i (λ_=>none) (λ_=>.inl rfl) (.inr ⟨_,vs.toArray,_,O,rfl,rfl,rfl,by rw[Yn,y];exact hl,by simpa using U⟩) (λb u z=>by have D:(none:Option HO)=some u:=z;cases D) (λb z=>absurd rfl z) λz=>absurd rfl z
 | none =>
  refine i (λb=>if b=a then some (.frz {cls:=.type "list",data:=.seq vs.toArray} (.lst (ns.map V.int)))else none) (λb=>?_) (.inl (.inr ⟨{cls:=.type "list",data:=.seq vs.toArray},if_pos rfl⟩)) (λb u z=>?_) (λb z=>?_) λ_=>O
  ·by_cases f:b=a
   ·exact .inr ⟨_,_,if_pos f⟩
   ·exact .inl (if_neg f)
  ·by_cases f:b=a
   ·have D:=(if_pos f).symm.trans z;cases D;subst f;exact⟨E,by rw[Yh];exact hl,vs,_,U,E⟩
   ·have D:=(if_neg f).symm.trans z;cases D
  ·by_cases f:b=a
   ·exact f
   ·exact absurd (if_neg f) z
abbrev KOf{K:PySem.W.Frag}{h:Heap}(_:K.In h):PySem.W.Frag:=K
theorem bK{l:PySem.W.OpenLaw}{n:Nat}{q:Program}{loose:List Str}{XP:(Str->Option Value)->Heap->Prop}{YP:World->Heap->Prop}{d:DefRec}{K:Params->PySem.W.Frag}{CX:World->CXT}{sp:World->Sp}
  (I:l.most=some n) (z:n<=sizeLine) (A:d.params.defaults=[]) (O:Room k callerA)
  (Q:∀(w:World)(h:Heap),YP w h->(K w.params).In h)
  (F:∀(w:World)(mg:Str->Option Value)(p:Addr)(h:Heap),(K w.params).In h->h.Ns mainGlobals mg->mg d.name=some (.ref p)->
   ∃ fd:FuncData,(∀(s:Shared)(u:Value),BindsTo s fd ⟨[u],[]⟩ [(x,u)])/\
    ∀ base:Heap,(K w.params).In base->base.Ns mainGlobals mg->FnOk l.prog w (K w.params) mg base (CX w) k p fd [x] (sp w))
  (t:∀(w:World)(H:Hp)(a:Addr)(ns:List Int),ns.length<=n->Hb H->SqL (K w.params) H a (ns.map V.int)->sp w [.ref a] H (λv _=>v=.bl true) λ_ _ _=>False)
  (y:∀(w:World)(H:Hp)(s:Shared)(e:Value)(s':Shared),CX w [] H s (λ_ _ _=>False) e s'->False):
  PySem.W.WalkO q loose XP YP l.row.toRowW d [] (λf vs=>PySem.call f vs):=by
 refine Att.attach_call I A λw s₀ j mg R p o pm cd L a vs ns G Y S hd J r m i c P=>?_;have KX:=Q w _ Y;obtain⟨fd,E,D⟩:=F w mg p _ KX G.T.g r;exact bJ KX G.T.g G.T.b G.T.builtins G.T.nolimit P m i (Yt c z) O D E (λH N B=>t w H a ns c N B) λH e s'=>y w H j e s'
abbrev CX0:CXT:=λ_ _ _ _ _ _=>False
structure Fun(K:PySem.W.Frag)(x qual:Str)(st:Stmt)(f:Addr)(fd:FuncData):Prop where
 ex:∃(oc:Value)(od:Option Addr)(kV doc pm:Value)(an:Option Addr)(cdv ct:Value)(osl:Array (Option Value)),
  fd=PySem.W.fnOf x qual (Eo st) (B5 st) (Aq st) .none kV doc pm an cdv ct/\K.lookup f=some ⟨oc,od,.func fd,osl⟩/\PySem.W.codeIn K cdv qual=true
 kp:PySem.W.keepIn K (.ref f)=true
section
variable {P:Program} {w:World} {K:PySem.W.Frag} {mg:Str->Option Value} {base:Heap}
variable {qual:Str}{st:Stmt}{f:Addr}{fd:FuncData}{ps:List Str}
theorem Fun.ok{N:List Str}{sp:Sp}(F:Fun K x qual st f fd)(S:Ax N ps (Aq st))(len:∀ vs H Q E,sp vs H Q E->vs.length=ps.length)
  (a:∀(cdv:Value)(A:Around)(outer:List Env)(s:Shared)(H:Hp)(vs:List V)(Q:VK)(E:XK),Room k (A.deeper (envOfC qual (Aq st) s.heap.objs.size f cdv))->sp vs H Q E->
   ∃ t,PSs (Bj CX0 P w K mg base N qual (Aq st) f cdv A outer s H E).nox (B5 st) t/\t {nx:=λ_ H'=>Q .non H',rt:=Q} (CW N vs) H):FnOk P w K mg base CX0 (k+1) f fd ps sp:=by
 obtain⟨oc,j,kV,g,pm,l,cdv,ct,i,rfl,e,c⟩:=F.ex;refine G9 e c S len λA outer s H vs Q E d b=>?_;obtain⟨t,h,q⟩:=a cdv A outer s H vs Q E d b;exact⟨t,h.nox,q⟩
theorem Fun.binds(F:Fun K x qual st f fd)
  (h:∀(kV a pm:Value)(b:Option Addr)(cdv ct:Value)(us:List Value),us.length=ps.length->bindArgs (PySem.W.fnOf x qual (Eo st) (B5 st) (Aq st) .none kV a pm b cdv ct) ⟨us,[]⟩=pure (ps.zip us)):Binds K fd ps []:=by
 obtain⟨oc,g,kV,a,pm,b,cdv,ct,c,rfl,e,d⟩:=F.ex;exact .all (h kV a pm b cdv ct)
theorem OH{oc:Value}{e d:Option Addr}{b:Array (Option Value)}{kV a cdv ct:Value}(l:K.lookup f=some ⟨oc,e,.func (PySem.W.fnOf x qual (Eo st) (B5 st) (Aq st) .none kV a pm d cdv ct),b⟩)
  (c:PySem.W.codeIn K cdv qual=true) (k:PySem.W.keepIn K (.ref f)=true):Fun K x qual st f (PySem.W.fnOf x qual (Eo st) (B5 st) (Aq st) .none kV a pm d cdv ct):=⟨⟨oc,e,kV,a,pm,d,cdv,ct,b,rfl,l,c⟩,k⟩
end
section
variable {X:Cx}
theorem pv(i:Nat)(c:X.N[i]?=some x:=by rfl)(b:Vis X.env.scope x:=by first | exact Or.inl rfl | exact Or.inr (Or.inl rfl)| exact Or.inr (Or.inr rfl))(hd:(x==("__debug__":Str))=false:=by decide)
  (a:(x==("__classdict__":Str))=false:=by decide):PE X (.Name x pos) (N6 i):=N7 c b hd a
end
theorem Bu{c A B:Prop}[Decidable c](h1:c->A)(h2:¬ c->B):if c then A else B:=by
 by_cases h:c
 ·rw[if_pos h];exact h1 h
 ·rw[if_neg h];exact h2 h
def Same(H H':Hp):Prop:=∀ b o,H b=some o->H' b=some o
theorem Same.refl(H:Hp):Same H H:=λ_ _ h=>h
variable {H:Hp}
theorem Same.trans{H1:Hp}(a:Same H H1)(b:Same H1 H2):Same H H2:=λc o h=>b c o (a c o h)
variable {H':Hp}
theorem Same.free(e:Same H H'){l:Addr}(h:H' l=Option.none):H l=Option.none:=by
 cases q:H l with
 | none=>rfl
 | some o =>
  rw[e l o q]at h;cases h
theorem Same.seq{xs:List V}(e:Same H H')(h:SqL K H a xs):SqL K H' a xs:=by
 rcases h with(h |⟨o,h⟩)| h
 ·exact .inl (.inl (e _ _ h))
 ·exact .inl (.inr ⟨o,e _ _ h⟩)
 ·exact .inr h
end L2
namespace L3
open PySem PySem.Spec PyProof.Rows L2
namespace Tb
def hop(M:Nat):Nat->Nat->Nat
 | 0,i=>i
 | n+1,i=>hop M n ((i*5+1) % M)
def cover(M:Nat):Bool:=(List.range M).all λi=>(List.range M).all λj=>(List.range M).any λn=>hop M n i==j
theorem cover8:cover 8=true:=by decide +kernel
theorem cover16:cover 16=true:=by decide +kernel
theorem cover32:cover 32=true:=by decide +kernel
theorem cover64:cover 64=true:=by decide +kernel
theorem Hd(M:Nat):∀ m n i,hop M (m+n) i=hop M n (hop M m i)
 | 0,n,i=>by rw[Nat.zero_add];rfl
 | m+1,n,i=>by
  rw[Nat.add_right_comm];show hop M (m+n) ((i*5+1) % M)=_;rw[Hd M m n];rfl
theorem bL{M:Nat}(f:((List.range M).all λj=>(List.range M).any λn=>hop M n 0==j)=true)(d:hop M M 0=0):cover M=true:=by
 have key:∀ j,j < M->∃ n,n < M/\hop M n 0=j:=λj a=>by
  obtain⟨n,b,e⟩:=List.any_eq_true.mp (List.all_eq_true.mp f j (List.mem_range.mpr a));exact⟨n,List.mem_range.mp b,by simpa using e⟩
 refine List.all_eq_true.mpr λi hi=>List.all_eq_true.mpr λj a=>List.any_eq_true.mpr ?_;obtain⟨m,g,c⟩:=key i (List.mem_range.mp hi);obtain⟨n,b,en⟩:=key j (List.mem_range.mp a);by_cases h:m<=n
 ·refine⟨n - m,List.mem_range.mpr (by omega),?_⟩;have z:=Hd M m (n - m) 0;rw[c,show m+(n - m)=n by omega,en]at z;rw[<- z];simp
 ·refine⟨n+M - m,List.mem_range.mpr (by omega),?_⟩;have z:=Hd M m (n+M - m) 0;rw[c,show m+(n+M - m)=M+n by omega,Hd M M n 0,d,en]at z;rw[<- z];simp
theorem cover128:cover 128=true:=bL (by decide +kernel) (by decide +kernel)
variable {i:Nat}
theorem bM{M j:Nat}(h:cover M=true)(hi:i < M)(b:j < M):∃ n,n < M/\hop M n i=j:=by
 unfold cover at h;have h1:=List.all_eq_true.mp h i (List.mem_range.mpr hi);have h2:=List.all_eq_true.mp h1 j (List.mem_range.mpr b);obtain⟨n,a,e⟩:=List.any_eq_true.mp h2;exact⟨n,List.mem_range.mp a,by simpa using e⟩
variable {mask p:Nat}{owner:Array (Option Nat)}
theorem OI{a:Nat}(h:SetTable.layClean.free mask owner (a+1) i p=none):
  (owner.getD i (some 0)).isSome=true/\SetTable.layClean.free mask owner a ((i*5+1+p / 32) % (mask+1)) (p / 32)=none:=by
 unfold SetTable.layClean.free at h;have f:0 < SetTable.runEnd mask i+1 - i:=by unfold SetTable.runEnd;split <;> omega
 cases d:(List.range (SetTable.runEnd mask i+1 - i)).find? λk=>(owner.getD (i+k) (some 0)).isNone with
 | some k=>rw[d]at h;cases h
 | none =>
  rw[d]at h;refine⟨?_,h⟩;have c:=List.find?_eq_none.mp d 0 (List.mem_range.mpr f);rw[Nat.add_zero]at c;cases e:owner.getD i (some 0)with
  | some b=>rfl
  | none=>rw[e]at c;exact absurd rfl c
theorem OJ{owner:Array (Option Nat)}:∀(n a i:Nat),SetTable.layClean.free mask owner (n+a) i 0=none->∀ m,m < n->(owner.getD (hop (mask+1) m i) (some 0)).isSome=true
 | 0,a,i,h,m,b=>by omega
 | n+1,a,i,h,m,b=>by
  rw[show n+1+a=(n+a)+1 by omega]at h;obtain⟨h1,h2⟩:=OI h;simp only[Nat.zero_div,Nat.add_zero]at h2;cases m with
  | zero=>exact h1
  | succ m=>exact OJ n a _ h2 m (by omega)
theorem OK{owner:Array (Option Nat)}:∀(n a i p:Nat),SetTable.layClean.free mask owner (n+a) i p=none->i < mask+1->∃ b,b < mask+1/\SetTable.layClean.free mask owner a b (p / 32 ^ n)=none
 | 0,a,i,p,h,hi=>⟨i,hi,by rw[Nat.zero_add]at h;simpa using h⟩
 | n+1,a,i,p,h,hi=>by
  rw[show n+1+a=(n+a)+1 by omega]at h;obtain⟨_,h2⟩:=OI h;obtain⟨b,c,d⟩:=OK n a _ _ h2 (Nat.mod_lt _ (by omega));refine⟨b,c,?_⟩;rw[Nat.div_div_eq_div_mul,show 32*32 ^ n=32 ^ (n+1) by rw[Nat.pow_succ,Nat.mul_comm]]at d;exact d
theorem bN(hc:cover (mask+1)=true)(hi:i < mask+1)(d:p < 2 ^ 64)(b:∃ j,j < mask+1/\owner.getD j (some 0)=none):(SetTable.layClean.free mask owner (SetTable.turns mask) i p).isSome=true:=by
 cases h:SetTable.layClean.free mask owner (SetTable.turns mask) i p with
 | some j=>rfl
 | none =>
  exfalso;rw[show SetTable.turns mask=13+((mask+1)+1) by unfold SetTable.turns;omega]at h;obtain⟨k,a,h2⟩:=OK 13 _ i p h hi;rw[Nat.div_eq_of_lt (Yu d (by decide))]at h2;have f:=OJ (mask+1) 1 k h2;obtain⟨j,g,e⟩:=b;obtain⟨n,c,en⟩:=bM hc a g;have:=f n c;rw[en,e]at this;cases this
theorem OL{owner:Array (Option Nat)}(d:owner.size=mask+1):∀(a i p j:Nat),SetTable.layClean.free mask owner a i p=some j->i < mask+1->j < mask+1/\owner.getD j (some 0)=none
 | 0,i,p,j,h,hi=>by unfold SetTable.layClean.free at h;cases h
 | a+1,i,p,j,h,hi=>by
  unfold SetTable.layClean.free at h;cases b:(List.range (SetTable.runEnd mask i+1 - i)).find? λk=>(owner.getD (i+k) (some 0)).isNone with
  | none =>
   rw[b]at h;exact OL d a _ _ j h (Nat.mod_lt _ (by omega))
  | some k =>
   rw[b]at h;cases h;have h1:=List.find?_some b;have h2:owner.getD (i+k) (some 0)=none:=by simpa using h1
   refine⟨?_,h2⟩;refine Nat.lt_of_not_le λc=>?_;rw[Array.getD_eq_getD_getElem?,Array.getElem?_eq_none (by omega)]at h2;cases h2
theorem Kl{α:Type}(x:α):∀{l:List (Option α)}{j:Nat},l[j]?=some none->((l.set j (some x)).filterMap id).Perm (x::l.filterMap id)
 | [],j,h=>by simp at h
 | a::l,0,h=>by
  simp only[Yb,Option.some.injEq]at h;subst h;exact List.Perm.refl _
 | a::l,j+1,h=>by
  simp only[Yc]at h;rw[Yl];cases a with
  | none=>exact Kl x h
  | some b =>
   show(b::(l.set j (some x)).filterMap id).Perm (x::b::l.filterMap id);exact((Kl x h).cons b).trans (List.Perm.swap x b _)
theorem OM:∀{l:List (Option Nat)},(l.filterMap id).length < l.length->∃ j,j < l.length/\l[j]?=some none
 | [],h=>by simp at h
 | none::l,h=>⟨0,by simp,rfl⟩
 | some a::l,h=>by
  have h':(l.filterMap id).length+1 < l.length+1:=h;obtain⟨j,b,e⟩:=OM (l:=l) (by omega);exact⟨j+1,by simp;omega,by simpa using e⟩
structure Lay(M k:Nat)(owner:Array (Option Nat)):Prop where
 sz:owner.size=M
 pm:(owner.toList.filterMap id).Perm (List.range k)
theorem bO{k:Nat}(hc:cover (mask+1)=true)(L:Lay (mask+1) k owner)(n:k < mask+1)(h:Int):
  ∃ j,SetTable.layClean.free mask owner (SetTable.turns mask) (SetTable.bits h % (mask+1)) (SetTable.bits h)=some j/\Lay (mask+1) (k+1) (owner.setIfInBounds j (some k)):=by
 have g:SetTable.bits h < 2 ^ 64:=by
  unfold SetTable.bits;have:=Int.emod_lt_of_pos h (show(0:Int) < 2 ^ 64 by decide);have:=Int.emod_nonneg h (show(2 ^ 64:Int)≠0 by decide);omega
 have hl:(owner.toList.filterMap id).length=k:=by rw[L.pm.length_eq,List.length_range]
 obtain⟨j,d,e⟩:=OM (l:=owner.toList) (by rw[hl,YW,L.sz];exact n);have a:j < mask+1:=by rw[YW,L.sz]at d;exact d
 have hi:SetTable.bits h % (mask+1) < mask+1:=Nat.mod_lt _ (by omega)
 have f:=bN (owner:=owner) (i:=SetTable.bits h % (mask+1)) hc hi g ⟨j,a,by
  rw[Array.getD_eq_getD_getElem?];rw[YR]at e;rw[e];rfl⟩
 obtain⟨b,c⟩:=Option.isSome_iff_exists.mp f;obtain⟨h1,h2⟩:=OL L.sz _ _ _ _ c hi;refine⟨b,c,⟨by rw[Array.size_setIfInBounds];exact L.sz,?_⟩⟩
 have m:owner.toList[b]?=some none:=by
  rw[YR];rw[Array.getD_eq_getD_getElem?]at h2;have o:b < owner.size:=by rw[L.sz];exact h1
  rw[Qa o]at h2 ⊢;exact congrArg some h2
 rw[Array.toList_setIfInBounds];refine(Kl k m).trans ?_;rw[List.range_succ];exact((L.pm.cons k).trans (List.perm_append_singleton k _).symm)
theorem ON(hc:cover (mask+1)=true):∀(a:List Int)(k:Nat)(owner:Array (Option Nat)),Lay (mask+1) k owner->k+a.length<=mask+1->
  ∃ o',(a.foldl (λ(b:Option (Array (Option Nat)×Nat))h=>do
   let(owner,k) <- b
   let j <- SetTable.layClean.free mask owner (SetTable.turns mask) (SetTable.bits h % (mask+1)) (SetTable.bits h)
   pure (owner.setIfInBounds j (some k),k+1)) (some (owner,k)))=some (o',k+a.length)/\Lay (mask+1) (k+a.length) o'
 | [],k,owner,L,_=>⟨owner,rfl,L⟩
 | h::a,k,owner,L,f=>by
  simp only[Yg]at f;obtain⟨j,e,d⟩:=bO hc L (by omega) h;obtain⟨o',g,c⟩:=ON hc a (k+1) _ d (by omega);refine⟨o',?_,by rw[Yg,show k+(a.length+1)=k+1+a.length by omega];exact c⟩;rw[List.foldl_cons];show a.foldl _ (some (owner,k) >>=λx=>_)=_;rw[Option.bind_eq_bind,Option.bind_some];dsimp only;rw[e];rw[Option.bind_eq_bind,Option.bind_some];rw[Yg,show k+(a.length+1)=k+1+a.length by omega];exact g
theorem bP(M:Nat):Lay M 0 (Array.replicate M none):=⟨by simp,by simp⟩
theorem bQ(hc:cover (mask+1)=true)(a:Array Int)(b:a.size<=mask+1):∃ o',SetTable.layClean mask a=some o'/\Lay (mask+1) a.size o':=by
 obtain⟨o',e,L⟩:=ON hc a.toList 0 _ (bP (mask+1)) (by simpa using b);refine⟨o',?_,by simpa using L⟩;unfold SetTable.layClean;rw[<- Array.foldl_toList];rw[e];rfl
theorem OO{M:Nat}(h:owner.size=M):(((List.range M).filterMap λj=>(owner.getD j none).map (j,·)).map (·.2))=owner.toList.filterMap id:=by
 have e:owner.toList=(List.range M).map λj=>owner.getD j none:=by
  apply List.ext_getElem?;intro i;rw[YS,YR];by_cases hi:i < M
  ·have h2:i < owner.size:=by omega
   rw[List.getElem?_range hi,Qa h2,YE,Array.getD_eq_getD_getElem?,Qa h2];rfl
  ·rw[Array.getElem?_eq_none (by omega),Qi (by simp;omega)];rfl
 rw[e,List.filterMap_map,List.map_filterMap];congr 1;funext j;show Option.map (·.2) (Option.map (j,·) (owner.getD j none))=owner.getD j none;cases owner.getD j none <;> rfl
theorem bR{M:Nat}(h:owner.size=M):((List.range M).filterMap λj=>(owner.getD j none).map (j,·)).length=(owner.toList.filterMap id).length:=by
 rw[<- OO h,Yh]
theorem laid_ok(hc:cover (mask+1)=true)(f m:Nat)(l p:Bool)(b:Array Int)(c:b.size<=mask+1):
  ∃ t a,SetTable.laid mask f m l p b=some (t,a)/\a.toList.Perm (List.range b.size)/\t.mask=mask/\t.place.size=b.size/\t.dummies=#[]/\t.led=l/\t.plain=p:=by
 obtain⟨o',e,L⟩:=bQ hc b c;unfold SetTable.laid;rw[e];refine⟨_,_,rfl,?_,rfl,?_,rfl,rfl,rfl⟩
 ·rw[List.toList_toArray,OO L.sz];exact L.pm
 ·rw[Yn,Yh,bR L.sz,L.pm.length_eq,List.length_range]
theorem order_perm{α:Type}(es:Array α)(b:Array Nat)(h:b.toList.Perm (List.range es.size)):(b.filterMap (es[·]?)).toList.Perm es.toList:=by
 rw[Array.toList_filterMap];refine(h.filterMap _).trans ?_;rw[show(List.range es.size).filterMap (λx=>es[x]?)=es.toList from ?_]
 have:∀(l:List α),(List.range l.length).filterMap (λx=>l[x]?)=l:=λl=>by
  induction l with
  | nil=>rfl
  | cons a l c =>
   rw[Yg,List.range_succ_eq_map,List.filterMap_cons];simp only[Yb,List.filterMap_map];congr 1
 have h2:=this es.toList;rw[YW]at h2;simpa only[YR]using h2
end Tb
def bt(w:World):Bool:=w.params.followText "set-order"
structure Tab(w:World)(es:Array (Int×Value))(t:SetTable)(ks:List Str):Prop where
 el:∀ e∈es.toList,∃ x u,e=(hashStr w x,Value.str x u)
 pm:(es.toList.map λe=>strOf e.2).Perm ks
 nd:ks.Nodup
 ft:t.fits es.size=true
 ld:bt w=false->t.led=true
 pl:t.plain=true->ks=[]
def SS(w:World)(h:Heap)(a:Addr)(ks:List Str):Prop:=∃ o es ep t,h.get? a=some o/\o.ExactSet/\o.data=.set es ep t/\Tab w es t ks
namespace Tab
variable {w:World} {es es':Array (Int×Value)} {t t':SetTable} {ks ks':List Str}
theorem len(T:Tab w es t ks):es.size=ks.length:=by
 have:=T.pm.length_eq;rw[Yh,YW]at this;exact this
theorem elems(prog:Program)(T:Tab w es t ks):ElemsOf (strKind prog w) es.toList:=λe a=>by
 obtain⟨x,u,rfl⟩:=T.el e a;exact⟨⟨x,by show Value.isStrOf x (.str x u)=true;simp[Value.isStrOf],rfl⟩,rfl⟩
theorem perm(T:Tab w es t ks)(p:es'.toList.Perm es.toList)(f:t'.fits es'.size=true)(l:bt w=false->t'.led=true)(q:t'.plain=true->ks=[]):Tab w es' t' ks :=
 ⟨λe a=>T.el e (p.mem_iff.mp a),(p.map _).trans T.pm,T.nd,f,l,q⟩
theorem mem(T:Tab w es t ks)(k:Str):k∈ks↔∃ e∈es.toList,Value.isStrOf k e.2=true:=by
 rw[<- T.pm.mem_iff,YC];constructor
 ·rintro⟨e,a,rfl⟩;obtain⟨x,u,rfl⟩:=T.el e a;exact⟨_,a,by show Value.isStrOf x (.str x u)=true;simp[Value.isStrOf]⟩
 ·rintro⟨e,a,h⟩;obtain⟨x,u,rfl⟩:=T.el e a;refine⟨_,a,?_⟩;obtain⟨t,b⟩:=Value.isStrOf_shape h;injection b
end Tab
theorem bU(t:SetTable)(n:Nat):(t.orStandIn n).led=t.led:=by
 unfold SetTable.orStandIn;split <;> rfl
theorem bV(t:SetTable)(es:Array (Int×Value))(h:Int)(x:Value):(layNew t es h x).2.1.led=t.led:=by
 unfold layNew;split
 ·exact bU _ _
 ·rfl
theorem bW(t:SetTable)(es:Array (Int×Value))(n:Nat):(relayAll t es n).2.1.led=t.led/\((relayAll t es n).2.1.plain=true->t.plain=true):=by
 unfold relayAll;split
 ·rename_i t' a e;dsimp only;split
  ·unfold SetTable.relaid SetTable.laid at e;simp only[Option.bind_eq_bind,Qg]at e;obtain⟨o,_,e⟩:=e;cases e;exact⟨rfl,id⟩
  ·exact⟨rfl,λh=>by cases h⟩
 ·exact⟨rfl,λh=>by cases h⟩
section
variable {prog:Program} {w:World} {A:Around} {E:Value->Shared->Prop} {s:Shared}
variable {a:Addr}{es:Array (Int×Value)}{t:SetTable}{ks:List Str}
theorem E6{h:Heap}{o:Obj}{b:Nat}{t':SetTable}(f:h.get? a=some o)(e:o.ExactSet)(hd:o.data=.set es b t)(T:Tab w es' t' ks):
  (h.update a (Obj.putSet es' t')).get? a=some {o with data:=.set es' (b+1) t'}/\SS w (h.update a (Obj.putSet es' t')) a ks:=by
 have c:(h.update a (Obj.putSet es' t')).get? a=some {o with data:=.set es' (b+1) t'}:=by
  have d:=Qt (Obj.putSet es' t') f (by rw[putSet_of es' t' hd];rfl);rw[putSet_of es' t' hd]at d;exact d
 exact⟨c,_,es',b+1,t',c,e,rfl,T⟩
variable {k:Str}{u:Tok}
theorem bX{a:Array (Int×Value)}{c:SetTable}(T:Tab w es t ks)(d:k∉ks)(p:a.toList.Perm (es.toList++[(hashStr w k,Value.str k u)]))(f:c.fits a.size=true)(l:c.led=t.led)(q:c.plain=false):Tab w a c (k::ks):=by
 refine⟨λe b=>?_,?_,YV.mpr ⟨d,T.nd⟩,f,λh=>by rw[l];exact T.ld h,λh=>by rw[q]at h;cases h⟩
 ·rcases Yz.mp (p.mem_iff.mp b)with b | b
  ·exact T.el e b
  ·exact⟨k,u,YA.mp b⟩
 ·refine(p.map _).trans ?_;rw[Yy];exact(List.perm_append_singleton k _).trans (T.pm.cons k)
theorem Km{Q:Bool->Shared->Prop}(hS:SS w s.heap a ks)(hn:ks.length+1 < scanBound)
  (h:∀ h' b,Heap.SameBut a s.heap h'->SS w h' a (if k∈ks then ks else k::ks)->Q b {s with heap:=h'}):wpAny (model prog w) A (setAddHashed a (.str k u) (hashStr w k)) Q E s:=by
 obtain⟨o,es,ep,t,y,H,hd,T⟩:=hS;have B:=T.elems prog;have v:(strKind prog w).is k (.str k u)=true:=by show Value.isStrOf k (.str k u)=true;simp[Value.isStrOf]
 have q:(Value.str k u).scannable=true:=rfl;have hsz:=T.len;have hb:es.size < scanBound:=by omega
 unfold setAddHashed setAddHashedIn;refine wpAny_holding (Qm (wpAny_setState_of y hd T.ft ?_));dsimp only;rw[byScan_of q hb B,if_pos rfl];refine Qm ?_;unfold setAddByScan;refine Qm (wpAny_rule ?_);refine Qm (wpAny_setScan_of (knd:=strKind prog w) v y hd T.ft B ?_)
 have m:∀(b:Bool){l:Shared}{G:Unit->Shared->Prop},G () l->wpAny (model prog w) A (match b with | true=>rule "set.scan.the-table-gave-way" | false=>pure ()) G E l:=λb l G z=>by
  cases b
  ·exact Qn z
  ·exact wpAny_rule z
 cases U:List.findIdx? (λe=>(strKind prog w).is k e.2) es.toList with
 | some j =>
  obtain⟨hj,I,_⟩:=List.findIdx?_eq_some_iff_getElem.mp U;have p:k∈ks:=(T.mem k).mpr ⟨_,Qk hj,I⟩;have J:=h s.heap false (Heap.SameBut.refl a s.heap) (by rw[if_pos p];exact⟨o,es,ep,t,y,H,hd,T⟩);exact Qn (Qn J)
 | none =>
  have n:k∉ks:=λp=>by
   obtain⟨e,he,N⟩:=(T.mem k).mp p;have J:=List.findIdx?_eq_none_iff.mp U e he;exact Bool.noConfusion (J.symm.trans N)
  have d:=layNew_perm t es (hashStr w k) (.str k u);have f:=layNew_fits t es (hashStr w k) (.str k u);have g:=bV t es (hashStr w k) (.str k u);rw[if_neg n]at h;dsimp only;show wpAny (model prog w) A _ _ E s;have O:(strKind prog w).hash k=hashStr w k:=rfl;revert d f g;generalize layNew t es (hashStr w k) (.str k u)=L;obtain⟨c,t1,dm,gv⟩:=L;intro d f g;dsimp only at d f g ⊢;rw[Array.toList_push]at d;refine Qm (m _ ?_);have hz1:c.size=es.size+1:=by rw[<- YW,d.length_eq,Yj,YW];rfl
  have D:∀ i:SetTable,i.fits c.size=true->i.led=t.led->i.plain=false->wpAny (model prog w) A (do
    storeSet a c i
    if(!dm&&i.tooFull)=true then do
      (match(relayAll i c (SetTable.grown c.size)).2.2 with | true=>rule "set.scan.the-table-gave-way" | false=>pure ())
      storeSet a (relayAll i c (SetTable.grown c.size)).1 (relayAll i c (SetTable.grown c.size)).2.1
      pure (some true)
     else pure (some true)) (λr s'=>wpAny (model prog w) A (match r with | some added=>pure added | none=>setAddHashedIn a (.str k u) (hashStr w k) 99999) Q E s') E s:=λi f2 Z p2=>by
   have P:Tab w c i (k::ks):=bX T n d f2 Z p2;refine Qm (wpAny_storeSet_of y hd ?_ (fits_of_scanBound (by omega)));obtain⟨x,K⟩:=E6 y H hd P;have X:=Qs s.heap a (Obj.putSet c i);split
   ·have N:=relayAll_perm i c (SetTable.grown c.size);have hf:=relayAll_fits i c (SetTable.grown c.size);have Y:=bW i c (SetTable.grown c.size);have S:=P.perm N hf (λz=>by rw[Y.1,Z];exact T.ld z) (λz=>by rw[Y.2 z]at p2;cases p2);refine Qm (m _ ?_);refine Qm (wpAny_storeSet_of x rfl ?_ (fits_of_scanBound (by rw[S.len,<- P.len];omega)));obtain⟨_,R⟩:=E6 x H rfl S;exact Qn (Qn (h _ _ (X.trans (Qs _ a _)) R))
   ·exact Qn (Qn (h _ _ X K))
  split
  ·refine Qm ?_;rw[hashByValue_scannable 8 q];refine Qn ?_;exact D _ (SetTable.fits_plain_off f) g rfl
  ·rename_i F;refine Qm (Qn ?_);exact D _ f g (by simpa using F)
end
section
variable {prog:Program} {w:World} {A:Around} {E:Value->Shared->Prop} {s:Shared}
variable {h:Heap}{a:Addr}{ks:List Str}
theorem SS.kept{h':Heap}(S:SS w h a ks)(k:∀ o,h.get? a=some o->h'.get? a=some o):SS w h' a ks:=by
 obtain⟨o,es,b,t,c,r⟩:=S;exact⟨o,es,b,t,k o c,r⟩
theorem SS.nd(S:SS w h a ks):ks.Nodup:=by
 obtain⟨o,es,b,t,c,_,_,T⟩:=S;exact T.nd
theorem Kn(led:Bool)(hl:bt w=false->led=true)(c:h.get? a=some {cls:=.type "set",dict:=none,data:=.set #[] 0 (.fresh 0 0 led)}):SS w h a []:=
 ⟨_,#[],0,_,c,⟨rfl,rfl,rfl⟩,rfl,⟨λe b=>by simp at b,List.Perm.refl _,List.nodup_nil,rfl,hl,λ_=>rfl⟩⟩
theorem bY{R:Result->Shared->Prop}{fp y:List Addr}{G:Array GenState->Array GenState->Prop}{n:Nat}{P:Nat->Value->Prop}{St:Nat->Shared->Prop}(W:WalksS prog w A.in1 I fp y G n P St)(B:S∉fp)
  {val:Nat->Str} (u:∀ i v,P i v->∃ t,v=.str (val i) t):∀(k i:Nat)(s:Shared)(ks:List Str),n - i=k->i<=n->St i s->SS w s.heap S ks->ks.length+k < scanBound->
   (∀ s' ks',Moved (S::y) G s s'->SS w s'.heap S ks'->(∀ x,x∈ks'↔x∈ks\/∃ j,i<=j/\j < n/\val j=x)->R (.ok (.ret .none)) s')->
   codeAny (model prog w) A (.builtin "set.update.loop" ⟨[.ref S,.ref I],[]⟩) R s:=by
 have r:S∉y:=λz=>B (W.sub _ z);have a:∀ b∈y,b∈S::y:=λb z=>Yd _ z;intro k;induction k with
 | zero =>
  intro i s ks Y hi d H _ N;obtain rfl:i=n:=by omega
  refine codeAny_builtin PyProof.Rows.F.entry_set_update_loop ?_;rw[Around.under_plainId PyProof.Rows.F.plain_set_update_loop _];refine Qm (m:=pyNext (.ref I)) (W.done s _ _ d λs' q=>?_);refine Qn (N s' ks (q.mono a) (H.kept λo e=>q.heap S o r e) λx=>⟨.inl,?_⟩);rintro(h |⟨j,h1,h2,_⟩)
  ·exact h
  ·omega
 | succ k X =>
  intro i s ks Y hi d H hn N;have f:i < n:=by omega
  refine codeAny_builtin PyProof.Rows.F.entry_set_update_loop ?_;rw[Around.under_plainId PyProof.Rows.F.plain_set_update_loop _];refine Qm (m:=pyNext (.ref I)) (W.item i s _ _ f d λv D Z l q=>?_);obtain⟨t,rfl⟩:=u i v Z;have L:SS w D.heap S ks:=H.kept λo e=>q.heap S o r e;refine Qm (m:=holding [Value.str (val i) t] (setAdd S (.str (val i) t))) (wpAny_holding ?_);unfold setAdd;refine wpAny_holding (Qm ((strKind prog w).pyHash (k:=val i) (by show Value.isStrOf (val i) (.str (val i) t)=true;simp[Value.isStrOf]) ?_));refine Km (s:={D with toks:=D.toks+1}) L (by omega) λh' b g Q=>?_;refine Qn ⟨plainId_quiet PyProof.Rows.F.plain_set_update_loop _,X (i+1) _ _ (by omega) f (W.frame _ D _ _ l (Nat.le_succ _) λc hc o e=>?_) Q ?_ λT ks' O K U=>?_⟩
  ·rw[g.2 c λz:c=S=>B (by rw[<- z];exact hc)];exact e
  ·split
   ·omega
   ·rw[Yg];omega
  ·refine N T ks' (Moved.trans W.gtrans ((q.mono a).then_heap (Nat.le_succ _) λc o hc e=>?_) O) K λx=>(U x).trans ?_
   ·rw[g.2 c λz:c=S=>hc (by rw[z];exact Ye)];exact e
   ·have p:x∈(if val i∈ks then ks else val i::ks)↔x∈ks\/val i=x:=by
     split
     ·rename_i J;exact⟨.inl,λz=>z.elim id λe=>e▸J⟩
     ·rw[Yo];exact⟨λz=>z.elim (λe=>.inr e.symm) .inl,λz=>z.elim .inr λe=>.inl e.symm⟩
    rw[p];constructor
    ·rintro((h | h)|⟨j,h1,h2,E⟩)
     ·exact .inl h
     ·exact .inr ⟨i,Yr _,f,h⟩
     ·exact .inr ⟨j,by omega,h2,E⟩
    ·rintro(h |⟨j,h1,h2,E⟩)
     ·exact .inl (.inl h)
     ·by_cases e:j=i
      ·subst e;exact .inl (.inr E)
      ·exact .inr ⟨j,by omega,h2,E⟩
end
abbrev Bf(led:Bool):Obj:={cls:=.type "set",dict:=none,data:=.set #[] 0 (.fresh 0 0 led)}
section
variable {prog:Program} {w:World} {A:Around} {E:Value->Shared->Prop} {s:Shared}
variable {Q:Value->Shared->Prop}
theorem bZ(h:∀ led:Bool,(bt w=false->led=true)->Q (.ref s.heap.objs.size) {s with heap:=s.heap.push (Bf led)}):wpAny (model prog w) A (newSet (.type "set")) Q E s:=by
 unfold newSet setsByText;walk_at "pa";simp only[newObj];refine Qm (wpAny_alloc (Qn (h _ λz=>?_)));show(!(bt w))=true;rw[z];rfl
theorem OP(a:Value)(h:∀ led:Bool,(bt w=false->led=true)->Q (.ref s.heap.objs.size) {s with heap:=s.heap.push (Bf led)}):
  codeAny (model prog w) A (.call (.builtin "set.__new__") ⟨[.type "set",a],[]⟩) (wants Q E) s:=by
 refine codeAny_of_tree (?_:wpAny _ A.in1 (do checkBuiltinCall "set.__new__" ⟨[.type "set",a],[]⟩;again (.builtin "set.__new__" ⟨[.type "set",a],[]⟩)) _ _ s);refine Qm (wpAny_of_eq (PySem.F.newCall_set_1 a) (Qn ⟨plainId_quiet PySem.F.plain_set_new _,codeAny_builtin PySem.F.entry_set_new ?_⟩));rw[Around.under_plainId PySem.F.plain_set_new _];unfold Builtin.«set.__new__» Builtin.Frozenset.newClass;have b:=sub_set_self;obtain⟨c,g,d,tk,os⟩:=s;dsimp only;wp_walk;refine wpAny_askSetting (Qn ?_);simp only[newObj];refine Qm (wpAny_alloc (Qn (Qn (h _ λz=>?_))));show(!(bt w))=true;rw[z];rfl
theorem OQ:∀{vs:List Value}{xs:List Str},StrsAre vs xs->∀(i:Nat)(v:Value),vs[i]?=some v->∃ t,v=.str (xs.getD i (Str.ofString "")) t
 | _,_,.nil,i,v,h=>by simp at h
 | _,_,.cons x t r,0,v,h=>⟨t,by simp at h;exact h.symm⟩
 | _,_,.cons x t r,i+1,v,h=>OQ r i v (by simpa using h)
set_option maxHeartbeats 3200000 in
theorem Ko{l:Addr}{items:Array Value}{xs:List Str}(hh:A.handled=none)(hl:s.heap.IsList l items)(hi:StrsAre items.toList xs)(L:items.size < scanBound)
  (h:∀(h':Heap)(tk:Nat)(ks:List Str),SS w h' s.heap.objs.size ks->(∀ x,x∈ks↔x∈xs)->(∀ b o,b < s.heap.objs.size->s.heap.get? b=some o->h'.get? b=some o)->Q (.ref s.heap.objs.size) {s with heap:=h',toks:=tk}):
  wpAny (model prog w) A (call (.type "set") [.ref l]) Q E s:=by
 obtain⟨c,tl,hmro⟩:=PySem.F.called_set.mro;have P:=PySem.F.called_set.made;have hsub:=PySem.F.called_set.sub;refine wpAny_call (codeAny_of_tree (?_:wpAny _ _ (callAny (.type "set") _) _ _ _));refine Qn ⟨Code.quiet_builtin _ (by decide +kernel),codeAny_builtin PySem.F.entry_type_call ?_⟩;rw[Around.under_plain (weight_type_call_type "set" [.ref l] []) rfl];have h1:=PySem.F.called_set.notType;have h2:=PySem.F.called_set.canCreate;have hct:=PySem.F.typeCall_set_1 (.ref l);(repeat (any_goals (first | assumption | wp_step)));refine codeAny_mono (OP (.ref l) (E:=E) (Q:=λobj f=>∃ led:Bool,(bt w=false->led=true)/\obj=.ref s.heap.objs.size/\f={s with heap:=s.heap.push (Bf led)}) λled z=>⟨led,z,rfl,rfl⟩) λr f d=>?_
 match r,d with
 | .error e,d=>exact d
 | .ok .next,d=>exact d.elim
 | .ok .brk,d=>exact d.elim
 | .ok .cont,d=>exact d.elim
 | .ok (.ret obj),d =>
  obtain⟨led,y,rfl,rfl⟩:=d;have Y:(s.heap.push (Bf led)).get? s.heap.objs.size=some (Bf led):=Qq _ rfl;have hT:Shared.TypeIs {s with heap:=s.heap.push (Bf led)} (.ref s.heap.objs.size) "set":=⟨_,Y,rfl⟩;have hli:=PySem.F.called_set.init.lookup;have hbi:=PySem.F.called_set.init.bind (.ref s.heap.objs.size);(repeat (any_goals (first | assumption | wp_step)));refine codeAny_mono (codeAny_call_builtin (R:=wants (λr g=>r=.none/\∃ h' tk ks,g={s with heap:=h',toks:=tk}/\SS w h' s.heap.objs.size ks/\(∀ x,x∈ks↔x∈xs)/\(∀ b o,b < s.heap.objs.size->s.heap.get? b=some o->h'.get? b=some o)) E) PySem.F.called_set.init.plain PySem.F.entry_set_init (check_set_init_1 hT ?_)) λp g a=>?_
  ·obtain⟨ol,D,G,Z,n⟩:=hl;obtain⟨ocls,m,T,oslots⟩:=ol;simp only at G n;subst G n;have B:(s.heap.push (Bf led)).get? l=some {cls:=.type "list",dict:=m,data:=.seq items Z,slots:=oslots}:=Qo _ D;have hs1:=PySem.F.sub_list_set;have hs2:=PySem.F.sub_list_frozenset;have hne:(Value.type "list"==Value.type "dict")=false:=by decide
   have I:(s.heap.push (Bf led)).IsList l items:=⟨_,B,rfl,Z,rfl⟩;unfold Builtin.«set.__init__» noKeywords Builtin.Frozenset.updateFrom;generalize U:pyIter=PI;wp_walk;subst U;refine wpAny_pyIter_list I (Qm (wpAny_runValue ?_));have J:l < s.heap.objs.size:=Qp D;have q:l≠(s.heap.push (Bf led)).objs.size:=by rw[Qr];exact Ys (Nat.lt_succ_of_lt J)
   have X:s.heap.objs.size∉[(s.heap.push (Bf led)).objs.size,l]:=by
    rw[Qr];walk_at "pe";exact⟨Ys (Nat.lt_succ_self _),Nat.ne_of_gt J⟩
   have H:∀(i:Nat)(v:Value),items[i]?=some v->∃ t,v=.str (xs.getD i (Str.ofString "")) t:=λi v hv=>OQ hi i v (by rw[YR];exact hv);have hxl:items.size=xs.length:=by rw[<- YW];exact hi.length
   refine bY ((Walks.list (by simp[hh]) _ l q items).toS) X H (items.size - 0) 0 _ [] (by omega) (YY _) ⟨⟨_,Qq _ rfl,rfl,rfl⟩,I.push _⟩ ?_ (by simp only[Yi];omega) ?_
   ·exact Kn led y (Qo _ Y)
   ·intro s' ks K k u;obtain⟨h',g',d',N,S⟩:=s';obtain rfl:g'=s.gens:=K.gens;obtain rfl:d'=s.drawn:=K.drawn;obtain rfl:S=s.os:=K.os;refine Qn (Qn ⟨rfl,h',N,ks,rfl,k,λx=>(u x).trans ?_,λb o L e=>?_⟩)
    ·constructor
     ·rintro(z |⟨j,_,hj,e⟩)
      ·cases z
      ·rw[<- e];rw[Qe,Yp (by omega)];exact Qk _
     ·intro u;obtain⟨j,hj,e⟩:=List.getElem_of_mem u;refine .inr ⟨j,YY _,by omega,?_⟩;rw[Qe,Yp hj];exact e
    ·refine K.heap b o ?_ (Qo _ (Qo _ e));walk_at "pe";rw[Qr];exact⟨Ys L,Ys (Nat.lt_succ_of_lt L)⟩
  ·match p,a with
   | .error e,a=>exact a
   | .ok .next,a=>exact a.elim
   | .ok .brk,a=>exact a.elim
   | .ok .cont,a=>exact a.elim
   | .ok (.ret r),a =>
    obtain⟨rfl,h',tk,ks,rfl,k,u,O⟩:=a;(repeat (any_goals (first | assumption | wp_step)));exact h _ _ _ k u O
end
section
variable {prog:Program} {w:World} {A:Around} {E:Value->Shared->Prop} {s:Shared}
end
theorem OR:entryFor table "dict.update.loop"=some Builtin.«dict.update.loop»:=entryFor_of_tree (by kernel_rfl)
theorem He:plainId "dict.update.loop"=true:=by decide +kernel
section
variable {prog:Program} {w:World} {A:Around} {E:Value->Shared->Prop} {s:Shared}
variable {S:Addr}
theorem b0{p:Addr}{x:Str}{t:Tok}{v:Value}{a:List (Key×Value)}{i:Int}{Q:Unit->Shared->Prop}(b:s.heap.IsTuple p #[.str x t,v])(c:s.heap.DictOf (AV prog w) S a)(d:a.length<=sizeLine)
  (h:∀ h',h'.DictOf (AV prog w) S (stored a (.inr x) v)->Heap.SameBut S s.heap h'->Q () {s with heap:=h',toks:=s.toks+1}):
  wpAny (model prog w) A (holding [Value.ref p] do
   let pair <-(Builtin.Dict.pairItems (.ref p)).tryCatch λe=>do
    if !(<- isInstance e (.type "TypeError"))then throw e
    rule "dict.update.element-no-sequence"
    raiseError "TypeError" s!"cannot convert dictionary update sequence element #{i} to a sequence"
   match pair with
   | [k,v]=>holding [k,v] (dictSet S k v)
   | l =>
    rule "dict.update.element-length"
    raiseError "ValueError" s!"dictionary update sequence element #{i} has length {l.length}; 2 is required") Q E s:=by
 refine wpAny_holding ?_;have f:s.TypeIs (.ref p) "tuple":=b.typeIs
 have j:wpAny (model prog w) A (Builtin.Dict.pairItems (.ref p)) (λr s'=>r=[Value.str x t,v]/\s'=s) (λ_ _=>False) s:=by
  obtain⟨o,g,hc,n,hd⟩:=b;unfold Builtin.Dict.pairItems;refine Qm (wpAny_typeOf f ?_);rw[if_pos (by decide)];refine Qm (wpAny_seqItems g hd ?_);exact Qn ⟨rfl,rfl⟩
 refine Qm (wpAny_tryCatch (wpAny_mono j ?_ λ_ _ z=>z.elim));rintro r s' ⟨rfl,rfl⟩;refine wpAny_holding ?_;exact wpAny_dictSet_pairs (knd:=AV prog w) (k:=.inr x) (by simp[AV,De,Value.isStrOf]) c h d
theorem b1{R:Result->Shared->Prop}{fp:List Addr}{G:Array GenState->Array GenState->Prop}{n:Nat}{P:Nat->Value->Prop}{St:Nat->Shared->Prop}(W:WalksS prog w A.in1 I fp B G n P St)(H:S∉fp)
  {ps:List (Str×Value)} (hps:ps.length=n):∀(k i:Nat)(s:Shared)(u:Tok)(a:List (Key×Value)),n - i=k->i<=n->St i s->s.heap.DictOf (AV prog w) S a->a.length+k<=sizeLine->
   (∀ j v,i<=j->j < n->P j v->∃ p t y,v=.ref p/\p∉S::B/\ps[j]?=some y/\s.heap.IsTuple p #[.str y.1 t,y.2])->
   (∀ s',Moved (S::B) G s s'->s'.heap.DictOf (AV prog w) S (merged a ((ps.drop i).map λy=>(Sum.inr y.1,y.2)))->R (.ok (.ret .none)) s')->
   codeAny (model prog w) A (.builtin "dict.update.loop" ⟨[.ref S,.ref I,.int i u,.none],[]⟩) R s:=by
 have F:S∉B:=λz=>H (W.sub _ z);have d:∀ b∈B,b∈S::B:=λb z=>Yd _ z;intro k;induction k with
 | zero =>
  intro i s u a hk hi g L _ _ Y;obtain rfl:i=n:=by omega
  refine codeAny_builtin OR ?_;rw[Around.under_plainId He _];refine Qm (m:=pyNext (.ref I)) (W.done s _ _ g λs' l=>?_);refine Qm (Qn (Qn (Y s' (l.mono d) ?_)));rw[List.drop_eq_nil_of_le (by omega)];obtain⟨o,es,K,N,r⟩:=L;exact⟨o,es,K,l.heap S o F N,r⟩
 | succ k ih =>
  intro i s u a hk hi g L hn hP Y;have x:i < n:=by omega
  refine codeAny_builtin OR ?_;rw[Around.under_plainId He _];refine Qm (m:=pyNext (.ref I)) (W.item i s _ _ x g λv Q hPv E l=>?_);obtain⟨p,t,y,rfl,U,hy,D⟩:=hP i v (Yr _) x hPv
  have X:Q.heap.DictOf (AV prog w) S a:=by
   obtain⟨o,es,K,N,r⟩:=L;exact⟨o,es,K,l.heap S o F N,r⟩
  have q:Q.heap.IsTuple p #[.str y.1 t,y.2]:=D.at λo e=>l.heap p o (λz=>U (d _ z)) e;refine Qm (b0 (i:=i) q X (by omega) λh' hS2 f=>?_)
  have h:ps.drop i=y::ps.drop (i+1):=by
   rw[List.drop_eq_getElem_cons (by omega)];rw[Yp (by omega)]at hy;rw[YF hy]
  refine Qn ⟨plainId_quiet He _,ih (i+1) _ _ (stored a (.inr y.1) y.2) (by omega) x (W.frame _ Q _ _ E (Nat.le_succ _) λc hc o e=>?_) hS2 ?_ (λj v h1 h2 hv=>?_) λs2 Z T=>?_⟩
  ·rw[f.2 c λz:c=S=>H (by rw[<- z];exact hc)];exact e
  ·have:=merged_length_le a [((Sum.inr y.1:Key),y.2)];have e:merged a [((Sum.inr y.1:Key),y.2)]=stored a (.inr y.1) y.2:=rfl;rw[e]at this;simp only[Yg,Yi]at this;omega
  ·obtain⟨J,t',y',e1,O,e3,e4⟩:=hP j v (by omega) h2 hv;refine⟨J,t',y',e1,O,e3,(e4.at λo e=>l.heap J o (λz=>O (d _ z)) e).at λo e=>?_⟩;rw[f.2 J λz:J=S=>O (by rw[z];exact Ye)];exact e
  ·refine Y s2 (Moved.trans W.gtrans ((l.mono d).then_heap (Nat.le_succ _) λc o hc e=>?_) Z) ?_
   ·rw[f.2 c λz:c=S=>hc (by rw[z];exact Ye)];exact e
   ·rw[h];exact T
end
section
variable {prog:Program} {w:World} {A:Around} {E:Value->Shared->Prop} {s:Shared}
end
end L3
namespace L2
open PySem PySem.Spec PyProof.Rows
section
variable {prog:Program} {w:World} {A:Around} {R:Result->Shared->Prop} {s:Shared}
theorem b2{elt:Expr}{u k:Value}{env:Env}{E':Value->Shared->Prop}(I:Nat->Shared->Prop)
  (l:∀ e s',E' e s'->notedBy (model prog w) A env (λe s'=>R (.error e) s') e s')
  (p:∀ n s,I n s->wpAny (model prog w) A (pyNext u) (λr a=>match r with
   | none=>R (.ok .next) a
   | some v=>wpAny (model prog w) A (letOwnedTupleGo target u v) (λ_ s₁'=>wpAny (model prog w) A (assign target env v) (λ_ g=>
     wpAny (model prog w) A (forIn ifs true λc r=>if r=true then do let ok <- isTrue c env (eval c env);pure (ForInStep.yield ok)else pure (ForInStep.yield r)) (λok b=>
      if ok=true then wpAny (model prog w) A (eval elt env) (λx f=>
       wpAny (model prog w) A (call (.builtin "list.append") [k,x]) (λ_ i=>∃ m,m < n/\I m i) E' f) E' b
      else ∃ m,m < n/\I m b) E' g) E' s₁') E' a) E' s)
  (n:Nat) (h:I n s):
  codeAny (model prog w) A (.compLoop (.ListComp elt [⟨target,iter,ifs,0⟩] scope pos) 0 u k env) R s:=by
 refine codeAny_loop rfl I (λn s y=>?_) n h;show wpAny _ A ((compTurn (.ListComp elt [⟨target,iter,ifs,0⟩] scope pos) 0 u k env).onRaise (λx=>do noteFrame x env;theTreesLotGoes x)) _ _ s;refine wpAny_noted ?_;rw[compTurn_list];refine Qm (wpAny_standAt (Qm (wpAny_mono (p n s y) (λr a d=>?_) l)));cases r with
 | none=>exact Qn d
 | some v =>
  refine Qm (wpAny_mono d (λ_ s₁' h₁'=>?_) l);refine Qm (wpAny_mono h₁' (λ_ g t=>Qm (wpAny_mono t (λok b j=>?_) l)) l);cases ok with
  | false=>exact Qn ⟨rfl,j⟩
  | true =>
   exact Qm (Qm (wpAny_mono j (λx f o=>Qm (wpAny_mono o (λ_ i q=>Qn (Qn ⟨rfl,q⟩)) l)) l))
end
def PF(X:Cx)(ifs:List Expr)(t:TT):Prop :=
 ∀(pins:List (Addr×Obj))(s:Shared)(σ:St)(H:Hp)(Q:Bool->Hp->Prop),Inv X pins σ H s->t σ H Q->
  wpAny (model X.prog X.w) X.A (forIn ifs true λc r=>if r=true then do let ok <- isTrue c X.env (eval c X.env);pure (ForInStep.yield ok)else pure (ForInStep.yield r)) (TP X pins σ Q) X.xe s
def b3:TT:=λ_ H Q=>Q true H
variable {X:Cx}
theorem b4:PF X [] b3:=λ_ _ _ H _ I h=>wpAny_tests_nil ⟨H,I,h⟩
theorem b5{c:Expr}{t:TT}(hc:PT X c t):PF X [c] t:=λpins s σ H Q I h=>wpAny_tests_one (hc pins s σ H Q I h)
noncomputable def cxB(X:Cx)(Nc:List Str)(scope:Scope)(cl:List (Str×Addr))(C:Addr)(fp:List Addr)(s:Shared)(H:Hp):Cx :=
 {X with N:=Nc,s₀:=s,H₀:=H,env:=compEnvC scope cl C X.env,outer:=X.stack,ex:=fp,fn:=λ_=>false,pn:=[],xe:=λ_ _=>False}
structure Blk(X:Cx)(Nc:List Str)(scope:Scope)(cl:List (Str×Addr))(cap:St->St):Prop where
 clos:closureFor scope X.env=pure cl
 kind:scope.kind=.function
 names:∀ x∈scope.names,x.2=.local->scope.names.lookup x.1=some .local
 nocell:∀ y∈scope.names,y.2≠.cell
 sub:∀ y c,cl.lookup y=some c->X.env.cells.lookup y=some c
 has:∀ y,((relabel scope X.env).names.lookup y=some .cell\/(relabel scope X.env).names.lookup y=some .free)->∃ c,cl.lookup y=some c
 take:∀(σ:St)(i:Nat)(y:Str)(v:V),Nc[i]?=some y->(cap σ)[i]?=some (some v)->Vis (relabel scope X.env) y->
  ((relabel scope X.env).names.lookup y=some .cell\/(relabel scope X.env).names.lookup y=some .free)/\Vis X.env.scope y/\X.env.scope.names.lookup y≠some .local/\∃ j:Nat,X.N[j]?=some y/\σ[j]?=some (some v)
 len:∀ σ:St,(cap σ).length=Nc.length
variable {scope:Scope}
theorem b6{env:Env}(h:∀ y∈scope.names,y.2≠.free):relabel scope env=scope:=by
 unfold relabel
 rw[map_eq_self (l:=scope.names) (λx a=>by
  obtain⟨n,k⟩:=x;have:(k==NameKind.free)=false:=by simpa using h _ a
  simp[this])]
theorem Kp{names:List (Str×NameKind)}{x:Str}{k:NameKind}(h:names.lookup x=some k):(x,k)∈names:=PySem.mem_of_lookup h
theorem Cr{Nc:List Str}(kind:scope.kind=.function)(all:∀ y∈scope.names,y.2≠.free/\y.2≠.cell)(names:∀ x∈scope.names,x.2=.local->scope.names.lookup x.1=some .local):
  Blk X Nc scope [] (λ_=>List.replicate Nc.length none) where
 clos:=closureFor_none λx b=>(all x b).1
 kind:=kind
 names:=names
 nocell:=λy d=>(all y d).2
 sub:=λy c h=>by cases h
 has:=λy h=>by
  rw[b6 λz a=>(all z a).1]at h;rcases h with h | h
  ·exact absurd rfl (all _ (Kp h)).2
  ·exact absurd rfl (all _ (Kp h)).1
 take:=λσ i y v h1 h2 e=>by
  rw[List.getElem?_replicate]at h2;split at h2 <;> cases h2
 len:=λσ=>List.length_replicate ..
def cOk(cap:St->St)(g:TG)(tt:TT)(te:TE)(K:List V->Hp->Prop)(σ:St)(J:It)(H1:Hp):Prop :=
 ∃ W:Nat->Nat->St->Hp->List V->Prop,(∃ m,W 0 m (cap σ) H1 [])/\∀ i m σ' H' ys,W i m σ' H' ys->
  (J.stop i H'/\K ys H')\/
  (J.go i H'/\ys.length < sizeLine/\∃ N:St->Hp->List V->Prop,(∀ σ2 H2 ys2,N σ2 H2 ys2->∃ m',m' < m/\W (i+1) m' σ2 H2 ys2)/\
   ∀ x H2,J.yld i H' x H2->g x σ' H2 λσ3 H3=>tt σ3 H3 λb H4=>if b=true then te σ3 H4 λy H5=>N σ3 H5 (ys++[y])else N σ3 H4 ys)
def Hf(wi:TI)(cap:St->St)(g:TG)(tt:TT)(te:TE):TE:=λσ H Q=>wi σ H λJ H1=>cOk cap g tt te (λys H'=>∀ a,H' a=none->Q (.ref a) (upd H' a (.lst ys))) σ J H1
section
variable {X:Cx} {elt tg iter:Expr} {ifs:List Expr} {scope:Scope} {pos:Pos} {g:TG} {tt:TT} {te:TE} {Nc:List Str} {cap:St->St} {cl:List (Str×Addr)}
theorem OS(hc:X.calm=true)(B:Blk X Nc scope cl cap)(hg:∀ C fp s H,PG (cxB X Nc scope cl C fp s H) tg g)(ht:∀ C fp s H,PF (cxB X Nc scope cl C fp s H) ifs tt)(he:∀ C fp s H,PE (cxB X Nc scope cl C fp s H) elt te)
     {P:Shared} {E:Value->Shared->Prop} {RR:Value->Addr->Result->Shared->Prop}  {fp:List Addr}  {tn:Nat->Heap->Prop} {K:List V->Hp->Prop}
  (F:Inv X pins σ H2 P) (T:DM X.prog X.w X.K tg J fp it tn) (st2:tn 0 P.heap) (f2:∀ b∈fp,CV X pins H2 b) (w2:cOk cap g tt te K σ J H2)
  (fin:∀(D C:Addr)(s':Shared)(H':Hp)(ys:List V)(oC:Obj),H' D=none->K ys H'->Inv X pins σ (upd H' D (.lst ys)) s'->CV X pins (upd H' D (.lst ys)) C->s'.heap.get? C=some oC->(∀ v,oC.data≠.cell v)->(∃ m,s'.heap.Ns C m)->RR (.ref D) C (.ok .next) s'):
  wpAny (model X.prog X.w) X.A (newList []) (λacc s₃=>wpAny (model X.prog X.w) X.A (newFunctionEnv scope X.env.globals cl [] X.env.qual none .none (some X.env)) (λcenv s₄=>
   codeAny (model X.prog X.w) X.A (.compStart (.ListComp elt [⟨tg,iter,ifs,0⟩] scope pos) 0 (.ref it) acc {cenv with scope:=relabel scope X.env}) (RR acc cenv.locals) s₄) E s₃) E P:=by
 refine wpAny_newObj_type (wpAny_newFunctionEnv B.nocell (by intro y hy;simp at hy) (λY G t=>?_) B.kind);dsimp only at G t ⊢;generalize hP2:P.heap.push {cls:=.type "list",dict:=none,data:=.seq ([]:List Value).toArray}=P2 at G t ⊢;generalize L:P.heap.objs.size=D at G t ⊢;have hCs:P2.objs.size=D+1:=by rw[<- hP2,Qr,L]
 generalize hCC:P2.objs.size=C at G t hCs ⊢;have hDC:D≠C:=Ys (by rw[hCs];exact Nat.lt_succ_self _);have R:∀ b:Addr,b < D->b≠C:=λb h=>Ys (by rw[hCs];exact Nat.lt_succ_of_lt h);have leC:D<=C:=by rw[hCs];exact Nat.le_succ _
 have S:∀ b o,P.heap.get? b=some o->Y.get? b=some o:=λb o e=>by
  have f:=Qp e;rw[L]at f;refine t.extBut b o (R b f) (Qo _ ?_);rw[<- hP2];exact Qo _ e
 have hacc:Y.get? D=some {cls:=.type "list",data:=.seq #[]}:=by
  refine t.extBut D _ hDC (Qo _ ?_);rw[<- hP2,<- L];exact Qq _ rfl
 have lt2:∀ b o,P.heap.get? b=some o->b < D:=λb o e=>by rw[<- L];exact Qp e
 have U:∀ b∈fp,b < D:=λb f=>by
  obtain⟨o,e,_⟩:=T.obj _ _ st2 b f;exact lt2 b o e
 have celt:∀ x c,X.env.cells.lookup x=some c->c < D:=λx c e=>by
  obtain⟨v,z⟩:=F.cell x c e;rw[<- L];exact z.lt
 have Q:∀ p∈X.pn++pins,p.1 < D:=λp hp=>lt2 _ _ (F.pin p hp).1;have fstk:∀ b∈fp,b∉frs X.stack:=λb f z=>(Yo.mp (F.stkSub b z)).elim (f2 b f).2.1 (f2 b f).2.2.1;have hDn:H2 D=none:=F.hok.fresh (by rw[L];exact Yr _);have hCn:H2 C=none:=F.hok.fresh (by rw[L];exact leC);have sz0:X.s₀.heap.objs.size<=D:=by rw[<- L];exact F.sz
 let Xc:=cxB X Nc scope cl C fp P H2
 have okc:Xc.Ok:=by
  refine⟨F.ok.mod,?_,F.ok.glob,F.ok.blt,?_,λx y c h1 h2=>F.ok.inj x y c (B.sub x c h1) (B.sub y c h2),λx hx=>B.has x hx,(λx c h=>by cases h),F.ok.hd,F.ok.frames,.inl rfl,?_,F.bs,Yt F.ok.bsz F.sz,?_,fstk,F.stack,F.stkFree⟩
  ·exact B.kind
  ·show P.heap.objs.size<=C;rw[L];exact leC
  ·intro b f;refine⟨?_,λx c e=>?_⟩
   ·exact R b (U b f)
   ·exact(f2 b f).2.2.2.2.1 x c (B.sub x c e)
  ·intro b o e f;rcases(f2 b f).2.2.2.1 with z | z
   ·exact F.ok.noex b o e z
   ·exact absurd (Yu (Qp (F.ok.bs b o e).1) z) (YM _)
 have I0:∀ tk,Inv Xc (X.pn++pins) (cap σ) H2 {P with heap:=Y,toks:=tk}:=λtk=>by
  refine⟨okc,rfl,F.bare,Un.kept S,⟨_,G,λi y v h1 h2 h3=>?_⟩,λx c e=>?_,hCn,λx c e=>F.freeC x c (B.sub x c e),λp hp=>?_,F.hok.kept S,B.len σ⟩
  ·obtain⟨k1,k2,k3,j,k4,k5⟩:=B.take σ i y v h1 h2 h3;obtain⟨m,hn,hl⟩:=F.loc;obtain⟨u,r,l⟩:=hl j y v k4 k5 k2;refine⟨u,r,.inr ⟨k1,?_⟩⟩;rcases l with⟨l,_⟩|⟨_,c,e,z⟩
   ·exact absurd l k3
   ·obtain⟨c',e'⟩:=B.has y k1;have:=B.sub y c' e';rw[e]at this;cases this;obtain⟨oc,ec,dc⟩:=z;exact⟨c,e',oc,S _ _ ec,dc⟩
  ·obtain⟨v,oc,ec,dc⟩:=F.cell x c (B.sub x c e);exact⟨v,oc,S _ _ ec,dc⟩
  ·have Z:p∈X.pn++pins:=by simpa[Xc,cxB]using hp
   obtain⟨e,n,ne,nf,d⟩:=F.pin p Z;exact⟨S _ _ e,n,R _ (Q p Z),λz=>(Yo.mp (F.stkSub _ z)).elim ne nf,d⟩
 have fpc:∀{H':Hp}{o:Obj},(∀ b∈fp,H' b=none)->∀ b∈fp,CV Xc ((X.pn++pins)++[(D,o)]) H' b:=λ{H' o}hn b f=>by
  refine⟨hn b f,R b (U b f),fstk b f,.inl f,λx c e=>(f2 b f).2.2.2.2.1 x c (B.sub x c e),λp hp=>?_⟩
  ·have Z:p∈X.pn++pins\/p=(D,o):=by
    rcases Yz.mp hp with z | z
    ·cases z
    ·rcases Yz.mp z with z | z
     ·exact .inl z
     ·exact .inr (YA.mp z)
   rcases Z with z | z
   ·exact(f2 b f).2.2.2.2.2 p z
   ·subst z;exact Nat.ne_of_gt (U b f)
 obtain⟨W,⟨m0,w0⟩,turn⟩:=w2
 have loop:∀ tk,codeAny (model X.prog X.w) X.A (.compLoop (.ListComp elt [⟨tg,iter,ifs,0⟩] scope pos) 0 (.ref it) (.ref D) Xc.env) (RR (.ref D) C) {P with heap:=Y,toks:=tk}:=by
  intro tk
  refine b2 (E':=λ_ _=>False)
   (λn s'=>∃(i:Nat)(σ':St)(H':Hp)(ys:List V)(I:List Value)(k:Nat),Inv Xc (X.pn++pins) σ' H' s'/\tn i s'.heap/\(∀ b∈fp,H' b=none)/\H' D=none/\s'.heap.get? D=some {cls:=.type "list",data:=.seq I.toArray k}/\
    Vals ys I/\ys.length<=sizeLine/\W i n σ' H' ys) (λ_ _ z=>z.elim) ?_ m0
   ⟨0,cap σ,H2,[],[],0,I0 tk,T.keep _ _ _ st2 λb _ o e=>S b o e,λb f=>(f2 b f).1,hDn,hacc,.nil,YY _,w0⟩
  rintro n s3 ⟨i,σ3,H3,ys,I,k,I3,st3,fr3,hD3,o3,rv3,hz3,w3⟩
  have I3':Inv Xc ((X.pn++pins)++[(D,{cls:=.type "list",data:=.seq I.toArray k})]) σ3 H3 s3:=I3.pins_of λp hp=>by
   have Z:p∈X.pn++pins\/p=(D,{cls:=.type "list",data:=.seq I.toArray k}):=by
    rcases Yz.mp hp with z | z
    ·exact .inl z
    ·exact .inr (YA.mp z)
   rcases Z with z | z
   ·exact I3.pin p (by simpa[Xc,cxB]using z)
   ·subst z;refine⟨o3,hD3,hDC,λz=>?_,(λv z=>by cases z)⟩
    ·obtain⟨_,o,ho,_⟩:=F.stack.mem z;exact absurd (lt2 _ _ ho) (YM _)
  rcases turn i n σ3 H3 ys w3 with⟨stop,qn⟩|⟨go,hlt,N,hN,step⟩
  ·refine thn (T.done Xc rfl rfl rfl hc i _ s3 σ3 H3 _ I3' (fpc fr3) st3 stop) λr s4 zz1=>?_;obtain⟨hr,I4⟩:=zz1;subst hr;have pD:=I4.pin (D,{cls:=.type "list",data:=.seq I.toArray k}) (by simp);obtain⟨m4,hn4,_⟩:=I4.loc;obtain⟨oC,es,ep,eC,dC,rC⟩:=id hn4;have hD4:H3 D=none:=hD3;have hC4:H3 C=none:=I4.free;have O:∀ b u,H3 b=some u->upd H3 D (.lst ys) b=some u:=λb u e=>by rw[AN (DL e hD4)];exact e
   have un:Un (frs X.stack) fp H2 (upd H3 D (.lst ys)) P.heap s4.heap:=by
    have u:=I4.base;refine⟨u.keep,u.slot,λb o e n hx=>?_,u.there,λb xs e=>O _ _ (u.tups b xs e),λb o v e=>O _ _ (u.frzs b o v e),λb ps e=>?_⟩
    ·rw[AN (Ys (lt2 b o e))];exact u.free b o e n hx
    ·obtain⟨more,q⟩:=u.tbls b ps e;exact⟨more,O _ _ q⟩
   have hok:HOk X.prog X.w (upd H3 D (.lst ys)) s4.heap:=λb u e=>by
    by_cases f:b=D
    ·subst f;rw[B0]at e;cases e;exact⟨hz3,I,k,rv3,pD.1⟩
    ·rw[AN f]at e;exact(I4.hok b u e).stay (λ_ _ _ q=>q) (λc q=>O _ _ q) λc xs q=>O _ _ q
   have I5:Inv X pins σ (upd H3 D (.lst ys)) s4:=F.call' (ch:=fp) I4.os un hok I4.bare λb f=>⟨(f2 b f).2.2.2.1,(f2 b f).2.1,(f2 b f).2.2.2.2.1,(f2 b f).2.2.2.2.2⟩;refine fin D C s4 H3 ys oC hD4 qn I5 ⟨?_,?_,λz=>?_,.inr (Yt sz0 leC),λx c e=>?_,λp hp=>?_⟩ eC (λv z=>by rw[dC]at z;cases z) ⟨m4,hn4⟩
   ·rw[AN (YZ hDC)];exact hC4
   ·have:=F.lt;rw[L]at this;exact YZ (R _ this)
   ·exact F.nofs (a:=C) (by rw[L];exact leC) z
   ·exact R _ (celt x c e)
   ·exact R _ (Q p hp)
  ·refine thn (T.item Xc rfl rfl rfl hc i _ s3 σ3 H3 _ I3' (fpc fr3) st3 go) λr s4 zz2=>?_;obtain⟨u,hr,h4⟩:=zz2;subst hr;refine thn h4 λ_ s5 zz3=>?_;obtain⟨x,H5,I5,r5,y5,st5,fr5⟩:=zz3;have I5':=I5.pinned (fpc fr5) (T.obj _ _ st5);refine thn (hg C fp P H2 _ s5 σ3 H5 x u _ I5' r5 (step x H5 y5)) λ_ s6 zz4=>?_;obtain⟨σ6,H6,I6,q6⟩:=zz4;refine thn (ht C fp P H2 _ s6 σ6 H6 _ I6 q6) λok s7 zz5=>?_;obtain⟨H7,I7,q7⟩:=zz5
   have again:∀{σ8:St}{H8:Hp}{s8:Shared},Inv Xc (((X.pn++pins)++[(D,{cls:=.type "list",data:=.seq I.toArray k})])++E3 fp s5.heap) σ8 H8 s8->
     tn (i+1) s8.heap/\(∀ b∈fp,H8 b=none)/\s8.heap.get? D=some {cls:=.type "list",data:=.seq I.toArray k}/\H8 D=none:=λ{σ8 H8 s8}I8=>by
    refine⟨T.keep _ _ _ st5 λb f o e=>(I8.pin (b,o) (YQ _ (YQ _ (FV f e)))).1,λb f=>?_,?_⟩
    ·obtain⟨o,e,d⟩:=T.obj _ _ st5 b f;exact(I8.pin (b,o) (YQ _ (YQ _ (FV f e)))).2.1
    ·have:=I8.pin (D,{cls:=.type "list",data:=.seq I.toArray k}) (by simp);exact⟨this.1,this.2.1⟩
   cases ok with
   | false =>
    rw[if_neg YX]at q7 ⊢;obtain⟨m',hm,w7⟩:=hN _ _ _ q7;obtain⟨t7,f7,o7,d7⟩:=again I7;exact⟨m',hm,i+1,σ6,H7,ys,I,k,I7.unpinned.unpinned,t7,f7,d7,o7,rv3,hz3,w7⟩
   | true =>
    rw[if_pos rfl]at q7 ⊢;refine thn (he C fp P H2 _ s7 σ6 H7 _ I7 q7) λy s8 zz6=>?_;obtain⟨yv,H8,I8,r8,q8⟩:=zz6;obtain⟨m',hm,w8⟩:=hN _ _ _ q8;obtain⟨t8,f8,o8,d8⟩:=again I8;have hlen:=rv3.length;refine wpAny_list_append_plain (s:=s8) (items:=I.toArray) ⟨k,o8⟩ (λh9 zz7 sb9=>?_) (by rw[Yn];omega);obtain⟨k9,l9⟩:=zz7
    have I9:Inv Xc (X.pn++pins) σ6 H8 {s8 with heap:=h9}:=by
     refine I8.unpinned.unpinned.turned (t':=s8.toks) (λb o f e=>(sb9.2 b f).trans e) d8 ?_ (.inr ?_) (λx c e=>?_) λp hp=>?_
     ·exact hDC
     ·show P.heap.objs.size<=D;rw[L];exact Yr _
     ·exact Ys (celt x c (B.sub x c e))
     ·exact Ys (Q p (by simpa[Xc,cxB]using hp))
    refine⟨m',hm,i+1,σ6,H8,ys++[yv],I++[y],k9,I9,?_,f8,d8,?_,rv3.append (.cons r8 .nil),?_,w8⟩
    ·refine T.keep _ _ _ t8 λb f o e=>?_;exact(sb9.2 b (Ys (U b f))).trans e
    ·rw[l9];simp
    ·rw[Yj,List.length_singleton];omega
 have env_eq:Xc.env=compEnvC scope cl C X.env:=rfl;exact codeAny_compStart_list (loop _) (T.self _ 0 _ _ _ (T.keep _ _ _ st2 λb _ o e=>S b o e) (loop _))
theorem OT{d:TI}(hc:X.calm=true)(hi:PI X tg iter d)(B:Blk X Nc scope cl cap)(E:∀ C fp s H,PG (cxB X Nc scope cl C fp s H) tg g)(t:∀ C fp s H,PF (cxB X Nc scope cl C fp s H) ifs tt)(l:∀ C fp s H,PE (cxB X Nc scope cl C fp s H) elt te)
  (k:∀ x,foldedSetIterable iter X.env x=pure x:=by intro _;rfl):PE X (.ListComp elt [⟨tg,iter,ifs,0⟩] scope pos) (Hf d cap g tt te):=by
 intro pins s σ H Q I h;rw[eval_ListComp];refine wpAny_comprehension_free (use:=none) rfl k B.clos B.kind B.names (thn (hi pins s σ H _ I h) λv U h1=>thn h1 λz S h2=>?_);obtain⟨Y,fp,tn,J,H2,e,y,T,a,O,K⟩:=h2;subst e;refine OS (RR:=λc C=>compPost (model X.prog X.w) X.A X.xe none (EP X pins σ Q) c C) hc B E t l y T a O K ?_;intro D C s' H' ys P u q L F Z R ⟨m,i⟩;obtain⟨p,j,_,N,G,r⟩:=F;exact⟨m,i,λh' n=>⟨.ref D,_,L.turned (t':=s'.toks) (λb o f e=>(n.2 b f).trans e) p j N G r,rfl,q D u⟩⟩
theorem b7{i:Nat}{x:Str}{pos' a:Pos}(Z:X.N.Nodup)(t:X.N[i]?=some x)(E:X.env.scope.names.lookup x=some .local)(f:swapsWith (.ListComp elt [⟨tg,iter,ifs,0⟩] scope pos) (some (.Name x pos')) a.line X.env=pure true)
  (hc:X.calm=true) (hi:PI X tg iter z) (B:Blk X Nc scope cl cap) (hg:∀ C fp s H,PG (cxB X Nc scope cl C fp s H) tg g) (ht:∀ C fp s H,PF (cxB X Nc scope cl C fp s H) ifs tt) (he:∀ C fp s H,PE (cxB X Nc scope cl C fp s H) elt te)
  (hs:∀ x,foldedSetIterable iter X.env x=pure x:=by intro _;rfl):PS X (.Assign [.Name x pos'] (.ListComp elt [⟨tg,iter,ifs,0⟩] scope pos) a) (J0 (Hf z cap g tt te) (B6 i)):=by
 intro pins s σ H O I h;rw[exec_Assign_Name_used _ _ _ _ f];refine Qm (wpAny_standAt (Qm ?_));show wpAny _ X.A (do let _ <- comprehension (.ListComp elt [⟨tg,iter,ifs,0⟩] scope pos) scope X.env _ (newList []) false (eval iter X.env) (some (assign (.Name x pos') X.env))) _ _ s
 refine Qm (wpAny_mono (wpAny_comprehension_free (use:=some (assign (.Name x pos') X.env)) (Q:=λ_ s'=>SP X pins O .next s') rfl hs B.clos B.kind B.names
  (thn (hi pins s σ H _ I h) λv s1 h1=>thn h1 λitv s2 h2=>?_)) (λ_ s' U=>Qn (Qn U)) λ_ _ e=>e)
 obtain⟨it,fp,tn,J,H2,e,I2,T,n,f2,w2⟩:=h2;subst e;refine OS (RR:=λp C=>compPost (model X.prog X.w) X.A X.xe (some (assign (.Name x pos') X.env)) (λ_ s'=>SP X pins O .next s') p C) hc B hg ht he I2 T n f2 w2 ?_;intro D C s' H' ys j hD q I' F r dC ⟨m,hn⟩;obtain⟨L,y,k,R,P,K⟩:=F
 have Ip:Inv X (pins++E3 [C] s'.heap) σ (upd H' D (.lst ys)) s':=I'.pinned (fp:=[C]) (λb c=>by
  have e:b=C:=by simpa using c
  subst e
  exact⟨L,y,k,R,P,K⟩) λb c=>by
   have e:b=C:=by simpa using c
   subst e;exact⟨j,r,dC⟩
 show wpAny _ X.A (assign (.Name x pos') X.env (.ref D)) _ _ _;refine wpAny_assign_Name (GX Ip Z t (.inl E) (v:=.ref D) rfl (λs3 G=>?_) (.inr E));have pC:=G.pin (C,j) (YQ _ (YQ _ (FV (by simp) r)));obtain⟨Y,es,S,d,l,u⟩:=hn;rw[r]at d;cases d;refine⟨m,⟨j,es,S,pC.1,l,u⟩,λh' sb=>⟨_,_,G.unpinned.turned (t':=s3.toks) (λb o c e=>(sb.2 b c).trans e) L y R P K,q D hD⟩⟩
end
variable {P:Program}{w:World}{H:Hp}{h:Heap}{o:HO}
theorem ObjOk.at{a:Addr}(x:ObjOk P w H h a o):∃ u,h.get? a=some u:=by
 cases o with
 | lst xs=>obtain⟨_,_,_,_,e⟩:=x;exact⟨_,e⟩
 | tup xs=>obtain⟨_,_,_,c,e,_⟩:=x;exact⟨_,e⟩
 | dK b=>obtain⟨_,_,_,_,o,_,_,e,_⟩:=x;exact⟨_,e⟩
 | dT b=>obtain⟨_,_,_,_,o,_,_,e,_⟩:=x;exact⟨_,e⟩
 | set S n=>obtain⟨o,_,_,_,e,_⟩:=x;exact⟨_,e⟩
 | ins C dx fs=>obtain⟨_,_,_,e,_⟩:=x;exact⟨_,e⟩
 | own y=>obtain⟨_,e⟩:=x;exact⟨_,e⟩
 | xd fs=>obtain⟨_,⟨_,_,_,e,_⟩,_⟩:=x;exact⟨_,e⟩
 | rng lo hi=>obtain⟨_,_,_,e⟩:=x;exact⟨_,e⟩
 | frz c u=>obtain⟨e,_⟩:=x;exact⟨_,e⟩
 | tbl ps=>exact⟨_,(show h.get? a=some _ from x)⟩
 | met f y=>exact⟨_,(show h.get? a=some _ from x)⟩
 | ext φ=>obtain⟨_,⟨_,e⟩,_⟩:=x;exact⟨_,e⟩
structure Fly(P:Program)(w:World)(outer:List Env)(H0:Hp)(s0:Shared)(H':Hp)(e C:Addr)(s':Shared):Prop where
 os:s'.os=s0.os
 bare:AllBare s'.gens
 un:Un (frs outer) [] H0 H' s0.heap s'.heap
 hok:HOk P w H' s'.heap
 fly:∃(B:Heap)(a0:Value),Heap.FlyingW B outer e (.ref C) a0 s'.heap/\∀ b,b∉frs outer->((∃ o,s0.heap.get? b=some o)\/H' b≠none)->∃ o,B.get? b=some o
 new:s0.heap.get? e=none
 free:H' e=none
def CXe(P:Program)(w:World):CXT:=λouter H0 s0 E ev s'=>∃(e C:Addr)(H':Hp),ev=.ref e/\Fly P w outer H0 s0 H' e C s'/\E (.ref C) none H'
variable {outer:List Env}{h1:Heap}
theorem OU{v H':Hp}{j h' B:Heap}(un:Un (frs outer) [] v H' j h1)(hok:HOk P w H' h1)(d:∀ b∈frs outer,H' b=none)
  (r:∀ b∈frs outer,∃ o,h1.get? b=some o/\∀ vs,o.data≠.fields vs) (y:B.StaysIn h1) (m:∀ b,b∉frs outer->((∃ o,j.get? b=some o)\/H' b≠none)->∃ o,B.get? b=some o)
  (st:B.StaysIn h') (up:h1.UpToSlots h'):Un (frs outer) [] v H' j h'/\HOk P w H' h':=by
 have exact_:∀ b o,b∉frs outer->((∃ o,j.get? b=some o)\/H' b≠none)->h1.get? b=some o->h'.get? b=some o:=λb o c l e=>by
  obtain⟨o',s⟩:=m b c l;have:=y b o' s;rw[e]at this;cases this;exact st b _ s
 refine⟨⟨λb o q n c f=>exact_ b o c (.inl ⟨o,q⟩) (un.keep b o q n c f),λb o q n c f=>?_,un.free,λb o q f=>?_,un.tups,un.frzs,un.tbls⟩,λa o e=>?_⟩
 ·obtain⟨A,h⟩:=un.slot b o q n c f;obtain⟨x,i,p⟩:=r b c;rw[h]at i;cases i;obtain⟨g,k⟩:=up b _ h p;exact⟨g,k⟩
 ·obtain⟨o',h⟩:=un.there b o q f;by_cases c:b∈frs outer
  ·obtain⟨x,i,p⟩:=r b c;obtain⟨g,k⟩:=up b _ i p;exact⟨_,k⟩
  ·exact⟨o',exact_ b o' c (.inl ⟨o,q⟩) h⟩
 ·refine(hok a o e).stay (λb u c q=>?_) (λ_ q=>q) λ_ _ q=>q
  have t:H' b≠none:=by
   rcases c with rfl | c
   ·rw[e];simp
   ·rw[c];simp
  exact exact_ b u (λz=>t (d b z)) (.inr t) q
section
variable {X:Cx} {pins:List (Addr×Obj)} {σ:St} {H H':Hp} {s s':Shared} {e C:Addr}
theorem Fly.inv(I:Inv X pins σ H s)(F:Fly X.prog X.w X.stack H s H' e C s'){B h':Heap}{g:Value}(f:Heap.FlyingW B X.stack e (.ref C) g s'.heap)
  (d:∀ b,b∉frs X.stack->((∃ o,s.heap.get? b=some o)\/H' b≠none)->∃ o,B.get? b=some o) (st:B.StaysIn h') (up:s'.heap.UpToSlots h'):Inv X pins σ H' {s' with heap:=h'}:=by
 have a:∀ b∈frs X.stack,H' b=none:=λb c=>by
  obtain⟨_,o,h,_⟩:=I.stack.mem c;exact F.un.free b o h (I.stkFree b c) (by simp)
 obtain⟨u,k⟩:=OU F.un F.hok a (λb c=>(f.2.2.1.mem c).2) f.1 d st up;exact I.call' (s':={s' with heap:=h'}) (ch:=[]) F.os u k F.bare (λb z=>absurd z (by simp))
end
variable {K:PySem.W.Frag}{mg:Str->Option Value}{base:Heap}{N:List Str}{qual:Str}{f:Addr}{cd:Value}{A:Around}{s:Shared}{E:XK}
theorem b8:
  aY (CXe P w) (Bj (CXe P w) P w K mg base N qual scope f cd A outer s H E) E:=by
 intro pins σ Hc r ev s' I ⟨e,C,H',p,F,q⟩;subst p;obtain⟨B,n,l,h⟩:=F.fly;show wpAny _ _ (leaving _ (.ref e)) _ _ s';refine wpAny_leaves_onW I.ok.frames rfl l λh' d up=>?_;have c:=F.inv I l h d.1 up;refine⟨e,C,H',rfl,⟨c.os,c.bare,c.base,c.hok,⟨B,n,d,λb m g=>?_⟩,?_,F.free⟩,q⟩
 ·have j:b∉frs (Bj (CXe P w) P w K mg base N qual scope f cd A outer s H E).stack:=λz=>by
   rcases Yo.mp (c.stkSub b z)with a | a
   ·rcases g with⟨o,k⟩| i
    ·have h1:=Qp k;have h2:=I.ok.above;rw[a]at h1;exact absurd (Yu h1 h2) (YM _)
    ·rw[a]at i;exact i c.free
   ·exact m a
  refine h b j ?_;rcases g with⟨o,k⟩| i
  ·exact .inl (I.base.there b o k (by intro z;cases z))
  ·exact .inr i
 ·cases z:s.heap.get? e with
  | none=>rfl
  | some o =>
   obtain⟨o',a⟩:=I.base.there e o z (by intro z;cases z);rw[F.new]at a;cases a
variable {pins:List (Addr×Obj)}{σ:St}{e:Addr}
theorem b9
     {g:Shared}  {C:Addr} {vs:List Value} (I:Inv (Bj (CXe P w) P w K mg base N qual scope f cd A outer s H E) pins σ Hc g) (i:Heap.MadeExcOf g.heap h1 e (.ref C) vs) (q:E (.ref C) none Hc):
  (Bj (CXe P w) P w K mg base N qual scope f cd A outer s H E).xe (.ref e) {g with heap:=h1}:=by
 have r:∀ env∈(Bj (CXe P w) P w K mg base N qual scope f cd A outer s H E).stack,∀ b,env.frame=some b->b∈frs (Bj (CXe P w) P w K mg base N qual scope f cd A outer s H E).stack:=λenv B b h=>List.mem_filterMap.mpr ⟨env,B,h⟩;show wpAny _ _ (leaving _ (.ref e)) _ _ _;refine wpAny_leaves_madeW (base:=PySem.W.hideAll g.heap (frs (Bj (CXe P w) P w K mg base N qual scope f cd A outer s H E).stack)) I.ok.frames rfl (λb o z=>PySem.W.of_hideAll _ z) (PySem.W.funFrames_hide I.stack r) i λh' t x v y up=>?_
 have m:∀ b,b∉frs (Bj (CXe P w) P w K mg base N qual scope f cd A outer s H E).stack->((∃ o,g.heap.get? b=some o)\/Hc b≠none)->∃ o,(PySem.W.hideAll g.heap (frs (Bj (CXe P w) P w K mg base N qual scope f cd A outer s H E).stack)).get? b=some o:=λb h c=>by
  have:∃ o,g.heap.get? b=some o:=by
   rcases c with z | z
   ·exact z
   ·cases a:Hc b with
    | none=>exact absurd a z
    | some o=>exact(I.hok b o a).at
  obtain⟨o,j⟩:=this;exact⟨o,PySem.W.hideAll_get _ j h⟩
 obtain⟨u,k⟩:=OU (P:=P) (w:=w) (Un.kept i.keeps) (I.hok.kept i.keeps) I.stkFree (λb h=>by
  obtain⟨_,o,j,d⟩:=I.stack.mem h;exact⟨o,i.keeps _ _ j,d⟩) (λb o z=>i.keeps _ _ (PySem.W.of_hideAll _ z)) m x.1 up
 have l:=I.call' (s':={g with heap:=h'}) (ch:=[]) rfl u k I.bare (λb z=>absurd z (by simp))
 have en:Hc e=none:=by
  cases z:Hc e with
  | none=>rfl
  | some o =>
   obtain⟨o',a⟩:=(I.hok e o z).at
   rw[i.new]at a;cases a
 refine⟨e,C,Hc,rfl,⟨l.os,l.bare,l.base,l.hok,⟨_,_,x,λb h c=>?_⟩,?_,en⟩,q⟩
 ·have p:b∉frs (Bj (CXe P w) P w K mg base N qual scope f cd A outer s H E).stack:=λz=>by
   rcases Yo.mp (l.stkSub b z)with a | a
   ·rcases c with⟨o,j⟩| n
    ·have h1:=Qp j;have h2:=I.ok.above;rw[a]at h1;exact absurd (Yu h1 h2) (YM _)
    ·rw[a]at n;exact n l.free
   ·exact h a
  refine m b p ?_;rcases c with⟨o,j⟩| n
  ·exact .inl (I.base.there b o j (by intro z;cases z))
  ·exact .inr n
 ·cases z:s.heap.get? e with
  | none=>rfl
  | some o =>
   obtain⟨o',a⟩:=I.base.there e o z (by intro z;cases z);rw[i.new]at a;cases a
theorem ca{C:Addr}{c:List Value}{a:String}(X:K.In h)(q:PySem.W.excIn K C c a=true):
  ∃ bm N nm q bs hdct sn sub ab col dd k0 k1 k2 k3 k5 mN,h.get? C=some (excClassObj nm q C N bs bm hdct sn sub ab col dd k0 k1 k2 k3 k5 a)/\h.Ns N mN/\mN "__init__"=none/\OwnTail h c bm:=by
 unfold PySem.W.excIn at q;split at q
 ·rename_i dd cd g m;split at q
  ·rename_i p bm k0 k1 k2 k3 n k5 i f;simp only[YH,beq_iff_eq,Bool.not_eq_true']at q;obtain⟨⟨⟨⟨⟨rfl,rfl⟩,b⟩,j⟩,hok⟩,d⟩:=q;obtain⟨nm,bs,mro,ns,k,hd,sn,sub,ab,col,o⟩:=cd;dsimp only at i b hok d;subst i b
   have e:g=#[k0,k1,k2,k3,some (.builtin n),k5]:=by
    obtain⟨l⟩:=g;simp only at f;rw[f]
   subst e;exact⟨bm,ns,nm,k,bs,hd,sn,sub,ab,col,dd,k0,k1,k2,k3,k5,_,X _ _ m,.of_isNs (PySem.W.isNs_of_in X hok),PySem.W.nsMap_none_of_in X hok d,PySem.W.tail_of_in X j⟩
  ·cases q
 ·cases q
def cb(C:Addr)(E:XK)(t:TA):TS:=λ_ σ H=>t σ H λvs H1=>vs.length<=sizeLine/\E (.ref C) none H1
section
variable {P:Program} {w:World} {K:PySem.W.Frag} {mg:Str->Option Value} {base:Heap} {N:List Str} {qual:Str} {scope:Scope} {f:Addr} {cd:Value} {A:Around} {outer:List Env} {s:Shared} {H:Hp} {E:XK}
theorem cc{x:Str}{C:Addr}{B b initId:String}{bm:List Value}{l cpos pos:Pos}{a:Expr}{Av:List Expr}{t:TA}
  (v:Gl (Bj (CXe P w) P w K mg base N qual scope f cd A outer s H E) x) (u:mg x=some (.ref C)) (q:PySem.W.excIn K C bm b=true) (FB:ExcBaseFacts B b initId bm)
  (y:PA (Bj (CXe P w) P w K mg base N qual scope f cd A outer s H E) (a::Av) t)
  (k:starEach (a::Av) (Bj (CXe P w) P w K mg base N qual scope f cd A outer s H E).env=(false,eval a (Bj (CXe P w) P w K mg base N qual scope f cd A outer s H E).env)::starEach Av (Bj (CXe P w) P w K mg base N qual scope f cd A outer s H E).env:=by rfl)
  (hplain:(backTo cpos (starEach Av (Bj (CXe P w) P w K mg base N qual scope f cd A outer s H E).env)).any (·.1)=false:=by rfl) (hd:(x==("__debug__":Str))=false:=by decide):
  PS (Bj (CXe P w) P w K mg base N qual scope f cd A outer s H E) (.Raise (some (.Call (.Name x l) (a::Av) [] cpos)) none pos) (cb C E t):=by
 intro pins r σ Hc D I h;obtain⟨tl,p,nm,z,bs,hdct,sn,sub,ab,col,dd,k0,k1,k2,k3,k5,mN,m,o,g,T⟩:=ca I.ok.mod.kin q
 refine wpAny_Raise_call_subT (C:=C) (nm:=nm) (q:=z) (N:=p) (bs:=bs) (bm:=tl) (hdct:=hdct) (sn:=sn) (sub:=sub) (ab:=ab) (col:=col) (dd:=dd) (k0:=k0) (k1:=k1) (k2:=k2) (k3:=k3) (k5:=k5)
  FB (mN:=mN) (T.hasType FB.hasBase) (I.ok.hd rfl) (by rw[k];show(false||(backTo cpos (starEach Av _)).any (·.1))=false;rw[hplain];rfl) g (FR I v u ⟨rfl,?_⟩ hd)
 have c:=y cpos pins r σ Hc _ I h;rw[k]at c ⊢;refine Calls.evalArgs_plain (thn c λn F i=>?_);obtain⟨G,H1,d,r1,J,q1⟩:=i;exact⟨rfl,by have:=r1.length;show n.length<=_;omega,d.bk _ _ m,o.keeps d.bk,T.keeps d.bk,λh' e j=>b9 d j q1⟩
end
theorem ce{M:Model}{E:Value->Shared->Prop}{C D:Addr}{i:Obj}{b:Bool}{Q:Bool->Shared->Prop}(X:K.In s.heap)(u:s.heap.get? e=some i)(a:i.cls=.ref C)
  (v:PySem.W.typeIn K (.ref D)=some (.type "type")) (f:(PySem.W.clsIn K D).isSome=true) (l:PySem.W.subIn K (.ref D) (.type "BaseException")=some true) (n:PySem.W.subIn K (.ref C) (.ref D)=some b) (h:Q b s):
  wpAny M A (excMatches (.ref e) (.ref D)) Q E s:=by
 obtain⟨c,g,d,t,os⟩:=s;have m:PySem.W.Looks M c (isInstance (.ref D) (.type "tuple")) false:=(PySem.W.looks_typeIn X v).andThen (PySem.W.Looks.of_pure tc_notTuple)
 have x:PySem.W.Looks M c (isType (.ref D)) true:=by
  unfold PySem.W.clsIn at f;split at f
  ·rename_i B H j p o;intro F z G s' k q;unfold isType loadHead;exact Qm (wpAny_loadPart (k _ _ (X _ _ o)) (Qn q))
  ·cases f
 have w:PySem.W.Looks M c (isExcClass (.ref D)) true:=by
  unfold isExcClass;refine x.andThen ?_;rw[if_pos rfl];exact PySem.W.looks_subIn X l
 have r:PySem.W.Looks M c (typeOf (.ref e)) (.ref C):=by
  rw[<- a];exact(PySem.W.Looks.ld u).andThen .now
 have y:=PySem.W.looks_subIn (M:=M) X n;unfold excMatches;refine Qm (m.at ?_);rw[if_neg YX];show wpAny M A (forIn [Value.ref D] PUnit.unit _ >>=_) Q E _;rw[List.forIn_cons];refine Qm (Qm (Qm (w.at ?_)));rw[if_neg (by decide)];refine Qn ?_;refine Qn ?_;refine Qm (r.at ?_);rw[List.forIn_cons];refine Qm (Qm (Qm (y.at ?_)));cases b with
 | true =>
  rw[if_pos rfl];exact Qn (Qn (Qn h))
 | false =>
  rw[if_neg YX];exact Qn (Qn (Qn h))
theorem Inv.track(I:Inv X pins σ H s)(h:H e=none)(k:e≠X.env.locals)(hc:∀ x c,X.env.cells.lookup x=some c->c≠e)(j:∀ p∈X.pn++pins,p.1≠e)
  (l:X.s₀.heap.get? e=none) (ok:ObjOk X.prog X.w (upd H e o) s.heap e o):Inv X pins σ (upd H e o) s:=by
 have a:∀ b u,H b=some u->upd H e o b=some u:=λb u z=>by rw[AN (DL z h)];exact z
 refine⟨I.ok,I.os,I.bare,⟨I.base.keep,I.base.slot,λb f z n i=>?_,I.base.there,λb xs z=>a _ _ (I.base.tups b xs z),λb f u z=>a _ _ (I.base.frzs b f u z),λb ps z=>?_⟩,I.loc,I.cell,?_,λx c z=>?_,λp z=>?_,λb u z=>?_,I.len⟩
 ·rw[AN (λq=>by rw[q,l]at z;cases z)];exact I.base.free b f z n i
 ·obtain⟨d,q⟩:=I.base.tbls b ps z;exact⟨d,a _ _ q⟩
 ·rw[AN (YZ k)];exact I.free
 ·rw[AN (hc x c z)];exact I.freeC x c z
 ·obtain⟨q1,q2,q3⟩:=I.pin p z;exact⟨q1,by rw[AN (j p z)];exact q2,q3⟩
 ·by_cases g:b=e
  ·subst g;rw[B0]at z;cases z;exact ok
  ·rw[AN g]at z;exact(I.hok b u z).stay (λ_ _ _ q=>q) (λc q=>a _ _ q) λc xs q=>a _ _ q
def cxH(X:Cx)(e:Addr):Cx:={X with A:=X.A.mark (some (.ref e)),calm:=false,xe:=λ_ _=>False}
theorem Inv.toH(I:Inv X pins σ H s):Inv (cxH X e) pins σ H s :=
 ⟨⟨I.ok.mod,I.ok.kind,I.ok.glob,I.ok.blt,I.ok.above,I.ok.inj,I.ok.has,I.ok.cab,(λz=>by cases z),I.ok.frames,I.ok.stk,I.ok.exf,I.ok.bs,I.ok.bsz,I.ok.noex,I.ok.exfs,I.ok.funs,I.ok.frf⟩,I.os,I.bare,I.base,I.loc,I.cell,I.free,I.freeC,I.pin,I.hok,I.len⟩
theorem Inv.ofH(ok:X.Ok)(I:Inv (cxH X e) pins σ H s):Inv X pins σ H s :=
 ⟨ok,I.os,I.bare,I.base,I.loc,I.cell,I.free,I.freeC,I.pin,I.hok,I.len⟩
def cxT(X:Cx)(pn:List (Addr×Obj))(xe:Value->Shared->Prop):Cx:={X with pn:=pn,xe:=xe}
variable {xe:Value->Shared->Prop}
theorem Inv.toT(I:Inv X pins σ H s):Inv (cxT X (X.pn++pins) xe) [] σ H s :=
 ⟨⟨I.ok.mod,I.ok.kind,I.ok.glob,I.ok.blt,I.ok.above,I.ok.inj,I.ok.has,I.ok.cab,I.ok.hd,I.ok.frames,I.ok.stk,I.ok.exf,I.ok.bs,I.ok.bsz,I.ok.noex,I.ok.exfs,I.ok.funs,I.ok.frf⟩,I.os,I.bare,I.base,I.loc,I.cell,I.free,I.freeC,(λp a=>I.pin p (by simpa[cxT]using a)),I.hok,I.len⟩
theorem Inv.ofT{a:List (Addr×Obj)}(ok:X.Ok)(I:Inv (cxT X (X.pn++pins) xe) a σ H s):Inv X pins σ H s :=
 ⟨ok,I.os,I.bare,I.base,I.loc,I.cell,I.free,I.freeC,(λp b=>I.pin p (YO _ b)),I.hok,I.len⟩
def cf(e C:Addr):Heap->Prop:=λh=>∃ ox,h.get? e=some ox/\ox.cls=.ref C
def FZ(CX:CXT)(X:Cx)(Eσ:St->XK):Prop:=∀(pins:List (Addr×Obj))(σ:St)(H:Hp)(s:Shared)(e:Value)(s':Shared),Inv X pins σ H s->CX X.stack H s (Eσ σ) e s'->X.xe e s'
def OV(sp:Sp)(dvs:List V)(Eσ:St->XK)(t:TA):TE:=λσ H Q=>t σ H λvs H1=>sp (vs++dvs) H1 Q (Eσ σ)
section
variable {X:Cx} {CX:CXT} {k:Nat} {f:Addr} {fd:FuncData} {ps:List Str} {sp:Sp} {dvs:List V} {ds:List Value} {Eσ:St->XK} {x:Str} {p pos:Pos} {e:Expr} {es:List Expr} {t:TA}
theorem cg(F:FnOk X.prog X.w X.K X.mg X.base CX k f fd ps sp)(n:Room k X.A)(o:Gl X x)(z:X.mg x=some (.ref f))(E:PySem.W.keepIn X.K (.ref f)=true)(v:Binds X.K fd ps ds)(hd:Vals dvs ds)(y:FZ CX X Eσ)
  (B:PA X (e::es) t) (d:(x==("__debug__":Str))=false:=by decide) (m:starEach (e::es) X.env=(false,eval e X.env)::starEach es X.env:=by rfl) (i:(backTo pos (starEach es X.env)).any (·.1)=false:=by rfl):
  PE X (.Call (.Name x p) (e::es) [] pos) (OV sp dvs Eσ t):=by
 intro pins s σ H Q I h;refine wpAny_Call_Name_kw (FR I o z ?_ d);refine PySem.W.callWith_K (h₀:=X.base) I.ok.mod.kin E (thn (B pos pins s σ H _ I h) λc g⟨l,H1,a,r,q⟩=>⟨a.kIn,?_⟩) m i;have j:Vals (l++dvs) (c++ds):=r.append hd;have hl:(c++ds).length=ps.length:=by rw[<- j.length];exact F.len _ _ _ _ q
 refine wpAny_call (codeAny_mono (F.run X.A X.stack g H1 ⟨c,[]⟩ (c++ds) (l++dvs) Q (Eσ σ) n a.env0 (v g c a.kIn hl) j q) λr s' b=>?_);cases r with
 | error e=>exact y pins σ H1 g e s' a b
 | ok D =>
  cases D with
  | ret u=>exact a.after b
  | next=>exact Ql b
  | brk=>exact Ql b
  | cont=>exact Ql b
end
section
variable {X:Cx} {k:Nat} {f:Addr} {fd:FuncData} {ps:List Str} {sp:Sp} {x:Str} {p pos:Pos} {e:Expr} {es:List Expr} {t:TA}
end
end L2
namespace L3
open PySem PySem.Spec PyProof.Rows L2
abbrev St:=L2.St
inductive W where
 | non | bl (b:Bool)| int (i:Int)| str (x:Str)| tup (xs:List W)| rol (xs:List W)| ref (a:Addr)
inductive HW where
 | lst (xs:List W)| exc (C:Addr)| ins (C:Addr) (fs:List (Str×W))| dct (kvs:List (Key×W))
abbrev Sw:=List (Option W)
abbrev Hw:=Addr->Option HW
def put(H:Hw)(a:Addr)(o:HW):Hw:=λb=>if b=a then some o else H b
variable {a:Addr}{o:HW}
theorem Ak{H:Hw}:put H a o a=some o:=by unfold put;rw[if_pos rfl]
variable {b:Addr}
theorem Aj{H:Hw}(h:b≠a):put H a o b=H b:=by unfold put;rw[if_neg h]
section
variable (K:PySem.W.Frag)
def RoL(H:Hp)(a:Addr)(xs:List V):Prop:=(∃ o,H a=some (.frz o (.lst xs)))\/
 ∃(o:Obj)(its:Array Value)(n:Nat),K.lookup a=some o/\o.cls=.type "list"/\o.dict=none/\o.data=.seq its n/\its.size<=sizeLine/\Vals xs its.toList
theorem RoL.sq{H:Hp}{xs:List V}(h:RoL K H a xs):SqL K H a xs:=by
 rcases h with⟨o,h⟩| h
 ·exact .inl (.inr ⟨o,h⟩)
 ·exact .inr h
mutual
inductive Tr(H:Hp):V->W->Prop where
 | non:Tr H .non .non
 | bl (b:Bool):Tr H (.bl b) (.bl b)
 | int (i:Int):Tr H (.int i) (.int i)
 | str (x:Str):Tr H (.str x) (.str x)
 | tup {a:Addr} {vs:List V} {ws:List W}:SqT K H a vs->TrL H vs ws->Tr H (.ref a) (.tup ws)
 | rol {a:Addr} {vs:List V} {ws:List W}:RoL K H a vs->TrL H vs ws->Tr H (.ref a) (.rol ws)
 | ref (a:Addr):Tr H (.ref a) (.ref a)
inductive TrL(H:Hp):List V->List W->Prop where
 | nil:TrL H [] []
 | cons {v:V} {w:W} {vs:List V} {ws:List W}:Tr H v w->TrL H vs ws->TrL H (v::vs) (w::ws)
end
inductive TrP{α:Type}(H:Hp):List (α×V)->List (α×W)->Prop where
 | nil:TrP H [] []
 | cons {f:α} {v:V} {w:W} {vs:List (α×V)} {ws:List (α×W)}:Tr K H v w->TrP H vs ws->TrP H ((f,v)::vs) ((f,w)::ws)
structure Mono(H H':Hp):Prop where
 tup:∀ a vs,SqT K H a vs->SqT K H' a vs
 rol:∀ a vs,RoL K H a vs->RoL K H' a vs
def RelO2(H:Hp)(a:Addr):HW->Prop
 | .lst ws=>∃ vs,H a=some (.lst vs)/\TrL K H vs ws
 | .exc C=>H a=some (.ext (cf a C))
 | .ins C ws=>∃ dx vs,H a=some (.ins C dx vs)/\TrP K H vs ws
 | .dct ws=>∃ vs,H a=some (.dK vs)/\TrP K H vs ws
def RelH(H:Hp)(G:Hw):Prop:=∀ a o,G a=some o->RelO2 K H a o
structure TrSt(H:Hp)(σ:St)(ω:Sw):Prop where
 len:σ.length=ω.length
 get:∀(i:Nat)(w:W),ω[i]?=some (some w)->∃ v,σ[i]?=some (some v)/\Tr K H v w
end
variable {K:PySem.W.Frag} {H H' H2:Hp}
theorem Mono.refl:Mono K H H:=⟨λ_ _ h=>h,λ_ _ h=>h⟩
theorem Mono.trans(m:Mono K H H')(m':Mono K H' H2):Mono K H H2:=⟨λa b h=>m'.tup a b (m.tup a b h),λa b h=>m'.rol a b (m.rol a b h)⟩
mutual
theorem Tr.mono(m:Mono K H H'){v:V}{w:W}(t:Tr K H v w):Tr K H' v w:=by
 cases t with
 | non=>exact .non
 | bl b=>exact .bl b
 | int i=>exact .int i
 | str x=>exact .str x
 | tup h l=>exact .tup (m.tup _ _ h) (TrL.mono m l)
 | rol h l=>exact .rol (m.rol _ _ h) (TrL.mono m l)
 | ref a=>exact .ref a
theorem TrL.mono(m:Mono K H H'){vs:List V}{a:List W}(t:TrL K H vs a):TrL K H' vs a:=by
 cases t with
 | nil=>exact .nil
 | cons h l=>exact .cons (Tr.mono m h) (TrL.mono m l)
end
theorem TrP.mono{α:Type}(m:Mono K H H'):∀{vs:List (α×V)}{a:List (α×W)},TrP K H vs a->TrP K H' vs a
 | _,_,.nil=>.nil
 | _,_,.cons r t=>.cons (r.mono m) (TrP.mono m t)
theorem RelO2.mono(m:Mono K H H')(e:H' a=H a):∀{o:HW},RelO2 K H a o->RelO2 K H' a o
 | .lst c,⟨b,z,t⟩=>⟨b,e.trans z,t.mono m⟩
 | .exc C,z=>(e.trans z:H' a=_)
 | .ins C c,⟨dx,b,z,t⟩=>⟨dx,b,e.trans z,t.mono m⟩
 | .dct c,⟨b,z,t⟩=>⟨b,e.trans z,t.mono m⟩
theorem RelO2.some:∀{o:HW},RelO2 K H a o->H a≠none
 | .lst b,⟨c,z,t⟩,q=>by rw[q]at z;cases z
 | .exc C,z,q=>by rw[show H a=_ from z]at q;cases q
 | .ins C b,⟨dx,c,z,t⟩,q=>by rw[q]at z;cases z
 | .dct b,⟨c,z,t⟩,q=>by rw[q]at z;cases z
variable {σ:St}{ω:Sw}
theorem TrSt.mono(m:Mono K H H')(t:TrSt K H σ ω):TrSt K H' σ ω:=⟨t.len,λi w e=>let⟨v,e',r⟩:=t.get i w e;⟨v,e',r.mono m⟩⟩
variable {v:V}{w:W}
theorem TrSt.set(t:TrSt K H σ ω)(i:Nat)(r:Tr K H v w):TrSt K H (σ.set i (some v)) (ω.set i (some w)):=by
 refine⟨by simp[t.len],λj u e=>?_⟩;by_cases h:i=j
 ·subst h;by_cases hl:i < ω.length
  ·rw[List.getElem?_set_self hl]at e;cases e;exact⟨v,List.getElem?_set_self (by rw[t.len];exact hl),r⟩
  ·rw[Qi (by simp;omega)]at e;cases e
 ·rw[List.getElem?_set_ne h]at e;obtain⟨b,a,r'⟩:=t.get j u e;exact⟨b,by rw[List.getElem?_set_ne h];exact a,r'⟩
theorem TrL.length:∀{vs:List V}{a:List W},TrL K H vs a->vs.length=a.length
 | _,_,.nil=>rfl
 | _,_,.cons _ t=>congrArg (·+1) t.length
theorem TrL.get:∀{vs:List V}{a:List W}{i:Nat}{w:W},TrL K H vs a->a[i]?=some w->∃ v,vs[i]?=some v/\Tr K H v w
 | _,_,_,_,.nil,e=>by simp at e
 | _,_,0,_,.cons r _,e=>by simp at e;subst e;exact⟨_,rfl,r⟩
 | _,_,i+1,w,.cons _ t,e=>by
  obtain⟨v,h1,h2⟩:=TrL.get (i:=i) (w:=w) t (by simpa using e);exact⟨v,by simpa using h1,h2⟩
theorem TrL.get':∀{vs:List V}{a:List W}{i:Nat}{v:V},TrL K H vs a->vs[i]?=some v->∃ w,a[i]?=some w/\Tr K H v w
 | _,_,_,_,.nil,e=>by simp at e
 | _,_,0,_,.cons r _,e=>by simp at e;subst e;exact⟨_,rfl,r⟩
 | _,_,i+1,v,.cons _ t,e=>by
  obtain⟨w,h1,h2⟩:=TrL.get' (i:=i) (v:=v) t (by simpa using e);exact⟨w,by simpa using h1,h2⟩
theorem TrL.append:∀{vs a:List V}{c b:List W},TrL K H vs c->TrL K H a b->TrL K H (vs++a) (c++b)
 | _,_,_,_,.nil,s=>s
 | _,_,_,_,.cons r t,s=>.cons r (t.append s)
theorem TrL.set{v:V}{w:W}(r:Tr K H v w):∀{vs:List V}{a:List W}(i:Nat),TrL K H vs a->TrL K H (vs.set i v) (a.set i w)
 | _,_,_,.nil=>.nil
 | _,_,0,.cons _ t=>.cons r t
 | _,_,i+1,.cons q t=>.cons q (TrL.set r i t)
theorem TrL.take:∀{vs:List V}{a:List W}(n:Nat),TrL K H vs a->TrL K H (vs.take n) (a.take n)
 | _,_,0,_=>.nil
 | _,_,_+1,.nil=>.nil
 | _,_,n+1,.cons r t=>.cons r (TrL.take n t)
theorem TrL.drop:∀{vs:List V}{a:List W}(n:Nat),TrL K H vs a->TrL K H (vs.drop n) (a.drop n)
 | _,_,0,r=>r
 | _,_,_+1,.nil=>.nil
 | _,_,n+1,.cons _ t=>TrL.drop n t
variable {vs:List V}
theorem Kq{o:HO}(h:SqT K H a vs)(d:∀ xs,H b≠some (.tup xs))(f:∀ c xs,H b≠some (.frz c (.tup xs))):SqT K (upd H b o) a vs:=by
 rcases h with(h |⟨c,h⟩)| h
 ·exact .inl (.inl (by rw[AN (λe=>d _ (e▸h))];exact h))
 ·exact .inl (.inr ⟨c,by rw[AN (λe=>f _ _ (e▸h))];exact h⟩)
 ·exact .inr h
theorem Kr{o:HO}(h:RoL K H a vs)(d:∀ c u,H b≠some (.frz c u)):RoL K (upd H b o) a vs:=by
 rcases h with⟨c,h⟩| h
 ·exact .inl ⟨c,by rw[AN (λe=>d _ _ (e▸h))];exact h⟩
 ·exact .inr h
variable {p:Addr}
theorem Mono.new(b:H p=none)(o:HO):Mono K H (upd H p o):=
 ⟨λa d h=>Kq h (λxs e=>by rw[b]at e;cases e) (λc xs e=>by rw[b]at e;cases e),λa d h=>Kr h (λc xs e=>by rw[b]at e;cases e)⟩
variable {xs:List V}
theorem Mono.lst(b:H p=some (.lst xs))(o:HO):Mono K H (upd H p o):=
 ⟨λa d h=>Kq h (λxs e=>by rw[b]at e;cases e) (λc xs e=>by rw[b]at e;cases e),λa d h=>Kr h (λc xs e=>by rw[b]at e;cases e)⟩
theorem Mono.was{o':HO}(c:H p=some o')(o:HO)(h1:∀ xs,o'≠.tup xs)(h2:∀ b u,o'≠.frz b u):Mono K H (upd H p o):=
 ⟨λa d h=>Kq h (λxs e=>by rw[c]at e;exact h1 _ (YF e)) (λb xs e=>by rw[c]at e;exact h2 _ _ (YF e)),λa d h=>Kr h (λb xs e=>by rw[c]at e;exact h2 _ _ (YF e))⟩
variable {G:Hw}
theorem RelH.no(r:RelH K H G)(a:H p=none):G p=none:=by
 cases e:G p with
 | none=>rfl
 | some o=>exact absurd a (r p o e).some
theorem RelH.mono0{o:HO}(r:RelH K H G)(b:H p=none):RelH K (upd H p o) G:=λa u e=>
 have q:=r a u e
 q.mono (Mono.new b o) (AN (by rintro rfl;exact q.some b))
theorem RelH.laid{o:HO}{u:HW}(r:RelH K H G)(m:Mono K H (upd H p o))(t:RelO2 K (upd H p o) p u):RelH K (upd H p o) (put G p u):=λa b e=>by
 by_cases h:a=p
 ·subst h;rw[Ak]at e;cases e;exact t
 ·rw[Aj h]at e;exact(r a _ e).mono m (AN h)
theorem RelH.new{a:List W}(r:RelH K H G)(b:H p=none)(t:TrL K H vs a):RelH K (upd H p (.lst vs)) (put G p (.lst a)):=
 r.laid (Mono.new b _) ⟨vs,B0,t.mono (Mono.new b _)⟩
theorem RelH.chg{a:List W}(r:RelH K H G)(b:H p=some (.lst xs))(t:TrL K H vs a):RelH K (upd H p (.lst vs)) (put G p (.lst a)):=
 r.laid (Mono.lst b _) ⟨vs,B0,t.mono (Mono.lst b _)⟩
abbrev Kw:=W->Hw->Prop
abbrev GE:=Sw->Hw->Kw->Prop
abbrev GT:=Sw->Hw->(Bool->Hw->Prop)->Prop
abbrev GA:=Sw->Hw->(List W->Hw->Prop)->Prop
structure Ew where
 nx:Sw->Hw->Prop
 rt:Kw
 bk:Sw->Hw->Prop
 ct:Sw->Hw->Prop
abbrev GS:=Ew->Sw->Hw->Prop
abbrev GG:=W->Sw->Hw->(Sw->Hw->Prop)->Prop
def GE.M(g:GE):Prop:=∀ ω G(Q Q':Kw),(∀ w G',Q w G'->Q' w G')->g ω G Q->g ω G Q'
def GT.M(g:GT):Prop:=∀ ω G(Q Q':Bool->Hw->Prop),(∀ w G',Q w G'->Q' w G')->g ω G Q->g ω G Q'
def GA.M(g:GA):Prop:=∀ ω G(Q Q':List W->Hw->Prop),(∀ w G',Q w G'->Q' w G')->g ω G Q->g ω G Q'
def GS.M(g:GS):Prop:=∀ ω G(D D':Ew),(∀ a b,D.nx a b->D'.nx a b)->(∀ a b,D.rt a b->D'.rt a b)->(∀ a b,D.bk a b->D'.bk a b)->(∀ a b,D.ct a b->D'.ct a b)->g D ω G->g D' ω G
def GG.M(g:GG):Prop:=∀ w ω G(Q Q':Sw->Hw->Prop),(∀ a b,Q a b->Q' a b)->g w ω G Q->g w ω G Q'
def dn(K:PySem.W.Frag)(H:Hp)(Q:VK):Kw:=λw G=>∀ v H',Mono K H H'->Tr K H' v w->RelH K H' G->Q v H'
def dnT(K:PySem.W.Frag)(H:Hp)(Q:Bool->Hp->Prop):Bool->Hw->Prop:=λb G=>∀ H',Mono K H H'->RelH K H' G->Q b H'
def dnA(K:PySem.W.Frag)(H:Hp)(Q:List V->Hp->Prop):List W->Hw->Prop:=λws G=>∀ vs H',Mono K H H'->TrL K H' vs ws->RelH K H' G->Q vs H'
def dnS(K:PySem.W.Frag)(H:Hp)(Q:St->Hp->Prop):Sw->Hw->Prop:=λω G=>∀ σ H',Mono K H H'->TrSt K H' σ ω->RelH K H' G->Q σ H'
def dnD(K:PySem.W.Frag)(H:Hp)(D:E2):Ew:=⟨dnS K H D.nx,dn K H D.rt,dnS K H D.bk,dnS K H D.ct⟩
theorem Cs{Q:VK}(m:Mono K H H')(q:dn K H Q w G):dn K H' Q w G:=λv H2 a t r=>q v H2 (m.trans a) t r
theorem OW{Q:Bool->Hp->Prop}(m:Mono K H H'){w:Bool}(q:dnT K H Q w G):dnT K H' Q w G:=λH2 a r=>q H2 (m.trans a) r
theorem ci{Q:St->Hp->Prop}(m:Mono K H H'){w:Sw}(q:dnS K H Q w G):dnS K H' Q w G:=λv H2 a t r=>q v H2 (m.trans a) t r
def up(K:PySem.W.Frag)(g:GE):TE:=λσ H Q=>∃ ω G,TrSt K H σ ω/\RelH K H G/\g ω G (dn K H Q)
def upT(K:PySem.W.Frag)(g:GT):TT:=λσ H Q=>∃ ω G,TrSt K H σ ω/\RelH K H G/\g ω G (dnT K H Q)
def upA(K:PySem.W.Frag)(g:GA):TA:=λσ H Q=>∃ ω G,TrSt K H σ ω/\RelH K H G/\g ω G (dnA K H Q)
def upS(K:PySem.W.Frag)(B:Hp)(g:GS):TS:=λD σ H=>∃ ω G,TrSt K H σ ω/\RelH K H G/\Mono K B H/\g (dnD K B D) ω G
variable {X:Cx}{e:Expr}
theorem AW{t t':TE}(h:PE X e t)(i:∀ σ H Q,t' σ H Q->t σ H Q):PE X e t':=λpins s σ H Q I q=>h pins s σ H Q I (i σ H Q q)
theorem Hg{t t':TT}(h:PT X e t)(i:∀ σ H Q,t' σ H Q->t σ H Q):PT X e t':=λpins s σ H Q I q=>h pins s σ H Q I (i σ H Q q)
theorem OX{e:List Expr}{t t':TA}(h:PA X e t)(i:∀ σ H Q,t' σ H Q->t σ H Q):PA X e t':=λpos pins s σ H Q I q=>h pos pins s σ H Q I (i σ H Q q)
variable {t t':TS}
theorem CH{e:Stmt}(h:PS X e t)(i:∀ D σ H,t' D σ H->t D σ H):PS X e t':=λpins s σ H D I q=>h pins s σ H D I (i D σ H q)
theorem Ks{e:List Stmt}(h:PSs X e t)(i:∀ D σ H,t' D σ H->t D σ H):PSs X e t':=λpins s σ H D I q=>h pins s σ H D I (i D σ H q)
section
variable {X:Cx} {a b c e:Expr} {es:List Expr} {pos:Pos} {ga gb gc:GE} {gt:GT} {gs:GA}
abbrev PEw(X:Cx)(e:Expr)(g:GE):Prop:=PE X e (up X.K g)
abbrev PTw(X:Cx)(e:Expr)(g:GT):Prop:=PT X e (upT X.K g)
abbrev PAw(X:Cx)(es:List Expr)(g:GA):Prop:=PA X es (upA X.K g)
abbrev PSw(X:Cx)(P:Hp->Prop)(st:Stmt)(g:GS):Prop:=∀ B,P B->PS X st (upS X.K B g)
abbrev Dh(X:Cx)(P:Hp->Prop)(st:List Stmt)(g:GS):Prop:=∀ B,P B->PSs X st (upS X.K B g)
abbrev OY:Hp->Prop:=λ_=>True
abbrev atB(X:Cx):Hp->Prop:=λB=>B=X.H₀
def gC(w:W):GE:=λ_ G Q=>Q w G
def Ab(i:Nat):GE:=λω G Q=>match ω[i]? with | some (some w)=>Q w G | _=>False
theorem E7:GE.M (gC w):=λ_ _ _ _ h q=>h _ _ q
variable {i:Nat}
theorem cj:GE.M (Ab i):=λω G Q a h q=>by
 have z:Ab i ω G Q=(match ω[i]? with | some (some w)=>Q w G | _=>False):=rfl;have b:Ab i ω G a=(match ω[i]? with | some (some w)=>a w G | _=>False):=rfl;rw[z]at q;rw[b];cases e:ω[i]? with
 | none=>rw[e]at q;exact q
 | some o =>
  cases o with
  | none=>rw[e]at q;exact q
  | some w=>rw[e]at q;exact h _ _ q
variable {x:Str}
theorem ck(d:X.N[i]?=some x)(b:Vis X.env.scope x)(hd:(x==("__debug__":Str))=false)(a:(x==("__classdict__":Str))=false):PEw X (.Name x pos) (Ab i):=
 AW (N7 d b hd a) <| by
  rintro σ H Q ⟨ω,G,c,r,q⟩;unfold Ab at q;split at q
  ·rename_i w z;obtain⟨v,e,t⟩:=c.get i w z;exact⟨v,e,q v H .refl t r⟩
  ·exact q.elim
theorem cm{i:Int}{j}:PEw X (.Constant (.int i) j pos) (gC (.int i)):=AW ZE (by rintro σ H Q ⟨ω,G,a,r,q⟩;exact q _ H .refl (.int i) r)
theorem cn{i:Bool}{j}:PEw X (.Constant (.bool i) j pos) (gC (.bl i)):=AW ZF (by rintro σ H Q ⟨ω,G,a,r,q⟩;exact q _ H .refl (.bl i) r)
theorem cp{j}:PEw X (.Constant .none j pos) (gC .non):=AW ZG (by rintro σ H Q ⟨ω,G,a,r,q⟩;exact q _ H .refl .non r)
theorem cq{i:Str}{j}:PEw X (.Constant (.str i) j pos) (gC (.str i)):=AW ZH (by rintro σ H Q ⟨ω,G,a,r,q⟩;exact q _ H .refl (.str i) r)
theorem OZ{u:Value}(a:Gl X x)(c:X.mg x=some u)(b:RelV v u)(t:∀ H,Tr X.K H v w)(hd:(x==("__debug__":Str))=false):PEw X (.Name x pos) (gC w):=
 AW (N8 a c b hd) (by rintro σ H Q ⟨ω,G,d,r,q⟩;exact q _ H .refl (t H) r)
abbrev RW2:=W->W->Hw->Kw->Prop
def RW2.M(r:RW2):Prop:=∀ x y G(Q Q':Kw),(∀ w G',Q w G'->Q' w G')->r x y G Q->r x y G Q'
def Ad(r:RW2)(ga gb:GE):GE:=λω G Q=>ga ω G λx G1=>gb ω G1 λy G2=>r x y G2 Q
variable {r:RW2}
theorem Ct(b:r.M)(c:ga.M)(a:gb.M):GE.M (Ad r ga gb):=λω G Q f h q=>c _ _ _ _ (λx d q1=>a _ _ _ _ (λy e q2=>b _ _ _ _ _ h q2) q1) q
variable {r2:R2}
theorem Hh(k:r.M)(m:ga.M)(j:gb.M)
  (e:∀(x y:W)(v u:V)(G:Hw)(H:Hp)(Q:VK),Tr K H v x->Tr K H u y->RelH K H G->r x y G (dn K H Q)->r2 v u H Q) (σ:St) (H:Hp) (Q:VK) (h:up K (Ad r ga gb) σ H Q):tOp r2 (up K ga) (up K gb) σ H Q:=by
 obtain⟨ω,G,c,i,q⟩:=h;refine⟨ω,G,c,i,m _ _ _ _ (λx f q1 v H1 b g r1=>?_) q⟩;refine⟨ω,f,c.mono b,r1,j _ _ _ _ (λy l q2 u H2 d ty a=>?_) q1⟩;exact e x y v u l H2 Q (g.mono d) ty a (k _ _ _ _ _ (λw n z=>Cs (b.trans d) z) q2)
theorem DO{op:Operator}(h:OpR X (binaryOp op) r2)(f:r.M)(i:ga.M)(g:gb.M)(c:∀(x y:W)(v u:V)(G:Hw)(H:Hp)(Q:VK),Tr X.K H v x->Tr X.K H u y->RelH X.K H G->r x y G (dn X.K H Q)->r2 v u H Q)
  (d:PEw X a ga) (e:PEw X b gb):PEw X (.BinOp a op b pos) (Ad r ga gb):=AW (ao h d e) (Hh f i g c)
theorem cr{op:CmpOp}(i:OpR X (compareOp op) r2)(g:r.M)(j:ga.M)(h:gb.M)(c:∀(x y:W)(v u:V)(G:Hw)(H:Hp)(Q:VK),Tr X.K H v x->Tr X.K H u y->RelH X.K H G->r x y G (dn X.K H Q)->r2 v u H Q)
  (d:PEw X a ga) (e:PEw X b gb) (f:behindInMarks op b=false):PEw X (.Compare a [op] [b] pos) (Ad r ga gb):=AW (aI i d e f) (Hh g j h c)
theorem O0(i:IxR X r2)(g:r.M)(j:ga.M)(h:gb.M)(c:∀(x y:W)(v u:V)(G:Hw)(H:Hp)(Q:VK),Tr X.K H v x->Tr X.K H u y->RelH X.K H G->r x y G (dn X.K H Q)->r2 v u H Q)
  (e:PEw X a ga) (f:PEw X b gb) (d:FW b):PEw X (.Subscript a b pos) (Ad r ga gb):=AW (bg i e f d) (Hh g j h c)
end
abbrev Xw:=Sw->Addr->Hw->Prop
abbrev XF:Xw:=λ_ _ _=>False
def upX(K:PySem.W.Frag)(ex:Xw):St->XK:=λσ Cv _ H'=>∃ C ω G,Cv=.ref C/\TrSt K H' σ ω/\RelH K H' G/\ex ω C G
abbrev DP(X:Cx)(ex:Xw):Prop:=FZ (CXe X.prog X.w) X (upX X.K ex)
theorem Un.mono'{fs b:List Addr}{h h':Heap}(u:Un fs b H H' h h'):Mono K H H':=by
 refine⟨λa c q=>?_,λa c q=>?_⟩
 ·rcases q with(q |⟨o,q⟩)| q
  ·exact .inl (.inl (u.tups a c q))
  ·exact .inl (.inr ⟨o,u.frzs a o _ q⟩)
  ·exact .inr q
 ·rcases q with⟨o,q⟩| q
  ·exact .inl ⟨o,u.frzs a o _ q⟩
  ·exact .inr q
abbrev Spw:=List W->Hw->Kw->(Addr->Hw->Prop)->Prop
def dnX(K:PySem.W.Frag)(H:Hp)(E:XK):Addr->Hw->Prop:=λC G'=>∀ H',Mono K H H'->RelH K H' G'->E (.ref C) none H'
def Es(K:PySem.W.Frag)(sp:Spw):Sp:=λvs H Q E=>∃ ws G,TrL K H vs ws/\RelH K H G/\sp ws G (dn K H Q) (dnX K H E)
def Spw.M(sp:Spw):Prop:=∀ ws G(Q Q':Kw)(E E':Addr->Hw->Prop),(∀ w G',Q w G'->Q' w G')->(∀ w G',E w G'->E' w G')->sp ws G Q E->sp ws G Q' E'
structure Df(P:Program)(w:World)(K:PySem.W.Frag)(mg:Str->Option Value)(base:Heap)(x:Str)(k n:Nat)(sp:Spw):Prop where
 ex:∃(f:Addr)(fd:FuncData)(ps:List Str),mg x=some (.ref f)/\PySem.W.keepIn K (.ref f)=true/\Binds K fd ps []/\ps.length=n/\FnOk P w K mg base (CXe P w) k f fd ps (Es K sp)
 mono:sp.M
section
variable {X:Cx} {e:Expr} {es:List Expr} {pos p:Pos} {ga gb:GE} {gs:GA} {ex:Xw}
def Ac:GA:=λ_ G Q=>Q [] G
def Aa(g:GE)(gs:GA):GA:=λω G Q=>g ω G λx G1=>gs ω G1 λxs G2=>Q (x::xs) G2
theorem cu:GA.M Ac:=λ_ _ _ _ h q=>h _ _ q
theorem cw(b:ga.M)(a:gs.M):GA.M (Aa ga gs):=λω G Q e h q=>b _ _ _ _ (λx c q1=>a _ _ _ _ (λxs d q2=>h _ _ q2) q1) q
theorem cx:PAw X [] Ac:=OX J9 (by rintro σ H Q ⟨ω,G,a,r,q⟩;exact q [] H .refl .nil r)
theorem cy(m:ga.M)(k:gs.M)(j:PEw X e ga)(h:PAw X es gs)(b:starEach (e::es) X.env=(false,eval e X.env)::starEach es X.env:=by rfl):PAw X (e::es) (Aa ga gs):=
 OX (G8 j h b) (by rintro σ H Q ⟨ω,G,d,r,q⟩;exact⟨ω,G,d,r,m _ _ _ _ (λx g q1 v H1 c i r1=>⟨ω,g,d.mono c,r1,k _ _ _ _ (λxs o q2 n H2 f a l=>q2 _ H2 (c.trans f) (.cons (i.mono f) a) l) q1⟩) q⟩)
def Af(sp:Spw)(ex:Xw)(gs:GA):GE:=λω G Q=>gs ω G λws G1=>sp ws G1 Q (ex ω)
variable {sp:Spw}
theorem cz(m:sp.M)(a:gs.M):GE.M (Af sp ex gs):=λω G Q d h q=>a _ _ _ _ (λb c q1=>m _ _ _ _ _ _ h (λ_ _ z=>z) q1) q
theorem cA{x:Str}{k n:Nat}(D:Df X.prog X.w X.K X.mg X.base x k n sp)(u:Room k X.A)(B:Gl X x)(I:DP X ex)(J:gs.M)(E:PAw X (e::es) gs)
  (c:(x==("__debug__":Str))=false:=by decide) (t:starEach (e::es) X.env=(false,eval e X.env)::starEach es X.env:=by rfl) (b:(backTo pos (starEach es X.env)).any (·.1)=false:=by rfl):
  PEw X (.Call (.Name x p) (e::es) [] pos) (Af sp ex gs):=by
 obtain⟨f,fd,ps,v,s,l,_,F⟩:=D.ex;refine AW (cg F u B v s l .nil I E c t b) λσ H Q a=>?_;obtain⟨ω,G,g,r,q⟩:=a;refine⟨ω,G,g,r,J _ _ _ _ (λo j q1 L H1 i d r1=>?_) q⟩;refine⟨o,j,by rw[Yx];exact d,r1,D.mono _ _ _ _ _ _ (λw h z=>Cs i z) (λC h z H2 y m=>?_) q1⟩;exact⟨C,ω,h,rfl,(g.mono i).mono y,m,z⟩
end
def Bg(N:List Str)(ws:List W):Sw:=ws.map some++List.replicate (N.length - ws.length) none
variable {N:List Str}
theorem Kt{a:List W}(t:TrL K H vs a):TrSt K H (L2.CW N vs) (Bg N a):=by
 have hl:=t.length;refine⟨by simp[L2.CW,Bg,hl],λi w e=>?_⟩;unfold Bg at e;by_cases hi:i < a.length
 ·rw[YJ (by simpa using hi),YS]at e;cases z:a[i]? with
  | none=>rw[z]at e;cases e
  | some c =>
   rw[z]at e;cases e;obtain⟨v,b,r⟩:=t.get z;exact⟨v,by unfold L2.CW;rw[YJ (by simp;omega),YS,b];rfl,r⟩
 ·rw[List.getElem?_append_right (by simpa using hi),List.getElem?_replicate]at e;split at e <;> cases e
def Sub(G G':Hw):Prop:=∀ a o,G a=some o->G' a=some o
theorem Sub.refl:Sub G G:=λ_ _ h=>h
theorem Sub.trans{e d:Hw}(a:Sub G e)(b:Sub e d):Sub G d:=λc o h=>b c o (a c o h)
theorem Sub.put{b:Hw}(h:Sub G b)(d:G a=none):Sub G (put b a o):=λc u z=>by
 rw[Aj (λe=>by rw[e,d]at z;cases z)];exact h c u z
theorem Sub.put2{b:Hw}(h:Sub G b):Sub (L3.put G a o) (L3.put b a o):=λc u z=>by
 by_cases e:c=a
 ·subst e;rw[Ak]at z ⊢;exact z
 ·rw[Aj e]at z ⊢;exact h c u z
theorem RelH.sub{b:Hw}(r:RelH K H b)(s:Sub G b):RelH K H G:=λa o e=>r a o (s a o e)
def Kw.C(Q:Kw):Prop:=∀ w G G',Sub G G'->Q w G->Q w G'
def Xc(E:Addr->Hw->Prop):Prop:=∀ w G G',Sub G G'->E w G->E w G'
theorem Ku{Q:VK}:Kw.C (dn K H Q):=λw G a s q v H2 m t r=>q v H2 m t (r.sub s)
theorem cB{E:XK}:Xc (dnX K H E):=λw G a s q H2 m r=>q H2 m (r.sub s)
def Ar(Q:Kw):Ew:=⟨λ_ G=>Q .non G,Q,λ_ _=>False,λ_ _=>False⟩
section
variable {P:Program} {w:World} {mg:Str->Option Value} {base:Heap}
abbrev cxW(P:Program)(w:World)(K:PySem.W.Frag)(mg:Str->Option Value)(base:Heap)(N:List Str)(qual:Str)(scope:Scope)(f:Addr)(cd:Value)(A:Around)(outer:List Env)(s:Shared)(H:Hp)(E:XK):Cx :=
 Bj (CXe P w) P w K mg base N qual scope f cd A outer s H E
theorem Kv{f:Addr}{A:Around}{outer:List Env}{s:Shared}{E:XK}:DP (cxW P w K mg base N qual scope f cd A outer s H E) (λ_=>dnX K H E):=by
 intro pins σ Hc a ev s' I ⟨e,C,H',c,F,g,ω,G,b,d,r,q⟩;cases b;refine b8 pins σ Hc a ev s' I ⟨e,C,H',c,F,q H' ?_ r⟩;exact(Un.mono' I.base).trans (Un.mono' F.un)
end
section
variable {X:Cx} {a b c e:Expr} {st:Stmt} {sts sts':List Stmt} {pos pos':Pos} {ga gb gc:GE} {gt gu:GT} {g1 g2:GS} {ex:Xw} {P:Hp->Prop}
def Ai:GS:=λD ω G=>D.nx ω G
def Ag(g1 g2:GS):GS:=λD ω G=>g1 {D with nx:=g2 D} ω G
theorem cC:GS.M Ai:=λ_ _ _ _ h _ _ _ q=>h _ _ q
theorem cD(c:g1.M)(d:g2.M):GS.M (Ag g1 g2):=λω G D e h1 h2 a b q=>c _ _ {D with nx:=g2 D} _ (λ_ _ z=>d _ _ _ _ h1 h2 a b z) h2 a b q
theorem cE:Dh X P [] Ai:=λB c=>Ks Z2 (by rintro D σ H ⟨ω,G,a,r,b,q⟩;exact q σ H b a r)
theorem cF(c:g1.M)(g:g2.M)(h1:PSw X P st g1)(h2:Dh X P sts g2):Dh X P (st::sts) (Ag g1 g2):=λB b=>
 Ks (Z3 (h1 B b) (h2 B b)) (by rintro D σ H ⟨ω,G,d,r,e,q⟩;exact⟨ω,G,d,r,e,c _ _ {dnD X.K B D with nx:=g2 (dnD X.K B D)} _ (λω' f z σ' H' m a r'=>⟨ω',f,a,r',m,z⟩) (λ_ _ z=>z) (λ_ _ z=>z) (λ_ _ z=>z) q⟩)
theorem cG(h1:PSw X P st g1):Dh X P [st] g1:=λB a=>Ks (Z4 (h1 B a)) λD σ H z=>z
def Ap(i:Nat)(ga:GE):GS:=λD ω G=>ga ω G λw G1=>D.nx (ω.set i (some w)) G1
variable {i:Nat}
theorem O1(a:ga.M):GS.M (Ap i ga):=λω G D b h _ _ _ q=>a _ _ _ _ (λ_ _ z=>h _ _ z) q
theorem cH{x:Str}(b:X.N.Nodup)(hi:X.N[i]?=some x)(d:Loc X.env.scope x)(j:ga.M)(f:PEw X e ga)(c:swapsWith e (some (.Name x pos')) pos.line X.env=pure false)(h:X.fn x=true\/X.env.scope.names.lookup x=some .local):
  PSw X P (.Assign [.Name x pos'] e pos) (Ap i ga):=λB l=>
 CH (ae b hi d f c h) (by rintro D σ H ⟨ω,G,a,r,g,q⟩;exact⟨ω,G,a,r,j _ _ _ _ (λw k z v H1 m t r1=>z _ H1 (g.trans m) ((a.mono m).set i t) r1) q⟩)
def Ah(ga:GE):GS:=λD ω G=>ga ω G D.rt
theorem cI(a:ga.M):GS.M (Ah ga):=λω G D b _ h _ _ q=>a _ _ _ _ (λ_ _ z=>h _ _ z) q
theorem cJ(d:ga.M)(a:PEw X e ga):PSw X P (.Return (some e) pos) (Ah ga):=λB g=>CH (Z8 a) (by rintro D σ H ⟨ω,G,b,r,c,q⟩;exact⟨ω,G,b,r,d _ _ _ _ (λw f z v H1 m t r1=>z v H1 (c.trans m) t r1) q⟩)
def AD(ga:GE):GS:=λD ω G=>ga ω G λ_ G1=>D.nx ω G1
theorem cK(a:ga.M):GS.M (AD ga):=λω G D b h _ _ _ q=>a _ _ _ _ (λ_ _ z=>h _ _ z) q
theorem cL(f:ga.M)(c:PEw X e ga)(b:swapsWith e none pos.line X.env=pure false):PSw X P (.Expr e pos) (AD ga):=λB h=>
 CH (Z6 c b) (by rintro D σ H ⟨ω,G,a,r,d,q⟩;exact⟨ω,G,a,r,f _ _ _ _ (λw g z v H1 m t r1=>z _ H1 (d.trans m) (a.mono m) r1) q⟩)
def gIf(gt:GT)(g1 g2:GS):GS:=λD ω G=>gt ω G λb G1=>if b=true then g1 D ω G1 else g2 D ω G1
theorem cM(mt:gt.M)(d:g1.M)(e:g2.M):GS.M (gIf gt g1 g2):=λω G D g h1 h2 c a q=>mt _ _ _ _ (λb f z=>by
 cases b with
 | true=>exact d _ _ _ _ h1 h2 c a z
 | false=>exact e _ _ _ _ h1 h2 c a z) q
theorem cN(mt:gt.M)(g:g1.M)(h:g2.M)(hc:PTw X c gt)(h1:Dh X P sts g1)(h2:Dh X P sts' g2):PSw X P (.If c sts sts' pos) (gIf gt g1 g2):=λB e=>
 CH (aa hc (h1 B e) (h2 B e)) λD σ H⟨ω,G,a,r,f,q⟩=>⟨ω,G,a,r,mt _ _ _ _ (λb d z H1 m r1=>by
  cases b with
  | true=>exact⟨ω,d,a.mono m,r1,f.trans m,z⟩
  | false=>exact⟨ω,d,a.mono m,r1,f.trans m,z⟩) q⟩
def gTB(g:GE):GT:=λω G Q=>g ω G λw G1=>match w with | .bl b=>Q b G1 | _=>False
theorem O2(m:ga.M):GT.M (gTB ga):=λω G Q b h q=>m _ _ _ _ (λw a z=>by
 cases w <;> first | exact h _ _ z | exact z) q
theorem Et{b:Bool}(t:Tr K H v (.bl b)):v=.bl b:=by cases t;rfl
theorem O3{b:Int}(t:Tr K H v (.int b)):v=.int b:=by cases t;rfl
theorem O4{b:Str}(t:Tr K H v (.str b)):v=.str b:=by cases t;rfl
theorem O5(m:ga.M){f:Bool->Hp->Prop}(h:upT K (gTB ga) σ H f):up K ga σ H (λx H1=>∃ k,x=.bl k/\f k H1):=by
 obtain⟨ω,G,c,r,q⟩:=h;refine⟨ω,G,c,r,m _ _ _ _ (λw d z v H1 a t r1=>?_) q⟩;cases w with
 | bl b=>exact⟨b,Et t,z H1 a r1⟩
 | _=>exact z.elim
theorem cO{op:CmpOp}{r:RW2}{r2:R2}(j:OpR X (compareOp op) r2)(d:r.M)(e:ga.M)(c:gb.M)(f:∀(x y:W)(v u:V)(G:Hw)(H:Hp)(Q:VK),Tr X.K H v x->Tr X.K H u y->RelH X.K H G->r x y G (dn X.K H Q)->r2 v u H Q)
  (h:PEw X a ga) (g:PEw X b gb) (i:behindInMarks op b=false):PTw X (.Compare a [op] [b] pos) (gTB (Ad r ga gb)):=
 Hg (aJ j h g i) λσ H Q z=>Hh d e c f σ H _ (O5 (Ct d e c) z)
def AO(w:W)(G:Hw):Option Bool:=match w with
 | .non=>some false
 | .bl b=>some b
 | .int i=>some (i != 0)
 | .tup xs=>some (!xs.isEmpty)
 | .rol xs=>some (!xs.isEmpty)
 | .ref a=>match G a with | some (.lst xs)=>some (!xs.isEmpty)| _=>none
 | .str _=>none
def AC(g:GE):GT:=λω G Q=>g ω G λw G1=>match AO w G1 with | some b=>Q b G1 | none=>False
theorem cP(m:ga.M):GT.M (AC ga):=λω G Q c h q=>m _ _ _ _ (λw a z=>by
 cases e:AO w a with
 | none=>rw[e]at z;exact z
 | some b=>rw[e]at z;exact h _ _ z) q
theorem Kx:∀{vs:List V}{a:List W},TrL K H vs a->vs.isEmpty=a.isEmpty
 | _,_,.nil=>rfl
 | _,_,.cons _ _=>rfl
theorem cQ{b:Bool}(t:Tr K H v w)(r:RelH K H G)(e:AO w G=some b):J6 K v H b:=by
 cases t with
 | non=>cases e;rfl
 | bl c=>cases e;rfl
 | int i=>cases e;rfl
 | str x=>cases e
 | tup h l=>cases e;exact .inr (.inl ⟨_,h,by rw[Kx l]⟩)
 | rol h l=>cases e;exact .inl ⟨_,h.sq,by rw[Kx l]⟩
 | ref a =>
  unfold AO at e;dsimp only at e;cases z:G a with
  | none=>rw[z]at e;cases e
  | some o =>
   rw[z]at e;cases o with
   | exc C=>cases e
   | ins C fs=>cases e
   | dct f=>cases e
   | lst xs =>
    cases e;obtain⟨g,d,l⟩:=r a _ z;exact .inl ⟨g,SqL.of d,by rw[Kx l]⟩
theorem cR(i:ga.M)(g:PEw X e ga)(d:∀ a,isTrue e X.env a=(do let v <- a;standAt e.pos;holding [v] (truthy v)):=by intro _;rfl):PTw X e (AC ga):=
 Hg (aO g d) λσ H Q⟨ω,G,h,r,q⟩=>⟨ω,G,h,r,i _ _ _ _ (λw f z v H1 m t r1=>by
  cases c:AO w f with
  | none=>rw[c]at z;exact z.elim
  | some b=>rw[c]at z;exact⟨b,cQ t r1 c,z H1 m r1⟩) q⟩
def gNt(g:GT):GT:=λω G Q=>g ω G λb G1=>Q (!b) G1
theorem cS(m:gt.M):GT.M (gNt gt):=λω G Q b h q=>m _ _ _ _ (λw a z=>h _ _ z) q
theorem cT(b:PTw X a gt):PTw X (.UnaryOp .Not a pos) (gNt gt):=Hg (ZQ b) λσ H Q z=>z
abbrev PWw(X:Cx)(e:Expr)(g:GT):Prop:=PW X e (upT X.K g)
theorem Hi{t t':TT}(h:PW X e t)(i:∀ σ H Q,t' σ H Q->t σ H Q):PW X e t':=λa pins s σ H Q I q=>h a pins s σ H Q I (i σ H Q q)
def AQ(g1 g2:GT):GT:=λω G Q=>g1 ω G λb G1=>if b=true then g2 ω G1 Q else Q false G1
def gOr(g1 g2:GT):GT:=λω G Q=>g1 ω G λb G1=>if b=true then Q true G1 else g2 ω G1 Q
theorem cU(a:gt.M)(c:gu.M):GT.M (AQ gt gu):=λω G Q e h q=>a _ _ _ _ (λb d z=>by
 cases b with
 | true=>exact c _ _ _ _ h z
 | false=>exact h _ _ z) q
theorem cV(a:gt.M)(c:gu.M):GT.M (gOr gt gu):=λω G Q e h q=>a _ _ _ _ (λb d z=>by
 cases b with
 | true=>exact h _ _ z
 | false=>exact c _ _ _ _ h z) q
variable {Av:List Expr}
theorem cW(b:PTw X a gt):PWw X (.BoolOp .And [a] pos) gt:=Hi (ZM b) λσ H Q z=>z
theorem cX(b:PTw X a gt):PWw X (.BoolOp .Or [a] pos) gt:=Hi (ZN b) λσ H Q z=>z
theorem cY(g:gt.M)(h:gu.M)(f:PTw X a gt)(e:PWw X (.BoolOp .And (b::Av) pos) gu):PWw X (.BoolOp .And (a::b::Av) pos) (AQ gt gu):=
 Hi (ZO f e) λσ H Q⟨ω,G,c,r,q⟩=>⟨ω,G,c,r,g _ _ _ _ (λb d z H1 m r1=>by
  cases b with
  | true=>exact⟨ω,d,c.mono m,r1,h _ _ _ _ (λ_ _ z=>OW m z) z⟩
  | false=>exact z H1 m r1) q⟩
theorem cZ(g:gt.M)(h:gu.M)(f:PTw X a gt)(e:PWw X (.BoolOp .Or (b::Av) pos) gu):PWw X (.BoolOp .Or (a::b::Av) pos) (gOr gt gu):=
 Hi (ZP f e) λσ H Q⟨ω,G,c,r,q⟩=>⟨ω,G,c,r,g _ _ _ _ (λb d z H1 m r1=>by
  cases b with
  | true=>exact z H1 m r1
  | false=>exact⟨ω,d,c.mono m,r1,h _ _ _ _ (λ_ _ z=>OW m z) z⟩) q⟩
theorem c0{op:BoolOp}{vs:List Expr}(h:PWw X (.BoolOp op vs pos) gt):PTw X (.BoolOp op vs pos) gt:=PW.pt h
def AX(ga gb:GE):GE:=λω G Q=>ga ω G λx G1=>match x with | .bl c=>if c=true then gb ω G1 Q else Q (.bl false) G1 | _=>False
def Bm(ga gb:GE):GE:=λω G Q=>ga ω G λx G1=>match x with | .bl c=>if c=true then Q (.bl true) G1 else gb ω G1 Q | _=>False
def Bn(ga:GE):GE:=λω G Q=>ga ω G λx G1=>match x with | .bl c=>Q (.bl (!c)) G1 | _=>False
def AT(gt:GT)(ga gb:GE):GE:=λω G Q=>gt ω G λc G1=>if c=true then ga ω G1 Q else gb ω G1 Q
theorem c4(a:ga.M)(b:gb.M):GE.M (AX ga gb):=λω G Q d h q=>a _ _ _ _ (λx e z=>by
 cases x with
 | bl c =>
  cases c with
  | true=>exact b _ _ _ _ h z
  | false=>exact h _ _ z
 | _=>exact z) q
theorem c5(a:ga.M)(b:gb.M):GE.M (Bm ga gb):=λω G Q d h q=>a _ _ _ _ (λx e z=>by
 cases x with
 | bl c =>
  cases c with
  | true=>exact h _ _ z
  | false=>exact b _ _ _ _ h z
 | _=>exact z) q
theorem c6(a:ga.M):GE.M (Bn ga):=λω G Q b h q=>a _ _ _ _ (λx d z=>by
 cases x with
 | bl c=>exact h _ _ z
 | _=>exact z) q
theorem c7(mt:gt.M)(a:ga.M)(b:gb.M):GE.M (AT gt ga gb):=λω G Q d h q=>mt _ _ _ _ (λc e z=>by
 cases c with
 | true=>exact a _ _ _ _ h z
 | false=>exact b _ _ _ _ h z) q
theorem c8{op:BoolOp}(h:PEw X a ga):PEw X (.BoolOp op [a] pos) ga:=ZU h
theorem c9(i:ga.M)(h:gb.M)(g:PEw X a ga)(f:PEw X (.BoolOp .And (b::Av) pos) gb):PEw X (.BoolOp .And (a::b::Av) pos) (AX ga gb):=
 AW (ZV g f) λσ H Q⟨ω,G,d,r,q⟩=>⟨ω,G,d,r,i _ _ _ _ (λx e z v H1 m t r1=>by
  cases x with
  | bl c =>
   refine⟨c,Et t,?_⟩;cases c with
   | true=>exact⟨ω,e,d.mono m,r1,h _ _ _ _ (λ_ _ z=>Cs m z) z⟩
   | false=>exact z _ H1 m (.bl false) r1
  | _=>exact z.elim) q⟩
theorem da(i:ga.M)(h:gb.M)(g:PEw X a ga)(f:PEw X (.BoolOp .Or (b::Av) pos) gb):PEw X (.BoolOp .Or (a::b::Av) pos) (Bm ga gb):=
 AW (ZW g f) λσ H Q⟨ω,G,d,r,q⟩=>⟨ω,G,d,r,i _ _ _ _ (λx e z v H1 m t r1=>by
  cases x with
  | bl c =>
   refine⟨c,Et t,?_⟩;cases c with
   | true=>exact z _ H1 m (.bl true) r1
   | false=>exact⟨ω,e,d.mono m,r1,h _ _ _ _ (λ_ _ z=>Cs m z) z⟩
  | _=>exact z.elim) q⟩
theorem db(e:ga.M)(b:PEw X a ga):PEw X (.UnaryOp .Not a pos) (Bn ga):=
 AW (ZX b) λσ H Q⟨ω,G,d,r,q⟩=>⟨ω,G,d,r,e _ _ _ _ (λx f z v H1 m t r1=>by
  cases x with
  | bl c=>exact⟨c,Et t,z _ H1 m (.bl _) r1⟩
  | _=>exact z.elim) q⟩
theorem de(mt:gt.M)(i:ga.M)(h:gb.M)(hc:PTw X c gt)(g:PEw X a ga)(f:PEw X b gb):PEw X (.IfExp c a b pos) (AT gt ga gb):=
 AW (ZY hc g f) λσ H Q⟨ω,G,d,r,q⟩=>⟨ω,G,d,r,mt _ _ _ _ (λc e z H1 m r1=>by
  cases c with
  | true=>exact⟨ω,e,d.mono m,r1,i _ _ _ _ (λ_ _ z=>Cs m z) z⟩
  | false=>exact⟨ω,e,d.mono m,r1,h _ _ _ _ (λ_ _ z=>Cs m z) z⟩) q⟩
variable {es:List Expr} {gs:GA}
def An(gs:GA):GE:=λω G Q=>gs ω G λws G1=>ws.length<=sizeLine/\Q (.tup ws) G1
def Au(gs:GA):GE:=λω G Q=>gs ω G λws G1=>ws.length<=sizeLine/\∀ p,G1 p=none->Q (.ref p) (put G1 p (.lst ws))
theorem df(m:gs.M):GE.M (An gs):=λω G Q c h q=>m _ _ _ _ (λa b z=>⟨z.1,h _ _ z.2⟩) q
theorem dg(m:gs.M):GE.M (Au gs):=λω G Q b h q=>m _ _ _ _ (λc d z=>⟨z.1,λp a=>h _ _ (z.2 p a)⟩) q
theorem dh{x1}(m:gs.M)(h:PAw X es gs):PEw X (.Tuple es x1 pos) (An gs):=
 AW (aW h) λσ H Q⟨ω,G,c,r,q⟩=>⟨ω,G,c,r,m _ _ _ _ (λe d z f H1 b t r1=>⟨by rw[t.length];exact z.1,λp a=>
  z.2 _ _ (b.trans (Mono.new a _)) (.tup (SqT.of B0) (t.mono (Mono.new a _))) (r1.mono0 a)⟩) q⟩
theorem di(m:gs.M)(h:PAw X es gs):PEw X (.List es pos) (Au gs):=
 AW (aX h) λσ H Q⟨ω,G,c,r,q⟩=>⟨ω,G,c,r,m _ _ _ _ (λe d z f H1 b t r1=>⟨by rw[t.length];exact z.1,λp a=>
  z.2 p (r1.no a) _ _ (b.trans (Mono.new a _)) (.ref p) (r1.new a t)⟩) q⟩
end
def CY(z:Str):List V:=z.cps.toList.map λc=>V.str ⟨#[c]⟩
def Itk(xs:List V):It:=⟨λi _=>i < xs.length,λi H x H'=>H'=H/\xs[i]?=some x,λi _=>xs.length<=i⟩
variable {P:Program}{tg:Expr}
theorem dj{w:World}(F:∀ a u,letOwnedTupleGo tg a u=pure ())(a:Addr)(z:Str)(t:Tok):DM P w K tg (Itk (CY z)) [a] a (λi h=>h.IsStrIter a "str_ascii_iterator" z t i) where
 mem:=by simp
 obj:=λi h st b f=>by
  have e:b=a:=by simpa using f
  subst e;obtain⟨o,e,c,d⟩:=st;exact⟨o,e,λv z=>by rw[d]at z;cases z⟩
 keep:=λi h h' st k=>by
  obtain⟨o,e,c,d⟩:=st;exact⟨o,k a (by simp) o e,c,d⟩
 item:=by
  intro X r hw p hc i pins s σ H E I g st j;subst r hw p;obtain⟨l,n,L,B,y,m⟩:=g a (by simp);have W:=Walks.strAscii (prog:=X.prog) (w:=X.w) (I.ok.hd hc) a z t;have hi:i < z.cps.size:=by simpa[CY,Itk]using j
  refine W.item i s _ _ hi st λv h' tk J q G=>?_;obtain⟨c,t',x,rfl⟩:=J;have D:Inv X pins σ H {s with heap:=h',toks:=tk}:=I.turned (λb o f e=>G b o (by simpa using f) e) l n B y m;exact⟨_,rfl,wpAny_of_eq (F _ _) ⟨.str ⟨#[c]⟩,H,D,⟨_,rfl⟩,⟨rfl,by simp[CY,x]⟩,q,λb f=>(g b f).1⟩⟩
 done:=by
  intro X r hw p hc i pins s σ H E I g st j;subst r hw p;obtain⟨l,n,L,B,y,m⟩:=g a (by simp);have hi:z.cps.size<=i:=by simpa[CY,Itk]using j
  exact wpAny_pyNext_ascii_end (I.ok.hd hc) st (by simp[hi]) λh' eb=>⟨rfl,I.turned (t':=s.toks) (λb o f e=>eb b o f e) l n B y m⟩
 self:=λA i s Q E st h=>wpAny_pyIter_striter_ascii st h
theorem dq{w:World}(F:∀ a u,letOwnedTupleGo tg a u=pure ())(a:Addr)(z:Str)(t:Tok):DM P w K tg (Itk (CY z)) [a] a (λi h=>h.IsStrIter a "str_iterator" z t i) where
 mem:=by simp
 obj:=λi h st b f=>by
  have e:b=a:=by simpa using f
  subst e;obtain⟨o,e,c,d⟩:=st;exact⟨o,e,λv z=>by rw[d]at z;cases z⟩
 keep:=λi h h' st k=>by
  obtain⟨o,e,c,d⟩:=st;exact⟨o,k a (by simp) o e,c,d⟩
 item:=by
  intro X r hw p hc i pins s σ H E I g st j;subst r hw p;obtain⟨l,n,L,B,y,m⟩:=g a (by simp);have W:=Walks.strWide (prog:=X.prog) (w:=X.w) (I.ok.hd hc) a z t;have hi:i < z.cps.size:=by simpa[CY,Itk]using j
  refine W.item i s _ _ hi st λv h' tk J q G=>?_;obtain⟨c,t',x,rfl⟩:=J;have D:Inv X pins σ H {s with heap:=h',toks:=tk}:=I.turned (λb o f e=>G b o (by simpa using f) e) l n B y m;exact⟨_,rfl,wpAny_of_eq (F _ _) ⟨.str ⟨#[c]⟩,H,D,⟨_,rfl⟩,⟨rfl,by simp[CY,x]⟩,q,λb f=>(g b f).1⟩⟩
 done:=by
  intro X r hw p hc i pins s σ H E I g st j;subst r hw p;obtain⟨l,n,L,B,y,m⟩:=g a (by simp);have hi:z.cps.size<=i:=by simpa[CY,Itk]using j
  exact wpAny_pyNext_wide_end (I.ok.hd hc) st (by simp[hi]) λh' eb=>⟨rfl,I.turned (t':=s.toks) (λb o f e=>eb b o f e) l n B y m⟩
 self:=λA i s Q E st h=>wpAny_pyIter_striter_wide st h
def dr(K:PySem.W.Frag)(tl:TE):TI:=λσ H R=>tl σ H λx H1=>(∃ a,x=.ref a/\(∃ xs,SqL K H1 a xs)/\R (Itl K a) H1)\/(∃ a,x=.ref a/\(∃ xs,SqT K H1 a xs)/\R (Itt K a) H1)\/(∃ z,x=.str z/\R (Itk (CY z)) H1)
variable {l:Expr}
theorem dt(k:∀ y u,letOwnedTupleGo tg y u=pure ())(hl:PE X l tl):PI X tg l (dr X.K tl):=by
 intro pins s σ H R I h;refine thn (hl pins s σ H _ I h) λv c j=>?_;obtain⟨x,H1,d,r1,q1⟩:=j;rcases q1 with⟨a,e,⟨xs,i⟩,q⟩|⟨a,e,⟨xs,i⟩,q⟩|⟨z,e,q⟩
 ·subst e;cases r1;obtain⟨f,r,p,w⟩:=d.list i;refine wpAny_pyIter_list p.isList ?_;refine⟨c.heap.objs.size,[c.heap.objs.size],_,_,H1,rfl,d.kept (t':=c.toks) λb o e=>Qo _ e,Ob a _,⟨_,Qq _ rfl,rfl,rfl⟩,λb g=>?_,q⟩;have e:b=c.heap.objs.size:=by simpa using g
  subst e;walk_at "pj"
 ·subst e;cases r1;obtain⟨f,r,p,w⟩:=d.tuple i;refine wpAny_pyIter_tuple (show c.heap.IsTuple a f.toArray from p) ?_;refine⟨c.heap.objs.size,[c.heap.objs.size],_,_,H1,rfl,d.kept (t':=c.toks) λb o e=>Qo _ e,Oc a _,⟨_,Qq _ rfl,rfl,rfl⟩,λb g=>?_,q⟩;have e:b=c.heap.objs.size:=by simpa using g
  subst e;walk_at "pj"
 ·subst e;obtain⟨t,rfl⟩:=r1
  have n:∀ b∈[c.heap.objs.size],CV X pins H1 b:=λb g=>by
   have e:b=c.heap.objs.size:=by simpa using g
   subst e;walk_at "pj"
  cases m:z.cps.all (· < 128)
  ·exact wpAny_pyIter_wide m ⟨c.heap.objs.size,[c.heap.objs.size],_,_,H1,rfl,d.kept (t':=c.toks) λb o e=>Qo _ e,dq k _ z t,⟨_,Qq _ rfl,rfl,rfl⟩,n,q⟩
  ·exact wpAny_pyIter_ascii m ⟨c.heap.objs.size,[c.heap.objs.size],_,_,H1,rfl,d.kept (t':=c.toks) λb o e=>Qo _ e,dj k _ z t,⟨_,Qq _ rfl,rfl,rfl⟩,n,q⟩
abbrev GI:=Sw->Hw->(List W->(Hw->Prop)->Hw->Prop)->Prop
def GI.M(g:GI):Prop:=∀ ω G(R R':List W->(Hw->Prop)->Hw->Prop),(∀ ws gd G',R ws gd G'->R' ws gd G')->g ω G R->g ω G R'
def Eu(z:Str):List W:=z.cps.toList.map λc=>W.str ⟨#[c]⟩
theorem du:TrL K H (CY z) (Eu z):=by
 unfold CY Eu;generalize z.cps.toList=l;induction l with
 | nil=>exact .nil
 | cons c l a=>exact .cons (.str _) a
def yes:Hw->Prop:=λ_=>True
def holds(a:Addr)(ws:List W):Hw->Prop:=λG=>G a=some (.lst ws)
def AB(ga:GE):GI:=λω G R=>ga ω G λw G1=>match w with
 | .tup ws=>R ws yes G1
 | .rol ws=>R ws yes G1
 | .str z=>R (Eu z) yes G1
 | .ref a=>match G1 a with | some (.lst ws)=>R ws (holds a ws) G1 | _=>False
 | _=>False
variable {ga:GE}
theorem dv(m:ga.M):GI.M (AB ga):=λω G R f h q=>m _ _ _ _ (λw c z=>by
 cases w with
 | tup b=>exact h _ _ _ z
 | rol b=>exact h _ _ _ z
 | str x=>exact h _ _ _ z
 | ref a =>
  dsimp only at z ⊢;cases e:c a with
  | none=>rw[e]at z;exact z
  | some o =>
   rw[e]at z;cases o with
   | lst b=>exact h _ _ _ z
   | exc C=>exact z
   | ins C fs=>exact z
   | dct d=>exact z
 | _=>exact z) q
structure E8(K:PySem.W.Frag)(H1:Hp)(J:It)(ws:List W)(gd:Hw->Prop):Prop where
 go:∀(i:Nat)(H:Hp)(G:Hw),Mono K H1 H->RelH K H G->gd G->i < ws.length->J.go i H
 yld:∀(i:Nat)(H:Hp)(G:Hw)(x:V)(H':Hp),Mono K H1 H->RelH K H G->gd G->J.yld i H x H'->i < ws.length->Mono K H H'/\RelH K H' G/\∃ w,ws[i]?=some w/\Tr K H' x w
 stop:∀(H:Hp)(G:Hw),Mono K H1 H->RelH K H G->gd G->J.stop ws.length H
variable {i:Nat}
theorem Ky{x:V}{a:List W}(r:RelH K H G)(e:H'=H)(h:∃ w,a[i]?=some w/\Tr K H x w):Mono K H H'/\RelH K H' G/\∃ w,a[i]?=some w/\Tr K H' x w:=by
 subst e;exact⟨.refl,r,h⟩
variable {gd:Hw->Prop}{H1:Hp}
theorem Hj{b:List W}(h:∀ H G,Mono K H1 H->RelH K H G->gd G->∃ vs,SqL K H a vs/\TrL K H vs b):E8 K H1 (Itl K a) b gd where
 go:=λi H G m r g hi=>by
  obtain⟨vs,q,t⟩:=h H G m r g;have hl:=t.length;exact⟨vs,vs[i]'(by omega),q,by simp⟩
 yld:=λi H G x H' m r g y hi=>by
  obtain⟨vs,q,t⟩:=h H G m r g;obtain⟨w,e,c⟩:=t.get' (y.2 vs q);exact Ky r y.1 ⟨w,e,c⟩
 stop:=λH G m r g=>by
  obtain⟨vs,q,t⟩:=h H G m r g;exact⟨vs,q,Nat.le_of_eq t.length⟩
theorem O6{b:List W}(q:SqT K H1 a vs)(t:TrL K H1 vs b):E8 K H1 (Itt K a) b gd where
 go:=λi H G m r g hi=>by
  have hl:=t.length;exact⟨vs,vs[i]'(by omega),m.tup _ _ q,by simp⟩
 yld:=λi H G x H' m r g y hi=>by
  obtain⟨w,e,c⟩:=(t.mono m).get' (y.2 vs (m.tup _ _ q));exact Ky r y.1 ⟨w,e,c⟩
 stop:=λH G m r g=>⟨vs,m.tup _ _ q,Nat.le_of_eq t.length⟩
theorem dw{a:List W}(t:TrL K H1 vs a):E8 K H1 (Itk vs) a gd where
 go:=λi H G m r g hi=>by show i < vs.length;rw[t.length];exact hi
 yld:=λi H G x H' m r g y hi=>by
  obtain⟨w,e,b⟩:=(t.mono m).get' y.2;exact Ky r y.1 ⟨w,e,b⟩
 stop:=λH G m r g=>by show vs.length<=a.length;exact Nat.le_of_eq t.length
def PIw(X:Cx)(tg l:Expr)(gi:GI):Prop:=∃ wi:TI,PI X tg l wi/\∀(σ:St)(H:Hp)(ω:Sw)(G:Hw)(R:List W->(Hw->Prop)->Hw->Prop)(R0:It->Hp->Prop),TrSt X.K H σ ω->RelH X.K H G->gi ω G R->
 (∀ ws gd G1 H1 J,R ws gd G1->Mono X.K H H1->RelH X.K H1 G1->gd G1->E8 X.K H1 J ws gd->R0 J H1)->wi σ H R0
theorem dy(j:∀ A u,letOwnedTupleGo tg A u=pure ())(B:ga.M)(hl:PEw X l ga):PIw X tg l (AB ga):=by
 refine⟨_,dt j hl,λσ H ω G R E p r q k=>⟨ω,G,p,r,B _ _ _ _ (λw g z v H1 m t r1=>?_) q⟩⟩;cases t with
 | tup h l=>exact .inr (.inl ⟨_,rfl,⟨_,h⟩,k _ _ _ H1 _ z m r1 trivial (O6 h l)⟩)
 | rol h l=>exact .inl ⟨_,rfl,⟨_,h.sq⟩,k _ _ _ H1 _ z m r1 trivial (Hj λH2 y d _ _=>⟨_,(d.rol _ _ h).sq,l.mono d⟩)⟩
 | str x=>exact .inr (.inr ⟨x,rfl,k _ _ _ H1 _ z m r1 trivial (dw du)⟩)
 | ref a =>
  dsimp only at z;cases e:g a with
  | none=>rw[e]at z;exact z.elim
  | some o =>
   rw[e]at z;cases o with
   | exc C=>exact z.elim
   | ins C fs=>exact z.elim
   | dct n=>exact z.elim
   | lst F =>
    obtain⟨c,f,D⟩:=r1 a _ e;exact .inl ⟨a,rfl,⟨c,SqL.of f⟩,k _ _ _ H1 _ z m r1 e (Hj λH2 y d s g2=>let⟨c,e2,t2⟩:=s a _ g2;⟨c,SqL.of e2,t2⟩)⟩
 | non=>exact z.elim
 | bl b=>exact z.elim
 | int i=>exact z.elim
structure TgW(X:Cx)(tg:Expr)(gg:GG):Prop where
 ex:∃ g:TG,PG X tg g/\∀(x:V)(w:W)(σ:St)(ω:Sw)(H:Hp)(G:Hw)(Q:St->Hp->Prop),Tr X.K H x w->TrSt X.K H σ ω->RelH X.K H G->gg w ω G (dnS X.K H Q)->g x σ H Q
 mono:gg.M
def gNm(i:Nat):GG:=λw ω G Q=>Q (ω.set i (some w)) G
variable {x:Str}
theorem O7{p:Pos}(d:X.N.Nodup)(hi:X.N[i]?=some x)(a:Loc X.env.scope x)(b:X.fn x=true\/X.env.scope.names.lookup x=some .local):TgW X (.Name x p) (gNm i) where
 ex:=⟨_,B7 d hi a b,λx w σ ω H G Q t c r q=>q _ H .refl (c.set i t) r⟩
 mono:=λ_ _ _ _ _ h q=>h _ _ q
def Bh(i j:Nat):GG:=λw ω G Q=>match w with | .tup [a,b]=>Q ((ω.set i (some a)).set j (some b)) G | _=>False
variable {y:Str}{pos:Pos}{k j:Nat}
theorem O8{p e:Pos}(hc:X.calm=true)(d:X.N.Nodup)(hi:X.N[i]?=some x)(f:Loc X.env.scope x)(n:X.fn x=true\/X.env.scope.names.lookup x=some .local)
  (o:X.N[j]?=some y) (m:Loc X.env.scope y) (c:X.fn y=true\/X.env.scope.names.lookup y=some .local):TgW X (.Tuple [.Name x p,.Name y e] k pos) (Bh i j) where
 ex:=⟨_,FU hc (CG (B7 d hi f n) (CG (B7 d o m c) FT)),λv w σ ω H G Q t g r q=>by
  unfold Bh at q;split at q
  ·rename_i a b;cases t with
   | tup h l =>
    cases l with
    | cons ta l =>
     cases l with
     | cons tb l =>
      cases l;exact⟨_,_,rfl,h,rfl,_,_,rfl,_,_,rfl,rfl,q _ H .refl ((g.set i ta).set j tb) r⟩
  ·exact q.elim⟩
 mono:=λw ω G Q s h q=>by
  unfold Bh at q ⊢;split
  ·exact h _ _ q
  ·rename_i z;split at q
   ·exact(z _ _ rfl).elim
   ·exact q
def AY(gd:Hw->Prop)(gg:GG)(gb:GS)(D:Ew):List W->Sw->Hw->Prop
 | [],ω,G=>gd G/\D.nx ω G
 | x::xs,ω,G=>gd G/\gg x ω G λω1 G1=>gb {nx:=AY gd gg gb D xs,rt:=D.rt,bk:=D.nx,ct:=AY gd gg gb D xs} ω1 G1
def AF(gi:GI)(gg:GG)(gb:GS):GS:=λD ω G=>gi ω G λws gd G1=>AY gd gg gb D ws ω G1
theorem Kz{gd:Hw->Prop}{c:GG}{gb:GS}(mg:c.M)(d:gb.M){D e:Ew}(h1:∀ a b,D.nx a b->e.nx a b)(h2:∀ a b,D.rt a b->e.rt a b):∀(f:List W)(ω:Sw)(G:Hw),AY gd c gb D f ω G->AY gd c gb e f ω G
 | [],ω,G,q=>⟨q.1,h1 _ _ q.2⟩
 | x::xs,ω,G,q=>⟨q.1,mg _ _ _ _ _ (λω1 g z=>d _ _ {nx:=AY gd c gb D xs,rt:=D.rt,bk:=D.nx,ct:=AY gd c gb D xs} _ (λa b y=>Kz mg d h1 h2 xs a b y) h2 h1 (λa b y=>Kz mg d h1 h2 xs a b y) z) q.2⟩
variable {gi:GI}{gb:GS}
theorem dz{a:GG}(c:gi.M)(mg:a.M)(d:gb.M):GS.M (AF gi a gb):=λω G D i h1 h2 h f q=>c _ _ _ _ (λe g b z=>Kz mg d h1 h2 e ω b z) q
variable {D:Ew}
theorem dA{b:GG}{a:List W}(q:AY gd b gb D a ω G):gd G:=by
 cases a with
 | nil=>exact q.1
 | cons w a=>exact q.1
variable {iter:Expr}
theorem dB{P:Hp->Prop}{p:GG}(hp:PassesOwn (model X.prog X.w) X.A X.env X.xe)(hc:X.calm=true)(mi:gi.M)(mb:gb.M)(hi:PIw X tg iter gi)(hg:TgW X tg p)(hb:Dh X OY body gb)
  (hs:∀ x,foldedSetIterable iter X.env x=pure x:=by intro _;rfl):PSw X P (.For tg iter body [] pos) (AF gi p gb):=by
 intro B hB;obtain⟨wi,N,hi⟩:=hi;obtain⟨g,E,L⟩:=hg.ex;have mg:=hg.mono;have t:PSs X body (λD σ H=>∃ O,upS X.K O gb D σ H):=(by rintro pins s σ H D I ⟨O,z⟩;exact hb O trivial pins s σ H D I z);refine CH (al hp hc N E t hs) λD σ H R=>?_;obtain⟨ω,G,Y,r,F,q⟩:=R;refine hi σ H ω G _ _ Y r q λd gd G1 H1 J z m1 r1 hgd v=>?_;have j:=F.trans m1;refine⟨λi m σ' H'=>m=d.length - i/\i<=d.length/\Mono X.K H1 H'/\∃ ω' h,TrSt X.K H' σ' ω'/\RelH X.K H' h/\AY gd p gb (dnD X.K B D) (d.drop i) ω' h,⟨d.length,by simp,YY _,.refl,ω,G1,Y.mono m1,r1,by simpa using z⟩,?_⟩;rintro i m σ' H' ⟨rfl,hle,k,ω',h,n,r',o⟩;have c:=dA o;by_cases l:i < d.length
 ·refine .inr ⟨v.go i H' h k r' c l,λσ2 H2=>Mono X.K H1 H2/\∃ ω2 Z,TrSt X.K H2 σ2 ω2/\RelH X.K H2 Z/\AY gd p gb (dnD X.K B D) (d.drop (i+1)) ω2 Z,
   (by rintro σ2 H2 ⟨y1,y2⟩;exact⟨d.length -(i+1),by omega,rfl,l,y1,y2⟩),λx H2 y=>?_⟩
  obtain⟨U,ry,w,ew,tw⟩:=v.yld i H' h x H2 k r' c y l;have k:=k.trans U
  have ed:d.drop i=w::d.drop (i+1):=by
   obtain⟨h',e'⟩:=Qb.mp ew;rw[<- e'];exact List.drop_eq_getElem_cons h'
  rw[ed]at o;refine L x w σ' ω' _ h _ tw (n.mono U) ry (mg _ _ _ _ _ (λω1 Q z1 σ1 H3 m3 T r3=>?_) o.2);exact⟨H1,ω1,Q,T,r3,k.trans m3,mb _ _ _ _ (λa b y σ4 H4 u f S=>⟨u,a,b,f,S,y⟩) (λa b y=>Cs j y) (λa b y=>ci j y) (λa b y σ4 H4 u f S=>⟨u,a,b,f,S,y⟩) z1⟩
 ·have e:i=d.length:=by omega
  subst e;rw[List.drop_length]at o;exact .inl ⟨v.stop H' h k r' c,o.2 σ' H' (j.trans k) n r'⟩
def Bi(gd:Hw->Prop)(gg:GG)(gt:GT)(ge:GE)(R:List W->Hw->Prop):List W->Sw->Hw->List W->Prop
 | [],_,G,ys=>gd G/\R ys G
 | x::xs,ω,G,ys=>gd G/\ys.length < sizeLine/\gg x ω G λω1 G1=>gt ω1 G1 λb G2=>if b=true then ge ω1 G2 λy G3=>Bi gd gg gt ge R xs ω1 G3 (ys++[y])else Bi gd gg gt ge R xs ω1 G2 ys
def AR(gi:GI)(n:Nat)(gg:GG)(gt:GT)(ge:GE):GE:=λω G Q=>gi ω G λws gd G1=>Bi gd gg gt ge (λys G2=>∀ p,G2 p=none->Q (.ref p) (put G2 p (.lst ys))) ws (List.replicate n none) G1 []
theorem Hk{gd:Hw->Prop}{d:GG}{gt:GT}{ge:GE}(mg:d.M)(mt:gt.M)(c:ge.M){R f:List W->Hw->Prop}(h:∀ a b,R a b->f a b):∀(g:List W)(ω:Sw)(G:Hw)(ys:List W),Bi gd d gt ge R g ω G ys->Bi gd d gt ge f g ω G ys
 | [],ω,G,ys,q=>⟨q.1,h _ _ q.2⟩
 | x::xs,ω,G,ys,q=>⟨q.1,q.2.1,mg _ _ _ _ _ (λω1 l z=>mt _ _ _ _ (λb k e=>by
   cases b with
   | true=>exact c _ _ _ _ (λy i j=>Hk mg mt c h xs ω1 i _ j) e
   | false=>exact Hk mg mt c h xs ω1 k _ e) z) q.2.2⟩
variable {n:Nat}{gt:GT}{ge:GE}
theorem dD{a:GG}(c:gi.M)(mg:a.M)(mt:gt.M)(b:ge.M):GE.M (AR gi n a gt ge):=λω G Q j h q=>
 c _ _ _ _ (λi f e z=>Hk mg mt b (λys g z p d=>h _ _ (z p d)) _ _ _ _ z) q
variable {ys:List W}
theorem O9{b:GG}{R:List W->Hw->Prop}{a:List W}(q:Bi gd b gt ge R a ω G ys):gd G:=by
 cases a with
 | nil=>exact q.1
 | cons w a=>exact q.1
def AL:GT:=λ_ G Q=>Q true G
theorem dE:GT.M AL:=λ_ _ _ _ h q=>h _ _ q
abbrev PFw(X:Cx)(ifs:List Expr)(g:GT):Prop:=PF X ifs (upT X.K g)
theorem dF:PFw X [] AL:=(by rintro pins s σ H Q I ⟨ω,G,a,r,q⟩;exact b4 pins s σ H Q I (q H .refl r))
theorem dG{c:Expr}{g:GT}(h:PTw X c g):PFw X [c] g:=b5 h
theorem dH(h:σ=List.replicate n none):TrSt K H σ (List.replicate n none):=by
 subst h;refine⟨by simp,λi w e=>?_⟩;rw[List.getElem?_replicate]at e;split at e <;> cases e
variable {Nc:List Str}
theorem dI{u:GG}{S:TI}{g:TG}(I:∀(σ:St)(H:Hp)(ω:Sw)(G:Hw)(R:List W->(Hw->Prop)->Hw->Prop)(Z:It->Hp->Prop),TrSt X.K H σ ω->RelH X.K H G->gi ω G R->
   (∀ a gd s H1 J,R a gd s->Mono X.K H H1->RelH X.K H1 s->gd s->E8 X.K H1 J a gd->Z J H1)->S σ H Z)
  (F:∀(x:V)(w:W)(σ:St)(ω:Sw)(H:Hp)(G:Hw)(Q:St->Hp->Prop),Tr X.K H x w->TrSt X.K H σ ω->RelH X.K H G->u w ω G (dnS X.K H Q)->g x σ H Q) (mg:u.M) (mt:gt.M) (me:ge.M) (σ:St) (H:Hp) (Q:VK) (h:up X.K (AR gi Nc.length u gt ge) σ H Q):
  Hf S (λ_=>List.replicate Nc.length none) g (upT X.K gt) (up X.K ge) σ H Q:=by
 obtain⟨ω,G,ts,r,q⟩:=h;refine I σ H ω G _ _ ts r q λa gd s H1 J z m1 r1 hgd D=>?_
 refine⟨λi m σ' H' Y=>m=a.length - i/\i<=a.length/\Mono X.K H1 H'/\∃ ω' n ys,TrSt X.K H' σ' ω'/\RelH X.K H' n/\TrL X.K H' Y ys/\Bi gd u gt ge (λys j=>∀ p,j p=none->dn X.K H Q (.ref p) (put j p (.lst ys))) (a.drop i) ω' n ys,
  ⟨a.length,by simp,YY _,.refl,_,s,[],dH rfl,r1,.nil,by simpa using z⟩,?_⟩
 rintro i m σ' H' Y ⟨rfl,hle,k,ω',n,ys,N,r',tv,o⟩;have c:=O9 o;by_cases f:i < a.length
 ·have hw:∃ w,a[i]?=some w:=⟨a[i],by simp[f]⟩;obtain⟨w0,v⟩:=hw
  have ed:a.drop i=w0::a.drop (i+1):=by
   obtain⟨h',e'⟩:=Qb.mp v;rw[<- e'];exact List.drop_eq_getElem_cons h'
  rw[ed]at o
  refine .inr ⟨D.go i H' n k r' c f,by rw[tv.length];exact o.2.1,λσ2 H2 A=>Mono X.K H1 H2/\∃ ω2 j t,TrSt X.K H2 σ2 ω2/\RelH X.K H2 j/\TrL X.K H2 A t/\Bi gd u gt ge (λys j=>∀ p,j p=none->dn X.K H Q (.ref p) (put j p (.lst ys))) (a.drop (i+1)) ω2 j t,
   (by rintro σ2 H2 A ⟨y1,y2⟩;exact⟨a.length -(i+1),by omega,rfl,f,y1,y2⟩),λx H2 y=>?_⟩
  obtain⟨E,ry,w,U,tw⟩:=D.yld i H' n x H2 k r' c y f;have k:=k.trans E;have tv:=tv.mono E;rw[v]at U;cases U;refine F x _ σ' ω' _ n _ tw (N.mono E) ry (mg _ _ _ _ _ (λω1 O z1 σ1 H3 B d r3=>?_) o.2.2);refine⟨ω1,O,d,r3,mt _ _ _ _ (λb T z4 H4 l r4=>?_) z1⟩;cases b with
  | true=>exact⟨ω1,T,d.mono l,r4,me _ _ _ _ (λy5 G5 z5 v5 H5 L t5 r5=>⟨((k.trans B).trans l).trans L,ω1,G5,_,(d.mono l).mono L,r5,(((tv.mono B).mono l).mono L).append (.cons t5 .nil),z5⟩) z4⟩
  | false=>exact⟨(k.trans B).trans l,ω1,T,_,d.mono l,r4,(tv.mono B).mono l,z4⟩
 ·have e:i=a.length:=by omega
  subst e;rw[List.drop_length]at o;exact .inl ⟨D.stop H' n k r' c,λp P=>o.2 p (r'.no P) _ _ ((m1.trans k).trans (Mono.new P _)) (.ref p) (r'.new P tv)⟩
structure TgU(X:Cx)(Nc:List Str)(scope:Scope)(tg:Expr)(gg:GG):Prop where
 ex:∃ g:TG,(∀ C fp s H,PG (cxB X Nc scope [] C fp s H) tg g)/\∀(x:V)(w:W)(σ:St)(ω:Sw)(H:Hp)(G:Hw)(Q:St->Hp->Prop),Tr X.K H x w->TrSt X.K H σ ω->RelH X.K H G->gg w ω G (dnS X.K H Q)->g x σ H Q
 mono:gg.M
variable {scope:Scope}
theorem Di{p:Pos}(d:Nc.Nodup)(hi:Nc[i]?=some x)(a:scope.names.lookup x=some .local):TgU X Nc scope (.Name x p) (gNm i) where
 ex:=⟨B6 i,λC b s H=>B7 (X:=cxB X Nc scope [] C b s H) d hi (.inl (lookup_relabel_local a)) (.inr (lookup_relabel_local a)),λx w σ ω H G Q t c r q=>q _ H .refl (c.set i t) r⟩
 mono:=λ_ _ _ _ _ h q=>h _ _ q
theorem Pa:GG.M (Bh i j):=λw ω G Q a h q=>by
 unfold Bh at q ⊢;split
 ·exact h _ _ q
 ·rename_i z;split at q
  ·exact(z _ _ rfl).elim
  ·exact q
theorem Hl{p f:Pos}(hc:X.calm=true)(c:Nc.Nodup)(hi:Nc[i]?=some x)(d:scope.names.lookup x=some .local)(m:Nc[j]?=some y)(e:scope.names.lookup y=some .local):
  TgU X Nc scope (.Tuple [.Name x p,.Name y f] k pos) (Bh i j) where
 ex:=⟨Cl X.K 2 (BT (B6 i) (BT (B6 j) Ch)),λC n s H=>FU (X:=cxB X Nc scope [] C n s H) hc (CG (B7 c hi (.inl (lookup_relabel_local d)) (.inr (lookup_relabel_local d))) (CG (B7 c m (.inl (lookup_relabel_local e)) (.inr (lookup_relabel_local e))) FT)),
  λv w σ ω H G Q t g r q=>by
   unfold Bh at q;split at q
   ·rename_i a b;cases t with
    | tup h l =>
     cases l with
     | cons ta l =>
      cases l with
      | cons tb l =>
       cases l;exact⟨_,_,rfl,h,rfl,_,_,rfl,_,_,rfl,rfl,q _ H .refl ((g.set i ta).set j tb) r⟩
   ·exact q.elim⟩
 mono:=Pa
theorem dJ{e:GG}(hc:X.calm=true)(hi:PIw X tg iter gi)(B:Blk X Nc scope [] (λ_=>List.replicate Nc.length none))
  (d:TgU X Nc scope tg e) (mt:gt.M) (j:∀ C fp s H,PFw (cxB X Nc scope [] C fp s H) ifs gt) (f:ge.M) (h:∀ C fp s H,PEw (cxB X Nc scope [] C fp s H) elt ge) (i:∀ x,foldedSetIterable iter X.env x=pure x):
  PEw X (.ListComp elt [⟨tg,iter,ifs,0⟩] scope pos) (AR gi Nc.length e gt ge):=by
 obtain⟨k,c,hi⟩:=hi;obtain⟨g,b,a⟩:=d.ex;exact AW (OT hc c B b j h i) (dI hi a d.mono mt f)
def Ay(C:Int->Int->Prop)(f:Int->Int->Int):RW2:=λx y G Q=>match x,y with
 | .int i,.int j=>C i j/\Q (.int (f i j)) G
 | _,_=>False
theorem C8{C:Int->Int->Prop}{f:Int->Int->Int}:RW2.M (Ay C f):=λx y G Q a h q=>by
 cases x <;> cases y <;> first | exact q | exact⟨q.1,h _ _ q.2⟩
theorem F0{C:Int->Int->Prop}{f:Int->Int->Int}(x y:W)(v u:V)(G:Hw)(H:Hp)(Q:VK)(a:Tr K H v x)(ty:Tr K H u y)(r:RelH K H G)(q:Ay C f x y G (dn K H Q)):rI C (λi j=>.int (f i j)) v u H Q:=by
 cases a <;> first | exact q.elim |(cases ty <;> first | exact q.elim | exact⟨_,_,rfl,rfl,q.1,q.2 _ H .refl (.int _) r⟩)
def AZ:RW2:=λx y G Q=>match x,y with
 | .int i,.int j=>Q (.int (i+j)) G
 | .str a,.str b=>a.length+b.length<=sizeLine/\Q (.str (a++b)) G
 | .ref a,.ref b=>(match G a,G b with
  | some (.lst xs),some (.lst ys)=>xs.length+ys.length<=sizeLine/\∀ p,G p=none->Q (.ref p) (put G p (.lst (xs++ys)))
  | _,_=>False)
 | _,_=>False
theorem KA:RW2.M AZ:=λx y G Q g h q=>by
 cases x <;> cases y <;> first | exact q | exact h _ _ q | exact⟨q.1,h _ _ q.2⟩| skip
 rename_i a b;unfold AZ at q ⊢;dsimp only at q ⊢;cases c:G a with
 | none=>rw[c]at q;exact q
 | some d =>
  cases eb:G b with
  | none=>rw[c,eb]at q;cases d <;> exact q
  | some f =>
   rw[c,eb]at q;cases d <;> cases f <;> first | exact q | exact⟨q.1,λp e=>h _ _ (q.2 p e)⟩
theorem Pc:OpR X (binaryOp .Add) (λx y H Q=>(rI0 λi j=>.int (i+j)) x y H Q\/(∃ i j,x=.str i/\y=.str j/\i.length+j.length<=sizeLine/\Q (.str (i++j)) H)\/FY x y H Q):=OpR.or ar (OpR.or aP bD)
theorem Pd(x y:W)(v u:V)(G:Hw)(H:Hp)(Q:VK)(l:Tr K H v x)(ty:Tr K H u y)(r:RelH K H G)(q:AZ x y G (dn K H Q)):
  (rI0 λi j=>.int (i+j)) v u H Q\/(∃ i j,v=.str i/\u=.str j/\i.length+j.length<=sizeLine/\Q (.str (i++j)) H)\/FY v u H Q:=by
 cases l with
 | int i=>cases ty <;> first | exact q.elim | exact .inl ⟨_,_,rfl,rfl,q _ H .refl (.int _) r⟩
 | str i=>cases ty <;> first | exact q.elim | exact .inr (.inl ⟨_,_,rfl,rfl,q.1,q.2 _ H .refl (.str _) r⟩)
 | ref a =>
  cases ty <;> try exact q.elim
  rename_i b;unfold AZ at q;dsimp only at q;cases c:G a with
  | none=>rw[c]at q;exact q.elim
  | some g =>
   cases eb:G b with
   | none=>rw[c,eb]at q;cases g <;> exact q.elim
   | some m =>
    rw[c,eb]at q;cases g <;> cases m <;> try exact q.elim
    obtain⟨o,h,f⟩:=r a _ c;obtain⟨k,n,e⟩:=r b _ eb;exact .inr (.inr ⟨a,b,o,k,rfl,rfl,h,n,by rw[f.length,e.length];exact q.1,λp d=>q.2 p (r.no d) _ _ (Mono.new d _) (.ref p) (r.new d (f.append e))⟩)
 | _=>exact q.elim
def AM(f:Int->Int->Bool):RW2:=λx y G Q=>match x,y with
 | .int i,.int j=>Q (.bl (f i j)) G
 | _,_=>False
variable {f:Int->Int->Bool}
theorem Pe:RW2.M (AM f):=λx y G Q a h q=>by
 cases x <;> cases y <;> first | exact q | exact h _ _ q
theorem Pf(x y:W)(v u:V)(G:Hw)(H:Hp)(Q:VK)(a:Tr K H v x)(ty:Tr K H u y)(r:RelH K H G)(q:AM f x y G (dn K H Q)):rI0 (λi j=>.bl (f i j)) v u H Q:=by
 cases a <;> first | exact q.elim |(cases ty <;> first | exact q.elim | exact⟨_,_,rfl,rfl,q _ H .refl (.bl _) r⟩)
def opt(o:Option W)(f:W->Prop):Prop:=match o with | some w=>f w | none=>False
theorem KB{o:Option W}{f a:W->Prop}(h:∀ w,f w->a w)(q:opt o f):opt o a:=by
 cases o with
 | none=>exact q
 | some w=>exact h _ q
theorem Cu{o:Option W}{f:W->Prop}(q:opt o f):∃ w,o=some w/\f w:=by
 cases o with
 | none=>exact q.elim
 | some w=>exact⟨w,rfl,q⟩
def Ae(f:W->W->Hw->Option W):RW2:=λx y G Q=>opt (f x y G) λw=>Q w G
theorem CZ{f:W->W->Hw->Option W}:RW2.M (Ae f):=λx y G Q a h q=>KB (λw z=>h _ _ z) q
def ixW(x y:W)(G:Hw):Option W:=match x,y with
 | .tup xs,.int i=>atI xs i
 | .rol xs,.int i=>atI xs i
 | .ref a,.int i=>(match G a with | some (.lst xs)=>atI xs i | _=>none)
 | .str z,.int i=>if z.length<=sizeLine then(atI z.cps.toList i).map λc=>.str ⟨#[c]⟩else none
 | _,_=>none
theorem KC{a:List W}{i:Int}(t:TrL K H vs a)(e:atI a i=some w):∃ v,atI vs i=some v/\Tr K H v w:=by
 unfold atI at e ⊢;rw[t.length];cases z:ixN a.length i with
 | none=>rw[z]at e;cases e
 | some j =>
  rw[z]at e;exact t.get e
theorem dL:IxR X (λx y H Q=>Kf X.K x y H Q\/Kg X.K x y H Q\/Kh x y H Q):=IxR.or bh (IxR.or bi bj)
theorem dM(x y:W)(v u:V)(G:Hw)(H:Hp)(Q:VK)(k:Tr K H v x)(ty:Tr K H u y)(r:RelH K H G)(q:Ae ixW x y G (dn K H Q)):Kf K v u H Q\/Kg K v u H Q\/Kh v u H Q:=by
 obtain⟨w,e,f⟩:=Cu q;cases ty with
 | int i =>
  cases k with
  | tup h l =>
   obtain⟨j,b,t'⟩:=KC l e;exact .inr (.inl ⟨_,_,_,_,rfl,rfl,h,b,f _ H .refl t' r⟩)
  | rol h l =>
   obtain⟨j,b,t'⟩:=KC l e;exact .inl ⟨_,_,_,_,rfl,rfl,h.sq,b,f _ H .refl t' r⟩
  | str z =>
   unfold ixW at e;dsimp only at e;split at e
   ·rename_i n;cases d:atI z.cps.toList i with
    | none=>rw[d]at e;cases e
    | some c =>
     rw[d]at e;cases e;exact .inr (.inr ⟨z,i,c,rfl,rfl,n,d,f _ H .refl (.str _) r⟩)
   ·cases e
  | ref a =>
   unfold ixW at e;dsimp only at e;cases g:G a with
   | none=>rw[g]at e;cases e
   | some o =>
    rw[g]at e;cases o with
    | exc C=>cases e
    | ins C fs=>cases e
    | dct m=>cases e
    | lst p =>
     obtain⟨s,d,l⟩:=r a _ g;obtain⟨j,b,t'⟩:=KC l e;exact .inl ⟨_,_,_,_,rfl,rfl,SqL.of d,b,f _ H .refl t' r⟩
  | _=>cases e
 | _=>cases x <;> cases e
structure Em(X:Cx)(e:Expr)(g:GE):Prop where
 p:PEw X e g
 m:g.M
structure Tm(X:Cx)(e:Expr)(g:GT):Prop where
 p:PTw X e g
 m:g.M
structure Wm(X:Cx)(e:Expr)(g:GT):Prop where
 p:PWw X e g
 m:g.M
structure Am(X:Cx)(es:List Expr)(g:GA):Prop where
 p:PAw X es g
 m:g.M
structure Sm(X:Cx)(P:Hp->Prop)(s:Stmt)(g:GS):Prop where
 p:PSw X P s g
 m:g.M
structure Ssm(X:Cx)(P:Hp->Prop)(s:List Stmt)(g:GS):Prop where
 p:Dh X P s g
 m:g.M
structure Im(X:Cx)(tg l:Expr)(g:GI):Prop where
 p:PIw X tg l g
 m:g.M
def place(N:List Str)(x:Str):Option Nat:=N.findIdx? (·==x)
theorem dN(h:place N x=some i):N[i]?=some x:=by
 unfold place at h;obtain⟨hi,e,_⟩:=List.findIdx?_eq_some_iff_getElem.mp h;rw[Yp hi,eq_of_beq e]
def seen(sc:Scope)(x:Str):Bool:=match sc.names.lookup x with | some .local=>true | some .cell=>true | some .free=>true | _=>false
theorem Pg{a:Scope}(h:seen a x=true):Vis a x:=by
 unfold seen at h;split at h <;> first |(rename_i e;exact .inl e)|(rename_i e;exact .inr (.inl e))|(rename_i e;exact .inr (.inr e))| cases h
def F1(sc:Scope)(x:Str):Bool:=match sc.names.lookup x with | some .local=>true | _=>false
theorem F2{a:Scope}(h:F1 a x=true):a.names.lookup x=some .local:=by
 unfold F1 at h;split at h
 ·rename_i e;exact e
 ·cases h
section
variable {X:Cx} {a b c e f:Expr} {es Av:List Expr} {st:Stmt} {sts sts':List Stmt} {pos pos' p:Pos} {ga gb gc:GE} {gt gu:GT} {gs:GA} {g1 g2:GS} {ex:Xw} {P:Hp->Prop}
theorem Hm{i:Int}{j}:Em X (.Constant (.int i) j pos) (gC (.int i)):=⟨cm,E7⟩
theorem dO{i:Bool}{j}:Em X (.Constant (.bool i) j pos) (gC (.bl i)):=⟨cn,E7⟩
theorem dP{j}:Em X (.Constant .none j pos) (gC .non):=⟨cp,E7⟩
theorem Ph{i:Str}{j}:Em X (.Constant (.str i) j pos) (gC (.str i)):=⟨cq,E7⟩
theorem dQ(c:Em X a ga)(d:Em X b gb):Em X (.BinOp a .Add b pos) (Ad AZ ga gb):=⟨DO Pc KA c.m d.m Pd c.p d.p,Ct KA c.m d.m⟩
theorem dR(c:Em X a ga)(d:Em X b gb):Em X (.BinOp a .Sub b pos) (Ad (Ay (λ_ _=>True) λi j=>i - j) ga gb):=
 ⟨DO (r2:=rI (λ_ _=>True) λi j=>.int (i - j)) (opI λ_ _ _ _ _ _ _ _ q=>sub_int q) C8 c.m d.m F0 c.p d.p,Ct C8 c.m d.m⟩
theorem dS(c:Em X a ga)(d:Em X b gb):Em X (.BinOp a .Mult b pos) (Ad (Ay CMul λi j=>i*j) ga gb):=⟨DO Oe C8 c.m d.m F0 c.p d.p,Ct C8 c.m d.m⟩
theorem dU(c:Em X a ga)(d:Em X b gb):Em X (.BinOp a .FloorDiv b pos) (Ad (Ay E4 λi j=>i / j) ga gb):=⟨DO au C8 c.m d.m F0 c.p d.p,Ct C8 c.m d.m⟩
theorem dV(c:Em X a ga)(d:Em X b gb):Em X (.BinOp a .Mod b pos) (Ad (Ay (λ_ j=>0 < j) λi j=>i % j) ga gb):=⟨DO av C8 c.m d.m F0 c.p d.p,Ct C8 c.m d.m⟩
theorem dW(c:Em X a ga)(d:Em X b gb):Em X (.BinOp a .Pow b pos) (Ad (Ay Ep λi j=>i ^ j.toNat) ga gb):=⟨DO aw C8 c.m d.m F0 c.p d.p,Ct C8 c.m d.m⟩
theorem Pi(e:FW b)(c:Em X a ga)(d:Em X b gb):Em X (.Subscript a b pos) (Ad (Ae ixW) ga gb):=⟨O0 dL CZ c.m d.m dM c.p d.p e,Ct CZ c.m d.m⟩
theorem Pj{k}(h:Am X es gs):Em X (.Tuple es k pos) (An gs):=⟨dh h.m h.p,df h.m⟩
theorem Pk(h:Am X es gs):Em X (.List es pos) (Au gs):=⟨di h.m h.p,dg h.m⟩
theorem KD{op:BoolOp}(h:Em X a ga):Em X (.BoolOp op [a] pos) ga:=⟨c8 h.p,h.m⟩
theorem KG(c:Em X a ga)(d:Em X (.BoolOp .And (b::Av) pos) gb):Em X (.BoolOp .And (a::b::Av) pos) (AX ga gb):=⟨c9 c.m d.m c.p d.p,c4 c.m d.m⟩
theorem dX(c:Em X a ga)(d:Em X (.BoolOp .Or (b::Av) pos) gb):Em X (.BoolOp .Or (a::b::Av) pos) (Bm ga gb):=⟨da c.m d.m c.p d.p,c5 c.m d.m⟩
theorem Pl(b:Em X a ga):Em X (.UnaryOp .Not a pos) (Bn ga):=⟨db b.m b.p,c6 b.m⟩
theorem Pm(hc:Tm X c gt)(d:Em X a ga)(e:Em X b gb):Em X (.IfExp c a b pos) (AT gt ga gb):=⟨de hc.m d.m e.m hc.p d.p e.p,c7 hc.m d.m e.m⟩
theorem BD:Am X [] Ac:=⟨cx,cu⟩
theorem A3(b:starEach (e::es) X.env=(false,eval e X.env)::starEach es X.env)(a:Em X e ga)(c:Am X es gs):Am X (e::es) (Aa ga gs):=⟨cy a.m c.m a.p c.p b,cw a.m c.m⟩
theorem Dj{sp:Spw}(D:Df X.prog X.w X.K X.mg X.base x k n sp)(g:Room k X.A)(f:Gl X x)(h:DP X ex)(b:(x==("__debug__":Str))=false)(d:starEach (e::es) X.env=(false,eval e X.env)::starEach es X.env)(c:(backTo pos (starEach es X.env)).any (·.1)=false)
  (a:Am X (e::es) gs):Em X (.Call (.Name x p) (e::es) [] pos) (Af sp ex gs):=⟨cA D g f h a.m a.p b d c,cz D.mono a.m⟩
theorem F3(c:∀ a,isTrue e X.env a=(do let v <- a;standAt e.pos;holding [v] (truthy v)))(b:Em X e ga):Tm X e (AC ga):=⟨cR b.m b.p c,cP b.m⟩
theorem F4(b:Tm X a gt):Tm X (.UnaryOp .Not a pos) (gNt gt):=⟨cT b.p,cS b.m⟩
theorem dY{op:BoolOp}{vs:List Expr}(h:Wm X (.BoolOp op vs pos) gt):Tm X (.BoolOp op vs pos) gt:=⟨c0 h.p,h.m⟩
theorem dZ(h:Tm X a gt):Wm X (.BoolOp .And [a] pos) gt:=⟨cW h.p,h.m⟩
theorem d0(h:Tm X a gt):Wm X (.BoolOp .Or [a] pos) gt:=⟨cX h.p,h.m⟩
theorem d3(c:Tm X a gt)(d:Wm X (.BoolOp .And (b::Av) pos) gu):Wm X (.BoolOp .And (a::b::Av) pos) (AQ gt gu):=⟨cY c.m d.m c.p d.p,cU c.m d.m⟩
theorem d4(c:Tm X a gt)(d:Wm X (.BoolOp .Or (b::Av) pos) gu):Wm X (.BoolOp .Or (a::b::Av) pos) (gOr gt gu):=⟨cZ c.m d.m c.p d.p,cV c.m d.m⟩
theorem DQ:Ssm X P [] Ai:=⟨cE,cC⟩
theorem Br(h:Sm X P st g1):Ssm X P [st] g1:=⟨cG h.p,h.m⟩
theorem AA(h1:Sm X P st g1)(h2:Ssm X P sts g2):Ssm X P (st::sts) (Ag g1 g2):=⟨cF h1.m h2.m h1.p h2.p,cD h1.m h2.m⟩
theorem B1(a:Em X e ga):Sm X P (.Return (some e) pos) (Ah ga):=⟨cJ a.m a.p,cI a.m⟩
theorem F5(b:swapsWith e none pos.line X.env=pure false)(a:Em X e ga):Sm X P (.Expr e pos) (AD ga):=⟨cL a.m a.p b,cK a.m⟩
theorem DS(hc:Tm X c gt)(h1:Ssm X P sts g1)(h2:Ssm X P sts' g2):Sm X P (.If c sts sts' pos) (gIf gt g1 g2):=⟨cN hc.m h1.m h2.m hc.p h1.p h2.p,cM hc.m h1.m h2.m⟩
theorem d5(a:∀ b u,letOwnedTupleGo tg b u=pure ())(hl:Em X l ga):Im X tg l (AB ga):=⟨dy a hl.m hl.p,dv hl.m⟩
theorem Hn{c:GG}{gb:GS}(e:PassesOwn (model X.prog X.w) X.A X.env X.xe)(hc:X.calm=true)(d:∀ x,foldedSetIterable iter X.env x=pure x)(hi:Im X tg iter gi)(b:TgW X tg c)(a:Ssm X OY sts gb):Sm X P (.For tg iter sts [] pos) (AF gi c gb):=
 ⟨dB e hc hi.m a.m hi.p b a.p d,dz hi.m b.mono a.m⟩
end
theorem Pn{bs:List Bool}{a:List Value}(r:Vals (bs.map V.bl) a){v:Value}(e:a.toArray[i]?=some v):v=.bool (bs.getD i false):=by
 have b:a[i]?=some v:=by simpa using e
 have hl:=r.length;rw[Yh]at hl;have hi:i < a.length:=(Qb.mp b).1;have d:bs[i]?=some (bs[i]'(by omega)):=Yp _;obtain⟨u,c,r1⟩:=r.get (i:=i) (x:=.bl (bs[i]'(by omega))) (by rw[YS,d];rfl);rw[b]at c;cases c;rw[Qe,d];exact r1
theorem d6{bs:List Bool}:(List.range bs.length).all (λi=>bs.getD i false)=bs.all id:=by
 rw[Bool.eq_iff_iff];simp only[List.all_eq_true,List.mem_range,id];constructor
 ·intro h b a;obtain⟨i,hi,e⟩:=List.mem_iff_getElem.mp a;have:=h i hi;rw[Qe,Yp hi]at this;rw[<- e];exact this
 ·intro h i hi;rw[Qe,Yp hi];exact h _ (Qk hi)
theorem d9{bs:List Bool}:(List.range bs.length).any (λi=>bs.getD i false)=bs.any id:=by
 rw[Bool.eq_iff_iff];simp only[List.any_eq_true,List.mem_range,id];constructor
 ·rintro⟨i,hi,h⟩;rw[Qe,Yp hi]at h;exact⟨_,Qk hi,h⟩
 ·rintro⟨b,a,h⟩;obtain⟨i,hi,e⟩:=List.mem_iff_getElem.mp a;exact⟨i,hi,by rw[Qe,Yp hi,Option.getD_some,e];exact h⟩
section
variable {X:Cx}
theorem ea(hc:X.calm=true):CallR X (.builtin "all") (λxs H Q=>∃(p:Addr)(bs:List Bool),xs=[.ref p]/\SqL X.K H p (bs.map V.bl)/\Q (.bl (bs.all id)) H):=by
 intro pins s σ H xs g Q I r h;obtain⟨p,bs,rfl,a,q⟩:=h;obtain⟨u,rfl,d⟩:=C6 r;cases d;obtain⟨c,r',pl,j⟩:=I.list a;have hl:=r'.length;rw[Yh]at hl;obtain⟨o,n,e,_⟩:=id pl
 refine call_all_walk (wpAny_pyIter_list pl.isList ⟨s.heap.objs.size,_,_,_,_,_,λi=>bs.getD i false,rfl,Walks.list (A:=X.A.in1) (I.ok.hd hc) _ p (Ys (Qp e)) c.toArray,
  ⟨⟨_,Qq _ rfl,rfl,rfl⟩,pl.isList.push _⟩,λi v s Q E f a=>by rw[Pn r' f];exact wpAny_truthy_bool a,λh' tk k=>?_⟩)
 refine⟨.bl (bs.all id),H,I.kept (t':=tk) λb o e=>k b o (by simpa using Ys (Qp e)) (Qo _ e),?_,q⟩;show Value.bool _=_;rw[Yn,<- hl,d6]
theorem ef(hc:X.calm=true):CallR X (.builtin "any") (λxs H Q=>∃(p:Addr)(bs:List Bool),xs=[.ref p]/\SqL X.K H p (bs.map V.bl)/\Q (.bl (bs.any id)) H):=by
 intro pins s σ H xs g Q I r h;obtain⟨p,bs,rfl,a,q⟩:=h;obtain⟨u,rfl,d⟩:=C6 r;cases d;obtain⟨c,r',pl,j⟩:=I.list a;have hl:=r'.length;rw[Yh]at hl;obtain⟨o,n,e,_⟩:=id pl
 refine call_any_walk (wpAny_pyIter_list pl.isList ⟨s.heap.objs.size,_,_,_,_,_,λi=>bs.getD i false,rfl,Walks.list (A:=X.A.in1) (I.ok.hd hc) _ p (Ys (Qp e)) c.toArray,
  ⟨⟨_,Qq _ rfl,rfl,rfl⟩,pl.isList.push _⟩,λi v s Q E f a=>by rw[Pn r' f];exact wpAny_truthy_bool a,λh' tk k=>?_⟩)
 refine⟨.bl (bs.any id),H,I.kept (t':=tk) λb o e=>k b o (by simpa using Ys (Qp e)) (Qo _ e),?_,q⟩;show Value.bool _=_;rw[Yn,<- hl,d9]
theorem eg{ns:List Int}{a:List Value}(r:Vals (ns.map V.int) a){v:Value}(e:a.toArray[i]?=some v):∃ t,v=.int (ns.getD i 0) t:=by
 have b:a[i]?=some v:=by simpa using e
 have hl:=r.length;rw[Yh]at hl;have hi:i < a.length:=(Qb.mp b).1;have d:ns[i]?=some (ns[i]'(by omega)):=Yp _;obtain⟨u,c,r1⟩:=r.get (i:=i) (x:=.int (ns[i]'(by omega))) (by rw[YS,d];rfl);rw[b]at c;cases c;rw[Qe,d];exact r1
theorem eh(hc:X.calm=true):CallR X (.builtin "sum") (λxs H Q=>∃(p:Addr)(ns:List Int),xs=[.ref p]/\SqL X.K H p (ns.map V.int)/\PyProof.Rows.SumFits ns/\Q (.int ns.sum) H):=by
 intro pins s σ H xs w Q I r h;obtain⟨p,ns,rfl,g,t,q⟩:=h;obtain⟨u,rfl,f⟩:=C6 r;cases f;obtain⟨c,r',pl,x⟩:=I.list g;have hl:=r'.length;rw[Yh]at hl;obtain⟨o,n,e,_⟩:=id pl
 refine call_sum_walk (wpAny_pyIter_list pl.isList ⟨s.heap.objs.size,_,_,_,_,_,λi=>ns.getD i 0,rfl,Walks.list (A:=X.A.in1) (I.ok.hd hc) _ p (Ys (Qp e)) c.toArray,
  ⟨⟨_,Qq _ rfl,rfl,rfl⟩,pl.isList.push _⟩,λb l=>?_,λi v m=>eg r' m,λj d=>?_,λh' tk t' k=>?_⟩)
 ·rw[Qr];rcases Yo.mp l with a | a
  ·rw[a];exact Nat.lt_succ_self _
  ·rw[YA.mp a];exact Nat.lt_succ_of_lt (Qp e)
 ·rw[Yn,<- hl]at d;have:=t j d;rw[preSum_getD];exact this
 ·refine⟨.int ns.sum,H,I.kept (t':=tk) λb o e=>k b o (by simpa using Ys (Qp e)) (Qo _ e),⟨t',?_⟩,q⟩;rw[Yn,<- hl,preSum_getD,List.take_length]
end
abbrev RWc:=List W->Hw->Kw->Prop
def RWc.M(r:RWc):Prop:=∀ ws G(Q Q':Kw),(∀ w G',Q w G'->Q' w G')->r ws G Q->r ws G Q'
def gB(r:RWc)(gs:GA):GE:=λω G Q=>gs ω G λws G1=>r ws G1 Q
variable {r:RWc}{gs:GA}
theorem Po(a:r.M)(b:gs.M):GE.M (gB r gs):=λω G Q e h q=>b _ _ _ _ (λd c z=>a _ _ _ _ h z) q
theorem Pp{r1:List V->Hp->VK->Prop}(g:r.M)(i:gs.M)(c:∀ a vs G H Q,TrL K H vs a->RelH K H G->r a G (dn K H Q)->r1 vs H Q)(σ:St)(H:Hp)(Q:VK)(h:up K (gB r gs) σ H Q):tCB r1 (upA K gs) σ H Q:=by
 obtain⟨ω,G,f,e,q⟩:=h;exact⟨ω,G,f,e,i _ _ _ _ (λa d z vs H1 m t b=>c a vs d H1 Q t b (g _ _ _ _ (λw j y=>Cs m y) z)) q⟩
section
variable {X:Cx} {x:Str} {p pos:Pos} {e:Expr} {es:List Expr} {gs:GA} {r:RWc} {r1:List V->Hp->VK->Prop} {id T:String}
theorem ej(hc:CallR X (.builtin id) r1)(d:r.M)(i:∀ f vs G H Q,TrL X.K H vs f->RelH X.K H G->r f G (dn X.K H Q)->r1 vs H Q)(h:Gl X x)(j:X.mg x=none)(l:bootBuiltins x=some (.builtin id))(k:x≠"__name__")(b:(x==("__debug__":Str))=false)
  (g:starEach (e::es) X.env=(false,eval e X.env)::starEach es X.env) (c:(backTo pos (starEach es X.env)).any (·.1)=false) (a:Am X (e::es) gs):Em X (.Call (.Name x p) (e::es) [] pos) (gB r gs):=
 ⟨AW (a5 hc h j l a.p k b g c) (Pp d a.m i),Po d a.m⟩
theorem eo(hc:CallR X (.type T) r1)(d:r.M)(i:∀ f vs G H Q,TrL X.K H vs f->RelH X.K H G->r f G (dn X.K H Q)->r1 vs H Q)(h:Gl X x)(j:X.mg x=none)(l:bootBuiltins x=some (.type T))(k:x≠"__name__")(b:(x==("__debug__":Str))=false)
  (g:starEach (e::es) X.env=(false,eval e X.env)::starEach es X.env) (c:(backTo pos (starEach es X.env)).any (·.1)=false) (a:Am X (e::es) gs):Em X (.Call (.Name x p) (e::es) [] pos) (gB r gs):=
 ⟨AW (a6 hc h j l a.p k b g c) (Pp d a.m i),Po d a.m⟩
end
def rF(f:List W->Hw->Option W):RWc:=λws G Q=>opt (f ws G) λw=>Q w G
theorem F6{f:List W->Hw->Option W}:RWc.M (rF f):=λa G Q b h q=>KB (λw z=>h _ _ z) q
def DT:List W->Option (List Bool)
 | []=>some []
 | .bl b::r=>(DT r).map (b::·)
 | _=>none
theorem KH:∀{a:List W}{bs:List Bool}{vs:List V},DT a=some bs->TrL K H vs a->vs=bs.map V.bl
 | [],bs,vs,e,t=>by cases e;cases t;rfl
 | w::a,bs,vs,e,t=>by
  cases t with
  | cons d t =>
   cases w with
   | bl b =>
    unfold DT at e;cases z:DT a with
    | none=>rw[z]at e;cases e
    | some c =>
     rw[z]at e;cases e;rw[Et d,KH z t];rfl
   | _=>cases e
def Ex:List W->Option (List Int)
 | []=>some []
 | .int b::r=>(Ex r).map (b::·)
 | _=>none
theorem Pt:∀{a:List W}{bs:List Int}{vs:List V},Ex a=some bs->TrL K H vs a->vs=bs.map V.int
 | [],bs,vs,e,t=>by cases e;cases t;rfl
 | w::a,bs,vs,e,t=>by
  cases t with
  | cons d t =>
   cases w with
   | int b =>
    unfold Ex at e;cases z:Ex a with
    | none=>rw[z]at e;cases e
    | some c =>
     rw[z]at e;cases e;rw[O3 d,Pt z t];rfl
   | _=>cases e
def CI(G:Hw)(w:W):Option (List W):=match w with
 | .ref a=>(match G a with | some (.lst xs)=>some xs | _=>none)
 | _=>none
theorem DU{xs:List W}(r:RelH K H G)(t:Tr K H v w)(e:CI G w=some xs):∃ a vs,v=.ref a/\w=.ref a/\G a=some (.lst xs)/\H a=some (.lst vs)/\TrL K H vs xs:=by
 cases t with
 | ref a =>
  unfold CI at e;dsimp only at e;cases z:G a with
  | none=>rw[z]at e;cases e
  | some o =>
   rw[z]at e;cases o with
   | lst ys=>cases e;obtain⟨vs,b,c⟩:=r a _ z;exact⟨a,vs,rfl,rfl,z,b,c⟩
   | exc C=>cases e
   | ins C fs=>cases e
   | dct d=>cases e
 | _=>cases e
def Bo(ws:List W)(G:Hw):Option W:=match ws with | [w]=>(CI G w).bind λxs=>(DT xs).map λbs=>.bl (bs.all id)| _=>none
def BM(ws:List W)(G:Hw):Option W:=match ws with | [w]=>(CI G w).bind λxs=>(DT xs).map λbs=>.bl (bs.any id)| _=>none
theorem er(b:List W)(vs:List V)(G:Hw)(H:Hp)(Q:VK)(t:TrL K H vs b)(r:RelH K H G)(q:rF Bo b G (dn K H Q)):∃(p:Addr)(bs:List Bool),vs=[.ref p]/\SqL K H p (bs.map V.bl)/\Q (.bl (bs.all id)) H:=by
 obtain⟨w,e,g⟩:=Cu q;unfold Bo at e;split at e
 ·rename_i m;cases t with
  | cons j t =>
   cases t;obtain⟨xs,d,i⟩:=Qg.mp e;obtain⟨bs,c,f⟩:=YU.mp i;obtain⟨a,l,rfl,rfl,_,k,h⟩:=DU r j d;subst f;have:=KH c h;subst this;exact⟨a,bs,rfl,SqL.of k,g _ H .refl (.bl _) r⟩
 ·cases e
theorem et(b:List W)(vs:List V)(G:Hw)(H:Hp)(Q:VK)(t:TrL K H vs b)(r:RelH K H G)(q:rF BM b G (dn K H Q)):∃(p:Addr)(bs:List Bool),vs=[.ref p]/\SqL K H p (bs.map V.bl)/\Q (.bl (bs.any id)) H:=by
 obtain⟨w,e,g⟩:=Cu q;unfold BM at e;split at e
 ·rename_i m;cases t with
  | cons j t =>
   cases t;obtain⟨xs,d,i⟩:=Qg.mp e;obtain⟨bs,c,f⟩:=YU.mp i;obtain⟨a,l,rfl,rfl,_,k,h⟩:=DU r j d;subst f;have:=KH c h;subst this;exact⟨a,bs,rfl,SqL.of k,g _ H .refl (.bl _) r⟩
 ·cases e
def DV:RWc:=λws G Q=>match ws with
 | [w]=>(match(CI G w).bind Ex with | some ns=>PyProof.Rows.SumFits ns/\Q (.int ns.sum) G | none=>False)
 | _=>False
theorem eu:RWc.M DV:=λa G Q b h q=>by
 unfold DV at q ⊢;split at q
 ·split at q
  ·exact⟨q.1,h _ _ q.2⟩
  ·exact q.elim
 ·exact q.elim
theorem eA(b:List W)(vs:List V)(G:Hw)(H:Hp)(Q:VK)(t:TrL K H vs b)(r:RelH K H G)(q:DV b G (dn K H Q)):∃(p:Addr)(ns:List Int),vs=[.ref p]/\SqL K H p (ns.map V.int)/\PyProof.Rows.SumFits ns/\Q (.int ns.sum) H:=by
 unfold DV at q;split at q
 ·rename_i j;split at q
  ·rename_i ns e;cases t with
   | cons g t =>
    cases t;obtain⟨xs,c,f⟩:=Qg.mp e;obtain⟨a,i,rfl,rfl,_,h,d⟩:=DU r g c;have:=Pt f d;subst this;exact⟨a,ns,rfl,SqL.of h,q.1,q.2 _ H .refl (.int _) r⟩
  ·exact q.elim
 ·exact q.elim
def BE(w:W)(G:Hw):Option W:=match w with
 | .tup xs=>some (.int xs.length)
 | .rol xs=>some (.int xs.length)
 | .str z=>if z.length<=sizeLine then some (.int z.length)else none
 | .ref a=>(match G a with | some (.lst xs)=>some (.int xs.length)| _=>none)
 | _=>none
def A0(ws:List W)(G:Hw):Option W:=match ws with | [w]=>BE w G | _=>none
theorem eB(c:List W)(vs:List V)(G:Hw)(H:Hp)(Q:VK)(t:TrL K H vs c)(r:RelH K H G)(q:rF A0 c G (dn K H Q)):∃ x n,vs=[x]/\Oi K x H n/\Q (.int n) H:=by
 obtain⟨w,e,b⟩:=Cu q;unfold A0 at e;split at e
 ·cases t with
  | cons j t =>
   cases t;cases j with
   | tup h l=>cases e;exact⟨_,_,rfl,.inr ⟨_,h,rfl⟩,by rw[l.length];exact b _ H .refl (.int _) r⟩
   | rol h l=>cases e;exact⟨_,_,rfl,.inl ⟨_,h.sq,rfl⟩,by rw[l.length];exact b _ H .refl (.int _) r⟩
   | str z =>
    unfold BE at e;dsimp only at e;split at e
    ·rename_i g;cases e;exact⟨_,_,rfl,⟨g,rfl⟩,b _ H .refl (.int _) r⟩
    ·cases e
   | ref a =>
    unfold BE at e;dsimp only at e;cases z:G a with
    | none=>rw[z]at e;cases e
    | some o =>
     rw[z]at e;cases o with
     | exc C=>cases e
     | ins C fs=>cases e
     | dct f=>cases e
     | lst xs =>
      cases e;obtain⟨k,d,i⟩:=r a _ z;exact⟨_,_,rfl,.inl ⟨_,SqL.of d,rfl⟩,by rw[i.length];exact b _ H .refl (.int _) r⟩
   | _=>cases e
 ·cases e
mutual
def eqD:W->W->Option Bool
 | .tup xs,.tup ys=>Bs xs ys
 | .non,.non=>some true
 | .bl a,.bl b=>some (a==b)
 | .bl a,.int b=>some ((if a then 1 else 0)==b)
 | .int a,.bl b=>some (a==(if b then 1 else 0))
 | .int a,.int b=>some (a==b)
 | .str a,.str b=>some (a==b)
 | .non,.int _=>some false
 | .int _,.non=>some false
 | .int _,.str _=>some false
 | .str _,.int _=>some false
 | .bl _,.str _=>some false
 | .str _,.bl _=>some false
 | .non,.str _=>some false
 | .str _,.non=>some false
 | .non,.bl _=>some false
 | .bl _,.non=>some false
 | .tup _,.str _=>some false
 | .str _,.tup _=>some false
 | .tup _,.bl _=>some false
 | .bl _,.tup _=>some false
 | .tup _,.int _=>some false
 | .int _,.tup _=>some false
 | _,_=>none
def Bs:List W->List W->Option Bool
 | [],[]=>some true
 | [],_::_=>some false
 | _::_,[]=>some false
 | x::xs,y::ys=>match eqD x y,Bs xs ys with
  | some a,some b=>some (a&&b)
  | _,_=>none
end
mutual
def dpW:W->Nat
 | .tup xs=>dpL xs+1
 | _=>0
def dpL:List W->Nat
 | []=>0
 | x::xs=>max (dpW x) (dpL xs)
end
def F7:W->Option V
 | .non=>some .non
 | .bl b=>some (.bl b)
 | .int i=>some (.int i)
 | .str x=>some (.str x)
 | _=>none
theorem Pu{f:V}(t:Tr K H v w)(e:F7 w=some f):v=f/\C7 v=true:=by
 cases t <;> first | cases e;exact⟨rfl,rfl⟩| cases e
theorem Ho:∀{xs ys:List W}{b:Bool},Bs xs ys=some b->∃ e:Nat->Bool,(∀(i:Nat)x y,xs[i]?=some x->ys[i]?=some y->eqD x y=some (e i))/\b=((List.range (min xs.length ys.length)).all e&&xs.length==ys.length)
 | [],[],b,h=>by
  cases(show some true=some b from h);exact⟨λ_=>true,λi x y h1 h2=>by simp at h1,by simp⟩
 | [],_::_,b,h=>by
  cases(show some false=some b from h);exact⟨λ_=>true,λi x y h1 h2=>by simp at h1,by simp⟩
 | _::_,[],b,h=>by
  cases(show some false=some b from h);exact⟨λ_=>true,λi x y h1 h2=>by simp at h2,by simp⟩
 | x::xs,y::ys,b,h=>by
  have h':(match eqD x y,Bs xs ys with | some a,some b=>some (a&&b)| _,_=>none)=some b:=by rw[<- h];rfl
  cases d:eqD x y with
  | none=>rw[d]at h';cases h'
  | some a =>
   cases g:Bs xs ys with
   | none=>rw[d,g]at h';cases h'
   | some c =>
    rw[d,g]at h';cases h';obtain⟨f,l,hc⟩:=Ho g;refine⟨λi=>match i with | 0=>a | j+1=>f j,λi n o h1 h2=>?_,?_⟩
    ·cases i with
     | zero=>simp at h1 h2;subst h1;subst h2;exact d
     | succ j=>exact l j n o (by simpa using h1) (by simpa using h2)
    ·have k:min (x::xs).length (y::ys).length=min xs.length ys.length+1:=by simp only[Yg];omega
     rw[k,List.range_succ_eq_map,List.all_cons,List.all_map,hc];have m:((x::xs).length==(y::ys).length)=(xs.length==ys.length):=by simp
     rw[m,Bool.and_assoc];rfl
theorem Pv:∀(xs:List W),(∀ x∈xs,eqD x x=some true\/eqD x x=none)->Bs xs xs=some true\/Bs xs xs=none
 | [],_=>.inl rfl
 | x::xs,h=>by
  have e:Bs (x::xs) (x::xs)=(match eqD x x,Bs xs xs with | some a,some b=>some (a&&b)| _,_=>none):=rfl;rw[e];rcases h x Ye with h1 | h1
  ·rcases Pv xs (λy c=>h y (Yd _ c))with h2 | h2
   ·rw[h1,h2];exact .inl rfl
   ·rw[h1,h2];exact .inr rfl
  ·rw[h1];exact .inr rfl
theorem Pw:∀(x:W),eqD x x=some true\/eqD x x=none
 | .non=>.inl rfl
 | .bl b=>.inl (by show some (b==b)=_;simp)
 | .int b=>.inl (by show some (b==b)=_;simp)
 | .str b=>.inl (by show some (b==b)=_;simp)
 | .tup xs=>Pv xs (λx _=>Pw x)
 | .rol _=>.inr rfl
 | .ref _=>.inr rfl
theorem Ey:∀{xs:List W}{x:W},x∈xs->dpW x<=dpL xs
 | y::xs,x,h=>by
  have e:dpL (y::xs)=max (dpW y) (dpL xs):=rfl;rw[e];walk_at "pk"
  ·exact Nat.le_max_left ..
  ·exact Yt (Ey h) (Nat.le_max_right ..)
theorem eD:∀(c:List W)(ys:List W)(vs:List V),(∀(v:V)(w y:W),w∈c->Tr K H v w->Tr K H v y->eqD w y≠none->w=y)->TrL K H vs c->TrL K H vs ys->Bs c ys≠none->c=ys:=by
 intro c;induction c with
 | nil =>
  intro ys vs _ l d _;cases l;cases d;rfl
 | cons w c i =>
  intro ys vs h l d f;cases l with
  | cons t l =>
   cases d with
   | @cons _ y _ ys t' d =>
    have e:Bs (w::c) (y::ys)=(match eqD w y,Bs c ys with | some a,some b=>some (a&&b)| _,_=>none):=rfl;have h1:eqD w y≠none:=λz=>f (by rw[e,z]);have h2:Bs c ys≠none:=λz=>f (by rw[e,z];cases eqD w y <;> rfl);rw[h _ w y Ye t t' h1,i ys _ (λv w y g=>h v w y (Yd _ g)) l d h2]
variable {pins:List (Addr×Obj)}{s:Shared}
theorem eE(I:Inv X pins σ H s)(n:Nat):∀(v:V)(w y:W),dpW w < n->Tr X.K H v w->Tr X.K H v y->eqD w y≠none->w=y:=by
 induction n with
 | zero=>intro v w y h;exact absurd h (Nat.not_lt_zero _)
 | succ n m =>
  intro v w y h o ty b;cases o with
  | tup i l =>
   rename_i a p f;generalize c:V.ref a=vr at ty;cases ty with
   | tup d g =>
    cases c;have e:=I.tuple_inj i d;subst e;have k:dpL f+1 < n+1:=h;rw[eD f _ _ (λv w y j=>m v w y (by have:=Ey j;omega)) l g b]
   | rol _ _=>exact absurd rfl b
   | ref _=>exact absurd rfl b
   | non=>cases c
   | bl _=>cases c
   | int _=>cases c
   | str _=>cases c
  | rol _ _=>exact absurd (by cases y <;> rfl) b
  | ref _=>exact absurd (by cases y <;> rfl) b
  | non=>cases ty;rfl
  | bl _=>cases ty;rfl
  | int _=>cases ty;rfl
  | str _=>cases ty;rfl
theorem Px(I:Inv X pins σ H s)(n:Nat):∀(w y:W)(v u:V)(B F:Value)(b:Bool)(A:Around),dpW w < n->Tr X.K H v w->Tr X.K H u y->RelV v B->RelV u F->eqD w y=some b->A.units+n < cLine->SeqAt.EqAt A s B F b:=by
 induction n with
 | zero=>intro w _ _ _ _ _ _ _ h;exact absurd h (Nat.not_lt_zero _)
 | succ n ih =>
  intro w y v u B F b A h T ty m k e hu;cases T with
  | tup i l =>
   cases ty with
   | tup q D =>
    rename_i a vs o O us ys;cases m;cases k;by_cases p:a=O
    ·subst p;have ew:=eE I (dpW (.tup o)+1) _ _ _ (Nat.lt_succ_self _) (.tup i l) (.tup q D) (by rw[e];simp);cases ew;rcases Pw (.tup o)with z | z
     ·rw[e]at z;cases z;exact SeqAt.EqAt.same _
     ·rw[e]at z;cases z
    ·obtain⟨d,r1,p1,_⟩:=I.tuple i;obtain⟨g,N,p2,_⟩:=I.tuple q;obtain⟨f,hf,Q⟩:=Ho (show Bs o ys=some b from e);have l1:=r1.length;have l2:=N.length;have l3:=l.length;have l4:=D.length;refine SeqAt.EqAt.of_refs p ?_;have key:=SeqAt.RcAt.tuples (A:=A) (s:=s) (e:=f) (show s.heap.IsTuple a d.toArray from p1) (show s.heap.IsTuple O g.toArray from p2) (by omega) (λj h1 h2=>?_)
     ·rw[Q];have U:d.toArray.size=o.length:=by rw[Yn];omega
      have e2:g.toArray.size=ys.length:=by rw[Yn];omega
      rw[U,e2]at key;exact key
     ·have G:j < o.length:=by rw[Yn]at h1;omega
      have P:j < ys.length:=by rw[Yn]at h2;omega
      obtain⟨v1,g1,Y⟩:=l.get (Yp G);obtain⟨v2,g2,S⟩:=D.get (Yp P);obtain⟨u1,g3,J⟩:=r1.get g1;obtain⟨R,g4,r⟩:=N.get g2
      have x:d.toArray[j]=u1:=by
       have z:d[j]?=some d[j]:=Yp (by omega);rw[g3]at z;have L:=YF z;rw[L];simp
      have E:g.toArray[j]=R:=by
       have z:g[j]?=some g[j]:=Yp (by omega);rw[g4]at z;have L:=YF z;rw[L];simp
      rw[x,E];have hd:dpW (o[j])<=dpL o:=Ey (Qk G);have Z:dpL o+1 < n+1:=h;exact ih _ _ _ _ _ _ _ A.in1 (by omega) Y S J r (hf j _ _ (Yp G) (Yp P)) (by show A.units+1+n < cLine;omega)
   | str _ =>
    cases e;cases m;obtain⟨t,rfl⟩:=k;obtain⟨d,r1,p1,_⟩:=I.tuple i;exact SeqAt.EqAt.tuple_str (A:=A) _ _ p1 (by omega)
   | bl _ =>
    cases e;cases m;cases k;obtain⟨d,r1,p1,_⟩:=I.tuple i;exact SeqAt.EqAt.tuple_bool _ p1 (by omega)
   | int _ =>
    cases e;cases m;obtain⟨t,rfl⟩:=k;obtain⟨d,r1,p1,_⟩:=I.tuple i;exact SeqAt.EqAt.tuple_int (A:=A) _ _ p1 (by omega)
   | _=>cases e
  | non=>cases ty <;> cases e <;> exact FX m k rfl rfl
  | bl c =>
   cases ty with
   | tup i l =>
    cases e;cases m;cases k;obtain⟨d,r1,p1,_⟩:=I.tuple i;exact SeqAt.EqAt.bool_tuple _ p1 (by omega)
   | _=>cases e <;> exact FX m k rfl rfl
  | int c =>
   cases ty with
   | tup i l =>
    cases e;cases k;obtain⟨t,rfl⟩:=m;obtain⟨d,r1,p1,_⟩:=I.tuple i;exact SeqAt.EqAt.int_tuple (A:=A) _ _ p1 (by omega)
   | _=>cases e <;> exact FX m k rfl rfl
  | str c =>
   cases ty with
   | tup i l =>
    cases e;cases k;obtain⟨t,rfl⟩:=m;obtain⟨d,r1,p1,_⟩:=I.tuple i;exact SeqAt.EqAt.str_tuple (A:=A) _ _ p1 (by omega)
   | _=>cases e <;> exact FX m k rfl rfl
  | rol _ _=>cases y <;> cases e
  | ref _=>cases y <;> cases e
def rSq(K:PySem.W.Frag)(neg:Bool):R2:=λv u H Q=>∃(a b:Addr)(vs us:List V)(ws ys:List W)(c:Bool),v=.ref a/\u=.ref b/\((SqT K H a vs/\SqT K H b us)\/(SqL K H a vs/\SqL K H b us))/\TrL K H vs ws/\TrL K H us ys/\dpL ws < 90/\Bs ws ys=some c/\Q (.bl (c != neg)) H
section
variable {X:Cx} {pins:List (Addr×Obj)} {σ:St} {H:Hp} {s:Shared}
theorem Hq(I:Inv X pins σ H s){A:Around}{us:List V}{b:List W}{a its':List Value}(r1:Vals vs a)(r2:Vals us its')(n:TrL X.K H vs b)(m:TrL X.K H us ys)(hd:dpL b < 90)(v:A.units+100 < cLine){f:Nat->Bool}
  (r:∀(i:Nat)x y,b[i]?=some x->ys[i]?=some y->eqD x y=some (f i)) (j:Nat) (h1:j < a.toArray.size) (h2:j < its'.toArray.size):SeqAt.EqAt A.in1 s a.toArray[j] its'.toArray[j] (f j):=by
 have u:=r1.length;have D:=r2.length;have B:=n.length;have t:=m.length;have k:j < b.length:=by rw[Yn]at h1;omega
 have o:j < ys.length:=by rw[Yn]at h2;omega
 obtain⟨E,g1,e⟩:=n.get (Yp k);obtain⟨w,g2,h⟩:=m.get (Yp o);obtain⟨q,g3,l⟩:=r1.get g1;obtain⟨p,g4,c⟩:=r2.get g2
 have d:a.toArray[j]=q:=by
  have z:a[j]?=some a[j]:=Yp (by omega);rw[g3]at z;rw[YF z];simp
 have g:its'.toArray[j]=p:=by
  have z:its'[j]?=some its'[j]:=Yp (by omega);rw[g4]at z;rw[YF z];simp
 rw[d,g];exact Px I 99 _ _ _ _ _ _ _ A.in1 (by have:=Ey (Qk k);omega) e h l c (r j _ _ (Yp k) (Yp o)) (by show A.units+1+99 < cLine;omega)
end
theorem eF(t:X.A.units+100 < cLine):OpR X (compareOp .Eq) (rSq X.K false):=by
 intro pins s σ H x y v u Q I E B h;obtain⟨a,b,L,G,p,ys,c,rfl,rfl,z,o,n,hd,e,q⟩:=h;cases E;cases B;obtain⟨f,w,m⟩:=Ho e;have N:=o.length;have J:=n.length;have j:∀ d:Bool,d=c->EP X pins σ Q (.bool d) s:=λd hd=>by subst hd;exact⟨.bl d,H,I,rfl,by simpa using q⟩
 rcases z with⟨h1,h2⟩|⟨h1,h2⟩
 ·obtain⟨i,r1,p1,_⟩:=I.tuple h1;obtain⟨g,k,p2,_⟩:=I.tuple h2;have D:=r1.length;have F:=k.length;refine SeqAt.eq_tupleAt (e:=f) (show s.heap.IsTuple a i.toArray from p1) (show s.heap.IsTuple b g.toArray from p2) (by omega) (Hq I r1 k o n hd t w) (j _ ?_);have l:i.toArray.size=p.length:=by rw[Yn];omega
  have r:g.toArray.size=ys.length:=by rw[Yn];omega
  rw[l,r,m]
 ·obtain⟨i,r1,p1,_⟩:=I.list h1;obtain⟨g,k,p2,_⟩:=I.list h2;have D:=r1.length;have F:=k.length;have l:i.toArray.size=p.length:=by rw[Yn];omega
  have r:g.toArray.size=ys.length:=by rw[Yn];omega
  by_cases hl:p.length=ys.length
  ·refine SeqAt.eq_listAt (e:=f) p1.isList p2.isList (by omega) (by omega) (Hq I r1 k o n hd t w) (j _ ?_);rw[l,m,hl];simp
  ·refine SeqAt.eq_list_lengthsAt p1.isList p2.isList (by rw[l,r];simpa using hl) (by omega) (j _ ?_);rw[m];simp[hl]
theorem eG(t:X.A.units+100 < cLine):OpR X (compareOp .NotEq) (rSq X.K true):=by
 intro pins s σ H x y v u Q I E B h;obtain⟨a,b,L,G,p,ys,c,rfl,rfl,z,o,n,hd,e,q⟩:=h;cases E;cases B;obtain⟨f,w,m⟩:=Ho e;have N:=o.length;have J:=n.length;have j:∀ d:Bool,d=!c->EP X pins σ Q (.bool d) s:=λd hd=>by subst hd;exact⟨.bl _,H,I,rfl,by simpa using q⟩
 rcases z with⟨h1,h2⟩|⟨h1,h2⟩
 ·obtain⟨i,r1,p1,_⟩:=I.tuple h1;obtain⟨g,k,p2,_⟩:=I.tuple h2;have D:=r1.length;have F:=k.length;refine SeqAt.RcNeAt.tuples (e:=f) (show s.heap.IsTuple a i.toArray from p1) (show s.heap.IsTuple b g.toArray from p2) (by omega) (Hq I r1 k o n hd t w) _ _ _ _ (j _ ?_);have l:i.toArray.size=p.length:=by rw[Yn];omega
  have r:g.toArray.size=ys.length:=by rw[Yn];omega
  rw[l,r,m]
 ·obtain⟨i,r1,p1,_⟩:=I.list h1;obtain⟨g,k,p2,_⟩:=I.list h2;have D:=r1.length;have F:=k.length;have l:i.toArray.size=p.length:=by rw[Yn];omega
  have r:g.toArray.size=ys.length:=by rw[Yn];omega
  by_cases hl:p.length=ys.length
  ·refine SeqAt.RcNeAt.lists (e:=f) p1.isList p2.isList (by omega) (by omega) (Hq I r1 k o n hd t w) _ _ _ _ (j _ ?_);rw[l,m,hl];simp
  ·refine SeqAt.RcNeAt.lists_lengths p1.isList p2.isList (by rw[l,r];simpa using hl) (by omega) _ _ _ _ (j _ ?_);rw[m];simp[hl]
def eqW(x y:W)(G:Hw):Option Bool:=match x,y with
 | .tup xs,.tup ys=>if dpL xs < 90 then Bs xs ys else none
 | .ref a,.ref b=>(match G a,G b with
  | some (.lst xs),some (.lst ys)=>if dpL xs < 90 then Bs xs ys else none
  | _,_=>none)
 | .int a,.int b=>some (a==b)
 | .bl a,.bl b=>some (a==b)
 | .str a,.str b=>some (a==b)
 | .non,.non=>some true
 | .int _,.non=>some false
 | .non,.int _=>some false
 | .int _,.str _=>some false
 | .str _,.int _=>some false
 | .bl _,.str _=>some false
 | .str _,.bl _=>some false
 | .non,.str _=>some false
 | .str _,.non=>some false
 | .non,.bl _=>some false
 | .bl _,.non=>some false
 | _,_=>none
def eqF(neg:Bool)(x y:W)(G:Hw):Option W:=(eqW x y G).map λc=>.bl (c != neg)
theorem eH(c:Bool):(c != true)=!c:=by cases c <;> rfl
theorem Py(f:Bool)(x y:W)(v u:V)(G:Hw)(H:Hp)(Q:VK)(z:Tr K H v x)(ty:Tr K H u y)(r:RelH K H G)(q:Ae (eqF f) x y G (dn K H Q)):(Er v u=true/\Q (.bl (decide (v=u) != f)) H)\/rSq K f v u H Q:=by
 obtain⟨w,e,F⟩:=Cu q;obtain⟨c,d,D⟩:=YU.mp e;subst D;have k:=F (.bl (c != f)) H .refl (.bl _) r;have g:∀{i j:V},decide (i=j)=c->Er i j=true->(Er i j=true/\Q (.bl (decide (i=j) != f)) H)\/rSq K f i j H Q:=λ{i j}h1 h2=>.inl ⟨h2,by rw[h1];exact k⟩;cases z with
 | tup o l =>
  cases ty with
  | tup m s =>
   unfold eqW at d;dsimp only at d;split at d
   ·rename_i hd;exact .inr ⟨_,_,_,_,_,_,c,rfl,rfl,.inl ⟨o,m⟩,l,s,hd,d,k⟩
   ·cases d
  | _=>cases d
 | ref a =>
  cases ty with
  | ref b =>
   unfold eqW at d;dsimp only at d;cases h:G a with
   | none=>rw[h]at d;cases d
   | some n =>
    cases eb:G b with
    | none=>rw[h,eb]at d;cases n <;> cases d
    | some A =>
     rw[h,eb]at d;cases n <;> cases A <;> try cases d
     dsimp only at d;split at d
     ·rename_i hd;obtain⟨J,E,B⟩:=r a _ h;obtain⟨I,t,p⟩:=r b _ eb;exact .inr ⟨_,_,_,_,_,_,c,rfl,rfl,.inr ⟨SqL.of E,SqL.of t⟩,B,p,hd,d,k⟩
     ·cases d
  | _=>cases d
 | rol _ _=>cases y <;> cases d
 | non=>cases ty <;> cases d <;> exact g (by simp) rfl
 | bl b=>cases ty <;> cases d <;> exact g (by first | exact J3 | simp) rfl
 | int b=>cases ty <;> cases d <;> exact g (by first | exact J2 | simp) rfl
 | str b=>cases ty <;> cases d <;> exact g (by first | exact J4 | simp) rfl
theorem eI(c:X.A.units+100 < cLine):OpR X (compareOp .Eq) (λx y H Q=>(Er x y=true/\Q (.bl (decide (x=y) != false)) H)\/rSq X.K false x y H Q):=by
 intro pins s σ H x y v u Q I a b h;rcases h with⟨h1,h2⟩| h
 ·exact az pins s σ H x y v u Q I a b ⟨h1,by simpa using h2⟩
 ·exact eF c pins s σ H x y v u Q I a b h
theorem eJ(c:X.A.units+100 < cLine):OpR X (compareOp .NotEq) (λx y H Q=>(Er x y=true/\Q (.bl (decide (x=y) != true)) H)\/rSq X.K true x y H Q):=by
 intro pins s σ H x y v u Q I a b h;rcases h with⟨h1,h2⟩| h
 ·exact aA pins s σ H x y v u Q I a b ⟨h1,by rw[<- eH];exact h2⟩
 ·exact eG c pins s σ H x y v u Q I a b h
section
variable {X:Cx} {a b c e:Expr} {es Av:List Expr} {pos pos' p:Pos} {ga gb gc:GE} {gt gu:GT} {gs:GA}
def Ez(G:Hw)(w:W):Option (List W):=match w with
 | .tup xs=>some xs
 | .rol xs=>some xs
 | .ref a=>(match G a with | some (.lst xs)=>some xs | _=>none)
 | _=>none
theorem KI{xs:List W}(r:RelH K H G)(t:Tr K H v w)(e:Ez G w=some xs):∃ a vs,v=.ref a/\(SqL K H a vs\/SqT K H a vs)/\TrL K H vs xs:=by
 cases t with
 | tup h l=>cases e;exact⟨_,_,rfl,.inr h,l⟩
 | rol h l=>cases e;exact⟨_,_,rfl,.inl h.sq,l⟩
 | ref a =>
  unfold Ez at e;dsimp only at e;cases z:G a with
  | none=>rw[z]at e;cases e
  | some o =>
   rw[z]at e;cases o with
   | lst ys=>cases e;obtain⟨vs,b,c⟩:=r a _ z;exact⟨a,vs,rfl,.inl (SqL.of b),c⟩
   | exc C=>cases e
   | ins C fs=>cases e
   | dct d=>cases e
 | _=>cases e
def EA:List W->Option (List V)
 | []=>some []
 | w::ws=>(F7 w).bind λv=>(EA ws).map (v::·)
theorem Pz:∀{a:List W}{vs us:List V},EA a=some us->TrL K H vs a->vs=us/\vs.all C7=true
 | [],vs,us,e,t=>by cases e;cases t;exact⟨rfl,rfl⟩
 | w::a,vs,us,e,t=>by
  cases t with
  | cons j t =>
   obtain⟨f,c,g⟩:=Qg.mp (show(F7 w).bind (λv=>(EA a).map (v::·))=some us from e);obtain⟨fs,b,d⟩:=YU.mp g;obtain⟨h1,h2⟩:=Pu j c;obtain⟨h,i⟩:=Pz b t;subst d;exact⟨by rw[h1,h],by rw[List.all_cons,h2,i];rfl⟩
def inF(neg:Bool)(x y:W)(G:Hw):Option W:=(F7 x).bind λv=>(Ez G y).bind λxs=>(EA xs).map λus=>.bl (if neg then !inV v us else inV v us)
theorem eK(b:Bool)(x y:W)(v u:V)(G:Hw)(H:Hp)(Q:VK)(i:Tr K H v x)(ty:Tr K H u y)(r:RelH K H G)(q:Ae (inF b) x y G (dn K H Q)):rIn K b v u H Q:=by
 obtain⟨w,e,k⟩:=Cu q;obtain⟨f,d,j⟩:=Qg.mp e;obtain⟨xs,c,g⟩:=Qg.mp j;obtain⟨s,p,m⟩:=YU.mp g;subst m;obtain⟨h1,h2⟩:=Pu i d;obtain⟨a,o,rfl,h,t⟩:=KI r ty c;obtain⟨l,n⟩:=Pz p t;subst h1;subst l;exact⟨a,o,rfl,h,h2,n,k _ H .refl (.bl _) r⟩
end
section
variable {X:Cx} {P:Hp->Prop} {a b c e o i:Expr} {sts:List Stmt} {pos pos':Pos} {ga gb gc gv go gi:GE} {gt:GT} {g:GS} {gs:GA}
def F8(gt:GT)(g:GS):GS:=λD ω G=>∃ W:Nat->Sw->Hw->Prop,(∃ m,W m ω G)/\∀ m ω G,W m ω G->
 gt ω G λb G1=>if b=true then g {nx:=λω' G'=>∃ m',m' < m/\W m' ω' G',rt:=D.rt,bk:=D.nx,ct:=λω' G'=>∃ m',m' < m/\W m' ω' G'} ω G1 else D.nx ω G1
theorem eL(mt:gt.M)(f:g.M):GS.M (F8 gt g):=λω G D k h1 h2 j i⟨W,e,a⟩=>⟨W,e,λm ω G w=>mt _ _ _ _ (λb h z=>by
 cases b with
 | true=>exact f _ _ {nx:=λω' d=>∃ c,c < m/\W c ω' d,rt:=D.rt,bk:=D.nx,ct:=λω' d=>∃ c,c < m/\W c ω' d} _ (λ_ _ y=>y) h2 h1 (λ_ _ y=>y) z
 | false=>exact h1 _ _ z) (a m ω G w)⟩
theorem eM(I:PassesOwn (model X.prog X.w) X.A X.env X.xe)(mt:gt.M)(E:g.M)(hc:PTw X c gt)(s:Dh X P sts g):PSw X P (.While c sts [] pos) (F8 gt g):=λB t=>
 CH (ai I hc (s B t)) <| by
  rintro D σ H ⟨ω,G,x,r,k,W,⟨v,u⟩,i⟩;refine⟨λm σ' H'=>Mono X.K B H'/\∃ ω' e,TrSt X.K H' σ' ω'/\RelH X.K H' e/\W m ω' e,⟨v,k,ω,G,x,r,u⟩,?_⟩;rintro m σ' H' ⟨p,ω',e,f,r',F⟩;refine⟨ω',e,f,r',mt _ _ _ _ (λb q z H1 j r1=>?_) (i m ω' e F)⟩;cases b with
  | true =>
   rw[if_pos rfl];refine⟨λσ2 H2=>∃ d,d < m/\Mono X.K B H2/\∃ ω2 o,TrSt X.K H2 σ2 ω2/\RelH X.K H2 o/\W d ω2 o,(by rintro σ2 H2 ⟨d,h1,h2⟩;exact⟨d,h1,h2⟩),ω',q,f.mono j,r1,p.trans j,?_⟩
   exact E _ _ {nx:=λω' e=>∃ d,d < m/\W d ω' e,rt:=(dnD X.K B D).rt,bk:=(dnD X.K B D).nx,ct:=λω' e=>∃ d,d < m/\W d ω' e} _
    ((by rintro a b ⟨d,h1,h2⟩ σ2 H2 n h l;exact⟨d,h1,n,a,b,h,l,h2⟩)) (λa b y=>y) (λa b y=>y) ((by rintro a b ⟨d,h1,h2⟩ σ2 H2 n h l;exact⟨d,h1,n,a,b,h,l,h2⟩)) z
  | false =>
   rw[if_neg YX];exact z σ' H1 (p.trans j) (f.mono j) r1
theorem KJ(b:PassesOwn (model X.prog X.w) X.A X.env X.xe)(hc:Tm X c gt)(a:Ssm X P sts g):Sm X P (.While c sts [] pos) (F8 gt g):=⟨eM b hc.m a.m hc.p a.p,eL hc.m a.m⟩
def Dk(ω:Sw)(i:Nat):Option W:=match ω[i]? with | some (some w)=>some w | _=>none
theorem eO(ts:TrSt K H σ ω)(e:Dk ω n=some w):∃ v,σ[n]?=some (some v)/\Tr K H v w:=by
 unfold Dk at e;split at e
 ·rename_i u z;cases e;exact ts.get n _ z
 ·cases e
def Bv(n:Nat)(r:RW2)(ga:GE):GS:=λD ω G=>opt (Dk ω n) λx=>ga ω G λy G1=>r x y G1 λz G2=>D.nx (ω.set n (some z)) G2
theorem eP{r:RW2}(b:r.M)(c:ga.M):GS.M (Bv n r ga):=λω G D f h1 _ _ _ q=>KB (λx q=>c _ _ _ _ (λy d z=>b _ _ _ _ _ (λw e a=>h1 _ _ a) z) q) q
theorem eQ{op:Operator}{r:RW2}{r2:R2}(p:OpR X (inplaceOp op) r2)(J:r.M)(E:∀(x y:W)(v u:V)(G:Hw)(H:Hp)(Q:VK),Tr X.K H v x->Tr X.K H u y->RelH X.K H G->r x y G (dn X.K H Q)->r2 v u H Q)
  (d:X.N.Nodup) (hi:X.N[n]?=some x) (l:Loc X.env.scope x) (L:X.fn x=true\/X.env.scope.names.lookup x=some .local) (O:ga.M) (F:PEw X e ga):PSw X P (.AugAssign (.Name x pos') op e pos) (Bv n r ga):=λB R=>
 CH (ag d hi l F (λpins s σ H x y v u Q I r1 r2 h=>p pins s σ H x y v u Q I r1 r2 h) L) <| by
  rintro D σ H ⟨ω,G,a,f,o,q⟩;obtain⟨w,j,q⟩:=Cu q;obtain⟨v,A,t⟩:=eO a j;refine⟨v,A,ω,G,a,f,O _ _ _ _ (λy c z u H1 m i r1=>?_) q⟩;exact E w y v u c H1 _ (t.mono m) i r1 (J _ _ _ _ _ (λU S k T H2 b g r2=>k _ H2 ((o.trans m).trans b) (((a.mono m).mono b).set n g) r2) z)
def Bw:RW2:=λx y G Q=>match x,y with
 | .int i,.int j=>Q (.int (i+j)) G
 | .str a,.str b=>a.length+b.length<=sizeLine/\Q (.str (a++b)) G
 | _,_=>False
theorem PB:RW2.M Bw:=λx y G Q a h q=>by
 cases x <;> cases y <;> first | exact q | exact h _ _ q | exact⟨q.1,h _ _ q.2⟩
theorem eR(x y:W)(v u:V)(G:Hw)(H:Hp)(Q:VK)(a:Tr K H v x)(ty:Tr K H u y)(r:RelH K H G)(q:Bw x y G (dn K H Q)):
  (rI0 λi j=>.int (i+j)) v u H Q\/(∃ i j,v=.str i/\u=.str j/\i.length+j.length<=sizeLine/\Q (.str (i++j)) H):=by
 cases a with
 | int i=>cases ty <;> first | exact q.elim | exact .inl ⟨_,_,rfl,rfl,q _ H .refl (.int _) r⟩
 | str i=>cases ty <;> first | exact q.elim | exact .inr ⟨_,_,rfl,rfl,q.1,q.2 _ H .refl (.str _) r⟩
 | _=>exact q.elim
def C9(o k v:W)(G:Hw)(Q:Hw->Prop):Prop:=match o,k with
 | .ref a,.int j=>(match G a with
  | some (.lst xs)=>(match ixN xs.length j with | some n=>Q (put G a (.lst (xs.set n v)))| none=>False)
  | _=>False)
 | _,_=>False
variable {Q:Hw->Prop}
theorem PC{o k v:W}(q:C9 o k v G Q):∃ a j xs n,o=.ref a/\k=.int j/\G a=some (.lst xs)/\ixN xs.length j=some n/\Q (put G a (.lst (xs.set n v))):=by
 unfold C9 at q;split at q
 ·split at q
  ·rename_i xs e;split at q
   ·rename_i n b;exact⟨_,_,xs,n,rfl,rfl,e,b,q⟩
   ·exact q.elim
  ·exact q.elim
 ·exact q.elim
theorem KM{v:W}{a:Addr}{j:Int}{xs:List W}(e:G a=some (.lst xs))(b:ixN xs.length j=some n)(q:Q (put G a (.lst (xs.set n v)))):C9 (.ref a) (.int j) v G Q:=by
 unfold C9;dsimp only;rw[e];dsimp only;rw[b];exact q
theorem eS{o k v:W}{b:Hw->Prop}(h:∀ G,Q G->b G)(q:C9 o k v G Q):C9 o k v G b:=by
 obtain⟨a,j,xs,n,rfl,rfl,e,c,q⟩:=PC q;exact KM e c (h _ q)
theorem eT{o k v:W}{x y u:V}{Pq:Hw->Prop}{R:Hp->Prop}(g:Tr K H x v)(ty:Tr K H y o)(i:Tr K H u k)(r:RelH K H G)(q:C9 o k v G Pq)(f:∀ d c,Mono K H c->RelH K c d->Pq d->R c):Oy y u x H R:=by
 obtain⟨a,j,xs,n,rfl,rfl,e,h,q⟩:=PC q;cases ty;cases i;obtain⟨l,b,t⟩:=r a _ e;exact⟨a,l,j,n,rfl,rfl,b,by rw[t.length];exact h,f _ _ (Mono.lst b _) (r.chg b (TrL.set g n t)) q⟩
def BF(gv go gi:GE):GS:=λD ω G=>gv ω G λv G1=>go ω G1 λo G2=>gi ω G2 λk G3=>C9 o k v G3 λG4=>D.nx ω G4
theorem eU(a:gv.M)(b:go.M)(c:gi.M):GS.M (BF gv go gi):=λω G D h h1 _ _ _ q=>
 a _ _ _ _ (λv f z=>b _ _ _ _ (λo g z=>c _ _ _ _ (λk d z=>eS (λe z=>h1 _ _ z) z) z) z) q
theorem eV(N:∀ v,assign (.Subscript o i pos') X.env v=(do
   let ov <- holding [v] (eval o X.env)
   let iv <- holding [v,ov] (eval i X.env)
   standAt pos'
   holding [v,ov,iv] (setItem ov iv v)
   release [v,ov,iv] [])) (t:swapsWithSole [.Subscript o i pos'] e pos.line X.env=pure false) (hw:swappedStores [.Subscript o i pos'] e X.env=pure none)
  (h1:(assignEach [.Subscript o i pos'] X.env).map (·.2)=[assign (.Subscript o i pos') X.env]) (g:Em X e gv) (f:Em X o go) (hi:Em X i gi):Sm X P (.Assign [.Subscript o i pos'] e pos) (BF gv go gi):=
 ⟨λB O=>CH (J1 g.p (N9 f.p hi.p bo N) t hw h1) λD σ H⟨ω,G,a,r,A,q⟩=>⟨ω,G,a,r,g.m _ _ _ _ (λv j z x H1 c w r1=>
  ⟨ω,j,a.mono c,r1,f.m _ _ _ _ (λR F s y H2 d ty E=>
   ⟨ω,F,(a.mono c).mono d,E,hi.m _ _ _ _ (λk T K u S b n l=>
    eT ((w.mono d).mono b) (ty.mono b) n l K (λQ J h L I=>I σ J ((((A.trans c).trans d).trans b).trans h) ((((a.mono c).mono d).mono b).mono h) L)) s⟩) z⟩) q⟩,eU g.m f.m hi.m⟩
abbrev GO:=Sw->Hw->(Option Int->Hw->Prop)->Prop
def GO.M(g:GO):Prop:=∀ ω G(Q Q':Option Int->Hw->Prop),(∀ w G',Q w G'->Q' w G')->g ω G Q->g ω G Q'
def dnO(K:PySem.W.Frag)(H:Hp)(Q:Option Int->Hp->Prop):Option Int->Hw->Prop:=λb G=>∀ H',Mono K H H'->RelH K H' G->Q b H'
def upO(K:PySem.W.Frag)(g:GO):TO:=λσ H Q=>∃ ω G,TrSt K H σ ω/\RelH K H G/\g ω G (dnO K H Q)
structure Om(X:Cx)(e:Option Expr)(g:GO):Prop where
 p:PO X e (upO X.K g)
 m:g.M
def A8:GO:=λ_ G Q=>Q none G
def A9(ga:GE):GO:=λω G Q=>ga ω G λw G1=>match w with | .int j=>Q (some j) G1 | _=>False
theorem eW:Om X none A8:=⟨(by rintro pins s σ H Q I ⟨ω,G,a,r,q⟩;exact bd pins s σ H Q I (q H .refl r)),λ_ _ _ _ h q=>h _ _ q⟩
theorem eX(h:Em X e ga):Om X (some e) (A9 ga):=⟨λpins s σ H Q I⟨ω,G,c,r,q⟩=>be h.p pins s σ H Q I ⟨ω,G,c,r,h.m _ _ _ _ (λw b z v H1 m t r1=>by
  cases w with
  | int j=>exact⟨j,O3 t,z H1 m r1⟩
  | _=>exact z.elim) q⟩,λω G Q d a q=>h.m _ _ _ _ (λw b z=>by cases w <;> first | exact a _ _ z | exact z) q⟩
def Cd{α:Type}(xs:List α)(lo hi:Option Int):List α:=(xs.drop (HT.sIx xs.length 0 lo)).take (HT.sIx xs.length xs.length hi - HT.sIx xs.length 0 lo)
def slW(w:W)(lo hi:Option Int)(G:Hw)(Q:Kw):Prop:=match w with
 | .tup xs=>¬ (HT.sIx xs.length 0 lo=0/\HT.sIx xs.length xs.length hi=xs.length)/\Q (.tup (Cd xs lo hi)) G
 | .rol xs=>∀ p,G p=none->Q (.ref p) (put G p (.lst (Cd xs lo hi)))
 | .ref a=>(match G a with | some (.lst xs)=>∀ p,G p=none->Q (.ref p) (put G p (.lst (Cd xs lo hi)))| _=>False)
 | _=>False
variable {lo hi:Option Int}
theorem Hr{Q d:Kw}(h:∀ w c,Q w c->d w c)(q:slW w lo hi G Q):slW w lo hi G d:=by
 cases w with
 | tup xs=>exact⟨q.1,h _ _ q.2⟩
 | rol xs=>exact λp b=>h _ _ (q p b)
 | ref a =>
  unfold slW at q ⊢;dsimp only at q ⊢;cases e:G a with
  | none=>rw[e]at q;exact q.elim
  | some g =>
   rw[e]at q;cases g with
   | lst xs=>exact λp b=>h _ _ (q p b)
   | exc C=>exact q.elim
   | ins C fs=>exact q.elim
   | dct f=>exact q.elim
 | _=>exact q.elim
theorem TrL.cut{a:List W}(t:TrL K H vs a)(lo hi:Option Int):TrL K H (DN vs lo hi) (Cd a lo hi):=by
 unfold DN Cd;rw[t.length];exact(t.drop _).take _
theorem Hs{Q:VK}(t:Tr K H v w)(r:RelH K H G)(q:slW w lo hi G (dn K H Q)):Kb K v lo hi H Q\/Ki K v lo hi H Q:=by
 cases t with
 | tup h l =>
  refine .inl ⟨_,_,rfl,h,by rw[l.length];exact q.1,λp b=>?_⟩;exact q.2 _ _ (Mono.new b _) (.tup (SqT.of B0) ((l.cut lo hi).mono (Mono.new b _))) (r.mono0 b)
 | rol h l=>exact .inr ⟨_,_,rfl,h.sq,λp b=>q p (r.no b) _ _ (Mono.new b _) (.ref p) (r.new b (l.cut lo hi))⟩
 | ref a =>
  unfold slW at q;dsimp only at q;cases e:G a with
  | none=>rw[e]at q;exact q.elim
  | some f =>
   rw[e]at q;cases f with
   | lst xs =>
    obtain⟨g,c,l⟩:=r a _ e;exact .inr ⟨_,_,rfl,SqL.of c,λp b=>q p (r.no b) _ _ (Mono.new b _) (.ref p) (r.new b (l.cut lo hi))⟩
   | exc C=>exact q.elim
   | ins C fs=>exact q.elim
   | dct d=>exact q.elim
 | _=>exact q.elim
def gSl(ga:GE)(gl gh:GO):GE:=λω G Q=>ga ω G λw G1=>gl ω G1 λlo G2=>gh ω G2 λhi G3=>slW w lo hi G3 Q
theorem eY{lo hi:Option Expr}{j n:GO}(c:Em X e ga)(hl:Om X lo j)(f:Om X hi n):Em X (.Subscript e (.Slice lo hi none p2) pos) (gSl ga j n):=
 ⟨AW (Ou (SlR.or Ow Oz) c.p hl.p f.p) λσ H Q⟨ω,G,g,r,q⟩=>⟨ω,G,g,r,c.m _ _ _ _ (λw k z v H1 d t r1=>⟨ω,k,g.mono d,r1,hl.m _ _ _ _ (λl s a H2 i y=>
   ⟨ω,s,(g.mono d).mono i,y,f.m _ _ _ _ (λh x b D o A=>Hs ((t.mono i).mono o) A (Hr (λw B z=>Cs ((d.trans i).trans o) z) b)) a⟩) z⟩) q⟩,
  λω G Q E h q=>c.m _ _ _ _ (λw k z=>hl.m _ _ _ _ (λl s a=>f.m _ _ _ _ (λu x b=>Hr h b) a) z) q⟩
end
abbrev UpW(K:PySem.W.Frag)(r:RW2)(r2:R2):Prop:=∀(x y:W)(v u:V)(G:Hw)(H:Hp)(Q:VK),Tr K H v x->Tr K H u y->RelH K H G->r x y G (dn K H Q)->r2 v u H Q
structure Cop(X:Cx)(op:CmpOp)(r:RW2):Prop where
 ex:∃ r2,OpR X (compareOp op) r2/\UpW X.K r r2
 m:r.M
def As(a b:Str):Bool:=decide (a.cps.toList < b.cps.toList)
def AH(f:Int->Int->Bool)(g:Str->Str->Bool):RW2:=λx y G Q=>match x,y with
 | .int i,.int j=>Q (.bl (f i j)) G
 | .str i,.str j=>Q (.bl (g i j)) G
 | _,_=>False
variable {g:Str->Str->Bool}
theorem PD:RW2.M (AH f g):=λx y G Q a h q=>by
 cases x <;> cases y <;> first | exact q | exact h _ _ q
theorem PH:UpW K (AH f g) (λx y H Q=>rI0 (λi j=>.bl (f i j)) x y H Q\/∃ i j,x=.str i/\y=.str j/\Q (.bl (g i j)) H):=λx y v u G H Q a ty r q=>by
 cases a with
 | int i=>cases ty <;> first | exact q.elim | exact .inl ⟨_,_,rfl,rfl,q _ H .refl (.bl _) r⟩
 | str i=>cases ty <;> first | exact q.elim | exact .inr ⟨_,_,rfl,rfl,q _ H .refl (.bl _) r⟩
 | _=>exact q.elim
theorem eZ:OpR X (compareOp .LtE) (λx y H Q=>∃ i j,x=.str i/\y=.str j/\Q (.bl (!As j i)) H):=by
 intro pins s σ H x y v u Q I a b h;obtain⟨i,j,rfl,rfl,q⟩:=h;obtain⟨t,rfl⟩:=a;obtain⟨t',rfl⟩:=b;exact PySem.P.le_str ⟨.bl _,H,I,rfl,q⟩
theorem e6:Cop X .Lt (AH (λi j=>decide (i < j)) As):=⟨⟨_,OpR.or aB aF,PH⟩,PD⟩
theorem e7:Cop X .LtE (AH (λi j=>decide (i<=j)) (λa b=>!As b a)):=⟨⟨_,OpR.or aC eZ,PH⟩,PD⟩
theorem e8:Cop X .Gt (AM λi j=>decide (j < i)):=⟨⟨_,aD,Pf⟩,Pe⟩
theorem e9:Cop X .GtE (AM λi j=>decide (j<=i)):=⟨⟨_,aE,Pf⟩,Pe⟩
theorem fe(a:X.A.units+100 < cLine):Cop X .Eq (Ae (eqF false)):=⟨⟨_,eI a,Py false⟩,CZ⟩
theorem ff(a:X.A.units+100 < cLine):Cop X .NotEq (Ae (eqF true)):=⟨⟨_,eJ a,Py true⟩,CZ⟩
theorem fg:Cop X .In (Ae (inF false)):=⟨⟨_,br,eK false⟩,CZ⟩
section
variable {X:Cx} {op op':CmpOp} {r r':RW2} {a b c e:Expr} {es:List Expr} {pos:Pos} {ga gb gc:GE}
theorem fh(C:Cop X op r)(e:behindInMarks op b=false)(c:Em X a ga)(d:Em X b gb):Em X (.Compare a [op] [b] pos) (Ad r ga gb):=
 let⟨_,h1,h2⟩:=C.ex
 ⟨cr h1 C.m c.m d.m h2 c.p d.p e,Ct C.m c.m d.m⟩
theorem fi(C:Cop X op r)(e:behindInMarks op b=false)(c:Em X a ga)(d:Em X b gb):Tm X (.Compare a [op] [b] pos) (gTB (Ad r ga gb)):=
 let⟨_,h1,h2⟩:=C.ex
 ⟨cO h1 C.m c.m d.m h2 c.p d.p e,O2 (Ct C.m c.m d.m)⟩
def Bt(r r':RW2)(ga gb gc:GE):GE:=λω G Q=>ga ω G λx G1=>gb ω G1 λy G2=>r x y G2 λz G3=>match z with
 | .bl k=>if k=true then gc ω G3 λw G4=>r' y w G4 Q else Q (.bl false) G3
 | _=>False
theorem KN(d:r.M)(a:r'.M)(f:ga.M)(c:gb.M)(e:gc.M):GE.M (Bt r r' ga gb gc):=λω G Q m h q=>
 f _ _ _ _ (λx i z=>c _ _ _ _ (λy j z=>d _ _ _ _ _ (λb g z=>by
  cases b with
  | bl k =>
   cases k with
   | true=>exact e _ _ _ _ (λw l z=>a _ _ _ _ _ h z) z
   | false=>exact h _ _ z
  | _=>exact z) z) z) q
theorem PJ{r2 a:R2}(u:UpW K r r2)(o:UpW K r' a)(O:r.M)(g:r'.M)(S:ga.M)(A:gb.M)(R:gc.M)(σ:St)(H:Hp)(Q:VK)(h:up K (Bt r r' ga gb gc) σ H Q):J5 r2 a (up K ga) (up K gb) (up K gc) σ H Q:=by
 obtain⟨ω,G,e,n,q⟩:=h;refine⟨ω,G,e,n,S _ _ _ _ (λx m N v H1 c z r1=>⟨ω,m,e.mono c,r1,A _ _ _ _ (λy B t l H2 d ty r2=>?_) N⟩) q⟩;refine u x y v l B H2 _ (z.mono d) ty r2 (O _ _ _ _ _ (λk J f U I b tk j=>?_) t);cases k with
 | bl k =>
  refine⟨k,Et tk,?_⟩;cases k with
  | true =>
   rw[if_pos rfl];refine⟨ω,J,((e.mono c).mono d).mono b,j,R _ _ _ _ (λw E P D F i p L=>?_) f⟩;exact o y w l D E F Q ((ty.mono b).mono i) p L (g _ _ _ _ _ (λT X s=>Cs (((c.trans d).trans b).trans i) s) P)
  | false =>
   rw[if_neg YX];exact f _ I ((c.trans d).trans b) (.bl false) j
 | _=>exact f.elim
theorem fj(C:Cop X op r)(f:Cop X op' r')(g:lastMarks [op,op'] [b,c]=false)(d:Em X a ga)(e:Em X b gb)(hc:Em X c gc):Em X (.Compare a [op,op'] [b,c] pos) (Bt r r' ga gb gc):=
 let⟨_,h1,h2⟩:=C.ex
 let⟨_,h3,h4⟩:=f.ex
 ⟨AW (aK h1 h3 d.p e.p hc.p g) (PJ h2 h4 C.m f.m d.m e.m hc.m),KN C.m f.m d.m e.m hc.m⟩
theorem fk(C:Cop X op r)(f:Cop X op' r')(g:lastMarks [op,op'] [b,c]=false)(d:Em X a ga)(e:Em X b gb)(hc:Em X c gc):Tm X (.Compare a [op,op'] [b,c] pos) (gTB (Bt r r' ga gb gc)):=
 let⟨_,h1,h2⟩:=C.ex
 let⟨_,h3,h4⟩:=f.ex
 ⟨Hg (aL h1 h3 d.p e.p hc.p g) λσ H Q z=>PJ h2 h4 C.m f.m d.m e.m hc.m σ H _ (O5 (KN C.m f.m d.m e.m hc.m) z),O2 (KN C.m f.m d.m e.m hc.m)⟩
end
abbrev UpC(K:PySem.W.Frag)(r:RWc)(r1:List V->Hp->VK->Prop):Prop:=∀ ws vs G H Q,TrL K H vs ws->RelH K H G->r ws G (dn K H Q)->r1 vs H Q
structure Blt(X:Cx)(f:Value)(r:RWc):Prop where
 ex:∃ r1,CallR X f r1/\UpC X.K r r1
 m:r.M
section
variable {X:Cx} {x:Str} {p pos:Pos} {e:Expr} {es:List Expr} {gs:GA} {r:RWc} {id T:String}
theorem Ce(i:bootBuiltins x=some (.builtin id))(B:Blt X (.builtin id) r)(d:Gl X x)(h:X.mg x=none)(g:x≠"__name__")(a:(x==("__debug__":Str))=false)
  (c:starEach (e::es) X.env=(false,eval e X.env)::starEach es X.env) (b:(backTo pos (starEach es X.env)).any (·.1)=false) (f:Am X (e::es) gs):Em X (.Call (.Name x p) (e::es) [] pos) (gB r gs):=
 let⟨_,h1,h2⟩:=B.ex
 ej h1 B.m h2 d h i g a c b f
theorem Dl(i:bootBuiltins x=some (.type T))(B:Blt X (.type T) r)(d:Gl X x)(h:X.mg x=none)(g:x≠"__name__")(a:(x==("__debug__":Str))=false)
  (c:starEach (e::es) X.env=(false,eval e X.env)::starEach es X.env) (b:(backTo pos (starEach es X.env)).any (·.1)=false) (f:Am X (e::es) gs):Em X (.Call (.Name x p) (e::es) [] pos) (gB r gs):=
 let⟨_,h1,h2⟩:=B.ex
 eo h1 B.m h2 d h i g a c b f
end
theorem PK:Blt X (.builtin "len") (rF A0):=⟨⟨_,aS,eB⟩,F6⟩
theorem EB(hc:X.calm=true):Blt X (.builtin "all") (rF Bo):=⟨⟨_,ea hc,er⟩,F6⟩
theorem PL(hc:X.calm=true):Blt X (.builtin "any") (rF BM):=⟨⟨_,ef hc,et⟩,F6⟩
theorem PM(hc:X.calm=true):Blt X (.builtin "sum") DV:=⟨⟨_,eh hc,eA⟩,eu⟩
def E9:RWc:=λws G Q=>match ws with
 | [w]=>(match Ez G w with | some xs=>∀ p,G p=none->Q (.ref p) (put G p (.lst xs))| none=>False)
 | _=>False
theorem fq:RWc.M E9:=λb G Q c h q=>by
 unfold E9 at q ⊢;split at q
 ·split at q
  ·exact λp a=>h _ _ (q p a)
  ·exact q.elim
 ·exact q.elim
theorem fu:UpC K E9 (λxs H Q=>∃ p ys,xs=[.ref p]/\(SqL K H p ys\/SqT K H p ys)/\∀ l,H l=none->Q (.ref l) (upd H l (.lst ys))):=λh i G H Q t r q=>by
 unfold E9 at q;split at q
 ·rename_i g;split at q
  ·rename_i xs e;cases t with
   | cons f t =>
    cases t;obtain⟨a,d,rfl,c,l⟩:=KI r f e;exact⟨a,d,rfl,c,λp b=>q p (r.no b) _ _ (Mono.new b _) (.ref p) (r.new b l)⟩
  ·exact q.elim
 ·exact q.elim
theorem fv:Blt X (.type "list") E9:=⟨⟨_,bu,fu⟩,fq⟩
def AI(ws:List W)(G:Hw):Option W:=match ws with | [w]=>(Ez G w).map W.tup | _=>none
theorem fw:UpC K (rF AI) (λxs H Q=>∃ p ys,xs=[.ref p]/\((SqL K H p ys/\∀ l,H l=none->Q (.ref l) (upd H l (.tup ys)))\/(SqT K H p ys/\Q (.ref p) H))):=λj k G H Q t r q=>by
 obtain⟨w,e,f⟩:=Cu q;unfold AI at e;split at e
 ·obtain⟨xs,g,h⟩:=YU.mp e;subst h;cases t with
  | cons i t =>
   cases t;obtain⟨a,d,rfl,b,l⟩:=KI r i g;rcases b with b | b
   ·exact⟨a,d,rfl,.inl ⟨b,λp c=>f _ _ (Mono.new c _) (.tup (SqT.of B0) (l.mono (Mono.new c _))) (r.mono0 c)⟩⟩
   ·exact⟨a,d,rfl,.inr ⟨b,f _ H .refl (.tup b l) r⟩⟩
 ·cases e
theorem F9:Blt X (.type "tuple") (rF AI):=⟨⟨_,bv,fw⟩,F6⟩
def Cw(ws:List W)(_:Hw):Option W:=match ws with | [.int i]=>some (.int i)| [.bl k]=>some (.int (if k then 1 else 0))| _=>none
theorem fx:UpC K (rF Cw) (λxs H Q=>(∃ i,xs=[.int i]/\Q (.int i) H)\/∃ k,xs=[.bl k]/\Q (.int (if k then 1 else 0)) H):=λc d G H Q t r q=>by
 obtain⟨w,e,b⟩:=Cu q;unfold Cw at e;split at e
 ·cases e;cases t with
  | cons a t=>cases t;cases a;exact .inl ⟨_,rfl,b _ H .refl (.int _) r⟩
 ·cases e;cases t with
  | cons a t=>cases t;cases a;exact .inr ⟨_,rfl,b _ H .refl (.int _) r⟩
 ·cases e
theorem fy:Blt X (.type "int") (rF Cw):=⟨⟨_,aR,fx⟩,F6⟩
structure Mth(X:Cx)(T:String)(name:Str)(id:String)(pre:W->Hw->Prop)(r:W->List W->Hw->Kw->Prop):Prop where
 pa:PlainAttrs T
 slot:Slot T name id
 ty:typeOf (.builtin id)=pure (.type "method_descriptor")
 ex:∃ r2,MtR X id r2/\∀(o:W)(ws:List W)(v:V)(vs:List V)(G:Hw)(H:Hp)(Q:VK),Tr X.K H v o->TrL X.K H vs ws->RelH X.K H G->r o ws G (dn X.K H Q)->r2 v vs H Q
 pr:∀(o:W)(v:V)(G:Hw)(H:Hp),Tr X.K H v o->RelH X.K H G->pre o G->tyV X.K T v H
 m:∀ o ws G(Q Q':Kw),(∀ w G',Q w G'->Q' w G')->r o ws G Q->r o ws G Q'
def gMt(pre:W->Hw->Prop)(r:W->List W->Hw->Kw->Prop)(go:GE)(gs:GA):GE:=λω G Q=>go ω G λo G1=>pre o G1/\gs ω G1 λws G2=>r o ws G2 Q
section
variable {X:Cx} {o e:Expr} {es:List Expr} {go:GE} {gs:GA} {name:Str} {apos cpos:Pos} {T id:String} {pre:W->Hw->Prop} {r:W->List W->Hw->Kw->Prop}
theorem Ga(M:Mth X T name id pre r)(a:attributeBase o name X.env (eval o X.env)=eval o X.env)
  (c:((backTo cpos (starEach (e::es) X.env)).all (λx=>!x.1)&&(backToKw cpos (keywordEach [] X.env)).all (λx=>x.1.isSome)&&decide ((e::es).length+([]:List Keyword).length+(if([]:List Keyword).isEmpty then 0 else 1) < 30))=true)
  (b:(apos.endLine==cpos.line)=true) (B:starEach (e::es) X.env=(false,eval e X.env)::starEach es X.env) (hplain:(backTo cpos (starEach es X.env)).any (·.1)=false) (g:Em X o go) (k:Am X (e::es) gs):
  Em X (.Call (.Attribute o name apos) (e::es) [] cpos) (gMt pre r go gs):=
 let⟨_,h1,h2⟩:=M.ex
 ⟨AW (bx M.pa M.slot M.ty h1 g.p k.p a c b B hplain) λσ H Q⟨ω,G,l,A,q⟩=>⟨ω,G,l,A,g.m _ _ _ _ (λi d z v H1 t tv r1=>⟨M.pr i v d H1 tv r1 z.1,
   ω,d,l.mono t,r1,k.m _ _ _ _ (λs n f E H2 u j D=>h2 i s v E n H2 Q (tv.mono u) j D (M.m _ _ _ _ _ (λw I y=>Cs (t.trans u) y) f)) z.2⟩) q⟩,
  λω G Q F h q=>g.m _ _ _ _ (λi d z=>⟨z.1,k.m _ _ _ _ (λs n f=>M.m _ _ _ _ _ h f) z.2⟩) q⟩
end
def BU(o:W)(G:Hw):Prop:=∃ xs,CI G o=some xs
theorem PN{o:W}(t:Tr K H v o)(r:RelH K H G)(h:BU o G):tyV K "list" v H:=by
 obtain⟨xs,e⟩:=h;obtain⟨a,c,rfl,_,_,b,_⟩:=DU r t e;exact .inl ⟨rfl,_,SqL.of b⟩
def DW(o:W)(G:Hw)(f:List W->Option (List W))(Q:Kw):Prop:=match o with
 | .ref a=>(match G a with | some (.lst xs)=>(match f xs with | some ys=>Q .non (put G a (.lst ys))| none=>False)| _=>False)
 | _=>False
variable {Q:Kw}
theorem KO{o:W}{f:List W->Option (List W)}(q:DW o G f Q):∃ a xs ys,o=.ref a/\G a=some (.lst xs)/\f xs=some ys/\Q .non (put G a (.lst ys)):=by
 unfold DW at q;split at q
 ·split at q
  ·rename_i xs e;split at q
   ·rename_i ys b;exact⟨_,xs,ys,rfl,e,b,q⟩
   ·exact q.elim
  ·exact q.elim
 ·exact q.elim
theorem KP{f:List W->Option (List W)}{xs:List W}(e:G a=some (.lst xs))(b:f xs=some ys)(q:Q .non (put G a (.lst ys))):DW (.ref a) G f Q:=by
 unfold DW;dsimp only;rw[e];dsimp only;rw[b];exact q
theorem PP{o:W}{f:List W->Option (List W)}{c:Kw}(h:∀ w b,Q w b->c w b)(q:DW o G f Q):DW o G f c:=by
 obtain⟨a,xs,ys,rfl,e,d,q⟩:=KO q;exact KP e d (h _ _ q)
def CJ(o:W)(ws:List W)(G:Hw)(Q:Kw):Prop:=match ws with
 | [y]=>DW o G (λxs=>if xs.length < sizeLine then some (xs++[y])else none) Q
 | _=>False
theorem fz:Mth X "list" "append" "list.append" BU CJ where
 pa:=PySem.F.plainAttrs_list
 slot:=PySem.F.slot_list_append
 ty:=PySem.F.type_list_append
 ex:=⟨_,bA,λo i v k G H Q tv d r q=>by
  unfold CJ at q;split at q
  ·obtain⟨a,xs,ys,rfl,e,f,q⟩:=KO q;split at f
   ·rename_i b;cases f;cases tv;cases d with
    | cons ty t =>
     cases t;obtain⟨g,c,l⟩:=r a _ e;exact⟨a,g,_,rfl,rfl,c,by rw[l.length];exact b,q _ _ (Mono.lst c _) .non (r.chg c (l.append (.cons ty .nil)))⟩
   ·cases f
  ·exact q.elim⟩
 pr:=λo v G H t r h=>PN t r h
 m:=λo i G Q j h q=>by
  unfold CJ at q ⊢;split at q
  ·exact PP h q
  ·exact q.elim
def C1(o:W)(ws:List W)(G:Hw)(Q:Kw):Prop:=match ws with
 | [y]=>DW o G (λxs=>(CI G y).bind λzs=>if xs.length+zs.length<=sizeLine then some (xs++zs)else none) Q
 | _=>False
theorem KR:Mth X "list" "extend" "list.extend" BU C1 where
 pa:=PySem.F.plainAttrs_list
 slot:=PySem.F.slot_list_extend
 ty:=PySem.F.type_list_extend
 ex:=⟨_,bC,λo p v x G H Q tv i r q=>by
  unfold C1 at q;split at q
  ·obtain⟨a,xs,ys,rfl,e,s,q⟩:=KO q;obtain⟨zs,k,f⟩:=Qg.mp s;split at f
   ·rename_i c;cases f;cases tv;cases i with
    | cons ty t =>
     cases t;obtain⟨n,d,l⟩:=r a _ e;obtain⟨b,g,rfl,_,_,u,j⟩:=DU r ty k;exact⟨a,b,n,g,rfl,rfl,d,u,by rw[l.length,j.length];exact c,q _ _ (Mono.lst d _) .non (r.chg d (l.append j))⟩
   ·cases f
  ·exact q.elim⟩
 pr:=λo v G H t r h=>PN t r h
 m:=λo p G Q w h q=>by
  unfold C1 at q ⊢;split at q
  ·exact PP h q
  ·exact q.elim
def KS(C:Addr)(E:Addr->Hw->Prop)(gs:GA):GS:=λ_ ω G=>gs ω G λws G1=>ws.length<=sizeLine/\E C G1
section
variable {P:Program} {w:World} {mg:Str->Option Value} {base:Heap} {N:List Str} {qual:Str} {scope:Scope} {f:Addr} {cd:Value} {A:Around} {outer:List Env} {s:Shared} {E:XK} {Pb:Hp->Prop}
theorem fA{C:Addr}{B b initId:String}{bm:List Value}{e cpos:Pos}{a:Expr}{Av:List Expr}(k:mg x=some (.ref C))(q:PySem.W.excIn K C bm b=true)(FB:ExcBaseFacts B b initId bm)
  (j:Gl (cxW P w K mg base N qual scope f cd A outer s H E) x)
  (g:starEach (a::Av) (cxW P w K mg base N qual scope f cd A outer s H E).env=(false,eval a (cxW P w K mg base N qual scope f cd A outer s H E).env)::starEach Av (cxW P w K mg base N qual scope f cd A outer s H E).env)
  (hplain:(backTo cpos (starEach Av (cxW P w K mg base N qual scope f cd A outer s H E).env)).any (·.1)=false) (hd:(x==("__debug__":Str))=false) (c:Am (cxW P w K mg base N qual scope f cd A outer s H E) (a::Av) gs):
  Sm (cxW P w K mg base N qual scope f cd A outer s H E) Pb (.Raise (some (.Call (.Name x e) (a::Av) [] cpos)) none pos) (KS C (dnX K H E) gs):=by
 refine⟨λy d pins i σ Hc D I h=>?_,λω G D J _ _ _ _ q=>q⟩;obtain⟨ω,G,n,r,v,o⟩:=h;exact cc j k q FB c.p g hplain hd pins i σ Hc D I ⟨ω,G,n,r,c.m _ _ _ _ (λF u z L H1 l t r1=>⟨by rw[t.length];exact z.1,z.2 H1 ((Un.mono' I.base).trans l) r1⟩) o⟩
end
structure KU(D D':Ew):Prop where
 nx:∀ a b,D.nx a b->D'.nx a b
 rt:∀ a b,D.rt a b->D'.rt a b
 bk:∀ a b,D.bk a b->D'.bk a b
 ct:∀ a b,D.ct a b->D'.ct a b
theorem GS.M.le{g:GS}(m:g.M){a:Ew}(h:KU D a)(q:g D ω G):g a ω G:=m ω G D a h.nx h.rt h.bk h.ct q
section
variable {X:Cx} {e:Expr} {es:List Expr} {pos p:Pos} {gs:GA}
end
def tyN(w:W)(G:Hw):Option String:=match w with
 | .non=>some "NoneType"
 | .bl _=>some "bool"
 | .int _=>some "int"
 | .str _=>some "str"
 | .tup _=>some "tuple"
 | .rol _=>some "list"
 | .ref a=>(match G a with | some (.lst _)=>some "list" | _=>none)
def BG(n T:String):Bool:=n==T||(n=="bool"&&T=="int")
variable {T:String}
theorem EC{n:String}(a:n∈["NoneType","bool","int","str","tuple","list"])(b:T∈["tuple","list","str","int","bool","dict"]):PySem.W.kitOne K (.type n) (.type T)=some (BG n T):=by
 simp only[Yo,Qd,or_false]at a b;rcases a with rfl | rfl | rfl | rfl | rfl | rfl <;> rcases b with rfl | rfl | rfl | rfl | rfl | rfl <;> kernel_rfl
def AU(T:String)(ge:GE):GE:=λω G Q=>ge ω G λw G1=>match tyN w G1 with | some n=>Q (.bl (BG n T)) G1 | none=>False
theorem fB(m:ge.M):GE.M (AU T ge):=λω G Q b h q=>m _ _ _ _ (λw a z=>by
 cases e:tyN w a with
 | none=>rw[e]at z;exact z
 | some n=>rw[e]at z;exact h _ _ z) q
theorem fC{u:Value}{n:String}{Q:Value->Shared->Prop}{E:Value->Shared->Prop}(I:Inv X pins σ H s)(c:RelV v u)(t:Tr X.K H v w)(r:RelH X.K H G)(e:tyN w G=some n)
  (b:T∈["tuple","list","str","int","bool","dict"]) (h:∀ tk,Q (.bool (BG n T)) {s with toks:=tk}):wpAny (model X.prog X.w) X.A (call (.builtin "isinstance") [u,.type T]) Q E s:=by
 cases t with
 | non=>cases e;cases(show u=Value.none from c);exact PySem.W.kia_one PySem.W.kitx_none I.kIn True.intro (EC (by simp) b) (λz=>nomatch z) h
 | bl y=>cases e;cases(show u=Value.bool y from c);exact PySem.W.kia_one PySem.W.kitx_bool I.kIn True.intro (EC (by simp) b) (λz=>nomatch z) h
 | int i=>cases e;obtain⟨t,rfl⟩:=c;exact PySem.W.kia_one PySem.W.kitx_int I.kIn True.intro (EC (by simp) b) (λz=>nomatch z) h
 | str y=>cases e;obtain⟨t,rfl⟩:=c;exact PySem.W.kia_one PySem.W.kitx_str I.kIn True.intro (EC (by simp) b) (λz=>nomatch z) h
 | tup g l =>
  cases e;cases c;obtain⟨d,_,p,_⟩:=I.tuple g;obtain⟨o,h1,h2,_⟩:=p;exact PySem.W.kia_one PySem.W.kitx_tuple I.kIn ⟨o,h1,h2⟩ (EC (by simp) b) (λz=>nomatch z) h
 | rol g l =>
  cases e;cases c;obtain⟨d,_,p,_⟩:=I.list g.sq;obtain⟨o,h1,h2,_⟩:=p.isList;exact PySem.W.kia_one PySem.W.kitx_list I.kIn ⟨o,h1,h2⟩ (EC (by simp) b) (λz=>nomatch z) h
 | ref a =>
  unfold tyN at e;dsimp only at e;cases f:G a with
  | none=>rw[f]at e;cases e
  | some o =>
   rw[f]at e;cases o with
   | exc C=>cases e
   | ins C fs=>cases e
   | dct k=>cases e
   | lst xs =>
    cases e;cases c;obtain⟨m,j,_⟩:=r a _ f;obtain⟨d,_,p,_⟩:=I.list (SqL.of j);obtain⟨o,h1,h2,_⟩:=p.isList;exact PySem.W.kia_one PySem.W.kitx_list I.kIn ⟨o,h1,h2⟩ (EC (by simp) b) (λz=>nomatch z) h
theorem fD:bootBuiltins "isinstance"=some (.builtin "isinstance"):=by decide +kernel
section
variable {X:Cx} {e:Expr} {p pc pos:Pos} {ge:GE}
theorem Fa{c:Str}(L:T∈["tuple","list","str","int","bool","dict"])(J:bootBuiltins c=some (.type T))(j:X.mg c=none)(k:X.mg "isinstance"=none)(g:Gl X "isinstance")(i:Gl X c)(y:c≠"__name__")(hd:(c==("__debug__":Str))=false)
  (o:starEach [e,.Name c pc] X.env=[(false,eval e X.env),(false,eval (.Name c pc) X.env)]) (a:starEach [.Name c pc] X.env=[(false,eval (.Name c pc) X.env)]) (h:Em X e ge):Em X (.Call (.Name "isinstance" p) [e,.Name c pc] [] pos) (AU T ge):=by
 refine⟨λpins s σ H Q I f=>?_,fB h.m⟩;obtain⟨ω,G,F,r,q⟩:=f;have pa:PA X [e,.Name c pc] (G7 (up X.K ge) (G7 (tC (.ty T)) J8)):=G8 h.p (G8 (ZI i j J rfl y hd) J9 (by rw[a];rfl)) (by rw[o,a]);refine wpAny_Call_Name_kw (Cc I g k fD ?_ (by decide) (by decide));refine PyProof.Rows.callWith_builtin1 (thn (pa pos pins s σ H (λl H1=>∃ v w b n,l=[v,.ty T]/\Tr X.K H1 v w/\RelH X.K H1 b/\tyN w b=some n/\Q (.bl (BG n T)) H1) I ?_) λN P⟨l,H1,x,r1,v,w,b,n,A,tv,D,d,B⟩=>?_) (by rw[o,a]) (by rw[a];rfl)
 ·refine⟨ω,G,F,r,h.m _ _ _ _ (λw b z v H1 m t r1=>?_) q⟩;cases d:tyN w b with
  | none=>rw[d]at z;exact z.elim
  | some n=>rw[d]at z;exact⟨v,w,b,n,rfl,t,r1,d,z _ H1 m (.bl _) r1⟩
 ·subst A;obtain⟨u,O,rfl,E,rt⟩:=J7 r1;cases rt;exact fC x E tv D d L λtk=>⟨.bl _,H1,x.tok tk,rfl,B⟩
end
structure fE(K:PySem.W.Frag)(C:Addr):Prop where
 ga:PySem.W.findIn K (.ref C) "__getattribute__"=some (some (.builtin "BaseException.__getattribute__"))
 gh:PySem.W.findIn K (.ref C) "__getattr__"=some none
 cl:(PySem.W.clsIn K C).isSome=true
 fc:PySem.W.findIn K (.ref C) "__class__"=some (some (.builtin "object.__class__"))
 sp:PySem.W.specialIn K (.builtin "object.__class__") "__get__"=some (some (.builtin "getset_descriptor.__get__"))
 tk:PySem.W.takesIn K (.builtin "object.__class__")=some true
 mr:PySem.W.mroIn K C (.type "object")=some true
 mb:PySem.W.mroIn K C (.type "BaseException")=some true
end L3
namespace L3
open PySem PySem.W PySem.Spec PySem.Calls PyProof.Rows PySem.Builtin PySem.Builtin.ObjectAttr PySem.Builtin.Getset_descriptor
section
variable {prog:Program} {w:World} {A:Around} {E:Value->Shared->Prop} {s:Shared} {K:Frag} {x C:Addr} {name:Str}
end
end L3
namespace L3
open PySem PySem.Spec PyProof.Rows L2
variable {K:PySem.W.Frag} {H H' H2:Hp}
def oj(K:PySem.W.Frag)(cv:Value)(ge:GE):GE:=λω G Q=>ge ω G λw G1=>match w with
 | .ref a=>(match G1 a with | some (.exc C)=>∃ b,fE K C/\PySem.W.kitOne K (.ref C) cv=some b/\Q (.bl b) G1 | _=>False)
 | _=>False
section
variable {X:Cx} {e:Expr} {p pc pos:Pos} {ge:GE}
end
def Fb(gs:GA):GI:=λω G R=>gs ω G λws G1=>match ws with
 | [.int j]=>-(2 ^ 62)<=j/\j < 2 ^ 62/\R ((List.range j.toNat).map λi:Nat=>W.int i) yes G1
 | _=>False
variable {X:Cx}
theorem Inv.turneds{s:Shared}{h':Heap}{t':Nat}{fp:List Addr}(I:Inv X pins σ H s)(a:∀ b∈fp,CV X pins H b)(k:∀ b o,b∉fp->s.heap.get? b=some o->h'.get? b=some o):Inv X pins σ H {s with heap:=h',toks:=t'}:=by
 have d:∀ b u,H b=some u->b∉fp:=λb u e z=>by rw[(a b z).1]at e;cases e
 refine I.step (g':=s.gens) (d':=s.drawn) (ch:=fp) (λb f=>⟨(a b f).2.2.2.1,(a b f).2.1,(a b f).2.2.2.2.1,(a b f).2.2.2.2.2⟩) (λb o _ _ hc e _=>k b o hc e) (λb o _ _ hc e _=>⟨o.slots,k b o hc e⟩) (λ_ _ _ _ n=>n)
  (λb o hc e=>⟨o,k b o hc e⟩) (λ_ _ e=>e) (λ_ _ _ e=>e) (λb ps e=>⟨#[],by rw[e];simp⟩) (λm h=>?_) (λb u e=>?_) I.bare
 ·obtain⟨o,es,g,i,r⟩:=h;exact⟨o,es,g,k _ o (λz=>(a _ z).2.1 rfl) i,r⟩
 ·refine(I.hok b u e).stay (λc v hc q=>k c v ?_ q) (λ_ q=>q) λ_ _ q=>q;rcases hc with z | z
  ·rw[z];exact d b u e
  ·exact d c _ z
variable {w:World}
theorem PQ{prog:Program}{A:Around}(O:A.handled=none)(z TI TO f d g j:Addr)(D:ZipApart z TI TO f d g j)(xs ys:Array Value):
  WalksT prog w A z [z,TI,TO,f,d,g,j] [z,TO,f,d] (min xs.size ys.size) (λi vals=>∃ x y,xs[i]?=some x/\ys[i]?=some y/\vals=#[x,y])
   (λi h=>IsZip h z TI TO .none/\IsPair h TI (.ref f) (.ref d)/\(∃ a b,IsPair h TO a b)/\h.IsListIter f g i/\h.IsListIter d j i/\h.IsList g xs/\h.IsList j ys)
   (λi T h=>(IsZip h z TI TO (rawInt T)/\IsPair h TI (.ref f) (.ref d)/\(∃ a b,IsPair h TO a b)/\h.IsListIter f g (i+1)/\h.IsListIter d j (i+1)/\h.IsList g xs/\h.IsList j ys/\
    T≠z/\T≠TO/\T≠f/\T≠d)/\NoD h T):=
 have l:=WalksT.zip2 (prog:=prog) (w:=w) (A:=A) O z TI TO f d g j D xs ys
 {
  sub:=l.sub
  frame:=l.frame
  item:=λi s Q E hi B G=>by
   obtain⟨H,n,⟨a,b,m⟩,h1,h2,t,q⟩:=B;have u:i < xs.size:=Yu hi (Nat.min_le_left ..);have r:i < ys.size:=Yu hi (Nat.min_le_right ..);refine wpAny_pyNext_zip_item D H n m h1 h2 t q (Qa u) (Qa r) λh' J L N K I P v=>?_;have lt:∀{c o},s.heap.get? c=some o->s.heap.objs.size≠c:=λe=>Nat.ne_of_gt (Qp e)
   exact G s.heap.objs.size #[xs[i],ys[i]] h' s.toks ⟨_,_,Qa u,Qa r,rfl⟩ (Yr _) ⟨_,I,rfl,_,rfl⟩
    ⟨⟨J,v _ _ D.TIz D.TITO D.TIi1 D.TIi2 n,⟨_,_,L⟩,N,K,t.at λo e=>v _ o D.l1z D.l1TO D.l1i1 D.l1i2 e,q.at λo e=>v _ o D.l2z D.l2TO D.l2i1 D.l2i2 e,
     lt H,lt m,(by obtain⟨_,e,_⟩:=h1;exact lt e),(by obtain⟨_,e,_⟩:=h2;exact lt e)⟩,_,I,rfl⟩
    λc o hc e=>v c o (λx=>hc (by simp[x])) (λx=>hc (by simp[x])) (λx=>hc (by simp[x])) (λx=>hc (by simp[x])) e
  go:=λp k pos i T s Q E F G=>l.go p k pos i T s Q E F.1 G
  apart:=λi T h F=>l.apart i T h F.1
  done:=l.done
  self:=l.self}
def Itz(K:PySem.W.Frag)(l1 l2:Addr):It :=
 ⟨λi H=>∃ xs ys,SqL K H l1 xs/\SqL K H l2 ys/\i < xs.length/\i < ys.length,
  λi H v H'=>∃ T x y,H T=none/\v=.ref T/\H'=upd H T (.tup [x,y])/\∀ xs ys,SqL K H l1 xs->SqL K H l2 ys->xs[i]?=some x/\ys[i]?=some y,
  λi H=>∃ xs ys,SqL K H l1 xs/\SqL K H l2 ys/\i=min xs.length ys.length⟩
variable {k:Nat}{tpos:Pos}
theorem fF{P:Program}{B:List Expr}{z TI TO y u S l2:Addr}(D:ZipApart z TI TO y u S l2):
  DM P w K (.Tuple B k tpos) (Itz K S l2) [z,TI,TO,y,u] z (λi h=>IsZip h z TI TO .none/\IsPair h TI (.ref y) (.ref u)/\(∃ a b,IsPair h TO a b)/\h.IsListIter y S i/\h.IsListIter u l2 i) where
 mem:=by simp
 obj:=λi h st b n=>by
  obtain⟨F,g,⟨a,c,f⟩,⟨o1,e1,_,d1⟩,⟨o2,e2,_,d2⟩⟩:=st;simp only[Yo,Qd,or_false]at n;rcases n with rfl | rfl | rfl | rfl | rfl
  ·exact⟨_,F,λv z=>by cases z⟩
  ·exact⟨_,g,λv z=>by cases z⟩
  ·exact⟨_,f,λv z=>by cases z⟩
  ·exact⟨o1,e1,λv z=>by rw[d1]at z;cases z⟩
  ·exact⟨o2,e2,λv z=>by rw[d2]at z;cases z⟩
 keep:=λi h h' st Z=>by
  obtain⟨F,g,⟨a,c,f⟩,h1,h2⟩:=st;exact⟨Z z (by simp) _ F,Z TI (by simp) _ g,⟨a,c,Z TO (by simp) _ f⟩,h1.at λo e=>Z y (by simp) o e,h2.at λo e=>Z u (by simp) o e⟩
 item:=by
  intro X hP hw hK hc i pins s σ H E I hf st hg;subst hP hw hK;obtain⟨xs,ys,hx,hy,hix,hiy⟩:=hg;obtain⟨l,r1,N,z1⟩:=I.list hx;obtain⟨j,r2,L,z2⟩:=I.list hy;have n1:=r1.length;have n2:=r2.length;obtain⟨F,g,f,h1,h2⟩:=st;have Wk:=PQ (prog:=X.prog) (w:=X.w) (A:=X.A) (I.ok.hd hc) z TI TO y u S l2 D l.toArray j.toArray;refine Wk.item i s _ _ (by simp only[Yn];omega) ⟨F,g,f,h1,h2,N.isList,L.isList⟩ λT vals h' tk hPt hT O t hk=>⟨.ref T,rfl,?_⟩;refine Wk.go B k tpos i T _ _ _ t λG r hk2=>?_;obtain⟨v1,v2,g1,g2,rfl⟩:=hPt;have g1':l[i]?=some v1:=by simpa using g1
  have g2':j[i]?=some v2:=by simpa using g2
  have gx:xs[i]?=some xs[i]:=Yp hix;have gy:ys[i]?=some ys[i]:=Yp hiy;obtain⟨u1,q1,rv1⟩:=r1.get gx;obtain⟨u2,q2,rv2⟩:=r2.get gy;rw[g1']at q1;cases q1;rw[g2']at q2;cases q2
  have R:∀ b,b∉[z,TI,TO,y,u]->b∉[z,TO,y,u]:=λb n hc=>n (by
   simp only[Yo,Qd,or_false]at hc ⊢;rcases hc with h | h | h | h <;> simp[h])
  have I1:Inv X pins σ H {s with heap:=G,toks:=tk}:=Inv.turneds I hf λb o n e=>hk2 b o (R b n) (hk b o (R b n) e);have Y:H T=none:=I.hok.fresh hT
  have J:TupP G T #[v1,v2]:=by
   obtain⟨o,e,c,m,d⟩:=O;obtain⟨o',e',hd⟩:=t.2;rw[e]at e';cases e';exact⟨o,hk2 _ _ (Wk.apart _ _ _ t) e,c,hd,m,d⟩
  have lt:∀{b:Addr}{o:Obj},s.heap.get? b=some o->b≠T:=λe q=>absurd (Yu (Qp e) hT) (by rw[q];exact YM _)
  have I2:Inv X pins σ (upd H T (.tup [xs[i],ys[i]])) {s with heap:=G,toks:=tk}:=by
   refine I1.track Y ?_ (λx c e=>?_) (λp hp=>?_) ?_ ⟨by show 2<=sizeLine;decide,[v1,v2],.cons rv1 (.cons rv2 .nil),J⟩
   ·obtain⟨m,⟨o,es,ep,ho,_⟩,_⟩:=I.loc;exact YZ (lt ho)
   ·obtain⟨v,o,ho,_⟩:=I.cell x c e;exact lt ho
   ·exact lt (I.pin p hp).1
   ·cases e:X.s₀.heap.get? T with
    | none=>rfl
    | some o=>exact absurd (Yu (Qp e) (Yt I.sz hT)) (YM _)
  refine⟨.ref T,_,I2,rfl,⟨T,_,_,Y,rfl,rfl,λxs' ys' hx' hy'=>?_⟩,⟨r.1,r.2.1,r.2.2.1,r.2.2.2.1,r.2.2.2.2.1⟩,λb n=>?_⟩
  ·rw[I.list_inj hx' hx,I.list_inj hy' hy];exact⟨gx,gy⟩
  ·have hb':=(hf b n).1
   have:b≠T:=by
    obtain⟨o,e,_⟩:∃ o,s.heap.get? b=some o/\True:=by
     obtain⟨a,c,U⟩:=f;obtain⟨o1,e1,_⟩:=h1;obtain⟨o2,e2,_⟩:=h2;simp only[Yo,Qd,or_false]at n;rcases n with rfl | rfl | rfl | rfl | rfl
     ·exact⟨_,F,trivial⟩
     ·exact⟨_,g,trivial⟩
     ·exact⟨_,U,trivial⟩
     ·exact⟨_,e1,trivial⟩
     ·exact⟨_,e2,trivial⟩
    exact lt e
   rw[AN this];exact hb'
 done:=by
  intro X hP hw hK hc i pins s σ H E I hf st hg;subst hP hw hK;obtain⟨xs,ys,hx,hy,hi⟩:=hg;obtain⟨l,r1,N,z1⟩:=I.list hx;obtain⟨j,r2,L,z2⟩:=I.list hy;have n1:=r1.length;have n2:=r2.length;obtain⟨F,g,f,h1,h2⟩:=st;have Wk:=PQ (prog:=X.prog) (w:=X.w) (A:=X.A) (I.ok.hd hc) z TI TO y u S l2 D l.toArray j.toArray;have hi':i=min l.toArray.size j.toArray.size:=by simp only[Yn];omega
  subst hi';refine Wk.done s _ _ ⟨F,g,f,h1,h2,N.isList,L.isList⟩ λh' tk hk=>⟨rfl,Inv.turneds I hf λb o n e=>hk b o (λhc=>n ?_) e⟩;simp only[Yo,Qd,or_false]at hc ⊢;rcases hc with h | h | h | h <;> simp[h]
 self:=λA i s Q E st h=>wpAny_pyIter_zip st.1 h
def fG(K:PySem.W.Frag)(ta:TA):TI:=λσ H R=>ta σ H λvs H1=>∃ a b xs ys,vs=[.ref a,.ref b]/\SqL K H1 a xs/\SqL K H1 b ys/\R (Itz K a b) H1
variable {a b:Expr}{p pos:Pos}
theorem fH{f:List Expr}(O:Gl X "zip")(L:X.mg "zip"=none)(Q:PA X [a,b] ta)(D:starEach [a,b] X.env=[(false,eval a X.env),(false,eval b X.env)])(c:starEach [b] X.env=[(false,eval b X.env)]):
  PI X (.Tuple f k tpos) (.Call (.Name "zip" p) [a,b] [] pos) (fG X.K ta):=by
 intro pins s σ H R I h;refine Call_ (Cc I O L boot_zip (Qh (thn (Q pos pins s σ H _ I h) λT l t=>?_) (by rw[D,c]) (by rw[c];rfl)));obtain⟨Y,H1,g,r1,q1⟩:=t;obtain⟨B,P,xs,ys,e,F,S,q⟩:=q1;subst e;obtain⟨u,U,rfl,E,o⟩:=J7 r1;cases E;cases o;obtain⟨z,_,i,_⟩:=g.list F;obtain⟨x,_,d,_⟩:=g.list S;have A:B < l.heap.objs.size:=by obtain⟨_,e,_⟩:=i.isList;exact Qp e
 have G:P < l.heap.objs.size:=by obtain⟨_,e,_⟩:=d.isList;exact Qp e
 refine call_zip_2 i.isList d.isList λh' y n m r v N J=>wpAny_pyIter_zip y ?_;refine⟨_,_,_,_,H1,rfl,g.kept (t':=l.toks) J,fF (zipApart_new A G),⟨y,n,⟨_,_,m⟩,r,v⟩,λb w=>?_,q⟩
 have j:l.heap.objs.size<=b:=by
  simp only[Yo,Qd,or_false]at w;rcases w with rfl | rfl | rfl | rfl | rfl
  ·exact Qc _ 4
  ·exact Qc _ 2
  ·exact Qc _ 3
  ·exact Yr _
  ·exact Qc _ 1
 exact g.fpOk j (g.hok.fresh j)
def rdL(G:Hw)(w:W):Option (List W):=match w with
 | .rol xs=>some xs
 | .ref a=>(match G a with | some (.lst xs)=>some xs | _=>none)
 | _=>none
theorem Dm{G:Hw}{w:W}{xs:List W}{v:V}(r:RelH K H G)(t:Tr K H v w)(e:rdL G w=some xs):∃ a vs,v=.ref a/\SqL K H a vs/\TrL K H vs xs:=by
 cases t with
 | rol h l=>cases e;exact⟨_,_,rfl,h.sq,l⟩
 | ref a =>
  unfold rdL at e;dsimp only at e;cases z:G a with
  | none=>rw[z]at e;cases e
  | some o =>
   rw[z]at e;cases o with
   | lst ys=>cases e;obtain⟨vs,b,c⟩:=r a _ z;exact⟨a,vs,rfl,SqL.of b,c⟩
   | exc C=>cases e
   | ins C fs=>cases e
   | dct d=>cases e
 | _=>cases e
def B8:List W->List W->List W
 | x::xs,y::ys=>.tup [x,y]::B8 xs ys
 | _,_=>[]
theorem KW:∀(xs ys:List W),(B8 xs ys).length=min xs.length ys.length
 | [],_=>by simp[B8]
 | _::_,[]=>by simp[B8]
 | _::xs,_::ys=>by simp only[B8,Yg,KW xs ys];omega
theorem PR:∀(xs ys:List W)(i:Nat){x y:W},xs[i]?=some x->ys[i]?=some y->(B8 xs ys)[i]?=some (.tup [x,y])
 | [],_,_,_,_,h,_=>by simp at h
 | _::_,[],_,_,_,_,h=>by simp at h
 | a::xs,b::ys,0,x,y,h,h'=>by simp at h h';subst h;subst h';rfl
 | a::xs,b::ys,i+1,x,y,h,h'=>by
  have:=PR xs ys i (x:=x) (y:=y) (by simpa using h) (by simpa using h');simpa[B8]using this
def BH(gs:GA):GI:=λω G R=>gs ω G λws G1=>match ws with
 | [x,y]=>(match rdL G1 x,rdL G1 y with
  | some xs,some ys=>R (B8 xs ys) (λG=>rdL G x=some xs/\rdL G y=some ys) G1
  | _,_=>False)
 | _=>False
theorem PU{gs:GA}{R:List W->(Hw->Prop)->Hw->Prop}{b:List W}{a:Hw}(z:match b with
 | [x,y]=>(match rdL a x,rdL a y with
  | some xs,some ys=>R (B8 xs ys) (λG=>rdL G x=some xs/\rdL G y=some ys) a
  | _,_=>False)
 | _=>False):∃ x y xs ys,b=[x,y]/\rdL a x=some xs/\rdL a y=some ys/\R (B8 xs ys) (λG=>rdL G x=some xs/\rdL G y=some ys) a:=by
 split at z
 ·rename_i x y;split at z
  ·rename_i xs ys c d;exact⟨x,y,xs,ys,rfl,c,d,z⟩
  ·exact z.elim
 ·exact z.elim
variable {gs:GA}
theorem fI(m:gs.M):GI.M (BH gs):=λω G R d h q=>m _ _ _ _ (λe c z=>by
 obtain⟨x,y,xs,ys,rfl,a,b,z⟩:=PU (gs:=gs) z;dsimp only;rw[a,b];exact h _ _ _ z) q
theorem PX(hm:X.mg "zip"=none)(hg:Gl X "zip")(hs:starEach [a,b] X.env=[(false,eval a X.env),(false,eval b X.env)])(B:starEach [b] X.env=[(false,eval b X.env)])(L:Am X [a,b] gs):
  Im X (.Tuple h k tpos) (.Call (.Name "zip" p) [a,b] [] pos) (BH gs):=by
 refine⟨⟨_,fH hg hm L.p hs B,λσ H ω G R R0 ts r q kk=>⟨ω,G,ts,r,L.m _ _ _ _ (λws G1 z vs H1 m t r1=>?_) q⟩⟩,fI L.m⟩;obtain⟨x,y,xs,ys,rfl,O,P,z⟩:=PU (gs:=gs) z;cases t with
 | cons u t =>
  cases t with
  | cons ty t =>
   cases t;obtain⟨a1,N,rfl,J,l1⟩:=Dm r1 u O;obtain⟨a2,I,rfl,A,l2⟩:=Dm r1 ty P;refine⟨a1,a2,N,I,rfl,J,A,kk _ _ _ H1 _ z m r1 ⟨O,P⟩ ⟨λi w U f d g3 hi=>?_,λi w U v H4 f d g3 Z hi=>?_,λw U f d g3=>?_⟩⟩
   ·obtain⟨S,c,g,o,s⟩:=Dm d (u.mono f) g3.1;obtain⟨Q,e,j,l,n⟩:=Dm d (ty.mono f) g3.2;cases g;cases j;rw[KW]at hi;exact⟨c,e,o,l,by rw[s.length];omega,by rw[n.length];omega⟩
   ·obtain⟨S,c,g,o,s⟩:=Dm d (u.mono f) g3.1;obtain⟨Q,e,j,l,n⟩:=Dm d (ty.mono f) g3.2;cases g;cases j;obtain⟨T,v1,v2,Y,rfl,rfl,hv⟩:=Z;obtain⟨g1,g2⟩:=hv _ _ o l;obtain⟨w1,q1,D⟩:=s.get' g1;obtain⟨w2,q2,E⟩:=n.get' g2;have F:Mono X.K w (upd w T (.tup [v1,v2])):=Mono.new Y _;exact⟨F,d.mono0 Y,_,PR _ _ i q1 q2,.tup (SqT.of B0) (.cons (D.mono F) (.cons (E.mono F) .nil))⟩
   ·obtain⟨S,c,g,o,s⟩:=Dm d (u.mono f) g3.1;obtain⟨Q,e,j,l,n⟩:=Dm d (ty.mono f) g3.2;cases g;cases j;exact⟨c,e,o,l,by rw[KW,s.length,n.length]⟩
theorem PY:bootBuiltins "len"=some (.builtin "len"):=by decide +kernel
theorem ED:bootBuiltins "all"=some (.builtin "all"):=by decide +kernel
theorem PZ:bootBuiltins "any"=some (.builtin "any"):=by decide +kernel
theorem P0:bootBuiltins "sum"=some (.builtin "sum"):=by decide +kernel
theorem P1:bootBuiltins "list"=some (.type "list"):=by decide +kernel
theorem Fc:bootBuiltins "tuple"=some (.type "tuple"):=by decide +kernel
theorem P3:bootBuiltins "int"=some (.type "int"):=by decide +kernel
theorem fJ:bootBuiltins "str"=some (.type "str"):=by decide +kernel
theorem fK:bootBuiltins "bool"=some (.type "bool"):=by decide +kernel
theorem KY:bootBuiltins "dict"=some (.type "dict"):=by decide +kernel
section
variable {X:Cx} {P:Hp->Prop} {a b c e:Expr} {es:List Expr} {pos pos' p:Pos} {ga gb ge:GE} {gt:GT}
variable {x:Str}{i:Nat}
theorem fL(hi:X.N[i]?=some x)(a:seen X.env.scope x=true)(hd:(x==("__debug__":Str))=false)(hc:(x==("__classdict__":Str))=false):Em X (.Name x pos) (Ab i):=⟨ck hi (Pg a) hd hc,cj⟩
theorem P4(c:X.N.Nodup)(hi:X.N[i]?=some x)(b:F1 X.env.scope x=true)(d:swapsWith e (some (.Name x pos')) pos.line X.env=pure false)(a:Em X e ga):Sm X P (.Assign [.Name x pos'] e pos) (Ap i ga):=
 ⟨cH c hi (.inl (F2 b)) a.m a.p d (.inr (F2 b)),O1 a.m⟩
theorem fM{n:Nat}(c:X.N.Nodup)(hi:X.N[n]?=some x)(b:F1 X.env.scope x=true)(a:Em X e ga):Sm X P (.AugAssign (.Name x pos') .Add e pos) (Bv n Bw ga):=
 ⟨eQ (OpR.or ax aQ) PB eR c hi (.inl (F2 b)) (.inr (F2 b)) a.m a.p,eP PB a.m⟩
def Glb(K:PySem.W.Frag)(mg:Str->Option Value)(x:Str)(w:W):Prop:=∃ v u,mg x=some u/\RelV v u/\∀ H,Tr K H v w
theorem Fd{w:W}(h:Glb X.K X.mg x w)(a:Gl X x)(hd:(x==("__debug__":Str))=false):Em X (.Name x pos) (gC w):=
 let⟨_,_,h1,h2,h3⟩:=h
 ⟨OZ a h1 h2 h3 hd,E7⟩
structure Fm(X:Cx)(ifs:List Expr)(g:GT):Prop where
 p:PFw X ifs g
 m:g.M
theorem Bz:Fm X [] AL:=⟨dF,dE⟩
theorem fN(h:Tm X c gt):Fm X [c] gt:=⟨dG h.p,h.m⟩
theorem Cy{elt:Expr}{Nc:List Str}{d:GG}(hc:X.calm=true)(B:Blk X Nc scope [] (λ_=>List.replicate Nc.length none))(f:∀ x,foldedSetIterable iter X.env x=pure x)(hi:Im X tg iter gi)
  (a:TgU X Nc scope tg d) (e:∀ C fp s H,Fm (cxB X Nc scope [] C fp s H) ifs gt) (c:∀ C fp s H,Em (cxB X Nc scope [] C fp s H) elt ge):Em X (.ListComp elt [⟨tg,iter,ifs,0⟩] scope pos) (AR gi Nc.length d gt ge):=
 have mt:gt.M:=(e 0 [] X.s₀ X.H₀).m
 have b:ge.M:=(c 0 [] X.s₀ X.H₀).m
 ⟨dJ hc hi.p B a mt (λC fp s H=>(e C fp s H).p) b (λC fp s H=>(c C fp s H).p) f,dD hi.m a.mono mt b⟩
theorem Do:DP X (λ_ _ _=>False):=(by rintro pins σ H s ev s' I ⟨e,C,H',c,F,d,ω,G,b,a,r,q⟩;exact q.elim)
theorem A4{A:Around}(a:Room k A):A.units+100 < cLine:=by have:=a.un;omega
end
def EE:List (Str×Int)->Str->W
 | [],_=>.non
 |(x,i)::D,z=>if z=x then .int i else EE D z
def KZ(mg:Str->Option Value)(base:Heap)(x:Str)(D:List (Str×Int)):Prop:=∃ d,mg x=some (.ref d)/\KTD.TextTab base d (D.map λp=>(p.1,KTD.Dat.flat (.int p.2)))
theorem P5:∀{D:List (Str×Int)}{z:Str}{d:KTD.Dat},KTD.datumAt z (D.map λp=>(p.1,KTD.Dat.flat (.int p.2)))=some d->∃ i,d=.flat (.int i)/\EE D z=.int i
 | [],_,_,h=>by cases h
 |(x,i)::D,z,d,h=>by
  have h':(if decide (z=x)=true then some (KTD.Dat.flat (.int i))else KTD.datumAt z (D.map λp=>(p.1,KTD.Dat.flat (.int p.2))))=some d:=h;unfold EE;by_cases a:z=x
  ·rw[if_pos (YI a)]at h';cases h';exact⟨i,rfl,if_pos a⟩
  ·rw[if_neg (by simpa using a)]at h';rw[if_neg a];exact P5 h'
theorem P6:∀{D:List (Str×Int)}{z:Str},KTD.datumAt z (D.map λp=>(p.1,KTD.Dat.flat (.int p.2)))=none->EE D z=.non
 | [],_,_=>rfl
 |(x,i)::D,z,h=>by
  have h':(if decide (z=x)=true then some (KTD.Dat.flat (.int i))else KTD.datumAt z (D.map λp=>(p.1,KTD.Dat.flat (.int p.2))))=none:=h;unfold EE;by_cases a:z=x
  ·rw[if_pos (YI a)]at h';cases h'
  ·rw[if_neg (by simpa using a)]at h';rw[if_neg a];exact P6 h'
def DX(D:List (Str×Int))(gk:GE):GE:=λω G Q=>gk ω G λw G1=>match w with | .str z=>Q (EE D z) G1 | _=>False
theorem fO{x:Str}{D:List (Str×Int)}{e:Expr}{j apos cpos:Pos}(h:KZ X.mg X.base x D)(Z:Gl X x)(hd:(x==("__debug__":Str))=false)(c:attributeBase (.Name x j) "get" X.env (eval (.Name x j) X.env)=eval (.Name x j) X.env)
  (g:((backTo cpos (starEach [e] X.env)).all (λx=>!x.1)&&(backToKw cpos (keywordEach [] X.env)).all (λx=>x.1.isSome)&&decide ([e].length+([]:List Keyword).length+(if([]:List Keyword).isEmpty then 0 else 1) < 30))=true)
  (f:(apos.endLine==cpos.line)=true) (A:starEach [e] X.env=(false,eval e X.env)::starEach [] X.env) (hplain:(backTo cpos (starEach [] X.env)).any (·.1)=false) (l:Em X e gk):
  Em X (.Call (.Attribute (.Name x j) "get" apos) [e] [] cpos) (DX D gk):=by
 refine⟨λpins s σ H Q I⟨ω,G,P,r,q⟩=>?_,λω G Q Q' hh q=>l.m _ _ _ _ (λw E z=>by cases w <;> first | exact hh _ _ z | exact z) q⟩;obtain⟨d,U,T⟩:=h;have b:KTD.Here X.base s.heap d (D.map λp=>(p.1,KTD.Dat.flat (.int p.2))):=⟨T,I.bk⟩;refine wpAny_Call_method_late c g f rfl (FR I Z U ⟨"dict","dict.get",PySem.F.plainAttrs_dict,PySem.F.slot_dict_get,PySem.F.type_dict_get,b.typeIs,b.noDict,?_⟩ hd);have pa:PA X [e] (G7 (up X.K gk) J8):=G8 l.p J9 A
 have o:=pa cpos pins s σ H (λB H1=>∃ z,B=[.str z]/\∀ v,Tr X.K H1 v (EE D z)->Q v H1) I ⟨ω,G,P,r,l.m _ _ _ _ (λw E z v H1 m t r1=>by
  cases w with
  | str y=>exact⟨y,by rw[O4 t],λv tv=>z v H1 m tv r1⟩
  | _=>exact z.elim) q⟩
 rw[A]at o ⊢;refine Calls.callWith_builtin (by show(false||(backTo cpos (starEach [] X.env)).any (·.1))=false;rw[hplain] <;> rfl) (Calls.evalArgs_plain ?_);refine thn o λus O k=>?_;obtain⟨B,H2,n,R,z,L,q2⟩:=k;subst L;obtain⟨u,rfl,N⟩:=C6 R;obtain⟨t,rfl⟩:=N;have a:KTD.Here X.base O.heap d (D.map λp=>(p.1,KTD.Dat.flat (.int p.2))):=⟨T,n.bk⟩;refine call_meetsIn PySem.F.slot_dict_get a.typeIs PySem.F.entry_dict_get (PySem.F.args_dict_get_2 _ _) (KTD.meets_get1 (h₀:=X.base) (D:=D.map λp=>(p.1,KTD.Dat.flat (.int p.2)))) ⟨a,λdd v ha Y=>?_,λJ=>?_⟩
 ·obtain⟨i,rfl,S⟩:=P5 ha;obtain⟨t2,rfl⟩:=PyProof.V.Flat.int_inv Y;exact⟨.int i,H2,n.tok _,⟨_,rfl⟩,q2 _ (by rw[S];exact .int i)⟩
 ·exact⟨.non,H2,n.tok _,rfl,q2 _ (by rw[P6 J];exact .non)⟩
def Fn(K:PySem.W.Frag)(mg:Str->Option Value)(st:Stmt)(x:Str)(ps:List Str):Prop:=∃ f fd,mg x=some (.ref f)/\Fun K x x st f fd/\Binds K fd ps []
section
variable {P:Program} {w:World} {mg:Str->Option Value} {base:Heap}
variable {x:Str}{n:Nat}{sp:Spw}
theorem Df.le{j:Nat}(D:Df P w K mg base x j n sp)(h:j<=k):Df P w K mg base x k n sp :=
 ⟨let⟨f,fd,ps,h1,h2,h3,h4,F⟩:=D.ex;⟨f,fd,ps,h1,h2,h3,h4,F.mono h⟩,D.mono⟩
variable {st:Stmt}{N ps:List Str}
theorem mk0{g:GS}(Fx:Fn K mg st x ps)(i:ps.length=n)(S:Ax N ps (Aq st))(d:sp.M)(len:∀ c G Q E,sp c G Q E->c.length=n)
  (j:∀{f:Addr}{cdv:Value}{A:Around}{outer:List Env}{s:Shared}{H:Hp}{E:XK},Room k (A.deeper (envOfC x (Aq st) s.heap.objs.size f cdv))->Ssm (cxW P w K mg base N x (Aq st) f cdv A outer s H E).nox (λB=>B=H) (B5 st) g)
  (ok:∀ c G(Q:Kw)(E:Addr->Hw->Prop),Kw.C Q->sp c G Q E->g (Ar Q) (Bg N c) G):Df P w K mg base x (k+1) n sp:=by
 obtain⟨f,fd,h1,F,y⟩:=Fx;refine⟨⟨f,fd,ps,h1,F.kp,y,i,?_⟩,d⟩;obtain⟨oc,L,kV,u,pm,O,cdv,ct,I,rfl,o,h⟩:=F.ex;refine G9 o h S ((by rintro J H Q E ⟨c,G,t,r,q⟩;rw[t.length,i];exact len c G _ _ q)) λA outer s H J Q E l e=>?_;obtain⟨c,G,t,r,q⟩:=e;have D:=j (cdv:=cdv) (outer:=outer) (H:=H) (E:=E) l;refine⟨_,(D.p H rfl).nox,Bg N c,G,Kt t,r,.refl,?_⟩;exact D.m _ _ (Ar (dn K H Q)) _ (λa b z σ H2 m R v=>z _ H2 m Tr.non v) (λa b z=>z) (λa b z=>z.elim) (λa b z=>z.elim) (ok c G _ _ Ku q)
theorem mkX{g:(Addr->Hw->Prop)->GS}(Fx:Fn K mg st x ps)(i:ps.length=n)(S:Ax N ps (Aq st))(d:sp.M)(len:∀ c G Q E,sp c G Q E->c.length=n)
  (j:∀{f:Addr}{cdv:Value}{A:Around}{outer:List Env}{s:Shared}{H:Hp}{E:XK},Room k (A.deeper (envOfC x (Aq st) s.heap.objs.size f cdv))->Ssm (cxW P w K mg base N x (Aq st) f cdv A outer s H E) (λB=>B=H) (B5 st) (g (dnX K H E)))
  (ok:∀ c G(Q:Kw)(E:Addr->Hw->Prop),Kw.C Q->Xc E->sp c G Q E->g E (Ar Q) (Bg N c) G):Df P w K mg base x (k+1) n sp:=by
 obtain⟨f,fd,h1,F,y⟩:=Fx;refine⟨⟨f,fd,ps,h1,F.kp,y,i,?_⟩,d⟩;obtain⟨oc,L,kV,u,pm,O,cdv,ct,I,rfl,o,h⟩:=F.ex;refine G9 o h S ((by rintro J H Q E ⟨c,G,t,r,q⟩;rw[t.length,i];exact len c G _ _ q)) λA outer s H J Q E l e=>?_;obtain⟨c,G,t,r,q⟩:=e;have D:=j (cdv:=cdv) (outer:=outer) (H:=H) (E:=E) l;refine⟨_,D.p H rfl,Bg N c,G,Kt t,r,.refl,?_⟩;exact D.m _ _ (Ar (dn K H Q)) _ (λa b z σ H2 m R v=>z _ H2 m Tr.non v) (λa b z=>z) (λa b z=>z.elim) (λa b z=>z.elim) (ok c G _ _ Ku cB q)
end
end L3
namespace L3
open PySem PySem.Spec PyProof.Rows L2
def Bk{α:Type}(n:Nat)(js:List Nat)(l:List (Option α)):List (Option α):=List.replicate n none++js.map λj=>(l[j]?).getD none
variable {n:Nat}{js:List Nat}
theorem K0{α:Type}{l:List (Option α)}:(Bk n js l).length=n+js.length:=by simp[Bk]
variable {i:Nat}
theorem P7{α:Type}{l:List (Option α)}{v:α}(h:(Bk n js l)[i]?=some (some v)):∃ m j,i=n+m/\js[m]?=some j/\l[j]?=some (some v):=by
 unfold Bk at h;by_cases hi:i < n
 ·rw[YJ (by simpa using hi),List.getElem?_replicate]at h;split at h <;> cases h
 ·rw[List.getElem?_append_right (by simpa using Nat.le_of_not_lt hi),List.length_replicate,YS]at h;cases a:js[i - n]? with
  | none=>rw[a]at h;cases h
  | some j =>
   rw[a]at h;refine⟨i - n,j,by omega,a,?_⟩;have h':(l[j]?).getD none=some v:=YF h;cases e:l[j]? with
   | none=>rw[e]at h';cases h'
   | some o=>rw[e]at h';exact congrArg some h'
variable {j:Nat}
theorem fP{α:Type}{m:Nat}{l:List (Option α)}{v:α}(h1:js[m]?=some j)(h2:l[j]?=some (some v)):(Bk n js l)[n+m]?=some (some v):=by
 unfold Bk;rw[List.getElem?_append_right (by simp),List.length_replicate,YS];have:n+m - n=m:=by omega
 rw[this,h1];show some ((l[j]?).getD none)=_;rw[h2];rfl
variable {K:PySem.W.Frag}
theorem TrSt.cap{H:Hp}(t:TrSt K H σ ω)(n:Nat)(js:List Nat):TrSt K H (Bk n js σ) (Bk n js ω):=by
 refine⟨by rw[K0,K0],λi w e=>?_⟩;obtain⟨m,j,rfl,h1,h2⟩:=P7 e;obtain⟨v,a,r⟩:=t.get j w h2;exact⟨v,fP h1 a,r⟩
def Dp(env:Env):List (Str×NameKind)->List (Str×Addr)->List (Str×Addr)
 | [],cs=>cs
 |(n,k)::r,cs=>Dp env r (if k=.free then(n,(env.cells.lookup n).getD 0)::cs else cs)
theorem P8{env:Env}:∀(l:List (Str×NameKind))(a:List (Str×Addr)),(∀ y∈l,y.2=.free->∃ c,env.cells.lookup y.1=some c)->
  (forIn l a λ(x:Str×NameKind)r=>if(x.2==NameKind.free)=true then do let c <- cellOf env x.1;pure (ForInStep.yield ((x.1,c)::r))else pure (ForInStep.yield r):Sem (List (Str×Addr)))=pure (Dp env l a)
 | [],a,_=>by simp[Dp]
 |(n,k)::r,a,h=>by
  have d:=λa=>P8 r a λy f=>h y (Yd _ f);rw[List.forIn_cons];by_cases b:k=.free
  ·obtain⟨c,hc⟩:=h (n,k) Ye b;subst b;have e:cellOf env n=pure c:=by unfold cellOf;rw[hc]
   simp only[beq_self_eq_true,if_true,e,pure_bind,Dp,hc,Option.getD_some];exact d _
  ·have:(k==NameKind.free)=false:=by simpa using b
   simp only[this,Yq,if_false,pure_bind,Dp,b];exact d _
theorem P9{env:Env}{y:Str}{c:Addr}:∀(l:List (Str×NameKind))(a:List (Str×Addr)),(Dp env l a).lookup y=some c->a.lookup y=some c\/((y,NameKind.free)∈l/\c=(env.cells.lookup y).getD 0)
 | [],a,h=>.inl h
 |(n,k)::r,a,h=>by
  rcases P9 r _ h with q |⟨q1,q2⟩
  ·split at q
   ·rename_i d;subst d;rw[List.lookup_cons]at q;split at q
    ·rename_i e;have b:y=n:=beq_iff_eq.mp e;subst b;exact .inr ⟨Ye,(YF q).symm⟩
    ·exact .inl q
   ·exact .inl q
  ·exact .inr ⟨Yd _ q1,q2⟩
theorem Qu{env:Env}{y:Str}:∀(l:List (Str×NameKind))(a:List (Str×Addr)),(∃ c,a.lookup y=some c)->∃ c,(Dp env l a).lookup y=some c
 | [],a,h=>h
 |(n,k)::r,a,h=>Qu r _ (by
  split
  ·rw[List.lookup_cons];split
   ·exact⟨_,rfl⟩
   ·exact h
  ·exact h)
theorem Qv{env:Env}{y:Str}:∀(l:List (Str×NameKind))(a:List (Str×Addr)),(y,NameKind.free)∈l->∃ c,(Dp env l a).lookup y=some c
 | [],a,h=>by cases h
 |(n,k)::r,a,h=>by
  rcases Yo.mp h with h | h
  ·cases h;refine Qu r _ ⟨(env.cells.lookup y).getD 0,?_⟩;rw[if_pos rfl,List.lookup_cons,beq_self_eq_true]
  ·exact Qv r _ h
variable {scope:Scope}{y:Str}
theorem Qw{env:Env}{k:NameKind}(nocell:∀ z∈scope.names,z.2≠.cell)(h:(relabel scope env).names.lookup y=some k)(b:k=.cell\/k=.free):(y,NameKind.free)∈scope.names:=by
 have m:=Kp h;unfold relabel at m;obtain⟨⟨n,c⟩,a,e⟩:=YC.mp m;dsimp only at e;split at e
 ·rename_i hc;cases e;simp only[YH,beq_iff_eq]at hc;rw[hc.1.1]at a;exact a
 ·cases e;rcases b with rfl | rfl
  ·exact absurd rfl (nocell _ a)
  ·exact a
theorem Qx{env:Env}(b:env.scope.kind=.function):∀{names:List (Str×NameKind)}{x:Str},names.lookup x=some .free->env.kindOf x=some .cell->
  (names.map λ(n,k)=>if(k==NameKind.free&&env.scope.kind==.function&&env.kindOf n==some .cell)then(n,NameKind.cell)else(n,k)).lookup x=some .cell
 | [],_,h,_=>by cases h
 |(n,k)::r,x,h,d=>by
  rw[List.lookup_cons]at h;rw[Ym];split at h
  ·rename_i e;have g:x=n:=beq_iff_eq.mp e;subst g;cases h;have c:(NameKind.free==NameKind.free&&env.scope.kind==ScopeKind.function&&env.kindOf x==some NameKind.cell)=true:=by rw[b,d];rfl
   dsimp only;rw[if_pos c,List.lookup_cons,beq_self_eq_true]
  ·rename_i e;have i:=Qx b (names:=r) h d;rw[List.lookup_cons]
   have f:(x==(if(k==NameKind.free&&env.scope.kind==ScopeKind.function&&env.kindOf n==some NameKind.cell)=true then(n,NameKind.cell)else(n,k)).1)=false:=by
    split <;> exact e
   dsimp only at f ⊢;split
   ·rename_i a;rw[f]at a;cases a
   ·exact i
variable {X:Cx}
theorem DY{own fr:List Str}{scX:Scope}(kind:scope.kind=.function)(names:∀ x∈scope.names,x.2=.local->scope.names.lookup x.1=some .local)(nocell:∀ y∈scope.names,y.2≠.cell)
  (s:∀ y∈scope.names,y.2=.free->y.1∈fr) (w:∀ y∈fr,scope.names.lookup y=some .free) (b:X.env.scope=scX) (k:scX.kind=.function) (o:X.env.cells=cellsFrom n scX.names []) (r:∀ y∈fr,scX.names.lookup y=some .cell)
  (t:js.map (λj=>X.N[j]?)=fr.map some):Blk X (own++fr) scope (Dp X.env scope.names []) (Bk own.length js):=by
 have d:∀ y∈fr,∃ c,X.env.cells.lookup y=some c:=λy a=>by
  rw[o];exact Ka (r y a)
 have p:js.length=fr.length:=by have:=congrArg List.length t;simpa using this
 refine⟨?_,kind,names,nocell,λy c h=>?_,λy h=>?_,λσ i y v h1 h2 D=>?_,λσ=>by rw[K0,Yj,p]⟩
 ·have:=P8 (env:=X.env) scope.names [] λy a f=>d _ (s y a f);unfold closureFor;simp only[bind_pure];exact this
 ·rcases P9 _ _ h with q |⟨q1,q2⟩
  ·cases q
  ·obtain⟨B,e⟩:=d y (s _ q1 rfl);rw[e]at q2 ⊢;exact congrArg some q2.symm
 ·refine Qv _ _ ?_;rcases h with h | h
  ·exact Qw nocell h (.inl rfl)
  ·exact Qw nocell h (.inr rfl)
 ·obtain⟨m,j,rfl,u,A⟩:=P7 h2;rw[List.getElem?_append_right (by omega)]at h1;have:own.length+m - own.length=m:=by omega
  rw[this]at h1;have a:y∈fr:=List.mem_of_getElem? h1;have q:=congrArg (λl=>l[m]?) t;simp only[YS,u,h1,YE]at q;have g:X.env.scope.names.lookup y=some .cell:=by rw[b];exact r y a
  refine⟨.inl (Qx (by rw[b];exact k) (w y a) g),.inr (.inl g),(by rw[g];intro z;cases z),j,YF q,A⟩
def Ba(gi:GI)(n:Nat)(js:List Nat)(gg:GG)(gt:GT)(ge:GE):GE:=λω G Q=>gi ω G λws gd G1=>Bi gd gg gt ge (λys G2=>∀ p,G2 p=none->Q (.ref p) (put G2 p (.lst ys))) ws (Bk n js ω) G1 []
variable {gi:GI}{gt:GT}{ge:GE}
theorem K1{a:GG}(c:gi.M)(mg:a.M)(mt:gt.M)(b:ge.M):GE.M (Ba gi n js a gt ge):=λω G Q j h q=>
 c _ _ _ _ (λi f e z=>Hk mg mt b (λys g z p d=>h _ _ (z p d)) _ _ _ _ z) q
theorem Qy{v:GG}{T:TI}{g:TG}(L:∀(σ:St)(H:Hp)(ω:Sw)(G:Hw)(R:List W->(Hw->Prop)->Hw->Prop)(R0:It->Hp->Prop),TrSt X.K H σ ω->RelH X.K H G->gi ω G R->
   (∀ a gd t H1 J,R a gd t->Mono X.K H H1->RelH X.K H1 t->gd t->E8 X.K H1 J a gd->R0 J H1)->T σ H R0)
  (I:∀(x:V)(w:W)(σ:St)(ω:Sw)(H:Hp)(G:Hw)(Q:St->Hp->Prop),Tr X.K H x w->TrSt X.K H σ ω->RelH X.K H G->v w ω G (dnS X.K H Q)->g x σ H Q) (mg:v.M) (mt:gt.M) (me:ge.M) (σ:St) (H:Hp) (Q:VK) (h:up X.K (Ba gi n js v gt ge) σ H Q):
  Hf T (Bk n js) g (upT X.K gt) (up X.K ge) σ H Q:=by
 obtain⟨ω,G,U,r,q⟩:=h;refine L σ H ω G _ _ U r q λa gd t H1 J z m1 r1 hgd E=>?_
 refine⟨λi m σ' H' vs=>m=a.length - i/\i<=a.length/\Mono X.K H1 H'/\∃ ω' o ys,TrSt X.K H' σ' ω'/\RelH X.K H' o/\TrL X.K H' vs ys/\Bi gd v gt ge (λys j=>∀ p,j p=none->dn X.K H Q (.ref p) (put j p (.lst ys))) (a.drop i) ω' o ys,
  ⟨a.length,by simp,YY _,.refl,_,t,[],(U.mono m1).cap n js,r1,.nil,by simpa using z⟩,?_⟩
 rintro i m σ' H' vs ⟨rfl,hle,k,ω',o,ys,O,r',tv,s⟩;have c:=O9 s;by_cases f:i < a.length
 ·have hw:∃ w,a[i]?=some w:=⟨a[i],by simp[f]⟩;obtain⟨w0,A⟩:=hw
  have ed:a.drop i=w0::a.drop (i+1):=by
   obtain⟨h',e'⟩:=Qb.mp A;rw[<- e'];exact List.drop_eq_getElem_cons h'
  rw[ed]at s
  refine .inr ⟨E.go i H' o k r' c f,by rw[tv.length];exact s.2.1,λσ2 H2 B=>Mono X.K H1 H2/\∃ ω2 j u,TrSt X.K H2 σ2 ω2/\RelH X.K H2 j/\TrL X.K H2 B u/\Bi gd v gt ge (λys j=>∀ p,j p=none->dn X.K H Q (.ref p) (put j p (.lst ys))) (a.drop (i+1)) ω2 j u,
   (by rintro σ2 H2 B ⟨y1,y2⟩;exact⟨a.length -(i+1),by omega,rfl,f,y1,y2⟩),λx H2 y=>?_⟩
  obtain⟨F,ry,w,Z,tw⟩:=E.yld i H' o x H2 k r' c y f;have k:=k.trans F;have tv:=tv.mono F;rw[A]at Z;cases Z;refine I x _ σ' ω' _ o _ tw (O.mono F) ry (mg _ _ _ _ _ (λω1 P z1 σ1 H3 D d r3=>?_) s.2.2);refine⟨ω1,P,d,r3,mt _ _ _ _ (λb Y z4 H4 l r4=>?_) z1⟩;cases b with
  | true=>exact⟨ω1,Y,d.mono l,r4,me _ _ _ _ (λy5 G5 z5 v5 H5 N t5 r5=>⟨((k.trans D).trans l).trans N,ω1,G5,_,(d.mono l).mono N,r5,(((tv.mono D).mono l).mono N).append (.cons t5 .nil),z5⟩) z4⟩
  | false=>exact⟨(k.trans D).trans l,ω1,Y,_,d.mono l,r4,(tv.mono D).mono l,z4⟩
 ·have e:i=a.length:=by omega
  subst e;rw[List.drop_length]at s;exact .inl ⟨E.stop H' o k r' c,λp S=>s.2 p (r'.no S) _ _ ((m1.trans k).trans (Mono.new S _)) (.ref p) (r'.new S tv)⟩
structure TgC(X:Cx)(Nc:List Str)(scope:Scope)(cl:List (Str×Addr))(tg:Expr)(gg:GG):Prop where
 ex:∃ g:TG,(∀ C fp s H,PG (cxB X Nc scope cl C fp s H) tg g)/\∀(x:V)(w:W)(σ:St)(ω:Sw)(H:Hp)(G:Hw)(Q:St->Hp->Prop),Tr X.K H x w->TrSt X.K H σ ω->RelH X.K H G->gg w ω G (dnS X.K H Q)->g x σ H Q
 mono:gg.M
variable {Nc:List Str}{x:Str}{p:Pos}
theorem Fe(d:Nc.Nodup)(hi:Nc[i]?=some x)(a:scope.names.lookup x=some .local):TgC X Nc scope cl (.Name x p) (gNm i) where
 ex:=⟨B6 i,λC b s H=>B7 (X:=cxB X Nc scope cl C b s H) d hi (.inl (lookup_relabel_local a)) (.inr (lookup_relabel_local a)),λx w σ ω H G Q t c r q=>q _ H .refl (c.set i t) r⟩
 mono:=λ_ _ _ _ _ h q=>h _ _ q
variable {pos:Pos}{k:Nat}
theorem fQ{f:Pos}(hc:X.calm=true)(c:Nc.Nodup)(hi:Nc[i]?=some x)(d:scope.names.lookup x=some .local)(m:Nc[j]?=some y)(e:scope.names.lookup y=some .local):
  TgC X Nc scope cl (.Tuple [.Name x p,.Name y f] k pos) (Bh i j) where
 ex:=⟨Cl X.K 2 (BT (B6 i) (BT (B6 j) Ch)),λC n s H=>FU (X:=cxB X Nc scope cl C n s H) hc (CG (B7 c hi (.inl (lookup_relabel_local d)) (.inr (lookup_relabel_local d))) (CG (B7 c m (.inl (lookup_relabel_local e)) (.inr (lookup_relabel_local e))) FT)),
  λv w σ ω H G Q t g r q=>by
   unfold Bh at q;split at q
   ·rename_i a b;cases t with
    | tup h l =>
     cases l with
     | cons ta l =>
      cases l with
      | cons tb l =>
       cases l;exact⟨_,_,rfl,h,rfl,_,_,rfl,_,_,rfl,rfl,q _ H .refl ((g.set i ta).set j tb) r⟩
   ·exact q.elim⟩
 mono:=Pa
def BN(i j k:Nat):GG:=λw ω G Q=>match w with
 | .tup [a,b,c]=>Q (((ω.set i (some a)).set j (some b)).set k (some c)) G
 | _=>False
theorem Qz:GG.M (BN i j k):=λw ω G Q a h q=>by
 unfold BN at q ⊢;split
 ·exact h _ _ q
 ·rename_i z;split at q
  ·exact(z _ _ _ rfl).elim
  ·exact q
theorem QA(v:V)(w:W)(σ:St)(ω:Sw)(H:Hp)(G:Hw)(Q:St->Hp->Prop)(t:Tr K H v w)(ts:TrSt K H σ ω)(r:RelH K H G)(q:BN i j k w ω G (dnS K H Q)):
  Cl K 3 (BT (B6 i) (BT (B6 j) (BT (B6 k) Ch))) v σ H Q:=by
 unfold BN at q;split at q
 ·cases t with
  | tup h l =>
   cases l with
   | cons ta l =>
    cases l with
    | cons tb l =>
     cases l with
     | cons tc l =>
      cases l;exact⟨_,_,rfl,h,rfl,_,_,rfl,_,_,rfl,_,_,rfl,rfl,q _ H .refl (((ts.set i ta).set j tb).set k tc) r⟩
 ·exact q.elim
variable {z:Str}{p2:Pos}
theorem fR{e:Pos}(hc:X.calm=true)(a:Nc.Nodup)(hi:Nc[i]?=some x)(b:scope.names.lookup x=some .local)(f:Nc[j]?=some y)(c:scope.names.lookup y=some .local)(g:Nc[k]?=some z)(d:scope.names.lookup z=some .local):
  TgC X Nc scope cl (.Tuple [.Name x p,.Name y e,.Name z p2] n pos) (BN i j k) where
 ex:=⟨Cl X.K 3 (BT (B6 i) (BT (B6 j) (BT (B6 k) Ch))),λC h s H=>FU (X:=cxB X Nc scope cl C h s H) hc (CG (B7 a hi (.inl (lookup_relabel_local b)) (.inr (lookup_relabel_local b))) (CG (B7 a f (.inl (lookup_relabel_local c)) (.inr (lookup_relabel_local c))) (CG (B7 a g (.inl (lookup_relabel_local d)) (.inr (lookup_relabel_local d))) FT))),
  QA⟩
 mono:=Qz
section
variable {X:Cx} {P:Hp->Prop} {e:Expr} {pos pos':Pos} {ga ge:GE} {gt:GT}
theorem Ht{elt:Expr}(hc:X.calm=true)(B:Blk X Nc scope cl (Bk n js))(j:∀ x,foldedSetIterable iter X.env x=pure x)(hi:Im X tg iter gi)
  (a:TgC X Nc scope cl tg h) (i:∀ C fp s H,Fm (cxB X Nc scope cl C fp s H) ifs gt) (f:∀ C fp s H,Em (cxB X Nc scope cl C fp s H) elt ge):Em X (.ListComp elt [⟨tg,iter,ifs,0⟩] scope pos) (Ba gi n js h gt ge):=by
 have mt:gt.M:=(i 0 [] X.s₀ X.H₀).m;have e:ge.M:=(f 0 [] X.s₀ X.H₀).m;refine⟨?_,K1 hi.m a.mono mt e⟩;obtain⟨k,d,hi⟩:=hi.p;obtain⟨g,c,b⟩:=a.ex;exact AW (OT hc d B c (λC fp s H=>(i C fp s H).p) (λC fp s H=>(f C fp s H).p) j) (Qy hi b a.mono mt e)
end
theorem fS{d:Pos}(hc:X.calm=true)(a:X.N.Nodup)(hi:X.N[i]?=some x)(e:Loc X.env.scope x)(h:X.fn x=true\/X.env.scope.names.lookup x=some .local)
  (l:X.N[j]?=some y) (f:Loc X.env.scope y) (b:X.fn y=true\/X.env.scope.names.lookup y=some .local) (m:X.N[k]?=some z) (g:Loc X.env.scope z) (c:X.fn z=true\/X.env.scope.names.lookup z=some .local):
  TgW X (.Tuple [.Name x p,.Name y d,.Name z p2] n pos) (BN i j k) where
 ex:=⟨_,FU hc (CG (B7 a hi e h) (CG (B7 a l f b) (CG (B7 a m g c) FT))),QA⟩
 mono:=Qz
section
variable {prog:Program} {w:World} {A:Around} {E:Value->Shared->Prop} {s:Shared}
theorem fT{t b:Addr}{j:List Value}{Q:Value->Shared->Prop}(m:IsTup s.heap t #[])(l:IsTup s.heap b j.toArray)(h1:Q (.ref b) s):wpAny (model prog w) A (binaryOp .Add (.ref t) (.ref b)) Q E s:=by
 obtain⟨⟨cls,o,data,k⟩,h,hc,n,hd⟩:=id m;obtain⟨⟨i,e,f,g⟩,c,a,p,d⟩:=id l;simp only at hc hd a d;subst hc hd a d;exact concat_meets ⟨_,h,rfl⟩ ⟨_,c,rfl⟩ noFill_tuple_add seq_tuple_add PySem.F.slot_tuple_add PySem.F.entry_tuple_add (PySem.F.args_tuple_add_2 _ _) (tuple_addW0 t b #[] j.toArray n p o e k g rfl) ⟨h,c,h1⟩
end
def K2(K:PySem.W.Frag):R2:=λx y H Q=>∃ a b ys,x=.ref a/\y=.ref b/\SqT K H a []/\SqT K H b ys/\Q (.ref b) H
theorem fU:OpR X (binaryOp .Add) (K2 X.K):=by
 intro pins s σ H x y v u Q I d e h;obtain⟨a,b,ys,rfl,rfl,i,g,q⟩:=h;cases d;cases e;obtain⟨f,r1,p1,_⟩:=I.tuple i;obtain⟨c,j,p2,_⟩:=I.tuple g;cases r1;exact fT p1 p2 ⟨.ref b,H,I,rfl,q⟩
def BI:RW2:=λx y G Q=>match x,y with
 | .tup xs,.tup ys=>xs.length+ys.length<=sizeLine/\Q (.tup (xs++ys)) G
 | x,y=>AZ x y G Q
variable {G:Hw}{Q:Kw}
theorem Da{xs ys:List W}:BI (.tup xs) (.tup ys) G Q=(xs.length+ys.length<=sizeLine/\Q (.tup (xs++ys)) G):=rfl
theorem Hu{x y:W}(a:¬((∃ xs,x=.tup xs)/\∃ ys,y=.tup ys)):BI x y G Q=AZ x y G Q:=by
 cases x <;> cases y <;> first | rfl | exact absurd ⟨⟨_,rfl⟩,⟨_,rfl⟩⟩ a
theorem QB:RW2.M BI:=λx y G Q b h q=>by
 by_cases a:(∃ xs,x=.tup xs)/\∃ ys,y=.tup ys
 ·obtain⟨⟨xs,rfl⟩,⟨ys,rfl⟩⟩:=a;exact⟨q.1,h _ _ q.2⟩
 ·rw[Hu a]at q ⊢;exact KA _ _ _ _ _ h q
theorem fV:OpR X (binaryOp .Add) (λx y H Q=>((rI0 λi j=>.int (i+j)) x y H Q\/(∃ i j,x=.str i/\y=.str j/\i.length+j.length<=sizeLine/\Q (.str (i++j)) H)\/FY x y H Q)\/K2 X.K x y H Q\/Kc X.K x y H Q):=OpR.or Pc (OpR.or fU bf)
theorem fW(x y:W)(v u:V)(G:Hw)(H:Hp)(Q:VK)(n:Tr K H v x)(ty:Tr K H u y)(r:RelH K H G)(q:BI x y G (dn K H Q)):
  ((rI0 λi j=>.int (i+j)) v u H Q\/(∃ i j,v=.str i/\u=.str j/\i.length+j.length<=sizeLine/\Q (.str (i++j)) H)\/FY v u H Q)\/K2 K v u H Q\/Kc K v u H Q:=by
 by_cases m:(∃ xs,x=.tup xs)/\∃ ys,y=.tup ys
 ·obtain⟨⟨xs,rfl⟩,⟨ys,rfl⟩⟩:=m;rw[Da]at q;cases n with
  | tup k c =>
   cases ty with
   | tup f d =>
    rename_i a o b l;cases c with
    | nil=>exact .inr (.inl ⟨a,b,l,rfl,rfl,k,f,by simpa using q.2 _ H .refl (.tup f d) r⟩)
    | cons h c =>
     refine .inr (.inr ⟨a,b,_,l,rfl,rfl,k,f,by simp,?_,λe=>?_,λe p g=>?_⟩)
     ·rw[(TrL.cons h c).length,d.length];exact q.1
     ·subst e;cases d;have:=q.2 (.ref a) H .refl (by simpa using Tr.tup k (.cons h c)) r;exact this
     ·exact q.2 _ _ (Mono.new g _) (.tup (SqT.of B0) (((TrL.cons h c).append d).mono (Mono.new g _))) (r.mono0 g)
 ·refine .inl (Pd x y v u G H Q n ty r ?_);rwa [Hu m]at q
theorem Hv{a b:Expr}{ga:GE}(c:Em X a ga)(d:Em X b gb):Em X (.BinOp a .Add b pos) (Ad BI ga gb):=⟨DO fV QB c.m d.m fW c.p d.p,Ct QB c.m d.m⟩
end L3
namespace L3
open PySem PySem.Spec PyProof.Rows L2
variable {K:PySem.W.Frag} {H H' H2:Hp}
theorem TrP.lookup{α:Type}[BEq α]:∀{vs:List (α×V)}{b:List (α×W)}{f:α}{w:W},TrP K H vs b->b.lookup f=some w->∃ v,vs.lookup f=some v/\Tr K H v w
 | _,_,_,_,.nil,e=>by cases e
 | _,_,f,w,.cons (f:=g) r t,e=>by
  rw[List.lookup_cons]at e ⊢;cases a:f==g with
  | true=>rw[a]at e;cases e;exact⟨_,rfl,r⟩
  | false=>rw[a]at e;exact t.lookup e
theorem TrP.length{α:Type}:∀{vs:List (α×V)}{a:List (α×W)},TrP K H vs a->vs.length=a.length
 | _,_,.nil=>rfl
 | _,_,.cons _ t=>congrArg (·+1) t.length
section
variable {X:Cx} {P:Hp->Prop} {o e value:Expr} {es:List Expr} {f m:Str} {C:Addr} {pos pos' tpos apos p:Pos} {ga gv:GE} {gs:GA} {ex:Xw}
theorem Mono.ins{p C:Addr}{xs:List (Str×V)}(a:H p=some (.ins C dx xs))(o:HO):Mono K H (upd H p o):=Mono.was a _ (λ_ z=>by cases z) (λ_ _ z=>by cases z)
structure DfM(P:Program)(w:World)(K:PySem.W.Frag)(mg:Str->Option Value)(base:Heap)(C:Addr)(m:Str)(k n:Nat)(sp:Spw):Prop where
 ex:∃(f:Addr)(fd:FuncData)(ps:List Str),aT K C m f/\Binds K fd ps []/\ps.length=n/\FnOk P w K mg base (CXe P w) k f fd ps (Es K sp)
 mono:sp.M
end
section
variable {X:Cx} {P:Hp->Prop} {o e value:Expr} {es:List Expr} {f m:Str} {C:Addr} {pos pos' tpos apos p:Pos} {ga gv:GE} {gs:GA} {ex:Xw}
end
section
variable {P:Program} {w:World} {mg:Str->Option Value} {base:Heap} {C:Addr}
theorem DfM.le{m:Str}{j k n:Nat}{sp:Spw}(D:DfM P w K mg base C m j n sp)(h:j<=k):DfM P w K mg base C m k n sp :=
 ⟨let⟨f,fd,ps,h1,h2,h3,F⟩:=D.ex;⟨f,fd,ps,h1,h2,h3,F.mono h⟩,D.mono⟩
end
def K3:GS:=λ_ _ _=>False
theorem fX{X:Cx}{P:Hp->Prop}{st:Stmt}:Sm X P st K3:=⟨(by rintro B a pins s σ H D I ⟨ω,G,c,r,d,q⟩;exact q.elim),λω G D b _ _ _ _ q=>q⟩
def isStr(o:W)(_:Hw):Prop:=∃ x,o=.str x
end L3
namespace HT
open PySem PySem.Spec PyProof.Rows
section
variable {prog:Program} {w:World} {A:Around} {E:Value->Shared->Prop} {s:Shared}
theorem getItem_tuple_whole{t c:Addr}{items:Array Value}{i j:Value}{lo hi:Option Int}{Q:Value->Shared->Prop}(a:IsTup s.heap t items)(g:s.heap.IsSliceOf c i j .none)(pl:IsPart i lo)(l:IsPart j hi)
  (hw:sIx items.size 0 lo=0/\sIx items.size items.size hi=items.size) (h:Q (.ref t) s):wpAny (model prog w) A (getItem (.ref t) (.ref c)) Q E s:=by
 obtain⟨os,d,f,k⟩:=id g;have e:s.TypeIs (.ref c) "slice":=⟨os,d,f⟩;unfold getItem
 try with_reducible refine wpAny_holding ?_
 first | refine Qm (Qn ?_)| skip
 refine Qm (wpAny_sequenceKey a.typeIs (by decide) ?_)
 refine Qm (wpAny_callSpecial?_slot (name:=Str.ofString "__getitem__") a.typeIs PyProof.Rows.slot_tuple_getitem
  (wpAny_call_entry PyProof.Rows.slot_tuple_getitem a.typeIs entry_tuple_getitem ?_ (args_tuple_getitem _ _)))
 show wpAny _ _ (Builtin.Tuple.tupleItemsOf (.ref t) >>=_) _ _ s;refine Qm (tupleItemsOf_ a ?_);refine Qm (wpAny_typeOf e ?_);rw[if_pos (by decide)];refine Qm (Ot g pl l ?_)
 have b:(((sIx items.size 0 lo:Nat):Int)==0&&(1:Int)==1&&(sIx items.size items.size hi - sIx items.size 0 lo)==items.size)=true:=by
  rw[hw.1,hw.2];simp
 show wpAny _ _ (if(((sIx items.size 0 lo:Nat):Int)==0&&(1:Int)==1&&(sIx items.size items.size hi - sIx items.size 0 lo)==items.size)=true then _ else _) _ _ s;rw[if_pos b];have m:=a.typeIs;unfold Builtin.Tuple.tupleIsExact
 repeat (any_goals (first | assumption | wp_step))
 exact⟨_,rfl,Qn h⟩
end
end HT
namespace L3
open PySem PySem.Spec PyProof.Rows L2
variable {K:PySem.W.Frag} {H H' H2:Hp}
def QC(K:PySem.W.Frag):V->Option Int->Option Int->Hp->VK->Prop:=λx lo hi H Q=>∃ a xs,x=.ref a/\SqT K H a xs/\(HT.sIx xs.length 0 lo=0/\HT.sIx xs.length xs.length hi=xs.length)/\Q (.ref a) H
variable {X:Cx}
theorem fY:SlR X (QC X.K):=by
 intro pins s σ H x v k m lo hi j Q I e f pl i h;obtain⟨a,xs,rfl,g,hw,q⟩:=h;cases e;obtain⟨c,r,d,l⟩:=I.tuple g;have b:c.toArray.size=xs.length:=by rw[Yn];exact r.length.symm
 refine⟨"tuple",_,PyProof.Rows.slot_tuple_getitem.lookup,d.typeIs,?_⟩;exact HT.getItem_tuple_whole d f pl i (by rw[b];exact hw) ⟨.ref a,H,I,rfl,q⟩
def QD:V->Option Int->Option Int->Hp->VK->Prop:=λx lo hi H Q=>∃ z,x=.str z/\z.length<=sizeLine/\Q (.str (Txt.slice z lo hi)) H
theorem fZ:SlR X QD:=by
 intro pins s σ H x v p r lo hi o Q I g m pl f h;obtain⟨z,rfl,e,q⟩:=h;obtain⟨t,rfl⟩:=g;obtain⟨os,b,d,a⟩:=id m;refine⟨"str",_,F.slot_str_getitem.lookup,typeIs_str _ _ _,?_⟩;have c:∀ t' k,EP X pins σ Q (.str (Txt.slice z lo hi) t') {s with toks:=k}:=λt' k=>⟨.str _,H,I.tok k,⟨t',rfl⟩,q⟩;cases pl with
 | none =>
  cases f with
  | none=>exact wpAny_getItem_str_slice (l:=none) (u:=none) (st:=none) ⟨os,b,d,a⟩ rfl (post_val_or_str ⟨Yt (Txt.slice_le z _ _) e,c⟩)
  | int j u=>exact wpAny_getItem_str_slice (l:=none) (u:=some (j,u)) (st:=none) ⟨os,b,d,a⟩ rfl (post_val_or_str ⟨Yt (Txt.slice_le z _ _) e,c⟩)
 | int i u =>
  cases f with
  | none=>exact wpAny_getItem_str_slice (l:=some (i,u)) (u:=none) (st:=none) ⟨os,b,d,a⟩ rfl (post_val_or_str ⟨Yt (Txt.slice_le z _ _) e,c⟩)
  | int j n=>exact wpAny_getItem_str_slice (l:=some (i,u)) (u:=some (j,n)) (st:=none) ⟨os,b,d,a⟩ rfl (post_val_or_str ⟨Yt (Txt.slice_le z _ _) e,c⟩)
def slA(w:W)(lo hi:Option Int)(G:Hw)(Q:Kw):Prop:=match w with
 | .tup xs=>Q (.tup (Cd xs lo hi)) G
 | .str z=>z.length<=sizeLine/\Q (.str (Txt.slice z lo hi)) G
 | w=>slW w lo hi G Q
variable {w:W}{lo hi:Option Int}{G:Hw}
theorem QE{Q d:Kw}(h:∀ w c,Q w c->d w c)(q:slA w lo hi G Q):slA w lo hi G d:=by
 cases w with
 | tup xs=>exact h _ _ q
 | str z=>exact⟨q.1,h _ _ q.2⟩
 | non=>exact Ql q
 | bl b=>exact Ql q
 | int i=>exact Ql q
 | rol xs=>exact Hr (w:=.rol xs) (lo:=lo) (hi:=hi) (G:=G) h q
 | ref a=>exact Hr (w:=.ref a) (lo:=lo) (hi:=hi) (G:=G) h q
theorem f9{v:V}{Q:VK}(t:Tr K H v w)(r:RelH K H G)(q:slA w lo hi G (dn K H Q)):((Kb K v lo hi H Q\/Ki K v lo hi H Q)\/QC K v lo hi H Q)\/QD v lo hi H Q:=by
 cases t with
 | tup h l =>
  rename_i a d c;by_cases hw:HT.sIx c.length 0 lo=0/\HT.sIx c.length c.length hi=c.length
  ·refine .inl (.inr ⟨a,d,rfl,h,by rw[l.length];exact hw,?_⟩);refine q _ H .refl ?_ r;have e:Cd c lo hi=c:=by unfold Cd;rw[hw.1,hw.2];simp
   rw[e];exact .tup h l
  ·exact .inl (.inl (Hs (.tup h l) r ⟨hw,q⟩))
 | str z=>exact .inr ⟨z,rfl,q.1,q.2 _ H .refl (.str _) r⟩
 | non=>exact Ql q
 | bl b=>exact Ql q
 | int i=>exact Ql q
 | rol h l=>exact .inl (.inl (Hs (.rol h l) r q))
 | ref a=>exact .inl (.inl (Hs (.ref a) r q))
section
variable {X:Cx} {a b e:Expr} {ga gb:GE} {pos:Pos}
def BV(ga:GE)(gl gh:GO):GE:=λω G Q=>ga ω G λw G1=>gl ω G1 λlo G2=>gh ω G2 λhi G3=>slA w lo hi G3 Q
theorem gf{lo hi:Option Expr}{j n:GO}(c:Em X e ga)(hl:Om X lo j)(f:Om X hi n):Em X (.Subscript e (.Slice lo hi none p2) pos) (BV ga j n):=
 ⟨AW (Ou (SlR.or (SlR.or (SlR.or Ow Oz) fY) fZ) c.p hl.p f.p) λσ H Q⟨ω,G,g,r,q⟩=>⟨ω,G,g,r,c.m _ _ _ _ (λw k z v H1 d t r1=>⟨ω,k,g.mono d,r1,hl.m _ _ _ _ (λl s a H2 i y=>
   ⟨ω,s,(g.mono d).mono i,y,f.m _ _ _ _ (λh x b D o A=>f9 ((t.mono i).mono o) A (QE (λw B z=>Cs ((d.trans i).trans o) z) b)) a⟩) z⟩) q⟩,
  λω G Q E h q=>c.m _ _ _ _ (λw k z=>hl.m _ _ _ _ (λl s a=>f.m _ _ _ _ (λu x b=>QE h b) a) z) q⟩
end
theorem StrsAre.len:∀{vs:List Value}{ys:List Str},StrsAre vs ys->vs.length=ys.length
 | _,_,.nil=>rfl
 | _,_,.cons _ _ r=>congrArg (·+1) (StrsAre.len r)
section
variable {prog:Program} {w:World} {A:Around} {E:Value->Shared->Prop} {s:Shared}
end
def Dq:RW2:=λx y G Q=>match x,y with
 | .int i,.int j=>CMul i j/\Q (.int (i*j)) G
 | .str x,.int n=>MulOk x n/\Q (.str (Txt.mul x n)) G
 | .ref a,.int k=>(match G a with
  | some (.lst xs)=>-(2 ^ 63)<=k/\k < 2 ^ 63/\xs.length*k.toNat<=sizeLine/\∀ p,G p=none->Q (.ref p) (put G p (.lst (List.replicate k.toNat xs).flatten))
  | _=>False)
 | _,_=>False
theorem QF:RW2.M Dq:=λx y G Q c h q=>by
 cases x <;> cases y <;> first | exact q | exact⟨q.1,h _ _ q.2⟩| skip
 rename_i a k;unfold Dq at q ⊢;dsimp only at q ⊢;cases e:G a with
 | none=>rw[e]at q;exact q
 | some o =>
  rw[e]at q;cases o <;> first | exact q | exact⟨q.1,q.2.1,q.2.2.1,λp b=>h _ _ (q.2.2.2 p b)⟩
def QG:R2:=λx y H Q=>∃ z n,x=.str z/\y=.int n/\MulOk z n/\Q (.str (Txt.mul z n)) H
theorem gj:OpR X (binaryOp .Mult) QG:=by
 intro pins s σ H x y v u Q I a b h;obtain⟨z,n,rfl,rfl,ok,q⟩:=h;obtain⟨t,rfl⟩:=a;obtain⟨c,rfl⟩:=b;exact SB.mul ok λt' k=>⟨.str _,H,I.tok k,⟨t',rfl⟩,q⟩
theorem TrL.rep{vs:List V}{a:List W}(t:TrL K H vs a):∀ k:Nat,TrL K H (List.replicate k vs).flatten (List.replicate k a).flatten
 | 0=>.nil
 | k+1=>by
  rw[List.replicate_succ,List.replicate_succ,List.flatten_cons,List.flatten_cons];exact t.append (t.rep k)
theorem gm(x y:W)(v u:V)(G:Hw)(H:Hp)(Q:VK)(f:Tr K H v x)(ty:Tr K H u y)(r:RelH K H G)(q:Dq x y G (dn K H Q)):(rI CMul λi j=>.int (i*j)) v u H Q\/QG v u H Q\/OF v u H Q:=by
 cases f with
 | int i=>cases ty <;> first | exact q.elim | exact .inl ⟨_,_,rfl,rfl,q.1,q.2 _ H .refl (.int _) r⟩
 | str z=>cases ty <;> first | exact q.elim | exact .inr (.inl ⟨_,_,rfl,rfl,q.1,q.2 _ H .refl (.str _) r⟩)
 | ref a =>
  cases ty <;> try exact q.elim
  unfold Dq at q;dsimp only at q;cases b:G a with
  | none=>rw[b]at q;exact q.elim
  | some g =>
   rw[b]at q;cases g <;> try exact q.elim
   obtain⟨h,e,d⟩:=r a _ b;exact .inr (.inr ⟨a,_,h,rfl,rfl,e,q.1,q.2.1,by rw[d.length];exact q.2.2.1,λp c=>q.2.2.2 p (r.no c) _ _ (Mono.new c _) (.ref p) (r.new c (d.rep _))⟩)
 | _=>exact q.elim
variable {ga:GE}{pos:Pos}
theorem QH{a b:Expr}(c:Em X a ga)(d:Em X b gb):Em X (.BinOp a .Mult b pos) (Ad Dq ga gb):=⟨DO (OpR.or Oe (OpR.or gj bF)) QF c.m d.m gm c.p d.p,Ct QF c.m d.m⟩
def gn(K:PySem.W.Frag)(tl:TE):TI:=λσ H R=>tl σ H λx H1=>(∃ a,x=.ref a/\(∃ xs,SqL K H1 a xs)/\R (Itl K a) H1)\/(∃ a,x=.ref a/\(∃ xs,SqT K H1 a xs)/\R (Itt K a) H1)
variable {tg l:Expr}
theorem gp(hl:PE X l tl):PI X tg l (gn X.K tl):=by
 intro pins s σ H R I h;refine thn (hl pins s σ H _ I h) λv c j=>?_;obtain⟨x,H1,d,r1,q1⟩:=j;rcases q1 with⟨a,e,⟨xs,g⟩,q⟩|⟨a,e,⟨xs,g⟩,q⟩
 ·subst e;cases r1;obtain⟨f,k,p,m⟩:=d.list g;refine wpAny_pyIter_list p.isList ?_;refine⟨c.heap.objs.size,[c.heap.objs.size],_,_,H1,rfl,d.kept (t':=c.toks) λb o e=>Qo _ e,Ob a _,⟨_,Qq _ rfl,rfl,rfl⟩,λb i=>?_,q⟩;have e:b=c.heap.objs.size:=by simpa using i
  subst e;walk_at "pj"
 ·subst e;cases r1;obtain⟨f,k,p,m⟩:=d.tuple g;refine wpAny_pyIter_tuple (show c.heap.IsTuple a f.toArray from p) ?_;refine⟨c.heap.objs.size,[c.heap.objs.size],_,_,H1,rfl,d.kept (t':=c.toks) λb o e=>Qo _ e,Oc a _,⟨_,Qq _ rfl,rfl,rfl⟩,λb i=>?_,q⟩;have e:b=c.heap.objs.size:=by simpa using i
  subst e;walk_at "pj"
def BO(ga:GE):GI:=λω G R=>ga ω G λw G1=>match w with
 | .tup ws=>R ws yes G1
 | .rol ws=>R ws yes G1
 | .ref a=>match G1 a with | some (.lst ws)=>R ws (holds a ws) G1 | _=>False
 | _=>False
theorem gq(m:ga.M):GI.M (BO ga):=λω G R d h q=>m _ _ _ _ (λw c z=>by
 cases w with
 | tup b=>exact h _ _ _ z
 | rol b=>exact h _ _ _ z
 | ref a =>
  dsimp only at z ⊢;cases e:c a with
  | none=>rw[e]at z;exact z
  | some o =>
   rw[e]at z;cases o <;> first | exact h _ _ _ z | exact z
 | _=>exact z) q
theorem gr(hl:Em X l ga):Im X tg l (BO ga):=by
 refine⟨⟨_,gp hl.p,λσ H ω G R s g r q k=>⟨ω,G,g,r,hl.m _ _ _ _ (λw f z v H1 m t r1=>?_) q⟩⟩,gq hl.m⟩;cases t with
 | tup h l=>exact .inr ⟨_,rfl,⟨_,h⟩,k _ _ _ H1 _ z m r1 trivial (O6 h l)⟩
 | rol h l=>exact .inl ⟨_,rfl,⟨_,h.sq⟩,k _ _ _ H1 _ z m r1 trivial (Hj λH2 j b _ _=>⟨_,(b.rol _ _ h).sq,l.mono b⟩)⟩
 | ref a =>
  dsimp only at z;cases e:f a with
  | none=>rw[e]at z;exact z.elim
  | some o =>
   rw[e]at z;cases o with
   | lst u =>
    obtain⟨c,d,n⟩:=r1 a _ e;exact .inl ⟨a,rfl,⟨c,SqL.of d⟩,k _ _ _ H1 _ z m r1 e (Hj λH2 j b i g2=>let⟨c,e2,t2⟩:=i a _ g2;⟨c,SqL.of e2,t2⟩)⟩
   | _=>exact z.elim
 | _=>exact z.elim
variable {x:Str}
theorem Hx{P:Hp->Prop}{elt:Expr}{pos' a:Pos}{i:Nat}{Nc:List Str}{n:Nat}{js:List Nat}{o:GG}(E:X.N.Nodup)(k:X.N[i]?=some x)(I:F1 X.env.scope x=true)
  (c:swapsWith (.ListComp elt [⟨tg,iter,ifs,0⟩] scope pos) (some (.Name x pos')) a.line X.env=pure true) (hc:X.calm=true) (B:Blk X Nc scope cl (Bk n js)) (F:∀ x,foldedSetIterable iter X.env x=pure x) (hi:Im X tg iter gi)
  (b:TgC X Nc scope cl tg o) (A:∀ C fp s H,Fm (cxB X Nc scope cl C fp s H) ifs gt) (y:∀ C fp s H,Em (cxB X Nc scope cl C fp s H) elt ge):
  Sm X P (.Assign [.Name x pos'] (.ListComp elt [⟨tg,iter,ifs,0⟩] scope pos) a) (Ap i (Ba gi n js o gt ge)):=by
 have mt:gt.M:=(A 0 [] X.s₀ X.H₀).m;have h:ge.M:=(y 0 [] X.s₀ X.H₀).m;refine⟨λR O=>?_,O1 (K1 hi.m b.mono mt h)⟩;obtain⟨Q,f,l⟩:=hi.p;obtain⟨g,d,e⟩:=b.ex;refine CH (b7 (tt:=upT X.K gt) (te:=up X.K ge) E k (F2 I) c hc f B d (λC fp s H=>(A C fp s H).p) (λC fp s H=>(y C fp s H).p) F) λD σ H j=>?_;obtain⟨ω,G,u,r,J,q⟩:=j;refine Qy l e b.mono mt h σ H _ ⟨ω,G,u,r,K1 hi.m b.mono mt h _ _ _ _ (λw L z v H1 m t r1=>?_) q⟩;exact z _ H1 (J.trans m) ((u.mono m).set i t) r1
section
variable {X:Cx} {CX:CXT} {k:Nat} {f:Addr} {fd:FuncData} {ps:List Str} {sp:Sp} {Eσ:St->XK} {x:Str} {p pos:Pos} {e:Expr} {es:List Expr} {t:TA}
variable {i:Nat}
theorem gw{E:Value->Shared->Prop}{s:Shared}{v:V}{Q:Value->Shared->Prop}(I:Inv X pins σ H s)(g:X.N[i]?=some x)(k:Vis X.env.scope x)(e:σ[i]?=some (some v))(hd:(x==("__debug__":Str))=false)(f:(x==("__classdict__":Str))=false)
  (b:∀ u,RelV v u->Q u s):wpAny (model X.prog X.w) X.A (eval (.Name x pos) X.env) Q E s:=by
 obtain⟨m,h,hl⟩:=I.loc;obtain⟨u,r,l⟩:=hl i x v g e k;rcases l with⟨d,j⟩|⟨d,c,hc,a⟩
 ·exact wpAny_Name (wpAny_loadName_local I.ok.kind d h j (b u r)) hd
 ·rcases d with d | d
  ·exact wpAny_Name (wpAny_loadName_cell I.ok.kind d hc a (b u r)) hd
  ·exact wpAny_Name (wpAny_loadName_free I.ok.kind d hc a (b u r) f) hd
theorem gz(F:FnOk X.prog X.w X.K X.mg X.base CX k f fd ps sp)(E:Room k X.A)(o:X.N[i]?=some x)(J:Vis X.env.scope x)(B:PySem.W.keepIn X.K (.ref f)=true)(v:Binds X.K fd ps [])(z:FZ CX X Eσ)
  (L:PA X (e::es) t) (l:(x==("__debug__":Str))=false) (g:(x==("__classdict__":Str))=false) (D:starEach (e::es) X.env=(false,eval e X.env)::starEach es X.env) (d:(backTo pos (starEach es X.env)).any (·.1)=false):
  PE X (.Call (.Name x p) (e::es) [] pos) (λσ H Q=>σ[i]?=some (some (.ref f))/\OV sp [] Eσ t σ H Q):=by
 intro pins s σ H Q I ⟨hi,h⟩;refine wpAny_Call_Name_kw (gw I o J hi l g λu y=>?_);cases y;refine PySem.W.callWith_K (h₀:=X.base) I.ok.mod.kin B (thn (L pos pins s σ H _ I h) λb j⟨n,H1,c,r,q⟩=>⟨c.kIn,?_⟩) D d;have m:Vals (n++[]) (b++[]):=r.append .nil;have hl:(b++[]).length=ps.length:=by rw[<- m.length];exact F.len _ _ _ _ q
 refine wpAny_call (codeAny_mono (F.run X.A X.stack j H1 ⟨b,[]⟩ (b++[]) (n++[]) Q (Eσ σ) E c.env0 (v j b c.kIn hl) m q) λr s' a=>?_);cases r with
 | error e=>exact z pins σ H1 j e s' c a
 | ok G =>
  cases G with
  | ret u=>exact c.after a
  | next=>exact Ql a
  | brk=>exact Ql a
  | cont=>exact Ql a
end
def fAt(mg:Str->Option Value)(x:Str):Addr:=match mg x with | some (.ref f)=>f | _=>0
theorem QI{mg:Str->Option Value}{f:Addr}(h:mg x=some (.ref f)):fAt mg x=f:=by unfold fAt;rw[h]
section
variable {X:Cx} {e:Expr} {es:List Expr} {pos p:Pos} {ga gb:GE} {gs:GA} {ex:Xw}
def Cz(i:Nat)(f:Addr)(sp:Spw)(ex:Xw)(gs:GA):GE:=λω G Q=>ω[i]?=some (some (.ref f))/\gs ω G λws G1=>sp ws G1 Q (ex ω)
variable {i:Nat}{sp:Spw}
theorem gA{f:Addr}(m:sp.M)(a:gs.M):GE.M (Cz i f sp ex gs):=λω G Q d h q=>⟨q.1,a _ _ _ _ (λb c q1=>m _ _ _ _ _ _ h (λ_ _ z=>z) q1) q.2⟩
variable {y:Str}{k n:Nat}
theorem gD(D:Df X.prog X.w X.K X.mg X.base y k n sp)(I:Room k X.A)(o:X.N[i]?=some x)(O:Vis X.env.scope x)(S:DP X ex)(T:gs.M)(R:PAw X (e::es) gs)
  (g:(x==("__debug__":Str))=false) (b:(x==("__classdict__":Str))=false) (E:starEach (e::es) X.env=(false,eval e X.env)::starEach es X.env) (c:(backTo pos (starEach es X.env)).any (·.1)=false):
  PEw X (.Call (.Name x p) (e::es) [] pos) (Cz i (fAt X.mg y) sp ex gs):=by
 obtain⟨f,fd,ps,J,B,s,_,F⟩:=D.ex;rw[QI J];refine AW (gz F I o O B s S R g b E c) λσ H Q a=>?_;obtain⟨ω,G,d,r,P,q⟩:=a;obtain⟨v,ev,tv⟩:=d.get i _ P;cases tv;refine⟨ev,ω,G,d,r,T _ _ _ _ (λu m q1 U H1 l h r1=>?_) q⟩;refine⟨u,m,by rw[Yx];exact h,r1,D.mono _ _ _ _ _ _ (λw j z=>Cs l z) (λC j z H2 L t=>?_) q1⟩;exact⟨C,ω,j,rfl,(d.mono l).mono L,t,z⟩
theorem Hy(D:Df X.prog X.w X.K X.mg X.base y k n sp)(g:Room k X.A)(hi:place X.N x=some i)(j:seen X.env.scope x=true)(h:DP X ex)(b:(x==("__debug__":Str))=false)(c:(x==("__classdict__":Str))=false)(f:starEach (e::es) X.env=(false,eval e X.env)::starEach es X.env)(d:(backTo pos (starEach es X.env)).any (·.1)=false)
  (a:Am X (e::es) gs):Em X (.Call (.Name x p) (e::es) [] pos) (Cz i (fAt X.mg y) sp ex gs):=⟨gD D g (dN hi) (Pg j) h a.m a.p b c f d,gA D.mono a.m⟩
theorem Hz(D:Df X.prog X.w X.K X.mg X.base x k n sp)(b:Gl X x)(hd:(x==("__debug__":Str))=false):Em X (.Name x pos) (gC (.ref (fAt X.mg x))):=by
 obtain⟨f,fd,ps,a,d,c,_,F⟩:=D.ex;rw[QI a];exact⟨OZ (v:=.ref f) b a rfl (λH=>.ref f) hd,E7⟩
end
end L3
namespace L3
open PySem PySem.Spec PyProof.Rows L2
variable {n:Nat}
theorem gE(h:n < 128):(SetTable.sizeAbove n=8\/SetTable.sizeAbove n=16\/SetTable.sizeAbove n=32\/SetTable.sizeAbove n=64\/SetTable.sizeAbove n=128)/\n < SetTable.sizeAbove n:=by
 have:∀ m:Fin 128,(SetTable.sizeAbove m.1=8\/SetTable.sizeAbove m.1=16\/SetTable.sizeAbove m.1=32\/SetTable.sizeAbove m.1=64\/SetTable.sizeAbove m.1=128)/\m.1 < SetTable.sizeAbove m.1:=by decide +kernel
 exact this ⟨n,h⟩
theorem QJ(h:n < 128):Tb.cover (SetTable.sizeAbove n - 1+1)=true/\n < SetTable.sizeAbove n/\SetTable.sizeAbove n<=128:=by
 obtain⟨h1,h2⟩:=gE h;rcases h1 with e | e | e | e | e <;> rw[e]at h2 ⊢
 ·exact⟨Tb.cover8,h2,by decide⟩
 ·exact⟨Tb.cover16,h2,by decide⟩
 ·exact⟨Tb.cover32,h2,by decide⟩
 ·exact⟨Tb.cover64,h2,by decide⟩
 ·exact⟨Tb.cover128,h2,by decide⟩
theorem QK{t:SetTable}(h1:t.place.size=n)(h2:t.dummies=#[])(a:n<=t.mask):t.fits n=true:=by
 unfold SetTable.fits SetTable.fill;rw[h2,h1];simp;exact a
section
variable {prog:Program} {w:World} {A:Around} {E:Value->Shared->Prop} {s:Shared}
variable {ks:List Str}
theorem QL{es:Array (Int×Value)}{t:SetTable}(T:Tab w es t ks){mask f m:Nat}{l p:Bool}(hc:Tb.cover (mask+1)=true)(o:ks.length<=mask)(hl:bt w=false->l=true)(k:p=true->ks=[]):
  ∃ t' a,SetTable.laid mask f m l p (es.map (·.1))=some (t',a)/\(a.filterMap (es[·]?)).size=es.size/\Tab w (a.filterMap (es[·]?)) t' ks:=by
 have q:=T.len;obtain⟨t',a,e,b,i,g,h,j,n⟩:=Tb.laid_ok hc f m l p (es.map (·.1)) (by rw[Array.size_map];omega);rw[Array.size_map]at b g;have d:=Tb.order_perm es a b;have c:(a.filterMap (es[·]?)).size=es.size:=by rw[<- YW,d.length_eq,YW]
 refine⟨t',a,e,c,T.perm d ?_ (λz=>by rw[j];exact hl z) λz=>k (by rw[<- n];exact z)⟩;rw[c];exact QK g h (by rw[i];omega)
variable {a:Addr}{Q:Unit->Shared->Prop}
theorem gF(g:SS w s.heap a ks)(j:n < 128)(u:ks.length<=n)
  (h:∀ h',Heap.SameBut a s.heap h'->SS w h' a ks->Q () {s with heap:=h'}):wpAny (model prog w) A (setRelay a n) Q E s:=by
 obtain⟨o,es,q,t,d,i,hd,T⟩:=g;obtain⟨hc,h1,h2⟩:=QJ j;have r:=T.len;unfold setRelay;refine Qm (wpAny_setState_of d hd T.ft ?_);dsimp only
 rw[if_neg (by have:(128:Nat)<=sizeLine:=by decide
               omega)]
 obtain⟨t',b,e,c,k⟩:=QL (f:=t.finger) (m:=t.movedTo (SetTable.sizeAbove n - 1)) (l:=t.led) (p:=t.plain) T hc (by omega) T.ld T.pl;refine Qm ?_;unfold SetTable.relaid;rw[e];show wpAny (model prog w) A (if((b.filterMap (es[·]?)).size != es.size)=true then _ else pure (b.filterMap (es[·]?),t')) _ E s;rw[if_neg (by rw[c];simp)];refine Qn (wpAny_storeSet_of d hd ?_ (fits_of_scanBound (by rw[c];unfold scanBound;omega)));exact h _ (Qs s.heap a _) (E6 d i hd k).2
theorem QM(c:SS w s.heap a ks)(i:ks.length+n < 64)
  (h:∀ h',Heap.SameBut a s.heap h'->SS w h' a ks->Q () {s with heap:=h'}):wpAny (model prog w) A (setRoomFor a n) Q E s:=by
 have b:=c;obtain⟨o,es,f,t,d,g,hd,T⟩:=c;have k:=T.len;unfold setRoomFor;refine Qm (wpAny_setState_of d hd T.ft ?_)
 have j:t.place.size=es.size:=by
  have:=T.ft;unfold SetTable.fits at this;simp only[YH,beq_iff_eq]at this;exact this.1
 dsimp only;unfold SetTable.roomFor;split
 ·rename_i v e;split at e
  ·cases e;exact gF b (by omega) (by omega) h
  ·cases e
 ·exact Qn (h s.heap (Heap.SameBut.refl a s.heap) b)
end
theorem K4{α:Type}:∀(l:List α)(i:Nat)(h:i < l.length),(l[i]::l.eraseIdx i).Perm l
 | a::l,0,h=>List.Perm.refl _
 | a::l,i+1,h=>by
  have h':i < l.length:=Nat.lt_of_succ_lt_succ h;exact(List.Perm.swap a (l[i]'h') (l.eraseIdx i)).trans ((K4 l i h').cons a)
theorem QN{α:Type}(next:Nat->Nat):∀(n k:Nat)(a:List α)(out:Array α),a.length=n->(pickOrder.go next n k a out).toList.Perm (out.toList++a)
 | 0,k,a,out,h=>by
  obtain rfl:=Qj.mp h;rw[Yx];exact List.Perm.refl _
 | n+1,k,a,out,h=>by
  have b:next k % a.length < a.length:=Nat.mod_lt _ (by omega)
  unfold pickOrder.go;rw[Yp b];dsimp only;refine(QN next n (k+1) _ _ (by rw[List.length_eraseIdx_of_lt b];omega)).trans ?_;rw[Array.toList_push,Yv];refine List.Perm.append_left _ ?_;exact K4 a _ b
theorem QO{α:Type}(next:Nat->Nat)(xs:Array α):(pickOrder next xs).toList.Perm xs.toList:=by
 have:=QN next xs.size 0 xs.toList #[] (by simp)
 unfold pickOrder;simpa using this
section
variable {prog:Program} {w:World} {A:Around} {E:Value->Shared->Prop} {s:Shared}
theorem K5{Q:Option Bool×Unit->Shared->Prop}{f:Int×Value->Option Bool×Unit->Sem (ForInStep (Option Bool×Unit))}(a:∀ e,(∃ x u,e=(hashStr w x,Value.str x u))->f e (none,())=pure (ForInStep.yield (none,()))):
  ∀(l:List (Int×Value)),(∀ e∈l,∃ x u,e=(hashStr w x,Value.str x u))->Q (none,()) s->wpAny (model prog w) A (forIn l (none,()) f) Q E s
 | [],_,q=>Qn q
 | e::l,h,q=>by
  rw[List.forIn_cons,a e (h e Ye)];exact Qm (Qn (K5 a l (λx b=>h x (Yd _ b)) q))
theorem gG{a b:Addr}{n:List Str}{Q:Bool->Shared->Prop}(k:SS w s.heap a n)(j:SS w s.heap b h)(q:Q true s):wpAny (model prog w) A (setsQuiet [a,b]) Q E s:=by
 obtain⟨t,i,pa,ta,m,p,hd,T⟩:=k;obtain⟨r,eb,o,tb,d,l,f,g⟩:=j;have hyield:∀ e:Int×Value,(∃ x u,e=(hashStr w x,Value.str x u))->True:=λ_ _=>trivial;unfold setsQuiet;refine Qm ?_;rw[List.forIn_cons];refine Qm (Qm (wpAny_setEntries_of m hd T.ft ?_));rw[<- Array.forIn_toList];refine Qm (K5 (w:=w) (λe c=>?_) i.toList T.el (Qn ?_))
 ·obtain⟨x,u,rfl⟩:=c;rfl
 dsimp only;rw[List.forIn_cons];refine Qm (Qm (wpAny_setEntries_of d f g.ft ?_));rw[<- Array.forIn_toList];refine Qm (K5 (w:=w) (λe c=>?_) eb.toList g.el (Qn ?_))
 ·obtain⟨x,u,rfl⟩:=c;rfl
 dsimp only;rw[List.forIn_nil];exact Qn (Qn q)
theorem gH{o f:Addr}{q ks:List Str}{g:Obj}{es:Array (Int×Value)}{t:SetTable}{Q:Array (Int×Value)->Shared->Prop}(k:s.heap.get? o=some g)(r:g.ExactSet)(hd:g.data=.set es n t)(T:Tab w es t q)(e:SS w s.heap f ks)(v:ks.length < scanBound)
  (h:∀ h' l,Heap.SameBut f s.heap h'->SS w h' f ks->l.toList.Perm es.toList->Q l {s with heap:=h'}):wpAny (model prog w) A (setWalkUnseen o [f] (some f)) Q E s:=by
 have u:=T.len
 have d:bt w=true\/es.size<=1->wpAny (model prog w) A (setWalk o) Q E s:=λhw=>by
  unfold setWalk;refine Qm (wpAny_setState_of k hd T.ft ?_);dsimp only;unfold setsByText;walk_at "pa";show wpAny (model prog w) A (if bt w=true then _ else _) Q E s;by_cases c:bt w=true
  ·rw[if_pos c];exact Qm (wpAny_askSetting (Qn (h s.heap _ (Heap.SameBut.refl _ _) e (QO _ _))))
  ·rw[if_neg c];have h1:es.size<=1:=hw.resolve_left c;show wpAny (model prog w) A (if(!t.plain&&decide (es.size > 1))=true then _ else _) Q E s
   rw[if_neg (by have:¬ es.size > 1:=by omega
                 simp[this])]
   refine Qm ?_;show wpAny (model prog w) A (if(!t.led&&decide (es.size > 1))=true then _ else pure ()) _ E s
   rw[if_neg (by have:¬ es.size > 1:=by omega
                 simp[this])]
   exact Qn (Qn (h s.heap _ (Heap.SameBut.refl _ _) e (List.Perm.refl _)))
 unfold setWalkUnseen;refine Qm (wpAny_setState_of k hd T.ft ?_);dsimp only;unfold setsByText;walk_at "pa";show wpAny (model prog w) A (if(bt w||t.led&&t.plain||decide (es.size<=1))=true then _ else _) Q E s;by_cases hc:(bt w||t.led&&t.plain||decide (es.size<=1))=true
 ·rw[if_pos hc];refine d ?_;simp only[Bool.or_eq_true,YH,YT]at hc;rcases hc with(hc | hc)| hc
  ·exact .inl hc
  ·have:=T.pl hc.2;subst this;exact .inr (by rw[u];decide)
  ·exact .inr hc
 ·rw[if_neg hc];simp only[Bool.or_eq_true,YH,YT,not_or]at hc;have c:bt w=false:=by simpa using hc.1.1
  refine Qm (gG ⟨g,es,n,t,k,r,hd,T⟩ e ?_);rw[if_neg (by decide)];refine Qm (wpAny_rule ?_);have j:=e;obtain⟨of,x,y,m,a,i,b,Tf⟩:=e;refine Qm (wpAny_setState_of a b Tf.ft ?_);dsimp only;split
  ·refine Qm (wpAny_storeSet_of a b ?_ ?_)
   ·refine Qn (h _ _ (Qs s.heap f _) (E6 a i b (Tf.perm (List.Perm.refl _) ?_ (λ_=>?_) λz=>?_)).2 (List.Perm.refl _))
    ·cases m;exact Tf.ft
    ·show(m.led&&t.led)=true;rw[Tf.ld c,T.ld c];rfl
    ·refine Tf.pl ?_;have p:(m.plain&&t.plain)=true:=z;simp only[YH]at p;exact p.1
   ·exact fits_of_scanBound (by rw[Tf.len];exact v)
  ·exact Qn (h _ _ (Heap.SameBut.refl _ _) j (List.Perm.refl _))
theorem QP{a o:Addr}{n:Obj}{es:Array (Int×Value)}{D:Nat}{t:SetTable}(j:o≠a)(hd:n.data=.set es D t)(H:t.fits es.size=true){d:Sem Unit}(G:∀(s':Shared)(F:Unit->Shared->Prop),s'.heap.get? o=some n->F () s'->wpAny (model prog w) A d F E s'){f:Int×Value->PUnit->Sem (ForInStep PUnit)}
  (c:∀ x u,f (hashStr w x,Value.str x u) PUnit.unit=(do let _ <- holding [Value.str x u] (setAddHashed a (Value.str x u) (hashStr w x));d;let r <- setState o;if(r.2.1 != D)=true then(do unsupported "set.changed-during-merge";pure (ForInStep.yield PUnit.unit))else pure (ForInStep.yield PUnit.unit))):
  ∀(l:List (Int×Value))(s:Shared)(ks:List Str)(Q:PUnit->Shared->Prop),(∀ e∈l,∃ x u,e=(hashStr w x,Value.str x u))->s.heap.get? o=some n->SS w s.heap a ks->ks.length+l.length < scanBound->
   (∀ h' ks',Heap.SameBut a s.heap h'->SS w h' a ks'->(∀ x,x∈ks'↔x∈ks\/x∈l.map λe=>strOf e.2)->Q PUnit.unit {s with heap:=h'})->wpAny (model prog w) A (forIn l PUnit.unit f) Q E s
 | [],s,ks,Q,_,_,p,_,h=>Qn (h s.heap ks (Heap.SameBut.refl _ _) p λx=>⟨.inl,λz=>z.elim id λz=>by cases z⟩)
 | e::l,s,ks,Q,m,K,p,I,h=>by
  obtain⟨x,u,rfl⟩:=m e Ye;simp only[Yg]at I;rw[List.forIn_cons,c x u];refine Qm (Qm (wpAny_holding (Km p (by omega) λh1 b i v=>?_)));have g:h1.get? o=some n:=by rw[i.2 o j];exact K
  refine Qm (G _ _ g (Qm (wpAny_setState_of g hd H ?_)));rw[if_neg (by simp)];refine Qn (QP j hd H G c l _ _ Q (λy N=>m y (Yd _ N)) g v (by split <;>(try rw[Yg]) <;> omega) λh2 ks' k B J=>?_);refine h h2 ks' (i.trans k) B λy=>(J y).trans ?_;rw[Ym,Yo];show _↔y∈ks\/y=x\/_
  have L:y∈(if x∈ks then ks else x::ks)↔y∈ks\/y=x:=by
   split
   ·rename_i q;exact⟨.inl,λz=>z.elim id λe=>e▸q⟩
   ·rw[Yo];exact⟨λz=>z.elim .inr .inl,λz=>z.elim .inr .inl⟩
  rw[L,or_assoc]
end
section
variable {prog:Program} {w:World} {A:Around} {E:Value->Shared->Prop} {s:Shared}
structure Bare(led:Bool)(n:Nat)(t:SetTable):Prop where
 pl:t.place=#[]
 dm:t.dummies=#[]
 cv:Tb.cover (t.mask+1)=true
 rm:n<=t.mask
 ld:t.led=led
variable {led:Bool}
theorem Bare.fits{t:SetTable}(B:Bare led n t):t.fits 0=true:=QK (by rw[B.pl];rfl) B.dm (YY _)
variable {a:Addr}{Q:Unit->Shared->Prop}
theorem gI(c:s.heap.get? a=some (Bf led))(p:n < 32)
  (h:∀ h' l t,Heap.SameBut a s.heap h'->h'.get? a=some {Bf led with data:=.set #[] l t}->Bare led n t->Q () {s with heap:=h'}):wpAny (model prog w) A (setRoomFor a n) Q E s:=by
 unfold setRoomFor;refine Qm (wpAny_setState_of c rfl rfl ?_);show wpAny (model prog w) A (match(if(0+n)*5>=7*3 then some ((0+n)*2)else none)with | some v=>setRelay a v | _=>pure ()) Q E s;by_cases hc:(0+n)*5>=7*3
 ·rw[if_pos hc];obtain⟨d,h1,h2⟩:=QJ (n:=(0+n)*2) (by omega);dsimp only;unfold setRelay;refine Qm (wpAny_setState_of c rfl rfl ?_);dsimp only
  rw[if_neg (by have:(128:Nat)<=sizeLine:=by decide
                omega)]
  obtain⟨t',b,e,g,i,o,k,m,q⟩:=Tb.laid_ok d (SetTable.fresh 0 0 led).finger ((SetTable.fresh 0 0 led).movedTo (SetTable.sizeAbove ((0+n)*2) - 1)) (SetTable.fresh 0 0 led).led (SetTable.fresh 0 0 led).plain (Array.map (·.1) (#[]:Array (Int×Value))) (by simp);refine Qm ?_;unfold SetTable.relaid;rw[e]
  have f:b=#[]:=by
   have:=g.length_eq;simp at this;exact this
  subst f;show wpAny (model prog w) A (pure ((#[]:Array Nat).filterMap ((#[]:Array (Int×Value))[·]?),t')) _ E s;refine Qn (wpAny_storeSet_of c rfl ?_ (YY _));refine h _ 1 t' (Qs s.heap a _) ?_ ⟨?_,k,by rw[i];exact d,by rw[i];omega,m⟩
  ·have j:=Qt (Obj.putSet #[] t') c (by rw[putSet_of #[] t' rfl];rfl);rw[putSet_of #[] t' rfl]at j;exact j
  ·exact Array.eq_empty_of_size_eq_zero (by rw[o];simp)
 ·rw[if_neg hc];exact Qn (h s.heap 0 _ (Heap.SameBut.refl _ _) c ⟨rfl,rfl,Tb.cover8,by show n<=7;omega,rfl⟩)
variable {o:Addr}
theorem QQ{g:List Str}{n:Sem Unit}(u:o≠a)(v:s.heap.get? a=some (Bf led))(hl:bt w=false->led=true)(D:SS w s.heap o g)(J:g.length < 32)
  (h:∀ h',Heap.SameBut a s.heap h'->SS w h' a g->(g=[]->h'.get? a=some (Bf led))->Q () {s with heap:=h'}):wpAny (model prog w) A (setMerge a o n) Q E s:=by
 obtain⟨L,es,I,t,F,K,hd,T⟩:=D;have y:=T.len;unfold setMerge;rw[if_neg (by simp only[beq_iff_eq];exact λz=>u z.symm)];refine Qm (wpAny_setState_of F hd T.ft ?_);dsimp only;by_cases d:es.isEmpty=true
 ·rw[if_pos d]
  have:g=[]:=by
   rw[Array.isEmpty_iff]at d;subst d;exact Qj.mp y.symm
  subst this;exact Qn (h s.heap (Heap.SameBut.refl _ _) (Kn led hl v) λ_=>v)
 ·rw[if_neg d]
  have k:g≠[]:=λz=>by
   subst z;exact d (by rw[Array.isEmpty_iff];exact Array.eq_empty_of_size_eq_zero y)
  refine Qm (gI v (by omega) λh1 H j l c B=>?_);refine Qm (wpAny_setState_of c rfl B.fits ?_);dsimp only;have r:bt w=false->(j.led&&t.led)=true:=λz=>by rw[B.ld,hl z,T.ld z];rfl
  have p:(j.plain&&t.plain)=true->g=[]:=λz=>by
   simp only[YH]at z;exact T.pl z.2
  have i:(j.fill != 0)=false:=by unfold SetTable.fill;rw[B.pl,B.dm];rfl
  unfold SetTable.road;rw[i];simp only[Yq,if_false];by_cases x:(j.mask==t.mask&&t.dummies.isEmpty)=true
  ·rw[if_pos x];dsimp only;refine wpAny_storeSet_of c rfl ?_ (fits_of_scanBound (by unfold scanBound;omega));refine h _ (l.trans (Qs h1 a _)) (E6 c ⟨rfl,rfl,rfl⟩ rfl (T.perm (List.Perm.refl _) ?_ r p)).2 λz=>absurd z k;have:=T.ft;cases t;exact this
  ·rw[if_neg x];dsimp only;obtain⟨t',b,e,q,G⟩:=QL (f:=j.finger) (m:=j.moves) T B.cv (by have:=B.rm;omega) r p;refine Qm ?_;rw[e];show wpAny (model prog w) A (if((b.filterMap (es[·]?)).size != es.size)=true then _ else pure (b.filterMap (es[·]?),t')) _ E _;rw[if_neg (by rw[q];simp)];refine Qn (wpAny_storeSet_of c rfl ?_ (fits_of_scanBound (by rw[q];unfold scanBound;omega)));exact h _ (l.trans (Qs h1 a _)) (E6 c ⟨rfl,rfl,rfl⟩ rfl G).2 λz=>absurd z k
theorem gK{ks r:List Str}{f:Sem Unit}(b:o≠a)(N:ks≠[])(K:SS w s.heap a ks)(L:SS w s.heap o r)(X:ks.length+r.length < 64)
  (G:∀ i,s.heap.get? o=some i->∀(s':Shared)(J:Unit->Shared->Prop),s'.heap.get? o=some i->J () s'->wpAny (model prog w) A f J E s')
  (h:∀ h' ks',Heap.SameBut a s.heap h'->SS w h' a ks'->(∀ x,x∈ks'↔x∈ks\/x∈r)->Q () {s with heap:=h'}):wpAny (model prog w) A (setMerge a o f) Q E s:=by
 obtain⟨i,es,U,t,D,y,hd,T⟩:=L;have P:=T.len;have G:=G i D;unfold setMerge;rw[if_neg (by simp only[beq_iff_eq];exact λz=>b z.symm)];refine Qm (wpAny_setState_of D hd T.ft ?_);dsimp only;by_cases c:es.isEmpty=true
 ·rw[if_pos c]
  have:r=[]:=by
   rw[Array.isEmpty_iff]at c;subst c;exact Qj.mp P.symm
  subst this;exact Qn (h s.heap ks (Heap.SameBut.refl _ _) K λx=>⟨.inl,λz=>z.elim id λz=>by cases z⟩)
 ·rw[if_neg c];refine Qm (QM K (by omega) λh1 k n=>?_);have p:=n;obtain⟨Z,Y,pa,ta,F,R,B,Ta⟩:=n;refine Qm (wpAny_setState_of F B Ta.ft ?_);dsimp only
  have g:(ta.fill != 0)=true:=by
   have j:=Ta.ft;unfold SetTable.fits at j;simp only[YH,beq_iff_eq]at j;have hl:=Ta.len;have:ks.length≠0:=λz=>N (Qj.mp z);unfold SetTable.fill;simp only[bne_iff_ne,ne_eq];omega
  unfold SetTable.road;rw[g];simp only[if_true];have m:h1.get? o=some i:=by rw[k.2 o b];exact D
  refine Qm (gH m y hd T p (by unfold scanBound;omega) λh2 l d H j=>?_);have I:h2.get? o=some i:=by rw[d.2 o b];exact m
  rw[<- Array.forIn_toList];refine Qm (QP b hd T.ft G (λx u=>rfl) l.toList _ ks _ (λe O=>T.el e (j.mem_iff.mp O)) I H ?_ λS ks' q v y=>?_)
  ·have hl:l.toList.length=es.size:=j.length_eq.trans YW;rw[hl];unfold scanBound;omega
  ·refine Qn (h S ks' ((k.trans d).trans q) v λx=>(y x).trans ?_);rw[((j.map _).trans T.pm).mem_iff]
end
theorem gL:entryFor table "set.__or__"=some Builtin.«frozenset.__or__»:=entryFor_alias (id':="frozenset.__or__") (by kernel_rfl) rfl (by decide +kernel) (by kernel_rfl)
section
variable {prog:Program} {w:World} {A:Around} {E:Value->Shared->Prop} {s:Shared}
variable {a:Addr}{ks:List Str}
theorem SS.ty(S:SS w s.heap a ks):s.TypeIs (.ref a) "set":=by
 obtain⟨o,es,d,t,c,b,_⟩:=S;exact⟨o,c,b.1⟩
theorem K6{Q:Bool->Shared->Prop}(b:s.TypeIs (.ref a) "set")(q:Q true s):wpAny (model prog w) A (Builtin.Frozenset.isAnySet (.ref a)) Q E s:=by
 unfold Builtin.Frozenset.isAnySet;refine Qm (wpAny_isInstance b sub_set_self ?_);exact Qn q
theorem SS.new(S:SS w s.heap a ks)(o:Obj):SS w (s.heap.push o) a ks:=S.kept λ_ e=>Qo _ e
theorem SS.lt(S:SS w s.heap a ks):a < s.heap.objs.size:=by
 obtain⟨o,es,c,t,b,_⟩:=S;exact Qp b
variable {b:Addr}
theorem SS.same{h h':Heap}(S:SS w h a ks)(d:a≠b)(c:Heap.SameBut b h h'):SS w h' a ks:=S.kept λo e=>by rw[c.2 a d];exact e
theorem QR{r n:List Str}{Q:Value->Shared->Prop}(B:a≠b)(p:SS w s.heap a r)(l:SS w s.heap b n)(D:r.length < 32)(J:n.length < 32)
  (h:∀ h' ks,SS w h' s.heap.objs.size ks->(∀ x,x∈ks↔x∈r\/x∈n)->(∀ c o,c < s.heap.objs.size->s.heap.get? c=some o->h'.get? c=some o)->Q (.ref s.heap.objs.size) {s with heap:=h'}):
  wpAny (model prog w) A (binaryOp .BitOr (.ref a) (.ref b)) Q E s:=by
 refine wpAny_binaryOp_same (op:=.BitOr) (T:="set") p.ty l.ty PySem.F.fills_set_or PySem.F.slot_set_or (wpAny_call_entry PySem.F.slot_set_or p.ty gL ?_ (PySem.F.args_set_or_2 _ _));unfold Builtin.«frozenset.__or__»;refine Qm (m:=Builtin.Frozenset.slot1 "__or__" ⟨[.ref a,.ref b],[]⟩) ?_;unfold Builtin.Frozenset.slot1;refine Qm (Qn (a:=(Value.ref a,[Value.ref b])) ?_);refine Qn ?_;refine Qm (m:=(Builtin.Frozenset.isAnySet (.ref a) <&&> Builtin.Frozenset.isAnySet (.ref b))) ?_;refine Qm (K6 p.ty (K6 l.ty ?_));rw[if_neg (by decide)];refine Qm (m:=Builtin.Frozenset.addrOf (.ref a)) (Qn ?_);refine Qm ?_;refine Qm (m:=Builtin.Frozenset.copyOf a) ?_;unfold Builtin.Frozenset.copyOf Builtin.Frozenset.baseOf;refine Qm (Qm (wpAny_isInstance p.ty sub_set_self (Qn ?_)));rw[if_pos rfl];refine Qm (bZ λled i=>?_);refine Qm (Qn ?_);have f:∀{c:Addr},c < s.heap.objs.size->c≠s.heap.objs.size:=λz=>Ys z;have N:(s.heap.push (Bf led)).get? s.heap.objs.size=some (Bf led):=Qq _ rfl;refine Qm (QQ (s:={s with heap:=s.heap.push (Bf led)}) (f p.lt) N i (p.new _) D λh1 q K u=>?_);refine Qn ?_;show wpAny (model prog w) A.in1 (if(Value.ref b != Value.ref a)=true then _ else _) _ E _;rw[if_pos (by simp only[bne_iff_ne,ne_eq,Value.ref.injEq];exact λz=>B z.symm)];refine Qm (m:=Builtin.Frozenset.addrOf _) (Qn ?_);have k:SS w h1 b n:=(l.new (Bf led)).same (f l.lt) q;have H:Shared.TypeIs {s with heap:=h1} (.ref b) "set":=SS.ty (s:={s with heap:=h1}) k
 have keep:∀ h2,Heap.SameBut s.heap.objs.size h1 h2->∀ c o,c < s.heap.objs.size->s.heap.get? c=some o->h2.get? c=some o:=λh2 d c o hc e=>by
  rw[d.2 c (f hc),q.2 c (f hc)];exact Qo _ e
 refine Qm (wpAny_holding ?_);unfold Builtin.Frozenset.updateFrom;refine Qm (K6 H ?_);rw[if_pos rfl];refine Qm (m:=Builtin.Frozenset.addrOf (.ref b)) (Qn ?_);unfold Builtin.Frozenset.merge;have j:=k;obtain⟨R,es,U,t,O,y,hd,T⟩:=k;refine Qm (wpAny_setEpoch_of O hd T.ft ?_);have v:∀ h2 ks,Heap.SameBut s.heap.objs.size h1 h2->SS w h2 s.heap.objs.size ks->(∀ x,x∈ks↔x∈r\/x∈n)->Q (.ref s.heap.objs.size) {s with heap:=h2}:=λh2 ks d g y=>h h2 ks g y (keep h2 d);by_cases P:r=[]
 ·subst P;refine QQ (s:={s with heap:=h1}) (f l.lt) (u rfl) i j J λh2 d g _=>?_;refine Qn (Qn ⟨_,rfl,by simp,v h2 n d g λx=>⟨.inr,λz=>z.elim (λz=>by cases z) id⟩⟩)
 ·refine gK (s:={s with heap:=h1}) (f l.lt) P K j (by omega) (λI G s' X L S=>?_) λh2 ks d g y=>?_
  ·have e:I=R:=by
    have:=G.symm.trans O;exact YF this
   subst e;unfold Builtin.Frozenset.unchanged;refine Qm (wpAny_setEpoch_of L hd T.ft ?_);rw[if_neg (by simp)];exact Qn S
  ·exact Qn (Qn ⟨_,rfl,by simp,v h2 ks d g y⟩)
end
theorem EF:Slot "set_iterator" "__next__" "set_iterator.__next__":=.of (owner:="set_iterator") (n:="__next__") (by rw[typeLookup_type,builtinLookup_eq_fast];kernel_rfl) (by decide +kernel) (by decide +kernel) (by decide +kernel) (by first | exact .inl (by decide +kernel)| exact .inr (by decide +kernel)) (by rw[isSubtype_type];kernel_rfl)
theorem QS:Slot "set" "__iter__" "set.__iter__":=.of (owner:="set") (n:="__iter__") (by rw[typeLookup_type,builtinLookup_eq_fast];kernel_rfl) (by decide +kernel) (by decide +kernel) (by decide +kernel) (by first | exact .inl (by decide +kernel)| exact .inr (by decide +kernel)) (by rw[isSubtype_type];kernel_rfl)
theorem QT:entryFor table "set_iterator.__next__"=some Builtin.«set_iterator.__next__»:=entryFor_of_fast (by kernel_rfl)
theorem gM:entryFor table "set.__iter__"=some Builtin.«frozenset.__iter__»:=entryFor_alias (id':="frozenset.__iter__") (by kernel_rfl) rfl (by decide +kernel) (by kernel_rfl)
theorem QU(a:Value):argsOk "set_iterator.__next__" ⟨[a],[]⟩:=by unfold argsOk;kernel_rfl
theorem gN(a:Value):argsOk "set.__iter__" ⟨[a],[]⟩:=by unfold argsOk;kernel_rfl
section
variable {prog:Program} {w:World} {A:Around} {E:Value->Shared->Prop} {s:Shared}
theorem gO{a:Source}{Q:Nat->Shared->Prop}(b:n≠0)(h:∀ i d,i < n->Q i {s with drawn:=d}):wpAny (model prog w) A (choose a n) Q E s :=
 λ_ _ _=>⟨b,h _ _ (Nat.mod_lt _ (Nat.pos_of_ne_zero b))⟩
theorem QV{α:Type}:∀(n:Nat)(xs:List α)(s:Shared)(Q:List α->Shared->Prop),xs.length=n->(∀ ys d,ys.Perm xs->Q ys {s with drawn:=d})->wpAny (model prog w) A (drawOrder n xs) Q E s
 | 0,xs,s,Q,h,q=>by
  obtain rfl:=Qj.mp h;exact Qn (q [] s.drawn (List.Perm.refl _))
 | n+1,[],s,Q,h,q=>by cases h
 | n+1,x::xs,s,Q,h,q=>by
  unfold drawOrder;refine Qm (gO (by simp) λi d hi=>?_);rw[Yp hi];dsimp only;refine Qm (QV n _ _ _ (by rw[List.length_eraseIdx_of_lt hi];simpa using h) λys a b=>?_);exact Qn (q _ a ((b.cons _).trans (K4 _ i hi)))
abbrev Itr(first:Value)(i:Nat)(a:Addr)(n ep:Nat):Obj:={cls:=.type "set_iterator",data:=.fields #[first,.int i 0,.ref a,.int n 0,.int ep 0]}
inductive Md(w:World)(a T:Addr)(es:Array (Int×Value))(ep:Nat)(t:SetTable)(l:List (Int×Value))(h:Heap):Value->Nat->Prop where
 | drawn {ps:List Nat} {oT:Obj} {c i:Nat}:h.get? T=some oT->oT.data=.seq (ps.map λp:Nat=>rawInt p).toArray c->ps.length=l.length->(∀(j p:Nat),ps[j]?=some p->∃ e,es[p]?=some e/\l[j]?=some e)->Md w a T es ep t l h (.ref T) i
 | text {k i:Nat}:bt w=true->l=(pickOrder (w.params.setOrder a ep) es).toList->Md w a T es ep t l h (.int k 0) i
 | few {k i:Nat}:bt w=false->t.led=true->es.size<=1->l=es.toList->(i=0->k=0)->(∀ j:Nat,i=1->t.place[0]?=some j->k=j+1)->Md w a T es ep t l h (.int k 0) i
structure Wk(w:World)(it a T:Addr)(ob:Obj)(es:Array (Int×Value))(ep:Nat)(t:SetTable)(l:List (Int×Value))(i:Nat)(h:Heap):Prop where
 st:∃ first,h.get? it=some (Itr first i a es.size ep)/\Md w a T es ep t l h first i
 ob:h.get? a=some ob
variable {a:Addr}{h:Heap}{i:Nat}
theorem Md.at{T:Addr}{es:Array (Int×Value)}{d:Nat}{t:SetTable}{l:List (Int×Value)}{h':Heap}{v:Value}(M:Md w a T es d t l h v i)(k:∀ o,h.get? T=some o->h'.get? T=some o):Md w a T es d t l h' v i:=by
 cases M with
 | drawn h1 h2 b c=>exact .drawn (k _ h1) h2 b c
 | text h1 h2=>exact .text h1 h2
 | few h1 h2 b c e f=>exact .few h1 h2 b c e f
variable {b:Addr}{first:Value}{c:Nat}
theorem QW(e:h.get? b=some (Itr first i a n c))(j:Nat):(h.update b (Obj.mapFields (·.setIfInBounds 1 (rawInt j)))).get? b=some (Itr first j a n c):=by
 have d:=Qt (Obj.mapFields (·.setIfInBounds 1 (rawInt j))) e (Obj.isFreed_of_fields (Obj.data_mapFields rfl _));rw[d];rfl
theorem HA(e:h.get? b=some (Itr first i a n c))(v:Value):(h.update b (Obj.mapFields (·.setIfInBounds 0 v))).get? b=some (Itr v i a n c):=by
 have d:=Qt (Obj.mapFields (·.setIfInBounds 0 v)) e (Obj.isFreed_of_fields (Obj.data_mapFields rfl _));rw[d];rfl
end
section
variable {prog:Program} {w:World} {A:Around} {E:Value->Shared->Prop} {s:Shared}
theorem QX(j k:Nat):SetTable.below #[j] k=if j < k then 1 else 0:=by
 show SetTable.below.go #[j] k 1 0 1=_;unfold SetTable.below.go;simp only[Nat.zero_lt_one,if_true];show(if j < k then SetTable.below.go #[j] k 0 1 1 else SetTable.below.go #[j] k 0 0 0)=_;rfl
theorem HB{α:Type}{xs:Array α}(h:xs.size<=1):xs=#[]\/∃ x,xs=#[x]:=by
 obtain⟨l⟩:=xs
 match l,h with
 | [],_=>exact .inl rfl
 | [x],_=>exact .inr ⟨x,rfl⟩
theorem gP{b a T:Addr}{y:Obj}{es:Array (Int×Value)}{t:SetTable}{ks:List Str}{l:List (Int×Value)}{i:Nat}{e:Int×Value}{Q:Option Value->Shared->Prop}(Y:y.ExactSet)(hd:y.data=.set es h t)(Tb:Tab w es t ks)(r:a≠b)(n:T≠b)(S:Wk w b a T y es h t l i s.heap)(hl:l[i]?=some e)
  (L:∀ h',Wk w b a T y es h t l (i+1) h'->Heap.SameBut b s.heap h'->Q (some e.2) {s with heap:=h'}):wpAny (model prog w) A (pyNext (.ref b)) Q E s:=by
 obtain⟨⟨first,hi,M⟩,f⟩:=S;have I:s.TypeIs (.ref b) "set_iterator":=⟨_,hi,rfl⟩;unfold pyNext;refine Qm (wpAny_attempt (wpAny_callSpecial?_slot (name:=Str.ofString "__next__") I EF (wpAny_call_entry EF I QT ?_ (QU _))));unfold Builtin.«set_iterator.__next__»;refine Qm (Qn (a:=(Value.ref b,([]:List Value))) ?_);refine Qm (wpAny_fieldsOf hi rfl ?_);dsimp only;refine Qm (wpAny_setEntries_of f hd Tb.ft ?_);rw[if_neg (by simp)]
 have two:∀(v:Value),Md w a T es h t l s.heap v (i+1)->Q (some e.2) {s with heap:=(s.heap.update b (Obj.mapFields (·.setIfInBounds 0 v))).update b (Obj.mapFields (·.setIfInBounds 1 (rawInt (i+1))))}:=λv R=>by
  have g:=(Qs s.heap b (Obj.mapFields (·.setIfInBounds 0 v))).trans (Qs _ b (Obj.mapFields (·.setIfInBounds 1 (rawInt (i+1)))));refine L _ ⟨⟨v,QW (HA hi v) (i+1),R.at λo z=>by rw[g.2 T n];exact z⟩,by rw[g.2 a r];exact f⟩ g
 cases M with
 | drawn h1 h2 D B =>
  rename_i ps Z c
  obtain⟨p,J⟩:∃ p,ps[i]?=some p:=by
   obtain⟨u,_⟩:=Qb.mp hl;exact⟨_,Yp (by omega)⟩
  obtain⟨X,O,G⟩:=B i p J;obtain rfl:X=e:=YF (G.symm.trans hl);dsimp only;refine Qm (wpAny_seqItems h1 h2 ?_);dsimp only
  have N:(ps.map λp:Nat=>rawInt p).toArray[(Int.ofNat i).toNat]?=some (rawInt p):=by
   simp[J]
  have F:(ps.map λp:Nat=>rawInt p).toArray[((i:Int)).toNat]?=some (.int (p:Int) 0):=N;rw[F];dsimp only;refine Qm ?_;unfold setNextDrawn;refine Qm (wpAny_setState_of f hd Tb.ft ?_);dsimp only;rw[if_neg (by simp)];rw[show((p:Int)).toNat=p from Int.toNat_natCast p,O];dsimp only;refine Qn (Qm (wpAny_setField hi rfl (by simp) (Qn ⟨_,rfl,Qn ?_⟩)));have g:=Qs s.heap b (Obj.mapFields (·.setIfInBounds 1 (rawInt (i+1))));exact L _ ⟨⟨_,QW hi (i+1),.drawn (by rw[g.2 T n];exact h1) h2 D B⟩,by rw[g.2 a r];exact f⟩ g
 | text h1 h2 =>
  rename_i k;dsimp only;refine Qm ?_;unfold setNext;refine Qm (wpAny_setState_of f hd Tb.ft ?_);dsimp only;unfold setsByText;walk_at "pa";walk_at "pg";rw[if_pos h1,if_neg (by simp)];unfold setWalk;refine Qm (Qm (wpAny_setState_of f hd Tb.ft ?_));dsimp only;unfold setsByText;walk_at "pa";walk_at "pg";rw[if_pos h1];refine Qm (wpAny_askSetting (Qn ?_));subst h2;rw[YR]at hl;show wpAny (model prog w) _ (pure (((pickOrder (w.params.setOrder a h) es)[((i:Int)).toNat]?).map _)) _ _ s;rw[show((i:Int)).toNat=i from Int.toNat_natCast i,hl];refine Qn ?_;dsimp only[Option.map_some];walk_at "pl";refine Qm (wpAny_setField (HA hi _) rfl (by simp) (Qn ⟨_,rfl,Qn ?_⟩));exact two _ (.text h1 rfl)
 | few h1 h2 D B P h6 =>
  rename_i k;subst B;rw[YR]at hl;have d:=Tb.ft;rcases HB D with z |⟨x,z⟩
  ·rw[z]at hl;simp at hl
  ·rw[z]at hl
   have H:i=0:=by
    obtain⟨u,_⟩:=Array.getElem?_eq_some_iff.mp hl;simpa using u
   subst H;obtain rfl:x=e:=by simpa using hl
   obtain rfl:=P rfl
   have m:t.place.size=1:=by
    unfold SetTable.fits at d;rw[z]at d;simp only[YH,beq_iff_eq]at d;exact d.1
   obtain⟨j,K⟩:∃ j,t.place=#[j]:=by
    rcases HB (by omega:t.place.size<=1)with q | q
    ·rw[q]at m;cases m
    ·exact q
   dsimp only;refine Qm ?_;unfold setNext;refine Qm (wpAny_setState_of f hd Tb.ft ?_);dsimp only;unfold setsByText;walk_at "pa";walk_at "pg";rw[if_neg (by rw[h1];decide)];show wpAny (model prog w) _ (if(!t.plain&&decide (es.size > 1))=true then _ else _) _ _ s
   rw[if_neg (by have:¬ es.size > 1:=by omega
                 simp[this])]
   refine Qm ?_;show wpAny (model prog w) _ (if(!t.led&&!es.isEmpty)=true then _ else pure ()) _ _ s;rw[if_neg (by rw[h2];simp)];refine Qn ?_;show wpAny (model prog w) _ (pure (match es[SetTable.below t.place 0]?,t.place[SetTable.below t.place 0]? with | some (_,x),some j=>some (x,j+1)| _,_=>none)) _ _ s;rw[K,QX,if_neg (by omega),z];refine Qn ?_;walk_at "pl";refine Qm (wpAny_setField (HA hi _) rfl (by simp) (Qn ⟨_,rfl,Qn ?_⟩));refine two _ (.few (k:=j+1) h1 h2 D rfl (λq=>by cases q) λU _ q=>?_);rw[K]at q;have:j=U:=by simpa using q
   omega
end
section
variable {prog:Program} {w:World} {A:Around} {E:Value->Shared->Prop} {s:Shared}
variable {c:Addr}{Q:Option Value->Shared->Prop}
theorem K7{d:Heap}{R:Fin->Shared->Prop}(g:A.handled=none)(x:Heap.ExtBut c d h1)(f:∀ h',Heap.ExtBut c d h'->Q none {s with heap:=h'}):
  wpAny (model prog w) A.in1 (do let e <- newExc (.type "StopIteration") [];raiseNew e) R (λe s'=>wpAny (model prog w) A (do let b <- isInstance e (.type "StopIteration");if b=true then pure none else throw e) Q E s') {s with heap:=h1}:=by
 refine Qm ?_;simp only[newExc,newTuple];refine Qm (wpAny_newObj_type ?_ (by size_fits));refine Qm (m:=firstArgMember _ _) (wpAny_of_eq (a:=Value.none) (by first | rfl |(simp only[firstArgMember];rfl)) (wpAny_newObj_type ?_ (by size_fits)));simp only[raiseNew];refine Qm (wpAny_handled ?_);rw[show A.in1.handled=none from g];refine Qm (Qn (wpAny_throw ?_));refine Qm (wpAny_isInstance (T:="StopIteration") (b:=true) ⟨_,Qq _ rfl,rfl⟩ isSubtype_stop ?_);exact Qn (f _ ((x.push _).push _))
variable {a T:Addr}{es:Array (Int×Value)}{t:SetTable}{ks:List Str}{l:List (Int×Value)}
theorem gQ{d:Addr}{m:Obj}{g:Nat}{i:Nat}(r:A.handled=none)(J:m.ExactSet)(hd:m.data=.set es g t)(Tb:Tab w es t ks)(S:Wk w d a T m es g t l i s.heap)(hl:l.length=i)(n:es.size=i)
  (u:∀ h',Heap.ExtBut d s.heap h'->Q none {s with heap:=h'}):wpAny (model prog w) A (pyNext (.ref d)) Q E s:=by
 obtain⟨⟨first,hi,M⟩,h⟩:=S;have y:s.TypeIs (.ref d) "set_iterator":=⟨_,hi,rfl⟩;unfold pyNext;refine Qm (wpAny_attempt (wpAny_callSpecial?_slot (name:=Str.ofString "__next__") y EF (wpAny_call_entry EF y QT ?_ (QU _))));unfold Builtin.«set_iterator.__next__»;refine Qm (Qn (a:=(Value.ref d,([]:List Value))) ?_);refine Qm (wpAny_fieldsOf hi rfl ?_);dsimp only;refine Qm (wpAny_setEntries_of h hd Tb.ft ?_);rw[if_neg (by simp)];have v:((i:Int)).toNat=i:=Int.toNat_natCast i;cases M with
 | drawn h1 h2 B H =>
  rename_i ps L c;dsimp only;refine Qm (wpAny_seqItems h1 h2 ?_);dsimp only
  have F:(ps.map λp:Nat=>rawInt p).toArray[((i:Int)).toNat]?=none:=by
   rw[v];simp;omega
  rw[F];dsimp only;walk_at "pl";refine Qm (wpAny_setField (HA hi _) rfl (by simp) ?_);exact K7 r ((Qs s.heap d (Obj.mapFields (·.setIfInBounds 0 (rawInt 0)))).trans (Qs _ d _)).extBut u
 | text h1 h2 =>
  rename_i k;dsimp only;refine Qm ?_;unfold setNext;refine Qm (wpAny_setState_of h hd Tb.ft ?_);dsimp only;unfold setsByText;walk_at "pa";walk_at "pg";rw[if_pos h1,if_neg (by simp)];unfold setWalk;refine Qm (Qm (wpAny_setState_of h hd Tb.ft ?_));dsimp only;unfold setsByText;walk_at "pa";walk_at "pg";rw[if_pos h1];refine Qm (wpAny_askSetting (Qn ?_));show wpAny (model prog w) _ (pure (((pickOrder (w.params.setOrder a g) es)[((i:Int)).toNat]?).map _)) _ _ s
  have G:(pickOrder (w.params.setOrder a g) es)[i]?=none:=by
   rw[<- YR,<- h2];exact Qi (by omega)
  rw[v,G];refine Qn ?_;dsimp only[Option.map_none];walk_at "pl";exact K7 r (Qs s.heap d _).extBut u
 | few h1 h2 B H K I =>
  rename_i k;have b:=Tb.ft
  have e:es[SetTable.below t.place k]?=none:=by
   refine Array.getElem?_eq_none ?_;rcases HB B with z |⟨x,z⟩
   ·rw[z];exact YY _
   ·have f:t.place.size=1:=by
     unfold SetTable.fits at b;rw[z]at b;simp only[YH,beq_iff_eq]at b;exact b.1
    obtain⟨j,D⟩:∃ j,t.place=#[j]:=by
     rcases HB (by omega:t.place.size<=1)with q | q
     ·rw[q]at f;cases f
     ·exact q
    have o:i=1:=by rw[<- n,z];rfl
    have:=I j o (by rw[D];rfl);rw[D,this,QX,if_pos (by omega),z];exact Yr _
  dsimp only;refine Qm ?_;unfold setNext;refine Qm (wpAny_setState_of h hd Tb.ft ?_);dsimp only;unfold setsByText;walk_at "pa";walk_at "pg";rw[if_neg (by rw[h1];decide)];show wpAny (model prog w) _ (if(!t.plain&&decide (es.size > 1))=true then _ else _) _ _ s
  rw[if_neg (by have:¬ es.size > 1:=by omega
                simp[this])]
  refine Qm ?_;show wpAny (model prog w) _ (if(!t.led&&!es.isEmpty)=true then _ else pure ()) _ _ s;rw[if_neg (by rw[h2];simp)];refine Qn ?_;show wpAny (model prog w) _ (pure (match es[SetTable.below t.place ((k:Int)).toNat]?,t.place[SetTable.below t.place ((k:Int)).toNat]? with | some (_,x),some j=>some (x,j+1)| _,_=>none)) _ _ s;rw[show((k:Int)).toNat=k from Int.toNat_natCast k,e];refine Qn ?_;walk_at "pl";exact K7 r (Qs s.heap d _).extBut u
theorem QY:Slot "set_iterator" "__iter__" "set_iterator.__iter__":=.of (owner:="set_iterator") (n:="__iter__") (by rw[typeLookup_type,builtinLookup_eq_fast];kernel_rfl) (by decide +kernel) (by decide +kernel) (by decide +kernel) (by first | exact .inl (by decide +kernel)| exact .inr (by decide +kernel)) (by rw[isSubtype_type];kernel_rfl)
theorem gR:entryFor table "set_iterator.__iter__"=some Builtin.«dict_keyiterator.__iter__»:=entryFor_alias (id':="dict_keyiterator.__iter__") (by kernel_rfl) rfl (by decide +kernel) (by kernel_rfl)
theorem gS(a:Value):argsOk "set_iterator.__iter__" ⟨[a],[]⟩:=by unfold argsOk;kernel_rfl
theorem gT{n:Obj}{u:Nat}(B:A.handled=none)(x:n.ExactSet)(hd:n.data=.set es u t)(Tb:Tab w es t ks)(j:a≠c)(g:T≠c)(hl:l.length=es.size):
  Walks prog w A c [c,a,T] [c] es.size (λi v=>∃ e,l[i]?=some e/\v=e.2) (λi h=>Wk w c a T n es u t l i h) where
 sub:=λb d=>by simp at d;simp[d]
 frame:=λ_ _ _ st p=>by
  obtain⟨⟨first,hi,M⟩,y⟩:=st;exact⟨⟨first,p c (by simp) _ hi,M.at λo e=>p T (by simp) o e⟩,p a (by simp) _ y⟩
 item:=λi s Q E hi st f=>by
  obtain⟨e,r⟩:∃ e,l[i]?=some e:=⟨_,Yp (by omega)⟩;refine gP x hd Tb j g st r λh' W q=>?_;exact f _ h' s.toks ⟨e,r,rfl⟩ W (λb o d z=>q.extBut b o (λh=>d (by simp[h])) z)
 done:=λs Q E st f=>gQ B x hd Tb st hl rfl λh' m=>f h' s.toks λb o d e=>m b o (λh=>d (by simp[h])) e
 self:=λ_ s Q E st f=>by
  obtain⟨⟨first,hi,M⟩,y⟩:=st;have k:s.TypeIs (.ref c) "set_iterator":=⟨_,hi,rfl⟩;refine wpAny_pyIter_slot k QY (wpAny_call_entry QY k gR (Qn ⟨_,rfl,"set_iterator",_,k,EF.lookup,f⟩) (gS _))
end
theorem QZ{α:Type}{es:Array α}:∀{ys:List Nat},(∀ p∈ys,p < es.size)->(ys.filterMap (es[·]?)).length=ys.length/\∀(j p:Nat),ys[j]?=some p->∃ e,es[p]?=some e/\(ys.filterMap (es[·]?))[j]?=some e
 | [],_=>⟨rfl,λj p h=>by simp at h⟩
 | y::ys,h=>by
  have b:es[y]?=some (es[y]'(h y Ye)):=Qa _;obtain⟨h1,h2⟩:=QZ (ys:=ys) λp c=>h p (Yd _ c);rw[List.filterMap_cons,b];refine⟨by simp[h1],λj p a=>?_⟩;cases j with
  | zero =>
   simp only[Yb,Option.some.injEq]at a;subst a;exact⟨_,b,rfl⟩
  | succ j =>
   simp only[Yc]at a ⊢;exact h2 j p a
section
variable {prog:Program} {w:World} {A:Around} {E:Value->Shared->Prop} {s:Shared}
theorem gU{a:Addr}{u:Obj}{es:Array (Int×Value)}{q:Nat}{t:SetTable}{ks:List Str}{Q:Value->Shared->Prop}(f:s.heap.get? a=some u)(J:u.ExactSet)(hd:u.data=.set es q t)(Tb:Tab w es t ks)(K:ks.length < scanBound)
  (h:∀ y T l h' d,s.heap.objs.size<=y->T≠y->(T=a\/s.heap.objs.size<=T)->(∀ c o,s.heap.get? c=some o->h'.get? c=some o)->Wk w y a T u es q t l 0 h'->l.Perm es.toList->T < h'.objs.size->y < h'.objs.size->Q (.ref y) {s with heap:=h',drawn:=d}):wpAny (model prog w) A (pyIter (.ref a)) Q E s:=by
 have H:s.TypeIs (.ref a) "set":=⟨u,f,J.1⟩;have x:a < s.heap.objs.size:=Qp f;have I:=Tb.len;refine wpAny_pyIter_slot H QS (wpAny_call_entry QS H gM ?_ (gN _));unfold Builtin.«frozenset.__iter__»;refine Qm (m:=Builtin.Frozenset.slot0 "__iter__" ⟨[.ref a],[]⟩) (Qn (a:=a) ?_);refine Qm (m:=Builtin.Frozenset.sizeOf a) (Qm (wpAny_setEntries_of f hd Tb.ft (Qn ?_)));refine Qm ?_;unfold setDrawn;refine Qm (wpAny_setState_of f hd Tb.ft ?_);dsimp only;unfold setsByText;walk_at "pa";show wpAny (model prog w) _ (pure (!(bt w)&&(!t.plain&&decide (es.size > 1)))) _ _ s;refine Qn ?_;by_cases hc:(!(bt w)&&(!t.plain&&decide (es.size > 1)))=true
 ·rw[if_pos hc];refine Qm (QV es.size (List.range es.size) s _ (List.length_range) λys d v=>?_);have F:ys.length=es.size:=by rw[v.length_eq,List.length_range]
  refine Qm (wpAny_newTuple (items:=ys.map λi:Nat=>rawInt i) ?_ (by rw[Yh,F,I];exact fits_of_scanBound K));refine Qm (wpAny_setEpoch_of (s:={s with heap:=s.heap.push _,drawn:=d}) (Qo _ f) hd Tb.ft ?_);simp only[newFields];refine Qm (wpAny_newObj_type ?_ (by show(5:Nat)<=sizeLine+2;decide));refine Qn ⟨_,rfl,"set_iterator",_,⟨_,Qq _ rfl,rfl⟩,EF.lookup,?_⟩;obtain⟨b,D⟩:=QZ (es:=es) (ys:=ys) λp z=>List.mem_range.mp (v.mem_iff.mp z)
  have n:(ys.filterMap (es[·]?)).Perm es.toList:=by
   have B:=L3.Tb.order_perm es ys.toArray (by simpa using v);simpa using B
  refine h _ s.heap.objs.size (ys.filterMap (es[·]?)) _ d ?_ ?_ (.inr (Yr _)) (λc o e=>Qo _ (Qo _ e)) ⟨⟨_,Qq _ rfl,.drawn (Qo _ (Qq _ rfl)) rfl b.symm D⟩,Qo _ (Qo _ f)⟩ n ?_ ?_
  ·rw[Qr];exact Nat.le_succ _
  ·rw[Qr];exact Ys (Nat.lt_succ_self _)
  ·rw[Qr,Qr];exact Nat.lt_succ_of_lt (Nat.lt_succ_self _)
  ·simp only[Qr];exact Nat.lt_succ_self _
 ·rw[if_neg hc];refine Qm (Qn ?_);refine Qm (wpAny_setEpoch_of f hd Tb.ft ?_);simp only[newFields];refine Qm (wpAny_newObj_type ?_ (by show(5:Nat)<=sizeLine+2;decide));refine Qn ⟨_,rfl,"set_iterator",_,⟨_,Qq _ rfl,rfl⟩,EF.lookup,?_⟩
  have r:∀ l,l.Perm es.toList->Md w a a es q t l (s.heap.push (Itr (rawInt 0) 0 a es.size q)) (rawInt 0) 0->Q (.ref s.heap.objs.size) {s with heap:=s.heap.push (Itr (rawInt 0) 0 a es.size q)}:=λl v M=>
   h _ a l _ s.drawn (Yr _) (Ys x) (.inl rfl) (λc o e=>Qo _ e) ⟨⟨_,Qq _ rfl,M⟩,Qo _ f⟩ v (by rw[Qr];exact Nat.lt_succ_of_lt x) (by rw[Qr];exact Nat.lt_succ_self _)
  by_cases G:bt w=true
  ·exact r _ (QO _ _) (.text (k:=0) G rfl)
  ·have g:bt w=false:=by simpa using G
   have h1:es.size<=1:=by
    rw[g]at hc;simp only[Bool.not_false,Bool.true_and,YH,YT,not_and]at hc;cases b:t.plain with
    | true=>have:=Tb.pl b;subst this;rw[I];decide
    | false=>have:=hc (by rw[b];rfl);omega
   exact r es.toList (List.Perm.refl _) (.few (k:=0) g (Tb.ld g) h1 rfl (λ_=>rfl) λj z=>by cases z)
end
theorem gW:Slot "set" "__len__" "set.__len__":=.of (owner:="set") (n:="__len__") (by rw[typeLookup_type,builtinLookup_eq_fast];kernel_rfl) (by decide +kernel) (by decide +kernel) (by decide +kernel) (by first | exact .inl (by decide +kernel)| exact .inr (by decide +kernel)) (by rw[isSubtype_type];kernel_rfl)
section
variable {prog:Program} {w:World} {A:Around} {E:Value->Shared->Prop} {s:Shared}
variable {a:Addr}
theorem gX{Q:Bool->Shared->Prop}(b:s.TypeIs (.ref a) "set")(q:Q false s):wpAny (model prog w) A (Builtin.List.listLengthHint (.ref a)) Q E s:=by
 unfold Builtin.List.listLengthHint;refine Qm (wpAny_specialOf b gW.lookup ?_);have c:splitId "set.__len__"=some ("set","__len__"):=by kernel_rfl
 dsimp only;rw[c];dsimp only;refine Qm (wpAny_isInstance b sub_set_self ?_);rw[if_neg (by decide)];show wpAny (model prog w) A (if _=true then _ else _) Q E s;rw[if_pos (by decide +kernel)];refine Qm (wpAny_typeOf b ?_);exact Qn q
variable {ks:List Str}
theorem gY{Q:List Value->Shared->Prop}(hh:A.handled=none)(hS:SS w s.heap a ks)(hn:ks.length < scanBound)
  (h:∀(s':Shared)(vs:List Value)(xs:List Str),StrsAre vs xs->xs.Perm ks->(∀ c o,c < s.heap.objs.size->s.heap.get? c=some o->s'.heap.get? c=some o)->s'.gens=s.gens->s'.os=s.os->s.heap.objs.size<=s'.heap.objs.size->Q vs s'):wpAny (model prog w) A (collect (.ref a)) Q E s:=by
 have n:=hS;obtain⟨R,es,ep,t,ho,N,hd,T⟩:=hS;have hz:=T.len;have J:a < s.heap.objs.size:=Qp ho;unfold collect;refine Qm (wpAny_runValue (codeAny_builtin PySem.F.entry_proto_collect ?_));rw[Around.under_plainId PySem.F.plain_proto_collect _];refine Qm (m:=newList []) (wpAny_newList ?_ (YY _));refine Qn ⟨plainId_quiet PySem.F.plain_list_iadd _,codeAny_builtin PySem.F.entry_list_iadd ?_⟩;rw[Around.under_plainId PySem.F.plain_list_iadd _];have g:s.heap.objs.size≠a:=YZ (Ys J);have D:(s.heap.push (seqObj "list" #[] 0)).get? a=some R:=Qo _ ho;have U:Shared.TypeIs {s with heap:=s.heap.push (seqObj "list" #[] 0)} (.ref a) "set":=⟨R,D,N.1⟩;refine(?_:wpAny (model prog w) A.in1 (Builtin.List.listExtendWith (.ref s.heap.objs.size) (.ref a) (.ref s.heap.objs.size)) _ _ {s with heap:=s.heap.push (seqObj "list" #[] 0)});unfold Builtin.List.listExtendWith;refine Qm (wpAny_typeOf U ?_);have c1:Builtin.List.listSameRef (.ref s.heap.objs.size) (.ref a)=false:=by simp[Builtin.List.listSameRef,g]
 have c2:(Value.type "set"==Value.type "list")=false:=by decide
 have c3:(Value.type "set"==Value.type "tuple")=false:=by decide
 simp only[c1,c2,c3,Bool.or_false,Yq,if_false];refine Qm (gU D N hd T hn λO Tp l h' d H r hTa keep W hp hTl hil=>?_);obtain⟨⟨first,hi,M⟩,I⟩:=id W;have P:Shared.TypeIs {s with heap:=h',drawn:=d} (.ref a) "set":=⟨R,I,N.1⟩;refine Qm (wpAny_holding (gX P ?_));refine(?_:wpAny (model prog w) A.in1 (rule "list.extend.makes-room" >>=λ_=>Builtin.List.listTouch (.ref s.heap.objs.size) >>=λ_=>again (.builtin "list.extend.loop" ⟨[.ref s.heap.objs.size,.ref O,.ref s.heap.objs.size],[]⟩)) _ _ {s with heap:=h',drawn:=d});refine Qm (wpAny_rule ?_);have z:h'.get? s.heap.objs.size=some (seqObj "list" #[] 0):=keep _ _ (Qq _ rfl);refine Qm (m:=Builtin.List.listTouch (.ref s.heap.objs.size)) (Qm (m:=updateSeq s.heap.objs.size (·.push .none)) (wpAny_updateSeq (s:={s with heap:=h',drawn:=d}) z rfl ?_));have L:=Qt (Obj.mapSeq (·.push Value.none)) z rfl;refine(?_:wpAny (model prog w) A.in1 (updateSeq s.heap.objs.size (·.pop)) _ _ _);refine wpAny_updateSeq L rfl ?_;have X:=Qt (Obj.mapSeq (·.pop)) L rfl;have f:s.heap.objs.size < O:=by rw[Qr]at H;exact H
 have y:s.heap.objs.size≠Tp:=by
  rcases hTa with e | e
  ·rw[e];exact g
  ·rw[Qr]at e;exact Ys e
 have hSf:s.heap.objs.size∉[O,a,Tp]:=by
  walk_at "pe";exact⟨Ys f,g,y⟩
 have S:a≠O:=Ys (Nat.lt_trans J f);have B:l.length=es.size:=by rw[hp.length_eq,YW]
 have WS:=(gT (prog:=prog) (w:=w) (A:=A.in1) (by simp[hh]) N hd T S r B).toS
 have j:∀ b o,b≠s.heap.objs.size->h'.get? b=some o->((h'.update s.heap.objs.size (Obj.mapSeq (·.push Value.none))).update s.heap.objs.size (Obj.mapSeq (·.pop))).get? b=some o :=
  λb o q e=>(Heap.get?_update_other _ _ (YZ q)).trans ((Heap.get?_update_other _ _ (YZ q)).trans e)
 refine Qn ⟨plainId_quiet PySem.F.plain_extend_loop _,codeAny_extend_loopS WS (fits_of_scanBound (by rw[hz];exact hn)) _ hSf _ es.size 0 _ _ _ rfl (YY _)
  ⟨⟨first,j _ _ (YZ (Ys f)) hi,M.at λo e=>j _ _ (YZ y) e⟩,j _ _ (YZ g) I⟩ X (ItemsOf.nil _) λs' p c Z n k=>?_⟩
 refine Qm (m:=load s.heap.objs.size) (wpAny_load n (Qn ?_))
 have hvs:p.toList=l.map (·.2):=by
  apply List.ext_getElem?;intro i;rw[YS,YR];by_cases K:i < p.size
  ·obtain⟨e,Y,hv⟩:=k.2 i _ (Qa K);rw[Qa K,Y,hv];rfl
  ·rw[Array.getElem?_eq_none (by omega),Qi (by rw[B,<- k.1];omega)];rfl
 have G:∀ v∈l.map (·.2),∃ x t,v=Value.str x t:=λv hv=>by
  obtain⟨e,Y,rfl⟩:=YC.mp hv;obtain⟨x,u,rfl⟩:=T.el e (hp.mem_iff.mp Y);exact⟨x,u,rfl⟩
 refine h s' p.toList ((l.map (·.2)).map strOf) (by rw[hvs];exact strsAre_map _ G) ?_ (λb o q e=>?_) Z.gens Z.os ?_
 ·rw[YB];exact((hp.map _).trans T.pm)
 ·refine Z.heap b o ?_ (j b o (Ys q) (keep b o (Qo _ e)));walk_at "pe";exact⟨Ys q,Ys (Nat.lt_trans q f)⟩
 ·exact YL (Qp n)
theorem Q0{Q:Value->Shared->Prop}(H:A.handled=none)(x:SS w s.heap a ks)(y:ks.length < 64)
  (h:∀(s':Shared)(p:Addr)(vs:List Value)(xs:List Str)(e:Nat),s.heap.objs.size<=p->s'.heap.get? p=some (seqObj "list" vs.toArray e)->StrsAre vs xs->xs.Perm ks->sortedS xs=true->(∀ c o,c < s.heap.objs.size->s.heap.get? c=some o->s'.heap.get? c=some o)->s'.gens=s.gens->s'.os=s.os->Q (.ref p) s'):
  wpAny (model prog w) A (call (.builtin "sorted") [.ref a]) Q E s:=by
 refine Calls.call_function_entry kind_sorted plain_sorted entry_sorted (args_sorted1 _) ?_;unfold Builtin.«sorted»;refine Qm (m:=checkCount "sorted" 1 1 _) (Qn ?_);refine Qm (gY (by simp[H]) x (by unfold scanBound;omega) λg vs xs i v keep G k b=>?_);have j:vs.length < 64:=by rw[i.length,v.length_eq];exact y
 refine Qm (wpAny_newList ?_ (by have:=(by decide:(64:Nat)<=sizeLine);omega));have d:(g.heap.push (seqObj "list" vs.toArray 0)).get? g.heap.objs.size=some (seqObj "list" vs.toArray 0):=Qq _ rfl;refine Qm (wpAny_holding (wpAny_call_entry slot_list_sort ⟨_,d,rfl⟩ entry_list_sort (list_sort_treeK (s:={g with heap:=g.heap.push (seqObj "list" vs.toArray 0)}) strKind_oneLt d i.keysOf (λJ I r e=>keyKind_strs (by rw[<- e];exact i)) j λf B D=>⟨_,rfl,?_⟩) (args_list_sort _)));obtain⟨q,u,l,t⟩:=sorted_out_str i B D;obtain⟨e,F⟩:=sortedHeap_at (n:=0) (vs:=vs) (out:=(arrOf f).map (·.2)) d;refine Qn ⟨_,rfl,h _ _ ((arrOf f).map (·.2)).toList q e b (by rw[Array.toArray_toList];exact F) u (l.trans v) t (λc o hc z=>?_) G k⟩;rw[sortedHeap_old (Ys (Yu hc b)) (by rw[Qr];exact Nat.lt_succ_of_lt (Yu hc b))];exact Qo _ (keep c o hc z)
end
end L3
namespace L3
open PySem PySem.Spec PyProof.Rows L2
variable {K:PySem.W.Frag} {H H' H2:Hp}
theorem HC:∀{xs:List Str}{a:List Value},Vals (xs.map V.str) a->StrsAre a xs
 | [],_,.nil=>.nil
 | x::xs,_,.cons r b=>by
  obtain⟨t,rfl⟩:=r;exact .cons x t (HC b)
theorem K8:∀{xs:List Str}{a:List Value},StrsAre a xs->Vals (xs.map V.str) a
 | [],_,.nil=>.nil
 | x::xs,_,.cons _ t b=>.cons ⟨t,rfl⟩ (K8 b)
theorem Dc{α:Type}[BEq α][LawfulBEq α]:∀{ks xs:List α},ks.Nodup->(∀ x∈ks,x∈xs)->ks.length<=xs.length
 | [],xs,_,_=>YY _
 | k::ks,xs,d,h=>by
  have c:=YV.mp d;have a:k∈xs:=h k Ye;have h1:=Dc (xs:=xs.erase k) c.2 λx b=>(List.mem_erase_of_ne (λe=>c.1 (by rw[<- e];exact b))).mpr (h x (Yd _ b));rw[List.length_erase_of_mem a]at h1;have:0 < xs.length:=List.length_pos_of_mem a;rw[Yg];omega
section
variable {X:Cx} {e eb:Expr} {p1 p2 p3 q1 q2 q3 qb:Pos} {ta tb:TE}
theorem EG{A:Around}{E:Value->Shared->Prop}{s:Shared}{Q:List Value->Shared->Prop}(b:starEach [e] X.env=(false,eval e X.env)::starEach [] X.env)(h:wpAny (model X.prog X.w) A (eval e X.env) (λv a=>Q [v] a) E s):wpAny (model X.prog X.w) A (spliced (backTo pos (starEach [e] X.env))) Q E s:=by
 rw[b];refine Calls.spliced_cons (wpAny_mono h (λv a q=>?_) λ_ _ z=>z);exact Calls.spliced_nil q
def gZ(K:PySem.W.Frag)(ta tb:TE):TE:=λσ H Q=>ta σ H λx H1=>∃(p:Addr)(xs:List Str),x=.ref p/\SqL K H1 p (xs.map V.str)/\xs.length < 32/\tb σ H1 λy H2=>∃(q:Addr)(ys:List Str),y=.ref q/\SqL K H2 q (ys.map V.str)/\ys.length < 32/\
 ∀(zs:List Str)(r:Addr),zs.Nodup->sortedS zs=true->(∀ x,x∈zs↔x∈xs\/x∈ys)->H2 r=none->Q (.ref r) (upd H2 r (.lst (zs.map V.str)))
theorem g7(hc:X.calm=true)(n1:X.mg "sorted"=none)(n2:X.mg "set"=none)(g1:Gl X "sorted")(g2:Gl X "set")(h1:starEach [e] X.env=(false,eval e X.env)::starEach [] X.env)(h2:starEach [eb] X.env=(false,eval eb X.env)::starEach [] X.env)
  (N:starEach [.BinOp (.Call (.Name "set" p1) [e] [] q1) .BitOr (.Call (.Name "set" p2) [eb] [] q2) qb] X.env=(false,eval (.BinOp (.Call (.Name "set" p1) [e] [] q1) .BitOr (.Call (.Name "set" p2) [eb] [] q2) qb) X.env)::starEach [] X.env) (ha:PE X e ta) (hb:PE X eb tb):
  PE X (.Call (.Name "sorted" p3) [.BinOp (.Call (.Name "set" p1) [e] [] q1) .BitOr (.Call (.Name "set" p2) [eb] [] q2) qb] [] q3) (gZ X.K ta tb):=by
 intro pins s σ H Q I h;have bS:bootBuiltins "sorted"=some (.builtin "sorted"):=by decide +kernel
 have bT:bootBuiltins "set"=some (.type "set"):=by decide +kernel
 have hh:X.A.handled=none:=I.ok.hd hc;refine wpAny_Call_Name_kw (Cc I g1 n1 bS ?_);refine PyProof.Rows.callWith_builtin1 (EG N ?_) N rfl;refine wpAny_BinOp ?_;refine wpAny_Call_Name_kw (Cc I g2 n2 bT ?_);refine Qh (EG h1 ?_) h1 rfl;refine thn (ha pins s σ H _ I h) λv k Z=>?_;obtain⟨x,H1,E,r1,p,xs,ex,hq,hn,q1⟩:=Z;subst ex;cases r1;obtain⟨its,rv,pl,hz⟩:=E.list hq;have hil:its.length=xs.length:=by have:=rv.length;rw[Yh]at this;exact this.symm
 refine Ko hh pl.isList (by simpa using HC rv) (by rw[Yn,hil];unfold scanBound;omega) λh' tk ka hA F keep=>?_;have hA':=hA;obtain⟨R,esA,epA,tA,hoA,Y,m,TA⟩:=hA;have I2:Inv X pins σ H1 {k with heap:=h',toks:=tk}:=E.kept λb u z=>keep b u (Qp z) z
 have I3:Inv X (pins++[(k.heap.objs.size,R)]) σ H1 {k with heap:=h',toks:=tk}:=I2.pins_of λp g=>by
  rcases Yz.mp g with g | g
  ·exact I2.pin p (YQ _ g)
  ·have e:=YA.mp g;subst e;exact⟨hoA,E.hok.fresh (Yr _),YZ (Ys E.lt),E.nofs (Yr _),λv z=>by rw[m]at z;cases z⟩
 refine wpAny_Call_Name_kw (Cc I3 g2 n2 bT ?_);refine Qh (EG h2 ?_) h2 rfl;refine thn (hb _ _ σ H1 _ I3 q1) λv2 f zz2=>?_;obtain⟨y,H2,I4,r2,q,ys,ey,U,hn2,q2⟩:=zz2;subst ey;cases r2;have c:f.heap.get? k.heap.objs.size=some R:=(I4.pin (k.heap.objs.size,R) (YQ _ (YQ _ (YA.mpr rfl)))).1;have I5:Inv X pins σ H2 f:=I4.unpinned;obtain⟨t,O,pl2,hz2⟩:=I5.list U;have n:t.length=ys.length:=by have:=O.length;rw[Yh]at this;exact this.symm
 refine Ko hh pl2.isList (by simpa using HC O) (by rw[Yn,n];unfold scanBound;omega) λa tk2 kb S D d=>?_;have hA2:SS X.w a k.heap.objs.size ka:=⟨R,esA,epA,tA,d _ _ (Qp c) c,Y,m,TA⟩;have lka:ka.length < 32:=YK (Dc hA'.nd λx B=>(F x).mp B) hn;have lkb:kb.length < 32:=YK (Dc S.nd λx B=>(D x).mp B) hn2;refine QR (s:={f with heap:=a,toks:=tk2}) (Ys (Qp c)) hA2 S lka lkb λN kc P L j=>?_
 have lkc:kc.length < 64:=by
  have:=Dc (xs:=ka++kb) P.nd λx B=>Yz.mpr ((L x).mp B);rw[Yj]at this;omega
 refine Q0 hh P lkc λs' r vs zs en hr G hv g hs i hg T=>?_;have z1:f.heap.objs.size < a.objs.size:=SS.lt (s:={f with heap:=a}) S;have z2:a.objs.size < N.objs.size:=SS.lt (s:={f with heap:=N}) P;have l:f.heap.objs.size<=r:=YL (Yu (Nat.lt_trans z1 z2) hr)
 have o:∀ b u,f.heap.get? b=some u->s'.heap.get? b=some u:=λb u z=>by
  have y1:=d b u (Qp z) z;have y2:=j b u (Qp y1) y1;exact i b u (Qp y2) y2
 have hzl:zs.length<=sizeLine:=by
  have:(64:Nat)<=sizeLine:=by decide
  rw[g.length_eq];omega
 have J:Inv X pins σ (upd H2 r (.lst (zs.map V.str))) {f with heap:=s'.heap,toks:=s'.toks}:=I5.laid (t':=s'.toks) o l (show ObjOk X.prog X.w _ s'.heap r (.lst (zs.map V.str))from⟨by rw[Yh];exact hzl,vs,en,K8 hv,G⟩);refine⟨.ref r,_,⟨J.ok,by rw[T];exact J.os,by rw[hg];exact J.bare,J.base,J.loc,J.cell,J.free,J.freeC,J.pin,J.hok,J.len⟩,rfl,q2 zs r (g.nodup_iff.mpr P.nd) hs (λx=>?_) (I5.hok.fresh l)⟩;rw[g.mem_iff,L,F,D]
def Dr(ga gb:GE):GE:=λω G Q=>ga ω G λx G1=>∃ xs:List Str,CI G1 x=some (xs.map W.str)/\xs.length < 32/\gb ω G1 λy G2=>∃ ys:List Str,CI G2 y=some (ys.map W.str)/\ys.length < 32/\
 ∀(zs:List Str)(p:Addr),zs.Nodup->sortedS zs=true->(∀ x,x∈zs↔x∈xs\/x∈ys)->G2 p=none->Q (.ref p) (put G2 p (.lst (zs.map W.str)))
variable {ga gb:GE}
theorem g8(i:ga.M)(e:gb.M):GE.M (Dr ga gb):=λω G Q l h q=>i _ _ _ _ ((by rintro x j ⟨xs,h1,h2,q1⟩;exact⟨xs,h1,h2,e _ _ _ _ ((by rintro y k ⟨ys,f,g,q2⟩;exact⟨ys,f,g,λzs p a b c d=>h _ _ (q2 zs p a b c d)⟩)) q1⟩)) q
theorem HD:∀{xs:List Str}{vs:List V},TrL K H vs (xs.map W.str)->vs=xs.map V.str
 | [],_,.nil=>rfl
 | x::xs,_,.cons t a=>by
  cases t;rw[HD a];rfl
theorem K9:∀(xs:List Str),TrL K H (xs.map V.str) (xs.map W.str)
 | []=>.nil
 | x::xs=>.cons (.str x) (K9 xs)
theorem g9(hc:X.calm=true)(O:X.mg "sorted"=none)(I:X.mg "set"=none)(g1:Gl X "sorted")(g2:Gl X "set")(h1:starEach [e] X.env=(false,eval e X.env)::starEach [] X.env)(h2:starEach [eb] X.env=(false,eval eb X.env)::starEach [] X.env)
  (P:starEach [.BinOp (.Call (.Name "set" p1) [e] [] q1) .BitOr (.Call (.Name "set" p2) [eb] [] q2) qb] X.env=(false,eval (.BinOp (.Call (.Name "set" p1) [e] [] q1) .BitOr (.Call (.Name "set" p2) [eb] [] q2) qb) X.env)::starEach [] X.env) (k:Em X e ga) (c:Em X eb gb):
  Em X (.Call (.Name "sorted" p3) [.BinOp (.Call (.Name "set" p1) [e] [] q1) .BitOr (.Call (.Name "set" p2) [eb] [] q2) qb] [] q3) (Dr ga gb):=by
 refine⟨AW (g7 hc O I g1 g2 h1 h2 P k.p c.p) λσ H Q f=>?_,g8 k.m c.m⟩;obtain⟨ω,G,n,t,q⟩:=f;refine⟨ω,G,n,t,k.m _ _ _ _ (λx s d v H1 o E r1=>?_) q⟩;obtain⟨xs,D,w,q1⟩:=d;obtain⟨a,T,rfl,rfl,U,K,tv⟩:=DU r1 E D;obtain rfl:=HD tv;refine⟨a,xs,rfl,.inl (.inl K),w,ω,s,n.mono o,r1,c.m _ _ _ _ (λy S j u H2 F ty g=>?_) q1⟩;obtain⟨ys,N,h,q2⟩:=j;obtain⟨b,R,rfl,rfl,z,i,A⟩:=DU g ty N;obtain rfl:=HD A;refine⟨b,ys,rfl,.inl (.inl i),h,λzs r L B J l=>?_⟩;exact q2 zs r L B J (g.no l) _ _ (o.trans (F.trans (Mono.new l _))) (.ref r) (g.new l (K9 zs))
end
end L3
namespace L3
open PySem PySem.Spec PyProof.Rows L2
def BW{α:Type}(kvs:List (Key×α))(x:Str)(d:α):α:=((kvs.find? λy=>decide (y.1=Sum.inr x)).map (·.2)).getD d
theorem Gb{α:Type}{k:Key}{v d:α}{a:List (Key×α)}{x:Str}:BW ((k,v)::a) x d=if k=Sum.inr x then v else BW a x d:=by
 unfold BW;rw[List.find?_cons];by_cases h:k=Sum.inr x
 ·simp[h]
 ·simp[h]
theorem Q1{x:Str}{d:V}{r:Value}(b:RelV d r):∀{a:List (Key×V)}{vs:List (Key×Value)},KV a vs->RelV (BW a x d) ((valueAt vs (Sum.inr x)).getD r)
 | _,_,.nil=>b
 |(k,v)::a,(g,i)::vs,.cons ⟨e,f⟩ t=>by
  have c:=Q1 (x:=x) b t;cases(show k=g from e);rw[Gb];unfold valueAt at c ⊢;rw[List.find?_cons];by_cases h:k=Sum.inr x
  ·simp[h];exact f
  ·simp[h];exact c
theorem Q2{K:PySem.W.Frag}{H:Hp}{x:Str}{d:V}{w:W}(b:Tr K H d w):∀{vs:List (Key×V)}{a:List (Key×W)},TrP K H vs a->Tr K H (BW vs x d) (BW a x w)
 | _,_,.nil=>b
 |(k,v)::vs,(_,u)::a,.cons tv t=>by
  rw[Gb,Gb];split
  ·exact tv
  ·exact Q2 b t
def La(o:W)(ws:List W)(G:Hw)(Q:Kw):Prop:=∃ p kvs x d,o=.ref p/\ws=[.str x,d]/\G p=some (.dct kvs)/\Q (BW kvs x d) G
def Lb(o:W)(G:Hw):Prop:=∃ p kvs,o=.ref p/\G p=some (.dct kvs)
variable {X:Cx}
theorem hE:MtR X "dict.get" (λv vs H Q=>∃ p a x d,v=.ref p/\vs=[.str x,d]/\H p=some (.dK a)/\Q (BW a x d) H):=by
 intro pins s σ H x vs v j Q I e f h;obtain⟨p,a,x,d,rfl,rfl,g,q⟩:=h;cases e;cases f with
 | cons r1 t =>
  cases t with
  | cons i t =>
   cases t;obtain⟨t,rfl⟩:=r1;obtain⟨z,hd,vs,b,c⟩:a.length<=sizeLine/\(p==sysModules)=false/\∃ vs,KV a vs/\s.heap.DictOf (AV X.prog X.w) p vs:=I.hok p _ g;refine call_meetsIn PySem.F.slot_dict_get c.typeIs PySem.F.entry_dict_get (PySem.F.args_dict_get_3 _ _ _) (meets_dict_get_default (AV X.prog X.w) p (k:=Sum.inr x) (by simp[AV,De,Value.isStrOf]) hd _) ⟨_,c.mapOf,?_⟩;exact⟨_,H,I.tok _,Q1 i b,q⟩
theorem hF:Mth X "dict" "get" "dict.get" Lb La where
 pa:=PySem.F.plainAttrs_dict
 slot:=PySem.F.slot_dict_get
 ty:=PySem.F.type_dict_get
 ex:=⟨_,hE,λo k v s G H Q tv f r q=>by
  obtain⟨p,a,x,d,rfl,rfl,e,q⟩:=q;cases tv;cases f with
  | cons g t =>
   cases t with
   | cons j t =>
    cases t;cases g;obtain⟨c,b,l⟩:=r p _ e;exact⟨p,c,x,_,rfl,rfl,b,q _ _ .refl (Q2 j l) r⟩⟩
 pr:=λo v G H t r h=>by
  obtain⟨p,a,rfl,e⟩:=h;cases t;obtain⟨c,b,l⟩:=r p _ e;exact .inr (.inr (.inl ⟨rfl,.inl ⟨c,b⟩⟩))
 m:=(by rintro o k G Q n h ⟨p,a,x,d,h1,h2,i,q⟩;exact⟨p,a,x,d,h1,h2,i,h _ _ q⟩)
inductive PV(K:PySem.W.Frag)(H:Hp):List V->List (Str×V)->Prop where
 | nil:PV K H [] []
 | cons {q:Addr} {x:Str} {v:V} {ys:List V} {pv:List (Str×V)}:SqT K H q [.str x,v]->PV K H ys pv->PV K H (.ref q::ys) ((x,v)::pv)
theorem Q3{K:PySem.W.Frag}{H:Hp}:∀{a:List (Str×W)}{vs:List V},TrL K H vs (a.map λy=>.tup [.str y.1,y.2])->∃ pv,PV K H vs pv/\TrP K H pv a
 | [],_,.nil=>⟨[],.nil,.nil⟩
 |(x,w)::a,_,.cons t r=>by
  obtain⟨pv,h1,h2⟩:=Q3 r;cases t with
  | tup d l =>
   cases l with
   | cons c l =>
    cases l with
    | cons b l =>
     cases l;cases c;exact⟨(x,_)::pv,.cons d h1,.cons b h2⟩
theorem Q4{K:PySem.W.Frag}{H:Hp}:∀{pv:List (Str×V)}{a:List (Str×W)},TrP K H pv a->TrP K H (pv.map λy=>((Sum.inr y.1:Key),y.2)) (a.map λy=>((Sum.inr y.1:Key),y.2))
 | _,_,.nil=>.nil
 | _,_,.cons t r=>.cons t (Q4 r)
theorem Lc{K:PySem.W.Frag}{H:Hp}:∀{pv:List (Str×V)}{a:List (Str×W)},TrP K H pv a->pv.map (·.1)=a.map (·.1)
 | _,_,.nil=>rfl
 | _,_,.cons t r=>by rw[Ym,Ym,Lc r]
theorem Q5{X:Cx}{H:Hp}{s:Shared}(I:Inv X pins σ H s):∀{ys:List V}{pv:List (Str×V)}{a:List Value},PV X.K H ys pv->Vals ys a->
  ∃ ps:List (Str×Value),KV (pv.map λy=>((Sum.inr y.1:Key),y.2)) (ps.map λy=>((Sum.inr y.1:Key),y.2))/\ps.map (·.1)=pv.map (·.1)/\ps.length=a.length/\∀(j:Nat)(v:Value),a[j]?=some v->∃ p t y,v=.ref p/\ps[j]?=some y/\s.heap.IsTuple p #[.str y.1 t,y.2]
 | _,_,_,.nil,r=>by
  cases r;exact⟨[],.nil,rfl,rfl,λj v h=>by simp at h⟩
 | _,_,_,.cons (q:=q) (x:=x) (v:=v) (pv:=pv) e h,r=>by
  cases r with
  | cons r1 k =>
   obtain⟨ps,h1,h2,l,n⟩:=Q5 I h k;cases(show _=Value.ref q from r1);obtain⟨o,f,pt,_⟩:=I.tuple e;cases f with
   | cons g t =>
    cases t with
    | cons m t =>
     cases t;obtain⟨t,rfl⟩:=g;refine⟨(x,_)::ps,.cons ⟨rfl,m⟩ h1,by rw[Ym,Ym,h2],by rw[Yg,Yg,l],λj u b=>?_⟩;cases j with
     | zero =>
      rw[Yb]at b;cases b;exact⟨q,t,_,rfl,Yb,pt⟩
     | succ j =>
      rw[Yc]at b;obtain⟨p,t',y,d,i,c⟩:=n j u b;exact⟨p,t',y,d,by rw[Yc];exact i,c⟩
section
variable {X:Cx} {e:Expr} {p1 p3 q1 q3:Pos} {ta:TE}
end
section
variable {prog:Program} {w:World} {A:Around} {E:Value->Shared->Prop} {s:Shared}
theorem hI{b l:Addr}{i:Nat}{xs:Array Value}{Q:Value->Shared->Prop}(f:A.handled=none)(u:s.heap.IsTupleIter b l i)(v:s.heap.IsTuple l xs)(d:xs[i]?=none)
  (g:∀ h' e,Heap.ExtBut b s.heap h'->(∃ o,h'.get? e=some o/\o.cls=.type "StopIteration")->E (.ref e) {s with heap:=h'}):wpAny (model prog w) A (Builtin.SmallTypes.nextOf (.ref b)) Q E s:=by
 obtain⟨n,ei,k,c⟩:=id u;obtain⟨j,el,_,p,h⟩:=v;unfold Builtin.SmallTypes.nextOf;refine Qm (wpAny_callSpecial?_slot (name:=Str.ofString "__next__") u.typeIs PySem.F.slot_tuple_iterator_next (wpAny_call_entry PySem.F.slot_tuple_iterator_next u.typeIs PySem.F.entry_tuple_iterator_next ?_ (PySem.F.args_tuple_iterator_next_1 _)));refine Qm (m:=field (.ref b) 0) (wpAny_field ei c (x:=.ref l) rfl ?_);show wpAny (model prog w) _ (if(Value.ref l==Value.none)=true then _ else _) _ E s;rw[if_neg (show ¬ ((Value.ref l==Value.none)=true)from YX)];refine Qm (m:=field (.ref b) 1) (wpAny_field ei c (x:=.int i 0) rfl ?_);refine Qm (m:=seqItems? (.ref l)) (wpAny_seqItems el h ?_);simp only[Int.toNat_natCast];rw[d];refine Qm (wpAny_rule (Qm (wpAny_setField ei c (by simp) ?_)));refine Qm (m:=newExc (.type "StopIteration") []) ?_;simp only[newExc,newTuple];refine Qm (wpAny_newObj_type ?_ (by size_fits));refine Qm (m:=firstArgMember _ _) (wpAny_of_eq (a:=Value.none) (by first | rfl |(simp only[firstArgMember];rfl)) (wpAny_newObj_type ?_ (by size_fits)));simp only[raiseNew];refine Qm (wpAny_handled ?_);rw[show A.in1.handled=none from f];refine Qm (Qn (wpAny_throw ?_));exact g _ _ (((Qs ..).extBut.push _).push _) ⟨_,Qq _ rfl,rfl⟩
end
end L3
namespace L3
open PySem PySem.Spec PyProof.Rows L2
variable {K:PySem.W.Frag} {H H' H2:Hp}
section
variable {prog:Program} {w:World} {A:Around} {E:Value->Shared->Prop} {s:Shared}
variable {a:Addr}
theorem tat{h h':Heap}{t:Addr}{i:Nat}(x:h.IsTupleIter a t i)(k:∀ o,h.get? a=some o->h'.get? a=some o):h'.IsTupleIter a t i:=by
 obtain⟨o,e,r⟩:=x;exact⟨o,k o e,r⟩
abbrev zT1(h:Heap)(l1:Addr):Heap:=h.push {cls:=.type "tuple_iterator",data:=.fields #[.ref l1,.int 0 0]}
abbrev zT2(h:Heap)(l1 l2:Addr):Heap:=(zT1 h l1).push {cls:=.type "tuple_iterator",data:=.fields #[.ref l2,.int 0 0]}
abbrev zT3(h:Heap)(l1 l2:Addr):Heap:=(zT2 h l1 l2).push {cls:=.type "tuple",data:=.seq #[.ref h.objs.size,.ref (zT1 h l1).objs.size]}
abbrev zT4(h:Heap)(l1 l2:Addr):Heap:=(zT3 h l1 l2).push {cls:=.type "tuple",data:=.seq #[.none,.none]}
abbrev zT5(h:Heap)(l1 l2:Addr):Heap:=(zT4 h l1 l2).push {cls:=.type "zip",data:=.fields #[.none,.bool false,.bool false,.ref (zT2 h l1 l2).objs.size,.ref (zT3 h l1 l2).objs.size]}
theorem hJ(a b:Addr)(xs ys:Array Value):Meets (Builtin.«zip.__new__» ⟨[.type "zip",.ref a,.ref b],[]⟩) (λ_ R s=>s.heap.IsTuple a xs/\s.heap.IsTuple b ys/\R (.ok (.ret (.ref (zT4 s.heap a b).objs.size))) {s with heap:=zT5 s.heap a b}):=
 .of_wp λprog w A R s h=>by
  obtain⟨i,g,d,tk,os⟩:=s;obtain⟨k,j,h⟩:=h;have f:=sub_zip;have c:Heap.IsTuple (Shared.heap ⟨i,g,d,tk,os⟩) a xs:=k;have e:Heap.IsTuple (Shared.heap ⟨i.push {cls:=.type "tuple_iterator",data:=.fields #[.ref a,.int 0 0]},g,d,tk,os⟩) b ys:=Heap.IsTuple.push j _;wp_walk using wpAny_pyIter_tuple c,wpAny_pyIter_tuple e;exact⟨_,rfl,h⟩
theorem hL{b:Addr}{xs ys:Array Value}{Q:Value->Shared->Prop}(k:s.heap.IsTuple a xs)(j:s.heap.IsTuple b ys)
  (h:∀ h',IsZip h' (s.heap.objs.size+4) (s.heap.objs.size+2) (s.heap.objs.size+3) .none->IsPair h' (s.heap.objs.size+2) (.ref s.heap.objs.size) (.ref (s.heap.objs.size+1))->IsPair h' (s.heap.objs.size+3) .none .none->h'.IsTupleIter s.heap.objs.size a 0->h'.IsTupleIter (s.heap.objs.size+1) b 0->h'.objs.size=s.heap.objs.size+5->(∀ c o,s.heap.get? c=some o->h'.get? c=some o)->Q (.ref (s.heap.objs.size+4)) {s with heap:=h'}):
  wpAny (model prog w) A (call (.type "zip") [.ref a,.ref b]) Q E s:=by
 refine callType_new PySem.F.called_zip (by decide) (PySem.F.typeCall_zip_2 _ _) (PySem.F.newCall_zip_2 _ _) (λobj=>PySem.F.args_object_init_3 obj _ _) PySem.F.entry_zip_new (hJ a b xs ys) ⟨k,j,?_⟩;have g:(zT1 s.heap a).objs.size=s.heap.objs.size+1:=Qr ..;have e:(zT2 s.heap a b).objs.size=s.heap.objs.size+2:=by rw[Qr,g]
 have f:(zT3 s.heap a b).objs.size=s.heap.objs.size+3:=by rw[Qr,e]
 have i:(zT4 s.heap a b).objs.size=s.heap.objs.size+4:=by rw[Qr,f]
 have l:(zT5 s.heap a b).objs.size=s.heap.objs.size+5:=by rw[Qr,i]
 have d:(zT5 s.heap a b).get? (zT4 s.heap a b).objs.size=some _:=Qq _ rfl;have g4:(zT5 s.heap a b).get? (zT3 s.heap a b).objs.size=some _:=Qo _ (Qq _ rfl);have g3:(zT5 s.heap a b).get? (zT2 s.heap a b).objs.size=some _:=Qo _ (Qo _ (Qq _ rfl));have g2:(zT5 s.heap a b).get? (zT1 s.heap a).objs.size=some _:=Qo _ (Qo _ (Qo _ (Qq _ rfl)));have g1:(zT5 s.heap a b).get? s.heap.objs.size=some _:=Qo _ (Qo _ (Qo _ (Qo _ (Qq _ rfl))));rw[e,f,i]at d;rw[g,e]at g3;rw[f]at g4;rw[g]at g2;rw[i];exact⟨⟨_,d,rfl⟩,h _ d g3 g4 ⟨_,g1,rfl,rfl⟩ ⟨_,g2,rfl,rfl⟩ l λc o x=>Qo _ (Qo _ (Qo _ (Qo _ (Qo _ x))))⟩
end
theorem Gc{v:V}{xs:List W}(t:Tr K H v (.tup xs)):∃ a vs,v=.ref a/\SqT K H a vs/\TrL K H vs xs:=by
 cases t with
 | tup h l=>exact⟨_,_,rfl,h,l⟩
end L3
namespace L3
open PySem PySem.Spec PyProof.Rows L2
abbrev EH(h:Heap)(T:Addr)(a b c:Value):Prop:=h.get? T=some {cls:=.type "tuple",data:=.seq #[a,b,c]}
section
variable {prog:Program} {w:World} {A:Around} {E:Value->Shared->Prop} {s:Shared}
def St3(n l1 l2 l3:Nat)(f0:Value)(i:Nat)(h:Heap):Prop:=IsZip h (n+5) (n+3) (n+4) f0/\EH h (n+3) (.ref n) (.ref (n+1)) (.ref (n+2))/\(∃ a b c,EH h (n+4) a b c)/\h.IsListIter n l1 i/\h.IsListIter (n+1) l2 i/\h.IsListIter (n+2) l3 i
end
end L3
namespace L3
open PySem PySem.Spec PyProof.Rows L2
variable {K:PySem.W.Frag} {H H' H2:Hp}
section
variable {prog:Program} {w:World} {A:Around} {E:Value->Shared->Prop} {s:Shared}
theorem St3.at{n m j g:Nat}{l:Value}{i:Nat}{h h':Heap}(st:St3 n m j g l i h)(k:∀(c:Nat)o,n<=c->c<=n+5->h.get? c=some o->h'.get? c=some o):St3 n m j g l i h':=by
 obtain⟨q,f,⟨a,b,c,d⟩,s,p,r⟩:=st;exact⟨k _ _ (by omega) (by omega) q,k _ _ (by omega) (by omega) f,⟨a,b,c,k _ _ (by omega) (by omega) d⟩,s.at λo e=>k _ o (by omega) (by omega) e,p.at λo e=>k _ o (by omega) (by omega) e,r.at λo e=>k _ o (by omega) (by omega) e⟩
theorem tc3(a b c:Value):checkTypeCall "zip" ⟨[a,b,c],[]⟩=pure ():=by kernel_rfl
theorem nc3(a b c:Value):checkBuiltinCall "zip.__new__" ⟨[.type "zip",a,b,c],[]⟩=pure ():=by kernel_rfl
theorem oi4(a b c d:Value):argsOk "object.__init__" ⟨[a,b,c,d],[]⟩:=by
 unfold argsOk;rw[signature?_of (o:=['t','c','e','j','b','o']) (n:=['_','_','t','i','n','i','_','_']) (id:="object.__init__") (by kernel_rfl) PySem.F.owner_object];kernel_rfl
end
theorem hO{a b c:V}{us:List Value}(h:Vals [a,b,c] us):∃ u v w,us=[u,v,w]/\RelV a u/\RelV b v/\RelV c w:=by
 cases h with
 | cons h1 h =>
  cases h with
  | cons h2 h =>
   cases h with
   | cons d h=>cases h;exact⟨_,_,_,rfl,h1,h2,d⟩
def EI(x:W):List W->Option Bool
 | []=>some false
 | w::ws=>if dpW w < 90 then(match eqD w x,EI x ws with | some a,some b=>some (a||b)| _,_=>none)else none
theorem Q6{x:W}:∀{a:List W}{b:Bool},EI x a=some b->∃ e:Nat->Bool,(∀(j:Nat)w,a[j]?=some w->eqD w x=some (e j)/\dpW w < 90)/\(b=true↔∃ j,j < a.length/\e j=true)
 | [],b,h=>by
  cases h;exact⟨λ_=>false,λj w e=>by simp at e,by simp⟩
 | w::a,b,h=>by
  unfold EI at h;split at h
  ·rename_i hd;split at h
   ·rename_i c d i k;cases h;obtain⟨e,h1,h2⟩:=Q6 k;refine⟨λj=>match j with | 0=>c | j+1=>e j,λj u f=>?_,?_⟩
    ·cases j with
     | zero=>simp only[Yb,Option.some.injEq]at f;subst f;exact⟨i,hd⟩
     | succ j=>exact h1 j u (by simpa using f)
    ·rw[Bool.or_eq_true,h2];constructor
     ·rintro(z |⟨j,g,z⟩)
      ·exact⟨0,by simp,z⟩
      ·exact⟨j+1,by simpa using g,z⟩
     ·rintro⟨j,g,z⟩;cases j with
      | zero=>exact .inl z
      | succ j=>exact .inr ⟨j,by simpa using g,z⟩
   ·cases h
  ·cases h
def inT(x y:W)(G:Hw):Option W:=(rdL G y).bind λws=>(EI x ws).map .bl
def Q7(K:PySem.W.Frag):R2:=λv u H Q=>∃ p vs ws x b,u=.ref p/\SqL K H p vs/\TrL K H vs ws/\Tr K H v x/\EI x ws=some b/\Q (.bl b) H
variable {X:Cx}
open Classical in
theorem hQ(T:X.A.units+100 < cLine):OpR X (compareOp .In) (Q7 X.K):=by
 intro pins s σ H x y v u Q I O D h;obtain⟨p,o,U,Y,b,rfl,B,tl,G,e,q⟩:=h;cases D;obtain⟨a,r,pl,Z⟩:=I.list B;obtain⟨f,P,E⟩:=Q6 e;have S:=r.length;have l2:=tl.length
 have d:∀(i:Nat)(z:Value),a[i]?=some z->SeqAt.EqAt X.A.in1 s z v (f i):=λi z hi=>by
  have R:i < a.length:=by
   rcases Nat.lt_or_ge i a.length with h | h
   ·exact h
   ·rw[Qi h]at hi;cases hi
  have gv:o[i]?=some (o[i]'(by omega)):=Yp _;obtain⟨z',t,J⟩:=r.get gv;rw[hi]at t;cases t;obtain⟨w,N,F⟩:=tl.get' gv;obtain⟨h1,h2⟩:=P i w N;exact Px I 99 _ _ _ _ _ _ _ X.A.in1 (by omega) F G J O h1 (by show X.A.units+1+99 < cLine;omega)
 refine SeqAt.in_listAt (λz=>decide (∃ i,a[i]?=some z/\f i=true)) pl.isList (λz l=>?_) ⟨.bl b,H,I,?_,q⟩
 ·have L:z∈a:=by simpa using l
  obtain⟨i,hi,rfl⟩:=List.getElem_of_mem L;have gi:a[i]?=some a[i]:=Yp hi;by_cases h:∃ j,a[j]?=some a[i]/\f j=true
  ·obtain⟨j,g,n⟩:=h;have:=d j _ g;rw[n]at this;rw[YI ⟨j,g,n⟩];exact this
  ·have:=d i _ gi;rw[decide_eq_false h];cases c:f i with
   | false=>rw[c]at this;exact this
   | true=>exact absurd ⟨i,gi,c⟩ h
 ·show RelV (.bl b) (.bool _)
  have:(a.toArray.any λz=>decide (∃ i,a[i]?=some z/\f i=true))=b:=by
   rw[Bool.eq_iff_iff,E];simp only[List.any_toArray,List.any_eq_true,YT];constructor
   ·rintro⟨z,l,i,hi,c⟩;refine⟨i,?_,c⟩;rcases Nat.lt_or_ge i a.length with h | h
    ·omega
    ·rw[Qi h]at hi;cases hi
   ·rintro⟨j,n,m⟩;have k:j < a.length:=by omega
    exact⟨a[j],Qk k,j,Yp k,m⟩
  rw[this];rfl
theorem hR(x y:W)(v u:V)(G:Hw)(H:Hp)(Q:VK)(h:Tr K H v x)(ty:Tr K H u y)(r:RelH K H G)(q:Ae inT x y G (dn K H Q)):Q7 K v u H Q:=by
 obtain⟨w,e,i⟩:=Cu q;obtain⟨j,d,k⟩:=Qg.mp e;obtain⟨b,c,f⟩:=YU.mp k;subst f;obtain⟨a,l,rfl,g,t⟩:=Dm r ty d;exact⟨a,l,j,x,b,rfl,g,t,h,c,i _ H .refl (.bl _) r⟩
theorem hU(a:X.A.units+100 < cLine):Cop X .In (Ae inT):=⟨⟨_,hQ a,hR⟩,CZ⟩
def Gd(w:W):Bool:=match w with | .non=>true | _=>false
def isF(neg:Bool)(x y:W)(_:Hw):Option W:=match y with | .non=>some (.bl (Gd x != neg))| _=>none
theorem Q8{v:V}{x:W}(t:Tr K H v x):decide (v=.non)=Gd x:=by cases t <;> rfl
theorem hV{u:V}(t:Tr K H u .non):u=.non:=by cases t;rfl
theorem Q9(a:Bool)(x y:W)(v u:V)(G:Hw)(H:Hp)(Q:VK)(c:Tr K H v x)(ty:Tr K H u y)(r:RelH K H G)(q:Ae (isF a) x y G (dn K H Q)):u=.non/\Q (.bl (Gd x != a)) H:=by
 obtain⟨w,e,b⟩:=Cu q;cases y with
 | non=>cases e;exact⟨hV ty,b _ H .refl (.bl _) r⟩
 | _=>cases e
theorem hW:Cop X .Is (Ae (isF false)):=⟨⟨_,aG,λx y v u G H Q a ty r q=>by
 obtain⟨h1,h2⟩:=Q9 false x y v u G H Q a ty r q;refine⟨h1,?_⟩;rw[Q8 a];simpa using h2⟩,CZ⟩
theorem hX:Cop X .IsNot (Ae (isF true)):=⟨⟨_,aH,λx y v u G H Q a ty r q=>by
 obtain⟨h1,h2⟩:=Q9 true x y v u G H Q a ty r q;refine⟨h1,?_⟩;rw[Q8 a];simpa using h2⟩,CZ⟩
section
variable {prog:Program} {w:World} {A:Around} {E:Value->Shared->Prop} {s:Shared}
abbrev ztL(h:Heap)(l:Addr):Heap:=h.push {cls:=.type "tuple_iterator",data:=.fields #[.ref l,.int 0 0]}
abbrev Ge(h:Heap)(l1 l2 l3:Addr):Heap:=ztL (ztL (ztL h l1) l2) l3
abbrev HE(h:Heap)(l1 l2 l3:Addr):Heap:=(Ge h l1 l2 l3).push {cls:=.type "tuple",data:=.seq #[.ref h.objs.size,.ref (ztL h l1).objs.size,.ref (ztL (ztL h l1) l2).objs.size]}
abbrev HF(h:Heap)(l1 l2 l3:Addr):Heap:=(HE h l1 l2 l3).push {cls:=.type "tuple",data:=.seq #[.none,.none,.none]}
abbrev Ff(h:Heap)(l1 l2 l3:Addr):Heap:=(HF h l1 l2 l3).push {cls:=.type "zip",data:=.fields #[.none,.bool false,.bool false,.ref (Ge h l1 l2 l3).objs.size,.ref (HE h l1 l2 l3).objs.size]}
theorem hY(a b c:Addr)(xs ys vs:Array Value):Meets (Builtin.«zip.__new__» ⟨[.type "zip",.ref a,.ref b,.ref c],[]⟩) (λ_ R s=>s.heap.IsTuple a xs/\s.heap.IsTuple b ys/\s.heap.IsTuple c vs/\R (.ok (.ret (.ref (HF s.heap a b c).objs.size))) {s with heap:=Ff s.heap a b c}):=
 .of_wp λprog w A R s h=>by
  obtain⟨f,g,d,tk,os⟩:=s;obtain⟨n,l,m,h⟩:=h;have k:=sub_zip;have i:Heap.IsTuple (Shared.heap ⟨f,g,d,tk,os⟩) a xs:=n;have j:Heap.IsTuple (Shared.heap ⟨f.push {cls:=.type "tuple_iterator",data:=.fields #[.ref a,.int 0 0]},g,d,tk,os⟩) b ys:=Heap.IsTuple.push l _;have e:Heap.IsTuple (Shared.heap ⟨(f.push {cls:=.type "tuple_iterator",data:=.fields #[.ref a,.int 0 0]}).push {cls:=.type "tuple_iterator",data:=.fields #[.ref b,.int 0 0]},g,d,tk,os⟩) c vs:=Heap.IsTuple.push (Heap.IsTuple.push m _) _;wp_walk using wpAny_pyIter_tuple i,wpAny_pyIter_tuple j,wpAny_pyIter_tuple e;exact⟨_,rfl,h⟩
theorem hZ{a b d:Addr}{xs ys vs:Array Value}{Q:Value->Shared->Prop}(m:s.heap.IsTuple a xs)(k:s.heap.IsTuple b ys)(l:s.heap.IsTuple d vs)
  (h:∀ h',IsZip h' (s.heap.objs.size+5) (s.heap.objs.size+3) (s.heap.objs.size+4) .none->EH h' (s.heap.objs.size+3) (.ref s.heap.objs.size) (.ref (s.heap.objs.size+1)) (.ref (s.heap.objs.size+2))->EH h' (s.heap.objs.size+4) .none .none .none->h'.IsTupleIter s.heap.objs.size a 0->(∀ c o,s.heap.get? c=some o->h'.get? c=some o)->Q (.ref (s.heap.objs.size+5)) {s with heap:=h'}):
  wpAny (model prog w) A (call (.type "zip") [.ref a,.ref b,.ref d]) Q E s:=by
 refine callType_new PySem.F.called_zip (by decide) (tc3 _ _ _) (nc3 _ _ _) (λobj=>oi4 obj _ _ _) PySem.F.entry_zip_new (hY a b d xs ys vs) ⟨m,k,l,?_⟩;have q1:(ztL s.heap a).objs.size=s.heap.objs.size+1:=Qr ..;have q2:(ztL (ztL s.heap a) b).objs.size=s.heap.objs.size+2:=by rw[Qr,q1]
 have q3:(Ge s.heap a b d).objs.size=s.heap.objs.size+3:=by rw[Qr,q2]
 have g:(HE s.heap a b d).objs.size=s.heap.objs.size+4:=by rw[Qr,q3]
 have i:(HF s.heap a b d).objs.size=s.heap.objs.size+5:=by rw[Qr,g]
 have up:∀{c:Addr}{o:Obj},(Ge s.heap a b d).get? c=some o->(Ff s.heap a b d).get? c=some o:=λe=>Qo _ (Qo _ (Qo _ e));have f:(Ff s.heap a b d).get? (HF s.heap a b d).objs.size=some _:=Qq _ rfl;have j:(Ff s.heap a b d).get? (HE s.heap a b d).objs.size=some _:=Qo _ (Qq _ rfl);have g4:(Ff s.heap a b d).get? (Ge s.heap a b d).objs.size=some _:=Qo _ (Qo _ (Qq _ rfl));have g1:(Ff s.heap a b d).get? s.heap.objs.size=some _:=up (Qo _ (Qo _ (Qq _ rfl)));rw[q3,g,i]at f;rw[q1,q2,q3]at g4;rw[g]at j;rw[i];exact⟨⟨_,f,rfl⟩,h _ f g4 j ⟨_,g1,rfl,rfl⟩ λc o x=>up (Qo _ (Qo _ (Qo _ x)))⟩
end
section
variable {prog:Program} {w:World} {A:Around} {E:Value->Shared->Prop} {s:Shared}
def St0(z TI TO i1 l1:Addr)(h:Heap):Prop:=IsZip h z TI TO .none/\(∃ r:List Value,h.get? TI=some {cls:=.type "tuple",data:=.seq (Value.ref i1::r).toArray})/\(∃ o,h.get? TO=some o/\∀ v,o.data≠.cell v)/\h.IsTupleIter i1 l1 0
theorem h5{z TI TO p u:Addr}{Q:Fin->Shared->Prop}(K:A.handled=none)(D:p≠z)(J:u≠z)(st:St0 z TI TO p u s.heap)(L:s.heap.IsTuple u #[])
  (N:∀ h' e,(∀ c o,c≠z->c≠p->s.heap.get? c=some o->h'.get? c=some o)->(∃ o,h'.get? e=some o/\o.cls=.type "StopIteration")->E (.ref e) {s with heap:=h'}):wpAny (model prog w) A (Builtin.«zip.__next__» ⟨[.ref z],[]⟩) Q E s:=by
 obtain⟨k,⟨r,t⟩,_,I⟩:=st;refine Qm (m:=field (.ref z) 2) (wpAny_field k rfl (x:=.bool false) rfl ?_);refine Qm (m:=field (.ref z) 3) (wpAny_field k rfl (x:=.ref TI) rfl (Qm (m:=seqItems? (.ref TI)) (wpAny_seqItems t rfl ?_)));refine Qm (m:=Builtin.SmallTypes.ownedTupleIsFree (.ref z)) ?_;unfold Builtin.SmallTypes.ownedTupleIsFree;refine Qm (m:=field (.ref z) 0) (wpAny_field k rfl (x:=.none) rfl (Qn ?_));simp only[if_true];refine Qm (wpAny_rule (Qm (wpAny_field k rfl (x:=.ref TO) rfl (Qm (wpAny_setField_rec k (by simp) λi a h=>?_)))));replace a:IsZip i z TI TO .ellipsis:=a;refine Qm ?_;simp only[List.zipIdx_cons,List.forIn_cons];have v:=h.extBut;refine Qm (Qm (wpAny_onRaise ?_));refine Qm (m:=Builtin.SmallTypes.nextOf (.ref p)) ?_;refine hI K (I.extBut v D) (L.extBut v J) rfl λj e d H=>?_;obtain⟨F,g,l⟩:=H;have b:IsZip j z TI TO .ellipsis:=d _ _ (YZ D) a;have y:e≠z:=λq=>by subst q;rw[b]at g;cases g;simp at l
 exact wpAny_setField_rec b (by simp) λn _ f=>N n e (λc o B G q=>f.extBut _ _ B (d _ _ G (v _ _ B q))) ⟨F,f.extBut _ _ y g,l⟩
end
def It0(K:PySem.W.Frag)(l1:Addr):It:=⟨λ_ _=>False,λ_ _ _ _=>False,λ_ H=>SqT K H l1 []⟩
variable {tg:Expr}{z:Addr}
theorem ia{P:Program}{w:World}{TI TO j l:Addr}(R:j≠z)(N:l≠z):DM P w K tg (It0 K l) [z,TI,TO,j] z (λ_ h=>St0 z TI TO j l h) where
 mem:=Ye
 obj:=λi h st b d=>by
  obtain⟨n,⟨r,c⟩,⟨o,a,f⟩,⟨G,D,_,O⟩⟩:=st;simp only[Yo,Qd,or_false]at d;rcases d with rfl | rfl | rfl | rfl
  ·exact⟨_,n,λv z=>by cases z⟩
  ·exact⟨_,c,λv z=>by cases z⟩
  ·exact⟨o,a,f⟩
  ·exact⟨G,D,λv z=>by rw[O]at z;cases z⟩
 keep:=λi h h' st g=>by
  obtain⟨n,⟨r,c⟩,⟨o,a,f⟩,h1⟩:=st;exact⟨g z (by simp) _ n,⟨r,g TI (by simp) _ c⟩,⟨o,g TO (by simp) _ a,f⟩,tat h1 λo e=>g j (by simp) o e⟩
 item:=by
  intro X u hw t hc i pins s σ H E I B st p;exact p.elim
 done:=by
  intro X u hw t hc i pins s σ H E I B st p;subst u hw t;obtain⟨x,r1,m,S⟩:=I.tuple p;cases r1;have y:s.TypeIs (.ref z) "zip":=⟨_,st.1,rfl⟩;unfold pyNext;refine Qm (wpAny_attempt (wpAny_callSpecial?_slot (name:=Str.ofString "__next__") y PySem.F.slot_zip_next (wpAny_call_entry PySem.F.slot_zip_next y PySem.F.entry_zip_next (h5 (I.ok.hd hc) R N st m λh' e J L=>?_) (PySem.F.args_zip_next_1 _))));obtain⟨o,f,k⟩:=L;exact Qm (wpAny_isInstance (T:="StopIteration") (b:=true) ⟨o,f,k⟩ isSubtype_stop (Qn ⟨rfl,Inv.turneds I B λb o d e=>J b o (λq=>d (by simp[q])) (λq=>d (by simp[q])) e⟩))
 self:=λA i s Q E st h=>wpAny_pyIter_zip st.1 h
theorem Ra{pins:List (Addr×Obj)}{σ:St}{H1:Hp}{a:Shared}{R:It->Hp->Prop}{n TI TO f:Addr}{h':Heap}(e:Inv X pins σ H1 a)(h:a.heap.objs.size=n)(h1:n < z)(h2:n<=TI)(i:n<=TO)(hl:f < n)(j:∀ c o,a.heap.get? c=some o->h'.get? c=some o)(st:St0 z TI TO n f h')(q:R (It0 X.K f) H1):PIE X pins σ tg R (.ref z) {a with heap:=h'}:=by
 subst h;refine⟨_,_,_,_,H1,rfl,e.kept (t':=a.toks) j,ia (Ys h1) (Ys (Nat.lt_trans hl h1)),st,λb g=>?_,q⟩
 have d:a.heap.objs.size<=b:=by
  simp only[Yo,Qd,or_false]at g;rcases g with rfl | rfl | rfl | rfl
  ·exact YL h1
  ·exact h2
  ·exact i
  ·exact Yr _
 exact e.fpOk d (e.hok.fresh d)
def ib(K:PySem.W.Frag)(ta:TA):TI:=λσ H R=>ta σ H λvs H1=>∃ a b ys,vs=[.ref a,.ref b]/\SqT K H1 a []/\SqT K H1 b ys/\R (It0 K a) H1
variable {a b:Expr}{ta:TA}{p pos tpos:Pos}{d:List Expr}{k:Nat}
theorem ic(F:Gl X "zip")(D:X.mg "zip"=none)(G:PA X [a,b] ta)(x:starEach [a,b] X.env=[(false,eval a X.env),(false,eval b X.env)])(c:starEach [b] X.env=[(false,eval b X.env)]):
  PI X (.Tuple d k tpos) (.Call (.Name "zip" p) [a,b] [] pos) (ib X.K ta):=by
 intro pins s σ H R I h;refine Call_ (Cc I F D boot_zip (Qh (thn (G pos pins s σ H _ I h) λN Q j=>?_) (by rw[x,c]) (by rw[c];rfl)));obtain⟨S,H1,n,r1,q1⟩:=j;obtain⟨P,T,ys,e,A,J,q⟩:=q1;subst e;obtain⟨u,O,rfl,y,l⟩:=J7 r1;cases y;cases l;obtain⟨w,_,f,_⟩:=n.tuple A;obtain⟨r,_,m,_⟩:=n.tuple J;refine hL f m λh' t i g o L E B=>wpAny_pyIter_zip t ?_;exact Ra n rfl (Nat.lt_add_of_pos_right (by decide)) (Qc _ _) (Qc _ _) (by obtain⟨_,e,_⟩:=f;exact Qp e) B ⟨t,⟨_,i⟩,⟨_,g,λv z=>by cases z⟩,o⟩ q
def CK(gs:GA):GI:=λω G R=>gs ω G λws G1=>∃ ys,ws=[.tup [],.tup ys]/\R [] yes G1
variable {gs:GA}
theorem ie(m:gs.M):GI.M (CK gs):=λω G R b h q=>m _ _ _ _ ((by rintro a c ⟨ys,e,z⟩;exact⟨ys,e,h _ _ _ z⟩)) q
theorem Rb{c:List Expr}(D:X.mg "zip"=none)(E:Gl X "zip")(w:starEach [a,b] X.env=[(false,eval a X.env),(false,eval b X.env)])(f:starEach [b] X.env=[(false,eval b X.env)])(j:Am X [a,b] gs):
  Im X (.Tuple c k tpos) (.Call (.Name "zip" p) [a,b] [] pos) (CK gs):=by
 refine⟨⟨_,ic E D j.p w f,λσ H ω G R O y r q A=>⟨ω,G,y,r,j.m _ _ _ _ (λK I z L H1 m t r1=>?_) q⟩⟩,ie j.m⟩;obtain⟨ys,rfl,z⟩:=z;cases t with
 | cons x t =>
  cases t with
  | cons ty t =>
   cases t;obtain⟨s,F,rfl,d,u⟩:=Gc x;obtain⟨B,h,rfl,e,P⟩:=Gc ty;cases u;exact⟨s,B,h,rfl,d,e,A _ _ _ H1 _ z m r1 trivial ⟨λi n o g l g3 hi=>absurd hi (Nat.not_lt_zero _),λi n o v N g l g3 J hi=>absurd hi (Nat.not_lt_zero _),λn o g l g3=>g.tup _ _ d⟩⟩
def ig(K:PySem.W.Frag)(ta:TA):TI:=λσ H R=>ta σ H λvs H1=>∃ a b c ys zs,vs=[.ref a,.ref b,.ref c]/\SqT K H1 a []/\SqT K H1 b ys/\SqT K H1 c zs/\R (It0 K a) H1
variable {c:Expr}
theorem ii{f:List Expr}(L:Gl X "zip")(J:X.mg "zip"=none)(N:PA X [a,b,c] ta)(D:starEach [a,b,c] X.env=[(false,eval a X.env),(false,eval b X.env),(false,eval c X.env)])(d:starEach [b,c] X.env=[(false,eval b X.env),(false,eval c X.env)]):
  PI X (.Tuple f k tpos) (.Call (.Name "zip" p) [a,b,c] [] pos) (ig X.K ta):=by
 intro pins s σ H R I h;refine Call_ (Cc I L J boot_zip (Qh (thn (N pos pins s σ H _ I h) λP T x=>?_) (by rw[D,d]) (by rw[d];rfl)));obtain⟨U,H1,i,r1,q1⟩:=x;obtain⟨S,l2,Z,ys,zs,e,F,O,j,q⟩:=q1;subst e;obtain⟨u,Q,Y,rfl,E,n,o⟩:=hO r1;cases E;cases n;cases o;obtain⟨B,_,g,_⟩:=i.tuple F;obtain⟨y,_,t,_⟩:=i.tuple O;obtain⟨A,_,r,_⟩:=i.tuple j;refine hZ g t r λh' j m l w G=>wpAny_pyIter_zip j ?_;exact Ra i rfl (Nat.lt_add_of_pos_right (by decide)) (Qc _ _) (Qc _ _) (by obtain⟨_,e,_⟩:=g;exact Qp e) G ⟨j,⟨_,m⟩,⟨_,l,λv z=>by cases z⟩,w⟩ q
def HG(gs:GA):GI:=λω G R=>gs ω G λws G1=>∃ ys zs,ws=[.tup [],.tup ys,.tup zs]/\R [] yes G1
theorem ij(m:gs.M):GI.M (HG gs):=λω G R b h q=>m _ _ _ _ (by rintro a c ⟨ys,zs,e,r⟩;exact⟨ys,zs,e,h _ _ _ r⟩) q
theorem ik(J:X.mg "zip"=none)(K:Gl X "zip")(y:starEach [a,b,c] X.env=[(false,eval a X.env),(false,eval b X.env),(false,eval c X.env)])(h:starEach [b,c] X.env=[(false,eval b X.env),(false,eval c X.env)])(o:Am X [a,b,c] gs):
  Im X (.Tuple d k tpos) (.Call (.Name "zip" p) [a,b,c] [] pos) (HG gs):=by
 refine⟨⟨_,ii K J o.p y h,λσ H ω G R T B r q E=>⟨ω,G,B,r,o.m _ _ _ _ (λP N z Q H1 m t r1=>?_) q⟩⟩,ij o.m⟩;obtain⟨ys,zs,rfl,z⟩:=z;cases t with
 | cons A t =>
  cases t with
  | cons ty t =>
   cases t with
   | cons tv t =>
    cases t;obtain⟨I,L,rfl,e,x⟩:=Gc A;obtain⟨D,n,rfl,g,Y⟩:=Gc ty;obtain⟨F,f,rfl,l,U⟩:=Gc tv;cases x;exact⟨I,D,F,n,f,rfl,e,g,l,E _ _ _ H1 _ z m r1 trivial ⟨λi u w j s g3 hi=>absurd hi (Nat.not_lt_zero _),λi u w v S j s g3 O hi=>absurd hi (Nat.not_lt_zero _),λu w j s g3=>j.tup _ _ e⟩⟩
section
variable {prog:Program} {w:World} {A:Around} {E:Value->Shared->Prop} {s:Shared}
theorem il{δ:Type}{R:δ->Value->Prop}{h₀:Heap}{a:Addr}{D:List (Str×δ)}{k:Str}{dd:δ}{Q:Option Value->Shared->Prop}(T:KTD.TabOf R h₀ a D)(p:∀ b o,h₀.get? b=some o->s.heap.get? b=some o)(m:KTD.datumAt k D=some dd)
  (h1:∀ v,R dd v->Q (some v) {s with toks:=s.toks+1}):wpAny (model prog w) A (dictGet a (.str k tk)) Q E s:=by
 obtain⟨_,o,es,r,n,hc,hd,g⟩:=T;have d:=p _ _ n;obtain⟨v,q,j⟩:=g.find_some m;have h:=h1 v j;unfold dictGet
 try with_reducible refine wpAny_holding ?_
 refine Qm (wpAny_pyHash_str (Qm (KTD.kt_dictFind_strs (s:={s with toks:=s.toks+1}) d hd ?_ ?_)))
 ·obtain⟨l⟩:=es;simpa using g.exact
 have c:findBy (λk v=>v.isStr k) es k=some v:=by
  obtain⟨l⟩:=es;simpa[findBy]using q
 rw[findBy_of_findIdx?]at c;cases hi:es.findIdx? λe=>e.key.isStr k with
 | none=>rw[hi]at c;cases c
 | some i =>
  rw[hi]at c;refine Qm (wpAny_dictEntries (s:={s with toks:=s.toks+1}) d hd (Qn ?_));have f:es[i]?.map (·.val)=some v:=c;rw[f];exact h
end
def Ld(K:PySem.W.Frag)(mg:Str->Option Value)(base:Heap)(x:Str)(D:List (Str×List Str)):Prop:=∃ d,mg x=some (.ref d)/\KTD.TabOf (λss v=>∃ a,v=.ref a/\∀ H:Hp,SqT K H a (ss.map V.str)) base d D
def Le(D:List (Str×List Str))(gk:GE):GE:=λω G Q=>gk ω G λw G1=>match w with | .str z=>∃ ss,KTD.datumAt z D=some ss/\Q (.tup (ss.map W.str)) G1 | _=>False
theorem Rc(H:Hp):∀ a:List Str,TrL K H (a.map V.str) (a.map W.str)
 | []=>.nil
 | s::a=>.cons (.str _) (Rc H a)
variable {x:Str}{D:List (Str×List Str)}
theorem im{e:Expr}(h:Ld X.K X.mg X.base x D)(S:Gl X x)(hd:(x==("__debug__":Str))=false)(B:FW e)(f:Em X e gk):
  Em X (.Subscript (.Name x L) e pos) (Le D gk):=by
 refine⟨λpins s σ H Q I U=>?_,λω G Q Z Y q=>f.m _ _ _ _ (λw A z=>by
  cases w with
  | str y=>obtain⟨b,h1,h2⟩:=z;exact⟨b,h1,Y _ _ h2⟩
  | _=>exact z) q⟩
 obtain⟨ω,G,E,r,q⟩:=U;obtain⟨d,N,T⟩:=h;refine Subscript_ (GY (R:=λj k H2=>j=.ref d/\∃ z b,k=.str z/\KTD.datumAt z D=some b/\∀ v,Tr X.K H2 v (.tup (b.map W.str))->Q v H2) (N8 (v:=.ref d) S N rfl hd) f.p I ?_ λv u i j k H2 g P n q2=>?_)
 ·exact⟨ω,G,E,r,f.m _ _ _ _ (λw A z v H1 m t r1=>by
   cases w with
   | str y=>obtain⟨b,h1,h2⟩:=z;exact⟨rfl,y,b,O4 t,h1,λv tv=>h2 v H1 m tv r1⟩
   | _=>exact z.elim) q⟩
 ·obtain⟨rfl,z,b,rfl,O,q3⟩:=q2;cases P;obtain⟨t,rfl⟩:=n
  have c:i.TypeIs (.ref d) "dict":=by
   obtain⟨_,o,_,_,J,hc,_⟩:=T;exact⟨o,g.bk _ _ J,hc.1⟩
  refine subscriptTail_builtin c PySem.F.slot_dict_getitem.lookup ?_ (B _ _) (λ_=>rfl);unfold getItem
  try with_reducible refine wpAny_holding ?_
  refine Qm (wpAny_sequenceKey c (by decide) ?_);refine Qm (wpAny_callSpecial?_slot (name:=Str.ofString "__getitem__") c PySem.F.slot_dict_getitem (wpAny_call_entry PySem.F.slot_dict_getitem c PySem.F.entry_dict_getitem ?_ (PySem.F.args_dict_getitem_2 _ _)));show wpAny _ _ (dictGet d (.str z t) >>=_) _ _ i;refine Qm (il T g.bk O ?_);rintro v ⟨a,rfl,l⟩;exact Qn ⟨_,rfl,Qn ⟨.ref a,H2,g.tok _,rfl,q3 _ (.tup (l H2) (Rc H2 b))⟩⟩
theorem io{h base:Heap}{mg:Str->Option Value}(X:K.In h)(G:h.Ns mainGlobals mg)(B:K.In base){d:Addr}{o:Obj}{es:Array DictEntry}{b:Nat}(e:PySem.W.nsIn K mainGlobals x=some (some (.ref d)))(l:K.lookup d=some o)
  (hd:(d==sysModules)=false) (g:o.ExactDict) (i:o.data=.dict es b) (c:KTD.Rows (λf v=>∃ a,v=.ref a/\∀ H:Hp,SqT K H a (f.map V.str)) es.toList D):Ld K mg base x D :=
 ⟨d,PySem.W.mg_of X G e,hd,o,es,b,B _ _ l,g,i,c⟩
theorem Gf{e:DictEntry}{t:Tok}{a:Addr}{ts:List (Str×Tok)}{dd:Option Addr}{n:Nat}{c:Array (Option Value)}{es:List DictEntry}(h1:e.key=.str x t)(h2:e.val=.ref a)(l:K.lookup a=some ⟨.type "tuple",none,.seq ((ts.map λp=>Value.str p.1 p.2).toArray) n,c⟩)(d:ts.length<=1000)
  (r:KTD.Rows (λb v=>∃ a,v=.ref a/\∀ H:Hp,SqT K H a (b.map V.str)) es D):KTD.Rows (λb v=>∃ a,v=.ref a/\∀ H:Hp,SqT K H a (b.map V.str)) (e::es) ((x,ts.map (·.1))::D):=by
 refine .cons h1 ⟨a,h2,λH=>.inr ⟨_,_,n,l,rfl,rfl,rfl,?_,?_⟩⟩ r
 ·simp only[Yn,Yh];exact Yt d (by decide)
 ·have g:∀ ts:List (Str×Tok),Vals ((ts.map (·.1)).map V.str) (ts.map λp=>Value.str p.1 p.2):=λts=>by
   induction ts with
   | nil=>exact .nil
   | cons p ts f=>exact .cons ⟨p.2,rfl⟩ f
  simpa using g ts
end L3
namespace L3
open PySem PySem.Spec PyProof.Rows L2
abbrev ip(h:Heap)(z TI TO:Addr)(f0:Value)(b:Bool):Prop:=h.get? z=some {cls:=.type "zip",dict:=none,data:=.fields #[f0,.bool b,.bool false,.ref TI,.ref TO],slots:=#[]}
section
variable {prog:Program} {w:World} {A:Around} {E:Value->Shared->Prop} {s:Shared}
def Hd3(n l1 l2 l3 i:Nat)(h:Heap):Prop:=(∃(T:Nat)(o:Obj)(b:Bool),ip h (n+5) (n+3) (n+4) (rawInt T) b/\h.get? T=some o/\(T < n\/n+5 < T))/\EH h (n+3) (.ref n) (.ref (n+1)) (.ref (n+2))/\h.IsListIter n l1 i/\h.IsListIter (n+1) l2 i/\h.IsListIter (n+2) l3 i
def Cm3(n l1 l2 l3 i:Nat)(h:Heap):Prop:=(i=0/\St3 n l1 l2 l3 .none 0 h)\/Hd3 n l1 l2 l3 i h
theorem Cm3.zip{n c d a i:Nat}{h:Heap}(st:Cm3 n c d a i h):∃ o,h.get? (n+5)=some o/\o.cls=.type "zip":=by
 rcases st with⟨_,st⟩| st
 ·exact⟨_,st.1,rfl⟩
 ·obtain⟨⟨T,o,b,e,_⟩,_⟩:=st;exact⟨_,e,rfl⟩
end
section
variable {prog:Program} {w:World} {A:Around} {E:Value->Shared->Prop} {s:Shared}
end
end L3
namespace L3
open PySem PySem.Spec PyProof.Rows L2
variable {K:PySem.W.Frag} {H H' H2:Hp}
theorem Re:∀ ts:List Addr,Vals (ts.map V.ref) (ts.map Value.ref)
 | []=>.nil
 | _::ts=>.cons rfl (Re ts)
section
variable {prog:Program} {w:World} {A:Around} {E:Value->Shared->Prop} {s:Shared}
def St3M(n l1 l2 l3:Nat)(f0:Value)(i:Nat)(h:Heap):Prop:=IsZip h (n+5) (n+3) (n+4) f0/\EH h (n+3) (.ref n) (.ref (n+1)) (.ref (n+2))/\(∃ a b c,EH h (n+4) a b c)/\h.IsListIter n l1 i/\h.IsTupleIter (n+1) l2 i/\h.IsTupleIter (n+2) l3 i
theorem St3M.at{n m j g:Nat}{l:Value}{i:Nat}{h h':Heap}(st:St3M n m j g l i h)(k:∀(c:Nat)o,n<=c->c<=n+5->h.get? c=some o->h'.get? c=some o):St3M n m j g l i h':=by
 obtain⟨q,f,⟨a,b,c,d⟩,s,p,r⟩:=st;exact⟨k _ _ (by omega) (by omega) q,k _ _ (by omega) (by omega) f,⟨a,b,c,k _ _ (by omega) (by omega) d⟩,s.at λo e=>k _ o (by omega) (by omega) e,tat p λo e=>k _ o (by omega) (by omega) e,tat r λo e=>k _ o (by omega) (by omega) e⟩
end
end L3
namespace L3
open PySem PySem.Spec PyProof.Rows L2
end L3
namespace L3
open PySem PySem.Spec PyProof.Rows L2
variable {K:PySem.W.Frag} {H H' H2:Hp}
def atT{α:Type}(kvs:List (Key×α))(x:Str):Option α:=(kvs.find? λy=>decide (y.1=Sum.inr x)).map (·.2)
variable {k:Key}
theorem HH{α:Type}{v:α}{a:List (Key×α)}{x:Str}:atT ((k,v)::a) x=if k=Sum.inr x then some v else atT a x:=by
 unfold atT;rw[List.find?_cons];by_cases h:k=Sum.inr x
 ·simp[h]
 ·simp[h]
theorem Lf{x:Str}:∀{a:List (Key×V)}{vs:List (Key×Value)},KV a vs->(atT a x=none/\valueAt vs (Sum.inr x)=none)\/∃ v u,atT a x=some v/\valueAt vs (Sum.inr x)=some u/\RelV v u
 | _,_,.nil=>.inl ⟨rfl,rfl⟩
 |(k,v)::a,(f,c)::vs,.cons ⟨e,d⟩ t=>by
  have b:=Lf (x:=x) t;cases(show k=f from e);rw[HH];unfold valueAt at b ⊢;rw[List.find?_cons];by_cases h:k=Sum.inr x
  ·simp only[h,if_true,decide_true];exact .inr ⟨v,c,rfl,rfl,d⟩
  ·simp only[h,if_false,decide_false];exact b
theorem Lg{x:Str}:∀{vs:List (Key×V)}{a:List (Key×W)},TrP K H vs a->(atT vs x=none/\atT a x=none)\/∃ v w,atT vs x=some v/\atT a x=some w/\Tr K H v w
 | _,_,.nil=>.inl ⟨rfl,rfl⟩
 |(k,v)::vs,(_,u)::a,.cons tv t=>by
  rw[HH,HH];by_cases h:k=Sum.inr x
  ·rw[if_pos h,if_pos h];exact .inr ⟨_,_,rfl,rfl,tv⟩
  ·rw[if_neg h,if_neg h];exact Lg t
def Rf(neg:Bool):R2:=λx y H Q=>∃ p kvs z,x=.str z/\y=.ref p/\H p=some (.dK kvs)/\Q (.bl ((atT kvs z).isSome != neg)) H
variable {X:Cx}
theorem iq:OpR X (compareOp .NotIn) (Rf true):=by
 intro pins s σ H x y v u Q I f g h;obtain⟨p,a,z,rfl,rfl,i,q⟩:=h;obtain⟨t,rfl⟩:=f;cases g;obtain⟨_,hd,c,b,j⟩:a.length<=sizeLine/\(p==sysModules)=false/\∃ c,KV a c/\s.heap.DictOf (AV X.prog X.w) p c:=I.hok p _ i;refine wpAny_notIn_of (knd:=AV X.prog X.w) (k:=Sum.inr z) (by simp[AV,De,Value.isStrOf]) hd j.mapOf ⟨.bl _,H,I.tok _,?_,q⟩;rcases Lf (x:=z) b with⟨d,e⟩|⟨v,u,d,e,_⟩ <;> rw[d,e] <;> rfl
def inK(neg:Bool)(x y:W)(G:Hw):Option W:=match x,y with
 | .str z,.ref p=>(match G p with | some (.dct kvs)=>some (.bl ((atT kvs z).isSome != neg))| _=>none)
 | _,_=>none
theorem ir(a:Bool)(x y:W)(v u:V)(G:Hw)(H:Hp)(Q:VK)(g:Tr K H v x)(ty:Tr K H u y)(r:RelH K H G)(q:Ae (inK a) x y G (dn K H Q)):Rf a v u H Q:=by
 obtain⟨w,e,h⟩:=Cu q;unfold inK at e;split at e
 ·rename_i z p;split at e
  ·rename_i c i;cases e;cases g;cases ty;obtain⟨d,b,l⟩:=r p _ i;refine⟨p,d,z,rfl,rfl,b,?_⟩;have:(atT d z).isSome=(atT c z).isSome:=by rcases Lg (x:=z) l with⟨b,f⟩|⟨v,u,b,f,_⟩ <;> rw[b,f] <;> rfl
   rw[this];exact h _ H .refl (.bl _) r
  ·cases e
 ·cases e
theorem iu:Cop X .NotIn (Ae (inK true)):=⟨⟨_,iq,ir true⟩,CZ⟩
def Rg:R2:=λx y H Q=>∃ p kvs z v,x=.ref p/\y=.str z/\H p=some (.dK kvs)/\atT kvs z=some v/\Q v H
theorem iw:IxR X Rg:=by
 intro value slice pins s σ H x y v u Q I g i h j;obtain⟨p,a,z,v,rfl,rfl,m,b,q⟩:=h;cases g;obtain⟨t,rfl⟩:=i;obtain⟨_,hd,e,d,f⟩:a.length<=sizeLine/\(p==sysModules)=false/\∃ e,KV a e/\s.heap.DictOf (AV X.prog X.w) p e:=I.hok p _ m;rcases Lf (x:=z) d with⟨c,_⟩|⟨o,u,c,n,l⟩
 ·rw[c]at b;cases b
 ·rw[c]at b;cases b;refine subscriptTail_builtinR (x:=u) f.typeIs PySem.F.slot_dict_getitem.lookup ?_ j;exact wpAny_getItem_of (knd:=AV X.prog X.w) (k:=Sum.inr z) (Q:=λr s'=>r=u/\EP X pins σ Q r s') (by simp[AV,De,Value.isStrOf]) f.mapOf n ⟨rfl,_,H,I.tok _,l,q⟩
def ixK(x y:W)(G:Hw):Option W:=match x,y with
 | .ref p,.str z=>(match G p with | some (.dct kvs)=>atT kvs z | _=>none)
 | _,_=>none
theorem ix(x y:W)(v u:V)(G:Hw)(H:Hp)(Q:VK)(f:Tr K H v x)(ty:Tr K H u y)(r:RelH K H G)(q:Ae ixK x y G (dn K H Q)):Rg v u H Q:=by
 obtain⟨w,e,h⟩:=Cu q;unfold ixK at e;split at e
 ·rename_i p z;split at e
  ·rename_i g i;cases f;cases ty;obtain⟨d,c,l⟩:=r p _ i;rcases Lg (x:=z) l with⟨_,a⟩|⟨v,u,a,b,tv⟩
   ·rw[a]at e;cases e
   ·rw[b]at e;cases e;exact⟨p,d,z,v,rfl,rfl,c,a,h _ H .refl tv r⟩
  ·cases e
 ·cases e
variable {pos:Pos}
theorem iy{a b:Expr}{ga:GE}(e:FW b)(c:Em X a ga)(d:Em X b gb):Em X (.Subscript a b pos) (Ad (Ae ixK) ga gb):=⟨O0 iw CZ c.m d.m ix c.p d.p e,Ct CZ c.m d.m⟩
def BX{α:Type}(kvs:List (Key×α))(k:Key)(v:α):List (Key×α):=if kvs.any (λkv=>decide (kv.1=k))then kvs.map (λkv=>if kv.1=k then(kv.1,v)else kv)else kvs++[(k,v)]
theorem iz{α:Type}(a:List (Key×α))(k:Key)(v:α):(BX a k v).length<=a.length+1:=by unfold BX;split <;> simp
theorem Rh{k:Key}:∀{a:List (Key×V)}{vs:List (Key×Value)},KV a vs->a.any (λkv=>decide (kv.1=k))=vs.any (λkv=>decide (kv.1=k))
 | _,_,.nil=>rfl
 | _,_,.cons ⟨e,_⟩ t=>by rw[List.any_cons,List.any_cons,Rh t,e]
theorem Ri{k:Key}{v:V}{u:Value}(r:RelV v u):∀{c:List (Key×V)}{vs:List (Key×Value)},KV c vs->KV (c.map λkv=>if kv.1=k then(kv.1,v)else kv) (vs.map λkv=>if kv.1=k then(kv.1,u)else kv)
 | _,_,.nil=>.nil
 |(a,x)::_,(b,y)::_,.cons ⟨e,d⟩ t=>by
  cases(show a=b from e);rw[Ym,Ym];refine .cons ?_ (Ri r t);by_cases h:a=k
  ·rw[if_pos h,if_pos h];exact⟨rfl,r⟩
  ·rw[if_neg h,if_neg h];exact⟨rfl,d⟩
theorem Rj{k:Key}{v:V}{u:Value}(r:RelV v u):∀{a:List (Key×V)}{vs:List (Key×Value)},KV a vs->KV (a++[(k,v)]) (vs++[(k,u)])
 | _,_,.nil=>.cons ⟨rfl,r⟩ .nil
 | _,_,.cons h t=>.cons h (Rj r t)
variable {v:V}
theorem iA{u:Value}(r:RelV v u){a:List (Key×V)}{vs:List (Key×Value)}(h:KV a vs):KV (BX a k v) (stored vs k u):=by
 unfold BX stored;rw[Rh h];split
 ·exact Ri r h
 ·exact Rj r h
theorem Rk{k:Key}:∀{vs:List (Key×V)}{a:List (Key×W)},TrP K H vs a->vs.any (λkv=>decide (kv.1=k))=a.any (λkv=>decide (kv.1=k))
 | _,_,.nil=>rfl
 | _,_,.cons _ t=>by rw[List.any_cons,List.any_cons,Rk t]
theorem Lh{k:Key}{v:V}{w:W}(r:Tr K H v w):∀{vs:List (Key×V)}{b:List (Key×W)},TrP K H vs b->TrP K H (vs.map λkv=>if kv.1=k then(kv.1,v)else kv) (b.map λkv=>if kv.1=k then(kv.1,w)else kv)
 | _,_,.nil=>.nil
 |(a,x)::_,(_,y)::_,.cons tv t=>by
  rw[Ym,Ym];by_cases h:a=k
  ·simp only[h,if_true];exact .cons r (Lh r t)
  ·simp only[h,if_false];exact .cons tv (Lh r t)
theorem Rl{k:Key}{v:V}{w:W}(r:Tr K H v w):∀{vs:List (Key×V)}{a:List (Key×W)},TrP K H vs a->TrP K H (vs++[(k,v)]) (a++[(k,w)])
 | _,_,.nil=>.cons r .nil
 | _,_,.cons h t=>.cons h (Rl r t)
theorem iB{w:W}(r:Tr K H v w){vs:List (Key×V)}{a:List (Key×W)}(h:TrP K H vs a):TrP K H (BX vs k v) (BX a k w):=by
 unfold BX;rw[Rk h];split
 ·exact Lh r h
 ·exact Rl r h
theorem Rm:∀{vs:List (Key×V)}{a:List (Key×W)},TrP K H vs a->vs.length=a.length
 | _,_,.nil=>rfl
 | _,_,.cons _ t=>by rw[Yg,Yg,Rm t]
def Rn:V->V->V->Hp->(Hp->Prop)->Prop:=λo i v H Q=>∃ p kvs z,o=.ref p/\i=.str z/\H p=some (.dK kvs)/\kvs.length < sizeLine/\Q (upd H p (.dK (BX kvs (Sum.inr z) v)))
theorem iC:JZ X Rn:=by
 intro pins s σ H o i v F E u Q I n D y h;obtain⟨p,a,z,rfl,rfl,g,hl,q⟩:=h;cases n;obtain⟨t,rfl⟩:=D;obtain⟨_,hd,f,c,A⟩:a.length<=sizeLine/\(p==sysModules)=false/\∃ f,KV a f/\s.heap.DictOf (AV X.prog X.w) p f:=I.hok p _ g;have j:=Paired.length c;refine wpAny_setItem_pairs (knd:=AV X.prog X.w) (k:=Sum.inr z) (by simp[AV,De,Value.isStrOf]) A (λh' d m=>?_) (by omega);have l:∃ o,h'.get? p=some o:=by obtain⟨o,_,_,B,_⟩:=d;exact⟨o,B⟩
 refine⟨_,I.write (t':=s.toks+1) (x:=p) (e:=p) (o:=.dK (BX a (Sum.inr z) v)) (by rw[g];trivial) (.inl rfl) (λb w r e=>(m.2 b r).trans e) l ?_,q⟩;have:=iz a (Sum.inr z) v;exact⟨by omega,hd,_,iA y c,d⟩
def Ro(o k v:W)(G:Hw)(Q:Hw->Prop):Prop:=∃ p kvs z,o=.ref p/\k=.str z/\G p=some (.dct kvs)/\kvs.length < sizeLine/\Q (put G p (.dct (BX kvs (Sum.inr z) v)))
theorem iD{o k v:W}{x y u:V}{G:Hw}{Pq:Hw->Prop}{R:Hp->Prop}(h:Tr K H x v)(ty:Tr K H y o)(j:Tr K H u k)(r:RelH K H G)(q:Ro o k v G Pq)(f:∀ d a,Mono K H a->RelH K a d->Pq d->R a):Rn y u x H R:=by
 obtain⟨p,b,z,rfl,rfl,e,i,q⟩:=q;cases ty;cases j;obtain⟨g,c,t⟩:=r p _ e;have m:Mono K H (upd H p (.dK (BX g (Sum.inr z) x))):=Mono.was c _ (λ_ z=>by cases z) (λ_ _ z=>by cases z);exact⟨p,g,z,rfl,rfl,c,by rw[Rm t];exact i,f _ _ m (RelH.laid (u:=.dct (BX b (Sum.inr z) v)) r m ⟨_,B0,(iB h t).mono m⟩) q⟩
def CA(gv go gi:GE):GS:=λD ω G=>gv ω G λv G1=>go ω G1 λo G2=>gi ω G2 λk G3=>Ro o k v G3 λG4=>D.nx ω G4
variable {gv go gi:GE}
theorem iE(c:gv.M)(b:go.M)(f:gi.M):GS.M (CA gv go gi):=λω G D m h1 _ _ _ q=>
 c _ _ _ _ (λv j z=>b _ _ _ _ (λo l z=>f _ _ _ _ ((by rintro k i ⟨p,a,z,g,h,e,d,q⟩;exact⟨p,a,z,g,h,e,d,h1 _ _ q⟩)) z) z) q
theorem iF{P:Hp->Prop}{o i e:Expr}(N:∀ v,assign (.Subscript o i pos') X.env v=(do
   let ov <- holding [v] (eval o X.env)
   let iv <- holding [v,ov] (eval i X.env)
   standAt pos'
   holding [v,ov,iv] (setItem ov iv v)
   release [v,ov,iv] [])) (t:swapsWithSole [.Subscript o i pos'] e pos.line X.env=pure false) (hw:swappedStores [.Subscript o i pos'] e X.env=pure none)
  (h1:(assignEach [.Subscript o i pos'] X.env).map (·.2)=[assign (.Subscript o i pos') X.env]) (g:Em X e gv) (f:Em X o go) (hi:Em X i gi):Sm X P (.Assign [.Subscript o i pos'] e pos) (CA gv go gi):=
 ⟨λB O=>CH (J1 g.p (N9 f.p hi.p iC N) t hw h1) λD σ H⟨ω,G,a,r,A,q⟩=>⟨ω,G,a,r,g.m _ _ _ _ (λv j z x H1 c w r1=>
  ⟨ω,j,a.mono c,r1,f.m _ _ _ _ (λR F s y H2 d ty E=>
   ⟨ω,F,(a.mono c).mono d,E,hi.m _ _ _ _ (λk T K u S b n l=>
    iD ((w.mono d).mono b) (ty.mono b) n l K (λQ J h L I=>I σ J ((((A.trans c).trans d).trans b).trans h) ((((a.mono c).mono d).mono b).mono h) L)) s⟩) z⟩) q⟩,iE g.m f.m hi.m⟩
def iG:TE:=λ_ H Q=>∀ l,H l=none->Q (.ref l) (upd H l (.dK []))
theorem iH:PE X (.Dict [] [] pos) iG:=by
 intro pins s σ H Q I h;refine wpAny_Dict_empty ?_
 have a:sysModules < s.heap.objs.size:=by
  have h:mainGlobals < s.heap.objs.size:=(I.mod.glob.keeps I.bk).lt;exact Nat.lt_trans (by decide) h
 have c:=I.hok.fresh (Yr s.heap.objs.size);have J:Inv X pins σ (upd H s.heap.objs.size (.dK [])) {s with heap:=s.heap.push {cls:=.type "dict",data:=.dict #[]},toks:=s.toks}:=I.laid (t':=s.toks) (λb u e=>Qo _ e) (Yr _) (show ObjOk X.prog X.w _ _ _ (.dK _)from⟨YY _,by simpa using Nat.ne_of_gt a,[],.nil,Heap.DictOf.new s.heap⟩);exact⟨.ref _,_,J,rfl,h _ c⟩
def Gg:GE:=λ_ G Q=>∀ l,G l=none->Q (.ref l) (put G l (.dct []))
theorem iI:Em X (.Dict [] [] pos) Gg:=by
 refine⟨AW iH λσ H Q⟨ω,G,b,r,q⟩l hl=>?_,λω G Q a h q l hl=>h _ _ (q l hl)⟩;exact q l (r.no hl) _ _ (Mono.new hl _) (.ref l) (RelH.laid r (Mono.new hl _) ⟨_,B0,.nil⟩)
end L3
namespace L3
open PySem PySem.Spec PyProof.Rows L2
section
variable {prog:Program} {w:World} {A:Around} {E:Value->Shared->Prop} {s:Shared}
theorem iJ:typeLookup (.type "tuple") "keys"=pure none:=by rw[typeLookup_type,builtinLookup_eq_fast];kernel_rfl
set_option maxRecDepth 8000 in
theorem iK{a:Addr}{xs:Array Value}{k:Nat}{j:Array (Option Value)}{Q:Option Value->Shared->Prop}(l:s.heap.get? a=some {cls:=.type "tuple",dict:=none,data:=.seq xs k,slots:=j})(n:A.handled=none)
  (h:∀ h' tk,(∀ b o,s.heap.get? b=some o->h'.get? b=some o)->Q none {s with heap:=h',toks:=tk}):wpAny (model prog w) A (getAttr? (.ref a) "keys") Q E s:=by
 obtain⟨q,g,d,tk,os⟩:=s;have m:∀ c,(⟨q,g,d,c,os⟩:Shared).TypeIs (.ref a) "tuple":=λ_=>⟨_,l,rfl⟩;have t:=sub_AttributeError;have x:=F.slot_tuple_getattribute.lookup;have v:=F.slot_tuple_getattribute.bind (.ref a);have r:=am_tuple_getattr_none;unfold getAttr? getAttrBy? getAttrBy
 repeat (any_goals (first | assumption | exact m _ |((with_reducible show wpAny _ _ (call (Value.builtin "tuple.__getattribute__") _ _) _ _ _);refine call_meets F.slot_tuple_getattribute (m _) am_entry_tuple_getattribute (F.args_tuple_getattribute_2 _ _) (meets_getattribute_miss_tuple a xs k j "keys" _ iJ (by decide +kernel) (by decide)) ⟨l,n,λh' c e f=>?_⟩)| wp_step))
 obtain⟨t',u,p⟩:=f.there;have i:∀ c,(⟨h',g,d,c,os⟩:Shared).TypeIs (.ref e) "AttributeError":=λ_=>⟨_,p,rfl⟩;show wpAny _ _ (getattributeRaised _ _ _ _ _ _ _) _ _ _;unfold getattributeRaised
 repeat (any_goals (first | assumption | exact i _ | wp_step))
 exact h _ _ f.of.keeps
theorem iL{l:Addr}{items:Array Value}{n:Nat}{R:Array (Option Value)}{ps:List (Str×Value)}{Q:Value->Shared->Prop}(U:A.handled=none)(hl:s.heap.get? l=some {cls:=.type "tuple",dict:=none,data:=.seq items n,slots:=R})
  (L:∀(j:Nat)(v:Value),items[j]?=some v->∃ p t y,v=.ref p/\ps[j]?=some y/\s.heap.IsTuple p #[.str y.1 t,y.2]) (J:ps.length=items.size) (hsz:ps.length<=sizeLine) (Y:(ps.map (·.1)).Nodup)
  (h:∀ h' tk,h'.DictOf (AV prog w) s.heap.objs.size (ps.map λy=>(Sum.inr y.1,y.2))->(∀ b o,b < s.heap.objs.size->s.heap.get? b=some o->h'.get? b=some o)->Q (.ref s.heap.objs.size) {s with heap:=h',toks:=tk}):
  wpAny (model prog w) A (call (.type "dict") [.ref l]) Q E s:=by
 refine callType_codes (Q₁:=λobj f=>obj=.ref s.heap.objs.size/\f={s with heap:=s.heap.push {cls:=.type "dict",data:=.dict #[]}}) F.kt_called_dict (F.kt_typeCall_dict_1 _) F.entry_dict_init (kt_code_dict_new _ ⟨rfl,rfl⟩) ?_;rintro obj f ⟨rfl,rfl⟩;have d:(s.heap.push {cls:=.type "dict",data:=.dict #[]}).DictOf (AV prog w) s.heap.objs.size []:=Heap.DictOf.new s.heap;have g:(s.heap.push {cls:=.type "dict",data:=.dict #[]}).get? l=some {cls:=.type "tuple",dict:=none,data:=.seq items n,slots:=R}:=Qo _ hl;refine⟨d.typeIs,F.args_dict_init_2 _ _,?_⟩;unfold Builtin.«dict.__init__»;refine Qm ?_;unfold Builtin.Dict.selfAndRest;refine Qm (wpAny_notOrdered_dict d.typeIs ?_);show wpAny _ _ (pure (s.heap.objs.size,[Value.ref l])) _ _ _;refine Qn ?_;show wpAny _ _ (Builtin.Dict.updateFrom "dict.__init__" s.heap.objs.size (.ref l) [] .none) _ _ _;unfold Builtin.Dict.updateFrom;refine Qm (wpAny_typeOf (T:="tuple") ⟨_,g,rfl⟩ ?_);rw[if_pos (by decide)];refine Qm (iK g (by simp[U]) λh2 tk2 D=>?_);simp only[Option.isNone_none,if_true];refine Qm (wpAny_rule ?_);have q:h2.IsTuple l items:=⟨_,D _ _ g,rfl,n,rfl⟩
 have B:h2.DictOf (AV prog w) s.heap.objs.size []:=by
  obtain⟨o,es,P,m,r⟩:=d;exact⟨o,es,P,D _ _ m,r⟩
 have u:l < s.heap.objs.size:=Qp hl
 have c:s.heap.objs.size < h2.objs.size:=by
  obtain⟨o,es,P,m,r⟩:=B;exact Qp m
 refine Qm (wpAny_pyIter_tuple q ?_);refine Qn ⟨plainId_quiet He _,?_⟩;have k:l≠h2.objs.size:=Ys (Nat.lt_trans u c)
 have N:s.heap.objs.size∉[h2.objs.size,l]:=by
  walk_at "pe";exact⟨Ys c,Nat.ne_of_gt u⟩
 refine b1 (A:=A.in1) ((Walks.tuple (by simp[U]) _ l k items).toS) N (ps:=ps) J (items.size - 0) 0 _ _ [] (by omega) (YY _) ⟨⟨_,Qq _ rfl,rfl,rfl⟩,q.push _⟩ (B.push _) (by simp only[Yi];omega) ?_ ?_
 ·intro j v _ _ hv;obtain⟨p,t,y,Z,e2,O⟩:=L j v hv;have X:p < s.heap.objs.size:=by obtain⟨o,m,_⟩:=O;exact Qp m
  refine⟨p,t,y,Z,?_,e2,(O.at λo e=>D _ _ (Qo _ e)).push _⟩;walk_at "pe";exact⟨Ys X,Ys (Nat.lt_trans X c)⟩
 ·intro s' G i;obtain⟨h',g',d',H,K⟩:=s';obtain rfl:g'=s.gens:=G.gens;obtain rfl:d'=s.drawn:=G.drawn;obtain rfl:K=s.os:=G.os;refine⟨rfl,h h' H ?_ λb o S e=>?_⟩
  ·rw[List.drop_zero,merged_nil_of_nodup _ ?_]at i
   ·exact i
   ·rw[YB];have:((λx:Key×Value=>x.1)∘λy:Str×Value=>((Sum.inr y.1:Key),y.2))=(λx:Str=>(Sum.inr x:Key))∘(·.1):=rfl;rw[this,<- YB];exact List.Pairwise.map _ (λa b I z=>I (Sum.inr.inj z)) Y
  ·refine G.heap b o ?_ (Qo _ (D _ _ (Qo _ e)));walk_at "pe";exact⟨Ys S,Ys (Nat.lt_trans S c)⟩
end
variable {X:Cx}
theorem iM(hc:X.calm=true):CallR X (.type "dict") (λxs H Q=>∃ p ys pv,xs=[.ref p]/\SqT X.K H p ys/\PV X.K H ys pv/\(pv.map (·.1)).Nodup/\∀ l,H l=none->Q (.ref l) (upd H l (.dK (pv.map λy=>((Sum.inr y.1:Key),y.2))))):=by
 intro pins s σ H xs L Q I r h;obtain⟨p,ys,pv,rfl,k,g,m,q⟩:=h;obtain⟨u,rfl,E⟩:=C6 r;cases E;obtain⟨t,r',pl,O⟩:=I.tupP k;obtain⟨o,x,d,a,n,c⟩:=pl;obtain⟨oc,N,G,J⟩:=o;simp only at d a c;subst d a c;obtain⟨ps,h1,h2,F,B⟩:=Q5 I g r';have hl:=r'.length;have i:=Paired.length h1;rw[Yh,Yh]at i;refine iL (ps:=ps) (I.ok.hd hc) x (λj v D=>B j v (by simpa using D)) (by rw[Yn];exact F) (by omega) (by rw[h2];exact m) λh' tk z keep=>?_
 have f:sysModules < s.heap.objs.size:=by
  have h:mainGlobals < s.heap.objs.size:=(I.mod.glob.keeps I.bk).lt;exact Nat.lt_trans (by decide) h
 have A:Inv X pins σ (upd H s.heap.objs.size (.dK (pv.map λy=>((Sum.inr y.1:Key),y.2)))) {s with heap:=h',toks:=tk}:=
  I.laid (t':=tk) (λb u e=>keep b u (Qp e) e) (Yr _) (show ObjOk X.prog X.w _ _ _ (.dK _)from⟨by rw[Yh];omega,by simpa using Nat.ne_of_gt f,_,h1,z⟩)
 exact⟨.ref s.heap.objs.size,_,A,rfl,q _ (I.hok.fresh (Yr _))⟩
def HI(ws:List W)(G:Hw)(Q:Kw):Prop:=∃ ps:List (Str×W),ws=[.tup (ps.map λy=>.tup [.str y.1,y.2])]/\(ps.map (·.1)).Nodup/\∀ l,G l=none->Q (.ref l) (put G l (.dct (ps.map λy=>((Sum.inr y.1:Key),y.2))))
theorem iN:RWc.M HI:=λb G Q c h⟨ps,h1,a,q⟩=>⟨ps,h1,a,λl hl=>h _ _ (q l hl)⟩
theorem iO{K:PySem.W.Frag}:UpC K HI (λxs H Q=>∃ p ys pv,xs=[.ref p]/\SqT K H p ys/\PV K H ys pv/\(pv.map (·.1)).Nodup/\∀ l,H l=none->Q (.ref l) (upd H l (.dK (pv.map λy=>((Sum.inr y.1:Key),y.2))))):=λd e G H Q t r q=>by
 obtain⟨ps,rfl,b,q⟩:=q;cases t with
 | cons c t =>
  cases t;cases c with
  | tup a l =>
   obtain⟨pv,h1,h2⟩:=Q3 l;refine⟨_,_,pv,rfl,a,h1,by rw[Lc h2];exact b,λl hl=>?_⟩;exact q l (r.no hl) _ _ (Mono.new hl _) (.ref l) (RelH.laid r (Mono.new hl _) ⟨_,B0,(Q4 h2).mono (Mono.new hl _)⟩)
theorem iP(hc:X.calm=true):Blt X (.type "dict") HI:=⟨⟨_,iM hc,iO⟩,iN⟩
theorem Rp{prog:Program}{w:World}{v:Value}(h:(AV prog w).is (Sum.inr z) v=true):∃ t,v=.str z t:=by
 rcases CU (show De (Sum.inr z) v=true from h)with⟨i,t,e,_⟩|⟨x,t,e,rfl⟩
 ·cases e
 ·cases e;exact⟨t,rfl⟩
theorem Rq:∀{a:List (Key×V)}{vs:List (Key×Value)},KV a vs->vs.map (·.1)=a.map (·.1)
 | _,_,.nil=>rfl
 | _,_,.cons h t=>by rw[Ym,Ym,Rq t,h.1]
theorem Rr{K:PySem.W.Frag}{H:Hp}:∀{vs:List (Key×V)}{a:List (Key×W)},TrP K H vs a->vs.map (·.1)=a.map (·.1)
 | _,_,.nil=>rfl
 | _,_,.cons _ t=>by rw[Ym,Ym,Rr t]
def Gh(g:GE):GE:=λω G Q=>g ω G λx G1=>∃ i,x=.int i/\Q (.int (-i)) G1
variable {g:GE}
theorem iQ(m:g.M):GE.M (Gh g):=λω G Q b h q=>m _ _ _ _ (by rintro x a ⟨i,e,z⟩;exact⟨i,e,h _ _ z⟩) q
theorem iR{a:Expr}(h:Em X a g):Em X (.UnaryOp .USub a pos) (Gh g):=
 ⟨AW (ap ay h.p) λσ H Q⟨ω,G,b,r,q⟩=>⟨ω,G,b,r,h.m _ _ _ _ (λx c z v H1 m t r1=>by
  obtain⟨i,rfl,z⟩:=z;cases t;exact⟨_,rfl,z _ _ m (.int _) r1⟩) q⟩,iQ h.m⟩
end L3
namespace L3
open PySem PySem.Spec PyProof.Rows L2
variable {K:PySem.W.Frag} {H H' H2:Hp}
def Li(gg:GG)(ga:GE):GS:=λD ω G=>ga ω G λw G1=>gg w ω G1 D.nx
theorem iS{X:Cx}{P:Hp->Prop}{tg e:Expr}{d:GG}{pos:Pos}(l:swapsWithSole [tg] e pos.line X.env=pure false)(hw:swappedStores [tg] e X.env=pure none)(h1:(assignEach [tg] X.env).map (·.2)=[assign tg X.env])(j:TgW X tg d)(a:Em X e ga):
  Sm X P (.Assign [tg] e pos) (Li d ga):=by
 obtain⟨⟨g,pg,b⟩,mg⟩:=j;refine⟨λB u=>CH (J1 a.p pg l hw h1) ?_,λω G D y h _ _ _ q=>a.m _ _ _ _ (λw f z=>mg _ _ _ _ _ h z) q⟩;rintro D σ H ⟨ω,G,i,r,n,q⟩;exact⟨ω,G,i,r,a.m _ _ _ _ (λw f z v H1 m t r1=>b v w σ ω H1 f _ t (i.mono m) r1 (mg _ _ _ _ _ (λω2 x k σ2 H2 s c o=>k σ2 H2 (n.trans (m.trans s)) c o) z)) q⟩
section
variable {X:Cx} {e:Expr} {p pc pd pt pos:Pos} {ge:GE}
end
end L3
namespace L3
open PySem PySem.Spec PyProof.Rows L2
def ev{α:Type}(lt:Nat->Nat->Bool)(n:Nat):PySem.W.KasT α->Option α
 | .ret a=>some a
 | .ask i j k=>if i≠j/\i < n/\j < n then ev lt n (k (lt i j))else none
theorem Rt{α:Type}{lt:Nat->Nat->Bool}{n:Nat}{c:Nat->Nat->(Bool->Shared->Prop)->Shared->Prop}{s:Shared}(hc:∀ i j(C:Bool->Shared->Prop),i≠j->i < n->j < n->C (lt i j) s->c i j C s):∀(t:PySem.W.KasT α){a:α}{Q:α->Shared->Prop},ev lt n t=some a->Q a s->t.kasWp c Q s
 | .ret b,a,Q,e,q=>by cases e;exact q
 | .ask i j k,a,Q,e,q=>by
  have d:(if i≠j/\i < n/\j < n then ev lt n (k (lt i j))else none)=some a:=e;by_cases h:i≠j/\i < n/\j < n
  ·rw[if_pos h]at d;exact hc i j _ h.1 h.2.1 h.2.2 (Rt hc (k (lt i j)) d q)
  ·rw[if_neg h]at d;cases d
theorem Ru{α:Type}{lt b:Nat->Nat->Bool}{n:Nat}(h:∀ i j,i < n->j < n->lt i j=b i j):∀ t:PySem.W.KasT α,ev lt n t=ev b n t
 | .ret a=>rfl
 | .ask i j k=>by
  show(if i≠j/\i < n/\j < n then ev lt n (k (lt i j))else none)=(if i≠j/\i < n/\j < n then ev b n (k (b i j))else none);by_cases z:i≠j/\i < n/\j < n
  ·rw[if_pos z,if_pos z,h i j z.2.1 z.2.2,Ru h (k (b i j))]
  ·rw[if_neg z,if_neg z]
def okR(n:Nat)(r:List Nat):Bool:=match ev (λi j=>decide (r.getD i 0 < r.getD j 0)) n (PySem.W.kas_sort n)with
 | some p=>(p.toList.map (λi=>r.getD i 0)==List.range n)&&p.toList.all (λi=>decide (i < n))
 | none=>false
def Lj(n j:Nat):List Nat:=(List.range n).filter (λi=>decide (i≠j))++[j]
theorem iT:([2,3,4,5,6,7,8,9,10,11,12].all λn=>(List.range n).all λj=>okR n (Lj n j))=true:=by decide +kernel
theorem Rv:∀{l m:List Nat},l.Pairwise (· < ·)->m.Pairwise (· < ·)->(∀ x,x∈l↔x∈m)->l=m
 | [],[],_,_,_=>rfl
 | [],y::m,_,_,h=>absurd ((h y).mpr Ye) (by simp)
 | x::l,[],_,_,h=>absurd ((h x).mp Ye) (by simp)
 | x::l,y::m,hl,g,h=>by
  obtain⟨d,f⟩:=YD.mp hl;obtain⟨c,i⟩:=YD.mp g
  have e:x=y:=by
   rcases Yo.mp ((h x).mp Ye)with e | e
   ·exact e
   ·rcases Yo.mp ((h y).mpr Ye)with b | b
    ·exact b.symm
    ·exact absurd (c x e) (Nat.lt_asymm (d y b))
  subst e;rw[Rv f i λz=>⟨λa=>(Yo.mp ((h z).mp (Yd _ a))).resolve_left λe=>by have:=d z a;omega,λa=>(Yo.mp ((h z).mpr (Yd _ a))).resolve_left λe=>by have:=c z a;omega⟩]
theorem HJ(a:Str):As a a=false:=by
 unfold As;exact decide_eq_false (List.lt_irrefl _)
theorem Rw{a b c:Str}(h1:As a b=true)(h2:As b c=true):As a c=true:=by
 unfold As at h1 h2 ⊢;exact YI (List.lt_trans (of_decide_eq_true h1) (of_decide_eq_true h2))
theorem iU{x y:Str}(h:As x y=false)(a:x≠y):As y x=true:=by
 unfold As at h ⊢;refine YI ?_;have h1:y.cps.toList<=x.cps.toList:=of_decide_eq_false h;rcases List.le_iff_lt_or_eq.mp h1 with z | z
 ·exact z
 ·exact absurd (by cases x;cases y;congr 1;exact(Array.toList_inj.mp z).symm) a
abbrev Rs(xs:List Str):Prop:=xs.Pairwise (λx y=>As x y=true)
theorem Rx(x:Str):∀ zs:List Str,x∉zs->Rs zs->∃ ys:List Str,Rs ys/\ys.Perm (x::zs)
 | [],_,_=>⟨[x],.cons (λ_ h=>by cases h) .nil,.refl _⟩
 | z::zs,b,h=>by
  obtain⟨h1,h2⟩:=YD.mp h;cases hl:As x z with
  | true =>
   refine⟨x::z::zs,.cons (λy a=>?_) h,.refl _⟩;walk_at "pf"
   ·exact hl
   ·exact Rw hl (h1 y a)
  | false =>
   obtain⟨ys,p,m⟩:=Rx x zs (λq=>b (Yd _ q)) h2;refine⟨z::ys,.cons (λy a=>?_) p,(m.cons z).trans (.swap x z zs)⟩;rcases Yo.mp (m.mem_iff.mp a)with rfl | a
   ·exact iU hl λe=>b (by rw[e];exact Ye)
   ·exact h1 y a
theorem Ry:∀ xs:List Str,xs.Nodup->∃ ys:List Str,Rs ys/\ys.Perm xs
 | [],_=>⟨[],.nil,.refl _⟩
 | x::xs,h=>by
  obtain⟨h1,h2⟩:=YV.mp h;obtain⟨ys,p,m⟩:=Ry xs h2;obtain⟨zs,a,b⟩:=Rx x ys (λq=>h1 (m.mem_iff.mp q)) p;exact⟨zs,a,b.trans (m.cons x)⟩
def idx:List Str->Str->Nat
 | [],_=>0
 | y::ys,x=>if y=x then 0 else idx ys x+1
theorem Lk:∀ ys:List Str,ys.Nodup->ys.map (idx ys)=List.range ys.length
 | [],_=>rfl
 | y::ys,h=>by
  obtain⟨h1,h2⟩:=YV.mp h;rw[Ym,Yg,List.range_succ_eq_map,<- Lk ys h2,YB];congr 1
  ·exact if_pos rfl
  ·refine List.map_congr_left λx a=>?_;exact if_neg λe=>h1 (by rw[e];exact a)
theorem Rz:∀{ys:List Str}{x y:Str},x∈ys->y∈ys->idx ys x=idx ys y->x=y
 | z::ys,x,y,c,d,h=>by
  have h':(if z=x then 0 else idx ys x+1)=(if z=y then 0 else idx ys y+1):=h;by_cases a:z=x
  ·by_cases b:z=y
   ·exact a.symm.trans b
   ·rw[if_pos a,if_neg b]at h';cases h'
  ·by_cases b:z=y
   ·rw[if_neg a,if_pos b]at h';cases h'
   ·rw[if_neg a,if_neg b]at h';exact Rz ((Yo.mp c).resolve_left λe=>a e.symm) ((Yo.mp d).resolve_left λe=>b e.symm) (Nat.succ.inj h')
theorem Ll:∀{ys:List Str}{x y:Str},Rs ys->x∈ys->y∈ys->As x y=decide (idx ys x < idx ys y)
 | z::ys,x,y,h,f,d=>by
  obtain⟨h1,h2⟩:=YD.mp h;show As x y=decide ((if z=x then 0 else idx ys x+1) <(if z=y then 0 else idx ys y+1));by_cases a:z=x
  ·by_cases b:z=y
   ·rw[if_pos a,if_pos b,<- a,<- b,HJ];rfl
   ·rw[if_pos a,if_neg b,<- a,h1 y ((Yo.mp d).resolve_left λe=>b e.symm)];exact(YI (Nat.succ_pos _)).symm
  ·have c:=(Yo.mp f).resolve_left λe=>a e.symm;by_cases b:z=y
   ·rw[if_neg a,if_pos b,<- b]
    have:As x z=false:=by
     cases e:As x z with
     | false=>rfl
     | true=>have:=Rw (h1 x c) e;rw[HJ]at this;cases this
    rw[this];exact(decide_eq_false (Nat.not_lt_zero _)).symm
   ·rw[if_neg a,if_neg b,Ll h2 c ((Yo.mp d).resolve_left λe=>b e.symm)];simp
theorem RA{α β:Type}{f:α->β}:∀{xs ys:List α},(∀ x∈xs,∀ y∈ys,f x=f y->x=y)->xs.map f=ys.map f->xs=ys
 | [],[],_,_=>rfl
 | [],_::_,_,h=>by cases h
 | _::_,[],_,h=>by cases h
 | x::xs,y::ys,c,h=>by
  rw[Ym,Ym]at h;injection h with e1 e2;rw[c x Ye y Ye e1,RA (λa d b e=>c a (Yd _ d) b (Yd _ e)) e2]
theorem Gi{α:Type}{l:List α}{d:α}{i:Nat}(h:i < l.length):l.getD i d∈l:=by
 have e:l.getD i d=l[i]:=by simp[h]
 rw[e];exact Qk h
theorem iV{ns:List Str}(t:ns.Nodup)(hd:Rs ns.dropLast)(h2:2<=ns.length)(G:ns.length<=12):∃ p:Array Nat,ev (λi j=>As (ns.getD i "") (ns.getD j "")) ns.length (PySem.W.kas_sort ns.length)=some p/\(∀ i∈p.toList,i < ns.length)/\Rs (p.toList.map λi=>ns.getD i "")/\∀ x,x∈(p.toList.map λi=>ns.getD i "")↔x∈ns:=by
 obtain⟨ys,q,a⟩:=Ry ns t;have d:ys.Nodup:=a.nodup_iff.mpr t
 have k:(ns.map (idx ys)).Perm (List.range ns.length):=by
  rw[<- a.length_eq,<- Lk ys d];exact(a.map _).symm
 have c:okR ns.length (ns.map (idx ys))=true:=by
  obtain⟨xs,x,rfl⟩:∃ xs x,ns=xs++[x]:=⟨ns.dropLast,ns.getLast (by intro e;rw[e]at h2;simp at h2),(List.dropLast_concat_getLast _).symm⟩;rw[List.dropLast_concat]at hd;have l:((xs++[x]).map (idx ys)).Nodup:=k.nodup_iff.mpr List.nodup_range;rw[Yy]at l k;have B:∀ i,i∈xs.map (idx ys)->i≠idx ys x:=λi hi=>(List.nodup_append.mp l).2.2 i hi _ Ye
  have e:(xs++[x]).map (idx ys)=Lj (xs++[x]).length (idx ys x):=by
   rw[Yy];unfold Lj;congr 1;refine Rv ?_ (List.pairwise_lt_range.filter _) λi=>?_
   ·rw[List.pairwise_map];refine List.Pairwise.imp_of_mem (λ{u v}A E g=>?_) hd;rw[Ll q (a.mem_iff.mpr (YO _ A)) (a.mem_iff.mpr (YO _ E))]at g;exact of_decide_eq_true g
   ·rw[List.mem_filter,YT];constructor
    ·exact λhi=>⟨k.mem_iff.mp (YO _ hi),B i hi⟩
    ·rintro⟨h1,h2⟩;rcases Yz.mp (k.mem_iff.mpr h1)with h | h
     ·exact h
     ·exact absurd (YA.mp h) h2
  rw[e];have s:idx ys x <(xs++[x]).length:=List.mem_range.mp (k.mem_iff.mp (YQ _ Ye));refine List.all_eq_true.mp (List.all_eq_true.mp iT _ ?_) _ (List.mem_range.mpr s);generalize(xs++[x]).length=n at h2 G ⊢;simp only[Yo,Qd,or_false];omega
 have m:∀ i,i < ns.length->(ns.map (idx ys)).getD i 0=idx ys (ns.getD i ""):=λi hi=>by simp[hi]
 have el:ev (λi j=>As (ns.getD i "") (ns.getD j "")) ns.length (PySem.W.kas_sort ns.length)=ev (λi j=>decide ((ns.map (idx ys)).getD i 0 <(ns.map (idx ys)).getD j 0)) ns.length (PySem.W.kas_sort ns.length):=Ru (λi j hi z=>by
  rw[m i hi,m j z];exact Ll q (a.mem_iff.mpr (Gi hi)) (a.mem_iff.mpr (Gi z))) _
 unfold okR at c;rw[<- el]at c;cases e:ev (λi j=>As (ns.getD i "") (ns.getD j "")) ns.length (PySem.W.kas_sort ns.length)with
 | none=>rw[e]at c;cases c
 | some p =>
  rw[e]at c;have b:((p.toList.map (λi=>(ns.map (idx ys)).getD i 0)==List.range ns.length)&&p.toList.all (λi=>decide (i < ns.length)))=true:=c;rw[YH]at b;have F:=eq_of_beq b.1;have o:∀ i∈p.toList,i < ns.length:=λi hi=>of_decide_eq_true (List.all_eq_true.mp b.2 i hi)
  have w:(p.toList.map λi=>ns.getD i "")=ys:=by
   refine RA (f:=idx ys) (λx D y r h=>?_) ?_
   ·obtain⟨i,hi,rfl⟩:=YC.mp D;exact Rz (a.mem_iff.mpr (Gi (o i hi))) r h
   ·rw[Lk ys d,a.length_eq,<- F,YB];exact List.map_congr_left λi hi=>(m i (o i hi)).symm
  refine⟨p,rfl,o,?_,λx=>?_⟩
  ·rw[w];exact q
  ·rw[w];exact a.mem_iff
def Fg(h:Heap)(v:Value)(n:Str):Prop:=∃ b o xs k t,v=.ref b/\h.get? b=some o/\o.cls=.type "tuple"/\o.data=.seq xs k/\xs[0]?=some (Value.str n t)
section
variable {prog:Program} {w:World} {A:Around} {E:Value->Shared->Prop} {s:Shared}
theorem RB{xs:Array Value}{v:Value}(h:xs[0]?=some v):∃ r,xs.toList=v::r:=by
 have h':xs.toList[0]?=some v:=by simpa using h
 cases e:xs.toList with
 | nil=>rw[e]at h';cases h'
 | cons y r=>rw[e]at h';cases h';exact⟨r,rfl⟩
variable {vs:List Value}{ns:List Str}
theorem iW(e:∀ i,i < ns.length->Fg s.heap (vs.getD i Value.none) (ns.getD i ""))(f:ns.Nodup){i j:Nat}{C:Bool->Shared->Prop}(c:i≠j)(hi:i < ns.length)(a:j < ns.length)(h:C (As (ns.getD i "") (ns.getD j "")) s):
  PySem.W.kas_ask prog w A (tuples' true) vs i j C s:=by
 obtain⟨I,D,E,J,o,n,g1,_,v,g⟩:=e i hi;obtain⟨H,y,B,G,l,r,g2,_,t,x⟩:=e j a;unfold PySem.W.kas_ask;rw[n,r];refine PySem.W.kat_lt g1 v g2 t ?_;obtain⟨r1,m⟩:=RB g;obtain⟨F,u⟩:=RB x;rw[m,u,List.zip_cons_cons]
 have b:ns.getD i ""≠ns.getD j "":=by
  have k:ns.getD i ""=ns[i]:=by simp[hi]
  have p:ns.getD j ""=ns[j]:=by simp[a]
  rw[k,p];have d:=List.pairwise_iff_getElem.mp f;rcases Nat.lt_or_gt_of_ne c with z | z
  ·exact d i j hi a z
  ·exact λq=>d j i a hi z q.symm
 refine PySem.W.kat_cons (wpAny_eqBool_str ?_);rw[decide_eq_false b];refine PySem.W.kat_no ?_;show wpAny (model prog w) A (oneLt' true (.str (ns.getD i "") o) (.str (ns.getD j "") l)) _ _ s;exact oneLt_str h
theorem RC:∀{vs:List Value}{ns:List Str},ns.length=vs.length->(∀ i,i < ns.length->Fg h (vs.getD i Value.none) (ns.getD i ""))->∃ fs:List Value,PySem.W.KatTups h vs fs/\fs.length=vs.length/\∀ v∈fs,∃ x t,v=Value.str x t
 | [],[],_,_=>⟨[],trivial,rfl,λv q=>by cases q⟩
 | [],_::_,e,_=>by cases e
 | _::_,[],e,_=>by cases e
 | v::vs,n::ns,e,l=>by
  obtain⟨b,o,xs,k,t,m,g,c,d,f⟩:=l 0 (by simp)
  obtain⟨fs,h1,h2,p⟩:=RC (vs:=vs) (ns:=ns) (by simpa using e) λi hi=>by
   have:=l (i+1) (by simp only[Yg];omega);simpa using this
  have j:v=.ref b:=by simpa using m
  refine⟨.str n t::fs,⟨⟨b,o,xs,k,j,g,c,d,by simpa using f⟩,h1⟩,by rw[Yg,Yg,h2],λu a=>?_⟩;walk_at "pf"
  ·exact⟨_,_,rfl⟩
  ·exact p u a
theorem Lm{α:Type}(d:α):∀ l:List α,(List.range l.length).map (λi=>l.getD i d)=l:=λl=>by
 apply List.ext_getElem?;intro i;rw[YS];by_cases h:i < l.length
 ·simp[h]
 ·rw[Qi (by simpa using h),Qi (by omega)];rfl
theorem iX{a:Addr}{n:Nat}{P:PySem.Fin->Shared->Prop}(H:s.heap.get? a=some (seqObj "list" vs.toArray n))(hl:ns.length=vs.length)(ht:∀ i,i < ns.length->Fg s.heap (vs.getD i Value.none) (ns.getD i ""))(X:ns.Nodup)(hd:Rs ns.dropLast)(Z:vs.length<=12)
  (h:∀ ps:List Nat,(∀ i∈ps,i < ns.length)->Rs (ps.map λi=>ns.getD i "")->(∀ x,x∈(ps.map λi=>ns.getD i "")↔x∈ns)->P (.done (.ret .none)) {s with heap:=sortedHeap s.heap a vs (List.toArray (ps.map λi=>vs.getD i Value.none))}):
  wpAny (model prog w) A (Builtin.«list.sort» ⟨[.ref a],[]⟩) P E s:=by
 rw[list_sort_plain];have ha:a < s.heap.objs.size:=Qp H;have D:vs.length<=sizeLine:=Yt Z (by decide);refine Qm (listItems_at H rfl ?_);refine Qm (listUpdate_at H rfl ?_ (by rw[Yn];exact D) (YY _));obtain⟨K,B⟩:∃ K,(s.heap.update a (Obj.mapSeq λ_=>(#[]:Array Value))).get? a=some (seqObj "list" #[] K):=⟨_,get?_update_seq H (λ_=>#[])⟩;refine Qm (seqEpoch_at B rfl ?_);refine Qm (wpAny_newTuple ?_ (by show vs.length<=_;exact D));refine Qm (wpAny_newList ?_ (YY _));refine wpAny_holding ?_;have r:(((s.heap.update a (Obj.mapSeq λ_=>(#[]:Array Value))).push (seqObj "tuple" vs.toArray 0)).push (seqObj "list" #[] 0)).get? a=some (seqObj "list" #[] K):=Qo _ (Qo _ B);show wpAny (model prog w) A _ P E {s with heap:=((s.heap.update a (Obj.mapSeq λ_=>(#[]:Array Value))).push (seqObj "tuple" vs.toArray 0)).push (seqObj "list" #[] 0)};dsimp only;have S:∀ ps:List Nat,ps.length<=12->(∀ i∈ps,i < ns.length)->Rs (ps.map λi=>ns.getD i "")->(∀ x,x∈(ps.map λi=>ns.getD i "")↔x∈ns)->∀ u:Array Value,u=List.toArray (ps.map λi=>vs.getD i Value.none)->P (.done (.ret .none)) {s with heap:=sortedHeap s.heap a vs u}:=λps _ h1 h2 h3 u e=>by rw[e];exact h ps h1 h2 h3
 by_cases h2:vs.toArray.size < 2
 ·rw[if_pos h2,if_pos h2];refine Qm (Qn ?_);rw[StateT.run_pure];refine Qm (Qn ?_);dsimp only
  have l:(Array.map (λx:Value×Value=>x.2) (vs.toArray.zip vs.toArray))=vs.toArray:=by
   apply Array.toList_inj.mp;simp[List.map_snd_zip]
  refine Qm (seqEpoch_at r rfl ?_);refine Qm (listUpdate_at r rfl ?_ (YY _) (by show(Array.map (λx:Value×Value=>x.2) (vs.toArray.zip vs.toArray)).size<=_;rw[l,Yn];exact Yt Z (by decide)));simp only[bne_self_eq_false,Yq,if_false];have y:vs.length < 2:=by simpa using h2
  refine Qn (S (List.range ns.length) (by rw[List.length_range];omega) (λi hi=>List.mem_range.mp hi) ?_ (λx=>by rw[Lm]) _ ?_)
  ·rw[Lm];have L:ns.length < 2:=by omega
   match ns,L with
   | [],_=>exact .nil
   | [_],_=>exact .cons (λ_ z=>by cases z) .nil
   | _::_::_,z=>exact absurd z (by simp only[Yg];omega)
  ·rw[hl,Lm];exact l
 ·rw[if_neg h2,if_neg h2];have y:2<=vs.length:=by simp only[Yn]at h2;omega
  obtain⟨p,pe,p1,p2,p3⟩:=iV X hd (by omega) (by omega)
  have J:∀ i,i < ns.length->Fg (((s.heap.update a (Obj.mapSeq λ_=>(#[]:Array Value))).push (seqObj "tuple" vs.toArray 0)).push (seqObj "list" #[] 0)) (vs.getD i Value.none) (ns.getD i ""):=λi hi=>by
   obtain⟨b,o,xs,k,t,e,g,c,d,f⟩:=ht i hi;have hb:b≠a:=λz=>by subst z;rw[H]at g;cases g;exact absurd (show Value.type "list"=.type "tuple" from c) (by decide)
   exact⟨b,o,xs,k,t,e,Qo _ (Qo _ ((Heap.get?_update_other _ _ (YZ hb)).trans g)),c,d,f⟩
  generalize U:({s with heap:=((s.heap.update a (Obj.mapSeq λ_=>(#[]:Array Value))).push (seqObj "tuple" vs.toArray 0)).push (seqObj "list" #[] 0)}:Shared)=S0;have F:∀ i,i < ns.length->Fg S0.heap (vs.getD i Value.none) (ns.getD i ""):=by rw[<- U];exact J
  obtain⟨fs,kt,kl,ks⟩:=RC hl F;refine Qm (PySem.W.kat_kind (T:=.type "str") kt (by omega) (λv hv=>by obtain⟨x,t,rfl⟩:=ks v hv;exact PySem.W.Looks.of_pure rfl) (by decide) ?_)
  have run:=PySem.W.kat_run (prog:=prog) (w:=w) (A:=A) (E:=E) (κ:=tuples' true) (ks:=vs) (vs:=vs) (s:=S0) (G:=λq s'=>s'=S0/\q=p) (Q:=λm s'=>s'=S0/\(arrOf m).map (·.2)=List.toArray (p.toList.map λi=>vs.getD i Value.none)/\failedOf m=none) rfl y (by omega) (λq m s' hq R I Y=>⟨Y.1,by rw[PySem.W.kat_snds rfl R,Y.2],I⟩)
   (Rt (lt:=λi j=>As (ns.getD i "") (ns.getD j "")) (n:=ns.length) (λi j C a1 a2 a3 a4=>iW F X a1 a2 a3 a4) _ (by rw[<- hl];exact pe) ⟨rfl,rfl⟩)
  refine Qm (wpAny_mono run ?_ λ_ _ e=>e);rintro⟨⟨⟩,m⟩ s' ⟨rfl,l,I⟩;subst U;dsimp only at l I ⊢;rw[l];refine Qm (seqEpoch_at r rfl ?_);refine Qm (listUpdate_at r rfl ?_ (YY _) ?_)
  ·rw[I];simp only[bne_self_eq_false,Yq,if_false];exact Qn (h p.toList p1 p2 p3)
  ·rw[Yn,Yh]
   have N:p.toList.length<=12:=by
    have O:(p.toList.map λi=>ns.getD i "").Nodup:=p2.imp λz e=>by subst e;rw[HJ]at z;cases z
    have:=Dc O (xs:=ns) λx hx=>(p3 x).mp hx;rw[Yh]at this;omega
   exact Yt N (by decide)
end
end L3
namespace L3
open PySem PySem.Spec PyProof.Rows L2
variable {K:PySem.W.Frag} {H H' H2:Hp}
theorem iY{vs:List V}{a:List Value}(r:Vals vs a){i:Nat}(hi:i < vs.length):RelV (vs.getD i .non) (a.getD i Value.none):=by
 have e:vs[i]?=some (vs.getD i .non):=by simp[hi]
 obtain⟨u,b,c⟩:=r.get e;have:a.getD i Value.none=u:=by simp[b]
 rw[this];exact c
theorem RD{vs:List V}{a:List Value}(r:Vals vs a):∀ ps:List Nat,(∀ i∈ps,i < vs.length)->Vals (ps.map λi=>vs.getD i .non) (ps.map λi=>a.getD i Value.none)
 | [],_=>.nil
 | i::ps,h=>.cons (iY r (h i Ye)) (RD r ps λj b=>h j (Yd _ b))
theorem RE{vs:List V}{a:List W}(t:TrL K H vs a):∀ ps:List Nat,(∀ i∈ps,i < a.length)->TrL K H (ps.map λi=>vs.getD i .non) (ps.map λi=>a.getD i .non)
 | [],_=>.nil
 | i::ps,h=>by
  have hi:=h i Ye;have e:a[i]?=some (a.getD i .non):=by simp[hi]
  obtain⟨v,b,tv⟩:=t.get e;have c:vs.getD i .non=v:=by simp[b]
  refine .cons ?_ (RE t ps λj d=>h j (Yd _ d));show Tr K H (vs.getD i .non) (a.getD i .non);rw[c];exact tv
theorem HK{α:Type}:∀{l:List (Str×α)}{z y:Str×α},(l.map (·.1)).Nodup->z∈l->y∈l->z.1=y.1->z=y
 | u::l,z,y,c,g,d,e=>by
  rw[Ym]at c;obtain⟨f,h⟩:=YV.mp c;rcases Yo.mp g with a | a
  ·rcases Yo.mp d with b | b
   ·rw[a,b]
   ·exact absurd (YC.mpr ⟨y,b,by rw[<- e,a]⟩) f
  ·rcases Yo.mp d with b | b
   ·exact absurd (YC.mpr ⟨z,a,by rw[e,b]⟩) f
   ·exact HK h a b e
end L3
namespace L3
open PySem PySem.Spec PyProof.Rows L2
section
variable {prog:Program} {w:World} {A:Around} {E:Value->Shared->Prop} {s:Shared}
theorem iZ{v d:Addr}{c:List (Key×Value)}{ns:List Str}{Q:Value->Shared->Prop}(hh:A.handled=none)(U:s.heap.IsItemsView v d)(hm:s.heap.DictAt (AV prog w) d c Y)(T:c.map (·.1)=ns.map Sum.inr)(Z:ns.Nodup)(hd:Rs ns.dropLast)(S:ns.length<=12)(y:s.heap.objs.size<=v+1)
  (h:∀(h':Heap)(tk:Nat)(p:List Addr)(r e:Nat)(ps:List Nat),(∀ b o,s.heap.get? b=some o->h'.get? b=some o)->p.length=ns.length->p.Nodup->(∀ a∈p,s.heap.objs.size<=a)->s.heap.objs.size<=r->r∉p->
   (∀(j:Nat)(a:Addr),p[j]?=some a->∃ z t x,ns[j]?=some z/\c[j]?=some (Sum.inr z,x)/\h'.get? a=some {cls:=.type "tuple",data:=.seq #[.str z t,x]})->
   h'.get? r=some (seqObj "list" (List.toArray (ps.map λi=>(p.map Value.ref).getD i Value.none)) e)->(∀ i∈ps,i < ns.length)->Rs (ps.map λi=>ns.getD i "")->(∀ x,x∈(ps.map λi=>ns.getD i "")↔x∈ns)->Q (.ref r) {s with heap:=h',toks:=tk}):
  wpAny (model prog w) A (call (.builtin "sorted") [.ref v]) Q E s:=by
 have H:c.length=ns.length:=by have:=congrArg List.length T;simpa using this
 refine Calls.call_function_entry kind_sorted plain_sorted entry_sorted (args_sorted1 _) ?_;unfold Builtin.«sorted»;refine Qm (m:=checkCount "sorted" 1 1 _) (Qn ?_);refine Qm (PySem.W.kdx_collect (A:=A.in1) hh U hm (by rw[H];exact Yt S (by decide)) λh1 B p f N K=>?_)
 have g:∀(j:Nat)(a:Addr),p[j]?=some a->∃ z t x,ns[j]?=some z/\c[j]?=some (Sum.inr z,x)/\h1.get? a=some {cls:=.type "tuple",data:=.seq #[.str z t,x]}:=λj a u=>by
  obtain⟨key,k,x,F,J,G⟩:=K.pairs j a u;have X:(c.map (·.1))[j]?=some k:=by rw[YS,F];rfl
  rw[T,YS]at X;obtain⟨z,ez,rfl⟩:=YU.mp X;obtain⟨t,rfl⟩:=Rp J;exact⟨z,t,x,ez,F,G⟩
 generalize l:p.map Value.ref=its;have P:its.length=ns.length:=by rw[<- l,Yh,N,H]
 refine Qm (wpAny_newList ?_ (by rw[P];exact Yt S (by decide)));have D:(h1.push (seqObj "list" its.toArray 0)).get? h1.objs.size=some (seqObj "list" its.toArray 0):=Qq _ rfl
 have O:∀ i,i < ns.length->Fg (h1.push (seqObj "list" its.toArray 0)) (its.getD i Value.none) (ns.getD i ""):=λi hi=>by
  obtain⟨a,u⟩:∃ a,p[i]?=some a:=⟨_,Yp (by omega)⟩;obtain⟨z,t,x,F,J,G⟩:=g i a u;have hz:ns.getD i ""=z:=by simp[F]
  have R:its.getD i Value.none=.ref a:=by rw[<- l];simp[u]
  rw[hz,R];exact⟨_,_,_,_,t,rfl,Qo _ G,rfl,rfl,rfl⟩
 show wpAny _ _ _ _ _ {s with heap:=h1.push (seqObj "list" its.toArray 0),toks:=B};refine Qm (wpAny_holding (wpAny_call_entry slot_list_sort ⟨_,D,rfl⟩ entry_list_sort (iX (s:={s with heap:=h1.push (seqObj "list" its.toArray 0),toks:=B}) D (by omega) O Z hd (by omega) λps p1 p2 p3=>⟨_,rfl,?_⟩) (args_list_sort _)));obtain⟨e,he⟩:=sortedHeap_at (n:=0) (vs:=its) (out:=List.toArray (ps.map λi=>its.getD i Value.none)) D
 have q:∀ b o,h1.get? b=some o->(sortedHeap (h1.push (seqObj "list" its.toArray 0)) h1.objs.size its (List.toArray (ps.map λi=>its.getD i Value.none))).get? b=some o:=λb o z=>by
  have I:b < h1.objs.size:=Qp z;rw[sortedHeap_old (Ys I) (by rw[size_push'];exact Nat.lt_succ_of_lt I)];exact Qo _ z
 have L:s.heap.objs.size<=h1.objs.size:=by
  obtain⟨o,ho,_⟩:=U;exact Yt y (Qp (f _ _ ho))
 refine Qn ⟨_,rfl,h _ B p h1.objs.size e ps (λb o z=>q b o (f b o z)) (by omega) (K.rise.imp λz=>Ys z) (λa u=>YL (K.above a u)) L (λz=>absurd (K.there z) (YM _)) (λj a u=>?_) (by rw[l];exact he) p1 p2 p3⟩;obtain⟨z,t,x,F,J,G⟩:=g j a u;exact⟨z,t,x,F,J,q _ _ G⟩
end
theorem i2{X:Cx}{s:Shared}(d:List Addr):∀{H:Hp}{pv:List (Str×V)}{ps:List (Str×Value)},Inv X pins σ H s->d.Nodup->(∀ a∈d,H a=none/\a≠X.env.locals/\(∀ x c,X.env.cells.lookup x=some c->c≠a)/\(∀ p∈X.pn++pins,p.1≠a)/\X.s₀.heap.get? a=none)->
  Paired (λ(y:Str×V)(z:Str×Value)=>y.1=z.1/\RelV y.2 z.2) pv ps->Paired (λ(a:Addr)(z:Str×Value)=>∃ t,s.heap.get? a=some {cls:=.type "tuple",data:=.seq #[.str z.1 t,z.2]}) d ps->
  ∃ H',Inv X pins σ H' s/\Mono X.K H H'/\(∀ b o,H b=some o->H' b=some o)/\(∀ b,b∉d->H' b=H b)/\PV X.K H' (d.map V.ref) pv:=by
 induction d with
 | nil =>
  intro H pv ps I _ _ r h;cases h;cases r;exact⟨H,I,.refl,λ_ _ e=>e,λ_ _=>rfl,.nil⟩
 | cons a d D =>
  intro H pv ps I A v r h;cases h with
  | @cons _ z _ ps Q has =>
   cases r with
   | @cons y _ pv _ r O =>
    obtain⟨R,N⟩:=YV.mp A;obtain⟨l,U,T,S,F⟩:=v a Ye;obtain⟨t,G⟩:=Q;obtain⟨f,j⟩:=y;obtain⟨P,B⟩:=z;cases(show f=P from r.1);have ok:ObjOk X.prog X.w (upd H a (.tup [.str f,j])) s.heap a (.tup [.str f,j]):=⟨(Qzz 2),[.str f t,B],.cons ⟨t,rfl⟩ (.cons r.2 .nil),⟨_,G,rfl,rfl,_,rfl⟩⟩;have E:Inv X pins σ (upd H a (.tup [.str f,j])) s:=I.track l U T S F ok
    obtain⟨H',J,m,k,u,n⟩:=D E N (λb i=>by
     obtain⟨g1,g⟩:=v b (Yd _ i);refine⟨?_,g⟩;rw[AN (λq=>R (by rw[<- q];exact i))];exact g1) O has
    have L:Mono X.K H (upd H a (.tup [.str f,j])):=Mono.new l _;refine⟨H',J,L.trans m,λb o e=>k b o (by rw[AN (DL e l)];exact e),λb i=>?_,?_⟩
    ·rw[u b λz=>i (Yd _ z),AN λz=>i (by rw[z];exact Ye)]
    ·rw[Ym];exact .cons (m.tup _ _ (SqT.of B0)) n
abbrev kyd{α:Type}(y:Str×α):Key×α:=(Sum.inr y.1,y.2)
theorem RF{α β:Type}{R:α->β->Prop}:∀{c:List α}{bs:List β},c.length=bs.length->(∀(j:Nat)(a:α),c[j]?=some a->∃ b,bs[j]?=some b/\R a b)->Paired R c bs
 | [],[],_,_=>.nil
 | [],_::_,h,_=>by cases h
 | _::_,[],h,_=>by cases h
 | a::c,b::bs,h,f=>by
  obtain⟨g,e,r⟩:=f 0 a rfl;cases e;exact .cons r (RF (Nat.succ.inj h) λj x d=>f (j+1) x d)
theorem RG:∀{pv:List (Str×V)}{vs:List (Key×Value)},KV (pv.map kyd) vs->∃ ps:List (Str×Value),vs=ps.map kyd/\Paired (λ(y:Str×V)(z:Str×Value)=>y.1=z.1/\RelV y.2 z.2) pv ps
 | [],vs,h=>by cases h;exact⟨[],rfl,.nil⟩
 | y::pv,vs,h=>by
  rw[Ym]at h;cases h with
  | @cons _ u _ a r t =>
   obtain⟨ps,e,q⟩:=RG t;obtain⟨k,x⟩:=u;cases(show Sum.inr y.1=k from r.1);exact⟨(y.1,x)::ps,by rw[Ym,e],.cons ⟨rfl,r.2⟩ q⟩
theorem RH:∀{pv:List (Str×V)}{ps:List (Str×Value)},Paired (λ(y:Str×V)(z:Str×Value)=>y.1=z.1/\RelV y.2 z.2) pv ps->ps.map (·.1)=pv.map (·.1)
 | _,_,.nil=>rfl
 | _,_,.cons r t=>by rw[Ym,Ym,RH t,r.1]
section
variable {X:Cx} {e:Expr} {p3 pa q1 q3:Pos} {ta:TE}
def i3(K:PySem.W.Frag)(ta:TE):TE:=λσ H Q=>ta σ H λx H2=>∃(p:Addr)(pv:List (Str×V)),x=.ref p/\H2 p=some (.dK (pv.map kyd))/\(pv.map (·.1)).Nodup/\Rs (pv.map (·.1)).dropLast/\pv.length<=12/\
 ∀(H':Hp)(vs:List V)(ps:List Nat)(r:Addr),Mono K H2 H'->(∀ b o,H2 b=some o->H' b=some o)->PV K H' vs pv->(∀ i∈ps,i < pv.length)->Rs (ps.map λi=>(pv.map λy=>y.1).getD i ("":Str))->(∀ x,x∈(ps.map λi=>(pv.map λy=>y.1).getD i ("":Str))↔x∈pv.map (·.1))->H' r=none->Q (.ref r) (upd H' r (.lst (ps.map λi=>vs.getD i .non)))
theorem i4(hc:X.calm=true)(n1:X.mg "sorted"=none)(g1:Gl X "sorted")(hb:attributeBase e "items" X.env (eval e X.env)=eval e X.env)(E:(pa.endLine==q1.line)=true)
  (h3:starEach [.Call (.Attribute e "items" pa) [] [] q1] X.env=(false,eval (.Call (.Attribute e "items" pa) [] [] q1) X.env)::starEach [] X.env) (n:PE X e ta):
  PE X (.Call (.Name "sorted" p3) [.Call (.Attribute e "items" pa) [] [] q1] [] q3) (i3 X.K ta):=by
 intro pins s σ H Q I h;have bS:bootBuiltins "sorted"=some (.builtin "sorted"):=by decide +kernel
 have hh:X.A.handled=none:=I.ok.hd hc;refine wpAny_Call_Name_kw (Cc I g1 n1 bS ?_);refine PyProof.Rows.callWith_builtin1 (EG h3 ?_) h3 rfl;refine wpAny_Call_method (T:="dict") (id:="dict.items") hb rfl E F.plainAttrs_dict F.slot_dict_items F.type_dict_items ?_;refine thn (n pins s σ H _ I h) λv d⟨x,H2,D,r1,p,pv,ex,hH,hn,hdl,h7,q2⟩=>?_;subst ex;cases r1;obtain⟨hz,hd,vs,rel,R⟩:(pv.map kyd).length<=sizeLine/\(p==sysModules)=false/\∃ vs,KV (pv.map kyd) vs/\d.heap.DictOf (AV X.prog X.w) p vs:=D.hok p _ hH;obtain⟨ws,rfl,f⟩:=RG rel;have hwl:ws.length=pv.length:=(Paired.length f).symm;have Z:=RH f;refine⟨R.typeIs,R.mapOf.noDict,?_⟩;show wpAny _ _ (callWith q1 (.builtin "dict.items") [.ref p] [] []) _ _ d;refine method_meetsIn F.slot_dict_items F.entry_dict_items rfl (PySem.evalArgs_none ⟨rfl,R.typeIs,F.args_dict_items_1 _,_,meets_dict_items (AV X.prog X.w) p hd,⟨_,R⟩,?_⟩);obtain⟨ep,hat⟩:=R.dictAt;refine iZ (s:={d with heap:=d.heap.push {cls:=.type "dict_items",data:=.fields #[.ref p]}}) (ns:=pv.map (·.1)) hh ⟨_,Qq _ rfl,rfl,rfl⟩ (hat.push _) ?_ hn hdl (by rw[Yh];exact h7) (by show(d.heap.push _).objs.size<=_;rw[Qr];exact Yr _) λh' tk l r en ps keep L G hab hr hra B U p1 p2 p3=>?_
 ·rw[<- Z,YB,YB];rfl
 have Y:d.heap.objs.size<=(d.heap.push {cls:=.type "dict_items",data:=.fields #[.ref p]}).objs.size:=by rw[Qr];exact Nat.le_succ _
 have N:∀ b u,d.heap.get? b=some u->h'.get? b=some u:=λb u z=>keep b u (Qo _ z);have I6:Inv X pins σ H2 {d with heap:=h',toks:=tk}:=D.kept (t':=tk) N
 have O:∀ a,d.heap.objs.size<=a->H2 a=none/\a≠X.env.locals/\(∀ x c,X.env.cells.lookup x=some c->c≠a)/\(∀ q∈X.pn++pins,q.1≠a)/\X.s₀.heap.get? a=none:=λa n=>by
  refine⟨D.hok.fresh n,λz=>absurd D.lt (by rw[<- z];exact Nat.not_lt.mpr n),λx c z q=>?_,λq hq z=>?_,?_⟩
  ·obtain⟨v,o,ho,_⟩:=D.cell x c z;exact absurd (Qp ho) (by rw[q];exact Nat.not_lt.mpr n)
  ·exact absurd (Qp (D.pin q hq).1) (by rw[z];exact Nat.not_lt.mpr n)
  ·cases z:X.s₀.heap.get? a with
   | none=>rfl
   | some o=>exact absurd (Yu (Qp z) D.sz) (Nat.not_lt.mpr n)
 have P:l.length=ws.length:=by rw[L,Yh,hwl]
 have pr:Paired (λ(a:Addr)(z:Str×Value)=>∃ t,h'.get? a=some {cls:=.type "tuple",data:=.seq #[.str z.1 t,z.2]}) l ws:=RF P λj a hj=>by
  obtain⟨z,t,x,e1,e2,e3⟩:=B j a hj;rw[YS]at e2;obtain⟨y,ey,eq⟩:=YU.mp e2;obtain⟨y1,y2⟩:=y;cases eq;exact⟨_,ey,t,e3⟩
 obtain⟨H',J,m,k,u,pvv⟩:=i2 (s:={d with heap:=h',toks:=tk}) l I6 G (λa n=>O a (Yt Y (hab a n))) f pr;have g:=O r (Yt Y hr);have S:H' r=none:=by rw[u r hra];exact g.1
 have hpl:∀ i∈ps,i < l.length:=λi hi=>by rw[L];exact p1 i hi
 have hps:ps.length<=12:=by
  have G:(ps.map λi=>(pv.map λy=>y.1).getD i ("":Str)).Nodup:=p2.imp λz e=>by subst e;rw[HJ]at z;cases z
  have:=Dc G (xs:=pv.map (·.1)) λx hx=>(p3 x).mp hx;rw[Yh,Yh]at this;omega
 have ok:ObjOk X.prog X.w (upd H' r (.lst (ps.map λi=>(l.map V.ref).getD i .non))) h' r (.lst (ps.map λi=>(l.map V.ref).getD i .non)):=⟨by rw[Yh];exact Yt hps (by decide),ps.map (λi=>(l.map Value.ref).getD i Value.none),en,RD (Re l) ps (λi hi=>by rw[Yh];exact hpl i hi),U⟩;refine⟨.ref r,_,J.track S g.2.1 g.2.2.1 g.2.2.2.1 g.2.2.2.2 ok,rfl,q2 H' (l.map V.ref) ps r m k pvv (λi hi=>by have:=p1 i hi;rw[Yh]at this;exact this) p2 p3 S⟩
end
end L3
namespace L3
open PySem PySem.Spec PyProof.Rows L2
variable {K:PySem.W.Frag} {H H' H2:Hp}
def DZ(ga:GE):GE:=λω G Q=>ga ω G λy G2=>∃(p:Addr)(l:List (Str×W)),y=.ref p/\G2 p=some (.dct (l.map kyd))/\(l.map (·.1)).Nodup/\Rs (l.map (·.1)).dropLast/\l.length<=12/\
 ∀(l':List (Str×W))(r:Addr),Rs (l'.map (·.1))->(∀ y,y∈l'↔y∈l)->G2 r=none->Q (.ref r) (put G2 r (.lst (l'.map λy=>.tup [.str y.1,y.2])))
variable {ga:GE}
theorem i5(i:ga.M):GE.M (DZ ga):=λω G Q k h q=>i _ _ _ _ (λx j⟨p,l,h1,h2,f,g,e,q1⟩=>⟨p,l,h1,h2,f,g,e,λd r a b c=>h _ _ (q1 d r a b c)⟩) q
theorem i6{G:Hw}(r:RelH K H G)(m:Mono K H H')(k:∀ b o,H b=some o->H' b=some o):RelH K H' G:=λa u e=>by
 have q:=r a u e;refine q.mono m ?_;cases z:H a with
 | none=>exact absurd z q.some
 | some o=>exact k a o z
theorem RI:∀{l:List (Str×W)}{vs:List (Key×V)},TrP K H vs (l.map kyd)->∃ pv:List (Str×V),vs=pv.map kyd/\TrP K H pv l
 | [],_,.nil=>⟨[],rfl,.nil⟩
 | y::l,_,.cons t r=>by
  obtain⟨pv,e,q⟩:=RI r;exact⟨(y.1,_)::pv,by rw[Ym,e],.cons t q⟩
theorem i7{vs:List V}{pv:List (Str×V)}(h:PV K H vs pv):∀{l:List (Str×W)},TrP K H pv l->TrL K H vs (l.map λy=>.tup [.str y.1,y.2]):=by
 induction h with
 | nil =>
  intro l t;cases t;exact .nil
 | cons b _ a =>
  intro l t;cases t with
  | cons t r=>exact .cons (.tup b (.cons (.str _) (.cons t .nil))) (a r)
theorem i8{X:Cx}{e:Expr}{p3 pa q1:Pos}(hc:X.calm=true)(S:X.mg "sorted"=none)(g1:Gl X "sorted")(B:attributeBase e "items" X.env (eval e X.env)=eval e X.env)(b:(pa.endLine==q1.line)=true)
  (T:starEach [.Call (.Attribute e "items" pa) [] [] q1] X.env=(false,eval (.Call (.Attribute e "items" pa) [] [] q1) X.env)::starEach [] X.env) (o:Em X e ga):
  Em X (.Call (.Name "sorted" p3) [.Call (.Attribute e "items" pa) [] [] q1] [] q3) (DZ ga):=by
 refine⟨AW (i4 hc S g1 B b T o.p) λσ H Q⟨ω,G,J,D,q⟩=>?_,i5 o.m⟩;refine⟨ω,G,J,D,o.m _ _ _ _ (λx A z v H1 O I r1=>?_) q⟩;obtain⟨p,l,rfl,R,s,g,Z,q1⟩:=z;cases I;obtain⟨Y,F,tl⟩:=r1 p _ R;obtain⟨pv,rfl,t⟩:=RI tl;have d:=Lc t;have hl:pv.length=l.length:=by have:=congrArg List.length d;simpa using this
 refine⟨p,pv,rfl,F,by rw[d];exact s,by rw[d];exact g,by omega,λH' L ps r m k j p1 p2 p3 n=>?_⟩;have u:RelH X.K H' A:=i6 r1 m k;have E:TrL X.K H' L (l.map λy=>.tup [.str y.1,y.2]):=i7 j (t.mono m);rw[d]at p2 p3;have a:∀ i∈ps,i < l.length:=λi hi=>by have:=p1 i hi;omega
 have en:∀ i∈ps,(l.map λy=>y.1).getD i ("":Str)=(l.getD i (("":Str),.non)).1:=λi hi=>by simp[a i hi]
 have U:(ps.map λi=>(l.map λy=>y.1).getD i ("":Str))=(ps.map λi=>l.getD i (("":Str),.non)).map (·.1):=by rw[YB];exact List.map_congr_left en
 have N:(ps.map λi=>(l.map λy=>W.tup [.str y.1,y.2]).getD i .non)=(ps.map λi=>l.getD i (("":Str),.non)).map λy=>W.tup [.str y.1,y.2]:=by rw[YB];exact List.map_congr_left λi hi=>by simp[a i hi]
 rw[U]at p2 p3;refine q1 (ps.map λi=>l.getD i (("":Str),.non)) r p2 (λy=>⟨λc=>?_,λc=>?_⟩) (u.no n) _ _ ((O.trans m).trans (Mono.new n _)) (.ref r) (u.new n ?_)
 ·obtain⟨i,hi,rfl⟩:=YC.mp c;exact Gi (a i hi)
 ·have P:=(p3 y.1).mpr (YC.mpr ⟨y,c,rfl⟩);obtain⟨z,w,f⟩:=YC.mp P;obtain⟨i,hi,rfl⟩:=YC.mp w;have h:l.getD i (("":Str),.non)∈l:=Gi (a i hi);have:l.getD i (("":Str),.non)=y:=HK s h c f;rw[<- this];exact w
 ·rw[<- N];exact RE E ps λi hi=>by rw[Yh];exact a i hi
end L3
namespace L3
open PySem PySem.Spec PyProof.Rows L2
section
variable {prog:Program} {w:World} {A:Around} {E:Value->Shared->Prop} {s:Shared}
theorem RJ{f:Nat->PUnit->Sem (ForInStep PUnit)}{P:Nat->Shared->Prop}{n:Nat}(a:∀ i s,i < n->P i s->wpAny (model prog w) A (f i ⟨⟩) (λr s'=>r=ForInStep.yield ⟨⟩/\P (i+1) s') E s):
  ∀(k i:Nat)(s:Shared),i+k=n->P i s->wpAny (model prog w) A (forIn (List.range' i k 1) PUnit.unit f) (λ_ s'=>P n s') E s
 | 0,i,s,h,b=>by
  rw[show i=n by omega]at b;rw[show List.range' i 0 1=[]from rfl,List.forIn_nil];exact Qn b
 | k+1,i,s,h,b=>by
  rw[List.range'_succ,List.forIn_cons];refine Qm (wpAny_mono (a i s (by omega) b) ?_ λ_ _ z=>z);rintro r s' ⟨rfl,c⟩;exact RJ a k (i+1) s' (by omega) c
theorem i9{f:Nat->PUnit->Sem (ForInStep PUnit)}{P:Nat->Shared->Prop}{n:Nat}(a:∀ i s,i < n->P i s->wpAny (model prog w) A (f i ⟨⟩) (λr s'=>r=ForInStep.yield ⟨⟩/\P (i+1) s') E s)(b:P 0 s):
  wpAny (model prog w) A (forIn [0:n] PUnit.unit f) (λ_ s'=>P n s') E s:=by
 rw[Std.Legacy.Range.forIn_eq_forIn_range'];have:([0:n]:Std.Legacy.Range).size=n:=by simp[Std.Legacy.Range.size]
 rw[this];exact RJ a n 0 s (by omega) b
end
section
variable {prog:Program} {w:World} {A:Around} {E:Value->Shared->Prop} {s:Shared}
set_option maxHeartbeats 3200000 in
theorem ja{d:Addr}{p:List (Key×Value)}{zs:List Str}{Q:Value->Shared->Prop}(hh:A.handled=none)(hd:(d==sysModules)=false)(hD:s.heap.DictOf (AV prog w) d p)(hk:p.map (·.1)=zs.map Sum.inr)(hn:zs.length < 32)
  (h:∀(h':Heap)(tk:Nat)(ks:List Str),SS w h' s.heap.objs.size ks->(∀ x,x∈ks↔x∈zs)->(∀ b o,b < s.heap.objs.size->s.heap.get? b=some o->h'.get? b=some o)->Q (.ref s.heap.objs.size) {s with heap:=h',toks:=tk}):
  wpAny (model prog w) A (call (.type "set") [(.ref d)]) Q E s:=by
 obtain⟨c,tl,hmro⟩:=PySem.F.called_set.mro;have hmade:=PySem.F.called_set.made;have hsub:=PySem.F.called_set.sub;refine wpAny_call (codeAny_of_tree (?_:wpAny _ _ (callAny (.type "set") _) _ _ _));refine Qn ⟨Code.quiet_builtin _ (by decide +kernel),codeAny_builtin PySem.F.entry_type_call ?_⟩;rw[Around.under_plain (weight_type_call_type "set" [(.ref d)] []) rfl];have h1:=PySem.F.called_set.notType;have h2:=PySem.F.called_set.canCreate;have hct:=PySem.F.typeCall_set_1 (.ref d);(repeat (any_goals (first | assumption | wp_step)));refine codeAny_mono (OP (.ref d) (E:=E) (Q:=λobj u=>∃ led:Bool,(bt w=false->led=true)/\obj=.ref s.heap.objs.size/\u={s with heap:=s.heap.push (Bf led)}) λled z=>⟨led,z,rfl,rfl⟩) λr u m=>?_
 match r,m with
 | .error e,m=>exact m
 | .ok .next,m=>exact m.elim
 | .ok .brk,m=>exact m.elim
 | .ok .cont,m=>exact m.elim
 | .ok (.ret obj),m =>
  obtain⟨led,S,rfl,rfl⟩:=m;have hS:(s.heap.push (Bf led)).get? s.heap.objs.size=some (Bf led):=Qq _ rfl;have hT:Shared.TypeIs {s with heap:=s.heap.push (Bf led)} (.ref s.heap.objs.size) "set":=⟨_,hS,rfl⟩;have hli:=PySem.F.called_set.init.lookup;have hbi:=PySem.F.called_set.init.bind (.ref s.heap.objs.size);(repeat (any_goals (first | assumption | wp_step)));refine codeAny_mono (codeAny_call_builtin (R:=wants (λr v=>r=.none/\∃ h' tk ks,v={s with heap:=h',toks:=tk}/\SS w h' s.heap.objs.size ks/\(∀ x,x∈ks↔x∈zs)/\(∀ b o,b < s.heap.objs.size->s.heap.get? b=some o->h'.get? b=some o)) E) PySem.F.called_set.init.plain PySem.F.entry_set_init (check_set_init_1 hT ?_)) λK v a=>?_
  ·have hds:(d==sysModules)=false:=hd;obtain⟨O,es,ep,Z,q,g,hko,U,hnd⟩:=hD;have f:(s.heap.push (Bf led)).get? d=some O:=Qo _ Z;have hT1:Shared.TypeIs {s with heap:=s.heap.push (Bf led)} (.ref d) "dict":=⟨O,f,q.1⟩;have hs1:=PySem.F.sub_dict_set;have hs2:=PySem.F.sub_dict_frozenset;have hne:(Value.type "dict"==Value.type "dict")=true:=by decide
   have hdS:d < s.heap.objs.size:=Qp Z;have l:d≠s.heap.objs.size:=Ys hdS
   have hel:es.size=zs.length:=by
    have h1:=U.length;have h2:=congrArg List.length hk;simp at h2;simp at h1;omega
   have I:∀ i,i < es.size->∃ e t,es[i]?=some e/\e.key=.str (zs.getD i (Str.ofString "")) t/\e.hash=hashStr w (zs.getD i (Str.ofString "")):=λi hi=>by
    have he:es[i]?=some es[i]:=Qa hi;have hkl:p.length=zs.length:=by simpa using congrArg List.length hk
    obtain⟨⟨k,x⟩,T⟩:∃ y,p[i]?=some y:=⟨_,Yp (by omega)⟩;obtain⟨h1,_⟩:=U.get? (e:=es[i]) (by simpa using he) T;have ek:(p.map (·.1))[i]?=some k:=by rw[YS,T];rfl
    rw[hk,YS]at ek;obtain⟨z,ez,rfl⟩:=YU.mp ek;obtain⟨t,ht⟩:=Rp h1;obtain⟨k',g1,g2⟩:=hko es[i] (Array.getElem_mem hi);have hz:zs.getD i (Str.ofString "")=z:=by simp[ez]
    rw[hz];refine⟨es[i],t,he,ht,?_⟩;rw[ht]at g1;rcases CU (show De k' (Value.str z t)=true from g1)with⟨_,_,_,e2⟩|⟨x',t',e1,e2⟩
    ·cases e2
    ·cases e2;rw[g2,e1];rfl
   unfold Builtin.«set.__init__» noKeywords Builtin.Frozenset.updateFrom;wp_walk;rw[g];refine Qn ?_;have hfr:SS w (s.heap.push (Bf led)) s.heap.objs.size []:=Kn led S hS;have hsc:(64:Nat)<=scanBound:=by unfold scanBound;omega
   refine Qm (wpAny_dictEntries f g ?_);refine Qm (QM hfr (by rw[hel];simp only[Yi];omega) λh1 J S1=>?_);have D:h1.get? d=some O:=(J.2 d l).trans f;refine Qm (wpAny_dictEntries (s:={s with heap:=h1}) D g ?_);refine Qm (wpAny_mono (i9 (n:=es.size) (P:=λi s'=>∃ h' ks,s'={s with heap:=h'}/\Heap.SameBut s.heap.objs.size h1 h'/\SS w h' s.heap.objs.size ks/\ks.length<=i/\∀ x,x∈ks↔∃ j,j < i/\zs.getD j (Str.ofString "")=x) ?_ ⟨h1,[],rfl,Heap.SameBut.refl _ _,S1,Yr _,λx=>by simp⟩) ?_ λ_ _ z=>z)
   ·rintro i s' hi ⟨h',ks,rfl,sb,Sk,hl,q⟩;obtain⟨e,t,he,L,H⟩:=I i hi;have B:h'.get? d=some O:=(sb.2 d l).trans D;refine Qm (wpAny_dictEntries (s:={s with heap:=h'}) B g ?_);rw[he];dsimp only;rw[L,H];refine Qm (wpAny_holding (Km (s:={s with heap:=h'}) Sk (by omega) λG b sb' S'=>?_));have X:G.get? d=some O:=(sb'.2 d l).trans B;refine Qm (wpAny_dictEpoch (s:={s with heap:=G}) X g ?_);rw[if_neg (by simp)];refine Qn ⟨rfl,G,_,rfl,sb.trans sb',S',?_,λx=>?_⟩
    ·split
     ·omega
     ·rw[Yg];omega
    ·constructor
     ·intro Y;split at Y
      ·obtain⟨j,hj,e⟩:=(q x).mp Y;exact⟨j,by omega,e⟩
      ·rcases Yo.mp Y with z | z
       ·exact⟨i,by omega,z.symm⟩
       ·obtain⟨j,hj,e⟩:=(q x).mp z;exact⟨j,by omega,e⟩
     ·rintro⟨j,hj,e⟩;by_cases hji:j=i
      ·subst hji;split
       ·rename_i hin;rw[<- e];exact hin
       ·rw[<- e];exact Ye
      ·have:=(q x).mpr ⟨j,by omega,e⟩;split
       ·exact this
       ·exact Yd _ this
   ·rintro _ s' ⟨h',ks,rfl,sb,Sk,_,q⟩;refine Qn (Qn ⟨rfl,h',s.toks,ks,rfl,Sk,λx=>(q x).trans ?_,λb o hb e=>?_⟩)
    ·constructor
     ·rintro⟨j,hj,e⟩;rw[<- e,Qe,Yp (by omega)];exact Qk _
     ·intro Y;obtain⟨j,hj,e⟩:=List.getElem_of_mem Y;refine⟨j,by omega,?_⟩;rw[Qe,Yp hj];exact e
    ·have N:b≠s.heap.objs.size:=Ys hb;rw[sb.2 b N,J.2 b N];exact Qo _ e
  ·match K,a with
   | .error e,a=>exact a
   | .ok .next,a=>exact a.elim
   | .ok .brk,a=>exact a.elim
   | .ok .cont,a=>exact a.elim
   | .ok (.ret r),a =>
    obtain⟨rfl,h',tk,ks,rfl,hS',q,hk'⟩:=a;(repeat (any_goals (first | assumption | wp_step)));exact h _ _ _ hS' q hk'
end
end L3
namespace L3
open PySem PySem.Spec PyProof.Rows L2
variable {K:PySem.W.Frag} {H H' H2:Hp}
section
variable {X:Cx} {e eb:Expr} {p1 p2 p3 q1 q2 q3 qb:Pos} {ta tb:TE}
def jb(K:PySem.W.Frag)(ta tb:TE):TE:=λσ H Q=>ta σ H λx H1=>∃(p:Addr)(kvs:List (Key×V))(xs:List Str),x=.ref p/\H1 p=some (.dK kvs)/\kvs.map (·.1)=xs.map Sum.inr/\xs.length < 32/\tb σ H1 λy H2=>∃(q:Addr)(ys:List Str),y=.ref q/\SqL K H2 q (ys.map V.str)/\ys.length < 32/\
 ∀(zs:List Str)(r:Addr),zs.Nodup->sortedS zs=true->(∀ x,x∈zs↔x∈xs\/x∈ys)->H2 r=none->Q (.ref r) (upd H2 r (.lst (zs.map V.str)))
theorem jc(hc:X.calm=true)(n1:X.mg "sorted"=none)(n2:X.mg "set"=none)(g1:Gl X "sorted")(g2:Gl X "set")(h1:starEach [e] X.env=(false,eval e X.env)::starEach [] X.env)(h2:starEach [eb] X.env=(false,eval eb X.env)::starEach [] X.env)
  (G:starEach [.BinOp (.Call (.Name "set" p1) [e] [] q1) .BitOr (.Call (.Name "set" p2) [eb] [] q2) qb] X.env=(false,eval (.BinOp (.Call (.Name "set" p1) [e] [] q1) .BitOr (.Call (.Name "set" p2) [eb] [] q2) qb) X.env)::starEach [] X.env) (ha:PE X e ta) (hb:PE X eb tb):
  PE X (.Call (.Name "sorted" p3) [.BinOp (.Call (.Name "set" p1) [e] [] q1) .BitOr (.Call (.Name "set" p2) [eb] [] q2) qb] [] q3) (jb X.K ta tb):=by
 intro pins s σ H Q I h;have bS:bootBuiltins "sorted"=some (.builtin "sorted"):=by decide +kernel
 have bT:bootBuiltins "set"=some (.type "set"):=by decide +kernel
 have hh:X.A.handled=none:=I.ok.hd hc;refine wpAny_Call_Name_kw (Cc I g1 n1 bS ?_);refine PyProof.Rows.callWith_builtin1 (EG G ?_) G rfl;refine wpAny_BinOp ?_;refine wpAny_Call_Name_kw (Cc I g2 n2 bT ?_);refine Qh (EG h1 ?_) h1 rfl;refine thn (ha pins s σ H _ I h) λv j zz1=>?_;obtain⟨x,H1,O,r1,p,o,xs,ex,hq,hkx,hn,q1⟩:=zz1;subst ex;cases r1;obtain⟨_,hdm,vd,rel,dd⟩:o.length<=sizeLine/\(p==sysModules)=false/\∃ S,KV o S/\j.heap.DictOf (AV X.prog X.w) p S:=O.hok p _ hq;refine ja hh hdm dd (by rw[Rq rel];exact hkx) hn λh' tk ka hA E keep=>?_;have Y:=hA;obtain⟨T,esA,epA,tA,hoA,hxA,l,TA⟩:=hA;have I2:Inv X pins σ H1 {j with heap:=h',toks:=tk}:=O.kept λb u z=>keep b u (Qp z) z
 have I3:Inv X (pins++[(j.heap.objs.size,T)]) σ H1 {j with heap:=h',toks:=tk}:=I2.pins_of λp g=>by
  rcases Yz.mp g with g | g
  ·exact I2.pin p (YQ _ g)
  ·have e:=YA.mp g;subst e;exact⟨hoA,O.hok.fresh (Yr _),YZ (Ys O.lt),O.nofs (Yr _),λv z=>by rw[l]at z;cases z⟩
 refine wpAny_Call_Name_kw (Cc I3 g2 n2 bT ?_);refine Qh (EG h2 ?_) h2 rfl;refine thn (hb _ _ σ H1 _ I3 q1) λv2 f zz2=>?_;obtain⟨y,H2,I4,r2,q,ys,ey,hq2,hn2,q2⟩:=zz2;subst ey;cases r2;have c:f.heap.get? j.heap.objs.size=some T:=(I4.pin (j.heap.objs.size,T) (YQ _ (YQ _ (YA.mpr rfl)))).1;have I5:Inv X pins σ H2 f:=I4.unpinned;obtain⟨D,P,pl2,hz2⟩:=I5.list hq2;have m:D.length=ys.length:=by have:=P.length;rw[Yh]at this;exact this.symm
 refine Ko hh pl2.isList (by simpa using HC P) (by rw[Yn,m];unfold scanBound;omega) λd tk2 kb hB N a=>?_;have hA2:SS X.w d j.heap.objs.size ka:=⟨T,esA,epA,tA,a _ _ (Qp c) c,hxA,l,TA⟩;have Z:ka.length < 32:=YK (Dc Y.nd λx L=>(E x).mp L) hn;have U:kb.length < 32:=YK (Dc hB.nd λx L=>(N x).mp L) hn2;refine QR (s:={f with heap:=d,toks:=tk2}) (Ys (Qp c)) hA2 hB Z U λG kc R F i=>?_
 have lkc:kc.length < 64:=by
  have:=Dc (xs:=ka++kb) R.nd λx L=>Yz.mpr ((F x).mp L);rw[Yj]at this;omega
 refine Q0 hh R lkc λs' r S zs en hr n hv g hs k hg hos=>?_;have z1:f.heap.objs.size < d.objs.size:=SS.lt (s:={f with heap:=d}) hB;have z2:d.objs.size < G.objs.size:=SS.lt (s:={f with heap:=G}) R;have t:f.heap.objs.size<=r:=YL (Yu (Nat.lt_trans z1 z2) hr)
 have B:∀ b u,f.heap.get? b=some u->s'.heap.get? b=some u:=λb u z=>by
  have y1:=a b u (Qp z) z;have y2:=i b u (Qp y1) y1;exact k b u (Qp y2) y2
 have hzl:zs.length<=sizeLine:=by
  have:(64:Nat)<=sizeLine:=by decide
  rw[g.length_eq];omega
 have J:Inv X pins σ (upd H2 r (.lst (zs.map V.str))) {f with heap:=s'.heap,toks:=s'.toks}:=I5.laid (t':=s'.toks) B t (show ObjOk X.prog X.w _ s'.heap r (.lst (zs.map V.str))from⟨by rw[Yh];exact hzl,S,en,K8 hv,n⟩);refine⟨.ref r,_,⟨J.ok,by rw[hos];exact J.os,by rw[hg];exact J.bare,J.base,J.loc,J.cell,J.free,J.freeC,J.pin,J.hok,J.len⟩,rfl,q2 zs r (g.nodup_iff.mpr R.nd) hs (λx=>?_) (I5.hok.fresh t)⟩;rw[g.mem_iff,F,E,N]
def HL(ga gb:GE):GE:=λω G Q=>ga ω G λx G1=>∃(p:Addr)(kvs:List (Key×W))(xs:List Str),x=.ref p/\G1 p=some (.dct kvs)/\kvs.map (·.1)=xs.map Sum.inr/\xs.length < 32/\gb ω G1 λy G2=>∃ ys:List Str,CI G2 y=some (ys.map W.str)/\ys.length < 32/\
 ∀(zs:List Str)(p:Addr),zs.Nodup->sortedS zs=true->(∀ x,x∈zs↔x∈xs\/x∈ys)->G2 p=none->Q (.ref p) (put G2 p (.lst (zs.map W.str)))
variable {ga gb:GE}
theorem jd(l:ga.M)(g:gb.M):GE.M (HL ga gb):=λω G Q o h q=>l _ _ _ _ ((by rintro x m ⟨p,e,xs,h1,f,i,h2,q1⟩;exact⟨p,e,xs,h1,f,i,h2,g _ _ _ _ ((by rintro y n ⟨ys,j,k,q2⟩;exact⟨ys,j,k,λzs p a b c d=>h _ _ (q2 zs p a b c d)⟩)) q1⟩)) q
theorem je(hc:X.calm=true)(R:X.mg "sorted"=none)(K:X.mg "set"=none)(g1:Gl X "sorted")(g2:Gl X "set")(h1:starEach [e] X.env=(false,eval e X.env)::starEach [] X.env)(h2:starEach [eb] X.env=(false,eval eb X.env)::starEach [] X.env)
  (S:starEach [.BinOp (.Call (.Name "set" p1) [e] [] q1) .BitOr (.Call (.Name "set" p2) [eb] [] q2) qb] X.env=(false,eval (.BinOp (.Call (.Name "set" p1) [e] [] q1) .BitOr (.Call (.Name "set" p2) [eb] [] q2) qb) X.env)::starEach [] X.env) (k:Em X e ga) (a:Em X eb gb):
  Em X (.Call (.Name "sorted" p3) [.BinOp (.Call (.Name "set" p1) [e] [] q1) .BitOr (.Call (.Name "set" p2) [eb] [] q2) qb] [] q3) (HL ga gb):=by
 refine⟨AW (jc hc R K g1 g2 h1 h2 S k.p a.p) λσ H Q d=>?_,jd k.m a.m⟩;obtain⟨ω,G,o,w,q⟩:=d;refine⟨ω,G,o,w,k.m _ _ _ _ (λx t c v H1 s F r1=>?_) q⟩;obtain⟨p,N,xs,rfl,J,g,z,q1⟩:=c;cases F;obtain⟨n,D,tl⟩:=r1 p _ J;refine⟨p,n,xs,rfl,D,by rw[Rr tl];exact g,z,ω,t,o.mono s,r1,a.m _ _ _ _ (λy T j u H2 I ty f=>?_) q1⟩;obtain⟨ys,P,h,q2⟩:=j;obtain⟨b,n,rfl,rfl,A,i,B⟩:=DU f ty P;obtain rfl:=HD B;refine⟨b,ys,rfl,.inl (.inl i),h,λzs r O E L l=>?_⟩;exact q2 zs r O E L (f.no l) _ _ (s.trans (I.trans (Mono.new l _))) (.ref r) (f.new l (K9 zs))
end
end L3
namespace L3
open PySem PySem.Spec PyProof.Rows L2
section
variable {prog:Program} {w:World} {A:Around} {E:Value->Shared->Prop} {s:Shared}
end
end L3
namespace L3
open PySem PySem.Spec PyProof.Rows L2
variable {K:PySem.W.Frag} {H H' H2:Hp}
section
variable {prog:Program} {w:World} {A:Around} {E:Value->Shared->Prop} {s:Shared}
end
end L3
namespace L2
open PySem PySem.Spec PyProof.Rows
def jf(K:PySem.W.Frag)(D:Addr)(tb:(St->XK)->TS)(th:TS):TS:=λDn σ H=>tb (λσ' Cv _ H'=>∃ C,Cv=.ref C/\PySem.W.subIn K (.ref C) (.ref D)=some true/\th Dn σ' H') Dn σ H
theorem jg{X:Cx}{body a:List Stmt}{U:Stmt}{x:Str}{np l:Pos}{D:Addr}{tb:(St->XK)->TS}{th:TS}
  (J:X.stack=X.env::X.outer) (frl:X.env.frame=some X.env.locals) (hex:X.ex=[]) (Q:Gl X x) (R:X.mg x=some (.ref D)) (hD:PySem.W.typeIn X.K (.ref D)=some (.type "type")) (hT:(PySem.W.clsIn X.K D).isSome=true) (hB:PySem.W.subIn X.K (.ref D) (.type "BaseException")=some true)
  (hb:∀(Eσ:St->XK)(pn:List (Addr×Obj))(xe:Value->Shared->Prop),FZ (CXe X.prog X.w) (cxT X pn xe) Eσ->PSs (cxT X pn xe) body (tb Eσ)) (hh:∀ e,PSs (cxH X e) (U::a) th) (hdb:(x==("__debug__":Str))=false:=by decide):
  PS X (.Try body [.ExceptHandler (some (.Name x np)) none (U::a) l] [] [] pos) (jf X.K D tb th):=by
 intro pins s σ H Dn I h;refine wpAny_Try_except ?_
 let T:Value->Shared->Prop:=λev i=>wpAny (model X.prog X.w) X.A (noteFrame ev X.env) (λ_ L=>wpAny (model X.prog X.w) X.A (setFlight ev none) (λ_ N=>
  wpAny (model X.prog X.w) X.A (handleBy ev X.env [.ExceptHandler (some (.Name x np)) none (U::a) l]) (SP X pins Dn) X.xe N) X.xe L) X.xe i
 have ok:=I.ok;refine wpAny_mono (hb _ (X.pn++pins) T ?_ [] s σ H Dn I.toT h) (λf i q=>?_) (λev i q=>q)
 ·intro P σ' H' s' ev k I2 Y;obtain⟨e,C,H2,rfl,F,C',eC,G,q⟩:=Y;cases eC;show T (.ref e) k;obtain⟨B,a0,fl,E⟩:=F.fly;have fr:X.A.frames=some (X.env::X.outer):=by rw[<- J];exact ok.frames
  have S:Heap.FlyingW B (X.env::X.outer) e (.ref C) a0 k.heap:=by rw[<- J];exact fl
  refine wpAny_looks_onW fr frl S λh₄ g d=>?_;refine wpAny_landsW g λy b j=>?_;have I5:Inv X pins σ' H2 {k with heap:=y}:=Inv.ofT ok (F.inv I2 fl E b.1 (d.trans j));obtain⟨ob,hob,O⟩:=b.there;refine wpAny_handleBy_cons (codeAny_handlers_test (FR (X:=cxH X e) I5.toH Q R ?_ hdb)) (by intro q;cases q);refine ce I5.kIn hob O hD hT hB G ?_;refine codeAny_handlers_suite ?_;refine lands_againW b λt n o=>?_;have I6:Inv X pins σ' H2 {k with heap:=t}:=Inv.ofT ok (F.inv I2 fl E n.1 ((d.trans j).trans o));refine wpAny_mono (hh e pins _ _ _ _ I6.toH q) (λf s9 c=>?_) (λ_ _ z=>z.elim);cases f with
  | next=>obtain⟨σ9,Z,m,c⟩:=c;exact⟨_,_,Inv.ofH ok m,c⟩
  | brk=>obtain⟨σ9,Z,m,c⟩:=c;exact⟨_,_,Inv.ofH ok m,c⟩
  | cont=>obtain⟨σ9,Z,m,c⟩:=c;exact⟨_,_,Inv.ofH ok m,c⟩
  | ret u=>obtain⟨v,σ9,Z,m,r9,c⟩:=c;exact⟨v,_,_,Inv.ofH ok m,r9,c⟩
 ·cases f with
  | next=>obtain⟨σ',H',p,q⟩:=q;exact wpAny_execs_nil ⟨σ',H',Inv.ofT ok p,q⟩
  | brk=>obtain⟨σ',H',p,q⟩:=q;exact⟨σ',H',Inv.ofT ok p,q⟩
  | cont=>obtain⟨σ',H',p,q⟩:=q;exact⟨σ',H',Inv.ofT ok p,q⟩
  | ret u=>obtain⟨v,σ',H',p,r,q⟩:=q;exact⟨v,σ',H',Inv.ofT ok p,r,q⟩
end L2
namespace L3
open PySem PySem.Spec PyProof.Rows L2
def Ln(K:PySem.W.Frag)(C0:Addr)(gb:Xw->GS)(gh:GS):GS:=λD ω G=>∃ D0,KU D0 D/\gb (λω' C G'=>PySem.W.subIn K (.ref C) (.ref C0)=some true/\gh D0 ω' G') D0 ω G
variable {x:Str}
theorem jh{X:Cx}{body c:List Stmt}{P:Stmt}{T n:Pos}{j:Addr}{gb:Xw->GS}(u:X.mg x=some (.ref j))(hD:PySem.W.typeIn X.K (.ref j)=some (.type "type"))(hT:(PySem.W.clsIn X.K j).isSome=true)(Z:PySem.W.subIn X.K (.ref j) (.type "BaseException")=some true)
  (A:X.stack=X.env::X.outer) (N:X.env.frame=some X.env.locals) (J:X.ex=[]) (o:Gl X x) (E:(x==("__debug__":Str))=false)
  (Y:∀(ex:Xw)(pn:List (Addr×Obj))(xe:Value->Shared->Prop),DP (cxT X pn xe) ex->Ssm (cxT X pn xe) (atB X) body (gb ex)) (R:∀ e,Ssm (cxH X e) (atB X) (P::c) O):
  Sm X (atB X) (.Try body [.ExceptHandler (some (.Name x T)) none (P::c) n] [] [] pos) (Ln X.K j gb O):=by
 refine⟨λB f=>?_,(by rintro ω G D D' h1 h2 h3 h4 ⟨g,le,q⟩;exact⟨g,⟨λa b z=>h1 a b (le.nx a b z),λa b z=>h2 a b (le.rt a b z),λa b z=>h3 a b (le.bk a b z),λa b z=>h4 a b (le.ct a b z)⟩,q⟩)⟩;have k:B=X.H₀:=f
 let tb:(St->XK)->TS:=λEσ Dn σ H=>∃(ex:Xw)(g:Ew)(ω:Sw)(G:Hw),TrSt X.K H σ ω/\RelH X.K H G/\Mono X.K B H/\
  (∀ σ' C H' ω' i,Mono X.K B H'->TrSt X.K H' σ' ω'->RelH X.K H' i->ex ω' C i->Eσ σ' (.ref C) none H')/\KU g (dnD X.K B Dn)/\gb ex g ω G
 have hbody':∀(Eσ:St->XK)(pn:List (Addr×Obj))(xe:Value->Shared->Prop),FZ (CXe X.prog X.w) (cxT X pn xe) Eσ->PSs (cxT X pn xe) body (tb Eσ):=by
  intro Eσ pn xe hp pins s σ H Dn I ⟨ex,g,ω,G,v,r,y,l,L,q⟩
  have U:DP (cxT X pn xe) ex:=by
   intro d σ' H1 s1 ev s' Q ⟨e,C,H',ee,F,C',ω',i,eC,h,r',q'⟩;cases eC;exact hp d σ' H1 s1 ev s' Q ⟨e,C,H',ee,F,l σ' C H' ω' i (by rw[k];exact(Un.mono' Q.base).trans (Un.mono' F.un)) h r' q'⟩
  have S:=Y ex pn xe U;exact S.p B f pins s σ H Dn I ⟨ω,G,v,r,y,S.m.le L q⟩
 refine CH (jg (tb:=tb) (th:=upS X.K B O) A N J o u hD hT Z hbody' (λe=>(R e).p B f) E) λD σ H t=>?_;obtain⟨ω,G,v,r,y,g,le,q⟩:=t;refine⟨_,g,ω,G,v,r,y,λσ' C H' ω' i m' h r' z=>?_,le,q⟩;exact⟨C,rfl,z.1,ω',i,h,r',m',(R 0).m.le le z.2⟩
section
variable {α:Type} {x y z:α} {xs:List α}
theorem Bb:atI (x::xs) 0=some x:=Ha (j:=0) (xs:=x::xs) rfl
theorem A5:atI (x::y::xs) 1=some y:=Ha (j:=1) (xs:=x::y::xs) rfl
theorem Bp:atI (x::y::z::xs) 2=some z:=Ha (j:=2) (xs:=x::y::z::xs) rfl
end
theorem Ao{w:W}{f:W->Prop}:opt (some w) f=f w:=rfl
variable {p:Addr}{o:HW}
theorem A1{G:Hw}(h:G p=none):Sub G (put G p o):=Sub.refl.put h
theorem B9{G a:Hw}(s:Sub G a)(h:a p=none):Sub G (put a p o):=s.trans (A1 h)
theorem BY{G:Hw}{o':HW}:put (put G p o) p o'=put G p o':=by
 funext b;unfold put;split <;> rfl
variable {xs:List W}
theorem El{G:Hw}(h:G p=some (.lst xs)):CI G (.ref p)=some xs:=by unfold CI;dsimp only;rw[h]
theorem D1{G:Hw}(h:G p=some (.lst xs)):Ez G (.ref p)=some xs:=by unfold Ez;dsimp only;rw[h]
theorem D2{G:Hw}(h:G p=some (.lst xs)):rdL G (.ref p)=some xs:=by unfold rdL;dsimp only;rw[h]
theorem BZ{G:Hw}{i:Int}(h:G p=some (.lst xs)):ixW (.ref p) (.int i) G=atI xs i:=by unfold ixW;dsimp only;rw[h]
theorem N1:∀ bs:List Bool,DT (bs.map W.bl)=some bs
 | []=>rfl
 | b::bs=>by show(DT (bs.map W.bl)).map (b::·)=_;rw[N1 bs];rfl
theorem RK:∀ bs:List Int,Ex (bs.map W.int)=some bs
 | []=>rfl
 | b::bs=>by show(Ex (bs.map W.int)).map (b::·)=_;rw[RK bs];rfl
theorem RL:∀ bs:List Str,EA (bs.map W.str)=some (bs.map V.str)
 | []=>rfl
 | b::bs=>by show(F7 (.str b)).bind (λv=>(EA (bs.map W.str)).map (v::·))=_;rw[RL bs];rfl
theorem RM(s:Str):∀ bs:List Str,inV (.str s) (bs.map V.str)=bs.any (·==s)
 | []=>rfl
 | b::bs=>by
  show(eqV (.str b) (.str s)||inV (.str s) (bs.map V.str))=_;rw[RM s bs];rfl
theorem Ds{gd:Hw->Prop}{R:List W->Hw->Prop}{f:W->W}{G:Hw}(b:gd G):∀(a:List W)(o:Option W)(ys:List W),(∀ x∈a,∀ Q:Kw,Q (f x) G->ge [some x] G Q)->
  ys.length+a.length<=sizeLine->R (ys++a.map f) G->Bi gd (gNm 0) AL ge R a [o] G ys
 | [],o,ys,_,_,r=>⟨b,by simpa using r⟩
 | x::a,o,ys,h,hl,r=>by
  refine⟨b,by simp only[Yg]at hl;omega,?_⟩;show ge [some x] G λy c=>Bi gd (gNm 0) AL ge R a [some x] c (ys++[y]);refine h x Ye _ (Ds b a (some x) (ys++[f x]) (λy d=>h y (Yd _ d)) ?_ ?_)
  ·simp only[Yj,Yg,Yi]at hl ⊢;omega
  ·simpa[Yv]using r
theorem RN{gd:Hw->Prop}{R:List W->Hw->Prop}{f:W->W->W}{G:Hw}(b:gd G):∀(a:List (W×W))(o o':Option W)(ys:List W),(∀ x∈a,∀ Q:Kw,Q (f x.1 x.2) G->ge [some x.1,some x.2] G Q)->
  ys.length+a.length<=sizeLine->R (ys++a.map λx=>f x.1 x.2) G->Bi gd (Bh 0 1) AL ge R (a.map λx=>W.tup [x.1,x.2]) [o,o'] G ys
 | [],o,o',ys,_,_,r=>⟨b,by simpa using r⟩
 | x::a,o,o',ys,h,hl,r=>by
  refine⟨b,by simp only[Yg]at hl;omega,?_⟩;show ge [some x.1,some x.2] G λy c=>Bi gd (Bh 0 1) AL ge R (a.map λx=>W.tup [x.1,x.2]) [some x.1,some x.2] c (ys++[y]);refine h x Ye _ (RN b a (some x.1) (some x.2) (ys++[f x.1 x.2]) (λy d=>h y (Yd _ d)) ?_ ?_)
  ·simp only[Yj,Yg,Yi]at hl ⊢;omega
  ·simpa[Yv]using r
theorem Lo:∀(xs ys:List W),B8 xs ys=(xs.zip ys).map λx=>W.tup [x.1,x.2]
 | [],_=>by simp[B8]
 | _::_,[]=>by simp[B8]
 | x::xs,y::ys=>by simp[B8,Lo xs ys]
def spR{α:Type}(A:α->List W->Hw->Prop)(f:α->W):Spw:=λws G Q _=>∃ x,A x ws G/\Q (f x) G
theorem AG{α:Type}{A:α->List W->Hw->Prop}{f:α->W}:Spw.M (spR A f):=(by rintro a G Q c E b h _ ⟨x,h1,q⟩;exact⟨x,h1,h _ _ q⟩)
def spL{α:Type}(A:α->List W->Hw->Prop)(f:α->List W):Spw:=λws G Q _=>∃ x,A x ws G/\∀ p,G p=none->Q (.ref p) (put G p (.lst (f x)))
theorem EJ{α:Type}{A:α->List W->Hw->Prop}{f:α->List W}:Spw.M (spL A f):=(by rintro b G Q d E c h _ ⟨x,h1,q⟩;exact⟨x,h1,λp a=>h _ _ (q p a)⟩)
theorem Gj{α:Type}(xs:List α):Cd xs (some 1) none=xs.drop 1:=by
 have e:HT.sIx xs.length 0 (some 1)=min 1 xs.length:=HT.sIx_nat xs.length 0 1;unfold Cd;rw[e,HT.sIx_none];cases xs with
 | nil=>rfl
 | cons x xs =>
  have a:min 1 (x::xs).length=1:=by simp only[Yg];omega
  rw[a];show(xs.take ((xs.length+1) - 1))=xs;rw[Nat.add_sub_cancel,List.take_length]
theorem Gk{α:Type}(x:α)(xs:List α):¬ (HT.sIx (x::xs).length 0 (some 1)=0/\HT.sIx (x::xs).length (x::xs).length none=(x::xs).length):=by
 have e:HT.sIx (x::xs).length 0 (some 1)=min 1 (x::xs).length:=HT.sIx_nat (x::xs).length 0 1;intro h;have:=h.1;rw[e]at this;simp only[Yg]at this;omega
theorem ji{G:Hw}{lo hi:Option Int}{Q:Kw}(h:G p=some (.lst xs))(q:∀ p1,G p1=none->Q (.ref p1) (put G p1 (.lst (Cd xs lo hi)))):slW (.ref p) lo hi G Q:=by
 unfold slW;dsimp only;rw[h];exact q
theorem AE{G:Hw}{q:Addr}(h:G p=some o)(h':G q=none):p≠q:=by intro e;rw[e,h']at h;cases h
variable {n:Nat}
theorem BJ(h:n<=100000):n<=sizeLine:=Yt h (by decide)
theorem Dt(h:n<=100000):n < sizeLine:=YK h (by decide)
section
variable {P:Program} {w:World} {K:PySem.W.Frag} {mg:Str->Option Value} {base:Heap}
theorem ok0{st:Stmt}{f:Addr}{N ps:List Str}{k:Nat}{sp:Spw}{g:GS}(F:Fun K x x st f fd)(S:Ax N ps (Aq st))(len:∀ c G Q E,sp c G Q E->c.length=ps.length)
  (h:∀{f:Addr}{cdv:Value}{A:Around}{outer:List Env}{s:Shared}{H:Hp}{E:XK},Room k (A.deeper (envOfC x (Aq st) s.heap.objs.size f cdv))->Ssm (cxW P w K mg base N x (Aq st) f cdv A outer s H E).nox (λB=>B=H) (B5 st) g)
  (ok:∀ c G(Q:Kw)(E:Addr->Hw->Prop),Kw.C Q->sp c G Q E->g (Ar Q) (Bg N c) G):FnOk P w K mg base (CXe P w) (k+1) f fd ps (Es K sp):=by
 obtain⟨oc,v,kV,l,pm,y,cdv,ct,o,rfl,j,e⟩:=F.ex;refine G9 j e S ((by rintro u H Q E ⟨c,G,t,r,q⟩;rw[t.length];exact len c G _ _ q)) λA outer s H u Q E i d=>?_;obtain⟨c,G,t,r,q⟩:=d;have D:=h (cdv:=cdv) (outer:=outer) (H:=H) (E:=E) i;refine⟨_,(D.p H rfl).nox,Bg N c,G,Kt t,r,.refl,?_⟩;exact D.m _ _ (Ar (dn K H Q)) _ (λa b z σ H2 m I n=>z _ H2 m Tr.non n) (λa b z=>z) (λa b z=>z.elim) (λa b z=>z.elim) (ok c G _ _ Ku q)
end
def HM:Spw:=λws _ Q _=>∃ ns:List Int,ws=[.rol (ns.map W.int)]/\ns.length<=63/\∀ G',Q (.bl true) G'
theorem RO{K:PySem.W.Frag}{H:Hp}:∀ ns:List Int,TrL K H (ns.map V.int) (ns.map W.int)
 | []=>.nil
 | n::ns=>.cons (.int n) (RO ns)
variable {K:PySem.W.Frag}{H:Hp}
theorem jj{a:Addr}{ns:List Int}(hl:ns.length<=63)(b:Hb H)(c:SqL K H a (ns.map V.int)):Es K HM [.ref a] H (λv _=>v=.bl true) (λ_ _ _=>False):=by
 have d:RoL K H a (ns.map V.int):=by
  rcases c with(h |⟨o,h⟩)| h
  ·rcases b a with z |⟨o,xs,z⟩
   ·rw[z]at h;cases h
   ·rw[z]at h;cases h
  ·exact .inl ⟨o,h⟩
  ·exact .inr h
 exact⟨[.rol (ns.map W.int)],λ_=>none,.cons (.rol d (RO ns)) .nil,(λa o e=>by cases e),ns,rfl,hl,λf v H' m t r=>Et t⟩
theorem jk{P:Program}{w:World}{s:Shared}{e:Value}{s':Shared}(h:CXe P w [] H s (λ_ _ _=>False) e s'):False:=by
 obtain⟨_,_,_,_,_,q⟩:=h;exact q
section
variable {K:PySem.W.Frag} {h:Heap} {mg:Str->Option Value} (X:K.In h) (G:h.Ns mainGlobals mg)
include X G
theorem jl{st:Stmt}{ps:List Str}{f:Addr}{oc:Value}{h d:Option Addr}{e:Array (Option Value)}{kV a cdv ct:Value}(g:PySem.W.nsIn K mainGlobals x=some (some (.ref f)))
  (l:K.lookup f=some ⟨oc,h,.func (PySem.W.fnOf x x (Eo st) (B5 st) (Aq st) .none kV a pm d cdv ct),e⟩) (c:PySem.W.codeIn K cdv x=true) (k:PySem.W.keepIn K (.ref f)=true)
  (b:∀(kV a pm:Value)(d:Option Addr)(cdv ct:Value)(us:List Value),us.length=ps.length->bindArgs (PySem.W.fnOf x x (Eo st) (B5 st) (Aq st) .none kV a pm d cdv ct) ⟨us,[]⟩=pure (ps.zip us)):Fn K mg st x ps :=
 ⟨f,_,PySem.W.mg_of X G g,OH l c k,(OH l c k).binds b⟩
theorem Gm{i:Int}{t:Tok}(e:PySem.W.nsIn K mainGlobals x=some (some (.int i t))):Glb K mg x (.int i):=⟨.int i,.int i t,PySem.W.mg_of X G e,⟨t,rfl⟩,λH=>.int i⟩
theorem jm{d:Addr}{ts:List (Str×Tok)}{dd:Option Addr}{b:Array (Option Value)}(e:PySem.W.nsIn K mainGlobals x=some (some (.ref d)))(l:K.lookup d=some ⟨.type "tuple",none,.seq ((ts.map λp=>Value.str p.1 p.2).toArray) n,b⟩)(c:ts.length<=1000):
  Glb K mg x (.tup (ts.map λp=>.str p.1)):=by
 have g:∀ ts:List (Str×Tok),Vals (ts.map λp=>V.str p.1) (ts.map λp=>Value.str p.1 p.2):=λts=>by
  induction ts with
  | nil=>exact .nil
  | cons p ts a=>exact .cons ⟨p.2,rfl⟩ a
 have f:∀(H:Hp)(ts:List (Str×Tok)),TrL K H (ts.map λp=>V.str p.1) (ts.map λp=>W.str p.1):=λH ts=>by
  induction ts with
  | nil=>exact .nil
  | cons p ts a=>exact .cons (.str _) a
 refine⟨.ref d,.ref d,PySem.W.mg_of X G e,rfl,λH=>.tup (.inr ⟨_,_,n,l,rfl,rfl,rfl,?_,by simpa using g ts⟩) (f H ts)⟩;simp only[Yn,Yh];exact Yt c (by decide)
end
theorem jo{h base:Heap}{mg:Str->Option Value}(X:K.In h)(G:h.Ns mainGlobals mg)(B:K.In base){d:Addr}{o:Obj}{es:Array DictEntry}{a:Nat}{D:List (Str×Int)}(e:PySem.W.nsIn K mainGlobals x=some (some (.ref d)))(l:K.lookup d=some o)
  (hd:(d==sysModules)=false) (b:o.ExactDict) (f:o.data=.dict es a) (c:KTD.Rows (KTD.Dat.At base) es.toList (D.map λp=>(p.1,KTD.Dat.flat (.int p.2)))):KZ mg base x D :=
 ⟨d,PySem.W.mg_of X G e,hd,o,es,a,B _ _ l,b,f,c⟩
theorem jp{l:PySem.W.OpenLaw}{q:Program}{loose:List Str}{XP:(Str->Option Value)->Heap->Prop}{YP:World->Heap->Prop}{d:DefRec}{K:Params->PySem.W.Frag}{k:Nat}(g:Room k callerA)(j:l.most=some 63)(b:d.params.defaults=[])
  (o:∀(w:World)(h:Heap),YP w h->(K w.params).In h)
  (F:∀(w:World)(mg:Str->Option Value)(c:Addr)(h:Heap),(K w.params).In h->h.Ns mainGlobals mg->mg d.name=some (.ref c)->
   ∃ fd:FuncData,(∀(s:Shared)(u:Value),BindsTo s fd ⟨[u],[]⟩ [("script",u)])/\∀ base:Heap,(K w.params).In base->base.Ns mainGlobals mg->FnOk l.prog w (K w.params) mg base (CXe l.prog w) k c fd ["script"] (Es (K w.params) HM)):
  PySem.W.WalkO q loose XP YP l.row.toRowW d [] (λf vs=>PySem.call f vs):=
 L2.bK (n:=63) (k:=k) (x:="script") (CX:=λw=>CXe l.prog w) (sp:=λw=>Es (K w.params) HM) j (by decide) b g o F (λw H a ns hl m i=>jj hl m i) λw H s e s' z=>jk z
variable {us:List Value}
theorem ln0(h:us.length=0):us=[]:=Qj.mp h
theorem ln1(h:us.length=n+1):∃ a r,us=a::r/\r.length=n:=by
 cases us with
 | nil=>cases h
 | cons a r=>exact⟨a,r,rfl,Nat.succ.inj h⟩
end L3
namespace KQ
open PySem L2 L3
mutual
inductive Kd where
 | any | num | truth
 | to (a b:Kd)| box (a:Kd)| row (fs:Fs) (o:Bool)
inductive Fs where
 | nil | cons (n:Str) (m:Bool) (k:Kd) (r:Fs)
end
def mark(m:Bool):Str:=if m then "must" else "may"
mutual
def Kd.enc:Kd->W
 | .any=>.tup [.str "any"]
 | .num=>.tup [.str "num"]
 | .truth=>.tup [.str "truth"]
 | .to a b=>.tup [.str "to",a.enc,b.enc]
 | .box a=>.tup [.str "box",a.enc]
 | .row fs o=>.tup [.str "row",.tup fs.enc,.bl o]
def Fs.enc:Fs->List W
 | .nil=>[]
 | .cons n m k r=>.tup [.str n,.str (mark m),k.enc]::r.enc
end
def Fs.kinds:Fs->List Kd
 | .nil=>[]
 | .cons _ _ k r=>k::r.kinds
def Fs.names:Fs->List Str
 | .nil=>[]
 | .cons n _ _ r=>n::r.names
def Kd.kids:Kd->List Kd
 | .to a b=>[a,b]
 | .box a=>[a]
 | .row fs _=>fs.kinds
 | _=>[]
mutual
def Kd.cnt:Kd->Nat
 | .to a b=>1+(a.cnt+b.cnt)
 | .box a=>1+a.cnt
 | .row fs _=>1+fs.cnt
 | _=>1
def Fs.cnt:Fs->Nat
 | .nil=>0
 | .cons _ _ k r=>k.cnt+r.cnt
end
mutual
def Kd.dp:Kd->Nat
 | .to a b=>1+max a.dp b.dp
 | .box a=>1+a.dp
 | .row fs _=>1+fs.dp
 | _=>1
def Fs.dp:Fs->Nat
 | .nil=>0
 | .cons _ _ k r=>max k.dp r.dp
end
mutual
def Kd.all:Kd->List Kd
 | .to a b=>.to a b::(a.all++b.all)
 | .box a=>.box a::a.all
 | .row fs o=>.row fs o::fs.all
 | .any=>[.any]
 | .num=>[.num]
 | .truth=>[.truth]
def Fs.all:Fs->List Kd
 | .nil=>[]
 | .cons _ _ k r=>k.all++r.all
end
def A6:List Kd->Nat
 | []=>0
 | k::r=>k.cnt+A6 r
def dpL:List Kd->Nat
 | []=>0
 | k::r=>max k.dp (dpL r)
theorem Lp:∀ fs:Fs,fs.cnt=A6 fs.kinds
 | .nil=>rfl
 | .cons _ _ k r=>by show k.cnt+r.cnt=k.cnt+A6 r.kinds;rw[Lp r]
theorem RP:∀ fs:Fs,fs.dp=dpL fs.kinds
 | .nil=>rfl
 | .cons _ _ k r=>by show max k.dp r.dp=max k.dp (dpL r.kinds);rw[RP r]
theorem RQ:∀ fs:Fs,fs.all=fs.kinds.flatMap Kd.all
 | .nil=>rfl
 | .cons _ _ k r=>by show k.all++r.all=(k::r.kinds).flatMap Kd.all;rw[RQ r,Qf]
theorem Gn(k:Kd):k.cnt=1+A6 k.kids:=by
 cases k with
 | to a b=>show 1+(a.cnt+b.cnt)=1+(a.cnt+(b.cnt+0));omega
 | box a=>show 1+a.cnt=1+(a.cnt+0);omega
 | row fs o=>show 1+fs.cnt=1+A6 fs.kinds;rw[Lp]
 | _=>rfl
theorem HN(k:Kd):k.dp=1+dpL k.kids:=by
 cases k with
 | to a b=>show 1+max a.dp b.dp=1+max a.dp (max b.dp 0);omega
 | box a=>show 1+a.dp=1+max a.dp 0;omega
 | row fs o=>show 1+fs.dp=1+dpL fs.kinds;rw[RP]
 | _=>rfl
theorem Lq(k:Kd):k.all=k::k.kids.flatMap Kd.all:=by
 cases k with
 | to a b=>show Kd.to a b::(a.all++b.all)=Kd.to a b::[a,b].flatMap Kd.all;simp[Qf]
 | box a=>show Kd.box a::a.all=Kd.box a::[a].flatMap Kd.all;simp[Qf]
 | row fs o=>show Kd.row fs o::fs.all=Kd.row fs o::fs.kinds.flatMap Kd.all;rw[RQ]
 | _=>rfl
theorem RS:∀(l m:List Kd),A6 (l++m)=A6 l+A6 m
 | [],m=>by simp[A6]
 | k::l,m=>by show k.cnt+A6 (l++m)=k.cnt+A6 l+A6 m;rw[RS l m];omega
theorem RT:∀(l m:List Kd),dpL (l++m)=max (dpL l) (dpL m)
 | [],m=>by simp[dpL]
 | k::l,m=>by show max k.dp (dpL (l++m))=max (max k.dp (dpL l)) (dpL m);rw[RT l m];omega
theorem D3(k:Kd):1<=k.cnt:=by rw[Gn];omega
theorem Bx(k:Kd):1<=k.dp:=by rw[HN];omega
theorem RU:∀ l:List Kd,A6 l=l.length+A6 (l.flatMap Kd.kids)
 | []=>rfl
 | k::l=>by
  show k.cnt+A6 l=(l.length+1)+A6 ((k::l).flatMap Kd.kids);rw[Qf,RS,RU l,Gn k];omega
theorem RV:∀ l:List Kd,l≠[]->dpL l=1+dpL (l.flatMap Kd.kids)
 | [],h=>absurd rfl h
 | [k],_=>by
  show max k.dp 0=1+dpL ([k].flatMap Kd.kids);rw[Qf,List.flatMap_nil,Yx,HN];omega
 | k::a::l,_=>by
  have b:=RV (a::l) (by simp);show max k.dp (dpL (a::l))=1+dpL ((k::a::l).flatMap Kd.kids);rw[Qf,RT,b,HN k];omega
theorem Lr:∀ l:List Kd,l.length<=A6 l
 | []=>Yr _
 | k::l=>by have:=Lr l;have:=D3 k;show l.length+1<=k.cnt+A6 l;omega
theorem RW:∀{l:List Kd}{k:Kd},k∈l->k.cnt<=A6 l
 | a::l,k,h=>by
  show k.cnt<=a.cnt+A6 l;walk_at "pk"
  ·omega
  ·have:=RW h;omega
theorem Ey:∀{l:List Kd}{k:Kd},k∈l->k.dp<=dpL l
 | a::l,k,h=>by
  show k.dp<=max a.dp (dpL l);walk_at "pk"
  ·omega
  ·have:=Ey h;omega
theorem D4{k c:Kd}(h:c∈k.kids):c.dp+1<=k.dp:=by rw[HN k];have:=Ey h;omega
theorem jq(k:Kd):k.kids.length+1<=k.cnt:=by rw[Gn k];have:=Lr k.kids;omega
theorem RX:∀ fs:Fs,fs.enc.length=fs.kinds.length
 | .nil=>rfl
 | .cons _ _ k r=>by show r.enc.length+1=r.kinds.length+1;rw[RX r]
theorem jr:∀(n:Nat)(k:Kd),k.dp<=n->k.all.length=k.cnt:=by
 intro n;induction n with
 | zero=>intro k h;have:=Bx k;omega
 | succ n b =>
  intro k h
  have key:∀ l:List Kd,(∀ c∈l,c.dp<=n)->(l.flatMap Kd.all).length=A6 l:=by
   intro l;induction l with
   | nil=>intro _;rfl
   | cons c l a =>
    intro hl;rw[Qf,Yj,b c (hl c Ye),a (λd hd=>hl d (Yd _ hd))];rfl
  rw[Lq,Yg,key k.kids (λc hc=>by have:=D4 hc;omega),Gn];omega
theorem HP(k:Kd):k.all.length=k.cnt:=jr k.dp k (Yr _)
def Kd.unk:Kd->Bool
 | .any=>true
 | .row _ o=>o
 | _=>false
def Kd.fb:Kd->Bool
 | .to _ _=>true
 | .box _=>true
 | _=>false
def Kd.known(k:Kd):Bool:=!(k.all.any Kd.unk)
def Kd.data(k:Kd):Bool:=!(k.all.any Kd.fb)
def Kd.hd:Kd->Str
 | .any=>"any"
 | .num=>"num"
 | .truth=>"truth"
 | .to _ _=>"to"
 | .box _=>"box"
 | .row _ _=>"row"
def Kd.own:Kd->List Str
 | .row _ o=>if o then["row","open"]else["row"]
 | k=>[k.hd]
def Gp(z:Str):Bool:=!As z "a"&&!As "z" z
def AK(n:Str):Bool:=decide (1<=n.length)&&decide (n.length<=8)&&n.cps.toList.all λc=>Gp ⟨#[c]⟩
def rise:List Str->Bool
 | a::b::r=>As a b&&rise (b::r)
 | _=>true
mutual
def Kd.ok:Kd->Bool
 | .to a b=>a.ok&&b.ok
 | .box a=>a.ok
 | .row fs _=>rise fs.names&&fs.ok
 | _=>true
def Fs.ok:Fs->Bool
 | .nil=>true
 | .cons n _ k r=>AK n&&k.ok&&r.ok
end
theorem Ls:∀{fs:Fs},fs.ok=true->∀ c∈fs.kinds,c.ok=true
 | .nil,_,c,hc=>by cases hc
 | .cons n m k r,h,c,hc=>by
  have h':(AK n&&k.ok&&r.ok)=true:=h;walk_at "pb";rcases Yo.mp hc with rfl | hc
  ·exact h'.1.2
  ·exact Ls h'.2 c hc
theorem RY{k:Kd}(h:k.ok=true):∀ c∈k.kids,c.ok=true:=by
 intro c hc;cases k with
 | to a b =>
  have h':(a.ok&&b.ok)=true:=h;walk_at "pb";have d:c=a\/c=b:=by simpa[Kd.kids]using hc
  rcases d with rfl | rfl
  ·exact h'.1
  ·exact h'.2
 | box a=>have d:c=a:=by simpa[Kd.kids]using hc
          subst d;exact h
 | row fs o =>
  have h':(rise fs.names&&fs.ok)=true:=h;walk_at "pb";exact Ls h'.2 c hc
 | _=>cases hc
theorem Bc(n:Bool)(i j:Int)(G:Hw):eqF n (.int i) (.int j) G=some (.bl ((i==j) != n)):=rfl
theorem Bd(n:Bool)(i j:Str)(G:Hw):eqF n (.str i) (.str j) G=some (.bl ((i==j) != n)):=rfl
theorem Be(n:Bool)(i j:Bool)(G:Hw):eqF n (.bl i) (.bl j) G=some (.bl ((i==j) != n)):=rfl
open PySem PySem.Spec PyProof.Rows L2 L3
abbrev Lu:Stmt:=top 27
abbrev Lv:Stmt:=top 28
abbrev Lw:Stmt:=top 26
abbrev Lx:Stmt:=top 25
abbrev Ly:Stmt:=top 24
abbrev Lz:Stmt:=top 23
abbrev LC:Stmt:=top 22
abbrev HQ:Stmt:=top 20
abbrev Fh:Stmt:=top 19
abbrev LD:Stmt:=top 18
abbrev Gq:Stmt:=top 16
abbrev LF:Stmt:=top 21
abbrev Gr:Stmt:=top 10
abbrev LG:Stmt:=top 15
abbrev LH:Stmt:=top 11
abbrev LI:Stmt:=top 12
abbrev LJ:Stmt:=top 13
abbrev LK:Stmt:=top 17
abbrev LL:Stmt:=top 48
abbrev LM:Stmt:=top 50
abbrev LN:Stmt:=top 52
abbrev LO:Stmt:=top 51
abbrev LP:Stmt:=top 49
abbrev LQ:Stmt:=top 33
abbrev LR:Stmt:=top 53
abbrev LS:Stmt:=top 56
abbrev LU:Stmt:=top 55
abbrev LW:Stmt:=top 54
abbrev LX:Stmt:=top 47
abbrev LY:Stmt:=top 46
abbrev LZ:Stmt:=top 36
abbrev L0:Stmt:=top 35
abbrev L1:Stmt:=top 34
abbrev HR:Stmt:=top 14
abbrev L4:Stmt:=top 39
abbrev HS:Stmt:=top 38
abbrev L5:Stmt:=top 37
abbrev L6:Stmt:=top 31
abbrev L7:Stmt:=top 42
abbrev HU:Stmt:=top 41
abbrev L8:Stmt:=top 40
abbrev L9:Stmt:=top 32
abbrev Ma:Stmt:=top 61
abbrev HV:Stmt:=top 60
abbrev Mb:Stmt:=top 59
abbrev Mc:Stmt:=top 58
abbrev Me:Stmt:=top 63
abbrev Mf:Stmt:=top 64
abbrev Mg:Stmt:=top 65
abbrev Mh:Stmt:=top 66
abbrev Mi:Stmt:=top 67
abbrev Mj:Stmt:=top 68
abbrev Mk:Stmt:=top 72
abbrev Ml:Stmt:=top 73
abbrev Mm:Stmt:=top 74
abbrev Mn:Stmt:=top 76
abbrev Mo:Stmt:=top 75
abbrev Gs:Stmt:=top 69
abbrev Mp:Stmt:=top 70
abbrev Mq:Stmt:=top 71
abbrev Mr:Stmt:=top 77
abbrev Fi:Stmt:=top 78
def RZ:List (Str×Int):=[("any",1),("num",1),("truth",1),("to",3),("box",2),("row",3)]
def Ms:List (Str×List Str):=[("any",[]),("num",[]),("truth",[]),("to",["in","out"]),("box",["inside"])]
structure Adr where
 CastError:Addr
 NoKind:Addr
 NoValue:Addr
structure Fns(K:PySem.W.Frag)(mg:Str->Option Value):Prop where
 jt:Fn K mg Lu "is_small_letter" ["sign"]
 ju:Fn K mg Lv "names_rise" ["names"]
 jv:Fn K mg Lw "is_name" ["thing"]
 jw:Fn K mg Lx "is_field" ["thing"]
 jx:Fn K mg Ly "are_fields" ["thing"]
 jy:Fn K mg Lz "has_form" ["thing"]
 jz:Fn K mg LC "kinds_within" ["kind"]
 R1:Fn K mg HQ "layer_within" ["layer","things_within"]
 R3:Fn K mg Fh "is_made_of" ["thing","is_formed","things_within","most","deepest"]
 jA:Fn K mg LD "is_kind" ["thing"]
 jB:Fn K mg Gq "check_kind" ["thing"]
 R4:Fn K mg LF "kinds_in" ["kind"]
 jC:Fn K mg Gr "parts_in" ["kind"]
 jD:Fn K mg LG "is_data" ["kind"]
 jE:Fn K mg LH "entry_of" ["row","name"]
 jF:Fn K mg LI "names_of" ["row"]
 jG:Fn K mg LJ "names_of_both" ["one","other"]
 jH:Fn K mg LK "check_kinds" ["one","other"]
 jI:Fn K mg LL "check_data_kind" ["thing"]
 jJ:Fn K mg LM "values_within" ["value"]
 jK:Fn K mg LN "is_value_field" ["thing"]
 jL:Fn K mg LO "has_value_form" ["thing"]
 jM:Fn K mg LP "check_value" ["thing"]
 jN:Fn K mg LQ "behind" ["step","path"]
 jO:Fn K mg LR "head_of" ["value"]
 jP:Fn K mg LS "misfit_of_field" ["fields","name","entry"]
 jQ:Fn K mg LU "misfit_of_row" ["fields","row"]
 R5:Fn K mg LW "misfit_of" ["value","kind"]
 jR:Fn K mg LX "misfit" ["value","kind"]
 jS:Fn K mg LY "fits" ["value","kind"]
 jT:Fn K mg LZ "clash_of_entries" ["one","other"]
 jU:Fn K mg L0 "clash_of_rows" ["one","other"]
 R6:Fn K mg L1 "clash_of" ["one","other"]
 jV:Fn K mg HR "row_of" ["names","entries","is_open"]
 jW:Fn K mg L4 "meet_of_entries" ["one","other"]
 jX:Fn K mg HS "meet_of_rows" ["one","other"]
 R7:Fn K mg L5 "meet_of" ["one","other"]
 jY:Fn K mg L6 "met" ["one","other"]
 jZ:Fn K mg L7 "join_of_entries" ["one","other"]
 j2:Fn K mg HU "join_of_rows" ["one","other"]
 R8:Fn K mg L8 "join_of" ["one","other"]
 j3:Fn K mg L9 "joined" ["one","other"]
 j4:Fn K mg Ma "either_of_entries" ["one","other"]
 j5:Fn K mg HV "either_of_rows" ["one","other"]
 R9:Fn K mg Mb "either_of" ["one","other"]
 j6:Fn K mg Mc "either" ["one","other"]
 j7:Fn K mg Me "_law_cell_at" ["script","k"]
 j8:Fn K mg Mf "_law_state" ["script","k"]
 j9:Fn K mg Mg "_law_choice" ["state","many"]
 Sa:Fn K mg Mh "_law_row" ["state","deep","plain","known"]
 Mt:Fn K mg Mi "_law_kind" ["state","deep","plain","known"]
 ke:Fn K mg Mj "_law_drawn_kind" ["script","k","plain","known"]
 Sb:Fn K mg Mk "_law_value" ["state","deep"]
 Sd:Fn K mg Ml "_law_value_of" ["state","kind"]
 Se:Fn K mg Mm "_law_turned" ["state","value"]
 Sf:Fn K mg Mn "_law_values" ["value"]
 kf:Fn K mg Mo "_law_drawn_value" ["script","k","kind"]
 Sg:Fn K mg Gs "_law_less" ["state","kind"]
 Sh:Fn K mg Mp "_law_other" ["state","kind"]
 kg:Fn K mg Mq "_law_pair" ["script","k","plain"]
 kh:Fn K mg Mr "_law_good" ["kind"]
 ki:Fn K mg Fi "law" ["script"]
structure Bls(mg:Str->Option Value):Prop where
 EK:mg "all"=none
 Si:mg "any"=none
 kj:mg "bool"=none
 Mu:mg "dict"=none
 Sj:mg "int"=none
 Fj:mg "isinstance"=none
 Sl:mg "len"=none
 Sn:mg "list"=none
 So:mg "set"=none
 HX:mg "sorted"=none
 km:mg "str"=none
 Sq:mg "sum"=none
 Fk:mg "tuple"=none
 Gu:mg "zip"=none
structure Tx(K:PySem.W.Frag)(mg:Str->Option Value)(base:Heap)(a:Adr):Prop extends Fns K mg,Bls mg where
 ko:mg "CastError"=some (.ref a.CastError)
 Mv:mg "NoKind"=some (.ref a.NoKind)
 kq:mg "NoValue"=some (.ref a.NoValue)
 Fl:PySem.W.excIn K a.NoKind [.type "ValueError",.type "Exception",.type "BaseException",.type "object"] "ValueError.__new__"=true
 Fo:PySem.W.typeIn K (.ref a.NoKind)=some (.type "type")
 Fp:(PySem.W.clsIn K a.NoKind).isSome=true
 Fq:PySem.W.subIn K (.ref a.NoKind) (.type "BaseException")=some true
 Ft:Glb K mg "MARKS" (.tup [(.str "must"),(.str "may")])
 Fu:Glb K mg "MOST_DEPTH" (.int 8)
 Fv:Glb K mg "MOST_KINDS" (.int 40)
 Fw:Glb K mg "MOST_LETTERS" (.int 8)
 Fy:Glb K mg "MOST_VALUES" (.int 100)
 Fz:Glb K mg "MOST_VALUE_DEPTH" (.int 10)
 Sr:KZ mg base "LENGTHS" RZ
 Ss:Ld K mg base "STEPS" Ms
 FA:PySem.W.subIn K (.ref a.NoKind) (.ref a.NoKind)=some true
def Dn(P:Program)(w:World)(K:PySem.W.Frag)(mg:Str->Option Value)(base:Heap)(N:List Str)(x:Str)(st:Stmt)(k:Nat)(g:GS):Prop:=∀{f:Addr}{cdv:Value}{A:Around}{outer:List Env}{s:Shared}{H:Hp}{E:XK},Room k (A.deeper (envOfC x (Aq st) s.heap.objs.size f cdv))->Ssm (cxW P w K mg base N x (Aq st) f cdv A outer s H E).nox (λB=>B=H) (B5 st) g
variable {K:PySem.W.Frag}{mg:Str->Option Value}{base:Heap}{x:Str}{st:Stmt}{k n:Nat}{sp:Spw}
theorem mk0{P:Program}{w:World}{N ps:List Str}{g:GS}(Fx:Fn K mg st x ps)(c:ps.length=n)(S:Ax N ps (Aq st))(b:sp.M)(len:∀ a G Q E,sp a G Q E->a.length=n)(d:Dn P w K mg base N x st k g)(ok:∀ a G(Q:Kw)(E:Addr->Hw->Prop),Kw.C Q->sp a G Q E->g (Ar Q) (Bg N a) G):Df P w K mg base x (k+1) n sp:=L3.mk0 Fx c S b len d ok
set_option hygiene false in
local macro_rules | `(tactic| walk_at "s") => `(tactic| exact ⟨rfl, rfl, rfl, by decide +kernel, rfl, by decide +kernel, by decide +kernel⟩)
set_option hygiene false in
local macro_rules | `(tactic| walk_at "c") => `(tactic| first | exact fe hu | exact ff hu | exact fg | exact cop_nin | exact e8 | exact e6 | exact e9 | exact e7 | exact hW | exact hX | exact hU hu | exact cop_nInT hu | exact cop_nInU hu | exact cop_isB | exact cop_inN hu | exact cop_inK | exact iu | exact cop_inS)
set_option hygiene false in
local macro_rules | `(tactic| walk_at "b") => `(tactic| first | refine Ce ED (EB rfl) rfl T.EK (by decide) rfl rfl rfl ?_ | refine Ce PZ (PL rfl) rfl T.Si (by decide) rfl rfl rfl ?_ | refine Dl KY (blt_dict rfl) rfl T.Mu (by decide) rfl rfl rfl ?_ | refine Dl P3 (fy) rfl T.Sj (by decide) rfl rfl rfl ?_ | refine Ce PY (PK) rfl T.Sl (by decide) rfl rfl rfl ?_ | refine Dl P1 (fv) rfl T.Sn (by decide) rfl rfl rfl ?_ | refine Ce bt_sorted (blt_sorted) rfl T.HX (by decide) rfl rfl rfl ?_ | refine Ce P0 (PM rfl) rfl T.Sq (by decide) rfl rfl rfl ?_ | refine Dl Fc (F9) rfl T.Fk (by decide) rfl rfl rfl ?_ | refine Dl KY (iP rfl) rfl T.Mu (by decide) rfl rfl rfl ?_ | refine Fa (T := "tuple") (by decide) Fc T.Fk T.Fj rfl rfl (by decide) rfl rfl rfl ?_ | refine Fa (T := "list") (by decide) P1 T.Sn T.Fj rfl rfl (by decide) rfl rfl rfl ?_ | refine Fa (T := "str") (by decide) fJ T.km T.Fj rfl rfl (by decide) rfl rfl rfl ?_ | refine Fa (T := "int") (by decide) P3 T.Sj T.Fj rfl rfl (by decide) rfl rfl rfl ?_ | refine Fa (T := "bool") (by decide) fK T.kj T.Fj rfl rfl (by decide) rfl rfl rfl ?_ | refine Fa (T := "dict") (by decide) KY T.Mu T.Fj rfl rfl (by decide) rfl rfl rfl ?_ | refine g9 rfl T.HX T.So rfl rfl rfl rfl rfl ?_ ?_ | refine fO T.Sr rfl rfl rfl rfl rfl rfl rfl ?_ | refine Ga fz rfl rfl rfl rfl rfl ?_ ?_ | refine Ga KR rfl rfl rfl rfl rfl ?_ ?_ | refine Ga hF rfl rfl rfl rfl rfl ?_ ?_ | exact Fd T.Ft rfl rfl | exact Fd T.Fu rfl rfl | exact Fd T.Fv rfl rfl | exact Fd T.Fw rfl rfl | exact Fd T.Fy rfl rfl | exact Fd T.Fz rfl rfl)
set_option hygiene false in
local macro_rules | `(tactic| walk_at "v") => `(tactic| (first | (show Am _ _ _; first | exact BD | refine A3 rfl ?_ ?_) | (show Em _ _ _; first | exact fL rfl rfl rfl rfl | exact Hm | exact Ph | refine Pi (fun _ _ => rfl) ?_ ?_ | refine Dj (by assumption) (hr.mono (by assumption)) rfl Do rfl rfl rfl ?_ | refine Pj ?_ | refine Pk ?_ | exact dO | refine fh (by walk_at "c") rfl ?_ ?_ | refine Hv ?_ ?_ | refine dR ?_ ?_ | refine dV ?_ ?_ | refine dS ?_ ?_ | refine QH ?_ ?_ | refine dU ?_ ?_ | refine dW ?_ ?_ | walk_at "b" | exact dP | refine Pm ?_ ?_ ?_ | refine KG ?_ ?_ | refine dX ?_ ?_ | refine KD ?_ | refine Pl ?_ | refine dQ ?_ ?_ | refine gf ?_ ?_ ?_ | refine eY ?_ ?_ ?_ | refine fj (by walk_at "c") (by walk_at "c") rfl ?_ ?_ ?_ | refine iy (fun _ _ => rfl) ?_ ?_ | exact iI | refine i8 rfl T.HX rfl rfl rfl rfl ?_ | refine je rfl T.HX T.So rfl rfl rfl rfl rfl ?_ ?_) | (show Tm _ _ _; first | refine fi (by walk_at "c") rfl ?_ ?_ | refine F4 ?_ | refine dY ?_ | refine F3 (fun _ => rfl) ?_ | refine fk (by walk_at "c") (by walk_at "c") rfl ?_ ?_ ?_) | (show Ssm _ _ _ _; first | refine AA ?_ ?_ | exact DQ | refine Br ?_) | (show Sm _ _ _ _; first | refine B1 ?_ | refine P4 hN rfl rfl rfl ?_ | refine DS ?_ ?_ ?_ | refine F5 rfl ?_ | refine Hn PassesOwn.never rfl (fun _ => rfl) ?_ ?_ ?_ | refine KJ PassesOwn.never ?_ ?_ | refine fM hN rfl rfl ?_ | refine eV (fun _ => rfl) rfl rfl rfl ?_ ?_ ?_ | refine iS rfl rfl rfl ?_ ?_ | refine sm_sc hN rfl rfl rfl rfl ?_ | exact sm_pass | exact fX | refine iF (fun _ => rfl) rfl rfl rfl ?_ ?_ ?_) | (show Wm _ _ _; first | refine d3 ?_ ?_ | refine d4 ?_ ?_ | refine dZ ?_ | refine d0 ?_) | (show Im _ _ _ _; first | refine gr ?_ | refine d5 (fun _ _ => rfl) ?_ | refine im_range T.n_range rfl rfl ?_) | (show Om _ _ _; first | exact eW | refine eX ?_) | (show Fm _ _ _; first | exact Bz | refine fN ?_) | exact O7 hN rfl (.inl rfl) (.inr rfl) | exact fS rfl hN rfl (.inl rfl) (.inr rfl) rfl (.inl rfl) (.inr rfl) rfl (.inl rfl) (.inr rfl) | exact O8 rfl hN rfl (.inl rfl) (.inr rfl) rfl (.inl rfl) (.inr rfl) | exact O8 rfl hN rfl (.inr rfl) (.inl rfl) rfl (.inl rfl) (.inr rfl) | exact O7 hN rfl (.inr rfl) (.inl rfl)) <;> walk_at "v")
set_option hygiene false in
local macro_rules | `(tactic| walk_at "z") => `(tactic| (intro f cdv A outer s H E hr; have hu := A4 hr; walk_at "v"))
variable {P:Program} {w:World} {K:PySem.W.Frag} {mg:Str->Option Value} {base:Heap} {a:Adr}
abbrev Su:List Str:=["sign"]
theorem Sv:Ax Su ["sign"] (Aq Lu):=by walk_at "s"
def Sx:GS:=(Ah (Bt (AH (λi j=>decide (i<=j)) (λa b=>!As b a)) (AH (λi j=>decide (i<=j)) (λa b=>!As b a)) (gC (.str "a")) (Ab 0) (gC (.str "z"))))
theorem kr(T:Tx K mg base a):Dn P w K mg base Su "is_small_letter" Lu k (Sx):=by
 have hN:=Sv.nd;walk_at "z"
abbrev Sy:List Str:=["names"]
theorem Sz:Ax Sy ["names"] (Aq Lv):=by walk_at "s"
def SA:GS:=(Ah (gB (rF Bo) (Aa (AR (BH (Aa (Ab 0) (Aa (gSl (Ab 0) (A9 (gC (.int 1))) A8) Ac))) 2 (Bh 0 1) AL (Ad (AH (λi j=>decide (i < j)) As) (Ab 0) (Ab 1))) Ac)))
theorem ku(T:Tx K mg base a):Dn P w K mg base Sy "names_rise" Lv k (SA):=λ{f cdv A outer s H E}hr=>
 have hu:=A4 hr
 have hN:=Sz.nd
 (Br (B1 (Ce ED (EB rfl) rfl T.EK (by decide) rfl rfl rfl (A3 rfl (Cy (Nc:=["one","other"]) rfl (Cr rfl (by decide +kernel) (by decide +kernel)) (λ_=>rfl) (PX T.Gu rfl rfl rfl (by walk_at "v")) (Hl (i:=0) (j:=1) rfl (by decide) rfl rfl rfl rfl) (λC fp s1 H1=>Bz) (λC fp s1 H1=>(by walk_at "v"))) BD))))
abbrev SC:List Str:=["thing"]
theorem SD:Ax SC ["thing"] (Aq Lw):=by walk_at "s"
def SE(HY:Spw):GS:=(Ag (gIf (gOr (gNt (AC (AU "str" (Ab 0)))) (gNt (gTB (Bt (AH (λi j=>decide (i<=j)) (λa b=>!As b a)) (AH (λi j=>decide (i<=j)) (λa b=>!As b a)) (gC (.int 1)) (gB (rF A0) (Aa (Ab 0) Ac)) (gC (.int 8)))))) (Ah (gC (.bl false))) Ai) (Ah (gB (rF Bo) (Aa (AR (AB (Ab 0)) 1 (gNm 0) AL (Af HY XF (Aa (Ab 0) Ac))) Ac))))
theorem kx(T:Tx K mg base a){HZ:Nat}(om:Df P w K mg base "is_small_letter" HZ 1 HY)(oo:HZ<=k):Dn P w K mg base SC "is_name" Lw k (SE HY):=λ{f cdv A outer s H E}hr=>
 have hu:=A4 hr
 have hN:=SD.nd
 (AA (by walk_at "v") (Br (B1 (Ce ED (EB rfl) rfl T.EK (by decide) rfl rfl rfl (A3 rfl (Cy (Nc:=["sign"]) rfl (Cr rfl (by decide +kernel) (by decide +kernel)) (λ_=>rfl) (by walk_at "v") (Di (i:=0) (by decide) rfl rfl) (λC fp s1 H1=>Bz) (λC fp s1 H1=>(by walk_at "v"))) BD)))))
abbrev SF:List Str:=["thing"]
theorem SG:Ax SF ["thing"] (Aq Lx):=by walk_at "s"
def SH(Du:Spw):GS:=(Ag (gIf (gOr (gNt (AC (AU "tuple" (Ab 0)))) (gTB (Ad (Ae (eqF true)) (gB (rF A0) (Aa (Ab 0) Ac)) (gC (.int 3))))) (Ah (gC (.bl false))) Ai) (Ah (AX (Af Du XF (Aa (Ad (Ae ixW) (Ab 0) (gC (.int 0))) Ac)) (Ad (Ae (inF false)) (Ad (Ae ixW) (Ab 0) (gC (.int 1))) (gC (.tup [(.str "must"),(.str "may")]))))))
variable {Du:Spw}
theorem ky(T:Tx K mg base a){D5:Nat}(kz:Df P w K mg base "is_name" D5 1 Du)(kA:D5<=k):Dn P w K mg base SF "is_field" Lx k (SH Du):=by
 have hN:=SG.nd;walk_at "z"
abbrev SI:List Str:=["thing"]
theorem SJ:Ax SI ["thing"] (Aq Ly):=by walk_at "s"
def SK(H9:Spw)(Dv:Spw):GS:=(Ag (gIf (gNt (AC (AU "tuple" (Ab 0)))) (Ah (gC (.bl false))) Ai) (Ah (AX (gB (rF Bo) (Aa (AR (AB (Ab 0)) 1 (gNm 0) AL (Af H9 XF (Aa (Ab 0) Ac))) Ac)) (Af Dv XF (Aa (AR (AB (Ab 0)) 1 (gNm 0) AL (Ad (Ae ixW) (Ab 0) (gC (.int 0)))) Ac)))))
variable {Dv:Spw}
theorem kB(T:Tx K mg base a){Ia:Nat}(oq:Df P w K mg base "is_field" Ia 1 H9)(ot:Ia<=k){D6:Nat}(Mw:Df P w K mg base "names_rise" D6 1 Dv)(Mx:D6<=k):Dn P w K mg base SI "are_fields" Ly k (SK H9 Dv):=λ{f cdv A outer s H E}hr=>
 have hu:=A4 hr
 have hN:=SJ.nd
 (AA (by walk_at "v") (Br (B1 (KG (Ce ED (EB rfl) rfl T.EK (by decide) rfl rfl rfl (A3 rfl (Cy (Nc:=["part"]) rfl (Cr rfl (by decide +kernel) (by decide +kernel)) (λ_=>rfl) (by walk_at "v") (Di (i:=0) (by decide) rfl rfl) (λC fp s1 H1=>Bz) (λC fp s1 H1=>(by walk_at "v"))) BD)) (KD (Dj Mw (hr.mono Mx) rfl Do rfl rfl rfl (A3 rfl (Cy (Nc:=["part"]) rfl (Cr rfl (by decide +kernel) (by decide +kernel)) (λ_=>rfl) (by walk_at "v") (Di (i:=0) (by decide) rfl rfl) (λC fp s1 H1=>Bz) (λC fp s1 H1=>(by walk_at "v"))) BD)))))))
local macro_rules | `(tactic| walk_at "rd") => `(tactic| ((try dsimp only [Ag,gIf,Ah,Ap,AD,Ai,Ab,gC,Ad,gTB,AC,gNt,AQ,gOr,AX,Bm,Bn,AT,An,Au,Aa,Ac,Af,gB,rF,Ae,AU,gMt,Bv,Bt,AH,AM,Ay,AZ,Bw,gSl,A9,A8,AR,AB,BH,Ar,Bg,List.map_cons,List.map_nil,List.length_cons,List.length_nil,List.cons_append,List.nil_append,List.getElem?_cons_zero,List.getElem?_cons_succ,List.set_cons_zero,List.set_cons_succ,List.replicate,AO,tyN,Ao,Bb,A5,Bp,ixW,Bc,Bd,Be,A0,BE,Bo,BM,List.getElem?_nil]); (try simp only [Ag,gIf,Ah,Ap,AD,Ai,Ab,gC,Ad,gTB,AC,gNt,AQ,gOr,AX,Bm,Bn,AT,An,Au,Aa,Ac,Af,gB,rF,Ae,AU,gMt,Bv,Bt,AH,AM,Ay,AZ,Bw,gSl,A9,A8,AR,AB,BH,Ar,Bg,List.map_cons,List.map_nil,List.length_cons,List.length_nil,List.cons_append,List.nil_append,List.getElem?_cons_zero,List.getElem?_cons_succ,List.set_cons_zero,List.set_cons_succ,List.replicate,AO,tyN,Ao,Bb,A5,Bp,ixW,Bc,Bd,Be,A0,BE,Bo,BM,List.getElem?_nil])))
abbrev kC:Spw:=spR (λ(z:Str)ws _=>ws=[.str z]) λz=>.bl (Gp z)
theorem HZ(T:Tx K mg base a):Df P w K mg base "is_small_letter" 1 1 kC:=by
 refine mk0 T.jt rfl Sv AG ((by rintro b G Q E ⟨z,e,_⟩;rw[e];rfl)) (kr T) λb G Q E c q=>?_;obtain⟨z,rfl,q⟩:=q;unfold Sx;walk_at "rd";dsimp only at q;unfold Gp at q;refine Bu (λh=>?_) (λh=>?_)
 ·rw[h]at q;simpa using q
 ·rw[Bool.eq_false_iff.mpr h]at q;simpa using q
theorem SL:∀ ns:List Str,rise ns=((ns.zip (ns.drop 1)).map λx=>As x.1 x.2).all id
 | []=>rfl
 | [_]=>rfl
 | a::b::r=>by
  show(As a b&&rise (b::r))=_;rw[SL (b::r)];rfl
abbrev kD:Spw:=spR (λ(ns:List Str)ws G=>∃ p,ws=[.ref p]/\G p=some (.lst (ns.map W.str))/\ns.length<=1000) λns=>.bl (rise ns)
def ltW(x y:W):W:=match x,y with | .str a,.str b=>.bl (As a b)| _,_=>.non
theorem D6(T:Tx K mg base a):Df P w K mg base "names_rise" 1 1 kD:=by
 refine mk0 T.ju rfl Sz AG ((by rintro m G Q E ⟨ns,⟨p,e,_⟩,_⟩;rw[e];rfl)) (ku T) λm G Q E j q=>?_;obtain⟨ns,⟨p,rfl,d,hl⟩,q⟩:=q;unfold SA;walk_at "rd";refine ji d λp1 h1=>?_;have c:=AE d h1;have b:rdL (put G p1 (.lst (Cd (ns.map W.str) (some 1) none))) (.ref p)=some (ns.map W.str):=D2 (by rw[Aj c];exact d);have g:rdL (put G p1 (.lst (Cd (ns.map W.str) (some 1) none))) (.ref p1)=some (Cd (ns.map W.str) (some 1) none):=D2 Ak;simp only[b,g];rw[Gj,<- List.map_drop,Lo,List.zip_map,YB];have h:((λx:W×W=>W.tup [x.1,x.2])∘Prod.map W.str W.str)=(λx:W×W=>W.tup [x.1,x.2])∘λx:Str×Str=>(W.str x.1,W.str x.2):=rfl;rw[h,<- YB];refine RN (f:=ltW) ⟨by rw[Gj,<- List.map_drop]at b;exact b,by rw[Gj,<- List.map_drop]at g;exact g⟩ _ none none [] (λx k o l=>?_) ?_ ?_
 ·obtain⟨y,n,rfl⟩:=YC.mp k;exact l
 ·rw[Yh,List.length_zip];exact BJ (by simp only[Yi];omega)
 ·intro p2 h2;rw[YB];have i:((λx:W×W=>ltW x.1 x.2)∘λx:Str×Str=>(W.str x.1,W.str x.2))=W.bl∘λx:Str×Str=>As x.1 x.2:=rfl;rw[i,<- YB,Yw];walk_at "pc";rw[<- SL];exact j _ _ _ (B9 (A1 h1) h2) q
abbrev kE:Spw:=spR (λ(z:Str)ws _=>ws=[.str z]/\z.length<=100000) λz=>.bl (AK z)
def SM(x:W):W:=match x with | .str z=>.bl (Gp z)| _=>.non
theorem D5(T:Tx K mg base a):Df P w K mg base "is_name" 2 1 kE:=by
 refine mk0 T.jv rfl SD AG ((by rintro o G Q E ⟨z,⟨e,_⟩,_⟩;rw[e];rfl)) (kx T (HZ T) (Yr _)) λo G Q E j q=>?_;obtain⟨z,⟨rfl,h⟩,q⟩:=q;unfold SE;walk_at "rd";have g:z.length<=sizeLine:=BJ h;have l:BG "str" "str"=true:=by decide
 simp only[l,g,if_true,Ao,YG,Yq,if_false];unfold AK at q;by_cases h1:1<=z.length
 ·by_cases i:z.length<=8
  ·have b:(1:Int)<=(z.length:Int):=by omega
   have d:(z.length:Int)<=8:=by omega
   simp only[b,d,decide_true,if_true,YG,Yq,if_false];refine Ds (f:=SM) trivial (Eu z) none [] (λx k s n=>?_) ?_ ?_
   ·obtain⟨c,hc,rfl⟩:=YC.mp k;exact⟨_,rfl,n⟩
   ·rw[Eu,Yh];exact BJ (by show 0+z.cps.toList.length<=100000;rw[Nat.zero_add];simpa[Str.length]using h)
   ·intro p m
    have r:(Eu z).map SM=(z.cps.toList.map λc=>Gp ⟨#[c]⟩).map W.bl:=by
     unfold Eu;rw[YB,YB];rfl
    rw[Yw,r];walk_at "pc";rw[List.all_map];simp only[h1,i,decide_true,Bool.true_and]at q;exact j _ _ _ (A1 m) q
  ·have b:(1:Int)<=(z.length:Int):=by omega
   have d:¬ (z.length:Int)<=8:=by omega
   simp only[h1,i,decide_true,decide_false,Bool.true_and,Bool.false_and]at q;simp only[b,d,decide_true,decide_false,if_true,Bool.not_false,Yq,if_false];exact q
 ·have b:¬ (1:Int)<=(z.length:Int):=by omega
  simp only[h1,decide_false,Bool.false_and]at q;simp only[b,decide_false,if_true,Bool.not_false,Yq,if_false];exact q
abbrev SN:List Str:=["thing"]
theorem SO:Ax SN ["thing"] (Aq Lz):=by walk_at "s"
def SQ(Ib:Spw):GS:=(Ag (gIf (gOr (gNt (AC (AU "tuple" (Ab 0)))) (gOr (gTB (Ad (Ae (eqF false)) (gB (rF A0) (Aa (Ab 0) Ac)) (gC (.int 0)))) (gNt (AC (AU "str" (Ad (Ae ixW) (Ab 0) (gC (.int 0)))))))) (Ah (gC (.bl false))) Ai) (Ag (gIf (gTB (Ad (Ae (eqF true)) (gB (rF A0) (Aa (Ab 0) Ac)) (DX RZ (Ad (Ae ixW) (Ab 0) (gC (.int 0)))))) (Ah (gC (.bl false))) Ai) (Ah (Bm (Ad (Ae (eqF true)) (Ad (Ae ixW) (Ab 0) (gC (.int 0))) (gC (.str "row"))) (AX (Af Ib XF (Aa (Ad (Ae ixW) (Ab 0) (gC (.int 1))) Ac)) (AU "bool" (Ad (Ae ixW) (Ab 0) (gC (.int 2)))))))))
theorem kF(T:Tx K mg base a){Ic:Nat}(ou:Df P w K mg base "are_fields" Ic 1 Ib)(ow:Ic<=k):Dn P w K mg base SN "has_form" Lz k (SQ Ib):=by
 have hN:=SO.nd;walk_at "z"
abbrev SR:List Str:=["kind"]
theorem ST:Ax SR ["kind"] (Aq LC):=by walk_at "s"
def SU:GS:=(Ag (gIf (gTB (Ad (Ae (eqF false)) (Ad (Ae ixW) (Ab 0) (gC (.int 0))) (gC (.str "row")))) (Ah (AR (AB (Ad (Ae ixW) (Ab 0) (gC (.int 1)))) 1 (gNm 0) AL (Ad (Ae ixW) (Ab 0) (gC (.int 2))))) Ai) (Ah (gB (E9) (Aa (gSl (Ab 0) (A9 (gC (.int 1))) A8) Ac))))
theorem kG(T:Tx K mg base a):Dn P w K mg base SR "kinds_within" LC k (SU):=λ{f cdv A outer s H E}hr=>
 have hu:=A4 hr
 have hN:=ST.nd
 (AA (DS (by walk_at "v") (Br (B1 (Cy (Nc:=["field"]) rfl (Cr rfl (by decide +kernel) (by decide +kernel)) (λ_=>rfl) (by walk_at "v") (Di (i:=0) (by decide) rfl rfl) (λC fp s1 H1=>Bz) (λC fp s1 H1=>(by walk_at "v"))))) DQ) (by walk_at "v"))
abbrev My:List Str:=["layer","things_within","found","thing"]
theorem Ie:Ax My ["layer","things_within"] (Aq HQ):=by walk_at "s"
def SV(mg:Str->Option Value)(CB:Spw):GS:=(Ag (Ap 2 (Au Ac)) (Ag (AF (AB (Ab 0)) (gNm 3) (AD (gMt BU C1 (Ab 2) (Aa (Cz 1 (fAt mg "kinds_within") CB XF (Aa (Ab 3) Ac)) Ac)))) (Ah (Ab 2))))
variable {CB:Spw}
theorem kH(T:Tx K mg base a){CL:Nat}(Ig:Df P w K mg base "kinds_within" CL 1 CB)(Mz:CL<=k):Dn P w K mg base My "layer_within" HQ k (SV mg CB):=λ{f cdv A outer s H E}hr=>
 have hu:=A4 hr
 have hN:=Ie.nd
 (AA (by walk_at "v") (AA (Hn PassesOwn.never rfl (λ_=>rfl) (by walk_at "v") (by walk_at "v") (Br (F5 rfl (Ga KR rfl rfl rfl rfl rfl (by walk_at "v") (A3 rfl (Hy (i:=1) Ig (hr.mono Mz) rfl rfl Do rfl rfl rfl rfl (by walk_at "v")) BD))))) (by walk_at "v")))
abbrev MA:List Str:=["thing","is_formed","things_within","most","deepest","layer","count","depth"]
theorem Ih:Ax MA ["thing","is_formed","things_within","most","deepest"] (Aq Fh):=by walk_at "s"
def SW(mg:Str->Option Value)(D7:Spw)(Dw:Spw):GS:=(Ag (Ap 5 (Au (Aa (Ab 0) Ac))) (Ag (Ap 6 (gC (.int 0))) (Ag (Ap 7 (gC (.int 0))) (Ag (F8 (gTB (Ad (AM λi j=>decide (j < i)) (gB (rF A0) (Aa (Ab 5) Ac)) (gC (.int 0)))) (Ag (Bv 6 Bw (gB (rF A0) (Aa (Ab 5) Ac))) (Ag (Bv 7 Bw (gC (.int 1))) (Ag (gIf (gOr (gTB (Ad (AM λi j=>decide (j < i)) (Ab 6) (Ab 3))) (gTB (Ad (AM λi j=>decide (j < i)) (Ab 7) (Ab 4)))) (Ah (gC (.bl false))) Ai) (Ag (gIf (gNt (AC (gB (rF Bo) (Aa (Ba (AB (Ab 5)) 1 [1] (gNm 0) AL (Cz 1 (fAt mg "has_form") D7 XF (Aa (Ab 0) Ac))) Ac)))) (Ah (gC (.bl false))) Ai) (Ap 5 (Af Dw XF (Aa (Ab 5) (Aa (Ab 2) Ac))))))))) (Ah (gC (.bl true)))))))
variable {D7 Dw:Spw}
theorem kI(T:Tx K mg base a){D8:Nat}(MB:Df P w K mg base "has_form" D8 1 D7)(SX:D8<=k){EL:Nat}(kJ:Df P w K mg base "layer_within" EL 2 Dw)(kK:EL<=k):Dn P w K mg base MA "is_made_of" Fh k (SW mg D7 Dw):=λ{f cdv A outer s H E}hr=>
 have hu:=A4 hr
 have hN:=Ih.nd
 (AA (by walk_at "v") (AA (by walk_at "v") (AA (by walk_at "v") (AA (KJ PassesOwn.never (by walk_at "v") (AA (by walk_at "v") (AA (by walk_at "v") (AA (by walk_at "v") (AA (DS (F4 (F3 (λ_=>rfl) (Ce ED (EB rfl) rfl T.EK (by decide) rfl rfl rfl (A3 rfl (Ht rfl (DY (own:=["part"]) (fr:=["is_formed"]) (js:=[1]) (scX:=Aq Fh) (n:=s.heap.objs.size+1) rfl (by decide +kernel) (by decide +kernel) (by decide +kernel) (by decide +kernel) rfl rfl rfl (by decide +kernel) rfl) (λ_=>rfl) (by walk_at "v") (Fe (i:=0) (by decide) rfl rfl) (λC fp s1 H1=>Bz) (λC fp s1 H1=>(Hy (i:=1) MB (hr.mono SX) rfl rfl Do rfl rfl rfl rfl (by walk_at "v")))) BD)))) (by walk_at "v") DQ) (by walk_at "v")))))) (by walk_at "v")))))
abbrev SY:List Str:=["thing"]
theorem SZ:Ax SY ["thing"] (Aq LD):=by walk_at "s"
def S3(mg:Str->Option Value)(D7:Spw)(CB:Spw)(Dx:Spw):GS:=(Ah (Af Dx XF (Aa (Ab 0) (Aa (gC (.ref (fAt mg "has_form"))) (Aa (gC (.ref (fAt mg "kinds_within"))) (Aa (gC (.int 40)) (Aa (gC (.int 8)) Ac)))))))
variable {Dx:Spw}
theorem kL(T:Tx K mg base a){D8:Nat}(MB:Df P w K mg base "has_form" D8 1 D7)(SX:D8<=k){CL:Nat}(Ig:Df P w K mg base "kinds_within" CL 1 CB)(Mz:CL<=k){EM:Nat}(MC:Df P w K mg base "is_made_of" EM 5 Dx)(MD:EM<=k):Dn P w K mg base SY "is_kind" LD k (S3 mg D7 CB Dx):=λ{f cdv A outer s H E}hr=>
 have hu:=A4 hr
 have hN:=SZ.nd
 (Br (B1 (Dj MC (hr.mono MD) rfl Do rfl rfl rfl (A3 rfl (by walk_at "v") (A3 rfl (Hz MB rfl rfl) (A3 rfl (Hz Ig rfl rfl) (by walk_at "v")))))))
abbrev S4:List Str:=["thing"]
theorem S6:Ax S4 ["thing"] (Aq Gq):=by walk_at "s"
def ME(K:PySem.W.Frag)(a:Adr)(Ii:Spw)(E:Addr->Hw->Prop):GS:=(gIf (gNt (AC (Af Ii (λ_=>E) (Aa (Ab 0) Ac)))) (KS a.NoKind E (Aa (gC (.str "this is no kind")) Ac)) Ai)
variable {f:Addr}{cdv:Value}{A:Around}{outer:List Env}{H:Hp}{E:XK}
theorem kM(T:Tx K mg base a){Ij:Nat}(kN:Df P w K mg base "is_kind" Ij 1 Ii)(kO:Ij<=k){s:Shared}(hr:Room k (A.deeper (envOfC "check_kind" (Aq Gq) s.heap.objs.size f cdv))):Ssm (cxW P w K mg base S4 "check_kind" (Aq Gq) f cdv A outer s H E) (λB=>B=H) (B5 Gq) (ME K a Ii (dnX K H E)):=
 have hu:=A4 hr
 have hN:=S6.nd
 (Br (DS (F4 (F3 (λ_=>rfl) (Dj kN (hr.mono kO) rfl Kv rfl rfl rfl (by walk_at "v")))) (Br (fA T.Mv T.Fl PySem.F.excBase_ValueError rfl rfl rfl rfl (by walk_at "v"))) DQ))
abbrev S7:List Str:=["kind","found","inner"]
theorem S8:Ax S7 ["kind"] (Aq LF):=by walk_at "s"
def S9(CB:Spw)(Cf:Spw):GS:=(Ag (Ap 1 (Au (Aa (Ab 0) Ac))) (Ag (AF (AB (Af CB XF (Aa (Ab 0) Ac))) (gNm 2) (AD (gMt BU C1 (Ab 1) (Aa (Af Cf XF (Aa (Ab 2) Ac)) Ac)))) (Ah (Ab 1))))
variable {Cf:Spw}
theorem kP(T:Tx K mg base a){CL:Nat}(Ig:Df P w K mg base "kinds_within" CL 1 CB)(Mz:CL<=k){CM:Nat}(MF:Df P w K mg base "kinds_in" CM 1 Cf)(MG:CM<=k):Dn P w K mg base S7 "kinds_in" LF k (S9 CB Cf):=by
 have hN:=S8.nd;walk_at "z"
abbrev Tc:List Str:=["kind"]
theorem Td:Ax Tc ["kind"] (Aq Gr):=by walk_at "s"
def MH(Ca:Spw)(Cf:Spw)(E:Addr->Hw->Prop):GS:=(Ag (AD (Af Ca (λ_=>E) (Aa (Ab 0) Ac))) (Ah (gB (rF A0) (Aa (Af Cf (λ_=>E) (Aa (Ab 0) Ac)) Ac))))
variable {Ca:Spw}
theorem kQ(T:Tx K mg base a){CN:Nat}(MI:Df P w K mg base "check_kind" CN 1 Ca)(MJ:CN<=k){CM:Nat}(MF:Df P w K mg base "kinds_in" CM 1 Cf)(MG:CM<=k){s:Shared}(hr:Room k (A.deeper (envOfC "parts_in" (Aq Gr) s.heap.objs.size f cdv))):Ssm (cxW P w K mg base Tc "parts_in" (Aq Gr) f cdv A outer s H E) (λB=>B=H) (B5 Gr) (MH Ca Cf (dnX K H E)):=
 have hu:=A4 hr
 have hN:=Td.nd
 (AA (F5 rfl (Dj MI (hr.mono MJ) rfl Kv rfl rfl rfl (by walk_at "v"))) (Br (B1 (Ce PY (PK) rfl T.Sl (by decide) rfl rfl rfl (A3 rfl (Dj MF (hr.mono MG) rfl Kv rfl rfl rfl (by walk_at "v")) BD)))))
abbrev Te:List Str:=["kind"]
theorem Tg:Ax Te ["kind"] (Aq LG):=by walk_at "s"
def Th(Ca:Spw)(Cf:Spw):GS:=(Ag (AD (Af Ca XF (Aa (Ab 0) Ac))) (Ah (Bn (gB (rF BM) (Aa (AR (AB (Af Cf XF (Aa (Ab 0) Ac))) 1 (gNm 0) AL (Ad (Ae (inF false)) (Ad (Ae ixW) (Ab 0) (gC (.int 0))) (An (Aa (gC (.str "to")) (Aa (gC (.str "box")) Ac))))) Ac)))))
theorem kR(T:Tx K mg base a){CN:Nat}(MI:Df P w K mg base "check_kind" CN 1 Ca)(MJ:CN<=k){CM:Nat}(MF:Df P w K mg base "kinds_in" CM 1 Cf)(MG:CM<=k):Dn P w K mg base Te "is_data" LG k (Th Ca Cf):=λ{f cdv A outer s H E}hr=>
 have hu:=A4 hr
 have hN:=Tg.nd
 (AA (by walk_at "v") (Br (B1 (Pl (Ce PZ (PL rfl) rfl T.Si (by decide) rfl rfl rfl (A3 rfl (Cy (Nc:=["part"]) rfl (Cr rfl (by decide +kernel) (by decide +kernel)) (λ_=>rfl) (by walk_at "v") (Di (i:=0) (by decide) rfl rfl) (λC fp s1 H1=>Bz) (λC fp s1 H1=>(by walk_at "v"))) BD))))))
def Ti(mg:Str->Option Value)(D9:Spw):GS:=(Ag (Ap 2 (Au Ac)) (Ag (AF (AB (Ab 0)) (gNm 3) (AD (gMt BU C1 (Ab 2) (Aa (Cz 1 (fAt mg "values_within") D9 XF (Aa (Ab 3) Ac)) Ac)))) (Ah (Ab 2))))
variable {D9:Spw}
theorem kS(T:Tx K mg base a){Ea:Nat}(MK:Df P w K mg base "values_within" Ea 1 D9)(Tj:Ea<=k):Dn P w K mg base My "layer_within" HQ k (Ti mg D9):=λ{f cdv A outer s H E}hr=>
 have hu:=A4 hr
 have hN:=Ie.nd
 (AA (by walk_at "v") (AA (Hn PassesOwn.never rfl (λ_=>rfl) (by walk_at "v") (by walk_at "v") (Br (F5 rfl (Ga KR rfl rfl rfl rfl rfl (by walk_at "v") (A3 rfl (Hy (i:=1) MK (hr.mono Tj) rfl rfl Do rfl rfl rfl rfl (by walk_at "v")) BD))))) (by walk_at "v")))
def Tl(mg:Str->Option Value)(Eb:Spw)(Dw:Spw):GS:=(Ag (Ap 5 (Au (Aa (Ab 0) Ac))) (Ag (Ap 6 (gC (.int 0))) (Ag (Ap 7 (gC (.int 0))) (Ag (F8 (gTB (Ad (AM λi j=>decide (j < i)) (gB (rF A0) (Aa (Ab 5) Ac)) (gC (.int 0)))) (Ag (Bv 6 Bw (gB (rF A0) (Aa (Ab 5) Ac))) (Ag (Bv 7 Bw (gC (.int 1))) (Ag (gIf (gOr (gTB (Ad (AM λi j=>decide (j < i)) (Ab 6) (Ab 3))) (gTB (Ad (AM λi j=>decide (j < i)) (Ab 7) (Ab 4)))) (Ah (gC (.bl false))) Ai) (Ag (gIf (gNt (AC (gB (rF Bo) (Aa (Ba (AB (Ab 5)) 1 [1] (gNm 0) AL (Cz 1 (fAt mg "has_value_form") Eb XF (Aa (Ab 0) Ac))) Ac)))) (Ah (gC (.bl false))) Ai) (Ap 5 (Af Dw XF (Aa (Ab 5) (Aa (Ab 2) Ac))))))))) (Ah (gC (.bl true)))))))
variable {Eb:Spw}
theorem kT(T:Tx K mg base a){Ec:Nat}(ML:Df P w K mg base "has_value_form" Ec 1 Eb)(Tn:Ec<=k){EL:Nat}(kJ:Df P w K mg base "layer_within" EL 2 Dw)(kK:EL<=k):Dn P w K mg base MA "is_made_of" Fh k (Tl mg Eb Dw):=λ{f cdv A outer s H E}hr=>
 have hu:=A4 hr
 have hN:=Ih.nd
 (AA (by walk_at "v") (AA (by walk_at "v") (AA (by walk_at "v") (AA (KJ PassesOwn.never (by walk_at "v") (AA (by walk_at "v") (AA (by walk_at "v") (AA (by walk_at "v") (AA (DS (F4 (F3 (λ_=>rfl) (Ce ED (EB rfl) rfl T.EK (by decide) rfl rfl rfl (A3 rfl (Ht rfl (DY (own:=["part"]) (fr:=["is_formed"]) (js:=[1]) (scX:=Aq Fh) (n:=s.heap.objs.size+1) rfl (by decide +kernel) (by decide +kernel) (by decide +kernel) (by decide +kernel) rfl rfl rfl (by decide +kernel) rfl) (λ_=>rfl) (by walk_at "v") (Fe (i:=0) (by decide) rfl rfl) (λC fp s1 H1=>Bz) (λC fp s1 H1=>(Hy (i:=1) ML (hr.mono Tn) rfl rfl Do rfl rfl rfl rfl (by walk_at "v")))) BD)))) (by walk_at "v") DQ) (by walk_at "v")))))) (by walk_at "v")))))
local macro_rules | `(tactic| walk_at "rd") => `(tactic| ((try dsimp only [Ag,gIf,Ah,Ap,AD,Ai,Ab,gC,Ad,gTB,AC,gNt,AQ,gOr,AX,Bm,Bn,AT,An,Au,Aa,Ac,Af,gB,rF,Ae,AU,gMt,Bv,Dk,Bt,AH,AM,Ay,AZ,Bw,gSl,A9,A8,AR,AB,BH,Fb,AF,DX,BF,Ar,Bg,List.map_cons,List.map_nil,List.length_cons,List.length_nil,List.cons_append,List.nil_append,List.getElem?_cons_zero,List.getElem?_cons_succ,List.set_cons_zero,List.set_cons_succ,List.replicate,AO,tyN,Ao,Bb,A5,Bp,ixW,Bc,Bd,Be,A0,BE,Bo,BM,AI,Cw,List.getElem?_nil]); (try simp only [Ag,gIf,Ah,Ap,AD,Ai,Ab,gC,Ad,gTB,AC,gNt,AQ,gOr,AX,Bm,Bn,AT,An,Au,Aa,Ac,Af,gB,rF,Ae,AU,gMt,Bv,Dk,Bt,AH,AM,Ay,AZ,Bw,gSl,A9,A8,AR,AB,BH,Fb,AF,DX,BF,Ar,Bg,List.map_cons,List.map_nil,List.length_cons,List.length_nil,List.cons_append,List.nil_append,List.getElem?_cons_zero,List.getElem?_cons_succ,List.set_cons_zero,List.set_cons_succ,List.replicate,AO,tyN,Ao,Bb,A5,Bp,ixW,Bc,Bd,Be,A0,BE,Bo,BM,AI,Cw,List.getElem?_nil])))
abbrev kU:Spw:=spR (λ(x:Str×Bool×W)ws _=>ws=[.tup [.str x.1,.str (mark x.2.1),x.2.2]]/\AK x.1=true) λ_=>.bl true
theorem To{n:Str}(h:AK n=true):n.length<=8:=by
 unfold AK at h;simp only[YH,YT]at h;exact h.1.2
theorem kW(b:Bool)(G:Hw):inF false (.str (mark b)) (.tup [.str "must",.str "may"]) G=some (.bl true):=by cases b <;> kernel_rfl
theorem Ia(T:Tx K mg base a):Df P w K mg base "is_field" 3 1 kU:=by
 refine mk0 T.jw rfl SG AG ((by rintro d G Q E ⟨x,⟨e,_⟩,_⟩;rw[e];rfl)) (ky T (D5 T) (Yr _)) λd G Q E g q=>?_;obtain⟨⟨n,b,k⟩,⟨rfl,c⟩,q⟩:=q;have hl:n.length<=8:=To c;dsimp only at q c;unfold SH;walk_at "rd";have f:BG "tuple" "tuple"=true:=by decide
 simp only[f,YG,Yq,if_false];refine⟨n,⟨rfl,by omega⟩,?_⟩;dsimp only;rw[c];simp only[if_true,kW,Ao];exact q
theorem kX(k:Kd):∃ xs,k.enc=.tup (.str k.hd::xs):=by cases k <;> exact⟨_,rfl⟩
abbrev kY:Spw:=spR (λ(fs:Fs)ws _=>ws=[.tup fs.enc]/\fs.ok=true/\rise fs.names=true/\fs.cnt<=1000) λ_=>.bl true
def EN(x:W):W:=match x with | .tup (n::_)=>n | _=>.non
theorem MM:∀{fs:Fs}{x:W},fs.ok=true->x∈fs.enc->∃ n b k,x=.tup [.str n,.str (mark b),k]/\AK n=true
 | .nil,x,_,h=>by cases h
 | .cons n m k r,x,a,h=>by
  have h':(AK n&&k.ok&&r.ok)=true:=a;walk_at "pb";walk_at "pk"
  ·exact⟨n,m,k.enc,rfl,h'.1.1⟩
  ·exact MM h'.2 h
theorem MN:∀ fs:Fs,fs.enc.map EN=fs.names.map W.str
 | .nil=>rfl
 | .cons n m k r=>by show W.str n::r.enc.map EN=W.str n::r.names.map W.str;rw[MN r]
theorem MO:∀ fs:Fs,fs.names.length=fs.enc.length
 | .nil=>rfl
 | .cons n m k r=>by show r.names.length+1=r.enc.length+1;rw[MO r]
theorem Tq(fs:Fs):fs.enc.length<=fs.cnt:=by rw[RX,Lp];exact Lr _
theorem Ic(T:Tx K mg base a):Df P w K mg base "are_fields" 4 1 kY:=by
 refine mk0 T.jx rfl SJ AG ((by rintro t G Q E ⟨x,⟨e,_⟩,_⟩;rw[e];rfl)) (kB T (Ia T) (Yr _) (D6 T) (by omega)) λt G Q E o q=>?_;obtain⟨fs,⟨rfl,j,m,hc⟩,q⟩:=q;have hl:=Tq fs;unfold SK;walk_at "rd";have r:BG "tuple" "tuple"=true:=by decide
 simp only[r,YG,Yq,if_false];refine Ds (f:=λ_=>.bl true) trivial fs.enc none [] (λx d l h=>?_) (by simp only[Yi];exact BJ (by omega)) ?_
 ·obtain⟨n,b,k,rfl,i⟩:=MM j d;exact⟨⟨n,b,k⟩,⟨rfl,i⟩,h⟩
 ·intro p s;rw[Yw,show(λ_:W=>W.bl true)=W.bl∘(λ_=>true)from rfl,<- YB];walk_at "pc";have c:(fs.enc.map λ_=>true).all id=true:=by simp
  rw[c];simp only[if_true];refine Ds (f:=EN) trivial fs.enc none [] (λx d l h=>?_) (by simp only[Yi];exact BJ (by omega)) ?_
  ·obtain⟨n,b,k,rfl,i⟩:=MM j d;show Ad (Ae ixW) (Ab 0) (gC (.int 0)) [some (W.tup [.str n,.str (mark b),k])] _ l;walk_at "rd";exact h
  ·intro p2 g;rw[Yw,MN];refine⟨fs.names,⟨p2,rfl,Ak,by rw[MO];omega⟩,?_⟩;dsimp only;rw[m];exact o _ _ _ (B9 (A1 s) g) q
abbrev kZ:Spw:=spR (λ(k:Kd)ws _=>ws=[k.enc]/\k.ok=true/\k.cnt<=1000) λ_=>.bl true
theorem D8(T:Tx K mg base a):Df P w K mg base "has_form" 5 1 kZ:=by
 refine mk0 T.jy rfl SO AG ((by rintro h G Q E ⟨x,⟨e,_⟩,_⟩;rw[e];rfl)) (kF T (Ic T) (Yr _)) λh G Q E i q=>?_;obtain⟨k,⟨rfl,f,hc⟩,q⟩:=q;have b:BG "tuple" "tuple"=true:=by decide
 have d:BG "bool" "bool"=true:=by decide
 have c:BG "str" "str"=true:=by decide
 unfold SQ;cases k with
 | any =>
  simp only[Kd.enc];walk_at "rd";walk_at "pi";exact q
 | num =>
  simp only[Kd.enc];walk_at "rd";walk_at "pi";exact q
 | truth =>
  simp only[Kd.enc];walk_at "rd";walk_at "pi";exact q
 | to x y =>
  simp only[Kd.enc];walk_at "rd";walk_at "pi";exact q
 | box x =>
  simp only[Kd.enc];walk_at "rd";walk_at "pi";exact q
 | row fs o =>
  have h':(rise fs.names&&fs.ok)=true:=f;walk_at "pb";have g:1+fs.cnt<=1000:=hc;simp only[Kd.enc];walk_at "rd";walk_at "pi";refine⟨fs,⟨rfl,h'.2,h'.1,by omega⟩,?_⟩;simp only[if_true,d];exact q
def MP(x:W):W:=match x with | .tup [_,_,k]=>k | _=>.non
theorem Ts:∀ fs:Fs,fs.enc.map MP=fs.kinds.map Kd.enc
 | .nil=>rfl
 | .cons n m k r=>by show k.enc::r.enc.map MP=k.enc::r.kinds.map Kd.enc;rw[Ts r]
theorem MQ:∀{fs:Fs}{x:W},x∈fs.enc->∃ n b k,x=.tup [.str n,.str (mark b),k]
 | .nil,x,h=>by cases h
 | .cons n m k r,x,h=>by
  walk_at "pk"
  ·exact⟨n,m,k.enc,rfl⟩
  ·exact MQ h
abbrev Tt:Spw:=spL (λ(k:Kd)ws _=>ws=[k.enc]/\k.cnt<=20000) λk=>k.kids.map Kd.enc
theorem CL(T:Tx K mg base a):Df P w K mg base "kinds_within" 1 1 Tt:=by
 refine mk0 T.jz rfl ST EJ ((by rintro h G Q E ⟨x,⟨e,_⟩,_⟩;rw[e];rfl)) (kG T) λh G Q E j q=>?_;obtain⟨k,⟨rfl,hc⟩,q⟩:=q;unfold SU;cases k with
 | row fs o =>
  have g:1+fs.cnt<=20000:=hc;have hl:=Tq fs;simp only[Kd.enc];walk_at "rd";refine Ds (f:=MP) trivial fs.enc none [] (λx c i d=>?_) (by simp only[Yi];exact BJ (by omega)) ?_
  ·obtain⟨n,b,k,rfl⟩:=MQ c;show Ad (Ae ixW) (Ab 0) (gC (.int 2)) [some (W.tup [.str n,.str (mark b),k])] _ i;walk_at "rd";exact d
  ·rw[Yw,Ts];exact q
 | any=>simp only[Kd.enc];walk_at "rd";exact⟨Gk _ _,q⟩
 | num=>simp only[Kd.enc];walk_at "rd";exact⟨Gk _ _,q⟩
 | truth=>simp only[Kd.enc];walk_at "rd";exact⟨Gk _ _,q⟩
 | to x y=>simp only[Kd.enc];walk_at "rd";exact⟨Gk _ _,q⟩
 | box x=>simp only[Kd.enc];walk_at "rd";exact⟨Gk _ _,q⟩
variable {G:Hw}{p:Addr}{xs:List W}{Q:Kw}
theorem MR{r:Addr}{zs:List W}(b:G p=some (.lst xs))(a:G r=some (.lst zs))(hl:xs.length+zs.length<=sizeLine)(q:Q .non (put G p (.lst (xs++zs)))):C1 (.ref p) [.ref r] G Q:=by
 unfold C1;refine KP b ?_ q;rw[El a,Option.bind_some,if_pos hl]
theorem EO(h:G p=some (.lst xs)):BU (.ref p) G:=⟨xs,El h⟩
abbrev Tu(n:Nat):Spw:=spL (λ(k:Kd)ws _=>ws=[k.enc]/\k.dp<=n/\k.cnt<=10000) λk=>k.all.map Kd.enc
local macro_rules | `(tactic| walk_at "rd") => `(tactic| ((try dsimp only [Ag,gIf,Ah,Ap,AD,Ai,Ab,gC,Ad,gTB,AC,gNt,AQ,gOr,AX,Bm,Bn,AT,An,Au,Aa,Ac,Af,gB,rF,Ae,AU,gMt,Bv,Dk,Bt,AH,AM,Ay,AZ,Bw,gSl,A9,A8,AR,AB,BH,Fb,AF,DX,BF,Cz,Ba,Bk,Ar,Bg,List.map_cons,List.map_nil,List.length_cons,List.length_nil,List.cons_append,List.nil_append,List.getElem?_cons_zero,List.getElem?_cons_succ,List.set_cons_zero,List.set_cons_succ,List.replicate,AO,tyN,Ao,Bb,A5,Bp,ixW,Bc,Bd,Be,A0,BE,Bo,BM,AI,Cw,List.getElem?_nil]); (try simp only [Ag,gIf,Ah,Ap,AD,Ai,Ab,gC,Ad,gTB,AC,gNt,AQ,gOr,AX,Bm,Bn,AT,An,Au,Aa,Ac,Af,gB,rF,Ae,AU,gMt,Bv,Dk,Bt,AH,AM,Ay,AZ,Bw,gSl,A9,A8,AR,AB,BH,Fb,AF,DX,BF,Cz,Ba,Bk,Ar,Bg,List.map_cons,List.map_nil,List.length_cons,List.length_nil,List.cons_append,List.nil_append,List.getElem?_cons_zero,List.getElem?_cons_succ,List.set_cons_zero,List.set_cons_succ,List.replicate,AO,tyN,Ao,Bb,A5,Bp,ixW,Bc,Bd,Be,A0,BE,Bo,BM,AI,Cw,List.getElem?_nil])))
abbrev k6(mg:Str->Option Value):Spw:=spL (λ(l:List Kd)ws G=>∃ p,ws=[.ref p,.ref (fAt mg "kinds_within")]/\G p=some (.lst (l.map Kd.enc))/\A6 l<=10000) λl=>(l.flatMap Kd.kids).map Kd.enc
theorem Tv{D:Ew}{p q j:Addr}{items:List W}:∀(l:List Kd)(o:Option W)(k0:W)(G:Hw)(a:List W),a.length+A6 l<=20000->p≠q->G p=some (.lst a)->G q=some (.lst items)->
  (∀ ω i,(∃ o',ω=[some k0,some (.ref j),some (.ref p),o'])->i p=some (.lst (a++(l.flatMap Kd.kids).map Kd.enc))->(∀ b,b≠p->∀ u,G b=some u->i b=some u)->D.nx ω i)->
  AY (holds q items) (gNm 3) (AD (gMt BU C1 (Ab 2) (Aa (Cz 1 j Tt XF (Aa (Ab 3) Ac)) Ac))) D (l.map Kd.enc) [some k0,some (.ref j),some (.ref p),o] G
 | [],o,k0,G,a,_,e,g,f,d=>⟨f,d _ G ⟨o,rfl⟩ (by simpa using g) λ_ _ _ h=>h⟩
 | c::l,o,k0,G,a,hl,e,g,f,d=>by
  have v:a.length+(c.cnt+A6 l)<=20000:=hl;have w:=jq c;refine⟨f,?_⟩;show AD _ _ [some k0,some (.ref j),some (.ref p),some c.enc] G;walk_at "rd";refine⟨EO g,trivial,c,⟨rfl,by omega⟩,λr m=>?_⟩;have k:=AE g m;have n:=AE f m;refine MR (by rw[Aj k];exact g) Ak (by rw[Yh];exact BJ (by omega)) ?_;refine Tv l (some c.enc) k0 _ (a++c.kids.map Kd.enc) (by rw[Yj,Yh];omega) e Ak ?_ ?_
  ·rw[Aj (YZ e),Aj n];exact f
  ·intro ω i hω h1 h2;refine d ω i hω (by rw[h1,Qf,Yy,Yv]) λb t u s=>h2 b t u ?_;rw[Aj t,Aj (AE s m)];exact s
theorem EL(T:Tx K mg base a):Df P w K mg base "layer_within" 2 2 (k6 mg):=by
 refine mk0 T.R1 rfl Ie EJ ((by rintro o G Q E ⟨x,⟨p,e,_⟩,_⟩;rw[e];rfl)) (kH T (CL T) (by omega)) λo G Q E k q=>?_;obtain⟨l,⟨h,rfl,i,hl⟩,q⟩:=q;unfold SV;walk_at "rd";refine⟨by decide,λp j=>?_⟩;have c:p≠h:=YZ (AE i j);have d:put G p (.lst []) h=some (.lst (l.map Kd.enc)):=by rw[Aj (YZ c)];exact i
 simp only[d];refine Tv l none (.ref h) _ [] (by simp only[Yi];omega) c Ak d ?_;intro ω n hω h1 h2;obtain⟨o',rfl⟩:=hω;simp only[Yb,Yc];rw[Yw]at h1
 have m:Sub (put G p (.lst ((l.flatMap Kd.kids).map Kd.enc))) n:=λb u f=>by
  by_cases g:b=p
  ·subst g;rw[Ak]at f;cases f;exact h1
  ·rw[Aj g]at f;exact h2 b g u (by rw[Aj g];exact f)
 exact k _ _ _ m (q p j)
theorem Ik{α:Type}{enc f:α->W}{gd:Hw->Prop}{ge:GE}{R:List W->Hw->Prop}{G:Hw}{cst:Sw}(a:gd G):∀(l:List α)(o:Option W)(ys:List W),(∀ x∈l,∀ Q:Kw,Q (f x) G->ge (some (enc x)::cst) G Q)->
  ys.length+l.length<=sizeLine->R (ys++l.map f) G->Bi gd (gNm 0) AL ge R (l.map enc) (o::cst) G ys
 | [],o,ys,_,_,r=>⟨a,by simpa using r⟩
 | x::l,o,ys,h,hl,r=>by
  refine⟨a,by simp only[Yg]at hl;omega,?_⟩;show ge (some (enc x)::cst) G λy b=>Bi gd (gNm 0) AL ge R (l.map enc) (some (enc x)::cst) b (ys++[y]);refine h x Ye _ (Ik a l (some (enc x)) (ys++[f x]) (λy c=>h y (Yd _ c)) ?_ ?_)
  ·simp only[Yj,Yg,Yi]at hl ⊢;omega
  ·simpa[Yv]using r
def Bq(k:Kd):Bool:=decide (k.cnt<=40/\k.dp<=8)
abbrev k7(mg:Str->Option Value):Spw:=spR (λ(k:Kd)ws _=>ws=[k.enc,.ref (fAt mg "has_form"),.ref (fAt mg "kinds_within"),.int 40,.int 8]/\k.ok=true/\k.cnt<=1000) λk=>.bl (Bq k)
theorem EM(T:Tx K mg base a):Df P w K mg base "is_made_of" 6 5 (k7 mg):=by
 refine mk0 T.R3 rfl Ih AG ((by rintro N G Q E ⟨x,⟨e,_⟩,_⟩;rw[e];rfl)) (kI T (D8 T) (Yr _) (EL T) (by omega)) λN G Q E r q=>?_;obtain⟨k,⟨rfl,L,hc⟩,q⟩:=q;unfold SW;walk_at "rd";refine⟨by decide,λp U=>?_⟩;refine⟨λm ω A=>∃(l:List Kd)(p:Addr)(c d:Nat),ω=[some k.enc,some (.ref (fAt mg "has_form")),some (.ref (fAt mg "kinds_within")),some (.int 40),some (.int 8),some (.ref p),some (.int c),some (.int d)]/\A p=some (.lst (l.map Kd.enc))/\Sub G A/\c+A6 l=k.cnt/\d+dpL l=k.dp/\(∀ x∈l,x.ok=true)/\c<=40/\d<=8/\m=9 - d,⟨9,[k],p,0,0,rfl,Ak,A1 U,?_,?_,?_,by omega,by omega,rfl⟩,?_⟩
 ·show 0+(k.cnt+0)=k.cnt;omega
 ·show 0+max k.dp 0=k.dp;omega
 ·intro x I;rw[YA.mp I];exact L
 rintro m ω Y ⟨l,p,c,d,rfl,hl,n,H,O,hok,S,h8,rfl⟩;have b:(l.map Kd.enc).length=l.length:=Yh _;walk_at "rd";simp only[hl,Ao,b];cases l with
 | nil =>
  have s:¬ ((0:Int) <((([]:List Kd).length:Nat):Int)):=by simp
  simp only[s,decide_false,Yq,if_false]
  have j:Bq k=true:=by
   unfold Bq;have z1:c+0=k.cnt:=H;have z2:d+0=k.dp:=O;simp only[YT];omega
  dsimp only at q;rw[j]at q;exact r _ _ _ n q
 | cons x l =>
  have R:=RU (x::l);have J:=RV (x::l) (by simp);have s:(0:Int) <(((x::l).length:Nat):Int):=by simp only[Yg];omega
  simp only[s,decide_true,if_true,hl,Ao,b]
  have t:decide ((40:Int) <(c:Int)+(((x::l).length:Nat):Int))=decide (40 < c+(x::l).length):=by
   rw[decide_eq_decide];omega
  have F:decide ((8:Int) <(d:Int)+1)=decide (8 < d+1):=by
   rw[decide_eq_decide];omega
  rw[t,F];by_cases g:40 < c+(x::l).length
  ·have j:Bq k=false:=by
    unfold Bq;simp only[decide_eq_false_iff_not];omega
   dsimp only at q;rw[j]at q;simp only[g,decide_true,if_true];exact r _ _ _ n q
  ·by_cases B:8 < d+1
   ·have j:Bq k=false:=by
     unfold Bq;simp only[decide_eq_false_iff_not];omega
    dsimp only at q;rw[j]at q;simp only[g,B,decide_true,decide_false,if_true,Yq,if_false];exact r _ _ _ n q
   ·simp only[g,B,decide_false,Yq,if_false];refine Ik (f:=λ_=>.bl true) (cst:=[some (.ref (fAt mg "has_form"))]) hl (x::l) none [] (λz o Z X=>?_) (by exact BJ (by simp only[Yi];omega)) ?_
    ·have D:=RW o;exact⟨rfl,z,⟨rfl,hok z o,by omega⟩,X⟩
    ·intro p1 h;rw[Yw,show(λ_:Kd=>W.bl true)=W.bl∘(λ_=>true)from rfl,<- YB];walk_at "pc";have i:((x::l).map λ_=>true).all id=true:=by simp
     rw[i];walk_at "pm";refine⟨x::l,⟨p,rfl,by rw[Aj (AE hl h)];exact hl,by omega⟩,λp2 v=>?_⟩;refine⟨9 -(d+1),by omega,(x::l).flatMap Kd.kids,p2,c+(x::l).length,d+1,?_,Ak,?_,by omega,by omega,?_,by omega,by omega,rfl⟩
     ·simp only[Int.natCast_add,Int.natCast_one]
     ·exact B9 (B9 n h) v
     ·intro y u;obtain⟨z,o,u⟩:=List.mem_flatMap.mp u;exact RY (hok z o) y u
abbrev Tw:Spw:=spR (λ(k:Kd)ws _=>ws=[k.enc]/\k.ok=true/\k.cnt<=1000) λk=>.bl (Bq k)
theorem Ij(T:Tx K mg base a):Df P w K mg base "is_kind" 7 1 Tw:=by
 refine mk0 T.jA rfl SZ AG ((by rintro b G Q E ⟨x,⟨e,_⟩,_⟩;rw[e];rfl)) (kL T (D8 T) (by omega) (CL T) (by omega) (EM T) (Yr _)) λb G Q E d q=>?_;obtain⟨k,⟨rfl,c,hc⟩,q⟩:=q;unfold S3;walk_at "rd";exact⟨k,⟨rfl,c,hc⟩,q⟩
def spG(C:Addr)(f:Kd->W):Spw:=λws G Q E=>∃ k:Kd,(ws=[k.enc]/\k.ok=true/\k.cnt<=1000)/\(Bq k=true->Q (f k) G)/\(Bq k=false->E C G)
theorem Tz{C:Addr}{f:Kd->W}:Spw.M (spG C f):=λa G Q c E b h h'⟨k,h1,q1,q2⟩=>⟨k,h1,λz=>h _ _ (q1 z),λz=>h' _ _ (q2 z)⟩
theorem TB{C:Addr}{f:Kd->W}:∀ a G Q E,spG C f a G Q E->a.length=1:=λa G Q E⟨k,⟨e,_⟩,_⟩=>by rw[e];rfl
theorem CN(T:Tx K mg base a):Df P w K mg base "check_kind" 8 1 (spG a.NoKind λ_=>.non):=by
 refine mkX T.jB rfl S6 Tz TB (g:=λE=>ME K a Tw E) (kM T (Ij T) (Yr _)) λf G Q E e d q=>?_;obtain⟨k,⟨rfl,c,hc⟩,q1,q2⟩:=q;unfold ME;walk_at "rd";refine⟨k,⟨rfl,c,hc⟩,?_⟩;dsimp only;cases b:Bq k with
 | true =>
  walk_at "pm";exact q1 b
 | false =>
  simp only[Bool.not_false,if_true];unfold KS;walk_at "rd";exact⟨by decide,q2 b⟩
abbrev TC:List Str:=["script","k"]
theorem TD:Ax TC ["script","k"] (Aq Me):=by walk_at "s"
def TF:GS:=(Ag (gIf (gTB (Ad (AH (λi j=>decide (i < j)) As) (Ab 1) (gB (rF A0) (Aa (Ab 0) Ac)))) (Ah (Ad (Ae ixW) (Ab 0) (Ab 1))) Ai) (Ah (gC (.int 0))))
theorem k8(T:Tx K mg base a):Dn P w K mg base TC "_law_cell_at" Me k (TF):=by
 have hN:=TD.nd;walk_at "z"
abbrev TH:List Str:=["script","k","cell"]
theorem TJ:Ax TH ["script","k"] (Aq Mf):=by walk_at "s"
def TK(Il:Spw):GS:=(Ag (Ap 2 (Af Il XF (Aa (Ab 0) (Aa (Ab 1) Ac)))) (Ag (gIf (gTB (Ad (AM λi j=>decide (j<=i)) (Ab 2) (Ad (Ay Ep λi j=>i ^ j.toNat) (gC (.int 10)) (gC (.int 18))))) (Ah (Au (Aa (Ad (Ay (λ_ _=>True) λi j=>i - j) (Ab 2) (Ad (Ay Ep λi j=>i ^ j.toNat) (gC (.int 10)) (gC (.int 18)))) (Aa (gC (.bl true)) Ac)))) Ai) (Ah (Au (Aa (Ad (Ay (λ_ j=>0 < j) λi j=>i % j) (Ab 2) (gC (.int 2147483647))) (Aa (gC (.bl false)) Ac))))))
theorem la(T:Tx K mg base a){Io:Nat}(oy:Df P w K mg base "_law_cell_at" Io 2 Il)(oz:Io<=k):Dn P w K mg base TH "_law_state" Mf k (TK Il):=by
 have hN:=TJ.nd;walk_at "z"
abbrev TL:List Str:=["state","many","mixed","found"]
theorem TN:Ax TL ["state","many"] (Aq Mg):=by walk_at "s"
def TQ:GS:=(Ag (gIf (AC (Ad (Ae ixW) (Ab 0) (gC (.int 1)))) (Ag (Ap 3 (Ad (Ay (λ_ j=>0 < j) λi j=>i % j) (Ad (Ae ixW) (Ab 0) (gC (.int 0))) (Ab 1))) (Ag (BF (Ad (Ay E4 λi j=>i / j) (Ad (Ae ixW) (Ab 0) (gC (.int 0))) (Ab 1)) (Ab 0) (gC (.int 0))) (Ah (Ab 3)))) Ai) (Ag (BF (Ad (Ay (λ_ j=>0 < j) λi j=>i % j) (Ad (AZ) (Ad (Ay CMul λi j=>i*j) (Ad (Ae ixW) (Ab 0) (gC (.int 0))) (gC (.int 48271))) (gC (.int 29))) (gC (.int 2147483647))) (Ab 0) (gC (.int 0))) (Ag (Ap 2 (Ad (Ay (λ_ j=>0 < j) λi j=>i % j) (Ad (AZ) (Ad (AZ) (Ad (Ay CMul λi j=>i*j) (Ad (Ae ixW) (Ab 0) (gC (.int 0))) (Ad (Ae ixW) (Ab 0) (gC (.int 0)))) (Ad (Ay CMul λi j=>i*j) (gC (.int 39373)) (Ad (Ae ixW) (Ab 0) (gC (.int 0))))) (gC (.int 7))) (gC (.int 2147483629)))) (Ag (Ap 2 (Ad (Ay (λ_ j=>0 < j) λi j=>i % j) (Ad (AZ) (Ad (Ay CMul λi j=>i*j) (Ab 2) (Ab 2)) (Ad (Ay CMul λi j=>i*j) (gC (.int 16807)) (Ab 2))) (gC (.int 2147483587)))) (Ah (Ad (Ay (λ_ j=>0 < j) λi j=>i % j) (Ad (Ay E4 λi j=>i / j) (Ab 2) (gC (.int 8))) (Ab 1)))))))
theorem lb(T:Tx K mg base a):Dn P w K mg base TL "_law_choice" Mg k (TQ):=by
 have hN:=TN.nd;walk_at "z"
abbrev TR:List Str:=["state","deep","plain","known","fields","some","name","mark"]
theorem TU:Ax TR ["state","deep","plain","known"] (Aq Mh):=by walk_at "s"
def TV(Aw:Spw)(B2:Spw):GS:=(Ag (Ap 4 (Au Ac)) (Ag (Ap 5 (Au (Aa (Au (Aa (gC (.str "a")) (Aa (gC (.str "ab")) (Aa (gC (.str "b")) (Aa (gC (.str "cab")) (Aa (gC (.str "zzzzzzzz")) Ac)))))) (Aa (Au (Aa (gC (.str "any")) (Aa (gC (.str "in")) (Aa (gC (.str "inside")) (Aa (gC (.str "num")) (Aa (gC (.str "out")) Ac)))))) Ac)))) (Ag (AD (gMt BU CJ (Ab 5) (Aa (Au (Aa (gC (.str "aa")) (Aa (gC (.str "new")) (Aa (gC (.str "other")) (Aa (gC (.str "x")) (Aa (gC (.str "zz")) Ac)))))) Ac))) (Ag (AF (AB (Ad (Ae ixW) (Ab 5) (Ad (Ae ixW) (Au (Aa (gC (.int 0)) (Aa (gC (.int 0)) (Aa (gC (.int 1)) (Aa (gC (.int 2)) Ac))))) (Af Aw XF (Aa (Ab 0) (Aa (gC (.int 4)) Ac)))))) (gNm 6) (gIf (AQ (gTB (Ad (Ae (eqF false)) (Af Aw XF (Aa (Ab 0) (Aa (gC (.int 2)) Ac))) (gC (.int 1)))) (gTB (Ad (AM λi j=>decide (j < i)) (Ad (Ae ixW) (Ab 0) (gC (.int 2))) (gC (.int 0))))) (Ag (Ap 7 (Ad (Ae ixW) (Au (Aa (gC (.str "must")) (Aa (gC (.str "may")) Ac))) (Af Aw XF (Aa (Ab 0) (Aa (gC (.int 2)) Ac))))) (AD (gMt BU CJ (Ab 4) (Aa (An (Aa (Ab 6) (Aa (Ab 7) (Aa (Af B2 XF (Aa (Ab 0) (Aa (Ad (Ay (λ_ _=>True) λi j=>i - j) (Ab 1) (gC (.int 1))) (Aa (Ab 2) (Aa (Ab 3) Ac))))) Ac)))) Ac)))) Ai)) (Ah (An (Aa (gC (.str "row")) (Aa (gB (rF AI) (Aa (Ab 4) Ac)) (Aa (AX (Ad (Ae (eqF false)) (Af Aw XF (Aa (Ab 0) (Aa (gC (.int 2)) Ac))) (gC (.int 1))) (Bn (Ab 3))) Ac)))))))))
variable {Aw B2:Spw}
theorem lc(T:Tx K mg base a){AJ:Nat}(Dy:Df P w K mg base "_law_choice" AJ 2 Aw)(Dz:AJ<=k){CO:Nat}(TX:Df P w K mg base "_law_kind" CO 4 B2)(TY:CO<=k):Dn P w K mg base TR "_law_row" Mh k (TV Aw B2):=by
 have hN:=TU.nd;walk_at "z"
abbrev MS:List Str:=["state","deep","plain","known","pick","some"]
theorem MT:Ax MS ["state","deep","plain","known"] (Aq Mi):=by walk_at "s"
def MU(Aw:Spw)(B2:Spw)(Iq:Spw):GS:=(Ag (BF (Ad (Ay (λ_ _=>True) λi j=>i - j) (Ad (Ae ixW) (Ab 0) (gC (.int 2))) (gC (.int 1))) (Ab 0) (gC (.int 2))) (Ag (Ap 4 (Af Aw XF (Aa (Ab 0) (Aa (gC (.int 8)) Ac)))) (Ag (gIf (gOr (gTB (Ad (AH (λi j=>decide (i < j)) As) (Ab 1) (gC (.int 2)))) (gOr (gTB (Ad (AH (λi j=>decide (i < j)) As) (Ad (Ae ixW) (Ab 0) (gC (.int 2))) (gC (.int 2)))) (gTB (Ad (AH (λi j=>decide (i < j)) As) (Ab 4) (gC (.int 2)))))) (Ag (Ap 5 (Au (Aa (An (Aa (gC (.str "num")) Ac)) (Aa (An (Aa (gC (.str "truth")) Ac)) (Aa (An (Aa (gC (.str "any")) Ac)) Ac))))) (Ah (Ad (Ae ixW) (Ab 5) (Af Aw XF (Aa (Ab 0) (Aa (Ad (Ay (λ_ _=>True) λi j=>i - j) (gC (.int 3)) (gB (rF Cw) (Aa (Ab 3) Ac))) Ac)))))) Ai) (Ag (gIf (AQ (gTB (Ad (AH (λi j=>decide (i < j)) As) (Ab 4) (gC (.int 4)))) (gNt (AC (Ab 2)))) (Ah (An (Aa (gC (.str "to")) (Aa (Af B2 XF (Aa (Ab 0) (Aa (Ad (Ay (λ_ _=>True) λi j=>i - j) (Ab 1) (gC (.int 1))) (Aa (Ab 2) (Aa (Ab 3) Ac))))) (Aa (Af B2 XF (Aa (Ab 0) (Aa (Ad (Ay (λ_ _=>True) λi j=>i - j) (Ab 1) (gC (.int 1))) (Aa (Ab 2) (Aa (Ab 3) Ac))))) Ac))))) Ai) (Ag (gIf (AQ (gTB (Ad (Ae (eqF false)) (Ab 4) (gC (.int 4)))) (gNt (AC (Ab 2)))) (Ah (An (Aa (gC (.str "box")) (Aa (Af B2 XF (Aa (Ab 0) (Aa (Ad (Ay (λ_ _=>True) λi j=>i - j) (Ab 1) (gC (.int 1))) (Aa (Ab 2) (Aa (Ab 3) Ac))))) Ac)))) Ai) (Ah (Af Iq XF (Aa (Ab 0) (Aa (Ab 1) (Aa (Ab 2) (Aa (Ab 3) Ac)))))))))))
theorem TZ(T:Tx K mg base a){AJ:Nat}(Dy:Df P w K mg base "_law_choice" AJ 2 Aw)(Dz:AJ<=k){CO:Nat}(TX:Df P w K mg base "_law_kind" CO 4 B2)(TY:CO<=k){Ir:Nat}(oA:Df P w K mg base "_law_row" Ir 4 Iq)(oB:Ir<=k):Dn P w K mg base MS "_law_kind" Mi k (MU Aw B2 Iq):=by
 have hN:=MT.nd;walk_at "z"
abbrev T1:List Str:=["script","k","plain","known","state","deep"]
theorem T2:Ax T1 ["script","k","plain","known"] (Aq Mj):=by walk_at "s"
def T3(BK:Spw)(Aw:Spw)(B2:Spw):GS:=(Ag (Ap 4 (Ad (BI) (Af BK XF (Aa (Ab 0) (Aa (Ab 1) Ac))) (Au (Aa (gC (.int 9)) Ac)))) (Ag (Ap 5 (gC (.int 3))) (Ag (gIf (gTB (Ad (Ae (eqF false)) (Af Aw XF (Aa (Ab 4) (Aa (gC (.int 6)) Ac))) (gC (.int 1)))) (Ag (BF (gC (.int 30)) (Ab 4) (gC (.int 2))) (Ap 5 (gC (.int 8)))) Ai) (Ah (Af B2 XF (Aa (Ab 4) (Aa (Ab 5) (Aa (Ab 2) (Aa (Ab 3) Ac)))))))))
variable {BK:Spw}
theorem lf(T:Tx K mg base a){B3:Nat}(MV:Df P w K mg base "_law_state" B3 2 BK)(MW:B3<=k){AJ:Nat}(Dy:Df P w K mg base "_law_choice" AJ 2 Aw)(Dz:AJ<=k){CO:Nat}(TX:Df P w K mg base "_law_kind" CO 4 B2)(TY:CO<=k):Dn P w K mg base T1 "_law_drawn_kind" Mj k (T3 BK Aw B2):=by
 have hN:=T2.nd;walk_at "z"
local macro_rules | `(tactic| walk_at "rd") => `(tactic| ((try dsimp only [BV,Ba,BO,CK,Dr,Da,Bk,Ag,gIf,Ah,Ap,AD,Ai,Ab,gC,Ad,gTB,AC,gNt,AQ,gOr,AX,Bm,Bn,AT,An,Au,Aa,Ac,Af,gB,rF,Ae,AU,gMt,Bv,Bt,AH,AM,Ay,AZ,Bw,gSl,A9,A8,AR,AB,BH,AF,Ar,Bg,List.map_cons,List.map_nil,List.length_cons,List.length_nil,List.cons_append,List.nil_append,List.getElem?_cons_zero,List.getElem?_cons_succ,List.set_cons_zero,List.set_cons_succ,List.replicate,AO,tyN,Ao,Bb,A5,Bp,ixW,Bc,Bd,Be,A0,BE,Bo,BM,List.getElem?_nil]); (try simp only [BV,Ba,BO,CK,Dr,Da,Bk,Ag,gIf,Ah,Ap,AD,Ai,Ab,gC,Ad,gTB,AC,gNt,AQ,gOr,AX,Bm,Bn,AT,An,Au,Aa,Ac,Af,gB,rF,Ae,AU,gMt,Bv,Bt,AH,AM,Ay,AZ,Bw,gSl,A9,A8,AR,AB,BH,AF,Ar,Bg,List.map_cons,List.map_nil,List.length_cons,List.length_nil,List.cons_append,List.nil_append,List.getElem?_cons_zero,List.getElem?_cons_succ,List.set_cons_zero,List.set_cons_succ,List.replicate,AO,tyN,Ao,Bb,A5,Bp,ixW,Bc,Bd,Be,A0,BE,Bo,BM,List.getElem?_nil])))
theorem lg{ns:List Int}{k:Int}(c:0<=k)(h:k <(ns.length:Int)):∃ v:Int,atI (ns.map W.int) k=some (.int v):=by
 have b:k.toNat < ns.length:=by omega
 have a:k=((k.toNat:Nat):Int):=by omega
 refine⟨ns[k.toNat],?_⟩;have q:atI (ns.map W.int) ((k.toNat:Nat):Int)=some (.int ns[k.toNat]):=Ha (by rw[YS,Yp b] <;> rfl);rw[<- a]at q;exact q
def T4:Spw:=λws G Q _=>∃(ns:List Int)(k:Int),ws=[.rol (ns.map W.int),.int k]/\0<=k/\∀ v:Int,Q (.int v) G
theorem lh:Spw.M T4:=(by rintro a G Q c E b h _ ⟨ns,k,h1,h2,q⟩;exact⟨ns,k,h1,h2,λv=>h _ _ (q v)⟩)
theorem Io(T:Tx K mg base a):Df P w K mg base "_law_cell_at" 1 2 T4:=by
 refine mk0 T.j7 rfl TD lh ((by rintro c G Q E ⟨ns,k,e,_⟩;rw[e];rfl)) (k8 T) λc G Q E f q=>?_;obtain⟨ns,k,rfl,d,q⟩:=q;unfold TF;show Ag _ _ (Ar Q) [some (.rol (ns.map W.int)),some (.int k)] G;by_cases b:k <((ns.map W.int).length:Int)
 ·obtain⟨v,e⟩:=lg d (by simpa using b);simp only[Ag,gIf,gTB,Ad,AH,gB,rF,A0,BE,Aa,Ac,Ab,Yb,Yc,Ao,b,decide_true,if_true,Ae,ixW,e,Ah];exact q v
 ·simp only[Ag,gIf,gTB,Ad,AH,gB,rF,A0,BE,Aa,Ac,Ab,Yb,Yc,Ao,b,decide_false,Yq,if_false,Ai,Ah,gC];exact q 0
def MX:Spw:=λws G Q _=>∃(ns:List Int)(k:Int),ws=[.rol (ns.map W.int),.int k]/\0<=k/\∀ p(x:Int)(b:Bool),G p=none->Q (.ref p) (put G p (.lst [.int x,.bl b]))
theorem li:Spw.M MX:=(by rintro b G Q d E c h _ ⟨ns,k,h1,h2,q⟩;exact⟨ns,k,h1,h2,λp x y a=>h _ _ (q p x y a)⟩)
theorem T5:Ep 10 18:=⟨by decide,by decide,by decide⟩
theorem B3(T:Tx K mg base a):Df P w K mg base "_law_state" 2 2 MX:=by
 refine mk0 (k:=1) T.j8 rfl TJ li ((by rintro c G Q E ⟨ns,k,e,_⟩;rw[e];rfl)) (la T (Io T) (Yr _)) λc G Q E f q=>?_;obtain⟨ns,k,rfl,d,q⟩:=q;unfold TK;show Ag _ _ (Ar Q) [some (.rol (ns.map W.int)),some (.int k),none] G;refine⟨ns,k,rfl,d,λv=>?_⟩;walk_at "rd";refine⟨T5,?_⟩;refine Bu (λh=>?_) (λh=>?_)
 ·exact⟨T5,trivial,by decide,λp b=>q p _ _ b⟩
 ·exact⟨by decide,by decide,λp b=>q p _ _ b⟩
def BP:Spw:=λws G Q _=>∃(s:Addr)(m x:Int)(b:Bool)(l:List W),ws=[.ref s,.int m]/\0 < m/\m < 1267650600228229401496703205376/\G s=some (.lst (.int x::.bl b::l))/\∀ r x':Int,0<=r->r < m->Q (.int r) (put G s (.lst (.int x'::.bl b::l)))
theorem lj:Spw.M BP:=(by rintro i G Q j E g h _ ⟨s,m,x,b,l,h1,h2,d,f,q⟩;exact⟨s,m,x,b,l,h1,h2,d,f,λr e c a=>h _ _ (q r e c a)⟩)
theorem ll(n:Nat):ixN (n+1) 0=some 0:=by unfold ixN;rw[if_pos (Int.le_refl 0),if_pos (by omega)];rfl
theorem lm(n:Nat):ixN (n+3) 2=some 2:=by unfold ixN;rw[if_pos (by decide),if_pos (by omega)];rfl
variable {s:Addr}
theorem T6{x v:W}{l:List W}{Q:Hw->Prop}(h:G s=some (.lst (x::l)))(q:Q (put G s (.lst (v::l)))):C9 (.ref s) (.int 0) v G Q:=KM h (ll l.length) q
variable {y z:W}
theorem MY{x v:W}{Q:Hw->Prop}(h:G s=some (.lst [x,y,z]))(q:Q (put G s (.lst [x,y,v]))):C9 (.ref s) (.int 2) v G Q:=KM h (lm 0) q
theorem ix0{x:W}{l:List W}(h:G s=some (.lst (x::l))):ixW (.ref s) (.int 0) G=some x:=by rw[BZ h];exact Bb
theorem ix1{x:W}{l:List W}(h:G s=some (.lst (x::y::l))):ixW (.ref s) (.int 1) G=some y:=by rw[BZ h];exact A5
theorem ix2{x:W}{l:List W}(h:G s=some (.lst (x::y::z::l))):ixW (.ref s) (.int 2) G=some z:=by rw[BZ h];exact Bp
theorem T7{x m:Int}(b:0<=x)(h1:x < m)(a:m<=2147483647):-(2 ^ 64) < x/\x < 2 ^ 64:=by
 have:(2:Int) ^ 64=18446744073709551616:=by decide
 rw[this];omega
theorem AJ(T:Tx K mg base a):Df P w K mg base "_law_choice" 1 2 BP:=by
 refine mk0 T.j9 rfl TN lj ((by rintro p G Q E ⟨s,m,x,b,l,e,_⟩;rw[e];rfl)) (lb T) λp G Q E r q=>?_;obtain⟨s,m,x,b,l,rfl,c,i,f,q⟩:=q;unfold TQ;show Ag (gIf _ _ Ai) _ (Ar Q) [some (.ref s),some (.int m),none,none] G;simp only[Ag,gIf,AC,Ad,Ae,Ab,gC,Yb,Yc,ix1 f,Ao,AO];cases b with
 | true =>
  simp only[if_true,Ag,Ap,BF,Ad,Ay,Ae,Ab,gC,Ah,Ar,Yb,Yc,Yk,Yl,ix0 f,Ao];refine⟨c,?_⟩;refine⟨⟨c,i⟩,?_⟩;refine T6 f ?_;exact q _ _ (Int.emod_nonneg _ (by omega)) (Int.emod_lt_of_pos _ c)
 | false =>
  simp only[Yq,if_false,Ai,Ag,BF,Ad,Ay,Ae,gC,Ab,Yb,Yc,ix0 f,Ao,Dq,BI,AZ];refine⟨.inr ⟨by decide,by decide⟩,by decide,?_⟩;refine T6 f ?_;generalize h:(x*48271+29) % 2147483647=d;have j:0<=d:=by rw[<- h];exact Int.emod_nonneg _ (by decide)
  have k:d < 2147483647:=by rw[<- h];exact Int.emod_lt_of_pos _ (by decide)
  have h2:put G s (.lst (.int d::.bl false::l)) s=some (.lst (.int d::.bl false::l)):=Ak;simp only[Ap,Ad,Ay,Ae,gC,Ab,Yb,Yc,Yk,Yl,ix0 h2,Ao,Ah,Ar,Dq,BI,AZ];refine⟨.inl (T7 j k (by decide)),.inl ⟨by decide,by decide⟩,by decide,?_⟩;generalize g:(d*d+39373*d+7) % 2147483629=x3;have o:0<=x3:=by rw[<- g];exact Int.emod_nonneg _ (by decide)
  have n:x3 < 2147483629:=by rw[<- g];exact Int.emod_lt_of_pos _ (by decide)
  refine⟨.inl (T7 o n (by decide)),.inl ⟨by decide,by decide⟩,(show(0:Int) < 2147483587 by decide),?_⟩;refine⟨⟨by decide,by decide⟩,c,?_⟩;exact q _ _ (Int.emod_nonneg _ (by omega)) (Int.emod_lt_of_pos _ c)
theorem CC{ps:List Str}(Fx:Fn K mg st x ps)(m:sp.M)(no:∀ a G Q E,¬ sp a G Q E):Df P w K mg base x k ps.length sp:=by
 obtain⟨f,fd,h1,F,c⟩:=Fx;exact⟨⟨f,fd,_,h1,F.kp,c,rfl,⟨(by rintro d H Q E ⟨a,G,t,r,q⟩;exact absurd q (no _ _ _ _)),(by rintro A outer s H b e d Q E _ _ _ _ ⟨a,G,t,r,q⟩;exact absurd q (no _ _ _ _))⟩⟩,m⟩
def Gv:Spw:=λ_ _ _ _=>False
theorem MZ:Spw.M Gv:=λ_ _ _ _ _ _ _ _ q=>q
theorem Iu(a:G p=some (.lst xs))(hl:xs.length < sizeLine)(q:Q .non (put G p (.lst (xs++[y])))):CJ (.ref p) [y] G Q:=by
 unfold CJ;refine KP a ?_ q;rw[if_pos hl]
def Cg(m:Nat)(ns:List Str):Bool:=decide (ns.length<=m)
variable {m:Nat}{ns:List Str}
theorem FC(h:Cg m ns=true):ns.length<=m:=of_decide_eq_true h
theorem M0(h:ns.length<=m):Cg m ns=true:=YI h
theorem lp{a:List Str}(s:a.Sublist ns)(h:Cg m ns=true):Cg m a=true:=YI (Yt s.length_le (FC h))
mutual
def Kd.thr(m:Nat):Kd->Bool
 | .to a b=>a.thr m&&b.thr m
 | .box a=>a.thr m
 | .row fs _=>Cg m fs.names&&fs.thr m
 | _=>true
def Fs.thr(m:Nat):Fs->Bool
 | .nil=>true
 | .cons _ _ k r=>k.thr m&&r.thr m
end
def wf(m:Nat)(k:Kd):Prop:=k.ok=true/\k.thr m=true
mutual
def Kd.dpr:Kd->Nat
 | .to a b=>1+max a.dpr b.dpr
 | .box a=>1+a.dpr
 | .row fs _=>1+max 1 fs.dpr
 | _=>1
def Fs.dpr:Fs->Nat
 | .nil=>0
 | .cons _ _ k r=>max k.dpr r.dpr
end
mutual
def Kd.knw:Kd->Bool
 | .any=>false
 | .to a b=>a.knw&&b.knw
 | .box a=>a.knw
 | .row fs o=>!o&&fs.knw
 | _=>true
def Fs.knw:Fs->Bool
 | .nil=>true
 | .cons _ _ k r=>k.knw&&r.knw
end
mutual
def Kd.dat:Kd->Bool
 | .to _ _=>false
 | .box _=>false
 | .row fs _=>fs.dat
 | _=>true
def Fs.dat:Fs->Bool
 | .nil=>true
 | .cons _ _ k r=>k.dat&&r.dat
end
def kdt(kn:Bool)(k:Kd):Prop:=k.dat=true/\(kn=true->k.knw=true)
mutual
theorem FD:∀ k:Kd,k.dp<=k.dpr
 | .any=>Yr _
 | .num=>Yr _
 | .truth=>Yr _
 | .to a b=>by have:=FD a;have:=FD b;show 1+max a.dp b.dp<=1+max a.dpr b.dpr;omega
 | .box a=>by have:=FD a;show 1+a.dp<=1+a.dpr;omega
 | .row fs o=>by have:=T8 fs;show 1+fs.dp<=1+max 1 fs.dpr;omega
theorem T8:∀ fs:Fs,fs.dp<=fs.dpr
 | .nil=>Yr _
 | .cons _ _ k r=>by have:=FD k;have:=T8 r;show max k.dp r.dp<=max k.dpr r.dpr;omega
end
def Az(x:Str×Bool×Kd):W:=.tup [.str x.1,.str (mark x.2.1),x.2.2.enc]
def ofL:List (Str×Bool×Kd)->Fs
 | []=>.nil
 | x::l=>.cons x.1 x.2.1 x.2.2 (ofL l)
theorem DA:∀ l,(ofL l).enc=l.map Az
 | []=>rfl
 | x::l=>by show Az x::(ofL l).enc=Az x::l.map Az;rw[DA l]
theorem EQ:∀ l,(ofL l).names=l.map (·.1)
 | []=>rfl
 | x::l=>by show x.1::(ofL l).names=x.1::l.map (·.1);rw[EQ l]
theorem M1{n:Nat}:∀ l:List (Str×Bool×Kd),(∀ y∈l,y.2.2.dp<=n)->(ofL l).dp<=n
 | [],_=>YY _
 | x::l,h=>by
  have h1:=h x Ye;have h2:=M1 l λy a=>h y (Yd _ a);show max x.2.2.dp (ofL l).dp<=n;omega
theorem T9{n:Nat}:∀ l:List (Str×Bool×Kd),(∀ y∈l,y.2.2.dpr<=n)->(ofL l).dpr<=n
 | [],_=>YY _
 | x::l,h=>by
  have h1:=h x Ye;have h2:=T9 l λy a=>h y (Yd _ a);show max x.2.2.dpr (ofL l).dpr<=n;omega
theorem Ua:∀ l:List (Str×Bool×Kd),(∀ y∈l,y.2.2.knw=true)->(ofL l).knw=true
 | [],_=>rfl
 | y::l,h=>by
  show(y.2.2.knw&&(ofL l).knw)=true;rw[h y Ye,Ua l λz a=>h z (Yd _ a)];rfl
theorem Iv:∀ l:List (Str×Bool×Kd),(∀ y∈l,y.2.2.dat=true)->(ofL l).dat=true
 | [],_=>rfl
 | y::l,h=>by
  show(y.2.2.dat&&(ofL l).dat)=true;rw[h y Ye,Iv l λz a=>h z (Yd _ a)];rfl
theorem Ub{M:Nat}:∀ l:List (Str×Bool×Kd),(∀ y∈l,AK y.1=true/\wf M y.2.2)->(ofL l).ok=true/\(ofL l).thr M=true
 | [],_=>⟨rfl,rfl⟩
 | x::l,h=>by
  obtain⟨h1,h2,c⟩:=h x Ye;obtain⟨b,a⟩:=Ub l λy d=>h y (Yd _ d);constructor
  ·show(AK x.1&&x.2.2.ok&&(ofL l).ok)=true;rw[h1,h2,b];rfl
  ·show(x.2.2.thr M&&(ofL l).thr M)=true;rw[c,a];rfl
theorem Uc:∀(l a:List (Str×Bool×Kd)),(ofL (l++a)).cnt=(ofL l).cnt+(ofL a).cnt
 | [],a=>by show(ofL a).cnt=0+(ofL a).cnt;omega
 | x::l,a=>by show x.2.2.cnt+(ofL (l++a)).cnt=x.2.2.cnt+(ofL l).cnt+(ofL a).cnt;rw[Uc l a];omega
theorem M2:∀{ns:List Str},ns.Pairwise (λx y=>As x y=true)->rise ns=true
 | [],_=>rfl
 | [_],_=>rfl
 | x::y::r,h=>by
  show(As x y&&rise (y::r))=true;cases h with
  | cons h1 h2=>rw[h1 y Ye,M2 h2];rfl
variable {o:Bool}
theorem M3{l:List (Str×Bool×Kd)}(h1:(l.map (·.1)).Pairwise (λx y=>As x y=true))(h2:Cg M (l.map (·.1))=true)(c:∀ y∈l,AK y.1=true/\wf M y.2.2):wf M (.row (ofL l) o):=by
 obtain⟨b,a⟩:=Ub l c;constructor
 ·show(rise (ofL l).names&&(ofL l).ok)=true;rw[EQ,M2 h1,b];rfl
 ·show(Cg M (ofL l).names&&(ofL l).thr M)=true;rw[EQ,h2,a];rfl
def gk(d c:Int)(kn:Bool)(k:Kd):Prop:=wf 5 k/\(k.dpr:Int)<=d/\(k.cnt:Int)<=max c 1+(d - 1)/\(c<=2->k.cnt=1)/\kdt kn k
def DB(n:Nat):Spw:=λws G Q _=>∃(s:Addr)(x d c:Int)(b kn:Bool),ws=[.ref s,.int d,.bl true,.bl kn]/\1<=d/\d<=(n:Int)+1/\G s=some (.lst [.int x,.bl b,.int c])/\∀(k:Kd)(x':Int),gk d c kn k->Q k.enc (put G s (.lst [.int x',.bl b,.int (c - k.cnt)]))
theorem Ud:Spw.M (DB n):=(by rintro l G Q m E j h _ ⟨s,x,d,c,b,a,h1,h2,e,i,q⟩;exact⟨s,x,d,c,b,a,h1,h2,e,i,λk f g=>h _ _ (q k f g)⟩)
def M4(n:Nat):Spw:=λws G Q _=>∃(s:Addr)(x d c:Int)(b kn:Bool),ws=[.ref s,.int d,.bl true,.bl kn]/\2<=d/\d<=(n:Int)+2/\2<=c/\G s=some (.lst [.int x,.bl b,.int c])/\∀(k:Kd)(x':Int),wf 5 k->(k.dpr:Int)<=d->1<=k.cnt->(k.cnt:Int)<=c+d - 1->kdt kn k->Q k.enc (put G s (.lst [.int x',.bl b,.int (c+1 - k.cnt)]))
theorem lq:Spw.M (M4 n):=(by rintro m G Q o E l h _ ⟨s,x,d,c,b,e,h1,h2,g,j,f,q⟩;exact⟨s,x,d,c,b,e,h1,h2,g,j,f,λk i g1 g2 g3 g4 a=>h _ _ (q k i g1 g2 g3 g4 a)⟩)
def Gw(xs:List Str):Prop:=xs.Pairwise (λx y=>As x y=true)/\(∀ x∈xs,AK x=true)/\xs.length<=5
abbrev gRB(sp:Spw):GS:=(gIf (AQ (gTB (Ad (Ae (eqF false)) (Af BP XF (Aa (Ab 0) (Aa (gC (.int 2)) Ac))) (gC (.int 1)))) (gTB (Ad (AM λi j=>decide (j < i)) (Ad (Ae ixW) (Ab 0) (gC (.int 2))) (gC (.int 0))))) (Ag (Ap 7 (Ad (Ae ixW) (Au (Aa (gC (.str "must")) (Aa (gC (.str "may")) Ac))) (Af BP XF (Aa (Ab 0) (Aa (gC (.int 2)) Ac))))) (AD (gMt BU CJ (Ab 4) (Aa (An (Aa (Ab 6) (Aa (Ab 7) (Aa (Af sp XF (Aa (Ab 0) (Aa (Ad (Ay (λ_ _=>True) λi j=>i - j) (Ab 1) (gC (.int 1))) (Aa (Ab 2) (Aa (Ab 3) Ac))))) Ac)))) Ac)))) Ai)
variable {r:Int}
theorem Ue(a:0<=r)(h2:r < 2):∃ b:Bool,atI [W.str "must",W.str "may"] r=some (.str (mark b)):=by
 have:r=0\/r=1:=by omega
 rcases this with e | e
 ·exact⟨true,by rw[e];exact Bb⟩
 ·exact⟨false,by rw[e];exact A5⟩
theorem M5{n:Nat}{D:Ew}{s p H:Addr}{d c:Int}{b:Bool}{items:List W}{T:Option W}(J:2<=d)(K:d<=(n:Int)+2)(hc:2<=c):∀(xs:List Str)(U y:Option W)(G:Hw)(l:List (Str×Bool×Kd))(x a:Int),G s=some (.lst [.int x,.bl b,.int a])->G p=some (.lst (l.map Az))->G H=some (.lst items)->p≠s->H≠s->H≠p->l.length+xs.length<=100->a=c -(ofL l).cnt->((ofL l).cnt:Int)<=c+d - 2->
  (∀ ω w j O,(∃ u v,ω=[some (.ref s),some (.int d),some (.bl true),some (.bl I),some (.ref p),T,u,v])->w s=some (.lst [.int O,.bl b,.int (c -(ofL (l++j)).cnt)])->((ofL (l++j)).cnt:Int)<=c+d - 2->w p=some (.lst ((l++j).map Az))->(∀ b,b≠s->b≠p->∀ u,G b=some u->w b=some u)->(j.map (·.1)).Sublist xs->(∀ z∈j,wf 5 z.2.2/\(z.2.2.dpr:Int)<=d - 1/\kdt I z.2.2)->D.nx ω w)->
  AY (holds H items) (gNm 6) (gRB (DB n)) D (xs.map W.str) [some (.ref s),some (.int d),some (.bl true),some (.bl I),some (.ref p),T,U,y] G
 | [],U,y,G,l,x,a,hs,hp,P,_,_,_,_,e0,e1,q=>⟨P,q _ G [] x ⟨U,y,rfl⟩ (by rw[Yx,<- e0];exact hs) (by rw[Yx];exact e1) (by rw[Yx];exact hp) (λb _ _ u h=>h) (.refl _) (by intro z N;cases N)⟩
 | nm::xs,U,y,G,l,x,a,hs,hp,P,e,g,F,hl,e0,e1,q=>by
  refine⟨P,?_⟩;show gRB (DB n) _ [some (.ref s),some (.int d),some (.bl true),some (.bl I),some (.ref p),T,some (.str nm),y] G;have hlx:l.length+(xs.length+1)<=100:=hl;simp only[gIf,AQ,gTB,Ad,Af,Aa,Ac,Ab,gC,Ae,Yb,Yc];refine⟨s,2,x,b,[.int a],rfl,by decide,by decide,hs,λr f r0 r1=>?_⟩;have o:put G s (.lst [.int f,.bl b,.int a]) s=some (.lst [.int f,.bl b,.int a]):=Ak;have E:put G s (.lst [.int f,.bl b,.int a]) p=some (.lst (l.map Az)):=by rw[Aj e];exact hp
  have A:put G s (.lst [.int f,.bl b,.int a]) H=some (.lst items):=by rw[Aj g];exact P
  have skip:∀ y,AY (holds H items) (gNm 6) (gRB (DB n)) D (xs.map W.str) [some (.ref s),some (.int d),some (.bl true),some (.bl I),some (.ref p),T,some (.str nm),y] (put G s (.lst [.int f,.bl b,.int a])):=λy=>by
   refine M5 J K hc xs _ _ _ l f a o E A e g F (by omega) e0 e1 ?_;intro ω w j O hω Q i X f3 f4 f5;exact q ω w j O hω Q i X (λc B R u Z=>f3 c B R u (by rw[Aj B];exact Z)) (f4.cons nm) f5
  show opt (eqF false (.int r) (.int 1) (put G s (.lst [.int f,.bl b,.int a]))) _;rw[show eqF false (.int r) (.int 1) (put G s (.lst [.int f,.bl b,.int a]))=some (.bl (r==1)) by unfold eqF eqW;show some (W.bl ((r==1) != false))=_;cases(r==1) <;> rfl,Ao];dsimp only;cases(r==1)with
  | false=>exact skip _
  | true =>
   rw[if_pos rfl,ix2 o,Ao];show if decide (0 < a)=true then _ else _
   by_cases h0:0 < a
   ·rw[if_pos (YI h0)];simp only[Ag,Ap,Ad,Au,Af,Aa,Ac,Ab,gC,Ae,Yb,Yc];refine⟨(Qzz 2),λp2 t=>?_⟩;have n2:s≠p2:=AE o t;have n3:p≠p2:=AE E t;have n4:H≠p2:=AE A t;refine⟨s,2,f,b,[.int a],rfl,by decide,by decide,by rw[Aj n2];exact o,λr2 x2 Y r21=>?_⟩;obtain⟨m,em⟩:=Ue Y r21
    have fm:ixW (.ref p2) (.int r2) (put (put (put G s (.lst [.int f,.bl b,.int a])) p2 (.lst [.str "must",.str "may"])) s (.lst [.int x2,.bl b,.int a]))=some (.str (mark m)):=by
     rw[BZ (by rw[Aj (YZ n2)];exact Ak)];exact em
    rw[fm,Ao];simp only[AD,gMt,An,Ad,Af,Ay,Aa,Ac,Ab,gC,Yk,Yl,Yb,Yc];have L:put (put (put G s (.lst [.int f,.bl b,.int a])) p2 (.lst [.str "must",.str "may"])) s (.lst [.int x2,.bl b,.int a]) p=some (.lst (l.map Az)):=by rw[Aj e,Aj n3];exact E
    refine⟨EO L,trivial,s,x2,d - 1,a,b,I,rfl,by omega,by omega,Ak,λk x3 S=>?_⟩;refine⟨(Qzz 3),?_⟩;refine Iu (by rw[Aj e];exact L) (by rw[Yh];exact Dt (by omega)) ?_;have ee:l.map Az++[W.tup [.str nm,.str (mark m),k.enc]]=(l++[(nm,m,k)]).map Az:=by rw[Yy];rfl
    rw[ee];have ec:(ofL (l++[(nm,m,k)])).cnt=(ofL l).cnt+k.cnt:=by rw[Uc];rfl
    have hk3:=S.2.2.1;refine M5 J K hc xs _ _ _ (l++[(nm,m,k)]) x3 (a - k.cnt) (by rw[Aj (YZ e)];exact Ak) Ak ?_ e g F (by rw[Yj];simp only[Yg,Yi];omega) (by rw[ec];omega) (by rw[ec];omega) ?_
    ·rw[Aj F,Aj g,Aj g,Aj n4];exact A
    ·intro ω w j O hω Q i X f3 f4 f5;rw[Yv]at Q i X;refine q ω w ((nm,m,k)::j) O hω Q i X (λc B R u Z=>f3 c B R u ?_) (f4.cons_cons nm) ?_
     ·have hc:put G s (.lst [.int f,.bl b,.int a]) c=some u:=by rw[Aj B];exact Z
      rw[Aj R,Aj B,Aj B,Aj (AE hc t)];exact hc
     ·intro z N;rcases Yo.mp N with rfl | N
      ·exact⟨S.1,S.2.1,S.2.2.2.2⟩
      ·exact f5 z N
   ·rw[if_neg (by simpa using h0)];exact skip _
theorem lr{d:Hw}(g:G p=none)(h:∀ b,b≠s->b≠p->∀ u,G b=some u->d b=some u)(f:d s=some S):Sub (put G s S) d:=λb u a=>by
 by_cases c:b=s
 ·subst c;rw[Ak]at a;rw[f];exact a
 ·rw[Aj c]at a;exact h b c (λe=>by subst e;rw[g]at a;cases a) u a
abbrev LA:List Str:=["a","ab","b","cab","zzzzzzzz"]
abbrev LB':List Str:=["any","in","inside","num","out"]
abbrev LC':List Str:=["aa","new","other","x","zz"]
theorem Ug:Gw LA:=⟨by decide +kernel,by decide +kernel,by decide⟩
theorem ls:Gw LB':=⟨by decide +kernel,by decide +kernel,by decide⟩
theorem lu:Gw LC':=⟨by decide +kernel,by decide +kernel,by decide⟩
abbrev gRT(sp:Spw):GS:=Ag (AF (AB (Ad (Ae ixW) (Ab 5) (Ad (Ae ixW) (Au (Aa (gC (.int 0)) (Aa (gC (.int 0)) (Aa (gC (.int 1)) (Aa (gC (.int 2)) Ac))))) (Af BP XF (Aa (Ab 0) (Aa (gC (.int 4)) Ac)))))) (gNm 6) (gRB sp)) (Ah (An (Aa (gC (.str "row")) (Aa (gB (rF AI) (Aa (Ab 4) Ac)) (Aa (AX (Ad (Ae (eqF false)) (Af BP XF (Aa (Ab 0) (Aa (gC (.int 2)) Ac))) (gC (.int 1))) (Bn (Ab 3))) Ac)))))
variable {b:Bool}
theorem lv{p3:Addr}{x d c:Int}{F:Bool}(hC:Kw.C Q)(S:2<=d)(X:d<=(n:Int)+2)(hc:2<=c)(K:G s=some (.lst [.int x,.bl b,.int c]))(hp:G p=some (.lst []))(H:p≠s)
  (h3:G p3=some (.lst [.ref p1,.ref p2,.ref I])) (h1:G p1=some (.lst (LA.map W.str))) (h2:G p2=some (.lst (LB'.map W.str))) (h4:G I=some (.lst (LC'.map W.str)))
  (q:∀(k:Kd)(x':Int)g,wf 5 k->(k.dpr:Int)<=d->1<=k.cnt->(k.cnt:Int)<=c+d - 1->kdt F k->g s=some (.lst [.int x',.bl b,.int (c+1 - k.cnt)])->(∀ b,b≠s->b≠p->∀ u,G b=some u->g b=some u)->Q k.enc g):
  gRT (DB n) (Ar Q) [some (.ref s),some (.int d),some (.bl true),some (.bl F),some (.ref p),some (.ref p3),none,none] G:=by
 unfold gRT;simp only[Ag,AF,AB,Ad,Au,Af,Aa,Ac,Ab,gC,Ae,Yb,Yc];refine⟨(Qzz 4),λt e5=>?_⟩
 have U:∀{r:Addr}{L:List W},G r=some (.lst L)->L.length≠3->r≠s:=λh P e=>by
  subst e;rw[K]at h;cases h;exact P rfl
 have n5:s≠t:=AE K e5;refine⟨s,4,x,b,[.int c],rfl,by decide,by decide,by rw[Aj n5];exact K,λr A r0 r1=>?_⟩
 have keep:∀ a,a≠s->∀ u,G a=some u->put (put G t (.lst [.int 0,.int 0,.int 1,.int 2])) s (.lst [.int A,.bl b,.int c]) a=some u:=λa ha u J=>by
  rw[Aj ha,Aj (AE J e5)];exact J
 have f5:put (put G t (.lst [.int 0,.int 0,.int 1,.int 2])) s (.lst [.int A,.bl b,.int c]) t=some (.lst [.int 0,.int 0,.int 1,.int 2]):=by rw[Aj (YZ n5)];exact Ak
 have fs:put (put G t (.lst [.int 0,.int 0,.int 1,.int 2])) s (.lst [.int A,.bl b,.int c]) s=some (.lst [.int A,.bl b,.int c]):=Ak
 have n3:p3≠s:=λe=>by
  subst e;rw[K]at h3;have:=HW.lst.inj (YF h3);cases this
 generalize put (put G t (.lst [.int 0,.int 0,.int 1,.int 2])) s (.lst [.int A,.bl b,.int c])=G1 at keep f5 fs ⊢
 have E:∃(pn:Addr)(L:List Str),Gw L/\(∃ j:Int,atI [W.int 0,.int 0,.int 1,.int 2] r=some (.int j)/\atI [W.ref p1,.ref p2,.ref I] j=some (.ref pn))/\G pn=some (.lst (L.map W.str))/\L.length≠3/\L≠[]:=by
  have:r=0\/r=1\/r=2\/r=3:=by omega
  rcases this with rfl | rfl | rfl | rfl
  ·exact⟨p1,LA,Ug,⟨0,rfl,rfl⟩,h1,by decide,by decide⟩
  ·exact⟨p1,LA,Ug,⟨0,rfl,rfl⟩,h1,by decide,by decide⟩
  ·exact⟨p2,LB',ls,⟨1,rfl,rfl⟩,h2,by decide,by decide⟩
  ·exact⟨I,LC',lu,⟨2,rfl,rfl⟩,h4,by decide,by decide⟩
 obtain⟨pn,L,N,⟨j,Y,ej2⟩,B,hl3,hl0⟩:=E;show opt (ixW (.ref t) (.int r) G1) _;rw[BZ f5,Y,Ao,BZ (keep p3 n3 _ h3),ej2,Ao];have m:pn≠s:=U B (by rw[Yh];exact hl3)
 have Z:pn≠p:=λe=>by
  subst e;rw[hp]at B;have:=HW.lst.inj (YF B);cases L with
  | nil=>exact hl0 rfl
  | cons y L=>cases this
 simp only[keep pn m _ B];refine M5 (n:=n) (c:=c) S X hc L none none G1 [] A c fs (keep p H _ hp) (keep pn m _ B) H m Z (by have:=N.2.2;simp only[Yi];omega) (by show c=c -((0:Nat):Int);omega) (by show((0:Nat):Int)<=c+d - 2;omega) ?_;intro ω g f x' hω f1 f1' f2 f3 f4 i;obtain⟨u,v,rfl⟩:=hω;rw[Yw]at f1 f1' f2;simp only[Ah,An,gB,AX,Bn,Ad,Af,Aa,Ac,Ab,gC,Ae,rF,Yb,Yc];rw[show AI [.ref p] g=some (.tup (f.map Az)) by unfold AI;dsimp only;rw[D1 f2];rfl,Ao];refine⟨s,2,x',b,[.int (c -(ofL f).cnt)],rfl,by decide,by decide,f1,λw D _ _=>?_⟩
 have done:∀ o:Bool,(F=true->o=false)->3<=sizeLine/\Q (.tup [.str "row",.tup (f.map Az),.bl o]) (put g s (.lst [.int D,.bl b,.int (c -(ofL f).cnt)])):=λo O=>by
  refine⟨by decide,?_⟩;have R:Cg 5 (f.map (·.1))=true:=M0 (by have h1:=f4.length_le;have:=N.2.2;omega);have wk:wf 5 (.row (ofL f) o):=M3 (N.1.sublist f4) R λy l=>⟨N.2.1 _ (f4.subset (YN l)),(i y l).1⟩;have ek:(Kd.row (ofL f) o).cnt=1+(ofL f).cnt:=rfl;have hdp:(ofL f).dpr<=(d - 1).toNat:=T9 f λy l=>by have:=(i y l).2.1;omega
  have ed:(Kd.row (ofL f) o).dpr=1+max 1 (ofL f).dpr:=rfl
  have T:kdt F (Kd.row (ofL f) o):=⟨Iv f λy l=>(i y l).2.2.1,λz=>by
   show(!o&&(ofL f).knw)=true;rw[O z,Ua f λy l=>(i y l).2.2.2 z];rfl⟩
  have:=q (.row (ofL f) o) D (put g s (.lst [.int D,.bl b,.int (c -(ofL f).cnt)])) wk (by rw[ed];omega) (by rw[ek];omega) (by rw[ek];omega) T (by rw[Ak,ek,show c+1 -((1+(ofL f).cnt:Nat):Int)=c -(ofL f).cnt by omega]) λa h1 h2 u J=>by
   rw[Aj h1];exact f3 a h1 h2 u (keep a h1 u J)
  rw[show(Kd.row (ofL f) o).enc=.tup [.str "row",.tup (f.map Az),.bl o] by rw[<- DA];rfl]at this;exact this
 show opt (eqF false (.int w) (.int 1) (put g s (.lst [.int D,.bl b,.int (c -(ofL f).cnt)]))) _;rw[show eqF false (.int w) (.int 1) (put g s (.lst [.int D,.bl b,.int (c -(ofL f).cnt)]))=some (.bl (w==1)) by unfold eqF eqW;show some (W.bl ((w==1) != false))=_;cases(w==1) <;> rfl,Ao];dsimp only;cases(w==1)with
 | false=>exact done false (λ_=>rfl)
 | true=>rw[if_pos rfl];exact done (!F) (λz=>by rw[z];rfl)
theorem Ir(T:Tx K mg base a)(hm:1<=m)(D:Df P w K mg base "_law_kind" m 4 (DB n)):Df P w K mg base "_law_row" (m+1) 4 (M4 n):=by
 refine mk0 (k:=m) T.Sa rfl TU lq ((by rintro ws G Q E ⟨s,x,d,c,b,N,e,_⟩;rw[e];rfl)) (lc T (AJ T) hm D (Yr _)) λws G Q E H q=>?_;obtain⟨s,x,d,c,b,N,rfl,j,t,hc,I,q⟩:=q;unfold TV;show Ag (Ap 4 (Au Ac)) _ (Ar Q) [some (.ref s),some (.int d),some (.bl true),some (.bl N),none,none,none,none] G;simp only[Ag,Ap,Au,Aa,Ac,gC,Yk,Yl];refine⟨(Qzz 0),λp i=>⟨(Qzz 5),λp1 Y=>⟨(Qzz 5),λp2 e2=>⟨(Qzz 2),λp3 F=>?_⟩⟩⟩⟩;have y:p≠s:=YZ (AE I i);have s0:Sub G (put G p (.lst [])):=A1 i;have Z:put G p (.lst []) p=some (.lst []):=Ak;generalize put G p (.lst [])=G0 at *;have L:Sub G0 (put G0 p1 (.lst [.str "a",.str "ab",.str "b",.str "cab",.str "zzzzzzzz"])):=A1 Y;have S:put G0 p1 (.lst [.str "a",.str "ab",.str "b",.str "cab",.str "zzzzzzzz"]) p1=some (.lst (LA.map W.str)):=Ak;generalize put G0 p1 (.lst [.str "a",.str "ab",.str "b",.str "cab",.str "zzzzzzzz"])=G1 at *;have l:Sub G1 (put G1 p2 (.lst [.str "any",.str "in",.str "inside",.str "num",.str "out"])):=A1 e2;have f2:put G1 p2 (.lst [.str "any",.str "in",.str "inside",.str "num",.str "out"]) p2=some (.lst (LB'.map W.str)):=Ak;generalize put G1 p2 (.lst [.str "any",.str "in",.str "inside",.str "num",.str "out"])=G2 at *;have J:Sub G2 (put G2 p3 (.lst [.ref p1,.ref p2])):=A1 F;have g:put G2 p3 (.lst [.ref p1,.ref p2]) p3=some (.lst [.ref p1,.ref p2]):=Ak;have z:=F;generalize put G2 p3 (.lst [.ref p1,.ref p2])=G3 at J g ⊢;simp only[AD,gMt,Ab,Aa,Ac,Au,gC,Yb,Yc];refine⟨EO g,(Qzz 5),λf v=>?_⟩;have A:Sub G3 (put G3 f (.lst [.str "aa",.str "new",.str "other",.str "x",.str "zz"])):=A1 v;have O:put G3 f (.lst [.str "aa",.str "new",.str "other",.str "x",.str "zz"]) f=some (.lst (LC'.map W.str)):=Ak;generalize put G3 f (.lst [.str "aa",.str "new",.str "other",.str "x",.str "zz"])=G4 at A O ⊢;refine Iu (A _ _ g) (show 2 < sizeLine by decide) ?_;have S2:Sub G G2:=(s0.trans L).trans l;have n3:∀{r:Addr}{o:HW},G2 r=some o->r≠p3:=λh=>AE h z;have keep:∀ r o,G2 r=some o->put G4 p3 (.lst ([.ref p1,.ref p2]++[.ref f])) r=some o:=λr o h=>by rw[Aj (n3 h)];exact A _ _ (J _ _ h)
 have B:f≠p3:=λe=>by subst e;rw[g]at v;cases v
 refine lv (x:=x) H j t hc (keep _ _ (S2 _ _ I)) (keep _ _ (l _ _ (L _ _ Z))) y Ak (keep _ _ (l _ _ S)) (keep _ _ f2) (by rw[Aj B];exact O) λk x' G' w1 w2 U R w5 hG hk=>?_;refine H _ _ _ (lr i (λr h1 h2 u X=>hk r h1 h2 u (keep _ _ (S2 _ _ X))) hG) (q k x' w1 w2 U R w5)
theorem lw(a:0<=r)(b:r < 3):∃ k:Kd,(k=.any\/k=.num\/k=.truth)/\(r < 2->k.knw=true)/\atI [W.tup [.str "num"],W.tup [.str "truth"],W.tup [.str "any"]] r=some k.enc:=by
 have:r=0\/r=1\/r=2:=by omega
 rcases this with e | e | e
 ·exact⟨.num,.inr (.inl rfl),λ_=>rfl,by rw[e];exact Bb⟩
 ·exact⟨.truth,.inr (.inr rfl),λ_=>rfl,by rw[e];exact A5⟩
 ·exact⟨.any,.inl rfl,λz=>absurd z (by omega),by rw[e];exact Bp⟩
theorem Uh{k:Kd}(h:k=.any\/k=.num\/k=.truth):wf 5 k/\k.dpr=1/\k.cnt=1:=by rcases h with rfl | rfl | rfl <;> exact⟨⟨rfl,rfl⟩,rfl,rfl⟩
abbrev gLf:GS:=(Ag (Ap 5 (Au (Aa (An (Aa (gC (.str "num")) Ac)) (Aa (An (Aa (gC (.str "truth")) Ac)) (Aa (An (Aa (gC (.str "any")) Ac)) Ac))))) (Ah (Ad (Ae ixW) (Ab 5) (Af BP XF (Aa (Ab 0) (Aa (Ad (Ay (λ_ _=>True) λi j=>i - j) (gC (.int 3)) (gB (rF Cw) (Aa (Ab 3) Ac))) Ac))))))
variable {D:Ew}
theorem lx(v:D.rt=Q){x c:Int}{d:Bool}{y u:Option W}(m:Kw.C Q)(g:G s=some (.lst [.int x,.bl b,.int c]))(q:∀(k:Kd)(E:Int),(k=.any\/k=.num\/k=.truth)->kdt d k->Q k.enc (put G s (.lst [.int E,.bl b,.int c]))):
  gLf D [some (.ref s),y,B,some (.bl d),u,none] G:=by
 unfold gLf;simp only[Ag,Ap,Ah,Au,An,Ad,Af,gB,rF,Aa,Ac,Ab,gC,Ae,Ay,Yk,Yl,Yb,Yc];refine⟨by decide,by decide,by decide,by decide,λp j=>?_⟩;have ei:Cw [.bl d] (put G p (.lst [.tup [.str "num"],.tup [.str "truth"],.tup [.str "any"]]))=some (.int (if d then 1 else 0)):=by cases d <;> rfl
 rw[ei,Ao];have n:s≠p:=AE g j;refine⟨trivial,s,_,x,b,[.int c],rfl,by cases d <;> decide,by cases d <;> decide,by rw[Aj n];exact g,λr w t r1=>?_⟩;have A:r < 3:=by cases d with | true=>have:r < 3 - 1:=r1;omega | false=>have:r < 3 - 0:=r1;omega
 obtain⟨k,l,e,F⟩:=lw t A;have f:kdt d k:=⟨by rcases l with rfl | rfl | rfl <;> rfl,λz=>e (by subst z;have:r < 3 - 1:=r1;omega)⟩;show opt (ixW (.ref p) (.int r) _) _;rw[BZ (by rw[Aj (YZ n)];exact Ak),F,Ao,v];refine m _ _ _ (λa o h=>?_) (q k w l f);by_cases i:a=s
 ·subst i;rw[Ak]at h ⊢;exact h
 ·rw[Aj i]at h ⊢;rw[Aj (AE h j)];exact h
theorem ly{d c:Int}{a:Bool}{k:Kd}(hd:1<=d)(h:k=.any\/k=.num\/k=.truth)(e:kdt a k):gk d c a k:=by
 obtain⟨w,f,b⟩:=Uh h;exact⟨w,by omega,by omega,λ_=>b,e⟩
theorem Ui{spK g:Spw}{A:List W}{E:Addr->Hw->Prop}(H:Kw.C Q)(q:DB n A G Q E)(I:n=0\/∃ m,n=m+1/\spK=DB m/\g=M4 m):MU BP spK g (Ar Q) (Bg MS A) G:=by
 obtain⟨s,x,d,c,b,f,rfl,i,o,y,q⟩:=q;unfold MU;show Ag (BF _ _ _) _ (Ar Q) [some (.ref s),some (.int d),some (.bl true),some (.bl f),none,none] G;simp only[Ag,BF,Ad,Ay,Ae,Ab,gC,Yb,Yc,ix2 y,Ao];refine⟨trivial,MY y ?_⟩;have h1:put G s (.lst [.int x,.bl b,.int (c - 1)]) s=some (.lst [.int x,.bl b,.int (c - 1)]):=Ak;simp only[Ap,Af,Aa,Ac,Ab,gC,Yb,Yc];refine⟨s,8,x,b,[.int (c - 1)],rfl,by decide,by decide,h1,λr a Y U=>?_⟩;rw[BY];have h2:put G s (.lst [.int a,.bl b,.int (c - 1)]) s=some (.lst [.int a,.bl b,.int (c - 1)]):=Ak;walk_at "pd"
 have h:gLf {Ar Q with nx:=(λ_ _=>False)} [some (.ref s),some (.int d),some (.bl true),some (.bl f),some (.int r),none] (put G s (.lst [.int a,.bl b,.int (c - 1)])):=by
  refine lx (Q:=Q) rfl H h2 λk l D j=>?_;rw[BY];have:=q k l (ly i D j);rw[(Uh D).2.2]at this;exact this
 have u:∀{t:GT}{Av:GS}{b':Bool},(∀ R:Bool->Hw->Prop,R b' (put G s (.lst [.int a,.bl b,.int (c - 1)]))->t [some (.ref s),some (.int d),some (.bl true),some (.bl f),some (.int r),none] (put G s (.lst [.int a,.bl b,.int (c - 1)])) R)->(b'=false->Av (Ar Q) [some (.ref s),some (.int d),some (.bl true),some (.bl f),some (.int r),none] (put G s (.lst [.int a,.bl b,.int (c - 1)])))->
   Ag (gIf t gLf Ai) Av (Ar Q) [some (.ref s),some (.int d),some (.bl true),some (.bl f),some (.int r),none] (put G s (.lst [.int a,.bl b,.int (c - 1)])):=by
  intro t Av b' p K;refine p _ ?_;cases b' with
  | true=>exact h
  | false=>exact K rfl
 refine u (b':=decide (d < 2)||decide (c - 1 < 2)||decide (r < 2)) (λR e=>?_) λv=>?_
 ·simp only[gOr,gTB,Ad,AH,Ae,Ab,gC,Yb,Yc];by_cases F:d < 2
  ·simp only[F,decide_true,if_true,Bool.true_or]at e ⊢;exact e
  ·simp only[F,decide_false,Yq,if_false,Bool.false_or]at e ⊢;rw[ix2 h2,Ao];dsimp only;by_cases w:c - 1 < 2
   ·simp only[w,decide_true,if_true,Bool.true_or]at e ⊢;exact e
   ·simp only[w,decide_false,Yq,if_false,Bool.false_or]at e ⊢;exact e
 ·simp only[Bool.or_eq_false_iff,decide_eq_false_iff_not,Int.not_lt]at v;obtain⟨⟨T,S⟩,X⟩:=v;rcases I with rfl |⟨m,rfl,rfl,rfl⟩
  ·exact absurd o (by omega)
  have two:∀{t:GT}{B Av:GS},(∀ R:Bool->Hw->Prop,R false (put G s (.lst [.int a,.bl b,.int (c - 1)]))->t [some (.ref s),some (.int d),some (.bl true),some (.bl f),some (.int r),none] (put G s (.lst [.int a,.bl b,.int (c - 1)])) R)->Av (Ar Q) [some (.ref s),some (.int d),some (.bl true),some (.bl f),some (.int r),none] (put G s (.lst [.int a,.bl b,.int (c - 1)]))->
    Ag (gIf t B Ai) Av (Ar Q) [some (.ref s),some (.int d),some (.bl true),some (.bl f),some (.int r),none] (put G s (.lst [.int a,.bl b,.int (c - 1)])):=λp h1=>p _ h1
  refine two (λR e=>?_) (two (λR e=>?_) ?_)
  ·simp only[AQ,gTB,gNt,AC,Ad,AH,Ab,gC,Yb,Yc];exact Bu (λ_=>e) (λ_=>e)
  ·simp only[AQ,gTB,gNt,AC,Ad,Ae,Ab,gC,Yb,Yc];show opt (eqF false (.int r) (.int 4) (put G s (.lst [.int a,.bl b,.int (c - 1)]))) _;rw[show eqF false (.int r) (.int 4) (put G s (.lst [.int a,.bl b,.int (c - 1)]))=some (.bl (r==4)) by unfold eqF eqW;show some (W.bl ((r==4) != false))=_;cases(r==4) <;> rfl,Ao];exact Bu (λ_=>e) (λ_=>e)
  ·simp only[Ah,Af,Aa,Ac,Ab,Yb,Yc];refine⟨s,a,d,c - 1,b,f,rfl,by omega,by omega,by omega,h2,λk l L N P O J=>?_⟩;rw[BY];have:=q k l ⟨L,N,by omega,λz=>absurd z (by omega),J⟩;rw[show c - 1+1 -(k.cnt:Int)=c - k.cnt by omega];exact this
theorem CO(T:Tx K mg base a):∀ n:Nat,Df P w K mg base "_law_kind" (2*n+2) 4 (DB n)
 | 0=>mk0 (k:=1) T.Mt rfl MT Ud ((by rintro f G Q E ⟨s,x,d,c,b,i,e,_⟩;rw[e];rfl)) (TZ T (AJ T) (Yr _) (CC (sp:=Gv) (k:=0) T.Mt MZ λ_ _ _ _ h=>h) (by omega) (CC (sp:=Gv) (k:=0) T.Sa MZ λ_ _ _ _ h=>h) (by omega)) λf G Q E g q=>Ui g q (.inl rfl)
 | n+1=>mk0 (k:=2*n+3) T.Mt rfl MT Ud ((by rintro f G Q E ⟨s,x,d,c,b,i,e,_⟩;rw[e];rfl)) (TZ T (AJ T) (by omega) (CO T n) (by omega) (Ir T (by omega) (CO T n)) (by omega)) λf G Q E g q=>Ui g q (.inr ⟨n,rfl,rfl,rfl⟩)
def kd8(k:Kd):Prop:=wf 10 k/\k.cnt<=40/\k.dp<=8
def kd9(k:Kd):Prop:=wf 5 k/\k.cnt<=40/\k.dpr<=8
def Uj:Spw:=λws G Q _=>∃(ns:List Int)(i:Int)(kn:Bool),ws=[.rol (ns.map W.int),.int i,.bl true,.bl kn]/\0<=i/\∀ k:Kd,kd9 k->kdt kn k->Q k.enc G
theorem lz:Spw.M Uj:=(by rintro b G Q d E c h _ ⟨ns,i,a,h1,h2,q⟩;exact⟨ns,i,a,h1,h2,λk g g2=>h _ _ (q k g g2)⟩)
theorem C2{o:HW}(h:G p=none){c:Hw}(s:Sub G c):Sub G (put c p o):=λa u b=>by rw[Aj (AE b h)];exact s _ _ b
theorem Iw(T:Tx K mg base a):Df P w K mg base "_law_drawn_kind" 17 4 Uj:=by
 refine mk0 (k:=16) T.ke rfl T2 lz ((by rintro H G Q E ⟨ns,i,f,e,_⟩;rw[e];rfl)) (lf T (B3 T) (by omega) (AJ T) (by omega) (CO T 7) (by omega)) λH G Q E n q=>?_;obtain⟨ns,i,f,rfl,I,q⟩:=q;unfold T3;show Ag (Ap 4 _) _ (Ar Q) [some (.rol (ns.map W.int)),some (.int i),some (.bl true),some (.bl f),none,none] G;simp only[Ag,Ap,Ad,Af,Au,Aa,Ac,Ab,gC,Yb,Yc];refine⟨ns,i,rfl,I,λp x b L=>⟨(Qzz 1),λp1 t=>?_⟩⟩;have y:Sub G (put G p (.lst [.int x,.bl b])):=A1 L;have A:put G p (.lst [.int x,.bl b]) p=some (.lst [.int x,.bl b]):=Ak;generalize put G p (.lst [.int x,.bl b])=G0 at y A t ⊢;have j:Sub G0 (put G0 p1 (.lst [.int 9])):=A1 t;have o:put G0 p1 (.lst [.int 9]) p1=some (.lst [.int 9]):=Ak;generalize put G0 p1 (.lst [.int 9])=G1 at j o ⊢;rw[Hu (by rintro⟨⟨_,h⟩,_⟩;cases h)];unfold AZ;simp only[j _ _ A,o];refine⟨(Qzz 3),λs es=>?_⟩;have S:Sub G G1:=y.trans j
 have c:G s=none:=by
  cases z:G s with
  | none=>rfl
  | some u=>rw[S _ _ z]at es;cases es
 have v:put G1 s (.lst ([.int x,.bl b]++[.int 9])) s=some (.lst [.int x,.bl b,.int 9]):=Ak;have S2:Sub G (put G1 s (.lst ([.int x,.bl b]++[.int 9]))):=C2 c S;generalize put G1 s (.lst ([.int x,.bl b]++[.int 9]))=G2 at v S2 ⊢;simp only[Yk,Yl,gIf,gTB,Ad,Af,Ae,Aa,Ac,Ab,gC,Yb,Yc];refine⟨s,6,x,b,[.int 9],rfl,by decide,by decide,v,λr d N r1=>?_⟩;have B:put G2 s (.lst [.int d,.bl b,.int 9]) s=some (.lst [.int d,.bl b,.int 9]):=Ak;show opt (eqF false (.int r) (.int 1) (put G2 s (.lst [.int d,.bl b,.int 9]))) _;rw[show eqF false (.int r) (.int 1) (put G2 s (.lst [.int d,.bl b,.int 9]))=some (.bl (r==1)) by unfold eqF eqW;show some (W.bl ((r==1) != false))=_;cases(r==1) <;> rfl,Ao];dsimp only;cases(r==1)with
 | false =>
  simp only[Yq,if_false,Ai,Ah,Af,Aa,Ac,Ab,Yb,Yc];refine⟨s,d,3,9,b,f,rfl,by decide,by decide,B,λk F g=>?_⟩;obtain⟨m,D,J,_,l⟩:=g;exact n _ _ _ (C2 c (C2 c S2)) (q k ⟨m,by omega,by omega⟩ l)
 | true =>
  simp only[if_true,Ag,BF,Ap,Ab,gC,Yb,Yc];refine MY B ?_;simp only[Yk,Yl,Ah,Af,Aa,Ac,Ab,Yb,Yc];refine⟨s,d,8,30,b,f,rfl,by decide,by decide,Ak,λk F g=>?_⟩;obtain⟨m,D,J,_,l⟩:=g;exact n _ _ _ (C2 c (C2 c (C2 c S2))) (q k ⟨m,by omega,by omega⟩ l)
def Fs.find:Fs->Str->Option (Bool×Kd)
 | .nil,_=>none
 | .cons n m k r,x=>if n=x then some (m,k)else r.find x
inductive En where
 | free | nope | told (m:Bool) (k:Kd)
def En.enc:En->W
 | .free=>.tup [.str "free"]
 | .nope=>.tup [.str "none"]
 | .told m k=>.tup [.str (mark m),k.enc]
def ent(fs:Fs)(o:Bool)(x:Str):En:=match fs.find x with | some (m,k)=>.told m k | none=>if o then .free else .nope
def lA(f:Kd->Kd->Bool):En->En->Bool
 | .free,_=>true
 | .nope,.nope=>true
 | .told m k,.told m' k'=>m==m'&&f k k'
 | _,_=>false
def Iy:Nat->Kd->Kd->Bool
 | 0,_,_=>false
 | _+1,.any,_=>true
 | _+1,.num,.num=>true
 | _+1,.truth,.truth=>true
 | n+1,.to a b,.to c d=>Iy n a c&&Iy n b d
 | n+1,.box a,.box b=>Iy n a b
 | n+1,.row fs o,.row gs p=>!(p&&!o)&&(fs.names++gs.names).all λx=>lA (Iy n) (ent fs o x) (ent gs p x)
 | _+1,_,_=>false
theorem M6:∀{fs:Fs}{x:Str}{m:Bool}{k:Kd},fs.find x=some (m,k)->k∈fs.kinds/\x∈fs.names
 | .nil,x,m,k,h=>by cases h
 | .cons n a b r,x,m,k,h=>by
  unfold Fs.find at h;split at h
  ·rename_i e;cases h;subst e;exact⟨Ye,Ye⟩
  ·obtain⟨h1,h2⟩:=M6 h;exact⟨Yd _ h1,Yd _ h2⟩
theorem find_some:∀{fs:Fs}{x:Str},x∈fs.names->∃ m k,fs.find x=some (m,k)
 | .nil,x,h=>by cases h
 | .cons n a b r,x,h=>by
  unfold Fs.find;split
  ·exact⟨a,b,rfl⟩
  ·rename_i e;rcases Yo.mp h with z | z
   ·exact absurd z.symm e
   ·exact find_some z
theorem ER(a:Str):As a a=false:=by
 unfold As;exact decide_eq_false (List.lt_irrefl _)
theorem Iz{a b c:Str}(h1:As a b=true)(h2:As b c=true):As a c=true:=by
 unfold As at h1 h2 ⊢;exact YI (List.lt_trans (of_decide_eq_true h1) (of_decide_eq_true h2))
theorem IA:∀{ns:List Str},rise ns=true->ns.Pairwise (λx y=>As x y=true)
 | [],_=>.nil
 | [_],_=>.cons (λ_ h=>by cases h) .nil
 | x::y::r,h=>by
  have h':(As x y&&rise (y::r))=true:=h;walk_at "pb";have b:=IA h'.2;refine .cons (λz a=>?_) b;walk_at "pf"
  ·exact h'.1
  ·exact Iz h'.1 ((YD.mp b).1 z a)
theorem Uk:∀{xs ys:List Str},xs.Pairwise (λx y=>As x y=true)->ys.Pairwise (λx y=>As x y=true)->(∀ x,x∈xs↔x∈ys)->xs=ys
 | [],[],_,_,_=>rfl
 | [],y::ys,_,_,h=>by cases(h y).mpr Ye
 | x::xs,[],_,_,h=>by cases(h x).mp Ye
 | x::xs,y::ys,g,i,h=>by
  obtain⟨d,j⟩:=YD.mp g;obtain⟨c,f⟩:=YD.mp i
  have e:x=y:=by
   rcases Yo.mp ((h x).mp Ye)with e | e
   ·exact e
   ·rcases Yo.mp ((h y).mpr Ye)with b | b
    ·exact b.symm
    ·have:=Iz (d y b) (c x e);rw[ER]at this;cases this
  subst e;congr 1;refine Uk j f λz=>⟨λa=>?_,λa=>?_⟩
  ·rcases Yo.mp ((h z).mp (Yd _ a))with e | e
   ·subst e;have:=d _ a;rw[ER]at this;cases this
   ·exact e
  ·rcases Yo.mp ((h z).mpr (Yd _ a))with e | e
   ·subst e;have:=c _ a;rw[ER]at this;cases this
   ·exact e
theorem lB{fs:Fs}(h:(Kd.row fs o).ok=true):fs.names.Pairwise (λx y=>As x y=true)/\∀ c∈fs.kinds,c.ok=true:=by
 have h':(rise fs.names&&fs.ok)=true:=h;walk_at "pb";exact⟨IA h'.1,Ls h'.2⟩
theorem Ul{fs:Fs}(h:x∈fs.names):∃ m k,ent fs o x=.told m k/\fs.find x=some (m,k):=by
 obtain⟨m,k,e⟩:=find_some h;exact⟨m,k,by unfold ent;rw[e],e⟩
theorem lC{fs:Fs}(h:x∉fs.names):fs.find x=none:=by
 cases e:fs.find x with
 | none=>rfl
 | some p=>exact absurd (M6 (m:=p.1) (k:=p.2) e).2 h
theorem Gx{fs:Fs}(h:x∉fs.names):ent fs o x=if o then .free else .nope:=by
 unfold ent;rw[lC h]
abbrev Um:List Str:=["row","name","field"]
theorem Uo:Ax Um ["row","name"] (Aq LH):=by walk_at "s"
def Up:GS:=(Ag (AF (AB (Ad (Ae ixW) (Ab 0) (gC (.int 1)))) (gNm 2) (gIf (gTB (Ad (Ae (eqF false)) (Ad (Ae ixW) (Ab 2) (gC (.int 0))) (Ab 1))) (Ah (An (Aa (Ad (Ae ixW) (Ab 2) (gC (.int 1))) (Aa (Ad (Ae ixW) (Ab 2) (gC (.int 2))) Ac)))) Ai)) (Ah (AT (AC (Ad (Ae ixW) (Ab 0) (gC (.int 2)))) (An (Aa (gC (.str "free")) Ac)) (An (Aa (gC (.str "none")) Ac)))))
theorem lD(T:Tx K mg base a):Dn P w K mg base Um "entry_of" LH k (Up):=by
 have hN:=Uo.nd;walk_at "z"
abbrev Uq:List Str:=["row"]
theorem Ur:Ax Uq ["row"] (Aq LI):=by walk_at "s"
def Us:GS:=(Ah (AR (AB (Ad (Ae ixW) (Ab 0) (gC (.int 1)))) 1 (gNm 0) AL (Ad (Ae ixW) (Ab 0) (gC (.int 0)))))
theorem lE(T:Tx K mg base a):Dn P w K mg base Uq "names_of" LI k (Us):=λ{f cdv A outer s H E}hr=>
 have hu:=A4 hr
 have hN:=Ur.nd
 (Br (B1 (Cy (Nc:=["field"]) rfl (Cr rfl (by decide +kernel) (by decide +kernel)) (λ_=>rfl) (by walk_at "v") (Di (i:=0) (by decide) rfl rfl) (λC fp s1 H1=>Bz) (λC fp s1 H1=>(by walk_at "v")))))
abbrev Ut:List Str:=["one","other"]
theorem Uu:Ax Ut ["one","other"] (Aq LJ):=by walk_at "s"
def Uv(Dd:Spw):GS:=(Ah (Dr (Af Dd XF (Aa (Ab 0) Ac)) (Af Dd XF (Aa (Ab 1) Ac))))
variable {Dd:Spw}
theorem lF(T:Tx K mg base a){Ed:Nat}(lG:Df P w K mg base "names_of" Ed 1 Dd)(lH:Ed<=k):Dn P w K mg base Ut "names_of_both" LJ k (Uv Dd):=by
 have hN:=Uu.nd;walk_at "z"
abbrev Zip:List Str:=["one","other"]
theorem Uw:Ax Zip ["one","other"] (Aq LK):=by walk_at "s"
def Ux(Ca:Spw):GS:=(Ag (AD (Af Ca XF (Aa (Ab 0) Ac))) (AD (Af Ca XF (Aa (Ab 1) Ac))))
theorem lI(T:Tx K mg base a){CN:Nat}(MI:Df P w K mg base "check_kind" CN 1 Ca)(MJ:CN<=k):Dn P w K mg base Zip "check_kinds" LK k (Ux Ca):=by
 have hN:=Uw.nd;walk_at "z"
local macro_rules | `(tactic| walk_at "rd") => `(tactic| ((try dsimp only [BV,Ba,BO,CK,Dr,Da,Bk,Ag,gIf,Ah,Ap,AD,Ai,Ab,gC,Ad,gTB,AC,gNt,AQ,gOr,AX,Bm,Bn,AT,An,Au,Aa,Ac,Af,gB,rF,Ae,AU,gMt,Bv,Bt,AH,AM,Ay,AZ,Bw,gSl,A9,A8,AR,AB,BH,AF,Ar,Bg,List.map_cons,List.map_nil,List.length_cons,List.length_nil,List.cons_append,List.nil_append,List.getElem?_cons_zero,List.getElem?_cons_succ,List.set_cons_zero,List.set_cons_succ,List.replicate,AO,tyN,Ao,Bb,A5,Bp,ixW,Bc,Bd,Be,A0,BE,Bo,BM,List.getElem?_nil]); (try simp only [BV,Ba,BO,CK,Dr,Da,Bk,Ag,gIf,Ah,Ap,AD,Ai,Ab,gC,Ad,gTB,AC,gNt,AQ,gOr,AX,Bm,Bn,AT,An,Au,Aa,Ac,Af,gB,rF,Ae,AU,gMt,Bv,Bt,AH,AM,Ay,AZ,Bw,gSl,A9,A8,AR,AB,BH,AF,Ar,Bg,List.map_cons,List.map_nil,List.length_cons,List.length_nil,List.cons_append,List.nil_append,List.getElem?_cons_zero,List.getElem?_cons_succ,List.set_cons_zero,List.set_cons_succ,List.replicate,AO,tyN,Ao,Bb,A5,Bp,ixW,Bc,Bd,Be,A0,BE,Bo,BM,List.getElem?_nil])))
theorem BA(k:Kd)(G:Hw):ixW k.enc (.int 0) G=some (.str k.hd):=by
 obtain⟨xs,e⟩:=kX k;rw[e];exact Bb
abbrev FE:Spw:=spR (λ(x:Fs×Bool×Str)ws _=>ws=[(Kd.row x.1 x.2.1).enc,.str x.2.2]) λx=>(ent x.1 x.2.1 x.2.2).enc
theorem Uy{D:Ew}{G:Hw}{x:Str}:∀(fs:Fs)(o':Option W),(∀ m k,fs.find x=some (m,k)->D.rt (.tup [.str (mark m),k.enc]) G)->(fs.find x=none->∀ b,D.nx [some row,some (.str x),b] G)->
  AY yes (gNm 2) (gIf (gTB (Ad (Ae (eqF false)) (Ad (Ae ixW) (Ab 2) (gC (.int 0))) (Ab 1))) (Ah (An (Aa (Ad (Ae ixW) (Ab 2) (gC (.int 1))) (Aa (Ad (Ae ixW) (Ab 2) (gC (.int 2))) Ac)))) Ai) D fs.enc [some row,some (.str x),o'] G
 | .nil,o',_,h=>⟨trivial,h rfl o'⟩
 | .cons n m k r,o',h1,h2=>by
  refine⟨trivial,?_⟩;show gIf _ _ Ai _ [some row,some (.str x),some (.tup [.str n,.str (mark m),k.enc])] G;walk_at "rd";by_cases a:n=x
  ·subst a;simp only[beq_self_eq_true,bne_iff_ne,ne_eq,Bool.true_eq_false,not_false_eq_true,if_true];exact⟨by decide,h1 _ _ (by unfold Fs.find;rw[if_pos rfl])⟩
  ·have e:(n==x)=false:=by simpa using a
   simp only[e,bne_self_eq_false,Yq,if_false];refine Uy r _ (λf d g=>h1 f d ?_) (λc=>h2 ?_)
   ·unfold Fs.find;rw[if_neg a];exact g
   ·unfold Fs.find;rw[if_neg a];exact c
theorem BB(T:Tx K mg base a):Df P w K mg base "entry_of" 1 2 FE:=by
 refine mk0 T.jE rfl Uo AG (λd G Q E⟨x,e,_⟩=>by rw[e];rfl) (lD T) λd G Q E g q=>?_;obtain⟨⟨fs,o,x⟩,rfl,q⟩:=q;dsimp only at q;unfold Up;simp only[Kd.enc];walk_at "rd";refine Uy fs none (λm k f=>?_) (λb c=>?_)
 ·unfold ent at q;rw[f]at q;exact q
 ·unfold ent at q;rw[b]at q;simp only[Yb,Yc,Bp,Ao];cases o with
  | true=>exact⟨by decide,q⟩
  | false=>exact⟨by decide,q⟩
abbrev lJ:Spw:=spL (λ(x:Fs×Bool)ws _=>ws=[(Kd.row x.1 x.2).enc]/\x.1.names.length<=100) λx=>x.1.names.map W.str
theorem Ed(T:Tx K mg base a):Df P w K mg base "names_of" 1 1 lJ:=by
 refine mk0 T.jF rfl Ur EJ (λh G Q E⟨x,⟨e,_⟩,_⟩=>by rw[e];rfl) (lE T) λh G Q E j q=>?_;obtain⟨⟨fs,o⟩,⟨rfl,hl⟩,q⟩:=q;have c:fs.enc.length<=100:=by rw[<- MO];exact hl
 unfold Us;simp only[Kd.enc];walk_at "rd";refine Ds (f:=EN) trivial fs.enc none [] (λx d i g=>?_) (by simp only[Yi];exact BJ (by omega)) ?_
 ·obtain⟨n,b,k,rfl⟩:=MQ d;show Ad (Ae ixW) (Ab 0) (gC (.int 0)) [some (W.tup [.str n,.str (mark b),k])] _ i;walk_at "rd";exact g
 ·rw[Yw,MN];exact q
theorem Uz{M:Nat}:∀{fs:Fs},fs.thr M=true->∀ c∈fs.kinds,c.thr M=true
 | .nil,_,c,hc=>by cases hc
 | .cons n m k r,h,c,hc=>by
  have h':(k.thr M&&r.thr M)=true:=h;walk_at "pb";rcases Yo.mp hc with rfl | hc
  ·exact h'.1
  ·exact Uz h'.2 c hc
theorem Gy{M:Nat}{k c:Kd}(h:wf M k)(hc:c∈k.kids):wf M c:=by
 refine⟨RY h.1 c hc,?_⟩;have a:=h.2;cases k with
 | to x y =>
  have h':(x.thr M&&y.thr M)=true:=a;walk_at "pb";simp only[Kd.kids,Yo,Qd,or_false]at hc;rcases hc with rfl | rfl
  ·exact h'.1
  ·exact h'.2
 | box x =>
  simp only[Kd.kids,Yo,Qd,or_false]at hc;subst hc;exact a
 | row fs o =>
  have h':(Cg M fs.names&&fs.thr M)=true:=a;walk_at "pb";exact Uz h'.2 c hc
 | any=>simp[Kd.kids]at hc
 | num=>simp[Kd.kids]at hc
 | truth=>simp[Kd.kids]at hc
variable {m':Bool}
theorem lK{m:Bool}(h:m≠m'):(mark m==mark m')=false:=by
 cases m <;> cases m' <;> first | exact absurd rfl h | decide
theorem ES{fs:Fs}{m:Bool}{k:Kd}(e:ent fs o x=.told m k):k∈fs.kinds:=by
 unfold ent at e;cases q:fs.find x with
 | none=>rw[q]at e;cases o <;> cases e
 | some p=>rw[q]at e;cases e;exact(M6 q).1
theorem UA{k:Kd}(h:kd8 k):Bq k=true:=YI h.2
theorem UB{m:Bool}(h:mark m=mark m'):m=m':=by
 by_cases e:m=m'
 ·exact e
 ·have:=lK e;rw[h]at this;simp at this
theorem ET{fs:Fs}(h:wf m (.row fs o)):fs.names.length<=m:=by
 have h':(Cg m fs.names&&fs.thr m)=true:=h.2;rw[YH]at h';exact FC h'.1
mutual
theorem Gz{m n:Nat}(h:m<=n):∀{k:Kd},k.thr m=true->k.thr n=true
 | .any,_=>rfl
 | .num,_=>rfl
 | .truth,_=>rfl
 | .to a b,z=>by
  have c:(a.thr m&&b.thr m)=true:=z;rw[YH]at c;exact Bool.and_eq_true_iff.mpr ⟨Gz h c.1,Gz h c.2⟩
 | .box a,z=>Gz (k:=a) h z
 | .row fs o,z=>by
  have c:(Cg m fs.names&&fs.thr m)=true:=z;rw[YH]at c;exact Bool.and_eq_true_iff.mpr ⟨M0 (Yt (FC c.1) h),UC h c.2⟩
theorem UC{m n:Nat}(h:m<=n):∀{fs:Fs},fs.thr m=true->fs.thr n=true
 | .nil,_=>rfl
 | .cons _ _ k r,z=>by
  have a:(k.thr m&&r.thr m)=true:=z;rw[YH]at a;exact Bool.and_eq_true_iff.mpr ⟨Gz h a.1,UC h a.2⟩
end
theorem FG{k:Kd}(h:wf 5 k):wf 10 k:=⟨h.1,Gz (by decide) h.2⟩
def M7:Spw:=λws G Q _=>∃(fs gs:Fs)(o p:Bool),ws=[(Kd.row fs o).enc,(Kd.row gs p).enc]/\fs.names.length < 32/\gs.names.length < 32/\∀(zs:List Str)(r:Addr),zs.Nodup->sortedS zs=true->(∀ x,x∈zs↔x∈fs.names\/x∈gs.names)->G r=none->Q (.ref r) (put G r (.lst (zs.map W.str)))
theorem lL:Spw.M M7:=λg G Q i E f h _⟨fs,gs,o,p,h1,h2,e,q⟩=>⟨fs,gs,o,p,h1,h2,e,λzs r a b c d=>h _ _ (q zs r a b c d)⟩
theorem B4(T:Tx K mg base a):Df P w K mg base "names_of_both" 2 2 M7:=by
 refine mk0 T.jG rfl Uu lL (λl G Q E⟨_,_,_,_,e,_⟩=>by rw[e];rfl) (lF T (Ed T) (Yr _)) λl G Q E j q=>?_;obtain⟨fs,gs,o,p,rfl,h1,h2,q⟩:=q;unfold Uv;walk_at "rd";refine⟨(fs,o),⟨rfl,by dsimp only;omega⟩,λp1 g=>?_⟩;refine⟨fs.names,El Ak,h1,(gs,p),⟨rfl,by dsimp only;omega⟩,λp2 f=>?_⟩;refine⟨gs.names,El Ak,h2,λzs r k h i b=>?_⟩;have c:r≠p2:=λe=>by subst e;rw[Ak]at b;cases b
 rw[Aj c]at b;have d:r≠p1:=λe=>by subst e;rw[Ak]at b;cases b
 rw[Aj d]at b;exact j _ _ _ ((B9 (A1 g) f).put2) (q zs r k h i b)
theorem CP(T:Tx K mg base a):Df P w K mg base "check_kinds" 9 2 (spR (λ(x:Kd×Kd)b _=>b=[x.1.enc,x.2.enc]/\(x.1.ok=true/\Bq x.1=true)/\(x.2.ok=true/\Bq x.2=true)) λ_=>.non):=by
 refine mk0 T.jH rfl Uw AG (λb G Q E⟨x,⟨e,_⟩,_⟩=>by rw[e];rfl) (lI T (CN T) (Yr _)) λb G Q E c q=>?_;obtain⟨⟨k,l⟩,⟨rfl,h1,h2⟩,q⟩:=q;dsimp only at h1 h2;have g1:k.cnt<=40/\k.dp<=8:=of_decide_eq_true (by have:=h1.2;unfold Bq at this;exact this);have g2:l.cnt<=40/\l.dp<=8:=of_decide_eq_true (by have:=h2.2;unfold Bq at this;exact this);unfold Ux;walk_at "rd";exact⟨k,⟨rfl,h1.1,by omega⟩,λ_=>⟨l,⟨rfl,h2.1,by omega⟩,λ_=>q,λz=>by rw[h2.2]at z;cases z⟩,λz=>by rw[h1.2]at z;cases z⟩
theorem UD{y:Str}(h:As x y=false)(a:x≠y):As y x=true:=by
 unfold As at h ⊢;refine YI ?_;have h1:y.cps.toList<=x.cps.toList:=of_decide_eq_false h;rcases List.le_iff_lt_or_eq.mp h1 with z | z
 ·exact z
 ·exact absurd (by cases x;cases y;congr 1;exact(Array.toList_inj.mp z).symm) a
theorem UE:∀(p:Str)(r:List Str),risingS p r=true->(p::r).Nodup->(p::r).Pairwise (λx y=>As x y=true)
 | p,[],_,_=>.cons (λ_ h=>by cases h) .nil
 | p,x::r,h,d=>by
  have h':(!ltCps x.cps.toList p.cps.toList&&risingS x r)=true:=h;simp only[YH,Bool.not_eq_true']at h';obtain⟨f,g⟩:=YV.mp d;have c:=UE x r h'.2 g;have a:As p x=true:=UD (by rw[<- h'.1,ltCps_eq];rfl) λe=>f (by rw[e];exact Ye);refine .cons (λz b=>?_) c;rcases Yo.mp b with rfl | b
  ·exact a
  ·exact Iz a ((YD.mp c).1 z b)
open Classical in
theorem UF(x:Str):∀ zs:List Str,zs.Pairwise (λx y=>As x y=true)->∃ ys:List Str,ys.Pairwise (λx y=>As x y=true)/\∀ y,y∈ys↔y=x\/y∈zs
 | [],_=>⟨[x],.cons (λ_ h=>by cases h) .nil,λy=>by simp⟩
 | z::zs,h=>by
  obtain⟨h1,h2⟩:=YD.mp h;by_cases e:x=z
  ·exact⟨z::zs,h,λy=>by subst e;simp⟩
  ·cases hl:As x z with
   | true =>
    refine⟨x::z::zs,.cons (λy a=>?_) h,λy=>by simp⟩;walk_at "pf"
    ·exact hl
    ·exact Iz hl (h1 y a)
   | false =>
    obtain⟨ys,p,m⟩:=UF x zs h2;refine⟨z::ys,.cons (λy a=>?_) p,λy=>?_⟩
    ·rcases(m y).mp a with rfl | a
     ·exact UD hl e
     ·exact h1 y a
    ·rw[Yo,m,Yo];constructor
     ·rintro(z | z | z)
      ·exact .inr (.inl z)
      ·exact .inl z
      ·exact .inr (.inr z)
     ·rintro(z | z | z)
      ·exact .inr (.inl z)
      ·exact .inl z
      ·exact .inr (.inr z)
theorem IB:∀ xs:List Str,∃ ys:List Str,ys.Pairwise (λx y=>As x y=true)/\∀ y,y∈ys↔y∈xs
 | []=>⟨[],.nil,λ_=>Iff.rfl⟩
 | x::xs=>by
  obtain⟨ys,p,m⟩:=IB xs;obtain⟨zs,a,b⟩:=UF x ys p;exact⟨zs,a,λy=>by rw[b,m,Yo]⟩
noncomputable def srt(xs:List Str):List Str:=Classical.choose (IB xs)
theorem FH(xs:List Str):(srt xs).Pairwise (λx y=>As x y=true):=(Classical.choose_spec (IB xs)).1
theorem IC{xs:List Str}:x∈srt xs↔x∈xs:=(Classical.choose_spec (IB xs)).2 x
variable {zs:List Str}
theorem UG{xs:List Str}(a:zs.Nodup)(b:sortedS zs=true)(c:∀ x,x∈zs↔x∈xs):zs=srt xs:=by
 refine Uk ?_ (FH xs) λx=>by rw[c,IC]
 cases zs with
 | nil=>exact .nil
 | cons x r=>exact UE x r b a
noncomputable abbrev A2(fs gs:Fs):List Str:=srt (fs.names++gs.names)
variable {gs:Fs}
theorem UH{fs:Fs}(a:zs.Nodup)(b:sortedS zs=true)(c:∀ x,x∈zs↔x∈fs.names\/x∈gs.names):zs=A2 fs gs:=UG a b λx=>by rw[c,Yz]
theorem ID{fs:Fs}:x∈A2 fs gs↔x∈fs.names\/x∈gs.names:=by rw[IC,Yz]
def CD:List (Str×Option (List Str))->Option (List Str)
 | []=>none
 |(x,some p)::_=>some (x::p)
 |(_,none)::r=>CD r
def clE(f:Kd->Kd->Option (List Str)):En->En->Option (List Str)
 | .free,_=>none
 | _,.free=>none
 | .nope,.nope=>none
 | .told m k,.told m' k'=>if m=m' then f k k' else some []
 | _,_=>some []
noncomputable def cl:Nat->Kd->Kd->Option (List Str)
 | 0,_,_=>none
 | _+1,.any,_=>none
 | _+1,_,.any=>none
 | _+1,.num,.num=>none
 | _+1,.truth,.truth=>none
 | n+1,.row fs o,.row gs p=>CD ((A2 fs gs).map λx=>(x,clE (cl n) (ent fs o x) (ent gs p x)))
 | _+1,_,_=>some []
def pW:Option (List Str)->W
 | none=>.non
 | some l=>.tup (l.map W.str)
theorem M8{n:Nat}:∀{us:List (Str×Option (List Str))}{p:List Str},(∀ u∈us,∀ q,u.2=some q->q.length<=n)->CD us=some p->p.length<=n+1
 |(x,some q)::_,p,h,e=>by
  cases e;have:=h _ Ye q rfl;simp only[Yg];omega
 |(_,none)::r,p,h,e=>M8 (us:=r) (λu a=>h u (Yd _ a)) e
theorem UI{f:Kd->Kd->Option (List Str)}(h:∀ k l p,f k l=some p->p.length<=n){e c:En}{p:List Str}(b:clE f e c=some p):p.length<=n:=by
 cases e <;> cases c <;> first |(cases b;done)|(cases b;exact YY _)| skip
 rename_i m k d g;have a:(if m=d then f k g else some [])=some p:=b;by_cases z:m=d
 ·rw[if_pos z]at a;exact h _ _ _ a
 ·rw[if_neg z]at a;cases a;exact YY _
theorem UJ:∀(n:Nat)(k l:Kd)(p:List Str),cl n k l=some p->p.length<=n
 | 0,_,_,p,h=>by cases h
 | n+1,k,l,p,h=>by
  cases k <;> cases l <;> first |(cases h;done)|(cases h;exact YY _)| skip
  ·refine M8 (λu a q b=>?_) h;obtain⟨x,_,rfl⟩:=YC.mp a;exact UI (UJ n) b
abbrev UK:List Str:=["step","path"]
theorem UL:Ax UK ["step","path"] (Aq LQ):=by walk_at "s"
def UM:GS:=(Ah (AT (gTB (Ad (Ae (isF false)) (Ab 1) (gC .non))) (gC .non) (Ad (BI) (An (Aa (Ab 0) Ac)) (Ab 1))))
theorem lM(T:Tx K mg base a):Dn P w K mg base UK "behind" LQ k (UM):=by
 have hN:=UL.nd;walk_at "z"
abbrev UN:List Str:=["value"]
theorem UO:Ax UN ["value"] (Aq LR):=by walk_at "s"
def UP:GS:=(Ag (gIf (AC (AU "bool" (Ab 0))) (Ah (gC (.str "truth"))) Ai) (Ah (AT (AC (AU "int" (Ab 0))) (gC (.str "num")) (gC (.str "row")))))
theorem lN(T:Tx K mg base a):Dn P w K mg base UN "head_of" LR k (UP):=by
 have hN:=UO.nd;walk_at "z"
abbrev UQ:List Str:=["fields","name","entry"]
theorem UR:Ax UQ ["fields","name","entry"] (Aq LS):=by walk_at "s"
def US(DC:Spw):GS:=(Ag (gIf (gTB (Ad (Ae (inK true)) (Ab 1) (Ab 0))) (Ah (AT (gTB (Ad (Ae (eqF false)) (Ad (Ae ixW) (Ab 2) (gC (.int 0))) (gC (.str "must")))) (An Ac) (gC .non))) Ai) (Ag (gIf (gTB (Ad (Ae (eqF false)) (Ad (Ae ixW) (Ab 2) (gC (.int 0))) (gC (.str "none")))) (Ah (An Ac)) Ai) (Ah (AT (gTB (Ad (Ae (eqF false)) (Ad (Ae ixW) (Ab 2) (gC (.int 0))) (gC (.str "free")))) (gC .non) (Af DC XF (Aa (Ad (Ae ixK) (Ab 0) (Ab 1)) (Aa (Ad (Ae ixW) (Ab 2) (gC (.int 1))) Ac)))))))
variable {DC:Spw}
theorem lO(T:Tx K mg base a){Ee:Nat}(lP:Df P w K mg base "misfit_of" Ee 2 DC)(lQ:Ee<=k):Dn P w K mg base UQ "misfit_of_field" LS k (US DC):=by
 have hN:=UR.nd;walk_at "z"
abbrev UT:List Str:=["fields","row","name","found"]
theorem UU:Ax UT ["fields","row"] (Aq LU):=by walk_at "s"
def UV(Dd:Spw)(A7:Spw)(IE:Spw)(Ci:Spw):GS:=(Ag (AF (AB (HL (Ab 0) (Af Dd XF (Aa (Ab 1) Ac)))) (gNm 2) (Ag (Ap 3 (Af IE XF (Aa (Ab 0) (Aa (Ab 2) (Aa (Af A7 XF (Aa (Ab 1) (Aa (Ab 2) Ac))) Ac))))) (gIf (gTB (Ad (Ae (isF true)) (Ab 3) (gC .non))) (Ah (Af Ci XF (Aa (Ab 2) (Aa (Ab 3) Ac)))) Ai))) (Ah (gC .non)))
variable {A7 Ci:Spw}
theorem lR(T:Tx K mg base a){Ed:Nat}(lG:Df P w K mg base "names_of" Ed 1 Dd)(lH:Ed<=k){BB:Nat}(IF:Df P w K mg base "entry_of" BB 2 A7)(IG:BB<=k){IH:Nat}(oD:Df P w K mg base "misfit_of_field" IH 3 IE)(oE:IH<=k){CQ:Nat}(UW:Df P w K mg base "behind" CQ 2 Ci)(UX:CQ<=k):Dn P w K mg base UT "misfit_of_row" LU k (UV Dd A7 IE Ci):=by
 have hN:=UU.nd;walk_at "z"
abbrev UY:List Str:=["value","kind"]
theorem UZ:Ax UY ["value","kind"] (Aq LW):=by walk_at "s"
def U0(II:Spw)(IJ:Spw):GS:=(Ag (gIf (gTB (Ad (Ae (eqF false)) (Ad (Ae ixW) (Ab 1) (gC (.int 0))) (gC (.str "any")))) (Ah (gC .non)) Ai) (Ag (gIf (gTB (Ad (Ae (eqF true)) (Af II XF (Aa (Ab 0) Ac)) (Ad (Ae ixW) (Ab 1) (gC (.int 0))))) (Ah (An Ac)) Ai) (Ah (AT (gTB (Ad (Ae (eqF false)) (Ad (Ae ixW) (Ab 1) (gC (.int 0))) (gC (.str "row")))) (Af IJ XF (Aa (gB (HI) (Aa (Ab 0) Ac)) (Aa (Ab 1) Ac))) (gC .non)))))
theorem lS(T:Tx K mg base a){IK:Nat}(oF:Df P w K mg base "head_of" IK 1 II)(oG:IK<=k){IL:Nat}(oH:Df P w K mg base "misfit_of_row" IL 2 IJ)(oI:IL<=k):Dn P w K mg base UY "misfit_of" LW k (U0 II IJ):=by
 have hN:=UZ.nd;walk_at "z"
abbrev U1:List Str:=["value","kind"]
theorem U2:Ax U1 ["value","kind"] (Aq LX):=by walk_at "s"
def U3(IM:Spw)(IN:Spw)(DC:Spw):GS:=(Ag (AD (Af IM XF (Aa (Ab 1) Ac))) (Ag (AD (Af IN XF (Aa (Ab 0) Ac))) (Ah (Af DC XF (Aa (Ab 0) (Aa (Ab 1) Ac))))))
theorem lT(T:Tx K mg base a){IP:Nat}(oJ:Df P w K mg base "check_data_kind" IP 1 IM)(oK:IP<=k){IQ:Nat}(oM:Df P w K mg base "check_value" IQ 1 IN)(oN:IQ<=k){Ee:Nat}(lP:Df P w K mg base "misfit_of" Ee 2 DC)(lQ:Ee<=k):Dn P w K mg base U1 "misfit" LX k (U3 IM IN DC):=by
 have hN:=U2.nd;walk_at "z"
abbrev U4:List Str:=["value","kind"]
theorem U5:Ax U4 ["value","kind"] (Aq LY):=by walk_at "s"
def U6(IR:Spw):GS:=(Ah (Ad (Ae (isF false)) (Af IR XF (Aa (Ab 0) (Aa (Ab 1) Ac))) (gC .non)))
theorem lU(T:Tx K mg base a){IS:Nat}(oO:Df P w K mg base "misfit" IS 2 IR)(oP:IS<=k):Dn P w K mg base U4 "fits" LY k (U6 IR):=by
 have hN:=U5.nd;walk_at "z"
def En.hd:En->Str
 | .free=>"free"
 | .nope=>"none"
 | .told m _=>mark m
theorem Cj(e:En)(G:Hw):ixW e.enc (.int 0) G=some (.str e.hd):=by cases e <;> exact Bb
variable {t:Str}{e:GE}{ω:Sw}
theorem GB{x:W}{s:Str}{Av:GS}(c:ω[0]?=some (some x))(h1:ω[1]?=some (some y))(b:ixW x (.int 0) G=some (.str s))(a:ixW y (.int 0) G=some (.str t))(h:if s=t then Av D ω G else e ω G D.rt):
  Ag (gIf (gTB (Ad (Ae (eqF true)) (Ad (Ae ixW) (Ab 0) (gC (.int 0))) (Ad (Ae ixW) (Ab 1) (gC (.int 0))))) (Ah e) Ai) Av D ω G:=by
 simp only[Ag,gIf,gTB,Ad,Ae,Ab,c,h1,gC,Ah,Ai];rw[b,Ao,a,Ao];simp only[Bc,Bd,Be,YE,Ao];by_cases z:s=t
 ·rw[if_pos z]at h;have:(s==t)=true:=by simp[z]
  walk_at "ph";exact h
 ·rw[if_neg z]at h;have:(s==t)=false:=by simp[z]
  simp only[this,show(false != true)=true from rfl,if_true];exact h
theorem By(m:Bool):mark m≠"free"/\mark m≠"none"/\(("free":Str)≠"none"):=by cases m <;> decide +kernel
theorem M9{k:Kd}{Av:GS}(h1:ω[0]?=some (some k.enc))(h:if k.hd="row" then e ω G D.rt else Av D ω G):
  Ag (gIf (gTB (Ad (Ae (eqF false)) (Ad (Ae ixW) (Ab 0) (gC (.int 0))) (gC (.str "row")))) (Ah e) Ai) Av D ω G:=by
 simp only[Ag,gIf,gTB,Ad,Ae,Ab,h1,gC,Ah,Ai];rw[BA];simp only[Ao,Bc,Bd,Be,YE];by_cases z:k.hd="row"
 ·rw[if_pos z]at h;simp only[z,beq_self_eq_true,show(true != false)=true from rfl,if_true];exact h
 ·rw[if_neg z]at h;have:(k.hd=="row")=false:=by simpa using z
  walk_at "ph";exact h
theorem BQ{k:Kd}(h:k.hd="row"):∃ fs o,k=.row fs o:=by
 cases k <;> first | exact⟨_,_,rfl⟩| exact absurd h (by simp only[Kd.hd];decide)
abbrev IT:Spw:=spR (λ(x:Str×Option (List Str))ws _=>ws=[.str x.1,pW x.2]/\∀ p,x.2=some p->p.length<=100) λx=>pW (x.2.map (x.1::·))
theorem CQ(T:Tx K mg base a):Df P w K mg base "behind" 1 2 IT:=by
 refine mk0 T.jN rfl UL AG (λb G Q E⟨x,⟨e,_⟩,_⟩=>by rw[e];rfl) (lM T) λb G Q E d q=>?_;obtain⟨⟨s,c⟩,⟨rfl,hl⟩,q⟩:=q;dsimp only at hl q;unfold UM;show Ah _ (Ar Q) [some (.str s),some (pW c)] G;cases c with
 | none=>exact q
 | some p =>
  simp only[Ah,AT,gTB,Ad,Ae,Ab,gC,pW,Yb,Yc,isF,Gd,Ao,show(false != false)=false from rfl,Yq,if_false,An,Aa,Ac,Ar];refine⟨(Qzz 1),?_⟩;rw[Da];have:=hl p rfl;exact⟨by simp only[Yg,Yi,Yh];exact BJ (by omega),q⟩
variable {i j:Nat}{ge:GE}
theorem U7{c:Option (List Str)}{s:Str}(f:ω[j]?=some (some (.str s)))(a:j≠i)(hi:i < ω.length)(d:∀ p,c=some p->p.length<=100)(b:∀ Q:Kw,Q (pW c) G->ge ω G Q)(h1:c=none->D.nx (ω.set i (some .non)) G)(h2:∀ p,c=some p->D.rt (pW (some (s::p))) G):
  Ag (Ap i ge) (gIf (gTB (Ad (Ae (isF true)) (Ab i) (gC .non))) (Ah (Af IT XF (Aa (Ab j) (Aa (Ab i) Ac)))) Ai) D ω G:=by
 refine b _ ?_;have gi:∀ r:W,(ω.set i (some r))[i]?=some (some r):=λr=>by rw[List.getElem?_set_self hi]
 have g:∀ r:W,(ω.set i (some r))[j]?=some (some (.str s)):=λr=>by rw[List.getElem?_set_ne (YZ a)];exact f
 simp only[gIf,gTB,Ad,Ae,Ab,gi,g,gC,isF,Ao,Ah,Af,Aa,Ac,Ai];cases c with
 | none=>exact h1 rfl
 | some p =>
  have hl:=d p rfl;simp only[pW,Gd,show(false != true)=true from rfl,if_true];exact⟨(s,some p),⟨rfl,λh e=>by cases e;exact hl⟩,h2 p rfl⟩
theorem U8{k:Kd}{Av:GS}(h1:ω[0]?=some (some k.enc))(h:if k.hd=t then e ω G D.rt else Av D ω G):
  Ag (gIf (gTB (Ad (Ae (eqF false)) (Ad (Ae ixW) (Ab 0) (gC (.int 0))) (gC (.str t)))) (Ah e) Ai) Av D ω G:=by
 simp only[Ag,gIf,gTB,Ad,Ae,Ab,h1,gC,Ah,Ai];rw[BA];simp only[Ao,Bc,Bd,Be,YE];by_cases z:k.hd=t
 ·rw[if_pos z]at h;simp only[z,beq_self_eq_true,show(true != false)=true from rfl,if_true];exact h
 ·rw[if_neg z]at h;have:(k.hd==t)=false:=by simpa using z
  walk_at "ph";exact h
theorem U9{o:HW}(h:G s=some o):put G s o=G:=by
 funext a;by_cases b:a=s
 ·subst b;rw[Ak,h]
 ·rw[Aj b]
theorem Ef{k:Kd}{Av:GS}(h1:ω[1]?=some (some k.enc))(h:if k.hd=t then e ω G D.rt else Av D ω G):
  Ag (gIf (gTB (Ad (Ae (eqF false)) (Ad (Ae ixW) (Ab 1) (gC (.int 0))) (gC (.str t)))) (Ah e) Ai) Av D ω G:=by
 simp only[Ag,gIf,gTB,Ad,Ae,Ab,h1,gC,Ah,Ai];rw[BA];simp only[Ao,Bc,Bd,Be,YE];by_cases z:k.hd=t
 ·rw[if_pos z]at h;simp only[z,beq_self_eq_true,show(true != false)=true from rfl,if_true];exact h
 ·rw[if_neg z]at h;have:(k.hd==t)=false:=by simpa using z
  walk_at "ph";exact h
theorem Va{k:Kd}{Av:GS}(h1:ω[1]?=some (some k.enc))(h:if k.hd=t then Av D ω G else e ω G D.rt):
  Ag (gIf (gTB (Ad (Ae (eqF true)) (Ad (Ae ixW) (Ab 1) (gC (.int 0))) (gC (.str t)))) (Ah e) Ai) Av D ω G:=by
 simp only[Ag,gIf,gTB,Ad,Ae,Ab,h1,gC,Ah,Ai];rw[BA];simp only[Ao,Bc,Bd,Be,YE];by_cases z:k.hd=t
 ·rw[if_pos z]at h;simp only[z,beq_self_eq_true,bne_self_eq_false,Yq,if_false];exact h
 ·rw[if_neg z]at h;have:(k.hd==t)=false:=by simpa using z
  simp only[this,show(false != true)=true from rfl,if_true];exact h
abbrev S2(x:Int)(b:Bool)(r:List W):HW:=.lst (.int x::.bl b::r)
theorem Na{x:W}{s a b:Str}{Av:GS}(i:ω[0]?=some (some x))(h1:ω[1]?=some (some y))(g:ixW x (.int 0) G=some (.str a))(f:ixW y (.int 0) G=some (.str b))(h:if a=s\/b=s then e ω G D.rt else Av D ω G):
  Ag (gIf (gTB (Ad (Ae (inF false)) (gC (.str s)) (An (Aa (Ad (Ae ixW) (Ab 0) (gC (.int 0))) (Aa (Ad (Ae ixW) (Ab 1) (gC (.int 0))) Ac))))) (Ah e) Ai) Av D ω G:=by
 simp only[Ag,gIf,gTB,Ad,Ae,Ab,i,h1,gC,Ah,Ai,An,Aa,Ac];rw[g,Ao,f,Ao];refine⟨(Qzz 2),?_⟩
 have ei:inF false (.str s) (.tup [.str a,.str b]) G=some (.bl ([a,b].any (·==s))):=by
  unfold inF;show(EA ([a,b].map W.str)).map (λd=>W.bl (if false=true then !inV (.str s) d else inV (.str s) d))=_;rw[RL];show some (W.bl (inV (.str s) ([a,b].map V.str)))=_;rw[RM]
 rw[ei,Ao];by_cases z:a=s\/b=s
 ·rw[if_pos z]at h;have:[a,b].any (·==s)=true:=by simpa using z
  rw[this];exact h
 ·rw[if_neg z]at h
  have:[a,b].any (·==s)=false:=by
   rw[List.any_eq_false];intro c hc;simp only[Yo,Qd,or_false]at hc;rcases hc with rfl | rfl
   ·simpa using λq=>z (.inl q)
   ·simpa using λq=>z (.inr q)
  rw[this];exact h
theorem EU{x:W}{c s:Str}{Av:GS}(h1:ω[i]?=some (some x))(a:ixW x (.int 0) G=some (.str c))(h:if c=s then e ω G D.rt else Av D ω G):
  Ag (gIf (gTB (Ad (Ae (eqF false)) (Ad (Ae ixW) (Ab i) (gC (.int 0))) (gC (.str s)))) (Ah e) Ai) Av D ω G:=by
 simp only[Ag,gIf,gTB,Ad,Ae,Ab,h1,gC,Ah,Ai];rw[a];simp only[Ao,Bc,Bd,Be,YE];by_cases z:c=s
 ·rw[if_pos z]at h;have:(c==s)=true:=by simp[z]
  simp only[this,show(true != false)=true from rfl,if_true];exact h
 ·rw[if_neg z]at h;have:(c==s)=false:=by simpa using z
  walk_at "ph";exact h
mutual
def plW:W->Bool
 | .str _=>true
 | .bl _=>true
 | .tup xs=>plL xs
 | _=>false
def plL:List W->Bool
 | []=>true
 | x::xs=>plW x&&plL xs
end
theorem Vb{x:W}(h:plL (x::xs)=true):plW x=true/\plL xs=true:=Bool.and_eq_true_iff.mp h
theorem lV{x:W}{ys:List W}{a:Bool}(h1:eqD x y=some a)(h2:Bs xs ys=some b):Bs (x::xs) (y::ys)=some (a&&b):=by
 show(match eqD x y,Bs xs ys with | some a,some b=>some (a&&b)| _,_=>none)=_;rw[h1,h2]
mutual
theorem plD:∀(x y:W),plW x=true->plW y=true->∃ b,eqD x y=some b/\(b=true↔x=y)
 | .str s,.str t,_,_=>⟨s==t,rfl,by simp⟩
 | .str s,.bl t,_,_=>⟨false,rfl,by simp⟩
 | .str s,.tup t,_,_=>⟨false,rfl,by simp⟩
 | .bl s,.str t,_,_=>⟨false,rfl,by simp⟩
 | .bl s,.bl t,_,_=>⟨s==t,rfl,by simp⟩
 | .bl s,.tup t,_,_=>⟨false,rfl,by simp⟩
 | .tup s,.str t,_,_=>⟨false,rfl,by simp⟩
 | .tup s,.bl t,_,_=>⟨false,rfl,by simp⟩
 | .tup s,.tup t,h,h'=>by
  obtain⟨b,e,i⟩:=Vc s t h h';exact⟨b,e,by rw[i];simp⟩
 | .str _,.non,_,h=>by cases h
 | .str _,.int _,_,h=>by cases h
 | .str _,.rol _,_,h=>by cases h
 | .str _,.ref _,_,h=>by cases h
 | .bl _,.non,_,h=>by cases h
 | .bl _,.int _,_,h=>by cases h
 | .bl _,.rol _,_,h=>by cases h
 | .bl _,.ref _,_,h=>by cases h
 | .tup _,.non,_,h=>by cases h
 | .tup _,.int _,_,h=>by cases h
 | .tup _,.rol _,_,h=>by cases h
 | .tup _,.ref _,_,h=>by cases h
 | .non,_,h,_=>by cases h
 | .int _,_,h,_=>by cases h
 | .rol _,_,h,_=>by cases h
 | .ref _,_,h,_=>by cases h
theorem Vc:∀(xs ys:List W),plL xs=true->plL ys=true->∃ b,Bs xs ys=some b/\(b=true↔xs=ys)
 | [],[],_,_=>⟨true,rfl,by simp⟩
 | [],_::_,_,_=>⟨false,rfl,by simp⟩
 | _::_,[],_,_=>⟨false,rfl,by simp⟩
 | x::xs,y::ys,h,h'=>by
  obtain⟨h1,h2⟩:=Vb h;obtain⟨g,f⟩:=Vb h';obtain⟨b,e,i⟩:=plD x y h1 g;obtain⟨c,a,d⟩:=Vc xs ys h2 f;exact⟨b&&c,lV e a,by rw[YH,i,d,List.cons.injEq]⟩
end
mutual
theorem IU:∀ k:Kd,plW k.enc=true
 | .any=>rfl
 | .num=>rfl
 | .truth=>rfl
 | .to x y=>by
  have h1:=IU x;have h2:=IU y;show(true&&(plW x.enc&&(plW y.enc&&true)))=true;rw[h1,h2];rfl
 | .box x=>by
  have h1:=IU x;show(true&&(plW x.enc&&true))=true;rw[h1];rfl
 | .row fs o=>by
  have h1:=Vd fs;show(true&&(plL fs.enc&&(true&&true)))=true;rw[h1];rfl
theorem Vd:∀ fs:Fs,plL fs.enc=true
 | .nil=>rfl
 | .cons n m k r=>by
  have h1:=IU k;have h2:=Vd r;show((true&&(true&&(plW k.enc&&true)))&&plL r.enc)=true;rw[h1,h2];rfl
end
theorem FI{k l:Kd}(h:k.enc=l.enc):k.hd=l.hd:=by
 have h1:=BA k (λ_=>none);rw[h,BA]at h1;exact(W.str.inj (YF h1)).symm
mutual
theorem IV:∀{k l:Kd},k.enc=l.enc->k=l
 | .any,l,h=>by
  cases l with
  | any=>rfl
  | _=>have:=FI h;simp only[Kd.hd]at this;exact absurd this (by decide)
 | .num,l,h=>by
  cases l with
  | num=>rfl
  | _=>have:=FI h;simp only[Kd.hd]at this;exact absurd this (by decide)
 | .truth,l,h=>by
  cases l with
  | truth=>rfl
  | _=>have:=FI h;simp only[Kd.hd]at this;exact absurd this (by decide)
 | .to x y,l,h=>by
  cases l with
  | to a b =>
   have h':W.tup [.str "to",x.enc,y.enc]=W.tup [.str "to",a.enc,b.enc]:=h;injection h' with h';injection h' with _ h';injection h' with h1 h';injection h' with h2 _;rw[IV h1,IV h2]
  | _=>have:=FI h;simp only[Kd.hd]at this;exact absurd this (by decide)
 | .box x,l,h=>by
  cases l with
  | box a =>
   have h':W.tup [.str "box",x.enc]=W.tup [.str "box",a.enc]:=h;injection h' with h';injection h' with _ h';injection h' with h1 h';rw[IV h1]
  | _=>have:=FI h;simp only[Kd.hd]at this;exact absurd this (by decide)
 | .row fs o,l,h=>by
  cases l with
  | row gs p =>
   have h':W.tup [.str "row",.tup fs.enc,.bl o]=W.tup [.str "row",.tup gs.enc,.bl p]:=h;injection h' with h';injection h' with _ h';injection h' with h1 h';injection h' with h2 _;injection h1 with h1;injection h2 with h2;rw[Ve h1,h2]
  | _=>have:=FI h;simp only[Kd.hd]at this;exact absurd this (by decide)
theorem Ve:∀{fs gs:Fs},fs.enc=gs.enc->fs=gs
 | .nil,gs,h=>by
  cases gs with
  | nil=>rfl
  | cons n m k r=>exact absurd (show([]:List W)=_::_ from h) (by simp)
 | .cons n m k r,gs,h=>by
  cases gs with
  | nil=>exact absurd (show _::_=([]:List W)from h) (by simp)
  | cons c a b r' =>
   have h':W.tup [.str n,.str (mark m),k.enc]::r.enc=W.tup [.str c,.str (mark a),b.enc]::r'.enc:=h;injection h' with h1 h2;injection h1 with h1;injection h1 with a1 h1;injection h1 with a2 h1;injection h1 with a3 _;injection a1 with a1;injection a2 with a2;rw[a1,UB a2,IV a3,Ve h2]
end
mutual
theorem FJ:∀ k:Kd,dpW k.enc<=3*k.dp
 | .any=>by show 1<=3*1;omega
 | .num=>by show 1<=3*1;omega
 | .truth=>by show 1<=3*1;omega
 | .to x y=>by have:=FJ x;have:=FJ y;show max 0 (max (dpW x.enc) (max (dpW y.enc) 0))+1<=3*(1+max x.dp y.dp);omega
 | .box x=>by have:=FJ x;show max 0 (max (dpW x.enc) 0)+1<=3*(1+x.dp);omega
 | .row fs o=>by have:=Vf fs;show max 0 (max (L3.dpL fs.enc+1) (max 0 0))+1<=3*(1+fs.dp);omega
theorem Vf:∀ fs:Fs,L3.dpL fs.enc<=3*fs.dp+1
 | .nil=>YY _
 | .cons n m k r=>by
  have:=FJ k;have:=Vf r;show max (max 0 (max 0 (max (dpW k.enc) 0))+1) (L3.dpL r.enc)<=3*max k.dp r.dp+1;omega
end
theorem lW(k:Kd):∃ xs,k.enc=.tup xs:=by cases k <;> exact⟨_,rfl⟩
abbrev Vg:List Str:=["thing"]
theorem Vh:Ax Vg ["thing"] (Aq LL):=by walk_at "s"
def Vi(IW:Spw):GS:=(gIf (gNt (AC (Af IW XF (Aa (Ab 0) Ac)))) K3 Ai)
theorem lX(T:Tx K mg base a){IX:Nat}(oQ:Df P w K mg base "is_data" IX 1 IW)(oR:IX<=k):Dn P w K mg base Vg "check_data_kind" LL k (Vi IW):=by
 have hN:=Vh.nd;walk_at "z"
abbrev Vj:List Str:=["value"]
theorem Vk:Ax Vj ["value"] (Aq LM):=by walk_at "s"
def Vm:GS:=(Ah (AT (AC (AU "tuple" (Ab 0))) (AR (AB (Ab 0)) 1 (gNm 0) AL (Ad (Ae ixW) (Ab 0) (gC (.int 1)))) (Au Ac)))
theorem lY(T:Tx K mg base a):Dn P w K mg base Vj "values_within" LM k (Vm):=λ{f cdv A outer s H E}hr=>
 have hu:=A4 hr
 have hN:=Vk.nd
 (Br (B1 (Pm (by walk_at "v") (Cy (Nc:=["field"]) rfl (Cr rfl (by decide +kernel) (by decide +kernel)) (λ_=>rfl) (by walk_at "v") (Di (i:=0) (by decide) rfl rfl) (λC fp s1 H1=>Bz) (λC fp s1 H1=>(by walk_at "v"))) (by walk_at "v"))))
abbrev Vn:List Str:=["thing"]
theorem Vo:Ax Vn ["thing"] (Aq LN):=by walk_at "s"
def Vp(Du:Spw):GS:=(Ah (AX (AU "tuple" (Ab 0)) (AX (Ad (Ae (eqF false)) (gB (rF A0) (Aa (Ab 0) Ac)) (gC (.int 2))) (Af Du XF (Aa (Ad (Ae ixW) (Ab 0) (gC (.int 0))) Ac)))))
theorem lZ(T:Tx K mg base a){D5:Nat}(kz:Df P w K mg base "is_name" D5 1 Du)(kA:D5<=k):Dn P w K mg base Vn "is_value_field" LN k (Vp Du):=by
 have hN:=Vo.nd;walk_at "z"
abbrev Vq:List Str:=["thing"]
theorem Vr:Ax Vq ["thing"] (Aq LO):=by walk_at "s"
def Vs(IY:Spw)(Dv:Spw):GS:=(Ag (gIf (AC (AU "int" (Ab 0))) (Ah (gC (.bl true))) Ai) (Ag (gIf (gNt (AC (AU "tuple" (Ab 0)))) (Ah (gC (.bl false))) Ai) (Ah (AX (gB (rF Bo) (Aa (AR (AB (Ab 0)) 1 (gNm 0) AL (Af IY XF (Aa (Ab 0) Ac))) Ac)) (Af Dv XF (Aa (AR (AB (Ab 0)) 1 (gNm 0) AL (Ad (Ae ixW) (Ab 0) (gC (.int 0)))) Ac))))))
theorem l0(T:Tx K mg base a){IZ:Nat}(oS:Df P w K mg base "is_value_field" IZ 1 IY)(oU:IZ<=k){D6:Nat}(Mw:Df P w K mg base "names_rise" D6 1 Dv)(Mx:D6<=k):Dn P w K mg base Vq "has_value_form" LO k (Vs IY Dv):=λ{f cdv A outer s H E}hr=>
 have hu:=A4 hr
 have hN:=Vr.nd
 (AA (by walk_at "v") (AA (by walk_at "v") (Br (B1 (KG (Ce ED (EB rfl) rfl T.EK (by decide) rfl rfl rfl (A3 rfl (Cy (Nc:=["part"]) rfl (Cr rfl (by decide +kernel) (by decide +kernel)) (λ_=>rfl) (by walk_at "v") (Di (i:=0) (by decide) rfl rfl) (λC fp s1 H1=>Bz) (λC fp s1 H1=>(by walk_at "v"))) BD)) (KD (Dj Mw (hr.mono Mx) rfl Do rfl rfl rfl (A3 rfl (Cy (Nc:=["part"]) rfl (Cr rfl (by decide +kernel) (by decide +kernel)) (λ_=>rfl) (by walk_at "v") (Di (i:=0) (by decide) rfl rfl) (λC fp s1 H1=>Bz) (λC fp s1 H1=>(by walk_at "v"))) BD))))))))
abbrev Vt:List Str:=["thing"]
theorem Vu:Ax Vt ["thing"] (Aq LP):=by walk_at "s"
def Vv(mg:Str->Option Value)(Eb:Spw)(D9:Spw)(Dx:Spw):GS:=(gIf (gNt (AC (Af Dx XF (Aa (Ab 0) (Aa (gC (.ref (fAt mg "has_value_form"))) (Aa (gC (.ref (fAt mg "values_within"))) (Aa (gC (.int 100)) (Aa (gC (.int 10)) Ac)))))))) K3 Ai)
theorem l7(T:Tx K mg base a){Ec:Nat}(ML:Df P w K mg base "has_value_form" Ec 1 Eb)(Tn:Ec<=k){Ea:Nat}(MK:Df P w K mg base "values_within" Ea 1 D9)(Tj:Ea<=k){EM:Nat}(MC:Df P w K mg base "is_made_of" EM 5 Dx)(MD:EM<=k):Dn P w K mg base Vt "check_value" LP k (Vv mg Eb D9 Dx):=λ{f cdv A outer s H E}hr=>
 have hu:=A4 hr
 have hN:=Vu.nd
 (Br (DS (F4 (F3 (λ_=>rfl) (Dj MC (hr.mono MD) rfl Do rfl rfl rfl (A3 rfl (by walk_at "v") (A3 rfl (Hz ML rfl rfl) (A3 rfl (Hz MK rfl rfl) (by walk_at "v"))))))) (by walk_at "v") DQ))
theorem Vw:∀{fs:Fs},fs.dat=true->∀ c∈fs.kinds,c.dat=true
 | .nil,_,c,hc=>by cases hc
 | .cons n m k r,h,c,hc=>by
  have h':(k.dat&&r.dat)=true:=h;walk_at "pb";rcases Yo.mp hc with rfl | hc
  ·exact h'.1
  ·exact Vw h'.2 c hc
theorem FK{k c:Kd}(h:k.dat=true)(hc:c∈k.kids):c.dat=true:=by
 cases k with
 | to a b=>cases h
 | box a=>cases h
 | row fs o=>exact Vw h c hc
 | any=>cases hc
 | num=>cases hc
 | truth=>cases hc
theorem Vx:∀(n:Nat)(k:Kd),k.dp<=n->k.dat=true->∀ c∈k.all,c.fb=false
 | 0,k,h,_=>by have:=Bx k;omega
 | n+1,k,h,hd=>by
  intro c hc;rw[Lq]at hc;rcases Yo.mp hc with rfl | hc
  ·cases c <;> first | rfl | cases hd
  ·obtain⟨d,a,b⟩:=List.mem_flatMap.mp hc;exact Vx n d (by have:=D4 a;omega) (FK hd a) c b
theorem Vy{n:Nat}{D:Ew}{p t:Addr}{items:List W}:∀(l:List Kd)(o:Option W)(k0:W)(G:Hw)(a:List W),(∀ c∈l,c.dp<=n)->a.length+A6 l<=20000->A6 l<=10000->p≠t->G p=some (.lst a)->G t=some (.lst items)->
  (∀ ω j,(∃ o',ω=[some k0,some (.ref p),o'])->j p=some (.lst (a++(l.flatMap Kd.all).map Kd.enc))->(∀ b,b≠p->∀ u,G b=some u->j b=some u)->D.nx ω j)->
  AY (holds t items) (gNm 2) (AD (gMt BU C1 (Ab 1) (Aa (Af (Tu n) XF (Aa (Ab 2) Ac)) Ac))) D (l.map Kd.enc) [some k0,some (.ref p),o] G
 | [],o,k0,G,a,_,_,_,f,i,g,e=>⟨g,e _ G ⟨o,rfl⟩ (by simpa using i) λ_ _ _ h=>h⟩
 | c::l,o,k0,G,a,hd,hl,hc,f,i,g,e=>by
  have y:c.cnt+A6 l<=10000:=hc;have x:a.length+(c.cnt+A6 l)<=20000:=hl;refine⟨g,?_⟩;show AD _ _ [some k0,some (.ref p),some c.enc] G;walk_at "rd";refine⟨EO i,c,⟨rfl,hd c Ye,by omega⟩,λr m=>?_⟩;have k:=AE i m;have q:=AE g m;refine MR (by rw[Aj k];exact i) Ak (by rw[Yh,HP];exact BJ (by omega)) ?_;refine Vy l (some c.enc) k0 _ (a++c.all.map Kd.enc) (λd s=>hd d (Yd _ s)) (by rw[Yj,Yh,HP];omega) (by omega) f Ak ?_ ?_
  ·rw[Aj (YZ f),Aj q];exact g
  ·intro ω j hω h1 h2;refine e ω j hω (by rw[h1,Qf,Yy,Yv]) λb w u v=>h2 b w u ?_;rw[Aj w,Aj (AE v m)];exact v
theorem CM(T:Tx K mg base a):∀ n:Nat,Df P w K mg base "kinds_in" (n+1) 1 (Tu n)
 | 0=>by
  obtain⟨f,fd,h1,F,D⟩:=T.R4;refine⟨⟨f,fd,_,h1,F.kp,D,rfl,⟨λy H Q E⟨j,G,t,r,k,⟨_,hd,_⟩,_⟩=>absurd hd (by have:=Bx k;omega),λA outer s H l J y Q E _ _ _ _⟨j,G,t,r,k,⟨_,hd,_⟩,_⟩=>absurd hd (by have:=Bx k;omega)⟩⟩,EJ⟩
 | n+1=>by
  refine mk0 T.R4 rfl S8 EJ (λj G Q E⟨x,⟨e,_⟩,_⟩=>by rw[e];rfl) (kP T (CL T) (by omega) (CM T n) (Yr _)) λj G Q E m q=>?_;obtain⟨k,⟨rfl,hd,hc⟩,q⟩:=q;have L:=Gn k;unfold S9;walk_at "rd";refine⟨by decide,λp v=>?_⟩;refine⟨k,⟨rfl,by omega⟩,λI d=>?_⟩;have i:p≠I:=AE Ak d;simp only[Ak];refine Vy k.kids none k.enc _ [k.enc] (λc hc=>by have:=D4 hc;omega) (by simp only[Yg,Yi];omega) (by omega) i (by rw[Aj i];exact Ak) Ak ?_;intro ω B hω h1 h2;obtain⟨o',rfl⟩:=hω;simp only[Yb,Yc]
  have o:Sub (put G p (.lst (k.all.map Kd.enc))) B:=λb u g=>by
   by_cases h:b=p
   ·subst h;rw[Ak]at g;cases g;rw[h1,Lq,Ym];rfl
   ·rw[Aj h]at g;refine h2 b h u ?_;rw[Aj (λz=>by subst z;rw[Aj h]at d;rw[d]at g;cases g),Aj h];exact g
  exact m _ _ _ o (q p v)
theorem Vz{gd:Hw->Prop}{R:List W->Hw->Prop}{f:Kd->W}{G:Hw}(a:gd G):∀(ks:List Kd)(o:Option W)(ys:List W),(∀ k∈ks,∀ Q:Kw,Q (f k) G->ge [some k.enc] G Q)->
  ys.length+ks.length<=sizeLine->R (ys++ks.map f) G->Bi gd (gNm 0) AL ge R (ks.map Kd.enc) [o] G ys
 | [],o,ys,_,_,r=>⟨a,by simpa using r⟩
 | x::ks,o,ys,h,hl,r=>by
  refine⟨a,by simp only[Yg]at hl;omega,?_⟩;show ge [some x.enc] G λy b=>Bi gd (gNm 0) AL ge R (ks.map Kd.enc) [some x.enc] b (ys++[y]);refine h x Ye _ (Vz a ks (some x.enc) (ys++[f x]) (λy c=>h y (Yd _ c)) ?_ ?_)
  ·simp only[Yj,Yg,Yi]at hl ⊢;omega
  ·simpa[Yv]using r
theorem l8(k:Kd)(G:Hw):inF false (.str k.hd) (.tup [.str "to",.str "box"]) G=some (.bl k.fb):=by cases k <;> kernel_rfl
abbrev ma:Spw:=spR (λ(k:Kd)ws _=>ws=[k.enc]/\kd8 k/\k.dat=true) λ_=>.bl true
theorem VB{α:Type}:∀ l:List α,(l.map λ_=>false).any id=false
 | []=>rfl
 | _::l=>VB l
theorem IX(T:Tx K mg base a):Df P w K mg base "is_data" 10 1 ma:=by
 refine mk0 (k:=9) T.jD rfl Tg AG (λl G Q E⟨x,⟨e,_⟩,_⟩=>by rw[e];rfl) (kR T (CN T) (by omega) (CM T 8) (by omega)) λl G Q E d q=>?_;obtain⟨k,⟨rfl,b,hd⟩,q⟩:=q;have g:=b.2.1;unfold Th;walk_at "rd";refine⟨k,⟨rfl,b.1.1,by omega⟩,λ_=>⟨k,⟨rfl,b.2.2,by omega⟩,λp h=>?_⟩,λz=>by rw[UA b]at z;cases z⟩;simp only[Ak];refine Vz (f:=λ_=>.bl false) Ak k.all none [] (λy i m j=>?_) (by rw[HP];exact BJ (by simp only[Yi];omega)) λp1 c=>?_
 ·show Ad (Ae (inF false)) (Ad (Ae ixW) (Ab 0) (gC (.int 0))) (An (Aa (gC (.str "to")) (Aa (gC (.str "box")) Ac))) [some y.enc] _ m;simp only[Ad,Ae,Ab,gC,An,Aa,Ac,Yb,BA,Ao];refine⟨by decide,?_⟩;rw[l8,Vx 8 k b.2.2 hd y i];exact j
 rw[Yw,show(k.all.map λ_=>W.bl false)=(k.all.map λ_=>false).map W.bl by rw[YB];rfl];walk_at "pc";rw[VB];exact d _ _ _ (B9 (A1 h) c) q
abbrev md:Spw:=spR (λ(k:Kd)ws _=>ws=[k.enc]/\kd8 k/\k.dat=true) λ_=>.non
theorem IP(T:Tx K mg base a):Df P w K mg base "check_data_kind" 11 1 md:=by
 refine mk0 (k:=10) T.jI rfl Vh AG (λb G Q E⟨x,⟨e,_⟩,_⟩=>by rw[e];rfl) (lX T (IX T) (by omega)) λb G Q E d q=>?_;obtain⟨k,h,q⟩:=q;obtain⟨rfl,c⟩:=h;unfold Vi;walk_at "rd";refine⟨k,⟨rfl,c⟩,?_⟩;walk_at "pm";exact q
theorem VC(m:Bool)(G:Hw):eqF false (.str (mark m)) (.str "must") G=some (.bl m):=by
 unfold eqF eqW;show some (W.bl ((mark m=="must") != false))=_;rw[show(mark m==("must":Str))=m by cases m <;> first | rfl | decide +kernel];cases m <;> rfl
theorem Ja(T:Tx K mg base a):Df P w K mg base "parts_in" 10 1 (spG a.NoKind λk=>.int k.cnt):=by
 refine mkX T.jC rfl Td Tz TB (g:=λE=>MH _ _ E) (kQ T (CN T) (by omega) (CM T 8) (by omega)) λi G Q E d h q=>?_;obtain⟨k,⟨rfl,f,hc⟩,q1,q2⟩:=q;unfold MH;walk_at "rd";refine⟨k,⟨rfl,f,hc⟩,λc=>?_,q2⟩;have b:k.cnt<=40/\k.dp<=8:=by unfold Bq at c;exact of_decide_eq_true c
 refine⟨k,⟨rfl,b.2,by omega⟩,λp e=>?_⟩;simp only[Ak,Ao,Yh,HP];exact d _ _ _ (A1 e) (q1 c)
local macro_rules | `(tactic| walk_at "rd") => `(tactic| ((try dsimp only [Ag,gIf,Ah,Ap,AD,Ai,Ab,gC,Ad,gTB,AC,gNt,AQ,gOr,AX,Bm,Bn,AT,An,Au,Aa,Ac,Af,gB,rF,Ae,AU,gMt,Bv,Dk,Bt,AH,AM,Ay,AZ,Bw,gSl,A9,A8,AR,AB,BH,Fb,AF,DX,BF,Cz,Ba,Bk,Ar,Bg,List.map_cons,List.map_nil,List.length_cons,List.length_nil,List.cons_append,List.nil_append,List.getElem?_cons_zero,List.getElem?_cons_succ,List.set_cons_zero,List.set_cons_succ,List.replicate,AO,tyN,Ao,Bb,A5,Bp,ixW,Bc,Bd,Be,A0,BE,Bo,BM,AI,Cw,List.getElem?_nil]); (try simp only [Ag,gIf,Ah,Ap,AD,Ai,Ab,gC,Ad,gTB,AC,gNt,AQ,gOr,AX,Bm,Bn,AT,An,Au,Aa,Ac,Af,gB,rF,Ae,AU,gMt,Bv,Dk,Bt,AH,AM,Ay,AZ,Bw,gSl,A9,A8,AR,AB,BH,Fb,AF,DX,BF,Cz,Ba,Bk,Ar,Bg,List.map_cons,List.map_nil,List.length_cons,List.length_nil,List.cons_append,List.nil_append,List.getElem?_cons_zero,List.getElem?_cons_succ,List.set_cons_zero,List.set_cons_succ,List.replicate,AO,tyN,Ao,Bb,A5,Bp,ixW,Bc,Bd,Be,A0,BE,Bo,BM,AI,Cw,List.getElem?_nil])))
mutual
inductive Vl where
 | int (i:Int)| bl (b:Bool)| row (ps:Ps)
inductive Ps where
 | nil | cons (n:Str) (v:Vl) (r:Ps)
end
mutual
def Vl.enc:Vl->W
 | .int i=>.int i
 | .bl b=>.bl b
 | .row ps=>.tup ps.enc
def Ps.enc:Ps->List W
 | .nil=>[]
 | .cons n v r=>.tup [.str n,v.enc]::r.enc
end
def Ps.vals:Ps->List Vl
 | .nil=>[]
 | .cons _ v r=>v::r.vals
def Ps.names:Ps->List Str
 | .nil=>[]
 | .cons n _ r=>n::r.names
def Ps.find(x:Str):Ps->Option Vl
 | .nil=>none
 | .cons n v r=>if n=x then some v else r.find x
def Vl.kids:Vl->List Vl
 | .row ps=>ps.vals
 | _=>[]
def Vl.hd:Vl->Str
 | .int _=>"num"
 | .bl _=>"truth"
 | .row _=>"row"
mutual
def Vl.cnt:Vl->Nat
 | .row ps=>1+ps.cnt
 | _=>1
def Ps.cnt:Ps->Nat
 | .nil=>0
 | .cons _ v r=>v.cnt+r.cnt
end
mutual
def Vl.dp:Vl->Nat
 | .row ps=>1+ps.dp
 | _=>1
def Ps.dp:Ps->Nat
 | .nil=>0
 | .cons _ v r=>max v.dp r.dp
end
mutual
def Vl.ok(m:Nat):Vl->Bool
 | .row ps=>rise ps.names&&(decide (ps.names.length<=m)&&ps.ok m)
 | _=>true
def Ps.ok(m:Nat):Ps->Bool
 | .nil=>true
 | .cons n v r=>AK n&&v.ok m&&r.ok m
end
def Bl:List Vl->Nat
 | []=>0
 | v::r=>v.cnt+Bl r
def vdp:List Vl->Nat
 | []=>0
 | v::r=>max v.dp (vdp r)
theorem Jb:∀ ps:Ps,ps.cnt=Bl ps.vals
 | .nil=>rfl
 | .cons _ v r=>by show v.cnt+r.cnt=v.cnt+Bl r.vals;rw[Jb r]
theorem VD:∀ ps:Ps,ps.dp=vdp ps.vals
 | .nil=>rfl
 | .cons _ v r=>by show max v.dp r.dp=max v.dp (vdp r.vals);rw[VD r]
theorem Nb(v:Vl):v.cnt=1+Bl v.kids:=by
 cases v with
 | row ps=>show 1+ps.cnt=1+Bl ps.vals;rw[Jb]
 | _=>rfl
theorem Nd(v:Vl):v.dp=1+vdp v.kids:=by
 cases v with
 | row ps=>show 1+ps.dp=1+vdp ps.vals;rw[VD]
 | _=>rfl
theorem VE:∀(l m:List Vl),Bl (l++m)=Bl l+Bl m
 | [],m=>by simp[Bl]
 | v::l,m=>by show v.cnt+Bl (l++m)=v.cnt+Bl l+Bl m;rw[VE l m];omega
theorem VF:∀(l m:List Vl),vdp (l++m)=max (vdp l) (vdp m)
 | [],m=>by simp[vdp]
 | v::l,m=>by show max v.dp (vdp (l++m))=max (max v.dp (vdp l)) (vdp m);rw[VF l m];omega
theorem Nf(v:Vl):1<=v.cnt:=by rw[Nb];omega
theorem Ng(v:Vl):1<=v.dp:=by rw[Nd];omega
theorem VG:∀ l:List Vl,Bl l=l.length+Bl (l.flatMap Vl.kids)
 | []=>rfl
 | v::l=>by
  show v.cnt+Bl l=(l.length+1)+Bl ((v::l).flatMap Vl.kids);rw[Qf,VE,VG l,Nb v];omega
theorem VH:∀ l:List Vl,l≠[]->vdp l=1+vdp (l.flatMap Vl.kids)
 | [],h=>absurd rfl h
 | [v],_=>by
  show max v.dp 0=1+vdp ([v].flatMap Vl.kids);rw[Qf,List.flatMap_nil,Yx,Nd];omega
 | v::u::l,_=>by
  have a:=VH (u::l) (by simp);show max v.dp (vdp (u::l))=1+vdp ((v::u::l).flatMap Vl.kids);rw[Qf,VF,a,Nd v];omega
theorem Jc:∀ l:List Vl,l.length<=Bl l
 | []=>Yr _
 | v::l=>by have:=Jc l;have:=Nf v;show l.length+1<=v.cnt+Bl l;omega
theorem VI:∀{l:List Vl}{v:Vl},v∈l->v.cnt<=Bl l
 | u::l,v,h=>by
  show v.cnt<=u.cnt+Bl l;walk_at "pk"
  ·omega
  ·have:=VI h;omega
theorem mh(v:Vl):v.kids.length+1<=v.cnt:=by rw[Nb v];have:=Jc v.kids;omega
theorem Jd:∀ ps:Ps,ps.enc.length=ps.vals.length
 | .nil=>rfl
 | .cons _ v r=>by show r.enc.length+1=r.vals.length+1;rw[Jd r]
theorem VJ:∀ ps:Ps,ps.names.length=ps.vals.length
 | .nil=>rfl
 | .cons _ v r=>by show r.names.length+1=r.vals.length+1;rw[VJ r]
theorem Nh:∀{m:Nat}{ps:Ps},ps.ok m=true->∀ c∈ps.vals,c.ok m=true
 | m,.nil,_,c,hc=>by cases hc
 | m,.cons n v r,h,c,hc=>by
  have h':(AK n&&v.ok m&&r.ok m)=true:=h;walk_at "pb";rcases Yo.mp hc with rfl | hc
  ·exact h'.1.2
  ·exact Nh h'.2 c hc
variable {ps:Ps}
theorem FL(h:(Vl.row ps).ok m=true):rise ps.names=true/\ps.ok m=true:=by
 have h':(rise ps.names&&(decide (ps.names.length<=m)&&ps.ok m))=true:=h;walk_at "pb";exact⟨h'.1,h'.2.2⟩
theorem Ni(h:(Vl.row ps).ok m=true):ps.names.length<=m:=by
 have h':(rise ps.names&&(decide (ps.names.length<=m)&&ps.ok m))=true:=h;simp only[YH,YT]at h';exact h'.2.1
variable {v:Vl}
theorem mj(h:v.ok m=true):∀ c∈v.kids,c.ok m=true:=by
 cases v with
 | row ps=>exact Nh (FL h).2
 | _=>intro c hc;cases hc
def Nj(x:W):W:=match x with | .tup [_,k]=>k | _=>.non
theorem VL:∀ ps:Ps,ps.enc.map Nj=ps.vals.map Vl.enc
 | .nil=>rfl
 | .cons n v r=>by show v.enc::r.enc.map Nj=v.enc::r.vals.map Vl.enc;rw[VL r]
theorem VM:∀ ps:Ps,ps.enc.map EN=ps.names.map W.str
 | .nil=>rfl
 | .cons n v r=>by show W.str n::r.enc.map EN=W.str n::r.names.map W.str;rw[VM r]
theorem Nk:∀{ps:Ps}{x:W},x∈ps.enc->∃ n v,x=.tup [.str n,v]
 | .nil,x,h=>by cases h
 | .cons n v r,x,h=>by
  walk_at "pk"
  ·exact⟨n,v.enc,rfl⟩
  ·exact Nk h
theorem VN:∀{ps:Ps}{x:W},ps.ok 12=true->x∈ps.enc->∃ n v,x=.tup [.str n,v]/\AK n=true
 | .nil,x,_,h=>by cases h
 | .cons n v r,x,a,h=>by
  have h':(AK n&&v.ok 12&&r.ok 12)=true:=a;walk_at "pb";walk_at "pk"
  ·exact⟨n,v.enc,rfl,h'.1.1⟩
  ·exact VN h'.2 h
theorem Nl:BG "tuple" "tuple"=true:=by decide
theorem ml:BG "int" "tuple"=false:=by decide
theorem mm:BG "bool" "tuple"=false:=by decide
theorem Je:BG "int" "int"=true:=by decide
theorem Nm:BG "bool" "int"=true:=by decide
theorem Jf:BG "tuple" "int"=false:=by decide
theorem mn:BG "bool" "bool"=true:=by decide
theorem mo:BG "int" "bool"=false:=by decide
theorem mq:BG "tuple" "bool"=false:=by decide
abbrev VO:Spw:=spL (λ(v:Vl)ws _=>ws=[v.enc]/\v.cnt<=20000) λv=>v.kids.map Vl.enc
theorem Ea(T:Tx K mg base a):Df P w K mg base "values_within" 1 1 VO:=by
 refine mk0 T.jJ rfl Vk EJ (λj G Q E⟨x,⟨e,_⟩,_⟩=>by rw[e];rfl) (lY T) λj G Q E l q=>?_;obtain⟨v,⟨rfl,hc⟩,q⟩:=q;unfold Vm;cases v with
 | int i =>
  simp only[Vl.enc];walk_at "rd";simp only[ml,Yq,if_false];exact⟨by decide,λp c=>q p c⟩
 | bl b =>
  simp only[Vl.enc];walk_at "rd";simp only[mm,Yq,if_false];exact⟨by decide,λp c=>q p c⟩
 | row ps =>
  have h:1+ps.cnt<=20000:=hc;have hl:ps.enc.length<=ps.cnt:=by rw[Jd,Jb];exact Jc _
  simp only[Vl.enc];walk_at "rd";simp only[Nl,if_true];refine Ds (f:=Nj) trivial ps.enc none [] (λx d k g=>?_) (by simp only[Yi];exact BJ (by omega)) ?_
  ·obtain⟨n,u,rfl⟩:=Nk d;show Ad (Ae ixW) (Ab 0) (gC (.int 1)) [some (W.tup [.str n,u])] _ k;walk_at "rd";exact g
  ·rw[Yw,VL];exact q
abbrev ms:Spw:=spR (λ(x:Str×W)ws _=>ws=[.tup [.str x.1,x.2]]/\AK x.1=true) λ_=>.bl true
theorem IZ(T:Tx K mg base a):Df P w K mg base "is_value_field" 3 1 ms:=by
 refine mk0 T.jK rfl Vo AG (λc G Q E⟨x,⟨e,_⟩,_⟩=>by rw[e];rfl) (lZ T (D5 T) (Yr _)) λc G Q E d q=>?_;obtain⟨⟨n,u⟩,⟨rfl,b⟩,q⟩:=q;have hl:n.length<=8:=To b;dsimp only at q b;unfold Vp;walk_at "rd";simp only[Nl,if_true];refine⟨n,⟨rfl,by omega⟩,?_⟩;dsimp only;rw[b];exact q
abbrev mu:Spw:=spR (λ(v:Vl)ws _=>ws=[v.enc]/\v.ok 12=true/\v.cnt<=1000) λ_=>.bl true
theorem Ec(T:Tx K mg base a):Df P w K mg base "has_value_form" 4 1 mu:=by
 refine mk0 T.jL rfl Vr AG (λy G Q E⟨x,⟨e,_⟩,_⟩=>by rw[e];rfl) (l0 T (IZ T) (Yr _) (D6 T) (by omega)) λy G Q E m q=>?_;obtain⟨v,⟨rfl,s,hc⟩,q⟩:=q;unfold Vs;cases v with
 | int i =>
  simp only[Vl.enc];walk_at "rd";simp only[Je,if_true];exact q
 | bl b =>
  simp only[Vl.enc];walk_at "rd";simp only[Nm,if_true];exact q
 | row ps =>
  obtain⟨l,j⟩:=FL s;have t:1+ps.cnt<=1000:=hc;have hl:ps.enc.length<=ps.cnt:=by rw[Jd,Jb];exact Jc _
  simp only[Vl.enc];walk_at "rd";simp only[Jf,Nl,YG,Yq,if_false];refine Ds (f:=λ_=>.bl true) trivial ps.enc none [] (λx d k h=>?_) (by simp only[Yi];exact BJ (by omega)) ?_
  ·obtain⟨n,u,rfl,o⟩:=VN j d;exact⟨(n,u),⟨rfl,o⟩,h⟩
  ·intro p r;rw[Yw,show(λ_:W=>W.bl true)=W.bl∘(λ_=>true)from rfl,<- YB];walk_at "pc";have c:(ps.enc.map λ_=>true).all id=true:=by simp
   rw[c];simp only[if_true];refine Ds (f:=EN) trivial ps.enc none [] (λx d k h=>?_) (by simp only[Yi];exact BJ (by omega)) ?_
   ·obtain⟨n,u,rfl⟩:=Nk d;show Ad (Ae ixW) (Ab 0) (gC (.int 0)) [some (W.tup [.str n,u])] _ k;walk_at "rd";exact h
   ·intro p2 g;rw[Yw,VM];refine⟨ps.names,⟨p2,rfl,Ak,by rw[VJ,<- Jd];omega⟩,?_⟩;dsimp only;rw[l];exact m _ _ _ (B9 (A1 r) g) q
abbrev mv(mg:Str->Option Value):Spw:=spL (λ(l:List Vl)ws G=>∃ p,ws=[.ref p,.ref (fAt mg "values_within")]/\G p=some (.lst (l.map Vl.enc))/\Bl l<=10000) λl=>(l.flatMap Vl.kids).map Vl.enc
theorem VP{D:Ew}{p q j:Addr}{items:List W}:∀(l:List Vl)(o:Option W)(k0:W)(G:Hw)(a:List W),a.length+Bl l<=20000->p≠q->G p=some (.lst a)->G q=some (.lst items)->
  (∀ ω i,(∃ o',ω=[some k0,some (.ref j),some (.ref p),o'])->i p=some (.lst (a++(l.flatMap Vl.kids).map Vl.enc))->(∀ b,b≠p->∀ u,G b=some u->i b=some u)->D.nx ω i)->
  AY (holds q items) (gNm 3) (AD (gMt BU C1 (Ab 2) (Aa (Cz 1 j VO XF (Aa (Ab 3) Ac)) Ac))) D (l.map Vl.enc) [some k0,some (.ref j),some (.ref p),o] G
 | [],o,k0,G,a,_,e,g,f,d=>⟨f,d _ G ⟨o,rfl⟩ (by simpa using g) λ_ _ _ h=>h⟩
 | c::l,o,k0,G,a,hl,e,g,f,d=>by
  have v:a.length+(c.cnt+Bl l)<=20000:=hl;have w:=mh c;refine⟨f,?_⟩;show AD _ _ [some k0,some (.ref j),some (.ref p),some c.enc] G;walk_at "rd";refine⟨EO g,trivial,c,⟨rfl,by omega⟩,λr m=>?_⟩;have k:=AE g m;have n:=AE f m;refine MR (by rw[Aj k];exact g) Ak (by rw[Yh];exact BJ (by omega)) ?_;refine VP l (some c.enc) k0 _ (a++c.kids.map Vl.enc) (by rw[Yj,Yh];omega) e Ak ?_ ?_
  ·rw[Aj (YZ e),Aj n];exact f
  ·intro ω i hω h1 h2;refine d ω i hω (by rw[h1,Qf,Yy,Yv]) λb t u s=>h2 b t u ?_;rw[Aj t,Aj (AE s m)];exact s
theorem mw(T:Tx K mg base a):Df P w K mg base "layer_within" 2 2 (mv mg):=by
 refine mk0 T.R1 rfl Ie EJ ((by rintro o G Q E ⟨x,⟨p,e,_⟩,_⟩;rw[e];rfl)) (kS T (Ea T) (by omega)) λo G Q E k q=>?_;obtain⟨l,⟨h,rfl,i,hl⟩,q⟩:=q;unfold Ti;walk_at "rd";refine⟨by decide,λp j=>?_⟩;have c:p≠h:=YZ (AE i j);have d:put G p (.lst []) h=some (.lst (l.map Vl.enc)):=by rw[Aj (YZ c)];exact i
 simp only[d];refine VP l none (.ref h) _ [] (by simp only[Yi];omega) c Ak d ?_;intro ω n hω h1 h2;obtain⟨o',rfl⟩:=hω;simp only[Yb,Yc];rw[Yw]at h1
 have m:Sub (put G p (.lst ((l.flatMap Vl.kids).map Vl.enc))) n:=λb u f=>by
  by_cases g:b=p
  ·subst g;rw[Ak]at f;cases f;exact h1
  ·rw[Aj g]at f;exact h2 b g u (by rw[Aj g];exact f)
 exact k _ _ _ m (q p j)
def vg(v:Vl):Prop:=v.ok 12=true/\v.cnt<=100/\v.dp<=10
abbrev mx(mg:Str->Option Value):Spw:=spR (λ(v:Vl)ws _=>ws=[v.enc,.ref (fAt mg "has_value_form"),.ref (fAt mg "values_within"),.int 100,.int 10]/\vg v) λ_=>.bl true
theorem my(T:Tx K mg base a):Df P w K mg base "is_made_of" 6 5 (mx mg):=by
 refine mk0 (k:=5) T.R3 rfl Ih AG ((by rintro I G Q E ⟨x,⟨e,_⟩,_⟩;rw[e];rfl)) (kT T (Ec T) (by omega) (mw T) (by omega)) λI G Q E u q=>?_;obtain⟨v,⟨rfl,H,hc,hd⟩,q⟩:=q;unfold Tl;walk_at "rd";refine⟨by decide,λp L=>?_⟩;refine⟨λm ω t=>∃(l:List Vl)(p:Addr)(c d:Nat),ω=[some v.enc,some (.ref (fAt mg "has_value_form")),some (.ref (fAt mg "values_within")),some (.int 100),some (.int 10),some (.ref p),some (.int c),some (.int d)]/\t p=some (.lst (l.map Vl.enc))/\Sub G t/\c+Bl l=v.cnt/\d+vdp l=v.dp/\(∀ x∈l,x.ok 12=true)/\m=11 - d,⟨11,[v],p,0,0,rfl,Ak,A1 L,?_,?_,?_,rfl⟩,?_⟩
 ·show 0+(v.cnt+0)=v.cnt;omega
 ·show 0+max v.dp 0=v.dp;omega
 ·intro x D;rw[YA.mp D];exact H
 rintro m ω O ⟨l,p,c,d,rfl,hl,s,S,U,hok,rfl⟩;have b:(l.map Vl.enc).length=l.length:=Yh _;walk_at "rd";simp only[hl,Ao,b];cases l with
 | nil =>
  have j:¬ ((0:Int) <((([]:List Vl).length:Nat):Int)):=by simp
  simp only[j,decide_false,Yq,if_false];exact u _ _ _ s q
 | cons x l =>
  have J:=VG (x::l);have F:=VH (x::l) (by simp);have j:(0:Int) <(((x::l).length:Nat):Int):=by simp only[Yg];omega
  simp only[j,decide_true,if_true,hl,Ao,b]
  have n:decide ((100:Int) <(c:Int)+(((x::l).length:Nat):Int))=false:=by
   rw[decide_eq_false_iff_not];omega
  have B:decide ((10:Int) <(d:Int)+1)=false:=by
   rw[decide_eq_false_iff_not];omega
  rw[n,B];simp only[Yq,if_false];refine Ik (f:=λ_=>.bl true) (cst:=[some (.ref (fAt mg "has_value_form"))]) hl (x::l) none [] (λz i R N=>?_) (by exact BJ (by simp only[Yi];omega)) ?_
  ·have A:=VI i;exact⟨rfl,z,⟨rfl,hok z i,by omega⟩,N⟩
  ·intro p1 g;rw[Yw,show(λ_:Vl=>W.bl true)=W.bl∘(λ_=>true)from rfl,<- YB];walk_at "pc";have h:((x::l).map λ_=>true).all id=true:=by simp
   rw[h];walk_at "pm";refine⟨x::l,⟨p,rfl,by rw[Aj (AE hl g)];exact hl,by omega⟩,λp2 r=>?_⟩;refine⟨11 -(d+1),by omega,(x::l).flatMap Vl.kids,p2,c+(x::l).length,d+1,?_,Ak,?_,by omega,by omega,?_,rfl⟩
   ·simp only[Int.natCast_add,Int.natCast_one]
   ·exact B9 (B9 s g) r
   ·intro y o;obtain⟨z,i,o⟩:=List.mem_flatMap.mp o;exact mj (hok z i) y o
abbrev mz:Spw:=spR (λ(v:Vl)ws _=>ws=[v.enc]/\vg v) λ_=>.non
theorem IQ(T:Tx K mg base a):Df P w K mg base "check_value" 7 1 mz:=by
 refine mk0 (k:=6) T.jM rfl Vu AG ((by rintro b G Q E ⟨x,⟨e,_⟩,_⟩;rw[e];rfl)) (l7 T (Ec T) (by omega) (Ea T) (by omega) (my T) (Yr _)) λb G Q E c q=>?_;obtain⟨v,⟨rfl,h⟩,q⟩:=q;unfold Vv;walk_at "rd";refine⟨v,⟨rfl,h⟩,?_⟩;walk_at "pm";exact q
abbrev mB:Spw:=spR (λ(v:Vl)ws _=>ws=[v.enc]) λv=>.str v.hd
theorem IK(T:Tx K mg base a):Df P w K mg base "head_of" 1 1 mB:=by
 refine mk0 T.jO rfl UO AG (λc G Q E⟨x,e,_⟩=>by rw[e];rfl) (lN T) λc G Q E d q=>?_;obtain⟨v,rfl,q⟩:=q;unfold UP;cases v with
 | int i =>
  simp only[Vl.enc];walk_at "rd";simp only[mo,Je,Yq,if_false,if_true];exact q
 | bl b =>
  simp only[Vl.enc];walk_at "rd";simp only[mn,if_true];exact q
 | row ps =>
  simp only[Vl.enc];walk_at "rd";simp only[mq,Jf,Yq,if_false];exact q
local macro_rules | `(tactic| walk_at "rd") => `(tactic| ((try dsimp only [BV,Ba,BO,CK,Dr,Da,Bk,Ag,gIf,Ah,Ap,AD,Ai,Ab,gC,Ad,gTB,AC,gNt,AQ,gOr,AX,Bm,Bn,AT,An,Au,Aa,Ac,Af,gB,rF,Ae,AU,gMt,Bv,Bt,AH,AM,Ay,AZ,Bw,gSl,A9,A8,AR,AB,BH,AF,Ar,Bg,List.map_cons,List.map_nil,List.length_cons,List.length_nil,List.cons_append,List.nil_append,List.getElem?_cons_zero,List.getElem?_cons_succ,List.set_cons_zero,List.set_cons_succ,List.replicate,AO,tyN,Ao,Bb,A5,Bp,ixW,Bc,Bd,Be,A0,BE,Bo,BM,List.getElem?_nil]); (try simp only [BV,Ba,BO,CK,Dr,Da,Bk,Ag,gIf,Ah,Ap,AD,Ai,Ab,gC,Ad,gTB,AC,gNt,AQ,gOr,AX,Bm,Bn,AT,An,Au,Aa,Ac,Af,gB,rF,Ae,AU,gMt,Bv,Bt,AH,AM,Ay,AZ,Bw,gSl,A9,A8,AR,AB,BH,AF,Ar,Bg,List.map_cons,List.map_nil,List.length_cons,List.length_nil,List.cons_append,List.nil_append,List.getElem?_cons_zero,List.getElem?_cons_succ,List.set_cons_zero,List.set_cons_succ,List.replicate,AO,tyN,Ao,Bb,A5,Bp,ixW,Bc,Bd,Be,A0,BE,Bo,BM,List.getElem?_nil])))
def mfE(f:Vl->Kd->Option (List Str)):Option Vl->En->Option (List Str)
 | none,.told m _=>if m then some []else none
 | none,_=>none
 | some _,.nope=>some []
 | some _,.free=>none
 | some v,.told _ k=>f v k
noncomputable def mfR(f:Vl->Kd->Option (List Str)):Vl->Kd->Option (List Str)
 | .row ps,.row fs o=>CD ((srt (ps.names++fs.names)).map λx=>(x,mfE f (ps.find x) (ent fs o x)))
 | _,_=>none
noncomputable def mf:Nat->Vl->Kd->Option (List Str)
 | 0,_,_=>none
 | n+1,v,k=>if k.hd="any" then none else if v.hd=k.hd then mfR (mf n) v k else some []
theorem VQ{f:Vl->Kd->Option (List Str)}(h:∀ v k p,f v k=some p->p.length<=n){e:Option Vl}{b:En}{p:List Str}(a:mfE f e b=some p):p.length<=n:=by
 cases e with
 | none =>
  cases b with
  | free=>cases a
  | nope=>cases a
  | told m k =>
   cases m with
   | true=>cases a;exact YY _
   | false=>cases a
 | some v =>
  cases b with
  | free=>cases a
  | nope=>cases a;exact YY _
  | told m k=>exact h _ _ _ a
theorem VR:∀(n:Nat)(v:Vl)(k:Kd)(p:List Str),mf n v k=some p->p.length<=n
 | 0,_,_,p,h=>by cases h
 | n+1,v,k,p,h=>by
  rw[mf]at h;split at h
  ·cases h
  ·split at h
   ·cases v with
    | row ps =>
     cases k with
     | row fs o =>
      refine M8 (λu a q b=>?_) h;obtain⟨x,_,rfl⟩:=YC.mp a;exact VQ (VR n) b
     | _=>cases h
    | _=>cases k <;> cases h
   ·cases h;exact YY _
theorem VS:∀{ps:Ps}{x:Str}{v:Vl},ps.find x=some v->v∈ps.vals
 | .cons n u r,x,v,h=>by
  have h':(if n=x then some u else r.find x)=some v:=h;by_cases e:n=x
  ·rw[if_pos e]at h';cases h';exact Ye
  ·rw[if_neg e]at h';exact Yd _ (VS h')
def Ps.kv:Ps->List (Key×W)
 | .nil=>[]
 | .cons n v r=>(Sum.inr n,v.enc)::r.kv
theorem Nn:∀(ps:Ps)(x:Str),atT ps.kv x=(ps.find x).map Vl.enc
 | .nil,x=>rfl
 | .cons n v r,x=>by
  show atT ((Sum.inr n,v.enc)::r.kv) x=(if n=x then some v else r.find x).map Vl.enc;rw[HH];by_cases e:n=x
  ·rw[if_pos e,if_pos (by rw[e])];rfl
  ·rw[if_neg e,if_neg (λz=>e (Sum.inr.inj z))];exact Nn r x
theorem VT:∀ ps:Ps,ps.kv.map (·.1)=ps.names.map Sum.inr
 | .nil=>rfl
 | .cons n v r=>by show Sum.inr n::r.kv.map (·.1)=Sum.inr n::r.names.map Sum.inr;rw[VT r]
def Ps.toW:Ps->List (Str×W)
 | .nil=>[]
 | .cons n v r=>(n,v.enc)::r.toW
theorem VU:∀ ps:Ps,ps.toW.map (λy=>W.tup [.str y.1,y.2])=ps.enc
 | .nil=>rfl
 | .cons n v r=>by show W.tup [.str n,v.enc]::r.toW.map (λy=>W.tup [.str y.1,y.2])=W.tup [.str n,v.enc]::r.enc;rw[VU r]
theorem VV:∀ ps:Ps,ps.toW.map (λy=>((Sum.inr y.1:Key),y.2))=ps.kv
 | .nil=>rfl
 | .cons n v r=>by show(Sum.inr n,v.enc)::r.toW.map (λy=>((Sum.inr y.1:Key),y.2))=(Sum.inr n,v.enc)::r.kv;rw[VV r]
theorem VW:∀ ps:Ps,ps.toW.map (·.1)=ps.names
 | .nil=>rfl
 | .cons n v r=>by show n::r.toW.map (·.1)=n::r.names;rw[VW r]
theorem mC(h:rise ns=true):ns.Nodup:=(IA h).imp λ{x y}a e=>by rw[e,ER]at a;cases a
def vk(n:Nat)(v:Vl)(k:Kd):Prop:=v.ok 12=true/\wf 10 k/\k.dat=true/\k.dp<=n
abbrev VX(n:Nat):Spw:=spR (λ(x:Vl×Kd)ws _=>ws=[x.1.enc,x.2.enc]/\vk n x.1 x.2) λx=>pW (mf n x.1 x.2)
noncomputable def GC(n:Nat):Spw:=λws G Q _=>∃(p:Addr)(ps:Ps)(x:Str)(e:En),ws=[.ref p,.str x,e.enc]/\G p=some (.dct ps.kv)/\(∀ v m k,ps.find x=some v->e=.told m k->vk n v k)/\Q (pW (mfE (mf n) (ps.find x) e)) G
theorem mD:Spw.M (GC n):=(by rintro b G Q d E c h _ ⟨p,ps,x,e,h1,h2,a,q⟩;exact⟨p,ps,x,e,h1,h2,a,h _ _ q⟩)
theorem mE(a:Bool)(h:G p=some (.dct ps.kv)):inK a (.str x) (.ref p) G=some (.bl ((ps.find x).isSome != a)):=by
 unfold inK;dsimp only;rw[h];dsimp only;rw[Nn];cases ps.find x <;> rfl
theorem mF(h:G p=some (.dct ps.kv))(a:ps.find x=some v):ixK (.ref p) (.str x) G=some v.enc:=by
 unfold ixK;dsimp only;rw[h];dsimp only;rw[Nn,a];rfl
theorem mG:(("free":Str)=="none")=false:=by decide +kernel
theorem IH(T:Tx K mg base a)(D:Df P w K mg base "misfit_of" j 2 (VX n)):Df P w K mg base "misfit_of_field" (j+1) 3 (GC n):=by
 refine mk0 (k:=j) T.jP rfl UR mD (λf G Q E⟨_,_,_,_,e,_⟩=>by rw[e];rfl) (lO T D (Yr _)) λf G Q E g q=>?_;obtain⟨p,ps,x,e,rfl,c,d,q⟩:=q;unfold US;show Ag (gIf _ _ Ai) _ (Ar Q) [some (.ref p),some (.str x),some e.enc] G;simp only[Ag,gIf,gTB,Ad,Ae,Ab,Yb,Yc,mE true c,Ao];cases b:ps.find x with
 | none =>
  rw[b]at q;simp only[Option.isSome_none,show(false != true)=true from rfl,if_true,Ah,AT,gTB,Ad,Ae,Ab,gC,Yb,Yc,Cj,Ao];cases e with
  | free=>exact q
  | nope=>exact q
  | told m k =>
   simp only[En.hd,VC,Ao];cases m with
   | true=>exact⟨by decide,q⟩
   | false=>exact q
 | some v =>
  rw[b]at q d;simp only[Option.isSome_some,show(true != true)=false from rfl,Yq,if_false,Ag,gIf,Ah,Ai,AT,gTB,Ad,Ae,Ab,gC,Yb,Yc,Cj,Ao,Bc,Bd,Be,YE];cases e with
  | free =>
   simp only[En.hd,mG,beq_self_eq_true,bne_self_eq_false,Yq,if_false,show(true != false)=true from rfl,if_true];exact q
  | nope =>
   simp only[En.hd,beq_self_eq_true,show(true != false)=true from rfl,if_true];exact⟨by decide,q⟩
  | told m k =>
   have h1:(mark m=="none")=false:=by simpa using(By m).2.1
   have h2:(mark m=="free")=false:=by simpa using(By m).1
   simp only[En.hd,h1,h2,bne_self_eq_false,Yq,if_false,Af,Aa,Ac,Ad,Ae,Ab,gC,Yb,Yc,mF c b,Ao];simp only[En.enc,ixW,A5,Ao];exact⟨(v,k),⟨rfl,d v m k rfl rfl⟩,q⟩
abbrev gMR(sp:Spw):GS:=Ag (Ap 3 (Af sp XF (Aa (Ab 0) (Aa (Ab 2) (Aa (Af FE XF (Aa (Ab 1) (Aa (Ab 2) Ac))) Ac))))) (gIf (gTB (Ad (Ae (isF true)) (Ab 3) (gC .non))) (Ah (Af IT XF (Aa (Ab 2) (Aa (Ab 3) Ac)))) Ai)
theorem VY{n:Nat}{D:Ew}{gd:Hw->Prop}{G:Hw}{ps:Ps}{fs:Fs}{o:Bool}{p:Addr}(a:gd G)(l:n<=100)(r:G p=some (.dct ps.kv))(f:∀ x v m k,ps.find x=some v->ent fs o x=.told m k->vk n v k):∀(xs:List Str)(d b:Option W),
  (∀ q,CD (xs.map λx=>(x,mfE (mf n) (ps.find x) (ent fs o x)))=some q->D.rt (pW (some q)) G)->(CD (xs.map λx=>(x,mfE (mf n) (ps.find x) (ent fs o x)))=none->∀ d b,D.nx [some (.ref p),some (Kd.row fs o).enc,d,b] G)->
  AY gd (gNm 2) (gMR (GC n)) D (xs.map W.str) [some (.ref p),some (Kd.row fs o).enc,d,b] G
 | [],d,b,_,h=>⟨a,h rfl d b⟩
 | x::xs,d,b,g,h=>by
  refine⟨a,?_⟩;show gMR (GC n) _ [some (.ref p),some (Kd.row fs o).enc,some (.str x),b] G;refine U7 (i:=3) (j:=2) (c:=mfE (mf n) (ps.find x) (ent fs o x)) (s:=x) rfl (by decide) (by simp) (λq e=>Yt (VQ (VR n) e) l) (λQ t=>?_) (λe=>?_) (λq e=>?_)
  ·simp only[Af,Aa,Ac,Ab,Yb,Yc];exact⟨(fs,o,x),rfl,p,ps,x,ent fs o x,rfl,r,λv m k=>f x v m k,t⟩
  ·refine VY a l r f xs _ _ (λq z=>g q ?_) (λz=>h ?_)
   ·rw[Ym,e];exact z
   ·rw[Ym,e];exact z
  ·exact g _ (by rw[Ym,e];rfl)
noncomputable def VZ(n:Nat):Spw:=λws G Q _=>∃(p:Addr)(ps:Ps)(fs:Fs)(o:Bool),ws=[.ref p,(Kd.row fs o).enc]/\G p=some (.dct ps.kv)/\vk (n+1) (.row ps) (.row fs o)/\Q (pW (mfR (mf n) (.row ps) (.row fs o))) G
theorem mH:Spw.M (VZ n):=(by rintro b G Q d E c h _ ⟨p,ps,fs,o,h1,h2,a,q⟩;exact⟨p,ps,fs,o,h1,h2,a,h _ _ q⟩)
theorem mI{fs:Fs}(h:vk (n+1) (.row ps) (.row fs o))(x:Str)(v:Vl)(m:Bool)(k:Kd)(c:ps.find x=some v)(a:ent fs o x=.told m k):vk n v k:=by
 obtain⟨h1,h2,b,d⟩:=h;have:=D4 (k:=.row fs o) (ES a);exact⟨Nh (FL h1).2 v (VS c),Gy h2 (ES a),FK b (ES a),by omega⟩
theorem IL(T:Tx K mg base a)(g:1<=j)(B:n<=90)(D:Df P w K mg base "misfit_of_field" j 3 (GC n)):Df P w K mg base "misfit_of_row" (j+1) 2 (VZ n):=by
 refine mk0 (k:=j) T.jQ rfl UU mH (λs G Q E⟨_,_,_,_,e,_⟩=>by rw[e];rfl) (lR T (Ed T) g (BB T) g D (Yr _) (CQ T) g) λs G Q E h q=>?_;obtain⟨p,ps,fs,o,rfl,i,f,q⟩:=q;have J:=Ni f.1;have H:=ET f.2.1;unfold UV;show Ag (AF _ _ _) _ (Ar Q) [some (.ref p),some (Kd.row fs o).enc,none,none] G;simp only[Ag,AF,AB,HL,Af,Ab,Aa,Ac,Yb,Yc];refine⟨p,ps.kv,ps.names,rfl,i,VT ps,by omega,(fs,o),⟨rfl,by dsimp only;omega⟩,λp1 c=>⟨fs.names,El Ak,by omega,λzs r y l v A=>?_⟩⟩;have t:=UG (xs:=ps.names++fs.names) y l λx=>by rw[v,Yz]
 simp only[Ak];have d:Sub G (put (put G p1 (.lst (fs.names.map W.str))) r (.lst (zs.map W.str))):=B9 (A1 c) A;have b:Q (pW (CD (zs.map λx=>(x,mfE (mf n) (ps.find x) (ent fs o x))))) G:=by rw[t];exact q
 refine VY (gd:=λm=>m r=some (.lst (zs.map W.str))) Ak (by omega) (d _ _ i) (mI f) zs none none (λu z=>?_) (λz F I=>?_)
 ·rw[z]at b;exact h _ _ _ d b
 ·rw[z]at b;exact h _ _ _ d b
theorem mJ(h:v.hd="row"):∃ ps,v=.row ps:=by
 cases v <;> first | exact⟨_,rfl⟩| exact absurd h (by simp only[Vl.hd];decide)
theorem mK{f:Vl->Kd->Option (List Str)}{k:Kd}(h:k.hd≠"row"):mfR f v k=none:=by
 cases v <;> cases k <;> first | rfl | exact absurd rfl h
theorem Ee(T:Tx K mg base a):∀ n:Nat,n<=90->Df P w K mg base "misfit_of" (3*n+2) 2 (VX n)
 | 0,_=>CC T.R5 AG λg G Q E⟨x,⟨_,h⟩,_⟩=>by have:=Bx x.2;have:=h.2.2.2;omega
 | n+1,m=>by
  refine mk0 (k:=3*n+4) T.R5 rfl UZ AG (λg G Q E⟨_,⟨e,_⟩,_⟩=>by rw[e];rfl) (lS T (IK T) (by omega) (IL T (n:=n) (j:=3*n+3) (by omega) (by omega) (IH T (Ee T n (by omega)))) (by omega)) λg G Q E i q=>?_;obtain⟨⟨v,k⟩,⟨rfl,d⟩,q⟩:=q;dsimp only at d q;rw[mf]at q;unfold U0;show Ag (gIf _ _ Ai) _ (Ar Q) [some v.enc,some k.enc] G;refine Ef rfl ?_;by_cases f:k.hd="any"
  ·rw[if_pos f]at q ⊢;exact q
  rw[if_neg f]at q ⊢;simp only[Ag,gIf,gTB,Ad,Ae,Af,Ab,gC,Aa,Ac,Yb,Yc];refine⟨v,rfl,?_⟩;dsimp only;rw[BA,Ao];simp only[Bc,Bd,Be,YE,Ao];by_cases c:v.hd=k.hd
  ·rw[if_pos c]at q;rw[show(v.hd==k.hd)=true by simp[c]];simp only[bne_self_eq_false,Yq,if_false,Ai,Ah,AT,gTB,Ad,Ae,Ab,gC,Yb,Yc,BA,Ao,Bc,Bd,Be,YE];by_cases b:k.hd="row"
   ·simp only[b,beq_self_eq_true,show(true != false)=true from rfl,if_true];obtain⟨fs,o,rfl⟩:=BQ b;obtain⟨ps,rfl⟩:=mJ (c.trans b);simp only[Af,gB,Ab,Aa,Ac,Yb,Yc];refine⟨ps.toW,by rw[VU];rfl,by rw[VW];exact mC (FL d.1).1,λl hl=>?_⟩;rw[VV];exact⟨l,ps,fs,o,rfl,Ak,d,i _ _ _ (A1 hl) q⟩
   ·rw[mK b]at q;have:(k.hd=="row")=false:=by simpa using b
    walk_at "ph";exact q
  ·rw[if_neg c]at q;rw[show(v.hd==k.hd)=false by simpa using c];simp only[show(false != true)=true from rfl,if_true,Ah,An,Ac];exact⟨by decide,q⟩
def vkg(v:Vl)(k:Kd):Prop:=vg v/\kd8 k/\k.dat=true
abbrev mL:Spw:=spR (λ(x:Vl×Kd)ws _=>ws=[x.1.enc,x.2.enc]/\vkg x.1 x.2) λx=>pW (mf 8 x.1 x.2)
theorem IS(T:Tx K mg base a):Df P w K mg base "misfit" 27 2 mL:=by
 refine mk0 (k:=26) T.jR rfl U2 AG (λc G Q E⟨_,⟨e,_⟩,_⟩=>by rw[e];rfl) (lT T (IP T) (by omega) (IQ T) (by omega) (Ee T 8 (by omega)) (by omega)) λc G Q E d q=>?_;obtain⟨⟨v,k⟩,⟨rfl,h1,h2,b⟩,q⟩:=q;unfold U3;walk_at "rd";exact⟨k,⟨rfl,h2,b⟩,v,⟨rfl,h1⟩,(v,k),⟨rfl,h1.1,h2.1,b,h2.2.2⟩,q⟩
abbrev FM:Spw:=spR (λ(x:Vl×Kd)ws _=>ws=[x.1.enc,x.2.enc]/\vkg x.1 x.2) λx=>.bl (mf 8 x.1 x.2).isNone
theorem mM(c:Option (List Str))(G:Hw):isF false (pW c) .non G=some (.bl c.isNone):=by cases c <;> rfl
theorem Jg(T:Tx K mg base a):Df P w K mg base "fits" 28 2 FM:=by
 refine mk0 (k:=27) T.jS rfl U5 AG (λb G Q E⟨_,⟨e,_⟩,_⟩=>by rw[e];rfl) (lU T (IS T) (by omega)) λb G Q E c q=>?_;obtain⟨⟨v,k⟩,⟨rfl,h⟩,q⟩:=q;unfold U6;walk_at "rd";refine⟨(v,k),⟨rfl,h⟩,?_⟩;dsimp only;rw[mM,Ao];exact q
abbrev V0:List Str:=["state","deep","pick","found","name"]
theorem V1:Ax V0 ["state","deep"] (Aq Mk):=by walk_at "s"
def V2(Aw:Spw)(DD:Spw):GS:=(Ag (Ap 2 (Af Aw XF (Aa (Ab 0) (Aa (gC (.int 7)) Ac)))) (Ag (BF (Ad (Ay (λ_ _=>True) λi j=>i - j) (Ad (Ae ixW) (Ab 0) (gC (.int 2))) (gC (.int 1))) (Ab 0) (gC (.int 2))) (Ag (gIf (gTB (Ad (Ae (eqF false)) (Ab 2) (gC (.int 0)))) (Ah (Ad (Ae (eqF false)) (Af Aw XF (Aa (Ab 0) (Aa (gC (.int 2)) Ac))) (gC (.int 1)))) Ai) (Ag (gIf (gOr (gTB (Ad (AH (λi j=>decide (i < j)) As) (Ab 2) (gC (.int 3)))) (gOr (gTB (Ad (AH (λi j=>decide (i < j)) As) (Ab 1) (gC (.int 2)))) (gTB (Ad (AH (λi j=>decide (i < j)) As) (Ad (Ae ixW) (Ab 0) (gC (.int 2))) (gC (.int 1)))))) (Ah (Ad (Dq) (Ad (Ae ixW) (Au (Aa (gC (.int 1)) (Aa (Gh (gC (.int 1))) Ac))) (Af Aw XF (Aa (Ab 0) (Aa (gC (.int 2)) Ac)))) (Af Aw XF (Aa (Ab 0) (Aa (Ad (Ae ixW) (Au (Aa (gC (.int 5)) (Aa (Ad (Ay Ep λi j=>i ^ j.toNat) (gC (.int 10)) (gC (.int 30))) Ac))) (Ad (Ay E4 λi j=>i / j) (Af Aw XF (Aa (Ab 0) (Aa (gC (.int 6)) Ac))) (gC (.int 5)))) Ac))))) Ai) (Ag (Ap 3 (Au Ac)) (Ag (AF (AB (Au (Aa (gC (.str "a")) (Aa (gC (.str "ab")) (Aa (gC (.str "b")) (Aa (gC (.str "c")) (Aa (gC (.str "zzzzzzzz")) Ac))))))) (gNm 4) (gIf (AQ (gTB (Ad (Ae (eqF false)) (Af Aw XF (Aa (Ab 0) (Aa (gC (.int 2)) Ac))) (gC (.int 1)))) (gTB (Ad (AM λi j=>decide (j < i)) (Ad (Ae ixW) (Ab 0) (gC (.int 2))) (gC (.int 0))))) (AD (gMt BU CJ (Ab 3) (Aa (An (Aa (Ab 4) (Aa (Af DD XF (Aa (Ab 0) (Aa (Ad (Ay (λ_ _=>True) λi j=>i - j) (Ab 1) (gC (.int 1))) Ac))) Ac))) Ac))) Ai)) (Ah (gB (rF AI) (Aa (Ab 3) Ac)))))))))
variable {DD:Spw}
theorem mO(T:Tx K mg base a){AJ:Nat}(Dy:Df P w K mg base "_law_choice" AJ 2 Aw)(Dz:AJ<=k){EV:Nat}(mP:Df P w K mg base "_law_value" EV 2 DD)(mQ:EV<=k):Dn P w K mg base V0 "_law_value" Mk k (V2 Aw DD):=λ{f cdv A outer s H E}hr=>
 have hu:=A4 hr
 have hN:=V1.nd
 (AA (by walk_at "v") (AA (by walk_at "v") (AA (by walk_at "v") (AA (DS (by walk_at "v") (Br (B1 (QH (Pi (λ_ _=>rfl) (Pk (A3 rfl Hm (A3 rfl (iR Hm) BD))) (by walk_at "v")) (by walk_at "v")))) DQ) (by walk_at "v")))))
abbrev V3:List Str:=["state","kind","found","name","mark","inner"]
theorem V4:Ax V3 ["state","kind"] (Aq Ml):=by walk_at "s"
def V5(Aw:Spw)(DF:Spw):GS:=(Ag (gIf (gTB (Ad (Ae (eqF false)) (Ad (Ae ixW) (Ab 1) (gC (.int 0))) (gC (.str "num")))) (Ah (Ad (Ay (λ_ _=>True) λi j=>i - j) (Af Aw XF (Aa (Ab 0) (Aa (gC (.int 9)) Ac))) (gC (.int 4)))) Ai) (Ag (gIf (gTB (Ad (Ae (eqF false)) (Ad (Ae ixW) (Ab 1) (gC (.int 0))) (gC (.str "truth")))) (Ah (Ad (Ae (eqF false)) (Af Aw XF (Aa (Ab 0) (Aa (gC (.int 2)) Ac))) (gC (.int 1)))) Ai) (Ag (gIf (gTB (Ad (Ae (eqF false)) (Ad (Ae ixW) (Ab 1) (gC (.int 0))) (gC (.str "any")))) (Ah (Ad (Ae ixW) (Au (Aa (gC (.int 0)) (Aa (gC (.bl true)) (Aa (An Ac) (Aa (An (Aa (An (Aa (gC (.str "b")) (Aa (gC (.int 2)) Ac))) Ac)) Ac))))) (Af Aw XF (Aa (Ab 0) (Aa (gC (.int 4)) Ac))))) Ai) (Ag (Ap 2 Gg) (Ag (AF (BO (Ad (Ae ixW) (Ab 1) (gC (.int 1)))) (BN 3 4 5) (gIf (gOr (gTB (Ad (Ae (eqF false)) (Ab 4) (gC (.str "must")))) (gTB (Ad (Ae (eqF false)) (Af Aw XF (Aa (Ab 0) (Aa (gC (.int 2)) Ac))) (gC (.int 1))))) (CA (Af DF XF (Aa (Ab 0) (Aa (Ab 5) Ac))) (Ab 2) (Ab 3)) Ai)) (Ag (gIf (AQ (AC (Ad (Ae ixW) (Ab 1) (gC (.int 2)))) (gTB (Ad (Ae (eqF false)) (Af Aw XF (Aa (Ab 0) (Aa (gC (.int 2)) Ac))) (gC (.int 1))))) (CA (gMt Lb La (Ab 2) (Aa (gC (.str "b")) (Aa (gC (.int 7)) Ac))) (Ab 2) (gC (.str "b"))) Ai) (Ah (gB (rF AI) (Aa (DZ (Ab 2)) Ac)))))))))
variable {DF:Spw}
theorem mR(T:Tx K mg base a){AJ:Nat}(Dy:Df P w K mg base "_law_choice" AJ 2 Aw)(Dz:AJ<=k){Eg:Nat}(mS:Df P w K mg base "_law_value_of" Eg 2 DF)(mT:Eg<=k):Dn P w K mg base V3 "_law_value_of" Ml k (V5 Aw DF):=by
 have hN:=V4.nd;walk_at "z"
abbrev V6:List Str:=["state","value","found","name","inner"]
theorem V7:Ax V6 ["state","value"] (Aq Mm):=by walk_at "s"
def V8(Aw:Spw)(DG:Spw):GS:=(Ag (gIf (gTB (Ad (Ae (eqF false)) (Af Aw XF (Aa (Ab 0) (Aa (gC (.int 6)) Ac))) (gC (.int 0)))) (Ah (Ad (Ae ixW) (Au (Aa (gC (.int 3)) (Aa (gC (.bl false)) (Aa (An Ac) (Aa (An (Aa (An (Aa (gC (.str "a")) (Aa (gC (.int 1)) Ac))) Ac)) Ac))))) (Af Aw XF (Aa (Ab 0) (Aa (gC (.int 4)) Ac))))) Ai) (Ag (gIf (AC (AU "int" (Ab 1))) (Ah (Ab 1)) Ai) (Ag (Ap 2 Gg) (Ag (AF (BO (Ab 1)) (Bh 3 4) (gIf (gTB (Ad (AM λi j=>decide (j < i)) (Af Aw XF (Aa (Ab 0) (Aa (gC (.int 8)) Ac))) (gC (.int 0)))) (CA (Af DG XF (Aa (Ab 0) (Aa (Ab 4) Ac))) (Ab 2) (Ab 3)) Ai)) (Ag (gIf (gTB (Ad (Ae (eqF false)) (Af Aw XF (Aa (Ab 0) (Aa (gC (.int 8)) Ac))) (gC (.int 1)))) (CA (gMt Lb La (Ab 2) (Aa (gC (.str "c")) (Aa (gC (.int 0)) Ac))) (Ab 2) (gC (.str "c"))) Ai) (Ah (gB (rF AI) (Aa (DZ (Ab 2)) Ac))))))))
variable {DG:Spw}
theorem mU(T:Tx K mg base a){AJ:Nat}(Dy:Df P w K mg base "_law_choice" AJ 2 Aw)(Dz:AJ<=k){Eh:Nat}(mV:Df P w K mg base "_law_turned" Eh 2 DG)(mW:Eh<=k):Dn P w K mg base V6 "_law_turned" Mm k (V8 Aw DG):=by
 have hN:=V7.nd;walk_at "z"
abbrev V9:List Str:=["value"]
theorem Wa:Ax V9 ["value"] (Aq Mn):=by walk_at "s"
def Wb(DH:Spw):GS:=(Ag (gIf (AC (AU "int" (Ab 0))) (Ah (gC (.int 1))) Ai) (Ah (Ad (BI) (gC (.int 1)) (gB (DV) (Aa (AR (BO (Ab 0)) 2 (Bh 0 1) AL (Af DH XF (Aa (Ab 1) Ac))) Ac)))))
variable {DH:Spw}
theorem mX(T:Tx K mg base a){Ei:Nat}(mY:Df P w K mg base "_law_values" Ei 1 DH)(mZ:Ei<=k):Dn P w K mg base V9 "_law_values" Mn k (Wb DH):=λ{f cdv A outer s H E}hr=>
 have hu:=A4 hr
 have hN:=Wa.nd
 (AA (by walk_at "v") (Br (B1 (Hv Hm (Ce P0 (PM rfl) rfl T.Sq (by decide) rfl rfl rfl (A3 rfl (Cy (Nc:=["name","inner"]) rfl (Cr rfl (by decide +kernel) (by decide +kernel)) (λ_=>rfl) (by walk_at "v") (Hl (i:=0) (j:=1) rfl (by decide) rfl rfl rfl rfl) (λC fp s1 H1=>Bz) (λC fp s1 H1=>(by walk_at "v"))) BD))))))
abbrev Wc:List Str:=["script","k","kind","state","way","value","turned","some"]
theorem Wd:Ax Wc ["script","k","kind"] (Aq Mo):=by walk_at "s"
def We(BK:Spw)(Aw:Spw)(DD:Spw)(DF:Spw)(DG:Spw)(DH:Spw):GS:=(Ag (Ap 3 (Ad (BI) (Af BK XF (Aa (Ab 0) (Aa (Ab 1) Ac))) (Au (Aa (gC (.int 12)) Ac)))) (Ag (Ap 4 (Af Aw XF (Aa (Ab 3) (Aa (gC (.int 4)) Ac)))) (Ag (gIf (gTB (Ad (Ae (eqF false)) (Ab 4) (gC (.int 0)))) (Ah (Af DD XF (Aa (Ab 3) (Aa (gC (.int 4)) Ac)))) Ai) (Ag (Ap 5 (Af DF XF (Aa (Ab 3) (Aa (Ab 2) Ac)))) (Ag (Ap 6 (Ab 5)) (Ag (gIf (gTB (Ad (Ae (eqF false)) (Ab 4) (gC (.int 1)))) (Ap 6 (Af DG XF (Aa (Ab 3) (Aa (Ab 5) Ac)))) Ai) (Ag (AF (AB (Au (Aa (Ab 6) (Aa (Ab 5) Ac)))) (gNm 7) (gIf (gTB (Ad (AH (λi j=>decide (i < j)) As) (Af DH XF (Aa (Ab 7) Ac)) (gC (.int 101)))) (Ah (Ab 7)) Ai)) (Ah (gC (.int 0))))))))))
theorem m2(T:Tx K mg base a){B3:Nat}(MV:Df P w K mg base "_law_state" B3 2 BK)(MW:B3<=k){AJ:Nat}(Dy:Df P w K mg base "_law_choice" AJ 2 Aw)(Dz:AJ<=k){EV:Nat}(mP:Df P w K mg base "_law_value" EV 2 DD)(mQ:EV<=k){Eg:Nat}(mS:Df P w K mg base "_law_value_of" Eg 2 DF)(mT:Eg<=k){Eh:Nat}(mV:Df P w K mg base "_law_turned" Eh 2 DG)(mW:Eh<=k){Ei:Nat}(mY:Df P w K mg base "_law_values" Ei 1 DH)(mZ:Ei<=k):Dn P w K mg base Wc "_law_drawn_value" Mo k (We BK Aw DD DF DG DH):=by
 have hN:=Wd.nd;walk_at "z"
theorem sum_nat:∀ a:List Nat,(a.map λc:Nat=>(c:Int)).sum=((a.sum:Nat):Int)
 | []=>rfl
 | c::a=>by rw[Ym,List.sum_cons,List.sum_cons,sum_nat a];omega
theorem Wf:∀(a:List Nat)(j:Nat),(a.take j).sum<=a.sum
 | [],j=>by simp
 | c::a,0=>by simp
 | c::a,j+1=>by have:=Wf a j;rw[List.take_succ_cons,List.sum_cons,List.sum_cons];omega
theorem Np:∀{a:List Nat}{c:Nat},c∈a->c<=a.sum
 | d::a,c,h=>by
  rw[List.sum_cons];walk_at "pk"
  ·omega
  ·have:=Np h;omega
theorem Wg{i:Int}(a:0<=i)(h1:i<=1000000):InLong i:=by unfold InLong;omega
theorem m5(a:List Nat)(h:a.sum<=1000000):PyProof.Rows.SumFits (a.map λc:Nat=>(c:Int)):=by
 intro j b;rw[Yh]at b;refine⟨?_,?_⟩
 ·have e:(a.map λc:Nat=>(c:Int)).getD j 0=(a[j]:Int):=by rw[Qe,YS,Yp b];rfl
  have:=Np (Qk b);rw[e];exact Wg (by omega) (by omega)
 ·rw[<- List.map_take,sum_nat];have:=Wf a (j+1);exact Wg (by omega) (by omega)
theorem m6{a:List Nat}(h:a.sum<=1000000)(e:Kw.C Q)(q:Q (.int (1+(a.sum:Nat))) G)(b:G p=none):DV [.ref p] (put G p (.lst (a.map λc:Nat=>W.int (c:Int)))) λy d=>BI (.int 1) y d Q:=by
 unfold DV;simp only[El Ak,Option.bind_some];rw[show(a.map λc:Nat=>W.int (c:Int))=(a.map λc:Nat=>(c:Int)).map W.int by rw[YB];rfl,L3.RK];dsimp only;refine⟨m5 a h,?_⟩;rw[sum_nat];exact e _ _ _ (A1 b) q
theorem m7(h:n<=1000000):n < sizeLine:=by unfold sizeLine;omega
theorem EW(i:Int)(G:Hw):eqF false (.int i) (.int 1) G=some (.bl (i==1)):=by unfold eqF eqW;show some (W.bl ((i==1) != false))=_;cases(i==1) <;> rfl
theorem Wh{d:Hw}{x e:Int}{r:List W}(i:G s=some (S2 x b r))(f:G p=none)(g:d s=some (S2 e b r))(h:∀ c,c≠s->c≠p->∀ u,G c=some u->d c=some u):Sub (put G s (S2 e b r)) d:=λc u a=>by
 by_cases hc:c=s
 ·subst hc;rw[Ak]at a;rw[g];exact a
 ·rw[Aj hc]at a;exact h c hc (λz=>by subst z;rw[f]at a;cases a) u a
abbrev Pr:=List (Str×Vl)
def ofP:Pr->Ps
 | []=>.nil
 | y::l=>.cons y.1 y.2 (ofP l)
def BR(y:Str×Vl):W:=.tup [.str y.1,y.2.enc]
theorem Wi:∀ l:Pr,(ofP l).enc=l.map BR
 | []=>rfl
 | y::l=>by show BR y::(ofP l).enc=BR y::l.map BR;rw[Wi l]
theorem Nq:∀ l:Pr,(ofP l).names=l.map (·.1)
 | []=>rfl
 | y::l=>by show y.1::(ofP l).names=y.1::l.map (·.1);rw[Nq l]
theorem FN:∀ l:Pr,(ofP l).cnt=(l.map λy=>y.2.cnt).sum
 | []=>rfl
 | y::l=>by rw[Ym,List.sum_cons,<- FN l];rfl
theorem Jh{n:Nat}:∀ l:Pr,(∀ y∈l,y.2.dp<=n)->(ofP l).dp<=n
 | [],_=>YY _
 | y::l,h=>by
  have h1:=h y Ye;have h2:=Jh l λz a=>h z (Yd _ a);show max y.2.dp (ofP l).dp<=n;omega
theorem Wj{m:Nat}:∀ l:Pr,(∀ y∈l,AK y.1=true/\y.2.ok m=true)->(ofP l).ok m=true
 | [],_=>rfl
 | y::l,h=>by
  obtain⟨h1,h2⟩:=h y Ye;show(AK y.1&&y.2.ok m&&(ofP l).ok m)=true;rw[h1,h2,Wj l λz a=>h z (Yd _ a)];rfl
variable {l:Pr}
theorem GF(h1:(l.map (·.1)).Pairwise (λx y=>As x y=true))(h2:l.length<=m)(a:∀ y∈l,AK y.1=true/\y.2.ok m=true):(Vl.row (ofP l)).ok m=true:=by
 show(rise (ofP l).names&&(decide ((ofP l).names.length<=m)&&(ofP l).ok m))=true;rw[Nq,M2 h1,Wj l a,Yh,YI h2];rfl
theorem Ji(l:Pr):(Vl.row (ofP l)).enc=.tup (l.map BR):=by rw[<- Wi];rfl
def Ps.toP:Ps->Pr
 | .nil=>[]
 | .cons n v r=>(n,v)::r.toP
theorem Nr:∀ ps:Ps,ofP ps.toP=ps
 | .nil=>rfl
 | .cons n v r=>by show Ps.cons n v (ofP r.toP)=_;rw[Nr r]
theorem m8(h:(Vl.row (ofP l)).ok m=true):(l.map (·.1)).Pairwise (λx y=>As x y=true)/\l.length<=m/\∀ y∈l,AK y.1=true/\y.2.ok m=true:=by
 obtain⟨h1,h2⟩:=FL h;have c:=Ni h;rw[Nq]at h1 c;rw[Yh]at c;refine⟨IA h1,c,?_⟩
 have go:∀ l:Pr,(ofP l).ok m=true->∀ y∈l,AK y.1=true/\y.2.ok m=true:=by
  intro l;induction l with
  | nil=>intro _ y a;cases a
  | cons z l d =>
   intro g y a;have b:(AK z.1&&z.2.ok m&&(ofP l).ok m)=true:=g;simp only[YH]at b;walk_at "pf"
   ·exact b.1
   ·exact d b.2 y a
 exact go l h2
theorem Nt:∀ y∈l,y.2.dp<=(ofP l).dp:=by
 induction l with
 | nil=>intro y a;cases a
 | cons z l b =>
  intro y a;show _<=max z.2.dp (ofP l).dp;walk_at "pf"
  ·exact Nat.le_max_left _ _
  ·exact Yt (b y a) (Nat.le_max_right _ _)
mutual
theorem Jj:∀{m n:Nat}(v:Vl),m<=n->v.ok m=true->v.ok n=true
 | m,n,.int _,_,_=>rfl
 | m,n,.bl _,_,_=>rfl
 | m,n,.row ps,h,a=>by
  obtain⟨h1,h2⟩:=FL a;have b:=Ni a;show(rise ps.names&&(decide (ps.names.length<=n)&&ps.ok n))=true;rw[h1,Wl ps h h2,YI (Yt b h)];rfl
theorem Wl:∀{m n:Nat}(ps:Ps),m<=n->ps.ok m=true->ps.ok n=true
 | m,n,.nil,_,_=>rfl
 | m,n,.cons x v r,h,a=>by
  have h':(AK x&&v.ok m&&r.ok m)=true:=a;walk_at "pb";show(AK x&&v.ok n&&r.ok n)=true;rw[h'.1.1,Jj v h h'.1.2,Wl r h h'.2];rfl
end
theorem m9{a:Pr}(h:a.Perm l):(a.map λy=>y.2.cnt).sum=(l.map λy=>y.2.cnt).sum:=(h.map _).sum_nat
theorem Wn(h:(l.map (·.1)).Nodup):l.Nodup:=List.Pairwise.of_map _ (λa b c e=>c (by rw[e])) h
theorem nc{a:Pr}(h1:(a.map (·.1)).Nodup)(h2:(l.map (·.1)).Nodup)(h:∀ y,y∈a↔y∈l):a.Perm l:=(List.perm_ext_iff_of_nodup (Wn h1) (Wn h2)).mpr h
abbrev EX(n:Nat):Spw:=spR (λ(v:Vl)ws _=>ws=[v.enc]/\v.dp<=n/\v.cnt<=1000000) λv=>.int v.cnt
theorem Wo{n:Nat}{R:List W->Hw->Prop}{G:Hw}:∀(l:Pr)(b c:Option W)(a:List W),(∀ y∈l,y.2.dp<=n/\y.2.cnt<=1000000)->a.length+l.length < sizeLine->R (a++l.map λy=>W.int y.2.cnt) G->
  Bi yes (Bh 0 1) AL (Af (EX n) XF (Aa (Ab 1) Ac)) R (l.map BR) [b,c] G a
 | [],b,c,a,_,_,h=>⟨trivial,by rw[List.map_nil,Yx]at h;exact h⟩
 | y::l,b,c,a,d,hl,h=>by
  rw[Yg]at hl;refine⟨trivial,by omega,?_⟩;show Af (EX n) XF (Aa (Ab 1) Ac) [some (.str y.1),some y.2.enc] G λz e=>Bi yes (Bh 0 1) AL (Af (EX n) XF (Aa (Ab 1) Ac)) R (l.map BR) [some (.str y.1),some y.2.enc] e (a++[z]);refine⟨y.2,⟨rfl,d y Ye⟩,?_⟩;refine Wo l _ _ _ (λz f=>d z (Yd _ f)) (by rw[Yj];simp only[Yg,Yi];omega) ?_;rw[Yv];exact h
theorem Wp:∀ l:Pr,l.length<=(l.map λy=>y.2.cnt).sum
 | []=>YY _
 | y::l=>by have:=Wp l;have:=Nf y.2;rw[Ym,List.sum_cons,Yg];omega
theorem Ei(T:Tx K mg base a):∀ n:Nat,Df P w K mg base "_law_values" (n+1) 1 (EX n)
 | 0=>CC T.Sf AG λh G Q E⟨v,⟨_,hd,_⟩,_⟩=>by have:=Ng v;omega
 | n+1=>by
  refine mk0 T.Sf rfl Wa AG (λh G Q E⟨x,⟨e,_⟩,_⟩=>by rw[e];rfl) (mX T (Ei T n) (Yr _)) λh G Q E j q=>?_;obtain⟨v,⟨rfl,hd,hc⟩,q⟩:=q;dsimp only at hd hc q;unfold Wb;show Ag (gIf _ _ Ai) _ (Ar Q) [some v.enc] G;simp only[Ag,gIf,AC,AU,Ab,Yb];cases v with
  | int i =>
   simp only[Vl.enc,tyN,Je,AO,if_true,Ah,gC];exact q
  | bl b =>
   simp only[Vl.enc,tyN,Nm,AO,if_true,Ah,gC];exact q
  | row ps =>
   obtain⟨l,rfl⟩:∃ l,ps=ofP l:=⟨ps.toP,(Nr ps).symm⟩;have m:1+(ofP l).dp<=n+1:=hd;have d:1+(ofP l).cnt<=1000000:=hc;rw[FN]at d;have hl:=Wp l;rw[Ji];simp only[tyN,Jf,AO,Yq,if_false,Ai,Ah,Ad,gB,AR,BO,Ab,gC,Aa,Ac,Yb];refine Wo (n:=n) l none none [] (λy g=>⟨by have:=Nt (l:=l) y g;omega,by have:=Np (YN (f:=λy:Str×Vl=>y.2.cnt) g);omega⟩) (m7 (by simp only[Yi];omega)) λp k=>?_;rw[Yw,show(l.map λy=>W.int y.2.cnt)=(l.map λy=>y.2.cnt).map λc:Nat=>W.int (c:Int) by rw[YB];rfl];refine m6 (by omega) j ?_ k
   have e:(1:Int)+((l.map λy=>y.2.cnt).sum:Nat)=((Vl.row (ofP l)).cnt:Int):=by
    show(1:Int)+((l.map λy=>y.2.cnt).sum:Nat)=((1+(ofP l).cnt:Nat):Int);rw[FN];omega
   rw[e];exact q
def Wq(d c:Int)(v:Vl):Prop:=v.ok 5=true/\(v.dp:Int)<=d/\(v.cnt:Int)<=max c 1
def DI(n:Nat):Spw:=λws G Q _=>∃(s:Addr)(x d c:Int)(b:Bool),ws=[.ref s,.int d]/\1<=d/\d<=(n:Int)+1/\G s=some (.lst [.int x,.bl b,.int c])/\∀(v:Vl)(x':Int),Wq d c v->Q v.enc (put G s (.lst [.int x',.bl b,.int (c - v.cnt)]))
theorem ng:Spw.M (DI n):=(by rintro j G Q l E i h _ ⟨s,x,d,c,b,h1,h2,a,f,q⟩;exact⟨s,x,d,c,b,h1,h2,a,f,λk e g=>h _ _ (q k e g)⟩)
abbrev gVB(sp:Spw):GS:=gIf (AQ (gTB (Ad (Ae (eqF false)) (Af BP XF (Aa (Ab 0) (Aa (gC (.int 2)) Ac))) (gC (.int 1)))) (gTB (Ad (AM λi j=>decide (j < i)) (Ad (Ae ixW) (Ab 0) (gC (.int 2))) (gC (.int 0))))) (AD (gMt BU CJ (Ab 3) (Aa (An (Aa (Ab 4) (Aa (Af sp XF (Aa (Ab 0) (Aa (Ad (Ay (λ_ _=>True) λi j=>i - j) (Ab 1) (gC (.int 1))) Ac))) Ac))) Ac))) Ai
theorem Nu{n:Nat}{D:Ew}{s p w:Addr}{d c:Int}{b:Bool}{items:List W}(A:2<=d)(B:d<=(n:Int)+2):∀(xs:List Str)(I:Option W)(G:Hw)(l:Pr)(x a:Int),G s=some (.lst [.int x,.bl b,.int a])->G p=some (.lst (l.map BR))->G w=some (.lst items)->p≠s->w≠s->w≠p->l.length+xs.length<=100->a=c -(ofP l).cnt->0<=a->
  (∀ ω k g H,(∃ u,ω=[some (.ref s),some (.int d),L,some (.ref p),u])->k s=some (.lst [.int H,.bl b,.int (c -(ofP (l++g)).cnt)])->((ofP (l++g)).cnt:Int)<=c->k p=some (.lst ((l++g).map BR))->(∀ b,b≠s->b≠p->∀ u,G b=some u->k b=some u)->(g.map (·.1)).Sublist xs->(∀ z∈g,z.2.ok 5=true/\(z.2.dp:Int)<=d - 1)->D.nx ω k)->
  AY (holds w items) (gNm 4) (gVB (DI n)) D (xs.map W.str) [some (.ref s),some (.int d),L,some (.ref p),I] G
 | [],I,G,l,x,a,Q,S,y,_,_,_,_,U,Y,i=>⟨y,i _ G [] x ⟨I,rfl⟩ (by rw[Yx,<- U];exact Q) (by rw[Yx];omega) (by rw[Yx];exact S) (λb _ _ u h=>h) (.refl _) (by intro z F;cases F)⟩
 | nm::xs,I,G,l,x,a,Q,S,y,e,j,q,hl,U,Y,i=>by
  refine⟨y,?_⟩;show gVB (DI n) _ [some (.ref s),some (.int d),L,some (.ref p),some (.str nm)] G;have hlx:l.length+(xs.length+1)<=100:=hl;simp only[gIf,AQ,gTB,Ad,Af,Aa,Ac,Ab,gC,Ae,Yb,Yc];refine⟨s,2,x,b,[.int a],rfl,by decide,by decide,Q,λr m r0 r1=>?_⟩;have t:put G s (.lst [.int m,.bl b,.int a]) s=some (.lst [.int m,.bl b,.int a]):=Ak;have o:put G s (.lst [.int m,.bl b,.int a]) p=some (.lst (l.map BR)):=by rw[Aj e];exact S
  have O:put G s (.lst [.int m,.bl b,.int a]) w=some (.lst items):=by rw[Aj j];exact y
  have skip:AY (holds w items) (gNm 4) (gVB (DI n)) D (xs.map W.str) [some (.ref s),some (.int d),L,some (.ref p),some (.str nm)] (put G s (.lst [.int m,.bl b,.int a])):=by
   refine Nu A B xs _ _ l m a t o O e j q (by omega) U Y ?_;intro ω k g H hω J f N X T R;exact i ω k g H hω J f N (λc E K u P=>X c E K u (by rw[Aj E];exact P)) (T.cons nm) R
  dsimp only;rw[EW,Ao];dsimp only;refine Bu (λ_=>?_) (λ_=>skip);rw[ix2 t,Ao];show if decide (0 < a)=true then _ else _
  refine Bu (λZ=>?_) (λ_=>skip);have Z:0 < a:=by simpa using Z
  simp only[AD,gMt,An,Ad,Af,Ay,Aa,Ac,Ab,gC,Yb,Yc];refine⟨EO o,trivial,s,m,d - 1,a,b,rfl,by omega,by omega,t,λv x3 hk=>?_⟩;refine⟨(Qzz 2),?_⟩;refine Iu (by rw[Aj e];exact o) (by rw[Yh];exact Dt (by omega)) ?_;have ee:l.map BR++[W.tup [.str nm,v.enc]]=(l++[(nm,v)]).map BR:=by rw[Yy];rfl
  rw[ee,BY];have ec:(ofP (l++[(nm,v)])).cnt=(ofP l).cnt+v.cnt:=by rw[FN,FN,Yy,List.sum_append];simp
  obtain⟨k1,k2,k3⟩:=hk;refine Nu (c:=c) A B xs _ _ (l++[(nm,v)]) x3 (a - v.cnt) (by rw[Aj (YZ e)];exact Ak) Ak ?_ e j q (by rw[Yj];simp only[Yg,Yi];omega) (by rw[ec];omega) (by omega) ?_
  ·rw[Aj q,Aj j];exact y
  ·intro ω k g H hω J f N X T R;rw[Yv]at J f N;refine i ω k ((nm,v)::g) H hω J f N (λc E K u P=>X c E K u ?_) (T.cons_cons nm) ?_
   ·rw[Aj K,Aj E];exact P
   ·intro z F;rcases Yo.mp F with rfl | F
    ·exact⟨k1,k2⟩
    ·exact R z F
abbrev LV:List Str:=["a","ab","b","c","zzzzzzzz"]
theorem Wr:Gw LV:=⟨by decide +kernel,by decide +kernel,by decide⟩
theorem nh{d c:Int}(hd:1<=d)(h:(∃ i,v=.int i)\/∃ b,v=.bl b):Wq d c v/\v.cnt=1:=by
 rcases h with⟨i,rfl⟩|⟨b,rfl⟩
 ·exact⟨⟨rfl,by show(1:Int)<=d;omega,by show(1:Int)<=_;omega⟩,rfl⟩
 ·exact⟨⟨rfl,by show(1:Int)<=d;omega,by show(1:Int)<=_;omega⟩,rfl⟩
theorem Ws(T:Tx K mg base a)(D:Df P w K mg base "_law_value" j 2 sp)(hj:j<=n+1)(hK:n=0\/∃ m,n=m+1/\sp=DI m):Df P w K mg base "_law_value" (n+2) 2 (DI n):=by
 refine mk0 (k:=n+1) T.Sb rfl V1 ng ((by rintro ws G Q E ⟨s,x,d,c,b,e,_⟩;rw[e];rfl)) (mO T (AJ T) (by omega) D hj) λws G Q E hC q=>?_;obtain⟨s,x,d,c,b,rfl,hd1,hd2,hs,q⟩:=q;unfold V2;show Ag (Ap 2 _) _ (Ar Q) [some (.ref s),some (.int d),none,none,none] G;simp only[Ag,Ap,Af,Aa,Ac,Ab,gC,Yb,Yc];refine⟨s,7,x,b,[.int c],rfl,by decide,by decide,hs,λr f r0 r7=>?_⟩;have h1:put G s (.lst [.int f,.bl b,.int c]) s=some (.lst [.int f,.bl b,.int c]):=Ak;simp only[Yk,Yl,BF,Ad,Ay,Ae,Ab,gC,Yb,Yc,ix2 h1,Ao];refine⟨trivial,MY h1 ?_⟩;rw[BY];have h2:put G s (.lst [.int f,.bl b,.int (c - 1)]) s=some (.lst [.int f,.bl b,.int (c - 1)]):=Ak
 have t:∀(v:Vl)(x':Int),((∃ i,v=.int i)\/∃ b,v=.bl b)->Q v.enc (put (put G s (.lst [.int f,.bl b,.int (c - 1)])) s (.lst [.int x',.bl b,.int (c - 1)])):=λv x' hv=>by
  obtain⟨g1,g2⟩:=nh (c:=c) hd1 hv;rw[BY];have:=q v x' g1;rw[g2]at this;exact this
 have hG2:∀ a u,G a=some u->a≠s->put G s (.lst [.int f,.bl b,.int (c - 1)]) a=some u:=λa u g h=>by rw[Aj h];exact g
 simp only[Ag,gIf,gTB,Ad,Ae,Ab,gC,Yb,Yc];rw[show eqF false (.int r) (.int 0) (put G s (.lst [.int f,.bl b,.int (c - 1)]))=some (.bl (r==0)) by unfold eqF eqW;show some (W.bl ((r==0) != false))=_;cases(r==0) <;> rfl,Ao];refine Bu (λ_=>?_) (λ_=>?_)
 ·simp only[Ah,Ad,Af,Ae,Aa,Ac,Ab,gC,Yb,Yc];refine⟨s,2,f,b,[.int (c - 1)],rfl,by decide,by decide,h2,λO o _ _=>?_⟩;dsimp only;rw[EW,Ao];exact t (.bl (O==1)) o (.inr ⟨_,rfl⟩)
 simp only[Ai,Ag,gIf,gOr,gTB,Ad,AH,Ae,Ab,gC,Yb,Yc,ix2 h2,Ao]
 have num:∀ D:Ew,D.rt=Q->Ah (Ad (Dq) (Ad (Ae ixW) (Au (Aa (gC (.int 1)) (Aa (Gh (gC (.int 1))) Ac))) (Af BP XF (Aa (Ab 0) (Aa (gC (.int 2)) Ac)))) (Af BP XF (Aa (Ab 0) (Aa (Ad (Ae ixW) (Au (Aa (gC (.int 5)) (Aa (Ad (Ay Ep λi j=>i ^ j.toNat) (gC (.int 10)) (gC (.int 30))) Ac))) (Ad (Ay E4 λi j=>i / j) (Af BP XF (Aa (Ab 0) (Aa (gC (.int 6)) Ac))) (gC (.int 5)))) Ac)))) D [some (.ref s),some (.int d),some (.int r),none,none] (put G s (.lst [.int f,.bl b,.int (c - 1)])):=λD hD=>by
  simp only[Ah,Ad,Au,Gh,Af,Ae,Ay,Aa,Ac,Ab,gC,Yb,Yc,hD];refine⟨1,rfl,(Qzz 2),λp Y=>?_⟩;have J:s≠p:=AE h2 Y;refine⟨s,2,f,b,[.int (c - 1)],rfl,by decide,by decide,by rw[Aj J];exact h2,λO o g0 g1=>?_⟩;have S:put (put (put G s (.lst [.int f,.bl b,.int (c - 1)])) p (.lst [.int 1,.int (-1)])) s (.lst [.int o,.bl b,.int (c - 1)]) p=some (.lst [.int 1,.int (-1)]):=by rw[Aj (YZ J)];exact Ak
  have B:put (put (put G s (.lst [.int f,.bl b,.int (c - 1)])) p (.lst [.int 1,.int (-1)])) s (.lst [.int o,.bl b,.int (c - 1)]) s=some (.lst [.int o,.bl b,.int (c - 1)]):=Ak;have k3:∀ a u,put G s (.lst [.int f,.bl b,.int (c - 1)]) a=some u->a≠s->put (put (put G s (.lst [.int f,.bl b,.int (c - 1)])) p (.lst [.int 1,.int (-1)])) s (.lst [.int o,.bl b,.int (c - 1)]) a=some u:=λa u g h=>by rw[Aj h,Aj (AE g Y)];exact g
  generalize put (put (put G s (.lst [.int f,.bl b,.int (c - 1)])) p (.lst [.int 1,.int (-1)])) s (.lst [.int o,.bl b,.int (c - 1)])=G3 at S B k3 ⊢
  obtain⟨R,hsg,esg⟩:∃ R:Int,(-(2 ^ 64) < R/\R < 2 ^ 64)/\atI [W.int 1,.int (-1)] O=some (.int R):=by
   have:O=0\/O=1:=by omega
   rcases this with rfl | rfl
   ·exact⟨1,by decide,Bb⟩
   ·exact⟨-1,by decide,A5⟩
  dsimp only;rw[BZ S,esg,Ao];refine⟨⟨by decide,by decide,by decide⟩,(Qzz 2),λH L=>?_⟩;have n4:s≠H:=AE B L;refine⟨s,6,o,b,[.int (c - 1)],rfl,by decide,by decide,by rw[Aj n4];exact B,λr5 I g5 g6=>⟨⟨by decide,by decide⟩,?_⟩⟩;have N:put (put G3 H (.lst [.int 5,.int ((10:Int) ^ (30:Int).toNat)])) s (.lst [.int I,.bl b,.int (c - 1)]) H=some (.lst [.int 5,.int ((10:Int) ^ (30:Int).toNat)]):=by rw[Aj (YZ n4)];exact Ak
  have X:put (put G3 H (.lst [.int 5,.int ((10:Int) ^ (30:Int).toNat)])) s (.lst [.int I,.bl b,.int (c - 1)]) s=some (.lst [.int I,.bl b,.int (c - 1)]):=Ak;have k5:∀ a u,G3 a=some u->a≠s->put (put G3 H (.lst [.int 5,.int ((10:Int) ^ (30:Int).toNat)])) s (.lst [.int I,.bl b,.int (c - 1)]) a=some u:=λa u g h=>by rw[Aj h,Aj (AE g L)];exact g
  generalize put (put G3 H (.lst [.int 5,.int ((10:Int) ^ (30:Int).toNat)])) s (.lst [.int I,.bl b,.int (c - 1)])=G5 at N X k5 ⊢
  obtain⟨Z,U,emm⟩:∃ Z:Int,(0 < Z/\Z < 1267650600228229401496703205376)/\atI [W.int 5,.int ((10:Int) ^ (30:Int).toNat)] (r5 / 5)=some (.int Z):=by
   have:r5 / 5=0\/r5 / 5=1:=by omega
   rcases this with e | e <;> rw[e]
   ·exact⟨5,by decide,Bb⟩
   ·exact⟨_,by decide,A5⟩
  try dsimp only
  rw[BZ N,emm,Ao];refine⟨s,Z,I,b,[.int (c - 1)],rfl,U.1,U.2,X,λr6 x6 _ _=>⟨.inl hsg,?_⟩⟩;refine hC _ _ _ (λa u g=>?_) (t (.int (R*r6)) x6 (.inl ⟨_,rfl⟩));by_cases h:a=s
  ·subst h;rw[Ak]at g ⊢;exact g
  ·rw[Aj h]at g ⊢;exact k5 a u (k3 a u g h) h
 have row:2<=d->1<=c - 1->(∃ m,n=m+1/\sp=DI m)->Ag (Ap 3 (Au Ac)) (Ag (AF (AB (Au (Aa (gC (.str "a")) (Aa (gC (.str "ab")) (Aa (gC (.str "b")) (Aa (gC (.str "c")) (Aa (gC (.str "zzzzzzzz")) Ac))))))) (gNm 4) (gVB sp)) (Ah (gB (rF AI) (Aa (Ab 3) Ac)))) (Ar Q) [some (.ref s),some (.int d),some (.int r),none,none] (put G s (.lst [.int f,.bl b,.int (c - 1)])):=by
  rintro z1 z2 ⟨m,rfl,rfl⟩;simp only[Ag,Ap,Au,AF,AB,Aa,Ac,gC,Yk,Yl];refine⟨(Qzz 0),λp Y=>⟨(Qzz 5),λq0 F=>?_⟩⟩;have J:s≠p:=AE h2 Y;have n2:s≠q0:=AE (by rw[Aj J];exact h2) F;have n3:p≠q0:=AE Ak F;simp only[Ak];refine Nu (n:=m) (c:=c - 1) z1 (by omega) LV none _ [] f (c - 1) (by rw[Aj n2,Aj J];exact h2) (by rw[Aj n3];exact Ak) Ak (YZ J) (YZ n2) (YZ n3) (by decide) (by show c - 1=c - 1 -((0:Nat):Int);omega) (by omega) ?_;intro ω G' l x' hω f1 f1' f2 f3 f4 f5;obtain⟨u,rfl⟩:=hω;rw[Yw]at f1 f1' f2;simp only[Ah,gB,rF,Ab,Aa,Ac,Yb,Yc];rw[show AI [.ref p] G'=some (.tup (l.map BR)) by unfold AI;dsimp only;rw[D1 f2];rfl,Ao];have hdp:(ofP l).dp<=(d - 1).toNat:=Jh l λy hy=>by have:=(f5 y hy).2;omega
  have ek:(Vl.row (ofP l)).cnt=1+(ofP l).cnt:=rfl;have ed:(Vl.row (ofP l)).dp=1+(ofP l).dp:=rfl;have:=q (.row (ofP l)) x' ⟨GF (Wr.1.sublist f4) (by have h1:=f4.length_le;have h2:LV.length=5:=rfl;rw[Yh]at h1;omega) λy hy=>⟨Wr.2.1 _ (f4.subset (YN hy)),(f5 y hy).1⟩,by rw[ed];omega,by rw[ek];omega⟩;rw[Ji,ek]at this;refine hC _ _ _ (λa u g=>?_) this;by_cases h:a=s
  ·subst h;rw[Ak]at g;rw[f1,<- g,show c - 1 -((ofP l).cnt:Int)=c -((1+(ofP l).cnt:Nat):Int) by omega]
  ·rw[Aj h]at g;have A:put G s (.lst [.int f,.bl b,.int (c - 1)]) a=some u:=by rw[Aj h];exact g
   have z:=AE A Y;have haq:a≠q0:=AE (by rw[Aj z];exact A) F;exact f3 a h z u (by rw[Aj haq,Aj z];exact A)
 refine Bu (λ_=>num _ rfl) (λz3=>?_);refine Bu (λ_=>num _ rfl) (λzd=>?_)
 have zd:2<=d:=by have:¬ d < 2:=by simpa using zd
                  omega
 refine Bu (λ_=>num _ rfl) (λzc=>?_)
 have zc:1<=c - 1:=by have:¬ c - 1 < 1:=by simpa using zc
                      omega
 rcases hK with rfl | hK
 ·exact absurd hd2 (by omega)
 ·exact row zd zc hK
theorem EV(T:Tx K mg base a):∀ n:Nat,Df P w K mg base "_law_value" (n+2) 2 (DI n):=λn=>by
 induction n with
 | zero=>exact Ws T (n:=0) (sp:=Gv) (CC (sp:=Gv) (k:=0) T.Sb MZ λ_ _ _ _ h=>h) (by omega) (.inl rfl)
 | succ n b=>exact Ws T (n:=n+1) (sp:=DI n) b (by omega) (.inr ⟨n,rfl,rfl⟩)
theorem GH{xs:List Str}(h:xs.Pairwise (λx y=>As x y=true)):xs.Nodup:=h.imp λ{x y}a e=>by rw[e,ER]at a;cases a
def Fs.toL:Fs->List (Str×Bool×Kd)
 | .nil=>[]
 | .cons n m k r=>(n,m,k)::r.toL
theorem Jk:∀ fs:Fs,ofL fs.toL=fs
 | .nil=>rfl
 | .cons n m k r=>by show Fs.cons n m k (ofL r.toL)=_;rw[Jk r]
theorem Wt{M:Nat}{l:List (Str×Bool×Kd)}(h:wf M (.row (ofL l) o)):(l.map (·.1)).Pairwise (λx y=>As x y=true)/\Cg M (l.map (·.1))=true/\∀ y∈l,AK y.1=true/\wf M y.2.2:=by
 obtain⟨h1,h2⟩:=h;have p:=(lB h1).1;rw[EQ]at p;have b:(Cg M (ofL l).names&&(ofL l).thr M)=true:=h2;simp only[YH]at b;have d:(rise (ofL l).names&&(ofL l).ok)=true:=h1;simp only[YH]at d;refine⟨p,by have:=b.1;rw[EQ]at this;exact this,?_⟩
 have go:∀ l:List (Str×Bool×Kd),(ofL l).ok=true->(ofL l).thr M=true->∀ y∈l,AK y.1=true/\wf M y.2.2:=by
  intro l;induction l with
  | nil=>intro _ _ y e;cases e
  | cons z l f =>
   intro g1 g2 y e;have a:(AK z.1&&z.2.2.ok&&(ofL l).ok)=true:=g1;have c:(z.2.2.thr M&&(ofL l).thr M)=true:=g2;simp only[YH]at a c;rcases Yo.mp e with rfl | e
   ·exact⟨a.1.1,a.1.2,c.1⟩
   ·exact f a.2 c.2 y e
 exact go l d.2 b.2
theorem GJ{l:List (Str×Bool×Kd)}:∀ y∈l,y.2.2.dp<=(ofL l).dp:=by
 induction l with
 | nil=>intro y a;cases a
 | cons z l b =>
  intro y a;show _<=max z.2.2.dp (ofL l).dp;walk_at "pf"
  ·exact Nat.le_max_left _ _
  ·exact Yt (b y a) (Nat.le_max_right _ _)
theorem Wu{l:List (Str×Bool×Kd)}:(ofL l).dat=true->∀ y∈l,y.2.2.dat=true:=by
 induction l with
 | nil=>intro _ y a;cases a
 | cons z l b =>
  intro h y a;have h':(z.2.2.dat&&(ofL l).dat)=true:=h;walk_at "pb";walk_at "pf"
  ·exact h'.1
  ·exact b h'.2 y a
def kvP(y:Str×Vl):Key×W:=(Sum.inr y.1,y.2.enc)
theorem Wv{x:Str}:∀ l:Pr,x∉l.map (·.1)->(l.map kvP).any (λkv=>decide (kv.1=Sum.inr x))=false
 | [],_=>rfl
 | y::l,h=>by
  rw[Ym,List.any_cons,Wv l λz=>h (Yd _ z),Bool.or_false];exact decide_eq_false λz=>h (by rw[show x=y.1 from(Sum.inr.inj z).symm];exact Ye)
theorem Nv(h:x∉l.map (·.1)):BX (l.map kvP) (Sum.inr x) v.enc=(l++[(x,v)]).map kvP:=by
 unfold BX;rw[Wv l h,if_neg (by decide),Yy];rfl
theorem Ww{x:Str}{d:W}:∀ l:Pr,x∉l.map (·.1)->BW (l.map kvP) x d=d
 | [],_=>rfl
 | y::l,h=>by
  show BW ((Sum.inr y.1,y.2.enc)::l.map kvP) x d=d;rw[Gb,if_neg λz=>h (by rw[show x=y.1 from(Sum.inr.inj z).symm];exact Ye)];exact Ww l λz=>h (Yd _ z)
theorem Wx{x:Str}{d:W}:∀ l:Pr,(l.map (·.1)).Nodup->∀ v,(x,v)∈l->BW (l.map kvP) x d=v.enc
 | y::l,h,v,a=>by
  have h':(y.1::l.map (·.1)).Nodup:=h;obtain⟨h1,h2⟩:=YV.mp h';show BW ((Sum.inr y.1,y.2.enc)::l.map kvP) x d=v.enc;rw[Gb];rcases Yo.mp a with e | a
  ·rw[<- e,if_pos rfl]
  ·rw[if_neg λz=>h1 (by rw[Sum.inr.inj z];exact YC.mpr ⟨_,a,rfl⟩)];exact Wx l h2 v a
theorem ni(h:(l.map (·.1)).Nodup)(a:(x,v)∈l):BX (l.map kvP) (Sum.inr x) v.enc=l.map kvP:=by
 unfold BX;rw[if_pos (List.any_eq_true.mpr ⟨kvP (x,v),YN a,YI rfl⟩),YB];refine List.map_congr_left λy b=>?_;show(if(kvP y).1=Sum.inr x then((kvP y).1,v.enc)else kvP y)=kvP y;by_cases e:(kvP y).1=Sum.inr x
 ·rw[if_pos e];have:y=(x,v):=HK h b a (Sum.inr.inj e);rw[this];rfl
 ·rw[if_neg e]
variable {d:Vl}
theorem Wz(h:(l.map (·.1)).Nodup):∃ b:Pr,BX (l.map kvP) (Sum.inr x) (BW (l.map kvP) x d.enc)=b.map kvP/\(b=l\/(b=l++[(x,d)]/\x∉l.map (·.1))):=by
 by_cases a:x∈l.map (·.1)
 ·obtain⟨y,c,rfl⟩:=YC.mp a;refine⟨l,?_,.inl rfl⟩;rw[Wx l h y.2 c,ni h c]
 ·exact⟨l++[(x,d)],by rw[Ww l a,Nv a],.inr ⟨rfl,a⟩⟩
theorem nj(h:(l.map (·.1)).Nodup)(g:x∉l.map (·.1)):((l++[(x,d)]).map (·.1)).Nodup:=by
 rw[Yy]
 exact List.nodup_append.mpr ⟨h,.cons (by intro a f;cases f) .nil,λa f b i e=>by
  have c:b=x:=YA.mp i;subst c;subst e;exact g f⟩
theorem nd3{a:Pr}(h:(l.map (·.1)).Nodup)(c:a=l\/(a=l++[(x,d)]/\x∉l.map (·.1))):(a.map (·.1)).Nodup:=by
 rcases c with rfl |⟨rfl,b⟩
 ·exact h
 ·exact nj h b
theorem dl3{a:Pr}(h:Rs (l.map (·.1)))(b:a=l\/(a=l++[(x,d)]/\x∉l.map (·.1))):Rs (a.map (·.1)).dropLast:=by
 rcases b with rfl |⟨rfl,c⟩
 ·exact h.sublist (List.dropLast_sublist _)
 ·rw[Yy,Ym,List.map_nil,List.dropLast_concat];exact h
def prW(y:Str×Vl):Str×W:=(y.1,y.2.enc)
theorem WA{l:Pr}:∀ b:List (Str×W),(∀ y∈b,∃ z∈l,prW z=y)->∃ c:Pr,c.map prW=b/\∀ z∈c,z∈l
 | [],_=>⟨[],rfl,by intro z d;cases d⟩
 | y::b,h=>by
  obtain⟨z,d,e⟩:=h y Ye;obtain⟨c,f,h2⟩:=WA b λu a=>h u (Yd _ a);refine⟨z::c,by rw[Ym,e,f],λu a=>?_⟩;walk_at "pf"
  ·exact d
  ·exact h2 u a
theorem WB(j:Kw.C Q)(hω:ω[2]?=some (some (.ref p)))(m:G p=some (.dct (l.map kvP)))(s:l.length<=12)(g:(l.map (·.1)).Nodup)(h:Rs (l.map (·.1)).dropLast)(q:∀ a:Pr,(a.map (·.1)).Pairwise (λx y=>As x y=true)->a.Perm l->Q (Vl.row (ofP a)).enc G):Ah (gB (rF AI) (Aa (DZ (Ab 2)) Ac)) (Ar Q) ω G:=by
 simp only[Ah,gB,rF,DZ,Aa,Ac,Ab,hω];refine⟨p,l.map prW,rfl,by rw[YB];exact m,by rw[YB];exact g,by rw[YB];exact h,by rw[Yh];exact s,λa r h1 h2 n=>?_⟩
 obtain⟨b,o,i⟩:=WA (l:=l) a λy d=>by
  obtain⟨z,f,e⟩:=YC.mp ((h2 y).mp d);exact⟨z,f,e⟩
 subst o;rw[YB]at h1
 have k:∀ y,y∈b↔y∈l:=λy=>⟨i y,λd=>by
  obtain⟨z,f,e⟩:=YC.mp ((h2 (prW y)).mpr (YC.mpr ⟨y,d,rfl⟩));have:z=y:=HK g (i z f) d (congrArg (λt:Str×W=>t.1) e);rw[<- this];exact f⟩
 have c:(b.map (·.1)).Pairwise (λx y=>As x y=true):=h1;rw[YB,show((λy:Str×W=>W.tup [.str y.1,y.2])∘prW)=BR from rfl];rw[show AI [.ref r] (put G r (.lst (b.map BR)))=some (.tup (b.map BR)) by unfold AI;dsimp only;rw[D1 Ak];rfl,Ao,<- Ji];exact j _ _ _ (A1 n) (q b c (nc (GH c) g k))
def EY(n:Nat):Spw:=λws G Q _=>∃(s:Addr)(x:Int)(b:Bool)(r:List W)(k:Kd),ws=[.ref s,k.enc]/\wf 10 k/\k.dat=true/\k.dp<=n/\G s=some (S2 x b r)/\∀(v:Vl)(x':Int),v.ok 11=true->v.dp<=k.dp+1->v.cnt<=3*k.cnt->Q v.enc (put G s (S2 x' b r))
theorem WC:Spw.M (EY n):=(by rintro m G Q o E l h _ ⟨s,x,b,r,k,h1,h2,g,j,a,q⟩;exact⟨s,x,b,r,k,h1,h2,g,j,a,λf i e c d=>h _ _ (q f i e c d)⟩)
abbrev gOB(sp:Spw):GS:=gIf (gOr (gTB (Ad (Ae (eqF false)) (Ab 4) (gC (.str "must")))) (gTB (Ad (Ae (eqF false)) (Af BP XF (Aa (Ab 0) (Aa (gC (.int 2)) Ac))) (gC (.int 1))))) (CA (Af sp XF (Aa (Ab 0) (Aa (Ab 5) Ac))) (Ab 2) (Ab 3)) Ai
theorem Nw{n M:Nat}{D:Ew}{s p:Addr}{b:Bool}{r:List W}{N:Option W}(d:p≠s):∀(l:List (Str×Bool×Kd))(dn:Pr)(L J K:Option W)(G:Hw)(x:Int),(∀ y∈l,wf 10 y.2.2/\y.2.2.dat=true/\y.2.2.dp<=n/\y.2.2.dp<=M)->(dn.map (·.1)++l.map (·.1)).Nodup->dn.length+l.length<=100->G s=some (S2 x b r)->G p=some (.dct (dn.map kvP))->
  (∀ ω g j I,(∃ u v t,ω=[some (.ref s),N,some (.ref p),u,v,t])->g s=some (S2 I b r)->g p=some (.dct ((dn++j).map kvP))->(∀ c,c≠s->c≠p->∀ u,G c=some u->g c=some u)->(j.map (·.1)).Sublist (l.map (·.1))->(∀ y∈j,y.2.ok 11=true/\y.2.dp<=M+1)->(j.map λy=>y.2.cnt).sum<=3*(ofL l).cnt->D.nx ω g)->
  AY yes (BN 3 4 5) (gOB (EY n)) D (l.map Az) [some (.ref s),N,some (.ref p),L,J,K] G
 | [],dn,L,J,K,G,x,_,_,_,m,q,f=>⟨trivial,f _ G [] x ⟨L,J,K,rfl⟩ m (by rw[Yx];exact q) (λb _ _ u h=>h) .slnil (by intro y e;cases e) (YY _)⟩
 | u::l,dn,L,J,K,G,x,R,Q,hl,m,q,f=>by
  rw[Yg]at hl;have z:(ofL (u::l)).cnt=u.2.2.cnt+(ofL l).cnt:=rfl;have a:(dn.map (·.1)++u.1::l.map (·.1)).Nodup:=Q;have T:u.1∉dn.map (·.1):=λhm=>(List.nodup_append.mp a).2.2 _ hm _ Ye rfl;have S:(dn.map (·.1)++l.map (·.1)).Nodup:=a.sublist ((List.Sublist.refl _).append (List.sublist_cons_self _ _))
  have B:∀(w:Hw)(x:Int),w s=some (S2 x b r)->w p=some (.dct (dn.map kvP))->(∀ c,c≠s->c≠p->∀ u,G c=some u->w c=some u)->
    CA (Af (EY n) XF (Aa (Ab 0) (Aa (Ab 5) Ac))) (Ab 2) (Ab 3) {nx:=AY yes (BN 3 4 5) (gOB (EY n)) D (l.map Az),rt:=D.rt,bk:=D.nx,ct:=AY yes (BN 3 4 5) (gOB (EY n)) D (l.map Az)} [some (.ref s),N,some (.ref p),some (.str u.1),some (.str (mark u.2.1)),some u.2.2.enc] w:=by
   intro w x m q hk;obtain⟨g1,g2,g3,g4⟩:=R u Ye;simp only[CA,Af,Ab,Yb,Yc,Aa,Ac];refine⟨s,x,b,r,u.2.2,rfl,g1,g2,g3,m,λv x2 k1 k2 k3=>?_⟩;refine⟨p,dn.map kvP,u.1,rfl,rfl,by rw[Aj d];exact q,by rw[Yh];exact Dt (by omega),?_⟩;rw[Nv T];refine Nw (M:=M) d l (dn++[(u.1,v)]) _ _ _ _ x2 (λy e=>R y (Yd _ e)) (by rw[Yy,Yv];exact a) (by rw[Yj];simp only[Yg,Yi];omega) (by rw[Aj (YZ d)];exact Ak) Ak λω g j I hω O Y X U P f6=>?_;refine f ω g ((u.1,v)::j) I hω O (by rw[Y,Yv];rfl) (λc o E y e=>X c o E y ?_) (U.cons_cons _) (λy e=>?_) ?_
   ·rw[Aj E,Aj o];exact hk c o E y e
   ·rcases Yo.mp e with rfl | e
    ·exact⟨k1,by show v.dp<=_;omega⟩
    ·exact P y e
   ·rw[Ym,List.sum_cons,z];show v.cnt+_<=_;omega
  refine⟨trivial,?_⟩;show gOB (EY n) _ [some (.ref s),N,some (.ref p),some (.str u.1),some (.str (mark u.2.1)),some u.2.2.enc] G;unfold gOB;simp only[gIf,gOr,gTB,Ad,Af,Ae,Ab,gC,Yb,Yc,Aa,Ac,Ai];rw[VC,Ao];dsimp only;refine Bu (λ_=>?_) (λ_=>?_)
  ·exact B G x m q λc Z c2 v k=>k
  ·refine⟨s,2,x,b,r,rfl,by decide,by decide,m,λi A _ _=>?_⟩;have H:put G s (S2 A b r) s=some (S2 A b r):=Ak;have F:put G s (S2 A b r) p=some (.dct (dn.map kvP)):=by rw[Aj d];exact q
   dsimp only;rw[EW,Ao];dsimp only;refine Bu (λh=>?_) (λh=>?_)
   ·exact B _ A H F λc Z c2 v k=>by rw[Aj Z];exact k
   ·refine Nw (M:=M) d l dn _ _ _ _ A (λv k=>R v (Yd _ k)) S (by omega) H F λω g j I hω O Y X U P f6=>?_;exact f ω g j I hω O Y (λc o E v k=>X c o E v (by rw[Aj o];exact k)) (U.cons _) P (by rw[z];omega)
theorem WD{i j:Int}{c:Bool}(e:AK t=true)(h:0<=r)(g:r < 4)(f:1<=m):∃ v:Vl,atI [W.int i,.bl c,.tup [],.tup [.tup [.str t,.int j]]] r=some v.enc/\v.ok m=true/\v.dp<=2/\v.cnt<=2:=by
 have:r=0\/r=1\/r=2\/r=3:=by omega
 rcases this with rfl | rfl | rfl | rfl
 ·exact⟨.int i,rfl,rfl,(show 1<=2 by decide),(show 1<=2 by decide)⟩
 ·exact⟨.bl c,rfl,rfl,(show 1<=2 by decide),(show 1<=2 by decide)⟩
 ·refine⟨.row .nil,rfl,GF (l:=[]) .nil (YY _) (by intro y b;cases b),by decide,by decide⟩
 ·refine⟨.row (.cons t (.int j) .nil),rfl,GF (l:=[(t,.int j)]) (.cons (by intro a d;cases d) .nil) f (λy b=>?_),(show 1+max 1 0<=2 by decide),(show 1+(1+0)<=2 by decide)⟩;rw[YA.mp b];exact⟨e,rfl⟩
theorem WE{a:Pr}(h:l.Perm a):(ofP l).cnt=(a.map λy=>y.2.cnt).sum:=by rw[FN];exact m9 h
theorem Eg(T:Tx K mg base a):∀ n:Nat,Df P w K mg base "_law_value_of" (n+1) 2 (EY n)
 | 0=>CC T.Sd WC λws G Q E⟨s,x,b,r,k,_,_,_,h,_⟩=>by have:=Bx k;omega
 | n+1=>by
  refine mk0 (k:=n+1) T.Sd rfl V4 WC (λws G Q E⟨s,x,b,r,k,e,_⟩=>by rw[e];rfl) (mR T (AJ T) (by omega) (Eg T n) (Yr _)) λws G Q E hC q=>?_;obtain⟨s,x,b,r,k,rfl,w1,kd,hd,O,q⟩:=q;have kp:=Bx k;have kc:=D3 k;unfold V5;show Ag (gIf _ _ Ai) _ (Ar Q) [some (.ref s),some k.enc,none,none,none,none] G;refine Ef rfl ?_;by_cases h1:k.hd="num"
  ·rw[if_pos h1];simp only[Ad,Af,Ay,Ab,gC,Aa,Ac,Yb,Yc];refine⟨s,9,x,b,r,rfl,by decide,by decide,O,λi Z _ _=>⟨trivial,?_⟩⟩;exact q (.int (i - 4)) Z rfl (by show 1<=_;omega) (by show 1<=_;omega)
  rw[if_neg h1];refine Ef rfl ?_;by_cases h2:k.hd="truth"
  ·rw[if_pos h2];simp only[Ad,Af,Ae,Ab,gC,Aa,Ac,Yb,Yc];refine⟨s,2,x,b,r,rfl,by decide,by decide,O,λi Z _ _=>?_⟩;dsimp only;rw[EW,Ao];exact q (.bl (i==1)) Z rfl (by show 1<=_;omega) (by show 1<=_;omega)
  rw[if_neg h2];refine Ef rfl ?_;by_cases F:k.hd="any"
  ·rw[if_pos F];simp only[Ad,Au,Af,Ae,An,Ab,gC,Aa,Ac,Yb,Yc];refine⟨(Qzz 0),(Qzz 2),(Qzz 1),(Qzz 4),λp hp=>?_⟩;have n1:s≠p:=AE O hp;refine⟨s,4,x,b,r,rfl,by decide,by decide,by rw[Aj n1];exact O,λi Z i0 i1=>?_⟩;obtain⟨v,ev,v1,v2,v3⟩:=WD (t:="b") (i:=0) (j:=2) (c:=true) (by decide +kernel) i0 i1 (m:=11) (by decide);rw[BZ (by rw[Aj (YZ n1)];exact Ak),ev,Ao];refine hC _ _ _ (λc u A=>?_) (q v Z v1 (by omega) (by omega));by_cases hc:c=s
   ·subst hc;rw[Ak]at A ⊢;exact A
   ·rw[Aj hc]at A ⊢;rw[Aj (AE A hp)];exact A
  rw[if_neg F];have hr:k.hd="row":=by cases k <;> first | rfl |(cases kd;done)| exact absurd rfl h1 | exact absurd rfl h2 | exact absurd rfl F
  obtain⟨fs,o,rfl⟩:=BQ hr;obtain⟨l,rfl⟩:∃ l,fs=ofL l:=⟨fs.toL,(Jk fs).symm⟩;obtain⟨p5,l5,hy⟩:=Wt w1;have l6:=FC l5;rw[Yh]at l6;have ek:(Kd.row (ofL l) o).cnt=1+(ofL l).cnt:=rfl;have edp:(Kd.row (ofL l) o).dp=1+(ofL l).dp:=rfl;have eenc:(Kd.row (ofL l) o).enc=.tup [.str "row",.tup (l.map Az),.bl o]:=by rw[<- DA];rfl
  rw[eenc];simp only[Ag,Ap,Gg];intro p hp;have J:p≠s:=YZ (AE O hp);simp only[Yk,Yl,AF,BO,Ad,Ae,Ab,gC,Yb,Yc,ixW,A5,Ao];refine Nw (n:=n) (M:=(ofL l).dp) J l [] none none none _ x (λy f=>⟨(hy y f).2,Wu kd y f,by have:=GJ (l:=l) y f;omega,GJ (l:=l) y f⟩) (GH p5) (by simp only[Yi];omega) (by rw[Aj (YZ J)];exact O) Ak λω Y g x2 hω f1 f2 f3 f4 f5 f6=>?_;obtain⟨u,v,t,rfl⟩:=hω;rw[Yw]at f2;have hk:∀ c,c≠s->c≠p->∀ u,G c=some u->Y c=some u:=λc U R u A=>f3 c U R u (by rw[Aj R];exact A);have nd2:(g.map (·.1)).Nodup:=(GH p5).sublist f4
  have X:∀ y∈g,AK y.1=true:=λy f=>by
   obtain⟨z,hz,e⟩:=YC.mp (f4.subset (YN f));rw[<- e];exact(hy z hz).1
  have done:∀(I:Pr)(G3:Hw)(H:Int),(I=g\/(I=g++[(("b":Str),.int 7)]/\("b":Str)∉g.map (·.1)))->G3 p=some (.dct (I.map kvP))->G3 s=some (S2 H b r)->(∀ c,c≠s->c≠p->∀ u,G c=some u->G3 c=some u)->
    Ah (gB (rF AI) (Aa (DZ (Ab 2)) Ac)) (Ar Q) [some (.ref s),some (.tup [.str "row",.tup (l.map Az),.bl o]),some (.ref p),u,v,t] G3:=by
   intro I G3 H F g1 g2 g3;have n3:=nd3 nd2 F
   have hl3:I.length<=11:=by
    have:=f4.length_le;rw[Yh,Yh]at this;rcases F with rfl |⟨rfl,_⟩
    ·omega
    ·rw[Yj];simp only[Yg,Yi];omega
   refine WB hC rfl g1 (by omega) n3 (dl3 (p5.sublist f4) F) λS hr N=>?_;have B:∀ y∈S,y∈I:=λy f=>N.mem_iff.mp f
   have D:∀ y∈I,AK y.1=true/\y.2.ok 11=true/\y.2.dp<=(ofL l).dp+1:=λy f=>by
    rcases F with rfl |⟨rfl,_⟩
    ·exact⟨X y f,f5 y f⟩
    ·rcases Yz.mp f with f | f
     ·exact⟨X y f,f5 y f⟩
     ·rw[YA.mp f];exact⟨by decide +kernel,rfl,by show 1<=_;omega⟩
   have hsum:(I.map λy=>y.2.cnt).sum<=(g.map λy=>y.2.cnt).sum+1:=by
    rcases F with rfl |⟨rfl,_⟩
    ·omega
    ·rw[Yy,List.sum_append];exact Yr _
   have:=q (.row (ofP S)) H (GF hr (by rw[N.length_eq];exact hl3) λy f=>⟨(D y (B y f)).1,(D y (B y f)).2.1⟩) (by
    have:(ofP S).dp<=(ofL l).dp+1:=Jh S λy f=>(D y (B y f)).2.2;show 1+(ofP S).dp<=_
    omega) (by
    show 1+(ofP S).cnt<=_;rw[WE N,ek]
    omega)
   exact hC _ _ _ (Wh O hp g2 g3) this
  simp only[gIf,AQ,AC,gTB,Ad,Af,Ae,Ab,gC,Aa,Ac,Yb,Yc,ixW,Bp,Ao,AO,Ai];refine Bu (λ_=>?_) (λ_=>done g Y x2 (.inl rfl) f2 f1 hk);refine⟨s,2,x2,b,r,rfl,by decide,by decide,f1,λi H _ _=>?_⟩;have h3s:put Y s (S2 H b r) s=some (S2 H b r):=Ak;have L:put Y s (S2 H b r) p=some (.dct (g.map kvP)):=by rw[Aj J];exact f2
  have h3k:∀ c,c≠s->c≠p->∀ u,G c=some u->put Y s (S2 H b r) c=some u:=λc U R u A=>by rw[Aj U];exact hk c U R u A
  simp only[gC,Ae,EW,Ao];refine Bu (λ_=>?_) (λ_=>done g _ H (.inl rfl) L h3s h3k);simp only[CA,gMt,Ab,gC,Aa,Ac,Yb,Yc];refine⟨⟨p,_,rfl,L⟩,p,_,"b",.int 7,rfl,rfl,L,p,g.map kvP,"b",rfl,rfl,L,by rw[Yh];have:=f4.length_le;rw[Yh,Yh]at this;exact Dt (by omega),?_⟩;obtain⟨I,e3,F⟩:=Wz (x:="b") (d:=.int 7) nd2;rw[show BW (g.map kvP) "b" (.int 7)=BW (g.map kvP) "b" (Vl.int 7).enc from rfl,e3];exact done I _ H F Ak (by rw[Aj (YZ J)];exact h3s) λc U R u A=>by rw[Aj R];exact h3k c U R u A
def Jl(n:Nat):Spw:=λws G Q _=>∃(s:Addr)(x:Int)(b:Bool)(r:List W)(v0:Vl),ws=[.ref s,v0.enc]/\v0.ok 11=true/\v0.dp<=n/\G s=some (S2 x b r)/\∀(v:Vl)(x':Int),v.ok 12=true->v.dp<=v0.dp+1->v.cnt<=3*v0.cnt->Q v.enc (put G s (S2 x' b r))
theorem WF:Spw.M (Jl n):=(by rintro l G Q m E j h _ ⟨s,x,b,r,k,h1,h2,f,i,q⟩;exact⟨s,x,b,r,k,h1,h2,f,i,λe g d a c=>h _ _ (q e g d a c)⟩)
abbrev WG(sp:Spw):GS:=gIf (gTB (Ad (AM λi j=>decide (j < i)) (Af BP XF (Aa (Ab 0) (Aa (gC (.int 8)) Ac))) (gC (.int 0)))) (CA (Af sp XF (Aa (Ab 0) (Aa (Ab 4) Ac))) (Ab 2) (Ab 3)) Ai
theorem Nx{n M:Nat}{D:Ew}{s p:Addr}{b:Bool}{r:List W}{P:Option W}(d:p≠s):∀(l dn:Pr)(A w:Option W)(G:Hw)(x:Int),(∀ y∈l,y.2.ok 11=true/\y.2.dp<=n/\y.2.dp<=M)->(dn.map (·.1)++l.map (·.1)).Nodup->dn.length+l.length<=100->G s=some (S2 x b r)->G p=some (.dct (dn.map kvP))->
  (∀ ω g j t,(∃ u v,ω=[some (.ref s),P,some (.ref p),u,v])->g s=some (S2 t b r)->g p=some (.dct ((dn++j).map kvP))->(∀ c,c≠s->c≠p->∀ u,G c=some u->g c=some u)->(j.map (·.1)).Sublist (l.map (·.1))->(∀ y∈j,y.2.ok 12=true/\y.2.dp<=M+1)->(j.map λy=>y.2.cnt).sum<=3*(ofP l).cnt->D.nx ω g)->
  AY yes (Bh 3 4) (WG (Jl n)) D (l.map BR) [some (.ref s),P,some (.ref p),A,w] G
 | [],dn,A,w,G,x,_,_,_,F,B,f=>⟨trivial,f _ G [] x ⟨A,w,rfl⟩ F (by rw[Yx];exact B) (λb _ _ u h=>h) .slnil (by intro y e;cases e) (YY _)⟩
 | u::l,dn,A,w,G,x,L,K,hl,F,B,f=>by
  rw[Yg]at hl;have k:(ofP (u::l)).cnt=u.2.cnt+(ofP l).cnt:=rfl;have a:(dn.map (·.1)++u.1::l.map (·.1)).Nodup:=K;have O:u.1∉dn.map (·.1):=λU=>(List.nodup_append.mp a).2.2 _ U _ Ye rfl;have N:(dn.map (·.1)++l.map (·.1)).Nodup:=a.sublist ((List.Sublist.refl _).append (List.sublist_cons_self _ _));refine⟨trivial,?_⟩;show WG (Jl n) _ [some (.ref s),P,some (.ref p),some (.str u.1),some u.2.enc] G;simp only[gIf,gTB,Ad,Af,AM,Ab,gC,Yb,Yc,Aa,Ac,Ai];refine⟨s,8,x,b,r,rfl,by decide,by decide,F,λi m _ _=>?_⟩;have q:put G s (S2 m b r) s=some (S2 m b r):=Ak;have H:put G s (S2 m b r) p=some (.dct (dn.map kvP)):=by rw[Aj d];exact B
  refine Bu (λh=>?_) (λh=>?_)
  ·obtain⟨g1,g3,g4⟩:=L u Ye;simp only[CA,Af,Ab,Yb,Yc,Aa,Ac];refine⟨s,m,b,r,u.2,rfl,g1,g3,q,λv T X k2 Z=>?_⟩;rw[BY];refine⟨p,dn.map kvP,u.1,rfl,rfl,by rw[Aj d];exact B,by rw[Yh];exact Dt (by omega),?_⟩;rw[Nv O];refine Nx (M:=M) d l (dn++[(u.1,v)]) _ _ _ T (λy e=>L y (Yd _ e)) (by rw[Yy,Yv];exact a) (by rw[Yj];simp only[Yg,Yi];omega) (by rw[Aj (YZ d)];exact Ak) Ak λω g j t hω E S R Q I Y=>?_;refine f ω g ((u.1,v)::j) t hω E (by rw[S,Yv];rfl) (λc o z y e=>R c o z y ?_) (Q.cons_cons _) (λy e=>?_) ?_
   ·rw[Aj z,Aj o];exact e
   ·rcases Yo.mp e with rfl | e
    ·exact⟨X,by show v.dp<=_;omega⟩
    ·exact I y e
   ·rw[Ym,List.sum_cons,k];show v.cnt+_<=_;omega
  ·refine Nx (M:=M) d l dn _ _ _ m (λv J=>L v (Yd _ J)) N (by omega) q H λω g j t hω E S R Q I Y=>?_;exact f ω g j t hω E S (λc o z v J=>R c o z v (by rw[Aj o];exact J)) (Q.cons _) I (by rw[k];omega)
theorem Eh(T:Tx K mg base a):∀ n:Nat,Df P w K mg base "_law_turned" (n+1) 2 (Jl n)
 | 0=>CC T.Se WF λws G Q E⟨s,x,b,r,k,_,_,h,_⟩=>by have:=Ng k;omega
 | n+1=>by
  refine mk0 (k:=n+1) T.Se rfl V7 WF (λws G Q E⟨s,x,b,r,k,e,_⟩=>by rw[e];rfl) (mU T (AJ T) (by omega) (Eh T n) (Yr _)) λws G Q E hC q=>?_;obtain⟨s,x,b,r,v0,rfl,ok0',hd,hs,q⟩:=q;have kp:=Ng v0;have kc:=Nf v0;unfold V8;show Ag (gIf _ _ Ai) _ (Ar Q) [some (.ref s),some v0.enc,none,none,none] G;simp only[Ag,gIf,gTB,Ad,Af,Ae,Ab,gC,Aa,Ac,Yb,Yc];refine⟨s,6,x,b,r,rfl,by decide,by decide,hs,λi L i0 i1=>?_⟩;dsimp only;have J:put G s (S2 L b r) s=some (S2 L b r):=Ak;rw[show eqF false (.int i) (.int 0) (put G s (S2 L b r))=some (.bl (i==0)) by unfold eqF eqW;show some (W.bl ((i==0) != false))=_;cases(i==0) <;> rfl,Ao];dsimp only;refine Bu (λ_=>?_) (λ_=>?_)
  ·simp only[Ah,Ad,Au,Af,Ae,An,Ab,gC,Aa,Ac,Yb,Yc];refine⟨(Qzz 0),(Qzz 2),(Qzz 1),(Qzz 4),λp X=>?_⟩;have n1:s≠p:=AE J X;refine⟨s,4,L,b,r,rfl,by decide,by decide,by rw[Aj n1];exact J,λi x2 i0 i1=>?_⟩;obtain⟨v,ev,v1,v2,v3⟩:=WD (t:="a") (i:=3) (j:=1) (c:=false) (by decide +kernel) i0 i1 (m:=12) (by decide);rw[BZ (by rw[Aj (YZ n1)];exact Ak),ev,Ao];refine hC _ _ _ (λc u F=>?_) (q v x2 v1 (by omega) (by omega));by_cases hc:c=s
   ·subst hc;rw[Ak]at F ⊢;exact F
   ·rw[Aj hc]at F ⊢;have Y:put G s (S2 L b r) c=some u:=by rw[Aj hc];exact F
    rw[Aj (AE Y X)];exact Y
  simp only[Ai,Ag,gIf,AC,AU,Ab,Yb,Yc];cases v0 with
  | int i =>
   simp only[Vl.enc,tyN,Je,AO,if_true,Ah,Ab,Yb,Yc];exact q (.int i) L rfl (by show 1<=2;decide) (by show 1<=3;decide)
  | bl i =>
   simp only[Vl.enc,tyN,Nm,AO,if_true,Ah,Ab,Yb,Yc];exact q (.bl i) L rfl (by show 1<=2;decide) (by show 1<=3;decide)
  | row ps =>
   obtain⟨l,rfl⟩:∃ l,ps=ofP l:=⟨ps.toP,(Nr ps).symm⟩;obtain⟨p5,l6,hy⟩:=m8 ok0';have ek:(Vl.row (ofP l)).cnt=1+(ofP l).cnt:=rfl;have edp:(Vl.row (ofP l)).dp=1+(ofP l).dp:=rfl;rw[Ji];simp only[tyN,Jf,AO,Yq,if_false,Ap,Gg];intro p X;have A:p≠s:=YZ (AE J X);simp only[Yk,Yl,AF,BO,Ab,Yb,Yc];refine Nx (n:=n) (M:=(ofP l).dp) A l [] none none _ L (λy f=>⟨(hy y f).2,by have:=Nt (l:=l) y f;omega,Nt (l:=l) y f⟩) (GH p5) (by simp only[Yi];omega) (by rw[Aj (YZ A)];exact J) Ak λω G' g x2 hω f1 f2 f3 f4 f5 f6=>?_;obtain⟨u,v,rfl⟩:=hω;rw[Yw]at f2;have hp0:G p=none:=by rw[Aj A]at X;exact X
   have hk:∀ c,c≠s->c≠p->∀ u,G c=some u->G' c=some u:=λc R O u F=>f3 c R O u (by rw[Aj O,Aj R];exact F);have nd2:(g.map (·.1)).Nodup:=(GH p5).sublist f4;have len2:g.length<=11:=by have:=f4.length_le;rw[Yh,Yh]at this;omega
   have Z:∀ y∈g,AK y.1=true:=λy f=>by
    obtain⟨z,hz,e⟩:=YC.mp (f4.subset (YN f));rw[<- e];exact(hy z hz).1
   have done:∀(H:Pr)(G3:Hw)(D:Int),(H=g\/(H=g++[(("c":Str),.int 0)]/\("c":Str)∉g.map (·.1)))->G3 p=some (.dct (H.map kvP))->G3 s=some (S2 D b r)->(∀ c,c≠s->c≠p->∀ u,G c=some u->G3 c=some u)->
     Ah (gB (rF AI) (Aa (DZ (Ab 2)) Ac)) (Ar Q) [some (.ref s),some (.tup (l.map BR)),some (.ref p),u,v] G3:=by
    intro H G3 D S g1 g2 g3;have n3:=nd3 nd2 S
    have hl3:H.length<=12:=by
     rcases S with rfl |⟨rfl,_⟩
     ·omega
     ·rw[Yj];simp only[Yg,Yi];omega
    refine WB hC rfl g1 hl3 n3 (dl3 (p5.sublist f4) S) λU hr N=>?_;have o:∀ y∈U,y∈H:=λy f=>N.mem_iff.mp f
    have B:∀ y∈H,AK y.1=true/\y.2.ok 12=true/\y.2.dp<=(ofP l).dp+1:=λy f=>by
     rcases S with rfl |⟨rfl,_⟩
     ·exact⟨Z y f,f5 y f⟩
     ·rcases Yz.mp f with f | f
      ·exact⟨Z y f,f5 y f⟩
      ·rw[YA.mp f];exact⟨by decide +kernel,rfl,by show 1<=_;omega⟩
    have hsum:(H.map λy=>y.2.cnt).sum<=(g.map λy=>y.2.cnt).sum+1:=by
     rcases S with rfl |⟨rfl,_⟩
     ·omega
     ·rw[Yy,List.sum_append];exact Yr _
    have:=q (.row (ofP U)) D (GF hr (by rw[N.length_eq];exact hl3) λy f=>⟨(B y (o y f)).1,(B y (o y f)).2.1⟩) (by
     have:(ofP U).dp<=(ofP l).dp+1:=Jh U λy f=>(B y (o y f)).2.2;show 1+(ofP U).dp<=_
     omega) (by
     show 1+(ofP U).cnt<=_;rw[WE N,ek]
     omega)
    exact hC _ _ _ (Wh hs hp0 g2 g3) this
   simp only[Ag,gIf,gTB,Ad,Af,Ae,Ab,gC,Aa,Ac,Yb,Yc,Ai];refine⟨s,8,x2,b,r,rfl,by decide,by decide,f1,λi D _ _=>?_⟩;have h3s:put G' s (S2 D b r) s=some (S2 D b r):=Ak;have I:put G' s (S2 D b r) p=some (.dct (g.map kvP)):=by rw[Aj A];exact f2
   have h3k:∀ c,c≠s->c≠p->∀ u,G c=some u->put G' s (S2 D b r) c=some u:=λc R O u F=>by rw[Aj R];exact hk c R O u F
   simp only[gC,Ae,EW,Ao];refine Bu (λ_=>?_) (λ_=>done g _ D (.inl rfl) I h3s h3k);simp only[CA,gMt,Ab,gC,Aa,Ac,Yb,Yc];refine⟨⟨p,_,rfl,I⟩,p,_,"c",.int 0,rfl,rfl,I,p,g.map kvP,"c",rfl,rfl,I,by rw[Yh];exact Dt (by omega),?_⟩;obtain⟨H,e3,S⟩:=Wz (x:="c") (d:=.int 0) nd2;rw[show BW (g.map kvP) "c" (.int 0)=BW (g.map kvP) "c" (Vl.int 0).enc from rfl,e3];exact done H _ D S Ak (by rw[Aj (YZ A)];exact h3s) λc R O u F=>by rw[Aj O];exact h3k c R O u F
def WH:Spw:=λws G Q _=>∃(ns:List Int)(i:Int)(k:Kd),ws=[.rol (ns.map W.int),.int i,k.enc]/\0<=i/\kd8 k/\k.dat=true/\∀ v:Vl,vg v->Q v.enc G
theorem nk:Spw.M WH:=(by rintro d G Q e E c h _ ⟨ns,i,k,h1,h2,a,b,q⟩;exact⟨ns,i,k,h1,h2,a,b,λv g=>h _ _ (q v g)⟩)
theorem Jm(T:Tx K mg base a):Df P w K mg base "_law_drawn_value" 12 3 WH:=by
 refine mk0 (k:=11) T.kf rfl Wd nk ((by rintro ws G Q E ⟨ns,i,k,e,_⟩;rw[e];rfl)) (m2 T (B3 T) (by omega) (AJ T) (by omega) (EV T 3) (by omega) (Eg T 8) (by omega) (Eh T 9) (by omega) (Ei T 10) (by omega)) λws G Q E B q=>?_;obtain⟨ns,i,k,rfl,h0,I,kd,q⟩:=q;unfold We;show Ag (Ap 3 _) _ (Ar Q) [some (.rol (ns.map W.int)),some (.int i),some k.enc,none,none,none,none,none] G;simp only[Ag,Ap,Ad,Af,Au,Aa,Ac,Ab,gC,Yb,Yc];refine⟨ns,i,rfl,h0,λp x b hp=>⟨(Qzz 1),λp1 e1=>?_⟩⟩;have s0:Sub G (put G p (.lst [.int x,.bl b])):=A1 hp;have f0:put G p (.lst [.int x,.bl b]) p=some (.lst [.int x,.bl b]):=Ak;generalize put G p (.lst [.int x,.bl b])=G0 at s0 f0 e1 ⊢;have J:Sub G0 (put G0 p1 (.lst [.int 12])):=A1 e1;have Y:put G0 p1 (.lst [.int 12]) p1=some (.lst [.int 12]):=Ak;generalize put G0 p1 (.lst [.int 12])=G1 at J Y ⊢;rw[Hu (by rintro⟨⟨_,h⟩,_⟩;cases h)];unfold AZ;simp only[J _ _ f0,Y];refine⟨(Qzz 3),λs es=>?_⟩;have S:Sub G G1:=s0.trans J
 have c:G s=none:=by
  cases z:G s with
  | none=>rfl
  | some u=>rw[S _ _ z]at es;cases es
 have hs:put G1 s (.lst ([.int x,.bl b]++[.int 12])) s=some (.lst [.int x,.bl b,.int 12]):=Ak;have y:Sub G (put G1 s (.lst ([.int x,.bl b]++[.int 12]))):=C2 c S;generalize put G1 s (.lst ([.int x,.bl b]++[.int 12]))=G2 at hs y ⊢;simp only[Yk,Yl,gIf,gTB,Ad,Af,Ae,Aa,Ac,Ab,gC,Yb,Yc];refine⟨s,4,x,b,[.int 12],rfl,by decide,by decide,hs,λr n r0 r1=>?_⟩;have X:put G2 s (.lst [.int n,.bl b,.int 12]) s=some (.lst [.int n,.bl b,.int 12]):=Ak;have L:Sub G (put G2 s (.lst [.int n,.bl b,.int 12])):=C2 c y;generalize put G2 s (.lst [.int n,.bl b,.int 12])=G3 at X L ⊢;simp only[Yk,Yl,Ag,gIf,gTB,Ad,Ae,Ab,gC,Yb,Yc];rw[show eqF false (.int r) (.int 0) G3=some (.bl (r==0)) by unfold eqF eqW;show some (W.bl ((r==0) != false))=_;cases(r==0) <;> rfl,Ao];dsimp only;refine Bu (λ_=>?_) (λ_=>?_)
 ·simp only[Ah,Af,Aa,Ac,Ab,gC,Yb,Yc];refine⟨s,n,4,12,b,rfl,by decide,by decide,X,λv m g=>?_⟩;obtain⟨O,D,u3⟩:=g;exact B _ _ _ (C2 c L) (q v ⟨Jj v (by decide) O,by omega,by omega⟩)
 simp only[Ai,Ap,Af,Aa,Ac,Ab,gC,Yb,Yc];have c40:=I.2.1;have d8:=I.2.2;refine⟨s,n,b,[.int 12],k,rfl,I.1,kd,d8,X,λv m U v2 v3=>?_⟩;have h4:put G3 s (S2 m b [.int 12]) s=some (S2 m b [.int 12]):=Ak;have F:Sub G (put G3 s (S2 m b [.int 12])):=C2 c L;generalize put G3 s (S2 m b [.int 12])=G4 at h4 F ⊢;simp only[Yk,Yl,Ag,gIf,gTB,Ad,Ae,Ap,Ab,gC,Yb,Yc]
 have d:∀(t:Vl)(o:Hw),Sub G o->t.ok 12=true->t.dp<=10->t.cnt<=1000000->
   Ag (AF (AB (Au (Aa (Ab 6) (Aa (Ab 5) Ac)))) (gNm 7) (gIf (gTB (Ad (AH (λi j=>decide (i < j)) As) (Af (EX 10) XF (Aa (Ab 7) Ac)) (gC (.int 101)))) (Ah (Ab 7)) Ai)) (Ah (gC (.int 0))) (Ar Q) [some (.rol (ns.map W.int)),some (.int i),some k.enc,some (.ref s),some (.int r),some v.enc,some t.enc,none] o:=by
  intro t o S5 H Z t3;simp only[Ag,AF,AB,Au,Ab,Aa,Ac,Yb,Yc];refine⟨(Qzz 2),λp2 R=>?_⟩;simp only[Ak];have N:Sub G (put o p2 (.lst [t.enc,v.enc])):=B9 S5 R;have A:put o p2 (.lst [t.enc,v.enc]) p2=some (.lst [t.enc,v.enc]):=Ak;generalize put o p2 (.lst [t.enc,v.enc])=G6 at N A ⊢
  have f:∀(u:Vl)(l:Option W)(xs:List W),u.ok 12=true->u.dp<=10->u.cnt<=1000000->(∀ l,AY (holds p2 [t.enc,v.enc]) (gNm 7) (gIf (gTB (Ad (AH (λi j=>decide (i < j)) As) (Af (EX 10) XF (Aa (Ab 7) Ac)) (gC (.int 101)))) (Ah (Ab 7)) Ai) {nx:=Ah (gC (.int 0)) (Ar Q),rt:=(Ar Q).rt,bk:=(Ar Q).bk,ct:=(Ar Q).ct} xs [some (.rol (ns.map W.int)),some (.int i),some k.enc,some (.ref s),some (.int r),some v.enc,some t.enc,l] G6)->
    AY (holds p2 [t.enc,v.enc]) (gNm 7) (gIf (gTB (Ad (AH (λi j=>decide (i < j)) As) (Af (EX 10) XF (Aa (Ab 7) Ac)) (gC (.int 101)))) (Ah (Ab 7)) Ai) {nx:=Ah (gC (.int 0)) (Ar Q),rt:=(Ar Q).rt,bk:=(Ar Q).bk,ct:=(Ar Q).ct} (u.enc::xs) [some (.rol (ns.map W.int)),some (.int i),some k.enc,some (.ref s),some (.int r),some v.enc,some t.enc,l] G6:=by
   intro u l xs O D u3 nx;refine⟨A,?_⟩;show gIf _ _ Ai _ [some (.rol (ns.map W.int)),some (.int i),some k.enc,some (.ref s),some (.int r),some v.enc,some t.enc,some u.enc] G6;simp only[gIf,gTB,Ad,AH,Af,Ab,gC,Aa,Ac,Yb,Yc,Ai,Ah];refine⟨u,⟨rfl,D,u3⟩,?_⟩;refine Bu (λh=>?_) (λ_=>nx _)
   have hu:u.cnt<=100:=by have h':(u.cnt:Int) < 101:=by simpa using h
                          omega
   exact B _ _ _ N (q u ⟨O,hu,D⟩)
  refine f t none [v.enc] H Z t3 λl=>f v l [] (Jj v (by decide) U) (by omega) (by omega) λl=>⟨A,B _ _ _ N (q (.int 0) ⟨rfl,by decide,by decide⟩)⟩
 rw[EW,Ao];dsimp only;refine Bu (λ_=>?_) (λ_=>d v G4 F (Jj v (by decide) U) (by omega) (by omega));simp only[Af,Aa,Ac,Ab,Yb,Yc];refine⟨s,m,b,[.int 12],v,rfl,U,by omega,h4,λt x3 H Z t3=>?_⟩;walk_at "pd";exact d t _ (C2 c F) H (by omega) (by omega)
abbrev WI:List Str:=["one","other"]
theorem WJ:Ax WI ["one","other"] (Aq L7):=by walk_at "s"
def WK(BC:Spw):GS:=(Ag (gIf (gTB (Ad (Ae (eqF true)) (Ad (Ae ixW) (Ab 0) (gC (.int 0))) (Ad (Ae ixW) (Ab 1) (gC (.int 0))))) (Ah (An (Aa (gC (.str "free")) Ac))) Ai) (Ah (An (Aa (Ad (Ae ixW) (Ab 0) (gC (.int 0))) (Aa (Af BC XF (Aa (Ad (Ae ixW) (Ab 0) (gC (.int 1))) (Aa (Ad (Ae ixW) (Ab 1) (gC (.int 1))) Ac))) Ac)))))
variable {BC:Spw}
theorem nl(T:Tx K mg base a){Cb:Nat}(Ny:Df P w K mg base "join_of" Cb 2 BC)(Nz:Cb<=k):Dn P w K mg base WI "join_of_entries" L7 k (WK BC):=by
 have hN:=WJ.nd;walk_at "z"
abbrev WL:List Str:=["one","other","names","entries"]
theorem NA:Ax WL ["one","other"] (Aq HU):=by walk_at "s"
def WM(BL:Spw)(A7:Spw)(Jn:Spw)(Ck:Spw):GS:=(Ag (Ap 2 (Af BL XF (Aa (Ab 0) (Aa (Ab 1) Ac)))) (Ag (Ap 3 (Ba (AB (Ab 2)) 1 [0,1] (gNm 0) AL (Af Jn XF (Aa (Af A7 XF (Aa (Ab 1) (Aa (Ab 0) Ac))) (Aa (Af A7 XF (Aa (Ab 2) (Aa (Ab 0) Ac))) Ac))))) (Ah (Af Ck XF (Aa (Ab 2) (Aa (Ab 3) (Aa (Bm (Ad (Ae ixW) (Ab 0) (gC (.int 2))) (Bm (Ad (Ae ixW) (Ab 1) (gC (.int 2))) (Ad (Ae inT) (An (Aa (gC (.str "free")) Ac)) (Ab 3)))) Ac)))))))
variable {BL Ck:Spw}
theorem nn(T:Tx K mg base a){B4:Nat}(NB:Df P w K mg base "names_of_both" B4 2 BL)(NC:B4<=k){BB:Nat}(IF:Df P w K mg base "entry_of" BB 2 A7)(IG:BB<=k){Jo:Nat}(oV:Df P w K mg base "join_of_entries" Jo 2 Jn)(oW:Jo<=k){CS:Nat}(WN:Df P w K mg base "row_of" CS 3 Ck)(WO:CS<=k):Dn P w K mg base WL "join_of_rows" HU k (WM BL A7 Jn Ck):=λ{f cdv A outer s H E}hr=>
 have hu:=A4 hr
 have hN:=NA.nd
 (AA (by walk_at "v") (AA (Hx (i:=3) NA.nd rfl rfl rfl rfl (DY (own:=["name"]) (fr:=["one","other"]) (js:=[0,1]) (scX:=Aq HU) (n:=s.heap.objs.size+1) rfl (by decide +kernel) (by decide +kernel) (by decide +kernel) (by decide +kernel) rfl rfl rfl (by decide +kernel) rfl) (λ_=>rfl) (by walk_at "v") (Fe (i:=0) (by decide) rfl rfl) (λC fp s1 H1=>Bz) (λC fp s1 H1=>(by walk_at "v"))) (by walk_at "v")))
abbrev WP:List Str:=["one","other"]
theorem WQ:Ax WP ["one","other"] (Aq L8):=by walk_at "s"
def WR(Jp:Spw)(BC:Spw):GS:=(Ag (gIf (gTB (Ad (Ae (eqF true)) (Ad (Ae ixW) (Ab 0) (gC (.int 0))) (Ad (Ae ixW) (Ab 1) (gC (.int 0))))) (Ah (An (Aa (gC (.str "any")) Ac))) Ai) (Ag (gIf (gTB (Ad (Ae (eqF false)) (Ad (Ae ixW) (Ab 0) (gC (.int 0))) (gC (.str "row")))) (Ah (Af Jp XF (Aa (Ab 0) (Aa (Ab 1) Ac)))) Ai) (Ah (Ad (BI) (An (Aa (Ad (Ae ixW) (Ab 0) (gC (.int 0))) Ac)) (gB (rF AI) (Aa (AR (CK (Aa (BV (Ab 0) (A9 (gC (.int 1))) A8) (Aa (BV (Ab 1) (A9 (gC (.int 1))) A8) Ac))) 2 (Bh 0 1) AL (Af BC XF (Aa (Ab 0) (Aa (Ab 1) Ac)))) Ac))))))
theorem nq(T:Tx K mg base a){Jq:Nat}(oX:Df P w K mg base "join_of_rows" Jq 2 Jp)(oY:Jq<=k){Cb:Nat}(Ny:Df P w K mg base "join_of" Cb 2 BC)(Nz:Cb<=k):Dn P w K mg base WP "join_of" L8 k (WR Jp BC):=λ{f cdv A outer s H E}hr=>
 have hu:=A4 hr
 have hN:=WQ.nd
 (AA (by walk_at "v") (AA (by walk_at "v") (Br (B1 (Hv (by walk_at "v") (Dl Fc (F9) rfl T.Fk (by decide) rfl rfl rfl (A3 rfl (Cy (Nc:=["left","right"]) rfl (Cr rfl (by decide +kernel) (by decide +kernel)) (λ_=>rfl) (Rb T.Gu rfl rfl rfl (by walk_at "v")) (Hl (i:=0) (j:=1) rfl (by decide) rfl rfl rfl rfl) (λC fp s1 H1=>Bz) (λC fp s1 H1=>(by walk_at "v"))) BD)))))))
abbrev WT:List Str:=["one","other"]
theorem WU:Ax WT ["one","other"] (Aq L9):=by walk_at "s"
def WV(Cm:Spw)(BC:Spw):GS:=(Ag (AD (Af Cm XF (Aa (Ab 0) (Aa (Ab 1) Ac)))) (Ah (Af BC XF (Aa (Ab 0) (Aa (Ab 1) Ac)))))
variable {Cm:Spw}
theorem nr(T:Tx K mg base a){CP:Nat}(WW:Df P w K mg base "check_kinds" CP 2 Cm)(WX:CP<=k){Cb:Nat}(Ny:Df P w K mg base "join_of" Cb 2 BC)(Nz:Cb<=k):Dn P w K mg base WT "joined" L9 k (WV Cm BC):=by
 have hN:=WU.nd;walk_at "z"
abbrev WY:List Str:=["one","other","mark"]
theorem WZ:Ax WY ["one","other"] (Aq Ma):=by walk_at "s"
def W0(Co:Spw):GS:=(Ag (gIf (gTB (Ad (Ae (inF false)) (gC (.str "free")) (An (Aa (Ad (Ae ixW) (Ab 0) (gC (.int 0))) (Aa (Ad (Ae ixW) (Ab 1) (gC (.int 0))) Ac))))) (Ah (An (Aa (gC (.str "free")) Ac))) Ai) (Ag (gIf (gTB (Ad (Ae (eqF false)) (Ad (Ae ixW) (Ab 0) (gC (.int 0))) (gC (.str "none")))) (Ah (An (Aa (gC (.str "may")) (Aa (Ad (Ae ixW) (Ab 1) (gC (.int 1))) Ac)))) Ai) (Ag (gIf (gTB (Ad (Ae (eqF false)) (Ad (Ae ixW) (Ab 1) (gC (.int 0))) (gC (.str "none")))) (Ah (An (Aa (gC (.str "may")) (Aa (Ad (Ae ixW) (Ab 0) (gC (.int 1))) Ac)))) Ai) (Ag (Ap 2 (AT (gTB (Bt (Ae (eqF false)) (Ae (eqF false)) (Ad (Ae ixW) (Ab 0) (gC (.int 0))) (Ad (Ae ixW) (Ab 1) (gC (.int 0))) (gC (.str "must")))) (gC (.str "must")) (gC (.str "may")))) (Ah (An (Aa (Ab 2) (Aa (Af Co XF (Aa (Ad (Ae ixW) (Ab 0) (gC (.int 1))) (Aa (Ad (Ae ixW) (Ab 1) (gC (.int 1))) Ac))) Ac))))))))
variable {Co:Spw}
theorem nt(T:Tx K mg base a){C3:Nat}(W1:Df P w K mg base "either_of" C3 2 Co)(W2:C3<=k):Dn P w K mg base WY "either_of_entries" Ma k (W0 Co):=by
 have hN:=WZ.nd;walk_at "z"
abbrev W3:List Str:=["one","other","names","entries"]
theorem ND:Ax W3 ["one","other"] (Aq HV):=by walk_at "s"
def W4(BL:Spw)(A7:Spw)(Jr:Spw)(Ck:Spw):GS:=(Ag (Ap 2 (Af BL XF (Aa (Ab 0) (Aa (Ab 1) Ac)))) (Ag (Ap 3 (Ba (AB (Ab 2)) 1 [0,1] (gNm 0) AL (Af Jr XF (Aa (Af A7 XF (Aa (Ab 1) (Aa (Ab 0) Ac))) (Aa (Af A7 XF (Aa (Ab 2) (Aa (Ab 0) Ac))) Ac))))) (Ah (Af Ck XF (Aa (Ab 2) (Aa (Ab 3) (Aa (Bm (Ad (Ae ixW) (Ab 0) (gC (.int 2))) (Ad (Ae ixW) (Ab 1) (gC (.int 2)))) Ac)))))))
theorem nu(T:Tx K mg base a){B4:Nat}(NB:Df P w K mg base "names_of_both" B4 2 BL)(NC:B4<=k){BB:Nat}(IF:Df P w K mg base "entry_of" BB 2 A7)(IG:BB<=k){Js:Nat}(oZ:Df P w K mg base "either_of_entries" Js 2 Jr)(o0:Js<=k){CS:Nat}(WN:Df P w K mg base "row_of" CS 3 Ck)(WO:CS<=k):Dn P w K mg base W3 "either_of_rows" HV k (W4 BL A7 Jr Ck):=λ{f cdv A outer s H E}hr=>
 have hu:=A4 hr
 have hN:=ND.nd
 (AA (by walk_at "v") (AA (Hx (i:=3) ND.nd rfl rfl rfl rfl (DY (own:=["name"]) (fr:=["one","other"]) (js:=[0,1]) (scX:=Aq HV) (n:=s.heap.objs.size+1) rfl (by decide +kernel) (by decide +kernel) (by decide +kernel) (by decide +kernel) rfl rfl rfl (by decide +kernel) rfl) (λ_=>rfl) (by walk_at "v") (Fe (i:=0) (by decide) rfl rfl) (λC fp s1 H1=>Bz) (λC fp s1 H1=>(by walk_at "v"))) (by walk_at "v")))
abbrev W5:List Str:=["one","other"]
theorem W6:Ax W5 ["one","other"] (Aq Mb):=by walk_at "s"
def W7(BC:Spw)(Co:Spw)(Jt:Spw):GS:=(Ag (gIf (gTB (Ad (Ae (eqF true)) (Ad (Ae ixW) (Ab 0) (gC (.int 0))) (Ad (Ae ixW) (Ab 1) (gC (.int 0))))) (Ah (An (Aa (gC (.str "any")) Ac))) Ai) (Ag (gIf (gTB (Ad (Ae (eqF false)) (Ad (Ae ixW) (Ab 0) (gC (.int 0))) (gC (.str "to")))) (Ah (An (Aa (gC (.str "to")) (Aa (Af BC XF (Aa (Ad (Ae ixW) (Ab 0) (gC (.int 1))) (Aa (Ad (Ae ixW) (Ab 1) (gC (.int 1))) Ac))) (Aa (Af Co XF (Aa (Ad (Ae ixW) (Ab 0) (gC (.int 2))) (Aa (Ad (Ae ixW) (Ab 1) (gC (.int 2))) Ac))) Ac))))) Ai) (Ag (gIf (gTB (Ad (Ae (eqF false)) (Ad (Ae ixW) (Ab 0) (gC (.int 0))) (gC (.str "box")))) (Ah (An (Aa (gC (.str "box")) (Aa (Af BC XF (Aa (Ad (Ae ixW) (Ab 0) (gC (.int 1))) (Aa (Ad (Ae ixW) (Ab 1) (gC (.int 1))) Ac))) Ac)))) Ai) (Ag (gIf (gTB (Ad (Ae (eqF false)) (Ad (Ae ixW) (Ab 0) (gC (.int 0))) (gC (.str "row")))) (Ah (Af Jt XF (Aa (Ab 0) (Aa (Ab 1) Ac)))) Ai) (Ah (Ab 0))))))
theorem nv(T:Tx K mg base a){Cb:Nat}(Ny:Df P w K mg base "join_of" Cb 2 BC)(Nz:Cb<=k){C3:Nat}(W1:Df P w K mg base "either_of" C3 2 Co)(W2:C3<=k){Ju:Nat}(o4:Df P w K mg base "either_of_rows" Ju 2 Jt)(o5:Ju<=k):Dn P w K mg base W5 "either_of" Mb k (W7 BC Co Jt):=by
 have hN:=W6.nd;walk_at "z"
abbrev W8:List Str:=["one","other"]
theorem W9:Ax W8 ["one","other"] (Aq Mc):=by walk_at "s"
def Xa(Cm:Spw)(Co:Spw):GS:=(Ag (AD (Af Cm XF (Aa (Ab 0) (Aa (Ab 1) Ac)))) (Ah (Af Co XF (Aa (Ab 0) (Aa (Ab 1) Ac)))))
theorem nw(T:Tx K mg base a){CP:Nat}(WW:Df P w K mg base "check_kinds" CP 2 Cm)(WX:CP<=k){C3:Nat}(W1:Df P w K mg base "either_of" C3 2 Co)(W2:C3<=k):Dn P w K mg base W8 "either" Mc k (Xa Cm Co):=by
 have hN:=W9.nd;walk_at "z"
theorem Jv{xs:List Str}(h:xs.Pairwise (λx y=>As x y=true)):xs.Nodup:=h.imp λz e=>by subst e;rw[ER]at z;cases z
theorem NE{fs:Fs}{m:Bool}{k:Kd}:ent fs o x=.told m k↔fs.find x=some (m,k):=by
 unfold ent;cases e:fs.find x with
 | none=>cases o <;> simp
 | some u=>obtain⟨a,b⟩:=u;simp
inductive Wy where
 | mt | jn | ei
def opE(f:Kd->Kd->Kd):Wy->En->En->Option (Bool×Kd)
 | .mt,.told m k,.told _ k'=>some (m,f k k')
 | .mt,.told m k,_=>some (m,k)
 | .mt,_,.told m k=>some (m,k)
 | .jn,.told m k,.told m' k'=>if m=m' then some (m,f k k')else none
 | .ei,.told m k,.told m' k'=>some (m&&m',f k k')
 | .ei,.nope,.told _ k=>some (false,k)
 | .ei,.told _ k,.nope=>some (false,k)
 | _,_,_=>none
noncomputable def rwL(F:Str->Option (Bool×Kd))(fs gs:Fs):List (Str×Bool×Kd):=(A2 fs gs).filterMap λx=>(F x).map λu=>(x,u.1,u.2)
noncomputable def opB(F:Str->Option (Bool×Kd))(fs gs:Fs)(o p:Bool):Wy->Bool
 | .mt=>o&&p
 | .ei=>o||p
 | .jn=>o||p||(A2 fs gs).any λx=>(F x).isNone
abbrev opF(f:Kd->Kd->Kd)(c:Wy)(fs gs:Fs)(o p:Bool):Str->Option (Bool×Kd):=λx=>opE f c (ent fs o x) (ent gs p x)
noncomputable def opR(f:Kd->Kd->Kd)(c:Wy):Kd->Kd->Kd
 | .row fs o,.row gs p=>.row (ofL (rwL (opF f c fs gs o p) fs gs)) (opB (opF f c fs gs o p) fs gs o p c)
 | _,_=>.any
def opN:Wy->Kd->Kd->Kd
 | .mt,k,l=>if k.hd="any" then l else k
 | _,_,_=>.any
noncomputable def op(c:Wy):Nat->Kd->Kd->Kd
 | 0,_,_=>.any
 | n+1,k,l=>if k.hd=l.hd then(if k.hd="row" then opR (op c n) c k l else k)else opN c k l
variable {c:Wy}
theorem ny{f:Kd->Kd->Kd}{e a:En}{m:Bool}{j:Kd}(h:opE f c e a=some (m,j)):(∃ m',e=.told m' j\/a=.told m' j)\/∃ b k d k',e=.told b k/\a=.told d k'/\j=f k k':=by
 cases c <;> cases e <;> cases a <;> first |(cases h;done)|(cases h;exact .inl ⟨_,.inl rfl⟩)|(cases h;exact .inl ⟨_,.inr rfl⟩)|(cases h;exact .inr ⟨_,_,_,_,rfl,rfl,rfl⟩)| skip
 rename_i b k d k';have h':(if b=d then some (b,f k k')else none)=some (m,j):=h;split at h'
 ·cases h';exact .inr ⟨_,_,_,_,rfl,rfl,rfl⟩
 ·cases h'
def sm(f:Str->Nat):List Str->Nat
 | []=>0
 | x::xs=>f x+sm f xs
def oc:Option (Bool×Kd)->Nat
 | some u=>u.2.cnt
 | none=>0
theorem NF{f g:Str->Nat}:∀ zs:List Str,(∀ x∈zs,f x<=g x)->sm f zs<=sm g zs
 | [],_=>Yr _
 | x::xs,h=>Nat.add_le_add (h x Ye) (NF xs λy a=>h y (Yd _ a))
theorem NG{f g:Str->Nat}:∀ zs:List Str,sm (λx=>f x+g x) zs=sm f zs+sm g zs
 | []=>rfl
 | x::xs=>by
  show f x+g x+sm _ xs=f x+sm f xs+(g x+sm g xs);rw[NG xs];omega
theorem NH{f:Str->Nat}:∀ zs:List Str,(∀ x∈zs,f x=0)->sm f zs=0
 | [],_=>rfl
 | x::xs,h=>by
  show f x+sm f xs=0;rw[h x Ye,NH xs λy a=>h y (Yd _ a)]
theorem Xb{n:Str}{v:Nat}:∀ zs:List Str,zs.Nodup->sm (λx=>if n=x then v else 0) zs<=v
 | [],_=>YY _
 | z::zs,h=>by
  obtain⟨h1,h2⟩:=YV.mp h;show(if n=z then v else 0)+sm (λx=>if n=x then v else 0) zs<=v;by_cases e:n=z
  ·rw[if_pos e,NH zs λx a=>if_neg λq=>h1 (by rw[<- e,q];exact a)];omega
  ·rw[if_neg e];have:=Xb (n:=n) (v:=v) zs h2;omega
theorem NI:∀(fs:Fs){zs:List Str},zs.Nodup->sm (λx=>oc (fs.find x)) zs<=fs.cnt
 | .nil,zs,_=>Nat.le_of_eq (NH (f:=λx=>oc (Fs.nil.find x)) zs λ_ _=>rfl)
 | .cons n m k r,zs,h=>by
  have h1:sm (λx=>oc ((Fs.cons n m k r).find x)) zs<=sm (λx=>(if n=x then k.cnt else 0)+oc (r.find x)) zs:=NF zs λx _=>by
   show oc (if n=x then some (m,k)else r.find x)<=(if n=x then k.cnt else 0)+oc (r.find x);by_cases e:n=x
   ·rw[if_pos e,if_pos e];exact Qc _ _
   ·rw[if_neg e,if_neg e];omega
  rw[NG]at h1;have h2:=Xb (n:=n) (v:=k.cnt) zs h;have a:=NI r h;show _<=k.cnt+r.cnt;omega
theorem NJ{F:Str->Option (Bool×Kd)}:∀ zs:List Str,(ofL (zs.filterMap λz=>(F z).map λu=>(z,u.1,u.2))).cnt=sm (λz=>oc (F z)) zs
 | []=>rfl
 | z::zs=>by
  show _=oc (F z)+sm _ zs;cases e:F z with
  | none =>
   rw[List.filterMap_cons_none (by rw[e];rfl),NJ zs];show _=0+_;omega
  | some u =>
   rw[List.filterMap_cons_some (b:=(z,u.1,u.2)) (by rw[e];rfl),<- NJ zs];rfl
theorem Jw{fs:Fs}{m:Bool}{k:Kd}(e:ent fs o x=.told m k):oc (fs.find x)=k.cnt:=by rw[NE.mp e];rfl
theorem NK:∀{fs:Fs},fs.ok=true->∀ x∈fs.names,AK x=true
 | .nil,_,x,a=>by cases a
 | .cons n m k r,h,x,a=>by
  have h':(AK n&&k.ok&&r.ok)=true:=h;walk_at "pb";walk_at "pf"
  ·exact h'.1.1
  ·exact NK h'.2 x a
theorem Xd{fs:Fs}(h:(Kd.row fs o).ok=true):fs.ok=true:=by
 have h':(rise fs.names&&fs.ok)=true:=h;walk_at "pb";exact h'.2
theorem NL{F:Str->Option (Bool×Kd)}:∀ zs:List Str,((zs.filterMap λz=>(F z).map λu=>(z,u.1,u.2)).map (·.1)).Sublist zs
 | []=>.slnil
 | z::zs=>by
  cases e:F z with
  | none=>rw[List.filterMap_cons_none (by rw[e];rfl)];exact(NL zs).cons _
  | some u=>rw[List.filterMap_cons_some (b:=(z,u.1,u.2)) (by rw[e];rfl),Ym];exact(NL zs).cons_cons _
def dk(n:Nat)(k l:Kd):Prop:=wf 5 k/\wf 5 l/\k.dat=true/\l.dat=true/\k.dp<=n/\l.dp<=n
def tld(e:En):Prop:=∃ m k,e=.told m k
def dkE(n:Nat)(e e':En):Prop:=(tld e\/tld e')/\∀ m k m' k',e=.told m k->e'=.told m' k'->dk n k k'
theorem Jx{fs:Fs}{p:Bool}(a:x∈A2 fs gs):tld (ent fs o x)\/tld (ent gs p x):=by
 rcases ID.mp a with a | a
 ·obtain⟨m,k,e,_⟩:=Ul (o:=o) a;exact .inl ⟨m,k,e⟩
 ·obtain⟨m,k,e,_⟩:=Ul (o:=p) a;exact .inr ⟨m,k,e⟩
variable {k':Kd}
theorem GK{fs:Fs}{p:Bool}(h:dk (n+1) (.row fs o) (.row gs p)){m:Bool}{k:Kd}(d:ent fs o x=.told m k)(i:ent gs p x=.told m' k'):dk n k k':=by
 obtain⟨f,g,e,j,l,q⟩:=h;have a:=ES d;have b:=ES i;have h1:=D4 (k:=.row fs o) (c:=k) a;have h2:=D4 (k:=.row gs p) (c:=k') b;exact⟨Gy f a,Gy g b,FK e a,FK j b,by omega,by omega⟩
theorem Xe{fs:Fs}{p:Bool}(b:wf 5 (.row fs o))(a:wf 5 (.row gs p)):(A2 fs gs).length<=10:=by
 have:=Dc (Jv (FH _)) (xs:=fs.names++gs.names) λx c=>IC.mp c;rw[Yj]at this;have h1:=ET b;have h2:=ET a;exact Yt this (by omega)
theorem Xf(f:∀{k l:Kd},dk n k l->wf 10 (op c n k l)/\(op c n k l).dat=true/\(op c n k l).dp<=n/\(op c n k l).cnt<=k.cnt+l.cnt){fs:Fs}{p:Bool}(h:dk (n+1) (.row fs o) (.row gs p))(x:Str)(u:Bool×Kd)(e:opF (op c n) c fs gs o p x=some u):wf 10 u.2/\u.2.dat=true/\u.2.dp<=n/\u.2.cnt<=oc (fs.find x)+oc (gs.find x):=by
 have h':=h;obtain⟨i,q,g,r,v,A⟩:=h';rcases ny (m:=u.1) (j:=u.2) e with⟨y,z | z⟩|⟨s,k,w,t,b,a,d⟩
 ·have h1:=ES z;have:=D4 (k:=.row fs o) h1;exact⟨FG (Gy i h1),FK g h1,by omega,by rw[Jw z];exact Qc _ _⟩
 ·have h1:=ES z;have:=D4 (k:=.row gs p) h1;exact⟨FG (Gy q h1),FK r h1,by omega,by rw[Jw z];exact Nat.le_add_left _ _⟩
 ·rw[d,Jw b,Jw a];exact f (GK h b a)
theorem NM(c:Wy):∀(n:Nat){k l:Kd},dk n k l->wf 10 (op c n k l)/\(op c n k l).dat=true/\(op c n k l).dp<=n/\(op c n k l).cnt<=k.cnt+l.cnt
 | 0,k,l,h=>by have:=Bx k;have:=h.2.2.2.2.1;omega
 | n+1,k,l,h=>by
  have h':=h;obtain⟨i,j,s,w,v,A⟩:=h';have a:wf 10 Kd.any/\Kd.any.dat=true/\Kd.any.dp<=n+1/\Kd.any.cnt<=k.cnt+l.cnt:=⟨⟨rfl,rfl⟩,rfl,Nat.succ_le_succ (YY _),Yt (D3 k) (Qc _ _)⟩;have b:wf 10 k/\k.dat=true/\k.dp<=n+1/\k.cnt<=k.cnt+l.cnt:=⟨FG i,s,v,Qc _ _⟩;rw[op];by_cases g:k.hd=l.hd
  ·rw[if_pos g];by_cases f:k.hd="row"
   ·rw[if_pos f];obtain⟨fs,o,rfl⟩:=BQ f;obtain⟨gs,p,rfl⟩:=BQ (g▸f);have key:=Xf (NM c n) h
    have mem:∀ y∈rwL (opF (op c n) c fs gs o p) fs gs,y.1∈A2 fs gs/\opF (op c n) c fs gs o p y.1=some y.2:=λy d=>by
     obtain⟨x,r,e⟩:=List.mem_filterMap.mp d;obtain⟨u,q,t⟩:=YU.mp e;cases t;exact⟨r,q⟩
    have m:=NL (F:=opF (op c n) c fs gs o p) (A2 fs gs);refine⟨M3 ((FH _).sublist m) (M0 (Yt m.length_le (Xe i j))) λy d=>⟨?_,(key _ _ (mem y d).2).1⟩,Iv _ λy d=>(key _ _ (mem y d).2).2.1,?_,?_⟩
    ·rcases ID.mp (mem y d).1 with z | z
     ·exact NK (Xd i.1) _ z
     ·exact NK (Xd j.1) _ z
    ·have:=M1 _ λy d=>(key _ _ (mem y d).2).2.2.1;show 1+(ofL (rwL (opF (op c n) c fs gs o p) fs gs)).dp<=_;omega
    ·have h1:(ofL (rwL (opF (op c n) c fs gs o p) fs gs)).cnt=_:=NJ (F:=opF (op c n) c fs gs o p) (A2 fs gs)
     have h2:sm (λz=>oc (opF (op c n) c fs gs o p z)) (A2 fs gs)<=sm (λx=>oc (fs.find x)+oc (gs.find x)) (A2 fs gs):=NF _ λx _=>by
      cases e:opF (op c n) c fs gs o p x with
      | none=>exact YY _
      | some u=>exact(key x u e).2.2.2
     rw[NG]at h2;have B:=NI fs (zs:=A2 fs gs) (Jv (FH _));have D:=NI gs (zs:=A2 fs gs) (Jv (FH _));show 1+(ofL (rwL (opF (op c n) c fs gs o p) fs gs)).cnt<=1+fs.cnt+(1+gs.cnt);omega
   ·rw[if_neg f];exact b
  ·rw[if_neg g];cases c with
   | mt =>
    rw[opN];split
    ·exact⟨FG j,w,A,Nat.le_add_left _ _⟩
    ·exact b
   | jn=>exact a
   | ei=>exact a
theorem Jy{k l:Kd}(c:k.dat=true)(b:l.dat=true)(h:k.hd=l.hd)(a:k.hd≠"row"):k=l:=by
 cases k <;> cases l <;> first | rfl |(cases c;done)|(cases b;done)| exact absurd rfl a | exact absurd h (by simp only[Kd.hd];decide)
def kdd(k:Kd):Prop:=(wf 5 k/\k.cnt<=40/\k.dp<=8)/\k.dat=true
theorem DJ{k l:Kd}(h1:kdd k)(h2:kdd l):dk 8 k l:=⟨h1.1.1,h2.1.1,h1.2,h2.2,h1.1.2.2,h2.1.2.2⟩
theorem GL{k:Kd}(h:kdd k):kd8 k:=⟨FG h.1.1,h.1.2⟩
def eN:Option (Bool×Kd)->Bool->En
 | some u,_=>.told u.1 u.2
 | none,true=>.free
 | none,false=>.nope
theorem Xg{F:Str->Option (Bool×Kd)}{x:Str}:∀ zs:List Str,zs.Nodup->(ofL (zs.filterMap λz=>(F z).map λu=>(z,u.1,u.2))).find x=if x∈zs then F x else none
 | [],_=>by rw[if_neg (Qd)];rfl
 | z::zs,h=>by
  obtain⟨h1,h2⟩:=YV.mp h;have d:=Xg (F:=F) (x:=x) zs h2;cases e:F z with
  | none =>
   rw[List.filterMap_cons_none (by rw[e];rfl),d];by_cases c:x=z
   ·subst c;rw[if_neg h1,if_pos Ye,e]
   ·by_cases a:x∈zs
    ·rw[if_pos a,if_pos (Yd _ a)]
    ·rw[if_neg a,if_neg (λq=>(Yo.mp q).elim c a)]
  | some u =>
   rw[List.filterMap_cons_some (b:=(z,u.1,u.2)) (by rw[e];rfl)];show(if z=x then some (u.1,u.2)else Fs.find _ x)=_;by_cases c:z=x
   ·subst c;rw[if_pos rfl,if_pos Ye,e]
   ·rw[if_neg c,d];by_cases a:x∈zs
    ·rw[if_pos a,if_pos (Yd _ a)]
    ·rw[if_neg a,if_neg (λq=>(Yo.mp q).elim (λy=>c y.symm) a)]
theorem nz{F:Str->Option (Bool×Kd)}(h:zs.Nodup)(o:Bool):ent (ofL (zs.filterMap λz=>(F z).map λu=>(z,u.1,u.2))) o x=eN (if x∈zs then F x else none) o:=by
 unfold ent;rw[Xg zs h];cases(if x∈zs then F x else none)with
 | none=>cases o <;> rfl
 | some u=>rfl
theorem Xh{fs:Fs}(h:ent fs o x=.free):o=true:=by
 unfold ent at h;cases e:fs.find x with
 | none=>rw[e]at h;cases o with | true=>rfl | false=>cases h
 | some u=>rw[e]at h;cases h
abbrev Xi:List Str:=["one","other"]
theorem Xj:Ax Xi ["one","other"] (Aq LZ):=by walk_at "s"
def Xk(Cp:Spw):GS:=(Ag (gIf (gTB (Ad (Ae (inF false)) (gC (.str "free")) (An (Aa (Ad (Ae ixW) (Ab 0) (gC (.int 0))) (Aa (Ad (Ae ixW) (Ab 1) (gC (.int 0))) Ac))))) (Ah (gC .non)) Ai) (Ag (gIf (gTB (Ad (Ae (eqF true)) (Ad (Ae ixW) (Ab 0) (gC (.int 0))) (Ad (Ae ixW) (Ab 1) (gC (.int 0))))) (Ah (An Ac)) Ai) (Ah (AT (gTB (Ad (Ae (eqF false)) (Ad (Ae ixW) (Ab 0) (gC (.int 0))) (gC (.str "none")))) (gC .non) (Af Cp XF (Aa (Ad (Ae ixW) (Ab 0) (gC (.int 1))) (Aa (Ad (Ae ixW) (Ab 1) (gC (.int 1))) Ac)))))))
variable {Cp:Spw}
theorem nA(T:Tx K mg base a){C4:Nat}(Xl:Df P w K mg base "clash_of" C4 2 Cp)(Xm:C4<=k):Dn P w K mg base Xi "clash_of_entries" LZ k (Xk Cp):=by
 have hN:=Xj.nd;walk_at "z"
abbrev Xn:List Str:=["one","other","name","found"]
theorem Xo:Ax Xn ["one","other"] (Aq L0):=by walk_at "s"
def Xp(BL:Spw)(A7:Spw)(Jz:Spw)(Ci:Spw):GS:=(Ag (AF (AB (Af BL XF (Aa (Ab 0) (Aa (Ab 1) Ac)))) (gNm 2) (Ag (Ap 3 (Af Jz XF (Aa (Af A7 XF (Aa (Ab 0) (Aa (Ab 2) Ac))) (Aa (Af A7 XF (Aa (Ab 1) (Aa (Ab 2) Ac))) Ac)))) (gIf (gTB (Ad (Ae (isF true)) (Ab 3) (gC .non))) (Ah (Af Ci XF (Aa (Ab 2) (Aa (Ab 3) Ac)))) Ai))) (Ah (gC .non)))
theorem nB(T:Tx K mg base a){B4:Nat}(NB:Df P w K mg base "names_of_both" B4 2 BL)(NC:B4<=k){BB:Nat}(IF:Df P w K mg base "entry_of" BB 2 A7)(IG:BB<=k){JA:Nat}(o6:Df P w K mg base "clash_of_entries" JA 2 Jz)(o9:JA<=k){CQ:Nat}(UW:Df P w K mg base "behind" CQ 2 Ci)(UX:CQ<=k):Dn P w K mg base Xn "clash_of_rows" L0 k (Xp BL A7 Jz Ci):=by
 have hN:=Xo.nd;walk_at "z"
abbrev Xq:List Str:=["one","other","step","left","right","found"]
theorem Xr:Ax Xq ["one","other"] (Aq L1):=by walk_at "s"
def Xs(JB:Spw)(Cp:Spw)(Ci:Spw):GS:=(Ag (gIf (gTB (Ad (Ae (inF false)) (gC (.str "any")) (An (Aa (Ad (Ae ixW) (Ab 0) (gC (.int 0))) (Aa (Ad (Ae ixW) (Ab 1) (gC (.int 0))) Ac))))) (Ah (gC .non)) Ai) (Ag (gIf (gTB (Ad (Ae (eqF true)) (Ad (Ae ixW) (Ab 0) (gC (.int 0))) (Ad (Ae ixW) (Ab 1) (gC (.int 0))))) (Ah (An Ac)) Ai) (Ag (gIf (gTB (Ad (Ae (eqF false)) (Ad (Ae ixW) (Ab 0) (gC (.int 0))) (gC (.str "row")))) (Ah (Af JB XF (Aa (Ab 0) (Aa (Ab 1) Ac)))) Ai) (Ag (AF (HG (Aa (Le Ms (Ad (Ae ixW) (Ab 0) (gC (.int 0)))) (Aa (BV (Ab 0) (A9 (gC (.int 1))) A8) (Aa (BV (Ab 1) (A9 (gC (.int 1))) A8) Ac)))) (BN 2 3 4) (Ag (Ap 5 (Af Cp XF (Aa (Ab 3) (Aa (Ab 4) Ac)))) (gIf (gTB (Ad (Ae (isF true)) (Ab 5) (gC .non))) (Ah (Af Ci XF (Aa (Ab 2) (Aa (Ab 5) Ac)))) Ai))) (Ah (gC .non))))))
theorem nC(T:Tx K mg base a){JC:Nat}(pb:Df P w K mg base "clash_of_rows" JC 2 JB)(pf:JC<=k){C4:Nat}(Xl:Df P w K mg base "clash_of" C4 2 Cp)(Xm:C4<=k){CQ:Nat}(UW:Df P w K mg base "behind" CQ 2 Ci)(UX:CQ<=k):Dn P w K mg base Xq "clash_of" L1 k (Xs JB Cp Ci):=λ{f cdv A outer s H E}hr=>
 have hu:=A4 hr
 have hN:=Xr.nd
 (AA (by walk_at "v") (AA (by walk_at "v") (AA (by walk_at "v") (AA (Hn PassesOwn.never rfl (λ_=>rfl) (ik T.Gu rfl rfl rfl (A3 rfl (im T.Ss rfl rfl (λ_ _=>rfl) (by walk_at "v")) (by walk_at "v"))) (by walk_at "v") (by walk_at "v")) (by walk_at "v")))))
abbrev Xu:List Str:=["names","entries","is_open","fields"]
theorem NO:Ax Xu ["names","entries","is_open"] (Aq HR):=by walk_at "s"
def Xv:GS:=(Ag (Ap 3 (Ba (BH (Aa (Ab 0) (Aa (Ab 1) Ac))) 2 [] (Bh 0 1) (gTB (Ad (Ae (eqF true)) (Ab 1) (An (Aa (gC (.str "free")) Ac)))) (Ad (BI) (An (Aa (Ab 0) Ac)) (Ab 1)))) (Ah (An (Aa (gC (.str "row")) (Aa (gB (rF AI) (Aa (Ab 3) Ac)) (Aa (Ab 2) Ac))))))
theorem nD(T:Tx K mg base a):Dn P w K mg base Xu "row_of" HR k (Xv):=λ{f cdv A outer s H E}hr=>
 have hu:=A4 hr
 have hN:=NO.nd
 (AA (Hx (i:=3) NO.nd rfl rfl rfl rfl (DY (own:=["name","entry"]) (fr:=[]) (js:=[]) (scX:=Aq HR) (n:=s.heap.objs.size+1) rfl (by decide +kernel) (by decide +kernel) (by decide +kernel) (by decide +kernel) rfl rfl rfl (by decide +kernel) rfl) (λ_=>rfl) (PX T.Gu rfl rfl rfl (by walk_at "v")) (fQ (i:=0) (j:=1) rfl (by decide) rfl rfl rfl rfl) (λC fp s1 H1=>(by walk_at "v")) (λC fp s1 H1=>(by walk_at "v"))) (by walk_at "v"))
abbrev Xx:List Str:=["one","other"]
theorem Xy:Ax Xx ["one","other"] (Aq L4):=by walk_at "s"
def Xz(Cq:Spw):GS:=(Ag (gIf (gTB (Ad (Ae (eqF false)) (Ad (Ae ixW) (Ab 0) (gC (.int 0))) (gC (.str "free")))) (Ah (Ab 1)) Ai) (Ag (gIf (gTB (Ad (Ae (eqF false)) (Ad (Ae ixW) (Ab 1) (gC (.int 0))) (gC (.str "free")))) (Ah (Ab 0)) Ai) (Ah (An (Aa (Ad (Ae ixW) (Ab 0) (gC (.int 0))) (Aa (Af Cq XF (Aa (Ad (Ae ixW) (Ab 0) (gC (.int 1))) (Aa (Ad (Ae ixW) (Ab 1) (gC (.int 1))) Ac))) Ac))))))
variable {Cq:Spw}
theorem nE(T:Tx K mg base a){C5:Nat}(XA:Df P w K mg base "meet_of" C5 2 Cq)(XB:C5<=k):Dn P w K mg base Xx "meet_of_entries" L4 k (Xz Cq):=by
 have hN:=Xy.nd;walk_at "z"
abbrev XC:List Str:=["one","other","names","entries"]
theorem NP:Ax XC ["one","other"] (Aq HS):=by walk_at "s"
def XD(BL:Spw)(A7:Spw)(JD:Spw)(Ck:Spw):GS:=(Ag (Ap 2 (Af BL XF (Aa (Ab 0) (Aa (Ab 1) Ac)))) (Ag (Ap 3 (Ba (AB (Ab 2)) 1 [0,1] (gNm 0) AL (Af JD XF (Aa (Af A7 XF (Aa (Ab 1) (Aa (Ab 0) Ac))) (Aa (Af A7 XF (Aa (Ab 2) (Aa (Ab 0) Ac))) Ac))))) (Ah (Af Ck XF (Aa (Ab 2) (Aa (Ab 3) (Aa (AX (Ad (Ae ixW) (Ab 0) (gC (.int 2))) (Ad (Ae ixW) (Ab 1) (gC (.int 2)))) Ac)))))))
theorem nF(T:Tx K mg base a){B4:Nat}(NB:Df P w K mg base "names_of_both" B4 2 BL)(NC:B4<=k){BB:Nat}(IF:Df P w K mg base "entry_of" BB 2 A7)(IG:BB<=k){JE:Nat}(ph:Df P w K mg base "meet_of_entries" JE 2 JD)(pj:JE<=k){CS:Nat}(WN:Df P w K mg base "row_of" CS 3 Ck)(WO:CS<=k):Dn P w K mg base XC "meet_of_rows" HS k (XD BL A7 JD Ck):=λ{f cdv A outer s H E}hr=>
 have hu:=A4 hr
 have hN:=NP.nd
 (AA (by walk_at "v") (AA (Hx (i:=3) NP.nd rfl rfl rfl rfl (DY (own:=["name"]) (fr:=["one","other"]) (js:=[0,1]) (scX:=Aq HS) (n:=s.heap.objs.size+1) rfl (by decide +kernel) (by decide +kernel) (by decide +kernel) (by decide +kernel) rfl rfl rfl (by decide +kernel) rfl) (λ_=>rfl) (by walk_at "v") (Fe (i:=0) (by decide) rfl rfl) (λC fp s1 H1=>Bz) (λC fp s1 H1=>(by walk_at "v"))) (by walk_at "v")))
abbrev XE:List Str:=["one","other"]
theorem XG:Ax XE ["one","other"] (Aq L5):=by walk_at "s"
def XH(JF:Spw)(Cq:Spw):GS:=(Ag (gIf (gTB (Ad (Ae (eqF false)) (Ad (Ae ixW) (Ab 0) (gC (.int 0))) (gC (.str "any")))) (Ah (Ab 1)) Ai) (Ag (gIf (gTB (Ad (Ae (eqF false)) (Ad (Ae ixW) (Ab 1) (gC (.int 0))) (gC (.str "any")))) (Ah (Ab 0)) Ai) (Ag (gIf (gTB (Ad (Ae (eqF false)) (Ad (Ae ixW) (Ab 0) (gC (.int 0))) (gC (.str "row")))) (Ah (Af JF XF (Aa (Ab 0) (Aa (Ab 1) Ac)))) Ai) (Ah (Ad (BI) (An (Aa (Ad (Ae ixW) (Ab 0) (gC (.int 0))) Ac)) (gB (rF AI) (Aa (AR (CK (Aa (BV (Ab 0) (A9 (gC (.int 1))) A8) (Aa (BV (Ab 1) (A9 (gC (.int 1))) A8) Ac))) 2 (Bh 0 1) AL (Af Cq XF (Aa (Ab 0) (Aa (Ab 1) Ac)))) Ac)))))))
theorem nG(T:Tx K mg base a){JG:Nat}(pk:Df P w K mg base "meet_of_rows" JG 2 JF)(pp:JG<=k){C5:Nat}(XA:Df P w K mg base "meet_of" C5 2 Cq)(XB:C5<=k):Dn P w K mg base XE "meet_of" L5 k (XH JF Cq):=λ{f cdv A outer s H E}hr=>
 have hu:=A4 hr
 have hN:=XG.nd
 (AA (by walk_at "v") (AA (by walk_at "v") (AA (by walk_at "v") (Br (B1 (Hv (by walk_at "v") (Dl Fc (F9) rfl T.Fk (by decide) rfl rfl rfl (A3 rfl (Cy (Nc:=["left","right"]) rfl (Cr rfl (by decide +kernel) (by decide +kernel)) (λ_=>rfl) (Rb T.Gu rfl rfl rfl (by walk_at "v")) (Hl (i:=0) (j:=1) rfl (by decide) rfl rfl rfl rfl) (λC fp s1 H1=>Bz) (λC fp s1 H1=>(by walk_at "v"))) BD))))))))
abbrev XI:List Str:=["one","other"]
theorem XJ:Ax XI ["one","other"] (Aq L6):=by walk_at "s"
def XM(Cm:Spw)(Cp:Spw)(Cq:Spw):GS:=(Ag (AD (Af Cm XF (Aa (Ab 0) (Aa (Ab 1) Ac)))) (Ag (gIf (gTB (Ad (Ae (isF true)) (Af Cp XF (Aa (Ab 0) (Aa (Ab 1) Ac))) (gC .non))) (Ah (gC .non)) Ai) (Ah (Af Cq XF (Aa (Ab 0) (Aa (Ab 1) Ac))))))
theorem nH(T:Tx K mg base a){CP:Nat}(WW:Df P w K mg base "check_kinds" CP 2 Cm)(WX:CP<=k){C4:Nat}(Xl:Df P w K mg base "clash_of" C4 2 Cp)(Xm:C4<=k){C5:Nat}(XA:Df P w K mg base "meet_of" C5 2 Cq)(XB:C5<=k):Dn P w K mg base XI "met" L6 k (XM Cm Cp Cq):=by
 have hN:=XJ.nd;walk_at "z"
def enJ:Option (Bool×Kd)->En
 | some u=>.told u.1 u.2
 | none=>.free
def DK(us:List (Str×Option (Bool×Kd))):List (Str×Bool×Kd):=us.filterMap λu=>u.2.map λv=>(u.1,v.1,v.2)
theorem nI{m:Bool}{k:Kd}(hd:k.dp<=20)(G:Hw):eqW (.tup [.str (mark m),k.enc]) (.tup [.str "free"]) G=some false:=by
 have h:=FJ k;show(if max 0 (max (dpW k.enc) 0) < 90 then Bs [.str (mark m),k.enc] [.str "free"]else none)=_;rw[if_pos (by omega)];show(match some (mark m=="free"),some false with | some a,some b=>some (a&&b)| _,_=>none)=some false;simp
theorem nJ(G:Hw):eqW (.tup [.str "free"]) (.tup [.str "free"]) G=some true:=by
 show some (("free":Str)=="free"&&true)=some true;simp
theorem NQ{gd:Hw->Prop}{R:List W->Hw->Prop}{G:Hw}(a:gd G):∀(us:List (Str×Option (Bool×Kd)))(o o':Option W)(ys:List W),(∀ u∈us,∀ m k,u.2=some (m,k)->k.dp<=20)->
  ys.length+us.length<=sizeLine->R (ys++(DK us).map Az) G->Bi gd (Bh 0 1) (gTB (Ad (Ae (eqF true)) (Ab 1) (An (Aa (gC (.str "free")) Ac)))) (Ad BI (An (Aa (Ab 0) Ac)) (Ab 1)) R (us.map λu=>W.tup [.str u.1,(enJ u.2).enc]) [o,o'] G ys
 | [],o,o',ys,_,_,r=>⟨a,by simpa[DK]using r⟩
 |(x,e)::us,o,o',ys,h,hl,r=>by
  have d:ys.length+(us.length+1)<=sizeLine:=hl;refine⟨a,by omega,?_⟩;simp only[Bh,Yk,Yl,gTB,Ad,Ab,An,Aa,Ac,gC,Ae,Yb,Yc];refine⟨by decide,?_⟩;cases e with
  | none =>
   have c:eqF true (enJ none).enc (.tup [.str "free"]) G=some (.bl false):=by unfold eqF;rw[show(enJ none).enc=.tup [.str "free"]from rfl,nJ];rfl
   rw[c];simp only[Ao,Yq,if_false];exact NQ a us _ _ ys (λu b=>h u (Yd _ b)) (by omega) (by simpa[DK]using r)
  | some u =>
   obtain⟨m,k⟩:=u;have f:=h (x,some (m,k)) Ye m k rfl;have c:eqF true (enJ (some (m,k))).enc (.tup [.str "free"]) G=some (.bl true):=by unfold eqF;rw[show(enJ (some (m,k))).enc=.tup [.str (mark m),k.enc]from rfl,nI f];rfl
   rw[c];simp only[Ao,if_true];refine⟨(Qzz 1),?_⟩;rw[show(enJ (some (m,k))).enc=.tup [.str (mark m),k.enc]from rfl,Da];refine⟨(show 1+2<=sizeLine by decide),?_⟩;refine NQ a us _ _ _ (λu b=>h u (Yd _ b)) (by simp only[Yj,Yg,Yi];omega) ?_;simpa[DK,Az,Yv]using r
abbrev XN:Spw:=spR (λ(x:List (Str×Option (Bool×Kd))×Addr×Addr×Bool)ws G=>ws=[.ref x.2.1,.ref x.2.2.1,.bl x.2.2.2]/\G x.2.1=some (.lst (x.1.map λu=>W.str u.1))/\G x.2.2.1=some (.lst (x.1.map λu=>(enJ u.2).enc))/\x.1.length<=100/\∀ u∈x.1,∀ m k,u.2=some (m,k)->k.dp<=20) λx=>(Kd.row (ofL (DK x.1)) x.2.2.2).enc
theorem D2(h:G p=some (.lst xs)):rdL G (.ref p)=some xs:=by unfold rdL;dsimp only;rw[h]
theorem CS(T:Tx K mg base a):Df P w K mg base "row_of" 1 3 XN:=by
 refine mk0 T.jV rfl NO AG (λh G Q E⟨x,⟨e,_⟩,_⟩=>by rw[e];rfl) (nD T) λh G Q E f q=>?_;obtain⟨⟨c,p1,p2,b⟩,⟨rfl,h1,h2,hl,d⟩,q⟩:=q;dsimp only at h1 h2 hl d q;unfold Xv;show Ag (Ap 3 _) _ (Ar Q) [some (.ref p1),some (.ref p2),some (.bl b),none] G;simp only[Ag,Ap,Ba,BH,Aa,Ac,Ab,Yb,Yc,D2 h1,D2 h2]
 have i:B8 (c.map λu=>W.str u.1) (c.map λu=>(enJ u.2).enc)=c.map λu=>W.tup [.str u.1,(enJ u.2).enc]:=by
  rw[Lo,List.zip_map',YB];rfl
 rw[i];refine NQ (G:=G) ⟨D2 h1,D2 h2⟩ c none none [] d (by simp only[Yi];exact BJ (by omega)) λp g=>?_;simp only[Ah,An,Aa,Ac,gC,gB,rF,Ab,Yk,Yl,Yb,Yc,AI,D1 Ak,YE,Ao,Ar,Yw];refine⟨(Qzz 3),?_⟩;have e:(Kd.row (ofL (DK c)) b).enc=.tup [.str "row",.tup ((DK c).map Az),.bl b]:=by rw[<- DA];rfl
 rw[e]at q;exact f _ _ _ (A1 g) q
abbrev EZ(c:Wy)(n:Nat):Spw:=spR (λ(x:En×En)ws _=>ws=[x.1.enc,x.2.enc]/\dkE n x.1 x.2/\(c=.mt->clE (cl n) x.1 x.2=none)) λx=>(enJ (opE (op c n) c x.1 x.2)).enc
abbrev spK(c:Wy)(n:Nat):Spw:=spR (λ(x:Kd×Kd)ws _=>ws=[x.1.enc,x.2.enc]/\dk n x.1 x.2/\(c=.mt->cl n x.1 x.2=none)) λx=>(op c n x.1 x.2).enc
abbrev NR(c:Wy)(n:Nat):Spw:=spR (λ(x:Fs×Bool×Fs×Bool)ws _=>ws=[(Kd.row x.1 x.2.1).enc,(Kd.row x.2.2.1 x.2.2.2).enc]/\dk (n+1) (.row x.1 x.2.1) (.row x.2.2.1 x.2.2.2)/\(c=.mt->cl (n+1) (.row x.1 x.2.1) (.row x.2.2.1 x.2.2.2)=none)) λx=>(opR (op c n) c (.row x.1 x.2.1) (.row x.2.2.1 x.2.2.2)).enc
abbrev gRw(sp:Spw)(fl:GE):GS:=Ag (Ap 2 (Af M7 XF (Aa (Ab 0) (Aa (Ab 1) Ac)))) (Ag (Ap 3 (Ba (AB (Ab 2)) 1 [0,1] (gNm 0) AL (Af sp XF (Aa (Af FE XF (Aa (Ab 1) (Aa (Ab 0) Ac))) (Aa (Af FE XF (Aa (Ab 2) (Aa (Ab 0) Ac))) Ac))))) (Ah (Af XN XF (Aa (Ab 2) (Aa (Ab 3) (Aa fl Ac))))))
theorem NS:∀{us:List (Str×Option (List Str))},CD us=none↔∀ u∈us,u.2=none
 | []=>⟨λ_ u a=>(by cases a),λ_=>rfl⟩
 |(x,some p)::r=>⟨λh=>(by cases h),λh=>(by cases h _ Ye)⟩
 |(x,none)::r=>by
  show CD r=none↔_;rw[NS];exact⟨λh u a=>(Yo.mp a).elim (λe=>by rw[e]) (h u),λh u a=>h u (Yd _ a)⟩
theorem XO{fs:Fs}{p:Bool}(h:cl (n+1) (.row fs o) (.row gs p)=none)(a:x∈A2 fs gs):clE (cl n) (ent fs o x) (ent gs p x)=none:=NS.mp h _ (YC.mpr ⟨x,a,rfl⟩)
theorem NT{fs:Fs}{p:Bool}{l:GE}(t:Kw.C Q)(v:n<=20)(h:dk (n+1) (.row fs o) (.row gs p))(hc:c=.mt->cl (n+1) (.row fs o) (.row gs p)=none)
  (F:∀(r r2:Addr)(j:Hw)(d:Kw),j r2=some (.lst ((A2 fs gs).map λx=>(enJ (opF (op c n) c fs gs o p x)).enc))->(∀ x∈A2 fs gs,∀ m k,opF (op c n) c fs gs o p x=some (m,k)->k.dp<=20)->d (.bl (opB (opF (op c n) c fs gs o p) fs gs o p c)) j->l [some (Kd.row fs o).enc,some (Kd.row gs p).enc,some (.ref r),some (.ref r2)] j d)
  (q:Q (opR (op c n) c (.row fs o) (.row gs p)).enc G):gRw (EZ c n) l (Ar Q) [some (Kd.row fs o).enc,some (Kd.row gs p).enc,none,none] G:=by
 have N:=ET h.1;have L:=ET h.2.1;have B:=Xe h.1 h.2.1;have b:∀ x∈A2 fs gs,∀ m k,opF (op c n) c fs gs o p x=some (m,k)->k.dp<=20:=λx _ m k e=>Yt (Xf (NM c n) h x (m,k) e).2.2.1 v;simp only[gRw,Ag,Ap,Af,Ab,Aa,Ac,Yb,Yc,Yk,Yl];refine⟨fs,gs,o,p,rfl,by omega,by omega,λzs r E z D H=>?_⟩;obtain rfl:=UH E z D;simp only[Ba,AB,Ab,Yb,Yc,Bk,Ym,List.map_nil,List.replicate,List.cons_append,Yw,Ak];refine Ik (enc:=W.str) (f:=λx=>(enJ (opF (op c n) c fs gs o p x)).enc) (cst:=[some (Kd.row fs o).enc,some (Kd.row gs p).enc]) Ak (A2 fs gs) none [] (λx g d I=>?_) (by simp only[Yi];exact BJ (by omega)) λr2 a=>?_
 ·show Af _ _ _ [some (.str x),some (Kd.row fs o).enc,some (Kd.row gs p).enc] _ d;walk_at "rd";exact⟨(fs,o,x),rfl,(gs,p,x),rfl,(ent fs o x,ent gs p x),⟨rfl,⟨Jx g,λm k K J y A=>GK h y A⟩,λe=>XO (hc e) g⟩,I⟩
 ·rw[Yw];have i:r≠r2:=AE Ak a;simp only[Ah,Af,Aa,Ac,Ab,Yb,Yc,Yk,Yl,Ar];refine F r r2 _ _ Ak b ?_;refine⟨((A2 fs gs).map λx=>(x,opF (op c n) c fs gs o p x),r,r2,opB (opF (op c n) c fs gs o p) fs gs o p c),⟨rfl,?_,?_,?_,?_⟩,?_⟩
  ·dsimp only;rw[Aj i,Ak,YB];rfl
  ·dsimp only;rw[Ak,YB];rfl
  ·dsimp only;rw[Yh];omega
  ·intro u w m k e;obtain⟨x,g,rfl⟩:=YC.mp w;exact b x g m k e
  ·dsimp only;refine t _ _ _ (B9 (A1 H) a) ?_
   have s:DK ((A2 fs gs).map λx=>(x,opF (op c n) c fs gs o p x))=rwL (opF (op c n) c fs gs o p) fs gs:=by
    unfold DK;rw[List.filterMap_map];rfl
   rw[s];exact q
abbrev gJ(sp:Spw):GE:=Ad BI (An (Aa (Ad (Ae ixW) (Ab 0) (gC (.int 0))) Ac)) (gB (rF AI) (Aa (AR (CK (Aa (BV (Ab 0) (A9 (gC (.int 1))) A8) (Aa (BV (Ab 1) (A9 (gC (.int 1))) A8) Ac))) 2 (Bh 0 1) AL (Af sp XF (Aa (Ab 0) (Aa (Ab 1) Ac)))) Ac))
theorem JH{k:Kd}(d:k.dat=true)(a:k.hd≠"row"):k.enc=.tup [.str k.hd]:=by
 cases k <;> first | rfl |(cases d;done)| exact absurd rfl a
theorem XQ{k l:Kd}(d:Kw.C Q)(a:k.dat=true)(c:l.dat=true)(h1:k.hd≠"row")(h2:l.hd≠"row")(q:Q k.enc G):gJ sp [some k.enc,some l.enc] G Q:=by
 rw[JH a h1]at q;unfold gJ;rw[JH a h1,JH c h2];simp only[Ad,An,Aa,Ac,Ab,Yb,Yc,gC,Ae,ixW,Bb,Ao,gB,AR,CK,BV,A9,A8,slA,Gj,List.drop_succ_cons,List.drop_zero];refine⟨(Qzz 1),_,rfl,trivial,λp b=>?_⟩;simp only[rF,AI,D1 Ak,YE,Ao];rw[Da];exact⟨(show 1+0<=sizeLine by decide),d _ _ _ (A1 b) q⟩
theorem nK{f:Kd->Kd->Option (List Str)}{e a:En}(b:e.hd="free"\/a.hd="free"):clE f e a=none:=by
 cases e with
 | free=>rfl
 | nope =>
  cases a with
  | free=>rfl
  | nope=>rfl
  | told m k=>exact absurd (b.resolve_left (by decide)) (By m).1
 | told m k =>
  cases a with
  | free=>rfl
  | nope=>exact absurd (b.resolve_right (by decide)) (By m).1
  | told c d=>exact absurd b (λz=>z.elim (By m).1 (By c).1)
theorem nL{f:Kd->Kd->Option (List Str)}{e a:En}(b:¬ (e.hd="free"\/a.hd="free"))(z:¬ e.hd=a.hd):clE f e a=some []:=by
 cases e with
 | free=>exact absurd (.inl rfl) b
 | nope =>
  cases a with
  | free=>exact absurd (.inr rfl) b
  | nope=>exact absurd rfl z
  | told m k=>rfl
 | told m k =>
  cases a with
  | free=>exact absurd (.inr rfl) b
  | nope=>rfl
  | told c d =>
   have:m≠c:=λq=>z (by rw[q];rfl);show(if m=c then f k d else some [])=some [];rw[if_neg this]
theorem XR{e a:En}(b:¬ (e.hd="free"\/a.hd="free"))(z:e.hd=a.hd):(e=.nope/\a=.nope)\/∃ m k k',e=.told m k/\a=.told m k':=by
 cases e with
 | free=>exact absurd (.inl rfl) b
 | nope =>
  cases a with
  | free=>exact absurd (.inr rfl) b
  | nope=>exact .inl ⟨rfl,rfl⟩
  | told m k=>exact absurd z.symm (By m).2.1
 | told m k =>
  obtain⟨c,d,_⟩:=By m;cases a with
  | free=>exact absurd z c
  | nope=>exact absurd z d
  | told f k'=>obtain rfl:=UB z;exact .inr ⟨m,k,k',rfl,rfl⟩
theorem nM{f:Kd->Kd->Option (List Str)}{m:Bool}{k:Kd}:clE f (.told m k) (.told m k')=f k k':=by show(if m=m then f k k' else some [])=_;rw[if_pos rfl]
abbrev XS(n:Nat):Spw:=spR (λ(x:Kd×Kd)ws _=>ws=[x.1.enc,x.2.enc]/\dk n x.1 x.2) λx=>pW (cl n x.1 x.2)
abbrev JI(n:Nat):Spw:=spR (λ(x:En×En)ws _=>ws=[x.1.enc,x.2.enc]/\dkE n x.1 x.2) λx=>pW (clE (cl n) x.1 x.2)
theorem JA(T:Tx K mg base a)(D:Df P w K mg base "clash_of" j 2 (XS n)):Df P w K mg base "clash_of_entries" (j+1) 2 (JI n):=by
 refine mk0 T.jT rfl Xj AG (λg G Q E⟨x,⟨e,_⟩,_⟩=>by rw[e];rfl) (nA T D (Yr _)) λg G Q E i q=>?_;obtain⟨⟨e,b⟩,⟨rfl,h⟩,q⟩:=q;dsimp only at h q;unfold Xk;show Ag (gIf _ _ Ai) _ (Ar Q) [some e.enc,some b.enc] G;refine Na rfl rfl (Cj e G) (Cj b G) ?_;by_cases c:e.hd="free"\/b.hd="free"
 ·rw[if_pos c];rw[nK c]at q;exact q
 ·rw[if_neg c];refine GB rfl rfl (Cj e G) (Cj b G) ?_;by_cases z:e.hd=b.hd
  ·rw[if_pos z];rcases XR c z with⟨rfl,rfl⟩|⟨m,k,d,rfl,rfl⟩
   ·exact q
   ·have f:(mark m=="none")=false:=by simpa using(By m).2.1
    rw[nM]at q;simp only[Ah,AT,gTB,Ad,Ae,Ab,gC,En.enc,Yb,Yc,ixW,Bb,A5,Ao,Bc,Bd,Be,f,YE,bne_self_eq_false,Yq,if_false,Af,Aa,Ac,Ar];exact⟨(k,d),⟨rfl,h.2 m k m d rfl rfl⟩,q⟩
  ·rw[if_neg z];rw[nL c z]at q;exact⟨by decide,q⟩
abbrev gCR(sp:Spw):GS:=Ag (Ap 3 (Af sp XF (Aa (Af FE XF (Aa (Ab 0) (Aa (Ab 2) Ac))) (Aa (Af FE XF (Aa (Ab 1) (Aa (Ab 2) Ac))) Ac)))) (gIf (gTB (Ad (Ae (isF true)) (Ab 3) (gC .non))) (Ah (Af IT XF (Aa (Ab 2) (Aa (Ab 3) Ac)))) Ai)
theorem XT{n:Nat}{D:Ew}{gd:Hw->Prop}{G:Hw}{fs gs:Fs}{o p:Bool}(a:gd G)(k:n<=100):∀(xs:List Str)(d b:Option W),(∀ x∈xs,dkE n (ent fs o x) (ent gs p x))->
  (∀ q,CD (xs.map λx=>(x,clE (cl n) (ent fs o x) (ent gs p x)))=some q->D.rt (pW (some q)) G)->(CD (xs.map λx=>(x,clE (cl n) (ent fs o x) (ent gs p x)))=none->∀ d b,D.nx [some (Kd.row fs o).enc,some (Kd.row gs p).enc,d,b] G)->
  AY gd (gNm 2) (gCR (JI n)) D (xs.map W.str) [some (Kd.row fs o).enc,some (Kd.row gs p).enc,d,b] G
 | [],d,b,_,_,h=>⟨a,h rfl d b⟩
 | x::xs,d,b,f,g,h=>by
  refine⟨a,?_⟩;show gCR (JI n) _ [some (Kd.row fs o).enc,some (Kd.row gs p).enc,some (.str x),b] G;refine U7 (i:=3) (j:=2) (c:=clE (cl n) (ent fs o x) (ent gs p x)) (s:=x) rfl (by decide) (by simp) (λq e=>Yt (UI (UJ n) e) k) (λQ m=>?_) (λe=>?_) (λq e=>?_)
  ·simp only[Af,Aa,Ac,Ab,Yb,Yc];exact⟨(fs,o,x),rfl,(gs,p,x),rfl,(ent fs o x,ent gs p x),⟨rfl,f x Ye⟩,m⟩
  ·refine XT a k xs _ _ (λy l=>f y (Yd _ l)) (λq z=>g q ?_) (λz=>h ?_)
   ·rw[Ym,e];exact z
   ·rw[Ym,e];exact z
  ·exact g _ (by rw[Ym,e];rfl)
abbrev nN(n:Nat):Spw:=spR (λ(x:Fs×Bool×Fs×Bool)ws _=>ws=[(Kd.row x.1 x.2.1).enc,(Kd.row x.2.2.1 x.2.2.2).enc]/\dk (n+1) (.row x.1 x.2.1) (.row x.2.2.1 x.2.2.2)) λx=>pW (cl (n+1) (.row x.1 x.2.1) (.row x.2.2.1 x.2.2.2))
theorem JC(T:Tx K mg base a)(A:2<=j)(B:n<=90)(D:Df P w K mg base "clash_of_entries" j 2 (JI n)):Df P w K mg base "clash_of_rows" (j+1) 2 (nN n):=by
 refine mk0 T.jU rfl Xo AG (λs G Q E⟨x,⟨e,_⟩,_⟩=>by rw[e];rfl) (nB T (B4 T) A (BB T) (by omega) D (Yr _) (CQ T) (by omega)) λs G Q E c q=>?_;obtain⟨⟨fs,o,gs,p⟩,⟨rfl,h⟩,q⟩:=q;dsimp only at h q;have N:=ET h.1;have J:=ET h.2.1;unfold Xp;show Ag (AF _ _ _) _ (Ar Q) [some (Kd.row fs o).enc,some (Kd.row gs p).enc,none,none] G;simp only[Ag,AF,AB,Af,Ab,Aa,Ac,Yb,Yc];refine⟨fs,gs,o,p,rfl,by omega,by omega,λzs r y g v d=>?_⟩;obtain rfl:=UH y g v;simp only[Ak];have b:Q (pW (CD ((A2 fs gs).map λx=>(x,clE (cl n) (ent fs o x) (ent gs p x))))) G:=q;refine XT (gd:=λl=>l r=some (.lst ((A2 fs gs).map W.str))) Ak (by omega) (A2 fs gs) none none (λx i=>⟨Jx i,λm k I H f t=>GK h f t⟩) (λu z=>?_) (λz F L=>?_)
 ·rw[z]at b;exact c _ _ _ (A1 d) b
 ·rw[z]at b;exact c _ _ _ (A1 d) b
theorem NU{k:Kd}(h:k.hd="any"):k=.any:=by
 cases k <;> first | rfl | exact absurd h (by simp only[Kd.hd];decide)
theorem nO{k l:Kd}(h:k.hd="any"\/l.hd="any"):cl (n+1) k l=none:=by
 rcases h with h | h
 ·rw[NU h];rfl
 ·rw[NU h];cases k <;> rfl
theorem NV{k l:Kd}(h:k.hd≠l.hd)(a:k≠.any)(hl:l≠.any):cl (n+1) k l=some []:=by
 cases k <;> cases l <;> first | rfl | exact absurd rfl h | exact absurd rfl a | exact absurd rfl hl
theorem C4(T:Tx K mg base a):∀ n:Nat,n<=80->Df P w K mg base "clash_of" (3*n+2) 2 (XS n)
 | 0,_=>CC T.R6 AG λg G Q E⟨x,⟨_,h⟩,_⟩=>by have:=Bx x.1;have:=h.2.2.2.2.1;omega
 | n+1,j=>by
  have D:=C4 T n (by omega);have DE:=JA T D;have DR:=JC T (by omega) (by omega) DE;refine mk0 (k:=3*n+4) T.R6 rfl Xr AG (λg G Q E⟨x,⟨e,_⟩,_⟩=>by rw[e];rfl) (nC T DR (Yr _) D (by omega) (CQ T) (by omega)) λg G Q E i q=>?_;obtain⟨⟨k,l⟩,⟨rfl,h⟩,q⟩:=q;dsimp only at h q;unfold Xs;show Ag (gIf _ _ Ai) _ (Ar Q) [some k.enc,some l.enc,none,none,none,none] G;refine Na rfl rfl (BA k G) (BA l G) ?_;by_cases c:k.hd="any"\/l.hd="any"
  ·rw[if_pos c];rw[nO c]at q;exact q
  ·rw[if_neg c];refine GB rfl rfl (BA k G) (BA l G) ?_;by_cases f:k.hd=l.hd
   ·rw[if_pos f];refine M9 (k:=k) rfl ?_;by_cases b:k.hd="row"
    ·rw[if_pos b];obtain⟨fs,o,rfl⟩:=BQ b;obtain⟨gs,p,rfl⟩:=BQ (f▸b);exact⟨(fs,o,gs,p),⟨rfl,h⟩,q⟩
    ·rw[if_neg b];obtain rfl:=Jy h.2.2.1 h.2.2.2.1 f b
     have e:cl (n+1) k k=none/\KTD.datumAt k.hd Ms=some []:=by
      have d:=h.2.2.1;cases k <;> first | exact⟨rfl,rfl⟩|(cases d;done)| exact absurd rfl b
     rw[e.1]at q;rw[JH h.2.2.1 b];simp only[Ag,AF,HG,Le,Aa,Ac,Ad,Ab,gC,Ae,ixW,Yb,Yc,Bb,Ao,BV,A9,A8,slA,Gj,List.drop_succ_cons,List.drop_zero];exact⟨_,e.2,_,_,rfl,trivial,q⟩
   ·rw[if_neg f];rw[NV f (λz=>c (.inl (by rw[z];rfl))) (λz=>c (.inr (by rw[z];rfl)))]at q;exact⟨by decide,q⟩
theorem JE(T:Tx K mg base a)(D:Df P w K mg base "meet_of" j 2 (spK .mt n)):Df P w K mg base "meet_of_entries" (j+1) 2 (EZ .mt n):=by
 refine mk0 T.jW rfl Xy AG (λl G Q E⟨x,⟨e,_⟩,_⟩=>by rw[e];rfl) (nE T D (Yr _)) λl G Q E o q=>?_;obtain⟨⟨e,c⟩,⟨rfl,⟨g,h⟩,hc⟩,q⟩:=q;dsimp only at g h hc q;have hc:=hc rfl;have no:∀{p:Prop},¬ tld e->¬ tld c->p:=λh1 h2=>absurd g λz=>z.elim h1 h2;unfold Xz;show Ag (gIf _ _ Ai) _ (Ar Q) [some e.enc,some c.enc] G;refine EU (i:=0) rfl (Cj e G) ?_;cases e with
 | free =>
  rw[if_pos (show En.free.hd="free" from rfl)];cases c with
  | told m k=>exact q
  | _=>exact no (λ⟨_,_,z⟩=>by cases z) (λ⟨_,_,z⟩=>by cases z)
 | nope =>
  cases c with
  | told m k=>cases hc
  | _=>exact no (λ⟨_,_,z⟩=>by cases z) (λ⟨_,_,z⟩=>by cases z)
 | told m k =>
  rw[if_neg (show ¬ (En.told m k).hd="free" from(By m).1)];refine EU (i:=1) rfl (Cj c G) ?_;cases c with
  | free=>rw[if_pos (show En.free.hd="free" from rfl)];exact q
  | nope=>cases hc
  | told f d =>
   rw[if_neg (show ¬ (En.told f d).hd="free" from(By f).1)];have b:(if m=f then cl n k d else some [])=none:=hc;split at b
   ·simp only[En.enc];walk_at "rd";exact⟨(k,d),⟨rfl,h m k f d rfl rfl,λ_=>b⟩,(Qzz 2),q⟩
   ·cases b
theorem JG(T:Tx K mg base a)(f:2<=j)(i:n<=19)(D:Df P w K mg base "meet_of_entries" j 2 (EZ .mt n)):Df P w K mg base "meet_of_rows" (j+1) 2 (NR .mt n):=by
 refine mk0 T.jX rfl NP AG (λg G Q E⟨x,⟨e,_⟩,_⟩=>by rw[e];rfl) (nF T (B4 T) f (BB T) (by omega) D (Yr _) (CS T) (by omega)) λg G Q E d q=>?_;obtain⟨⟨fs,o,gs,p⟩,⟨rfl,h,hc⟩,q⟩:=q;unfold XD;refine NT d (by omega) h hc (λr k l m _ _ c=>?_) q;have b:(Kd.row fs o).enc=.tup [.str "row",.tup fs.enc,.bl o]:=rfl;have eb:(Kd.row gs p).enc=.tup [.str "row",.tup gs.enc,.bl p]:=rfl;simp only[AX,Ad,Ae,Ab,gC,b,eb,ixW,Bp,Yb,Yc,Ao,AO];cases o <;> exact c
theorem C5(T:Tx K mg base a):∀ n:Nat,n<=20->Df P w K mg base "meet_of" (3*n+2) 2 (spK .mt n)
 | 0,_=>CC T.R7 AG λg G Q E⟨x,⟨_,h,_⟩,_⟩=>by have:=Bx x.1;have:=h.2.2.2.2.1;omega
 | n+1,m=>by
  have D:=C5 T n (by omega);have DR:=JG T (by omega) (by omega) (JE T D);refine mk0 (k:=3*n+4) T.R7 rfl XG AG (λg G Q E⟨x,⟨e,_⟩,_⟩=>by rw[e];rfl) (nG T DR (Yr _) D (by omega)) λg G Q E j q=>?_;obtain⟨⟨k,l⟩,⟨rfl,h,hc⟩,q⟩:=q;dsimp only at h hc q;have hc:=hc rfl;unfold XH;show Ag (gIf _ _ Ai) _ (Ar Q) [some k.enc,some l.enc] G;refine EU (i:=0) rfl (BA k G) ?_;rw[op]at q;by_cases b:k.hd="any"
  ·rw[if_pos b];by_cases d:k.hd=l.hd
   ·obtain rfl:=Jy h.2.2.1 h.2.2.2.1 d (by rw[b];decide);rw[if_pos rfl,if_neg (by rw[b];decide)]at q;exact q
   ·rw[if_neg d,opN,if_pos b]at q;exact q
  rw[if_neg b];refine EU (i:=1) rfl (BA l G) ?_;by_cases f:l.hd="any"
  ·rw[if_pos f];rw[if_neg (λz=>b (z.trans f)),opN,if_neg b]at q;exact q
  rw[if_neg f]
  have d:k.hd=l.hd:=Classical.byContradiction λz=>by
   rw[NV z (λe=>b (by rw[e];rfl)) (λe=>f (by rw[e];rfl))]at hc;cases hc
  rw[if_pos d]at q;refine EU (i:=0) rfl (BA k G) ?_;by_cases c:k.hd="row"
  ·rw[if_pos c]at q ⊢;obtain⟨fs,o,rfl⟩:=BQ c;obtain⟨gs,p,rfl⟩:=BQ (d▸c);exact⟨(fs,o,gs,p),⟨rfl,h,λ_=>hc⟩,q⟩
  ·rw[if_neg c]at q ⊢;exact XQ j h.2.2.1 h.2.2.2.1 c (d▸c) q
def XU(c:Option (List Str))(j:Kd):W:=match c with
 | none=>j.enc
 | some _=>.non
theorem FO{k:Kd}(h:kdd k):k.ok=true/\Bq k=true:=⟨h.1.1.1,UA (GL h)⟩
abbrev nP:Spw:=spR (λ(x:Kd×Kd)ws _=>ws=[x.1.enc,x.2.enc]/\kdd x.1/\kdd x.2) λx=>XU (cl 8 x.1 x.2) (op .mt 8 x.1 x.2)
theorem JJ(T:Tx K mg base a):Df P w K mg base "met" 27 2 nP:=by
 refine mk0 (k:=26) T.jY rfl XJ AG (λc G Q E⟨x,⟨e,_⟩,_⟩=>by rw[e];rfl) (nH T (CP T) (by omega) (C4 T 8 (by omega)) (by omega) (C5 T 8 (by omega)) (by omega)) λc G Q E d q=>?_;obtain⟨⟨k,l⟩,⟨rfl,h1,h2⟩,q⟩:=q;dsimp only at h1 h2 q;unfold XM;show Ag (AD _) _ (Ar Q) [some k.enc,some l.enc] G;simp only[Ag,AD,Af,Ab,Aa,Ac,Yb,Yc];refine⟨(k,l),⟨rfl,FO h1,FO h2⟩,?_⟩;simp only[gIf,gTB,Ad,Af,Ab,Aa,Ac,Yb,Yc,gC,Ae,Ah,Ai];refine⟨(k,l),⟨rfl,DJ h1 h2⟩,?_⟩;dsimp only;cases b:cl 8 k l with
 | some p=>rw[b]at q;exact q
 | none=>rw[b]at q;exact⟨(k,l),⟨rfl,DJ h1 h2,λ_=>b⟩,q⟩
theorem nQ{f:Kd->Kd->Kd}{e a:En}(h:e.hd≠a.hd):opE f .jn e a=none:=by
 cases e <;> cases a <;> first | rfl | skip
 rename_i m k c b;exact if_neg λz=>h (by rw[z];rfl)
theorem Jo(T:Tx K mg base a)(D:Df P w K mg base "join_of" j 2 (spK .jn n)):Df P w K mg base "join_of_entries" (j+1) 2 (EZ .jn n):=by
 refine mk0 T.jZ rfl WJ AG (λg G Q E⟨x,⟨e,_⟩,_⟩=>by rw[e];rfl) (nl T D (Yr _)) λg G Q E i q=>?_;obtain⟨⟨e,b⟩,⟨rfl,⟨d,h⟩,_⟩,q⟩:=q;dsimp only at d h q;unfold WK;show Ag (gIf _ _ Ai) _ (Ar Q) [some e.enc,some b.enc] G;refine GB rfl rfl (Cj e G) (Cj b G) ?_;by_cases z:e.hd=b.hd
 ·rw[if_pos z]
  have f:¬ (e.hd="free"\/b.hd="free"):=by
   rcases d with⟨m,k,rfl⟩|⟨m,k,rfl⟩
   ·rw[<- z];exact λq=>q.elim (By m).1 (By m).1
   ·rw[z];exact λq=>q.elim (By m).1 (By m).1
  rcases XR f z with⟨rfl,rfl⟩|⟨m,k,c,rfl,rfl⟩
  ·rcases d with⟨_,_,z⟩|⟨_,_,z⟩ <;> cases z
  ·rw[show opE (op .jn n) .jn (.told m k) (.told m c)=some (m,op .jn n k c)from if_pos rfl]at q;simp only[En.enc];walk_at "rd";exact⟨(k,c),⟨rfl,h m k m c rfl rfl,λz=>by cases z⟩,(Qzz 2),q⟩
 ·rw[if_neg z];rw[nQ z]at q;exact⟨by decide,q⟩
theorem XW{G:Hw}{F:Str->Option (Bool×Kd)}:∀(xs:List Str),(∀ x∈xs,∀ m k,F x=some (m,k)->k.dp<=20)->EI (.tup [.str "free"]) (xs.map λx=>(enJ (F x)).enc)=some (xs.any λx=>(F x).isNone)
 | [],_=>rfl
 | x::xs,h=>by
  have d:=XW (G:=G) xs λy f=>h y (Yd _ f);rw[Ym,List.any_cons];unfold EI;cases e:F x with
  | none =>
   have c:eqD (enJ none).enc (.tup [.str "free"])=some true:=by
    show some (("free":Str)=="free"&&true)=some true;simp
   rw[if_pos (by decide),c,d];rfl
  | some u =>
   obtain⟨m,k⟩:=u;have hd:=h x Ye m k e;have i:=FJ k
   have c:eqD (enJ (some (m,k))).enc (.tup [.str "free"])=some false:=by
    show(match some (mark m=="free"),some false with | some a,some b=>some (a&&b)| _,_=>none)=some false;simp
   have g:dpW (enJ (some (m,k))).enc < 90:=by show max 0 (max (dpW k.enc) 0)+1 < 90;omega
   rw[if_pos g,c,d];rfl
theorem Jq(T:Tx K mg base a)(i:2<=j)(m:n<=19)(D:Df P w K mg base "join_of_entries" j 2 (EZ .jn n)):Df P w K mg base "join_of_rows" (j+1) 2 (NR .jn n):=by
 refine mk0 T.j2 rfl NA AG (λk G Q E⟨x,⟨e,_⟩,_⟩=>by rw[e];rfl) (nn T (B4 T) i (BB T) (by omega) D (Yr _) (CS T) (by omega)) λk G Q E d q=>?_;obtain⟨⟨fs,o,gs,p⟩,⟨rfl,h,hc⟩,q⟩:=q;unfold WM;refine NT d (by omega) h hc (λr f g s h2 l b=>?_) q;have c:(Kd.row fs o).enc=.tup [.str "row",.tup fs.enc,.bl o]:=rfl;have eb:(Kd.row gs p).enc=.tup [.str "row",.tup gs.enc,.bl p]:=rfl
 have ei:inT (.tup [.str "free"]) (.ref f) g=some (.bl ((A2 fs gs).any λx=>(opF (op .jn n) .jn fs gs o p x).isNone)):=by
  unfold inT;rw[D2 h2,Option.bind_some,XW (G:=G) _ l,YE]
 simp only[Bm,Ad,Ae,Ab,gC,An,Aa,Ac,c,eb,ixW,Bp,Yb,Yc,Ao,AO];cases o with
 | true=>exact b
 | false =>
  cases p with
  | true=>exact b
  | false =>
   refine⟨(Qzz 1),?_⟩;rw[ei];exact b
theorem Cb(T:Tx K mg base a):∀ n:Nat,n<=20->Df P w K mg base "join_of" (3*n+2) 2 (spK .jn n)
 | 0,_=>CC T.R8 AG λd G Q E⟨x,⟨_,h,_⟩,_⟩=>by have:=Bx x.1;have:=h.2.2.2.2.1;omega
 | n+1,g=>by
  have D:=Cb T n (by omega);have DR:=Jq T (by omega) (by omega) (Jo T D);refine mk0 (k:=3*n+4) T.R8 rfl WQ AG (λd G Q E⟨x,⟨e,_⟩,_⟩=>by rw[e];rfl) (nq T DR (Yr _) D (by omega)) λd G Q E f q=>?_;obtain⟨⟨k,l⟩,⟨rfl,h,hc⟩,q⟩:=q;dsimp only at h hc q;unfold WR;show Ag (gIf _ _ Ai) _ (Ar Q) [some k.enc,some l.enc] G;refine GB rfl rfl (BA k G) (BA l G) ?_;rw[op]at q;by_cases c:k.hd=l.hd
  ·rw[if_pos c]at q ⊢;refine M9 (k:=k) rfl ?_;by_cases b:k.hd="row"
   ·rw[if_pos b]at q ⊢;obtain⟨fs,o,rfl⟩:=BQ b;obtain⟨gs,p,rfl⟩:=BQ (c▸b);exact⟨(fs,o,gs,p),⟨rfl,h,λz=>by cases z⟩,q⟩
   ·rw[if_neg b]at q ⊢;exact XQ f h.2.2.1 h.2.2.2.1 b (c▸b) q
  ·rw[if_neg c]at q ⊢;exact⟨by decide,q⟩
abbrev GM(c:Wy):Spw:=spR (λ(x:Kd×Kd)ws _=>ws=[x.1.enc,x.2.enc]/\kdd x.1/\kdd x.2) λx=>(op c 8 x.1 x.2).enc
theorem JK(T:Tx K mg base a):Df P w K mg base "joined" 27 2 (GM .jn):=by
 refine mk0 (k:=26) T.j3 rfl WU AG (λb G Q E⟨x,⟨e,_⟩,_⟩=>by rw[e];rfl) (nr T (CP T) (by omega) (Cb T 8 (by omega)) (by omega)) λb G Q E c q=>?_;obtain⟨⟨k,l⟩,⟨rfl,h1,h2⟩,q⟩:=q;dsimp only at h1 h2 q;unfold WV;walk_at "rd";exact⟨(k,l),⟨rfl,FO h1,FO h2⟩,(k,l),⟨rfl,DJ h1 h2,λz=>by cases z⟩,q⟩
theorem nR(m m':Bool):(mark m==mark m')=(m==m'):=by cases m <;> cases m' <;> decide +kernel
theorem nS(m:Bool):(mark m=="must")=m:=by cases m <;> decide +kernel
theorem nT{f:Kd->Kd->Kd}{e a:En}(b:e.hd="free"\/a.hd="free"):opE f .ei e a=none:=by
 cases e with
 | free=>cases a <;> rfl
 | nope =>
  cases a with
  | told m k=>exact absurd (b.resolve_left (by decide)) (By m).1
  | _=>rfl
 | told m k =>
  cases a with
  | free=>rfl
  | nope=>exact absurd (b.resolve_right (by decide)) (By m).1
  | told c d=>exact absurd b (λz=>z.elim (By m).1 (By c).1)
theorem Js(T:Tx K mg base a)(D:Df P w K mg base "either_of" j 2 (spK .ei n)):Df P w K mg base "either_of_entries" (j+1) 2 (EZ .ei n):=by
 refine mk0 T.j4 rfl WZ AG (λs G Q E⟨x,⟨e,_⟩,_⟩=>by rw[e];rfl) (nt T D (Yr _)) λs G Q E t q=>?_;obtain⟨⟨e,d⟩,⟨rfl,⟨l,h⟩,_⟩,q⟩:=q;dsimp only at l h q;unfold W0;show Ag (gIf _ _ Ai) _ (Ar Q) [some e.enc,some d.enc,none] G;refine Na rfl rfl (Cj e G) (Cj d G) ?_;by_cases g:e.hd="free"\/d.hd="free"
 ·rw[if_pos g];rw[nT g]at q;exact⟨by decide,q⟩
 ·rw[if_neg g];refine EU (i:=0) rfl (Cj e G) ?_;cases e with
  | free=>exact absurd (.inl rfl) g
  | nope =>
   rw[if_pos (show En.nope.hd="none" from rfl)];cases d with
   | free=>exact absurd (.inr rfl) g
   | nope=>exact absurd l (by rintro(⟨m,k,z⟩|⟨m,k,z⟩) <;> cases z)
   | told c f =>
    simp only[An,Aa,Ac,Ad,Ae,Ab,gC,En.enc,Yb,Yc,ixW,A5,Ao];exact⟨(Qzz 2),q⟩
  | told m k =>
   rw[if_neg (show ¬ (En.told m k).hd="none" from(By m).2.1)];refine EU (i:=1) rfl (Cj d G) ?_;cases d with
   | free=>exact absurd (.inr rfl) g
   | nope =>
    rw[if_pos (show En.nope.hd="none" from rfl)];simp only[An,Aa,Ac,Ad,Ae,Ab,gC,En.enc,Yb,Yc,ixW,A5,Ao];exact⟨(Qzz 2),q⟩
   | told c f =>
    rw[if_neg (show ¬ (En.told c f).hd="none" from(By c).2.1)];have hd:=h m k c f rfl rfl;have p:Q (.tup [.str (mark (m&&c)),(op .ei n k f).enc]) G:=q;simp only[Ag,Ap,AT,gTB,Bt,Ad,Ae,Ab,gC,En.enc,Yb,Yc,ixW,Bb,Ao,Bc,Bd,Be,YE,nR,nS]
    have b:∀ r:Bool,r=(m&&c)->Ah (An (Aa (Ab 2) (Aa (Af (spK .ei n) XF (Aa (Ad (Ae ixW) (Ab 0) (gC (.int 1))) (Aa (Ad (Ae ixW) (Ab 1) (gC (.int 1))) Ac))) Ac))) (Ar Q) [some (.tup [.str (mark m),k.enc]),some (.tup [.str (mark c),f.enc]),some (.str (mark r))] G:=λr o=>by
     subst o;simp only[Ah,An,Af,Aa,Ac,Ad,Ae,Ab,gC,Yb,Yc,ixW,A5,Ao];exact⟨(k,f),⟨rfl,hd,λz=>by cases z⟩,(Qzz 2),p⟩
    cases m <;> cases c
    ·exact b false rfl
    ·exact b false rfl
    ·exact b false rfl
    ·exact b true rfl
theorem Ju(T:Tx K mg base a)(f:2<=j)(i:n<=19)(D:Df P w K mg base "either_of_entries" j 2 (EZ .ei n)):Df P w K mg base "either_of_rows" (j+1) 2 (NR .ei n):=by
 refine mk0 T.j5 rfl ND AG (λg G Q E⟨x,⟨e,_⟩,_⟩=>by rw[e];rfl) (nu T (B4 T) f (BB T) (by omega) D (Yr _) (CS T) (by omega)) λg G Q E d q=>?_;obtain⟨⟨fs,o,gs,p⟩,⟨rfl,h,hc⟩,q⟩:=q;unfold W4;refine NT d (by omega) h hc (λr k l m _ _ c=>?_) q;have b:(Kd.row fs o).enc=.tup [.str "row",.tup fs.enc,.bl o]:=rfl;have eb:(Kd.row gs p).enc=.tup [.str "row",.tup gs.enc,.bl p]:=rfl;simp only[Bm,Ad,Ae,Ab,gC,b,eb,ixW,Bp,Yb,Yc,Ao,AO];cases o <;> exact c
theorem C3(T:Tx K mg base a):∀ n:Nat,n<=20->Df P w K mg base "either_of" (3*n+2) 2 (spK .ei n)
 | 0,_=>CC T.R9 AG λf G Q E⟨x,⟨_,h,_⟩,_⟩=>by have:=Bx x.1;have:=h.2.2.2.2.1;omega
 | n+1,i=>by
  have D:=C3 T n (by omega);have DR:=Ju T (by omega) (by omega) (Js T D);refine mk0 (k:=3*n+4) T.R9 rfl W6 AG (λf G Q E⟨x,⟨e,_⟩,_⟩=>by rw[e];rfl) (nv T (Cb T n (by omega)) (by omega) D (by omega) DR (Yr _)) λf G Q E g q=>?_;obtain⟨⟨k,l⟩,⟨rfl,h,hc⟩,q⟩:=q;dsimp only at h hc q;unfold W7;show Ag (gIf _ _ Ai) _ (Ar Q) [some k.enc,some l.enc] G;refine GB rfl rfl (BA k G) (BA l G) ?_;rw[op]at q;by_cases c:k.hd=l.hd
  ·rw[if_pos c]at q ⊢;have d:=h.2.2.1;refine U8 (k:=k) rfl ?_;rw[if_neg (λz=>by cases k <;> first | exact absurd z (by simp only[Kd.hd];decide)|(cases d;done))];refine U8 (k:=k) rfl ?_;rw[if_neg (λz=>by cases k <;> first | exact absurd z (by simp only[Kd.hd];decide)|(cases d;done))];refine M9 (k:=k) rfl ?_;by_cases b:k.hd="row"
   ·rw[if_pos b]at q ⊢;obtain⟨fs,o,rfl⟩:=BQ b;obtain⟨gs,p,rfl⟩:=BQ (c▸b);exact⟨(fs,o,gs,p),⟨rfl,h,λz=>by cases z⟩,q⟩
   ·rw[if_neg b]at q ⊢;exact q
  ·rw[if_neg c]at q ⊢;exact⟨by decide,q⟩
theorem JL(T:Tx K mg base a):Df P w K mg base "either" 27 2 (GM .ei):=by
 refine mk0 (k:=26) T.j6 rfl W9 AG (λb G Q E⟨x,⟨e,_⟩,_⟩=>by rw[e];rfl) (nw T (CP T) (by omega) (C3 T 8 (by omega)) (by omega)) λb G Q E c q=>?_;obtain⟨⟨k,l⟩,⟨rfl,h1,h2⟩,q⟩:=q;dsimp only at h1 h2 q;unfold Xa;walk_at "rd";exact⟨(k,l),⟨rfl,FO h1,FO h2⟩,(k,l),⟨rfl,DJ h1 h2,λz=>by cases z⟩,q⟩
noncomputable abbrev fit(n:Nat)(v:Vl)(k:Kd):Prop:=mf n v k=none
theorem JM:fit n v .any:=by cases n <;> rfl
theorem JN{f:Vl->Kd->Option (List Str)}(u:Option Vl):mfE f u .free=none:=by cases u <;> rfl
theorem XX:∀{ps:Ps}{x:Str},x∉ps.names->ps.find x=none
 | .nil,_,_=>rfl
 | .cons n v r,x,h=>by
  show(if n=x then some v else r.find x)=none;rw[if_neg (λe=>h (by rw[<- e];exact Ye)),XX λz=>h (Yd _ z)]
theorem NW{fs:Fs}(h:fit (n+1) v (.row fs o)):∃ ps,v=.row ps:=by
 cases v with
 | row ps=>exact⟨ps,rfl⟩
 | int i=>cases h
 | bl i=>cases h
theorem E0{fs:Fs}:fit (n+1) (.row ps) (.row fs o)↔∀ x,mfE (mf n) (ps.find x) (ent fs o x)=none:=by
 show CD ((srt (ps.names++fs.names)).map λx=>(x,mfE (mf n) (ps.find x) (ent fs o x)))=none↔_;rw[NS];constructor
 ·intro h x;by_cases a:x∈srt (ps.names++fs.names)
  ·exact h _ (YC.mpr ⟨x,a,rfl⟩)
  ·rw[IC,Yz]at a;rw[XX λz=>a (.inl z),Gx λz=>a (.inr z)];cases o <;> rfl
 ·intro h u b;obtain⟨x,_,rfl⟩:=YC.mp b;exact h x
theorem XY{fs:Fs}{p:Bool}(x:Str):ent (ofL (rwL (opF (op c n) c fs gs o p) fs gs)) b x=eN (if x∈A2 fs gs then opF (op c n) c fs gs o p x else none) b:=nz (F:=opF (op c n) c fs gs o p) (x:=x) (Jv (FH _)) b
theorem JO{fs:Fs}{p:Bool}(a:x∉A2 fs gs):ent fs o x=(if o then .free else .nope)/\ent gs p x=(if p then .free else .nope):=⟨Gx λz=>a (ID.mpr (.inl z)),Gx λz=>a (ID.mpr (.inr z))⟩
theorem XZ:∀(n:Nat)(v:Vl){k l:Kd},dk n k l->cl n k l=none->(fit n v (op .mt n k l)↔fit n v k/\fit n v l)
 | 0,v,k,l,h,_=>by have:=Bx k;have:=h.2.2.2.2.1;omega
 | n+1,v,k,l,h,hc=>by
  rw[op];by_cases f:k.hd=l.hd
  ·rw[if_pos f];by_cases d:k.hd="row"
   ·rw[if_pos d];obtain⟨fs,o,rfl⟩:=BQ d;obtain⟨gs,p,rfl⟩:=BQ (f▸d);show fit (n+1) v (.row (ofL (rwL (opF (op .mt n) .mt fs gs o p) fs gs)) (o&&p))↔_;cases v with
    | row ps =>
     rw[E0,E0,E0,<- forall_and];refine forall_congr' λx=>?_;rw[XY];generalize w:ps.find x=u;by_cases c:x∈A2 fs gs
     ·rw[if_pos c];have a:=XO hc c;have g:=Jx (o:=o) (p:=p) c;have q:=λm k m' k' r t=>GK h (x:=x) (m:=m) (k:=k) (m':=m') (k':=k') r t;show mfE (mf n) u (eN (opE (op .mt n) .mt (ent fs o x) (ent gs p x)) (o&&p))=none↔_;generalize ent fs o x=e at a g q ⊢;generalize ent gs p x=e' at a g q ⊢;cases e with
      | free =>
       cases e' with
       | told m k=>exact⟨λz=>⟨JN u,z⟩,λz=>z.2⟩
       | _=>rcases g with⟨_,_,z⟩|⟨_,_,z⟩ <;> cases z
      | nope =>
       cases e' with
       | told m k=>cases a
       | _=>rcases g with⟨_,_,z⟩|⟨_,_,z⟩ <;> cases z
      | told m k =>
       cases e' with
       | free=>exact⟨λz=>⟨z,JN u⟩,λz=>z.1⟩
       | nope=>cases a
       | told m' k' =>
        have b:(if m=m' then cl n k k' else some [])=none:=a;split at b
        ·rename_i e;subst e;cases u with
         | none=>exact⟨λz=>⟨z,z⟩,λz=>z.1⟩
         | some v=>exact XZ n v (q m k m k' rfl rfl) b
        ·cases b
     ·rw[if_neg c,(JO (p:=p) c).1,(JO (o:=o) c).2];cases o <;> cases p <;> cases u <;> simp[mfE,eN]
    | int i=>exact⟨λz=>(by cases z),λz=>(by cases z.1)⟩
    | bl i=>exact⟨λz=>(by cases z),λz=>(by cases z.1)⟩
   ·rw[if_neg d];obtain rfl:=Jy h.2.2.1 h.2.2.2.1 f d;exact⟨λz=>⟨z,z⟩,λz=>z.1⟩
  ·rw[if_neg f,opN];by_cases j:k.hd="any"
   ·rw[if_pos j];exact⟨λz=>⟨by rw[NU j];exact JM,z⟩,λz=>z.2⟩
   ·rw[if_neg j]
    have s:l=.any:=Classical.byContradiction λz=>by
     rw[NV f (λe=>j (by rw[e];rfl)) z]at hc;cases hc
    exact⟨λz=>⟨z,by rw[s];exact JM⟩,λz=>z.1⟩
theorem X0{fs:Fs}{p:Bool}(hc:c≠.mt)(h:o=true\/p=true):opB (opF (op c n) c fs gs o p) fs gs o p c=true:=by
 cases c with
 | mt=>exact absurd rfl hc
 | jn=>rcases h with rfl | rfl <;> simp[opB]
 | ei=>rcases h with rfl | rfl <;> simp[opB]
theorem JP{c:Wy}(hc:c≠.mt):∀(n:Nat)(v:Vl){k l:Kd},dk n k l->fit n v k\/fit n v l->fit n v (op c n k l)
 | 0,v,k,l,h,_=>by have:=Bx k;have:=h.2.2.2.2.1;omega
 | n+1,v,k,l,h,t=>by
  rw[op];by_cases s:k.hd=l.hd
  ·rw[if_pos s];by_cases f:k.hd="row"
   ·rw[if_pos f];obtain⟨fs,o,rfl⟩:=BQ f;obtain⟨gs,p,rfl⟩:=BQ (s▸f);obtain⟨ps,rfl⟩:∃ ps,v=.row ps:=t.elim NW NW;rw[E0,E0]at t;show fit (n+1) (.row ps) (.row (ofL (rwL (opF (op c n) c fs gs o p) fs gs)) (opB (opF (op c n) c fs gs o p) fs gs o p c));rw[E0];intro x;have a:mfE (mf n) (ps.find x) (ent fs o x)=none\/mfE (mf n) (ps.find x) (ent gs p x)=none:=t.imp (λz=>z x) (λz=>z x);rw[XY];generalize ps.find x=u at a ⊢;by_cases i:x∈A2 fs gs
    ·rw[if_pos i];have B:=λm k m' k' q d=>GK h (x:=x) (m:=m) (k:=k) (m':=m') (k':=k') q d;have q:=Xh (fs:=fs) (o:=o) (x:=x);have d:=Xh (fs:=gs) (o:=p) (x:=x)
     have D:opF (op c n) c fs gs o p x=none->opB (opF (op c n) c fs gs o p) fs gs o p c=true:=λe=>by
      cases c with
      | mt=>exact absurd rfl hc
      | jn =>
       have:((A2 fs gs).any λx=>(opF (op .jn n) .jn fs gs o p x).isNone)=true:=List.any_eq_true.mpr ⟨x,i,by rw[e];rfl⟩;show(o||p||_)=true;rw[this,Bool.or_true]
      | ei =>
       refine X0 hc ?_;have A:=Jx (o:=o) (p:=p) i;have b:opE (op .ei n) .ei (ent fs o x) (ent gs p x)=none:=e;generalize ent fs o x=y at b q A;generalize ent gs p x=y' at b d A;cases y with
       | free=>exact .inl (q rfl)
       | nope =>
        cases y' with
        | free=>exact .inr (d rfl)
        | nope=>rcases A with⟨_,_,z⟩|⟨_,_,z⟩ <;> cases z
        | told m k=>cases b
       | told m k =>
        cases y' with
        | free=>exact .inr (d rfl)
        | nope=>cases b
        | told m k=>cases b
     cases e:opF (op c n) c fs gs o p x with
     | none=>rw[D e];exact JN u
     | some w =>
      show mfE (mf n) u (.told w.1 w.2)=none;have b:opE (op c n) c (ent fs o x) (ent gs p x)=some (w.1,w.2):=e;generalize ent fs o x=y at b a B;generalize ent gs p x=y' at b a B
      have told:∀ m k m' k' r,y=.told m k->y'=.told m' k'->(r=true->m=true/\m'=true)->w=(r,op c n k k')->mfE (mf n) u (.told w.1 w.2)=none:=λm k m' k' r j g f hw=>by
       rw[hw];rw[j,g]at a;cases u with
       | none =>
        show(if r then some []else none)=none;cases r with
        | false=>rfl
        | true =>
         obtain⟨rfl,rfl⟩:=f rfl;rcases a with z | z <;> cases z
       | some v=>exact JP hc n v (B m k m' k' j g) a
      have one:∀ m k,(y=.nope/\y'=.told m k\/y=.told m k/\y'=.nope)->w=(false,k)->mfE (mf n) u (.told w.1 w.2)=none:=λm k z hw=>by
       rw[hw];cases u with
       | none=>rfl
       | some v =>
        rcases z with⟨j,g⟩|⟨j,g⟩
        ·rw[j,g]at a;exact a.resolve_left λz=>by cases z
        ·rw[j,g]at a;exact a.resolve_right λz=>by cases z
      cases c with
      | mt=>exact absurd rfl hc
      | jn =>
       cases y <;> cases y' <;> first |(cases b;done)| skip
       rename_i m k m' k';have d:(if m=m' then some (m,op .jn n k k')else none)=some (w.1,w.2):=b;split at d
       ·rename_i z;subst z;exact told m k m k' m rfl rfl (λz=>⟨z,z⟩) (YF d).symm
       ·cases d
      | ei =>
       cases y <;> cases y' <;> first |(cases b;done)| skip
       ·exact one _ _ (.inl ⟨rfl,rfl⟩) (YF b).symm
       ·exact one _ _ (.inr ⟨rfl,rfl⟩) (YF b).symm
       ·exact told _ _ _ _ _ rfl rfl (λz=>Bool.and_eq_true_iff.mp z) (YF b).symm
    ·rw[if_neg i];rw[(JO (p:=p) i).1,(JO (o:=o) i).2]at a;cases u with
     | none=>cases opB (opF (op c n) c fs gs o p) fs gs o p c <;> rfl
     | some v =>
      rw[X0 hc]
      ·rfl
      ·cases o with
       | true=>exact .inl rfl
       | false =>
        cases p with
        | true=>exact .inr rfl
        | false=>rcases a with z | z <;> cases z
   ·rw[if_neg f];obtain rfl:=Jy h.2.2.1 h.2.2.2.1 s f;exact t.elim id id
  ·rw[if_neg s];cases c with
   | mt=>exact absurd rfl hc
   | _=>exact JM
abbrev X1:List Str:=["state","kind","way","fields"]
theorem NX:Ax X1 ["state","kind"] (Aq Gs):=by walk_at "s"
def X2(Aw:Spw)(BS:Spw):GS:=(Ag (Ap 2 (Af Aw XF (Aa (Ab 0) (Aa (gC (.int 6)) Ac)))) (Ag (gIf (gTB (Ad (Ae (eqF false)) (Ab 2) (gC (.int 0)))) (Ah (An (Aa (gC (.str "any")) Ac))) Ai) (Ag (gIf (gTB (Ad (Ae (eqF false)) (Ad (Ae ixW) (Ab 1) (gC (.int 0))) (gC (.str "to")))) (Ah (An (Aa (gC (.str "to")) (Aa (Af BS XF (Aa (Ab 0) (Aa (Ad (Ae ixW) (Ab 1) (gC (.int 1))) Ac))) (Aa (Af BS XF (Aa (Ab 0) (Aa (Ad (Ae ixW) (Ab 1) (gC (.int 2))) Ac))) Ac))))) Ai) (Ag (gIf (gTB (Ad (Ae (eqF false)) (Ad (Ae ixW) (Ab 1) (gC (.int 0))) (gC (.str "box")))) (Ah (An (Aa (gC (.str "box")) (Aa (Af BS XF (Aa (Ab 0) (Aa (Ad (Ae ixW) (Ab 1) (gC (.int 1))) Ac))) Ac)))) Ai) (Ag (gIf (gTB (Ad (Ae (eqF true)) (Ad (Ae ixW) (Ab 1) (gC (.int 0))) (gC (.str "row")))) (Ah (Ab 1)) Ai) (Ag (Ap 3 (gB (rF AI) (Aa (Ba (BO (Ad (Ae ixW) (Ab 1) (gC (.int 1)))) 3 [0] (BN 0 1 2) AL (An (Aa (Ab 0) (Aa (Ab 1) (Aa (Af BS XF (Aa (Ab 3) (Aa (Ab 2) Ac))) Ac))))) Ac))) (Ag (gIf (gTB (Ad (Ae (eqF false)) (Ab 2) (gC (.int 1)))) (Ah (An (Aa (gC (.str "row")) (Aa (gB (rF AI) (Aa (Ba (AB (Ab 3)) 1 [0] (gNm 0) (gTB (Ad (Ae (eqF false)) (Af Aw XF (Aa (Ab 1) (Aa (gC (.int 2)) Ac))) (gC (.int 1)))) (Ab 0)) Ac)) (Aa (gC (.bl true)) Ac))))) Ai) (Ah (An (Aa (gC (.str "row")) (Aa (Ab 3) (Aa (Ad (Ae ixW) (Ab 1) (gC (.int 2))) Ac))))))))))))
variable {BS:Spw}
theorem nU(T:Tx K mg base a){AJ:Nat}(Dy:Df P w K mg base "_law_choice" AJ 2 Aw)(Dz:AJ<=k){CT:Nat}(X3:Df P w K mg base "_law_less" CT 2 BS)(X4:CT<=k):Dn P w K mg base X1 "_law_less" Gs k (X2 Aw BS):=λ{f cdv A outer s H E}hr=>
 have hu:=A4 hr
 have hN:=NX.nd
 (AA (by walk_at "v") (AA (by walk_at "v") (AA (by walk_at "v") (AA (by walk_at "v") (AA (by walk_at "v") (AA (P4 (i:=3) NX.nd rfl rfl rfl (Dl Fc (F9) rfl T.Fk (by decide) rfl rfl rfl (A3 rfl (Ht rfl (DY (own:=["name","mark","inner"]) (fr:=["state"]) (js:=[0]) (scX:=Aq Gs) (n:=s.heap.objs.size+1) rfl (by decide +kernel) (by decide +kernel) (by decide +kernel) (by decide +kernel) rfl rfl rfl (by decide +kernel) rfl) (λ_=>rfl) (by walk_at "v") (fR (i:=0) (j:=1) (k:=2) rfl (by decide) rfl rfl rfl rfl rfl rfl) (λC fp s1 H1=>Bz) (λC fp s1 H1=>(by walk_at "v"))) BD))) (AA (DS (by walk_at "v") (Br (B1 (Pj (A3 rfl Ph (A3 rfl (Dl Fc (F9) rfl T.Fk (by decide) rfl rfl rfl (A3 rfl (Ht rfl (DY (own:=["field"]) (fr:=["state"]) (js:=[0]) (scX:=Aq Gs) (n:=s.heap.objs.size+1) rfl (by decide +kernel) (by decide +kernel) (by decide +kernel) (by decide +kernel) rfl rfl rfl (by decide +kernel) rfl) (λ_=>rfl) (by walk_at "v") (Fe (i:=0) (by decide) rfl rfl) (λC fp s1 H1=>(by walk_at "v")) (λC fp s1 H1=>(by walk_at "v"))) BD)) (by walk_at "v")))))) DQ) (by walk_at "v"))))))))
abbrev X5:List Str:=["state","kind","way","fields","name","mark","inner"]
theorem X6:Ax X5 ["state","kind"] (Aq Mp):=by walk_at "s"
def X7(Aw:Spw)(CF:Spw):GS:=(Ag (Ap 2 (Af Aw XF (Aa (Ab 0) (Aa (gC (.int 9)) Ac)))) (Ag (gIf (gTB (Ad (Ae (eqF false)) (Ab 2) (gC (.int 0)))) (Ah (Ad (Ae ixW) (Au (Aa (An (Aa (gC (.str "num")) Ac)) (Aa (An (Aa (gC (.str "truth")) Ac)) (Aa (An (Aa (gC (.str "any")) Ac)) (Aa (An (Aa (gC (.str "row")) (Aa (An Ac) (Aa (gC (.bl true)) Ac)))) Ac))))) (Af Aw XF (Aa (Ab 0) (Aa (gC (.int 4)) Ac))))) Ai) (Ag (gIf (gTB (Ad (Ae (eqF false)) (Ad (Ae ixW) (Ab 1) (gC (.int 0))) (gC (.str "to")))) (Ah (An (Aa (gC (.str "to")) (Aa (Af CF XF (Aa (Ab 0) (Aa (Ad (Ae ixW) (Ab 1) (gC (.int 1))) Ac))) (Aa (Af CF XF (Aa (Ab 0) (Aa (Ad (Ae ixW) (Ab 1) (gC (.int 2))) Ac))) Ac))))) Ai) (Ag (gIf (gTB (Ad (Ae (eqF false)) (Ad (Ae ixW) (Ab 1) (gC (.int 0))) (gC (.str "box")))) (Ah (An (Aa (gC (.str "box")) (Aa (Af CF XF (Aa (Ab 0) (Aa (Ad (Ae ixW) (Ab 1) (gC (.int 1))) Ac))) Ac)))) Ai) (Ag (gIf (gTB (Ad (Ae (eqF true)) (Ad (Ae ixW) (Ab 1) (gC (.int 0))) (gC (.str "row")))) (Ah (Ab 1)) Ai) (Ag (Ap 3 (Au Ac)) (Ag (AF (BO (Ad (Ae ixW) (Ab 1) (gC (.int 1)))) (BN 4 5 6) (Ag (gIf (gTB (Ad (Ae (eqF false)) (Af Aw XF (Aa (Ab 0) (Aa (gC (.int 8)) Ac))) (gC (.int 1)))) (Ap 5 (Ad (Ae ixW) (Au (Aa (gC (.str "must")) (Aa (gC (.str "may")) Ac))) (Af Aw XF (Aa (Ab 0) (Aa (gC (.int 2)) Ac))))) Ai) (gIf (gTB (Ad (AM λi j=>decide (j < i)) (Af Aw XF (Aa (Ab 0) (Aa (gC (.int 8)) Ac))) (gC (.int 0)))) (AD (gMt BU CJ (Ab 3) (Aa (An (Aa (Ab 4) (Aa (Ab 5) (Aa (Af CF XF (Aa (Ab 0) (Aa (Ab 6) Ac))) Ac)))) Ac))) Ai))) (Ah (An (Aa (gC (.str "row")) (Aa (gB (rF AI) (Aa (Ab 3) Ac)) (Aa (Ad (Ae ixW) (Au (Aa (Ad (Ae ixW) (Ab 1) (gC (.int 2))) (Aa (Bn (Ad (Ae ixW) (Ab 1) (gC (.int 2)))) Ac))) (gB (rF Cw) (Aa (Ad (Ae (eqF false)) (Ab 2) (gC (.int 1))) Ac))) Ac))))))))))))
variable {CF:Spw}
theorem nV(T:Tx K mg base a){AJ:Nat}(Dy:Df P w K mg base "_law_choice" AJ 2 Aw)(Dz:AJ<=k){Ej:Nat}(nW:Df P w K mg base "_law_other" Ej 2 CF)(nX:Ej<=k):Dn P w K mg base X5 "_law_other" Mp k (X7 Aw CF):=by
 have hN:=X6.nd;walk_at "z"
abbrev X8:List Str:=["script","k","plain","one","state","way"]
theorem X9:Ax X8 ["script","k","plain"] (Aq Mq):=by walk_at "s"
def Y0(GN:Spw)(BK:Spw)(Aw:Spw)(BS:Spw)(CF:Spw):GS:=(Ag (Ap 3 (Af GN XF (Aa (Ab 0) (Aa (Ab 1) (Aa (Ab 2) (Aa (gC (.bl false)) Ac)))))) (Ag (Ap 4 (Af BK XF (Aa (Ab 0) (Aa (Ad (BI) (Ab 1) (gC (.int 1))) Ac)))) (Ag (Ap 5 (Af Aw XF (Aa (Ab 4) (Aa (gC (.int 6)) Ac)))) (Ag (gIf (gTB (Ad (Ae (eqF false)) (Ab 5) (gC (.int 0)))) (Ah (An (Aa (Ab 3) (Aa (Af GN XF (Aa (Ab 0) (Aa (Ad (BI) (Ab 1) (gC (.int 2))) (Aa (Ab 2) (Aa (gC (.bl false)) Ac))))) Ac)))) Ai) (Ag (gIf (gTB (Ad (Ae (eqF false)) (Ab 5) (gC (.int 1)))) (Ah (An (Aa (Ab 3) (Aa (Af BS XF (Aa (Ab 4) (Aa (Ab 3) Ac))) Ac)))) Ai) (Ag (gIf (gTB (Ad (Ae (eqF false)) (Ab 5) (gC (.int 2)))) (Ah (An (Aa (Af BS XF (Aa (Ab 4) (Aa (Ab 3) Ac))) (Aa (Ab 3) Ac)))) Ai) (Ah (Ad (Ae ixW) (Au (Aa (An (Aa (Ab 3) (Aa (Af CF XF (Aa (Ab 4) (Aa (Ab 3) Ac))) Ac))) (Aa (An (Aa (Af CF XF (Aa (Ab 4) (Aa (Ab 3) Ac))) (Aa (Ab 3) Ac))) Ac))) (Ad (Ay (λ_ j=>0 < j) λi j=>i % j) (Ab 5) (gC (.int 2)))))))))))
theorem nY(T:Tx K mg base a){Iw:Nat}(pq:Df P w K mg base "_law_drawn_kind" Iw 4 GN)(pu:Iw<=k){B3:Nat}(MV:Df P w K mg base "_law_state" B3 2 BK)(MW:B3<=k){AJ:Nat}(Dy:Df P w K mg base "_law_choice" AJ 2 Aw)(Dz:AJ<=k){CT:Nat}(X3:Df P w K mg base "_law_less" CT 2 BS)(X4:CT<=k){Ej:Nat}(nW:Df P w K mg base "_law_other" Ej 2 CF)(nX:Ej<=k):Dn P w K mg base X8 "_law_pair" Mq k (Y0 GN BK Aw BS CF):=by
 have hN:=X9.nd;walk_at "z"
def wfd(k:Kd):Prop:=wf 5 k/\k.dat=true
theorem FP{j:Int}{Av:GS}(h1:ω[i]?=some (some (.int r)))(h:if r=j then e ω G D.rt else Av D ω G):
  Ag (gIf (gTB (Ad (Ae (eqF false)) (Ab i) (gC (.int j)))) (Ah e) Ai) Av D ω G:=by
 simp only[Ag,gIf,gTB,Ad,Ae,Ab,h1,gC,Bc,Bd,Be,YE,Ao,Ah,Ai];by_cases z:r=j
 ·rw[if_pos z]at h;rw[show(r==j)=true by simp[z]];exact h
 ·rw[if_neg z]at h;rw[show(r==j)=false by simp[z]];exact h
inductive Al(R:Bool->Kd->Bool->Kd->Prop):List (Str×Bool×Kd)->List (Str×Bool×Kd)->Prop
 | nil:Al R [] []
 | cons {x:Str} {m' m:Bool} {k' k:Kd} {l' l:List (Str×Bool×Kd)} (h:R m' k' m k) (t:Al R l' l):Al R ((x,m',k')::l') ((x,m,k)::l)
 | drop {y:Str×Bool×Kd} {l' l:List (Str×Bool×Kd)} (t:Al R l' l):Al R l' (y::l)
theorem Al.names{R}{b l:List (Str×Bool×Kd)}(h:Al R b l):(b.map (·.1)).Sublist (l.map (·.1)):=by
 induction h with
 | nil=>exact .slnil
 | cons _ _ a=>exact a.cons_cons _
 | drop _ a=>exact a.cons _
theorem Al.mem{R}{c l:List (Str×Bool×Kd)}(h:Al R c l):∀ y∈c,∃ m k,(y.1,m,k)∈l/\R y.2.1 y.2.2 m k:=by
 induction h with
 | nil=>intro y a;cases a
 | cons h _ b =>
  intro y a;walk_at "pf"
  ·exact⟨_,_,Ye,h⟩
  ·obtain⟨m,k,h1,h2⟩:=b y a;exact⟨m,k,Yd _ h1,h2⟩
 | drop _ b =>
  intro y a;obtain⟨m,k,h1,h2⟩:=b y a;exact⟨m,k,Yd _ h1,h2⟩
def sml(k' k:Kd):Prop:=wfd k'/\k'.dp<=k.dp/\k'.cnt<=k.cnt
variable {R:Bool->Kd->Bool->Kd->Prop}
theorem Al.cnt(c:∀ m' k' m k,R m' k' m k->sml k' k){a l:List (Str×Bool×Kd)}(h:Al R a l):(ofL a).cnt<=(ofL l).cnt:=by
 induction h with
 | nil=>exact Yr _
 | cons h _ b=>have:=(c _ _ _ _ h).2.2;show _+_<=_+_;dsimp only;omega
 | drop _ b=>show _<=_+_;omega
theorem JQ{l:List (Str×Bool×Kd)}(h:wfd (.row (ofL l) o)):(l.map (·.1)).Pairwise (λx y=>As x y=true)/\Cg 5 (l.map (·.1))=true/\∀ y∈l,AK y.1=true/\wfd y.2.2:=by
 obtain⟨c,d,b⟩:=Wt h.1;exact⟨c,d,λy a=>⟨(b y a).1,(b y a).2,Wu h.2 y a⟩⟩
variable {o':Bool}
theorem Al.sml(c:∀ m' k' m k,R m' k' m k->sml k' k){a l:List (Str×Bool×Kd)}(h:Al R a l)(hw:wfd (.row (ofL l) o)):sml (.row (ofL a) o') (.row (ofL l) o):=by
 obtain⟨p,d,e⟩:=JQ hw;refine⟨⟨M3 (p.sublist h.names) (lp h.names d) λy b=>?_,Iv a λy b=>?_⟩,?_,?_⟩
 ·obtain⟨m,k,h1,h2⟩:=h.mem y b;exact⟨(e _ h1).1,(c _ _ _ _ h2).1.1⟩
 ·obtain⟨m,k,h1,h2⟩:=h.mem y b;exact(c _ _ _ _ h2).1.2
 ·show 1+(ofL a).dp<=1+(ofL l).dp
  have:=M1 (n:=(ofL l).dp) a λy b=>by
   obtain⟨m,k,h1,h2⟩:=h.mem y b;exact Yt (c _ _ _ _ h2).2.1 (GJ (l:=l) _ h1)
  omega
 ·show 1+(ofL a).cnt<=1+(ofL l).cnt;have:=h.cnt c;omega
theorem NY:∀{l:List (Str×Bool×Kd)}{x:Str}{m:Bool}{k:Kd},(l.map (·.1)).Pairwise (λx y=>As x y=true)->(x,m,k)∈l->(ofL l).find x=some (m,k)
 |(n,g,d)::l,x,m,k,b,h=>by
  have a:(n::l.map (·.1)).Pairwise (λx y=>As x y=true):=b;obtain⟨c,f⟩:=YD.mp a;show(if n=x then some (g,d)else(ofL l).find x)=some (m,k);rcases Yo.mp h with e | h
  ·cases e;rw[if_pos rfl]
  ·rw[if_neg (λe=>by subst e;have:=c _ (YC.mpr ⟨_,h,rfl⟩);rw[ER]at this;cases this)];exact NY f h
noncomputable def lsK(n:Nat)(k' k:Kd):Prop:=sml k' k/\∀ v,fit n v k->fit n v k'
abbrev lsR(n:Nat):Bool->Kd->Bool->Kd->Prop:=λm' k' m k=>m'=m/\lsK n k' k
theorem Y1{c l:List (Str×Bool×Kd)}(h:Al (lsR n) c l)(hw:wfd (.row (ofL l) o))(i:o'=true\/(o'=o/\c.map (·.1)=l.map (·.1))):lsK (n+1) (.row (ofL c) o') (.row (ofL l) o):=by
 refine⟨h.sml (o:=o) (o':=o') (λ_ _ _ _ z=>z.2.1) hw,λv d=>?_⟩;obtain⟨f,_,_⟩:=JQ hw;obtain⟨ps,rfl⟩:=NW d;rw[E0]at d ⊢;intro x;have a:=d x;by_cases b:x∈c.map (·.1)
 ·obtain⟨y,g,rfl⟩:=YC.mp b;obtain⟨m,k,h1,h2,j⟩:=h.mem y g;rw[NE.mpr (NY f h1)]at a;rw[NE.mpr (NY (f.sublist h.names) g),h2];cases e:ps.find y.1 with
  | none=>rw[e]at a;exact a
  | some v=>rw[e]at a;exact j.2 v a
 ·rw[Gx (by rw[EQ];exact b)];rcases i with rfl |⟨rfl,e⟩
  ·exact JN _
  ·rw[Gx (by rw[EQ,<- e];exact b)]at a;exact a
noncomputable def JR(n:Nat):Spw:=λws G Q _=>∃(s:Addr)(x:Int)(b:Bool)(r:List W)(k:Kd),ws=[.ref s,k.enc]/\wfd k/\k.dp<=n/\G s=some (S2 x b r)/\∀(k':Kd)(x':Int),lsK n k' k->Q k'.enc (put G s (S2 x' b r))
theorem Y2:Spw.M (JR n):=(by rintro g G Q i E f h _ ⟨s,x,b,r,k,h1,h2,c,e,q⟩;exact⟨s,x,b,r,k,h1,h2,c,e,λa d z=>h _ _ (q a d z)⟩)
theorem Y3{n:Nat}{s:Addr}{b:Bool}{r:List W}{R:List W->Hw->Prop}:∀(l:List (Str×Bool×Kd))(f i e:Option W)(G:Hw)(x:Int)(a:List (Str×Bool×Kd)),(∀ y∈l,wfd y.2.2/\y.2.2.dp<=n)->a.length+l.length<=100->G s=some (S2 x b r)->
  (∀(c:List (Str×Bool×Kd))(j:Int),Al (lsR n) c l->c.map (·.1)=l.map (·.1)->R ((a++c).map Az) (put G s (S2 j b r)))->
  Bi yes (BN 0 1 2) AL (An (Aa (Ab 0) (Aa (Ab 1) (Aa (Af (JR n) XF (Aa (Ab 3) (Aa (Ab 2) Ac))) Ac)))) R (l.map Az) [f,i,e,some (.ref s)] G (a.map Az)
 | [],f,i,e,G,x,a,_,_,g,h=>⟨trivial,by have:=h [] x .nil rfl;rw[Yx,U9 g]at this;exact this⟩
 | y::l,f,i,e,G,x,a,hl,k,g,h=>by
  simp only[Yg]at k;refine⟨trivial,by rw[Yh];exact Dt (by omega),?_⟩;simp only[Az,BN,AL,if_true,Yk,Yl,An,Af,Aa,Ac,Ab,Yb,Yc];obtain⟨t,o⟩:=hl y Ye;refine⟨s,x,b,r,y.2.2,rfl,t,o,g,λd q u=>⟨(Qzz 3),?_⟩⟩;have m:a.map Az++[W.tup [.str y.1,.str (mark y.2.1),d.enc]]=(a++[(y.1,y.2.1,d)]).map Az:=by rw[Yy];rfl
  rw[m];refine Y3 l _ _ _ _ q (a++[(y.1,y.2.1,d)]) (λz p=>hl z (Yd _ p)) (by rw[Yj];simp only[Yg,Yi];omega) Ak λc j h1 h2=>?_;rw[BY,Yv];exact h ((y.1,y.2.1,d)::c) j (.cons ⟨rfl,u⟩ h1) (by rw[Ym,Ym,h2])
theorem NZ{s:Addr}{b:Bool}{r:List W}{R:List W->Hw->Prop}:∀(l:List (Str×Bool×Kd))(o:Option W)(G:Hw)(x:Int)(a:List (Str×Bool×Kd)),a.length+l.length<=100->G s=some (S2 x b r)->
  (∀(c:List (Str×Bool×Kd))(d:Int),c.Sublist l->R ((a++c).map Az) (put G s (S2 d b r)))->
  Bi yes (gNm 0) (gTB (Ad (Ae (eqF false)) (Af BP XF (Aa (Ab 1) (Aa (gC (.int 2)) Ac))) (gC (.int 1)))) (Ab 0) R (l.map Az) [o,some (.ref s)] G (a.map Az)
 | [],o,G,x,a,_,f,h=>⟨trivial,by have:=h [] x .slnil;rw[Yx,U9 f]at this;exact this⟩
 | y::l,o,G,x,a,g,f,h=>by
  simp only[Yg]at g;refine⟨trivial,by rw[Yh];exact Dt (by omega),?_⟩;show gTB _ [some (Az y),some (.ref s)] G _;simp only[gTB,Ad,Af,Aa,Ac,Ab,gC,Ae,Yb,Yc];refine⟨s,2,x,b,r,rfl,by decide,by decide,f,λi e _ _=>?_⟩;show opt (eqF false (.int i) (.int 1) (put G s (.lst (.int e::.bl b::r)))) _;rw[show eqF false (.int i) (.int 1) (put G s (.lst (.int e::.bl b::r)))=some (.bl (i==1)) by unfold eqF eqW;show some (W.bl ((i==1) != false))=_;cases(i==1) <;> rfl,Ao];dsimp only;cases(i==1)with
  | false =>
   rw[if_neg (by decide)];refine NZ l _ _ e a (by omega) Ak λc d h1=>?_;rw[BY];exact h c d (h1.cons y)
  | true =>
   rw[if_pos rfl];have j:a.map Az++[Az y]=(a++[y]).map Az:=by rw[Yy];rfl
   show Bi _ _ _ _ R (l.map Az) [some (Az y),some (.ref s)] _ (a.map Az++[Az y]);rw[j];refine NZ l _ _ e (a++[y]) (by rw[Yj];simp only[Yg,Yi];omega) Ak λc d h1=>?_;rw[BY,Yv];exact h (y::c) d (h1.cons_cons y)
theorem Al.sub{R}{b c l:List (Str×Bool×Kd)}(h:Al R c l):b.Sublist c->Al R b l:=by
 induction h generalizing b with
 | nil=>intro s;cases s;exact .nil
 | cons d t a =>
  intro s;cases s with
  | cons _ s=>exact .drop (a s)
  | cons_cons _ s=>exact .cons d (a s)
 | drop t a=>intro s;exact .drop (a s)
theorem nZ{k:Kd}:sml .any k:=⟨⟨⟨rfl,rfl⟩,rfl⟩,Bx k,D3 k⟩
theorem CT(T:Tx K mg base a):∀ n:Nat,Df P w K mg base "_law_less" (n+1) 2 (JR n)
 | 0=>CC T.Sg Y2 λR G Q E⟨s,x,b,r,k,_,_,h,_⟩=>by have:=Bx k;omega
 | n+1=>by
  have D:=CT T n;refine mk0 (k:=n+1) T.Sg rfl NX Y2 (λR G Q E⟨s,x,b,r,k,e,_⟩=>by rw[e];rfl) (nU T (AJ T) (by omega) D (Yr _)) λR G Q E L q=>?_;obtain⟨s,x,b,r,k,rfl,f,hd,Y,q⟩:=q;unfold X2;show Ag (Ap 2 _) _ (Ar Q) [some (.ref s),some k.enc,none,none] G;refine⟨s,6,x,b,r,rfl,by decide,by decide,Y,λi j _ _=>?_⟩;walk_at "pd";have h1:put G s (S2 j b r) s=some (S2 j b r):=Ak;refine FP rfl ?_;by_cases N:i=0
  ·rw[if_pos N];exact⟨(Qzz 1),q .any j ⟨nZ,λv _=>JM⟩⟩
  rw[if_neg N];refine Ef rfl ?_;have ht:k.hd≠"to":=λz=>by cases k <;> first | exact absurd z (by simp only[Kd.hd];decide)|(cases f.2;done)
  rw[if_neg ht];refine Ef rfl ?_;have X:k.hd≠"box":=λz=>by cases k <;> first | exact absurd z (by simp only[Kd.hd];decide)|(cases f.2;done)
  rw[if_neg X];refine Va rfl ?_;by_cases H:k.hd="row"
  ·rw[if_pos H];obtain⟨fs,o,rfl⟩:=BQ H;obtain⟨l,rfl⟩:∃ l,fs=ofL l:=⟨fs.toL,(Jk fs).symm⟩;obtain⟨p5,F,hy⟩:=JQ f;have F:=FC F;rw[Yh]at F;have el:(Kd.row (ofL l) o).enc=.tup [.str "row",.tup (l.map Az),.bl o]:=by rw[<- DA];rfl
   rw[el];simp only[Ag,Ap,gB,Ba,BO,Ad,Ae,Ab,gC,Aa,Ac,Yb,Yc,ixW,A5,Ao];refine Y3 (n:=n) l none none none _ j [] (λy S=>⟨(hy y S).2,?_⟩) (by simp only[Yi];omega) h1 λc d A en=>?_
   ·have e1:=GJ (l:=l) y S;have e2:1+(ofL l).dp<=n+1:=hd;omega
   ·rw[BY,Yw];intro p1 g;have n1:s≠p1:=AE Ak g;show opt (AI [.ref p1] _) _;rw[show AI [.ref p1] (put (put G s (S2 d b r)) p1 (.lst (c.map Az)))=some (.tup (c.map Az)) by unfold AI;dsimp only;rw[D1 Ak];rfl,Ao];have B:Sub (put G s (S2 d b r)) (put (put G s (S2 d b r)) p1 (.lst (c.map Az))):=A1 g;have h2:put (put G s (S2 d b r)) p1 (.lst (c.map Az)) s=some (S2 d b r):=B _ _ Ak;generalize put (put G s (S2 d b r)) p1 (.lst (c.map Az))=G1 at B h2 ⊢;show Ag (gIf _ _ Ai) _ (Ar Q) [some (.ref s),some (.tup [.str "row",.tup (l.map Az),.bl o]),some (.int i),some (.tup (c.map Az))] G1;have Z:c.length=l.length:=by have:=congrArg List.length en;simpa using this
    refine FP rfl ?_;by_cases U:i=1
    ·rw[if_pos U];simp only[An,gB,Ba,AB,Ab,gC,Aa,Ac,Yb,Yc];refine NZ c none G1 d [] (by simp only[Yi];omega) h2 λp O m=>?_;rw[Yw];intro p2 J;show opt (AI [.ref p2] _) _;rw[show AI [.ref p2] (put (put G1 s (S2 O b r)) p2 (.lst (p.map Az)))=some (.tup (p.map Az)) by unfold AI;dsimp only;rw[D1 Ak];rfl,Ao];refine⟨(Qzz 3),?_⟩;have:=q (.row (ofL p) true) O (Y1 (A.sub m) f (.inl rfl));rw[show(Kd.row (ofL p) true).enc=.tup [.str "row",.tup (p.map Az),.bl true] by rw[<- DA];rfl]at this;refine L _ _ _ (B9 (λa u t=>?_) J) this;by_cases I:a=s
     ·subst I;rw[Ak]at t ⊢;exact t
     ·rw[Aj I]at t ⊢;exact B _ _ (by rw[Aj I];exact t)
    ·rw[if_neg U];simp only[Ah,An,Ad,Ae,Ab,gC,Aa,Ac,Yb,Yc,ixW,Bp,Ao];refine⟨(Qzz 3),?_⟩;have:=q (.row (ofL c) o) d (Y1 A f (.inr ⟨rfl,en⟩));rw[show(Kd.row (ofL c) o).enc=.tup [.str "row",.tup (c.map Az),.bl o] by rw[<- DA];rfl]at this;exact L _ _ _ B this
  ·rw[if_neg H];exact q k j ⟨⟨f,Yr _,Yr _⟩,λ_ z=>z⟩
def E1(n:Nat):Spw:=λws G Q _=>∃(s:Addr)(x:Int)(b:Bool)(r:List W)(k:Kd),ws=[.ref s,k.enc]/\wfd k/\k.dp<=n/\G s=some (S2 x b r)/\∀(k':Kd)(x':Int),sml k' k->Q k'.enc (put G s (S2 x' b r))
theorem Y4:Spw.M (E1 n):=(by rintro g G Q i E f h _ ⟨s,x,b,r,k,h1,h2,c,e,q⟩;exact⟨s,x,b,r,k,h1,h2,c,e,λa d z=>h _ _ (q a d z)⟩)
abbrev otR:Bool->Kd->Bool->Kd->Prop:=λ_ k' _ k=>sml k' k
abbrev Y5(sp:Spw):GS:=gIf (gTB (Ad (AM λi j=>decide (j < i)) (Af BP XF (Aa (Ab 0) (Aa (gC (.int 8)) Ac))) (gC (.int 0)))) (AD (gMt BU CJ (Ab 3) (Aa (An (Aa (Ab 4) (Aa (Ab 5) (Aa (Af sp XF (Aa (Ab 0) (Aa (Ab 6) Ac))) Ac)))) Ac))) Ai
abbrev GP(sp:Spw):GS:=Ag (gIf (gTB (Ad (Ae (eqF false)) (Af BP XF (Aa (Ab 0) (Aa (gC (.int 8)) Ac))) (gC (.int 1)))) (Ap 5 (Ad (Ae ixW) (Au (Aa (gC (.str "must")) (Aa (gC (.str "may")) Ac))) (Af BP XF (Aa (Ab 0) (Aa (gC (.int 2)) Ac))))) Ai) (Y5 sp)
theorem N0{n:Nat}{D:Ew}{s p:Addr}{b:Bool}{r:List W}{Q R:Option W}(a:p≠s):∀(l dn:List (Str×Bool×Kd))(J P O:Option W)(G:Hw)(x:Int),(∀ y∈l,wfd y.2.2/\y.2.2.dp<=n)->dn.length+l.length<=100->G s=some (S2 x b r)->G p=some (.lst (dn.map Az))->
  (∀ ω o B I,(∃ u v t,ω=[some (.ref s),Q,R,some (.ref p),u,v,t])->o s=some (S2 I b r)->o p=some (.lst ((dn++B).map Az))->(∀ c,c≠s->c≠p->∀ u,G c=some u->o c=some u)->Al otR B l->D.nx ω o)->
  AY yes (BN 4 5 6) (GP (E1 n)) D (l.map Az) [some (.ref s),Q,R,some (.ref p),J,P,O] G
 | [],dn,J,P,O,G,x,_,_,F,E,k=>⟨trivial,k _ G [] x ⟨J,P,O,rfl⟩ F (by rw[Yx];exact E) (λb _ _ u h=>h) .nil⟩
 | u::l,dn,J,P,O,G,x,X,hl,F,E,k=>by
  rw[Yg]at hl
  have H:∀(mk:Bool)(q:Hw)(x:Int),q s=some (S2 x b r)->q p=some (.lst (dn.map Az))->(∀ c,c≠s->c≠p->∀ u,G c=some u->q c=some u)->
    Y5 (E1 n) {nx:=AY yes (BN 4 5 6) (GP (E1 n)) D (l.map Az),rt:=D.rt,bk:=D.nx,ct:=AY yes (BN 4 5 6) (GP (E1 n)) D (l.map Az)} [some (.ref s),Q,R,some (.ref p),some (.str u.1),some (.str (mark mk)),some u.2.2.enc] q:=by
   intro mk q x F E hk;obtain⟨g1,g2⟩:=X u Ye;simp only[gIf,gTB,Ad,Af,AM,Ab,gC,Yb,Yc,AD,gMt,Aa,Ac,An,Ai];refine⟨s,8,x,b,r,rfl,by decide,by decide,F,λi d _ _=>?_⟩;have f:put q s (S2 d b r) s=some (S2 d b r):=Ak;have e:put q s (S2 d b r) p=some (.lst (dn.map Az)):=by rw[Aj a];exact E
   refine Bu (λh=>?_) (λh=>?_)
   ·refine⟨EO e,s,d,b,r,u.2.2,rfl,g1,g2,f,λK U T=>⟨(Qzz 3),?_⟩⟩;rw[BY];refine Iu (by rw[Aj a];exact E) (by rw[Yh];exact Dt (by omega)) ?_;have ee:dn.map Az++[W.tup [.str u.1,.str (mark mk),K.enc]]=(dn++[(u.1,mk,K)]).map Az:=by rw[Yy];rfl
    rw[ee];refine N0 a l (dn++[(u.1,mk,K)]) _ _ _ _ U (λv g=>X v (Yd _ g)) (by rw[Yj];simp only[Yg,Yi];omega) (by rw[Aj (YZ a)];exact Ak) Ak λω o B I hω S Z Y L=>?_;exact k ω o ((u.1,mk,K)::B) I hω S (by rw[Z,Yv];rfl) (λc w A v g=>Y c w A v (by rw[Aj A,Aj w];exact hk c w A v g)) (.cons T L)
   ·refine N0 a l dn _ _ _ _ d (λv g=>X v (Yd _ g)) (by omega) f e λω o B I hω S Z Y L=>?_;exact k ω o B I hω S Z (λc w A v g=>Y c w A v (by rw[Aj w];exact hk c w A v g)) (.drop L)
  refine⟨trivial,?_⟩;show GP (E1 n) _ [some (.ref s),Q,R,some (.ref p),some (.str u.1),some (.str (mark u.2.1)),some u.2.2.enc] G;unfold GP;simp only[Ag,gIf,gTB,Ad,Af,Ae,Ab,gC,Yb,Yc,Ap,Au,Aa,Ac,Ai];refine⟨s,8,x,b,r,rfl,by decide,by decide,F,λi d _ _=>?_⟩;have f:put G s (S2 d b r) s=some (S2 d b r):=Ak;have e:put G s (S2 d b r) p=some (.lst (dn.map Az)):=by rw[Aj a];exact E
  show opt (eqF false (.int i) (.int 1) (put G s (.lst (.int d::.bl b::r)))) _;rw[show eqF false (.int i) (.int 1) (put G s (.lst (.int d::.bl b::r)))=some (.bl (i==1)) by unfold eqF eqW;show some (W.bl ((i==1) != false))=_;cases(i==1) <;> rfl,Ao];dsimp only;cases(i==1)with
  | false =>
   rw[if_neg (by decide)];exact H u.2.1 _ d f e λc N c2 v g=>by rw[Aj N];exact g
  | true =>
   rw[if_pos rfl];refine⟨(Qzz 2),λp2 z=>?_⟩;have n2:s≠p2:=AE f z;have n3:p≠p2:=AE e z;refine⟨s,2,d,b,r,rfl,by decide,by decide,by rw[Aj n2];exact f,λj U j0 j1=>?_⟩;obtain⟨m,em⟩:=Ue j0 j1;show opt (ixW (.ref p2) (.int j) _) _;rw[BZ (by rw[Aj (YZ n2)];exact Ak),em,Ao];refine H m _ U Ak (by rw[Aj a,Aj n3];exact e) λc N c2 v g=>?_;have hc:put G s (S2 d b r) c=some v:=by rw[Aj N];exact g
   rw[Aj N,Aj (AE hc z)];exact hc
theorem n0{i:Int}(b:0<=i)(a:i < 4):∃ k':Kd,(∀ k:Kd,sml k' k)/\atI [W.tup [.str "num"],W.tup [.str "truth"],W.tup [.str "any"],W.tup [.str "row",.tup [],.bl true]] i=some k'.enc:=by
 have:i=0\/i=1\/i=2\/i=3:=by omega
 rcases this with rfl | rfl | rfl | rfl
 ·exact⟨.num,λk=>⟨⟨⟨rfl,rfl⟩,rfl⟩,Bx k,D3 k⟩,rfl⟩
 ·exact⟨.truth,λk=>⟨⟨⟨rfl,rfl⟩,rfl⟩,Bx k,D3 k⟩,rfl⟩
 ·exact⟨.any,λk=>⟨⟨⟨rfl,rfl⟩,rfl⟩,Bx k,D3 k⟩,rfl⟩
 ·exact⟨.row .nil true,λk=>⟨⟨⟨rfl,rfl⟩,rfl⟩,Bx k,D3 k⟩,rfl⟩
theorem Ej(T:Tx K mg base a):∀ n:Nat,Df P w K mg base "_law_other" (n+1) 2 (E1 n)
 | 0=>CC T.Sh Y4 λU G Q E⟨s,x,b,r,k,_,_,h,_⟩=>by have:=Bx k;omega
 | n+1=>by
  have D:=Ej T n;refine mk0 (k:=n+1) T.Sh rfl X6 Y4 (λU G Q E⟨s,x,b,r,k,e,_⟩=>by rw[e];rfl) (nV T (AJ T) (by omega) D (Yr _)) λU G Q E R q=>?_;obtain⟨s,x,b,r,k,rfl,B,hd,hs,q⟩:=q;unfold X7;show Ag (Ap 2 _) _ (Ar Q) [some (.ref s),some k.enc,none,none,none,none,none] G;refine⟨s,9,x,b,r,rfl,by decide,by decide,hs,λi f _ _=>?_⟩;walk_at "pd";have h1:put G s (S2 f b r) s=some (S2 f b r):=Ak;refine FP rfl ?_;by_cases S:i=0
  ·rw[if_pos S];simp only[Ad,Au,Af,Ae,Ab,gC,An,Aa,Ac,Yb,Yc];refine⟨by decide,by decide,by decide,by decide,by decide,by decide,λp g=>?_⟩;have Y:s≠p:=AE h1 g;refine⟨s,4,f,b,r,rfl,by decide,by decide,by rw[Aj Y];exact h1,λj I j0 j1=>?_⟩;obtain⟨k',hk,ek⟩:=n0 j0 j1;show opt (ixW (.ref p) (.int j) _) _;rw[BZ (by rw[Aj (YZ Y)];exact Ak),ek,Ao];refine R _ _ _ (λc u d=>?_) (q k' I (hk k));by_cases hc:c=s
   ·subst hc;rw[Ak]at d ⊢;exact d
   ·rw[Aj hc]at d ⊢;have:put G s (S2 f b r) c=some u:=by rw[Aj hc];exact d
    rw[Aj (AE this g)];exact this
  rw[if_neg S];refine Ef rfl ?_;have ht:k.hd≠"to":=λz=>by cases k <;> first | exact absurd z (by simp only[Kd.hd];decide)|(cases B.2;done)
  rw[if_neg ht];refine Ef rfl ?_;have hb:k.hd≠"box":=λz=>by cases k <;> first | exact absurd z (by simp only[Kd.hd];decide)|(cases B.2;done)
  rw[if_neg hb];refine Va rfl ?_;by_cases J:k.hd="row"
  ·rw[if_pos J];obtain⟨fs,o,rfl⟩:=BQ J;obtain⟨l,rfl⟩:∃ l,fs=ofL l:=⟨fs.toL,(Jk fs).symm⟩;obtain⟨p5,H,hy⟩:=JQ B;have H:=FC H;rw[Yh]at H;have el:(Kd.row (ofL l) o).enc=.tup [.str "row",.tup (l.map Az),.bl o]:=by rw[<- DA];rfl
   rw[el];simp only[Ag,Ap,Au,Ac,Yk,Yl];refine⟨(Qzz 0),λp g=>?_⟩;have m:p≠s:=YZ (AE h1 g);simp only[AF,BO,Ad,Ae,Ab,gC,Yb,Yc,ixW,A5,Ao];refine N0 (n:=n) m l [] none none none _ f (λy X=>⟨(hy y X).2,?_⟩) (by simp only[Yi];omega) (by rw[Aj (YZ m)];exact h1) Ak λω F A I hω f1 Z f3 L=>?_
   ·have e1:=GJ (l:=l) y X;have e2:1+(ofL l).dp<=n+1:=hd;omega
   ·obtain⟨u,v,t,rfl⟩:=hω;rw[Yw]at Z;simp only[Ah,An,gB,rF,Au,Bn,Ad,Ae,Ab,gC,Aa,Ac,Yb,Yc,ixW,Bp,Ao];rw[show AI [.ref p] F=some (.tup (A.map Az)) by unfold AI;dsimp only;rw[D1 Z];rfl,Ao];refine⟨(Qzz 2),λp2 N=>?_⟩;show opt (eqF false (.int i) (.int 1) (put F p2 (.lst [.bl o,.bl (!o)]))) _;rw[show eqF false (.int i) (.int 1) (put F p2 (.lst [.bl o,.bl (!o)]))=some (.bl (i==1)) by unfold eqF eqW;show some (W.bl ((i==1) != false))=_;cases(i==1) <;> rfl,Ao]
    have done:∀ o':Bool,3<=sizeLine/\Q (.tup [.str "row",.tup (A.map Az),.bl o']) (put F p2 (.lst [.bl o,.bl (!o)])):=λo'=>by
     refine⟨by decide,?_⟩;have:=q (.row (ofL A) o') I (L.sml (λ_ _ _ _ z=>z) B);rw[show(Kd.row (ofL A) o').enc=.tup [.str "row",.tup (A.map Az),.bl o'] by rw[<- DA];rfl]at this;refine R _ _ _ (B9 (λc u d=>?_) N) this;by_cases hc:c=s
     ·subst hc;rw[Ak]at d;rw[f1];exact d
     ·rw[Aj hc]at d;have O:put G s (S2 f b r) c=some u:=by rw[Aj hc];exact d
      refine f3 c hc (λz=>?_) u (by rw[Aj (AE O g)];exact O);subst z;rw[O]at g;cases g
    cases(i==1)with
    | false =>
     show opt (ixW (.ref p2) (.int 0) _) _;rw[BZ Ak,Bb,Ao];exact done o
    | true =>
     show opt (ixW (.ref p2) (.int 1) _) _;rw[BZ Ak,A5,Ao];exact done (!o)
  ·rw[if_neg J];exact q k f ⟨B,Yr _,Yr _⟩
def Y6:Spw:=λws G Q _=>∃(ns:List Int)(i:Int)(zz:Bool),ws=[.rol (ns.map W.int),.int i,.bl true]/\0<=i/\∀ k l:Kd,kdd k->kdd l->Q (.tup [k.enc,l.enc]) G
theorem n6:Spw.M Y6:=(by rintro a G Q c E b h _ ⟨ns,i,pl,h1,h2,q⟩;exact⟨ns,i,pl,h1,h2,λk l g1 g2=>h _ _ (q k l g1 g2)⟩)
theorem GQ{k:Kd}(h:sml k' k)(a:kdd k):kdd k':=⟨⟨h.1.1,Yt h.2.2 a.1.2.1,Yt h.2.1 a.1.2.2⟩,h.1.2⟩
theorem JS(T:Tx K mg base a):Df P w K mg base "_law_pair" 18 3 Y6:=by
 refine mk0 (k:=17) T.kg rfl X9 n6 (λH G Q E⟨ns,i,pl,e,_⟩=>by rw[e];rfl) (nY T (Iw T) (by omega) (B3 T) (by omega) (AJ T) (by omega) (CT T 8) (by omega) (Ej T 8) (by omega)) λH G Q E d q=>?_;obtain⟨ns,i,pl,rfl,I,q⟩:=q;unfold Y0;show Ag (Ap 3 _) _ (Ar Q) [some (.rol (ns.map W.int)),some (.int i),some (.bl true),none,none,none] G;refine⟨ns,i,false,rfl,I,λk c n=>?_⟩;have c:kdd k:=⟨⟨c.1,c.2.1,Yt (FD k) c.2.2⟩,n.1⟩;walk_at "pd";show Ag (Ap 4 _) _ (Ar Q) [some (.rol (ns.map W.int)),some (.int i),some (.bl true),some k.enc,none,none] G;refine⟨ns,i+1,rfl,by omega,λs x b F=>?_⟩;walk_at "pd";show Ag (Ap 5 _) _ (Ar Q) [some (.rol (ns.map W.int)),some (.int i),some (.bl true),some k.enc,some (.ref s),none] _;refine⟨s,6,x,b,[],rfl,by decide,by decide,Ak,λj f J L=>?_⟩;rw[BY];walk_at "pd";have sub:∀ o,Sub G (put G s o):=λo=>A1 F;have h1:put G s (S2 f b []) s=some (S2 f b []):=Ak;refine FP rfl ?_;by_cases t:j=0
 ·rw[if_pos t];refine⟨ns,i+2,false,rfl,by omega,λl hl r=>⟨(Qzz 2),?_⟩⟩;exact d _ _ _ (sub _) (q k l c ⟨⟨hl.1,hl.2.1,Yt (FD l) hl.2.2⟩,r.1⟩)
 rw[if_neg t];refine FP rfl ?_;by_cases z:j=1
 ·rw[if_pos z];refine⟨s,f,b,[],k,rfl,⟨c.1.1,c.2⟩,c.1.2.2,h1,λm h g=>⟨(Qzz 2),?_⟩⟩;rw[BY];exact d _ _ _ (sub _) (q k m c (GQ g.1 c))
 rw[if_neg z];refine FP rfl ?_;by_cases u:j=2
 ·rw[if_pos u];refine⟨s,f,b,[],k,rfl,⟨c.1.1,c.2⟩,c.1.2.2,h1,λm h g=>⟨(Qzz 2),?_⟩⟩;rw[BY];exact d _ _ _ (sub _) (q m k (GQ g.1 c) c)
 rw[if_neg u];simp only[Ah,Ad,Au,Af,An,Ae,Ay,Ab,gC,Aa,Ac,Yb,Yc];refine⟨s,f,b,[],k,rfl,⟨c.1.1,c.2⟩,c.1.2.2,h1,λy h g1=>⟨(Qzz 2),?_⟩⟩;refine⟨s,h,b,[],k,rfl,⟨c.1.1,c.2⟩,c.1.2.2,Ak,λv D g2=>⟨(Qzz 2),(Qzz 2),λp A=>⟨by decide,?_⟩⟩⟩;rw[BY,BY]at A ⊢;have B:j % 2=0\/j % 2=1:=by omega
 have S:=B9 (sub (S2 D b [])) (o:=.lst [.tup [k.enc,y.enc],.tup [v.enc,k.enc]]) A;show opt (ixW (.ref p) (.int (j % 2)) _) _;rcases B with e | e
 ·rw[e,BZ Ak,Bb,Ao];exact d _ _ _ S (q k y c (GQ g1 c))
 ·rw[e,BZ Ak,A5,Ao];exact d _ _ _ S (q v k (GQ g2 c) c)
abbrev Y7:List Str:=["kind","good"]
theorem Y8:Ax Y7 ["kind"] (Aq Mr):=by walk_at "s"
def Y9(K:PySem.W.Frag)(a:Adr)(JT:Spw):GS:=(Ag (Ap 1 (gC (.bl true))) (Ag (Ln K a.NoKind (λex=>(AD (Af JT ex (Aa (Ab 0) Ac)))) (Ap 1 (gC (.bl false)))) (Ah (Ab 1))))
theorem n7(T:Tx K mg base a){Ja:Nat}(n8:Df P w K mg base "parts_in" Ja 1 JT)(n9:Ja<=k):Dn P w K mg base Y7 "_law_good" Mr k (Y9 K a JT):=λ{f cdv A outer s H E}hr=>
 have hu:=A4 hr
 have hN:=Y8.nd
 (AA (by walk_at "v") (AA (jh T.Mv T.Fo T.Fp T.Fq rfl rfl rfl rfl rfl (λex pn xe hp=>(Br (F5 rfl (Dj n8 (hr.mono n9) rfl hp rfl rfl rfl (by walk_at "v"))))) (λe=>(by walk_at "v"))) (by walk_at "v")))
abbrev Za:List Str:=["script","one","other","both","value","less","kind","more","seen"]
theorem Zb:Ax Za ["script"] (Aq Fi):=by walk_at "s"
def Zc(JU:Spw)(JV:Spw)(GR:Spw)(GU:Spw)(Ek:Spw)(BK:Spw)(BS:Spw)(GV:Spw)(JW:Spw):GS:=(Ag (Li (Bh 1 2) (Af JU XF (Aa (Ab 0) (Aa (gC (.int 0)) (Aa (gC (.bl true)) Ac))))) (Ag (Ap 3 (Af JV XF (Aa (Ab 1) (Aa (Ab 2) Ac)))) (Ag (Ap 4 (Af GR XF (Aa (Ab 0) (Aa (gC (.int 4)) (Aa (Ab 1) Ac))))) (Ag (gIf (AQ (gTB (Ad (Ae (isF true)) (Ab 3) (gC .non))) (AC (Af GU XF (Aa (Ab 3) Ac)))) (Ag (Ap 7 (Af GR XF (Aa (Ab 0) (Aa (gC (.int 5)) (Aa (Ab 3) Ac))))) (AF (AB (Au (Aa (Ab 4) (Aa (Ab 7) Ac)))) (gNm 8) (gIf (gTB (Ad (Ae (eqF true)) (Af Ek XF (Aa (Ab 8) (Aa (Ab 3) Ac))) (AX (Af Ek XF (Aa (Ab 8) (Aa (Ab 1) Ac))) (Af Ek XF (Aa (Ab 8) (Aa (Ab 2) Ac)))))) (Ah (gC (.bl false))) Ai))) Ai) (Ag (gIf (gNt (AC (Af Ek XF (Aa (Ab 4) (Aa (Ab 1) Ac))))) (Ah (gC (.bl true))) Ai) (Ag (Ap 5 (Af BS XF (Aa (Af BK XF (Aa (Ab 0) (Aa (gC (.int 6)) Ac))) (Aa (Ab 1) Ac)))) (Ag (AF (AB (Au (Aa (Af GV XF (Aa (Ab 1) (Aa (Ab 2) Ac))) (Aa (Af GV XF (Aa (Ab 2) (Aa (Ab 1) Ac))) (Aa (Af JW XF (Aa (Ab 1) (Aa (Ab 2) Ac))) (Aa (Ab 5) Ac)))))) (gNm 6) (gIf (AQ (AC (Af GU XF (Aa (Ab 6) Ac))) (gNt (AC (Af Ek XF (Aa (Ab 4) (Aa (Ab 6) Ac)))))) (Ah (gC (.bl false))) Ai)) (Ah (gC (.bl true))))))))))
theorem oa(T:Tx K mg base a){JS:Nat}(pw:Df P w K mg base "_law_pair" JS 3 JU)(px:JS<=k){JJ:Nat}(py:Df P w K mg base "met" JJ 2 JV)(h_met:JJ<=k){Jm:Nat}(pz:Df P w K mg base "_law_drawn_value" Jm 3 GR)(pA:Jm<=k){JX:Nat}(pB:Df P w K mg base "_law_good" JX 1 GU)(pE:JX<=k){Jg:Nat}(pF:Df P w K mg base "fits" Jg 2 Ek)(h_fits:Jg<=k){B3:Nat}(MV:Df P w K mg base "_law_state" B3 2 BK)(MW:B3<=k){CT:Nat}(X3:Df P w K mg base "_law_less" CT 2 BS)(X4:CT<=k){JL:Nat}(pG:Df P w K mg base "either" JL 2 GV)(pH:JL<=k){JK:Nat}(pI:Df P w K mg base "joined" JK 2 JW)(pJ:JK<=k){s:Shared}(hr:Room k (A.deeper (envOfC "law" (Aq Fi) s.heap.objs.size f cdv))):Ssm (cxW P w K mg base Za "law" (Aq Fi) f cdv A outer s H E).nox (λB=>B=H) (B5 Fi) (Zc JU JV GR GU Ek BK BS GV JW):=
 have hu:=A4 hr
 have hN:=Zb.nd
 (by walk_at "v")
abbrev Zd:Spw:=spR (λ(k:Kd)ws _=>ws=[k.enc]/\k.ok=true/\k.cnt<=1000) λk=>.bl (Bq k)
theorem JX(T:Tx K mg base a):Df P w K mg base "_law_good" 11 1 Zd:=by
 refine mk0 T.kh rfl Y8 AG (λf G Q E⟨x,⟨e,_⟩,_⟩=>by rw[e];rfl) (n7 T (Ja T) (by omega)) λf G Q E g q=>?_;obtain⟨k,⟨rfl,d,hc⟩,q⟩:=q;dsimp only at q;unfold Y9;show Ag (Ap 1 (gC _)) (Ag (Ln _ _ _ _) (Ah _)) (Ar Q) [some k.enc,none] G;simp only[Ag,Ap,gC,Yk,Yl];refine⟨_,⟨λ_ _ z=>z,λ_ _ z=>z,λ_ _ z=>z,λ_ _ z=>z⟩,?_⟩;simp only[AD,Af,Aa,Ac,Ab,Yb,Yc];refine⟨k,⟨rfl,d,hc⟩,λb=>?_,λc=>?_⟩
 ·rw[b]at q;exact q
 ·rw[c]at q;exact⟨T.FA,q⟩
theorem Ze{Av:GS}(h:ge ω G λw a=>Av D (ω.set i (some w)) a):Ag (Ap i ge) Av D ω G:=h
theorem oe(k:Kd)(G:Hw):isF true k.enc .non G=some (.bl true):=by
 obtain⟨xs,e⟩:=lW k;rw[e];rfl
theorem eqb(d:Bool)(G:Hw):eqF true (.bl d) (.bl d) G=some (.bl false):=by unfold eqF eqW;cases d <;> rfl
def kok(k:Kd):Prop:=wf 10 k/\k.dat=true/\k.cnt<=1000
theorem Zf{k:Kd}(h:kok k)(a:Bq k=true):kd8 k:=⟨h.1,of_decide_eq_true (by unfold Bq at a;exact a)⟩
theorem GW(c:Wy){k l:Kd}(h1:kdd k)(h2:kdd l):kok (op c 8 k l):=by
 obtain⟨b,a,_,d⟩:=NM c 8 (DJ h1 h2);have:=h1.1.2.1;have:=h2.1.2.1;exact⟨b,a,by omega⟩
abbrev gB1:GS:=gIf (gTB (Ad (Ae (eqF true)) (Af FM XF (Aa (Ab 8) (Aa (Ab 3) Ac))) (AX (Af FM XF (Aa (Ab 8) (Aa (Ab 1) Ac))) (Af FM XF (Aa (Ab 8) (Aa (Ab 2) Ac)))))) (Ah (gC (.bl false))) Ai
abbrev gB2:GS:=gIf (AQ (AC (Af Zd XF (Aa (Ab 6) Ac))) (gNt (AC (Af FM XF (Aa (Ab 4) (Aa (Ab 6) Ac)))))) (Ah (gC (.bl false))) Ai
abbrev gL2:GS:=Ag (gIf (gNt (AC (Af FM XF (Aa (Ab 4) (Aa (Ab 1) Ac))))) (Ah (gC (.bl true))) Ai) (Ag (Ap 5 (Af (JR 8) XF (Aa (Af MX XF (Aa (Ab 0) (Aa (gC (.int 6)) Ac))) (Aa (Ab 1) Ac)))) (Ag (AF (AB (Au (Aa (Af (GM .ei) XF (Aa (Ab 1) (Aa (Ab 2) Ac))) (Aa (Af (GM .ei) XF (Aa (Ab 2) (Aa (Ab 1) Ac))) (Aa (Af (GM .jn) XF (Aa (Ab 1) (Aa (Ab 2) Ac))) (Aa (Ab 5) Ac)))))) (gNm 6) gB2) (Ah (gC (.bl true)))))
theorem Zg{D:Ew}{gd:Hw->Prop}{G:Hw}{v:Vl}{d e g f j c i:Option W}(b:gd G)(m:vg v)(l:∀ a,D.nx [d,e,g,f,some v.enc,j,a,c,i] G):∀(ks:List Kd)(a:Option W),(∀ k∈ks,kok k/\fit 8 v k)->AY gd (gNm 6) gB2 D (ks.map Kd.enc) [d,e,g,f,some v.enc,j,a,c,i] G
 | [],a,_=>⟨b,l a⟩
 | k::ks,a,h=>by
  obtain⟨h1,h2⟩:=h k Ye;have nx:=λa=>Zg b m l ks a λy o=>h y (Yd _ o);refine⟨b,?_⟩;show gB2 _ [d,e,g,f,some v.enc,j,some k.enc,c,i] G;simp only[gIf,AQ,gNt,AC,Af,Ab,gC,Ah,Ai,Aa,Ac,Yb,Yc];refine⟨k,⟨rfl,h1.1.1,h1.2.2⟩,?_⟩;dsimp only;cases n:Bq k with
  | false=>simp only[AO,Yq,if_false];exact nx _
  | true =>
   simp only[AO,if_true];refine⟨(v,k),⟨rfl,m,Zf h1 n,h1.2.1⟩,?_⟩;dsimp only;rw[show mf 8 v k=none from h2];exact nx _
theorem Zh{D:Ew}{gd:Hw->Prop}{G:Hw}{k l:Kd}{f e m i d:Option W}(b:gd G)(c:kdd k)(hl:kdd l)(hc:cl 8 k l=none)(o:kd8 (op .mt 8 k l))(n:∀ a,D.nx [f,some k.enc,some l.enc,some (op .mt 8 k l).enc,e,m,i,d,a] G):∀(vs:List Vl)(a:Option W),(∀ v∈vs,vg v)->AY gd (gNm 8) gB1 D (vs.map Vl.enc) [f,some k.enc,some l.enc,some (op .mt 8 k l).enc,e,m,i,d,a] G
 | [],a,_=>⟨b,n a⟩
 | v::vs,a,h=>by
  have j:=h v Ye;have nx:=λa=>Zh b c hl hc o n vs a λy q=>h y (Yd _ q);have g:=XZ 8 v (DJ c hl) hc;refine⟨b,?_⟩;show gB1 _ [f,some k.enc,some l.enc,some (op .mt 8 k l).enc,e,m,i,d,some v.enc] G;simp only[gIf,gTB,Ad,AX,Af,Ab,gC,Ah,Ai,Ae,Aa,Ac,Yb,Yc];refine⟨(v,op .mt 8 k l),⟨rfl,j,o,(GW .mt c hl).2.1⟩,(v,k),⟨rfl,j,GL c,c.2⟩,?_⟩;dsimp only;cases h1:mf 8 v k with
  | some p =>
   have h2:(mf 8 v (op .mt 8 k l)).isNone=false:=by
    cases h2:mf 8 v (op .mt 8 k l)with
    | some _=>rfl
    | none=>rw[(g.mp h2).1]at h1;cases h1
   rw[h2,if_neg (show ¬ (some p).isNone=true from YX),eqb,Ao];exact nx _
  | none =>
   refine⟨(v,l),⟨rfl,j,GL hl,hl.2⟩,?_⟩;dsimp only
   have h2:(mf 8 v (op .mt 8 k l)).isNone=(mf 8 v l).isNone:=by
    cases h2:mf 8 v l with
    | none=>rw[g.mpr ⟨h1,h2⟩]
    | some p =>
     cases r:mf 8 v (op .mt 8 k l)with
     | some _=>rfl
     | none=>rw[(g.mp r).2]at h2;cases h2
   rw[h2,eqb,Ao];exact nx _
theorem og(T:Tx K mg base a)(F:Fun K "law" "law" Fi f fd):FnOk P w K mg base (CXe P w) 30 f fd ["script"] (Es K HM):=by
 refine ok0 F Zb (λL G Q E⟨ns,e,_⟩=>by rw[e];rfl) (oa (k:=29) T (JS T) (by omega) (JJ T) (by omega) (Jm T) (by omega) (JX T) (by omega) (Jg T) (by omega) (B3 T) (by omega) (CT T 8) (by omega) (JL T) (by omega) (JK T) (by omega)) λL G Q E S q=>?_;obtain⟨ns,rfl,N,q⟩:=q;unfold Zc;show Ag (Li _ _) _ (Ar Q) [some (.rol (ns.map W.int)),none,none,none,none,none,none,none,none] G;refine⟨ns,0,false,rfl,by decide,λk l c hl=>?_⟩;simp only[Bh,Yk,Yl];refine Ze ⟨(k,l),⟨rfl,c,hl⟩,?_⟩;walk_at "pd";refine Ze ⟨ns,4,k,rfl,by decide,GL c,c.2,λv t=>?_⟩;walk_at "pd"
 have i:∀(y:Hw)(H I r:Option W),gL2 (Ar Q) [some (.rol (ns.map W.int)),some k.enc,some l.enc,H,some v.enc,none,none,I,r] y:=by
  intro y H I r;simp only[gL2,Ag,gIf,gNt,AC,Af,Ab,gC,Ah,Ai,Aa,Ac,Yb,Yc];refine⟨(v,k),⟨rfl,t,GL c,c.2⟩,?_⟩;dsimp only;cases n:mf 8 v k with
  | some p=>exact q _
  | none =>
   simp only[Option.isNone_none,AO,YG,Yq,if_false,Ap];refine⟨ns,6,rfl,by decide,λs x b U=>⟨s,x,b,[],k,rfl,⟨c.1.1,c.2⟩,c.1.2.2,Ak,λB X g=>?_⟩⟩;have h:=GQ g.1 c;simp only[Yk,Yl,AF,AB,Au,Af,Ab,Aa,Ac,Yb,Yc];refine⟨(k,l),⟨rfl,c,hl⟩,(l,k),⟨rfl,hl,c⟩,(k,l),⟨rfl,c,hl⟩,(Qzz 4),λp R=>?_⟩;simp only[Ak];refine Zg (gd:=holds p [(op .ei 8 k l).enc,(op .ei 8 l k).enc,(op .jn 8 k l).enc,B.enc]) Ak t (λ_=>q _) [op .ei 8 k l,op .ei 8 l k,op .jn 8 k l,B] none λj m=>?_;simp only[Yo,Qd,or_false]at m;have d:Wy.ei≠.mt/\Wy.jn≠.mt:=⟨λz=>(by cases z),λz=>(by cases z)⟩;rcases m with rfl | rfl | rfl | rfl
   ·exact⟨GW .ei c hl,JP d.1 8 v (DJ c hl) (.inl n)⟩
   ·exact⟨GW .ei hl c,JP d.1 8 v (DJ hl c) (.inr n)⟩
   ·exact⟨GW .jn c hl,JP d.2 8 v (DJ c hl) (.inl n)⟩
   ·have:=h.1.2.1;exact⟨⟨FG h.1.1,h.2,by omega⟩,g.2 v n⟩
 simp only[Ag,gIf,AQ,gTB,AC,Ad,Ae,Af,Ab,gC,Aa,Ac,Yb,Yc,Ai];cases hc:cl 8 k l with
 | some p=>exact i _ _ _ _
 | none =>
  simp only[XU,oe,Ao,if_true];have m:=GW .mt c hl;refine⟨op .mt 8 k l,⟨rfl,m.1.1,m.2.2⟩,?_⟩;dsimp only;cases O:Bq (op .mt 8 k l)with
  | false=>exact i _ _ _ _
  | true =>
   have J:=Zf m O;simp only[AO,if_true,Ap,Af,Ab,gC,Aa,Ac,Yb,Yc];refine⟨ns,5,op .mt 8 k l,rfl,by decide,J,m.2.1,λD o=>?_⟩;simp only[Yk,Yl,AF,AB,Au,Ab,Aa,Ac,Yb,Yc];refine⟨(Qzz 2),λp R=>?_⟩;simp only[Ak];refine Zh (gd:=holds p [v.enc,D.enc]) Ak c hl hc J (λr=>i _ _ _ _) [v,D] none λu A=>?_;simp only[Yo,Qd,or_false]at A;rcases A with rfl | rfl
   ·exact t
   ·exact o
theorem FQ{e:DictEntry}{i:Int}{t u:Tok}{es:List DictEntry}{D:List (Str×KTD.Dat)}(h1:e.key=.str x t)(h2:e.val=.int i u)(r:KTD.Rows (KTD.Dat.At base) es D):KTD.Rows (KTD.Dat.At base) (e::es) ((x,KTD.Dat.flat (.int i))::D):=
 .cons h1 (by rw[h2];exact PyProof.V.Flat.int i u) r
theorem oh{h:Heap}(X:K.In h)(G:h.Ns mainGlobals mg)(FF:Fns K mg)(NN:Bls mg){c_CastError c_NoKind c_NoValue:Addr}{z_MARKS:Addr}{w0_MARKS w1_MARKS:Tok}{nn_MARKS:Nat}{sl_MARKS:Array (Option Value)}{w_MOST_DEPTH:Tok}{w_MOST_KINDS:Tok}{w_MOST_LETTERS:Tok}{z_LENGTHS:Addr}{ep_LENGTHS:Nat}{e0_LENGTHS e1_LENGTHS e2_LENGTHS e3_LENGTHS e4_LENGTHS e5_LENGTHS:DictEntry}{a0_LENGTHS b0_LENGTHS:Tok}{a1_LENGTHS b1_LENGTHS:Tok}{a2_LENGTHS b2_LENGTHS:Tok}{a3_LENGTHS b3_LENGTHS:Tok}{a4_LENGTHS b4_LENGTHS:Tok}{a5_LENGTHS b5_LENGTHS:Tok}{z_STEPS:Addr}{ep_STEPS:Nat}{q:DictEntry}{z:Tok}{o:Nat}{u:Array (Option Value)}{n:DictEntry}{s:Tok}{e:Addr}{w:Nat}{v:Array (Option Value)}{k:DictEntry}{t:Tok}{d:Addr}{m:Array (Option Value)}{l:DictEntry}{p:Tok}{b:Addr}{A:Array (Option Value)}{y:DictEntry}{r:Tok}{c:Addr}{x:Nat}{g:Array (Option Value)}{w_MOST_VALUES:Tok}{w_MOST_VALUE_DEPTH:Tok}{d_NoKind:ClassData}
  (e_CastError:PySem.W.nsIn K mainGlobals "CastError"=some (some (.ref c_CastError)))
  (e_NoKind:PySem.W.nsIn K mainGlobals "NoKind"=some (some (.ref c_NoKind)))
  (e_NoValue:PySem.W.nsIn K mainGlobals "NoValue"=some (some (.ref c_NoValue)))
  (Ft:PySem.W.nsIn K mainGlobals "MARKS"=some (some (.ref z_MARKS)))
  (l_MARKS:K.lookup z_MARKS=some ⟨.type "tuple",none,.seq #[.str "must" w0_MARKS,.str "may" w1_MARKS] nn_MARKS,sl_MARKS⟩)
  (Fu:PySem.W.nsIn K mainGlobals "MOST_DEPTH"=some (some (.int 8 w_MOST_DEPTH)))
  (Fv:PySem.W.nsIn K mainGlobals "MOST_KINDS"=some (some (.int 40 w_MOST_KINDS)))
  (Fw:PySem.W.nsIn K mainGlobals "MOST_LETTERS"=some (some (.int 8 w_MOST_LETTERS)))
  (v_LENGTHS:PySem.W.nsIn K mainGlobals "LENGTHS"=some (some (.ref z_LENGTHS)))
  (l_LENGTHS:K.lookup z_LENGTHS=some ⟨.type "dict",none,.dict #[e0_LENGTHS,e1_LENGTHS,e2_LENGTHS,e3_LENGTHS,e4_LENGTHS,e5_LENGTHS] ep_LENGTHS,#[]⟩)
  (u_LENGTHS:(z_LENGTHS==sysModules)=false)
  (a0_LENGTHS_:e0_LENGTHS.key=.str "any" a0_LENGTHS)
  (b0_LENGTHS_:e0_LENGTHS.val=.int 1 b0_LENGTHS)
  (a1_LENGTHS_:e1_LENGTHS.key=.str "num" a1_LENGTHS)
  (b1_LENGTHS_:e1_LENGTHS.val=.int 1 b1_LENGTHS)
  (a2_LENGTHS_:e2_LENGTHS.key=.str "truth" a2_LENGTHS)
  (b2_LENGTHS_:e2_LENGTHS.val=.int 1 b2_LENGTHS)
  (a3_LENGTHS_:e3_LENGTHS.key=.str "to" a3_LENGTHS)
  (b3_LENGTHS_:e3_LENGTHS.val=.int 3 b3_LENGTHS)
  (a4_LENGTHS_:e4_LENGTHS.key=.str "box" a4_LENGTHS)
  (b4_LENGTHS_:e4_LENGTHS.val=.int 2 b4_LENGTHS)
  (a5_LENGTHS_:e5_LENGTHS.key=.str "row" a5_LENGTHS)
  (b5_LENGTHS_:e5_LENGTHS.val=.int 3 b5_LENGTHS)
  (v_STEPS:PySem.W.nsIn K mainGlobals "STEPS"=some (some (.ref z_STEPS)))
  (l_STEPS:K.lookup z_STEPS=some ⟨.type "dict",none,.dict #[q,n,k,l,y] ep_STEPS,#[]⟩)
  (u_STEPS:(z_STEPS==sysModules)=false)
  (ka0:q.key=.str "any" z)
  (kb0:q.val=.ref f)
  (kc0:K.lookup f=some ⟨.type "tuple",none,.seq #[] o,u⟩)
  (ka1:n.key=.str "num" s)
  (kb1:n.val=.ref e)
  (kc1:K.lookup e=some ⟨.type "tuple",none,.seq #[] w,v⟩)
  (ka2:k.key=.str "truth" t)
  (kb2:k.val=.ref d)
  (kc2:K.lookup d=some ⟨.type "tuple",none,.seq #[] j,m⟩)
  (ka3:l.key=.str "to" p)
  (kb3:l.val=.ref b)
  (kc3:K.lookup b=some ⟨.type "tuple",none,.seq #[.str "in" sw3_0,.str "out" sw3_1] i,A⟩)
  (ka4:y.key=.str "box" r)
  (kb4:y.val=.ref c)
  (kc4:K.lookup c=some ⟨.type "tuple",none,.seq #[.str "inside" sw4_0] x,g⟩)
  (Fy:PySem.W.nsIn K mainGlobals "MOST_VALUES"=some (some (.int 100 w_MOST_VALUES)))
  (Fz:PySem.W.nsIn K mainGlobals "MOST_VALUE_DEPTH"=some (some (.int 10 w_MOST_VALUE_DEPTH)))
  (Fl:PySem.W.excIn K c_NoKind [.type "ValueError",.type "Exception",.type "BaseException",.type "object"] "ValueError.__new__"=true)
  (Fp:PySem.W.clsIn K c_NoKind=some d_NoKind)
  (Fo:PySem.W.typeIn K (.ref c_NoKind)=some (.type "type"))
  (Fq:PySem.W.subIn K (.ref c_NoKind) (.type "BaseException")=some true)
  (FA:PySem.W.subIn K (.ref c_NoKind) (.ref c_NoKind)=some true)
 :
  ∃ a:Adr,∀ base:Heap,K.In base->Tx K mg base a:=by
 refine⟨⟨c_CastError,c_NoKind,c_NoValue⟩,λbase B=>?_⟩
 exact{
  toFns:=FF
  toBls:=NN
  ko:=PySem.W.mg_of X G e_CastError
  Mv:=PySem.W.mg_of X G e_NoKind
  kq:=PySem.W.mg_of X G e_NoValue
  Fy:=Gm X G Fy
  Fz:=Gm X G Fz
  Ft:=jm X G (dd:=none) (ts:=[("must",w0_MARKS),("may",w1_MARKS)]) Ft l_MARKS (by simp)
  Fu:=Gm X G Fu
  Fv:=Gm X G Fv
  Fw:=Gm X G Fw
  Sr:=jo X G B v_LENGTHS l_LENGTHS u_LENGTHS ⟨rfl,rfl,rfl⟩ rfl (FQ a0_LENGTHS_ b0_LENGTHS_ (FQ a1_LENGTHS_ b1_LENGTHS_ (FQ a2_LENGTHS_ b2_LENGTHS_ (FQ a3_LENGTHS_ b3_LENGTHS_ (FQ a4_LENGTHS_ b4_LENGTHS_ (FQ a5_LENGTHS_ b5_LENGTHS_ .nil))))))
  Ss:=io X G B v_STEPS l_STEPS u_STEPS ⟨rfl,rfl,rfl⟩ rfl (Gf (dd:=none) (ts:=[]) ka0 kb0 kc0 (by simp) (Gf (dd:=none) (ts:=[]) ka1 kb1 kc1 (by simp) (Gf (dd:=none) (ts:=[]) ka2 kb2 kc2 (by simp) (Gf (dd:=none) (ts:=[("in",sw3_0),("out",sw3_1)]) ka3 kb3 kc3 (by simp) (Gf (dd:=none) (ts:=[("inside",sw4_0)]) ka4 kb4 kc4 (by simp) .nil)))))
  Fl:=Fl
  Fo:=Fo
  Fq:=Fq
  FA:=FA
  Fp:=by rw[Fp];rfl}
end KQ
open PySem PySem.W PyProof.Rows
set_option hygiene false in
local macro_rules | `(tactic| walk_at "fb") => `(tactic| (intro _ _ _ _ _ _ us hl; first | (obtain rfl := L3.ln0 hl; rfl) | (obtain ⟨_, _, rfl, g0⟩ := L3.ln1 hl; first | (obtain rfl := L3.ln0 g0; rfl) | (obtain ⟨_, _, rfl, g1⟩ := L3.ln1 g0; first | (obtain rfl := L3.ln0 g1; rfl) | (obtain ⟨_, _, rfl, g2⟩ := L3.ln1 g1; first | (obtain rfl := L3.ln0 g2; rfl) | (obtain ⟨_, _, rfl, g3⟩ := L3.ln1 g2; first | (obtain rfl := L3.ln0 g3; rfl) | (obtain ⟨_, _, rfl, g4⟩ := L3.ln1 g3; obtain rfl := L3.ln0 g4; rfl)))))))
set_option hygiene false in
local macro_rules | `(tactic| walk_at "fk") => `(tactic| (dsimp only [L2.KOf]; refine' L3.jl KX G ?e ?l ?c ?k ?b; (case e => k_is); (case l => k_is); (case c => k_is); (case k => k_is); (case b => walk_at "fb")))
set_option maxRecDepth 100000 in
set_option maxHeartbeats 0 in
theorem PySem.Challenge.cw_castwright_k64_whole_met_and_either_by_v_holds : PySem.Challenge.rw_castwright_k64_whole_met_and_either_by_v.Holds := by
 show KQ.rwS.Holds
 w_on;o_law
 refine holds_open (r:=KQ.rwS.row) (q:=KQ.vwS) (loose:=["LENGTHS","STEPS"]) (N:=5648)
  (Yf:=(kHook KQ.KF KQ.KL KQ.kfe).obs) (Ya:=(kHook KQ.KF KQ.KL KQ.kfe).val) (YP:=(kHook KQ.KF KQ.KL KQ.kfe).says)
  (Xt:=λs=>xlAt KQ.vwS [] s&&recOk (RowW.records KQ.rwS.row.toRowW) s)
  (XP:=XL KQ.vwS []) ?hl (kHook KQ.KF KQ.KL KQ.kfe).of (kHook KQ.KF KQ.KL KQ.kfe).keeps ?g1 XL.keeps rfl rfl rfl ?g2 rfl
  ?g3 (by decide +kernel) ?g4 ?hw ?hc
 case g1=>exact λs e=>xl_of s (Bool.and_eq_true_iff.mp e).1
 case g2=>exact λs e=>recFacts_of (Bool.and_eq_true_iff.mp e).2
 case g3=>first | assumption | decide +kernel
 case g4=>exact⟨rfl,rfl,rfl,rfl,rfl,by decide +kernel⟩
 case hw=>w_witness2
 case hl=>exact byRow2 "special-get-raises" KQ.lbf KQ.lbt
 k_fill
 refine L3.jp (l:=KQ.rwS) (k:=30) ⟨rfl,by decide,by decide⟩ rfl rfl (λw h Y=>PySem.W.kIn_of Y) ?F
 case F =>
  intro w mg fa h KX G hmg
  have FF:KQ.Fns (L2.KOf KX) mg:=by constructor <;> walk_at "fk"
  have NN:KQ.Bls mg:=by constructor <;> exact PySem.W.mg_none_of KX G (by k_is)
  have T:∃ a:KQ.Adr,∀ base:Heap,(L2.KOf KX).In base->KQ.Tx (L2.KOf KX) mg base a:=by
   dsimp only[L2.KOf]at *
   refine' KQ.oh KX G FF NN ?e_CastError ?e_NoKind ?e_NoValue ?Ft ?l_MARKS ?Fu ?Fv ?Fw ?v_LENGTHS ?l_LENGTHS ?u_LENGTHS ?a0_LENGTHS_ ?b0_LENGTHS_ ?a1_LENGTHS_ ?b1_LENGTHS_ ?a2_LENGTHS_ ?b2_LENGTHS_ ?a3_LENGTHS_ ?b3_LENGTHS_ ?a4_LENGTHS_ ?b4_LENGTHS_ ?a5_LENGTHS_ ?b5_LENGTHS_ ?v_STEPS ?l_STEPS ?u_STEPS ?ka0 ?kb0 ?kc0 ?ka1 ?kb1 ?kc1 ?ka2 ?kb2 ?kc2 ?ka3 ?kb3 ?kc3 ?ka4 ?kb4 ?kc4 ?Fy ?Fz ?Fl ?Fp ?Fo ?Fq ?FA
   (case e_CastError=>k_is)
   (case e_NoKind=>k_is)
   (case e_NoValue=>k_is)
   (case Ft=>k_is)
   (case l_MARKS=>k_is)
   (case Fu=>k_is)
   (case Fv=>k_is)
   (case Fw=>k_is)
   (case v_LENGTHS=>k_is)
   (case l_LENGTHS=>k_is)
   (case u_LENGTHS=>decide)
   (case a0_LENGTHS_=>exact rfl)
   (case b0_LENGTHS_=>exact rfl)
   (case a1_LENGTHS_=>exact rfl)
   (case b1_LENGTHS_=>exact rfl)
   (case a2_LENGTHS_=>exact rfl)
   (case b2_LENGTHS_=>exact rfl)
   (case a3_LENGTHS_=>exact rfl)
   (case b3_LENGTHS_=>exact rfl)
   (case a4_LENGTHS_=>exact rfl)
   (case b4_LENGTHS_=>exact rfl)
   (case a5_LENGTHS_=>exact rfl)
   (case b5_LENGTHS_=>exact rfl)
   (case v_STEPS=>k_is)
   (case l_STEPS=>k_is)
   (case u_STEPS=>decide)
   (case ka0=>exact rfl)
   (case kb0=>exact rfl)
   (case kc0=>k_is)
   (case ka1=>exact rfl)
   (case kb1=>exact rfl)
   (case kc1=>k_is)
   (case ka2=>exact rfl)
   (case kb2=>exact rfl)
   (case kc2=>k_is)
   (case ka3=>exact rfl)
   (case kb3=>exact rfl)
   (case kc3=>k_is)
   (case ka4=>exact rfl)
   (case kb4=>exact rfl)
   (case kc4=>k_is)
   (case Fy=>k_is)
   (case Fz=>k_is)
   (case Fl=>k_exc)
   (case Fp=>k_is)
   (case Fo=>k_is)
   (case Fq=>k_is)
   (case FA=>k_is)
  obtain⟨a,T⟩:=T
  obtain⟨f,fd,hm,F,_⟩:=FF.ki
  have e0:=hmg.symm.trans hm
  cases e0
  obtain⟨oc,od,kV,doc,pm,an,cdv,ct,osl,rfl,lk,hcd⟩:=F.ex
  exact⟨_,λs u=>.of_eq rfl,λbase kb nb=>KQ.og (T base kb) F⟩
