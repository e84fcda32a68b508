import PyProof.Rows.All
import Wide.All
import Wide.FinOn
import Lean
import PyProof.EqAt
import PyProof.EqKinds
import PyProof.TupleCall
import PyProof.AttrMissHeap
import KE.KDictOf
import PyProof.SetRoads
import PyProof.CollectWalk
import PyProof.ZipIter
import PyProof.TupleIter
import PyProof.NeKinds
import PyProof.DictStraight
import PyProof.WalksMore
import KE.KDictList
import KE.KSortTup
import KE.KItemsList
import PyProof.EnumMake
import PyProof.EnumStmt
import PyProof.EnumFor
import PyProof.Rows.EnumRows
import KE.KFromBytes
import KE.KIsAll
import KE.KItem
import KE.KSortAsk
import KE.KTab
import KE.KxBytes
import Open.Claim
import Open.Head
import Open.Line
import Open.Row
import OpenK.KCall
import OpenK.KCls
import OpenK.KDescr
import OpenK.KFacts
import OpenK.KGet
import OpenK.KLine
import OpenK.KMake
import OpenK.KMore
import OpenK.KOwn
import OpenK.KRaise
import OpenK.KWalk
import OpenK.Peek
import PySem.Challenge.RW_castwright_k74_less_known_terms
set_option Elab.async false
set_option linter.all false
set_option maxRecDepth 100000
set_option maxHeartbeats 4000000
set_option hygiene false
set_option compiler.extract_closed false
set_option bootstrap.genMatcherCode false
theorem Qzz(n:Nat)(h:n<=9:=by decide):n<=PySem.sizeLine:=Nat.le_trans h (by decide)
noncomputable section
theorem Yb{α:Type u}{a:α}{l:List α}:(a::l)[0]?=some a:=rfl
theorem Yc{α:Type u}{a:α}{l:List α}{i:Nat}:(a::l)[i+1]?=l[i]?:=rfl
abbrev Yd:=@List.mem_cons_of_mem
abbrev Ye:=@List.mem_cons_self
theorem Yg{α:Type u}{a:α}{l:List α}:(a::l).length=l.length+1:=rfl
abbrev Yh:=@List.length_map
theorem Yi{α:Type u}:([]:List α).length=0:=rfl
abbrev Yj:=@List.length_append
theorem Yk{α:Type u}{l:List α}{a b:α}:(a::l).set 0 b=b::l:=rfl
theorem Yl{α:Type u}{l:List α}{n:Nat}{a b:α}:(a::l).set (n+1) b=a::l.set n b:=rfl
theorem Ym{α:Type u}{β:Type v}{f:α->β}{a:α}{l:List α}:(a::l).map f=f a::l.map f:=rfl
abbrev Yn:=@List.size_toArray
abbrev Yo:=@List.mem_cons
abbrev Yp:=@List.getElem?_eq_getElem
abbrev Yq:=@Bool.false_eq_true
abbrev Yr:=@Nat.le_refl
abbrev Ys:=@Nat.ne_of_lt
abbrev Yt:=@Nat.le_trans
abbrev Yu:=@Nat.lt_of_lt_of_le
abbrev Yv:=@List.append_assoc
theorem Yw{α:Type u}(l:List α):[]++l=l:=rfl
abbrev Yx:=@List.append_nil
abbrev Yy:=@List.map_append
abbrev Yz:=@List.mem_append
abbrev YA:=@List.mem_singleton
abbrev YB:=@List.map_map
abbrev YC:=@List.mem_map
theorem YD{α:Type u}{β:Type v}{f:α->β}{a:α}:(some a).map f=some (f a):=rfl
abbrev YE:=@Option.some.inj
abbrev YF:=@Bool.and_eq_true
abbrev YG:=@decide_eq_true
theorem YH{α:Type u}{β:Type v}{f:α->β}:[].map f=[]:=rfl
abbrev YI:=@List.getElem?_append_left
abbrev YJ:=@Nat.lt_of_le_of_lt
abbrev YK:=@Nat.le_of_lt
abbrev YL:=@Nat.lt_irrefl
abbrev YM:=@List.mem_append_right
abbrev YN:=@Array.getElem?_toList
abbrev YO:=@List.getElem?_map
abbrev YQ:=@decide_eq_true_eq
abbrev YR:=@Option.map_eq_some_iff
abbrev YS:=@List.nodup_cons
abbrev YT:=@Array.length_toList
abbrev YU:=@Bool.false_ne_true
abbrev YV:=@Nat.zero_le
abbrev YW:=@Ne.symm
abbrev YX:=@Array.getElem?_eq_getElem
abbrev YY:=@List.getElem?_eq_some_iff
abbrev YZ:=@Nat.le_add_right
abbrev Qa:=@List.not_mem_nil
abbrev Qb:=@List.getD_eq_getElem?_getD
abbrev Qc:=@List.flatMap_cons
abbrev Qd:=@Option.bind_eq_some_iff
abbrev Qe:=@PyProof.Rows.callWith_type1
abbrev Qf:=@List.getElem?_eq_none
abbrev Qg:=@List.length_eq_zero_iff
abbrev Qh:=@List.getElem_mem
abbrev Qi:=@False.elim
abbrev Qj:=@Bool.and_eq_true_iff
abbrev Qk:=@List.cons.inj
abbrev Ql:=@congrArg
abbrev Qm:=@of_decide_eq_true
abbrev Qn:=@decide_eq_false
abbrev Qo:=@absurd
open PySem in
abbrev Qp:=@wpAny_bind
open PySem in
abbrev Qq:=@wpAny_pure
open PySem in
abbrev Qr:=@Heap.get?_push_of_some
open PySem in
abbrev Qs:=@Heap.lt_size
open PySem in
abbrev Qt:=@Heap.get?_push_size
open PySem in
abbrev Qu:=@Heap.size_push
open PySem in
abbrev Qv:=@Heap.SameBut.update
open PySem in
abbrev Qw:=@Heap.get?_update_self
namespace L2
open PySem PySem.Spec PyProof.Rows
noncomputable def ED(s:Stmt):Arguments:=match s with
 | .FunctionDef _ a _ _ _ _ _ _ _ _=>a
 | _=>{posonlyargs:=[],args:=[],vararg:=none,kwonlyargs:=[],kw_defaults:=[],kwarg:=none,defaults:=[]}
noncomputable def B4(s:Stmt):List Stmt:=match s with
 | .FunctionDef _ _ b _ _ _ _ _ _ _=>b
 | _=>[]
noncomputable def Ap(s:Stmt):Scope:=match s with
 | .FunctionDef _ _ _ _ _ _ sc _ _ _=>sc
 | _=>{kind:=.function,names:=[],isGenerator:=false,isCoroutine:=false}
end L2
namespace KU
open PySem PySem.Spec PyProof.Rows L2
 def top (i:Nat):Stmt:=PySem.Challenge.pw_castwright_k74_less_known_terms.main.body.getD i (.Pass ⟨0,0,0,0⟩)
abbrev pwS:Program:=PySem.Challenge.pw_castwright_k74_less_known_terms
abbrev rwS:PySem.W.OpenLaw:=PySem.Challenge.rw_castwright_k74_less_known_terms
theorem wsd:rwS.wellSaid=true:=by kernel_rfl
noncomputable def vwS:Program:=PySem.W.view pwS [1,2,4,5,6,7,8,9,10,11,12,13,14,15,16,17,18,19,20,21,23,24,25,27,28,29,30,31,32,33,34,35,36,37,38,39,41,42,43,44,45,46,47,49,50,51,52,53,54,55,56,57,58,59,60,61,62,63,64,65,66,67,68,69,70,71,72]
noncomputable abbrev en(P:Params)(k:Str)(t:Tok)(v:Value):DictEntry:=⟨PyData.keyHash P k,.str k t,v⟩
noncomputable abbrev co(n:Str)(a l g r f e:Nat)(x y:Value)(z t u:Nat):Obj:=.mk (.type "code") Option.none (.fields #[.str n a,.str n (a+1),.str "/claim/cut.py" (a+2),.int l 0,.int g 0,.int 0 0,.int 0 0,.int 3 0,.ref r,.bool Bool.true,.int f 0,.ref e,.none,x,y,.ref z,.int t 0,.int l 0,.str "/claim/cut.py" u]) #[]
noncomputable abbrev fo(n:Str)(s:Stmt)(q:Str)(t c:Nat):Obj:=.mk (.type "function") Option.none (.func (PySem.W.fnOf n n (ED s) (B4 s) (Ap s) .none .none .none (.str q t) Option.none (.ref c) .none)) #[]
noncomputable abbrev foa(n:Str)(s:Stmt)(c:Nat):Obj:=fo n s "castwright.kinds" 223 c
noncomputable abbrev fob(n:Str)(s:Stmt)(c:Nat):Obj:=fo n s "castwright.known" 344 c
noncomputable abbrev foc(n:Str)(s:Stmt)(c:Nat):Obj:=fo n s "castwright.terms" 366 c
noncomputable abbrev fod(n:Str)(s:Stmt)(c:Nat):Obj:=fo n s "castwright.forgets" 493 c
noncomputable abbrev foe(n:Str)(s:Stmt)(c:Nat):Obj:=fo n s "law_castwright_k74_less_known_terms" 541 c
noncomputable def KF:Params->PySem.W.Frag:=λP=>
 (nat_lit 2,.mk .none Option.none (.dict #[]) #[])::
 (nat_lit 3,.mk (.type "dict") Option.none (.dict #[en P "__name__" 165 (.str "law_castwright_k74_less_known_terms" 541),en P "__doc__" 166 .none,en P "__package__" 167 .none,en P "__loader__" 168 (.builtin "__main__.__loader__#opaque"),en P "__spec__" 169 .none,en P "__annotations__" 170 (.ref 6),en P "__builtins__" 171 (.ref 4),en P "__file__" 173 (.str "/claim/cut.py" 172),en P "__cached__" 174 .none,en P "CastError" 206 (.ref 24),en P "NoTerm" 222 (.ref 37),en P "MOST_KINDS" 226 (.int 40 225),en P "MOST_DEPTH" 228 (.int 8 227),en P "MOST_LETTERS" 230 (.int 8 229),en P "MARKS" 233 (.ref 40),en P "LENGTHS" 252 (.ref 41),en P "entry_of" 261 (.ref 48),en P "names_of" 267 (.ref 53),en P "names_of_both" 275 (.ref 60),en P "is_kind" 282 (.ref 67),en P "is_made_of" 288 (.ref 72),en P "layer_within" 298 (.ref 79),en P "kinds_within" 304 (.ref 84),en P "has_form" 311 (.ref 91),en P "are_fields" 317 (.ref 96),en P "is_field" 324 (.ref 103),en P "is_name" 330 (.ref 108),en P "is_small_letter" 337 (.ref 115),en P "names_rise" 343 (.ref 120),en P "is_less" 351 (.ref 125),en P "is_less_row" 357 (.ref 130),en P "is_less_entry" 365 (.ref 137),en P "MOST_TERMS" 369 (.int 40 368),en P "MOST_TERM_DEPTH" 371 (.int 10 370),en P "MOST_NUMBER" 373 (.int 99999999999999999999 372),en P "FORMS" 431 (.ref 138),en P "check_term" 438 (.ref 160),en P "is_term" 445 (.ref 167),en P "form_of" 452 (.ref 174),en P "parts_of" 458 (.ref 179),en P "has_term_form" 464 (.ref 184),en P "is_of_sort" 472 (.ref 191),en P "is_number" 479 (.ref 198),en P "are_term_fields" 485 (.ref 203),en P "is_term_field" 492 (.ref 210),en P "forgotten" 501 (.ref 217),en P "less_term" 507 (.ref 222),en P "told_by" 513 (.ref 227),en P "all_told" 522 (.ref 234),en P "without_kinds" 528 (.ref 239),en P "with_kind" 534 (.ref 244),en P "with_parts" 540 (.ref 249),en P "_law_state" 551 (.ref 256),en P "_law_take" 561 (.ref 263),en P "_law_kind" 573 (.ref 270),en P "_law_near" 579 (.ref 275),en P "_law_entries" 585 (.ref 280),en P "_law_names" 591 (.ref 285),en P "_law_less" 597 (.ref 290),en P "_law_least" 603 (.ref 295),en P "_law_dim" 609 (.ref 300),en P "_law_blur" 617 (.ref 307),en P "_law_by_name" 623 (.ref 312),en P "_law_term" 642 (.ref 319),en P "_law_any_first" 655 (.ref 326),en P "_law_around" 671 (.ref 333),en P "_law_parts" 677 (.ref 338),en P "_law_size" 683 (.ref 343),en P "_law_drawn" 695 (.ref 350),en P "_law_less_kinds" 708 (.ref 357),en P "_law_less_terms" 719 (.ref 364),en P "_law_less_term" 725 (.ref 369),en P "_law_all_any" 731 (.ref 374),en P "_law_other_name" 738 (.ref 381),en P "_law_turned" 744 (.ref 386),en P "law" 761 (.ref 393)] 76) #[])::
 (nat_lit 15,.mk (.type "tuple") Option.none (.seq #[.type "ValueError"]) #[])::
 (nat_lit 22,.mk (.type "tuple") Option.none (.seq #[]) #[])::
 (nat_lit 23,.mk (.type "dict") Option.none (.dict #[en P "__module__" 196 (.str "castwright.errors" 187),en P "__firstlineno__" 200 (.int 2 199),en P "__static_attributes__" 201 (.ref 22),en P "__weakref__" 203 (.ref 25),en P "__doc__" 204 .none] 3) #[])::
 (nat_lit 24,.mk (.type "type") Option.none (.cls (.mk "CastError" [.type "ValueError"] [.ref 24,.type "ValueError",.type "Exception",.type "BaseException",.type "object"] 23 "CastError" Bool.true [] [.ref 37] Bool.false Option.none Bool.false)) #[Option.some (.ref 15),Option.none,Option.some (.str "CastError" 189),Option.some (.str "CastError" 197),Option.some (.builtin "ValueError.__new__"),Option.some (.bool Bool.true)])::
 (nat_lit 25,.mk (.type "getset_descriptor") Option.none (.fields #[.str "__weakref__" 202,.ref 24,.builtin "ExceptionGroup.__weakref__",.none]) #[])::
 (nat_lit 28,.mk (.type "tuple") Option.none (.seq #[.ref 24]) #[])::
 (nat_lit 35,.mk (.type "tuple") Option.none (.seq #[]) #[])::
 (nat_lit 36,.mk (.type "dict") Option.none (.dict #[en P "__module__" 214 (.str "castwright.errors" 187),en P "__firstlineno__" 218 (.int 4 217),en P "__static_attributes__" 219 (.ref 35),en P "__doc__" 220 .none] 2) #[])::
 (nat_lit 37,.mk (.type "type") Option.none (.cls (.mk "NoTerm" [.ref 24] [.ref 37,.ref 24,.type "ValueError",.type "Exception",.type "BaseException",.type "object"] 36 "NoTerm" Bool.true [] [] Bool.false Option.none Bool.false)) #[Option.some (.ref 28),Option.none,Option.some (.str "NoTerm" 207),Option.some (.str "NoTerm" 215),Option.some (.builtin "ValueError.__new__"),Option.some (.bool Bool.true)])::
 (nat_lit 40,.mk (.type "tuple") Option.none (.seq #[.str "must" 231,.str "may" 232]) #[])::
 (nat_lit 41,.mk (.type "dict") Option.none (.dict #[en P "any" 234 (.int 1 235),en P "num" 236 (.int 1 237),en P "truth" 238 (.int 1 239),en P "to" 240 (.int 3 241),en P "box" 242 (.int 2 243),en P "row" 244 (.int 3 245)] 6) #[])::
 (nat_lit 47,co "entry_of" 253 12 2 42 181 43 (.ref 44) (.ref 45) 46 259 260)::
 (nat_lit 48,foa "entry_of" (top 9) 47)::
 (nat_lit 52,co "names_of" 262 17 1 49 181 50 .none .none 51 265 266)::
 (nat_lit 53,foa "names_of" (top 10) 52)::
 (nat_lit 59,co "names_of_both" 268 19 2 54 181 55 (.ref 56) (.ref 57) 58 273 274)::
 (nat_lit 60,foa "names_of_both" (top 11) 59)::
 (nat_lit 66,co "is_kind" 276 21 1 61 181 62 (.ref 63) (.ref 64) 65 280 281)::
 (nat_lit 67,foa "is_kind" (top 12) 66)::
 (nat_lit 71,co "is_made_of" 283 23 5 68 181 69 .none .none 70 286 287)::
 (nat_lit 72,foa "is_made_of" (top 13) 71)::
 (nat_lit 78,co "layer_within" 289 36 2 73 181 74 (.ref 75) (.ref 76) 77 296 297)::
 (nat_lit 79,foa "layer_within" (top 14) 78)::
 (nat_lit 83,co "kinds_within" 299 41 1 80 181 81 .none .none 82 302 303)::
 (nat_lit 84,foa "kinds_within" (top 15) 83)::
 (nat_lit 90,co "has_form" 305 45 1 85 181 86 (.ref 87) (.ref 88) 89 309 310)::
 (nat_lit 91,foa "has_form" (top 16) 90)::
 (nat_lit 95,co "are_fields" 312 51 1 92 181 93 .none .none 94 315 316)::
 (nat_lit 96,foa "are_fields" (top 17) 95)::
 (nat_lit 102,co "is_field" 318 55 1 97 181 98 (.ref 99) (.ref 100) 101 322 323)::
 (nat_lit 103,foa "is_field" (top 18) 102)::
 (nat_lit 107,co "is_name" 325 59 1 104 181 105 .none .none 106 328 329)::
 (nat_lit 108,foa "is_name" (top 19) 107)::
 (nat_lit 114,co "is_small_letter" 331 63 1 109 181 110 (.ref 111) (.ref 112) 113 335 336)::
 (nat_lit 115,foa "is_small_letter" (top 20) 114)::
 (nat_lit 119,co "names_rise" 338 65 1 116 181 117 .none .none 118 341 342)::
 (nat_lit 120,foa "names_rise" (top 21) 119)::
 (nat_lit 124,co "is_less" 346 68 2 121 181 122 .none .none 123 349 350)::
 (nat_lit 125,fob "is_less" (top 23) 124)::
 (nat_lit 129,co "is_less_row" 352 76 2 126 181 127 .none .none 128 355 356)::
 (nat_lit 130,fob "is_less_row" (top 24) 129)::
 (nat_lit 136,co "is_less_entry" 358 81 2 131 181 132 (.ref 133) (.ref 134) 135 363 364)::
 (nat_lit 137,fob "is_less_entry" (top 25) 136)::
 (nat_lit 138,.mk (.type "dict") Option.none (.dict #[en P "num" 374 (.ref 139),en P "truth" 376 (.ref 140),en P "name" 378 (.ref 141),en P "fun" 380 (.ref 142),en P "call" 384 (.ref 143),en P "rec" 387 (.ref 144),en P "get" 389 (.ref 145),en P "or" 392 (.ref 146),en P "if" 396 (.ref 147),en P "plus" 400 (.ref 148),en P "less" 403 (.ref 149),en P "new" 406 (.ref 150),en P "read" 408 (.ref 151),en P "write" 410 (.ref 152),en P "as" 413 (.ref 153)] 15) #[])::
 (nat_lit 139,.mk (.type "tuple") Option.none (.seq #[.str "number" 375]) #[])::
 (nat_lit 140,.mk (.type "tuple") Option.none (.seq #[.str "truth" 377]) #[])::
 (nat_lit 141,.mk (.type "tuple") Option.none (.seq #[.str "name" 379]) #[])::
 (nat_lit 142,.mk (.type "tuple") Option.none (.seq #[.str "name" 381,.str "kind" 382,.str "term" 383]) #[])::
 (nat_lit 143,.mk (.type "tuple") Option.none (.seq #[.str "term" 385,.str "term" 386]) #[])::
 (nat_lit 144,.mk (.type "tuple") Option.none (.seq #[.str "fields" 388]) #[])::
 (nat_lit 145,.mk (.type "tuple") Option.none (.seq #[.str "term" 390,.str "name" 391]) #[])::
 (nat_lit 146,.mk (.type "tuple") Option.none (.seq #[.str "term" 393,.str "name" 394,.str "term" 395]) #[])::
 (nat_lit 147,.mk (.type "tuple") Option.none (.seq #[.str "term" 397,.str "term" 398,.str "term" 399]) #[])::
 (nat_lit 148,.mk (.type "tuple") Option.none (.seq #[.str "term" 401,.str "term" 402]) #[])::
 (nat_lit 149,.mk (.type "tuple") Option.none (.seq #[.str "term" 404,.str "term" 405]) #[])::
 (nat_lit 150,.mk (.type "tuple") Option.none (.seq #[.str "term" 407]) #[])::
 (nat_lit 151,.mk (.type "tuple") Option.none (.seq #[.str "term" 409]) #[])::
 (nat_lit 152,.mk (.type "tuple") Option.none (.seq #[.str "term" 411,.str "term" 412]) #[])::
 (nat_lit 153,.mk (.type "tuple") Option.none (.seq #[.str "term" 414,.str "kind" 415]) #[])::
 (nat_lit 159,co "check_term" 432 92 1 154 181 155 (.ref 156) (.ref 157) 158 436 437)::
 (nat_lit 160,foc "check_term" (top 31) 159)::
 (nat_lit 166,co "is_term" 439 95 1 161 181 162 (.ref 163) (.ref 164) 165 443 444)::
 (nat_lit 167,foc "is_term" (top 32) 166)::
 (nat_lit 173,co "form_of" 446 97 1 168 181 169 (.ref 170) (.ref 171) 172 450 451)::
 (nat_lit 174,foc "form_of" (top 33) 173)::
 (nat_lit 178,co "parts_of" 453 99 1 175 181 176 .none .none 177 456 457)::
 (nat_lit 179,foc "parts_of" (top 34) 178)::
 (nat_lit 183,co "has_term_form" 459 103 1 180 181 181 .none .none 182 462 463)::
 (nat_lit 184,foc "has_term_form" (top 35) 183)::
 (nat_lit 190,co "is_of_sort" 465 110 2 185 181 186 (.ref 187) (.ref 188) 189 470 471)::
 (nat_lit 191,foc "is_of_sort" (top 36) 190)::
 (nat_lit 197,co "is_number" 473 122 1 192 181 193 (.ref 194) (.ref 195) 196 477 478)::
 (nat_lit 198,foc "is_number" (top 37) 197)::
 (nat_lit 202,co "are_term_fields" 480 126 1 199 181 200 .none .none 201 483 484)::
 (nat_lit 203,foc "are_term_fields" (top 38) 202)::
 (nat_lit 209,co "is_term_field" 486 130 1 204 181 205 (.ref 206) (.ref 207) 208 490 491)::
 (nat_lit 210,foc "is_term_field" (top 39) 209)::
 (nat_lit 216,co "forgotten" 495 133 1 211 181 212 (.ref 213) (.ref 214) 215 499 500)::
 (nat_lit 217,fod "forgotten" (top 41) 216)::
 (nat_lit 221,co "less_term" 502 136 2 218 181 219 .none .none 220 505 506)::
 (nat_lit 222,fod "less_term" (top 42) 221)::
 (nat_lit 226,co "told_by" 508 142 1 223 181 224 .none .none 225 511 512)::
 (nat_lit 227,fod "told_by" (top 43) 226)::
 (nat_lit 233,co "all_told" 514 144 1 228 181 229 (.ref 230) (.ref 231) 232 520 521)::
 (nat_lit 234,fod "all_told" (top 44) 233)::
 (nat_lit 238,co "without_kinds" 523 149 1 235 181 236 .none .none 237 526 527)::
 (nat_lit 239,fod "without_kinds" (top 45) 238)::
 (nat_lit 243,co "with_kind" 529 152 2 240 181 241 .none .none 242 532 533)::
 (nat_lit 244,fod "with_kind" (top 46) 243)::
 (nat_lit 248,co "with_parts" 535 155 2 245 181 246 .none .none 247 538 539)::
 (nat_lit 249,fod "with_parts" (top 47) 248)::
 (nat_lit 255,co "_law_state" 543 165 2 250 181 251 (.ref 252) (.ref 253) 254 549 550)::
 (nat_lit 256,foe "_law_state" (top 49) 255)::
 (nat_lit 262,co "_law_take" 552 172 2 257 181 258 (.ref 259) (.ref 260) 261 559 560)::
 (nat_lit 263,foe "_law_take" (top 50) 262)::
 (nat_lit 269,co "_law_kind" 562 182 2 264 181 265 (.ref 266) (.ref 267) 268 571 572)::
 (nat_lit 270,foe "_law_kind" (top 51) 269)::
 (nat_lit 274,co "_law_near" 574 196 3 271 181 272 .none .none 273 577 578)::
 (nat_lit 275,foe "_law_near" (top 52) 274)::
 (nat_lit 279,co "_law_entries" 580 214 2 276 181 277 .none .none 278 583 584)::
 (nat_lit 280,foe "_law_entries" (top 53) 279)::
 (nat_lit 284,co "_law_names" 586 218 2 281 181 282 .none .none 283 589 590)::
 (nat_lit 285,foe "_law_names" (top 54) 284)::
 (nat_lit 289,co "_law_less" 592 220 2 286 181 287 .none .none 288 595 596)::
 (nat_lit 290,foe "_law_less" (top 55) 289)::
 (nat_lit 294,co "_law_least" 598 236 2 291 181 292 .none .none 293 601 602)::
 (nat_lit 295,foe "_law_least" (top 56) 294)::
 (nat_lit 299,co "_law_dim" 604 247 2 296 181 297 .none .none 298 607 608)::
 (nat_lit 300,foe "_law_dim" (top 57) 299)::
 (nat_lit 306,co "_law_blur" 610 253 2 301 181 302 (.ref 303) (.ref 304) 305 615 616)::
 (nat_lit 307,foe "_law_blur" (top 58) 306)::
 (nat_lit 311,co "_law_by_name" 618 255 4 308 181 309 .none .none 310 621 622)::
 (nat_lit 312,foe "_law_by_name" (top 59) 311)::
 (nat_lit 318,co "_law_term" 624 270 4 313 181 314 (.ref 315) (.ref 316) 317 640 641)::
 (nat_lit 319,foe "_law_term" (top 60) 318)::
 (nat_lit 325,co "_law_any_first" 643 306 4 320 181 321 (.ref 322) (.ref 323) 324 653 654)::
 (nat_lit 326,foe "_law_any_first" (top 61) 325)::
 (nat_lit 332,co "_law_around" 656 312 4 327 181 328 (.ref 329) (.ref 330) 331 669 670)::
 (nat_lit 333,foe "_law_around" (top 62) 332)::
 (nat_lit 337,co "_law_parts" 672 341 1 334 181 335 .none .none 336 675 676)::
 (nat_lit 338,foe "_law_parts" (top 63) 337)::
 (nat_lit 342,co "_law_size" 678 347 1 339 181 340 .none .none 341 681 682)::
 (nat_lit 343,foe "_law_size" (top 64) 342)::
 (nat_lit 349,co "_law_drawn" 684 350 2 344 181 345 (.ref 346) (.ref 347) 348 693 694)::
 (nat_lit 350,foe "_law_drawn" (top 65) 349)::
 (nat_lit 356,co "_law_less_kinds" 696 358 1 351 181 352 (.ref 353) (.ref 354) 355 706 707)::
 (nat_lit 357,foe "_law_less_kinds" (top 66) 356)::
 (nat_lit 363,co "_law_less_terms" 709 374 1 358 181 359 (.ref 360) (.ref 361) 362 717 718)::
 (nat_lit 364,foe "_law_less_terms" (top 67) 363)::
 (nat_lit 368,co "_law_less_term" 720 389 2 365 181 366 .none .none 367 723 724)::
 (nat_lit 369,foe "_law_less_term" (top 68) 368)::
 (nat_lit 373,co "_law_all_any" 726 397 1 370 181 371 .none .none 372 729 730)::
 (nat_lit 374,foe "_law_all_any" (top 69) 373)::
 (nat_lit 380,co "_law_other_name" 732 405 1 375 181 376 (.ref 377) (.ref 378) 379 736 737)::
 (nat_lit 381,foe "_law_other_name" (top 70) 380)::
 (nat_lit 385,co "_law_turned" 739 415 2 382 181 383 .none .none 384 742 743)::
 (nat_lit 386,foe "_law_turned" (top 71) 385)::
 (nat_lit 392,co "law" 745 428 1 387 181 388 (.ref 389) (.ref 390) 391 759 760)::
 (nat_lit 393,foe "law" (top 72) 392)::
 []
noncomputable def KL:List Addr:=2::3::15::22::23::24::25::28::35::36::37::40::41::47::48::52::53::59::60::66::67::71::72::78::79::83::84::90::91::95::96::102::103::107::108::114::115::119::120::124::125::129::130::136::137::138::139::140::141::142::143::144::145::146::147::148::149::150::151::152::153::159::160::166::167::173::174::178::179::183::184::190::191::197::198::202::203::209::210::216::217::221::222::226::227::233::234::238::239::243::244::248::249::255::256::262::263::269::270::274::275::279::280::284::285::289::290::294::295::299::300::306::307::311::312::318::319::325::326::332::333::337::338::342::343::349::350::356::357::363::364::368::369::373::374::380::381::385::386::392::393::[]
theorem kfe(P:Params):KL=(KF P).map (·.1):=by kernel_rfl
section
open PySem.W
abbrev OE(w:World):=openEnds treeTable pwS w 5144
noncomputable abbrev FS(s:Shared):=openSeen vwS ["LENGTHS","FORMS"] (importedModules pwS.main.body) (λs=>xlAt vwS [] s&&recOk (RowW.records rwS.row.toRowW) s) true s
abbrev OB(s:Shared):=(kHook KF KL kfe).obs s
abbrev VA(w:World):=(kHook KF KL kfe).val w
abbrev GD:=openGood vwS ["LENGTHS","FORMS"]
noncomputable abbrev LB(w:World):Prop:=(OE w).map (λs=>(FS s,OB s))=some (GD,VA w)
theorem mpp{α β γ:Type}{o:Option α}{f:α->β}{g:α->γ}{a:β}{b:γ}(h1:o.map f=some a)(h2:o.map g=some b):o.map (λs=>(f s,g s))=some (a,b):=by
 cases o with
 | none=>cases h1
 | some s=>exact Ql some (Prod.ext (YE h1) (YE h2))
theorem mpl{α β γ:Type}{o:Option α}{f:α->β}{g:α->γ}{a:β}{b:γ}(h:o.map (λs=>(f s,g s))=some (a,b)):o.map f=some a:=by
 cases o with
 | none=>cases h
 | some s=>exact Ql some (Prod.ext_iff.mp (YE h)).1
theorem mpr{α β γ:Type}{o:Option α}{f:α->β}{g:α->γ}{a:β}{b:γ}(h:o.map (λs=>(f s,g s))=some (a,b)):o.map g=some b:=by
 cases o with
 | none=>cases h
 | some s=>exact Ql some (Prod.ext_iff.mp (YE h)).2
theorem mpb{α:Type}{o:Option α}{k a b c d e f:α->Bool}(h1:o.map k=some true)(h2:o.map (λs=>a s&&b s&&c s&&d s&&e s&&f s)=some true):o.map (λs=>k s&&a s&&b s&&c s&&d s&&e s&&f s)=some true:=by
 cases o with
 | none=>cases h1
 | some s =>
  have x:k s=true:=YE h1;have y:(a s&&b s&&c s&&d s&&e s&&f s)=true:=YE h2;refine Ql some ?_;show(k s&&a s&&b s&&c s&&d s&&e s&&f s)=true;rw[x];exact y
theorem WQ(w:World):(OE (w.withFollow "special-get-raises" false)).map (λs=>OB s)=some (VA (w.withFollow "special-get-raises" false)):=by kernel_rfl
theorem WR(w:World):(OE (w.withFollow "special-get-raises" false)).map (λs=>seen ((recsOf vwS).map (·.name)) (ownsOf vwS) [] {s with gens:=#[]})=some (expectedOf vwS):=by kernel_rfl
theorem NA(w:World):(OE (w.withFollow "special-get-raises" false)).map (λs=>(s.heap.bltView,tabsOk vwS s))=some ((bltViewBooted,true)):=by kernel_rfl
theorem WT(w:World):(OE (w.withFollow "special-get-raises" false)).map (λs=>s.heap.keysOk (looseW vwS ["LENGTHS","FORMS"]) ((recsOf vwS).map (·.name)) ((litsOf vwS).map (·.1)) ((clssOf vwS (looseW vwS ["LENGTHS","FORMS"])).map (·.name)))=some (true):=by kernel_rfl
theorem WU(w:World):(OE (w.withFollow "special-get-raises" false)).map (λs=>s.heap.accountedOkI (importedModules pwS.main.body)&&s.heap.isNs mainGlobals&&s.heap.isNs builtinsNs&&tablesOk vwS s.heap&&(xlAt vwS [] s&&recOk (RowW.records rwS.row.toRowW) s)&&(s.gens.size==0))=some (true):=by kernel_rfl
theorem WV(w:World):(OE (w.withFollow "special-get-raises" false)).map (λs=>(pinSeenD vwS (drecsOf vwS) s,plainSeenE vwS (looseW vwS ["LENGTHS","FORMS"]) s,plainSeenD vwS ["LENGTHS","FORMS"] s,wideSeen vwS s,clsSeenW vwS ["LENGTHS","FORMS"] s))=some ((pinGoodD (drecsOf vwS),plainGoodE vwS (looseW vwS ["LENGTHS","FORMS"]),plainGoodD vwS ["LENGTHS","FORMS"],wideGood vwS,clsGoodW vwS ["LENGTHS","FORMS"])):=by kernel_rfl
theorem lbf(w:World):LB (w.withFollow "special-get-raises" false):=mpp (mpp (WR w) (mpp (mpl (NA w)) (mpp (mpb (WT w) (WU w)) (mpp (mpr (NA w)) (WV w))))) (WQ w)
theorem WW(w:World):(OE (w.withFollow "special-get-raises" true)).map (λs=>OB s)=some (VA (w.withFollow "special-get-raises" true)):=by kernel_rfl
theorem WX(w:World):(OE (w.withFollow "special-get-raises" true)).map (λs=>seen ((recsOf vwS).map (·.name)) (ownsOf vwS) [] {s with gens:=#[]})=some (expectedOf vwS):=by kernel_rfl
theorem NC(w:World):(OE (w.withFollow "special-get-raises" true)).map (λs=>(s.heap.bltView,tabsOk vwS s))=some ((bltViewBooted,true)):=by kernel_rfl
theorem WY(w:World):(OE (w.withFollow "special-get-raises" true)).map (λs=>s.heap.keysOk (looseW vwS ["LENGTHS","FORMS"]) ((recsOf vwS).map (·.name)) ((litsOf vwS).map (·.1)) ((clssOf vwS (looseW vwS ["LENGTHS","FORMS"])).map (·.name)))=some (true):=by kernel_rfl
theorem WZ(w:World):(OE (w.withFollow "special-get-raises" true)).map (λs=>s.heap.accountedOkI (importedModules pwS.main.body)&&s.heap.isNs mainGlobals&&s.heap.isNs builtinsNs&&tablesOk vwS s.heap&&(xlAt vwS [] s&&recOk (RowW.records rwS.row.toRowW) s)&&(s.gens.size==0))=some (true):=by kernel_rfl
theorem W0(w:World):(OE (w.withFollow "special-get-raises" true)).map (λs=>(pinSeenD vwS (drecsOf vwS) s,plainSeenE vwS (looseW vwS ["LENGTHS","FORMS"]) s,plainSeenD vwS ["LENGTHS","FORMS"] s,wideSeen vwS s,clsSeenW vwS ["LENGTHS","FORMS"] s))=some ((pinGoodD (drecsOf vwS),plainGoodE vwS (looseW vwS ["LENGTHS","FORMS"]),plainGoodD vwS ["LENGTHS","FORMS"],wideGood vwS,clsGoodW vwS ["LENGTHS","FORMS"])):=by kernel_rfl
theorem lbt(w:World):LB (w.withFollow "special-get-raises" true):=mpp (mpp (WX w) (mpp (mpl (NC w)) (mpp (mpb (WY w) (WZ w)) (mpp (mpr (NC w)) (W0 w))))) (WW w)
end
end KU
namespace L2
open PySem PySem.Spec PyProof.Rows
abbrev Key:=Sum Int Str
noncomputable def Du:Key->Value->Bool
 | .inl k,v=>Value.isInt k v
 | .inr x,v=>Value.isStrOf x v
noncomputable def W1(w:World):Key->Int
 | .inl k=>hashInt k
 | .inr x=>hashStr w x
theorem C8:∀{k:Key}{v:Value},Du k v=true->(∃ i t,k=Sum.inl i/\v=Value.int i t)\/(∃ x t,k=Sum.inr x/\v=Value.str x t)
 | .inl i,v,h=>by
  obtain⟨t,e⟩:=Value.isInt_shape h;exact .inl ⟨i,t,rfl,e⟩
 | .inr x,v,h=>by
  obtain⟨t,e⟩:=Value.isStrOf_shape h;exact .inr ⟨x,t,rfl,e⟩
theorem W2(x:Str)(t:Tok):Du (.inr x) (.str x t)=true:=by simp[Du,Value.isStrOf]
theorem W3(a b:Int):decide ((Sum.inl a:Key)=Sum.inl b)=(a==b):=by
 by_cases e:a=b
 ·subst e;simp
 ·have h:¬ (Sum.inl a:Key)=Sum.inl b:=λq=>e (Sum.inl.inj q);rw[Qn h];exact(beq_eq_false_iff_ne.mpr e).symm
theorem W4(a b:Str):decide ((Sum.inr a:Key)=Sum.inr b)=decide (a=b):=by
 by_cases e:a=b
 ·simp
 ·have h:¬ (Sum.inr a:Key)=Sum.inr b:=λq=>e (Sum.inr.inj q);rw[Qn h,Qn e]
theorem W5(a:Int)(b:Str):decide ((Sum.inl a:Key)=Sum.inr b)=false:=Qn (λq=>nomatch q)
theorem W6(a:Str)(b:Int):decide ((Sum.inr a:Key)=Sum.inl b)=false:=Qn (λq=>nomatch q)
noncomputable def A4(prog:Program)(w:World):PySem.KeyKind prog w Key where
 is:=Du
 hash:=W1 w
 inj:=λv a b ha hb=>by
  rcases C8 ha with⟨i,t,rfl,rfl⟩|⟨x,t,rfl,rfl⟩
  ·rcases C8 hb with⟨j,u,rfl,e⟩|⟨y,u,rfl,e⟩
   ·injection e with e1 _;rw[e1]
   ·exact nomatch e
  ·rcases C8 hb with⟨j,u,rfl,e⟩|⟨y,u,rfl,e⟩
   ·exact nomatch e
   ·injection e with e1 _;rw[e1]
 byValue:=λk v h=>by
  rcases C8 h with⟨i,t,rfl,rfl⟩|⟨x,t,rfl,rfl⟩ <;> rfl
 pyHash:=λhv h=>by
  rcases C8 hv with⟨i,t,rfl,rfl⟩|⟨x,t,rfl,rfl⟩
  ·exact wpAny_pyHash_int h
  ·exact wpAny_pyHash_str h
 eqBool:=λhu hv h=>by
  rcases C8 hu with⟨i,t,rfl,rfl⟩|⟨x,t,rfl,rfl⟩
  ·rcases C8 hv with⟨j,u,rfl,rfl⟩|⟨y,u,rfl,rfl⟩
   ·rw[W3]at h;exact wpAny_eqBool_int h
   ·rw[W5]at h;exact SeqAt.EqAt.int_str i t y u _ _ _ _ h
  ·rcases C8 hv with⟨j,u,rfl,rfl⟩|⟨y,u,rfl,rfl⟩
   ·rw[W6]at h;exact SeqAt.EqAt.str_int x t j u _ _ _ _ h
   ·rw[W4]at h;exact wpAny_eqBool_str h
 «strs»:=λk x t v h=>by
  rcases C8 h with⟨i,u,rfl,e⟩|⟨y,u,rfl,e⟩
  ·exact nomatch e
  ·injection e with e1 _
   subst e1
   cases v <;> rfl
theorem JQ(prog:Program)(w:World)(x:Str)(t:Tok):(A4 prog w).is (.inr x) (.str x t)=true:=W2 x t
inductive V where
 | non | bl (b:Bool)| int (i:Int)| str (x:Str)| byt (b:Array UInt8)| flt (b:UInt64)| ref (a:Addr)| ty (n:String)
 deriving DecidableEq
noncomputable def RelV:V->Value->Prop
 | .non,u=>u=Value.none
 | .bl b,u=>u=Value.bool b
 | .int i,u=>∃ t,u=Value.int i t
 | .str x,u=>∃ t,u=Value.str x t
 | .byt b,u=>∃ t,u=Value.bytes b t
 | .flt b,u=>∃ t,u=Value.float b t
 | .ref a,u=>u=Value.ref a
 | .ty n,u=>u=Value.type n
abbrev Vals:List V->List Value->Prop:=Paired RelV
theorem Vals.length(r:Vals xs a):xs.length=a.length:=Paired.length r
theorem Vals.get:∀{xs:List V}{a:List Value}{i:Nat}{x:V},Vals xs a->xs[i]?=some x->∃ u,a[i]?=some u/\RelV x u
 | _,_,_,_,.nil,e=>by simp at e
 | _,_,0,_,.cons r _,e=>by simp at e;subst e;exact⟨_,rfl,r⟩
 | _,_,i+1,x,.cons _ t,e=>by
  obtain⟨u,h1,h2⟩:=Vals.get t (by simpa using e);exact⟨u,by simpa using h1,h2⟩
theorem Vals.set(r:RelV x u):∀{xs:List V}{a:List Value}(i:Nat),Vals xs a->Vals (xs.set i x) (a.set i u)
 | _,_,_,.nil=>.nil
 | _,_,0,.cons _ t=>.cons r t
 | _,_,i+1,.cons q t=>.cons q (Vals.set r i t)
theorem Vals.append:∀{xs ys:List V}{b a:List Value},Vals xs b->Vals ys a->Vals (xs++ys) (b++a):=by intro xs ys b a h s;induction h with | nil=>exact s | cons r _ ih=>exact .cons r ih
theorem Vals.take:∀{xs:List V}{a:List Value}(n:Nat),Vals xs a->Vals (xs.take n) (a.take n)
 | _,_,0,_|_,_,_+1,.nil=>.nil
 | _,_,n+1,.cons r t=>.cons r (Vals.take n t)
theorem Vals.drop:∀{xs:List V}{a:List Value}(n:Nat),Vals xs a->Vals (xs.drop n) (a.drop n)
 | _,_,0,r=>r
 | _,_,_+1,.nil=>.nil
 | _,_,n+1,.cons _ t=>Vals.drop n t
noncomputable def ND:Option V->Option Value->Prop
 | some v,some u=>RelV v u
 | none,none=>True
 | _,_=>False
noncomputable def KV{κ:Type}:List (κ×V)->List (κ×Value)->Prop:=Paired λ(p:κ×V)(q:κ×Value)=>p.1=q.1/\RelV p.2 q.2
def kV:Key->V
 | .inl i=>.int i
 | .inr x=>.str x
inductive HO where
 | lst (xs:List V)
 | tup (xs:List V)
 | dK (kvs:List (Key×V))| dT (kvs:List (List Key×V))
 | set (S:Int->Bool) (n:Nat)
 | ins (C dx:Addr) (fs:List (Str×V))
 | own (x:Addr)
 | xd (fs:List (Str×V))
 | met (f x:Addr)
 | rng (lo hi:Int)
 | frz (o:Obj) (u:HO)
 | tbl (ps:Array Value)
 | ext (φ:Heap->Prop)
abbrev Hp:=Addr->Option HO
noncomputable def upd(H:Hp)(a:Addr)(o:HO):Hp:=λb=>if b=a then some o else H b
theorem BJ:upd H a o a=some o:=by unfold upd;rw[if_pos rfl]
theorem A7(h:b≠a):upd H a o b=H b:=by unfold upd;rw[if_neg h]
theorem EE{H:Hp}(h:H a=some o)(h':H b=none):a≠b:=by
 intro e;subst e;rw[h]at h';cases h'
noncomputable def TupP(h:Heap)(a:Addr)(items:Array Value):Prop:=∃ o,h.get? a=some o/\o.cls=.type "tuple"/\o.dict=none/\∃ n,o.data=.seq items n
theorem TupP.new(h:Heap)(items:Array Value):TupP (h.push {cls:=.type "tuple",data:=.seq items}) h.objs.size items:=⟨_,Qt _ rfl,rfl,rfl,_,rfl⟩
theorem TupP.up(x:TupP h a items):IsTup h a items:=let⟨o,e,c,_,d⟩:=x;⟨o,e,c,d⟩
section
variable (P:Program)(w:World)
noncomputable def ObjOk(H:Hp)(h:Heap)(a:Addr):HO->Prop
 | .lst xs=>xs.length<=sizeLine/\∃(its:List Value)(n:Nat),Vals xs its/\h.get? a=some {cls:=.type "list",data:=.seq its.toArray n}
 | .tup xs=>xs.length<=sizeLine/\∃ its:List Value,Vals xs its/\TupP h a its.toArray
 | .dK kvs=>kvs.length<=sizeLine/\(a==sysModules)=false/\∃ vs,KV kvs vs/\h.DictOf (A4 P w) a vs
 | .dT kvs=>kvs.length<=sizeLine/\(a==sysModules)=false/\∃ xs:List (List Key×Addr×Value),
   Paired (λ(p:List Key×V)(q:List Key×Addr×Value)=>p.1=q.1/\H q.2.1=some (.tup (p.1.map kV))/\RelV p.2 q.2.2) kvs xs/\
   ∃ o es ep,h.get? a=some o/\o.ExactDict/\o.data=.dict es ep/\es.toList=xs.map (entryOfKey (tupleKind (A4 P w)))/\(xs.map (·.1)).Nodup
 | .set S n=>h.SetOf (intKind P w) a S n
 | .ins C dx fs=>H dx=some (.own a)/\fs.length<=1000/\dx≠a/\h.get? a=some (PySem.W.instObj C dx)/\
   ∃ mA,h.Ns1 dx mA/\(∀ f,ND (fs.lookup f) (mA f))/\PySem.Within mA (fs.map (·.1))
 | .own _=>∃ o,h.get? a=some o
 | .xd fs=>∃ mA,h.Ns1 a mA/\∀ f,ND (fs.lookup f) (mA f)
 | .rng lo hi=>∃ t u v,h.get? a=some {cls:=.type "range",data:=.fields #[.int lo t,.int hi u,.int 1 v]}
 | .frz o u=>h.get? a=some o/\ObjOk H h a u
 | .tbl ps=>h.get? a=some {cls:=.none,data:=.fields ps}
 | .met f x=>h.get? a=some (PySem.W.methodObj (.ref f) (.ref x))
 | .ext φ=>φ h/\(∃ o,h.get? a=some o)/\∀ h1 h2:Heap,φ h1->(∀ o,h1.get? a=some o->h2.get? a=some o)->φ h2
noncomputable def HOk(H:Hp)(h:Heap):Prop:=∀ a o,H a=some o->ObjOk P w H h a o
end
theorem ObjOk.lt(x:ObjOk P w H h a o):a < h.objs.size:=by
 cases o with
 | lst xs=>obtain⟨_,_,_,_,e⟩:=x;exact Qs e
 | tup xs=>obtain⟨_,_,_,p⟩:=x;exact p.up.lt
 | dK b|dT b=>obtain⟨_,_,_,_,o,_,_,e,_⟩:=x;exact Qs e
 | set S n=>obtain⟨o,_,_,_,e,_⟩:=x;exact Qs e
 | ins C dx fs=>obtain⟨_,_,_,e,_⟩:=x;exact Qs e
 | own y=>obtain⟨_,e⟩:=x;exact Qs e
 | xd fs=>obtain⟨_,⟨_,_,_,e,_⟩,_⟩:=x;exact Qs e
 | rng lo hi=>obtain⟨_,_,_,e⟩:=x;exact Qs e
 | frz c u=>obtain⟨e,_⟩:=x;exact Qs e
 | tbl ps|met f y=>exact Qs (x)
 | ext φ=>obtain⟨_,⟨_,e⟩,_⟩:=x;exact Qs e
variable {a:Addr} in
theorem Paired.mapP{α β:Type}{F G:α->β->Prop}:∀{l₁:List α}{l₂:List β},Paired F l₁ l₂->(∀ a b,F a b->G a b)->Paired G l₁ l₂:=by intro l m h f;induction h with | nil=>exact .nil | cons r _ ih=>exact .cons (f _ _ r) ih
theorem ObjOk.stay(x:ObjOk P w H h a o)(k:∀ b u,(b=a\/H b=some (.own a))->h.get? b=some u->h'.get? b=some u)(s:∀ b,H b=some (.own a)->H' b=some (.own a))(A:∀ b xs,H b=some (.tup xs)->H' b=some (.tup xs)):ObjOk P w H' h' a o:=by
 induction o with
 | lst xs=>obtain⟨z,j,n,r,e⟩:=x;exact⟨z,j,n,r,k _ _ (.inl rfl) e⟩
 | tup xs=>obtain⟨z,j,r,g,e,c⟩:=x;exact⟨z,j,r,g,k _ _ (.inl rfl) e,c⟩
 | dK l=>obtain⟨z,y,B,r,g,es,i,e,c⟩:=x;exact⟨z,y,B,r,g,es,i,k _ _ (.inl rfl) e,c⟩
 | dT l =>
  obtain⟨z,y,xs,r,g,es,i,e,c⟩:=x;exact⟨z,y,xs,Paired.mapP r λp q z=>⟨z.1,A _ _ z.2.1,z.2.2⟩,g,es,i,k _ _ (.inl rfl) e,c⟩
 | set S n=>obtain⟨g,es,i,t,e,c⟩:=x;exact⟨g,es,i,t,k _ _ (.inl rfl) e,c⟩
 | ins C dx fs =>
  obtain⟨d,z,ne,e,mA,⟨m,es,i,E,c⟩,r⟩:=x;exact⟨s _ d,z,ne,k _ _ (.inl rfl) e,mA,⟨m,es,i,k _ _ (.inr d) E,c⟩,r⟩
 | own y=>obtain⟨g,e⟩:=x;exact⟨g,k _ _ (.inl rfl) e⟩
 | xd fs=>obtain⟨mA,⟨m,es,i,e,c⟩,r⟩:=x;exact⟨mA,⟨m,es,i,k _ _ (.inl rfl) e,c⟩,r⟩
 | rng lo hi=>obtain⟨t,u,v,e⟩:=x;exact⟨t,u,v,k _ _ (.inl rfl) e⟩
 | frz g u D=>obtain⟨e,q⟩:=x;exact⟨k _ _ (.inl rfl) e,D q⟩
 | tbl ps|met f y=>
  have e:=x;exact k a _ (.inl rfl) e
 | ext φ=>obtain⟨p,⟨o,e⟩,st⟩:=x;exact⟨st _ _ p λo q=>k _ _ (.inl rfl) q,⟨o,k _ _ (.inl rfl) e⟩,st⟩
theorem HOk.lt(x:HOk P w H h)(e:H a=some o):a < h.objs.size:=(x a o e).lt
theorem HOk.fresh{a:Addr}(x:HOk P w H h)(e:h.objs.size<=a):H a=none:=by
 cases q:H a with
 | none=>rfl
 | some u=>exact Qo (Yu (x.lt q) e) (YL _)
theorem HOk.kept(x:HOk P w H h)(k:∀ b u,h.get? b=some u->h'.get? b=some u):HOk P w H h':=λa o e=>
 (x a o e).stay (λb u _ q=>k b u q) (λ_ q=>q) λ_ _ q=>q
theorem HOk.laid{a:Addr}(x:HOk P w H h)(k:∀ b u,h.get? b=some u->h'.get? b=some u)(g:h.objs.size<=a)(new:ObjOk P w (upd H a o) h' a o):HOk P w (upd H a o) h':=λb u e=>by
 have d:=x.fresh g;by_cases f:b=a
 ·subst f;rw[BJ]at e;cases e;exact new
 ·rw[A7 f]at e;exact(x b u e).stay (λc v _ q=>k c v q) (λc q=>by rw[A7 (EE q d)];exact q) λc xs q=>by rw[A7 (EE q d)];exact q
noncomputable def Rd(H:Hp)(a:Addr)(u:HO):Prop:=H a=some u\/∃ o,H a=some (.frz o u)
theorem Rd.of(h:H a=some u):Rd H a u:=.inl h
theorem Rd.ok(r:Rd H a u)(x:HOk P w H h):ObjOk P w H h a u:=by
 rcases r with r |⟨o,r⟩
 ·exact x a u r
 ·obtain⟨_,q⟩:=x a _ r;exact q
noncomputable def Mut:Option HO->Prop
 | some (.lst _)|some (.dK _)|some (.dT _)|some (.set _ _)|some (.ins _ _ _)|some (.ext _)=>True
 | _=>False
theorem HOk.write(ok:HOk P w H h)(g:Mut (H x))(l:e=x\/H e=some (.own x))(k:∀ b u,b≠e->h.get? b=some u->h'.get? b=some u)(j:∃ u,h'.get? e=some u)(new:ObjOk P w (upd H x o') h' x o'):HOk P w (upd H x o') h':=λb u q=>by
 have d:∀ c y,H c=some (.own y)->c≠x:=λc y r z=>by subst z;rw[r]at g;exact g
 have f:∀ c xs,H c=some (.tup xs)->c≠x:=λc xs r z=>by subst z;rw[r]at g;exact g
 by_cases i:b=x
 ·subst i;rw[BJ]at q;cases q;exact new
 ·rw[A7 i]at q;by_cases a:b=e
  ·have m:H b=some (.own x):=by
    rcases l with z | z
    ·exact Qo (a.trans z) i
    ·rw[a];exact z
   rw[q]at m;cases m;obtain⟨v,n⟩:=j;exact⟨v,by rw[a];exact n⟩
  ·refine(ok b u q).stay (λc v hc r=>k c v ?_ r) (λc r=>by rw[A7 (d c b r)];exact r) λc xs r=>by rw[A7 (f c xs r)];exact r
   rcases hc with rfl | hc
   ·exact a
   ·rintro rfl;rcases l with z | z
    ·exact d c b hc z
    ·rw[hc]at z;cases z;exact i rfl
structure Un(fs ex:List Addr)(H H':Hp)(h h':Heap):Prop where
 keep:∀ b o,h.get? b=some o->H b=none->b∉fs->b∉ex->h'.get? b=some o
 slot:∀ b o,h.get? b=some o->H b=none->b∈fs->b∉ex->∃ sl,h'.get? b=some {o with slots:=sl}
 free:∀ b o,h.get? b=some o->H b=none->b∉ex->H' b=none
 there:∀ b o,h.get? b=some o->b∉ex->∃ o',h'.get? b=some o'
 tups:∀ b xs,H b=some (.tup xs)->H' b=some (.tup xs)
 frzs:∀ b o u,H b=some (.frz o u)->H' b=some (.frz o u)
 tbls:∀ b ps,H b=some (.tbl ps)->∃ more,H' b=some (.tbl (ps++more))
theorem Un.any(u:Un fs ex H H1 h h1)(q:h.get? b=some a)(n:H b=none)(c:b∉ex):∃ e,h1.get? b=some {a with slots:=e}:=by
 by_cases d:b∈fs
 ·exact u.slot b a q n d c
 ·exact⟨a.slots,u.keep b a q n d c⟩
theorem Un.trans(a:Un fs ex H H1 h h1)(b:Un fs ex H1 H2 h1 h2):Un fs ex H H2 h h2 where
 keep:=λc d q n hc e=>b.keep c d (a.keep c d q n hc e) (a.free c d q n e) hc e
 slot:=λc d q n hc e=>by
  obtain⟨l,f⟩:=a.slot c d q n hc e;obtain⟨g,i⟩:=b.slot c _ f (a.free c d q n e) hc e;exact⟨g,i⟩
 free:=λc d q n e=>by
  obtain⟨o',f⟩:=a.there c d q e;exact b.free c o' f (a.free c d q n e) e
 there:=λc d q e=>by
  obtain⟨o',f⟩:=a.there c d q e;exact b.there c o' f e
 tups:=λc xs q=>b.tups c xs (a.tups c xs q)
 frzs:=λc d xs q=>b.frzs c d xs (a.frzs c d xs q)
 tbls:=λc ps q=>by
  obtain⟨j,f⟩:=a.tbls c ps q;obtain⟨k,i⟩:=b.tbls c _ f;exact⟨j++k,by rw[i,Array.append_assoc]⟩
theorem Un.kept(k:∀ b u,h.get? b=some u->h'.get? b=some u):Un fs ex H H h h' :=
 ⟨λb a q _ _ _=>k b a q,λb a q _ _ _=>⟨a.slots,k b a q⟩,λ_ _ _ n _=>n,λb a q _=>⟨a,k b a q⟩,λ_ _ q=>q,λ_ _ _ q=>q,λ_ ps q=>⟨#[],by rw[q];simp⟩⟩
theorem Un.refl:Un fs ex H H h h:=Un.kept λ_ _ q=>q
theorem Un.laid{h:Heap}{a:Addr}(k:∀ b u,h.get? b=some u->h'.get? b=some u)(d:h.objs.size<=a)(c:H a=none):Un fs ex H (upd H a o) h h' where
 keep:=λb u q _ _ _=>k b u q
 slot:=λb u q _ _ _=>⟨u.slots,k b u q⟩
 free:=λb u q n _=>by rw[A7 (Ys (Yu (Qs q) d))];exact n
 there:=λb u q _=>⟨u,k b u q⟩
 tups:=λb xs q=>by rw[A7 (EE q c)];exact q
 frzs:=λb u xs q=>by rw[A7 (EE q c)];exact q
 tbls:=λb ps q=>⟨#[],by rw[A7 (EE q c),q];simp⟩
theorem Un.write(c:Mut (H x))(j:e=x\/H e=some (.own x))(k:∀ b u,b≠e->h.get? b=some u->h'.get? b=some u)(d:∃ u,h'.get? e=some u):Un fs ex H (upd H x o) h h':=by
 have i:∀ b,H b=none->b≠x:=λb n z=>by subst z;rw[n]at c;exact c
 have g:∀ b,H b=none->b≠e:=λb n z=>by
  subst z;rcases j with r | r
  ·exact i b n r
  ·rw[n]at r;cases r
 have f:∀ b u,H b=some u->¬ Mut (some u)->b≠x:=λb u q nm z=>by subst z;rw[q]at c;exact nm c
 refine⟨λb u q n _ _=>k b u (g b n) q,λb u q n _ _=>⟨u.slots,k b u (g b n) q⟩,λb u q n _=>by rw[A7 (i b n)];exact n,λb u q _=>?_,
  λb xs q=>by rw[A7 (f b _ q λz=>z)];exact q,λb u xs q=>by rw[A7 (f b _ q λz=>z)];exact q,λb ps q=>⟨#[],by rw[A7 (f b _ q λz=>z),q];simp⟩⟩
 by_cases a:b=e
 ·subst a;exact d
 ·exact⟨u,k b u a q⟩
theorem Un.mono(u:Un fs ex H H1 h h1)(hs:∀ b∈fs,b∈fs')(d:∀ b∈ex,b∈ex'):Un fs' ex' H H1 h h1 :=
 ⟨λb c q n e a=>u.keep b c q n (λz=>e (hs b z)) λz=>a (d b z),λ_ _ q n _ a=>u.any q n λz=>a (d _ z),λb c q n a=>u.free b c q n λz=>a (d b z),λb c q a=>u.there b c q λz=>a (d b z),u.tups,u.frzs,u.tbls⟩
noncomputable def trk(h:Heap)(H:Hp):List Addr:=(List.range h.objs.size).filter λa=>(H a).isSome
def DM(h:Heap)(H:Hp):Heap:=PySem.W.hideAll h (trk h H)
theorem W7(h:Heap)(H:Hp):(DM h H).objs.size=h.objs.size:=PySem.W.hideAll_size _ _
theorem W8(e:h.get? b=some o)(n:H b=none):(DM h H).get? b=some o :=
 PySem.W.hideAll_get _ e λa=>by
  have q:=(List.mem_filter.mp a).2;rw[n]at q;simp at q
theorem W9(e:(DM h H).get? b=some o):h.get? b=some o/\H b=none:=by
 have a:=PySem.W.of_hideAll (trk h H) e;refine⟨a,?_⟩;cases q:H b with
 | none=>rfl
 | some x =>
  have c:b∈trk h H:=List.mem_filter.mpr ⟨List.mem_range.mpr (Qs a),by simp[q]⟩;have z:(DM h H).get? b=none:=PySem.W.hideAll_none (trk h H) c;rw[z]at e;cases e
noncomputable def Xa(g h:Heap)(L:Addr):List (Addr×Obj):=(List.range h.objs.size).filterMap λa=>if a=L\/(g.get? a).isSome=true then none else(h.get? a).map λo=>(a,o)
noncomputable def rest(g h:Heap)(L d:Addr):List (Addr×Obj):=(Xa g h L).filter λp=>decide (p.1≠d)
structure Mod(K:PySem.W.Frag)(mg:Str->Option Value)(base:Heap):Prop where
 kin:K.In base
 glob:base.Ns mainGlobals mg
 blt:∃ mb,base.Ns builtinsNs mb/\∀ x:Str,x≠"__name__"->mb x=bootBuiltins x
 nolimit:base.NoLimit
structure Cx where
 prog:Program
 w:World
 K:PySem.W.Frag
 mg:Str->Option Value
 base:Heap
 A:Around
 N:List Str
 s₀:Shared
 H₀:Hp
 env:Env
 outer:List Env
 stack:List Env
 ex:List Addr
 fn:Str->Bool
 calm:Bool
 pn:List (Addr×Obj)
 xe:Value->Shared->Prop
def frs(l:List Env):List Addr:=l.filterMap (·.frame)
abbrev Cx.fs(X:Cx):List Addr:=frs X.outer
noncomputable def Vis(sc:Scope)(x:Str):Prop:=sc.names.lookup x=some .local\/sc.names.lookup x=some .cell\/sc.names.lookup x=some .free
noncomputable def Loc(sc:Scope)(x:Str):Prop:=sc.names.lookup x=some .local\/sc.names.lookup x=some .cell
noncomputable def Xb(env:Env)(h:Heap)(m:Str->Option Value)(x:Str)(u:Value):Prop :=
 (env.kindOf x=some .local/\m x=some u)\/((env.kindOf x=some .cell\/env.kindOf x=some .free)/\∃ c,env.cells.lookup x=some c/\h.IsCell c (some u))
structure Cx.Ok(X:Cx):Prop where
 mod:Mod X.K X.mg X.base
 kind:X.env.scope.kind=.function
 glob:X.env.globals=mainGlobals
 blt:X.env.builtins=builtinsNs
 above:X.s₀.heap.objs.size<=X.env.locals
 inj:∀ x y c,X.env.cells.lookup x=some c->X.env.cells.lookup y=some c->x=y
 has:∀ x,(X.env.kindOf x=some .cell\/X.env.kindOf x=some .free)->∃ c,X.env.cells.lookup x=some c
 cab:∀ x c,X.fn x=true->X.env.cells.lookup x=some c->X.s₀.heap.objs.size<=c
 hd:X.calm=true->X.A.handled=none
 frames:X.A.frames=some X.stack
 stk:X.stack=X.outer\/(X.stack=X.env::X.outer/\X.env.frame=some X.env.locals)
 exf:∀ b∈X.ex,b≠X.env.locals/\∀ x c,X.env.cells.lookup x=some c->c≠b
 bs:∀ b o,X.base.get? b=some o->X.s₀.heap.get? b=some o/\X.H₀ b=none
 bsz:X.base.objs.size<=X.s₀.heap.objs.size
 noex:∀ b o,X.base.get? b=some o->b∉X.ex
 exfs:∀ b∈X.ex,b∉X.fs
 funs:X.s₀.heap.FunFrames X.base X.outer
 frf:∀ b∈X.fs,X.H₀ b=none
structure Inv(X:Cx)(pins:List (Addr×Obj))(σ:List (Option V))(H:Hp)(s:Shared):Prop where
 ok:X.Ok
 os:s.os=X.s₀.os
 bare:AllBare s.gens
 base:Un X.fs X.ex X.H₀ H X.s₀.heap s.heap
 loc:∃ m,s.heap.Ns X.env.locals m/\∀(i:Nat)(x:Str)(v:V),X.N[i]?=some x->σ[i]?=some (some v)->Vis X.env.scope x->∃ u,RelV v u/\Xb X.env s.heap m x u
 cell:∀ x c,X.env.cells.lookup x=some c->∃ v,s.heap.IsCell c v
 free:H X.env.locals=none
 freeC:∀ x c,X.env.cells.lookup x=some c->H c=none
 pin:∀ p∈X.pn++pins,s.heap.get? p.1=some p.2/\H p.1=none/\p.1≠X.env.locals/\p.1∉X.fs/\∀ v,p.2.data≠.cell v
 hok:HOk X.prog X.w H s.heap
 len:σ.length=X.N.length
theorem Cx.Ok.nofr{X:Cx}(ok:X.Ok)(e:X.base.get? b=some o):b∉X.fs:=λa=>by
 have:=(ok.funs.mem a).1;rw[e]at this;cases this
theorem Inv.bs(I:Inv X pins σ H s):∀ b o,X.base.get? b=some o->s.heap.get? b=some o/\H b=none:=λb o e=>
 ⟨I.base.keep b o (I.ok.bs b o e).1 (I.ok.bs b o e).2 (I.ok.nofr e) (I.ok.noex b o e),I.base.free b o (I.ok.bs b o e).1 (I.ok.bs b o e).2 (I.ok.noex b o e)⟩
theorem Inv.bk(I:Inv X pins σ H s):∀ b o,X.base.get? b=some o->s.heap.get? b=some o:=λb o e=>(I.bs b o e).1
theorem Inv.mod(I:Inv X pins σ H s):Mod X.K X.mg X.base:=I.ok.mod
theorem Inv.kIn(I:Inv X pins σ H s):X.K.In s.heap:=I.ok.mod.kin.keeps I.bk
theorem Inv.nolimit(I:Inv X pins σ H s):s.heap.NoLimit:=I.ok.mod.nolimit.keeps I.bk
theorem Inv.fr(I:Inv X pins σ H s):∃ m,Fr X.base X.env.locals s.heap m :=
 let⟨m,hn,_⟩:=I.loc
 ⟨m,hn,I.bk,Yt I.ok.bsz I.ok.above⟩
theorem Inv.lt(I:Inv X pins σ H s):X.env.locals < s.heap.objs.size:=let⟨_,hn,_⟩:=I.loc;hn.lt
theorem Inv.sz(I:Inv X pins σ H s):X.s₀.heap.objs.size<=s.heap.objs.size:=Yt I.ok.above (YK I.lt)
theorem Inv.nofs(I:Inv X pins σ H s){a:Addr}(h:s.heap.objs.size<=a):a∉X.fs:=λb=>by
 obtain⟨_,o,c,_⟩:=I.ok.funs.mem b;exact Qo (Yu (Qs c) (Yt I.sz h)) (YL _)
theorem Inv.cne(I:Inv X pins σ H s):∀ x c,X.env.cells.lookup x=some c->c≠X.env.locals:=λx c e z=>by
 obtain⟨v,o,d,hd⟩:=I.cell x c e;obtain⟨m,⟨o',es,f,a,b,_⟩,_⟩:=I.loc;rw[z,a]at d;cases d;rw[b]at hd;cases hd
theorem Inv.funs(I:Inv X pins σ H s):s.heap.FunFrames X.base X.outer:=by
 have all:∀(l:List Env),(∀ b∈frs l,b∈X.fs)->X.s₀.heap.FunFrames X.base l->s.heap.FunFrames X.base l:=by
  intro l;induction l with
  | nil=>intro _ _;trivial
  | cons env r i =>
   intro hs hl;obtain⟨g,⟨L,o,a,h,j,hd⟩,f⟩:=hl;have d:=hs L (by unfold frs;rw[List.filterMap_cons,a];exact Ye);obtain⟨k,e⟩:=I.base.slot L o j (I.ok.frf L d) d λz=>I.ok.exfs L z d;exact⟨g,⟨L,_,a,h,e,hd⟩,i (λb c=>hs b (by unfold frs;rw[List.filterMap_cons,a];exact Yd _ c)) f⟩
 exact all X.outer (λ_ c=>c) I.ok.funs
theorem Inv.stack(I:Inv X pins σ H s):s.heap.FunFrames X.base X.stack:=by
 rcases I.ok.stk with e |⟨e,a⟩
 ·rw[e];exact I.funs
 ·rw[e];obtain⟨m,b,_⟩:=I.loc;refine .cons (by rw[I.ok.kind];decide) a b ?_ I.funs;exact Heap.get?_none_of_le (Yt I.ok.bsz I.ok.above)
theorem Inv.stkSub(I:Inv X pins σ H s):∀ b∈frs X.stack,b∈X.env.locals::X.fs:=λb a=>by
 rcases I.ok.stk with e |⟨e,c⟩
 ·rw[e]at a;exact Yd _ a
 ·rw[e]at a;unfold frs at a;rw[List.filterMap_cons,c]at a;exact a
theorem Inv.stkFree(I:Inv X pins σ H s):∀ b∈frs X.stack,H b=none:=λb a=>by
 rcases Yo.mp (I.stkSub b a)with e | a
 ·rw[e];exact I.free
 ·obtain⟨_,o,c,_⟩:=I.ok.funs.mem a;exact I.base.free b o c (I.ok.frf b a) λz=>I.ok.exfs b z a
theorem Inv.step{K:Array GenState}{ch:List Addr}(I:Inv X pins σ H s)(h:∀ b∈ch,(b∈X.ex\/X.s₀.heap.objs.size<=b)/\b≠X.env.locals/\(∀ x c,X.env.cells.lookup x=some c->c≠b)/\∀ p∈X.pn++pins,p.1≠b)(keep:∀ b o,b≠X.env.locals->b∉X.fs->b∉ch->s.heap.get? b=some o->H b=none->h'.get? b=some o)(slot:∀ b o,b≠X.env.locals->b∈X.fs->b∉ch->s.heap.get? b=some o->H b=none->∃ G,h'.get? b=some {o with slots:=G})(free:∀ b o,b∉ch->s.heap.get? b=some o->H b=none->H' b=none)(there:∀ b o,b∉ch->s.heap.get? b=some o->∃ o',h'.get? b=some o')(tups:∀ b xs,H b=some (.tup xs)->H' b=some (.tup xs))(frzs:∀ b o u,H b=some (.frz o u)->H' b=some (.frz o u))(tbls:∀ b ps,H b=some (.tbl ps)->∃ D,H' b=some (.tbl (ps++D)))(ns:∀ m,s.heap.Ns X.env.locals m->h'.Ns X.env.locals m)(hok:HOk X.prog X.w H' h')(P:AllBare K):
  Inv X pins σ H' {s with heap:=h',gens:=K,drawn:=Q,toks:=t'}:=by
 have B:∀ b o,X.s₀.heap.get? b=some o->b≠X.env.locals:=λb o e=>Ys (Yu (Qs e) I.ok.above)
 have j:∀ b o,X.s₀.heap.get? b=some o->b∉X.ex->b∉ch:=λb o e a y=>by
  rcases(h b y).1 with z | z
  ·exact a z
  ·exact Qo (Yu (Qs e) z) (YL _)
 have g:∀ x c,X.env.cells.lookup x=some c->∀ v,s.heap.IsCell c v->h'.IsCell c v:=by
  rintro x c e v ⟨o,A,hd⟩;have f:=λz=>(h c z).2.2.1 x c e rfl;by_cases hc:c∈X.fs
  ·obtain⟨G,q⟩:=slot c o (I.cne x c e) hc f A (I.freeC x c e);exact⟨_,q,hd⟩
  ·exact⟨o,keep c o (I.cne x c e) hc f A (I.freeC x c e),hd⟩
 refine⟨I.ok,I.os,P,⟨λb o e n y a=>?_,λb o e n y a=>?_,λb o e n a=>?_,λb o e a=>?_,λb xs e=>tups b xs (I.base.tups b xs e),λb o xs e=>frzs b o xs (I.base.frzs b o xs e),λb ps e=>?_⟩,?_,λx c e=>?_,?_,λx c e=>?_,λp L=>?_,hok,I.len⟩
 ·exact keep b o (B b o e) y (j b o e a) (I.base.keep b o e n y a) (I.base.free b o e n a)
 ·obtain⟨G,t⟩:=I.base.slot b o e n y a;obtain⟨F,E⟩:=slot b _ (B b o e) y (j b o e a) t (I.base.free b o e n a);exact⟨F,E⟩
 ·obtain⟨o',t⟩:=I.base.there b o e a;exact free b o' (j b o e a) t (I.base.free b o e n a)
 ·obtain⟨o',t⟩:=I.base.there b o e a;exact there b o' (j b o e a) t
 ·obtain⟨N,t⟩:=I.base.tbls b ps e;obtain⟨O,E⟩:=tbls b _ t;exact⟨N++O,by rw[E,Array.append_assoc]⟩
 ·obtain⟨m,R,hl⟩:=I.loc;refine⟨m,ns m R,λi x v t E S=>?_⟩;obtain⟨u,r,l⟩:=hl i x v t E S;refine⟨u,r,?_⟩;rcases l with l |⟨k,c,e,z⟩
  ·exact .inl l
  ·exact .inr ⟨k,c,e,g x c e _ z⟩
 ·obtain⟨v,z⟩:=I.cell x c e;exact⟨v,g x c e v z⟩
 ·obtain⟨m,⟨o,_,_,A,_⟩,_⟩:=I.loc;exact free _ o (λz=>(h _ z).2.1 rfl) A I.free
 ·obtain⟨v,o,A,hd⟩:=I.cell x c e;exact free c o (λz=>(h c z).2.2.1 x c e rfl) A (I.freeC x c e)
 ·obtain⟨e,n,ne,J,d⟩:=I.pin p L;have f:=λz=>(h p.1 z).2.2.2 p L rfl;exact⟨keep p.1 p.2 ne J f e n,free p.1 p.2 f e n,ne,J,d⟩
theorem Inv.un(I:Inv X pins σ H s)(u:Un X.fs [] H H' s.heap h')(hok:HOk X.prog X.w H' h'):Inv X pins σ H' {s with heap:=h',toks:=t'}:=by
 obtain⟨m,⟨o,es,j,f,r⟩,_⟩:=id I.loc;obtain⟨i,h⟩:=u.any f I.free (by simp)
 exact I.step (ch:=[]) (λ_ z=>nomatch z) (λb o _ d _ e n=>u.keep b o e n d (by simp)) (λb o _ d _ e n=>u.slot b o e n d (by simp)) (λb o _ e n=>u.free b o e n (by simp)) (λb o _ e=>u.there b o e (by simp)) u.tups u.frzs u.tbls (λk g=>by
  obtain⟨o',es',c,a,r'⟩:=g;rw[f]at a;cases a;exact⟨_,es',c,h,r'⟩) hok I.bare
theorem Inv.call(I:Inv X pins σ H s)(u:Un (frs X.stack) ch H H' s.heap h')(hok:HOk X.prog X.w H' h')(q:AllBare h)(d:∀ b∈ch,(b∈X.ex\/X.s₀.heap.objs.size<=b)/\b≠X.env.locals/\(∀ x c,X.env.cells.lookup x=some c->c≠b)/\∀ p∈X.pn++pins,p.1≠b):
  Inv X pins σ H' {s with heap:=h',gens:=h,drawn:=j,toks:=t'}:=by
 obtain⟨m,⟨o,es,v,i,r⟩,_⟩:=id I.loc;obtain⟨t,g⟩:=u.any i I.free λz=>(d _ z).2.1 rfl
 exact I.step d (λb o g k hc e n=>u.keep b o e n (λz=>(Yo.mp (I.stkSub b z)).elim g k) hc) (λb o _ _ hc e n=>u.any e n hc) (λb o hc e n=>u.free b o e n hc) (λb o hc e=>u.there b o e hc) u.tups u.frzs u.tbls (λy l=>by
  obtain⟨o',es',f,a,r'⟩:=l;rw[i]at a;cases a;exact⟨_,es',f,g,r'⟩) hok q
theorem Inv.turned(I:Inv X pins σ H s)(k:∀ b o,b≠a->s.heap.get? b=some o->h'.get? b=some o)(i:H a=none)(f:a≠X.env.locals)(h1:a∈X.ex\/X.s₀.heap.objs.size<=a)(h2:∀ x c,X.env.cells.lookup x=some c->c≠a)(h:∀ p∈X.pn++pins,p.1≠a):Inv X pins σ H {s with heap:=h',toks:=t'}:=by
 have d:∀ b u,H b=some u->b≠a:=λb u e z=>by rw[z,i]at e;cases e
 refine I.step (ch:=[a]) (λb l=>?_) (λb o _ _ hc e _=>k b o (λz=>hc (by simp[z])) e) (λb o _ _ hc e _=>⟨o.slots,k b o (λz=>hc (by simp[z])) e⟩) (λ_ _ _ _ n=>n)
  (λb o hc e=>⟨o,k b o (λz=>hc (by simp[z])) e⟩) (λ_ _ e=>e) (λ_ _ _ e=>e) (λb ps e=>⟨#[],by rw[e];simp⟩) (λm j=>?_) (λb u e=>?_) I.bare
 ·have e:b=a:=by simpa using l
  subst e;exact⟨h1,f,h2,h⟩
 ·obtain⟨o,es,g,t,r⟩:=j;exact⟨o,es,g,k _ o (YW f) t,r⟩
 ·refine(I.hok b u e).stay (λc v hc q=>k c v ?_ q) (λ_ q=>q) λ_ _ q=>q;rcases hc with z | z
  ·rw[z];exact d b u e
  ·exact d c _ z
theorem Inv.tok(I:Inv X pins σ H s)(t:Nat):Inv X pins σ H {s with toks:=t}:=I.un (h':=s.heap) (t':=t) Un.refl I.hok
theorem Inv.kept(I:Inv X pins σ H s)(k:∀ b u,s.heap.get? b=some u->h'.get? b=some u):Inv X pins σ H {s with heap:=h',toks:=t'}:=I.un (Un.kept k) (I.hok.kept k)
theorem Inv.laid{a:Addr}(I:Inv X pins σ H s)(k:∀ b u,s.heap.get? b=some u->h'.get? b=some u)(c:s.heap.objs.size<=a)(new:ObjOk X.prog X.w (upd H a o) h' a o):
  Inv X pins σ (upd H a o) {s with heap:=h',toks:=t'}:=I.un (Un.laid k c (I.hok.fresh c)) (I.hok.laid k c new)
theorem Inv.write(I:Inv X pins σ H s)(d:Mut (H x))(c:e=x\/H e=some (.own x))(k:∀ b u,b≠e->s.heap.get? b=some u->h'.get? b=some u)(a:∃ u,h'.get? e=some u)(new:ObjOk X.prog X.w (upd H x o) h' x o):Inv X pins σ (upd H x o) {s with heap:=h',toks:=t'}:=I.un (Un.write d c k a) (I.hok.write d c k a new)
theorem Inv.pins_of(I:Inv X pins σ H s)(h:∀ p∈a,s.heap.get? p.1=some p.2/\H p.1=none/\p.1≠X.env.locals/\p.1∉X.fs/\∀ v,p.2.data≠.cell v):Inv X a σ H s :=
 ⟨I.ok,I.os,I.bare,I.base,I.loc,I.cell,I.free,I.freeC,λp b=>(Yz.mp b).elim (λz=>I.pin p (List.mem_append_left _ z)) (h p),I.hok,I.len⟩
theorem NE{N:List Str}(c:N.Nodup){j:Nat}(a:N[i]?=some x)(b:N[j]?=some x):i=j:=by
 obtain⟨h1,d⟩:=YY.mp a;obtain⟨h2,e⟩:=YY.mp b;exact(List.getElem_inj c).mp (d.trans e.symm)
theorem Xd(I:Inv X pins σ H s)(hN:X.N.Nodup)(hi:X.N[i]?=some x)(g:Loc X.env.scope x)(r:RelV v u)(h:∀ s',Inv X pins (σ.set i (some v)) H s'->(∃ a,Heap.SameBut a s.heap s'.heap/\(a=X.env.locals\/X.env.cells.lookup x=some a))->Q () s')(hf:X.fn x=true\/X.env.scope.names.lookup x=some .local:=by first | exact .inl rfl | exact .inr rfl | assumption):wpAny M A (storeName X.env x u) Q E s:=by
 obtain⟨m,hn,hl⟩:=id I.loc;have P:(X.env.scope.kind==.class||(X.env.scope.kind==.module&&X.env.locals != X.env.globals))=false:=by rw[I.ok.kind];rfl
 have hiσ:i < σ.length:=by rw[I.len];exact(YY.mp hi).1
 have cne:=I.cne
 have tracked:∀{a:Addr}{h':Heap},(∃ o,s.heap.get? a=some o/\H a=none)->Heap.SameBut a s.heap h'->HOk X.prog X.w H h':=λ{a h'}ha hs b ob e=>by
  obtain⟨_,_,l⟩:=ha;refine(I.hok b ob e).stay (λc R hc q=>(hs.2 c ?_).trans q) (λ_ q=>q) λ_ _ q=>q;rintro rfl;rcases hc with rfl | hc
  ·rw[l]at e;cases e
  ·rw[l]at hc;cases hc
 rcases g with B | B
 ·refine wpAny_storeName_local B hn (λh' Y hs=>?_) P;obtain⟨oL,_,_,hoL,_⟩:=id hn;refine h _ ⟨I.ok,I.os,I.bare,⟨λb o e n F g=>?_,λb o e n F g=>?_,I.base.free,λb o e g=>?_,I.base.tups,I.base.frzs,I.base.tbls⟩,⟨_,Y,λj y U f t e3=>?_⟩,λy c e=>?_,I.free,I.freeC,λp Z=>?_,tracked ⟨oL,hoL,I.free⟩ hs,by simpa using I.len⟩ ⟨_,hs,.inl rfl⟩
  ·exact(hs.2 b (Ys (Yu (Qs e) I.ok.above))).trans (I.base.keep b o e n F g)
  ·obtain⟨sl,f⟩:=I.base.slot b o e n F g;exact⟨sl,(hs.2 b (Ys (Yu (Qs e) I.ok.above))).trans f⟩
  ·obtain⟨o',f⟩:=I.base.there b o e g;exact⟨o',(hs.2 b (Ys (Yu (Qs e) I.ok.above))).trans f⟩
  ·by_cases D:j=i
   ·subst D;rw[hi]at f;cases f;rw[List.getElem?_set_self hiσ]at t;cases t;exact⟨u,r,.inl ⟨B,by simp⟩⟩
   ·rw[List.getElem?_set_ne (YW D)]at t;obtain⟨u',r',q⟩:=hl j y U f t e3;refine⟨u',r',?_⟩;rcases q with⟨k,e⟩|⟨k,c,e,z⟩
    ·refine .inl ⟨k,?_⟩;have:y≠x:=λe=>D (NE hN f (e▸hi));simp[this,e]
    ·exact .inr ⟨k,c,e,z.sameBut hs (cne y c e)⟩
  ·obtain⟨R,z⟩:=I.cell y c e;exact⟨R,z.sameBut hs (cne y c e)⟩
  ·obtain⟨e,n,ne,T,d⟩:=I.pin p Z;exact⟨(hs.2 p.1 ne).trans e,n,ne,T,d⟩
 ·have G:X.fn x=true:=by
   rcases hf with z | z
   ·exact z
   ·rw[z]at B;cases B
  obtain⟨c,hc⟩:=I.ok.has x (.inl B);obtain⟨R,z⟩:=I.cell x c hc;refine wpAny_storeName_cell I.ok.kind B hc z (λh' J hs=>?_);obtain⟨oc,O,L⟩:=id z;refine h {s with heap:=h'} ⟨I.ok,I.os,I.bare,⟨λb o e n F g=>?_,λb o e n F g=>?_,I.base.free,λb o e g=>?_,I.base.tups,I.base.frzs,I.base.tbls⟩,⟨m,hn.sameBut hs (YW (cne x c hc)),λj y U f t e3=>?_⟩,λy S e=>?_,I.free,I.freeC,λp Z=>?_,tracked ⟨oc,O,I.freeC x c hc⟩ hs,by simpa using I.len⟩ ⟨c,hs,.inr hc⟩
  ·exact(hs.2 b (Ys (Yu (Qs e) (I.ok.cab x c G hc)))).trans (I.base.keep b o e n F g)
  ·obtain⟨sl,f⟩:=I.base.slot b o e n F g;exact⟨sl,(hs.2 b (Ys (Yu (Qs e) (I.ok.cab x c G hc)))).trans f⟩
  ·obtain⟨o',f⟩:=I.base.there b o e g;exact⟨o',(hs.2 b (Ys (Yu (Qs e) (I.ok.cab x c G hc)))).trans f⟩
  ·by_cases D:j=i
   ·subst D;rw[hi]at f;cases f;rw[List.getElem?_set_self hiσ]at t;cases t;exact⟨u,r,.inr ⟨.inl B,c,hc,J⟩⟩
   ·rw[List.getElem?_set_ne (YW D)]at t;obtain⟨u',r',q⟩:=hl j y U f t e3;refine⟨u',r',?_⟩;rcases q with q |⟨k,S,e,z'⟩
    ·exact .inl q
    ·refine .inr ⟨k,S,e,z'.sameBut hs ?_⟩;rintro rfl;exact D (NE hN f (I.ok.inj _ _ _ e hc▸hi))
  ·by_cases K:S=c
   ·subst K;exact⟨_,J⟩
   ·obtain⟨w2,z2⟩:=I.cell y S e;exact⟨w2,z2.sameBut hs K⟩
  ·obtain⟨e,n,ne,T,d⟩:=I.pin p Z;refine⟨(hs.2 p.1 ?_).trans e,n,ne,T,d⟩;intro q;rw[q,O]at e;have q':=YE e;exact d R (by rw[<- q'];exact L)
theorem Hj(I:Inv X pins σ H s)(b:X.N.Nodup)(hi:X.N[i]?=some x)(c:Loc X.env.scope x)(r:RelV v u)(h:∀ s',Inv X pins (σ.set i (some v)) H s'->Q () s')(a:X.fn x=true\/X.env.scope.names.lookup x=some .local:=by first | exact .inl rfl | exact .inr rfl | assumption):wpAny M A (storeName X.env x u) Q E s :=
 Xd I b hi c r (λs' d _=>h s' d) a
theorem Inv.call'(I:Inv X pins σ H s)(d:s'.os=s.os)(u:Un (frs X.stack) ch H H' s.heap s'.heap)(hok:HOk X.prog X.w H' s'.heap)(f:AllBare s'.gens)(a:∀ b∈ch,(b∈X.ex\/X.s₀.heap.objs.size<=b)/\b≠X.env.locals/\(∀ x c,X.env.cells.lookup x=some c->c≠b)/\∀ p∈X.pn++pins,p.1≠b):Inv X pins σ H' s':=by
 obtain⟨h',h,g,t',o'⟩:=s';have e:=d;subst e;exact I.call u hok f a
abbrev XK:=Value->Option Addr->Hp->Prop
abbrev St:=List (Option V)
abbrev VK:=V->Hp->Prop
abbrev TE:=St->Hp->VK->Prop
abbrev TT:=St->Hp->(Bool->Hp->Prop)->Prop
abbrev TA:=St->Hp->(List V->Hp->Prop)->Prop
structure Fg where
 nx:St->Hp->Prop
 rt:VK
 bk:St->Hp->Prop:=λ_ _=>False
 ct:St->Hp->Prop:=λ_ _=>False
abbrev TS:=Fg->St->Hp->Prop
noncomputable def EP(X:Cx)(pins:List (Addr×Obj))(σ:St)(Q:VK)(u:Value)(s':Shared):Prop:=∃ v H',Inv X pins σ H' s'/\RelV v u/\Q v H'
noncomputable def TP(X:Cx)(pins:List (Addr×Obj))(σ:St)(Q:Bool->Hp->Prop)(b:Bool)(s':Shared):Prop:=∃ H',Inv X pins σ H' s'/\Q b H'
noncomputable def AP(X:Cx)(pins:List (Addr×Obj))(σ:St)(Q:List V->Hp->Prop)(us:List Value)(s':Shared):Prop:=∃ vs H',Inv X pins σ H' s'/\Vals vs us/\Q vs H'
noncomputable def SP(X:Cx)(pins:List (Addr×Obj))(D:Fg)(f:Flow)(s':Shared):Prop :=
 match f with
 | .next=>∃ σ' H',Inv X pins σ' H' s'/\D.nx σ' H'
 | .brk=>∃ σ' H',Inv X pins σ' H' s'/\D.bk σ' H'
 | .cont=>∃ σ' H',Inv X pins σ' H' s'/\D.ct σ' H'
 | .ret u=>∃ v σ' H',Inv X pins σ' H' s'/\RelV v u/\D.rt v H'
noncomputable def PE(X:Cx)(e:Expr)(t:TE):Prop :=
 ∀(pins:List (Addr×Obj))(s:Shared)(σ:St)(H:Hp)(Q:VK),Inv X pins σ H s->t σ H Q->wpAny (model X.prog X.w) X.A (eval e X.env) (EP X pins σ Q) X.xe s
noncomputable def PT(X:Cx)(e:Expr)(t:TT):Prop :=
 ∀(pins:List (Addr×Obj))(s:Shared)(σ:St)(H:Hp)(Q:Bool->Hp->Prop),Inv X pins σ H s->t σ H Q->wpAny (model X.prog X.w) X.A (isTrue e X.env (eval e X.env)) (TP X pins σ Q) X.xe s
noncomputable def PW(X:Cx)(e:Expr)(t:TT):Prop :=
 ∀(whole:Sem Value)(pins:List (Addr×Obj))(s:Shared)(σ:St)(H:Hp)(Q:Bool->Hp->Prop),Inv X pins σ H s->t σ H Q->wpAny (model X.prog X.w) X.A (isTrue e X.env whole) (TP X pins σ Q) X.xe s
theorem PW.pt(h:PW X e t):PT X e t:=h _
noncomputable def PA(X:Cx)(es:List Expr)(t:TA):Prop :=
 ∀(pos:Pos)(pins:List (Addr×Obj))(s:Shared)(σ:St)(H:Hp)(Q:List V->Hp->Prop),Inv X pins σ H s->t σ H Q->wpAny (model X.prog X.w) X.A (spliced (backTo pos (starEach es X.env))) (AP X pins σ Q) X.xe s
noncomputable def PS(X:Cx)(st:Stmt)(t:TS):Prop :=
 ∀(pins:List (Addr×Obj))(s:Shared)(σ:St)(H:Hp)(D:Fg),Inv X pins σ H s->t D σ H->wpAny (model X.prog X.w) X.A (exec st X.env) (SP X pins D) X.xe s
noncomputable def PSs(X:Cx)(st:List Stmt)(t:TS):Prop :=
 ∀(pins:List (Addr×Obj))(s:Shared)(σ:St)(H:Hp)(D:Fg),Inv X pins σ H s->t D σ H->wpAny (model X.prog X.w) X.A (execs st X.env) (SP X pins D) X.xe s
theorem thn{α:Type}{t:Sem α}{Q b:α->Shared->Prop}(h:wpAny M A t Q E s)(c:∀ a s,Q a s->b a s):wpAny M A t b E s:=wpAny_mono h c λ_ _ x=>x
section
variable {X:Cx}
theorem bin(j:PE X a ta)(p:PE X b tb){σ:St}{R:V->V->Hp->Prop}(I:Inv X pins σ H s)(h:ta σ H λx H1=>tb σ H1 λy H2=>R x y H2){α:Type}{Q:α->Shared->Prop}{f:Value->Value->Sem α}(k:∀ v u e x y H2,Inv X pins σ H2 e->RelV x v->RelV y u->R x y H2->wpAny (model X.prog X.w) X.A (f v u) Q X.xe e):
  wpAny (model X.prog X.w) X.A (eval a X.env) (λv c=>wpAny (model X.prog X.w) X.A (eval b X.env) (λu d=>wpAny (model X.prog X.w) X.A (f v u) Q X.xe d) X.xe c) X.xe s:=by
 refine thn (j pins s σ H _ I h) λv n g=>?_;obtain⟨x,H1,m,r1,q1⟩:=g;refine thn (p pins n σ H1 _ m q1) λu e i=>?_;obtain⟨y,H2,o,l,q2⟩:=i;exact k v u e x y H2 o r1 l q2
def NF(i:Nat):TE:=λσ H Q=>∃ v,σ[i]?=some (some v)/\Q v H
def tC(v:V):TE:=λ_ H Q=>Q v H
theorem NG{pos:Pos}(g:X.N[i]?=some x)(j:Vis X.env.scope x)(hd:(x==("__debug__":Str))=false:=by decide)(f:(x==("__classdict__":Str))=false:=by decide):PE X (.Name x pos) (NF i):=by
 intro pins s σ H Q I h;obtain⟨v,e,h⟩:=h;obtain⟨m,k,hl⟩:=I.loc;obtain⟨u,r,l⟩:=hl i x v g e j;have d:EP X pins σ Q u s:=⟨v,H,I,r,h⟩;rcases l with⟨b,n⟩|⟨b,c,hc,a⟩
 ·exact wpAny_Name (wpAny_loadName_local I.ok.kind b k n d) hd
 ·rcases b with b | b
  ·exact wpAny_Name (wpAny_loadName_cell I.ok.kind b hc a d) hd
  ·exact wpAny_Name (wpAny_loadName_free I.ok.kind b hc a d f) hd
theorem Xe{i j pos}:PE X (.Constant (.int i) j pos) (tC (.int i)):=λ_ _ _ H _ I h=>wpAny_Constant_int ⟨.int i,H,I.tok _,⟨_,rfl⟩,h⟩
theorem Xf{b j pos}:PE X (.Constant (.bool b) j pos) (tC (.bl b)):=λ_ _ _ H _ I h=>Constant_bool ⟨.bl b,H,I,rfl,h⟩
theorem Xg{j pos}:PE X (.Constant .none j pos) (tC .non):=λ_ _ _ H _ I h=>Constant_none ⟨.non,H,I,rfl,h⟩
theorem NH{x j pos}:PE X (.Constant (.str x) j pos) (tC (.str x)):=λ_ _ _ H _ I h=>Calls.Constant_str ⟨.str x,H,I.tok _,⟨_,rfl⟩,h⟩
noncomputable def Gl(X:Cx)(x:Str):Prop:=X.env.kindOf x=some .globalImplicit
theorem F7{σ:St}(I:Inv X pins σ H s)(b:Gl X x)(a:X.mg x=some u)(h:Q u s)(hd:(x==("__debug__":Str))=false:=by decide):wpAny (model X.prog X.w) X.A (eval (.Name x pos) X.env) Q E s :=
 Calls.Name_function_global I.ok.kind b (Calls.loadGlobal_global (by rw[I.ok.glob];exact I.mod.glob.keeps I.bk) a h) hd
theorem Cs{E:Value->Shared->Prop}{σ:St}{pos:Pos}(I:Inv X pins σ H s)(d:Gl X x)(c:X.mg x=none)(a:bootBuiltins x=some u)(h:Q u s)(b:x≠"__name__":=by decide)(hd:(x==("__debug__":Str))=false:=by decide):wpAny (model X.prog X.w) X.A (eval (.Name x pos) X.env) Q E s:=by
 obtain⟨e,h1,h2⟩:=I.mod.blt;exact Calls.Name_function_global I.ok.kind d (Calls.loadGlobal_builtin (by rw[I.ok.glob];exact I.mod.glob.keeps I.bk) c (by rw[I.ok.blt];exact h1.keeps I.bk) ((h2 x b).trans a) h) hd
theorem Xh(b:Gl X x)(a:X.mg x=some u)(r:RelV v u)(hd:(x==("__debug__":Str))=false:=by decide):PE X (.Name x pos) (tC v):=
 λ_ _ _ H _ I h=>F7 I b a ⟨v,H,I,r,h⟩ hd
theorem Xi{pos:Pos}(d:Gl X x)(a:X.mg x=none)(c:bootBuiltins x=some u)(r:RelV v u)(b:x≠"__name__":=by decide)(hd:(x==("__debug__":Str))=false:=by decide):PE X (.Name x pos) (tC v):=
 λ_ _ _ H _ I h=>Cs I d a c ⟨v,H,I,r,h⟩ b hd
noncomputable def t2I(ta tb:TE)(k:Int->Int->Hp->Prop):St->Hp->Prop:=λσ H=>ta σ H λx H1=>tb σ H1 λy H2=>∃ i j,x=.int i/\y=.int j/\k i j H2
noncomputable def Xj(ta tb:TE):TE:=λσ H Q=>t2I ta tb (λi j H2=>Q (.int (i - j)) H2) σ H
section
variable {ta tb:TE}
theorem A8(c:PE X a ta)(g:PE X b tb):PE X (.BinOp a .Sub b pos) (Xj ta tb):=by
 intro pins s σ H Q I h;refine wpAny_BinOp (bin c g I h λv u k x y H2 f d e q=>?_);obtain⟨i,j,rfl,rfl,q⟩:=q;obtain⟨t,rfl⟩:=d;obtain⟨t',rfl⟩:=e;exact sub_int ⟨.int _,H2,f.tok _,⟨_,rfl⟩,q⟩
noncomputable def Xk(t u:TT):TT:=λσ H Q=>t σ H λc H1=>if c=true then u σ H1 Q else Q false H1
noncomputable def tOr(t u:TT):TT:=λσ H Q=>t σ H λc H1=>if c=true then Q true H1 else u σ H1 Q
def Xl(t:TT):TT:=λσ H Q=>t σ H λc H1=>Q (!c) H1
theorem Xm(b:PT X a tA):PW X (.BoolOp .And [a] pos) tA:=by
 intro f pins s σ H Q I h;refine isTrue_and (thn (b pins s σ H Q I h) λc d e=>?_);cases c with
 | true=>exact isTrue_and_nil e
 | false=>exact e
theorem Xn(b:PT X a tA):PW X (.BoolOp .Or [a] pos) tA:=by
 intro f pins s σ H Q I h;refine isTrue_or (thn (b pins s σ H Q I h) λc d e=>?_);cases c with
 | false=>exact isTrue_or_nil e
 | true=>exact e
theorem Xo{rest:List Expr}(g:PT X a tA)(j:PW X (.BoolOp .And (b::rest) pos) tB'):PW X (.BoolOp .And (a::b::rest) pos) (Xk tA tB'):=by
 intro f pins s σ H Q I h;refine isTrue_and (thn (g pins s σ H _ I h) λc i d=>?_);obtain⟨H1,e,q1⟩:=d;cases c with
 | true=>exact j f pins i σ H1 Q e q1
 | false=>exact⟨H1,e,q1⟩
theorem Xp{rest:List Expr}(g:PT X a tA)(j:PW X (.BoolOp .Or (b::rest) pos) tB'):PW X (.BoolOp .Or (a::b::rest) pos) (tOr tA tB'):=by
 intro f pins s σ H Q I h;refine isTrue_or (thn (g pins s σ H _ I h) λc i d=>?_);obtain⟨H1,e,q1⟩:=d;cases c with
 | true=>exact⟨H1,e,q1⟩
 | false=>exact j f pins i σ H1 Q e q1
theorem Xq(b:PT X a tA):PT X (.UnaryOp .Not a pos) (Xl tA):=by
 intro pins s σ H Q I h;exact isTrue_not (b pins s σ H (λc H1=>Q (!c) H1) I h)
noncomputable def Xr(ta tb:TE):TE:=λσ H Q=>ta σ H λx H1=>∃ c,x=.bl c/\if c=true then tb σ H1 Q else Q (.bl false) H1
noncomputable def Xs(ta tb:TE):TE:=λσ H Q=>ta σ H λx H1=>∃ c,x=.bl c/\if c=true then Q (.bl true) H1 else tb σ H1 Q
theorem Xu{op}(h:PE X a t):PE X (.BoolOp op [a] pos) t:=λpins s σ H Q I hw=>BoolOp_one (h pins s σ H Q I hw)
theorem Xv{rest:List Expr}(f:PE X a ta)(i:PE X (.BoolOp .And (b::rest) pos) tb):PE X (.BoolOp .And (a::b::rest) pos) (Xr ta tb):=by
 intro pins s σ H Q I h;refine BoolOp_and (thn (f pins s σ H _ I h) λv g d=>?_);obtain⟨x,H1,e,r1,q1⟩:=d;obtain⟨c,rfl,q1⟩:=q1;cases r1;refine wpAny_truthy_bool ?_;cases c with
 | true=>exact i pins g σ H1 Q e q1
 | false=>exact⟨.bl false,H1,e,rfl,q1⟩
theorem Xx{rest:List Expr}(f:PE X a ta)(i:PE X (.BoolOp .Or (b::rest) pos) tb):PE X (.BoolOp .Or (a::b::rest) pos) (Xs ta tb):=by
 intro pins s σ H Q I h;refine BoolOp_or (thn (f pins s σ H _ I h) λv g d=>?_);obtain⟨x,H1,e,r1,q1⟩:=d;obtain⟨c,rfl,q1⟩:=q1;cases r1;refine wpAny_truthy_bool ?_;cases c with
 | false=>exact i pins g σ H1 Q e q1
 | true=>exact⟨.bl true,H1,e,rfl,q1⟩
noncomputable def tIf(t:TT)(ta tb:TE):TE:=λσ H Q=>t σ H λc H1=>if c=true then ta σ H1 Q else tb σ H1 Q
theorem Xy(hc:PT X c tA)(i:PE X a ta)(j:PE X b tb):PE X (.IfExp c a b pos) (tIf tA ta tb):=by
 intro pins s σ H Q I h;refine wpAny_IfExp (thn (hc pins s σ H _ I h) λd g e=>?_);obtain⟨H1,f,q1⟩:=e;cases d with
 | true=>exact i pins g σ H1 Q f q1
 | false=>exact j pins g σ H1 Q f q1
end
end
noncomputable def SqL(K:PySem.W.Frag)(H:Hp)(a:Addr)(xs:List V):Prop :=
 Rd H a (.lst xs)\/
  ∃(o:Obj)(its:Array Value)(n:Nat),K.lookup a=some o/\o.cls=.type "list"/\o.dict=none/\o.data=.seq its n/\its.size<=sizeLine/\Vals xs its.toList
noncomputable def SqT(K:PySem.W.Frag)(H:Hp)(a:Addr)(xs:List V):Prop :=
 Rd H a (.tup xs)\/
  ∃(o:Obj)(its:Array Value)(n:Nat),K.lookup a=some o/\o.cls=.type "tuple"/\o.dict=none/\o.data=.seq its n/\its.size<=sizeLine/\Vals xs its.toList
noncomputable def Xz:Value->Option V
 | .none=>some .non
 | .bool b=>some (.bl b)
 | .int i _=>some (.int i)
 | .str x _=>some (.str x)
 | .bytes b _=>some (.byt b)
 | .float b _=>some (.flt b)
 | .ref a=>some (.ref a)
 | .type n=>some (.ty n)
 | _=>none
theorem RelV.abs(r:RelV x u):Xz u=some x:=by
 cases x with
 | non|bl _=>cases r;rfl
 | int _|str _|byt _|flt _=>obtain⟨t,rfl⟩:=r;rfl
 | ref _|ty _=>cases r;rfl
theorem RelV.inj(r:RelV x u)(q:RelV y u):x=y:=YE (r.abs.symm.trans q.abs)
theorem Vals.inj:∀{xs ys:List V}{a:List Value},Vals xs a->Vals ys a->xs=ys:=by
 intro xs ys a h;induction h generalizing ys with
 | nil=>intro h;cases h;rfl
 | cons r _ ih=>intro h;cases h with | cons r' h=>rw[r.inj r',ih h]
theorem SqL.of{K:PySem.W.Frag}(h:H a=some (.lst xs)):SqL K H a xs:=.inl (.inl h)
theorem SqT.of{K:PySem.W.Frag}(h:H a=some (.tup xs)):SqT K H a xs:=.inl (.inl h)
theorem Inv.list{σ:St}(I:Inv X pins σ H s)(h:SqL X.K H a xs):∃ b:List Value,Vals xs b/\PlainL s.heap a b.toArray/\xs.length<=sizeLine:=by
 rcases h with h |⟨o,b,n,c,hc,hd,hs,d,r⟩
 ·obtain⟨z,b,n,r,e⟩:=h.ok I.hok;exact⟨b,r,⟨_,n,e,rfl,rfl,rfl⟩,z⟩
 ·refine⟨b.toList,r,⟨o,n,I.kIn a o c,hc,hd,by simpa using hs⟩,?_⟩;have e:=r.length;simp only[YT]at e;lia
theorem Inv.tupP{σ:St}(I:Inv X pins σ H s)(h:SqT X.K H a xs):∃ b:List Value,Vals xs b/\TupP s.heap a b.toArray/\xs.length<=sizeLine:=by
 rcases h with h |⟨o,b,n,c,hc,hd,hs,d,r⟩
 ·obtain⟨z,b,r,p⟩:=h.ok I.hok;exact⟨b,r,p,z⟩
 ·refine⟨b.toList,r,⟨o,I.kIn a o c,hc,hd,n,by simpa using hs⟩,?_⟩;have e:=r.length;simp only[YT]at e;lia
theorem Inv.tuple{σ:St}(I:Inv X pins σ H s)(h:SqT X.K H a xs):∃ b:List Value,Vals xs b/\IsTup s.heap a b.toArray/\xs.length<=sizeLine :=
 let⟨b,r,p,z⟩:=I.tupP h
 ⟨b,r,p.up,z⟩
theorem Inv.list_inj{σ:St}(I:Inv X pins σ H s)(h:SqL X.K H a xs)(h':SqL X.K H a ys):xs=ys:=by
 obtain⟨c,r,⟨o,n,e,_,_,d⟩,_⟩:=I.list h;obtain⟨b,r',⟨o',i,g,_,_,f⟩,_⟩:=I.list h';rw[e]at g;cases g;rw[d]at f;injection f with d1 _;have:c=b:=by simpa using Ql Array.toList d1
 subst this;exact r.inj r'
theorem Inv.tuple_inj{σ:St}(I:Inv X pins σ H s)(h:SqT X.K H a xs)(h':SqT X.K H a ys):xs=ys:=by
 obtain⟨c,r,⟨o,e,_,n,d⟩,_⟩:=I.tuple h;obtain⟨b,r',⟨o',g,_,i,f⟩,_⟩:=I.tuple h';rw[e]at g;cases g;rw[d]at f;injection f with d1 _;have:c=b:=by simpa using Ql Array.toList d1
 subst this;exact r.inj r'
noncomputable abbrev Cx.wish(X:Cx)(E:Value->Shared->Prop):Cx:={X with xe:=E}
abbrev Cx.nox(X:Cx):Cx:=X.wish λ_ _=>False
theorem Cx.Ok.wish{X:Cx}(ok:X.Ok)(E:Value->Shared->Prop):(X.wish E).Ok :=
 ⟨ok.mod,ok.kind,ok.glob,ok.blt,ok.above,ok.inj,ok.has,ok.cab,ok.hd,ok.frames,ok.stk,ok.exf,ok.bs,ok.bsz,ok.noex,ok.exfs,ok.funs,ok.frf⟩
theorem Cx.Ok.unwish{X:Cx}(ok:(X.wish E).Ok):X.Ok :=
 ⟨ok.mod,ok.kind,ok.glob,ok.blt,ok.above,ok.inj,ok.has,ok.cab,ok.hd,ok.frames,ok.stk,ok.exf,ok.bs,ok.bsz,ok.noex,ok.exfs,ok.funs,ok.frf⟩
variable {X:Cx}{pins:List (Addr×Obj)}{σ:St}{H:Hp}{s:Shared}{E:Value->Shared->Prop} in
theorem Inv.wish(I:Inv X pins σ H s)(E:Value->Shared->Prop):Inv (X.wish E) pins σ H s:=⟨I.ok.wish E,I.os,I.bare,I.base,I.loc,I.cell,I.free,I.freeC,I.pin,I.hok,I.len⟩
theorem Inv.unwish{σ:St}(I:Inv (X.wish E) pins σ H s):Inv X pins σ H s:=⟨I.ok.unwish,I.os,I.bare,I.base,I.loc,I.cell,I.free,I.freeC,I.pin,I.hok,I.len⟩
theorem SP.unwish(h:SP (X.wish E) pins D f s'):SP X pins D f s':=by
 cases f with
 | next|brk|cont=>obtain⟨σ',H',I,q⟩:=h;exact⟨σ',H',I.unwish,q⟩
 | ret u=>obtain⟨v,σ',H',I,r,q⟩:=h;exact⟨v,σ',H',I.unwish,r,q⟩
theorem PE.nox(h:PE X.nox e t):PE X e t:=λpins s σ H Q I hw=>
 wpAny_mono (h pins s σ H Q (I.wish _) hw) ((by rintro _ _ ⟨v,H',a,r,q⟩;exact⟨v,H',a.unwish,r,q⟩)) λ_ _ z=>Qi z
theorem PT.nox(h:PT X.nox e t):PT X e t:=λpins s σ H Q I hw=>
 wpAny_mono (h pins s σ H Q (I.wish _) hw) ((by rintro _ _ ⟨H',a,q⟩;exact⟨H',a.unwish,q⟩)) λ_ _ z=>Qi z
theorem PSs.nox{st:List Stmt}(h:PSs X.nox st t):PSs X st t:=λpins s σ H D I hw=>
 wpAny_mono (h pins s σ H D (I.wish _) hw) (λ_ _ q=>q.unwish) λ_ _ z=>Qi z
section
variable {t u:TS}{te:TE}
def XA:TS:=λD σ H=>D.nx σ H
def XB(t u:TS):TS:=λD σ H=>t {D with nx:=u D} σ H
theorem XC:PSs X [] XA:=λ_ _ σ H _ I h=>wpAny_execs_nil ⟨σ,H,I,h⟩
theorem XD{st:Stmt}{rest:List Stmt}(h1:PS X st t)(h2:PSs X rest u):PSs X (st::rest) (XB t u):=by
 intro pins s σ H D I h;refine wpAny_execs_cons (thn (h1 pins s σ H {D with nx:=u D} I h) λf a q=>?_);cases f with
 | next =>
  obtain⟨σ',H',b,q⟩:=q;exact h2 pins a σ' H' D b q
 | ret v|brk|cont=>exact q
theorem XE{st:Stmt}(h1:PS X st t):PSs X [st] t:=by
 intro pins s σ H D I h;refine wpAny_execs_cons (thn (h1 pins s σ H D I h) λf a q=>?_);cases f with
 | next=>exact wpAny_execs_nil q
 | ret v|brk|cont=>exact q
theorem Inv.quiet{σ:St}(I:Inv X pins σ H s):interactive X.env=false:=by simp[interactive,I.ok.kind]
def XG(te:TE):TS:=λD σ H=>te σ H λ_ H1=>D.nx σ H1
theorem XH(a:PE X e te)(hs:swapsWith e none pos.line X.env=pure false:=by rfl):PS X (.Expr e pos) (XG te):=by
 intro pins s σ H D I h;exact wpAny_Expr_any (thn (a pins s σ H _ I h) (by rintro v c ⟨x,H1,b,r1,q1⟩;exact⟨σ,H1,b,q1⟩)) I.quiet hs
def XI(te:TE):TS:=λD σ H=>te σ H D.rt
theorem XJ(a:PE X e te):PS X (.Return (some e) pos) (XI te):=by
 intro pins s σ H D I h;exact wpAny_Return_some (thn (a pins s σ H _ I h) (by rintro v c ⟨x,H1,b,r1,q1⟩;exact⟨x,σ,H1,b,r1,q1⟩))
noncomputable def XM(c:TT)(t u:TS):TS:=λD σ H=>c σ H λb H1=>if b=true then t D σ H1 else u D σ H1
theorem XN(hc:PT X c tc)(i:PSs X a t)(j:PSs X b u):PS X (.If c a b pos) (XM tc t u):=by
 intro pins s σ H D I h;refine wpAny_If (thn (hc pins s σ H _ I h) λd g e=>?_);obtain⟨H1,f,q1⟩:=e;cases d with
 | true=>exact i pins g σ H1 D f q1
 | false=>exact j pins g σ H1 D f q1
end
abbrev TG:=V->St->Hp->(St->Hp->Prop)->Prop
abbrev TGs:=List V->St->Hp->(St->Hp->Prop)->Prop
noncomputable def PG(X:Cx)(target:Expr)(t:TG):Prop :=
 ∀(pins:List (Addr×Obj))(s:Shared)(σ:St)(H:Hp)(v:V)(u:Value)(Q:St->Hp->Prop),Inv X pins σ H s->RelV v u->t v σ H Q->
  wpAny (model X.prog X.w) X.A (assign target X.env u) (λ_ s'=>∃ σ' H',Inv X pins σ' H' s'/\Q σ' H') X.xe s
noncomputable def PGs(X:Cx)(ts:List Expr)(t:TGs):Prop :=
 ∀(pins:List (Addr×Obj))(s:Shared)(σ:St)(H:Hp)(vs:List V)(us:List Value)(Q:St->Hp->Prop),Inv X pins σ H s->Vals vs us->t vs σ H Q->
  wpAny (model X.prog X.w) X.A (assignInOrder ((assignEach ts X.env).map (·.2)) us) (λ_ s'=>∃ σ' H',Inv X pins σ' H' s'/\Q σ' H') X.xe s
abbrev JR:=V->V->V->Hp->(Hp->Prop)->Prop
noncomputable def JS(X:Cx)(t:JR):Prop :=
 ∀(pins:List (Addr×Obj))(s:Shared)(σ:St)(H:Hp)(o i v:V)(ov iv u:Value)(Q:Hp->Prop),Inv X pins σ H s->RelV o ov->RelV i iv->RelV v u->t o i v H Q->
  wpAny (model X.prog X.w) X.A (setItem ov iv u) (λ_ s'=>∃ H',Inv X pins σ H' s'/\Q H') X.xe s
abbrev TIp:=V->V->Hp->VK->Prop
noncomputable def PIp(X:Cx)(op:Operator)(t:TIp):Prop :=
 ∀(pins:List (Addr×Obj))(s:Shared)(σ:St)(H:Hp)(x y:V)(v u:Value)(Q:VK),Inv X pins σ H s->RelV x v->RelV y u->t x y H Q->
  wpAny (model X.prog X.w) X.A (inplaceOp op v u) (EP X pins σ Q) X.xe s
def Ct(i:Nat):TG:=λv σ H Q=>Q (σ.set i (some v)) H
theorem Cu(b:X.N.Nodup)(hi:X.N[i]?=some x)(c:Loc X.env.scope x)(a:X.fn x=true\/X.env.scope.names.lookup x=some .local:=by first | exact .inl rfl | exact .inr rfl | assumption):PG X (.Name x pos) (Ct i):=by
 intro pins s σ H v u Q I r h;exact wpAny_assign_Name (Hj I b hi c r (λs' d=>⟨_,H,d,h⟩) a)
def Ch:TGs:=λvs σ H Q=>vs=[]/\Q σ H
noncomputable def BT(t:TG)(u:TGs):TGs:=λvs σ H Q=>∃ v r,vs=v::r/\t v σ H λσ' H'=>u r σ' H' Q
theorem Hk:PGs X [] Ch:=by
 intro pins s σ H a b Q I r h;obtain⟨e,h⟩:=h;subst e;cases r;exact assignInOrder_nil ⟨σ,H,I,h⟩
theorem Dv(h1:PG X e t)(h2:PGs X es u)(hs:(assignEach (e::es) X.env).map (·.2)=assign e X.env::(assignEach es X.env).map (·.2):=by rfl):PGs X (e::es) (BT t u):=by
 intro pins s σ H i j Q I r h;obtain⟨v,g,f,h⟩:=h;subst f;cases r with
 | cons r b =>
  rw[hs];refine assignInOrder_cons (thn (h1 pins s σ H _ _ _ I r h) λ_ d a=>?_);obtain⟨σ1,H1,c,q1⟩:=a;exact h2 pins d σ1 H1 _ _ Q c b q1
noncomputable def Cl(K:PySem.W.Frag)(n:Nat)(t:TGs):TG:=λv σ H Q=>∃ a xs,v=.ref a/\SqT K H a xs/\xs.length=n/\t xs σ H Q
theorem Hl{pos:Pos}{k:Nat}(hc:X.calm=true)(h:PGs X es t)(l:(assignEach es X.env).length=n:=by rfl)(c:(assignEach es X.env).findIdx? (·.1)=none:=by rfl):PG X (.Tuple es k pos) (Cl X.K n t):=by
 intro pins s σ H v u Q I r hw;obtain⟨a,xs,p,j,hl,hw⟩:=hw;subst p;cases r;obtain⟨f,d,g,q⟩:=I.tuple j;refine assign_Tuple_tuple (I.ok.hd hc) g (by simp[l,<- hl,d.length]) c λh' m=>?_;have i:Inv X pins σ H {s with heap:=h'}:=I.kept λb o e=>m b o (Ys (Qs e)) e;exact h pins _ σ H xs _ Q i (by simpa using d) hw
noncomputable def XO(to ti:TE)(t:JR):TG:=λv σ H Q=>to σ H λo H1=>ti σ H1 λi H2=>t o i v H2 λH3=>Q σ H3
theorem NI(q:PE X o to)(hi:PE X i f)(hs:JS X t)(w:∀ v,assign (.Subscript o i pos) X.env v=(do
   let a <- holding [v] (eval o X.env)
   let e <- holding [v,a] (eval i X.env)
   standAt pos
   holding [v,a,e] (setItem a e v)
   release [v,a,e] []):=by intro _;rfl):PG X (.Subscript o i pos) (XO to f t):=by
 intro pins s σ H v u Q I r h;refine Qp (wpAny_holding (thn (q pins s σ H _ I h) λa m b=>?_));obtain⟨x,H1,l,r1,q1⟩:=b;refine Qp (wpAny_holding (thn (hi pins m σ H1 _ l q1) λe j d=>?_));obtain⟨y,H2,p,k,q2⟩:=d;refine Qp (wpAny_standAt (Qp (wpAny_holding (thn (hs pins j σ H2 x y v a e u _ p r1 k r q2) λ_ z c=>?_))));obtain⟨n,g,q3⟩:=c;exact wpAny_release ⟨σ,n,g,q3⟩
def JT(te:TE)(g:TG):TS:=λD σ H=>te σ H λx H1=>g x σ H1 D.nx
theorem JU{pos:Pos}(b:PE X e te)(f:PG X tg g)(hs:swapsWithSole [tg] e pos.line X.env=pure false:=by rfl)(hw:swappedStores [tg] e X.env=pure none:=by rfl)(h1:(assignEach [tg] X.env).map (·.2)=[assign tg X.env]:=by rfl):PS X (.Assign [tg] e pos) (JT te g):=by
 intro pins s σ H D I h;refine wpAny_Assign_stores (thn (b pins s σ H _ I h) λv d a=>?_) hs hw;obtain⟨x,H1,c,r1,q1⟩:=a;rw[h1];exact thn (f pins d σ H1 x v _ c r1 q1) λ_ i q=>q
theorem XQ{pos:Pos}(b:X.N.Nodup)(hi:X.N[i]?=some x)(j:Loc X.env.scope x)(d:PE X e te)(hs:swapsWith e (some (.Name x pos')) pos.line X.env=pure false:=by rfl)(c:X.fn x=true\/X.env.scope.names.lookup x=some .local:=by first | exact .inl rfl | exact .inr rfl | assumption):
  PS X (.Assign [.Name x pos'] e pos) (JT te (Ct i)):=by
 intro pins s σ H D I h;refine wpAny_Assign_Name (thn (d pins s σ H _ I h) λv l a=>?_) hs;obtain⟨y,H1,f,r1,q1⟩:=a;exact Hj f b hi j r1 (λk g=>⟨_,H1,g,q1⟩) c
noncomputable def XR(i:Nat)(te:TE)(ti:TIp):TS:=λD σ H=>∃ x,σ[i]?=some (some x)/\te σ H λy H1=>ti x y H1 λz H2=>D.nx (σ.set i (some z)) H2
theorem XS(q:X.N.Nodup)(hi:X.N[i]?=some x)(n:Loc X.env.scope x)(t:PE X e te)(K:PIp X op p)(F:X.fn x=true\/X.env.scope.names.lookup x=some .local:=by first | exact .inl rfl | exact .inr rfl | assumption):
  PS X (.AugAssign (.Name x pos') op e pos) (XR i te p):=by
 intro pins s σ H D I h;obtain⟨v,E,h⟩:=h;obtain⟨m,Q,hl⟩:=I.loc;have o:Vis X.env.scope x:=by rcases n with k | k;exact .inl k;exact .inr (.inl k)
 obtain⟨u,r,l⟩:=hl i x v hi E o;refine wpAny_AugAssign_Name ?_
 have go:wpAny (model X.prog X.w) X.A (eval e X.env) (λw f=>wpAny (model X.prog X.w) X.A (inplaceOp op u w) (λr j=>wpAny (model X.prog X.w) X.A (storeName X.env x r) (λ_=>SP X pins D .next) X.xe j) X.xe f) X.xe s:=by
  refine thn (t pins s σ H _ I h) λw J g=>?_;obtain⟨y,H1,O,r1,q1⟩:=g;refine thn (K pins J σ H1 v y u w _ O r r1 q1) λz S d=>?_;obtain⟨R,H2,P,G,q2⟩:=d;exact Hj P q hi n G (λT L=>⟨_,H2,L,q2⟩) F
 rcases l with⟨a,B⟩|⟨a,c,hc,b⟩
 ·exact wpAny_loadName_local I.ok.kind a Q B go
 ·rcases a with a | a
  ·exact wpAny_loadName_cell I.ok.kind a hc b go
  ·rcases n with k | k
   ·have:X.env.scope.names.lookup x=some .free:=a;rw[k]at this;cases this
   ·have:X.env.scope.names.lookup x=some .free:=a;rw[k]at this;cases this
noncomputable def XT(c:TT)(tb:TS):TS:=λD σ H=>∃ W:Nat->St->Hp->Prop,(∃ m,W m σ H)/\∀ m σ H,W m σ H->
 c σ H λb H1=>if b=true then ∃ N:St->Hp->Prop,(∀ σ' H',N σ' H'->∃ m',m' < m/\W m' σ' H')/\tb {D with nx:=N,ct:=N,bk:=D.nx} σ H1 else D.nx σ H1
theorem XU(p:PassesOwn (model X.prog X.w) X.A X.env X.xe)(hc:PT X c tc)(q:PSs X body tb):PS X (.While c body [] pos) (XT tc tb):=by
 intro pins s σ H D I h;obtain⟨W,⟨z,r⟩,a⟩:=h;refine wpAny_While (codeAny_whileLoop (λn s'=>∃ σ' H',Inv X pins σ' H' s'/\W n σ' H') ?_ z ⟨σ,H,I,r⟩);rintro n t ⟨σ1,H1,y,u⟩;refine wpAny_passesOwn p (thn (hc pins t σ1 H1 _ y (a n σ1 H1 u)) λb x d=>?_);obtain⟨H2,o,q2⟩:=d;cases b with
 | true =>
  obtain⟨N,m,q2⟩:=q2;refine wpAny_passesOwn p (thn (q pins x σ1 H2 _ o q2) λf B q3=>?_);cases f with
  | next|cont=>
   obtain⟨σ3,e,j,k⟩:=q3;obtain⟨l,g,i⟩:=m σ3 e k;exact⟨l,g,σ3,e,j,i⟩
  | brk|ret v=>exact q3
 | false =>
  exact wpAny_execs_nil ⟨σ1,H2,o,q2⟩
structure It where
 go:Nat->Hp->Prop
 yld:Nat->Hp->V->Hp->Prop
 stop:Nat->Hp->Prop
noncomputable def CK(X:Cx)(pins:List (Addr×Obj))(H:Hp)(b:Addr):Prop :=
 H b=none/\b≠X.env.locals/\b∉X.fs/\(b∈X.ex\/X.s₀.heap.objs.size<=b)/\(∀ x c,X.env.cells.lookup x=some c->c≠b)/\∀ p∈X.pn++pins,p.1≠b
theorem Inv.fpOk{σ:St}{b:Addr}(I:Inv X pins σ H s)(a:s.heap.objs.size<=b)(d:H' b=none):CK X pins H' b:=by
 refine⟨d,Nat.ne_of_gt (Yu I.lt a),I.nofs a,.inr (Yt I.sz a),λx c e z=>?_,λp f z=>?_⟩
 ·obtain⟨v,q⟩:=I.cell x c e;exact Qo (Yu q.lt (by rw[z];exact a)) (YL _)
 ·exact Qo (Yu (Qs (I.pin p f).1) (by rw[z];exact a)) (YL _)
structure DN(P:Program)(w:World)(K:PySem.W.Frag)(tg:Expr)(J:It)(fp:List Addr)(it:Addr)(tn:Nat->Heap->Prop):Prop where
 mem:it∈fp
 obj:∀ i h,tn i h->∀ b∈fp,∃ o,h.get? b=some o/\∀ v,o.data≠.cell v
 keep:∀ i h h',tn i h->(∀ b∈fp,∀ o,h.get? b=some o->h'.get? b=some o)->tn i h'
 item:∀(X:Cx),X.prog=P->X.w=w->X.K=K->X.calm=true->∀(i:Nat)(pins:List (Addr×Obj))(s:Shared)(σ:St)(H:Hp)(E:Value->Shared->Prop),Inv X pins σ H s->(∀ b∈fp,CK X pins H b)->tn i s.heap->J.go i H->
  wpAny (model P w) X.A (pyNext (.ref it)) (λr s1=>∃ u,r=some u/\
   wpAny (model P w) X.A (letOwnedTupleGo tg (.ref it) u) (λ_ s2=>∃ x H',Inv X pins σ H' s2/\RelV x u/\J.yld i H x H'/\tn (i+1) s2.heap/\∀ b∈fp,H' b=none) E s1) E s
 done:∀(X:Cx),X.prog=P->X.w=w->X.K=K->X.calm=true->∀(i:Nat)(pins:List (Addr×Obj))(s:Shared)(σ:St)(H:Hp)(E:Value->Shared->Prop),Inv X pins σ H s->(∀ b∈fp,CK X pins H b)->tn i s.heap->J.stop i H->
  wpAny (model P w) X.A (pyNext (.ref it)) (λr s1=>r=none/\Inv X pins σ H s1) E s
 self:∀(A:Around)(i:Nat)(s:Shared)(Q:Value->Shared->Prop)(E:Value->Shared->Prop),tn i s.heap->Q (.ref it) s->wpAny (model P w) A (pyIter (.ref it)) Q E s
abbrev TI:=St->Hp->(It->Hp->Prop)->Prop
noncomputable def PIE(X:Cx)(pins:List (Addr×Obj))(σ:St)(tg:Expr)(R:It->Hp->Prop)(itv:Value)(s2:Shared):Prop :=
 ∃(it:Addr)(fp:List Addr)(tn:Nat->Heap->Prop)(J:It)(H':Hp),itv=.ref it/\Inv X pins σ H' s2/\DN X.prog X.w X.K tg J fp it tn/\tn 0 s2.heap/\(∀ b∈fp,CK X pins H' b)/\R J H'
noncomputable def PI(X:Cx)(tg iter:Expr)(wi:TI):Prop :=
 ∀(pins:List (Addr×Obj))(s:Shared)(σ:St)(H:Hp)(R:It->Hp->Prop),Inv X pins σ H s->wi σ H R->
  wpAny (model X.prog X.w) X.A (eval iter X.env) (λv s1=>wpAny (model X.prog X.w) X.A (pyIter v) (PIE X pins σ tg R) X.xe s1) X.xe s
theorem JV(d:s.heap.get? b=some o)(hc:o.cls=.type n)(hd:o.data=.fields vs)(c:["enumerate","zip","dict_itemiterator","dict_reverseitemiterator","odict_iterator","itertools.zip_longest","itertools.pairwise"].contains n=false)(a:Q () s):wpAny M A (letOwnedTupleGo tg (.ref b) u) Q E s:=by
 cases tg <;> first
  | exact Qq a
  |(cases u <;> first
    | exact Qq a
    |(refine Qp (wpAny_load d ?_)
      rw[hc,hd]
      show wpAny M A (if(["enumerate","zip","dict_itemiterator","dict_reverseitemiterator","odict_iterator","itertools.zip_longest","itertools.pairwise"].contains n&&vs[0]?==some (rawInt _))=true then _ else _) Q E s
      rw[if_neg (by intro h;rw[c]at h;cases h)]
      exact Qq a))
noncomputable def Itl(K:PySem.W.Frag)(a:Addr):It :=
 ⟨λi H=>∃ xs x,SqL K H a xs/\xs[i]?=some x,λi H x H'=>H'=H/\∀ xs,SqL K H a xs->xs[i]?=some x,λi H=>∃ xs,SqL K H a xs/\xs.length<=i⟩
noncomputable def Itt(K:PySem.W.Frag)(a:Addr):It :=
 ⟨λi H=>∃ xs x,SqT K H a xs/\xs[i]?=some x,λi H x H'=>H'=H/\∀ xs,SqT K H a xs->xs[i]?=some x,λi H=>∃ xs,SqT K H a xs/\xs.length<=i⟩
noncomputable def Itr(lo:Int)(n:Nat):It:=⟨λi _=>i < n,λi H x H'=>H'=H/\x=.int (lo+i),λi _=>n<=i⟩
theorem NJ{K:PySem.W.Frag}(a g:Addr):DN P w K tg (Itl K a) [g] g (λi h=>h.IsListIter g a i) where
 mem:=by simp
 obj:=λi h st b f=>by
  have e:b=g:=by simpa using f
  subst e;obtain⟨o,e,c,d⟩:=st;exact⟨o,e,λv z=>by rw[d]at z;cases z⟩
 keep:=λi h h' st k=>st.at λo e=>k g (by simp) o e
 item:=by
  intro X r hw F hc i pins s σ H E I l st A;subst r hw F;obtain⟨xs,x,m,D⟩:=A;obtain⟨G,J,p,N⟩:=I.list m;obtain⟨u,R,S⟩:=J.get D;obtain⟨y,n,O,t,q,B⟩:=l g (by simp);refine wpAny_pyNext_list_item st p.isList (by simpa using R) λh' j T=>?_;have Q:Inv X pins σ H {s with heap:=h'}:=I.turned (λb o f e=>(T.2 b f).trans e) y n t q B;obtain⟨o,e,c,d⟩:=id j;exact⟨u,rfl,JV e c d (by decide) ⟨x,H,Q,S,⟨rfl,λys L=>by rw[I.list_inj L m];exact D⟩,j,λb f=>(l b f).1⟩⟩
 done:=by
  intro X r hw F hc i pins s σ H E I l st A;subst r hw F;obtain⟨xs,m,D⟩:=A;obtain⟨G,J,p,N⟩:=I.list m;obtain⟨y,n,O,t,q,B⟩:=l g (by simp);have hl:=J.length;exact wpAny_pyNext_list_end (I.ok.hd hc) st p.isList (by simp;lia) λh' eb=>⟨rfl,I.turned (λb o f e=>eb b o f e) y n t q B⟩
 self:=λ_ _ _ _ _ st h=>wpAny_pyIter_listiter st h
theorem NK{K:PySem.W.Frag}(a g:Addr):DN P w K tg (Itt K a) [g] g (λi h=>h.IsTupleIter g a i) where
 mem:=by simp
 obj:=λi h st b f=>by
  have e:b=g:=by simpa using f
  subst e;obtain⟨o,e,c,d⟩:=st;exact⟨o,e,λv z=>by rw[d]at z;cases z⟩
 keep:=λi h h' st k=>st.at λo e=>k g (by simp) o e
 item:=by
  intro X r hw F hc i pins s σ H E I l st A;subst r hw F;obtain⟨xs,x,m,D⟩:=A;obtain⟨G,J,p,N⟩:=I.tuple m;obtain⟨u,R,S⟩:=J.get D;obtain⟨y,n,O,t,q,B⟩:=l g (by simp);refine wpAny_pyNext_tuple_item st (p) (by simpa using R) λh' j T=>?_;have Q:Inv X pins σ H {s with heap:=h'}:=I.turned (λb o f e=>(T.2 b f).trans e) y n t q B;obtain⟨o,e,c,d⟩:=id j;exact⟨u,rfl,JV e c d (by decide) ⟨x,H,Q,S,⟨rfl,λys L=>by rw[I.tuple_inj L m];exact D⟩,j,λb f=>(l b f).1⟩⟩
 done:=by
  intro X r hw F hc i pins s σ H E I l st A;subst r hw F;obtain⟨xs,m,D⟩:=A;obtain⟨G,J,p,N⟩:=I.tuple m;obtain⟨y,n,O,t,q,B⟩:=l g (by simp);have hl:=J.length;exact wpAny_pyNext_tuple_end (I.ok.hd hc) st (p) (by simp;lia) λh' eb=>⟨rfl,I.turned (λb o f e=>eb b o f e) y n t q B⟩
 self:=λ_ _ _ _ _ st h=>wpAny_pyIter_tupleiter st h
theorem XW{K:PySem.W.Frag}(a:Addr)(lo:Int)(n:Nat):DN P w K tg (Itr lo n) [a] a (λi h=>IsRangeIter h a (lo+(i:Nat)*1) ((n:Int) -(i:Nat)) 1) where
 mem:=by simp
 obj:=λi h st b c=>by
  have e:b=a:=by simpa using c
  subst e
  exact⟨_,st,λv z=>by
   have D:=z;cases D⟩
 keep:=λi h h' st k=>k a (by simp) _ st
 item:=by
  intro X r hw u hc i pins s σ H E I f st q;subst r hw u;obtain⟨m,g,y,l,p,j⟩:=f a (by simp);have W:=Walks.range (prog:=X.prog) (w:=X.w) (I.ok.hd hc) a lo 1 n;refine W.item i s _ _ q st λv h' tk A d x=>?_;obtain⟨t,rfl⟩:=A;have B:Inv X pins σ H {s with heap:=h',toks:=tk}:=I.turned (λb o c e=>x b o (by simpa using c) e) m g l p j;refine⟨_,rfl,JV d rfl rfl (by decide) ⟨.int (lo+i),H,B,⟨t,?_⟩,⟨rfl,rfl⟩,d,λb c=>(f b c).1⟩⟩;rw[Int.mul_one]
 done:=by
  intro X r hw u hc i pins s σ H E I f st q;obtain⟨m,g,y,l,p,j⟩:=f a (by simp);exact wpAny_pyNext_range_end (I.ok.hd hc) st (by have:n<=i:=q;lia) λh' eb=>⟨rfl,I.turned (λb o c e=>eb b o c e) m g l p j⟩
 self:=λ_ _ _ _ _ st h=>wpAny_pyIter_rangeiter st h
theorem NM{σ:St}{lo:Int}(I:Inv X pins σ H s)(h1:-(2 ^ 62)<=lo)(h2:lo < 2 ^ 62)(d:-(2 ^ 62)<=hi)(f:hi < 2 ^ 62)(q:R (Itr lo (hi - lo).toNat) H):wpAny (model X.prog X.w) X.A (pyIter (.ref s.heap.objs.size)) (PIE X pins σ tg R) E {s with heap:=s.heap.push {cls:=.type "range",data:=.fields #[.int lo t,.int hi u,.int 1 v]},toks:=tk}:=by
 refine wpAny_pyIter_range (IsRange.new ..) (small_one h1 h2 d f) ?_;have a:Inv X pins σ H {s with heap:=s.heap.push {cls:=.type "range",data:=.fields #[.int lo t,.int hi u,.int 1 v]},toks:=tk}:=I.kept λb o e=>Qr _ e
 refine⟨(s.heap.push {cls:=.type "range",data:=.fields #[.int lo t,.int hi u,.int 1 v]}).objs.size,[(s.heap.push {cls:=.type "range",data:=.fields #[.int lo t,.int hi u,.int 1 v]}).objs.size],_,_,H,rfl,
  a.kept λb o e=>Qr _ e,XW _ lo (hi - lo).toNat,?_,λb c=>?_,q⟩
 ·have g:lo+((0:Nat):Int)*1=lo:=by simp
  have h:(((hi - lo).toNat:Nat):Int) -((0:Nat):Int)=Builtin.Range.rangeSize lo hi 1:=by rw[rangeSize_one];split <;> lia
  rw[g,h];exact Qt _ rfl
 ·have e:b=(s.heap.push {cls:=.type "range",data:=.fields #[.int lo t,.int hi u,.int 1 v]}).objs.size:=by simpa using c
  subst e;exact a.fpOk (Yr _) (a.hok.fresh (Yr _))
noncomputable def XX(ta:TA):TI:=λσ H R=>ta σ H λvs H1=>∃ j:Int,vs=[.int j]/\-(2 ^ 62)<=j/\j < 2 ^ 62/\R (Itr 0 j.toNat) H1
noncomputable def XY(ta:TA):TI:=λσ H R=>ta σ H λvs H1=>∃ i j:Int,vs=[.int i,.int j]/\(-(2 ^ 62)<=i/\i < 2 ^ 62/\-(2 ^ 62)<=j/\j < 2 ^ 62)/\R (Itr i (j - i).toNat) H1
theorem XZ(i:Gl X "range")(g:X.mg "range"=none)(c:PA X [a] ta)(hs:starEach [a] X.env=[(false,eval a X.env)]:=by rfl):PI X tg (.Call (.Name "range" p) [a] [] pos) (XX ta):=by
 intro pins s σ H R I h;refine Call_ (Cs I i g boot_range (Qe (thn (c pos pins s σ H _ I h) λl m b=>?_) hs rfl));obtain⟨k,H1,f,r1,q1⟩:=b;obtain⟨j,e,q1,q2,q⟩:=q1;subst e;cases r1 with
 | cons r d =>
  cases d;obtain⟨t,rfl⟩:=r;exact call_range_1 (NM f (by lia) (by lia) q1 q2 (by simpa using q))
theorem X0{tg:Expr}{p pos:Pos}(m:Gl X "range")(l:X.mg "range"=none)(g:PA X [a,b] ta)(hs:starEach [a,b] X.env=[(false,eval a X.env),(false,eval b X.env)]:=by rfl)(d:starEach [b] X.env=[(false,eval b X.env)]:=by rfl):
  PI X tg (.Call (.Name "range" p) [a,b] [] pos) (XY ta):=by
 intro pins s σ H R I h;refine Call_ (Cs I m l boot_range (Qe (thn (g pos pins s σ H _ I h) λo u c=>?_) (by rw[hs,d]) (by rw[d];rfl)));obtain⟨n,H1,k,r1,q1⟩:=c;obtain⟨i,j,e,⟨q1,q2,q3,q4⟩,q⟩:=q1;subst e;cases r1 with
 | cons r f =>
  cases f with
  | cons r' f =>
   cases f;obtain⟨t,rfl⟩:=r;obtain⟨t',rfl⟩:=r';exact call_range_2 (NM k q1 q2 q3 q4 q)
noncomputable def X1(wi:TI)(g:TG)(tb:TS):TS:=λD σ H=>wi σ H λJ H1=>∃ W:Nat->Nat->St->Hp->Prop,(∃ m,W 0 m σ H1)/\∀ i m σ H,W i m σ H->
 (J.stop i H/\D.nx σ H)\/(J.go i H/\∃ N:St->Hp->Prop,(∀ σ' H',N σ' H'->∃ m',m' < m/\W (i+1) m' σ' H')/\∀ x H',J.yld i H x H'->g x σ H' λσ2 H2=>tb {D with nx:=N,ct:=N,bk:=D.nx} σ2 H2)
noncomputable def Fh(fp:List Addr)(h:Heap):List (Addr×Obj):=fp.filterMap λb=>(h.get? b).map λo=>(b,o)
theorem F8(c:b∈a)(e:h.get? b=some o):(b,o)∈Fh a h:=List.mem_filterMap.mpr ⟨b,c,by rw[e];rfl⟩
theorem X2(f:p∈Fh a h):p.1∈a/\h.get? p.1=some p.2:=by
 obtain⟨b,d,e⟩:=List.mem_filterMap.mp f;cases q:h.get? b with
 | none=>rw[q]at e;cases e
 | some o =>
  rw[q]at e;have c:=YE e;subst c;exact⟨d,q⟩
theorem Inv.pinned{σ:St}(I:Inv X pins σ H s)(i:∀ b∈a,CK X pins H b)(h:∀ b∈a,∃ o,s.heap.get? b=some o/\∀ v,o.data≠.cell v):Inv X (pins++Fh a s.heap) σ H s :=
 I.pins_of λp l=>(Yz.mp l).elim (λz=>I.pin p (YM _ z)) λz=>by
  obtain⟨f,e⟩:=X2 z;obtain⟨k,g,j,_⟩:=i p.1 f;obtain⟨o,c,d⟩:=h p.1 f;rw[e]at c;cases c;exact⟨e,k,g,j,d⟩
theorem Inv.unpinned{σ:St}(I:Inv X (pins++pl) σ H s):Inv X pins σ H s:=I.pins_of λp a=>I.pin p (YM _ (List.mem_append_left _ a))
theorem X3(F:PassesOwn (model X.prog X.w) X.A X.env X.xe)(hc:X.calm=true)(hi:PI X tg iter Y)(hg:PG X tg g)(c:PSs X body tb)(hs:∀ x,foldedSetIterable iter X.env x=pure x:=by intro _;rfl):PS X (.For tg iter body [] pos) (X1 Y g tb):=by
 intro pins s σ H D I h;refine wpAny_For (thn (hi pins s σ H _ I h) λv s1 h1=>thn h1 λitv s2 h2=>?_) hs;obtain⟨it,E,tn,J,H2,e,I2,T,R,f2,W,⟨m0,w0⟩,z⟩:=h2;subst e;have j:∀{H':Hp},(∀ b∈E,H' b=none)->∀ b∈E,CK X pins H' b:=λhn b c=>⟨hn b c,(f2 b c).2⟩;refine codeAny_forLoop_any (λn s'=>∃ i σ' H',Inv X pins σ' H' s'/\tn i s'.heap/\(∀ b∈E,H' b=none)/\W i n σ' H') ?_ m0 ⟨0,σ,H2,I2,R,λb c=>(f2 b c).1,w0⟩;rintro n s3 ⟨i,σ3,L,Z,p,K,w3⟩;rcases z i n σ3 L w3 with⟨stop,qn⟩|⟨go,N,hN,step⟩
 ·refine wpAny_passesOwn F (thn (T.done X rfl rfl rfl hc i pins s3 σ3 L X.xe Z (j K) p stop) λr s4 y=>?_);obtain⟨S,I4⟩:=y;subst S;exact wpAny_execs_nil ⟨σ3,L,I4,qn⟩
 ·refine wpAny_passesOwn F (thn (T.item X rfl rfl rfl hc i pins s3 σ3 L X.xe Z (j K) p go) λr s4 B=>?_);obtain⟨u,S,h4⟩:=B;subst S;refine wpAny_passesOwn F (thn h4 λ_ U t=>?_);obtain⟨x,H5,I5,r5,y5,l,P⟩:=t;have Q:=I5.pinned (j P) (T.obj _ _ l);refine wpAny_passesOwn F (thn (hg _ U σ3 H5 x u _ Q r5 (step x H5 y5)) λ_ s6 G=>?_);obtain⟨σ6,H6,I6,q6⟩:=G;refine wpAny_passesOwn F (thn (c _ s6 σ6 H6 _ I6 q6) λf O q7=>?_)
  have again:∀{σ7:St}{a:Hp},Inv X (pins++Fh E U.heap) σ7 a O->N σ7 a->∃ m,m < n/\∃ i σ' H',Inv X pins σ' H' O/\tn i O.heap/\(∀ b∈E,H' b=none)/\W i m σ' H':=λ{σ7 a}k q=>by
   obtain⟨m',hm,w7⟩:=hN σ7 a q;refine⟨m',hm,i+1,σ7,a,k.unpinned,T.keep _ _ _ l λb c o e=>(k.pin (b,o) (YM _ (YM _ (F8 c e)))).1,λb c=>?_,w7⟩;obtain⟨o,e,d⟩:=T.obj _ _ l b c;exact(k.pin (b,o) (YM _ (YM _ (F8 c e)))).2.1
  cases f with
  | next|cont=>obtain⟨σ7,a,k,q⟩:=q7;exact again k q
  | brk=>obtain⟨σ7,a,k,q7⟩:=q7;exact⟨σ7,a,k.unpinned,q7⟩
  | ret v=>obtain⟨x7,σ7,a,k,r7,q7⟩:=q7;exact⟨x7,σ7,a,k.unpinned,r7,q7⟩
abbrev R2:=V->V->Hp->VK->Prop
noncomputable def OpR(X:Cx)(f:Value->Value->Sem Value)(r:R2):Prop :=
 ∀(pins:List (Addr×Obj))(s:Shared)(σ:St)(H:Hp)(x y:V)(v u:Value)(Q:VK),Inv X pins σ H s->RelV x v->RelV y u->r x y H Q->
  wpAny (model X.prog X.w) X.A (f v u) (EP X pins σ Q) X.xe s
noncomputable def UnR(X:Cx)(f:Value->Sem Value)(r:V->Hp->VK->Prop):Prop :=
 ∀(pins:List (Addr×Obj))(s:Shared)(σ:St)(H:Hp)(x:V)(v:Value)(Q:VK),Inv X pins σ H s->RelV x v->r x H Q->
  wpAny (model X.prog X.w) X.A (f v) (EP X pins σ Q) X.xe s
noncomputable def CallR(X:Cx)(f:Value)(r:List V->Hp->VK->Prop):Prop :=
 ∀(pins:List (Addr×Obj))(s:Shared)(σ:St)(H:Hp)(xs:List V)(us:List Value)(Q:VK),Inv X pins σ H s->Vals xs us->r xs H Q->
  wpAny (model X.prog X.w) X.A (call f us) (EP X pins σ Q) X.xe s
noncomputable def X4(X:Cx)(r:V->Hp->(Bool->Hp->Prop)->Prop):Prop :=
 ∀(pins:List (Addr×Obj))(s:Shared)(σ:St)(H:Hp)(x:V)(v:Value)(Q:Bool->Hp->Prop),Inv X pins σ H s->RelV x v->r x H Q->
  wpAny (model X.prog X.w) X.A (truthy v) (TP X pins σ Q) X.xe s
noncomputable def tOp(r:R2)(ta tb:TE):TE:=λσ H Q=>ta σ H λx H1=>tb σ H1 λy H2=>r x y H2 Q
noncomputable def tUn(r:V->Hp->VK->Prop)(ta:TE):TE:=λσ H Q=>ta σ H λx H1=>r x H1 Q
noncomputable def rI(C:Int->Int->Prop)(g:Int->Int->V):R2:=λx y H Q=>∃ i j,x=.int i/\y=.int j/\C i j/\Q (g i j) H
noncomputable def rI0(g:Int->Int->V):R2:=λx y H Q=>∃ i j,x=.int i/\y=.int j/\Q (g i j) H
noncomputable def rU(g:Int->V):V->Hp->VK->Prop:=λx H Q=>∃ i,x=.int i/\Q (g i) H
variable {X:Cx}{a b c:Expr}{ta tb:TE} in
theorem JW(j:PE X a ta)(m:PE X b tb){pins:List (Addr×Obj)}{s:Shared}{σ:St}{H:Hp}{R:V->V->Hp->Prop}(I:Inv X pins σ H s)
  (h:ta σ H λx H1=>tb σ H1 λy H2=>R x y H2) {Q:Value->Shared->Prop} {f:Value->Value->Sem Value}
  (k:∀ v u i x y H2,Inv X pins σ H2 i->RelV x v->RelV y u->R x y H2->wpAny (model X.prog X.w) X.A (f v u) Q X.xe i):
  wpAny (model X.prog X.w) X.A (eval a X.env) (λv c=>wpAny (model X.prog X.w) X.A (eval b X.env) (λu d=>wpAny (model X.prog X.w) X.A (f v u) Q X.xe d) X.xe c) X.xe s:=by
 refine thn (j pins s σ H _ I h) λv o g=>?_;obtain⟨x,H1,n,r1,q1⟩:=g;refine thn (m pins o σ H1 _ n q1) λu i e=>?_;obtain⟨y,H2,p,l,q2⟩:=e;exact k v u i x y H2 p r1 l q2
theorem X5(j:OpR X (binaryOp op) r)(c:PE X a ta)(i:PE X b tb):PE X (.BinOp a op b pos) (tOp r ta tb):=by
 intro pins s σ H Q I h;exact wpAny_BinOp (JW c i I h λv u d x y H2 g e f q=>j pins d σ H2 x y v u Q g e f q)
theorem X6(e:UnR X (unaryOp op) r)(d:PE X a ta):PE X (.UnaryOp op a pos) (tUn r ta):=by
 intro pins s σ H Q I h;exact UnaryOp_ (thn (d pins s σ H _ I h) (by rintro v c ⟨x,H1,b,r1,q1⟩;exact e pins c σ H1 x v Q b r1 q1))
theorem opI{g:Int->Int->Int}(a:∀(i j:Int)(t u:Tok)(s:Shared)(Q:Value->Shared->Prop)(E:Value->Shared->Prop),C i j->Q (.int (g i j) s.toks) {s with toks:=s.toks+1}->wpAny (model X.prog X.w) X.A (f (.int i t) (.int j u)) Q E s):
  OpR X f (rI C λi j=>.int (g i j)):=by
 intro pins s σ H x y v u Q I b c h;obtain⟨i,j,rfl,rfl,hc,q⟩:=h;obtain⟨t,rfl⟩:=b;obtain⟨t',rfl⟩:=c;exact a i j t t' s _ _ hc ⟨.int (g i j),H,I.tok _,⟨_,rfl⟩,q⟩
theorem NO{g:Int->Int->Int}(a:∀(i j:Int)(t u:Tok)(s:Shared)(Q:Value->Shared->Prop)(E:Value->Shared->Prop),Q (.int (g i j) s.toks) {s with toks:=s.toks+1}->wpAny (model X.prog X.w) X.A (f (.int i t) (.int j u)) Q E s):
  OpR X f (rI0 λi j=>.int (g i j)):=by
 intro pins s σ H x y v u Q I b c h;obtain⟨i,j,rfl,rfl,q⟩:=h;obtain⟨t,rfl⟩:=b;obtain⟨t',rfl⟩:=c;exact a i j t t' s _ _ ⟨.int (g i j),H,I.tok _,⟨_,rfl⟩,q⟩
theorem Hm{g:Int->Int->Bool}(a:∀(i j:Int)(t u:Tok)(s:Shared)(Q:Value->Shared->Prop)(E:Value->Shared->Prop),Q (.bool (g i j)) s->wpAny (model X.prog X.w) X.A (f (.int i t) (.int j u)) Q E s):
  OpR X f (rI0 λi j=>.bl (g i j)):=by
 intro pins s σ H x y v u Q I b c h;obtain⟨i,j,rfl,rfl,q⟩:=h;obtain⟨t,rfl⟩:=b;obtain⟨t',rfl⟩:=c;exact a i j t t' s _ _ ⟨.bl (g i j),H,I,rfl,q⟩
theorem X7(a:0 < y)(h:y < 1267650600228229401496703205376):Builtin.divisionGoesByPylong x y=false:=by
 refine PyProof.noPylong_of_log2 ?_;have h1:y.natAbs≠0:=by lia
 have h2:y.natAbs.log2 < 100:=(Nat.log2_lt h1).mpr (by lia);lia
noncomputable def EF(i j:Int):Prop:=0 < j/\j < 1267650600228229401496703205376
def EG(i j:Int):Prop:=0<=j/\j<=1000000/\i.natAbs < 2 ^ 64
noncomputable def CMul(i j:Int):Prop:=(-(2 ^ 64) < i/\i < 2 ^ 64)\/(-(2 ^ 64) < j/\j < 2 ^ 64)
theorem CMul.ok(h:CMul i j):IntMulOk i j:=by
 rcases h with⟨h1,h2⟩|⟨h1,h2⟩
 ·exact .of_left (intBits_le_64 h1 h2)
 ·exact .of_right (intBits_le_64 h1 h2)
theorem X8:OpR X (binaryOp .Add) (rI0 λi j=>.int (i+j)):=NO λ_ _ _ _ _ _ _ q=>add_int q
theorem NP:OpR X (binaryOp .Mult) (rI CMul λi j=>.int (i*j)):=opI λ_ _ _ _ _ _ _ hc q=>mul_int q hc.ok
theorem X9:OpR X (binaryOp .FloorDiv) (rI EF λi j=>.int (i / j)):=opI λi j _ _ _ _ _ hc q=>by
 have h1:=hc.1;have h2:=hc.2;exact floordiv_int (by lia) (by rw[Int.fdiv_eq_ediv_of_nonneg i (by lia)];exact q) (.inl (X7 h1 h2))
theorem Y0:OpR X (binaryOp .Mod) (rI (λ_ j=>0 < j) λi j=>.int (i % j)):=opI λi j _ _ _ _ _ hc q=>by
 exact mod_int' (by lia) (by rw[Int.fmod_eq_emod_of_nonneg i (by lia)];exact q)
theorem Y1:OpR X (binaryOp .Pow) (rI EG λi j=>.int (i ^ j.toNat)):=opI λ_ _ _ _ _ _ _ hc q=>pow_int_small hc.1 hc.2.1 hc.2.2 q
theorem Y2:OpR X (inplaceOp .Add) (rI0 λi j=>.int (i+j)):=NO λ_ _ _ _ _ _ _ q=>iadd_int q
theorem unI{g:Int->Int}(a:∀(i:Int)(t:Tok)(s:Shared)(Q:Value->Shared->Prop)(E:Value->Shared->Prop),Q (.int (g i) s.toks) {s with toks:=s.toks+1}->wpAny (model X.prog X.w) X.A (f (.int i t)) Q E s):
  UnR X f (rU λi=>.int (g i)):=by
 intro pins s σ H x v Q I b h;obtain⟨i,rfl,q⟩:=h;obtain⟨t,rfl⟩:=b;exact a i t s _ _ ⟨.int (g i),H,I.tok _,⟨_,rfl⟩,q⟩
theorem Y3:UnR X (unaryOp .USub) (rU λi=>.int (-i)):=unI λ_ _ _ _ _ q=>neg_int q
noncomputable def EH:V->V->Bool
 | .non,.non=>true | .non,.int _=>true | .int _,.non=>true | .non,.bl _=>true | .bl _,.non=>true | .non,.str _=>true | .str _,.non=>true
 | .int _,.int _=>true | .bl _,.bl _=>true | .str _,.str _=>true | .byt _,.byt _=>true
 | .int _,.str _=>true | .str _,.int _=>true | .bl _,.str _=>true | .str _,.bl _=>true
 | _,_=>false
def rEq:R2:=λx y H Q=>EH x y=true/\Q (.bl (decide (x=y))) H
def rNe:R2:=λx y H Q=>EH x y=true/\Q (.bl (!decide (x=y))) H
theorem JX:decide (V.int i=V.int j)=(i==j):=by
 rw[Bool.eq_iff_iff];simp
theorem JY:decide (V.bl i=V.bl j)=(i==j):=by
 rw[Bool.eq_iff_iff];simp
theorem JZ:decide (V.str i=V.str j)=(i==j):=by
 rw[Bool.eq_iff_iff];simp
theorem NQ:decide (V.byt i=V.byt j)=(i.toList==j.toList):=by
 rw[Bool.eq_iff_iff];cases i;cases j;simp
section
variable {b:Expr}{ta tb tc:TE}
theorem A5{σ:St}(I:Inv X pins σ H s)(q:Q (.bl k) H)(e:k=a):EP X pins σ Q (.bool a) s:=by
 subst e;exact⟨.bl k,H,I,rfl,q⟩
theorem Y4:OpR X (compareOp .Eq) rEq:=by
 intro pins s σ H x y v u Q I b a h;obtain⟨hs,q⟩:=h;cases x with
 | non =>
  cases b;cases y with
  | non=>cases a;exact PySem.EqNone.eq_none_none (A5 I q (by simp))
  | bl j=>cases a;exact PySem.EqNone.eq_none_bool (A5 I q (by simp))
  | int j=>obtain⟨t',rfl⟩:=a;exact PySem.EqNone.eq_none_int (A5 I q (by simp))
  | str j=>obtain⟨t',rfl⟩:=a;exact PySem.EqNone.eq_none_str (A5 I q (by simp))
  | _=>exact Qo (hs) YU
 | bl i =>
  cases b;cases y with
  | non=>cases a;exact PySem.EqNone.eq_bool_none (A5 I q (by simp))
  | bl j=>cases a;exact eq_bool (A5 I q JY)
  | str j=>obtain⟨t',rfl⟩:=a;exact PySem.EqMixed.eq_bool_str (A5 I q (by simp))
  | _=>exact Qo (hs) YU
 | int i =>
  obtain⟨t,rfl⟩:=b;cases y with
  | non=>cases a;exact PySem.EqNone.eq_int_none (A5 I q (by simp))
  | int j=>obtain⟨t',rfl⟩:=a;exact eq_int (A5 I q JX)
  | str j=>obtain⟨t',rfl⟩:=a;exact PySem.EqMixed.eq_int_str (A5 I q (by simp))
  | _=>exact Qo (hs) YU
 | str i =>
  obtain⟨t,rfl⟩:=b;cases y with
  | non=>cases a;exact PySem.EqNone.eq_str_none (A5 I q (by simp))
  | bl j=>cases a;exact PySem.EqMixed.eq_str_bool (A5 I q (by simp))
  | int j=>obtain⟨t',rfl⟩:=a;exact PySem.EqMixed.eq_str_int (A5 I q (by simp))
  | str j=>obtain⟨t',rfl⟩:=a;exact eq_str (A5 I q JZ)
  | _=>exact Qo (hs) YU
 | byt i =>
  obtain⟨t,rfl⟩:=b;cases y with
  | byt j=>obtain⟨t',rfl⟩:=a;exact PySem.W.eq_bytes (A5 I q NQ)
  | _=>exact Qo (hs) YU
 | _=>cases y <;> exact Qo (hs) YU
theorem Y5:OpR X (compareOp .NotEq) rNe:=by
 intro pins s σ H x y v u Q I b a h;obtain⟨hs,q⟩:=h;cases x with
 | non =>
  cases b;cases y with
  | non=>cases a;exact PySem.EqNone.ne_none_none (A5 I q (by simp))
  | bl j=>cases a;exact PySem.EqNone.ne_none_bool (A5 I q (by simp))
  | int j=>obtain⟨t',rfl⟩:=a;exact PySem.EqNone.ne_none_int (A5 I q (by simp))
  | str j=>obtain⟨t',rfl⟩:=a;exact PySem.EqNone.ne_none_str (A5 I q (by simp))
  | _=>exact Qo (hs) YU
 | bl i =>
  cases b;cases y with
  | non=>cases a;exact PySem.EqNone.ne_bool_none (A5 I q (by simp))
  | bl j=>cases a;exact ne_bool (A5 I q (Ql not JY))
  | str j=>obtain⟨t',rfl⟩:=a;exact PySem.EqMixed.ne_bool_str (A5 I q (by simp))
  | _=>exact Qo (hs) YU
 | int i =>
  obtain⟨t,rfl⟩:=b;cases y with
  | non=>cases a;exact PySem.EqNone.ne_int_none (A5 I q (by simp))
  | int j=>obtain⟨t',rfl⟩:=a;exact ne_int (A5 I q (Ql not JX))
  | str j=>obtain⟨t',rfl⟩:=a;exact PySem.EqMixed.ne_int_str (A5 I q (by simp))
  | _=>exact Qo (hs) YU
 | str i =>
  obtain⟨t,rfl⟩:=b;cases y with
  | non=>cases a;exact PySem.EqNone.ne_str_none (A5 I q (by simp))
  | bl j=>cases a;exact PySem.EqMixed.ne_str_bool (A5 I q (by simp))
  | int j=>obtain⟨t',rfl⟩:=a;exact PySem.EqMixed.ne_str_int (A5 I q (by simp))
  | str j=>obtain⟨t',rfl⟩:=a;exact ne_str (A5 I q (Ql not JZ))
  | _=>exact Qo (hs) YU
 | byt i =>
  obtain⟨t,rfl⟩:=b;cases y with
  | byt j=>obtain⟨t',rfl⟩:=a;exact PySem.W.ne_bytes (A5 I q (Ql not NQ))
  | _=>exact Qo (hs) YU
 | _=>cases y <;> exact Qo (hs) YU
theorem Y6:OpR X (compareOp .Lt) (rI0 λi j=>.bl (decide (i < j))):=Hm λ_ _ _ _ _ _ _ q=>lt_int q
theorem Y7:OpR X (compareOp .LtE) (rI0 λi j=>.bl (decide (i<=j))):=Hm λ_ _ _ _ _ _ _ q=>le_int q
theorem Y8:OpR X (compareOp .Gt) (rI0 λi j=>.bl (decide (j < i))):=Hm λ_ _ _ _ _ _ _ q=>gt_int q
theorem Y9:OpR X (compareOp .GtE) (rI0 λi j=>.bl (decide (j<=i))):=Hm λ_ _ _ _ _ _ _ q=>ge_int q
theorem Za:OpR X (compareOp .Lt) (λx y H Q=>∃ i j,x=.str i/\y=.str j/\Q (.bl (decide (i.cps.toList < j.cps.toList))) H):=by
 intro pins s σ H x y v u Q I a b h;obtain⟨i,j,rfl,rfl,q⟩:=h;obtain⟨t,rfl⟩:=a;obtain⟨t',rfl⟩:=b;exact lt_str (A5 I q rfl)
theorem Zb:OpR X (compareOp .Is) (λx y H Q=>y=.non/\Q (.bl (decide (x=.non))) H):=by
 intro pins s σ H x y v u Q I a b h;obtain⟨rfl,q⟩:=h;cases b;refine is_none_gen (A5 I q ?_)
 cases x <;> first
  |(rfl)
  |(obtain⟨t,rfl⟩:=a;rfl)
theorem OpR.or(h:OpR X f r)(h':OpR X f r'):OpR X f (λx y H Q=>r x y H Q\/r' x y H Q):=by
 intro pins s σ H x y v u Q I a b q;rcases q with q | q
 ·exact h pins s σ H x y v u Q I a b q
 ·exact h' pins s σ H x y v u Q I a b q
theorem pA(b:Expr)(h:op≠.In:=by decide)(h2:op≠.NotIn:=by decide):behindInMarks op b=false:=by
 have a:(op==CmpOp.In)=false:=by cases op <;> first | rfl | exact Qo rfl h
 have c:(op==CmpOp.NotIn)=false:=by cases op <;> first | rfl | exact Qo rfl h2
 cases b <;> simp[behindInMarks,a,c]
theorem Zc(k:OpR X (compareOp op) r)(c:PE X a ta)(j:PE X b tb)(i:behindInMarks op b=false):PE X (.Compare a [op] [b] pos) (tOp r ta tb):=by
 intro pins s σ H Q I h;exact wpAny_Compare1 (JW c j I h λv u d x y H2 g f e q=>k pins d σ H2 x y v u Q g f e q) i
def NR(t:TE):TT:=λσ H Q=>t σ H λx H'=>∃ k,x=.bl k/\Q k H'
theorem Zd(t:OpR X (compareOp op) r)(f:PE X a ta)(q:PE X b tb)(p:behindInMarks op b=false):PT X (.Compare a [op] [b] pos) (NR (tOp r ta tb)):=by
 intro pins s σ H Q I h
 refine wpAny_isTrue_Compare1 (thn (f pins s σ H _ I h) λv l⟨x,H1,j,r1,q1⟩=>thn (q pins l σ H1 _ j q1) λu g⟨y,H2,n,i,q2⟩=>
  thn (t pins g σ H2 x y v u _ n r1 i q2) λc w⟨z,m,d,o,k,e,q3⟩=>?_) p
 subst e;cases o;exact wpAny_truthy_bool ⟨m,d,q3⟩
noncomputable def J0(r r':R2)(ta tb tc:TE):TE:=λσ H Q=>ta σ H λx H1=>tb σ H1 λy H2=>r x y H2 λz H3=>∃ k,z=.bl k/\
 (if k=true then tc σ H3 λw' H4=>r' y w' H4 Q else Q (.bl false) H3)
theorem Ze(t:OpR X (compareOp op) r)(f:OpR X (compareOp op') r')(F:PE X a ta)(o:PE X b tb)(hc:PE X c tc)(m:lastMarks [op,op'] [b,c]=false:=by with_unfolding_all rfl):PE X (.Compare a [op,op'] [b,c] pos) (J0 r r' ta tb tc):=by
 intro pins s σ H Q I h
 refine Compare_chain (thn (F pins s σ H _ I h) λv p⟨x,H1,B,r1,q1⟩=>chain_link (thn (o pins p σ H1 _ B q1) λu A⟨y,H2,D,g,q2⟩=>
  thn (t pins A σ H2 x y v u _ D r1 g q2) λd K⟨z,j,i,J,k,e,q3⟩=>?_)) m
 subst e;cases J;refine wpAny_truthy_bool ?_;cases k with
 | false=>exact ite_ff ⟨.bl false,j,i,rfl,q3⟩
 | true=>exact ite_tt (chain_last (thn (hc pins K σ j _ i q3) (by rintro l G ⟨E,q,w,n,q4⟩;exact f pins G σ q y E u l Q w g n q4)))
theorem Zf(A:OpR X (compareOp op) r)(f:OpR X (compareOp op') r')(L:PE X a ta)(p:PE X b tb)(hc:PE X c tc)(n:lastMarks [op,op'] [b,c]=false:=by with_unfolding_all rfl):PT X (.Compare a [op,op'] [b,c] pos) (NR (J0 r r' ta tb tc)):=by
 intro pins s σ H Q I h
 refine isTrue_chain (thn (L pins s σ H _ I h) λv q⟨x,H1,F,r1,q1⟩=>test_link (thn (p pins q σ H1 _ F q1) λu D⟨y,H2,G,g,q2⟩=>
  thn (A pins D σ H2 x y v u _ G r1 g q2) λd R⟨z,j,i,P,k,e,q3⟩=>?_)) n
 subst e;cases P;refine wpAny_truthy_bool ?_;cases k with
 | false =>
  obtain⟨T,w,E⟩:=q3;cases w;exact ite_ff ⟨j,i,E⟩
 | true =>
  refine ite_tt (test_last (thn (hc pins R σ j _ i q3) λm O⟨J,t,B,o,q4⟩=>thn (f pins O σ t y J u m _ B g o q4) λd' U⟨Y,N,l,K,Z,S,q5⟩=>?_));subst S;cases K;exact wpAny_truthy_bool ⟨N,l,q5⟩
noncomputable def J2(K:PySem.W.Frag)(x:V)(H:Hp)(k:Bool):Prop :=
 match x with
 | .non=>k=false
 | .bl b=>k=b
 | .int i=>k=(i != 0)
 | .str y=>y.length<=sizeLine/\k=((y.length:Int) != 0)
 | .byt y=>y.size<=sizeLine/\k=((y.size:Int) != 0)
 | .ref p=>(∃ xs,SqL K H p xs/\k=!xs.isEmpty)\/(∃ xs,SqT K H p xs/\k=!xs.isEmpty)\/∃ kvs,H p=some (.dK kvs)/\k=!kvs.isEmpty
 | _=>False
theorem Zg{κ:Type}{kvs:List (κ×V)}{vs:List (κ×Value)}(r:KV kvs vs):(!vs.isEmpty)=!kvs.isEmpty:=by
 cases r <;> rfl
theorem NS(r:Vals xs a):(!a.toArray.isEmpty)=!xs.isEmpty:=by
 cases r <;> simp
theorem Hn:(sizeLine:Nat) < 2 ^ 63:=by rw[sizeLine_eq];decide
theorem Zh:X4 X (λx H Q=>∃ k,J2 X.K x H k/\Q k H):=by
 intro pins s σ H x v Q I d h;obtain⟨k,e,q⟩:=h;have hs:=sizeLine_eq;cases x with
 | non =>
  cases d;have a:=e;subst a;exact truthy_none ⟨H,I,q⟩
 | bl b =>
  cases d;have a:=e;subst a;exact wpAny_truthy_bool ⟨H,I,q⟩
 | int i =>
  obtain⟨t,rfl⟩:=d;have a:=e;subst a;exact PySem.P.truthy_int ⟨H,I,q⟩
 | str y =>
  obtain⟨t,rfl⟩:=d;obtain⟨u,a⟩:y.length<=sizeLine/\k=((y.length:Int) != 0):=e;subst a;exact PySem.P.truthy_str (by lia) ⟨H,I.tok _,q⟩
 | byt y =>
  obtain⟨t,rfl⟩:=d;obtain⟨u,a⟩:y.size<=sizeLine/\k=((y.size:Int) != 0):=e;subst a;exact PySem.W.truthy_bytes (by lia) ⟨H,I.tok _,q⟩
 | ref p =>
  cases d;have a:=e;rcases a with⟨xs,g,a⟩|⟨xs,g,a⟩|⟨f,g,a⟩
  ·subst a;obtain⟨j,r,pl,n⟩:=I.list g;have c:=r.length;exact wpAny_truthy_list pl.isList (by simp only[Yn];lia) ⟨H,I.tok _,by rw[NS r];exact q⟩
  ·subst a;obtain⟨j,r,pl,n⟩:=I.tuple g;have c:=r.length;exact truthy_tuple pl (by simp only[Yn];lia) ⟨H,I.tok _,by rw[NS r];exact q⟩
  ·subst a;obtain⟨n,o,l,r,m⟩:f.length<=sizeLine/\(p==sysModules)=false/\∃ l,KV f l/\s.heap.DictOf (A4 X.prog X.w) p l:=I.hok p _ g;have c:=Paired.length r;exact wpAny_truthy_dict o m (by lia) ⟨H,I.tok _,by rw[Zg r];exact q⟩
 | _=>exact(e).elim
theorem Zi(c:PE X a ta)(d:∀ b,isTrue a X.env b=(do let v <- b;standAt a.pos;holding [v] (truthy v))):
  PT X a (λσ H Q=>ta σ H λx H'=>∃ k,J2 X.K x H' k/\Q k H'):=by
 intro pins s σ H Q I h;exact isTrue_plain (thn (c pins s σ H _ I h) (by rintro v f ⟨x,H1,e,r1,q1⟩;exact Zh pins f σ H1 x v Q e r1 q1)) (d _)
theorem Zj:OpR X (binaryOp .Add) (λx y H Q=>∃ i j,x=.str i/\y=.str j/\i.length+j.length<=sizeLine/\Q (.str (i++j)) H):=by
 intro pins s σ H x y v u Q I a b h;obtain⟨i,j,rfl,rfl,c,q⟩:=h;obtain⟨t,rfl⟩:=a;obtain⟨t',rfl⟩:=b;exact add_str (λt' tk=>⟨.str (i++j),H,I.tok _,⟨_,rfl⟩,q⟩) c
theorem Zk:OpR X (inplaceOp .Add) (λx y H Q=>∃ i j,x=.str i/\y=.str j/\i.length+j.length<=sizeLine/\Q (.str (i++j)) H):=by
 intro pins s σ H x y v u Q I a b h;obtain⟨i,j,rfl,rfl,c,q⟩:=h;obtain⟨t,rfl⟩:=a;obtain⟨t',rfl⟩:=b;exact iadd_str (λt' tk=>⟨.str (i++j),H,I.tok _,⟨_,rfl⟩,q⟩) c
theorem Ce(r:Vals [x] a):∃ u,a=[u]/\RelV x u:=by
 cases r with
 | cons r1 b=>cases b;exact⟨_,rfl,r1⟩
variable {a b:Expr} in
theorem NT{x y:V}{b:List Value}(r:Vals [x,y] b):∃ u a,b=[u,a]/\RelV x u/\RelV y a:=by
 cases r with
 | cons r1 c =>
  cases c with
  | cons d e=>cases e;exact⟨_,_,rfl,r1,d⟩
theorem Zl:CallR X (.type "int") (λxs H Q=>(∃ i,xs=[.int i]/\Q (.int i) H)\/∃ k,xs=[.bl k]/\Q (.int (if k then 1 else 0)) H):=by
 intro pins s σ H xs a Q I r h;rcases h with⟨i,rfl,q⟩|⟨k,rfl,q⟩
 ·obtain⟨u,rfl,t,rfl⟩:=Ce r;exact call_int_int ⟨.int i,H,I,⟨_,rfl⟩,q⟩
 ·obtain⟨u,rfl,r1⟩:=Ce r;cases r1;exact call_int_bool ⟨.int (if k then 1 else 0),H,I.tok _,⟨_,rfl⟩,q⟩
noncomputable def NU(K:PySem.W.Frag)(x:V)(H:Hp)(n:Nat):Prop :=
 match x with
 | .str y=>y.length<=sizeLine/\n=y.length
 | .byt y=>y.size<=sizeLine/\n=y.size
 | .ref p=>(∃ xs,SqL K H p xs/\n=xs.length)\/∃ xs,SqT K H p xs/\n=xs.length
 | _=>False
theorem Zm:CallR X (.builtin "len") (λxs H Q=>∃ x n,xs=[x]/\NU X.K x H n/\Q (.int n) H):=by
 intro pins s σ H xs j Q I r h;obtain⟨x,n,rfl,e,q⟩:=h;obtain⟨u,rfl,d⟩:=Ce r;have hs:=sizeLine_eq;cases x with
 | str y =>
  obtain⟨t,rfl⟩:=d;obtain⟨i,b⟩:y.length<=sizeLine/\n=y.length:=e;subst b;exact len_str (by lia) ⟨.int _,H,I.tok _,⟨_,rfl⟩,q⟩
 | byt y =>
  obtain⟨t,rfl⟩:=d;obtain⟨i,b⟩:y.size<=sizeLine/\n=y.size:=e;subst b;exact PySem.W.len_bytes (by lia) ⟨.int _,H,I.tok _,⟨_,rfl⟩,q⟩
 | ref p =>
  cases d;have b:=e;rcases b with⟨xs,f,b⟩|⟨xs,f,b⟩
  ·subst b;obtain⟨c,r',pl,g⟩:=I.list f;have a:=r'.length;exact Calls.call_len_list pl.isList (by simp only[Yn];lia) ⟨.int xs.length,H,I.tok _,⟨_,by simp only[Yn];rw[a]⟩,q⟩
  ·subst b;obtain⟨c,r',pl,g⟩:=I.tuple f;have a:=r'.length;exact len_tuple pl (by simp only[Yn];lia) ⟨.int xs.length,H,I.tok _,⟨_,by simp only[Yn];rw[a]⟩,q⟩
 | _=>exact(e).elim
end
structure Cls(K:PySem.W.Frag)(C:Addr):Prop where
 pg:PySem.W.plainGet K C Str.empty=true
 hd:PySem.W.hasDictIn K C=true
 po:PySem.W.plainOver K C=true
 sa:PySem.W.findIn K (.ref C) "__setattr__"=some (some (.builtin "object.__setattr__"))
theorem Cls.get{K:PySem.W.Frag}(c:Cls K C)(f:Str):PySem.W.plainGet K C f=true:=c.pg
theorem Inv.made{σ:St}(I:Inv X pins σ H s):Inv X pins σ (upd (upd H s.heap.objs.size (.own (s.heap.objs.size+1))) (s.heap.objs.size+1) (.ins C s.heap.objs.size []))
  {s with heap:=(s.heap.push PySem.W.emptyDict).push (PySem.W.instObj C s.heap.objs.size)}:=by
 have a:(s.heap.push PySem.W.emptyDict).get? s.heap.objs.size=some PySem.W.emptyDict:=Qt s.heap rfl
 have h:((s.heap.push PySem.W.emptyDict).push (PySem.W.instObj C s.heap.objs.size)).get? (s.heap.objs.size+1)=some (PySem.W.instObj C s.heap.objs.size):=by
  have:=Qt (s.heap.push PySem.W.emptyDict) (o:=PySem.W.instObj C s.heap.objs.size) rfl;rwa [Qu]at this
 have g:(s.heap.push PySem.W.emptyDict).Ns s.heap.objs.size (λ_=>none):=⟨PySem.W.emptyDict,#[],_,a,rfl,(λe c=>Qo c (by simp)),λ_=>rfl⟩;have d:=I.laid (o:=.own (s.heap.objs.size+1)) (t':=s.toks) (λb u q=>Qr _ q) (Yr _) ⟨_,a⟩;refine d.laid (λb u q=>Qr _ q) (Nat.le_of_eq (Qu _ _)) ?_;have ne:s.heap.objs.size≠s.heap.objs.size+1:=Ys (Nat.lt_succ_self _);refine⟨by rw[A7 ne,BJ],YV _,ne,h,λ_=>none,(Heap.Ns1.of_empty g).at λo q=>Qr _ q,λ_=>True.intro,λy f=>Qo rfl f⟩
noncomputable def BB:V->V->Hp->VK->Prop:=λx y H Q=>∃ i j,x=.int i/\y=.int j/\Q (.int (i+j)) H
structure Room(k:Nat)(A:Around):Prop where
 hd:A.handled=none
 dp:A.depth+3*k+5 < recursionLimit
 un:A.units+16*k+200 < cLine
theorem Room.mono(r:Room k A)(h:j<=k):Room j A:=⟨r.hd,by have:=r.dp;lia,by have:=r.un;lia⟩
theorem Room.deeper(r:Room (k+1) A)(env:Env):Room k (A.deeper env):=
 ⟨r.hd,by have:=r.dp;show A.depth+1+3*k+5 < _;lia,by have:=r.un;show A.units+3+16*k+200 < _;lia⟩
theorem Room.in1(r:Room (k+1) A):Room k A.in1 :=
 ⟨r.hd,by have:=r.dp;show A.depth+3*k+5 < _;lia,by have:=r.un;show A.units+1+16*k+200 < _;lia⟩
theorem Room.depth(r:Room k A):A.depth < recursionLimit:=by have:=r.dp;lia
theorem Room.units(r:Room k A):A.units+64 < cLine:=by have:=r.un;lia
def J3:TA:=λ_ H Q=>Q [] H
noncomputable def Ho(ta:TE)(tr:TA):TA:=λσ H Q=>ta σ H λx H1=>tr σ H1 λxs H2=>Q (x::xs) H2
section
variable {t:TA}
theorem Hq:PA X [] J3:=λ_ _ _ _ H Q I h=>Calls.spliced_nil ⟨[],H,I,.nil,h⟩
theorem F9(c:PE X e te)(b:PA X es t)(hs:starEach (e::es) X.env=(false,eval e X.env)::starEach es X.env:=by rfl):PA X (e::es) (Ho te t):=by
 intro pos pins s σ H Q I h;rw[hs];refine Calls.spliced_cons (thn (c pins s σ H _ I h) λu g a=>?_);obtain⟨x,H1,f,r1,q1⟩:=a;exact thn (b pos pins g σ H1 _ f q1) (by rintro k j ⟨xs,H2,i,d,q2⟩;exact⟨x::xs,H2,i,.cons r1 d,q2⟩)
noncomputable def Zn(t:TA):TE:=λσ H Q=>t σ H λxs H1=>xs.length<=sizeLine/\∀ p,H1 p=none->Q (.ref p) (upd H1 p (.tup xs))
noncomputable def Zo(t:TA):TE:=λσ H Q=>t σ H λxs H1=>xs.length<=sizeLine/\∀ p,H1 p=none->Q (.ref p) (upd H1 p (.lst xs))
theorem Zp{x1}(h:PA X es t):PE X (.Tuple es x1 pos) (Zn t):=by
 intro pins s σ H Q I g;refine wpAny_Tuple_spliced (thn (h pos pins s σ H _ I g) λf c⟨xs,H1,a,r,z,q⟩=>⟨by rw[<- r.length];exact z,?_⟩);have d:=a.hok.fresh (Yr _);refine⟨.ref c.heap.objs.size,upd H1 c.heap.objs.size (.tup xs),a.laid (λb u e=>Qr _ e) (Yr _) ?_,rfl,q _ d⟩;exact⟨z,f,r,⟨_,Qt _ rfl,rfl,rfl,_,rfl⟩⟩
theorem Zq(h:PA X es t):PE X (.List es pos) (Zo t):=by
 intro pins s σ H Q I g;refine wpAny_List_spliced (thn (h pos pins s σ H _ I g) λf c⟨xs,H1,a,r,z,q⟩=>⟨by rw[<- r.length];exact z,?_⟩);have d:=a.hok.fresh (Yr _);refine⟨.ref c.heap.objs.size,upd H1 c.heap.objs.size (.lst xs),a.laid (λb u e=>Qr _ e) (Yr _) ?_,rfl,q _ d⟩;exact⟨z,f,0,r,Qt _ rfl⟩
end
abbrev Sp:=List V->Hp->VK->XK->Prop
abbrev CXT:=List Env->Hp->Shared->XK->Value->Shared->Prop
structure Env0(P:Program)(w:World)(K:PySem.W.Frag)(mg:Str->Option Value)(base:Heap)(A:Around)(outer:List Env)(s:Shared)(H:Hp):Prop where
 frames:A.frames=some outer
 mod:Mod K mg base
 bs:∀ b o,base.get? b=some o->s.heap.get? b=some o/\H b=none
 bsz:base.objs.size<=s.heap.objs.size
 funs:s.heap.FunFrames base outer
 frf:∀ b∈frs outer,H b=none
 hok:HOk P w H s.heap
 bare:AllBare s.gens
noncomputable def CE(outer:List Env)(P:Program)(w:World)(H:Hp)(s:Shared)(Q:VK)(u:Value)(s':Shared):Prop :=
 ∃ v H',s'.os=s.os/\AllBare s'.gens/\Un (frs outer) [] H H' s.heap s'.heap/\HOk P w H' s'.heap/\RelV v u/\Q v H'
noncomputable def CR(CX:CXT)(outer:List Env)(P:Program)(w:World)(H:Hp)(s:Shared)(Q:VK)(E:XK)(r:Result)(s':Shared):Prop :=
 match r with
 | .ok (.ret u)=>CE outer P w H s Q u s'
 | .ok _=>False
 | .error e=>CX outer H s E e s'
structure FnOk(P:Program)(w:World)(K:PySem.W.Frag)(mg:Str->Option Value)(base:Heap)(CX:CXT)(k:Nat)(f:Addr)(fd:FuncData)(ps:List Str)(sp:Sp):Prop where
 len:∀ vs H Q E,sp vs H Q E->vs.length=ps.length
 run:∀(A:Around)(outer:List Env)(s:Shared)(H:Hp)(args:Args)(us:List Value)(vs:List V)(Q:VK)(E:XK),Room k A->Env0 P w K mg base A outer s H->BindsTo s fd args (ps.zip us)->Vals vs us->sp vs H Q E->
  codeAny (model P w) A (.call (.ref f) args) (CR CX outer P w H s Q E) s
theorem FnOk.mono{K:PySem.W.Frag}(F:FnOk P w K mg base CX j f fd ps sp)(h:j<=k):
  FnOk P w K mg base CX k f fd ps sp:=⟨F.len,λA outer s H a c b Q E d=>F.run A outer s H a c b Q E (d.mono h)⟩
theorem FnOk.imp{K:PySem.W.Frag}(F:FnOk P w K mg base CX k f fd ps sp)(h:∀ vs H Q E,b vs H Q E->sp vs H Q E):FnOk P w K mg base CX k f fd ps b :=
 ⟨λvs H Q E q=>F.len vs H Q E (h _ _ _ _ q),λA outer s H a g vs Q E c d i e hs=>F.run A outer s H a g vs Q E c d i e (h _ _ _ _ hs)⟩
theorem Env0.in1{K:PySem.W.Frag}(e:Env0 P w K mg base A outer s H):
  Env0 P w K mg base A.in1 outer s H:=⟨e.frames,e.mod,e.bs,e.bsz,e.funs,e.frf,e.hok,e.bare⟩
theorem Inv.env0{σ:St}(I:Inv X pins σ H s):Env0 X.prog X.w X.K X.mg X.base X.A X.stack s H :=
 ⟨I.ok.frames,I.ok.mod,I.bs,Yt I.ok.bsz I.sz,I.stack,I.stkFree,I.hok,I.bare⟩
theorem Inv.after{σ:St}(I:Inv X pins σ H s)(h:CE X.stack X.prog X.w H s Q u s'):EP X pins σ Q u s':=by
 obtain⟨v,H',os,bare,un,hok,r,q⟩:=h;obtain⟨c,g,d,t,a⟩:=s';obtain rfl:a=s.os:=os;exact⟨v,H',I.call un hok bare (λb z=>Qo z (by simp)),r,q⟩
noncomputable def Binds(K:PySem.W.Frag)(fd:FuncData)(ps:List Str)(ds:List Value):Prop :=
 ∀(s:Shared)(us:List Value),K.In s.heap->(us++ds).length=ps.length->BindsTo s fd ⟨us,[]⟩ (ps.zip (us++ds))
theorem Binds.all{K:PySem.W.Frag}(h:∀ a:List Value,a.length=ps.length->bindArgs fd ⟨a,[]⟩=pure (ps.zip a)):Binds K fd ps []:=λs a _ hl=>by
 rw[Yx]at hl ⊢;exact .of_eq (h a hl)
noncomputable def Zr(CX:CXT)(X:Cx)(E:XK):Prop:=∀(pins:List (Addr×Obj))(σ:St)(H:Hp)(s:Shared)(e:Value)(s':Shared),Inv X pins σ H s->CX X.stack H s E e s'->X.xe e s'
structure Ay(N P:List Str)(sc:Scope):Prop where
 kind:sc.kind=.function
 co:sc.isCoroutine=false
 gen:sc.isGenerator=false
 nd:N.Nodup
 pre:N.take P.length=P
 par:∀ x∈P,sc.names.lookup x=some .local\/sc.names.lookup x=some .cell
 nofree:∀ y∈sc.names,y.2≠.free
theorem NV{kindOf:Str->Option NameKind}:∀{binds:List (Str×Value)}{m:Str->Option Value},(∀ v,(x,v)∉binds)->bindL kindOf binds m x=m x
 | [],_,_=>rfl
 |(n,v)::r,m,h=>by
  unfold bindL;rw[NV λw hw=>h w (Yd _ hw)];split
  ·have:x≠n:=by rintro rfl;exact h v Ye
   simp[this]
  ·rfl
theorem NW{kindOf:Str->Option NameKind}:∀{binds:List (Str×Value)}{m:Str->Option Value},(∀ v,(x,v)∉binds)->bindC kindOf binds m x=m x
 | [],_,_=>rfl
 |(n,v)::r,m,h=>by
  unfold bindC;rw[NW λw hw=>h w (Yd _ hw)];split
  ·rfl
  ·have:x≠n:=by rintro rfl;exact h v Ye
   simp[this]
theorem NX{kindOf:Str->Option NameKind}:∀{P:List Str}{vs:List Value}{i:Nat}{m:Str->Option Value},P.Nodup->P[i]?=some x->vs[i]?=some v->kindOf x=some .local->
  bindL kindOf (P.zip vs) m x=some v
 | [],_,_,_,_,h,_,_|_::_,[],_,_,_,_,h,_=>by simp at h
 | p::P,w::vs,0,m,nd,h1,h2,a=>by
  simp at h1 h2;subst h1;subst h2;show bindL kindOf ((p,w)::P.zip vs) m p=_;unfold bindL;rw[NV λv b=>(YS.mp nd).1 (List.of_mem_zip b).1,if_pos a];simp
 | p::P,w::vs,i+1,m,nd,h1,h2,a=>by
  show bindL kindOf ((p,w)::P.zip vs) m x=_;exact NX (YS.mp nd).2 (by simpa using h1) (by simpa using h2) a
theorem NY{kindOf:Str->Option NameKind}:∀{P:List Str}{vs:List Value}{i:Nat}{m:Str->Option Value},P.Nodup->P[i]?=some x->vs[i]?=some v->kindOf x≠some .local->
  bindC kindOf (P.zip vs) m x=some v
 | [],_,_,_,_,h,_,_|_::_,[],_,_,_,_,h,_=>by simp at h
 | p::P,w::vs,0,m,nd,h1,h2,a=>by
  simp at h1 h2;subst h1;subst h2;show bindC kindOf ((p,w)::P.zip vs) m p=_;unfold bindC;rw[NW λv b=>(YS.mp nd).1 (List.of_mem_zip b).1,if_neg a];simp
 | p::P,w::vs,i+1,m,nd,h1,h2,a=>by
  show bindC kindOf ((p,w)::P.zip vs) m x=_;exact NY (YS.mp nd).2 (by simpa using h1) (by simpa using h2) a
noncomputable def CL(N:List Str)(vs:List V):St:=vs.map some++List.replicate (N.length - vs.length) none
noncomputable def Bq(CX:CXT)(P:Program)(w:World)(K:PySem.W.Frag)(mg:Str->Option Value)(base:Heap)(N:List Str)(qual:Str)(scope:Scope)(f:Addr)(cd:Value)(A:Around)(outer:List Env)(s:Shared)(H:Hp)(E:XK):Cx where
 prog:=P
 w:=w
 K:=K
 mg:=mg
 base:=base
 A:=A.deeper (envOfC qual scope s.heap.objs.size f cd)
 N:=N
 s₀:=s
 H₀:=H
 env:=envOfC qual scope s.heap.objs.size f cd
 outer:=outer
 stack:=envOfC qual scope s.heap.objs.size f cd::outer
 ex:=[]
 calm:=true
 fn:=λ_=>true
 pn:=[]
 xe:=λe s'=>wpAny (model P w) (A.deeper (envOfC qual scope s.heap.objs.size f cd)) (leaving (envOfC qual scope s.heap.objs.size f cd) e) (λ_ s''=>CX outer H s E e s'') (λe' s''=>CX outer H s E e' s'') s'
theorem J4{a:Scope}(h:a.names.lookup x=some .cell):∃ c,(cellsFrom n a.names []).lookup x=some c:=by
 have q:=PySem.W.cellsFrom_some a.names n [] (.inl h);exact Option.isSome_iff_exists.mp q
theorem Zs{K:PySem.W.Frag}(S:Ay N ps scope)(hd:A.handled=none)(d:Env0 P w K mg base A outer s H)(hl:vs.length=ps.length)(r:Vals vs n)(x:InCallC s s.heap.objs.size (bindL (envOfC qual scope s.heap.objs.size f cd).kindOf (ps.zip n) λ_=>none) (cellsFrom (s.heap.objs.size+1) scope.names []) (bindC (envOfC qual scope s.heap.objs.size f cd).kindOf (ps.zip n) λ_=>none) B):
  Inv (Bq CX P w K mg base N qual scope f cd A outer s H E) [] (CL N vs) H B:=by
 have F:ps.length<=N.length:=by have:=Ql List.length S.pre;rw[List.length_take]at this;lia
 obtain⟨h1,tk,rfl,o⟩:=x.done;have g:∀ b:Addr,b∉(Bq CX P w K mg base N qual scope f cd A outer s H E).ex:=λb z=>Qo (show b∈([]:List Addr)from z) (by simp)
 refine⟨⟨d.mod,S.kind,rfl,rfl,Yr _,λy z c h1 h2=>?_,λy l=>?_,λy c _ h=>?_,λ_=>hd,Around.frames_deeper d.frames,.inr ⟨rfl,rfl⟩,λb z=>Qo z (g b),d.bs,d.bsz,λb _ _=>g b,λb z=>Qo z (g b),d.funs,d.frf⟩,
  rfl,d.bare,Un.kept o,⟨_,x.toInCall.ns,λi y v h1 h2 I=>?_⟩,λy c h=>⟨_,x.cell y c h⟩,d.hok.fresh (Yr _),λy c h=>?_,λp m=>Qo (show p∈([]:List (Addr×Obj))from m) (by simp),d.hok.kept o,?_⟩
 ·exact name_of_addr x.apart (PySem.mem_of_lookup h1) (PySem.mem_of_lookup h2)
 ·rcases l with l | l
  ·exact J4 l
  ·exact Qo rfl (S.nofree _ (PySem.mem_of_lookup l))
 ·exact YK (x.above y c (PySem.mem_of_lookup h))
 ·have hi:i < vs.length:=by
   unfold CL at h2;by_cases hi:i < vs.length
   ·exact hi
   ·rw[List.getElem?_append_right (by simpa using hi)]at h2;rw[List.getElem?_replicate]at h2;split at h2 <;> cases h2
  have D:vs[i]?=some v:=by
   unfold CL at h2;rw[YI (by simpa using hi),YO]at h2;cases e:vs[i]? with
   | none=>rw[e]at h2;cases h2
   | some a=>rw[e]at h2;cases h2;rfl
  obtain⟨u,t,G⟩:=r.get D
  have m:ps[i]?=some y:=by
   rw[<- S.pre,List.getElem?_take_of_lt (by lia)];exact h1
  have j:ps.Nodup:=by rw[<- S.pre];exact S.nd.sublist (List.take_sublist _ _)
  refine⟨u,G,?_⟩;rcases S.par y (List.mem_of_getElem? m)with k | k
  ·exact .inl ⟨k,NX j m t k⟩
  ·obtain⟨c,e⟩:=J4 k;refine .inr ⟨.inl k,c,e,?_⟩;have q:=x.cell y c e;rw[NY j m t (by show scope.names.lookup y≠_;rw[k];decide)]at q;exact q
 ·exact d.hok.fresh (YK (x.above y c (PySem.mem_of_lookup h)))
 ·unfold CL;show _=N.length;rw[Yj,Yh,List.length_replicate];lia
theorem Hr{K:PySem.W.Frag}{kV:Value}{ps:List Str}{sp:Sp}(lk:K.lookup f=some ⟨O,od,.func (PySem.W.fnOf name qual params body scope L kV i pm D a ct),B⟩)(m:PySem.W.codeIn K a qual=true)(S:Ay N ps scope)(len:∀ vs H Q E,sp vs H Q E->vs.length=ps.length)(c:∀(A:Around)(outer:List Env)(s:Shared)(H:Hp)(vs:List V)(Q:VK)(E:XK),Room k (A.deeper (envOfC qual scope s.heap.objs.size f a))->sp vs H Q E->
   ∃ t,PSs (Bq CX P w K mg base N qual scope f a A outer s H E) body t/\t {nx:=λ_ H'=>Q .non H',rt:=Q} (CL N vs) H):
  FnOk P w K mg base CX (k+1) f (PySem.W.fnOf name qual params body scope L kV i pm D a ct) ps sp:=by
 refine⟨len,λA outer s H F T vs Q E p g X r h=>?_⟩;have hl:=len _ _ _ _ h;have KX:=g.mod.kin.keeps λb o e=>(g.bs b o e).1;have l:=g.mod.nolimit.keeps λb o e=>(g.bs b o e).1
 have d:∀ y∈ps.zip T,scope.names.lookup y.1=some .local\/(scope.names.lookup y.1=some .cell/\((cellsFrom (s.heap.objs.size+1) scope.names []).lookup y.1).isSome=true):=by
  rintro⟨n,v⟩ U;rcases S.par n (List.of_mem_zip U).1 with q | q
  ·exact .inl q
  ·exact .inr ⟨q,PySem.W.cellsFrom_some _ _ _ (.inl q)⟩
 refine codeAny_call_function p.depth (KX _ _ lk) rfl S.co S.gen rfl (PySem.W.codeRec_of KX m) (X _ _ _ _ ?_);refine wpAny_newFunctionEnv_cells S.kind d λenv R G x=>?_;subst R;refine⟨l.keeps x.toInCall.keep,codeAny_func ?_⟩;obtain⟨t,Y,Z⟩:=c A outer s H vs Q E (p.deeper _) h;have I:Inv (Bq CX P w K mg base N qual scope f a A outer s H E) [] (CL N vs) H G:=Zs S p.hd g hl r x;refine wpAny_mono (Y [] G (CL N vs) H _ I Z) (λfl s' hs=>?_) λe s' hs=>hs
 have j:∀{σ':St}{H':Hp}{v:V}{u:Value},Inv (Bq CX P w K mg base N qual scope f a A outer s H E) [] σ' H' s'->RelV v u->Q v H'->CE outer P w H s Q u s' :=
  λ{σ' H' v u}J z q=>⟨v,H',J.os,J.bare,J.base,J.hok,z,q⟩
 cases fl with
 | ret u =>
  obtain⟨v,σ',H',J,z,q⟩:=hs;exact j J z q
 | next =>
  obtain⟨σ',H',J,q⟩:=hs;exact j (v:=V.non) J rfl q
 | brk|cont=>
  obtain⟨_,_,_,q⟩:=hs;exact Qi q
section
variable {t:TA}{r:List V->Hp->VK->Prop}
noncomputable def tCB(r:List V->Hp->VK->Prop)(t:TA):TE:=λσ H Q=>t σ H λvs H1=>r vs H1 Q
theorem Zt{p pos:Pos}{id:String}(hc:CallR X (.builtin id) r)(n:Gl X x)(m:X.mg x=none)(f:bootBuiltins x=some (.builtin id))(c:PA X (e::es) t)(l:x≠"__name__":=by decide)(b:(x==("__debug__":Str))=false:=by decide)(d:starEach (e::es) X.env=(false,eval e X.env)::starEach es X.env:=by rfl)(a:(backTo pos (starEach es X.env)).any (·.1)=false:=by rfl):PE X (.Call (.Name x p) (e::es) [] pos) (tCB r t):=by
 intro pins s σ H Q I h;refine wpAny_Call_Name_kw (Cs I n m f ?_ l b);exact PyProof.Rows.callWith_builtin1 (thn (c pos pins s σ H _ I h) (by rintro j i ⟨k,H1,g,r1,q1⟩;exact hc pins i σ H1 k j Q g r1 q1)) d a
theorem Zu{p pos:Pos}(hc:CallR X (.type T) r)(n:Gl X x)(m:X.mg x=none)(f:bootBuiltins x=some (.type T))(c:PA X (e::es) t)(l:x≠"__name__":=by decide)(b:(x==("__debug__":Str))=false:=by decide)(d:starEach (e::es) X.env=(false,eval e X.env)::starEach es X.env:=by rfl)(a:(backTo pos (starEach es X.env)).any (·.1)=false:=by rfl):PE X (.Call (.Name x p) (e::es) [] pos) (tCB r t):=by
 intro pins s σ H Q I h;refine wpAny_Call_Name_kw (Cs I n m f ?_ l b);exact Qe (thn (c pos pins s σ H _ I h) (by rintro j i ⟨k,H1,g,r1,q1⟩;exact hc pins i σ H1 k j Q g r1 q1)) d a
end
end L2
namespace HT
open PySem PyProof.Rows
theorem cat_tup(r:IsTup s.heap t vs.toArray)(u:IsTup s.heap b a.toArray)(m:vs≠[])(h1:a=[]->Q (.ref t) s)(h2:a≠[]->Q (.ref s.heap.objs.size) {s with heap:=s.heap.push {cls:=.type "tuple",data:=.seq (vs++a).toArray}})(j:vs.length+a.length<=sizeLine):wpAny (model prog w) A (binaryOp .Add (.ref t) (.ref b)) Q E s:=by
 obtain⟨⟨cls,p,data,l⟩,g,hc,n,hd⟩:=id r;obtain⟨⟨q,f,i,d⟩,c,h,o,k⟩:=id u;subst hc hd h k;have e:vs.toArray++a.toArray=(vs++a).toArray:=by simp
 by_cases hw:a=[]
 ·exact concat_meets ⟨_,g,rfl⟩ ⟨_,c,rfl⟩ noFill_tuple_add seq_tuple_add PySem.F.slot_tuple_add PySem.F.entry_tuple_add (PySem.F.args_tuple_add_2 _ _)
   (tuple_addW1 t b vs.toArray a.toArray n o p f l d (by simpa using m) (by simp[hw])) ⟨g,c,h1 hw⟩
 ·refine concat_meets ⟨_,g,rfl⟩ ⟨_,c,rfl⟩ noFill_tuple_add seq_tuple_add PySem.F.slot_tuple_add PySem.F.entry_tuple_add (PySem.F.args_tuple_add_2 _ _)
   (tuple_addW2 t b vs.toArray a.toArray n o p f l d (by simpa using m) (by simpa using hw) (j)) ⟨g,c,?_⟩
  rw[e];exact h2 hw
noncomputable def sIx(n d:Nat):Option Int->Nat
 | none=>d
 | some v=>if v < 0 then(v+(n:Int)).toNat else min v.toNat n
theorem sIx_none(n d:Nat):sIx n d none=d:=rfl
theorem sIx_nat(n d k:Nat):sIx n d (some (k:Int))=min k n:=by
 show(if(k:Int) < 0 then((k:Int)+(n:Int)).toNat else min (k:Int).toNat n)=min k n;rw[if_neg (by lia),Int.toNat_natCast]
theorem NZ(v:Int)(n d:Nat):(if v < 0 then max (v+(n:Int)) 0 else min v (n:Int))=((sIx n d (some v):Nat):Int):=by
 show(if v < 0 then max (v+(n:Int)) 0 else min v (n:Int))=(((if v < 0 then(v+(n:Int)).toNat else min v.toNat n):Nat):Int);by_cases a:v < 0
 ·simp only[if_pos a];lia
 ·simp only[if_neg a];lia
theorem Zv(lo hi:Option Int)(n:Nat):Builtin.Slice.sliceAdjust lo hi 1 (n:Int)=(((sIx n 0 lo:Nat):Int),((sIx n n hi:Nat):Int)):=by
 refine Prod.ext ?_ ?_
 ·cases lo with
  | none=>rfl
  | some v=>exact NZ v n 0
 ·cases hi with
  | none=>rfl
  | some v=>exact NZ v n n
theorem Zw(i j:Nat):Builtin.Slice.slicePlaces (i:Int) (j:Int) 1=j - i:=by
 unfold Builtin.Slice.slicePlaces;split <;> lia
theorem N0(p:IsPart v o)(h:Q o s):wpAny (model prog w) A (Builtin.Slice.slicePartIndex v) Q E s:=by
 cases p with
 | none=>exact slicePart_none h
 | int i t=>exact slicePart_int h
theorem N1{lo:Option Int}{Q:Int×Int×Nat->Shared->Prop}(hs:s.heap.IsSliceOf c vl d .none)(pl:IsPart vl lo)(e:IsPart d hi)(h:Q (((sIx n 0 lo:Nat):Int),1,sIx n n hi - sIx n 0 lo) s):wpAny (model prog w) A (Builtin.Slice.sliceApplied (.ref c) (pure (n:Int))) Q E s:=by
 obtain⟨os,b,f,a⟩:=id hs;refine Qp (Qp (wpAny_field b a rfl (Qp (wpAny_field b a rfl (Qp (wpAny_field b a rfl (Qq ?_)))))));refine Qp (slicePart_none ?_);refine Qp (N0 pl (Qp (N0 e (Qp (Qq ?_)))));show wpAny _ _ (match Builtin.Slice.sliceAdjust lo hi 1 (n:Int)with |(lo,hi)=>pure (lo,(1:Int),Builtin.Slice.slicePlaces lo hi 1)) _ _ s;rw[Zv lo hi n];show wpAny _ _ (pure (((sIx n 0 lo:Nat):Int),(1:Int),Builtin.Slice.slicePlaces ((sIx n 0 lo:Nat):Int) ((sIx n n hi:Nat):Int) 1)) _ _ s;rw[Zw];exact Qq h
theorem Zx(xs:Array Value)(i k:Nat):((List.range k).filterMap λ(m:Nat)=>xs[((i:Int)+(m:Int)*1).toNat]?).toArray=((xs.toList.drop i).take k).toArray:=by
 have e:(λ(m:Nat)=>xs[((i:Int)+(m:Int)*1).toNat]?)=λm=>xs[i+m]?:=by
  funext m;have:((i:Int)+(m:Int)*1).toNat=i+m:=by lia
  rw[this]
 rw[e];have:=pick_run xs i k;rw[List.filterMap_map]at this;have a:((λx=>xs[x]?)∘λx=>i+x)=λm=>xs[i+m]?:=rfl;rw[a]at this;rw[this]
theorem getItem_tuple_cut{lo:Option Int}(b:IsTup s.heap t items)(hs:s.heap.IsSliceOf c vl i .none)(pl:IsPart vl lo)(j:IsPart i hi)(hw:¬ (sIx items.size 0 lo=0/\sIx items.size items.size hi=items.size))(h:Q (.ref s.heap.objs.size) {s with heap:=s.heap.push {cls:=.type "tuple",data:=.seq ((items.toList.drop (sIx items.size 0 lo)).take (sIx items.size items.size hi - sIx items.size 0 lo)).toArray}})(l:items.size<=sizeLine):wpAny (model prog w) A (getItem (.ref t) (.ref c)) Q E s:=by
 have a:sizeOk (.seq ((items.toList.drop (sIx items.size 0 lo)).take (sIx items.size items.size hi - sIx items.size 0 lo)).toArray):=by
  show((items.toList.drop (sIx items.size 0 lo)).take (sIx items.size items.size hi - sIx items.size 0 lo)).toArray.size<=sizeLine;rw[Yn,List.length_take,List.length_drop,YT];lia
 obtain⟨os,g,d,k⟩:=id hs;have f:s.TypeIs (.ref c) "slice":=⟨os,g,d⟩;unfold getItem
 try with_reducible refine wpAny_holding ?_
 first | refine Qp (Qq ?_)| skip
 refine Qp (wpAny_sequenceKey b.typeIs (by decide) ?_)
 refine Qp (wpAny_callSpecial?_slot b.typeIs PyProof.Rows.slot_tuple_getitem
  (wpAny_call_entry PyProof.Rows.slot_tuple_getitem b.typeIs entry_tuple_getitem ?_ (args_tuple_getitem _ _)))
 show wpAny _ _ (Builtin.Tuple.tupleItemsOf (.ref t) >>=_) _ _ s;refine Qp (tupleItemsOf_ b ?_);refine Qp (wpAny_typeOf f ?_);refine Qp (N1 hs pl j ?_)
 have e:¬ ((((sIx items.size 0 lo:Nat):Int)==0&&(1:Int)==1&&(sIx items.size items.size hi - sIx items.size 0 lo)==items.size)=true):=by
  intro q;rw[YF,YF]at q;have q1:=eq_of_beq q.1.1;have q2:=eq_of_beq q.2;exact hw ⟨by lia,by lia⟩
 show wpAny _ _ (if(((sIx items.size 0 lo:Nat):Int)==0&&(1:Int)==1&&(sIx items.size items.size hi - sIx items.size 0 lo)==items.size)=true then _ else _) _ _ s;rw[if_neg e,Zx]
 first
  | exact Qp (wpAny_newObj_type (Qq ⟨_,rfl,Qq h⟩) a)
  | exact Qp (wpAny_newObj_type (Qp (Qq (Qq ⟨_,rfl,Qq h⟩))) a)
  | exact Qp (Qp (wpAny_newObj_type (Qq (Qq ⟨_,rfl,Qq h⟩)) a))
  | exact Qp (Qp (wpAny_newObj_type (Qq ⟨_,rfl,Qq h⟩) a))
end HT
namespace L2
open PySem PySem.Spec PyProof.Rows
abbrev TO:=St->Hp->(Option Int->Hp->Prop)->Prop
noncomputable def PO(X:Cx)(e:Option Expr)(t:TO):Prop :=
 ∀(pins:List (Addr×Obj))(s:Shared)(σ:St)(H:Hp)(Q:Option Int->Hp->Prop),Inv X pins σ H s->t σ H Q->
  wpAny (model X.prog X.w) X.A (evalPart e X.env) (λu s'=>∃ o H',Inv X pins σ H' s'/\IsPart u o/\Q o H') X.xe s
def Zy:TO:=λ_ H Q=>Q none H
noncomputable def Zz(t:TE):TO:=λσ H Q=>t σ H λx H1=>∃ i,x=.int i/\Q (some i) H1
section
variable {X:Cx}{te:TE}{lo hi:Option Expr}{tl th:TO}
theorem ZA:PO X none Zy:=by
 intro pins s σ H Q I h;rw[evalPart_none];exact Qq ⟨none,H,I,.none,h⟩
theorem ZC(h:PE X e te):PO X (some e) (Zz te):=by
 intro pins s σ H Q I hw;refine thn (h pins s σ H _ I hw) λu c a=>?_;obtain⟨x,H1,b,r1,q1⟩:=a;obtain⟨i,rfl,q⟩:=q1;obtain⟨t,rfl⟩:=r1;exact⟨some i,H1,b,.int i t,q⟩
noncomputable def SlR(X:Cx)(r:V->Option Int->Option Int->Hp->VK->Prop):Prop :=
 ∀(pins:List (Addr×Obj))(s:Shared)(σ:St)(H:Hp)(x:V)(v vl vu:Value)(lo hi:Option Int)(sl:Addr)(Q:VK),Inv X pins σ H s->RelV x v->s.heap.IsSliceOf sl vl vu .none->IsPart vl lo->IsPart vu hi->r x lo hi H Q->
  ∃ T id,typeLookup (.type T) "__getitem__"=pure (some (.builtin id))/\s.TypeIs v T/\wpAny (model X.prog X.w) X.A (getItem v (.ref sl)) (EP X pins σ Q) X.xe s
theorem SlR.or(h:SlR X r)(h':SlR X r'):SlR X (λx lo hi H Q=>r x lo hi H Q\/r' x lo hi H Q):=by
 intro pins s σ H x v vl c lo hi d Q I a hs pl b q;rcases q with q | q
 ·exact h pins s σ H x v vl c lo hi d Q I a hs pl b q
 ·exact h' pins s σ H x v vl c lo hi d Q I a hs pl b q
noncomputable def tSl(r:V->Option Int->Option Int->Hp->VK->Prop)(te:TE)(tl th:TO):TE:=λσ H Q=>te σ H λx H1=>tl σ H1 λl H2=>th σ H2 λu H3=>r x l u H3 Q
theorem N2(j:SlR X r)(n:PE X e te)(hl:PO X lo tl)(t:PO X hi th):PE X (.Subscript e (.Slice lo hi none p2) pos) (tSl r te tl th):=by
 intro pins s σ H Q I h;refine Subscript_ (thn (n pins s σ H _ I h) λv y a=>?_);obtain⟨x,H1,w,r1,q1⟩:=a;refine wpAny_Slice (thn (hl pins y σ H1 _ w q1) λvl p⟨l,H2,z,pl,q2⟩=>thn (t pins p σ H2 _ z q2) λd c⟨u,f,k,i,q3⟩=>?_);refine Qq ?_;have g:Inv X pins σ f {c with heap:=c.heap.push {cls:=.type "slice",data:=.fields #[vl,d,.none]}}:=k.kept λb B q=>Qr _ q;obtain⟨T,id,m,o,A⟩:=j pins {c with heap:=c.heap.push {cls:=.type "slice",data:=.fields #[vl,d,.none]}} σ f x v vl d l u c.heap.objs.size Q g r1 (Heap.IsSliceOf.new ..) pl i q3;exact tail_any o m A (by with_unfolding_all rfl)
noncomputable def Fi(xs:List V)(lo hi:Option Int):List V:=(xs.drop (HT.sIx xs.length 0 lo)).take (HT.sIx xs.length xs.length hi - HT.sIx xs.length 0 lo)
theorem N3(xs:List V)(lo hi:Option Int):(Fi xs lo hi).length<=xs.length:=by
 unfold Fi;rw[List.length_take,List.length_drop];lia
noncomputable def J7(K:PySem.W.Frag):V->Option Int->Option Int->Hp->VK->Prop:=λx lo hi H Q=>∃ a xs,x=.ref a/\SqT K H a xs/\
 ¬ (HT.sIx xs.length 0 lo=0/\HT.sIx xs.length xs.length hi=xs.length)/\∀ p,H p=none->Q (.ref p) (upd H p (.tup (Fi xs lo hi)))
theorem N4:SlR X (J7 X.K):=by
 intro pins s σ H x v vl l lo hi k Q I i hs pl g h;obtain⟨a,xs,rfl,j,hw,q⟩:=h;cases i;obtain⟨d,r,f,e⟩:=I.tuple j;have c:d.toArray.size=xs.length:=by exact r.length.symm
 refine⟨"tuple",_,PyProof.Rows.slot_tuple_getitem.lookup,f.typeIs,HT.getItem_tuple_cut f hs pl g (by rw[c];exact hw) ?_ (by rw[c];exact e)⟩;rw[c];refine⟨.ref s.heap.objs.size,_,I.laid (λb m q=>Qr _ q) (Yr _) ?_,rfl,q _ (I.hok.fresh (Yr _))⟩;exact⟨Yt (N3 xs lo hi) e,_,(r.drop (HT.sIx xs.length 0 lo)).take (HT.sIx xs.length xs.length hi - HT.sIx xs.length 0 lo),TupP.new _ _⟩
noncomputable def J8(K:PySem.W.Frag):R2:=λx y H Q=>∃ a b xs ys,x=.ref a/\y=.ref b/\SqT K H a xs/\SqT K H b ys/\xs≠[]/\xs.length+ys.length<=sizeLine/\
 (ys=[]->Q (.ref a) H)/\(ys≠[]->∀ p,H p=none->Q (.ref p) (upd H p (.tup (xs++ys))))
theorem Vals.nil_iff(r:Vals xs a):a=[]↔xs=[]:=by
 cases r with
 | nil|cons _ _=>simp
theorem ZD:OpR X (binaryOp .Add) (J8 X.K):=by
 intro pins s σ H x y v u Q I i j h;obtain⟨a,b,xs,ys,rfl,rfl,g,l,k,d,q1,q2⟩:=h;cases i;cases j;obtain⟨f,r1,p1,_⟩:=I.tuple g;obtain⟨e,c,p2,_⟩:=I.tuple l;refine HT.cat_tup p1 p2 (λz=>k (r1.nil_iff.mp z)) (λz=>⟨.ref a,H,I,rfl,q1 (c.nil_iff.mp z)⟩) (λz=>?_) (by rw[<- r1.length,<- c.length];exact d);refine⟨.ref s.heap.objs.size,_,I.laid (λb m q=>Qr _ q) (Yr _) ?_,rfl,q2 (λw=>z (c.nil_iff.mpr w)) _ (I.hok.fresh (Yr _))⟩;exact⟨by rw[Yj];exact d,_,r1.append c,TupP.new _ _⟩
end
noncomputable def ixN(n:Nat)(i:Int):Option Nat:=if 0<=i then(if i < n then some i.toNat else none)else if -(n:Int)<=i then some (i+n).toNat else none
noncomputable def atI{α:Type}(xs:List α)(i:Int):Option α:=(ixN xs.length i).bind λj=>xs[j]?
theorem N5(h:ixN n i=some j):seqIndex? i n=some j/\j < n/\-(n:Int)<=i/\i < n:=by
 unfold ixN at h;by_cases a:0<=i
 ·rw[if_pos a]at h;by_cases h1:i < n
  ·rw[if_pos h1]at h;have e:=YE h;exact⟨by rw[seqIndex_of a h1,e],by lia,by lia,h1⟩
  ·rw[if_neg h1]at h;cases h
 ·rw[if_neg a]at h;by_cases h1:-(n:Int)<=i
  ·rw[if_pos h1]at h;have e:=YE h;exact⟨by rw[seqIndex_neg (by lia) h1,e],by lia,h1,by lia⟩
  ·rw[if_neg h1]at h;cases h
theorem J9{α:Type}{xs:List α}{v:α}(h:atI xs i=some v):∃ j,seqIndex? i xs.length=some j/\xs[j]?=some v/\j < xs.length/\-(xs.length:Int)<=i/\i < xs.length:=by
 unfold atI at h;cases e:ixN xs.length i with
 | none=>rw[e]at h;cases h
 | some j =>
  rw[e]at h;obtain⟨h1,h2,a,b⟩:=N5 e;exact⟨j,h1,h,h2,a,b⟩
theorem CM{α:Type}{xs:List α}{j:Nat}{v:α}(h:xs[j]?=some v):atI xs (j:Int)=some v:=by
 have a:=(YY.mp h).1
 have e:ixN xs.length (j:Int)=some j:=by
  unfold ixN;rw[if_pos (by lia),if_pos (by lia)];simp
 unfold atI;rw[e];exact h
noncomputable def Ht(b:Expr):Prop:=∀ o i,subscripted b false o i=operate [o,i] (getItem o i)
noncomputable def IxR(X:Cx)(r:R2):Prop :=
 ∀(value slice:Expr)(pins:List (Addr×Obj))(s:Shared)(σ:St)(H:Hp)(x y:V)(v u:Value)(Q:VK),Inv X pins σ H s->RelV x v->RelV y u->r x y H Q->
  subscripted slice false v u=operate [v,u] (getItem v u)->wpAny (model X.prog X.w) X.A (subscriptTail value slice v u) (EP X pins σ Q) X.xe s
noncomputable def MtR(X:Cx)(id:String)(r:V->List V->Hp->VK->Prop):Prop :=
 ∀(pins:List (Addr×Obj))(s:Shared)(σ:St)(H:Hp)(x:V)(xs:List V)(v:Value)(us:List Value)(Q:VK),Inv X pins σ H s->RelV x v->Vals xs us->r x xs H Q->
  wpAny (model X.prog X.w) X.A (call (.builtin id) (v::us)) (EP X pins σ Q) X.xe s
section
variable {a b:Expr}
theorem IxR.or(h:IxR X r)(h':IxR X r'):IxR X (λx y H Q=>r x y H Q\/r' x y H Q):=by
 intro value slice pins s σ H x y v u Q I a b q hs;rcases q with q | q
 ·exact h value slice pins s σ H x y v u Q I a b q hs
 ·exact h' value slice pins s σ H x y v u Q I a b q hs
theorem MtR.or{id:String}(h:MtR X id r)(h':MtR X id r'):MtR X id (λx xs H Q=>r x xs H Q\/r' x xs H Q):=by
 intro pins s σ H x xs v b Q I a c q;rcases q with q | q
 ·exact h pins s σ H x xs v b Q I a c q
 ·exact h' pins s σ H x xs v b Q I a c q
theorem ZE(c:IxR X r)(d:PE X a ta)(j:PE X b tb)(hs:Ht b):PE X (.Subscript a b pos) (tOp r ta tb):=by
 intro pins s σ H Q I h;exact Subscript_ (JW d j I h λv u e x y H2 i f g q=>c a b pins e σ H2 x y v u Q i f g q (hs _ _))
noncomputable def Ka(K:PySem.W.Frag):R2:=λx y H Q=>∃ p xs i v,x=.ref p/\y=.int i/\SqL K H p xs/\atI xs i=some v/\Q v H
noncomputable def Kb(K:PySem.W.Frag):R2:=λx y H Q=>∃ p xs i v,x=.ref p/\y=.int i/\SqT K H p xs/\atI xs i=some v/\Q v H
noncomputable def Kc:R2:=λx y H Q=>∃ z i c,x=.str z/\y=.int i/\z.length<=sizeLine/\atI z.cps.toList i=some c/\Q (.str ⟨#[c]⟩) H
theorem ZF:IxR X (Ka X.K):=by
 intro value slice pins s σ H x y v u Q I l m h hs;obtain⟨p,xs,i,z,rfl,rfl,o,k,q⟩:=h;cases l;obtain⟨t,rfl⟩:=m;obtain⟨b,r,pl,A⟩:=I.list o;obtain⟨j,h1,h2,B,n,g⟩:=J9 k;obtain⟨w,f,c⟩:=r.get h2;have hl:=r.length;have D:=Hn;have a:EP X pins σ Q w s:=⟨z,H,I,c,q⟩;by_cases e:0<=i
 ·have d:i.toNat=j:=by
   rw[seqIndex_of e g]at h1;exact YE h1
  exact item_listR pl.isList e (by lia) (by rw[d];simpa using f) a hs
 ·have d:(i+(b.toArray.size:Int)).toNat=j:=by
   rw[seqIndex_neg (by lia) n]at h1;rw[Yn,<- hl];exact YE h1
  exact subscriptTail_builtinR pl.isList.typeIs slot_list_getitem.lookup
   (wpAny_getItem_list_neg pl.isList (by lia) (by rw[Yn] <;> lia) (by lia) (by rw[d];simpa using f) ⟨rfl,a⟩) hs
theorem ZG:IxR X (Kb X.K):=by
 intro value slice pins s σ H x y v u Q I e f h hs;obtain⟨p,xs,i,z,rfl,rfl,g,d,q⟩:=h;cases e;obtain⟨t,rfl⟩:=f;obtain⟨c,r,pl,m⟩:=I.tuple g;obtain⟨j,h1,h2,o,n,l⟩:=J9 d;obtain⟨w,k,a⟩:=r.get h2;have hl:=r.length;have A:=Hn;have b:EP X pins σ Q w s:=⟨z,H,I,a,q⟩
 exact subscriptTail_builtinR pl.typeIs slot_tuple_getitem.lookup
  (getItem_tuple pl (by lia) (by lia) (by rw[Yn,<- hl];exact h1) (by simpa using k) ⟨rfl,b⟩) hs
theorem ZH:IxR X Kc:=by
 intro value slice pins s σ H x y v u Q I d e h hs;obtain⟨z,i,c,rfl,rfl,l,b,q⟩:=h;obtain⟨t,rfl⟩:=d;obtain⟨t',rfl⟩:=e;obtain⟨j,h1,h2,m,f,a⟩:=J9 b;have hl:z.cps.toList.length=z.length:=by simp[Str.length]
 rw[hl]at h1 f a;have n:=Hn
 exact tail_any (typeIs_str s z t) slot_str_getitem.lookup (getItem_str (by
  have g:decide (i < -(2 ^ 63:Int))=false:=Qn (by lia);have k:decide (i>=2 ^ 63)=false:=Qn (by lia);rw[g,k,Bool.or_false]) (by rw[h1];simpa using h2) ⟨.str ⟨#[c]⟩,H,I.tok _,⟨_,rfl⟩,q⟩) hs
theorem ZI(a:List Value)(n j:Nat)(u:Value):Obj.mapSeq (·.setIfInBounds j u) {cls:=.type "list",data:=.seq a.toArray n}={cls:=.type "list",data:=.seq (a.set j u).toArray n}:=by
 simp[Obj.mapSeq]
theorem Inv.lst{σ:St}(I:Inv X pins σ H s)(h:H p=some (.lst xs)):
  ∃(a:List Value)(n:Nat),Vals xs a/\s.heap.get? p=some {cls:=.type "list",data:=.seq a.toArray n}/\xs.length<=sizeLine:=by
 obtain⟨z,a,n,r,e⟩:=I.hok p _ h;exact⟨a,n,r,e,z⟩
theorem Inv.lstUpd{σ:St}{c a:List Value}(I:Inv X pins σ H s)(h:H p=some (.lst xs))(k:s.heap.get? p=some {cls:=.type "list",data:=.seq c.toArray n})(g:f {cls:=.type "list",data:=.seq c.toArray n}={cls:=.type "list",data:=.seq a.toArray d})(r:Vals ys a)(i:ys.length<=sizeLine)(t:Nat):
  Inv X pins σ (upd H p (.lst ys)) {s with heap:=s.heap.update p f,toks:=t}:=by
 have e:(s.heap.update p f).get? p=some {cls:=.type "list",data:=.seq a.toArray d}:=by
  rw[Qw f k (by rw[g] <;> rfl),g]
 refine I.write (by rw[h];trivial) (.inl rfl) (λb u j q=>(Heap.get?_update_other _ _ (YW j)).trans q) ⟨_,e⟩ ?_;exact⟨i,a,d,r,e⟩
noncomputable def N6:V->V->V->Hp->(Hp->Prop)->Prop:=λo i v H Q=>∃ p xs k j,o=.ref p/\i=.int k/\H p=some (.lst xs)/\ixN xs.length k=some j/\Q (upd H p (.lst (xs.set j v)))
theorem ZJ:JS X N6:=by
 intro pins s σ H o i v B D u Q I w z x h;obtain⟨p,xs,k,j,rfl,rfl,l,y,q⟩:=h;cases w;obtain⟨t,rfl⟩:=z;obtain⟨a,n,r,c,m⟩:=I.lst l;obtain⟨h1,h2,e,g⟩:=N5 y;have hl:=r.length;have A:=Hn
 have d:Inv X pins σ (upd H p (.lst (xs.set j v))) {s with heap:=s.heap.update p (Obj.mapSeq (·.setIfInBounds j u))}:=
  I.lstUpd l c (ZI a n j u) (r.set x j) (by rw[List.length_set];exact m) s.toks
 by_cases f:0<=k
 ·have b:k.toNat=j:=by
   rw[seqIndex_of f g]at h1;exact YE h1
  exact PySem.W.ki_setAt c f (by lia) (by rw[Yn,<- hl];exact g) (by rw[b];exact⟨_,d,q⟩)
 ·have b:(k+(a.toArray.size:Int)).toNat=j:=by
   rw[seqIndex_neg (by lia) e]at h1;rw[Yn,<- hl];exact YE h1
  exact PySem.W.ki_setBack c (by lia) (by rw[Yn,<- hl];exact e) (by lia) (by rw[b];exact⟨_,d,q⟩)
theorem ZK(lo hi:Option Int)(n:Nat):(sliceBounds lo hi none n).1=((HT.sIx n 0 lo:Nat):Int)/\(sliceBounds lo hi none n).2.1=((HT.sIx n n hi:Nat):Int)/\(sliceBounds lo hi none n).2.2=1:=by
 refine⟨?_,?_,rfl⟩
 ·cases lo with
  | none=>simp[sliceBounds,HT.sIx]
  | some i =>
   simp only[sliceBounds,HT.sIx,Option.getD_none];by_cases h:i < 0
   ·simp only[h,if_true] <;> lia
   ·simp only[h,if_false] <;> lia
 ·cases hi with
  | none=>simp[sliceBounds,HT.sIx]
  | some i =>
   simp only[sliceBounds,HT.sIx,Option.getD_none];by_cases h:i < 0
   ·simp only[h,if_true] <;> lia
   ·simp only[h,if_false] <;> lia
theorem ZL(a:List Value)(lo hi:Option Int):slicePick a.toArray lo hi none=((a.drop (HT.sIx a.length 0 lo)).take (HT.sIx a.length a.length hi - HT.sIx a.length 0 lo)).toArray:=by
 obtain⟨h1,h2,b⟩:=ZK lo hi a.toArray.size;unfold slicePick;rw[h1,h2,b];simp only[sliceRange_one,pick_run] <;> rfl
noncomputable def Ke(K:PySem.W.Frag):V->Option Int->Option Int->Hp->VK->Prop:=λx lo hi H Q=>∃ a xs,x=.ref a/\SqL K H a xs/\∀ p,H p=none->Q (.ref p) (upd H p (.lst (Fi xs lo hi)))
theorem N7:SlR X (Ke X.K):=by
 intro pins s σ H x v vl l lo hi k Q I i hs pl f h;obtain⟨a,xs,rfl,j,q⟩:=h;cases i;obtain⟨e,r,d,g⟩:=I.list j;have c:=r.length;refine⟨"list",_,slot_list_getitem.lookup,d.isList.typeIs,wpAny_getItem_list_slice d.isList hs pl f .none (by simp) ?_ (by rw[Yn] <;> lia)⟩;rw[ZL,<- c];refine⟨.ref s.heap.objs.size,_,I.laid (λb m q=>Qr _ q) (Yr _) ?_,rfl,q _ (I.hok.fresh (Yr _))⟩;exact⟨Yt (N3 xs lo hi) g,_,0,(r.drop (HT.sIx xs.length 0 lo)).take (HT.sIx xs.length xs.length hi - HT.sIx xs.length 0 lo),Qt _ rfl⟩
def C9:V->Bool
 | .non|.bl _|.int _|.str _=>true
 | _=>false
noncomputable def eqV:V->V->Bool
 | .non,.non=>true
 | .bl a,.bl b=>a==b
 | .bl a,.int b=>(if a then 1 else 0)==b
 | .int a,.bl b=>a==(if b then 1 else 0)
 | .int a,.int b|.str a,.str b=>a==b
 | _,_=>false
theorem Ga(d:RelV y u)(c:RelV x v)(f:C9 y=true)(e:C9 x=true):SeqAt.EqAt A s u v (eqV y x):=by
 cases y with
 | non =>
  cases d;cases x with
  | non=>cases c;exact SeqAt.EqAt.same _
  | bl b=>cases c;exact SeqAt.EqAt.none_bool b
  | int b=>obtain⟨t,rfl⟩:=c;exact SeqAt.EqAt.none_int b t
  | str b=>obtain⟨t,rfl⟩:=c;exact SeqAt.EqAt.none_str b t
  | _=>exact Qo (e) YU
 | bl a =>
  cases d;cases x with
  | non=>cases c;exact SeqAt.EqAt.bool_none a
  | bl b=>cases c;exact SeqAt.EqAt.bool_bool a b
  | int b=>obtain⟨t,rfl⟩:=c;exact SeqAt.EqAt.bool_int a b t
  | str b=>obtain⟨t,rfl⟩:=c;exact SeqAt.EqAt.bool_str a b t
  | _=>exact Qo (e) YU
 | int a =>
  obtain⟨t',rfl⟩:=d;cases x with
  | non=>cases c;exact SeqAt.EqAt.int_none a t'
  | bl b=>cases c;exact SeqAt.EqAt.int_bool a t' b
  | int b=>obtain⟨t,rfl⟩:=c;exact SeqAt.EqAt.int_int a t' b t
  | str b=>obtain⟨t,rfl⟩:=c;exact SeqAt.EqAt.int_str a t' b t
  | _=>exact Qo (e) YU
 | str a =>
  obtain⟨t',rfl⟩:=d;cases x with
  | non=>cases c;exact SeqAt.EqAt.str_none a t'
  | bl b=>cases c;exact SeqAt.EqAt.str_bool a t' b
  | int b=>obtain⟨t,rfl⟩:=c;exact SeqAt.EqAt.str_int a t' b t
  | str b=>obtain⟨t,rfl⟩:=c;exact SeqAt.EqAt.str_str a t' b t
  | _=>exact Qo (e) YU
 | _=>exact Qo (f) YU
noncomputable def eqU(x:V)(u:Value):Bool:=match u with
 | .none=>eqV .non x
 | .bool b=>eqV (.bl b) x
 | .int i _=>eqV (.int i) x
 | .str z _=>eqV (.str z) x
 | _=>false
theorem N8(r:RelV y u)(f:C9 y=true):eqU x u=eqV y x:=by
 cases y with
 | non|bl b=>cases r;rfl
 | int i|str z=>obtain⟨t,rfl⟩:=r;rfl
 | _=>exact Qo (f) YU
theorem Kf:∀{xs:List V}{a:List Value},Vals xs a->xs.all C9=true->a.any (eqU x)=xs.any λy=>eqV y x:=by
 intro xs a h;induction h with
 | nil=>intro _;rfl
 | cons r _ ih=>intro f;rw[List.all_cons,YF]at f;rw[List.any_cons,List.any_cons,N8 r f.1,ih f.2]
theorem Kg(c:RelV x v)(d:C9 x=true):∀{xs:List V}{b:List Value},Vals xs b->xs.all C9=true->∀ u∈b,SeqAt.EqAt A s u v (eqU x u)
 | _,_,.nil,_=>λu a=>by cases a
 | y::xs,u::b,.cons r t,f=>λe a=>by
  rw[List.all_cons,YF]at f;rcases Yo.mp a with rfl | a
  ·rw[N8 r f.1];exact Ga r c f.1 d
  ·exact Kg c d t f.2 e a
def inV(x:V)(xs:List V):Bool:=xs.any λy=>eqV y x
noncomputable def rIn(K:PySem.W.Frag)(neg:Bool):R2:=λx y H Q=>∃ p xs,y=.ref p/\(SqL K H p xs\/SqT K H p xs)/\C9 x=true/\xs.all C9=true/\Q (.bl (if neg then !inV x xs else inV x xs)) H
theorem ZM:OpR X (compareOp .In) (rIn X.K false):=by
 intro pins s σ H x y v u Q I c f h;obtain⟨p,xs,rfl,b,d,fs,q⟩:=h;cases f;rcases b with b | b
 ·obtain⟨a,r,pl,e⟩:=I.list b;refine SeqAt.in_listAt (eqU x) pl.isList (λw hw=>Kg c d r fs w (by simpa using hw)) ⟨.bl _,H,I,rfl,?_⟩;rw[show a.toArray.any (eqU x)=a.any (eqU x) by simp,Kf r fs];exact q
 ·obtain⟨a,r,pl,e⟩:=I.tuple b;refine SeqAt.in_tupleAt (eqU x) pl (λw hw=>Kg c d r fs w (by simpa using hw)) ⟨.bl _,H,I,rfl,?_⟩;rw[show a.toArray.any (eqU x)=a.any (eqU x) by simp,Kf r fs];exact q
theorem CallR.or(h:CallR X f r)(h':CallR X f r'):CallR X f (λxs H Q=>r xs H Q\/r' xs H Q):=by
 intro pins s σ H xs a Q I b q;rcases q with q | q
 ·exact h pins s σ H xs a Q I b q
 ·exact h' pins s σ H xs a Q I b q
theorem ZN:CallR X (.type "list") (λxs H Q=>∃ p ys,xs=[.ref p]/\(SqL X.K H p ys\/SqT X.K H p ys)/\∀ l,H l=none->Q (.ref l) (upd H l (.lst ys))):=by
 intro pins s σ H xs m Q I r h;obtain⟨p,ys,rfl,f,q⟩:=h;obtain⟨u,rfl,k⟩:=Ce r;cases k
 have i:∀(a:List Value),Vals ys a->ys.length<=sizeLine->∀(h':Heap)(c:Nat),(∀ b o',s.heap.get? b=some o'->h'.get? b=some o')->
   h'.get? s.heap.objs.size=some {cls:=.type "list",dict:=none,data:=.seq a.toArray c,slots:=#[]}->EP X pins σ Q (.ref s.heap.objs.size) {s with heap:=h'}:=λa r' d h' c kp e=>
  ⟨.ref s.heap.objs.size,_,I.laid kp (Yr _) (show ObjOk X.prog X.w _ h' _ (.lst ys)from⟨d,a,c,r',e⟩),rfl,q _ (I.hok.fresh (Yr _))⟩
 rcases f with f | f
 ·obtain⟨a,r',pl,d⟩:=I.list f;have g:=r'.length;obtain⟨o,j,hc,n,hd⟩:=pl.isList;exact call_list_seq p (.inl rfl) j hc hd (λh' c kp e=>i a r' d h' c kp e) (by simp only[Yn] <;> lia)
 ·obtain⟨a,r',pl,d⟩:=I.tuple f;have g:=r'.length;obtain⟨o,j,hc,n,hd⟩:=pl;exact call_list_seq p (.inr rfl) j hc hd (λh' c kp e=>i a r' d h' c kp e) (by simp only[Yn] <;> lia)
theorem ZO:CallR X (.type "tuple") (λxs H Q=>∃ p ys,xs=[.ref p]/\((SqL X.K H p ys/\∀ l,H l=none->Q (.ref l) (upd H l (.tup ys)))\/(SqT X.K H p ys/\Q (.ref p) H))):=by
 intro pins s σ H xs k Q I r h;obtain⟨p,ys,rfl,h⟩:=h;obtain⟨u,rfl,i⟩:=Ce r;cases i;rcases h with⟨c,q⟩|⟨c,q⟩
 ·obtain⟨a,r',pl,d⟩:=I.list c;have g:=r'.length;refine call_tuple_list pl.isList (λh' kp=>?_) (by simp only[Yn] <;> lia);have f:Inv X pins σ H {s with heap:=h'}:=I.kept kp
  have j:Inv X pins σ (upd H h'.objs.size (.tup ys)) {s with heap:=h'.push {cls:=.type "tuple",data:=.seq a.toArray}}:=
   f.laid (λb o e=>Qr _ e) (Yr _) (⟨d,a,r',TupP.new _ _⟩)
  exact⟨.ref h'.objs.size,_,j,rfl,q _ (f.hok.fresh (Yr _))⟩
 ·obtain⟨a,r',pl,d⟩:=I.tuple c;exact call_tuple_same pl ⟨.ref p,H,I,rfl,q⟩
noncomputable def tyV(K:PySem.W.Frag)(T:String)(x:V)(H:Hp):Prop:=match x with
 | .str _=>T="str"
 | .int _=>T="int"
 | .ref p=>(T="list"/\∃ xs,SqL K H p xs)\/(T="tuple"/\∃ o,K.lookup p=some o/\o.cls=.type "tuple"/\o.dict=none)\/
   (T="dict"/\((∃ kvs,H p=some (.dK kvs))\/∃ kvs,H p=some (.dT kvs)))\/(T="set"/\∃ S n,H p=some (.set S n))
 | _=>False
theorem ZP{σ:St}(I:Inv X pins σ H s)(r:RelV x v)(ty:tyV X.K T x H):
  s.TypeIs v T/\∀ a,v=.ref a->∃ g,s.heap.get? a=some g/\g.dict=none:=by
 cases x with
 | str z =>
  obtain⟨t,rfl⟩:=r;cases(ty);exact⟨typeIs_str s z t,λ_ e=>nomatch e⟩
 | int i =>
  obtain⟨t,rfl⟩:=r;cases(ty);exact⟨typeIs_int s i t,λ_ e=>nomatch e⟩
 | ref p =>
  cases r;rcases ty with⟨rfl,xs,j⟩|⟨rfl,o,b,hc,hd⟩|⟨rfl,b⟩|⟨rfl,S,n,b⟩
  ·obtain⟨h,_,pl,_⟩:=I.list j;refine⟨pl.isList.typeIs,λa e=>?_⟩;cases e;obtain⟨o,n,e,c,hd,_⟩:=pl;exact⟨o,e,hd⟩
  ·refine⟨⟨o,I.kIn p o b,hc⟩,λa e=>?_⟩;cases e;exact⟨o,I.kIn _ o b,hd⟩
  ·have z:∃ o,s.heap.get? p=some o/\o.ExactDict:=by
    rcases b with⟨d,b⟩|⟨d,b⟩
    ·obtain⟨_,_,_,_,o,_,_,e,ex,_⟩:=I.hok p _ b;exact⟨o,e,ex⟩
    ·obtain⟨_,_,_,_,o,_,_,e,ex,_⟩:=I.hok p _ b;exact⟨o,e,ex⟩
   obtain⟨o,e,ex⟩:=z;refine⟨⟨o,e,ex.1⟩,λa f=>?_⟩;cases f;exact⟨o,e,ex.2.1⟩
  ·obtain⟨o,_,_,_,e,ex,_⟩:=I.hok p _ b;refine⟨⟨o,e,ex.1⟩,λa f=>?_⟩;cases f;exact⟨o,e,ex.2.1⟩
 | _=>exact Qi ty
noncomputable def tBM(K:PySem.W.Frag)(T:String)(r:V->List V->Hp->VK->Prop)(to:TE)(t:TA):TE:=λσ H Q=>to σ H λx H1=>tyV K T x H1/\t σ H1 λxs H2=>r x xs H2 Q
theorem ZQ{apos cpos:Pos}{id:String}(pa:PlainAttrs T)(slot:Slot T name id)(f:typeOf (.builtin id)=pure (.type "method_descriptor"))(u:MtR X id r)(w:PE X o to)(j:PA X (e::es) t)(a:attributeBase o name X.env (eval o X.env)=eval o X.env:=by rfl)(d:((backTo cpos (starEach (e::es) X.env)).all (λx=>!x.1)&&(backToKw cpos (keywordEach [] X.env)).all (λx=>x.1.isSome)
   && decide ((e::es).length+([]:List Keyword).length+(if([]:List Keyword).isEmpty then 0 else 1) < 30))=true:=by rfl)(b:(apos.endLine==cpos.line)=true:=by rfl)(hs:starEach (e::es) X.env=(false,eval e X.env)::starEach es X.env:=by rfl)(hplain:(backTo cpos (starEach es X.env)).any (·.1)=false:=by rfl):
  PE X (.Call (.Attribute o name apos) (e::es) [] cpos) (tBM X.K T r to t):=by
 intro pins s σ H Q I h;refine wpAny_Call_method_late a d b rfl (thn (w pins s σ H _ I h) λv p c=>?_);obtain⟨x,H1,i,r1,ty,q1⟩:=c;obtain⟨h1,h2⟩:=ZP i r1 ty;refine⟨T,id,pa,slot,f,h1,h2,?_⟩;have g:=j cpos pins p σ H1 _ i q1;rw[hs]at g ⊢;refine Calls.callWith_builtin (by show(false||(backTo cpos (starEach es X.env)).any (·.1))=false;rw[hplain] <;> rfl) (Calls.evalArgs_plain ?_);exact thn g (by rintro n k ⟨m,H2,q,l,q2⟩;exact u pins k σ H2 x m v n Q q r1 l q2)
end
noncomputable def MtM(X:Cx)(id:String)(r:V->List V->Hp->VK->Prop):Prop :=
 ∀(pins:List (Addr×Obj))(s:Shared)(σ:St)(H:Hp)(x:V)(xs:List V)(v:Value)(us:List Value)(Q:VK),Inv X pins σ H s->RelV x v->Vals xs us->r x xs H Q->
  wpAny (model X.prog X.w) X.A (call (.builtin id) (v::us)) (EP X pins σ Q) X.xe s
theorem Vals.one:∀{x:V}{a:List Value},Vals [x] a->∃ u,a=[u]/\RelV x u:=by intro x a h;cases h with | cons r h=>cases h;exact⟨_,rfl,r⟩
theorem Vals.two:∀{x y:V}{a:List Value},Vals [x,y] a->∃ u v,a=[u,v]/\RelV x u/\RelV y v:=by intro x y a h;cases h with | cons r h=>cases h with | cons q h=>cases h;exact⟨_,_,rfl,r,q⟩
theorem Vals.zero:∀{a:List Value},Vals [] a->a=[]
 | _,.nil=>rfl
theorem Vals.eraseIdx:∀{xs:List V}{a:List Value}(i:Nat),Vals xs a->Vals (xs.eraseIdx i) (a.eraseIdx i)
 | _,_,_,.nil=>.nil
 | _,_,0,.cons _ t=>t
 | _,_,i+1,.cons r t=>.cons r (Vals.eraseIdx i t)
theorem Vals.rep(h:Vals xs a):∀ k:Nat,Vals (List.replicate k xs).flatten (List.replicate k a).flatten
 | 0=>.nil
 | k+1=>by
  exact Vals.append h (Vals.rep h k)
theorem N9(a:List Value):∀(k:Nat)(b:List Value),
  List.foldl (λd f=>d++f) b.toArray (List.replicate k a.toArray)=(b++(List.replicate k a).flatten).toArray
 | 0,b=>by simp
 | k+1,b=>by
  have e:b.toArray++a.toArray=(b++a).toArray:=by simp
  have c:(b++a)++(List.replicate k a).flatten=b++(List.replicate (k+1) a).flatten:=by
   rw[List.replicate_succ,List.flatten_cons,Yv]
  rw[<- c,<- N9 a k (b++a),<- e,List.replicate_succ,List.foldl_cons]
theorem Inv.lset{σ:St}{b:List Value}(I:Inv X pins σ H s)(i:H l=some (.lst xs))(e:s.heap.get? l=some {cls:=.type "list",data:=.seq b.toArray n})(d:f b.toArray=a.toArray)(g:Vals ys a)(c:ys.length<=sizeLine):
  Inv X pins σ (upd H l (.lst ys)) {s with heap:=s.heap.update l (Obj.mapSeq f),toks:=t'}:=by
 have q:=PySem.IsL.update e f;rw[d]at q;refine I.write (by rw[i];exact trivial) (.inl rfl) (λk u j h=>(Heap.get?_update_other s.heap (Obj.mapSeq f) (YW j)).trans h) ⟨_,q⟩ ?_;exact⟨c,a,_,g,q⟩
variable {X:Cx}{pins:List (Addr×Obj)}{σ:St}{H:Hp}{s:Shared}{b:Addr}{ys:List V} in
theorem Inv.lnew{a:List Value}{t':Nat}(I:Inv X pins σ H s)(b:Vals ys a)(c:ys.length<=sizeLine):
  Inv X pins σ (upd H s.heap.objs.size (.lst ys)) {s with heap:=s.heap.push {cls:=.type "list",data:=.seq a.toArray},toks:=t'}:=
 I.laid (λ_ _ q=>Qr _ q) (Yr _) ⟨c,a,0,b,Qt _ rfl⟩
theorem Inv.fresh{σ:St}(I:Inv X pins σ H s):H s.heap.objs.size=none:=I.hok.fresh (Yr _)
variable {X:Cx}{pins:List (Addr×Obj)}{σ:St}{H:Hp}{s:Shared}{l b:Addr}{xs:List V} in
theorem Inv.lstM(I:Inv X pins σ H s)(b:H l=some (.lst xs)):xs.length<=sizeLine/\∃(a:List Value)(n:Nat),Vals xs a/\xs.length=a.length/\s.heap.get? l=some {cls:=.type "list",data:=.seq a.toArray n}:=by
 obtain⟨z,a,n,r,e⟩:=I.hok l _ b;exact⟨z,a,n,r,r.length,e⟩
theorem Oa(h:n<=sizeLine):Builtin.List.listTooLong n=false:=Qn (by lia)
noncomputable def ZR:V->List V->Hp->VK->Prop:=λx vs H Q=>∃ l xs y,x=.ref l/\vs=[y]/\H l=some (.lst xs)/\xs.length < sizeLine/\Q .non (upd H l (.lst (xs++[y])))
theorem ZS:MtM X "list.append" ZR:=by
 intro pins s σ H x i v j Q I d c h;obtain⟨l,xs,y,rfl,rfl,b,g,q⟩:=h;cases d;obtain⟨u,rfl,f⟩:=c.one;obtain⟨z,a,n,r,hl,e⟩:=I.lstM b;refine call_meets F.slot_list_append ⟨_,e,rfl⟩ F.entry_list_append (F.args_list_append_2 _ _) (PySem.list_append l a.toArray n u (by rw[Yn];lia)) ⟨e,⟨.non,_,I.lset b e (by simp) (r.append (.cons f .nil)) ?_,rfl,q⟩⟩;rw[Yj,List.length_singleton];lia
noncomputable def ZT:V->List V->Hp->VK->Prop:=λx vs H Q=>∃ l b xs zs,x=.ref l/\vs=[.ref b]/\H l=some (.lst xs)/\H b=some (.lst zs)/\xs.length+zs.length<=sizeLine/\Q .non (upd H l (.lst (xs++zs)))
theorem ZU:MtM X "list.extend" ZT:=by
 intro pins s σ H x B v D Q I m o h;obtain⟨l,b,xs,zs,rfl,rfl,g,k,y,q⟩:=h;cases m;obtain⟨u,rfl,p⟩:=o.one;cases p;obtain⟨z,c,n,r,hl,e⟩:=I.lstM g;obtain⟨A,a,t,i,j,w⟩:=I.lstM k;have f:c.toArray.size+a.toArray.size<=sizeLine:=by rw[Yn,Yn];lia
 have d:¬ (!c.toArray.isEmpty&&Builtin.List.listTooLong (c.toArray.size+a.toArray.size))=true:=by
  rw[Oa f,Bool.and_false];exact YU
 refine call_meets F.slot_list_extend ⟨_,e,rfl⟩ F.entry_list_extend (F.args_list_extend_2 _ _)
  (AutoSeq1.list_extend_list_list_0 l c.toArray n b a.toArray t d (by lia) (by lia)) ⟨e,w,?_⟩
 refine⟨.non,_,I.lset g e (by simp) (r.append i) ?_,rfl,q⟩;rw[Yj];lia
noncomputable def Gb:R2:=λx y H Q=>∃ l b xs zs,x=.ref l/\y=.ref b/\H l=some (.lst xs)/\H b=some (.lst zs)/\xs.length+zs.length<=sizeLine/\∀ p,H p=none->Q (.ref p) (upd H p (.lst (xs++zs)))
theorem ZV:OpR X (binaryOp .Add) Gb:=by
 intro pins s σ H x y v u Q I i j h;obtain⟨l,b,xs,zs,rfl,rfl,m,g,p,q⟩:=h;cases i;cases j;obtain⟨z,c,n,r,hl,e⟩:=I.lstM m;obtain⟨t,a,w,d,f,o⟩:=I.lstM g;refine PySem.P.add_list e o ?_ (by rw[Yn,Yn];lia);have k:c.toArray++a.toArray=(c++a).toArray:=by simp
 rw[k];exact⟨.ref _,_,I.lnew (r.append d) (by rw[Yj];lia),rfl,q _ I.fresh⟩
noncomputable def Ob:R2:=λx y H Q=>∃ l k xs,x=.ref l/\y=.int k/\H l=some (.lst xs)/\-(2 ^ 63)<=k/\k < 2 ^ 63/\xs.length*k.toNat<=sizeLine/\
 ∀ p,H p=none->Q (.ref p) (upd H p (.lst (List.replicate k.toNat xs).flatten))
theorem ZW{α:Type}(xs:List α)(k:Nat):(List.replicate k xs).flatten.length=k*xs.length:=by
 induction k with
 | zero=>simp
 | succ k a=>rw[List.replicate_succ,List.flatten_cons,Yj,a,Nat.succ_mul,Nat.add_comm]
theorem ZX:OpR X (binaryOp .Mult) Ob:=by
 intro pins s σ H x y v u Q I A B h;obtain⟨l,k,xs,rfl,rfl,D,h1,h2,p,q⟩:=h;cases A;obtain⟨t,rfl⟩:=B;obtain⟨z,b,n,r,hl,e⟩:=I.lstM D;have d:b.toArray.size*k.toNat<=sizeLine:=by rw[Yn,<- hl];exact p
 have g:¬ b.toArray.size*k.toNat >(2 ^ 63 - 1) / 8:=by
  have:(sizeLine:Nat)<=(2 ^ 63 - 1) / 8:=by decide
  lia
 have f:¬ (!Builtin.List.listFitsIndex k)=true:=by
  rw[fitsIndex_both h1 h2];exact YU
 have c:¬ Builtin.List.listTooLong (b.toArray.size*k.toNat)=true:=by
  rw[Oa d];exact YU
 have i:List.foldl (λo j=>o++j) #[] (List.replicate (if b.toArray.isEmpty=true then 0 else k.toNat) b.toArray)=(List.replicate k.toNat b).flatten.toArray:=by
  have w:∀ m:Nat,List.foldl (λo j=>o++j) #[] (List.replicate m b.toArray)=(List.replicate m b).flatten.toArray:=λm=>by
   have:=N9 b m [];exact this
  rw[w];cases b with
  | nil=>simp
  | cons a r'=>rw[if_neg (by simp)]
 refine wpAny_binaryOp_repeat_ref (by decide) ⟨_,e,rfl⟩ (λs'=>typeIs_int s' k t) noFill_list_mul F.fills_int_mul F.slot_int_rmul repeat_list F.slot_int_index.lookup
  (call_meets F.slot_int_rmul (typeIs_int s k t) F.entry_int_rmul (F.args_int_rmul_2 _ _) (int___rmul___int_list k t l b.toArray n)
   ⟨e,rfl,⟨_,e,rfl⟩,call_meets F.slot_list_mul ⟨_,e,rfl⟩ F.entry_list_mul (F.args_list_mul_2 _ _) (AutoListH.list___mul___list_int_3 l b.toArray n k t f g c) ⟨e,?_⟩⟩)
 rw[i];exact⟨.ref _,_,I.lnew (r.rep k.toNat) (by rw[ZW,Nat.mul_comm];exact p),rfl,q _ I.fresh⟩
end L2
namespace Att
open PySem PySem.W PySem.Calls PyProof.Rows
theorem ZY:∀(ns:List Int)(vs:List Value),WellAll P h vs (ns.map WData.int)->IntsAre vs ns:=by
 intro ns;induction ns with
 | nil =>
  intro vs w;cases w;exact .nil
 | cons n ns c =>
  intro vs w;cases w with
  | cons a b =>
   cases a;exact .cons _ _ (c _ b)
theorem ZZ{l:OpenLaw}(o:l.most=some n)(c:l.row.toRowW.claim.pre args=true)(i:WellAll P h b args):
  ∃ a vs ns,b=[Value.ref a]/\args=[WData.list (ns.map WData.int)]/\h.get? a=some {cls:=.type "list",data:=.seq vs.toArray}/\IntsAre vs ns/\ns.length<=n:=by
 have j:=(pre_splitW c).1;have hc:=(pre_splitW c).2;obtain⟨d,r,rfl,h1,h2⟩:=hasAllW_cons j;obtain rfl:=hasAllW_nil h2;obtain⟨xs,rfl,m⟩:=hasW_list h1;obtain⟨ns,rfl⟩:=items_int m
 have e:ns.length<=n:=by
  have g:(WTm.not (.lt (.lit (.int (n:Int))) (.len (.arg 0)))).holds [] {args:=[.list (ns.map .int)]}=true:=by
   have g:=(holds_andW hc).1;rw[o]at g;exact g
  have k:=condW_of g (w_not (w_lt w_lit (w_len_list (w_arg rfl))));refine Nat.le_of_not_lt λq=>?_
  first
   |(exact Qo k (by decide))
   |(simp at k;lia)
 cases i with
 | cons p s =>
  cases s;cases p with
  | list t f=>exact⟨_,_,ns,rfl,rfl,t,ZY ns _ f,e⟩
theorem Z0(l:OpenLaw)(args:List WData):l.row.toRowW.claim.post args (.bool true) args=true :=
 postW_of
  (by first | rfl | decide | simp[WShape.has])
  (w_eq_bool (w_res rfl) w_lit) rfl
theorem attach_call{l:OpenLaw}(J:l.most=some n)(t:d.params.defaults=[])(call:∀(w:World)(s₀ b:Shared)(mg s:Str->Option Value)(h:Addr)(o:Obj)(pm cd e:Value)(a:Addr)(vs:List Value)(ns:List Int),
   Ground q loose [] XP w s₀ mg s b.heap->YP w b.heap->
   b.heap.get? h=some o->o.data=.func (docDef d.name d.params d.body d.scope pm cd e)->b.heap.CodeRec cd d.name->mg d.name=some (.ref h)->
   b.heap.get? a=some {cls:=.type "list",data:=.seq vs.toArray}->IntsAre vs ns->ns.length<=n->b.gens=#[]->
   codeAny (model l.prog w) callerA (.call (.ref h) ⟨[.ref a],[]⟩) (λr s'=>r=.ok (.ret (.bool true))/\OldK b.heap s'.heap/\s'.os=b.os/\AllBare s'.gens) b):
  WalkO q loose XP YP l.row.toRowW d [] (λf vs=>PySem.call f vs):=by
 intro w s₀ b mg s G Y h o pm cd e F kV B hd m x k D u y L j v K p E;obtain rfl:F=.none:=Dflts.none x t;obtain rfl:kV=.none:=Dflts.noKw x;obtain⟨a,vs,ns,rfl,rfl,g,c,i⟩:=ZZ J j p;refine enter_call (codeAny_mono (call w s₀ b mg s h o pm cd e a vs ns G Y B (fd_plain hd) m k g c i D) λr s' H=>?_);obtain⟨rfl,h2,I,z⟩:=H;exact⟨.inl ⟨.bool true,.bool true,[],rfl,λ_=>rfl,.bool true,Z0 l _,λ_=>⟨List.Pairwise.nil,λ_ A=>(nomatch A)⟩⟩,h2,I,z⟩
end Att
namespace L2
open PySem PySem.Spec PyProof.Rows
theorem Oc:∀{vs:List Value}{ns:List Int},IntsAre vs ns->Vals (ns.map V.int) vs:=by intro vs ns h;induction h with | nil=>exact .nil | cons n t _ ih=>exact .cons ⟨t,rfl⟩ ih
noncomputable def Hu(H:Hp):Prop:=∀ b,H b=none\/∃ o xs,H b=some (.frz o (.lst xs))
theorem Z1{K:PySem.W.Frag}(KX:K.In c.heap)(p:c.heap.Ns mainGlobals mg)(f:c.heap.Ns builtinsNs R)(O:∀ x:Str,x≠"__name__"->R x=bootBuiltins x)(B:c.heap.NoLimit)(hg:c.gens=#[])(E:c.heap.get? a=some {cls:=.type "list",data:=.seq vs.toArray})(hi:IntsAre vs ns)(hl:ns.length<=sizeLine)(hr:Room k callerA)(F:∀ base:Heap,K.In base->base.Ns mainGlobals mg->FnOk P w K mg base CX k J fd [x] sp)(j:∀(s:Shared)(u:Value),BindsTo s fd ⟨[u],[]⟩ [(x,u)])(L:∀ H:Hp,Hu H->SqL K H a (ns.map V.int)->sp [.ref a] H (λv _=>v=.bl true) λ_ _ _=>False)(Q:∀ H e s',CX [] H c (λ_ _ _=>False) e s'->False):
  codeAny (model P w) callerA (.call (.ref J) ⟨[.ref a],[]⟩) (λr s'=>r=.ok (.ret (.bool true))/\OldK c.heap s'.heap/\s'.os=c.os/\AllBare s'.gens) c:=by
 have X:=Oc hi;have A:=hi.length
 have i:∀ H:Hp,Hu H->SqL K H a (ns.map V.int)->HOk P w H c.heap->(∀ b,H b≠none->b=a)->(H a≠none->K.lookup a=none)->
   codeAny (model P w) callerA (.call (.ref J) ⟨[.ref a],[]⟩) (λr s'=>r=.ok (.ret (.bool true))/\OldK c.heap s'.heap/\s'.os=c.os/\AllBare s'.gens) c:=by
  intro H T hS hok U hK;have base_of:∀{b:Addr}{o:Obj},c.heap.get? b=some o->H b=none->(DM c.heap H).get? b=some o:=λe n=>W8 e n
  have I:∀{b:Addr}{o:Obj}{es:Array DictEntry}{D:Nat},c.heap.get? b=some o->o.data=.dict es D->H b=none:=λ{b o es D}e d=>by
   cases q:H b with
   | none=>rfl
   | some u =>
    have N:=U b (by rw[q];simp);subst N;rw[E]at e;cases e;have d':=d;cases d'
  have g:∀{b:Addr}{m:Str->Option Value},c.heap.Ns b m->(DM c.heap H).Ns b m:=λ{b m}⟨o,es,D,e,d,r⟩=>⟨o,es,D,base_of e (I e d),d,r⟩
  have t:=λb o e=>base_of (KX b o e) (by
   cases q:H b with
   | none=>rfl
   | some u =>
    have N:=U b (by rw[q];simp);subst N;rw[hK (by rw[q];simp)]at e;cases e)
  have hM:Mod K mg (DM c.heap H):=⟨t,g p,⟨R,g f,O⟩,let⟨mc,h1,h2⟩:=B;⟨mc,g h1,h2⟩⟩;have Z:Env0 P w K mg (DM c.heap H) callerA [] c H:=⟨rfl,hM,λb o e=>W9 e,Nat.le_of_eq (W7 _ _),trivial,λb f=>Qo (show b∈([]:List Addr)from f) (by simp),hok,.of_eq hg⟩;refine codeAny_mono ((F _ t (g p)).run callerA [] c H ⟨[.ref a],[]⟩ [.ref a] [.ref a] _ _ hr Z (j c (.ref a)) (.cons rfl .nil) (L H T hS)) λr s' h=>?_;cases r with
  | error e=>exact(Q H e s' h).elim
  | ok fl =>
   cases fl with
   | next|brk|cont=>exact Qi h
   | ret u =>
    obtain⟨v,H',os,bare,un,l,r',q⟩:=h;have q':=q;subst q';obtain rfl:u=Value.bool true:=r';refine⟨rfl,OldK.of_keep λb o e=>?_,os,bare⟩;cases q:H b with
    | none=>exact un.keep b o e q (by intro z;exact Qo (show b∈([]:List Addr)from z) (by simp)) (by simp)
    | some u =>
     rcases T b with z |⟨ob,xs,z⟩
     ·rw[q]at z;cases z
     ·have Y:=un.frzs b ob _ z;obtain⟨S,_⟩:=hok b _ z;obtain⟨e2,_⟩:=l b _ Y;rw[e]at S;cases S;exact e2
 cases G:K.lookup a with
 | some o =>
  have e:=KX a o G;rw[E]at e;cases e;refine i (λ_=>none) (λ_=>.inl rfl) (.inr ⟨_,vs.toArray,_,G,rfl,rfl,rfl,by rw[Yn,A];exact hl,by simpa using X⟩) (λb u z=>by have y:=z;cases y) (λb z=>Qo rfl z) λz=>Qo rfl z
 | none =>
  refine i (λb=>if b=a then some (.frz {cls:=.type "list",data:=.seq vs.toArray} (.lst (ns.map V.int)))else none) (λb=>?_) (.inl (.inr ⟨{cls:=.type "list",data:=.seq vs.toArray},if_pos rfl⟩)) (λb u z=>?_) (λb z=>?_) λ_=>G
  ·by_cases f:b=a
   ·exact .inr ⟨_,_,if_pos f⟩
   ·exact .inl (if_neg f)
  ·by_cases f:b=a
   ·have y:=(if_pos f).symm.trans z;cases y;subst f;exact⟨E,by rw[Yh];exact hl,vs,_,X,E⟩
   ·have y:=(if_neg f).symm.trans z;cases y
  ·by_cases f:b=a
   ·exact f
   ·exact Qo (if_neg f) z
abbrev KOf{K:PySem.W.Frag}{h:Heap}(_:K.In h):PySem.W.Frag:=K
theorem Z2{l:PySem.W.OpenLaw}{K:Params->PySem.W.Frag}{CX:World->CXT}{sp:World->Sp}(P:l.most=some n)(t:n<=sizeLine)(A:d.params.defaults=[])(N:Room k callerA)(Q:∀(w:World)(h:Heap),YP w h->(K w.params).In h)(F:∀(w:World)(mg:Str->Option Value)(p:Addr)(h:Heap),(K w.params).In h->h.Ns mainGlobals mg->mg d.name=some (.ref p)->
   ∃ fd:FuncData,(∀(s:Shared)(u:Value),BindsTo s fd ⟨[u],[]⟩ [(x,u)])/\
    ∀ base:Heap,(K w.params).In base->base.Ns mainGlobals mg->FnOk l.prog w (K w.params) mg base (CX w) k p fd [x] (sp w))(y:∀(w:World)(H:Hp)(a:Addr)(ns:List Int),ns.length<=n->Hu H->SqL (K w.params) H a (ns.map V.int)->sp w [.ref a] H (λv _=>v=.bl true) λ_ _ _=>False)(z:∀(w:World)(H:Hp)(s:Shared)(e:Value)(s':Shared),CX w [] H s (λ_ _ _=>False) e s'->False):
  PySem.W.WalkO q loose XP YP l.row.toRowW d [] (λf vs=>PySem.call f vs):=by
 refine Att.attach_call P A λw s₀ m mg S p o pm cd L a vs ns G Y R hd D r j i c E=>?_;have KX:=Q w _ Y;obtain⟨fd,B,J⟩:=F w mg p _ KX G.T.g r;exact Z1 KX G.T.g G.T.b G.T.builtins G.T.nolimit E j i (Yt c t) N J B (λH O I=>y w H a ns c O I) λH e s'=>z w H m e s'
abbrev CX0:CXT:=λ_ _ _ _ _ _=>False
structure Fun(K:PySem.W.Frag)(x qual:Str)(st:Stmt)(f:Addr)(fd:FuncData):Prop where
 ex:∃(oc:Value)(od:Option Addr)(kV doc pm:Value)(an:Option Addr)(cdv ct:Value)(osl:Array (Option Value)),
  fd=PySem.W.fnOf x qual (ED st) (B4 st) (Ap st) .none kV doc pm an cdv ct/\K.lookup f=some ⟨oc,od,.func fd,osl⟩/\PySem.W.codeIn K cdv qual=true
 kp:PySem.W.keepIn K (.ref f)=true
theorem Fun.ok{K:PySem.W.Frag}{st:Stmt}(F:Fun K x qual st f fd)(S:Ay N ps (Ap st))(len:∀ vs H Q E,sp vs H Q E->vs.length=ps.length)(b:∀(a:Value)(A:Around)(outer:List Env)(s:Shared)(H:Hp)(vs:List V)(Q:VK)(E:XK),Room k (A.deeper (envOfC qual (Ap st) s.heap.objs.size f a))->sp vs H Q E->
   ∃ t,PSs (Bq CX0 P w K mg base N qual (Ap st) f a A outer s H E).nox (B4 st) t/\t {nx:=λ_ H'=>Q .non H',rt:=Q} (CL N vs) H):FnOk P w K mg base CX0 (k+1) f fd ps sp:=by
 obtain⟨j,m,kV,i,pm,l,a,ct,g,rfl,lk,c⟩:=F.ex;refine Hr lk c S len λA outer s H vs Q E e d=>?_;obtain⟨t,h,q⟩:=b a A outer s H vs Q E e d;exact⟨t,h.nox,q⟩
theorem Fun.binds{K:PySem.W.Frag}{st:Stmt}(F:Fun K x qual st f fd)(h:∀(kV b pm:Value)(c:Option Addr)(a ct:Value)(d:List Value),d.length=ps.length->bindArgs (PySem.W.fnOf x qual (ED st) (B4 st) (Ap st) .none kV b pm c a ct) ⟨d,[]⟩=pure (ps.zip d)):Binds K fd ps []:=by
 obtain⟨i,j,kV,b,pm,c,a,ct,g,rfl,lk,e⟩:=F.ex;exact .all (h kV b pm c a ct)
theorem Od{K:PySem.W.Frag}{st:Stmt}{kV:Value}(l:K.lookup f=some ⟨g,h,.func (PySem.W.fnOf x qual (ED st) (B4 st) (Ap st) .none kV b pm e a ct),d⟩)(c:PySem.W.codeIn K a qual=true)(k:PySem.W.keepIn K (.ref f)=true):Fun K x qual st f (PySem.W.fnOf x qual (ED st) (B4 st) (Ap st) .none kV b pm e a ct):=⟨⟨g,h,kV,b,pm,e,a,ct,d,rfl,l,c⟩,k⟩
theorem pv{X:Cx}(i:Nat){pos:Pos}(b:X.N[i]?=some x:=by rfl)(c:Vis X.env.scope x:=by first | exact Or.inl rfl | exact Or.inr (Or.inl rfl)| exact Or.inr (Or.inr rfl))(hd:(x==("__debug__":Str))=false:=by decide)(a:(x==("__classdict__":Str))=false:=by decide):PE X (.Name x pos) (NF i):=NG b c hd a
theorem Bk{c A B:Prop}[Decidable c](h1:c->A)(h2:¬ c->B):if c then A else B:=by
 by_cases h:c
 ·rw[if_pos h];exact h1 h
 ·rw[if_neg h];exact h2 h
def Same(H H':Hp):Prop:=∀ b o,H b=some o->H' b=some o
theorem Same.refl(H:Hp):Same H H:=λ_ _ h=>h
theorem Same.trans(a:Same H H1)(b:Same H1 H2):Same H H2:=λc o h=>b c o (a c o h)
theorem Same.free(e:Same H H')(h:H' l=Option.none):H l=Option.none:=by
 cases q:H l with
 | none=>rfl
 | some o =>
  rw[e l o q]at h;cases h
theorem Same.seq{K:PySem.W.Frag}(e:Same H H')(h:SqL K H a xs):SqL K H' a xs:=by
 rcases h with(h |⟨o,h⟩)| h
 ·exact .inl (.inl (e _ _ h))
 ·exact .inl (.inr ⟨o,e _ _ h⟩)
 ·exact .inr h
end L2
namespace L3
open PySem PySem.Spec PyProof.Rows L2
namespace Tb
noncomputable def hop(M:Nat):Nat->Nat->Nat
 | 0,i=>i
 | n+1,i=>hop M n ((i*5+1) % M)
noncomputable def cover(M:Nat):Bool:=(List.range M).all λi=>(List.range M).all λj=>(List.range M).any λn=>hop M n i==j
theorem cover8:cover 8=true:=by decide +kernel
theorem cover16:cover 16=true:=by decide +kernel
theorem cover32:cover 32=true:=by decide +kernel
theorem cover64:cover 64=true:=by decide +kernel
theorem Hv(M:Nat):∀ m n i,hop M (m+n) i=hop M n (hop M m i)
 | 0,n,i=>by rw[Nat.zero_add];rfl
 | m+1,n,i=>by
  rw[Nat.add_right_comm];show hop M (m+n) ((i*5+1) % M)=_;rw[Hv M m n];rfl
theorem Z4(d:((List.range M).all λj=>(List.range M).any λn=>hop M n 0==j)=true)(f:hop M M 0=0):cover M=true:=by
 have key:∀ j,j < M->∃ n,n < M/\hop M n 0=j:=λj a=>by
  obtain⟨n,b,e⟩:=List.any_eq_true.mp (List.all_eq_true.mp d j (List.mem_range.mpr a));exact⟨n,List.mem_range.mp b,by simpa using e⟩
 refine List.all_eq_true.mpr λi hi=>List.all_eq_true.mpr λj a=>List.any_eq_true.mpr ?_;obtain⟨m,g,c⟩:=key i (List.mem_range.mp hi);obtain⟨n,b,en⟩:=key j (List.mem_range.mp a);by_cases h:m<=n
 ·refine⟨n - m,List.mem_range.mpr (by lia),?_⟩;have z:=Hv M m (n - m) 0;rw[c,show m+(n - m)=n by lia,en]at z;rw[<- z];simp
 ·refine⟨n+M - m,List.mem_range.mpr (by lia),?_⟩;have z:=Hv M m (n+M - m) 0;rw[c,show m+(n+M - m)=M+n by lia,Hv M M n 0,f,en]at z;rw[<- z];simp
theorem cover128:cover 128=true:=Z4 (by decide +kernel) (by decide +kernel)
theorem Z5(h:cover M=true)(hi:i < M)(b:j < M):∃ n,n < M/\hop M n i=j:=by
 unfold cover at h;have h1:=List.all_eq_true.mp h i (List.mem_range.mpr hi);have h2:=List.all_eq_true.mp h1 j (List.mem_range.mpr b);obtain⟨n,a,e⟩:=List.any_eq_true.mp h2;exact⟨n,List.mem_range.mp a,by simpa using e⟩
theorem Oe(h:SetTable.layClean.free mask owner (a+1) i p=none):
  (owner.getD i (some 0)).isSome=true/\SetTable.layClean.free mask owner a ((i*5+1+p / 32) % (mask+1)) (p / 32)=none:=by
 unfold SetTable.layClean.free at h;have e:0 < SetTable.runEnd mask i+1 - i:=by unfold SetTable.runEnd;split <;> lia
 cases d:(List.range (SetTable.runEnd mask i+1 - i)).find? λk=>(owner.getD (i+k) (some 0)).isNone with
 | some k=>rw[d]at h;cases h
 | none =>
  rw[d]at h;refine⟨?_,h⟩;have c:=List.find?_eq_none.mp d 0 (List.mem_range.mpr e);rw[Nat.add_zero]at c;cases f:owner.getD i (some 0)with
  | some b=>rfl
  | none=>rw[f]at c;exact Qo rfl c
theorem Of:∀(n a i:Nat),SetTable.layClean.free mask owner (n+a) i 0=none->∀ m,m < n->(owner.getD (hop (mask+1) m i) (some 0)).isSome=true
 | 0,a,i,h,m,b=>by lia
 | n+1,a,i,h,m,b=>by
  rw[show n+1+a=(n+a)+1 by lia]at h;obtain⟨h1,h2⟩:=Oe h;simp only[Nat.zero_div,Nat.add_zero]at h2;cases m with
  | zero=>exact h1
  | succ m=>exact Of n a _ h2 m (by lia)
theorem Og:∀(n a i p:Nat),SetTable.layClean.free mask owner (n+a) i p=none->i < mask+1->∃ b,b < mask+1/\SetTable.layClean.free mask owner a b (p / 32 ^ n)=none
 | 0,a,i,p,h,hi=>⟨i,hi,by rw[Nat.zero_add]at h;simpa using h⟩
 | n+1,a,i,p,h,hi=>by
  rw[show n+1+a=(n+a)+1 by lia]at h;obtain⟨_,h2⟩:=Oe h;obtain⟨b,c,d⟩:=Og n a _ _ h2 (Nat.mod_lt _ (by lia));refine⟨b,c,?_⟩;rw[Nat.div_div_eq_div_mul,show 32*32 ^ n=32 ^ (n+1) by rw[Nat.pow_succ,Nat.mul_comm]]at d;exact d
theorem Z6(hc:cover (mask+1)=true)(hi:i < mask+1)(k:p < 2 ^ 64)(b:∃ j,j < mask+1/\owner.getD j (some 0)=none):(SetTable.layClean.free mask owner (SetTable.turns mask) i p).isSome=true:=by
 cases h:SetTable.layClean.free mask owner (SetTable.turns mask) i p with
 | some j=>rfl
 | none =>
  exfalso;rw[show SetTable.turns mask=13+((mask+1)+1) by unfold SetTable.turns;lia]at h;obtain⟨g,a,h2⟩:=Og 13 _ i p h hi;rw[Nat.div_eq_of_lt (Yu k (by decide))]at h2;have c:=Of (mask+1) 1 g h2;obtain⟨j,f,e⟩:=b;obtain⟨n,d,en⟩:=Z5 hc a f;have:=c n d;rw[en,e]at this;cases this
theorem Oh(hs:owner.size=mask+1):∀(a i p j:Nat),SetTable.layClean.free mask owner a i p=some j->i < mask+1->j < mask+1/\owner.getD j (some 0)=none
 | 0,i,p,j,h,hi=>by unfold SetTable.layClean.free at h;cases h
 | a+1,i,p,j,h,hi=>by
  unfold SetTable.layClean.free at h;cases b:(List.range (SetTable.runEnd mask i+1 - i)).find? λk=>(owner.getD (i+k) (some 0)).isNone with
  | none =>
   rw[b]at h;exact Oh hs a _ _ j h (Nat.mod_lt _ (by lia))
  | some k =>
   rw[b]at h;cases h;have h1:=List.find?_some b;have h2:owner.getD (i+k) (some 0)=none:=by simpa using h1
   refine⟨?_,h2⟩;refine Nat.lt_of_not_le λc=>?_;rw[Array.getD_eq_getD_getElem?,Array.getElem?_eq_none (by lia)]at h2;cases h2
theorem Kh{α:Type}(x:α):∀{l:List (Option α)}{j:Nat},l[j]?=some none->((l.set j (some x)).filterMap id).Perm (x::l.filterMap id)
 | [],j,h=>by simp at h
 | a::l,0,h=>by
  simp only[Yb,Option.some.injEq]at h;subst h;exact List.Perm.refl _
 | a::l,j+1,h=>by
  simp only[Yc]at h;rw[Yl];cases a with
  | none=>exact Kh x h
  | some b =>
   show(b::(l.set j (some x)).filterMap id).Perm (x::b::l.filterMap id);exact((Kh x h).cons b).trans (List.Perm.swap x b _)
theorem Oi:∀{l:List (Option Nat)},(l.filterMap id).length < l.length->∃ j,j < l.length/\l[j]?=some none
 | [],h=>by simp at h
 | none::l,h=>⟨0,by simp,rfl⟩
 | some a::l,h=>by
  have h':(l.filterMap id).length+1 < l.length+1:=h;obtain⟨j,b,e⟩:=Oi (l:=l) (by lia);exact⟨j+1,by simp;lia,by simpa using e⟩
structure Lay(M k:Nat)(owner:Array (Option Nat)):Prop where
 sz:owner.size=M
 pm:(owner.toList.filterMap id).Perm (List.range k)
theorem Z7(hc:cover (mask+1)=true)(L:Lay (mask+1) k owner)(f:k < mask+1)(h:Int):
  ∃ j,SetTable.layClean.free mask owner (SetTable.turns mask) (SetTable.bits h % (mask+1)) (SetTable.bits h)=some j/\Lay (mask+1) (k+1) (owner.setIfInBounds j (some k)):=by
 have g:SetTable.bits h < 2 ^ 64:=by
  unfold SetTable.bits;have:=Int.emod_lt_of_pos h (show(0:Int) < 2 ^ 64 by decide);have:=Int.emod_nonneg h (show(2 ^ 64:Int)≠0 by decide);lia
 have hl:(owner.toList.filterMap id).length=k:=by rw[L.pm.length_eq,List.length_range]
 obtain⟨j,c,e⟩:=Oi (l:=owner.toList) (by rw[hl,YT,L.sz];exact f);have b:j < mask+1:=by rw[YT,L.sz]at c;exact c
 have hi:SetTable.bits h % (mask+1) < mask+1:=Nat.mod_lt _ (by lia)
 have hs:=Z6 (owner:=owner) (i:=SetTable.bits h % (mask+1)) hc hi g ⟨j,b,by
  rw[Array.getD_eq_getD_getElem?];rw[YN]at e;rw[e];rfl⟩
 obtain⟨a,d⟩:=Option.isSome_iff_exists.mp hs;obtain⟨h1,h2⟩:=Oh L.sz _ _ _ _ d hi;refine⟨a,d,⟨by rw[Array.size_setIfInBounds];exact L.sz,?_⟩⟩
 have m:owner.toList[a]?=some none:=by
  rw[YN];rw[Array.getD_eq_getD_getElem?]at h2;have n:a < owner.size:=by rw[L.sz];exact h1
  rw[YX n]at h2 ⊢;exact Ql some h2
 rw[Array.toList_setIfInBounds];refine(Kh k m).trans ?_;rw[List.range_succ];exact((L.pm.cons k).trans (List.perm_append_singleton k _).symm)
theorem Oj(hc:cover (mask+1)=true):∀(hs:List Int)(k:Nat)(owner:Array (Option Nat)),Lay (mask+1) k owner->k+hs.length<=mask+1->
  ∃ o',(hs.foldl (λ(b:Option (Array (Option Nat)×Nat))h=>do
   let(owner,k) <- b
   let j <- SetTable.layClean.free mask owner (SetTable.turns mask) (SetTable.bits h % (mask+1)) (SetTable.bits h)
   pure (owner.setIfInBounds j (some k),k+1)) (some (owner,k)))=some (o',k+hs.length)/\Lay (mask+1) (k+hs.length) o'
 | [],k,owner,L,_=>⟨owner,rfl,L⟩
 | h::hs,k,owner,L,d=>by
  simp only[Yg]at d;obtain⟨j,e,c⟩:=Z7 hc L (by lia) h;obtain⟨o',f,a⟩:=Oj hc hs (k+1) _ c (by lia);refine⟨o',?_,by rw[Yg,show k+(hs.length+1)=k+1+hs.length by lia];exact a⟩;rw[List.foldl_cons];show hs.foldl _ (some (owner,k) >>=λx=>_)=_;rw[Option.bind_eq_bind,Option.bind_some];dsimp only;rw[e];rw[Option.bind_eq_bind,Option.bind_some];rw[Yg,show k+(hs.length+1)=k+1+hs.length by lia];exact f
theorem Z8(M:Nat):Lay M 0 (Array.replicate M none):=⟨by simp,by simp⟩
theorem Z9(hc:cover (mask+1)=true)(hs:Array Int)(a:hs.size<=mask+1):∃ o',SetTable.layClean mask hs=some o'/\Lay (mask+1) hs.size o':=by
 obtain⟨o',e,L⟩:=Oj hc hs.toList 0 _ (Z8 (mask+1)) (by simpa using a);refine⟨o',?_,by simpa using L⟩;unfold SetTable.layClean;rw[<- Array.foldl_toList];rw[e];rfl
theorem Ol{owner:Array (Option Nat)}(h:owner.size=M):(((List.range M).filterMap λj=>(owner.getD j none).map (j,·)).map (·.2))=owner.toList.filterMap id:=by
 have e:owner.toList=(List.range M).map λj=>owner.getD j none:=by
  apply List.ext_getElem?;intro i;rw[YO,YN];by_cases hi:i < M
  ·have h2:i < owner.size:=by lia
   rw[List.getElem?_range hi,YX h2,YD,Array.getD_eq_getD_getElem?,YX h2];rfl
  ·rw[Array.getElem?_eq_none (by lia),Qf (by simp;lia)];rfl
 rw[e,List.filterMap_map,List.map_filterMap];congr 1;funext j;show Option.map (·.2) (Option.map (j,·) (owner.getD j none))=owner.getD j none;cases owner.getD j none <;> rfl
theorem aa{owner:Array (Option Nat)}(h:owner.size=M):((List.range M).filterMap λj=>(owner.getD j none).map (j,·)).length=(owner.toList.filterMap id).length:=by
 rw[<- Ol h,Yh]
theorem laid_ok(hc:cover (mask+1)=true)(f m:Nat)(l p:Bool)(hs:Array Int)(b:hs.size<=mask+1):
  ∃ t a,SetTable.laid mask f m l p hs=some (t,a)/\a.toList.Perm (List.range hs.size)/\t.mask=mask/\t.place.size=hs.size/\t.dummies=#[]/\t.led=l/\t.plain=p:=by
 obtain⟨o',e,L⟩:=Z9 hc hs b;unfold SetTable.laid;rw[e];refine⟨_,_,rfl,?_,rfl,?_,rfl,rfl,rfl⟩
 ·rw[List.toList_toArray,Ol L.sz];exact L.pm
 ·rw[Yn,Yh,aa L.sz,L.pm.length_eq,List.length_range]
theorem order_perm{α:Type}(es:Array α)(b:Array Nat)(h:b.toList.Perm (List.range es.size)):(b.filterMap (es[·]?)).toList.Perm es.toList:=by
 rw[Array.toList_filterMap];refine(h.filterMap _).trans ?_;rw[show(List.range es.size).filterMap (λx=>es[x]?)=es.toList from ?_]
 have:∀(l:List α),(List.range l.length).filterMap (λx=>l[x]?)=l:=λl=>by
  induction l with
  | nil=>rfl
  | cons a l c =>
   rw[Yg,List.range_succ_eq_map,List.filterMap_cons];simp only[Yb,List.filterMap_map];congr 1
 have h2:=this es.toList;rw[YT]at h2;simpa only[YN]using h2
end Tb
def bt(w:World):Bool:=w.params.followText "set-order"
structure Tab(w:World)(es:Array (Int×Value))(t:SetTable)(ks:List Str):Prop where
 el:∀ e∈es.toList,∃ x u,e=(hashStr w x,Value.str x u)
 pm:(es.toList.map λe=>strOf e.2).Perm ks
 nd:ks.Nodup
 ft:t.fits es.size=true
 ld:bt w=false->t.led=true
 pl:t.plain=true->ks=[]
noncomputable def SS(w:World)(h:Heap)(a:Addr)(ks:List Str):Prop:=∃ o es ep t,h.get? a=some o/\o.ExactSet/\o.data=.set es ep t/\Tab w es t ks
namespace Tab
theorem len(T:Tab w es t ks):es.size=ks.length:=by
 have:=T.pm.length_eq;rw[Yh,YT]at this;exact this
theorem elems(prog:Program)(T:Tab w es t ks):ElemsOf (strKind prog w) es.toList:=λe a=>by
 obtain⟨x,u,rfl⟩:=T.el e a;exact⟨⟨x,by show Value.isStrOf x (.str x u)=true;simp[Value.isStrOf],rfl⟩,rfl⟩
theorem perm(T:Tab w es t ks)(p:es'.toList.Perm es.toList)(f:t'.fits es'.size=true)(l:bt w=false->t'.led=true)(q:t'.plain=true->ks=[]):Tab w es' t' ks :=
 ⟨λe a=>T.el e (p.mem_iff.mp a),(p.map _).trans T.pm,T.nd,f,l,q⟩
theorem mem(T:Tab w es t ks)(k:Str):k∈ks↔∃ e∈es.toList,Value.isStrOf k e.2=true:=by
 rw[<- T.pm.mem_iff,YC];constructor
 ·rintro⟨e,a,rfl⟩;obtain⟨x,u,rfl⟩:=T.el e a;exact⟨_,a,by show Value.isStrOf x (.str x u)=true;simp[Value.isStrOf]⟩
 ·rintro⟨e,a,h⟩;obtain⟨x,u,rfl⟩:=T.el e a;refine⟨_,a,?_⟩;obtain⟨t,b⟩:=Value.isStrOf_shape h;injection b
end Tab
theorem ae(t:SetTable)(n:Nat):(t.orStandIn n).led=t.led:=by
 unfold SetTable.orStandIn;split <;> rfl
theorem af(t:SetTable)(es:Array (Int×Value))(h:Int)(x:Value):(layNew t es h x).2.1.led=t.led:=by
 unfold layNew;split
 ·exact ae _ _
 ·rfl
theorem ag(t:SetTable)(es:Array (Int×Value))(n:Nat):(relayAll t es n).2.1.led=t.led/\((relayAll t es n).2.1.plain=true->t.plain=true):=by
 unfold relayAll;split
 ·rename_i t' a e;dsimp only;split
  ·unfold SetTable.relaid SetTable.laid at e;simp only[Option.bind_eq_bind,Qd]at e;obtain⟨o,_,e⟩:=e;cases e;exact⟨rfl,id⟩
  ·exact⟨rfl,λh=>by cases h⟩
 ·exact⟨rfl,λh=>by cases h⟩
theorem Fj{h:Heap}(e:h.get? a=some o)(d:o.ExactSet)(hd:o.data=.set es ep t)(T:Tab w es' t' ks):
  (h.update a (Obj.putSet es' t')).get? a=some {o with data:=.set es' (ep+1) t'}/\SS w (h.update a (Obj.putSet es' t')) a ks:=by
 have c:(h.update a (Obj.putSet es' t')).get? a=some {o with data:=.set es' (ep+1) t'}:=by
  have b:=Qw (Obj.putSet es' t') e (by rw[putSet_of es' t' hd];rfl);rw[putSet_of es' t' hd]at b;exact b
 exact⟨c,_,es',ep+1,t',c,d,rfl,T⟩
theorem ah(T:Tab w es t ks)(c:k∉ks)(p:a.toList.Perm (es.toList++[(hashStr w k,Value.str k u)]))(f:t1.fits a.size=true)(l:t1.led=t.led)(q:t1.plain=false):Tab w a t1 (k::ks):=by
 refine⟨λe b=>?_,?_,YS.mpr ⟨c,T.nd⟩,f,λh=>by rw[l];exact T.ld h,λh=>by rw[q]at h;cases h⟩
 ·rcases Yz.mp (p.mem_iff.mp b)with b | b
  ·exact T.el e b
  ·exact⟨k,u,YA.mp b⟩
 ·refine(p.map _).trans ?_;rw[Yy];exact(List.perm_append_singleton k _).trans (T.pm.cons k)
theorem On(hS:SS w s.heap a ks)(hn:ks.length+1 < scanBound)(h:∀ h' b,Heap.SameBut a s.heap h'->SS w h' a (if k∈ks then ks else k::ks)->Q b {s with heap:=h'}):wpAny (model prog w) A (setAddHashed a (.str k u) (hashStr w k)) Q E s:=by
 obtain⟨o,es,ep,t,x,N,hd,T⟩:=hS;have q:=T.elems prog;have v:(strKind prog w).is k (.str k u)=true:=by show Value.isStrOf k (.str k u)=true;simp[Value.isStrOf]
 have y:(Value.str k u).scannable=true:=rfl;have hsz:=T.len;have hb:es.size < scanBound:=by lia
 unfold setAddHashed setAddHashedIn;refine wpAny_holding (Qp (wpAny_setState_of x hd T.ft ?_));dsimp only;rw[byScan_of y hb q,if_pos rfl];refine Qp ?_;unfold setAddByScan;refine Qp (wpAny_rule ?_);refine Qp (wpAny_setScan_of (knd:=strKind prog w) v x hd T.ft q ?_)
 have l:∀(b:Bool){m:Shared}{R:Unit->Shared->Prop},R () m->wpAny (model prog w) A (match b with | true=>rule "set.scan.the-table-gave-way" | false=>pure ()) R E m:=λb m R z=>by
  cases b
  ·exact Qq z
  ·exact wpAny_rule z
 cases Z:List.findIdx? (λe=>(strKind prog w).is k e.2) es.toList with
 | some j =>
  obtain⟨hj,G,_⟩:=List.findIdx?_eq_some_iff_getElem.mp Z;have p:k∈ks:=(T.mem k).mpr ⟨_,Qh hj,G⟩;have I:=h s.heap false (Heap.SameBut.refl a s.heap) (by rw[if_pos p];exact⟨o,es,ep,t,x,N,hd,T⟩);exact Qq (Qq I)
 | none =>
  have n:k∉ks:=λp=>by
   obtain⟨e,he,O⟩:=(T.mem k).mp p;have I:=List.findIdx?_eq_none_iff.mp Z e he;exact Bool.noConfusion (I.symm.trans O)
  have d:=layNew_perm t es (hashStr w k) (.str k u);have f:=layNew_fits t es (hashStr w k) (.str k u);have g:=af t es (hashStr w k) (.str k u);rw[if_neg n]at h;dsimp only;show wpAny (model prog w) A _ _ E s;have H:(strKind prog w).hash k=hashStr w k:=rfl;revert d f g;generalize layNew t es (hashStr w k) (.str k u)=L;obtain⟨c,t1,dm,gv⟩:=L;intro d f g;dsimp only at d f g ⊢;rw[Array.toList_push]at d;refine Qp (l _ ?_);have hz1:c.size=es.size+1:=by rw[<- YT,d.length_eq,Yj,YT];rfl
  have D:∀ i:SetTable,i.fits c.size=true->i.led=t.led->i.plain=false->wpAny (model prog w) A (do
    storeSet a c i
    if(!dm&&i.tooFull)=true then do
      (match(relayAll i c (SetTable.grown c.size)).2.2 with | true=>rule "set.scan.the-table-gave-way" | false=>pure ())
      storeSet a (relayAll i c (SetTable.grown c.size)).1 (relayAll i c (SetTable.grown c.size)).2.1
      pure (some true)
     else pure (some true)) (λr s'=>wpAny (model prog w) A (match r with | some added=>pure added | none=>setAddHashedIn a (.str k u) (hashStr w k) 99999) Q E s') E s:=λi f2 X p2=>by
   have P:Tab w c i (k::ks):=ah T n d f2 X p2;refine Qp (wpAny_storeSet_of x hd ?_ (fits_of_scanBound (by lia)));obtain⟨B,K⟩:=Fj x N hd P;have U:=Qv s.heap a (Obj.putSet c i);split
   ·have O:=relayAll_perm i c (SetTable.grown c.size);have hf:=relayAll_fits i c (SetTable.grown c.size);have S:=ag i c (SetTable.grown c.size);have Y:=P.perm O hf (λz=>by rw[S.1,X];exact T.ld z) (λz=>by rw[S.2 z]at p2;cases p2);refine Qp (l _ ?_);refine Qp (wpAny_storeSet_of B rfl ?_ (fits_of_scanBound (by rw[Y.len,<- P.len];lia)));obtain⟨_,F⟩:=Fj B N rfl Y;exact Qq (Qq (h _ _ (U.trans (Qv _ a _)) F))
   ·exact Qq (Qq (h _ _ U K))
  split
  ·refine Qp ?_;rw[hashByValue_scannable 8 y];refine Qq ?_;exact D _ (SetTable.fits_plain_off f) g rfl
  ·rename_i J;refine Qp (Qq ?_);exact D _ f g (by simpa using J)
theorem SS.kept(S:SS w h a ks)(k:∀ o,h.get? a=some o->h'.get? a=some o):SS w h' a ks:=by
 obtain⟨o,es,c,t,b,r⟩:=S;exact⟨o,es,c,t,k o b,r⟩
theorem SS.nd(S:SS w h a ks):ks.Nodup:=by
 obtain⟨o,es,c,t,b,_,_,T⟩:=S;exact T.nd
theorem Oo(led:Bool)(hl:bt w=false->led=true)(c:h.get? a=some {cls:=.type "set",dict:=none,data:=.set #[] 0 (.fresh 0 0 led)}):SS w h a []:=
 ⟨_,#[],0,_,c,⟨rfl,rfl,rfl⟩,rfl,⟨λe b=>by simp at b,List.Perm.refl _,List.nodup_nil,rfl,hl,λ_=>rfl⟩⟩
variable {prog:Program}{w:World}{A:Around}{s:Shared} in
theorem ai{R:Result->Shared->Prop}{I:Addr}{T g:List Addr}{G:Array GenState->Array GenState->Prop}{n:Nat}{P:Nat->Value->Prop}{St:Nat->Shared->Prop}(W:WalksS prog w A.in1 I T g G n P St){S:Addr}(r:S∉T)
  {val:Nat->Str} (q:∀ i v,P i v->∃ t,v=.str (val i) t):∀(k i:Nat)(s:Shared)(ks:List Str),n - i=k->i<=n->St i s->SS w s.heap S ks->ks.length+k < scanBound->
   (∀ s' ks',Moved (S::g) G s s'->SS w s'.heap S ks'->(∀ x,x∈ks'↔x∈ks\/∃ j,i<=j/\j < n/\val j=x)->R (.ok (.ret .none)) s')->
   codeAny (model prog w) A (.builtin "set.update.loop" ⟨[.ref S,.ref I],[]⟩) R s:=by
 have l:S∉g:=λz=>r (W.sub _ z);have a:∀ b∈g,b∈S::g:=λb z=>Yd _ z;intro k;induction k with
 | zero =>
  intro i s ks U hi f O _ J;obtain rfl:i=n:=by lia
  refine codeAny_builtin PyProof.Rows.F.entry_set_update_loop ?_;rw[Around.under_plainId PyProof.Rows.F.plain_set_update_loop _];refine Qp (m:=pyNext (.ref I)) (W.done s _ _ f λs' p=>?_);refine Qq (J s' ks (p.mono a) (O.kept λo e=>p.heap S o l e) λx=>⟨.inl,?_⟩);rintro(h |⟨j,h1,h2,_⟩)
  ·exact h
  ·lia
 | succ k Z =>
  intro i s ks U hi f O hn J;have d:i < n:=by lia
  refine codeAny_builtin PyProof.Rows.F.entry_set_update_loop ?_;rw[Around.under_plainId PyProof.Rows.F.plain_set_update_loop _];refine Qp (m:=pyNext (.ref I)) (W.item i s _ _ d f λv D X u p=>?_);obtain⟨t,rfl⟩:=q i v X;have L:SS w D.heap S ks:=O.kept λo e=>p.heap S o l e;refine Qp (m:=holding [Value.str (val i) t] (setAdd S (.str (val i) t))) (wpAny_holding ?_);unfold setAdd;refine wpAny_holding (Qp ((strKind prog w).pyHash (k:=val i) (by show Value.isStrOf (val i) (.str (val i) t)=true;simp[Value.isStrOf]) ?_));refine On (s:={D with toks:=D.toks+1}) L (by lia) λh' b y H=>?_;refine Qq ⟨plainId_quiet PyProof.Rows.F.plain_set_update_loop _,Z (i+1) _ _ (by lia) d (W.frame _ D _ _ u (Nat.le_succ _) λc hc o e=>?_) H ?_ λY ks' K Q hx=>?_⟩
  ·rw[y.2 c λz:c=S=>r (by rw[<- z];exact hc)];exact e
  ·split
   ·lia
   ·rw[Yg];lia
  ·refine J Y ks' (Moved.trans W.gtrans ((p.mono a).then_heap (Nat.le_succ _) λc o hc e=>?_) K) Q λx=>(hx x).trans ?_
   ·rw[y.2 c λz:c=S=>hc (by rw[z];exact Ye)];exact e
   ·have B:x∈(if val i∈ks then ks else val i::ks)↔x∈ks\/val i=x:=by
     split
     ·rename_i N;exact⟨.inl,λz=>z.elim id λe=>e▸N⟩
     ·rw[Yo];exact⟨λz=>z.elim (λe=>.inr e.symm) .inl,λz=>z.elim .inr λe=>.inl e.symm⟩
    rw[B];constructor
    ·rintro((h | h)|⟨j,h1,h2,E⟩)
     ·exact .inl h
     ·exact .inr ⟨i,Yr _,d,h⟩
     ·exact .inr ⟨j,by lia,h2,E⟩
    ·rintro(h |⟨j,h1,h2,E⟩)
     ·exact .inl (.inl h)
     ·by_cases e:j=i
      ·subst e;exact .inl (.inr E)
      ·exact .inr ⟨j,by lia,h2,E⟩
noncomputable abbrev BK(led:Bool):Obj:={cls:=.type "set",dict:=none,data:=.set #[] 0 (.fresh 0 0 led)}
theorem aj(h:∀ led:Bool,(bt w=false->led=true)->Q (.ref s.heap.objs.size) {s with heap:=s.heap.push (BK led)}):wpAny (model prog w) A (newSet (.type "set")) Q E s:=by
 unfold newSet setsByText;refine Qp (Qp (wpAny_askSetting (Qq ?_)));simp only[newObj];refine Qp (wpAny_alloc (Qq (h _ λz=>?_)));show(!(bt w))=true;rw[z];rfl
theorem ak(a:Value)(h:∀ led:Bool,(bt w=false->led=true)->Q (.ref s.heap.objs.size) {s with heap:=s.heap.push (BK led)}):
  codeAny (model prog w) A (.call (.builtin "set.__new__") ⟨[.type "set",a],[]⟩) (wants Q E) s:=by
 refine codeAny_of_tree (?_:wpAny _ A.in1 (do checkBuiltinCall "set.__new__" ⟨[.type "set",a],[]⟩;again (.builtin "set.__new__" ⟨[.type "set",a],[]⟩)) _ _ s);refine Qp (wpAny_of_eq (PySem.F.newCall_set_1 a) (Qq ⟨plainId_quiet PySem.F.plain_set_new _,codeAny_builtin PySem.F.entry_set_new ?_⟩));rw[Around.under_plainId PySem.F.plain_set_new _];unfold Builtin.«set.__new__» Builtin.Frozenset.newClass;have b:=sub_set_self;obtain⟨c,g,d,tk,os⟩:=s;dsimp only;wp_walk;refine wpAny_askSetting (Qq ?_);simp only[newObj];refine Qp (wpAny_alloc (Qq (Qq (h _ λz=>?_))));show(!(bt w))=true;rw[z];rfl
theorem Oq:∀{vs:List Value}{xs:List Str},StrsAre vs xs->∀(i:Nat)(v:Value),vs[i]?=some v->∃ t,v=.str (xs.getD i (Str.ofString "")) t:=by
 intro vs xs h;induction h with
 | nil=>intro i v h;simp at h
 | cons x t r ih=>intro i v h;cases i with
  | zero=>exact⟨t,by simp at h;exact h.symm⟩
  | succ i=>exact ih i v (by simpa using h)
set_option maxHeartbeats 3200000 in
theorem Ki{s:Shared}(hh:A.handled=none)(hl:s.heap.IsList l items)(hi:StrsAre items.toList xs)(L:items.size < scanBound)(h:∀(h':Heap)(tk:Nat)(ks:List Str),SS w h' s.heap.objs.size ks->(∀ x,x∈ks↔x∈xs)->(∀ b o,b < s.heap.objs.size->s.heap.get? b=some o->h'.get? b=some o)->Q (.ref s.heap.objs.size) {s with heap:=h',toks:=tk}):
  wpAny (model prog w) A (call (.type "set") [.ref l]) Q E s:=by
 obtain⟨c,tl,hmro⟩:=PySem.F.called_set.mro;have U:=PySem.F.called_set.made;have hsub:=PySem.F.called_set.sub;refine wpAny_call (codeAny_of_tree (?_:wpAny _ _ (callAny (.type "set") _) _ _ _));refine Qq ⟨Code.quiet_builtin _ (by decide +kernel),codeAny_builtin PySem.F.entry_type_call ?_⟩;rw[Around.under_plain (weight_type_call_type "set" [.ref l] []) rfl];have h1:=PySem.F.called_set.notType;have h2:=PySem.F.called_set.canCreate;have hct:=PySem.F.typeCall_set_1 (.ref l);(repeat (any_goals (first | assumption | wp_step)));refine codeAny_mono (ak (.ref l) (E:=E) (Q:=λobj g=>∃ led:Bool,(bt w=false->led=true)/\obj=.ref s.heap.objs.size/\g={s with heap:=s.heap.push (BK led)}) λled z=>⟨led,z,rfl,rfl⟩) λr g d=>?_
 match r,d with
 | .error e,d=>exact d
 | .ok .next,d|.ok .brk,d|.ok .cont,d=>exact d.elim
 | .ok (.ret obj),d =>
  obtain⟨led,J,rfl,rfl⟩:=d;have hS:(s.heap.push (BK led)).get? s.heap.objs.size=some (BK led):=Qt _ rfl;have hT:Shared.TypeIs {s with heap:=s.heap.push (BK led)} (.ref s.heap.objs.size) "set":=⟨_,hS,rfl⟩;have hli:=PySem.F.called_set.init.lookup;have hbi:=PySem.F.called_set.init.bind (.ref s.heap.objs.size);(repeat (any_goals (first | assumption | wp_step)));refine codeAny_mono (codeAny_call_builtin (R:=wants (λr f=>r=.none/\∃ h' tk ks,f={s with heap:=h',toks:=tk}/\SS w h' s.heap.objs.size ks/\(∀ x,x∈ks↔x∈xs)/\(∀ b o,b < s.heap.objs.size->s.heap.get? b=some o->h'.get? b=some o)) E) PySem.F.called_set.init.plain PySem.F.entry_set_init (check_set_init_1 hT ?_)) λB f a=>?_
  ·obtain⟨ol,y,q,Y,n⟩:=hl;obtain⟨ocls,k,X,oslots⟩:=ol;simp only at q n;subst q n;have u:(s.heap.push (BK led)).get? l=some {cls:=.type "list",dict:=k,data:=.seq items Y,slots:=oslots}:=Qr _ y;have hs1:=PySem.F.sub_list_set;have hs2:=PySem.F.sub_list_frozenset;have hne:(Value.type "list"==Value.type "dict")=false:=by decide
   have G:(s.heap.push (BK led)).IsList l items:=⟨_,u,rfl,Y,rfl⟩;unfold Builtin.«set.__init__» noKeywords Builtin.Frozenset.updateFrom;generalize P:pyIter=PI;wp_walk;subst P;refine wpAny_pyIter_list G (Qp (wpAny_runValue ?_));have I:l < s.heap.objs.size:=Qs y;have D:l≠(s.heap.push (BK led)).objs.size:=by rw[Qu];exact Ys (Nat.lt_succ_of_lt I)
   have S:s.heap.objs.size∉[(s.heap.push (BK led)).objs.size,l]:=by
    rw[Qu];simp only [Yo,Qa,or_false,not_or];exact⟨Ys (Nat.lt_succ_self _),Nat.ne_of_gt I⟩
   have p:∀(i:Nat)(v:Value),items[i]?=some v->∃ t,v=.str (xs.getD i (Str.ofString "")) t:=λi v hv=>Oq hi i v (by rw[YN];exact hv);have hxl:items.size=xs.length:=by rw[<- YT];exact hi.length
   refine ai ((Walks.list (by simp[hh]) _ l D items).toS) S p (items.size - 0) 0 _ [] (by lia) (YV _) ⟨⟨_,Qt _ rfl,rfl,rfl⟩,G.push _⟩ ?_ (by simp only[Yi];lia) ?_
   ·exact Oo led J (Qr _ hS)
   ·intro s' ks K m H;obtain⟨h',g',d',N,T⟩:=s';obtain rfl:g'=s.gens:=K.gens;obtain rfl:d'=s.drawn:=K.drawn;obtain rfl:T=s.os:=K.os;refine Qq (Qq ⟨rfl,h',N,ks,rfl,m,λx=>(H x).trans ?_,λb o L e=>?_⟩)
    ·constructor
     ·rintro(z |⟨j,_,Z,e⟩)
      ·cases z
      ·rw[<- e];rw[Qb,Yp (by lia)];exact Qh _
     ·intro H;obtain⟨j,Z,e⟩:=List.getElem_of_mem H;refine .inr ⟨j,YV _,by lia,?_⟩;rw[Qb,Yp Z];exact e
    ·refine K.heap b o ?_ (Qr _ (Qr _ e));simp only [Yo,Qa,or_false,not_or];rw[Qu];exact⟨Ys L,Ys (Nat.lt_succ_of_lt L)⟩
  ·match B,a with
   | .error e,a=>exact a
   | .ok .next,a|.ok .brk,a|.ok .cont,a=>exact a.elim
   | .ok (.ret r),a =>
    obtain⟨rfl,h',tk,ks,rfl,m,H,O⟩:=a;(repeat (any_goals (first | assumption | wp_step)));exact h _ _ _ m H O
theorem al:typeLookup (.type "list") "keys"=pure none:=by rw[typeLookup_type,builtinLookup_eq_fast];kernel_rfl
set_option maxRecDepth 8000 in
theorem am(m:s.heap.get? a=some {cls:=.type "list",dict:=none,data:=.seq xs k,slots:=l})(p:A.handled=none)(h:∀ h' tk,(∀ b o,s.heap.get? b=some o->h'.get? b=some o)->Q none {s with heap:=h',toks:=tk}):wpAny (model prog w) A (getAttr? (.ref a) "keys") Q E s:=by
 obtain⟨q,g,d,tk,os⟩:=s;have j:∀ c,(⟨q,g,d,c,os⟩:Shared).TypeIs (.ref a) "list":=λ_=>⟨_,m,rfl⟩;have r:=sub_AttributeError;have v:=F.slot_list_getattribute.lookup;have x:=F.slot_list_getattribute.bind (.ref a);have u:=am_list_getattr_none;unfold getAttr? getAttrBy? getAttrBy
 repeat (any_goals (first | assumption | exact j _ |((with_reducible show wpAny _ _ (call (Value.builtin "list.__getattribute__") _ _) _ _ _);refine call_meets F.slot_list_getattribute (j _) am_entry_list_getattribute (F.args_list_getattribute_2 _ _) (meets_getattribute_miss_list a xs k l "keys" _ al (by decide +kernel) (by decide)) ⟨m,p,λh' c e f=>?_⟩)| wp_step))
 obtain⟨t',t,n⟩:=f.there;have i:∀ c,(⟨h',g,d,c,os⟩:Shared).TypeIs (.ref e) "AttributeError":=λ_=>⟨_,n,rfl⟩;show wpAny _ _ (getattributeRaised _ _ _ _ _ _ _) _ _ _;unfold getattributeRaised
 repeat (any_goals (first | assumption | exact i _ | wp_step))
 exact h _ _ f.of.keeps
theorem Os:entryFor table "dict.update.loop"=some Builtin.«dict.update.loop»:=entryFor_of_tree (by kernel_rfl)
theorem Hx:plainId "dict.update.loop"=true:=by decide +kernel
theorem ao{E:Value->Shared->Prop}{s:Shared}{i:Int}(a:s.heap.IsTuple p #[.str x t,v])(d:s.heap.DictOf (A4 prog w) S kvs)(f:kvs.length<=sizeLine)(h:∀ h',h'.DictOf (A4 prog w) S (stored kvs (.inr x) v)->Heap.SameBut S s.heap h'->Q () {s with heap:=h',toks:=s.toks+1}):
  wpAny (model prog w) A (holding [Value.ref p] do
   let pair <-(Builtin.Dict.pairItems (.ref p)).tryCatch λe=>do
    if !(<- isInstance e (.type "TypeError"))then throw e
    rule "dict.update.element-no-sequence"
    raiseError "TypeError" s!"cannot convert dictionary update sequence element #{i} to a sequence"
   match pair with
   | [k,v]=>holding [k,v] (dictSet S k v)
   | l =>
    rule "dict.update.element-length"
    raiseError "ValueError" s!"dictionary update sequence element #{i} has length {l.length}; 2 is required") Q E s:=by
 refine wpAny_holding ?_;have c:s.TypeIs (.ref p) "tuple":=a.typeIs
 have b:wpAny (model prog w) A (Builtin.Dict.pairItems (.ref p)) (λr s'=>r=[Value.str x t,v]/\s'=s) (λ_ _=>False) s:=by
  obtain⟨o,g,hc,n,hd⟩:=a;unfold Builtin.Dict.pairItems;refine Qp (wpAny_typeOf c ?_);rw[if_pos (by decide)];refine Qp (wpAny_seqItems g hd ?_);exact Qq ⟨rfl,rfl⟩
 refine Qp (wpAny_tryCatch (wpAny_mono b ?_ λ_ _ z=>z.elim));rintro r s' ⟨rfl,rfl⟩;refine wpAny_holding ?_;exact wpAny_dictSet_pairs (knd:=A4 prog w) (k:=.inr x) (by simp[A4,Du,Value.isStrOf]) d h f
variable {prog:Program}{w:World}{A:Around}{s:Shared} in
theorem ap{R:Result->Shared->Prop}{I:Addr}{fp x:List Addr}{G:Array GenState->Array GenState->Prop}{n:Nat}{P:Nat->Value->Prop}{St:Nat->Shared->Prop}(W:WalksS prog w A.in1 I fp x G n P St){S:Addr}(D:S∉fp)
  {ps:List (Str×Value)} (hps:ps.length=n):∀(k i:Nat)(s:Shared)(u:Tok)(kvs:List (Key×Value)),n - i=k->i<=n->St i s->s.heap.DictOf (A4 prog w) S kvs->kvs.length+k<=sizeLine->
   (∀ j v,i<=j->j < n->P j v->∃ p t y,v=.ref p/\p∉S::x/\ps[j]?=some y/\s.heap.IsTuple p #[.str y.1 t,y.2])->
   (∀ s',Moved (S::x) G s s'->s'.heap.DictOf (A4 prog w) S (merged kvs ((ps.drop i).map λy=>(Sum.inr y.1,y.2)))->R (.ok (.ret .none)) s')->
   codeAny (model prog w) A (.builtin "dict.update.loop" ⟨[.ref S,.ref I,.int i u,.none],[]⟩) R s:=by
 have B:S∉x:=λz=>D (W.sub _ z);have a:∀ b∈x,b∈S::x:=λb z=>Yd _ z;intro k;induction k with
 | zero =>
  intro i s u kvs hk hi f U _ _ K;obtain rfl:i=n:=by lia
  refine codeAny_builtin Os ?_;rw[Around.under_plainId Hx _];refine Qp (m:=pyNext (.ref I)) (W.done s _ _ f λs' g=>?_);refine Qp (Qq (Qq (K s' (g.mono a) ?_)));rw[List.drop_eq_nil_of_le (by lia)];obtain⟨o,es,J,Q,r⟩:=U;exact⟨o,es,J,g.heap S o B Q,r⟩
 | succ k ih =>
  intro i s u kvs hk hi f U hn hP K;have d:i < n:=by lia
  refine codeAny_builtin Os ?_;rw[Around.under_plainId Hx _];refine Qp (m:=pyNext (.ref I)) (W.item i s _ _ d f λv L X E g=>?_);obtain⟨p,t,y,rfl,T,hy,F⟩:=hP i v (Yr _) d X
  have O:L.heap.DictOf (A4 prog w) S kvs:=by
   obtain⟨o,es,J,Q,r⟩:=U;exact⟨o,es,J,g.heap S o B Q,r⟩
  have h:L.heap.IsTuple p #[.str y.1 t,y.2]:=F.at λo e=>g.heap p o (λz=>T (a _ z)) e;refine Qp (ao (i:=i) h O (by lia) λh' H q=>?_)
  have l:ps.drop i=y::ps.drop (i+1):=by
   rw[List.drop_eq_getElem_cons (by lia)];rw[Yp (by lia)]at hy;rw[YE hy]
  refine Qq ⟨plainId_quiet Hx _,ih (i+1) _ _ (stored kvs (.inr y.1) y.2) (by lia) d (W.frame _ L _ _ E (Nat.le_succ _) λc hc o e=>?_) H ?_ (λj v h1 h2 hv=>?_) λs2 N Y=>?_⟩
  ·rw[q.2 c λz:c=S=>D (by rw[<- z];exact hc)];exact e
  ·have:=merged_length_le kvs [((Sum.inr y.1:Key),y.2)];have e:merged kvs [((Sum.inr y.1:Key),y.2)]=stored kvs (.inr y.1) y.2:=rfl;rw[e]at this;simp only[Yg,Yi]at this;lia
  ·obtain⟨p',t',y',e1,Z,e3,e4⟩:=hP j v (by lia) h2 hv;refine⟨p',t',y',e1,Z,e3,(e4.at λo e=>g.heap p' o (λz=>Z (a _ z)) e).at λo e=>?_⟩;rw[q.2 p' λz:p'=S=>Z (by rw[z];exact Ye)];exact e
  ·refine K s2 (Moved.trans W.gtrans ((g.mono a).then_heap (Nat.le_succ _) λc o hc e=>?_) N) ?_
   ·rw[q.2 c λz:c=S=>hc (by rw[z];exact Ye)];exact e
   ·rw[l];exact Y
theorem aq{ps:List (Str×Value)}(R:A.handled=none)(hl:s.heap.get? l=some {cls:=.type "list",dict:=none,data:=.seq items n,slots:=U})(N:∀(j:Nat)(v:Value),items[j]?=some v->∃ p t y,v=.ref p/\ps[j]?=some y/\s.heap.IsTuple p #[.str y.1 t,y.2])(H:ps.length=items.size)(hsz:ps.length<=sizeLine)(hn:(ps.map (·.1)).Nodup)(h:∀ h' tk,h'.DictOf (A4 prog w) s.heap.objs.size (ps.map λy=>(Sum.inr y.1,y.2))->(∀ b o,b < s.heap.objs.size->s.heap.get? b=some o->h'.get? b=some o)->Q (.ref s.heap.objs.size) {s with heap:=h',toks:=tk}):
  wpAny (model prog w) A (call (.type "dict") [.ref l]) Q E s:=by
 refine callType_codes (Q₁:=λobj f=>obj=.ref s.heap.objs.size/\f={s with heap:=s.heap.push {cls:=.type "dict",data:=.dict #[]}}) F.kt_called_dict (F.kt_typeCall_dict_1 _) F.entry_dict_init (kt_code_dict_new _ ⟨rfl,rfl⟩) ?_;rintro obj f ⟨rfl,rfl⟩;have d:(s.heap.push {cls:=.type "dict",data:=.dict #[]}).DictOf (A4 prog w) s.heap.objs.size []:=Heap.DictOf.new s.heap;have g:(s.heap.push {cls:=.type "dict",data:=.dict #[]}).get? l=some {cls:=.type "list",dict:=none,data:=.seq items n,slots:=U}:=Qr _ hl;refine⟨d.typeIs,F.args_dict_init_2 _ _,?_⟩;unfold Builtin.«dict.__init__»;refine Qp ?_;unfold Builtin.Dict.selfAndRest;refine Qp (wpAny_notOrdered_dict d.typeIs ?_);show wpAny _ _ (pure (s.heap.objs.size,[Value.ref l])) _ _ _;refine Qq ?_;show wpAny _ _ (Builtin.Dict.updateFrom "dict.__init__" s.heap.objs.size (.ref l) [] .none) _ _ _;unfold Builtin.Dict.updateFrom;refine Qp (wpAny_typeOf (T:="list") ⟨_,g,rfl⟩ ?_);rw[if_pos (by decide)];refine Qp (am g (by simp[R]) λh2 tk2 G=>?_);simp only[Option.isNone_none,if_true];refine Qp (wpAny_rule ?_);have k:h2.IsList l items:=⟨_,G _ _ g,rfl,n,rfl⟩
 have i:h2.DictOf (A4 prog w) s.heap.objs.size []:=by
  obtain⟨o,es,P,m,r⟩:=d;exact⟨o,es,P,G _ _ m,r⟩
 have B:l < s.heap.objs.size:=Qs hl
 have c:s.heap.objs.size < h2.objs.size:=by
  obtain⟨o,es,P,m,r⟩:=i;exact Qs m
 refine Qp (wpAny_pyIter_list k ?_);refine Qq ⟨plainId_quiet Hx _,?_⟩;have q:l≠h2.objs.size:=Ys (Nat.lt_trans B c)
 have K:s.heap.objs.size∉[h2.objs.size,l]:=by
  simp only [Yo,Qa,or_false,not_or];exact⟨Ys c,Nat.ne_of_gt B⟩
 refine ap (A:=A.in1) ((Walks.list (by simp[R]) _ l q items).toS) K (ps:=ps) H (items.size - 0) 0 _ _ [] (by lia) (YV _) ⟨⟨_,Qt _ rfl,rfl,rfl⟩,k.push _⟩ (i.push _) (by simp only[Yi];lia) ?_ ?_
 ·intro j v _ _ Z;obtain⟨p,t,y,Y,e2,X⟩:=N j v Z;have S:p < s.heap.objs.size:=by obtain⟨o,m,_⟩:=X;exact Qs m
  refine⟨p,t,y,Y,?_,e2,(X.at λo e=>G _ _ (Qr _ e)).push _⟩;simp only [Yo,Qa,or_false,not_or];exact⟨Ys S,Ys (Nat.lt_trans S c)⟩
 ·intro s' D u;obtain⟨h',g',d',J,L⟩:=s';obtain rfl:g'=s.gens:=D.gens;obtain rfl:d'=s.drawn:=D.drawn;obtain rfl:L=s.os:=D.os;refine⟨rfl,h h' J ?_ λb o O e=>?_⟩
  ·rw[List.drop_zero,merged_nil_of_nodup _ ?_]at u
   ·exact u
   ·rw[YB];have:((λx:Key×Value=>x.1)∘λy:Str×Value=>((Sum.inr y.1:Key),y.2))=(λx:Str=>(Sum.inr x:Key))∘(·.1):=rfl;rw[this,<- YB];exact List.Pairwise.map _ (λa b I z=>I (Sum.inr.inj z)) hn
  ·refine D.heap b o ?_ (Qr _ (G _ _ (Qr _ e)));simp only [Yo,Qa,or_false,not_or];exact⟨Ys O,Ys (Nat.lt_trans O c)⟩
end L3
namespace L2
open PySem PySem.Spec PyProof.Rows
theorem ar(I:Nat->Shared->Prop)(k:∀ e s',E' e s'->notedBy (model prog w) A env (λe s'=>R (.error e) s') e s')(t:∀ n s,I n s->wpAny (model prog w) A (pyNext u) (λr a=>match r with
   | none=>R (.ok .next) a
   | some v=>wpAny (model prog w) A (letOwnedTupleGo target u v) (λ_ s₁'=>wpAny (model prog w) A (assign target env v) (λ_ f=>
     wpAny (model prog w) A (forIn ifs true λc r=>if r=true then do let ok <- isTrue c env (eval c env);pure (ForInStep.yield ok)else pure (ForInStep.yield r)) (λok b=>
      if ok=true then wpAny (model prog w) A (eval elt env) (λx d=>
       wpAny (model prog w) A (call (.builtin "list.append") [q,x]) (λ_ j=>∃ m,m < n/\I m j) E' d) E' b
      else ∃ m,m < n/\I m b) E' f) E' s₁') E' a) E' s)(n:Nat)(h:I n s):
  codeAny (model prog w) A (.compLoop (.ListComp elt [⟨target,iter,ifs,0⟩] scope pos) 0 u q env) R s:=by
 refine codeAny_loop rfl I (λn s y=>?_) n h;refine wpAny_noted (Qp (wpAny_standAt (Qp (wpAny_mono (t n s y) (λr a g=>?_) k))));cases r with
 | none=>exact Qq g
 | some v =>
  refine Qp (wpAny_mono g (λ_ s₁' h₁'=>?_) k);refine Qp (wpAny_mono h₁' (λ_ f o=>Qp (wpAny_mono o (λok b i=>?_) k)) k);cases ok with
  | false=>exact Qq ⟨rfl,i⟩
  | true =>
   exact Qp (Qp (wpAny_mono i (λx d l=>Qp (wpAny_mono l (λ_ j p=>Qq (Qq ⟨rfl,p⟩)) k)) k))
noncomputable def PF(X:Cx)(ifs:List Expr)(t:TT):Prop :=
 ∀(pins:List (Addr×Obj))(s:Shared)(σ:St)(H:Hp)(Q:Bool->Hp->Prop),Inv X pins σ H s->t σ H Q->
  wpAny (model X.prog X.w) X.A (forIn ifs true λc r=>if r=true then do let ok <- isTrue c X.env (eval c X.env);pure (ForInStep.yield ok)else pure (ForInStep.yield r)) (TP X pins σ Q) X.xe s
def au:TT:=λ_ H Q=>Q true H
theorem aw:PF X [] au:=λ_ _ _ H _ I h=>wpAny_tests_nil ⟨H,I,h⟩
theorem ax(hc:PT X c t):PF X [c] t:=λpins s σ H Q I h=>wpAny_tests_one (hc pins s σ H Q I h)
noncomputable def cxB(X:Cx)(Nc:List Str)(scope:Scope)(cl:List (Str×Addr))(C:Addr)(fp:List Addr)(s:Shared)(H:Hp):Cx :=
 {X with N:=Nc,s₀:=s,H₀:=H,env:=compEnvC scope cl C X.env,outer:=X.stack,ex:=fp,fn:=λ_=>false,pn:=[],xe:=λ_ _=>False}
structure Blk(X:Cx)(Nc:List Str)(scope:Scope)(cl:List (Str×Addr))(cap:St->St):Prop where
 clos:closureFor scope X.env=pure cl
 kind:scope.kind=.function
 names:∀ x∈scope.names,x.2=.local->scope.names.lookup x.1=some .local
 nocell:∀ y∈scope.names,y.2≠.cell
 sub:∀ y c,cl.lookup y=some c->X.env.cells.lookup y=some c
 has:∀ y,((relabel scope X.env).names.lookup y=some .cell\/(relabel scope X.env).names.lookup y=some .free)->∃ c,cl.lookup y=some c
 take:∀(σ:St)(i:Nat)(y:Str)(v:V),Nc[i]?=some y->(cap σ)[i]?=some (some v)->Vis (relabel scope X.env) y->
  ((relabel scope X.env).names.lookup y=some .cell\/(relabel scope X.env).names.lookup y=some .free)/\Vis X.env.scope y/\X.env.scope.names.lookup y≠some .local/\∃ j:Nat,X.N[j]?=some y/\σ[j]?=some (some v)
 len:∀ σ:St,(cap σ).length=Nc.length
theorem ay(h:∀ y∈scope.names,y.2≠.free):relabel scope env=scope:=by
 unfold relabel
 rw[map_eq_self (λx a=>by
  obtain⟨n,k⟩:=x;have:(k==NameKind.free)=false:=by simpa using h _ a
  simp[this])]
theorem Kj{names:List (Str×NameKind)}(h:names.lookup x=some k):(x,k)∈names:=PySem.mem_of_lookup h
theorem Ot(kind:scope.kind=.function)(all:∀ y∈scope.names,y.2≠.free/\y.2≠.cell)(names:∀ x∈scope.names,x.2=.local->scope.names.lookup x.1=some .local):
  Blk X Nc scope [] (λ_=>List.replicate Nc.length none) where
 clos:=closureFor_none λx a=>(all x a).1
 kind:=kind
 names:=names
 nocell:=λy d=>(all y d).2
 sub:=λy c h=>by cases h
 has:=λy h=>by
  rw[ay λz b=>(all z b).1]at h;rcases h with h | h
  ·exact Qo rfl (all _ (Kj h)).2
  ·exact Qo rfl (all _ (Kj h)).1
 take:=λσ i y v h1 h2 e=>by
  rw[List.getElem?_replicate]at h2;split at h2 <;> cases h2
 len:=λσ=>List.length_replicate ..
noncomputable def cOk(cap:St->St)(g:TG)(tt:TT)(te:TE)(K:List V->Hp->Prop)(σ:St)(J:It)(H1:Hp):Prop :=
 ∃ W:Nat->Nat->St->Hp->List V->Prop,(∃ m,W 0 m (cap σ) H1 [])/\∀ i m σ' H' ys,W i m σ' H' ys->
  (J.stop i H'/\K ys H')\/
  (J.go i H'/\ys.length < sizeLine/\∃ N:St->Hp->List V->Prop,(∀ σ2 H2 ys2,N σ2 H2 ys2->∃ m',m' < m/\W (i+1) m' σ2 H2 ys2)/\
   ∀ x H2,J.yld i H' x H2->g x σ' H2 λσ3 H3=>tt σ3 H3 λb H4=>if b=true then te σ3 H4 λy H5=>N σ3 H5 (ys++[y])else N σ3 H4 ys)
noncomputable def Hy(wi:TI)(cap:St->St)(g:TG)(tt:TT)(te:TE):TE:=λσ H Q=>wi σ H λJ H1=>cOk cap g tt te (λys H'=>∀ a,H' a=none->Q (.ref a) (upd H' a (.lst ys))) σ J H1
theorem Ou(hc:X.calm=true)(B:Blk X Nc scope cl cap)(hg:∀ C L s H,PG (cxB X Nc scope cl C L s H) tg g)(ht:∀ C L s H,PF (cxB X Nc scope cl C L s H) ifs tt)(he:∀ C L s H,PE (cxB X Nc scope cl C L s H) elt te){σ:St}{RR:Value->Addr->Result->Shared->Prop}{K:List V->Hp->Prop}(f:Inv X pins σ H2 P)(T:DN X.prog X.w X.K tg J L it tn)(st2:tn 0 P.heap)(f2:∀ b∈L,CK X pins H2 b)(w2:cOk cap g tt te K σ J H2)(fin:∀(D C:Addr)(s':Shared)(H':Hp)(ys:List V)(oC:Obj),H' D=none->K ys H'->Inv X pins σ (upd H' D (.lst ys)) s'->CK X pins (upd H' D (.lst ys)) C->s'.heap.get? C=some oC->(∀ v,oC.data≠.cell v)->(∃ m,s'.heap.Ns C m)->RR (.ref D) C (.ok .next) s'):
  wpAny (model X.prog X.w) X.A (newList []) (λacc s₃=>wpAny (model X.prog X.w) X.A (newFunctionEnv scope X.env.globals cl [] X.env.qual none .none (some X.env)) (λcenv s₄=>
   codeAny (model X.prog X.w) X.A (.compStart (.ListComp elt [⟨tg,iter,ifs,0⟩] scope pos) 0 (.ref it) acc {cenv with scope:=relabel scope X.env}) (RR acc cenv.locals) s₄) E s₃) E P:=by
 refine wpAny_newObj_type (wpAny_newFunctionEnv B.nocell (by intro y hy;simp at hy) (λU G t=>?_) B.kind);generalize hP2:P.heap.push {cls:=.type "list",dict:=none,data:=.seq ([]:List Value).toArray}=P2 at G t ⊢;generalize F:P.heap.objs.size=D at G t ⊢;have hCs:P2.objs.size=D+1:=by rw[<- hP2,Qu,F]
 generalize hCC:P2.objs.size=C at G t hCs ⊢;have hDC:D≠C:=Ys (by rw[hCs];exact Nat.lt_succ_self _);have R:∀ b:Addr,b < D->b≠C:=λb h=>Ys (by rw[hCs];exact Nat.lt_succ_of_lt h);have leC:D<=C:=by rw[hCs];exact Nat.le_succ _
 have Q:∀ b o,P.heap.get? b=some o->U.get? b=some o:=λb o e=>by
  have a:=Qs e;rw[F]at a;refine t.extBut b o (R b a) (Qr _ ?_);rw[<- hP2];exact Qr _ e
 have hacc:U.get? D=some {cls:=.type "list",data:=.seq #[]}:=by
  refine t.extBut D _ hDC (Qr _ ?_);rw[<- hP2,<- F];exact Qt _ rfl
 have lt2:∀ b o,P.heap.get? b=some o->b < D:=λb o e=>by rw[<- F];exact Qs e
 have Y:∀ b∈L,b < D:=λb a=>by
  obtain⟨o,e,_⟩:=T.obj _ _ st2 b a;exact lt2 b o e
 have celt:∀ x c,X.env.cells.lookup x=some c->c < D:=λx c e=>by
  obtain⟨v,z⟩:=f.cell x c e;rw[<- F];exact z.lt
 have S:=λp hp=>lt2 _ _ (f.pin p hp).1;have fstk:=λb a z=>(Yo.mp (f.stkSub b z)).elim (f2 b a).2.1 (f2 b a).2.2.1;have hDn:=f.hok.fresh (by rw[F];exact Yr _);have hCn:=f.hok.fresh (by rw[F];exact leC);have sz0:X.s₀.heap.objs.size<=D:=by rw[<- F];exact f.sz
 let Xc:=cxB X Nc scope cl C L P H2
 have okc:Xc.Ok:=by
  refine⟨f.ok.mod,?_,f.ok.glob,f.ok.blt,?_,λx y c h1 h2=>f.ok.inj x y c (B.sub x c h1) (B.sub y c h2),λx hx=>B.has x hx,(λx c h=>by cases h),f.ok.hd,f.ok.frames,.inl rfl,?_,f.bs,Yt f.ok.bsz f.sz,?_,fstk,f.stack,f.stkFree⟩
  ·exact B.kind
  ·show P.heap.objs.size<=C;rw[F];exact leC
  ·intro b a;refine⟨?_,λx c e=>?_⟩
   ·exact R b (Y b a)
   ·exact(f2 b a).2.2.2.2.1 x c (B.sub x c e)
  ·intro b o e a;rcases(f2 b a).2.2.2.1 with z | z
   ·exact f.ok.noex b o e z
   ·exact Qo (Yu (Qs (f.ok.bs b o e).1) z) (YL _)
 have I0:∀ tk,Inv Xc (X.pn++pins) (cap σ) H2 {P with heap:=U,toks:=tk}:=λtk=>by
  refine⟨okc,rfl,f.bare,Un.kept Q,⟨_,G,λi y v h1 h2 h3=>?_⟩,λx c e=>?_,hCn,λx c e=>f.freeC x c (B.sub x c e),λp hp=>?_,f.hok.kept Q,B.len σ⟩
  ·obtain⟨k1,k2,k3,j,k4,k5⟩:=B.take σ i y v h1 h2 h3;obtain⟨m,hn,hl⟩:=f.loc;obtain⟨u,r,l⟩:=hl j y v k4 k5 k2;refine⟨u,r,.inr ⟨k1,?_⟩⟩;rcases l with⟨l,_⟩|⟨_,c,e,z⟩
   ·exact Qo l k3
   ·obtain⟨c',e'⟩:=B.has y k1;have:=B.sub y c' e';rw[e]at this;cases this;obtain⟨oc,ec,dc⟩:=z;exact⟨c,e',oc,Q _ _ ec,dc⟩
  ·obtain⟨v,oc,ec,dc⟩:=f.cell x c (B.sub x c e);exact⟨v,oc,Q _ _ ec,dc⟩
  ·have Z:p∈X.pn++pins:=by simpa[Xc,cxB]using hp
   obtain⟨e,n,ne,nf,d⟩:=f.pin p Z;exact⟨Q _ _ e,n,R _ (S p Z),λz=>(Yo.mp (f.stkSub _ z)).elim ne nf,d⟩
 have fpc:∀{H':Hp}{o:Obj},(∀ b∈L,H' b=none)->∀ b∈L,CK Xc ((X.pn++pins)++[(D,o)]) H' b:=λ{H' o}hn b a=>by
  refine⟨hn b a,R b (Y b a),fstk b a,.inl a,λx c e=>(f2 b a).2.2.2.2.1 x c (B.sub x c e),λp hp=>?_⟩
  ·have Z:p∈X.pn++pins\/p=(D,o):=by
    rcases Yz.mp hp with z | z
    ·cases z
    ·rcases Yz.mp z with z | z
     ·exact .inl z
     ·exact .inr (YA.mp z)
   rcases Z with z | z
   ·exact(f2 b a).2.2.2.2.2 p z
   ·subst z;exact Nat.ne_of_gt (Y b a)
 obtain⟨W,⟨m0,w0⟩,turn⟩:=w2
 have loop:∀ tk,codeAny (model X.prog X.w) X.A (.compLoop (.ListComp elt [⟨tg,iter,ifs,0⟩] scope pos) 0 (.ref it) (.ref D) Xc.env) (RR (.ref D) C) {P with heap:=U,toks:=tk}:=by
  intro tk
  refine ar (E':=λ_ _=>False)
   (λn s'=>∃(i:Nat)(σ':St)(H':Hp)(ys:List V)(I:List Value)(k:Nat),Inv Xc (X.pn++pins) σ' H' s'/\tn i s'.heap/\(∀ b∈L,H' b=none)/\H' D=none/\s'.heap.get? D=some {cls:=.type "list",data:=.seq I.toArray k}/\
    Vals ys I/\ys.length<=sizeLine/\W i n σ' H' ys) (λ_ _ z=>z.elim) ?_ m0
   ⟨0,cap σ,H2,[],[],0,I0 tk,T.keep _ _ _ st2 λb _ o e=>Q b o e,λb a=>(f2 b a).1,hDn,hacc,.nil,YV _,w0⟩
  rintro n s3 ⟨i,σ3,H3,ys,I,k,I3,st3,fr3,hD3,o3,rv3,hz3,w3⟩
  have I3':=I3.pins_of λp hp=>by
   have Z:p∈X.pn++pins\/p=(D,{cls:=.type "list",data:=.seq I.toArray k}):=by
    rcases Yz.mp hp with z | z
    ·exact .inl z
    ·exact .inr (YA.mp z)
   rcases Z with z | z
   ·exact I3.pin p (by simpa[Xc,cxB]using z)
   ·subst z;refine⟨o3,hD3,hDC,λz=>?_,(λv z=>by cases z)⟩
    ·obtain⟨_,o,ho,_⟩:=f.stack.mem z;exact Qo (lt2 _ _ ho) (YL _)
  rcases turn i n σ3 H3 ys w3 with⟨stop,qn⟩|⟨go,hlt,N,hN,step⟩
  ·refine thn (T.done Xc rfl rfl rfl hc i _ s3 σ3 H3 _ I3' (fpc fr3) st3 stop) λr s4 zz1=>?_;obtain⟨hr,I4⟩:=zz1;subst hr;have pD:=I4.pin (D,{cls:=.type "list",data:=.seq I.toArray k}) (by simp);obtain⟨m4,hn4,_⟩:=I4.loc;obtain⟨oC,es,ep,eC,dC,rC⟩:=id hn4;have hD4:=hD3;have hC4:=I4.free;have O:∀ b u,H3 b=some u->upd H3 D (.lst ys) b=some u:=λb u e=>by rw[A7 (EE e hD4)];exact e
   have un:Un (frs X.stack) L H2 (upd H3 D (.lst ys)) P.heap s4.heap:=by
    have u:=I4.base;refine⟨u.keep,u.slot,λb o e n hx=>?_,u.there,λb xs e=>O _ _ (u.tups b xs e),λb o v e=>O _ _ (u.frzs b o v e),λb ps e=>?_⟩
    ·rw[A7 (Ys (lt2 b o e))];exact u.free b o e n hx
    ·obtain⟨more,q⟩:=u.tbls b ps e;exact⟨more,O _ _ q⟩
   have hok:HOk X.prog X.w (upd H3 D (.lst ys)) s4.heap:=λb u e=>by
    by_cases a:b=D
    ·subst a;rw[BJ]at e;cases e;exact⟨hz3,I,k,rv3,pD.1⟩
    ·rw[A7 a]at e;exact(I4.hok b u e).stay (λ_ _ _ q=>q) (λc q=>O _ _ q) λc xs q=>O _ _ q
   have I5:=f.call' I4.os un hok I4.bare λb a=>⟨(f2 b a).2.2.2.1,(f2 b a).2.1,(f2 b a).2.2.2.2.1,(f2 b a).2.2.2.2.2⟩;refine fin D C s4 H3 ys oC hD4 qn I5 ⟨?_,?_,λz=>?_,.inr (Yt sz0 leC),λx c e=>?_,λp hp=>?_⟩ eC (λv z=>by rw[dC]at z;cases z) ⟨m4,hn4⟩
   ·rw[A7 (YW hDC)];exact hC4
   ·have:=f.lt;rw[F]at this;exact YW (R _ this)
   ·exact f.nofs (by rw[F];exact leC) z
   ·exact R _ (celt x c e)
   ·exact R _ (S p hp)
  ·refine thn (T.item Xc rfl rfl rfl hc i _ s3 σ3 H3 _ I3' (fpc fr3) st3 go) λr s4 zz2=>?_;obtain⟨u,hr,h4⟩:=zz2;subst hr;refine thn h4 λ_ s5 zz3=>?_;obtain⟨x,H5,I5,r5,y5,st5,fr5⟩:=zz3;have I5':=I5.pinned (fpc fr5) (T.obj _ _ st5);refine thn (hg C L P H2 _ s5 σ3 H5 x u _ I5' r5 (step x H5 y5)) λ_ s6 zz4=>?_;obtain⟨σ6,H6,I6,q6⟩:=zz4;refine thn (ht C L P H2 _ s6 σ6 H6 _ I6 q6) λok s7 zz5=>?_;obtain⟨H7,I7,q7⟩:=zz5
   have again:∀{σ8:St}{H8:Hp}{s8:Shared},Inv Xc (((X.pn++pins)++[(D,{cls:=.type "list",data:=.seq I.toArray k})])++Fh L s5.heap) σ8 H8 s8->
     tn (i+1) s8.heap/\(∀ b∈L,H8 b=none)/\s8.heap.get? D=some {cls:=.type "list",data:=.seq I.toArray k}/\H8 D=none:=λ{σ8 H8 s8}I8=>by
    refine⟨T.keep _ _ _ st5 λb a o e=>(I8.pin (b,o) (YM _ (YM _ (F8 a e)))).1,λb a=>?_,?_⟩
    ·obtain⟨o,e,d⟩:=T.obj _ _ st5 b a;exact(I8.pin (b,o) (YM _ (YM _ (F8 a e)))).2.1
    ·have:=I8.pin (D,{cls:=.type "list",data:=.seq I.toArray k}) (by simp);exact⟨this.1,this.2.1⟩
   cases ok with
   | false =>
    obtain⟨m',hm,w7⟩:=hN _ _ _ q7;obtain⟨t7,f7,o7,d7⟩:=again I7;exact⟨m',hm,i+1,σ6,H7,ys,I,k,I7.unpinned.unpinned,t7,f7,d7,o7,rv3,hz3,w7⟩
   | true =>
    refine thn (he C L P H2 _ s7 σ6 H7 _ I7 q7) λy s8 zz6=>?_;obtain⟨yv,H8,I8,r8,q8⟩:=zz6;obtain⟨m',hm,w8⟩:=hN _ _ _ q8;obtain⟨t8,f8,o8,d8⟩:=again I8;have hlen:=rv3.length;refine wpAny_list_append_plain ⟨k,o8⟩ (λh9 zz7 sb9=>?_) (by rw[Yn];lia);obtain⟨k9,l9⟩:=zz7
    have I9:Inv Xc (X.pn++pins) σ6 H8 {s8 with heap:=h9}:=by
     refine I8.unpinned.unpinned.turned (λb o a e=>(sb9.2 b a).trans e) d8 ?_ (.inr ?_) (λx c e=>?_) λp hp=>?_
     ·exact hDC
     ·show P.heap.objs.size<=D;rw[F];exact Yr _
     ·exact Ys (celt x c (B.sub x c e))
     ·exact Ys (S p (by simpa[Xc,cxB]using hp))
    refine⟨m',hm,i+1,σ6,H8,ys++[yv],I++[y],k9,I9,?_,f8,d8,?_,rv3.append (.cons r8 .nil),?_,w8⟩
    ·exact T.keep _ _ _ t8 λb a o e=>(sb9.2 b (Ys (Y b a))).trans e
    ·rw[l9];simp
    ·rw[Yj,List.length_singleton];lia
 exact codeAny_compStart_list (loop _) (T.self _ 0 _ _ _ (T.keep _ _ _ st2 λb _ o e=>Q b o e) (loop _))
theorem Ov(hc:X.calm=true)(hi:PI X tg iter d)(B:Blk X Nc scope cl cap)(w:∀ C a s H,PG (cxB X Nc scope cl C a s H) tg g)(n:∀ C a s H,PF (cxB X Nc scope cl C a s H) ifs tt)(i:∀ C a s H,PE (cxB X Nc scope cl C a s H) elt te)(hs:∀ x,foldedSetIterable iter X.env x=pure x:=by intro _;rfl):PE X (.ListComp elt [⟨tg,iter,ifs,0⟩] scope pos) (Hy d cap g tt te):=by
 intro pins s σ H Q I h;refine wpAny_comprehension_free rfl hs B.clos B.kind B.names (thn (hi pins s σ H _ I h) λv N h1=>thn h1 λu P h2=>?_);obtain⟨U,a,R,J,H2,e,E,T,c,z,t⟩:=h2;subst e;refine Ou hc B w n i E T c z t ?_;intro D C s' H' ys S A q p F O L ⟨m,G⟩;obtain⟨r,f,_,l,k,y⟩:=F;exact⟨m,G,λh' K=>⟨.ref D,_,p.turned (λb o j e=>(K.2 b j).trans e) r f l k y,rfl,q D A⟩⟩
theorem az(O:X.N.Nodup)(u:X.N[i]?=some x)(L:X.env.scope.names.lookup x=some .local)(t:swapsWith (.ListComp elt [⟨tg,iter,ifs,0⟩] scope pos) (some (.Name x pos')) a.line X.env=pure true)(hc:X.calm=true)(hi:PI X tg iter z)(B:Blk X Nc scope cl cap)(hg:∀ C c s H,PG (cxB X Nc scope cl C c s H) tg g)(S:∀ C c s H,PF (cxB X Nc scope cl C c s H) ifs tt)(P:∀ C c s H,PE (cxB X Nc scope cl C c s H) elt te)(hs:∀ x,foldedSetIterable iter X.env x=pure x:=by intro _;rfl):PS X (.Assign [.Name x pos'] (.ListComp elt [⟨tg,iter,ifs,0⟩] scope pos) a) (JT (Hy z cap g tt te) (Ct i)):=by
 intro pins s σ H D0 I h;rw[exec_Assign_Name_used _ _ _ _ t];refine Qp (wpAny_standAt (Qp ?_))
 refine Qp (wpAny_mono (wpAny_comprehension_free rfl hs B.clos B.kind B.names
  (thn (hi pins s σ H _ I h) λv s1 h1=>thn h1 λZ s2 h2=>?_)) (λ_ s' hq=>Qq (Qq hq)) λ_ _ e=>e)
 obtain⟨it,c,tn,J,H2,e,I2,T,n,f2,Y⟩:=h2;subst e;refine Ou hc B hg S P I2 T n f2 Y ?_;intro D C s' H' ys r hD q U F l Q ⟨m,hn⟩;obtain⟨E,w,k,A,y,K⟩:=F
 have Ip:Inv X (pins++Fh [C] s'.heap) σ (upd H' D (.lst ys)) s':=U.pinned (λb d=>by
  have e:b=C:=by simpa using d
  subst e
  exact⟨E,w,k,A,y,K⟩) λb d=>by
   have e:b=C:=by simpa using d
   subst e;exact⟨r,l,Q⟩
 refine wpAny_assign_Name (Hj Ip O u (.inl L) (v:=.ref D) rfl (λs3 G=>?_) (.inr L));have pC:=G.pin (C,r) (YM _ (YM _ (F8 (by simp) l)));obtain⟨oC',es,R,f,p,j⟩:=hn;rw[l]at f;cases f;refine⟨m,⟨r,es,R,pC.1,p,j⟩,λh' sb=>⟨_,_,G.unpinned.turned (λb o d e=>(sb.2 b d).trans e) E w A y K,q D hD⟩⟩
theorem ObjOk.at(x:ObjOk P w H h a o):∃ u,h.get? a=some u:=by
 cases o with
 | lst xs=>obtain⟨_,_,_,_,e⟩:=x;exact⟨_,e⟩
 | tup xs=>obtain⟨_,_,_,c,e,_⟩:=x;exact⟨_,e⟩
 | dK b|dT b=>obtain⟨_,_,_,_,o,_,_,e,_⟩:=x;exact⟨_,e⟩
 | set S n=>obtain⟨o,_,_,_,e,_⟩:=x;exact⟨_,e⟩
 | ins C dx fs=>obtain⟨_,_,_,e,_⟩:=x;exact⟨_,e⟩
 | own y=>obtain⟨_,e⟩:=x;exact⟨_,e⟩
 | xd fs=>obtain⟨_,⟨_,_,_,e,_⟩,_⟩:=x;exact⟨_,e⟩
 | rng lo hi=>obtain⟨_,_,_,e⟩:=x;exact⟨_,e⟩
 | frz c u=>obtain⟨e,_⟩:=x;exact⟨_,e⟩
 | tbl ps|met f y=>exact⟨_,(x)⟩
 | ext φ=>obtain⟨_,⟨_,e⟩,_⟩:=x;exact⟨_,e⟩
structure Fly(P:Program)(w:World)(outer:List Env)(H0:Hp)(s0:Shared)(H':Hp)(e C:Addr)(s':Shared):Prop where
 os:s'.os=s0.os
 bare:AllBare s'.gens
 un:Un (frs outer) [] H0 H' s0.heap s'.heap
 hok:HOk P w H' s'.heap
 fly:∃(B:Heap)(a0:Value),Heap.FlyingW B outer e (.ref C) a0 s'.heap/\∀ b,b∉frs outer->((∃ o,s0.heap.get? b=some o)\/H' b≠none)->∃ o,B.get? b=some o
 new:s0.heap.get? e=none
 free:H' e=none
noncomputable def CXe(P:Program)(w:World):CXT:=λouter H0 s0 E ev s'=>∃(e C:Addr)(H':Hp),ev=.ref e/\Fly P w outer H0 s0 H' e C s'/\E (.ref C) none H'
theorem Ow{B:Heap}(un:Un (frs outer) [] t H' i h1)(hok:HOk P w H' h1)(d:∀ b∈frs outer,H' b=none)(r:∀ b∈frs outer,∃ o,h1.get? b=some o/\∀ vs,o.data≠.fields vs)(x:B.StaysIn h1)(m:∀ b,b∉frs outer->((∃ o,i.get? b=some o)\/H' b≠none)->∃ o,B.get? b=some o)(st:B.StaysIn h')(up:h1.UpToSlots h'):Un (frs outer) [] t H' i h'/\HOk P w H' h':=by
 have exact_:∀ b o,b∉frs outer->((∃ o,i.get? b=some o)\/H' b≠none)->h1.get? b=some o->h'.get? b=some o:=λb o c k e=>by
  obtain⟨o',s⟩:=m b c k;have:=x b o' s;rw[e]at this;cases this;exact st b _ s
 refine⟨⟨λb o q n c g=>exact_ b o c (.inl ⟨o,q⟩) (un.keep b o q n c g),λb o q n c g=>?_,un.free,λb o q g=>?_,un.tups,un.frzs,un.tbls⟩,λa o e=>?_⟩
 ·obtain⟨A,j⟩:=un.slot b o q n c g;obtain⟨y,h,l⟩:=r b c;rw[j]at h;cases h;obtain⟨f,p⟩:=up b _ j l;exact⟨f,p⟩
 ·obtain⟨o',j⟩:=un.there b o q g;by_cases c:b∈frs outer
  ·obtain⟨y,h,l⟩:=r b c;obtain⟨f,p⟩:=up b _ h l;exact⟨_,p⟩
  ·exact⟨o',exact_ b o' c (.inl ⟨o,q⟩) j⟩
 ·refine(hok a o e).stay (λb u c q=>?_) (λ_ q=>q) λ_ _ q=>q
  have v:H' b≠none:=by
   rcases c with rfl | c
   ·rw[e];simp
   ·rw[c];simp
  exact exact_ b u (λz=>v (d b z)) (.inr v) q
theorem Fly.inv{σ:St}(I:Inv X pins σ H s)(F:Fly X.prog X.w X.stack H s H' e C s')(f:Heap.FlyingW B X.stack e (.ref C) g s'.heap)(d:∀ b,b∉frs X.stack->((∃ o,s.heap.get? b=some o)\/H' b≠none)->∃ o,B.get? b=some o)(st:B.StaysIn h')(up:s'.heap.UpToSlots h'):Inv X pins σ H' {s' with heap:=h'}:=by
 have a:∀ b∈frs X.stack,H' b=none:=λb c=>by
  obtain⟨_,o,h,_⟩:=I.stack.mem c;exact F.un.free b o h (I.stkFree b c) (by simp)
 obtain⟨u,k⟩:=Ow F.un F.hok a (λb c=>(f.2.2.1.mem c).2) f.1 d st up;exact I.call' F.os u k F.bare (λb z=>Qo z (by simp))
theorem aA{K:PySem.W.Frag}:
  Zr (CXe P w) (Bq (CXe P w) P w K mg base N qual scope f cd A outer s H E) E:=by
 intro pins σ Hc r ev s' I ⟨e,C,H',n,F,q⟩;subst n;obtain⟨B,m,l,h⟩:=F.fly;refine wpAny_leaves_onW I.ok.frames rfl l λh' g up=>?_;have c:=F.inv I l h g.1 up;refine⟨e,C,H',rfl,⟨c.os,c.bare,c.base,c.hok,⟨B,m,g,λb p d=>?_⟩,?_,F.free⟩,q⟩
 ·have j:b∉frs (Bq (CXe P w) P w K mg base N qual scope f cd A outer s H E).stack:=λz=>by
   rcases Yo.mp (c.stkSub b z)with a | a
   ·rcases d with⟨o,k⟩| i
    ·have h1:=Qs k;have h2:=I.ok.above;rw[a]at h1;exact Qo (Yu h1 h2) (YL _)
    ·rw[a]at i;exact i c.free
   ·exact p a
  refine h b j ?_;rcases d with⟨o,k⟩| i
  ·exact .inl (I.base.there b o k (by intro z;cases z))
  ·exact .inr i
 ·cases z:s.heap.get? e with
  | none=>rfl
  | some o =>
   obtain⟨o',a⟩:=I.base.there e o z (by intro z;cases z);rw[F.new]at a;cases a
theorem aB{K:PySem.W.Frag}{σ:St}(I:Inv (Bq (CXe P w) P w K mg base N qual scope f cd A outer s H E) pins σ Hc g)(i:Heap.MadeExcOf g.heap h1 e (.ref C) vs)(q:E (.ref C) none Hc):
  (Bq (CXe P w) P w K mg base N qual scope f cd A outer s H E).xe (.ref e) {g with heap:=h1}:=by
 have p:∀ env∈(Bq (CXe P w) P w K mg base N qual scope f cd A outer s H E).stack,∀ b,env.frame=some b->b∈frs (Bq (CXe P w) P w K mg base N qual scope f cd A outer s H E).stack:=λenv B b j=>List.mem_filterMap.mpr ⟨env,B,j⟩;refine wpAny_leaves_madeW I.ok.frames rfl (λb o z=>PySem.W.of_hideAll _ z) (PySem.W.funFrames_hide I.stack p) i λh' t x y v up=>?_
 have m:∀ b,b∉frs (Bq (CXe P w) P w K mg base N qual scope f cd A outer s H E).stack->((∃ o,g.heap.get? b=some o)\/Hc b≠none)->∃ o,(PySem.W.hideAll g.heap (frs (Bq (CXe P w) P w K mg base N qual scope f cd A outer s H E).stack)).get? b=some o:=λb j c=>by
  have:∃ o,g.heap.get? b=some o:=by
   rcases c with z | z
   ·exact z
   ·cases a:Hc b with
    | none=>exact Qo a z
    | some o=>exact(I.hok b o a).at
  obtain⟨o,h⟩:=this;exact⟨o,PySem.W.hideAll_get _ h j⟩
 obtain⟨u,k⟩:=Ow (Un.kept i.keeps) (I.hok.kept i.keeps) I.stkFree (λb j=>by
  obtain⟨_,o,h,d⟩:=I.stack.mem j;exact⟨o,i.keeps _ _ h,d⟩) (λb o z=>i.keeps _ _ (PySem.W.of_hideAll _ z)) m x.1 up
 have l:=I.call' (s':={g with heap:=h'}) rfl u k I.bare (λb z=>Qo z (by simp))
 have en:Hc e=none:=by
  cases z:Hc e with
  | none=>rfl
  | some o =>
   obtain⟨o',a⟩:=(I.hok e o z).at
   rw[i.new]at a;cases a
 refine⟨e,C,Hc,rfl,⟨l.os,l.bare,l.base,l.hok,⟨_,_,x,λb j c=>?_⟩,?_,en⟩,q⟩
 ·have r:b∉frs (Bq (CXe P w) P w K mg base N qual scope f cd A outer s H E).stack:=λz=>by
   rcases Yo.mp (l.stkSub b z)with a | a
   ·rcases c with⟨o,h⟩| n
    ·have h1:=Qs h;have h2:=I.ok.above;rw[a]at h1;exact Qo (Yu h1 h2) (YL _)
    ·rw[a]at n;exact n l.free
   ·exact j a
  refine m b r ?_;rcases c with⟨o,h⟩| n
  ·exact .inl (I.base.there b o h (by intro z;cases z))
  ·exact .inr n
 ·cases z:s.heap.get? e with
  | none=>rfl
  | some o =>
   obtain⟨o',a⟩:=I.base.there e o z (by intro z;cases z);rw[i.new]at a;cases a
theorem aC{K:PySem.W.Frag}(X:K.In h)(q:PySem.W.excIn K C c a=true):
  ∃ d N nm q bs hdct sn sub ab col dd k0 k1 k2 k3 k5 i,h.get? C=some (excClassObj nm q C N bs d hdct sn sub ab col dd k0 k1 k2 k3 k5 a)/\h.Ns N i/\i "__init__"=none/\OwnTail h c d:=by
 unfold PySem.W.excIn at q;split at q
 ·rename_i dd cd g o;split at q
  ·rename_i p d k0 k1 k2 k3 n k5 m hs;simp only[YF,beq_iff_eq,Bool.not_eq_true']at q;obtain⟨⟨⟨⟨⟨rfl,rfl⟩,b⟩,k⟩,hok⟩,e⟩:=q;obtain⟨nm,bs,mro,ns,qn,hd,sn,sub,ab,col,j⟩:=cd;subst m b
   have f:g=#[k0,k1,k2,k3,some (.builtin n),k5]:=by
    obtain⟨l⟩:=g;simp only at hs;rw[hs]
   subst f;exact⟨d,ns,nm,qn,bs,hd,sn,sub,ab,col,dd,k0,k1,k2,k3,k5,_,X _ _ o,.of_isNs (PySem.W.isNs_of_in X hok),PySem.W.nsMap_none_of_in X hok e,PySem.W.tail_of_in X k⟩
  ·cases q
 ·cases q
noncomputable def aD(C:Addr)(E:XK)(t:TA):TS:=λ_ σ H=>t σ H λvs H1=>vs.length<=sizeLine/\E (.ref C) none H1
theorem aE{K:PySem.W.Frag}{F cpos pos:Pos}{a:Expr}{rest:List Expr}{t:TA}(u:Gl (Bq (CXe P w) P w K mg base N qual scope f cd A outer s H E) x)(p:mg x=some (.ref C))(q:PySem.W.excIn K C l b=true)(FB:ExcBaseFacts B b initId l)(z:PA (Bq (CXe P w) P w K mg base N qual scope f cd A outer s H E) (a::rest) t)(k:starEach (a::rest) (Bq (CXe P w) P w K mg base N qual scope f cd A outer s H E).env=(false,eval a (Bq (CXe P w) P w K mg base N qual scope f cd A outer s H E).env)::starEach rest (Bq (CXe P w) P w K mg base N qual scope f cd A outer s H E).env:=by rfl)(hplain:(backTo cpos (starEach rest (Bq (CXe P w) P w K mg base N qual scope f cd A outer s H E).env)).any (·.1)=false:=by rfl)(hd:(x==("__debug__":Str))=false:=by decide):
  PS (Bq (CXe P w) P w K mg base N qual scope f cd A outer s H E) (.Raise (some (.Call (.Name x F) (a::rest) [] cpos)) none pos) (aD C E t):=by
 intro pins m σ Hc D I h;obtain⟨tl,r,nm,v,bs,hdct,sn,sub,ab,col,dd,k0,k1,k2,k3,k5,G,y,n,g,T⟩:=aC I.ok.mod.kin q
 refine wpAny_Raise_call_subT (nm:=nm) (q:=v) (N:=r) (bs:=bs) (hdct:=hdct) (sn:=sn) (sub:=sub) (ab:=ab) (col:=col) (dd:=dd) (k0:=k0) (k1:=k1) (k2:=k2) (k3:=k3) (k5:=k5)
  FB (T.hasType FB.hasBase) (I.ok.hd rfl) (by rw[k];show(false||(backTo cpos (starEach rest _)).any (·.1))=false;rw[hplain];rfl) g (F7 I u p ⟨rfl,?_⟩ hd)
 have c:=z cpos pins m σ Hc _ I h;rw[k]at c ⊢;refine Calls.evalArgs_plain (thn c λo L i=>?_);obtain⟨J,H1,d,r1,O,q1⟩:=i;exact⟨rfl,by have:=r1.length;show o.length<=_;lia,d.bk _ _ y,n.keeps d.bk,T.keeps d.bk,λh' e j=>aB d j q1⟩
theorem Inv.track{σ:St}(I:Inv X pins σ H s)(i:H e=none)(l:e≠X.env.locals)(hc:∀ x c,X.env.cells.lookup x=some c->c≠e)(k:∀ p∈X.pn++pins,p.1≠e)(h:X.s₀.heap.get? e=none)(ok:ObjOk X.prog X.w (upd H e o) s.heap e o):Inv X pins σ (upd H e o) s:=by
 have a:∀ b u,H b=some u->upd H e o b=some u:=λb u z=>by rw[A7 (EE z i)];exact z
 refine⟨I.ok,I.os,I.bare,⟨I.base.keep,I.base.slot,λb f z n j=>?_,I.base.there,λb xs z=>a _ _ (I.base.tups b xs z),λb f u z=>a _ _ (I.base.frzs b f u z),λb ps z=>?_⟩,I.loc,I.cell,?_,λx c z=>?_,λp z=>?_,λb u z=>?_,I.len⟩
 ·rw[A7 (λq=>by rw[q,h]at z;cases z)];exact I.base.free b f z n j
 ·obtain⟨d,q⟩:=I.base.tbls b ps z;exact⟨d,a _ _ q⟩
 ·rw[A7 (YW l)];exact I.free
 ·rw[A7 (hc x c z)];exact I.freeC x c z
 ·obtain⟨q1,q2,q3⟩:=I.pin p z;exact⟨q1,by rw[A7 (k p z)];exact q2,q3⟩
 ·by_cases g:b=e
  ·subst g;rw[BJ]at z;cases z;exact ok
  ·rw[A7 g]at z;exact(I.hok b u z).stay (λ_ _ _ q=>q) (λc q=>a _ _ q) λc xs q=>a _ _ q
noncomputable def aF(e C:Addr):Heap->Prop:=λh=>∃ ox,h.get? e=some ox/\ox.cls=.ref C
noncomputable def Kk(CX:CXT)(X:Cx)(Eσ:St->XK):Prop:=∀(pins:List (Addr×Obj))(σ:St)(H:Hp)(s:Shared)(e:Value)(s':Shared),Inv X pins σ H s->CX X.stack H s (Eσ σ) e s'->X.xe e s'
noncomputable def Ox(sp:Sp)(dvs:List V)(Eσ:St->XK)(t:TA):TE:=λσ H Q=>t σ H λvs H1=>sp (vs++dvs) H1 Q (Eσ σ)
theorem aG{p pos:Pos}(F:FnOk X.prog X.w X.K X.mg X.base CX k f fd ps sp)(l:Room k X.A)(E:Gl X x)(B:X.mg x=some (.ref f))(m:PySem.W.keepIn X.K (.ref f)=true)(v:Binds X.K fd ps ds)(hd:Vals dvs ds)(D:Kk CX X Eσ)(n:PA X (e::es) t)(i:(x==("__debug__":Str))=false:=by decide)(o:starEach (e::es) X.env=(false,eval e X.env)::starEach es X.env:=by rfl)(d:(backTo pos (starEach es X.env)).any (·.1)=false:=by rfl):
  PE X (.Call (.Name x p) (e::es) [] pos) (Ox sp dvs Eσ t):=by
 intro pins s σ H Q I h;refine wpAny_Call_Name_kw (F7 I E B ?_ i);refine PySem.W.callWith_K I.ok.mod.kin m (thn (n pos pins s σ H _ I h) λc g⟨y,H1,a,r,q⟩=>⟨a.kIn,?_⟩) o d;have j:=r.append hd;have hl:(c++ds).length=ps.length:=by rw[<- j.length];exact F.len _ _ _ _ q
 refine wpAny_call (codeAny_mono (F.run X.A X.stack g H1 ⟨c,[]⟩ (c++ds) (y++dvs) Q (Eσ σ) l a.env0 (v g c a.kIn hl) j q) λr s' b=>?_);cases r with
 | error e=>exact D pins σ H1 g e s' a b
 | ok z =>
  cases z with
  | ret u=>exact a.after b
  | next|brk|cont=>exact Qi b
end L2
namespace L3
open PySem PySem.Spec PyProof.Rows L2
abbrev St:=L2.St
inductive W where
 | non | bl (b:Bool)| int (i:Int)| str (x:Str)| tup (xs:List W)| rol (xs:List W)| ref (a:Addr)
inductive HW where
 | lst (xs:List W)| exc (C:Addr)| ins (C:Addr) (fs:List (Str×W))| dct (kvs:List (Key×W))
abbrev Sw:=List (Option W)
abbrev Hw:=Addr->Option HW
noncomputable def put(H:Hw)(a:Addr)(o:HW):Hw:=λb=>if b=a then some o else H b
theorem Ak:put H a o a=some o:=by unfold put;rw[if_pos rfl]
theorem Az(h:b≠a):put H a o b=H b:=by unfold put;rw[if_neg h]
section
variable (K:PySem.W.Frag)
noncomputable def RoL(H:Hp)(a:Addr)(xs:List V):Prop:=(∃ o,H a=some (.frz o (.lst xs)))\/
 ∃(o:Obj)(its:Array Value)(n:Nat),K.lookup a=some o/\o.cls=.type "list"/\o.dict=none/\o.data=.seq its n/\its.size<=sizeLine/\Vals xs its.toList
theorem RoL.sq{K:PySem.W.Frag}(h:RoL K H a xs):SqL K H a xs:=by
 rcases h with⟨o,h⟩| h
 ·exact .inl (.inr ⟨o,h⟩)
 ·exact .inr h
mutual
inductive Tr(H:Hp):V->W->Prop where
 | non:Tr H .non .non
 | bl (b:Bool):Tr H (.bl b) (.bl b)
 | int (i:Int):Tr H (.int i) (.int i)
 | str (x:Str):Tr H (.str x) (.str x)
 | tup {a:Addr} {vs:List V} {ws:List W}:SqT K H a vs->TrL H vs ws->Tr H (.ref a) (.tup ws)
 | rol {a:Addr} {vs:List V} {ws:List W}:RoL K H a vs->TrL H vs ws->Tr H (.ref a) (.rol ws)
 | ref (a:Addr):Tr H (.ref a) (.ref a)
inductive TrL(H:Hp):List V->List W->Prop where
 | nil:TrL H [] []
 | cons {v:V} {w:W} {vs:List V} {ws:List W}:Tr H v w->TrL H vs ws->TrL H (v::vs) (w::ws)
end
inductive TrP{α:Type}(H:Hp):List (α×V)->List (α×W)->Prop where
 | nil:TrP H [] []
 | cons {f:α} {v:V} {w:W} {vs:List (α×V)} {ws:List (α×W)}:Tr K H v w->TrP H vs ws->TrP H ((f,v)::vs) ((f,w)::ws)
structure Mono(H H':Hp):Prop where
 tup:∀ a vs,SqT K H a vs->SqT K H' a vs
 rol:∀ a vs,RoL K H a vs->RoL K H' a vs
noncomputable def RelO2(H:Hp)(a:Addr):HW->Prop
 | .lst ws=>∃ vs,H a=some (.lst vs)/\TrL K H vs ws
 | .exc C=>H a=some (.ext (aF a C))
 | .ins C ws=>∃ dx vs,H a=some (.ins C dx vs)/\TrP K H vs ws
 | .dct ws=>∃ vs,H a=some (.dK vs)/\TrP K H vs ws
def RelH(H:Hp)(G:Hw):Prop:=∀ a o,G a=some o->RelO2 K H a o
structure TrSt(H:Hp)(σ:St)(ω:Sw):Prop where
 len:σ.length=ω.length
 get:∀(i:Nat)(w:W),ω[i]?=some (some w)->∃ v,σ[i]?=some (some v)/\Tr K H v w
end
section
variable {K:PySem.W.Frag}{H H':Hp}
theorem Mono.refl:Mono K H H:=⟨λ_ _ h=>h,λ_ _ h=>h⟩
theorem Mono.trans(m:Mono K H H')(c:Mono K H' H2):Mono K H H2:=⟨λa b h=>c.tup a b (m.tup a b h),λa b h=>c.rol a b (m.rol a b h)⟩
mutual
theorem Tr.mono(m:Mono K H H'){v:V}{w:W}(t:Tr K H v w):Tr K H' v w:=by
 cases t with
 | non=>exact .non
 | bl b=>exact .bl b
 | int i=>exact .int i
 | str x=>exact .str x
 | tup h l=>exact .tup (m.tup _ _ h) (TrL.mono m l)
 | rol h l=>exact .rol (m.rol _ _ h) (TrL.mono m l)
 | ref a=>exact .ref a
theorem TrL.mono(m:Mono K H H'){vs:List V}{a:List W}(t:TrL K H vs a):TrL K H' vs a:=by
 cases t with
 | nil=>exact .nil
 | cons h l=>exact .cons (Tr.mono m h) (TrL.mono m l)
end
theorem TrP.mono{α:Type}(m:Mono K H H'):∀{vs:List (α×V)}{a:List (α×W)},TrP K H vs a->TrP K H' vs a:=by intro vs a h;induction h with | nil=>exact .nil | cons r _ ih=>exact .cons (r.mono m) ih
theorem RelO2.mono(m:Mono K H H')(e:H' a=H a):∀{o:HW},RelO2 K H a o->RelO2 K H' a o
 | .lst c,⟨b,z,t⟩=>⟨b,e.trans z,t.mono m⟩
 | .exc C,z=>(e.trans z:H' a=_)
 | .ins C c,⟨dx,b,z,t⟩=>⟨dx,b,e.trans z,t.mono m⟩
 | .dct c,⟨b,z,t⟩=>⟨b,e.trans z,t.mono m⟩
theorem RelO2.some:∀{o:HW},RelO2 K H a o->H a≠none
 | .lst b,⟨c,z,t⟩,q=>by rw[q]at z;cases z
 | .exc C,z,q=>by rw[show H a=_ from z]at q;cases q
 | .ins C b,⟨dx,c,z,t⟩,q|.dct b,⟨c,z,t⟩,q=>by rw[q]at z;cases z
theorem TrSt.mono(m:Mono K H H')(t:TrSt K H σ ω):TrSt K H' σ ω:=⟨t.len,λi w e=>let⟨v,e',r⟩:=t.get i w e;⟨v,e',r.mono m⟩⟩
theorem TrSt.set(t:TrSt K H σ ω)(i:Nat)(r:Tr K H v w):TrSt K H (σ.set i (some v)) (ω.set i (some w)):=by
 refine⟨by simp[t.len],λj u e=>?_⟩;by_cases h:i=j
 ·subst h;by_cases hl:i < ω.length
  ·rw[List.getElem?_set_self hl]at e;cases e;exact⟨v,List.getElem?_set_self (by rw[t.len];exact hl),r⟩
  ·rw[Qf (by simp;lia)]at e;cases e
 ·rw[List.getElem?_set_ne h]at e;obtain⟨a,b,r'⟩:=t.get j u e;exact⟨a,by rw[List.getElem?_set_ne h];exact b,r'⟩
theorem TrL.length:∀{vs:List V}{a:List W},TrL K H vs a->vs.length=a.length
 | _,_,.nil=>rfl
 | _,_,.cons _ t=>Ql (·+1) t.length
theorem TrL.get:∀{vs:List V}{a:List W}{i:Nat}{w:W},TrL K H vs a->a[i]?=some w->∃ v,vs[i]?=some v/\Tr K H v w
 | _,_,_,_,.nil,e=>by simp at e
 | _,_,0,_,.cons r _,e=>by simp at e;subst e;exact⟨_,rfl,r⟩
 | _,_,i+1,w,.cons _ t,e=>by
  obtain⟨v,h1,h2⟩:=TrL.get t (by simpa using e);exact⟨v,by simpa using h1,h2⟩
theorem TrL.get':∀{vs:List V}{a:List W}{i:Nat}{v:V},TrL K H vs a->vs[i]?=some v->∃ w,a[i]?=some w/\Tr K H v w
 | _,_,_,_,.nil,e=>by simp at e
 | _,_,0,_,.cons r _,e=>by simp at e;subst e;exact⟨_,rfl,r⟩
 | _,_,i+1,v,.cons _ t,e=>by
  obtain⟨w,h1,h2⟩:=TrL.get' t (by simpa using e);exact⟨w,by simpa using h1,h2⟩
theorem TrL.append:∀{vs b:List V}{c a:List W},TrL K H vs c->TrL K H b a->TrL K H (vs++b) (c++a)
 | _,_,_,_,.nil,s=>s
 | _,_,_,_,.cons r t,s=>.cons r (t.append s)
theorem TrL.set(r:Tr K H v w):∀{vs:List V}{a:List W}(i:Nat),TrL K H vs a->TrL K H (vs.set i v) (a.set i w)
 | _,_,_,.nil=>.nil
 | _,_,0,.cons _ t=>.cons r t
 | _,_,i+1,.cons q t=>.cons q (TrL.set r i t)
theorem TrL.take:∀{vs:List V}{a:List W}(n:Nat),TrL K H vs a->TrL K H (vs.take n) (a.take n)
 | _,_,0,_|_,_,_+1,.nil=>.nil
 | _,_,n+1,.cons r t=>.cons r (TrL.take n t)
theorem TrL.drop:∀{vs:List V}{a:List W}(n:Nat),TrL K H vs a->TrL K H (vs.drop n) (a.drop n)
 | _,_,0,r=>r
 | _,_,_+1,.nil=>.nil
 | _,_,n+1,.cons _ t=>TrL.drop n t
theorem Kl(h:SqT K H a vs)(f:∀ xs,H b≠some (.tup xs))(d:∀ c xs,H b≠some (.frz c (.tup xs))):SqT K (upd H b o) a vs:=by
 rcases h with(h |⟨c,h⟩)| h
 ·exact .inl (.inl (by rw[A7 (λe=>f _ (e▸h))];exact h))
 ·exact .inl (.inr ⟨c,by rw[A7 (λe=>d _ _ (e▸h))];exact h⟩)
 ·exact .inr h
theorem Km(h:RoL K H a vs)(d:∀ c u,H b≠some (.frz c u)):RoL K (upd H b o) a vs:=by
 rcases h with⟨c,h⟩| h
 ·exact .inl ⟨c,by rw[A7 (λe=>d _ _ (e▸h))];exact h⟩
 ·exact .inr h
theorem Mono.new(b:H p=none)(o:HO):Mono K H (upd H p o):=
 ⟨λa c h=>Kl h (λxs e=>by rw[b]at e;cases e) (λd xs e=>by rw[b]at e;cases e),λa c h=>Km h (λd xs e=>by rw[b]at e;cases e)⟩
theorem Mono.lst(b:H p=some (.lst xs))(o:HO):Mono K H (upd H p o):=
 ⟨λa c h=>Kl h (λxs e=>by rw[b]at e;cases e) (λd xs e=>by rw[b]at e;cases e),λa c h=>Km h (λd xs e=>by rw[b]at e;cases e)⟩
theorem Mono.was(c:H p=some o')(o:HO)(h1:∀ xs,o'≠.tup xs)(h2:∀ b u,o'≠.frz b u):Mono K H (upd H p o):=
 ⟨λa d h=>Kl h (λxs e=>by rw[c]at e;exact h1 _ (YE e)) (λb xs e=>by rw[c]at e;exact h2 _ _ (YE e)),λa d h=>Km h (λb xs e=>by rw[c]at e;exact h2 _ _ (YE e))⟩
theorem RelH.no(r:RelH K H G)(a:H p=none):G p=none:=by
 cases e:G p with
 | none=>rfl
 | some o=>exact Qo a (r p o e).some
theorem RelH.mono0(r:RelH K H G)(b:H p=none):RelH K (upd H p o) G:=λa u e=>
 have q:=r a u e
 q.mono (Mono.new b o) (A7 (by rintro rfl;exact q.some b))
theorem RelH.laid(r:RelH K H G)(m:Mono K H (upd H p o))(t:RelO2 K (upd H p o) p u):RelH K (upd H p o) (put G p u):=λa b e=>by
 by_cases h:a=p
 ·subst h;rw[Ak]at e;cases e;exact t
 ·rw[Az h]at e;exact(r a _ e).mono m (A7 h)
theorem RelH.new(r:RelH K H G)(b:H p=none)(t:TrL K H vs a):RelH K (upd H p (.lst vs)) (put G p (.lst a)):=
 r.laid (Mono.new b _) ⟨vs,BJ,t.mono (Mono.new b _)⟩
theorem RelH.chg(r:RelH K H G)(b:H p=some (.lst xs))(t:TrL K H vs a):RelH K (upd H p (.lst vs)) (put G p (.lst a)):=
 r.laid (Mono.lst b _) ⟨vs,BJ,t.mono (Mono.lst b _)⟩
abbrev Kw:=W->Hw->Prop
abbrev GE:=Sw->Hw->Kw->Prop
abbrev GT:=Sw->Hw->(Bool->Hw->Prop)->Prop
abbrev GA:=Sw->Hw->(List W->Hw->Prop)->Prop
structure Ew where
 nx:Sw->Hw->Prop
 rt:Kw
 bk:Sw->Hw->Prop
 ct:Sw->Hw->Prop
abbrev GS:=Ew->Sw->Hw->Prop
abbrev GG:=W->Sw->Hw->(Sw->Hw->Prop)->Prop
noncomputable def GE.M(g:GE):Prop:=∀ ω G(Q Q':Kw),(∀ w G',Q w G'->Q' w G')->g ω G Q->g ω G Q'
noncomputable def GT.M(g:GT):Prop:=∀ ω G(Q Q':Bool->Hw->Prop),(∀ w G',Q w G'->Q' w G')->g ω G Q->g ω G Q'
noncomputable def GA.M(g:GA):Prop:=∀ ω G(Q Q':List W->Hw->Prop),(∀ w G',Q w G'->Q' w G')->g ω G Q->g ω G Q'
noncomputable def GS.M(g:GS):Prop:=∀ ω G(D D':Ew),(∀ a b,D.nx a b->D'.nx a b)->(∀ a b,D.rt a b->D'.rt a b)->(∀ a b,D.bk a b->D'.bk a b)->(∀ a b,D.ct a b->D'.ct a b)->g D ω G->g D' ω G
noncomputable def GG.M(g:GG):Prop:=∀ w ω G(Q Q':Sw->Hw->Prop),(∀ a b,Q a b->Q' a b)->g w ω G Q->g w ω G Q'
noncomputable def dn(K:PySem.W.Frag)(H:Hp)(Q:VK):Kw:=λw G=>∀ v H',Mono K H H'->Tr K H' v w->RelH K H' G->Q v H'
noncomputable def dnT(K:PySem.W.Frag)(H:Hp)(Q:Bool->Hp->Prop):Bool->Hw->Prop:=λb G=>∀ H',Mono K H H'->RelH K H' G->Q b H'
noncomputable def dnA(K:PySem.W.Frag)(H:Hp)(Q:List V->Hp->Prop):List W->Hw->Prop:=λws G=>∀ vs H',Mono K H H'->TrL K H' vs ws->RelH K H' G->Q vs H'
noncomputable def dnS(K:PySem.W.Frag)(H:Hp)(Q:St->Hp->Prop):Sw->Hw->Prop:=λω G=>∀ σ H',Mono K H H'->TrSt K H' σ ω->RelH K H' G->Q σ H'
noncomputable def dnD(K:PySem.W.Frag)(H:Hp)(D:Fg):Ew:=⟨dnS K H D.nx,dn K H D.rt,dnS K H D.bk,dnS K H D.ct⟩
theorem Cf(m:Mono K H H')(q:dn K H Q w G):dn K H' Q w G:=λv H2 a t r=>q v H2 (m.trans a) t r
theorem Oy(m:Mono K H H')(q:dnT K H Q w G):dnT K H' Q w G:=λH2 a r=>q H2 (m.trans a) r
theorem aH(m:Mono K H H')(q:dnS K H Q w G):dnS K H' Q w G:=λv H2 a t r=>q v H2 (m.trans a) t r
noncomputable def up(K:PySem.W.Frag)(g:GE):TE:=λσ H Q=>∃ ω G,TrSt K H σ ω/\RelH K H G/\g ω G (dn K H Q)
noncomputable def upT(K:PySem.W.Frag)(g:GT):TT:=λσ H Q=>∃ ω G,TrSt K H σ ω/\RelH K H G/\g ω G (dnT K H Q)
noncomputable def upA(K:PySem.W.Frag)(g:GA):TA:=λσ H Q=>∃ ω G,TrSt K H σ ω/\RelH K H G/\g ω G (dnA K H Q)
noncomputable def upS(K:PySem.W.Frag)(B:Hp)(g:GS):TS:=λD σ H=>∃ ω G,TrSt K H σ ω/\RelH K H G/\Mono K B H/\g (dnD K B D) ω G
theorem A8(h:PE X e t)(i:∀ σ H Q,t' σ H Q->t σ H Q):PE X e t':=λpins s σ H Q I q=>h pins s σ H Q I (i σ H Q q)
theorem Hz(h:PT X e t)(i:∀ σ H Q,t' σ H Q->t σ H Q):PT X e t':=λpins s σ H Q I q=>h pins s σ H Q I (i σ H Q q)
theorem Oz(h:PA X e t)(i:∀ σ H Q,t' σ H Q->t σ H Q):PA X e t':=λpos pins s σ H Q I q=>h pos pins s σ H Q I (i σ H Q q)
theorem CN(h:PS X e t)(i:∀ D σ H,t' D σ H->t D σ H):PS X e t':=λpins s σ H D I q=>h pins s σ H D I (i D σ H q)
theorem Kn(h:PSs X e t)(i:∀ D σ H,t' D σ H->t D σ H):PSs X e t':=λpins s σ H D I q=>h pins s σ H D I (i D σ H q)
section
variable {X:Cx}{e:Expr}{es:List Expr}{ga gb:GE}
abbrev PEw(X:Cx)(e:Expr)(g:GE):Prop:=PE X e (up X.K g)
abbrev PTw(X:Cx)(e:Expr)(g:GT):Prop:=PT X e (upT X.K g)
noncomputable abbrev PAw(X:Cx)(es:List Expr)(g:GA):Prop:=PA X es (upA X.K g)
noncomputable abbrev PSw(X:Cx)(P:Hp->Prop)(st:Stmt)(g:GS):Prop:=∀ B,P B->PS X st (upS X.K B g)
noncomputable abbrev Dw(X:Cx)(P:Hp->Prop)(st:List Stmt)(g:GS):Prop:=∀ B,P B->PSs X st (upS X.K B g)
abbrev OA:Hp->Prop:=λ_=>True
def gC(w:W):GE:=λ_ G Q=>Q w G
noncomputable def Ab(i:Nat):GE:=λω G Q=>match ω[i]? with | some (some w)=>Q w G | _=>False
theorem Fk:GE.M (gC w):=λ_ _ _ _ h q=>h _ _ q
theorem aI:GE.M (Ab i):=λω G Q a h q=>by
 have z:Ab i ω G Q=(match ω[i]? with | some (some w)=>Q w G | _=>False):=rfl;have b:Ab i ω G a=(match ω[i]? with | some (some w)=>a w G | _=>False):=rfl;rw[z]at q;rw[b];cases e:ω[i]? with
 | none=>rw[e]at q;exact q
 | some o =>
  cases o with
  | none=>rw[e]at q;exact q
  | some w=>rw[e]at q;exact h _ _ q
theorem aJ(b:X.N[i]?=some x)(c:Vis X.env.scope x)(hd:(x==("__debug__":Str))=false)(a:(x==("__classdict__":Str))=false):PEw X (.Name x pos) (Ab i):=
 A8 (NG b c hd a) <| by
  rintro σ H Q ⟨ω,G,d,r,q⟩;unfold Ab at q;split at q
  ·rename_i w z;obtain⟨v,e,t⟩:=d.get i w z;exact⟨v,e,q v H .refl t r⟩
  ·exact q.elim
theorem aK{j}:PEw X (.Constant (.int i) j pos) (gC (.int i)):=A8 Xe (by rintro σ H Q ⟨ω,G,a,r,q⟩;exact q _ H .refl (.int i) r)
theorem aN{j}:PEw X (.Constant (.bool i) j pos) (gC (.bl i)):=A8 Xf (by rintro σ H Q ⟨ω,G,a,r,q⟩;exact q _ H .refl (.bl i) r)
theorem aO{j}:PEw X (.Constant .none j pos) (gC .non):=A8 Xg (by rintro σ H Q ⟨ω,G,a,r,q⟩;exact q _ H .refl .non r)
theorem aP{j}:PEw X (.Constant (.str i) j pos) (gC (.str i)):=A8 NH (by rintro σ H Q ⟨ω,G,a,r,q⟩;exact q _ H .refl (.str i) r)
theorem OC(c:Gl X x)(b:X.mg x=some u)(a:RelV v u)(t:∀ H,Tr X.K H v w)(hd:(x==("__debug__":Str))=false):PEw X (.Name x pos) (gC w):=
 A8 (Xh c b a hd) (by rintro σ H Q ⟨ω,G,d,r,q⟩;exact q _ H .refl (t H) r)
abbrev RW2:=W->W->Hw->Kw->Prop
noncomputable def RW2.M(r:RW2):Prop:=∀ x y G(Q Q':Kw),(∀ w G',Q w G'->Q' w G')->r x y G Q->r x y G Q'
noncomputable def Ad(r:RW2)(ga gb:GE):GE:=λω G Q=>ga ω G λx G1=>gb ω G1 λy G2=>r x y G2 Q
theorem Cg(b:r.M)(c:ga.M)(a:gb.M):GE.M (Ad r ga gb):=λω G Q f h q=>c _ _ _ _ (λx d q1=>a _ _ _ _ (λy e q2=>b _ _ _ _ _ h q2) q1) q
theorem HA(l:r.M)(m:ga.M)(i:gb.M)(g:∀(x y:W)(v u:V)(G:Hw)(H:Hp)(Q:VK),Tr K H v x->Tr K H u y->RelH K H G->r x y G (dn K H Q)->c v u H Q)(σ:St)(H:Hp)(Q:VK)(h:up K (Ad r ga gb) σ H Q):tOp c (up K ga) (up K gb) σ H Q:=by
 obtain⟨ω,G,d,n,q⟩:=h;refine⟨ω,G,d,n,m _ _ _ _ (λx j q1 v H1 b f r1=>?_) q⟩;refine⟨ω,j,d.mono b,r1,i _ _ _ _ (λy k q2 u H2 e ty a=>?_) q1⟩;exact g x y v u k H2 Q (f.mono e) ty a (l _ _ _ _ _ (λw o z=>Cf (b.trans e) z) q2)
theorem DO(j:OpR X (binaryOp op) c)(g:r.M)(h:ga.M)(e:gb.M)(d:∀(x y:W)(v u:V)(G:Hw)(H:Hp)(Q:VK),Tr X.K H v x->Tr X.K H u y->RelH X.K H G->r x y G (dn X.K H Q)->c v u H Q)(f:PEw X a ga)(i:PEw X b gb):PEw X (.BinOp a op b pos) (Ad r ga gb):=A8 (X5 j f i) (HA g h e d)
theorem aQ(k:OpR X (compareOp op) c)(g:r.M)(h:ga.M)(e:gb.M)(d:∀(x y:W)(v u:V)(G:Hw)(H:Hp)(Q:VK),Tr X.K H v x->Tr X.K H u y->RelH X.K H G->r x y G (dn X.K H Q)->c v u H Q)(f:PEw X a ga)(j:PEw X b gb)(i:behindInMarks op b=false):PEw X (.Compare a [op] [b] pos) (Ad r ga gb):=A8 (Zc k f j i) (HA g h e d)
theorem OD(j:IxR X c)(g:r.M)(h:ga.M)(e:gb.M)(d:∀(x y:W)(v u:V)(G:Hw)(H:Hp)(Q:VK),Tr X.K H v x->Tr X.K H u y->RelH X.K H G->r x y G (dn X.K H Q)->c v u H Q)(f:PEw X a ga)(i:PEw X b gb)(hs:Ht b):PEw X (.Subscript a b pos) (Ad r ga gb):=A8 (ZE j f i hs) (HA g h e d)
end
abbrev Xw:=Sw->Addr->Hw->Prop
abbrev XF:Xw:=λ_ _ _=>False
noncomputable def upX(K:PySem.W.Frag)(ex:Xw):St->XK:=λσ Cv _ H'=>∃ C ω G,Cv=.ref C/\TrSt K H' σ ω/\RelH K H' G/\ex ω C G
noncomputable abbrev Fo(X:Cx)(ex:Xw):Prop:=Kk (CXe X.prog X.w) X (upX X.K ex)
theorem Un.mono'(u:Un fs b H H' h h'):Mono K H H':=by
 refine⟨λa c q=>?_,λa c q=>?_⟩
 ·rcases q with(q |⟨o,q⟩)| q
  ·exact .inl (.inl (u.tups a c q))
  ·exact .inl (.inr ⟨o,u.frzs a o _ q⟩)
  ·exact .inr q
 ·rcases q with⟨o,q⟩| q
  ·exact .inl ⟨o,u.frzs a o _ q⟩
  ·exact .inr q
abbrev Spw:=List W->Hw->Kw->(Addr->Hw->Prop)->Prop
noncomputable def dnX(K:PySem.W.Frag)(H:Hp)(E:XK):Addr->Hw->Prop:=λC G'=>∀ H',Mono K H H'->RelH K H' G'->E (.ref C) none H'
noncomputable def Gc(K:PySem.W.Frag)(sp:Spw):Sp:=λvs H Q E=>∃ ws G,TrL K H vs ws/\RelH K H G/\sp ws G (dn K H Q) (dnX K H E)
noncomputable def Spw.M(sp:Spw):Prop:=∀ ws G(Q Q':Kw)(E E':Addr->Hw->Prop),(∀ w G',Q w G'->Q' w G')->(∀ w G',E w G'->E' w G')->sp ws G Q E->sp ws G Q' E'
structure Df(P:Program)(w:World)(K:PySem.W.Frag)(mg:Str->Option Value)(base:Heap)(x:Str)(k n:Nat)(sp:Spw):Prop where
 ex:∃(f:Addr)(fd:FuncData)(ps:List Str),mg x=some (.ref f)/\PySem.W.keepIn K (.ref f)=true/\Binds K fd ps []/\ps.length=n/\FnOk P w K mg base (CXe P w) k f fd ps (Gc K sp)
 mono:sp.M
section
variable {gs:GA}{ex:Xw}
def Ac:GA:=λ_ G Q=>Q [] G
noncomputable def Aa(g:GE)(gs:GA):GA:=λω G Q=>g ω G λx G1=>gs ω G1 λxs G2=>Q (x::xs) G2
theorem OF:GA.M Ac:=λ_ _ _ _ h q=>h _ _ q
theorem OG(b:ga.M)(a:gs.M):GA.M (Aa ga gs):=λω G Q e h q=>b _ _ _ _ (λx c q1=>a _ _ _ _ (λxs d q2=>h _ _ q2) q1) q
theorem aS:PAw X [] Ac:=Oz Hq (by rintro σ H Q ⟨ω,G,a,r,q⟩;exact q [] H .refl .nil r)
theorem aT(l:ga.M)(k:gs.M)(h:PEw X e ga)(hs:PAw X es gs)(b:starEach (e::es) X.env=(false,eval e X.env)::starEach es X.env:=by rfl):PAw X (e::es) (Aa ga gs):=
 Oz (F9 h hs b) (by rintro σ H Q ⟨ω,G,d,r,q⟩;exact⟨ω,G,d,r,l _ _ _ _ (λx i q1 v H1 c g r1=>⟨ω,i,d.mono c,r1,k _ _ _ _ (λxs m q2 n H2 f a j=>q2 _ H2 (c.trans f) (.cons (g.mono f) a) j) q1⟩) q⟩)
noncomputable def Ag(sp:Spw)(ex:Xw)(gs:GA):GE:=λω G Q=>gs ω G λws G1=>sp ws G1 Q (ex ω)
theorem aU(m:sp.M)(a:gs.M):GE.M (Ag sp ex gs):=λω G Q d h q=>a _ _ _ _ (λb c q1=>m _ _ _ _ _ _ h (λ_ _ z=>z) q1) q
theorem aV{pos p:Pos}(D:Df X.prog X.w X.K X.mg X.base x k n sp)(y:Room k X.A)(u:Gl X x)(v:Fo X ex)(J:gs.M)(B:PAw X (e::es) gs)(d:(x==("__debug__":Str))=false:=by decide)(l:starEach (e::es) X.env=(false,eval e X.env)::starEach es X.env:=by rfl)(a:(backTo pos (starEach es X.env)).any (·.1)=false:=by rfl):
  PEw X (.Call (.Name x p) (e::es) [] pos) (Ag sp ex gs):=by
 obtain⟨f,fd,ps,m,j,o,_,F⟩:=D.ex;refine A8 (aG F y u m j o .nil v B d l a) λσ H Q b=>?_;obtain⟨ω,G,i,r,q⟩:=b;refine⟨ω,G,i,r,J _ _ _ _ (λE I q1 L H1 h c r1=>?_) q⟩;refine⟨E,I,by rw[Yx];exact c,r1,D.mono _ _ _ _ _ _ (λw g z=>Cf h z) (λC g z H2 t s=>?_) q1⟩;exact⟨C,ω,g,rfl,(i.mono h).mono t,s,z⟩
end
noncomputable def BO(N:List Str)(ws:List W):Sw:=ws.map some++List.replicate (N.length - ws.length) none
theorem Ko(t:TrL K H vs a):TrSt K H (L2.CL N vs) (BO N a):=by
 have hl:=t.length;refine⟨by simp[L2.CL,BO,hl],λi w e=>?_⟩;unfold BO at e;by_cases hi:i < a.length
 ·rw[YI (by simpa using hi),YO]at e;cases z:a[i]? with
  | none=>rw[z]at e;cases e
  | some c =>
   rw[z]at e;cases e;obtain⟨v,b,r⟩:=t.get z;exact⟨v,by unfold L2.CL;rw[YI (by simp;lia),YO,b];rfl,r⟩
 ·rw[List.getElem?_append_right (by simpa using hi),List.getElem?_replicate]at e;split at e <;> cases e
def Sub(G G':Hw):Prop:=∀ a o,G a=some o->G' a=some o
theorem Sub.refl:Sub G G:=λ_ _ h=>h
theorem Sub.trans(a:Sub G d)(b:Sub d e):Sub G e:=λc o h=>b c o (a c o h)
theorem Sub.put(h:Sub G b)(d:G a=none):Sub G (put b a o):=λc u z=>by
 rw[Az (λe=>by rw[e,d]at z;cases z)];exact h c u z
theorem Sub.put2(h:Sub G b):Sub (L3.put G a o) (L3.put b a o):=λc u z=>by
 by_cases e:c=a
 ·subst e;rw[Ak]at z ⊢;exact z
 ·rw[Az e]at z ⊢;exact h c u z
theorem RelH.sub(r:RelH K H b)(s:Sub G b):RelH K H G:=λa o e=>r a o (s a o e)
def Kw.C(Q:Kw):Prop:=∀ w G G',Sub G G'->Q w G->Q w G'
noncomputable def Xc(E:Addr->Hw->Prop):Prop:=∀ w G G',Sub G G'->E w G->E w G'
theorem Kp:Kw.C (dn K H Q):=λw G a s q v H2 m t r=>q v H2 m t (r.sub s)
theorem aW:Xc (dnX K H E):=λw G a s q H2 m r=>q H2 m (r.sub s)
def AH(Q:Kw):Ew:=⟨λ_ G=>Q .non G,Q,λ_ _=>False,λ_ _=>False⟩
section
variable {P:Program}{w:World}{mg:Str->Option Value}{base:Heap}
noncomputable abbrev cxW(P:Program)(w:World)(K:PySem.W.Frag)(mg:Str->Option Value)(base:Heap)(N:List Str)(qual:Str)(scope:Scope)(f:Addr)(cd:Value)(A:Around)(outer:List Env)(s:Shared)(H:Hp)(E:XK):Cx :=
 Bq (CXe P w) P w K mg base N qual scope f cd A outer s H E
theorem aX:Fo (cxW P w K mg base N qual scope f cd A outer s H E) (λ_=>dnX K H E):=by
 intro pins σ Hc a ev s' I ⟨e,C,H',b,F,d,ω,G,c,g,r,q⟩;cases c;refine aA pins σ Hc a ev s' I ⟨e,C,H',b,F,q H' ?_ r⟩;exact(Un.mono' I.base).trans (Un.mono' F.un)
end
section
variable {X:Cx}{a b c e:Expr}{ga gb:GE}{gt:GT}{g1 g2:GS}
def Aj:GS:=λD ω G=>D.nx ω G
def Af(g1 g2:GS):GS:=λD ω G=>g1 {D with nx:=g2 D} ω G
theorem aY:GS.M Aj:=λ_ _ _ _ h _ _ _ q=>h _ _ q
theorem aZ(c:g1.M)(d:g2.M):GS.M (Af g1 g2):=λω G D e h1 h2 a b q=>c _ _ {D with nx:=g2 D} _ (λ_ _ z=>d _ _ _ _ h1 h2 a b z) h2 a b q
theorem a6:Dw X P [] Aj:=λB c=>Kn XC (by rintro D σ H ⟨ω,G,a,r,b,q⟩;exact q σ H b a r)
theorem a7{st:Stmt}(c:g1.M)(g:g2.M)(h1:PSw X P st g1)(h2:Dw X P sts g2):Dw X P (st::sts) (Af g1 g2):=λB b=>
 Kn (XD (h1 B b) (h2 B b)) (by rintro D σ H ⟨ω,G,f,r,d,q⟩;exact⟨ω,G,f,r,d,c _ _ {dnD X.K B D with nx:=g2 (dnD X.K B D)} _ (λω' e z σ' H' m a r'=>⟨ω',e,a,r',m,z⟩) (λ_ _ z=>z) (λ_ _ z=>z) (λ_ _ z=>z) q⟩)
theorem a8{st:Stmt}(h1:PSw X P st g1):Dw X P [st] g1:=λB a=>Kn (XE (h1 B a)) λD σ H z=>z
noncomputable def Al(i:Nat)(ga:GE):GS:=λD ω G=>ga ω G λw G1=>D.nx (ω.set i (some w)) G1
theorem Kq(a:ga.M):GS.M (Al i ga):=λω G D b h _ _ _ q=>a _ _ _ _ (λ_ _ z=>h _ _ z) q
theorem OH(b:X.N.Nodup)(hi:X.N[i]?=some x)(h:Loc X.env.scope x)(g:ga.M)(d:PEw X e ga)(hs:swapsWith e (some (.Name x pos')) pos.line X.env=pure false)(f:X.fn x=true\/X.env.scope.names.lookup x=some .local):
  PSw X P (.Assign [.Name x pos'] e pos) (Al i ga):=λB k=>
 CN (XQ b hi h d hs f) (by rintro D σ H ⟨ω,G,a,r,c,q⟩;exact⟨ω,G,a,r,g _ _ _ _ (λw j z v H1 m t r1=>z _ H1 (c.trans m) ((a.mono m).set i t) r1) q⟩)
def Ai(ga:GE):GS:=λD ω G=>ga ω G D.rt
theorem a9(a:ga.M):GS.M (Ai ga):=λω G D b _ h _ _ q=>a _ _ _ _ (λ_ _ z=>h _ _ z) q
theorem ba(d:ga.M)(a:PEw X e ga):PSw X P (.Return (some e) pos) (Ai ga):=λB g=>CN (XJ a) (by rintro D σ H ⟨ω,G,c,r,b,q⟩;exact⟨ω,G,c,r,d _ _ _ _ (λw f z v H1 m t r1=>z v H1 (b.trans m) t r1) q⟩)
def AD(ga:GE):GS:=λD ω G=>ga ω G λ_ G1=>D.nx ω G1
theorem bb(a:ga.M):GS.M (AD ga):=λω G D b h _ _ _ q=>a _ _ _ _ (λ_ _ z=>h _ _ z) q
theorem bc(d:ga.M)(b:PEw X e ga)(hs:swapsWith e none pos.line X.env=pure false):PSw X P (.Expr e pos) (AD ga):=λB g=>
 CN (XH b hs) (by rintro D σ H ⟨ω,G,a,r,c,q⟩;exact⟨ω,G,a,r,d _ _ _ _ (λw f z v H1 m t r1=>z _ H1 (c.trans m) (a.mono m) r1) q⟩)
noncomputable def gIf(gt:GT)(g1 g2:GS):GS:=λD ω G=>gt ω G λb G1=>if b=true then g1 D ω G1 else g2 D ω G1
theorem bd(e:gt.M)(d:g1.M)(f:g2.M):GS.M (gIf gt g1 g2):=λω G D h h1 h2 a c q=>e _ _ _ _ (λb g z=>by
 cases b with
 | true=>exact d _ _ _ _ h1 h2 a c z
 | false=>exact f _ _ _ _ h1 h2 a c z) q
theorem be(g:gt.M)(h:g1.M)(i:g2.M)(hc:PTw X c gt)(h1:Dw X P sts g1)(h2:Dw X P sts' g2):PSw X P (.If c sts sts' pos) (gIf gt g1 g2):=λB f=>
 CN (XN hc (h1 B f) (h2 B f)) λD σ H⟨ω,G,a,r,d,q⟩=>⟨ω,G,a,r,g _ _ _ _ (λb e z H1 m r1=>by
  cases b with
  | true=>exact⟨ω,e,a.mono m,r1,d.trans m,z⟩
  | false=>exact⟨ω,e,a.mono m,r1,d.trans m,z⟩) q⟩
noncomputable def gTB(g:GE):GT:=λω G Q=>g ω G λw G1=>match w with | .bl b=>Q b G1 | _=>False
theorem OI(m:ga.M):GT.M (gTB ga):=λω G Q b h q=>m _ _ _ _ (λw a z=>by
 cases w <;> first | exact h _ _ z | exact z) q
theorem Fp{b:Bool}(t:Tr K H v (.bl b)):v=.bl b:=by cases t;rfl
theorem OJ{b:Int}(t:Tr K H v (.int b)):v=.int b:=by cases t;rfl
theorem OK{b:Str}(t:Tr K H v (.str b)):v=.str b:=by cases t;rfl
theorem OL(m:ga.M){σ:St}(h:upT K (gTB ga) σ H f):up K ga σ H (λx H1=>∃ k,x=.bl k/\f k H1):=by
 obtain⟨ω,G,c,r,q⟩:=h;refine⟨ω,G,c,r,m _ _ _ _ (λw d z v H1 a t r1=>?_) q⟩;cases w with
 | bl b=>exact⟨b,Fp t,z H1 a r1⟩
 | _=>exact z.elim
theorem bf(k:OpR X (compareOp op) d)(e:r.M)(f:ga.M)(c:gb.M)(g:∀(x y:W)(v u:V)(G:Hw)(H:Hp)(Q:VK),Tr X.K H v x->Tr X.K H u y->RelH X.K H G->r x y G (dn X.K H Q)->d v u H Q)(h:PEw X a ga)(j:PEw X b gb)(i:behindInMarks op b=false):PTw X (.Compare a [op] [b] pos) (gTB (Ad r ga gb)):=
 Hz (Zd k h j i) λσ H Q z=>HA e f c g σ H _ (OL (Cg e f c) z)
noncomputable def B5(w:W)(G:Hw):Option Bool:=match w with
 | .non=>some false
 | .bl b=>some b
 | .int i=>some (i != 0)
 | .tup xs|.rol xs=>some (!xs.isEmpty)
 | .ref a=>match G a with | some (.lst xs)=>some (!xs.isEmpty)| _=>none
 | .str _=>none
noncomputable def AI(g:GE):GT:=λω G Q=>g ω G λw G1=>match B5 w G1 with | some b=>Q b G1 | none=>False
theorem bg(m:ga.M):GT.M (AI ga):=λω G Q c h q=>m _ _ _ _ (λw a z=>by
 cases e:B5 w a with
 | none=>rw[e]at z;exact z
 | some b=>rw[e]at z;exact h _ _ z) q
theorem Kr:∀{vs:List V}{a:List W},TrL K H vs a->vs.isEmpty=a.isEmpty
 | _,_,.nil|_,_,.cons _ _=>rfl
theorem bh{b:Bool}(t:Tr K H v w)(r:RelH K H G)(e:B5 w G=some b):J2 K v H b:=by
 cases t with
 | non|bl c|int i=>cases e;rfl
 | str x=>cases e
 | tup h l=>cases e;exact .inr (.inl ⟨_,h,by rw[Kr l]⟩)
 | rol h l=>cases e;exact .inl ⟨_,h.sq,by rw[Kr l]⟩
 | ref a =>
  unfold B5 at e;dsimp only at e;cases z:G a with
  | none=>rw[z]at e;cases e
  | some o =>
   rw[z]at e;cases o with
   | exc C|ins C fs|dct g=>cases e
   | lst xs =>
    cases e;obtain⟨d,f,l⟩:=r a _ z;exact .inl ⟨d,SqL.of f,by rw[Kr l]⟩
theorem bi(i:ga.M)(d:PEw X e ga)(g:∀ a,isTrue e X.env a=(do let v <- a;standAt e.pos;holding [v] (truthy v)):=by intro _;rfl):PTw X e (AI ga):=
 Hz (Zi d g) λσ H Q⟨ω,G,h,r,q⟩=>⟨ω,G,h,r,i _ _ _ _ (λw f z v H1 m t r1=>by
  cases c:B5 w f with
  | none=>rw[c]at z;exact z.elim
  | some b=>rw[c]at z;exact⟨b,bh t r1 c,z H1 m r1⟩) q⟩
def gNt(g:GT):GT:=λω G Q=>g ω G λb G1=>Q (!b) G1
theorem bj(m:gt.M):GT.M (gNt gt):=λω G Q b h q=>m _ _ _ _ (λw a z=>h _ _ z) q
theorem bm(b:PTw X a gt):PTw X (.UnaryOp .Not a pos) (gNt gt):=Hz (Xq b) λσ H Q z=>z
abbrev PWw(X:Cx)(e:Expr)(g:GT):Prop:=PW X e (upT X.K g)
theorem HB(h:PW X e t)(i:∀ σ H Q,t' σ H Q->t σ H Q):PW X e t':=λa pins s σ H Q I q=>h a pins s σ H Q I (i σ H Q q)
noncomputable def AF(g1 g2:GT):GT:=λω G Q=>g1 ω G λb G1=>if b=true then g2 ω G1 Q else Q false G1
noncomputable def gOr(g1 g2:GT):GT:=λω G Q=>g1 ω G λb G1=>if b=true then Q true G1 else g2 ω G1 Q
theorem bn(a:gt.M)(c:gu.M):GT.M (AF gt gu):=λω G Q e h q=>a _ _ _ _ (λb d z=>by
 cases b with
 | true=>exact c _ _ _ _ h z
 | false=>exact h _ _ z) q
theorem bo(a:gt.M)(c:gu.M):GT.M (gOr gt gu):=λω G Q e h q=>a _ _ _ _ (λb d z=>by
 cases b with
 | true=>exact h _ _ z
 | false=>exact c _ _ _ _ h z) q
theorem bp(b:PTw X a gt):PWw X (.BoolOp .And [a] pos) gt:=HB (Xm b) λσ H Q z=>z
theorem bq(b:PTw X a gt):PWw X (.BoolOp .Or [a] pos) gt:=HB (Xn b) λσ H Q z=>z
theorem br{rest:List Expr}(d:gt.M)(g:gu.M)(e:PTw X a gt)(h:PWw X (.BoolOp .And (b::rest) pos) gu):PWw X (.BoolOp .And (a::b::rest) pos) (AF gt gu):=
 HB (Xo e h) λσ H Q⟨ω,G,c,r,q⟩=>⟨ω,G,c,r,d _ _ _ _ (λb f z H1 m r1=>by
  cases b with
  | true=>exact⟨ω,f,c.mono m,r1,g _ _ _ _ (λ_ _ z=>Oy m z) z⟩
  | false=>exact z H1 m r1) q⟩
theorem bu{rest:List Expr}(d:gt.M)(g:gu.M)(e:PTw X a gt)(h:PWw X (.BoolOp .Or (b::rest) pos) gu):PWw X (.BoolOp .Or (a::b::rest) pos) (gOr gt gu):=
 HB (Xp e h) λσ H Q⟨ω,G,c,r,q⟩=>⟨ω,G,c,r,d _ _ _ _ (λb f z H1 m r1=>by
  cases b with
  | true=>exact z H1 m r1
  | false=>exact⟨ω,f,c.mono m,r1,g _ _ _ _ (λ_ _ z=>Oy m z) z⟩) q⟩
theorem bw(h:PWw X (.BoolOp op vs pos) gt):PTw X (.BoolOp op vs pos) gt:=PW.pt h
noncomputable def Bu(ga gb:GE):GE:=λω G Q=>ga ω G λx G1=>match x with | .bl c=>if c=true then gb ω G1 Q else Q (.bl false) G1 | _=>False
noncomputable def CO(ga gb:GE):GE:=λω G Q=>ga ω G λx G1=>match x with | .bl c=>if c=true then Q (.bl true) G1 else gb ω G1 Q | _=>False
noncomputable def By(gt:GT)(ga gb:GE):GE:=λω G Q=>gt ω G λc G1=>if c=true then ga ω G1 Q else gb ω G1 Q
theorem bx(b:ga.M)(a:gb.M):GE.M (Bu ga gb):=λω G Q e h q=>b _ _ _ _ (λx d z=>by
 cases x with
 | bl c =>
  cases c with
  | true=>exact a _ _ _ _ h z
  | false=>exact h _ _ z
 | _=>exact z) q
theorem bz(b:ga.M)(a:gb.M):GE.M (CO ga gb):=λω G Q e h q=>b _ _ _ _ (λx d z=>by
 cases x with
 | bl c =>
  cases c with
  | true=>exact h _ _ z
  | false=>exact a _ _ _ _ h z
 | _=>exact z) q
theorem bA(d:gt.M)(b:ga.M)(a:gb.M):GE.M (By gt ga gb):=λω G Q f h q=>d _ _ _ _ (λc e z=>by
 cases c with
 | true=>exact b _ _ _ _ h z
 | false=>exact a _ _ _ _ h z) q
theorem bB(h:PEw X a ga):PEw X (.BoolOp op [a] pos) ga:=Xu h
theorem bC{rest:List Expr}(h:ga.M)(f:gb.M)(e:PEw X a ga)(i:PEw X (.BoolOp .And (b::rest) pos) gb):PEw X (.BoolOp .And (a::b::rest) pos) (Bu ga gb):=
 A8 (Xv e i) λσ H Q⟨ω,G,d,r,q⟩=>⟨ω,G,d,r,h _ _ _ _ (λx g z v H1 m t r1=>by
  cases x with
  | bl c =>
   refine⟨c,Fp t,?_⟩;cases c with
   | true=>exact⟨ω,g,d.mono m,r1,f _ _ _ _ (λ_ _ z=>Cf m z) z⟩
   | false=>exact z _ H1 m (.bl false) r1
  | _=>exact z.elim) q⟩
theorem bD{rest:List Expr}(h:ga.M)(f:gb.M)(e:PEw X a ga)(i:PEw X (.BoolOp .Or (b::rest) pos) gb):PEw X (.BoolOp .Or (a::b::rest) pos) (CO ga gb):=
 A8 (Xx e i) λσ H Q⟨ω,G,d,r,q⟩=>⟨ω,G,d,r,h _ _ _ _ (λx g z v H1 m t r1=>by
  cases x with
  | bl c =>
   refine⟨c,Fp t,?_⟩;cases c with
   | true=>exact z _ H1 m (.bl true) r1
   | false=>exact⟨ω,g,d.mono m,r1,f _ _ _ _ (λ_ _ z=>Cf m z) z⟩
  | _=>exact z.elim) q⟩
theorem bE(i:gt.M)(h:ga.M)(g:gb.M)(hc:PTw X c gt)(f:PEw X a ga)(j:PEw X b gb):PEw X (.IfExp c a b pos) (By gt ga gb):=
 A8 (Xy hc f j) λσ H Q⟨ω,G,d,r,q⟩=>⟨ω,G,d,r,i _ _ _ _ (λc e z H1 m r1=>by
  cases c with
  | true=>exact⟨ω,e,d.mono m,r1,h _ _ _ _ (λ_ _ z=>Cf m z) z⟩
  | false=>exact⟨ω,e,d.mono m,r1,g _ _ _ _ (λ_ _ z=>Cf m z) z⟩) q⟩
section
variable {gs:GA}
noncomputable def Ah(gs:GA):GE:=λω G Q=>gs ω G λws G1=>ws.length<=sizeLine/\Q (.tup ws) G1
noncomputable def An(gs:GA):GE:=λω G Q=>gs ω G λws G1=>ws.length<=sizeLine/\∀ p,G1 p=none->Q (.ref p) (put G1 p (.lst ws))
theorem bF(m:gs.M):GE.M (Ah gs):=λω G Q c h q=>m _ _ _ _ (λa b z=>⟨z.1,h _ _ z.2⟩) q
theorem bG(m:gs.M):GE.M (An gs):=λω G Q d h q=>m _ _ _ _ (λb c z=>⟨z.1,λp a=>h _ _ (z.2 p a)⟩) q
theorem bH{x1}(m:gs.M)(h:PAw X es gs):PEw X (.Tuple es x1 pos) (Ah gs):=
 A8 (Zp h) λσ H Q⟨ω,G,c,r,q⟩=>⟨ω,G,c,r,m _ _ _ _ (λd e z f H1 b t r1=>⟨by rw[t.length];exact z.1,λp a=>
  z.2 _ _ (b.trans (Mono.new a _)) (.tup (SqT.of BJ) (t.mono (Mono.new a _))) (r1.mono0 a)⟩) q⟩
theorem bI(m:gs.M)(h:PAw X es gs):PEw X (.List es pos) (An gs):=
 A8 (Zq h) λσ H Q⟨ω,G,c,r,q⟩=>⟨ω,G,c,r,m _ _ _ _ (λd e z f H1 b t r1=>⟨by rw[t.length];exact z.1,λp a=>
  z.2 p (r1.no a) _ _ (b.trans (Mono.new a _)) (.ref p) (r1.new a t)⟩) q⟩
end
end
def CP(z:Str):List V:=z.cps.toList.map λc=>V.str ⟨#[c]⟩
noncomputable def Itk(xs:List V):It:=⟨λi _=>i < xs.length,λi H x H'=>H'=H/\xs[i]?=some x,λi _=>xs.length<=i⟩
theorem bJ(F:∀ a u,letOwnedTupleGo tg a u=pure ())(a:Addr)(z:Str)(t:Tok):DN P w K tg (Itk (CP z)) [a] a (λi h=>h.IsStrIter a "str_ascii_iterator" z t i) where
 mem:=by simp
 obj:=λi h st b f=>by
  have e:b=a:=by simpa using f
  subst e;obtain⟨o,e,c,d⟩:=st;exact⟨o,e,λv z=>by rw[d]at z;cases z⟩
 keep:=λi h h' st k=>by
  obtain⟨o,e,c,d⟩:=st;exact⟨o,k a (by simp) o e,c,d⟩
 item:=by
  intro X y hw B hc i pins s σ H E I g st x;subst y hw B;obtain⟨n,j,G,m,r,l⟩:=g a (by simp);have W:=Walks.strAscii (prog:=X.prog) (w:=X.w) (I.ok.hd hc) a z t;have hi:i < z.cps.size:=by simpa[CP,Itk]using x
  refine W.item i s _ _ hi st λv h' tk J q D=>?_;obtain⟨c,t',p,rfl⟩:=J;have L:Inv X pins σ H {s with heap:=h',toks:=tk}:=I.turned (λb o f e=>D b o (by simpa using f) e) n j m r l;exact⟨_,rfl,wpAny_of_eq (F _ _) ⟨.str ⟨#[c]⟩,H,L,⟨_,rfl⟩,⟨rfl,by simp[CP,p]⟩,q,λb f=>(g b f).1⟩⟩
 done:=by
  intro X y hw B hc i pins s σ H E I g st x;obtain⟨n,j,G,m,r,l⟩:=g a (by simp);have hi:z.cps.size<=i:=by simpa[CP,Itk]using x
  exact wpAny_pyNext_ascii_end (I.ok.hd hc) st (by simp[hi]) λh' eb=>⟨rfl,I.turned (λb o f e=>eb b o f e) n j m r l⟩
 self:=λA i s Q E st h=>wpAny_pyIter_striter_ascii st h
theorem bK(F:∀ a u,letOwnedTupleGo tg a u=pure ())(a:Addr)(z:Str)(t:Tok):DN P w K tg (Itk (CP z)) [a] a (λi h=>h.IsStrIter a "str_iterator" z t i) where
 mem:=by simp
 obj:=λi h st b f=>by
  have e:b=a:=by simpa using f
  subst e;obtain⟨o,e,c,d⟩:=st;exact⟨o,e,λv z=>by rw[d]at z;cases z⟩
 keep:=λi h h' st k=>by
  obtain⟨o,e,c,d⟩:=st;exact⟨o,k a (by simp) o e,c,d⟩
 item:=by
  intro X y hw B hc i pins s σ H E I g st x;subst y hw B;obtain⟨n,j,G,m,r,l⟩:=g a (by simp);have W:=Walks.strWide (prog:=X.prog) (w:=X.w) (I.ok.hd hc) a z t;have hi:i < z.cps.size:=by simpa[CP,Itk]using x
  refine W.item i s _ _ hi st λv h' tk J q D=>?_;obtain⟨c,t',p,rfl⟩:=J;have L:Inv X pins σ H {s with heap:=h',toks:=tk}:=I.turned (λb o f e=>D b o (by simpa using f) e) n j m r l;exact⟨_,rfl,wpAny_of_eq (F _ _) ⟨.str ⟨#[c]⟩,H,L,⟨_,rfl⟩,⟨rfl,by simp[CP,p]⟩,q,λb f=>(g b f).1⟩⟩
 done:=by
  intro X y hw B hc i pins s σ H E I g st x;obtain⟨n,j,G,m,r,l⟩:=g a (by simp);have hi:z.cps.size<=i:=by simpa[CP,Itk]using x
  exact wpAny_pyNext_wide_end (I.ok.hd hc) st (by simp[hi]) λh' eb=>⟨rfl,I.turned (λb o f e=>eb b o f e) n j m r l⟩
 self:=λA i s Q E st h=>wpAny_pyIter_striter_wide st h
noncomputable def bL(K:PySem.W.Frag)(tl:TE):TI:=λσ H R=>tl σ H λx H1=>(∃ a,x=.ref a/\(∃ xs,SqL K H1 a xs)/\R (Itl K a) H1)\/(∃ a,x=.ref a/\(∃ xs,SqT K H1 a xs)/\R (Itt K a) H1)\/(∃ z,x=.str z/\R (Itk (CP z)) H1)
theorem bM(m:∀ y u,letOwnedTupleGo tg y u=pure ())(hl:PE X l tl):PI X tg l (bL X.K tl):=by
 intro pins s σ H R I h;refine thn (hl pins s σ H _ I h) λv d i=>?_;obtain⟨x,H1,c,r1,q1⟩:=i;rcases q1 with⟨a,e,⟨xs,j⟩,q⟩|⟨a,e,⟨xs,j⟩,q⟩|⟨z,e,q⟩
 ·subst e;cases r1;obtain⟨g,w,p,r⟩:=c.list j;refine wpAny_pyIter_list p.isList (⟨d.heap.objs.size,[d.heap.objs.size],_,_,H1,rfl,c.kept λb o e=>Qr _ e,NJ a _,⟨_,Qt _ rfl,rfl,rfl⟩,λb f=>?_,q⟩);have e:b=d.heap.objs.size:=by simpa using f
  subst e;exact c.fpOk (Yr _) (c.hok.fresh (Yr _))
 ·subst e;cases r1;obtain⟨g,w,p,r⟩:=c.tuple j;refine wpAny_pyIter_tuple (p) (⟨d.heap.objs.size,[d.heap.objs.size],_,_,H1,rfl,c.kept λb o e=>Qr _ e,NK a _,⟨_,Qt _ rfl,rfl,rfl⟩,λb f=>?_,q⟩);have e:b=d.heap.objs.size:=by simpa using f
  subst e;exact c.fpOk (Yr _) (c.hok.fresh (Yr _))
 ·subst e;obtain⟨t,rfl⟩:=r1
  have n:∀ b∈[d.heap.objs.size],CK X pins H1 b:=λb f=>by
   have e:b=d.heap.objs.size:=by simpa using f
   subst e;exact c.fpOk (Yr _) (c.hok.fresh (Yr _))
  cases k:z.cps.all (· < 128)
  ·exact wpAny_pyIter_wide k ⟨d.heap.objs.size,[d.heap.objs.size],_,_,H1,rfl,c.kept λb o e=>Qr _ e,bK m _ z t,⟨_,Qt _ rfl,rfl,rfl⟩,n,q⟩
  ·exact wpAny_pyIter_ascii k ⟨d.heap.objs.size,[d.heap.objs.size],_,_,H1,rfl,c.kept λb o e=>Qr _ e,bJ m _ z t,⟨_,Qt _ rfl,rfl,rfl⟩,n,q⟩
abbrev GI:=Sw->Hw->(List W->(Hw->Prop)->Hw->Prop)->Prop
noncomputable def GI.M(g:GI):Prop:=∀ ω G(R R':List W->(Hw->Prop)->Hw->Prop),(∀ ws gd G',R ws gd G'->R' ws gd G')->g ω G R->g ω G R'
def EI(z:Str):List W:=z.cps.toList.map λc=>W.str ⟨#[c]⟩
theorem bN:TrL K H (CP z) (EI z):=by
 unfold CP EI;generalize z.cps.toList=l;induction l with
 | nil=>exact .nil
 | cons c l a=>exact .cons (.str _) a
def yes:Hw->Prop:=λ_=>True
noncomputable def holds(a:Addr)(ws:List W):Hw->Prop:=λG=>G a=some (.lst ws)
noncomputable def Ax(ga:GE):GI:=λω G R=>ga ω G λw G1=>match w with
 | .tup ws|.rol ws=>R ws yes G1
 | .str z=>R (EI z) yes G1
 | .ref a=>match G1 a with | some (.lst ws)=>R ws (holds a ws) G1 | _=>False
 | _=>False
theorem bO(m:ga.M):GI.M (Ax ga):=λω G R f h q=>m _ _ _ _ (λw c z=>by
 cases w with
 | tup b|rol b|str x=>exact h _ _ _ z
 | ref a =>
  dsimp only at z ⊢;cases e:c a with
  | none=>rw[e]at z;exact z
  | some o =>
   rw[e]at z;cases o with
   | lst b=>exact h _ _ _ z
   | exc C|ins C fs|dct d=>exact z
 | _=>exact z) q
structure DP(K:PySem.W.Frag)(H1:Hp)(J:It)(ws:List W)(gd:Hw->Prop):Prop where
 go:∀(i:Nat)(H:Hp)(G:Hw),Mono K H1 H->RelH K H G->gd G->i < ws.length->J.go i H
 yld:∀(i:Nat)(H:Hp)(G:Hw)(x:V)(H':Hp),Mono K H1 H->RelH K H G->gd G->J.yld i H x H'->i < ws.length->Mono K H H'/\RelH K H' G/\∃ w,ws[i]?=some w/\Tr K H' x w
 stop:∀(H:Hp)(G:Hw),Mono K H1 H->RelH K H G->gd G->J.stop ws.length H
theorem Gd{a:List W}{i:Nat}(r:RelH K H G)(e:H'=H)(h:∃ w,a[i]?=some w/\Tr K H x w):Mono K H H'/\RelH K H' G/\∃ w,a[i]?=some w/\Tr K H' x w:=by
 subst e;exact⟨.refl,r,h⟩
theorem HC(h:∀ H G,Mono K H1 H->RelH K H G->gd G->∃ vs,SqL K H a vs/\TrL K H vs b):DP K H1 (Itl K a) b gd where
 go:=λi H G m r g hi=>by
  obtain⟨vs,q,t⟩:=h H G m r g;have hl:=t.length;exact⟨vs,vs[i]'(by lia),q,by simp⟩
 yld:=λi H G x H' m r g y hi=>by
  obtain⟨vs,q,t⟩:=h H G m r g;obtain⟨w,e,tw⟩:=t.get' (y.2 vs q);exact Gd r y.1 ⟨w,e,tw⟩
 stop:=λH G m r g=>by
  obtain⟨vs,q,t⟩:=h H G m r g;exact⟨vs,q,Nat.le_of_eq t.length⟩
theorem OM(q:SqT K H1 a vs)(t:TrL K H1 vs b):DP K H1 (Itt K a) b gd where
 go:=λi H G m r g hi=>by
  have hl:=t.length;exact⟨vs,vs[i]'(by lia),m.tup _ _ q,by simp⟩
 yld:=λi H G x H' m r g y hi=>by
  obtain⟨w,e,tw⟩:=(t.mono m).get' (y.2 vs (m.tup _ _ q));exact Gd r y.1 ⟨w,e,tw⟩
 stop:=λH G m r g=>⟨vs,m.tup _ _ q,Nat.le_of_eq t.length⟩
theorem bP(t:TrL K H1 vs a):DP K H1 (Itk vs) a gd where
 go:=λi H G m r g hi=>by show i < vs.length;rw[t.length];exact hi
 yld:=λi H G x H' m r g y hi=>by
  obtain⟨w,e,tw⟩:=(t.mono m).get' y.2;exact Gd r y.1 ⟨w,e,tw⟩
 stop:=λH G m r g=>by exact Nat.le_of_eq t.length
noncomputable def PIw(X:Cx)(tg l:Expr)(gi:GI):Prop:=∃ wi:TI,PI X tg l wi/\∀(σ:St)(H:Hp)(ω:Sw)(G:Hw)(R:List W->(Hw->Prop)->Hw->Prop)(R0:It->Hp->Prop),TrSt X.K H σ ω->RelH X.K H G->gi ω G R->
 (∀ ws gd G1 H1 J,R ws gd G1->Mono X.K H H1->RelH X.K H1 G1->gd G1->DP X.K H1 J ws gd->R0 J H1)->wi σ H R0
theorem bQ(f:∀ p u,letOwnedTupleGo tg p u=pure ())(y:ga.M)(hl:PEw X l ga):PIw X tg l (Ax ga):=by
 refine⟨_,bM f hl,λσ H ω G R F s r q k=>⟨ω,G,s,r,y _ _ _ _ (λw g z v H1 m t r1=>?_) q⟩⟩;cases t with
 | tup h l=>exact .inr (.inl ⟨_,rfl,⟨_,h⟩,k _ _ _ H1 _ z m r1 trivial (OM h l)⟩)
 | rol h l=>exact .inl ⟨_,rfl,⟨_,h.sq⟩,k _ _ _ H1 _ z m r1 trivial (HC λH2 j d _ _=>⟨_,(d.rol _ _ h).sq,l.mono d⟩)⟩
 | str x=>exact .inr (.inr ⟨x,rfl,k _ _ _ H1 _ z m r1 trivial (bP bN)⟩)
 | ref a =>
  dsimp only at z;cases e:g a with
  | none=>rw[e]at z;exact z.elim
  | some o =>
   rw[e]at z;cases o with
   | exc C|ins C fs|dct A=>exact z.elim
   | lst E =>
    obtain⟨c,B,D⟩:=r1 a _ e;exact .inl ⟨a,rfl,⟨c,SqL.of B⟩,k _ _ _ H1 _ z m r1 e (HC λH2 j d n g2=>let⟨c,e2,t2⟩:=n a _ g2;⟨c,SqL.of e2,t2⟩)⟩
 | non|bl b|int i=>exact z.elim
structure TgW(X:Cx)(tg:Expr)(gg:GG):Prop where
 ex:∃ g:TG,PG X tg g/\∀(x:V)(w:W)(σ:St)(ω:Sw)(H:Hp)(G:Hw)(Q:St->Hp->Prop),Tr X.K H x w->TrSt X.K H σ ω->RelH X.K H G->gg w ω G (dnS X.K H Q)->g x σ H Q
 mono:gg.M
def gNm(i:Nat):GG:=λw ω G Q=>Q (ω.set i (some w)) G
theorem ON(b:X.N.Nodup)(hi:X.N[i]?=some x)(c:Loc X.env.scope x)(a:X.fn x=true\/X.env.scope.names.lookup x=some .local):TgW X (.Name x p) (gNm i) where
 ex:=⟨_,Cu b hi c a,λx w σ ω H G Q t d r q=>q _ H .refl (d.set i t) r⟩
 mono:=λ_ _ _ _ _ h q=>h _ _ q
noncomputable def AJ(i j:Nat):GG:=λw ω G Q=>match w with | .tup [a,b]=>Q ((ω.set i (some a)).set j (some b)) G | _=>False
theorem OO(hc:X.calm=true)(d:X.N.Nodup)(hi:X.N[i]?=some x)(n:Loc X.env.scope x)(e:X.fn x=true\/X.env.scope.names.lookup x=some .local)(f:X.N[j]?=some y)(m:Loc X.env.scope y)(c:X.fn y=true\/X.env.scope.names.lookup y=some .local):TgW X (.Tuple [.Name x p,.Name y p'] k pos) (AJ i j) where
 ex:=⟨_,Hl hc (Dv (Cu d hi n e) (Dv (Cu d f m c) Hk)),λv w σ ω H G Q t g r q=>by
  unfold AJ at q;split at q
  ·rename_i a b;cases t with
   | tup h l =>
    cases l with
    | cons ta l =>
     cases l with
     | cons tb l =>
      cases l;exact⟨_,_,rfl,h,rfl,_,_,rfl,_,_,rfl,rfl,q _ H .refl ((g.set i ta).set j tb) r⟩
  ·exact q.elim⟩
 mono:=λw ω G Q o h q=>by
  unfold AJ at q ⊢;split
  ·exact h _ _ q
  ·rename_i z;split at q
   ·exact(z _ _ rfl).elim
   ·exact q
noncomputable def A9(gd:Hw->Prop)(gg:GG)(gb:GS)(D:Ew):List W->Sw->Hw->Prop
 | [],ω,G=>gd G/\D.nx ω G
 | x::xs,ω,G=>gd G/\gg x ω G λω1 G1=>gb {nx:=A9 gd gg gb D xs,rt:=D.rt,bk:=D.nx,ct:=A9 gd gg gb D xs} ω1 G1
noncomputable def AN(gi:GI)(gg:GG)(gb:GS):GS:=λD ω G=>gi ω G λws gd G1=>A9 gd gg gb D ws ω G1
theorem Ks(mg:c.M)(d:gb.M)(h1:∀ a b,D.nx a b->e.nx a b)(h2:∀ a b,D.rt a b->e.rt a b):∀(f:List W)(ω:Sw)(G:Hw),A9 gd c gb D f ω G->A9 gd c gb e f ω G
 | [],ω,G,q=>⟨q.1,h1 _ _ q.2⟩
 | x::xs,ω,G,q=>⟨q.1,mg _ _ _ _ _ (λω1 g z=>d _ _ {nx:=A9 gd c gb D xs,rt:=D.rt,bk:=D.nx,ct:=A9 gd c gb D xs} _ (λa b y=>Ks mg d h1 h2 xs a b y) h2 h1 (λa b y=>Ks mg d h1 h2 xs a b y) z) q.2⟩
theorem bR(c:gi.M)(mg:a.M)(b:gb.M):GS.M (AN gi a gb):=λω G D g h1 h2 h i q=>c _ _ _ _ (λd f e z=>Ks mg b h1 h2 d ω e z) q
theorem bU(q:A9 gd b gb D a ω G):gd G:=by
 cases a with
 | nil|cons w a=>exact q.1
theorem bV(hp:PassesOwn (model X.prog X.w) X.A X.env X.xe)(hc:X.calm=true)(mi:gi.M)(mb:gb.M)(hi:PIw X tg iter gi)(hg:TgW X tg p)(hb:Dw X OA body gb)(hs:∀ x,foldedSetIterable iter X.env x=pure x:=by intro _;rfl):PSw X P (.For tg iter body [] pos) (AN gi p gb):=by
 intro B hB;obtain⟨wi,u,hi⟩:=hi;obtain⟨g,S,O⟩:=hg.ex;have mg:=hg.mono;have E:PSs X body (λD σ H=>∃ t,upS X.K t gb D σ H):=(by rintro pins s σ H D I ⟨t,z⟩;exact hb t trivial pins s σ H D I z);refine CN (X3 hp hc u S E hs) λD σ H Q=>?_;obtain⟨ω,G,ts,r,T,q⟩:=Q;refine hi σ H ω G _ _ ts r q λd U G1 H1 J z m1 r1 hgd L=>?_;have j:=T.trans m1;refine⟨λi m σ' H'=>m=d.length - i/\i<=d.length/\Mono X.K H1 H'/\∃ ω' f,TrSt X.K H' σ' ω'/\RelH X.K H' f/\A9 U p gb (dnD X.K B D) (d.drop i) ω' f,⟨d.length,by simp,YV _,.refl,ω,G1,ts.mono m1,r1,by simpa using z⟩,?_⟩;rintro i m σ' H' ⟨rfl,hle,l,ω',f,o,r',n⟩;have c:=bU n;by_cases h:i < d.length
 ·refine .inr ⟨L.go i H' f l r' c h,λσ2 H2=>Mono X.K H1 H2/\∃ ω2 Y,TrSt X.K H2 σ2 ω2/\RelH X.K H2 Y/\A9 U p gb (dnD X.K B D) (d.drop (i+1)) ω2 Y,
   (by rintro σ2 H2 ⟨y1,y2⟩;exact⟨d.length -(i+1),by lia,rfl,h,y1,y2⟩),λx H2 y=>?_⟩
  obtain⟨Z,ry,w,ew,tw⟩:=L.yld i H' f x H2 l r' c y h;have l:=l.trans Z
  have ed:d.drop i=w::d.drop (i+1):=by
   obtain⟨h',e'⟩:=YY.mp ew;rw[<- e'];exact List.drop_eq_getElem_cons h'
  rw[ed]at n;refine O x w σ' ω' _ f _ tw (o.mono Z) ry (mg _ _ _ _ _ (λω1 R z1 σ1 H3 m3 N r3=>?_) n.2);exact⟨H1,ω1,R,N,r3,l.trans m3,mb _ _ _ _ (λa b y σ4 H4 v k F=>⟨v,a,b,k,F,y⟩) (λa b y=>Cf j y) (λa b y=>aH j y) (λa b y σ4 H4 v k F=>⟨v,a,b,k,F,y⟩) z1⟩
 ·have e:i=d.length:=by lia
  subst e;rw[List.drop_length]at n;exact .inl ⟨L.stop H' f l r' c,n.2 σ' H' (j.trans l) o r'⟩
noncomputable def AU(gd:Hw->Prop)(gg:GG)(gt:GT)(ge:GE)(R:List W->Hw->Prop):List W->Sw->Hw->List W->Prop
 | [],_,G,ys=>gd G/\R ys G
 | x::xs,ω,G,ys=>gd G/\ys.length < sizeLine/\gg x ω G λω1 G1=>gt ω1 G1 λb G2=>if b=true then ge ω1 G2 λy G3=>AU gd gg gt ge R xs ω1 G3 (ys++[y])else AU gd gg gt ge R xs ω1 G2 ys
noncomputable def AM(gi:GI)(n:Nat)(gg:GG)(gt:GT)(ge:GE):GE:=λω G Q=>gi ω G λws gd G1=>AU gd gg gt ge (λys G2=>∀ p,G2 p=none->Q (.ref p) (put G2 p (.lst ys))) ws (List.replicate n none) G1 []
theorem HD(mg:c.M)(d:gt.M)(e:ge.M)(h:∀ a b,R a b->i a b):∀(f:List W)(ω:Sw)(G:Hw)(ys:List W),AU gd c gt ge R f ω G ys->AU gd c gt ge i f ω G ys
 | [],ω,G,ys,q=>⟨q.1,h _ _ q.2⟩
 | x::xs,ω,G,ys,q=>⟨q.1,q.2.1,mg _ _ _ _ _ (λω1 m z=>d _ _ _ _ (λb k g=>by
   cases b with
   | true=>exact e _ _ _ _ (λy j l=>HD mg d e h xs ω1 j _ l) g
   | false=>exact HD mg d e h xs ω1 k _ g) z) q.2.2⟩
theorem bW(b:gi.M)(mg:a.M)(d:gt.M)(c:ge.M):GE.M (AM gi n a gt ge):=λω G Q k h q=>
 b _ _ _ _ (λf i g z=>HD mg d c (λys j z p e=>h _ _ (z p e)) _ _ _ _ z) q
theorem OP(q:AU gd b gt ge R a ω G ys):gd G:=by
 cases a with
 | nil|cons w a=>exact q.1
def AC:GT:=λ_ G Q=>Q true G
theorem bX:GT.M AC:=λ_ _ _ _ h q=>h _ _ q
noncomputable abbrev PFw(X:Cx)(ifs:List Expr)(g:GT):Prop:=PF X ifs (upT X.K g)
theorem bY:PFw X [] AC:=(by rintro pins s σ H Q I ⟨ω,G,a,r,q⟩;exact aw pins s σ H Q I (q H .refl r))
theorem bZ(h:PTw X c g):PFw X [c] g:=ax h
theorem b0{σ:St}(h:σ=List.replicate n none):TrSt K H σ (List.replicate n none):=by
 subst h;refine⟨by simp,λi w e=>?_⟩;rw[List.getElem?_replicate]at e;split at e <;> cases e
theorem b5{X:Cx}{Nc:List Str}(D:∀(σ:St)(H:Hp)(ω:Sw)(G:Hw)(R:List W->(Hw->Prop)->Hw->Prop)(S:It->Hp->Prop),TrSt X.K H σ ω->RelH X.K H G->gi ω G R->
   (∀ a gd A H1 J,R a gd A->Mono X.K H H1->RelH X.K H1 A->gd A->DP X.K H1 J a gd->S J H1)->Y σ H S)(I:∀(x:V)(w:W)(σ:St)(ω:Sw)(H:Hp)(G:Hw)(Q:St->Hp->Prop),Tr X.K H x w->TrSt X.K H σ ω->RelH X.K H G->u w ω G (dnS X.K H Q)->g x σ H Q)(mg:u.M)(mt:gt.M)(me:ge.M)(σ:St)(H:Hp)(Q:VK)(h:up X.K (AM gi Nc.length u gt ge) σ H Q):
  Hy Y (λ_=>List.replicate Nc.length none) g (upT X.K gt) (up X.K ge) σ H Q:=by
 obtain⟨ω,G,ts,r,q⟩:=h
 refine D σ H ω G _ _ ts r q λa gd A H1 J z m1 r1 hgd E=>⟨λi m σ' H' Z=>m=a.length - i/\i<=a.length/\Mono X.K H1 H'/\∃ ω' l ys,TrSt X.K H' σ' ω'/\RelH X.K H' l/\TrL X.K H' Z ys/\AU gd u gt ge (λys j=>∀ p,j p=none->dn X.K H Q (.ref p) (put j p (.lst ys))) (a.drop i) ω' l ys,
  ⟨a.length,by simp,YV _,.refl,_,A,[],b0 rfl,r1,.nil,by simpa using z⟩,?_⟩
 rintro i m σ' H' Z ⟨rfl,hle,k,ω',l,ys,P,r',tv,o⟩;have c:=OP o;by_cases d:i < a.length
 ·have hw:∃ w,a[i]?=some w:=⟨a[i],by simp[d]⟩;obtain⟨w0,t⟩:=hw
  have ed:a.drop i=w0::a.drop (i+1):=by
   obtain⟨h',e'⟩:=YY.mp t;rw[<- e'];exact List.drop_eq_getElem_cons h'
  rw[ed]at o
  refine .inr ⟨E.go i H' l k r' c d,by rw[tv.length];exact o.2.1,λσ2 H2 s=>Mono X.K H1 H2/\∃ ω2 j v,TrSt X.K H2 σ2 ω2/\RelH X.K H2 j/\TrL X.K H2 s v/\AU gd u gt ge (λys j=>∀ p,j p=none->dn X.K H Q (.ref p) (put j p (.lst ys))) (a.drop (i+1)) ω2 j v,
   (by rintro σ2 H2 s ⟨y1,y2⟩;exact⟨a.length -(i+1),by lia,rfl,d,y1,y2⟩),λx H2 y=>?_⟩
  obtain⟨F,ry,w,ew,tw⟩:=E.yld i H' l x H2 k r' c y d;have k:=k.trans F;have tv:=tv.mono F;rw[t]at ew;cases ew;refine I x _ σ' ω' _ l _ tw (P.mono F) ry (mg _ _ _ _ _ (λω1 L z1 σ1 H3 B f r3=>?_) o.2.2);refine⟨ω1,L,f,r3,mt _ _ _ _ (λb U z4 H4 n T=>?_) z1⟩;cases b with
  | true=>exact⟨ω1,U,f.mono n,T,me _ _ _ _ (λy5 G5 z5 v5 H5 N t5 r5=>⟨((k.trans B).trans n).trans N,ω1,G5,_,(f.mono n).mono N,r5,(((tv.mono B).mono n).mono N).append (.cons t5 .nil),z5⟩) z4⟩
  | false=>exact⟨(k.trans B).trans n,ω1,U,_,f.mono n,T,(tv.mono B).mono n,z4⟩
 ·have e:i=a.length:=by lia
  subst e;rw[List.drop_length]at o;exact .inl ⟨E.stop H' l k r' c,λp O=>o.2 p (r'.no O) _ _ ((m1.trans k).trans (Mono.new O _)) (.ref p) (r'.new O tv)⟩
structure TgU(X:Cx)(Nc:List Str)(scope:Scope)(tg:Expr)(gg:GG):Prop where
 ex:∃ g:TG,(∀ C fp s H,PG (cxB X Nc scope [] C fp s H) tg g)/\∀(x:V)(w:W)(σ:St)(ω:Sw)(H:Hp)(G:Hw)(Q:St->Hp->Prop),Tr X.K H x w->TrSt X.K H σ ω->RelH X.K H G->gg w ω G (dnS X.K H Q)->g x σ H Q
 mono:gg.M
theorem b6(b:Nc.Nodup)(hi:Nc[i]?=some x)(a:scope.names.lookup x=some .local):TgU X Nc scope (.Name x p) (gNm i) where
 ex:=⟨Ct i,λC d s H=>Cu b hi (.inl (lookup_relabel_local a)) (.inr (lookup_relabel_local a)),λx w σ ω H G Q t c r q=>q _ H .refl (c.set i t) r⟩
 mono:=λ_ _ _ _ _ h q=>h _ _ q
theorem OQ:GG.M (AJ i j):=λw ω G Q a h q=>by
 unfold AJ at q ⊢;split
 ·exact h _ _ q
 ·rename_i z;split at q
  ·exact(z _ _ rfl).elim
  ·exact q
theorem b7(hc:X.calm=true)(c:Nc.Nodup)(hi:Nc[i]?=some x)(e:scope.names.lookup x=some .local)(f:Nc[j]?=some y)(d:scope.names.lookup y=some .local):
  TgU X Nc scope (.Tuple [.Name x p,.Name y p'] k pos) (AJ i j) where
 ex:=⟨Cl X.K 2 (BT (Ct i) (BT (Ct j) Ch)),λC m s H=>Hl hc (Dv (Cu c hi (.inl (lookup_relabel_local e)) (.inr (lookup_relabel_local e))) (Dv (Cu c f (.inl (lookup_relabel_local d)) (.inr (lookup_relabel_local d))) Hk)),
  λv w σ ω H G Q t g r q=>by
   unfold AJ at q;split at q
   ·rename_i a b;cases t with
    | tup h l =>
     cases l with
     | cons ta l =>
      cases l with
      | cons tb l =>
       cases l;exact⟨_,_,rfl,h,rfl,_,_,rfl,_,_,rfl,rfl,q _ H .refl ((g.set i ta).set j tb) r⟩
   ·exact q.elim⟩
 mono:=OQ
theorem b8(hc:X.calm=true)(hi:PIw X tg iter gi)(B:Blk X Nc scope [] (λ_=>List.replicate Nc.length none))(f:TgU X Nc scope tg e)(j:gt.M)(i:∀ C d s H,PFw (cxB X Nc scope [] C d s H) ifs gt)(k:ge.M)(h:∀ C d s H,PEw (cxB X Nc scope [] C d s H) elt ge)(hs:∀ x,foldedSetIterable iter X.env x=pure x):
  PEw X (.ListComp elt [⟨tg,iter,ifs,0⟩] scope pos) (AM gi Nc.length e gt ge):=by
 obtain⟨l,a,hi⟩:=hi;obtain⟨g,c,b⟩:=f.ex;exact A8 (Ov hc a B c i h hs) (b5 hi b f.mono j k)
noncomputable def Ar(C:Int->Int->Prop)(f:Int->Int->Int):RW2:=λx y G Q=>match x,y with
 | .int i,.int j=>C i j/\Q (.int (f i j)) G
 | _,_=>False
theorem Da:RW2.M (Ar C f):=λx y G Q a h q=>by
 cases x <;> cases y <;> first | exact q | exact⟨q.1,h _ _ q.2⟩
theorem Ge(x y:W)(v u:V)(G:Hw)(H:Hp)(Q:VK)(a:Tr K H v x)(ty:Tr K H u y)(r:RelH K H G)(q:Ar C f x y G (dn K H Q)):rI C (λi j=>.int (f i j)) v u H Q:=by
 cases a <;> first | exact q.elim |(cases ty <;> first | exact q.elim | exact⟨_,_,rfl,rfl,q.1,q.2 _ H .refl (.int _) r⟩)
noncomputable def BB:RW2:=λx y G Q=>match x,y with
 | .int i,.int j=>Q (.int (i+j)) G
 | .str a,.str b=>a.length+b.length<=sizeLine/\Q (.str (a++b)) G
 | .ref a,.ref b=>(match G a,G b with
  | some (.lst xs),some (.lst ys)=>xs.length+ys.length<=sizeLine/\∀ p,G p=none->Q (.ref p) (put G p (.lst (xs++ys)))
  | _,_=>False)
 | _,_=>False
theorem Kt:RW2.M BB:=λx y G Q g h q=>by
 cases x <;> cases y <;> first | exact q | exact h _ _ q | exact⟨q.1,h _ _ q.2⟩| skip
 rename_i a b;unfold BB at q ⊢;dsimp only at q ⊢;cases c:G a with
 | none=>rw[c]at q;exact q
 | some d =>
  cases eb:G b with
  | none=>rw[c,eb]at q;cases d <;> exact q
  | some e =>
   rw[c,eb]at q;cases d <;> cases e <;> first | exact q | exact⟨q.1,λp f=>h _ _ (q.2 p f)⟩
theorem OR:OpR X (binaryOp .Add) (λx y H Q=>(rI0 λi j=>.int (i+j)) x y H Q\/(∃ i j,x=.str i/\y=.str j/\i.length+j.length<=sizeLine/\Q (.str (i++j)) H)\/Gb x y H Q):=OpR.or X8 (OpR.or Zj ZV)
theorem OS(x y:W)(v u:V)(G:Hw)(H:Hp)(Q:VK)(h:Tr K H v x)(ty:Tr K H u y)(r:RelH K H G)(q:BB x y G (dn K H Q)):
  (rI0 λi j=>.int (i+j)) v u H Q\/(∃ i j,v=.str i/\u=.str j/\i.length+j.length<=sizeLine/\Q (.str (i++j)) H)\/Gb v u H Q:=by
 cases h with
 | int i=>cases ty <;> first | exact q.elim | exact .inl ⟨_,_,rfl,rfl,q _ H .refl (.int _) r⟩
 | str i=>cases ty <;> first | exact q.elim | exact .inr (.inl ⟨_,_,rfl,rfl,q.1,q.2 _ H .refl (.str _) r⟩)
 | ref a =>
  cases ty <;> try exact q.elim
  rename_i b;unfold BB at q;dsimp only at q;cases c:G a with
  | none=>rw[c]at q;exact q.elim
  | some f =>
   cases eb:G b with
   | none=>rw[c,eb]at q;cases f <;> exact q.elim
   | some n =>
    rw[c,eb]at q;cases f <;> cases n <;> try exact q.elim
    obtain⟨l,k,e⟩:=r a _ c;obtain⟨m,o,g⟩:=r b _ eb;exact .inr (.inr ⟨a,b,l,m,rfl,rfl,k,o,by rw[e.length,g.length];exact q.1,λp d=>q.2 p (r.no d) _ _ (Mono.new d _) (.ref p) (r.new d (e.append g))⟩)
 | _=>exact q.elim
noncomputable def AV(f:Int->Int->Bool):RW2:=λx y G Q=>match x,y with
 | .int i,.int j=>Q (.bl (f i j)) G
 | _,_=>False
theorem OT:RW2.M (AV f):=λx y G Q a h q=>by
 cases x <;> cases y <;> first | exact q | exact h _ _ q
theorem OU(x y:W)(v u:V)(G:Hw)(H:Hp)(Q:VK)(a:Tr K H v x)(ty:Tr K H u y)(r:RelH K H G)(q:AV f x y G (dn K H Q)):rI0 (λi j=>.bl (f i j)) v u H Q:=by
 cases a <;> first | exact q.elim |(cases ty <;> first | exact q.elim | exact⟨_,_,rfl,rfl,q _ H .refl (.bl _) r⟩)
noncomputable def opt(o:Option W)(f:W->Prop):Prop:=match o with | some w=>f w | none=>False
theorem Ku(h:∀ w,f w->a w)(q:opt o f):opt o a:=by
 cases o with
 | none=>exact q
 | some w=>exact h _ q
theorem B6(q:opt o f):∃ w,o=some w/\f w:=by
 cases o with
 | none=>exact q.elim
 | some w=>exact⟨w,rfl,q⟩
noncomputable def Ae(f:W->W->Hw->Option W):RW2:=λx y G Q=>opt (f x y G) λw=>Q w G
theorem CQ:RW2.M (Ae f):=λx y G Q a h q=>Ku (λw z=>h _ _ z) q
noncomputable def ixW(x y:W)(G:Hw):Option W:=match x,y with
 | .tup xs,.int i|.rol xs,.int i=>atI xs i
 | .ref a,.int i=>(match G a with | some (.lst xs)=>atI xs i | _=>none)
 | .str z,.int i=>if z.length<=sizeLine then(atI z.cps.toList i).map λc=>.str ⟨#[c]⟩else none
 | _,_=>none
theorem Kv(t:TrL K H vs a)(e:atI a i=some w):∃ v,atI vs i=some v/\Tr K H v w:=by
 unfold atI at e ⊢;rw[t.length];cases z:ixN a.length i with
 | none=>rw[z]at e;cases e
 | some j =>
  rw[z]at e;exact t.get e
theorem b9:IxR X (λx y H Q=>Ka X.K x y H Q\/Kb X.K x y H Q\/Kc x y H Q):=IxR.or ZF (IxR.or ZG ZH)
theorem ca(x y:W)(v u:V)(G:Hw)(H:Hp)(Q:VK)(k:Tr K H v x)(ty:Tr K H u y)(r:RelH K H G)(q:Ae ixW x y G (dn K H Q)):Ka K v u H Q\/Kb K v u H Q\/Kc v u H Q:=by
 obtain⟨w,e,f⟩:=B6 q;cases ty with
 | int i =>
  cases k with
  | tup h l =>
   obtain⟨j,d,t'⟩:=Kv l e;exact .inr (.inl ⟨_,_,_,_,rfl,rfl,h,d,f _ H .refl t' r⟩)
  | rol h l =>
   obtain⟨j,d,t'⟩:=Kv l e;exact .inl ⟨_,_,_,_,rfl,rfl,h.sq,d,f _ H .refl t' r⟩
  | str z =>
   unfold ixW at e;dsimp only at e;split at e
   ·rename_i m;cases b:atI z.cps.toList i with
    | none=>rw[b]at e;cases e
    | some c =>
     rw[b]at e;cases e;exact .inr (.inr ⟨z,i,c,rfl,rfl,m,b,f _ H .refl (.str _) r⟩)
   ·cases e
  | ref a =>
   unfold ixW at e;dsimp only at e;cases g:G a with
   | none=>rw[g]at e;cases e
   | some o =>
    rw[g]at e;cases o with
    | exc C|ins C fs|dct n=>cases e
    | lst p =>
     obtain⟨s,b,l⟩:=r a _ g;obtain⟨j,d,t'⟩:=Kv l e;exact .inl ⟨_,_,_,_,rfl,rfl,SqL.of b,d,f _ H .refl t' r⟩
  | _=>cases e
 | _=>cases x <;> cases e
structure Em(X:Cx)(e:Expr)(g:GE):Prop where
 p:PEw X e g
 m:g.M
structure Tm(X:Cx)(e:Expr)(g:GT):Prop where
 p:PTw X e g
 m:g.M
structure Wm(X:Cx)(e:Expr)(g:GT):Prop where
 p:PWw X e g
 m:g.M
structure Am(X:Cx)(es:List Expr)(g:GA):Prop where
 p:PAw X es g
 m:g.M
structure Sm(X:Cx)(P:Hp->Prop)(s:Stmt)(g:GS):Prop where
 p:PSw X P s g
 m:g.M
structure Ssm(X:Cx)(P:Hp->Prop)(s:List Stmt)(g:GS):Prop where
 p:Dw X P s g
 m:g.M
structure Im(X:Cx)(tg l:Expr)(g:GI):Prop where
 p:PIw X tg l g
 m:g.M
def place(N:List Str)(x:Str):Option Nat:=N.findIdx? (·==x)
theorem cb(h:place N x=some i):N[i]?=some x:=by
 obtain⟨hi,e,_⟩:=List.findIdx?_eq_some_iff_getElem.mp h;rw[Yp hi,eq_of_beq e]
noncomputable def seen(sc:Scope)(x:Str):Bool:=match sc.names.lookup x with | some .local=>true | some .cell=>true | some .free=>true | _=>false
theorem OV(h:seen a x=true):Vis a x:=by
 unfold seen at h;split at h <;> first |(rename_i e;exact .inl e)|(rename_i e;exact .inr (.inl e))|(rename_i e;exact .inr (.inr e))| cases h
noncomputable def Fq(sc:Scope)(x:Str):Bool:=match sc.names.lookup x with | some .local=>true | _=>false
theorem Gf(h:Fq a x=true):a.names.lookup x=some .local:=by
 unfold Fq at h;split at h
 ·rename_i e;exact e
 ·cases h
theorem cc{j}:Em X (.Constant (.int i) j pos) (gC (.int i)):=⟨aK,Fk⟩
theorem ce{j}:Em X (.Constant (.bool i) j pos) (gC (.bl i)):=⟨aN,Fk⟩
theorem cf{j}:Em X (.Constant .none j pos) (gC .non):=⟨aO,Fk⟩
theorem cg{j}:Em X (.Constant (.str i) j pos) (gC (.str i)):=⟨aP,Fk⟩
theorem ci(d:Em X a ga)(c:Em X b gb):Em X (.BinOp a .Add b pos) (Ad BB ga gb):=⟨DO OR Kt d.m c.m OS d.p c.p,Cg Kt d.m c.m⟩
theorem cj(d:Em X a ga)(c:Em X b gb):Em X (.BinOp a .Sub b pos) (Ad (Ar (λ_ _=>True) λi j=>i - j) ga gb):=
 ⟨DO (opI λ_ _ _ _ _ _ _ _ q=>sub_int q) Da d.m c.m Ge d.p c.p,Cg Da d.m c.m⟩
theorem ck(d:Em X a ga)(c:Em X b gb):Em X (.BinOp a .Mult b pos) (Ad (Ar CMul λi j=>i*j) ga gb):=⟨DO NP Da d.m c.m Ge d.p c.p,Cg Da d.m c.m⟩
theorem cm(d:Em X a ga)(c:Em X b gb):Em X (.BinOp a .FloorDiv b pos) (Ad (Ar EF λi j=>i / j) ga gb):=⟨DO X9 Da d.m c.m Ge d.p c.p,Cg Da d.m c.m⟩
theorem cn(d:Em X a ga)(c:Em X b gb):Em X (.BinOp a .Mod b pos) (Ad (Ar (λ_ j=>0 < j) λi j=>i % j) ga gb):=⟨DO Y0 Da d.m c.m Ge d.p c.p,Cg Da d.m c.m⟩
theorem cp(d:Em X a ga)(c:Em X b gb):Em X (.BinOp a .Pow b pos) (Ad (Ar EG λi j=>i ^ j.toNat) ga gb):=⟨DO Y1 Da d.m c.m Ge d.p c.p,Cg Da d.m c.m⟩
theorem cq(hs:Ht b)(d:Em X a ga)(c:Em X b gb):Em X (.Subscript a b pos) (Ad (Ae ixW) ga gb):=⟨OD b9 CQ d.m c.m ca d.p c.p hs,Cg CQ d.m c.m⟩
theorem cr{k}(h:Am X es gs):Em X (.Tuple es k pos) (Ah gs):=⟨bH h.m h.p,bF h.m⟩
theorem cu(h:Am X es gs):Em X (.List es pos) (An gs):=⟨bI h.m h.p,bG h.m⟩
theorem cw(h:Em X a ga):Em X (.BoolOp op [a] pos) ga:=⟨bB h.p,h.m⟩
variable {X:Cx}{a b c:Expr}{rest:List Expr}{pos:Pos}{ga gb:GE} in
theorem cx(d:Em X a ga)(c:Em X (.BoolOp .And (b::rest) pos) gb):Em X (.BoolOp .And (a::b::rest) pos) (Bu ga gb):=⟨bC d.m c.m d.p c.p,bx d.m c.m⟩
variable {X:Cx}{a b c:Expr}{rest:List Expr}{pos:Pos}{ga gb:GE} in
theorem cy(d:Em X a ga)(c:Em X (.BoolOp .Or (b::rest) pos) gb):Em X (.BoolOp .Or (a::b::rest) pos) (CO ga gb):=⟨bD d.m c.m d.p c.p,bz d.m c.m⟩
theorem cz(hc:Tm X c gt)(e:Em X a ga)(d:Em X b gb):Em X (.IfExp c a b pos) (By gt ga gb):=⟨bE hc.m e.m d.m hc.p e.p d.p,bA hc.m e.m d.m⟩
theorem cA:Am X [] Ac:=⟨aS,OF⟩
theorem cB(a:starEach (e::es) X.env=(false,eval e X.env)::starEach es X.env)(b:Em X e ga)(hs:Am X es gs):Am X (e::es) (Aa ga gs):=⟨aT b.m hs.m b.p hs.p a,OG b.m hs.m⟩
theorem OW(D:Df X.prog X.w X.K X.mg X.base x k n sp)(d:Room k X.A)(h:Gl X x)(g:Fo X ex)(c:(x==("__debug__":Str))=false)(f:starEach (e::es) X.env=(false,eval e X.env)::starEach es X.env)(b:(backTo pos (starEach es X.env)).any (·.1)=false)(a:Am X (e::es) gs):Em X (.Call (.Name x p) (e::es) [] pos) (Ag sp ex gs):=⟨aV D d h g a.m a.p c f b,aU D.mono a.m⟩
theorem OX(c:∀ a,isTrue e X.env a=(do let v <- a;standAt e.pos;holding [v] (truthy v)))(b:Em X e ga):Tm X e (AI ga):=⟨bi b.m b.p c,bg b.m⟩
theorem OY(b:Tm X a gt):Tm X (.UnaryOp .Not a pos) (gNt gt):=⟨bm b.p,bj b.m⟩
theorem cC(h:Wm X (.BoolOp op vs pos) gt):Tm X (.BoolOp op vs pos) gt:=⟨bw h.p,h.m⟩
theorem cD(h:Tm X a gt):Wm X (.BoolOp .And [a] pos) gt:=⟨bp h.p,h.m⟩
theorem cE(h:Tm X a gt):Wm X (.BoolOp .Or [a] pos) gt:=⟨bq h.p,h.m⟩
variable {X:Cx}{a b c:Expr}{rest:List Expr}{pos:Pos}{gt gu:GT} in
theorem cG(d:Tm X a gt)(c:Wm X (.BoolOp .And (b::rest) pos) gu):Wm X (.BoolOp .And (a::b::rest) pos) (AF gt gu):=⟨br d.m c.m d.p c.p,bn d.m c.m⟩
variable {X:Cx}{a b c:Expr}{rest:List Expr}{pos:Pos}{gt gu:GT} in
theorem cH(d:Tm X a gt)(c:Wm X (.BoolOp .Or (b::rest) pos) gu):Wm X (.BoolOp .Or (a::b::rest) pos) (gOr gt gu):=⟨bu d.m c.m d.p c.p,bo d.m c.m⟩
theorem OZ:Ssm X P [] Aj:=⟨a6,aY⟩
theorem Kx{st:Stmt}(h:Sm X P st g1):Ssm X P [st] g1:=⟨a8 h.p,h.m⟩
theorem cI{st:Stmt}(h1:Sm X P st g1)(h2:Ssm X P sts g2):Ssm X P (st::sts) (Af g1 g2):=⟨a7 h1.m h2.m h1.p h2.p,aZ h1.m h2.m⟩
theorem cJ(a:Em X e ga):Sm X P (.Return (some e) pos) (Ai ga):=⟨ba a.m a.p,a9 a.m⟩
theorem cK(hs:swapsWith e none pos.line X.env=pure false)(a:Em X e ga):Sm X P (.Expr e pos) (AD ga):=⟨bc a.m a.p hs,bb a.m⟩
theorem O0(hc:Tm X c gt)(h1:Ssm X P sts g1)(h2:Ssm X P sts' g2):Sm X P (.If c sts sts' pos) (gIf gt g1 g2):=⟨be hc.m h1.m h2.m hc.p h1.p h2.p,bd hc.m h1.m h2.m⟩
theorem cL(a:∀ b u,letOwnedTupleGo tg b u=pure ())(hl:Em X l ga):Im X tg l (Ax ga):=⟨bQ a hl.m hl.p,bO hl.m⟩
theorem cM(d:PassesOwn (model X.prog X.w) X.A X.env X.xe)(hc:X.calm=true)(hs:∀ x,foldedSetIterable iter X.env x=pure x)(hi:Im X tg iter gi)(c:TgW X tg b)(a:Ssm X OA sts gb):Sm X P (.For tg iter sts [] pos) (AN gi b gb):=
 ⟨bV d hc hi.m a.m hi.p c a.p hs,bR hi.m c.mono a.m⟩
theorem cN{bs:List Bool}(r:Vals (bs.map V.bl) a){i:Nat}(e:a.toArray[i]?=some v):v=.bool (bs.getD i false):=by
 have d:a[i]?=some v:=by simpa using e
 have hl:=r.length;rw[Yh]at hl;have hi:=(YY.mp d).1;have c:bs[i]?=some (bs[i]'(by lia)):=Yp _;obtain⟨u,b,r1⟩:=r.get (by rw[YO,c];rfl);rw[d]at b;cases b;rw[Qb,c];exact r1
theorem cO{bs:List Bool}:(List.range bs.length).all (λi=>bs.getD i false)=bs.all id:=by
 rw[Bool.eq_iff_iff];simp only[List.all_eq_true,List.mem_range];constructor
 ·intro h b a;obtain⟨i,hi,e⟩:=List.mem_iff_getElem.mp a;have:=h i hi;rw[Qb,Yp hi]at this;rw[<- e];exact this
 ·intro h i hi;rw[Qb,Yp hi];exact h _ (Qh hi)
theorem cP(hc:X.calm=true):CallR X (.builtin "all") (λxs H Q=>∃(p:Addr)(bs:List Bool),xs=[.ref p]/\SqL X.K H p (bs.map V.bl)/\Q (.bl (bs.all id)) H):=by
 intro pins s σ H xs j Q I r h;obtain⟨p,bs,rfl,c,q⟩:=h;obtain⟨u,rfl,d⟩:=Ce r;cases d;obtain⟨a,r',pl,g⟩:=I.list c;have hl:=r'.length;rw[Yh]at hl;obtain⟨o,n,e,_⟩:=id pl
 refine call_all_walk (wpAny_pyIter_list pl.isList ⟨s.heap.objs.size,_,_,_,_,_,λi=>bs.getD i false,rfl,Walks.list (A:=X.A.in1) (I.ok.hd hc) _ p (Ys (Qs e)) a.toArray,
  ⟨⟨_,Qt _ rfl,rfl,rfl⟩,pl.isList.push _⟩,λi v s Q E f c=>by rw[cN r' f];exact wpAny_truthy_bool c,λh' tk k=>?_⟩)
 refine⟨.bl (bs.all id),H,I.kept λb o e=>k b o (by simpa using Ys (Qs e)) (Qr _ e),?_,q⟩;show Value.bool _=_;rw[Yn,<- hl,cO]
theorem Ky{ns:List Int}(r:Vals (ns.map V.int) a){i:Nat}(e:a.toArray[i]?=some v):∃ t,v=.int (ns.getD i 0) t:=by
 have d:a[i]?=some v:=by simpa using e
 have hl:=r.length;rw[Yh]at hl;have hi:=(YY.mp d).1;have c:ns[i]?=some (ns[i]'(by lia)):=Yp _;obtain⟨u,b,r1⟩:=r.get (by rw[YO,c];rfl);rw[d]at b;cases b;rw[Qb,c];exact r1
theorem cQ(hc:X.calm=true):CallR X (.builtin "sum") (λxs H Q=>∃(p:Addr)(ns:List Int),xs=[.ref p]/\SqL X.K H p (ns.map V.int)/\PyProof.Rows.SumFits ns/\Q (.int ns.sum) H):=by
 intro pins s σ H xs x Q I r h;obtain⟨p,ns,rfl,l,f,q⟩:=h;obtain⟨u,rfl,g⟩:=Ce r;cases g;obtain⟨a,r',pl,w⟩:=I.list l;have hl:=r'.length;rw[Yh]at hl;obtain⟨o,n,e,_⟩:=id pl
 refine call_sum_walk (wpAny_pyIter_list pl.isList ⟨s.heap.objs.size,_,_,_,_,_,λi=>ns.getD i 0,rfl,Walks.list (A:=X.A.in1) (I.ok.hd hc) _ p (Ys (Qs e)) a.toArray,
  ⟨⟨_,Qt _ rfl,rfl,rfl⟩,pl.isList.push _⟩,λb m=>?_,λi v t=>Ky r' t,λj d=>?_,λh' tk t' k=>?_⟩)
 ·rw[Qu];rcases Yo.mp m with c | c
  ·rw[c];exact Nat.lt_succ_self _
  ·rw[YA.mp c];exact Nat.lt_succ_of_lt (Qs e)
 ·rw[Yn,<- hl]at d;have:=f j d;rw[preSum_getD];exact this
 ·refine⟨.int ns.sum,H,I.kept λb o e=>k b o (by simpa using Ys (Qs e)) (Qr _ e),⟨t',?_⟩,q⟩;rw[Yn,<- hl,preSum_getD,List.take_length]
abbrev RWc:=List W->Hw->Kw->Prop
noncomputable def RWc.M(r:RWc):Prop:=∀ ws G(Q Q':Kw),(∀ w G',Q w G'->Q' w G')->r ws G Q->r ws G Q'
def gB(r:RWc)(gs:GA):GE:=λω G Q=>gs ω G λws G1=>r ws G1 Q
theorem O1(a:r.M)(b:gs.M):GE.M (gB r gs):=λω G Q e h q=>b _ _ _ _ (λc d z=>a _ _ _ _ h z) q
theorem O2(e:r.M)(f:gs.M)(c:∀ a vs G H Q,TrL K H vs a->RelH K H G->r a G (dn K H Q)->r1 vs H Q)(σ:St)(H:Hp)(Q:VK)(h:up K (gB r gs) σ H Q):tCB r1 (upA K gs) σ H Q:=by
 obtain⟨ω,G,g,i,q⟩:=h;exact⟨ω,G,g,i,f _ _ _ _ (λa d z vs H1 m t b=>c a vs d H1 Q t b (e _ _ _ _ (λw j y=>Cf m y) z)) q⟩
theorem cR{id:String}(hc:CallR X (.builtin id) r1)(f:r.M)(g:∀ d vs G H Q,TrL X.K H vs d->RelH X.K H G->r d G (dn X.K H Q)->r1 vs H Q)(l:Gl X x)(k:X.mg x=none)(i:bootBuiltins x=some (.builtin id))(j:x≠"__name__")(c:(x==("__debug__":Str))=false)(h:starEach (e::es) X.env=(false,eval e X.env)::starEach es X.env)(b:(backTo pos (starEach es X.env)).any (·.1)=false)(a:Am X (e::es) gs):Em X (.Call (.Name x p) (e::es) [] pos) (gB r gs):=
 ⟨A8 (Zt hc l k i a.p j c h b) (O2 f a.m g),O1 f a.m⟩
theorem cS(hc:CallR X (.type T) r1)(f:r.M)(g:∀ d vs G H Q,TrL X.K H vs d->RelH X.K H G->r d G (dn X.K H Q)->r1 vs H Q)(l:Gl X x)(k:X.mg x=none)(i:bootBuiltins x=some (.type T))(j:x≠"__name__")(c:(x==("__debug__":Str))=false)(h:starEach (e::es) X.env=(false,eval e X.env)::starEach es X.env)(b:(backTo pos (starEach es X.env)).any (·.1)=false)(a:Am X (e::es) gs):Em X (.Call (.Name x p) (e::es) [] pos) (gB r gs):=
 ⟨A8 (Zu hc l k i a.p j c h b) (O2 f a.m g),O1 f a.m⟩
noncomputable def rF(f:List W->Hw->Option W):RWc:=λws G Q=>opt (f ws G) λw=>Q w G
theorem Gg:RWc.M (rF f):=λa G Q b h q=>Ku (λw z=>h _ _ z) q
noncomputable def EJ:List W->Option (List Bool)
 | []=>some []
 | .bl b::r=>(EJ r).map (b::·)
 | _=>none
theorem O3:∀{a:List W}{bs:List Bool}{vs:List V},EJ a=some bs->TrL K H vs a->vs=bs.map V.bl
 | [],bs,vs,e,t=>by cases e;cases t;rfl
 | w::a,bs,vs,e,t=>by
  cases t with
  | cons tw t =>
   cases w with
   | bl b =>
    unfold EJ at e;cases z:EJ a with
    | none=>rw[z]at e;cases e
    | some c =>
     rw[z]at e;cases e;rw[Fp tw,O3 z t];rfl
   | _=>cases e
noncomputable def DQ:List W->Option (List Int)
 | []=>some []
 | .int b::r=>(DQ r).map (b::·)
 | _=>none
theorem Kz:∀{a:List W}{bs:List Int}{vs:List V},DQ a=some bs->TrL K H vs a->vs=bs.map V.int
 | [],bs,vs,e,t=>by cases e;cases t;rfl
 | w::a,bs,vs,e,t=>by
  cases t with
  | cons tw t =>
   cases w with
   | int b =>
    unfold DQ at e;cases z:DQ a with
    | none=>rw[z]at e;cases e
    | some c =>
     rw[z]at e;cases e;rw[OJ tw,Kz z t];rfl
   | _=>cases e
noncomputable def Cw(G:Hw)(w:W):Option (List W):=match w with
 | .ref a=>(match G a with | some (.lst xs)=>some xs | _=>none)
 | _=>none
theorem DS(r:RelH K H G)(t:Tr K H v w)(e:Cw G w=some xs):∃ a vs,v=.ref a/\w=.ref a/\G a=some (.lst xs)/\H a=some (.lst vs)/\TrL K H vs xs:=by
 cases t with
 | ref a =>
  unfold Cw at e;dsimp only at e;cases z:G a with
  | none=>rw[z]at e;cases e
  | some o =>
   rw[z]at e;cases o with
   | lst ys=>cases e;obtain⟨vs,b,c⟩:=r a _ z;exact⟨a,vs,rfl,rfl,z,b,c⟩
   | exc C|ins C fs|dct d=>cases e
 | _=>cases e
noncomputable def Be(ws:List W)(G:Hw):Option W:=match ws with | [w]=>(Cw G w).bind λxs=>(EJ xs).map λbs=>.bl (bs.all id)| _=>none
theorem cT(b:List W)(vs:List V)(G:Hw)(H:Hp)(Q:VK)(t:TrL K H vs b)(r:RelH K H G)(q:rF Be b G (dn K H Q)):∃(p:Addr)(bs:List Bool),vs=[.ref p]/\SqL K H p (bs.map V.bl)/\Q (.bl (bs.all id)) H:=by
 obtain⟨w,e,c⟩:=B6 q;unfold Be at e;split at e
 ·rename_i k;cases t with
  | cons tw t =>
   cases t;obtain⟨xs,h,i⟩:=Qd.mp e;obtain⟨bs,g,d⟩:=YR.mp i;obtain⟨a,l,rfl,rfl,_,j,f⟩:=DS r tw h;subst d;have:=O3 g f;subst this;exact⟨a,bs,rfl,SqL.of j,c _ H .refl (.bl _) r⟩
 ·cases e
noncomputable def DT:RWc:=λws G Q=>match ws with
 | [w]=>(match(Cw G w).bind DQ with | some ns=>PyProof.Rows.SumFits ns/\Q (.int ns.sum) G | none=>False)
 | _=>False
theorem cU:RWc.M DT:=λa G Q b h q=>by
 unfold DT at q ⊢;split at q
 ·split at q
  ·exact⟨q.1,h _ _ q.2⟩
  ·exact q.elim
 ·exact q.elim
theorem cV(b:List W)(vs:List V)(G:Hw)(H:Hp)(Q:VK)(t:TrL K H vs b)(r:RelH K H G)(q:DT b G (dn K H Q)):∃(p:Addr)(ns:List Int),vs=[.ref p]/\SqL K H p (ns.map V.int)/\PyProof.Rows.SumFits ns/\Q (.int ns.sum) H:=by
 unfold DT at q;split at q
 ·rename_i h;split at q
  ·rename_i ns e;cases t with
   | cons tw t =>
    cases t;obtain⟨xs,d,f⟩:=Qd.mp e;obtain⟨a,i,rfl,rfl,_,g,c⟩:=DS r tw d;have:=Kz f c;subst this;exact⟨a,ns,rfl,SqL.of g,q.1,q.2 _ H .refl (.int _) r⟩
  ·exact q.elim
 ·exact q.elim
noncomputable def B7(w:W)(G:Hw):Option W:=match w with
 | .tup xs|.rol xs=>some (.int xs.length)
 | .str z=>if z.length<=sizeLine then some (.int z.length)else none
 | .ref a=>(match G a with | some (.lst xs)=>some (.int xs.length)| _=>none)
 | _=>none
noncomputable def AK(ws:List W)(G:Hw):Option W:=match ws with | [w]=>B7 w G | _=>none
theorem cW(c:List W)(vs:List V)(G:Hw)(H:Hp)(Q:VK)(t:TrL K H vs c)(r:RelH K H G)(q:rF AK c G (dn K H Q)):∃ x n,vs=[x]/\NU K x H n/\Q (.int n) H:=by
 obtain⟨w,e,b⟩:=B6 q;unfold AK at e;split at e
 ·cases t with
  | cons tw t =>
   cases t;cases tw with
   | tup h l=>cases e;exact⟨_,_,rfl,.inr ⟨_,h,rfl⟩,by rw[l.length];exact b _ H .refl (.int _) r⟩
   | rol h l=>cases e;exact⟨_,_,rfl,.inl ⟨_,h.sq,rfl⟩,by rw[l.length];exact b _ H .refl (.int _) r⟩
   | str z =>
    unfold B7 at e;dsimp only at e;split at e
    ·rename_i f;cases e;exact⟨_,_,rfl,⟨f,rfl⟩,b _ H .refl (.int _) r⟩
    ·cases e
   | ref a =>
    unfold B7 at e;dsimp only at e;cases z:G a with
    | none=>rw[z]at e;cases e
    | some o =>
     rw[z]at e;cases o with
     | exc C|ins C fs|dct g=>cases e
     | lst xs =>
      cases e;obtain⟨j,i,d⟩:=r a _ z;exact⟨_,_,rfl,.inl ⟨_,SqL.of i,rfl⟩,by rw[d.length];exact b _ H .refl (.int _) r⟩
   | _=>cases e
 ·cases e
mutual
def eqD:W->W->Option Bool
 | .tup xs,.tup ys=>A1 xs ys
 | .non,.non=>some true
 | .bl a,.bl b=>some (a==b)
 | .bl a,.int b=>some ((if a then 1 else 0)==b)
 | .int a,.bl b=>some (a==(if b then 1 else 0))
 | .int a,.int b|.str a,.str b=>some (a==b)
 | .non,.int _|.int _,.non|.int _,.str _|.str _,.int _|.bl _,.str _|.str _,.bl _|.non,.str _|.str _,.non|.non,.bl _|.bl _,.non|.tup _,.str _|.str _,.tup _|.tup _,.bl _|.bl _,.tup _|.tup _,.int _|.int _,.tup _=>some false
 | _,_=>none
def A1:List W->List W->Option Bool
 | [],[]=>some true
 | [],_::_|_::_,[]=>some false
 | x::xs,y::ys=>match eqD x y,A1 xs ys with
  | some a,some b=>some (a&&b)
  | _,_=>none
end
mutual
def dpW:W->Nat
 | .tup xs=>dpL xs+1
 | _=>0
def dpL:List W->Nat
 | []=>0
 | x::xs=>max (dpW x) (dpL xs)
end
noncomputable def HE:W->Option V
 | .non=>some .non
 | .bl b=>some (.bl b)
 | .int i=>some (.int i)
 | .str x=>some (.str x)
 | _=>none
theorem O4(t:Tr K H v w)(e:HE w=some f):v=f/\C9 v=true:=by
 cases t <;> first | cases e;exact⟨rfl,rfl⟩| cases e
theorem HF:∀{xs ys:List W}{b:Bool},A1 xs ys=some b->∃ e:Nat->Bool,(∀(i:Nat)x y,xs[i]?=some x->ys[i]?=some y->eqD x y=some (e i))/\b=((List.range (min xs.length ys.length)).all e&&xs.length==ys.length)
 | [],[],b,h=>by
  cases(h);exact⟨λ_=>true,λi x y h1 h2=>by simp at h1,by simp⟩
 | [],_::_,b,h=>by
  cases(h);exact⟨λ_=>true,λi x y h1 h2=>by simp at h1,by simp⟩
 | _::_,[],b,h=>by
  cases(h);exact⟨λ_=>true,λi x y h1 h2=>by simp at h2,by simp⟩
 | x::xs,y::ys,b,h=>by
  have h':(match eqD x y,A1 xs ys with | some a,some b=>some (a&&b)| _,_=>none)=some b:=by rw[<- h];rfl
  cases d:eqD x y with
  | none=>rw[d]at h';cases h'
  | some a =>
   cases g:A1 xs ys with
   | none=>rw[d,g]at h';cases h'
   | some c =>
    rw[d,g]at h';cases h';obtain⟨f,m,hc⟩:=HF g;refine⟨λi=>match i with | 0=>a | j+1=>f j,λi k l h1 h2=>?_,?_⟩
    ·cases i with
     | zero=>simp at h1 h2;subst h1;subst h2;exact d
     | succ j=>exact m j k l (by simpa using h1) (by simpa using h2)
    ·have n:min (x::xs).length (y::ys).length=min xs.length ys.length+1:=by simp only[Yg];lia
     rw[n,List.range_succ_eq_map,List.all_cons,List.all_map,hc];have o:((x::xs).length==(y::ys).length)=(xs.length==ys.length):=by simp
     rw[o,Bool.and_assoc];rfl
theorem O5:∀(xs:List W),(∀ x∈xs,eqD x x=some true\/eqD x x=none)->A1 xs xs=some true\/A1 xs xs=none
 | [],_=>.inl rfl
 | x::xs,h=>by
  have e:A1 (x::xs) (x::xs)=(match eqD x x,A1 xs xs with | some a,some b=>some (a&&b)| _,_=>none):=rfl;rw[e];rcases h x Ye with h1 | h1
  ·rcases O5 xs (λy c=>h y (Yd _ c))with h2 | h2
   ·rw[h1,h2];exact .inl rfl
   ·rw[h1,h2];exact .inr rfl
  ·rw[h1];exact .inr rfl
theorem O6:∀(x:W),eqD x x=some true\/eqD x x=none
 | .non=>.inl rfl
 | .bl b|.int b|.str b=>.inl (by show some (b==b)=_;simp)
 | .tup xs=>O5 xs (λx _=>O6 x)
 | .rol _|.ref _=>.inr rfl
theorem EK:∀{xs:List W}{x:W},x∈xs->dpW x<=dpL xs
 | y::xs,x,h=>by
  rcases Yo.mp h with rfl | h
  ·exact Nat.le_max_left ..
  ·exact Yt (EK h) (Nat.le_max_right ..)
theorem cX:∀(c:List W)(ys:List W)(vs:List V),(∀(v:V)(w y:W),w∈c->Tr K H v w->Tr K H v y->eqD w y≠none->w=y)->TrL K H vs c->TrL K H vs ys->A1 c ys≠none->c=ys:=by
 intro c;induction c with
 | nil =>
  intro ys vs _ l d _;cases l;cases d;rfl
 | cons w c g =>
  intro ys vs h l d ne;cases l with
  | cons t l =>
   cases d with
   | @cons _ y _ ys t' d =>
    have e:A1 (w::c) (y::ys)=(match eqD w y,A1 c ys with | some a,some b=>some (a&&b)| _,_=>none):=rfl;have h1:eqD w y≠none:=λz=>ne (by rw[e,z]);have h2:A1 c ys≠none:=λz=>ne (by rw[e,z];cases eqD w y <;> rfl);rw[h _ w y Ye t t' h1,g ys _ (λv w y f=>h v w y (Yd _ f)) l d h2]
theorem cY{σ:St}(I:Inv X pins σ H s)(n:Nat):∀(v:V)(w y:W),dpW w < n->Tr X.K H v w->Tr X.K H v y->eqD w y≠none->w=y:=by
 induction n with
 | zero=>intro v w y h;exact Qo h (Nat.not_lt_zero _)
 | succ n i =>
  intro v w y h tw ty ne;cases tw with
  | tup g l =>
   rename_i a m d;generalize b:V.ref a=vr at ty;cases ty with
   | tup c f =>
    cases b;have e:=I.tuple_inj g c;subst e;have k:dpL d+1 < n+1:=h;rw[cX d _ _ (λv w y j=>i v w y (by have:=EK j;lia)) l f ne]
   | rol _ _|ref _=>exact Qo rfl ne
   | non|bl _|int _|str _=>cases b
  | rol _ _|ref _=>exact Qo (by cases y <;> rfl) ne
  | non|bl _|int _|str _=>cases ty;rfl
theorem O7{σ:St}(I:Inv X pins σ H s)(n:Nat):∀(w y:W)(v u:V)(B D:Value)(b:Bool)(A:Around),dpW w < n->Tr X.K H v w->Tr X.K H u y->RelV v B->RelV u D->eqD w y=some b->A.units+n < cLine->SeqAt.EqAt A s B D b:=by
 induction n with
 | zero=>intro w _ _ _ _ _ _ _ h;exact Qo h (Nat.not_lt_zero _)
 | succ n ih =>
  intro w y v u B D b A h tw ty k m e hu;cases tw with
  | tup i l =>
   cases ty with
   | tup p G =>
    rename_i a vs q Q us ys;cases k;cases m;by_cases o:a=Q
    ·subst o;have ew:=cY I (dpW (.tup q)+1) _ _ _ (Nat.lt_succ_self _) (.tup i l) (.tup p G) (by rw[e];simp);cases ew;rcases O6 (.tup q)with z | z
     ·rw[e]at z;cases z;exact SeqAt.EqAt.same _
     ·rw[e]at z;cases z
    ·obtain⟨d,r1,p1,_⟩:=I.tuple i;obtain⟨g,N,p2,_⟩:=I.tuple p;obtain⟨f,T,S⟩:=HF (e);have l1:=r1.length;have l2:=N.length;have l3:=l.length;have l4:=G.length;refine SeqAt.EqAt.of_refs o ?_;have key:=SeqAt.RcAt.tuples (A:=A) (e:=f) (p1) (p2) (by lia) (λj h1 h2=>?_)
     ·rw[S];have R:d.toArray.size=q.length:=by rw[Yn];lia
      have e2:g.toArray.size=ys.length:=by rw[Yn];lia
      rw[R,e2]at key;exact key
     ·have J:j < q.length:=by rw[Yn]at h1;lia
      have O:j < ys.length:=by rw[Yn]at h2;lia
      obtain⟨v1,g1,P⟩:=l.get (Yp J);obtain⟨v2,g2,t2⟩:=G.get (Yp O);obtain⟨Y,g3,L⟩:=r1.get g1;obtain⟨U,g4,r⟩:=N.get g2
      have F:d.toArray[j]=Y:=by
       have z:d[j]?=some d[j]:=Yp (by lia);rw[g3]at z;have E:=YE z;rw[E];simp
      have x:g.toArray[j]=U:=by
       have z:g[j]?=some g[j]:=Yp (by lia);rw[g4]at z;have E:=YE z;rw[E];simp
      rw[F,x];have hd:=EK (Qh J);have Z:dpL q+1 < n+1:=h;exact ih _ _ _ _ _ _ _ A.in1 (by lia) P t2 L r (T j _ _ (Yp J) (Yp O)) (by show A.units+1+n < cLine;lia)
   | str _ =>
    cases e;cases k;obtain⟨t,rfl⟩:=m;obtain⟨d,r1,p1,_⟩:=I.tuple i;exact SeqAt.EqAt.tuple_str _ _ p1 (by lia)
   | bl _ =>
    cases e;cases k;cases m;obtain⟨d,r1,p1,_⟩:=I.tuple i;exact SeqAt.EqAt.tuple_bool _ p1 (by lia)
   | int _ =>
    cases e;cases k;obtain⟨t,rfl⟩:=m;obtain⟨d,r1,p1,_⟩:=I.tuple i;exact SeqAt.EqAt.tuple_int _ _ p1 (by lia)
   | _=>cases e
  | non=>cases ty <;> cases e <;> exact Ga k m rfl rfl
  | bl c =>
   cases ty with
   | tup i l =>
    cases e;cases k;cases m;obtain⟨d,r1,p1,_⟩:=I.tuple i;exact SeqAt.EqAt.bool_tuple _ p1 (by lia)
   | _=>cases e <;> exact Ga k m rfl rfl
  | int c =>
   cases ty with
   | tup i l =>
    cases e;cases m;obtain⟨t,rfl⟩:=k;obtain⟨d,r1,p1,_⟩:=I.tuple i;exact SeqAt.EqAt.int_tuple _ _ p1 (by lia)
   | _=>cases e <;> exact Ga k m rfl rfl
  | str c =>
   cases ty with
   | tup i l =>
    cases e;cases m;obtain⟨t,rfl⟩:=k;obtain⟨d,r1,p1,_⟩:=I.tuple i;exact SeqAt.EqAt.str_tuple _ _ p1 (by lia)
   | _=>cases e <;> exact Ga k m rfl rfl
  | rol _ _|ref _=>cases y <;> cases e
noncomputable def rSq(K:PySem.W.Frag)(neg:Bool):R2:=λv u H Q=>∃(a b:Addr)(vs us:List V)(ws ys:List W)(c:Bool),v=.ref a/\u=.ref b/\((SqT K H a vs/\SqT K H b us)\/(SqL K H a vs/\SqL K H b us))/\TrL K H vs ws/\TrL K H us ys/\dpL ws < 90/\A1 ws ys=some c/\Q (.bl (c != neg)) H
theorem HG{σ:St}(I:Inv X pins σ H s){A:Around}(r1:Vals vs b)(o:Vals n a)(t1:TrL X.K H vs c)(t2:TrL X.K H n ys)(hd:dpL c < 90)(F:A.units+100 < cLine){f:Nat->Bool}(q:∀(i:Nat)x y,c[i]?=some x->ys[i]?=some y->eqD x y=some (f i))(j:Nat)(h1:j < b.toArray.size)(h2:j < a.toArray.size):SeqAt.EqAt A.in1 s b.toArray[j] a.toArray[j] (f j):=by
 have E:=r1.length;have D:=o.length;have u:=t1.length;have B:=t2.length;have k:j < c.length:=by rw[Yn]at h1;lia
 have p:j < ys.length:=by rw[Yn]at h2;lia
 obtain⟨v,g1,g⟩:=t1.get (Yp k);obtain⟨w,g2,m⟩:=t2.get (Yp p);obtain⟨r,g3,l⟩:=r1.get g1;obtain⟨t,g4,d⟩:=o.get g2
 have h:b.toArray[j]=r:=by
  have z:b[j]?=some b[j]:=Yp (by lia);rw[g3]at z;rw[YE z];simp
 have e:a.toArray[j]=t:=by
  have z:a[j]?=some a[j]:=Yp (by lia);rw[g4]at z;rw[YE z];simp
 rw[h,e];exact O7 I 99 _ _ _ _ _ _ _ A.in1 (by have:=EK (Qh k);lia) g m l d (q j _ _ (Yp k) (Yp p)) (by lia)
theorem cZ(w:X.A.units+100 < cLine):OpR X (compareOp .Eq) (rSq X.K false):=by
 intro pins s σ H x y v u Q I z B h;obtain⟨a,b,N,J,o,ys,c,rfl,rfl,D,m,p,hd,e,q⟩:=h;cases z;cases B;obtain⟨f,t,n⟩:=HF e;have G:=m.length;have L:=p.length;have j:∀ d:Bool,d=c->EP X pins σ Q (.bool d) s:=λd hd=>by subst hd;exact⟨.bl d,H,I,rfl,by simpa using q⟩
 rcases D with⟨h1,h2⟩|⟨h1,h2⟩
 ·obtain⟨i,r1,p1,_⟩:=I.tuple h1;obtain⟨g,k,p2,_⟩:=I.tuple h2;have F:=r1.length;have E:=k.length;refine SeqAt.eq_tupleAt (p1) (p2) (by lia) (HG I r1 k m p hd w t) (j _ ?_);have l:i.toArray.size=o.length:=by rw[Yn];lia
  have r:g.toArray.size=ys.length:=by rw[Yn];lia
  rw[l,r,n]
 ·obtain⟨i,r1,p1,_⟩:=I.list h1;obtain⟨g,k,p2,_⟩:=I.list h2;have F:=r1.length;have E:=k.length;have l:i.toArray.size=o.length:=by rw[Yn];lia
  have r:g.toArray.size=ys.length:=by rw[Yn];lia
  by_cases hl:o.length=ys.length
  ·refine SeqAt.eq_listAt p1.isList p2.isList (by lia) (by lia) (HG I r1 k m p hd w t) (j _ ?_);rw[l,n,hl];simp
  ·refine SeqAt.eq_list_lengthsAt p1.isList p2.isList (by rw[l,r];simpa using hl) (by lia) (j _ ?_);rw[n];simp[hl]
theorem c0(w:X.A.units+100 < cLine):OpR X (compareOp .NotEq) (rSq X.K true):=by
 intro pins s σ H x y v u Q I z B h;obtain⟨a,b,N,J,o,ys,c,rfl,rfl,D,m,p,hd,e,q⟩:=h;cases z;cases B;obtain⟨f,t,n⟩:=HF e;have G:=m.length;have L:=p.length;have j:∀ d:Bool,d=!c->EP X pins σ Q (.bool d) s:=λd hd=>by subst hd;exact⟨.bl _,H,I,rfl,by simpa using q⟩
 rcases D with⟨h1,h2⟩|⟨h1,h2⟩
 ·obtain⟨i,r1,p1,_⟩:=I.tuple h1;obtain⟨g,k,p2,_⟩:=I.tuple h2;have F:=r1.length;have E:=k.length;refine SeqAt.RcNeAt.tuples (p1) (p2) (by lia) (HG I r1 k m p hd w t) _ _ _ _ (j _ ?_);have l:i.toArray.size=o.length:=by rw[Yn];lia
  have r:g.toArray.size=ys.length:=by rw[Yn];lia
  rw[l,r,n]
 ·obtain⟨i,r1,p1,_⟩:=I.list h1;obtain⟨g,k,p2,_⟩:=I.list h2;have F:=r1.length;have E:=k.length;have l:i.toArray.size=o.length:=by rw[Yn];lia
  have r:g.toArray.size=ys.length:=by rw[Yn];lia
  by_cases hl:o.length=ys.length
  ·refine SeqAt.RcNeAt.lists p1.isList p2.isList (by lia) (by lia) (HG I r1 k m p hd w t) _ _ _ _ (j _ ?_);rw[l,n,hl];simp
  ·refine SeqAt.RcNeAt.lists_lengths p1.isList p2.isList (by rw[l,r];simpa using hl) (by lia) _ _ _ _ (j _ ?_);rw[n];simp[hl]
noncomputable def eqW(x y:W)(G:Hw):Option Bool:=match x,y with
 | .tup xs,.tup ys=>if dpL xs < 90 then A1 xs ys else none
 | .ref a,.ref b=>(match G a,G b with
  | some (.lst xs),some (.lst ys)=>if dpL xs < 90 then A1 xs ys else none
  | _,_=>none)
 | .int a,.int b|.bl a,.bl b|.str a,.str b=>some (a==b)
 | .non,.non=>some true
 | .int _,.non|.non,.int _|.int _,.str _|.str _,.int _|.bl _,.str _|.str _,.bl _|.non,.str _|.str _,.non|.non,.bl _|.bl _,.non=>some false
 | _,_=>none
noncomputable def eqF(neg:Bool)(x y:W)(G:Hw):Option W:=(eqW x y G).map λc=>.bl (c != neg)
theorem O8(c:Bool):(c != true)=!c:=by cases c <;> rfl
theorem KA(neg:Bool)(x y:W)(v u:V)(G:Hw)(H:Hp)(Q:VK)(m:Tr K H v x)(ty:Tr K H u y)(r:RelH K H G)(q:Ae (eqF neg) x y G (dn K H Q)):(EH v u=true/\Q (.bl (decide (v=u) != neg)) H)\/rSq K neg v u H Q:=by
 obtain⟨w,e,s⟩:=B6 q;obtain⟨c,d,B⟩:=YR.mp e;subst B;have qq:=s (.bl (c != neg)) H .refl (.bl _) r;have f:∀{i j:V},decide (i=j)=c->EH i j=true->(EH i j=true/\Q (.bl (decide (i=j) != neg)) H)\/rSq K neg i j H Q:=λ{i j}h1 h2=>.inl ⟨h2,by rw[h1];exact qq⟩;cases m with
 | tup t l =>
  cases ty with
  | tup h o =>
   unfold eqW at d;dsimp only at d;split at d
   ·rename_i hd;exact .inr ⟨_,_,_,_,_,_,c,rfl,rfl,.inl ⟨t,h⟩,l,o,hd,d,qq⟩
   ·cases d
  | _=>cases d
 | ref a =>
  cases ty with
  | ref b =>
   unfold eqW at d;dsimp only at d;cases g:G a with
   | none=>rw[g]at d;cases d
   | some k =>
    cases eb:G b with
    | none=>rw[g,eb]at d;cases k <;> cases d
    | some A =>
     rw[g,eb]at d;cases k <;> cases A <;> try cases d
     dsimp only at d;split at d
     ·rename_i hd;obtain⟨E,z,n⟩:=r a _ g;obtain⟨F,p,D⟩:=r b _ eb;exact .inr ⟨_,_,_,_,_,_,c,rfl,rfl,.inr ⟨SqL.of z,SqL.of p⟩,n,D,hd,d,qq⟩
     ·cases d
  | _=>cases d
 | rol _ _=>cases y <;> cases d
 | non=>cases ty <;> cases d <;> exact f (by simp) rfl
 | bl b=>cases ty <;> cases d <;> exact f (by first | exact JY | simp) rfl
 | int b=>cases ty <;> cases d <;> exact f (by first | exact JX | simp) rfl
 | str b=>cases ty <;> cases d <;> exact f (by first | exact JZ | simp) rfl
theorem O9(c:X.A.units+100 < cLine):OpR X (compareOp .Eq) (λx y H Q=>(EH x y=true/\Q (.bl (decide (x=y) != false)) H)\/rSq X.K false x y H Q):=by
 intro pins s σ H x y v u Q I a b h;rcases h with⟨h1,h2⟩| h
 ·exact Y4 pins s σ H x y v u Q I a b ⟨h1,by simpa using h2⟩
 ·exact cZ c pins s σ H x y v u Q I a b h
theorem c5(c:X.A.units+100 < cLine):OpR X (compareOp .NotEq) (λx y H Q=>(EH x y=true/\Q (.bl (decide (x=y) != true)) H)\/rSq X.K true x y H Q):=by
 intro pins s σ H x y v u Q I a b h;rcases h with⟨h1,h2⟩| h
 ·exact Y5 pins s σ H x y v u Q I a b ⟨h1,by rw[<- O8];exact h2⟩
 ·exact c0 c pins s σ H x y v u Q I a b h
section
variable {a:Expr}
noncomputable def DU(G:Hw)(w:W):Option (List W):=match w with
 | .tup xs|.rol xs=>some xs
 | .ref a=>(match G a with | some (.lst xs)=>some xs | _=>none)
 | _=>none
theorem KB(r:RelH K H G)(t:Tr K H v w)(e:DU G w=some xs):∃ a vs,v=.ref a/\(SqL K H a vs\/SqT K H a vs)/\TrL K H vs xs:=by
 cases t with
 | tup h l=>cases e;exact⟨_,_,rfl,.inr h,l⟩
 | rol h l=>cases e;exact⟨_,_,rfl,.inl h.sq,l⟩
 | ref a =>
  unfold DU at e;dsimp only at e;cases z:G a with
  | none=>rw[z]at e;cases e
  | some o =>
   rw[z]at e;cases o with
   | lst ys=>cases e;obtain⟨vs,b,c⟩:=r a _ z;exact⟨a,vs,rfl,.inl (SqL.of b),c⟩
   | exc C|ins C fs|dct d=>cases e
 | _=>cases e
noncomputable def Ft:List W->Option (List V)
 | []=>some []
 | w::ws=>(HE w).bind λv=>(Ft ws).map (v::·)
theorem Pa:∀{b:List W}{vs a:List V},Ft b=some a->TrL K H vs b->vs=a/\vs.all C9=true
 | [],vs,a,e,t=>by cases e;cases t;exact⟨rfl,rfl⟩
 | w::b,vs,a,e,t=>by
  cases t with
  | cons tw t =>
   obtain⟨f,i,j⟩:=Qd.mp (e);obtain⟨fs,h,c⟩:=YR.mp j;obtain⟨h1,h2⟩:=O4 tw i;obtain⟨d,g⟩:=Pa h t;subst c;exact⟨by rw[h1,d],by rw[List.all_cons,h2,g];rfl⟩
noncomputable def inF(neg:Bool)(x y:W)(G:Hw):Option W:=(HE x).bind λv=>(DU G y).bind λxs=>(Ft xs).map λus=>.bl (if neg then !inV v us else inV v us)
theorem c6(neg:Bool)(x y:W)(v u:V)(G:Hw)(H:Hp)(Q:VK)(b:Tr K H v x)(ty:Tr K H u y)(r:RelH K H G)(q:Ae (inF neg) x y G (dn K H Q)):rIn K neg v u H Q:=by
 obtain⟨w,e,d⟩:=B6 q;obtain⟨f,c,n⟩:=Qd.mp e;obtain⟨xs,l,g⟩:=Qd.mp n;obtain⟨p,o,m⟩:=YR.mp g;subst m;obtain⟨h1,h2⟩:=O4 b c;obtain⟨a,i,rfl,k,t⟩:=KB r ty l;obtain⟨h,j⟩:=Pa o t;subst h1;subst h;exact⟨a,i,rfl,k,h2,j,d _ H .refl (.bl _) r⟩
end
section
variable {X:Cx}{a b e o i:Expr}{ga gv go gi:GE}{gt:GT}{g:GS}
noncomputable def Gh(gt:GT)(g:GS):GS:=λD ω G=>∃ W:Nat->Sw->Hw->Prop,(∃ m,W m ω G)/\∀ m ω G,W m ω G->
 gt ω G λb G1=>if b=true then g {nx:=λω' G'=>∃ m',m' < m/\W m' ω' G',rt:=D.rt,bk:=D.nx,ct:=λω' G'=>∃ m',m' < m/\W m' ω' G'} ω G1 else D.nx ω G1
theorem c7(h:gt.M)(e:g.M):GS.M (Gh gt g):=λω G D j h1 h2 k l⟨W,f,c⟩=>⟨W,f,λm ω G w=>h _ _ _ _ (λb i z=>by
 cases b with
 | true=>exact e _ _ {nx:=λω' d=>∃ a,a < m/\W a ω' d,rt:=D.rt,bk:=D.nx,ct:=λω' d=>∃ a,a < m/\W a ω' d} _ (λ_ _ y=>y) h2 h1 (λ_ _ y=>y) z
 | false=>exact h1 _ _ z) (c m ω G w)⟩
theorem c8(x:PassesOwn (model X.prog X.w) X.A X.env X.xe)(s:gt.M)(E:g.M)(hc:PTw X c gt)(t:Dw X P sts g):PSw X P (.While c sts [] pos) (Gh gt g):=λB J=>
 CN (XU x hc (t B J)) <| by
  rintro D σ H ⟨ω,G,v,r,n,W,⟨F,u⟩,i⟩;refine⟨λm σ' H'=>Mono X.K B H'/\∃ ω' e,TrSt X.K H' σ' ω'/\RelH X.K H' e/\W m ω' e,⟨F,n,ω,G,v,r,u⟩,?_⟩;rintro m σ' H' ⟨p,ω',e,f,r',q⟩;refine⟨ω',e,f,r',s _ _ _ _ (λb I z H1 j r1=>?_) (i m ω' e q)⟩;cases b with
  | true =>
   refine⟨λσ2 H2=>∃ d,d < m/\Mono X.K B H2/\∃ ω2 o,TrSt X.K H2 σ2 ω2/\RelH X.K H2 o/\W d ω2 o,(by rintro σ2 H2 ⟨d,h1,h2⟩;exact⟨d,h1,h2⟩),ω',I,f.mono j,r1,p.trans j,?_⟩
   exact E _ _ {nx:=λω' e=>∃ d,d < m/\W d ω' e,rt:=(dnD X.K B D).rt,bk:=(dnD X.K B D).nx,ct:=λω' e=>∃ d,d < m/\W d ω' e} _
    ((by rintro a b ⟨d,h1,h2⟩ σ2 H2 l h k;exact⟨d,h1,l,a,b,h,k,h2⟩)) (λa b y=>y) (λa b y=>y) ((by rintro a b ⟨d,h1,h2⟩ σ2 H2 l h k;exact⟨d,h1,l,a,b,h,k,h2⟩)) z
  | false =>
   exact z σ' H1 (p.trans j) (f.mono j) r1
theorem c9(b:PassesOwn (model X.prog X.w) X.A X.env X.xe)(hc:Tm X c gt)(a:Ssm X P sts g):Sm X P (.While c sts [] pos) (Gh gt g):=⟨c8 b hc.m a.m hc.p a.p,c7 hc.m a.m⟩
noncomputable def EL(ω:Sw)(i:Nat):Option W:=match ω[i]? with | some (some w)=>some w | _=>none
theorem da(ts:TrSt K H σ ω)(e:EL ω n=some w):∃ v,σ[n]?=some (some v)/\Tr K H v w:=by
 unfold EL at e;split at e
 ·rename_i u z;cases e;exact ts.get n _ z
 ·cases e
noncomputable def BP(n:Nat)(r:RW2)(ga:GE):GS:=λD ω G=>opt (EL ω n) λx=>ga ω G λy G1=>r x y G1 λz G2=>D.nx (ω.set n (some z)) G2
theorem db(b:r.M)(c:ga.M):GS.M (BP n r ga):=λω G D f h1 _ _ _ q=>Ku (λx q=>c _ _ _ _ (λy d z=>b _ _ _ _ _ (λw e a=>h1 _ _ a) z) q) q
theorem de{a:R2}(o:OpR X (inplaceOp op) a)(k:r.M)(A:∀(x y:W)(v u:V)(G:Hw)(H:Hp)(Q:VK),Tr X.K H v x->Tr X.K H u y->RelH X.K H G->r x y G (dn X.K H Q)->a v u H Q)(d:X.N.Nodup)(hi:X.N[n]?=some x)(p:Loc X.env.scope x)(g:X.fn x=true\/X.env.scope.names.lookup x=some .local)(l:ga.M)(E:PEw X e ga):PSw X P (.AugAssign (.Name x pos') op e pos) (BP n r ga):=λB Y=>
 CN (XS d hi p E (λpins s σ H x y v u Q I r1 a h=>o pins s σ H x y v u Q I r1 a h) g) <| by
  rintro D σ H ⟨ω,G,b,O,F,q⟩;obtain⟨w,f,q⟩:=B6 q;obtain⟨v,R,t⟩:=da b f;refine⟨v,R,ω,G,b,O,l _ _ _ _ (λy J z u H1 m i r1=>?_) q⟩;exact A w y v u J H1 _ (t.mono m) i r1 (k _ _ _ _ _ (λU S j T H2 c L a=>j _ H2 ((F.trans m).trans c) (((b.mono m).mono c).set n L) a) z)
noncomputable def BY:RW2:=λx y G Q=>match x,y with
 | .int i,.int j=>Q (.int (i+j)) G
 | .str a,.str b=>a.length+b.length<=sizeLine/\Q (.str (a++b)) G
 | _,_=>False
theorem Pc:RW2.M BY:=λx y G Q a h q=>by
 cases x <;> cases y <;> first | exact q | exact h _ _ q | exact⟨q.1,h _ _ q.2⟩
theorem df(x y:W)(v u:V)(G:Hw)(H:Hp)(Q:VK)(a:Tr K H v x)(ty:Tr K H u y)(r:RelH K H G)(q:BY x y G (dn K H Q)):
  (rI0 λi j=>.int (i+j)) v u H Q\/(∃ i j,v=.str i/\u=.str j/\i.length+j.length<=sizeLine/\Q (.str (i++j)) H):=by
 cases a with
 | int i=>cases ty <;> first | exact q.elim | exact .inl ⟨_,_,rfl,rfl,q _ H .refl (.int _) r⟩
 | str i=>cases ty <;> first | exact q.elim | exact .inr ⟨_,_,rfl,rfl,q.1,q.2 _ H .refl (.str _) r⟩
 | _=>exact q.elim
noncomputable def Dc(o k v:W)(G:Hw)(Q:Hw->Prop):Prop:=match o,k with
 | .ref a,.int j=>(match G a with
  | some (.lst xs)=>(match ixN xs.length j with | some n=>Q (put G a (.lst (xs.set n v)))| none=>False)
  | _=>False)
 | _,_=>False
theorem Pd{o:W}(q:Dc o k v G Q):∃ a j xs n,o=.ref a/\k=.int j/\G a=some (.lst xs)/\ixN xs.length j=some n/\Q (put G a (.lst (xs.set n v))):=by
 unfold Dc at q;split at q
 ·split at q
  ·rename_i xs e;split at q
   ·rename_i n b;exact⟨_,_,xs,n,rfl,rfl,e,b,q⟩
   ·exact q.elim
  ·exact q.elim
 ·exact q.elim
theorem KC{a:Addr}(e:G a=some (.lst xs))(b:ixN xs.length j=some n)(q:Q (put G a (.lst (xs.set n v)))):Dc (.ref a) (.int j) v G Q:=by
 unfold Dc;dsimp only;rw[e];dsimp only;rw[b];exact q
theorem dg{o:W}{b:Hw->Prop}(h:∀ G,Q G->b G)(q:Dc o k v G Q):Dc o k v G b:=by
 obtain⟨a,j,xs,n,rfl,rfl,e,c,q⟩:=Pd q;exact KC e c (h _ q)
theorem dh{o:W}(g:Tr K H x v)(ty:Tr K H y o)(h:Tr K H u k)(r:RelH K H G)(q:Dc o k v G Pq)(f:∀ d c,Mono K H c->RelH K c d->Pq d->R c):N6 y u x H R:=by
 obtain⟨a,j,xs,n,rfl,rfl,e,l,q⟩:=Pd q;cases ty;cases h;obtain⟨i,b,t⟩:=r a _ e;exact⟨a,i,j,n,rfl,rfl,b,by rw[t.length];exact l,f _ _ (Mono.lst b _) (r.chg b (TrL.set g n t)) q⟩
noncomputable def Ci(gv go gi:GE):GS:=λD ω G=>gv ω G λv G1=>go ω G1 λo G2=>gi ω G2 λk G3=>Dc o k v G3 λG4=>D.nx ω G4
theorem di(b:gv.M)(c:go.M)(a:gi.M):GS.M (Ci gv go gi):=λω G D g h1 _ _ _ q=>
 b _ _ _ _ (λv e z=>c _ _ _ _ (λo f z=>a _ _ _ _ (λk d z=>dg (λh z=>h1 _ _ z) z) z) z) q
theorem dj(F:∀ v,assign (.Subscript o i pos') X.env v=(do
   let ov <- holding [v] (eval o X.env)
   let iv <- holding [v,ov] (eval i X.env)
   standAt pos'
   holding [v,ov,iv] (setItem ov iv v)
   release [v,ov,iv] []))(hs:swapsWithSole [.Subscript o i pos'] e pos.line X.env=pure false)(hw:swappedStores [.Subscript o i pos'] e X.env=pure none)(h1:(assignEach [.Subscript o i pos'] X.env).map (·.2)=[assign (.Subscript o i pos') X.env])(f:Em X e gv)(g:Em X o go)(hi:Em X i gi):Sm X P (.Assign [.Subscript o i pos'] e pos) (Ci gv go gi):=
 ⟨λB R=>CN (JU f.p (NI g.p hi.p ZJ F) hs hw h1) λD σ H⟨ω,G,c,r,I,q⟩=>⟨ω,G,c,r,f.m _ _ _ _ (λv J z x H1 a E r1=>
  ⟨ω,J,c.mono a,r1,g.m _ _ _ _ (λL j t y H2 d ty s=>
   ⟨ω,j,(c.mono a).mono d,s,hi.m _ _ _ _ (λk Q l u O b w K=>
    dh ((E.mono d).mono b) (ty.mono b) w K l (λN A h n q4=>q4 σ A ((((I.trans a).trans d).trans b).trans h) ((((c.mono a).mono d).mono b).mono h) n)) t⟩) z⟩) q⟩,di f.m g.m hi.m⟩
abbrev GO:=Sw->Hw->(Option Int->Hw->Prop)->Prop
noncomputable def GO.M(g:GO):Prop:=∀ ω G(Q Q':Option Int->Hw->Prop),(∀ w G',Q w G'->Q' w G')->g ω G Q->g ω G Q'
noncomputable def dnO(K:PySem.W.Frag)(H:Hp)(Q:Option Int->Hp->Prop):Option Int->Hw->Prop:=λb G=>∀ H',Mono K H H'->RelH K H' G->Q b H'
noncomputable def upO(K:PySem.W.Frag)(g:GO):TO:=λσ H Q=>∃ ω G,TrSt K H σ ω/\RelH K H G/\g ω G (dnO K H Q)
structure Om(X:Cx)(e:Option Expr)(g:GO):Prop where
 p:PO X e (upO X.K g)
 m:g.M
def Au:GO:=λ_ G Q=>Q none G
noncomputable def Av(ga:GE):GO:=λω G Q=>ga ω G λw G1=>match w with | .int j=>Q (some j) G1 | _=>False
theorem dk:Om X none Au:=⟨(by rintro pins s σ H Q I ⟨ω,G,a,r,q⟩;exact ZA pins s σ H Q I (q H .refl r)),λ_ _ _ _ h q=>h _ _ q⟩
theorem dq(h:Em X e ga):Om X (some e) (Av ga):=⟨λpins s σ H Q I⟨ω,G,c,r,q⟩=>ZC h.p pins s σ H Q I ⟨ω,G,c,r,h.m _ _ _ _ (λw b z v H1 m t r1=>by
  cases w with
  | int j=>exact⟨j,OJ t,z H1 m r1⟩
  | _=>exact z.elim) q⟩,λω G Q d a q=>h.m _ _ _ _ (λw b z=>by cases w <;> first | exact a _ _ z | exact z) q⟩
noncomputable def Bz{α:Type}(xs:List α)(lo hi:Option Int):List α:=(xs.drop (HT.sIx xs.length 0 lo)).take (HT.sIx xs.length xs.length hi - HT.sIx xs.length 0 lo)
noncomputable def slW(w:W)(lo hi:Option Int)(G:Hw)(Q:Kw):Prop:=match w with
 | .tup xs=>¬ (HT.sIx xs.length 0 lo=0/\HT.sIx xs.length xs.length hi=xs.length)/\Q (.tup (Bz xs lo hi)) G
 | .rol xs=>∀ p,G p=none->Q (.ref p) (put G p (.lst (Bz xs lo hi)))
 | .ref a=>(match G a with | some (.lst xs)=>∀ p,G p=none->Q (.ref p) (put G p (.lst (Bz xs lo hi)))| _=>False)
 | _=>False
theorem HH{lo:Option Int}(h:∀ w c,Q w c->d w c)(q:slW w lo hi G Q):slW w lo hi G d:=by
 cases w with
 | tup xs=>exact⟨q.1,h _ _ q.2⟩
 | rol xs=>exact λp b=>h _ _ (q p b)
 | ref a =>
  unfold slW at q ⊢;dsimp only at q ⊢;cases e:G a with
  | none=>rw[e]at q;exact q.elim
  | some g =>
   rw[e]at q;cases g with
   | lst xs=>exact λp b=>h _ _ (q p b)
   | exc C|ins C fs|dct f=>exact q.elim
 | _=>exact q.elim
theorem TrL.cut{a:List W}(t:TrL K H vs a)(lo hi:Option Int):TrL K H (Fi vs lo hi) (Bz a lo hi):=by
 unfold Fi Bz;rw[t.length];exact(t.drop _).take _
theorem HI{lo:Option Int}(t:Tr K H v w)(r:RelH K H G)(q:slW w lo hi G (dn K H Q)):J7 K v lo hi H Q\/Ke K v lo hi H Q:=by
 cases t with
 | tup h l =>
  exact .inl ⟨_,_,rfl,h,by rw[l.length];exact q.1,λp b=>q.2 _ _ (Mono.new b _) (.tup (SqT.of BJ) ((l.cut lo hi).mono (Mono.new b _))) (r.mono0 b)⟩
 | rol h l=>exact .inr ⟨_,_,rfl,h.sq,λp b=>q p (r.no b) _ _ (Mono.new b _) (.ref p) (r.new b (l.cut lo hi))⟩
 | ref a =>
  unfold slW at q;dsimp only at q;cases e:G a with
  | none=>rw[e]at q;exact q.elim
  | some f =>
   rw[e]at q;cases f with
   | lst xs =>
    obtain⟨g,c,l⟩:=r a _ e;exact .inr ⟨_,_,rfl,SqL.of c,λp b=>q p (r.no b) _ _ (Mono.new b _) (.ref p) (r.new b (l.cut lo hi))⟩
   | exc C|ins C fs|dct d=>exact q.elim
 | _=>exact q.elim
noncomputable def gSl(ga:GE)(gl gh:GO):GE:=λω G Q=>ga ω G λw G1=>gl ω G1 λlo G2=>gh ω G2 λhi G3=>slW w lo hi G3 Q
variable {X:Cx}{a c e o:Expr}{pos:Pos}{ga:GE} in
theorem dr{lo hi:Option Expr}{s o:GO}{p2:Pos}(c:Em X e ga)(hl:Om X lo s)(a:Om X hi o):Em X (.Subscript e (.Slice lo hi none p2) pos) (gSl ga s o):=
 ⟨A8 (N2 (SlR.or N4 N7) c.p hl.p a.p) λσ H Q⟨ω,G,g,r,q⟩=>⟨ω,G,g,r,c.m _ _ _ _ (λw k z v H1 b t r1=>⟨ω,k,g.mono b,r1,hl.m _ _ _ _ (λl n d H2 i y=>
   ⟨ω,n,(g.mono b).mono i,y,a.m _ _ _ _ (λh x f D j A=>HI ((t.mono i).mono j) A (HH (λw B z=>Cf ((b.trans i).trans j) z) f)) d⟩) z⟩) q⟩,
  λω G Q E h q=>c.m _ _ _ _ (λw k z=>hl.m _ _ _ _ (λl n d=>a.m _ _ _ _ (λu x f=>HH h f) d) z) q⟩
end
noncomputable abbrev UpW(K:PySem.W.Frag)(r:RW2)(r2:R2):Prop:=∀(x y:W)(v u:V)(G:Hw)(H:Hp)(Q:VK),Tr K H v x->Tr K H u y->RelH K H G->r x y G (dn K H Q)->r2 v u H Q
structure Cop(X:Cx)(op:CmpOp)(r:RW2):Prop where
 ex:∃ r2,OpR X (compareOp op) r2/\UpW X.K r r2
 m:r.M
def AW(a b:Str):Bool:=decide (a.cps.toList < b.cps.toList)
noncomputable def Ba(f:Int->Int->Bool)(g:Str->Str->Bool):RW2:=λx y G Q=>match x,y with
 | .int i,.int j=>Q (.bl (f i j)) G
 | .str i,.str j=>Q (.bl (g i j)) G
 | _,_=>False
theorem Pe:RW2.M (Ba f g):=λx y G Q a h q=>by
 cases x <;> cases y <;> first | exact q | exact h _ _ q
theorem Pf:UpW K (Ba f g) (λx y H Q=>rI0 (λi j=>.bl (f i j)) x y H Q\/∃ i j,x=.str i/\y=.str j/\Q (.bl (g i j)) H):=λx y v u G H Q a ty r q=>by
 cases a with
 | int i=>cases ty <;> first | exact q.elim | exact .inl ⟨_,_,rfl,rfl,q _ H .refl (.bl _) r⟩
 | str i=>cases ty <;> first | exact q.elim | exact .inr ⟨_,_,rfl,rfl,q _ H .refl (.bl _) r⟩
 | _=>exact q.elim
theorem dt:OpR X (compareOp .LtE) (λx y H Q=>∃ i j,x=.str i/\y=.str j/\Q (.bl (!AW j i)) H):=by
 intro pins s σ H x y v u Q I a b h;obtain⟨i,j,rfl,rfl,q⟩:=h;obtain⟨t,rfl⟩:=a;obtain⟨t',rfl⟩:=b;exact PySem.P.le_str ⟨.bl _,H,I,rfl,q⟩
theorem du:Cop X .Lt (Ba (λi j=>decide (i < j)) AW):=⟨⟨_,OpR.or Y6 Za,Pf⟩,Pe⟩
theorem dv:Cop X .LtE (Ba (λi j=>decide (i<=j)) (λa b=>!AW b a)):=⟨⟨_,OpR.or Y7 dt,Pf⟩,Pe⟩
theorem dw:Cop X .Gt (AV λi j=>decide (j < i)):=⟨⟨_,Y8,OU⟩,OT⟩
theorem dy:Cop X .GtE (AV λi j=>decide (j<=i)):=⟨⟨_,Y9,OU⟩,OT⟩
theorem dz(a:X.A.units+100 < cLine):Cop X .Eq (Ae (eqF false)):=⟨⟨_,O9 a,KA false⟩,CQ⟩
theorem dA(a:X.A.units+100 < cLine):Cop X .NotEq (Ae (eqF true)):=⟨⟨_,c5 a,KA true⟩,CQ⟩
theorem dB:Cop X .In (Ae (inF false)):=⟨⟨_,ZM,c6 false⟩,CQ⟩
section
variable {r r':RW2}{ga gb gc:GE}
theorem dD(C:Cop X op r)(e:behindInMarks op b=false)(d:Em X a ga)(c:Em X b gb):Em X (.Compare a [op] [b] pos) (Ad r ga gb):=
 let⟨_,h1,h2⟩:=C.ex
 ⟨aQ h1 C.m d.m c.m h2 d.p c.p e,Cg C.m d.m c.m⟩
theorem dE(C:Cop X op r)(e:behindInMarks op b=false)(d:Em X a ga)(c:Em X b gb):Tm X (.Compare a [op] [b] pos) (gTB (Ad r ga gb)):=
 let⟨_,h1,h2⟩:=C.ex
 ⟨bf h1 C.m d.m c.m h2 d.p c.p e,OI (Cg C.m d.m c.m)⟩
noncomputable def Cj(r r':RW2)(ga gb gc:GE):GE:=λω G Q=>ga ω G λx G1=>gb ω G1 λy G2=>r x y G2 λz G3=>match z with
 | .bl k=>if k=true then gc ω G3 λw G4=>r' y w G4 Q else Q (.bl false) G3
 | _=>False
theorem KD(c:r.M)(a:r'.M)(d:ga.M)(b:gb.M)(f:gc.M):GE.M (Cj r r' ga gb gc):=λω G Q l h q=>
 d _ _ _ _ (λx i z=>b _ _ _ _ (λy j z=>c _ _ _ _ _ (λe g z=>by
  cases e with
  | bl k =>
   cases k with
   | true=>exact f _ _ _ _ (λw m z=>a _ _ _ _ _ h z) z
   | false=>exact h _ _ z
  | _=>exact z) z) z) q
theorem Pg(u:UpW K r d)(L:UpW K r' a)(z:r.M)(i:r'.M)(A:ga.M)(N:gb.M)(E:gc.M)(σ:St)(H:Hp)(Q:VK)(h:up K (Cj r r' ga gb gc) σ H Q):J0 d a (up K ga) (up K gb) (up K gc) σ H Q:=by
 obtain⟨ω,G,g,R,q⟩:=h;refine⟨ω,G,g,R,A _ _ _ _ (λx P D v H1 b J r1=>⟨ω,P,g.mono b,r1,N _ _ _ _ (λy n t l H2 e ty d=>?_) D⟩) q⟩;refine u x y v l n H2 _ (J.mono e) ty d (z _ _ _ _ _ (λk I f X F c tk m=>?_) t);cases k with
 | bl k =>
  refine⟨k,Fp tk,?_⟩;cases k with
  | true =>
   refine⟨ω,I,((g.mono b).mono e).mono c,m,E _ _ _ _ (λw s S O B j tw p=>?_) f⟩;exact L y w l O s B Q ((ty.mono c).mono j) tw p (i _ _ _ _ _ (λT U o=>Cf (((b.trans e).trans c).trans j) o) S)
  | false =>
   exact f _ F ((b.trans e).trans c) (.bl false) m
 | _=>exact f.elim
theorem dF(C:Cop X op r)(d:Cop X op' r')(g:lastMarks [op,op'] [b,c]=false)(f:Em X a ga)(e:Em X b gb)(hc:Em X c gc):Em X (.Compare a [op,op'] [b,c] pos) (Cj r r' ga gb gc):=
 let⟨_,h1,h2⟩:=C.ex
 let⟨_,h3,h4⟩:=d.ex
 ⟨A8 (Ze h1 h3 f.p e.p hc.p g) (Pg h2 h4 C.m d.m f.m e.m hc.m),KD C.m d.m f.m e.m hc.m⟩
theorem dG(C:Cop X op r)(d:Cop X op' r')(g:lastMarks [op,op'] [b,c]=false)(f:Em X a ga)(e:Em X b gb)(hc:Em X c gc):Tm X (.Compare a [op,op'] [b,c] pos) (gTB (Cj r r' ga gb gc)):=
 let⟨_,h1,h2⟩:=C.ex
 let⟨_,h3,h4⟩:=d.ex
 ⟨Hz (Zf h1 h3 f.p e.p hc.p g) λσ H Q z=>Pg h2 h4 C.m d.m f.m e.m hc.m σ H _ (OL (KD C.m d.m f.m e.m hc.m) z),OI (KD C.m d.m f.m e.m hc.m)⟩
end
noncomputable abbrev UpC(K:PySem.W.Frag)(r:RWc)(r1:List V->Hp->VK->Prop):Prop:=∀ ws vs G H Q,TrL K H vs ws->RelH K H G->r ws G (dn K H Q)->r1 vs H Q
structure Blt(X:Cx)(f:Value)(r:RWc):Prop where
 ex:∃ r1,CallR X f r1/\UpC X.K r r1
 m:r.M
theorem Fu{id:String}(f:bootBuiltins x=some (.builtin id))(B:Blt X (.builtin id) r)(i:Gl X x)(h:X.mg x=none)(g:x≠"__name__")(b:(x==("__debug__":Str))=false)(d:starEach (e::es) X.env=(false,eval e X.env)::starEach es X.env)(a:(backTo pos (starEach es X.env)).any (·.1)=false)(c:Am X (e::es) gs):Em X (.Call (.Name x p) (e::es) [] pos) (gB r gs):=
 let⟨_,h1,h2⟩:=B.ex
 cR h1 B.m h2 i h f g b d a c
theorem Gi(f:bootBuiltins x=some (.type T))(B:Blt X (.type T) r)(i:Gl X x)(h:X.mg x=none)(g:x≠"__name__")(b:(x==("__debug__":Str))=false)(d:starEach (e::es) X.env=(false,eval e X.env)::starEach es X.env)(a:(backTo pos (starEach es X.env)).any (·.1)=false)(c:Am X (e::es) gs):Em X (.Call (.Name x p) (e::es) [] pos) (gB r gs):=
 let⟨_,h1,h2⟩:=B.ex
 cS h1 B.m h2 i h f g b d a c
theorem dH:Blt X (.builtin "len") (rF AK):=⟨⟨_,Zm,cW⟩,Gg⟩
theorem dI(hc:X.calm=true):Blt X (.builtin "all") (rF Be):=⟨⟨_,cP hc,cT⟩,Gg⟩
theorem dJ(hc:X.calm=true):Blt X (.builtin "sum") DT:=⟨⟨_,cQ hc,cV⟩,cU⟩
noncomputable def Fv:RWc:=λws G Q=>match ws with
 | [w]=>(match DU G w with | some xs=>∀ p,G p=none->Q (.ref p) (put G p (.lst xs))| none=>False)
 | _=>False
theorem dL:RWc.M Fv:=λb G Q c h q=>by
 unfold Fv at q ⊢;split at q
 ·split at q
  ·exact λp a=>h _ _ (q p a)
  ·exact q.elim
 ·exact q.elim
theorem dM:UpC K Fv (λxs H Q=>∃ p ys,xs=[.ref p]/\(SqL K H p ys\/SqT K H p ys)/\∀ l,H l=none->Q (.ref l) (upd H l (.lst ys))):=λf h G H Q t r q=>by
 unfold Fv at q;split at q
 ·rename_i g;split at q
  ·rename_i xs e;cases t with
   | cons tw t =>
    cases t;obtain⟨a,c,rfl,d,l⟩:=KB r tw e;exact⟨a,c,rfl,d,λp b=>q p (r.no b) _ _ (Mono.new b _) (.ref p) (r.new b l)⟩
  ·exact q.elim
 ·exact q.elim
theorem dN:Blt X (.type "list") Fv:=⟨⟨_,ZN,dM⟩,dL⟩
noncomputable def Bv(ws:List W)(G:Hw):Option W:=match ws with | [w]=>(DU G w).map W.tup | _=>none
theorem dO:UpC K (rF Bv) (λxs H Q=>∃ p ys,xs=[.ref p]/\((SqL K H p ys/\∀ l,H l=none->Q (.ref l) (upd H l (.tup ys)))\/(SqT K H p ys/\Q (.ref p) H))):=λi j G H Q t r q=>by
 obtain⟨w,e,d⟩:=B6 q;unfold Bv at e;split at e
 ·obtain⟨xs,g,h⟩:=YR.mp e;subst h;cases t with
  | cons tw t =>
   cases t;obtain⟨a,f,rfl,b,l⟩:=KB r tw g;rcases b with b | b
   ·exact⟨a,f,rfl,.inl ⟨b,λp c=>d _ _ (Mono.new c _) (.tup (SqT.of BJ) (l.mono (Mono.new c _))) (r.mono0 c)⟩⟩
   ·exact⟨a,f,rfl,.inr ⟨b,d _ H .refl (.tup b l) r⟩⟩
 ·cases e
theorem dP:Blt X (.type "tuple") (rF Bv):=⟨⟨_,ZO,dO⟩,Gg⟩
noncomputable def CS(ws:List W)(_:Hw):Option W:=match ws with | [.int i]=>some (.int i)| [.bl k]=>some (.int (if k then 1 else 0))| _=>none
theorem dQ:UpC K (rF CS) (λxs H Q=>(∃ i,xs=[.int i]/\Q (.int i) H)\/∃ k,xs=[.bl k]/\Q (.int (if k then 1 else 0)) H):=λb c G H Q t r q=>by
 obtain⟨w,e,a⟩:=B6 q;unfold CS at e;split at e
 ·cases e;cases t with
  | cons tw t=>cases t;cases tw;exact .inl ⟨_,rfl,a _ H .refl (.int _) r⟩
 ·cases e;cases t with
  | cons tw t=>cases t;cases tw;exact .inr ⟨_,rfl,a _ H .refl (.int _) r⟩
 ·cases e
theorem dR:Blt X (.type "int") (rF CS):=⟨⟨_,Zl,dQ⟩,Gg⟩
noncomputable def Ck:List Int->Int
 | []=>0
 | [x]=>x
 | x::y::r=>max x (Ck (y::r))
theorem Ph:∀{ns:List Int}{m:Int},m∈ns->m<=Ck ns
 | [x],m,h=>by rw[YA.mp h];exact Int.le_refl _
 | x::y::r,m,h=>by
  rcases Yo.mp h with rfl | h
  ·exact Int.le_max_left ..
  ·exact Int.le_trans (Ph h) (Int.le_max_right ..)
theorem Pi:∀{ns:List Int},ns≠[]->Ck ns∈ns
 | [x],_=>YA.mpr rfl
 | x::y::r,_=>by
  show max x (Ck (y::r))∈x::y::r;rcases Int.le_total x (Ck (y::r))with z | z
  ·rw[Int.max_eq_right z];exact Yd _ (Pi (by simp))
  ·rw[Int.max_eq_left z];exact Ye
theorem dS(h:0 < ns.length):ns.getD (argBest (λi j=>decide (ns.getD i 0 > ns.getD j 0)) (ns.length - 1)) 0=Ck ns:=by
 obtain⟨h1,h2⟩:=argBest_gt (λi=>ns.getD i 0) (ns.length - 1);have b:ns≠[]:=by intro z;rw[z]at h;simp at h
 have a:argBest (λi j=>decide (ns.getD i 0 > ns.getD j 0)) (ns.length - 1) < ns.length:=by lia
 refine Int.le_antisymm (Ph ?_) ?_
 ·rw[Qb,Yp a];exact Qh _
 ·obtain⟨i,hi,e⟩:=List.mem_iff_getElem.mp (Pi b);have:=h2 i (by lia);rw[<- e];have z:ns.getD i 0=ns[i]:=by rw[Qb,Yp hi];rfl
  rw[<- z];exact this
theorem dU(hc:X.calm=true):CallR X (.builtin "max") (λxs H Q=>∃(p:Addr)(ns:List Int),xs=[.ref p]/\SqL X.K H p (ns.map V.int)/\0 < ns.length/\Q (.int (Ck ns)) H):=by
 intro pins s σ H xs w Q I r h;obtain⟨p,ns,rfl,j,a,q⟩:=h;obtain⟨u,rfl,g⟩:=Ce r;cases g;obtain⟨c,r',pl,m⟩:=I.list j;have hl:=r'.length;rw[Yh]at hl;obtain⟨o,n,e,_⟩:=id pl
 refine call_max_walk (wpAny_pyIter_list pl.isList ⟨s.heap.objs.size,_,_,_,_,_,_,rfl,Walks.list (A:=X.A.in1) (I.ok.hd hc) _ p (Ys (Qs e)) c.toArray,
  ⟨⟨_,Qt _ rfl,rfl,rfl⟩,pl.isList.push _⟩,λb l=>?_,by rw[Yn,<- hl];exact a,CmpOf.ints_gt (λi=>ns.getD i 0) (λi v f=>Ky r' f),λv h' tk f k=>?_⟩)
 ·rw[Qu];rcases Yo.mp l with d | d
  ·rw[d];exact Nat.lt_succ_self _
  ·rw[YA.mp d];exact Nat.lt_succ_of_lt (Qs e)
 ·obtain⟨t,rfl⟩:=Ky r' f;refine⟨.int (Ck ns),H,I.kept λb o e=>k b o (by simpa using Ys (Qs e)) (Qr _ e),⟨t,?_⟩,q⟩;rw[Yn,<- hl,dS a]
noncomputable def Gj(ws:List W)(G:Hw):Option W:=match ws with
 | [w]=>((Cw G w).bind DQ).bind λns=>if 0 < ns.length then some (.int (Ck ns))else none
 | _=>none
theorem dV:UpC K (rF Gj) (λxs H Q=>∃(p:Addr)(ns:List Int),xs=[.ref p]/\SqL K H p (ns.map V.int)/\0 < ns.length/\Q (.int (Ck ns)) H):=λk l G H Q t r q=>by
 obtain⟨w,e,d⟩:=B6 q;unfold Gj at e;split at e
 ·obtain⟨ns,i,c⟩:=Qd.mp e;obtain⟨xs,h,f⟩:=Qd.mp i;split at c
  ·rename_i b;cases c;cases t with
   | cons tw t =>
    cases t;obtain⟨a,m,rfl,rfl,_,j,g⟩:=DS r tw h;have:=Kz f g;subst this;exact⟨a,ns,rfl,SqL.of j,b,d _ H .refl (.int _) r⟩
  ·cases c
 ·cases e
theorem dW(hc:X.calm=true):Blt X (.builtin "max") (rF Gj):=⟨⟨_,dU hc,dV⟩,Gg⟩
structure Mth(X:Cx)(T:String)(name:Str)(id:String)(pre:W->Hw->Prop)(r:W->List W->Hw->Kw->Prop):Prop where
 pa:PlainAttrs T
 slot:Slot T name id
 ty:typeOf (.builtin id)=pure (.type "method_descriptor")
 ex:∃ r2,MtR X id r2/\∀(o:W)(ws:List W)(v:V)(vs:List V)(G:Hw)(H:Hp)(Q:VK),Tr X.K H v o->TrL X.K H vs ws->RelH X.K H G->r o ws G (dn X.K H Q)->r2 v vs H Q
 pr:∀(o:W)(v:V)(G:Hw)(H:Hp),Tr X.K H v o->RelH X.K H G->pre o G->tyV X.K T v H
 m:∀ o ws G(Q Q':Kw),(∀ w G',Q w G'->Q' w G')->r o ws G Q->r o ws G Q'
noncomputable def gMt(pre:W->Hw->Prop)(r:W->List W->Hw->Kw->Prop)(go:GE)(gs:GA):GE:=λω G Q=>go ω G λo G1=>pre o G1/\gs ω G1 λws G2=>r o ws G2 Q
theorem KG{id:String}(M:Mth X T name id pre r)(b:attributeBase o name X.env (eval o X.env)=eval o X.env)(c:((backTo cpos (starEach (e::es) X.env)).all (λx=>!x.1)&&(backToKw cpos (keywordEach [] X.env)).all (λx=>x.1.isSome)&&decide ((e::es).length+([]:List Keyword).length+(if([]:List Keyword).isEmpty then 0 else 1) < 30))=true)(a:(apos.endLine==cpos.line)=true)(hs:starEach (e::es) X.env=(false,eval e X.env)::starEach es X.env)(hplain:(backTo cpos (starEach es X.env)).any (·.1)=false)(g:Em X o go)(i:Am X (e::es) gs):
  Em X (.Call (.Attribute o name apos) (e::es) [] cpos) (gMt pre r go gs):=
 let⟨_,h1,h2⟩:=M.ex
 ⟨A8 (ZQ M.pa M.slot M.ty h1 g.p i.p b c a hs hplain) λσ H Q⟨ω,G,s,D,q⟩=>⟨ω,G,s,D,g.m _ _ _ _ (λd j z v H1 n tv r1=>⟨M.pr d v j H1 tv r1 z.1,
   ω,j,s.mono n,r1,i.m _ _ _ _ (λu l f B H2 t k A=>h2 d u v B l H2 Q (tv.mono t) k A (M.m _ _ _ _ _ (λw E y=>Cf (n.trans t) y) f)) z.2⟩) q⟩,
  λω G Q F h q=>g.m _ _ _ _ (λd j z=>⟨z.1,i.m _ _ _ _ (λu l f=>M.m _ _ _ _ _ h f) z.2⟩) q⟩
def AQ(o:W)(G:Hw):Prop:=∃ xs,Cw G o=some xs
theorem Pj(t:Tr K H v o)(r:RelH K H G)(h:AQ o G):tyV K "list" v H:=by
 obtain⟨xs,e⟩:=h;obtain⟨a,c,rfl,_,_,b,_⟩:=DS r t e;exact .inl ⟨rfl,_,SqL.of b⟩
noncomputable def DV(o:W)(G:Hw)(f:List W->Option (List W))(Q:Kw):Prop:=match o with
 | .ref a=>(match G a with | some (.lst xs)=>(match f xs with | some ys=>Q .non (put G a (.lst ys))| none=>False)| _=>False)
 | _=>False
theorem KH(q:DV o G f Q):∃ a xs ys,o=.ref a/\G a=some (.lst xs)/\f xs=some ys/\Q .non (put G a (.lst ys)):=by
 unfold DV at q;split at q
 ·split at q
  ·rename_i xs e;split at q
   ·rename_i ys b;exact⟨_,xs,ys,rfl,e,b,q⟩
   ·exact q.elim
  ·exact q.elim
 ·exact q.elim
theorem KI(e:G a=some (.lst xs))(b:f xs=some ys)(q:Q .non (put G a (.lst ys))):DV (.ref a) G f Q:=by
 unfold DV;dsimp only;rw[e];dsimp only;rw[b];exact q
theorem Pk(h:∀ w c,Q w c->b w c)(q:DV o G f Q):DV o G f b:=by
 obtain⟨a,xs,ys,rfl,e,d,q⟩:=KH q;exact KI e d (h _ _ q)
noncomputable def A2(o:W)(ws:List W)(G:Hw)(Q:Kw):Prop:=match ws with
 | [y]=>DV o G (λxs=>if xs.length < sizeLine then some (xs++[y])else none) Q
 | _=>False
theorem dX:Mth X "list" "append" "list.append" AQ A2 where
 pa:=PySem.F.plainAttrs_list
 slot:=PySem.F.slot_list_append
 ty:=PySem.F.type_list_append
 ex:=⟨_,ZS,λo g v j G H Q tv f r q=>by
  unfold A2 at q;split at q
  ·obtain⟨a,xs,ys,rfl,e,d,q⟩:=KH q;split at d
   ·rename_i b;cases d;cases tv;cases f with
    | cons ty t =>
     cases t;obtain⟨i,c,l⟩:=r a _ e;exact⟨a,i,_,rfl,rfl,c,by rw[l.length];exact b,q _ _ (Mono.lst c _) .non (r.chg c (l.append (.cons ty .nil)))⟩
   ·cases d
  ·exact q.elim⟩
 pr:=λo v G H t r h=>Pj t r h
 m:=λo g G Q k h q=>by
  unfold A2 at q ⊢;split at q
  ·exact Pk h q
  ·exact q.elim
noncomputable def Cy(o:W)(ws:List W)(G:Hw)(Q:Kw):Prop:=match ws with
 | [y]=>DV o G (λxs=>(Cw G y).bind λzs=>if xs.length+zs.length<=sizeLine then some (xs++zs)else none) Q
 | _=>False
theorem dY:Mth X "list" "extend" "list.extend" AQ Cy where
 pa:=PySem.F.plainAttrs_list
 slot:=PySem.F.slot_list_extend
 ty:=PySem.F.type_list_extend
 ex:=⟨_,ZU,λo k v w G H Q tv i r q=>by
  unfold Cy at q;split at q
  ·obtain⟨a,xs,ys,rfl,e,s,q⟩:=KH q;obtain⟨zs,p,d⟩:=Qd.mp s;split at d
   ·rename_i c;cases d;cases tv;cases i with
    | cons ty t =>
     cases t;obtain⟨n,g,l⟩:=r a _ e;obtain⟨b,f,rfl,_,_,u,j⟩:=DS r ty p;exact⟨a,b,n,f,rfl,rfl,g,u,by rw[l.length,j.length];exact c,q _ _ (Mono.lst g _) .non (r.chg g (l.append j))⟩
   ·cases d
  ·exact q.elim⟩
 pr:=λo v G H t r h=>Pj t r h
 m:=λo k G Q x h q=>by
  unfold Cy at q ⊢;split at q
  ·exact Pk h q
  ·exact q.elim
noncomputable def Pl(C:Addr)(E:Addr->Hw->Prop)(gs:GA):GS:=λ_ ω G=>gs ω G λws G1=>ws.length<=sizeLine/\E C G1
theorem dZ{pos:Pos}{a:Expr}{rest:List Expr}{gs:GA}(i:mg x=some (.ref C))(q:PySem.W.excIn K C c b=true)(FB:ExcBaseFacts B b initId c)(l:Gl (cxW P w K mg base N qual scope f cd A outer s H E) x)(g:starEach (a::rest) (cxW P w K mg base N qual scope f cd A outer s H E).env=(false,eval a (cxW P w K mg base N qual scope f cd A outer s H E).env)::starEach rest (cxW P w K mg base N qual scope f cd A outer s H E).env)(hplain:(backTo cpos (starEach rest (cxW P w K mg base N qual scope f cd A outer s H E).env)).any (·.1)=false)(hd:(x==("__debug__":Str))=false)(d:Am (cxW P w K mg base N qual scope f cd A outer s H E) (a::rest) gs):
  Sm (cxW P w K mg base N qual scope f cd A outer s H E) Pb (.Raise (some (.Call (.Name x u) (a::rest) [] cpos)) none pos) (Pl C (dnX K H E) gs):=by
 refine⟨λy n pins e σ Hc D I h=>?_,λω G D F _ _ _ _ q=>q⟩;obtain⟨ω,G,k,r,J,o⟩:=h;exact aE l i q FB d.p g hplain hd pins e σ Hc D I ⟨ω,G,k,r,d.m _ _ _ _ (λL O z v H1 j t r1=>⟨by rw[t.length];exact z.1,z.2 H1 ((Un.mono' I.base).trans j) r1⟩) o⟩
noncomputable def tyN(w:W)(G:Hw):Option String:=match w with
 | .non=>some "NoneType"
 | .bl _=>some "bool"
 | .int _=>some "int"
 | .str _=>some "str"
 | .tup _=>some "tuple"
 | .rol _=>some "list"
 | .ref a=>(match G a with | some (.lst _)=>some "list" | _=>none)
def Dx(n T:String):Bool:=n==T||(n=="bool"&&T=="int")
theorem EM(a:n∈["NoneType","bool","int","str","tuple","list"])(b:T∈["tuple","list","str","int","bool","dict"]):PySem.W.kitOne K (.type n) (.type T)=some (Dx n T):=by
 simp only[Yo,Qa,or_false]at a b;rcases a with rfl | rfl | rfl | rfl | rfl | rfl <;> rcases b with rfl | rfl | rfl | rfl | rfl | rfl <;> kernel_rfl
noncomputable def AR(T:String)(ge:GE):GE:=λω G Q=>ge ω G λw G1=>match tyN w G1 with | some n=>Q (.bl (Dx n T)) G1 | none=>False
theorem d0(m:ge.M):GE.M (AR T ge):=λω G Q b h q=>m _ _ _ _ (λw a z=>by
 cases e:tyN w a with
 | none=>rw[e]at z;exact z
 | some n=>rw[e]at z;exact h _ _ z) q
theorem d3{σ:St}(I:Inv X pins σ H s)(c:RelV v u)(t:Tr X.K H v w)(r:RelH X.K H G)(e:tyN w G=some n)(b:T∈["tuple","list","str","int","bool","dict"])(h:∀ tk,Q (.bool (Dx n T)) {s with toks:=tk}):wpAny (model X.prog X.w) X.A (call (.builtin "isinstance") [u,.type T]) Q E s:=by
 cases t with
 | non=>cases e;cases(c);exact PySem.W.kia_one PySem.W.kitx_none I.kIn True.intro (EM (by simp) b) (λz=>nomatch z) h
 | bl y=>cases e;cases(c);exact PySem.W.kia_one PySem.W.kitx_bool I.kIn True.intro (EM (by simp) b) (λz=>nomatch z) h
 | int i=>cases e;obtain⟨t,rfl⟩:=c;exact PySem.W.kia_one PySem.W.kitx_int I.kIn True.intro (EM (by simp) b) (λz=>nomatch z) h
 | str y=>cases e;obtain⟨t,rfl⟩:=c;exact PySem.W.kia_one PySem.W.kitx_str I.kIn True.intro (EM (by simp) b) (λz=>nomatch z) h
 | tup f l =>
  cases e;cases c;obtain⟨d,_,p,_⟩:=I.tuple f;obtain⟨o,h1,h2,_⟩:=p;exact PySem.W.kia_one PySem.W.kitx_tuple I.kIn ⟨o,h1,h2⟩ (EM (by simp) b) (λz=>nomatch z) h
 | rol f l =>
  cases e;cases c;obtain⟨d,_,p,_⟩:=I.list f.sq;obtain⟨o,h1,h2,_⟩:=p.isList;exact PySem.W.kia_one PySem.W.kitx_list I.kIn ⟨o,h1,h2⟩ (EM (by simp) b) (λz=>nomatch z) h
 | ref a =>
  unfold tyN at e;dsimp only at e;cases g:G a with
  | none=>rw[g]at e;cases e
  | some o =>
   rw[g]at e;cases o with
   | exc C|ins C fs|dct j=>cases e
   | lst xs =>
    cases e;cases c;obtain⟨m,k,_⟩:=r a _ g;obtain⟨d,_,p,_⟩:=I.list (SqL.of k);obtain⟨o,h1,h2,_⟩:=p.isList;exact PySem.W.kia_one PySem.W.kitx_list I.kIn ⟨o,h1,h2⟩ (EM (by simp) b) (λz=>nomatch z) h
theorem d5:bootBuiltins "isinstance"=some (.builtin "isinstance"):=by decide +kernel
theorem Fw(A:T∈["tuple","list","str","int","bool","dict"])(B:bootBuiltins c=some (.type T))(k:X.mg c=none)(i:X.mg "isinstance"=none)(g:Gl X "isinstance")(f:Gl X c)(J:c≠"__name__")(hd:(c==("__debug__":Str))=false)(l:starEach [e,.Name c pc] X.env=[(false,eval e X.env),(false,eval (.Name c pc) X.env)])(d:starEach [.Name c pc] X.env=[(false,eval (.Name c pc) X.env)])(h:Em X e ge):Em X (.Call (.Name "isinstance" p) [e,.Name c pc] [] pos) (AR T ge):=by
 refine⟨λpins s σ H Q I j=>?_,d0 h.m⟩;obtain⟨ω,G,D,r,q⟩:=j;have pa:PA X [e,.Name c pc] (Ho (up X.K ge) (Ho (tC (.ty T)) J3)):=F9 h.p (F9 (Xi f k B rfl J hd) Hq (by rfl)) (by rw[l,d]);refine wpAny_Call_Name_kw (Cs I g i d5 ?_ (by decide) (by decide));refine PyProof.Rows.callWith_builtin1 (thn (pa pos pins s σ H (λo H1=>∃ v w a n,o=[v,.ty T]/\Tr X.K H1 v w/\RelH X.K H1 a/\tyN w a=some n/\Q (.bl (Dx n T)) H1) I ?_) λL N⟨o,H1,x,r1,v,w,a,n,y,tv,E,b,qq⟩=>?_) (by rw[l,d]) (by rfl)
 ·refine⟨ω,G,D,r,h.m _ _ _ _ (λw a z v H1 m t r1=>?_) q⟩;cases b:tyN w a with
  | none=>rw[b]at z;exact z.elim
  | some n=>rw[b]at z;exact⟨v,w,a,n,rfl,t,r1,b,z _ H1 m (.bl _) r1⟩
 ·subst y;obtain⟨u,O,rfl,F,rt⟩:=NT r1;cases rt;exact d3 x F tv E b A λtk=>⟨.bl _,H1,x.tok tk,rfl,qq⟩
structure d6(K:PySem.W.Frag)(C:Addr):Prop where
 ga:PySem.W.findIn K (.ref C) "__getattribute__"=some (some (.builtin "BaseException.__getattribute__"))
 gh:PySem.W.findIn K (.ref C) "__getattr__"=some none
 cl:(PySem.W.clsIn K C).isSome=true
 fc:PySem.W.findIn K (.ref C) "__class__"=some (some (.builtin "object.__class__"))
 sp:PySem.W.specialIn K (.builtin "object.__class__") "__get__"=some (some (.builtin "getset_descriptor.__get__"))
 tk:PySem.W.takesIn K (.builtin "object.__class__")=some true
 mr:PySem.W.mroIn K C (.type "object")=some true
 mb:PySem.W.mroIn K C (.type "BaseException")=some true
end
section
variable {K:PySem.W.Frag}{H:Hp}
noncomputable def pB(K:PySem.W.Frag)(cv:Value)(ge:GE):GE:=λω G Q=>ge ω G λw G1=>match w with
 | .ref a=>(match G1 a with | some (.exc C)=>∃ b,d6 K C/\PySem.W.kitOne K (.ref C) cv=some b/\Q (.bl b) G1 | _=>False)
 | _=>False
theorem d9:DP K H1 (Itr 0 n) ((List.range n).map λi:Nat=>W.int i) gd where
 go:=λi H G m r g hi=>by show i < n;simpa using hi
 yld:=λi H G x H' m r g y hi=>by
  obtain⟨e,ex⟩:=y;subst ex;have a:i < n:=by simpa using hi
  refine Gd r e ⟨.int i,by simp[a],?_⟩;rw[Int.zero_add];exact .int _
 stop:=λH G m r g=>by show n<=_;simp
noncomputable def Dd(gs:GA):GI:=λω G R=>gs ω G λws G1=>match ws with
 | [.int j]=>-(2 ^ 62)<=j/\j < 2 ^ 62/\R ((List.range j.toNat).map λi:Nat=>W.int i) yes G1
 | _=>False
theorem ee(m:gs.M):GI.M (Dd gs):=λω G R c h q=>m _ _ _ _ (λa b z=>by
 split at z
 ·exact⟨z.1,z.2.1,h _ _ _ z.2.2⟩
 ·exact z.elim) q
theorem eh(d:X.mg "range"=none)(e:Gl X "range")(hs:starEach [a] X.env=[(false,eval a X.env)])(b:Am X [a] gs):Im X tg (.Call (.Name "range" p) [a] [] pos) (Dd gs):=by
 refine⟨⟨_,XZ e d b.p hs,λσ H ω G R i c r q k=>⟨ω,G,c,r,b.m _ _ _ _ (λf g z h H1 m t r1=>?_) q⟩⟩,ee b.m⟩;split at z
 ·cases t with
  | cons tw t=>cases t;cases tw;exact⟨_,rfl,z.1,z.2.1,k _ _ _ H1 _ z.2.2 m r1 trivial d9⟩
 ·exact z.elim
theorem Inv.turneds{σ:St}{g:List Addr}(I:Inv X pins σ H s)(a:∀ b∈g,CK X pins H b)(k:∀ b o,b∉g->s.heap.get? b=some o->h'.get? b=some o):Inv X pins σ H {s with heap:=h',toks:=t'}:=by
 have d:∀ b u,H b=some u->b∉g:=λb u e z=>by rw[(a b z).1]at e;cases e
 refine I.step (λb f=>⟨(a b f).2.2.2.1,(a b f).2.1,(a b f).2.2.2.2.1,(a b f).2.2.2.2.2⟩) (λb o _ _ hc e _=>k b o hc e) (λb o _ _ hc e _=>⟨o.slots,k b o hc e⟩) (λ_ _ _ _ n=>n)
  (λb o hc e=>⟨o,k b o hc e⟩) (λ_ _ e=>e) (λ_ _ _ e=>e) (λb ps e=>⟨#[],by rw[e];simp⟩) (λm i=>?_) (λb u e=>?_) I.bare
 ·obtain⟨o,es,h,j,r⟩:=i;exact⟨o,es,h,k _ o (λz=>(a _ z).2.1 rfl) j,r⟩
 ·refine(I.hok b u e).stay (λc v hc q=>k c v ?_ q) (λ_ q=>q) λ_ _ q=>q;rcases hc with z | z
  ·rw[z];exact d b u e
  ·exact d c _ z
noncomputable def rdL(G:Hw)(w:W):Option (List W):=match w with
 | .rol xs=>some xs
 | .ref a=>(match G a with | some (.lst xs)=>some xs | _=>none)
 | _=>none
theorem Pn(r:RelH K H G)(t:Tr K H v w)(e:rdL G w=some xs):∃ a vs,v=.ref a/\SqL K H a vs/\TrL K H vs xs:=by
 cases t with
 | rol h l=>cases e;exact⟨_,_,rfl,h.sq,l⟩
 | ref a =>
  unfold rdL at e;dsimp only at e;cases z:G a with
  | none=>rw[z]at e;cases e
  | some o =>
   rw[z]at e;cases o with
   | lst ys=>cases e;obtain⟨vs,b,c⟩:=r a _ z;exact⟨a,vs,rfl,SqL.of b,c⟩
   | exc C|ins C fs|dct d=>cases e
 | _=>cases e
noncomputable def Bm:List W->List W->List W
 | x::xs,y::ys=>.tup [x,y]::Bm xs ys
 | _,_=>[]
theorem KJ:∀(xs ys:List W),(Bm xs ys).length=min xs.length ys.length
 | [],_|_::_,[]=>by simp[Bm]
 | _::xs,_::ys=>by simp only[Bm,Yg,KJ xs ys];lia
theorem Po:∀(xs ys:List W)(i:Nat){x y:W},xs[i]?=some x->ys[i]?=some y->(Bm xs ys)[i]?=some (.tup [x,y])
 | [],_,_,_,_,h,_|_::_,[],_,_,_,_,h=>by simp at h
 | a::xs,b::ys,0,x,y,h,h'=>by simp at h h';subst h;subst h';rfl
 | a::xs,b::ys,i+1,x,y,h,h'=>by
  have:=Po xs ys i (by simpa using h) (by simpa using h');simpa[Bm]using this
theorem ej:bootBuiltins "len"=some (.builtin "len"):=by decide +kernel
theorem eo:bootBuiltins "all"=some (.builtin "all"):=by decide +kernel
theorem er:bootBuiltins "sum"=some (.builtin "sum"):=by decide +kernel
theorem et:bootBuiltins "max"=some (.builtin "max"):=by decide +kernel
theorem Pp:bootBuiltins "list"=some (.type "list"):=by decide +kernel
theorem Pr:bootBuiltins "tuple"=some (.type "tuple"):=by decide +kernel
theorem Ps:bootBuiltins "int"=some (.type "int"):=by decide +kernel
theorem eu:bootBuiltins "str"=some (.type "str"):=by decide +kernel
theorem ez:bootBuiltins "bool"=some (.type "bool"):=by decide +kernel
theorem KM:bootBuiltins "dict"=some (.type "dict"):=by decide +kernel
section
variable {X:Cx}{p:Pos}
theorem eA(hi:X.N[i]?=some x)(a:seen X.env.scope x=true)(hd:(x==("__debug__":Str))=false)(hc:(x==("__classdict__":Str))=false):Em X (.Name x pos) (Ab i):=⟨aJ hi (OV a) hd hc,aI⟩
theorem eB(c:X.N.Nodup)(hi:X.N[i]?=some x)(b:Fq X.env.scope x=true)(hs:swapsWith e (some (.Name x pos')) pos.line X.env=pure false)(a:Em X e ga):Sm X P (.Assign [.Name x pos'] e pos) (Al i ga):=
 ⟨OH c hi (.inl (Gf b)) a.m a.p hs (.inr (Gf b)),Kq a.m⟩
theorem eD(c:X.N.Nodup)(hi:X.N[n]?=some x)(b:Fq X.env.scope x=true)(a:Em X e ga):Sm X P (.AugAssign (.Name x pos') .Add e pos) (BP n BY ga):=
 ⟨de (OpR.or Y2 Zk) Pc df c hi (.inl (Gf b)) (.inr (Gf b)) a.m a.p,db Pc a.m⟩
noncomputable def Glb(K:PySem.W.Frag)(mg:Str->Option Value)(x:Str)(w:W):Prop:=∃ v u,mg x=some u/\RelV v u/\∀ H,Tr K H v w
theorem EN(h:Glb X.K X.mg x w)(a:Gl X x)(hd:(x==("__debug__":Str))=false):Em X (.Name x pos) (gC w):=
 let⟨_,_,h1,h2,h3⟩:=h
 ⟨OC a h1 h2 h3 hd,Fk⟩
structure Fm(X:Cx)(ifs:List Expr)(g:GT):Prop where
 p:PFw X ifs g
 m:g.M
theorem eE:Fm X [] AC:=⟨bY,bX⟩
theorem eF(h:Tm X c gt):Fm X [c] gt:=⟨bZ h.p,h.m⟩
theorem Pt(hc:X.calm=true)(B:Blk X Nc scope [] (λ_=>List.replicate Nc.length none))(hs:∀ x,foldedSetIterable iter X.env x=pure x)(hi:Im X tg iter gi)(e:TgU X Nc scope tg b)(d:∀ C a s H,Fm (cxB X Nc scope [] C a s H) ifs gt)(c:∀ C a s H,Em (cxB X Nc scope [] C a s H) elt ge):Em X (.ListComp elt [⟨tg,iter,ifs,0⟩] scope pos) (AM gi Nc.length b gt ge):=
 have f:=(d 0 [] X.s₀ X.H₀).m
 have g:=(c 0 [] X.s₀ X.H₀).m
 ⟨b8 hc hi.p B e f (λC a s H=>(d C a s H).p) g (λC a s H=>(c C a s H).p) hs,bW hi.m e.mono f g⟩
theorem Pu:Fo X (λ_ _ _=>False):=(by rintro pins σ H s ev s' I ⟨e,C,H',d,F,b,ω,G,a,c,r,q⟩;exact q.elim)
theorem KN(a:Room k A):A.units+100 < cLine:=by have:=a.un;lia
end
noncomputable def EO:List (Str×Int)->Str->W
 | [],_=>.non
 |(x,i)::D,z=>if z=x then .int i else EO D z
noncomputable def KO(mg:Str->Option Value)(base:Heap)(x:Str)(D:List (Str×Int)):Prop:=∃ d,mg x=some (.ref d)/\KTD.TextTab base d (D.map λp=>(p.1,KTD.Dat.flat (.int p.2)))
theorem Pv:∀{D:List (Str×Int)}{z:Str}{d:KTD.Dat},KTD.datumAt z (D.map λp=>(p.1,KTD.Dat.flat (.int p.2)))=some d->∃ i,d=.flat (.int i)/\EO D z=.int i
 | [],_,_,h=>by cases h
 |(x,i)::D,z,d,h=>by
  have h':(if decide (z=x)=true then some (KTD.Dat.flat (.int i))else KTD.datumAt z (D.map λp=>(p.1,KTD.Dat.flat (.int p.2))))=some d:=h;unfold EO;by_cases a:z=x
  ·rw[if_pos (YG a)]at h';cases h';exact⟨i,rfl,if_pos a⟩
  ·rw[if_neg (by simpa using a)]at h';rw[if_neg a];exact Pv h'
theorem Pw:∀{D:List (Str×Int)}{z:Str},KTD.datumAt z (D.map λp=>(p.1,KTD.Dat.flat (.int p.2)))=none->EO D z=.non
 | [],_,_=>rfl
 |(x,i)::D,z,h=>by
  have h':(if decide (z=x)=true then some (KTD.Dat.flat (.int i))else KTD.datumAt z (D.map λp=>(p.1,KTD.Dat.flat (.int p.2))))=none:=h;unfold EO;by_cases a:z=x
  ·rw[if_pos (YG a)]at h';cases h'
  ·rw[if_neg (by simpa using a)]at h';rw[if_neg a];exact Pw h'
noncomputable def Fy(D:List (Str×Int))(gk:GE):GE:=λω G Q=>gk ω G λw G1=>match w with | .str z=>Q (EO D z) G1 | _=>False
theorem eG(h:KO X.mg X.base x D)(P:Gl X x)(hd:(x==("__debug__":Str))=false)(f:attributeBase (.Name x j) "get" X.env (eval (.Name x j) X.env)=eval (.Name x j) X.env)(g:((backTo cpos (starEach [e] X.env)).all (λx=>!x.1)&&(backToKw cpos (keywordEach [] X.env)).all (λx=>x.1.isSome)&&decide ([e].length+([]:List Keyword).length+(if([]:List Keyword).isEmpty then 0 else 1) < 30))=true)(c:(apos.endLine==cpos.line)=true)(hs:starEach [e] X.env=(false,eval e X.env)::starEach [] X.env)(hplain:(backTo cpos (starEach [] X.env)).any (·.1)=false)(k:Em X e o):
  Em X (.Call (.Attribute (.Name x j) "get" apos) [e] [] cpos) (Fy D o):=by
 refine⟨λpins s σ H Q I⟨ω,G,O,r,q⟩=>?_,λω G Q Q' R q=>k.m _ _ _ _ (λw Y z=>by cases w <;> first | exact R _ _ z | exact z) q⟩;obtain⟨d,E,T⟩:=h;have b:KTD.Here X.base s.heap d (D.map λp=>(p.1,KTD.Dat.flat (.int p.2))):=⟨T,I.bk⟩;refine wpAny_Call_method_late f g c rfl (F7 I P E ⟨"dict","dict.get",PySem.F.plainAttrs_dict,PySem.F.slot_dict_get,PySem.F.type_dict_get,b.typeIs,b.noDict,?_⟩ hd);have pa:=F9 k.p Hq hs
 have B:=pa cpos pins s σ H (λA H1=>∃ z,A=[.str z]/\∀ v,Tr X.K H1 v (EO D z)->Q v H1) I ⟨ω,G,O,r,k.m _ _ _ _ (λw Y z v H1 m t r1=>by
  cases w with
  | str y=>exact⟨y,by rw[OK t],λv tv=>z v H1 m tv r1⟩
  | _=>exact z.elim) q⟩
 rw[hs]at B ⊢;refine Calls.callWith_builtin (by show(false||(backTo cpos (starEach [] X.env)).any (·.1))=false;rw[hplain] <;> rfl) (Calls.evalArgs_plain ?_);refine thn B λus S n=>?_;obtain⟨A,H2,l,N,z,J,q2⟩:=n;subst J;obtain⟨u,rfl,Z⟩:=Ce N;obtain⟨t,rfl⟩:=Z;have a:KTD.Here X.base S.heap d (D.map λp=>(p.1,KTD.Dat.flat (.int p.2))):=⟨T,l.bk⟩;refine call_meetsIn PySem.F.slot_dict_get a.typeIs PySem.F.entry_dict_get (PySem.F.args_dict_get_2 _ _) (KTD.meets_get1) ⟨a,λdd v U L=>?_,λhn=>?_⟩
 ·obtain⟨i,rfl,e2⟩:=Pv U;obtain⟨t2,rfl⟩:=PyProof.V.Flat.int_inv L;exact⟨.int i,H2,l.tok _,⟨_,rfl⟩,q2 _ (by rw[e2];exact .int i)⟩
 ·exact⟨.non,H2,l.tok _,rfl,q2 _ (by rw[Pw hn];exact .non)⟩
noncomputable def Fn(K:PySem.W.Frag)(mg:Str->Option Value)(st:Stmt)(x:Str)(ps:List Str):Prop:=∃ f fd,mg x=some (.ref f)/\Fun K x x st f fd/\Binds K fd ps []
theorem mk0{st:Stmt}(Fx:Fn K mg st x ps)(j:ps.length=n)(S:Ay N ps (Ap st))(e:sp.M)(len:∀ c G Q E,sp c G Q E->c.length=n)(l:∀{f:Addr}{d:Value}{A:Around}{outer:List Env}{s:Shared}{H:Hp}{E:XK},Room k (A.deeper (envOfC x (Ap st) s.heap.objs.size f d))->Ssm (cxW P w K mg base N x (Ap st) f d A outer s H E).nox (λB=>B=H) (B4 st) g)(ok:∀ c G(Q:Kw)(E:Addr->Hw->Prop),Kw.C Q->sp c G Q E->g (AH Q) (BO N c) G):Df P w K mg base x (k+1) n sp:=by
 obtain⟨f,fd,h1,F,v⟩:=Fx;refine⟨⟨f,fd,ps,h1,F.kp,v,j,?_⟩,e⟩;obtain⟨L,T,kV,J,pm,O,d,ct,I,rfl,lk,h⟩:=F.ex;refine Hr lk h S ((by rintro y H Q E ⟨c,G,t,r,q⟩;rw[t.length,j];exact len c G _ _ q)) λA outer s H y Q E o i=>?_;obtain⟨c,G,t,r,q⟩:=i;have D:=l (outer:=outer) (H:=H) (E:=E) o;exact⟨_,(D.p H rfl).nox,BO N c,G,Ko t,r,.refl,D.m _ _ (AH (dn K H Q)) _ (λa b z σ H2 m R u=>z _ H2 m Tr.non u) (λa b z=>z) (λa b z=>z.elim) (λa b z=>z.elim) (ok c G _ _ Kp q)⟩
theorem mkX{st:Stmt}{g:(Addr->Hw->Prop)->GS}(Fx:Fn K mg st x ps)(j:ps.length=n)(S:Ay N ps (Ap st))(e:sp.M)(len:∀ c G Q E,sp c G Q E->c.length=n)(l:∀{f:Addr}{d:Value}{A:Around}{outer:List Env}{s:Shared}{H:Hp}{E:XK},Room k (A.deeper (envOfC x (Ap st) s.heap.objs.size f d))->Ssm (cxW P w K mg base N x (Ap st) f d A outer s H E) (λB=>B=H) (B4 st) (g (dnX K H E)))(ok:∀ c G(Q:Kw)(E:Addr->Hw->Prop),Kw.C Q->Xc E->sp c G Q E->g E (AH Q) (BO N c) G):Df P w K mg base x (k+1) n sp:=by
 obtain⟨f,fd,h1,F,v⟩:=Fx;refine⟨⟨f,fd,ps,h1,F.kp,v,j,?_⟩,e⟩;obtain⟨L,T,kV,J,pm,O,d,ct,I,rfl,lk,h⟩:=F.ex;refine Hr lk h S ((by rintro y H Q E ⟨c,G,t,r,q⟩;rw[t.length,j];exact len c G _ _ q)) λA outer s H y Q E o i=>?_;obtain⟨c,G,t,r,q⟩:=i;have D:=l (outer:=outer) (H:=H) (E:=E) o;exact⟨_,D.p H rfl,BO N c,G,Ko t,r,.refl,D.m _ _ (AH (dn K H Q)) _ (λa b z σ H2 m R u=>z _ H2 m Tr.non u) (λa b z=>z) (λa b z=>z.elim) (λa b z=>z.elim) (ok c G _ _ Kp aW q)⟩
end
noncomputable def BG{α:Type}(n:Nat)(js:List Nat)(l:List (Option α)):List (Option α):=List.replicate n none++js.map λj=>(l[j]?).getD none
theorem KP{α:Type}{l:List (Option α)}:(BG n js l).length=n+js.length:=by simp[BG]
theorem Px{α:Type}{l:List (Option α)}{v:α}(h:(BG n js l)[i]?=some (some v)):∃ m j,i=n+m/\js[m]?=some j/\l[j]?=some (some v):=by
 unfold BG at h;by_cases hi:i < n
 ·rw[YI (by simpa using hi),List.getElem?_replicate]at h;split at h <;> cases h
 ·rw[List.getElem?_append_right (by simpa using Nat.le_of_not_lt hi),List.length_replicate,YO]at h;cases a:js[i - n]? with
  | none=>rw[a]at h;cases h
  | some j =>
   rw[a]at h;refine⟨i - n,j,by lia,a,?_⟩;have h':(l[j]?).getD none=some v:=YE h;cases e:l[j]? with
   | none=>rw[e]at h';cases h'
   | some o=>rw[e]at h';exact Ql some h'
theorem eH{α:Type}{l:List (Option α)}{v:α}(h1:js[m]?=some j)(h2:l[j]?=some (some v)):(BG n js l)[n+m]?=some (some v):=by
 unfold BG;rw[List.getElem?_append_right (by simp),List.length_replicate,YO];have:n+m - n=m:=by lia
 rw[this,h1];show some ((l[j]?).getD none)=_;rw[h2];rfl
theorem TrSt.cap{K:PySem.W.Frag}(t:TrSt K H σ ω)(n:Nat)(js:List Nat):TrSt K H (BG n js σ) (BG n js ω):=by
 refine⟨by rw[KP,KP],λi w e=>?_⟩;obtain⟨m,j,rfl,h1,h2⟩:=Px e;obtain⟨v,a,r⟩:=t.get j w h2;exact⟨v,eH h1 a,r⟩
noncomputable def BQ(env:Env):List (Str×NameKind)->List (Str×Addr)->List (Str×Addr)
 | [],cs=>cs
 |(n,k)::r,cs=>BQ env r (if k=.free then(n,(env.cells.lookup n).getD 0)::cs else cs)
theorem Py:∀(l:List (Str×NameKind))(cs:List (Str×Addr)),(∀ y∈l,y.2=.free->∃ c,env.cells.lookup y.1=some c)->
  (forIn l cs λ(x:Str×NameKind)r=>if(x.2==NameKind.free)=true then do let c <- cellOf env x.1;pure (ForInStep.yield ((x.1,c)::r))else pure (ForInStep.yield r):Sem (List (Str×Addr)))=pure (BQ env l cs)
 | [],cs,_=>by simp[BQ]
 |(n,k)::r,cs,h=>by
  have b:=λcs=>Py r cs λy d=>h y (Yd _ d);rw[List.forIn_cons];by_cases a:k=.free
  ·obtain⟨c,hc⟩:=h (n,k) Ye a;subst a;have e:cellOf env n=pure c:=by unfold cellOf;rw[hc]
   simp only[e,BQ,hc];exact b _
  ·have:(k==NameKind.free)=false:=by simpa using a
   simp only[this,BQ,a];exact b _
theorem Pz:∀(l:List (Str×NameKind))(cs:List (Str×Addr)),(BQ env l cs).lookup y=some c->cs.lookup y=some c\/((y,NameKind.free)∈l/\c=(env.cells.lookup y).getD 0)
 | [],cs,h=>.inl h
 |(n,k)::r,cs,h=>by
  rcases Pz r _ h with q |⟨q1,q2⟩
  ·split at q
   ·rename_i a;subst a;rw[List.lookup_cons]at q;split at q
    ·rename_i e;have b:=beq_iff_eq.mp e;subst b;exact .inr ⟨Ye,(YE q).symm⟩
    ·exact .inl q
   ·exact .inl q
  ·exact .inr ⟨Yd _ q1,q2⟩
theorem PB:∀(l:List (Str×NameKind))(cs:List (Str×Addr)),(∃ c,cs.lookup y=some c)->∃ c,(BQ env l cs).lookup y=some c
 | [],cs,h=>h
 |(n,k)::r,cs,h=>PB r _ (by
  split
  ·rw[List.lookup_cons];split
   ·exact⟨_,rfl⟩
   ·exact h
  ·exact h)
theorem PC:∀(l:List (Str×NameKind))(cs:List (Str×Addr)),(y,NameKind.free)∈l->∃ c,(BQ env l cs).lookup y=some c
 | [],cs,h=>by cases h
 |(n,k)::r,cs,h=>by
  rcases Yo.mp h with h | h
  ·cases h;refine PB r _ ⟨(env.cells.lookup y).getD 0,?_⟩;rw[if_pos rfl,List.lookup_cons,beq_self_eq_true]
  ·exact PC r _ h
theorem PH(nocell:∀ z∈scope.names,z.2≠.cell)(h:(relabel scope env).names.lookup y=some k)(b:k=.cell\/k=.free):(y,NameKind.free)∈scope.names:=by
 have m:=Kj h;obtain⟨⟨n,c⟩,a,e⟩:=YC.mp m;dsimp only at e;split at e
 ·rename_i hc;cases e;simp only[YF,beq_iff_eq]at hc;rw[hc.1.1]at a;exact a
 ·cases e;rcases b with rfl | rfl
  ·exact Qo rfl (nocell _ a)
  ·exact a
theorem PJ{env:Env}(b:env.scope.kind=.function):∀{names:List (Str×NameKind)}{x:Str},names.lookup x=some .free->env.kindOf x=some .cell->
  (names.map λ(n,k)=>if(k==NameKind.free&&env.scope.kind==.function&&env.kindOf n==some .cell)then(n,NameKind.cell)else(n,k)).lookup x=some .cell
 | [],_,h,_=>by cases h
 |(n,k)::r,x,h,a=>by
  rw[List.lookup_cons]at h;rw[Ym];split at h
  ·rename_i e;have i:=beq_iff_eq.mp e;subst i;cases h;have c:(NameKind.free==NameKind.free&&env.scope.kind==ScopeKind.function&&env.kindOf x==some NameKind.cell)=true:=by rw[b,a];rfl
   dsimp only;rw[if_pos c,List.lookup_cons,beq_self_eq_true]
  ·rename_i e;have f:=PJ b h a;rw[List.lookup_cons]
   have g:(x==(if(k==NameKind.free&&env.scope.kind==ScopeKind.function&&env.kindOf n==some NameKind.cell)=true then(n,NameKind.cell)else(n,k)).1)=false:=by
    split <;> exact e
   split
   ·rename_i d;rw[g]at d;cases d
   ·exact f
theorem eI(kind:scope.kind=.function)(names:∀ x∈scope.names,x.2=.local->scope.names.lookup x.1=some .local)(nocell:∀ y∈scope.names,y.2≠.cell)(s:∀ y∈scope.names,y.2=.free->y.1∈fr)(w:∀ y∈fr,scope.names.lookup y=some .free)(f:X.env.scope=a)(p:a.kind=.function)(g:X.env.cells=cellsFrom n a.names [])(u:∀ y∈fr,a.names.lookup y=some .cell)(t:js.map (λj=>X.N[j]?)=fr.map some):Blk X (own++fr) scope (BQ X.env scope.names []) (BG own.length js):=by
 have d:∀ y∈fr,∃ c,X.env.cells.lookup y=some c:=λy b=>by
  rw[g];exact J4 (u y b)
 have r:js.length=fr.length:=by have:=Ql List.length t;simpa using this
 refine⟨?_,kind,names,nocell,λy c h=>?_,λy h=>?_,λσ i y v h1 h2 E=>?_,λσ=>by rw[KP,Yj,r]⟩
 ·have:=Py scope.names [] λy b o=>d _ (s y b o);unfold closureFor;simp only[bind_pure];exact this
 ·rcases Pz _ _ h with q |⟨q1,q2⟩
  ·cases q
  ·obtain⟨D,e⟩:=d y (s _ q1 rfl);rw[e]at q2 ⊢;exact Ql some q2.symm
 ·refine PC _ _ ?_;rcases h with h | h
  ·exact PH nocell h (.inl rfl)
  ·exact PH nocell h (.inr rfl)
 ·obtain⟨m,j,rfl,A,B⟩:=Px h2;rw[List.getElem?_append_right (by lia)]at h1;have:own.length+m - own.length=m:=by lia
  rw[this]at h1;have b:=List.mem_of_getElem? h1;have q:=Ql (λl=>l[m]?) t;simp only[YO,A,h1]at q;have k:X.env.scope.names.lookup y=some .cell:=by rw[f];exact u y b
  refine⟨.inl (PJ (by rw[f];exact p) (w y b) k),.inr (.inl k),(by rw[k];intro z;cases z),j,YE q,B⟩
noncomputable def Bd(gi:GI)(n:Nat)(js:List Nat)(gg:GG)(gt:GT)(ge:GE):GE:=λω G Q=>gi ω G λws gd G1=>AU gd gg gt ge (λys G2=>∀ p,G2 p=none->Q (.ref p) (put G2 p (.lst ys))) ws (BG n js ω) G1 []
theorem KQ(b:gi.M)(mg:a.M)(d:gt.M)(c:ge.M):GE.M (Bd gi n js a gt ge):=λω G Q k h q=>
 b _ _ _ _ (λf i g z=>HD mg d c (λys j z p e=>h _ _ (z p e)) _ _ _ _ z) q
theorem PK{X:Cx}(E:∀(σ:St)(H:Hp)(ω:Sw)(G:Hw)(R:List W->(Hw->Prop)->Hw->Prop)(T:It->Hp->Prop),TrSt X.K H σ ω->RelH X.K H G->gi ω G R->
   (∀ a gd B H1 J,R a gd B->Mono X.K H H1->RelH X.K H1 B->gd B->DP X.K H1 J a gd->T J H1)->Z σ H T)(L:∀(x:V)(w:W)(σ:St)(ω:Sw)(H:Hp)(G:Hw)(Q:St->Hp->Prop),Tr X.K H x w->TrSt X.K H σ ω->RelH X.K H G->v w ω G (dnS X.K H Q)->g x σ H Q)(mg:v.M)(mt:gt.M)(me:ge.M)(σ:St)(H:Hp)(Q:VK)(h:up X.K (Bd gi n js v gt ge) σ H Q):
  Hy Z (BG n js) g (upT X.K gt) (up X.K ge) σ H Q:=by
 obtain⟨ω,G,ts,r,q⟩:=h
 refine E σ H ω G _ _ ts r q λa gd B H1 J z m1 r1 hgd F=>⟨λi m σ' H' vs=>m=a.length - i/\i<=a.length/\Mono X.K H1 H'/\∃ ω' l ys,TrSt X.K H' σ' ω'/\RelH X.K H' l/\TrL X.K H' vs ys/\AU gd v gt ge (λys j=>∀ p,j p=none->dn X.K H Q (.ref p) (put j p (.lst ys))) (a.drop i) ω' l ys,
  ⟨a.length,by simp,YV _,.refl,_,B,[],(ts.mono m1).cap n js,r1,.nil,by simpa using z⟩,?_⟩
 rintro i m σ' H' vs ⟨rfl,hle,k,ω',l,ys,S,r',tv,s⟩;have c:=OP s;by_cases d:i < a.length
 ·have hw:∃ w,a[i]?=some w:=⟨a[i],by simp[d]⟩;obtain⟨w0,u⟩:=hw
  have ed:a.drop i=w0::a.drop (i+1):=by
   obtain⟨h',e'⟩:=YY.mp u;rw[<- e'];exact List.drop_eq_getElem_cons h'
  rw[ed]at s
  refine .inr ⟨F.go i H' l k r' c d,by rw[tv.length];exact s.2.1,λσ2 H2 t=>Mono X.K H1 H2/\∃ ω2 j A,TrSt X.K H2 σ2 ω2/\RelH X.K H2 j/\TrL X.K H2 t A/\AU gd v gt ge (λys j=>∀ p,j p=none->dn X.K H Q (.ref p) (put j p (.lst ys))) (a.drop (i+1)) ω2 j A,
   (by rintro σ2 H2 t ⟨y1,y2⟩;exact⟨a.length -(i+1),by lia,rfl,d,y1,y2⟩),λx H2 y=>?_⟩
  obtain⟨I,ry,w,ew,tw⟩:=F.yld i H' l x H2 k r' c y d;have k:=k.trans I;have tv:=tv.mono I;rw[u]at ew;cases ew;refine L x _ σ' ω' _ l _ tw (S.mono I) ry (mg _ _ _ _ _ (λω1 N z1 σ1 H3 D f r3=>?_) s.2.2);refine⟨ω1,N,f,r3,mt _ _ _ _ (λb Y z4 H4 o U=>?_) z1⟩;cases b with
  | true=>exact⟨ω1,Y,f.mono o,U,me _ _ _ _ (λy5 G5 z5 v5 H5 O t5 r5=>⟨((k.trans D).trans o).trans O,ω1,G5,_,(f.mono o).mono O,r5,(((tv.mono D).mono o).mono O).append (.cons t5 .nil),z5⟩) z4⟩
  | false=>exact⟨(k.trans D).trans o,ω1,Y,_,f.mono o,U,(tv.mono D).mono o,z4⟩
 ·have e:i=a.length:=by lia
  subst e;rw[List.drop_length]at s;exact .inl ⟨F.stop H' l k r' c,λp P=>s.2 p (r'.no P) _ _ ((m1.trans k).trans (Mono.new P _)) (.ref p) (r'.new P tv)⟩
structure TgC(X:Cx)(Nc:List Str)(scope:Scope)(cl:List (Str×Addr))(tg:Expr)(gg:GG):Prop where
 ex:∃ g:TG,(∀ C fp s H,PG (cxB X Nc scope cl C fp s H) tg g)/\∀(x:V)(w:W)(σ:St)(ω:Sw)(H:Hp)(G:Hw)(Q:St->Hp->Prop),Tr X.K H x w->TrSt X.K H σ ω->RelH X.K H G->gg w ω G (dnS X.K H Q)->g x σ H Q
 mono:gg.M
theorem PL(b:Nc.Nodup)(hi:Nc[i]?=some x)(a:scope.names.lookup x=some .local):TgC X Nc scope cl (.Name x p) (gNm i) where
 ex:=⟨Ct i,λC d s H=>Cu b hi (.inl (lookup_relabel_local a)) (.inr (lookup_relabel_local a)),λx w σ ω H G Q t c r q=>q _ H .refl (c.set i t) r⟩
 mono:=λ_ _ _ _ _ h q=>h _ _ q
theorem eJ(hc:X.calm=true)(c:Nc.Nodup)(hi:Nc[i]?=some x)(e:scope.names.lookup x=some .local)(f:Nc[j]?=some y)(d:scope.names.lookup y=some .local):
  TgC X Nc scope cl (.Tuple [.Name x p,.Name y p'] k pos) (AJ i j) where
 ex:=⟨Cl X.K 2 (BT (Ct i) (BT (Ct j) Ch)),λC m s H=>Hl hc (Dv (Cu c hi (.inl (lookup_relabel_local e)) (.inr (lookup_relabel_local e))) (Dv (Cu c f (.inl (lookup_relabel_local d)) (.inr (lookup_relabel_local d))) Hk)),
  λv w σ ω H G Q t g r q=>by
   unfold AJ at q;split at q
   ·rename_i a b;cases t with
    | tup h l =>
     cases l with
     | cons ta l =>
      cases l with
      | cons tb l =>
       cases l;exact⟨_,_,rfl,h,rfl,_,_,rfl,_,_,rfl,rfl,q _ H .refl ((g.set i ta).set j tb) r⟩
   ·exact q.elim⟩
 mono:=OQ
noncomputable def CT(i j k:Nat):GG:=λw ω G Q=>match w with
 | .tup [a,b,c]=>Q (((ω.set i (some a)).set j (some b)).set k (some c)) G
 | _=>False
theorem eK:GG.M (CT i j k):=λw ω G Q a h q=>by
 unfold CT at q ⊢;split
 ·exact h _ _ q
 ·rename_i z;split at q
  ·exact(z _ _ _ rfl).elim
  ·exact q
theorem eL{K:PySem.W.Frag}(v:V)(w:W)(σ:St)(ω:Sw)(H:Hp)(G:Hw)(Q:St->Hp->Prop)(t:Tr K H v w)(ts:TrSt K H σ ω)(r:RelH K H G)(q:CT i j k w ω G (dnS K H Q)):
  Cl K 3 (BT (Ct i) (BT (Ct j) (BT (Ct k) Ch))) v σ H Q:=by
 unfold CT at q;split at q
 ·cases t with
  | tup h l =>
   cases l with
   | cons ta l =>
    cases l with
    | cons tb l =>
     cases l with
     | cons tc l =>
      cases l;exact⟨_,_,rfl,h,rfl,_,_,rfl,_,_,rfl,_,_,rfl,rfl,q _ H .refl (((ts.set i ta).set j tb).set k tc) r⟩
 ·exact q.elim
theorem PM(hc:X.calm=true)(B:Blk X Nc scope cl (BG n js))(hs:∀ x,foldedSetIterable iter X.env x=pure x)(hi:Im X tg iter gi)(e:TgC X Nc scope cl tg f)(i:∀ C a s H,Fm (cxB X Nc scope cl C a s H) ifs gt)(h:∀ C a s H,Em (cxB X Nc scope cl C a s H) elt ge):Em X (.ListComp elt [⟨tg,iter,ifs,0⟩] scope pos) (Bd gi n js f gt ge):=by
 have j:=(i 0 [] X.s₀ X.H₀).m;have k:=(h 0 [] X.s₀ X.H₀).m;refine⟨?_,KQ hi.m e.mono j k⟩;obtain⟨l,b,hi⟩:=hi.p;obtain⟨g,d,c⟩:=e.ex;exact A8 (Ov hc b B d (λC a s H=>(i C a s H).p) (λC a s H=>(h C a s H).p) hs) (PK hi c e.mono j k)
noncomputable def KR(sc:Scope)(x:Str):Bool:=match sc.names.lookup x with | some .cell=>true | _=>false
theorem eM(h:KR a x=true):a.names.lookup x=some .cell:=by
 unfold KR at h;split at h
 ·assumption
 ·cases h
theorem eN(c:X.N.Nodup)(hi:X.N[i]?=some x)(d:KR X.env.scope x=true)(b:X.fn x=true)(hs:swapsWith e (some (.Name x pos')) pos.line X.env=pure false)(a:Em X e ga):Sm X P (.Assign [.Name x pos'] e pos) (Al i ga):=
 ⟨OH c hi (.inr (eM d)) a.m a.p hs (.inl b),Kq a.m⟩
theorem eO(hc:X.calm=true)(a:X.N.Nodup)(hi:X.N[i]?=some x)(l:Loc X.env.scope x)(f:X.fn x=true\/X.env.scope.names.lookup x=some .local)(g:X.N[j]?=some y)(h:Loc X.env.scope y)(b:X.fn y=true\/X.env.scope.names.lookup y=some .local)(d:X.N[k]?=some z)(e:Loc X.env.scope z)(c:X.fn z=true\/X.env.scope.names.lookup z=some .local):
  TgW X (.Tuple [.Name x p,.Name y p',.Name z p2] n pos) (CT i j k) where
 ex:=⟨_,Hl hc (Dv (Cu a hi l f) (Dv (Cu a g h b) (Dv (Cu a d e c) Hk))),eL⟩
 mono:=eK
theorem eP{h:List Value}(l:IsTup s.heap t #[])(p:IsTup s.heap b h.toArray)(h1:Q (.ref b) s):wpAny (model prog w) A (binaryOp .Add (.ref t) (.ref b)) Q E s:=by
 obtain⟨⟨cls,o,data,k⟩,j,hc,n,hd⟩:=id l;obtain⟨⟨i,e,f,c⟩,a,d,m,g⟩:=id p;subst hc hd d g;exact concat_meets ⟨_,j,rfl⟩ ⟨_,a,rfl⟩ noFill_tuple_add seq_tuple_add PySem.F.slot_tuple_add PySem.F.entry_tuple_add (PySem.F.args_tuple_add_2 _ _) (tuple_addW0 t b #[] h.toArray n m o e k c rfl) ⟨j,a,h1⟩
noncomputable def KS(K:PySem.W.Frag):R2:=λx y H Q=>∃ a b ys,x=.ref a/\y=.ref b/\SqT K H a []/\SqT K H b ys/\Q (.ref b) H
theorem eQ:OpR X (binaryOp .Add) (KS X.K):=by
 intro pins s σ H x y v u Q I f g h;obtain⟨a,b,ys,rfl,rfl,e,i,q⟩:=h;cases f;cases g;obtain⟨d,r1,p1,_⟩:=I.tuple e;obtain⟨c,j,p2,_⟩:=I.tuple i;cases r1;exact eP p1 p2 ⟨.ref b,H,I,rfl,q⟩
noncomputable def Aw:RW2:=λx y G Q=>match x,y with
 | .tup xs,.tup ys=>xs.length+ys.length<=sizeLine/\Q (.tup (xs++ys)) G
 | x,y=>BB x y G Q
theorem PN:Aw (.tup xs) (.tup ys) G Q=(xs.length+ys.length<=sizeLine/\Q (.tup (xs++ys)) G):=rfl
theorem KW(a:¬((∃ xs,x=.tup xs)/\∃ ys,y=.tup ys)):Aw x y G Q=BB x y G Q:=by
 cases x <;> cases y <;> first | rfl | exact Qo ⟨⟨_,rfl⟩,⟨_,rfl⟩⟩ a
theorem PP:RW2.M Aw:=λx y G Q b h q=>by
 by_cases a:(∃ xs,x=.tup xs)/\∃ ys,y=.tup ys
 ·obtain⟨⟨xs,rfl⟩,⟨ys,rfl⟩⟩:=a;exact⟨q.1,h _ _ q.2⟩
 ·rw[KW a]at q ⊢;exact Kt _ _ _ _ _ h q
theorem eR:OpR X (binaryOp .Add) (λx y H Q=>((rI0 λi j=>.int (i+j)) x y H Q\/(∃ i j,x=.str i/\y=.str j/\i.length+j.length<=sizeLine/\Q (.str (i++j)) H)\/Gb x y H Q)\/KS X.K x y H Q\/J8 X.K x y H Q):=OpR.or OR (OpR.or eQ ZD)
theorem eS{K:PySem.W.Frag}(x y:W)(v u:V)(G:Hw)(H:Hp)(Q:VK)(l:Tr K H v x)(ty:Tr K H u y)(r:RelH K H G)(q:Aw x y G (dn K H Q)):
  ((rI0 λi j=>.int (i+j)) v u H Q\/(∃ i j,v=.str i/\u=.str j/\i.length+j.length<=sizeLine/\Q (.str (i++j)) H)\/Gb v u H Q)\/KS K v u H Q\/J8 K v u H Q:=by
 by_cases n:(∃ xs,x=.tup xs)/\∃ ys,y=.tup ys
 ·obtain⟨⟨xs,rfl⟩,⟨ys,rfl⟩⟩:=n;cases l with
  | tup f c =>
   cases ty with
   | tup h d =>
    rename_i a o b m;cases c with
    | nil=>exact .inr (.inl ⟨a,b,m,rfl,rfl,f,h,by simpa using q.2 _ H .refl (.tup h d) r⟩)
    | cons g c =>
     refine .inr (.inr ⟨a,b,_,m,rfl,rfl,f,h,by simp,?_,λe=>?_,λe p k=>?_⟩)
     ·rw[(TrL.cons g c).length,d.length];exact q.1
     ·subst e;cases d;have:=q.2 (.ref a) H .refl (by simpa using Tr.tup f (.cons g c)) r;exact this
     ·exact q.2 _ _ (Mono.new k _) (.tup (SqT.of BJ) (((TrL.cons g c).append d).mono (Mono.new k _))) (r.mono0 k)
 ·refine .inl (OS x y v u G H Q l ty r ?_);rwa [KW n]at q
theorem eT(d:Em X a ga)(c:Em X b gb):Em X (.BinOp a .Add b pos) (Ad Aw ga gb):=⟨DO eR PP d.m c.m eS d.p c.p,Cg PP d.m c.m⟩
theorem TrP.lookup{K:PySem.W.Frag}{α:Type}[BEq α]:∀{vs:List (α×V)}{a:List (α×W)}{f:α}{w:W},TrP K H vs a->a.lookup f=some w->∃ v,vs.lookup f=some v/\Tr K H v w:=by
 intro vs a f w h;induction h with
 | nil=>intro e;cases e
 | @cons g _ _ _ _ r _ ih=>
  intro e;rw[List.lookup_cons]at e ⊢;cases b:f==g with
  | true=>rw[b]at e;cases e;exact⟨_,rfl,r⟩
  | false=>rw[b]at e;exact ih e
theorem TrP.length{K:PySem.W.Frag}{α:Type}:∀{vs:List (α×V)}{a:List (α×W)},TrP K H vs a->vs.length=a.length:=by intro vs a h;induction h with | nil=>rfl | cons _ _ ih=>exact Ql (·+1) ih
variable {K:PySem.W.Frag}{H:Hp}{o:Expr}{C:Addr}{p:Pos} in
theorem Mono.ins{p C dx:Addr}{xs:List (Str×V)}(a:H p=some (.ins C dx xs))(o:HO):Mono K H (upd H p o):=Mono.was a _ (λ_ z=>by cases z) (λ_ _ z=>by cases z)
def isStr(o:W)(_:Hw):Prop:=∃ x,o=.str x
end L3
namespace HT
open PySem PySem.Spec PyProof.Rows
theorem getItem_tuple_whole{lo:Option Int}(a:IsTup s.heap t items)(hs:s.heap.IsSliceOf c vl g .none)(pl:IsPart vl lo)(i:IsPart g hi)(hw:sIx items.size 0 lo=0/\sIx items.size items.size hi=items.size)(h:Q (.ref t) s):wpAny (model prog w) A (getItem (.ref t) (.ref c)) Q E s:=by
 obtain⟨os,f,d,j⟩:=id hs;have e:s.TypeIs (.ref c) "slice":=⟨os,f,d⟩;unfold getItem
 try with_reducible refine wpAny_holding ?_
 first | refine Qp (Qq ?_)| skip
 refine Qp (wpAny_sequenceKey a.typeIs (by decide) ?_)
 refine Qp (wpAny_callSpecial?_slot (name:=Str.ofString "__getitem__") a.typeIs PyProof.Rows.slot_tuple_getitem
  (wpAny_call_entry PyProof.Rows.slot_tuple_getitem a.typeIs entry_tuple_getitem ?_ (args_tuple_getitem _ _)))
 show wpAny _ _ (Builtin.Tuple.tupleItemsOf (.ref t) >>=_) _ _ s;refine Qp (tupleItemsOf_ a ?_);refine Qp (wpAny_typeOf e ?_);rw[if_pos (by decide)];refine Qp (N1 hs pl i ?_)
 have b:(((sIx items.size 0 lo:Nat):Int)==0&&(1:Int)==1&&(sIx items.size items.size hi - sIx items.size 0 lo)==items.size)=true:=by
  rw[hw.1,hw.2];simp
 show wpAny _ _ (if(((sIx items.size 0 lo:Nat):Int)==0&&(1:Int)==1&&(sIx items.size items.size hi - sIx items.size 0 lo)==items.size)=true then _ else _) _ _ s;rw[if_pos b];have k:=a.typeIs;unfold Builtin.Tuple.tupleIsExact
 repeat (any_goals (first | assumption | wp_step))
 exact⟨_,rfl,Qq h⟩
end HT
namespace L3
open PySem PySem.Spec PyProof.Rows L2
variable {K:PySem.W.Frag}{H:Hp}
noncomputable def PQ(K:PySem.W.Frag):V->Option Int->Option Int->Hp->VK->Prop:=λx lo hi H Q=>∃ a xs,x=.ref a/\SqT K H a xs/\(HT.sIx xs.length 0 lo=0/\HT.sIx xs.length xs.length hi=xs.length)/\Q (.ref a) H
theorem eU:SlR X (PQ X.K):=by
 intro pins s σ H x v vl k lo hi i Q I f hs pl e h;obtain⟨a,xs,rfl,g,hw,q⟩:=h;cases f;obtain⟨c,r,d,j⟩:=I.tuple g;have b:c.toArray.size=xs.length:=by rw[Yn];exact r.length.symm
 refine⟨"tuple",_,PyProof.Rows.slot_tuple_getitem.lookup,d.typeIs,?_⟩;exact HT.getItem_tuple_whole d hs pl e (by rw[b];exact hw) ⟨.ref a,H,I,rfl,q⟩
noncomputable def PR:V->Option Int->Option Int->Hp->VK->Prop:=λx lo hi H Q=>∃ z,x=.str z/\z.length<=sizeLine/\Q (.str (Txt.slice z lo hi)) H
theorem eV:SlR X PR:=by
 intro pins s σ H x v vl o lo hi n Q I g hs pl f h;obtain⟨z,rfl,e,q⟩:=h;obtain⟨t,rfl⟩:=g;obtain⟨os,d,b,a⟩:=id hs;refine⟨"str",_,F.slot_str_getitem.lookup,typeIs_str _ _ _,?_⟩;have c:∀ t' k,EP X pins σ Q (.str (Txt.slice z lo hi) t') {s with toks:=k}:=λt' k=>⟨.str _,H,I.tok k,⟨t',rfl⟩,q⟩;cases pl with
 | none =>
  cases f with
  | none=>exact wpAny_getItem_str_slice (l:=none) (u:=none) (st:=none) ⟨os,d,b,a⟩ rfl (post_val_or_str ⟨Yt (Txt.slice_le z _ _) e,c⟩)
  | int j u=>exact wpAny_getItem_str_slice (l:=none) (u:=some (j,u)) (st:=none) ⟨os,d,b,a⟩ rfl (post_val_or_str ⟨Yt (Txt.slice_le z _ _) e,c⟩)
 | int i u =>
  cases f with
  | none=>exact wpAny_getItem_str_slice (l:=some (i,u)) (u:=none) (st:=none) ⟨os,d,b,a⟩ rfl (post_val_or_str ⟨Yt (Txt.slice_le z _ _) e,c⟩)
  | int j m=>exact wpAny_getItem_str_slice (l:=some (i,u)) (u:=some (j,m)) (st:=none) ⟨os,d,b,a⟩ rfl (post_val_or_str ⟨Yt (Txt.slice_le z _ _) e,c⟩)
noncomputable def slA(w:W)(lo hi:Option Int)(G:Hw)(Q:Kw):Prop:=match w with
 | .tup xs=>Q (.tup (Bz xs lo hi)) G
 | .str z=>z.length<=sizeLine/\Q (.str (Txt.slice z lo hi)) G
 | w=>slW w lo hi G Q
theorem PU{lo:Option Int}(h:∀ w d,Q w d->c w d)(q:slA w lo hi G Q):slA w lo hi G c:=by
 cases w with
 | tup xs=>exact h _ _ q
 | str z=>exact⟨q.1,h _ _ q.2⟩
 | non|bl b|int i=>exact Qi q
 | rol xs=>exact HH (w:=.rol xs) (lo:=lo) (hi:=hi) (G:=G) h q
 | ref a=>exact HH (w:=.ref a) (lo:=lo) (hi:=hi) (G:=G) h q
theorem eW{lo:Option Int}(t:Tr K H v w)(r:RelH K H G)(q:slA w lo hi G (dn K H Q)):((J7 K v lo hi H Q\/Ke K v lo hi H Q)\/PQ K v lo hi H Q)\/PR v lo hi H Q:=by
 cases t with
 | tup h l =>
  rename_i a d c;by_cases hw:HT.sIx c.length 0 lo=0/\HT.sIx c.length c.length hi=c.length
  ·refine .inl (.inr ⟨a,d,rfl,h,by rw[l.length];exact hw,?_⟩);refine q _ H .refl ?_ r;have e:Bz c lo hi=c:=by unfold Bz;rw[hw.1,hw.2];simp
   rw[e];exact .tup h l
  ·exact .inl (.inl (HI (.tup h l) r ⟨hw,q⟩))
 | str z=>exact .inr ⟨z,rfl,q.1,q.2 _ H .refl (.str _) r⟩
 | non|bl b|int i=>exact Qi q
 | rol h l=>exact .inl (.inl (HI (.rol h l) r q))
 | ref a=>exact .inl (.inl (HI (.ref a) r q))
section
variable {ga:GE}
noncomputable def AE(ga:GE)(gl gh:GO):GE:=λω G Q=>ga ω G λw G1=>gl ω G1 λlo G2=>gh ω G2 λhi G3=>slA w lo hi G3 Q
theorem eX{lo:Option Expr}(c:Em X e ga)(hl:Om X lo s)(a:Om X hi o):Em X (.Subscript e (.Slice lo hi none p2) pos) (AE ga s o):=
 ⟨A8 (N2 (SlR.or (SlR.or (SlR.or N4 N7) eU) eV) c.p hl.p a.p) λσ H Q⟨ω,G,g,r,q⟩=>⟨ω,G,g,r,c.m _ _ _ _ (λw k z v H1 b t r1=>⟨ω,k,g.mono b,r1,hl.m _ _ _ _ (λl n d H2 i y=>
   ⟨ω,n,(g.mono b).mono i,y,a.m _ _ _ _ (λh x f D j A=>eW ((t.mono i).mono j) A (PU (λw B z=>Cf ((b.trans i).trans j) z) f)) d⟩) z⟩) q⟩,
  λω G Q E h q=>c.m _ _ _ _ (λw k z=>hl.m _ _ _ _ (λl n d=>a.m _ _ _ _ (λu x f=>PU h f) d) z) q⟩
end
theorem StrsAre.len:∀{vs:List Value}{ys:List Str},StrsAre vs ys->vs.length=ys.length
 | _,_,.nil=>rfl
 | _,_,.cons _ _ r=>Ql (·+1) (StrsAre.len r)
noncomputable def BR:RW2:=λx y G Q=>match x,y with
 | .int i,.int j=>CMul i j/\Q (.int (i*j)) G
 | .str x,.int n=>MulOk x n/\Q (.str (Txt.mul x n)) G
 | .ref a,.int k=>(match G a with
  | some (.lst xs)=>-(2 ^ 63)<=k/\k < 2 ^ 63/\xs.length*k.toNat<=sizeLine/\∀ p,G p=none->Q (.ref p) (put G p (.lst (List.replicate k.toNat xs).flatten))
  | _=>False)
 | _,_=>False
theorem PX:RW2.M BR:=λx y G Q c h q=>by
 cases x <;> cases y <;> first | exact q | exact⟨q.1,h _ _ q.2⟩| skip
 rename_i a k;unfold BR at q ⊢;dsimp only at q ⊢;cases e:G a with
 | none=>rw[e]at q;exact q
 | some o =>
  rw[e]at q;cases o <;> first | exact q | exact⟨q.1,q.2.1,q.2.2.1,λp b=>h _ _ (q.2.2.2 p b)⟩
noncomputable def PY:R2:=λx y H Q=>∃ z n,x=.str z/\y=.int n/\MulOk z n/\Q (.str (Txt.mul z n)) H
theorem eY:OpR X (binaryOp .Mult) PY:=by
 intro pins s σ H x y v u Q I a b h;obtain⟨z,n,rfl,rfl,ok,q⟩:=h;obtain⟨t,rfl⟩:=a;obtain⟨c,rfl⟩:=b;exact SB.mul ok λt' k=>⟨.str _,H,I.tok k,⟨t',rfl⟩,q⟩
theorem TrL.rep(t:TrL K H vs a):∀ k:Nat,TrL K H (List.replicate k vs).flatten (List.replicate k a).flatten
 | 0=>.nil
 | k+1=>by
  exact t.append (t.rep k)
theorem eZ(x y:W)(v u:V)(G:Hw)(H:Hp)(Q:VK)(e:Tr K H v x)(ty:Tr K H u y)(r:RelH K H G)(q:BR x y G (dn K H Q)):(rI CMul λi j=>.int (i*j)) v u H Q\/PY v u H Q\/Ob v u H Q:=by
 cases e with
 | int i=>cases ty <;> first | exact q.elim | exact .inl ⟨_,_,rfl,rfl,q.1,q.2 _ H .refl (.int _) r⟩
 | str z=>cases ty <;> first | exact q.elim | exact .inr (.inl ⟨_,_,rfl,rfl,q.1,q.2 _ H .refl (.str _) r⟩)
 | ref a =>
  cases ty <;> try exact q.elim
  unfold BR at q;dsimp only at q;cases b:G a with
  | none=>rw[b]at q;exact q.elim
  | some f =>
   rw[b]at q;cases f <;> try exact q.elim
   obtain⟨g,h,d⟩:=r a _ b;exact .inr (.inr ⟨a,_,g,rfl,rfl,h,q.1,q.2.1,by rw[d.length];exact q.2.2.1,λp c=>q.2.2.2 p (r.no c) _ _ (Mono.new c _) (.ref p) (r.new c (d.rep _))⟩)
 | _=>exact q.elim
theorem e7(d:Em X a ga)(c:Em X b gb):Em X (.BinOp a .Mult b pos) (Ad BR ga gb):=⟨DO (OpR.or NP (OpR.or eY ZX)) PX d.m c.m eZ d.p c.p,Cg PX d.m c.m⟩
noncomputable def e8(K:PySem.W.Frag)(tl:TE):TI:=λσ H R=>tl σ H λx H1=>(∃ a,x=.ref a/\(∃ xs,SqL K H1 a xs)/\R (Itl K a) H1)\/(∃ a,x=.ref a/\(∃ xs,SqT K H1 a xs)/\R (Itt K a) H1)
theorem e9(hl:PE X l tl):PI X tg l (e8 X.K tl):=by
 intro pins s σ H R I h;refine thn (hl pins s σ H _ I h) λv d g=>?_;obtain⟨x,H1,c,r1,q1⟩:=g;rcases q1 with⟨a,e,⟨xs,i⟩,q⟩|⟨a,e,⟨xs,i⟩,q⟩
 ·subst e;cases r1;obtain⟨f,m,p,k⟩:=c.list i;refine wpAny_pyIter_list p.isList (⟨d.heap.objs.size,[d.heap.objs.size],_,_,H1,rfl,c.kept λb o e=>Qr _ e,NJ a _,⟨_,Qt _ rfl,rfl,rfl⟩,λb j=>?_,q⟩);have e:b=d.heap.objs.size:=by simpa using j
  subst e;exact c.fpOk (Yr _) (c.hok.fresh (Yr _))
 ·subst e;cases r1;obtain⟨f,m,p,k⟩:=c.tuple i;refine wpAny_pyIter_tuple (p) (⟨d.heap.objs.size,[d.heap.objs.size],_,_,H1,rfl,c.kept λb o e=>Qr _ e,NK a _,⟨_,Qt _ rfl,rfl,rfl⟩,λb j=>?_,q⟩);have e:b=d.heap.objs.size:=by simpa using j
  subst e;exact c.fpOk (Yr _) (c.hok.fresh (Yr _))
noncomputable def DW(ga:GE):GI:=λω G R=>ga ω G λw G1=>match w with
 | .tup ws|.rol ws=>R ws yes G1
 | .ref a=>match G1 a with | some (.lst ws)=>R ws (holds a ws) G1 | _=>False
 | _=>False
theorem fe(m:ga.M):GI.M (DW ga):=λω G R d h q=>m _ _ _ _ (λw c z=>by
 cases w with
 | tup b|rol b=>exact h _ _ _ z
 | ref a =>
  dsimp only at z ⊢;cases e:c a with
  | none=>rw[e]at z;exact z
  | some o =>
   rw[e]at z;cases o <;> first | exact h _ _ _ z | exact z
 | _=>exact z) q
theorem ff(hl:Em X l ga):Im X tg l (DW ga):=by
 refine⟨⟨_,e9 hl.p,λσ H ω G R u i r q k=>⟨ω,G,i,r,hl.m _ _ _ _ (λw d z v H1 m t r1=>?_) q⟩⟩,fe hl.m⟩;cases t with
 | tup h l=>exact .inr ⟨_,rfl,⟨_,h⟩,k _ _ _ H1 _ z m r1 trivial (OM h l)⟩
 | rol h l=>exact .inl ⟨_,rfl,⟨_,h.sq⟩,k _ _ _ H1 _ z m r1 trivial (HC λH2 g c _ _=>⟨_,(c.rol _ _ h).sq,l.mono c⟩)⟩
 | ref a =>
  dsimp only at z;cases e:d a with
  | none=>rw[e]at z;exact z.elim
  | some o =>
   rw[e]at z;cases o with
   | lst s =>
    obtain⟨b,j,n⟩:=r1 a _ e;exact .inl ⟨a,rfl,⟨b,SqL.of j⟩,k _ _ _ H1 _ z m r1 e (HC λH2 g c f g2=>let⟨b,e2,t2⟩:=f a _ g2;⟨b,SqL.of e2,t2⟩)⟩
   | _=>exact z.elim
 | _=>exact z.elim
theorem fg(I:X.N.Nodup)(u:X.N[i]?=some x)(J:Fq X.env.scope x=true)(o:swapsWith (.ListComp elt [⟨tg,iter,ifs,0⟩] scope pos) (some (.Name x pos')) a.line X.env=pure true)(hc:X.calm=true)(B:Blk X Nc scope cl (BG n js))(hs:∀ x,foldedSetIterable iter X.env x=pure x)(hi:Im X tg iter gi)(c:TgC X Nc scope cl tg A)(E:∀ C b s H,Fm (cxB X Nc scope cl C b s H) ifs gt)(y:∀ C b s H,Em (cxB X Nc scope cl C b s H) elt ge):
  Sm X P (.Assign [.Name x pos'] (.ListComp elt [⟨tg,iter,ifs,0⟩] scope pos) a) (Al i (Bd gi n js A gt ge)):=by
 have e:=(E 0 [] X.s₀ X.H₀).m;have l:=(y 0 [] X.s₀ X.H₀).m;refine⟨λQ S=>?_,Kq (KQ hi.m c.mono e l)⟩;obtain⟨O,d,k⟩:=hi.p;obtain⟨g,j,f⟩:=c.ex;refine CN (az (tt:=upT X.K gt) (te:=up X.K ge) I u (Gf J) o hc d B j (λC b s H=>(E C b s H).p) (λC b s H=>(y C b s H).p) hs) λD σ H h=>?_;obtain⟨ω,G,F,r,L,q⟩:=h;refine PK k f c.mono e l σ H _ ⟨ω,G,F,r,KQ hi.m c.mono e l _ _ _ _ (λw R z v H1 m t r1=>?_) q⟩;exact z _ H1 (L.trans m) ((F.mono m).set i t) r1
variable {H:Hp}{X:Cx}{f:Addr}{x:Str}{pos:Pos}{e:Expr} in
theorem fh{E:Value->Shared->Prop}{pins:List (Addr×Obj)}{s:Shared}{σ:St}{H:Hp}{i:Nat}{x:Str}{v:V}{pos:Pos}{Q:Value->Shared->Prop}(I:Inv X pins σ H s)(g:X.N[i]?=some x)(h:Vis X.env.scope x)(e:σ[i]?=some (some v))(hd:(x==("__debug__":Str))=false)(f:(x==("__classdict__":Str))=false)
  (d:∀ u,RelV v u->Q u s):wpAny (model X.prog X.w) X.A (eval (.Name x pos) X.env) Q E s:=by
 obtain⟨m,j,hl⟩:=I.loc;obtain⟨u,r,l⟩:=hl i x v g e h;rcases l with⟨b,k⟩|⟨b,c,hc,a⟩
 ·exact wpAny_Name (wpAny_loadName_local I.ok.kind b j k (d u r)) hd
 ·rcases b with b | b
  ·exact wpAny_Name (wpAny_loadName_cell I.ok.kind b hc a (d u r)) hd
  ·exact wpAny_Name (wpAny_loadName_free I.ok.kind b hc a (d u r) f) hd
theorem fi{Eσ:St->XK}{i:Nat}(F:FnOk X.prog X.w X.K X.mg X.base CX k f fd ps sp)(G:Room k X.A)(n:X.N[i]?=some x)(z:Vis X.env.scope x)(o:PySem.W.keepIn X.K (.ref f)=true)(y:Binds X.K fd ps [])(E:Kk CX X Eσ)(J:PA X (e::es) t)(l:(x==("__debug__":Str))=false)(j:(x==("__classdict__":Str))=false)(v:starEach (e::es) X.env=(false,eval e X.env)::starEach es X.env)(d:(backTo pos (starEach es X.env)).any (·.1)=false):
  PE X (.Call (.Name x p) (e::es) [] pos) (λσ H Q=>σ[i]?=some (some (.ref f))/\Ox sp [] Eσ t σ H Q):=by
 intro pins s σ H Q I ⟨hi,h⟩;refine wpAny_Call_Name_kw (fh I n z hi l j λu L=>?_);cases L;refine PySem.W.callWith_K I.ok.mod.kin o (thn (J pos pins s σ H _ I h) λc g⟨B,H1,a,r,q⟩=>⟨a.kIn,?_⟩) v d;have m:=r.append .nil;have hl:(c++[]).length=ps.length:=by rw[<- m.length];exact F.len _ _ _ _ q
 refine wpAny_call (codeAny_mono (F.run X.A X.stack g H1 ⟨c,[]⟩ (c++[]) (B++[]) Q (Eσ σ) G a.env0 (y g c a.kIn hl) m q) λr s' b=>?_);cases r with
 | error e=>exact E pins σ H1 g e s' a b
 | ok D =>
  cases D with
  | ret u=>exact a.after b
  | next|brk|cont=>exact Qi b
noncomputable def fAt(mg:Str->Option Value)(x:Str):Addr:=match mg x with | some (.ref f)=>f | _=>0
theorem PZ(h:mg x=some (.ref f)):fAt mg x=f:=by unfold fAt;rw[h]
section
variable {gs:GA}{ex:Xw}
noncomputable def CU(i:Nat)(f:Addr)(sp:Spw)(ex:Xw)(gs:GA):GE:=λω G Q=>ω[i]?=some (some (.ref f))/\gs ω G λws G1=>sp ws G1 Q (ex ω)
theorem fj(m:sp.M)(a:gs.M):GE.M (CU i f sp ex gs):=λω G Q d h q=>⟨q.1,a _ _ _ _ (λb c q1=>m _ _ _ _ _ _ h (λ_ _ z=>z) q1) q.2⟩
theorem fk(D:Df X.prog X.w X.K X.mg X.base y k n sp)(L:Room k X.A)(m:X.N[i]?=some x)(B:Vis X.env.scope x)(J:Fo X ex)(S:gs.M)(O:PAw X (e::es) gs)(h:(x==("__debug__":Str))=false)(c:(x==("__classdict__":Str))=false)(s:starEach (e::es) X.env=(false,eval e X.env)::starEach es X.env)(a:(backTo pos (starEach es X.env)).any (·.1)=false):
  PEw X (.Call (.Name x p) (e::es) [] pos) (CU i (fAt X.mg y) sp ex gs):=by
 obtain⟨f,fd,ps,t,o,u,_,F⟩:=D.ex;rw[PZ t];refine A8 (fi F L m B o u J O h c s a) λσ H Q d=>?_;obtain⟨ω,G,b,r,q0,q⟩:=d;obtain⟨v,ev,tv⟩:=b.get i _ q0;cases tv;refine⟨ev,ω,G,b,r,S _ _ _ _ (λP R q1 T H1 l g r1=>?_) q⟩;refine⟨P,R,by rw[Yx];exact g,r1,D.mono _ _ _ _ _ _ (λw j z=>Cf l z) (λC j z H2 I E=>?_) q1⟩;exact⟨C,ω,j,rfl,(b.mono l).mono I,E,z⟩
theorem fm(D:Df X.prog X.w X.K X.mg X.base y k n sp)(f:Room k X.A)(hi:place X.N x=some i)(h:seen X.env.scope x=true)(j:Fo X ex)(d:(x==("__debug__":Str))=false)(c:(x==("__classdict__":Str))=false)(g:starEach (e::es) X.env=(false,eval e X.env)::starEach es X.env)(b:(backTo pos (starEach es X.env)).any (·.1)=false)(a:Am X (e::es) gs):Em X (.Call (.Name x p) (e::es) [] pos) (CU i (fAt X.mg y) sp ex gs):=⟨fk D f (cb hi) (OV h) j a.m a.p d c g b,fj D.mono a.m⟩
theorem fq(D:Df X.prog X.w X.K X.mg X.base x k n sp)(b:Gl X x)(hd:(x==("__debug__":Str))=false):Em X (.Name x pos) (gC (.ref (fAt X.mg x))):=by
 obtain⟨f,fd,ps,a,c,d,_,F⟩:=D.ex;rw[PZ a];exact⟨OC (v:=.ref f) b a rfl (λH=>.ref f) hd,Fk⟩
end
end L3
namespace L3
open PySem PySem.Spec PyProof.Rows L2
theorem fu(h:n < 128):(SetTable.sizeAbove n=8\/SetTable.sizeAbove n=16\/SetTable.sizeAbove n=32\/SetTable.sizeAbove n=64\/SetTable.sizeAbove n=128)/\n < SetTable.sizeAbove n:=by
 have:∀ m:Fin 128,(SetTable.sizeAbove m.1=8\/SetTable.sizeAbove m.1=16\/SetTable.sizeAbove m.1=32\/SetTable.sizeAbove m.1=64\/SetTable.sizeAbove m.1=128)/\m.1 < SetTable.sizeAbove m.1:=by decide +kernel
 exact this ⟨n,h⟩
theorem P0(h:n < 128):Tb.cover (SetTable.sizeAbove n - 1+1)=true/\n < SetTable.sizeAbove n/\SetTable.sizeAbove n<=128:=by
 obtain⟨h1,h2⟩:=fu h;rcases h1 with e | e | e | e | e <;> rw[e]at h2 ⊢
 ·exact⟨Tb.cover8,h2,by decide⟩
 ·exact⟨Tb.cover16,h2,by decide⟩
 ·exact⟨Tb.cover32,h2,by decide⟩
 ·exact⟨Tb.cover64,h2,by decide⟩
 ·exact⟨Tb.cover128,h2,by decide⟩
theorem P1{t:SetTable}(h1:t.place.size=n)(h2:t.dummies=#[])(a:n<=t.mask):t.fits n=true:=by
 unfold SetTable.fits SetTable.fill;rw[h2,h1];simp;exact a
theorem P3(T:Tab w es t ks)(hc:Tb.cover (mask+1)=true)(q:ks.length<=mask)(hl:bt w=false->l=true)(k:p=true->ks=[]):
  ∃ t' a,SetTable.laid mask f m l p (es.map (·.1))=some (t',a)/\(a.filterMap (es[·]?)).size=es.size/\Tab w (a.filterMap (es[·]?)) t' ks:=by
 have o:=T.len;obtain⟨t',a,e,b,j,g,i,h,n⟩:=Tb.laid_ok hc f m l p (es.map (·.1)) (by rw[Array.size_map];lia);rw[Array.size_map]at b g;have d:=Tb.order_perm es a b;have c:(a.filterMap (es[·]?)).size=es.size:=by rw[<- YT,d.length_eq,YT]
 refine⟨t',a,e,c,T.perm d ?_ (λz=>by rw[h];exact hl z) λz=>k (by rw[<- n];exact z)⟩;rw[c];exact P1 g i (by rw[j];lia)
theorem fv(i:SS w s.heap a ks)(j:n < 128)(q:ks.length<=n)(h:∀ h',Heap.SameBut a s.heap h'->SS w h' a ks->Q () {s with heap:=h'}):wpAny (model prog w) A (setRelay a n) Q E s:=by
 obtain⟨o,es,u,t,d,k,hd,T⟩:=i;obtain⟨hc,h1,h2⟩:=P0 j;have r:=T.len;unfold setRelay;refine Qp (wpAny_setState_of d hd T.ft ?_);dsimp only
 rw[if_neg (by have:(128:Nat)<=sizeLine:=by decide
               lia)]
 obtain⟨t',b,e,c,g⟩:=P3 (f:=t.finger) (m:=t.movedTo (SetTable.sizeAbove n - 1)) (l:=t.led) (p:=t.plain) T hc (by lia) T.ld T.pl;refine Qp ?_;unfold SetTable.relaid;rw[e];show wpAny (model prog w) A (if((b.filterMap (es[·]?)).size != es.size)=true then _ else pure (b.filterMap (es[·]?),t')) _ E s;rw[if_neg (by rw[c];simp)];refine Qq (wpAny_storeSet_of d hd ?_ (fits_of_scanBound (by rw[c];unfold scanBound;lia)));exact h _ (Qv s.heap a _) (Fj d k hd g).2
theorem fw(c:SS w s.heap a ks)(i:ks.length+n < 64)(h:∀ h',Heap.SameBut a s.heap h'->SS w h' a ks->Q () {s with heap:=h'}):wpAny (model prog w) A (setRoomFor a n) Q E s:=by
 have b:=c;obtain⟨o,es,g,t,d,j,hd,T⟩:=c;have f:=T.len;unfold setRoomFor;refine Qp (wpAny_setState_of d hd T.ft ?_)
 have k:t.place.size=es.size:=by
  have:=T.ft;unfold SetTable.fits at this;simp only[YF,beq_iff_eq]at this;exact this.1
 dsimp only;unfold SetTable.roomFor;split
 ·rename_i v e;split at e
  ·cases e;exact fv b (by lia) (by lia) h
  ·cases e
 ·exact Qq (h s.heap (Heap.SameBut.refl a s.heap) b)
theorem KY{α:Type}:∀(l:List α)(i:Nat)(h:i < l.length),(l[i]::l.eraseIdx i).Perm l
 | a::l,0,h=>List.Perm.refl _
 | a::l,i+1,h=>by
  have h':i < l.length:=Nat.lt_of_succ_lt_succ h;exact(List.Perm.swap a (l[i]'h') (l.eraseIdx i)).trans ((KY l i h').cons a)
theorem P4{α:Type}(next:Nat->Nat):∀(n k:Nat)(a:List α)(out:Array α),a.length=n->(pickOrder.go next n k a out).toList.Perm (out.toList++a)
 | 0,k,a,out,h=>by
  obtain rfl:=Qg.mp h;rw[Yx];exact List.Perm.refl _
 | n+1,k,a,out,h=>by
  have b:next k % a.length < a.length:=Nat.mod_lt _ (by lia)
  unfold pickOrder.go;rw[Yp b];dsimp only;refine(P4 next n (k+1) _ _ (by rw[List.length_eraseIdx_of_lt b];lia)).trans ?_;rw[Array.toList_push,Yv];refine List.Perm.append_left _ ?_;exact KY a _ b
theorem P5{α:Type}(next:Nat->Nat)(xs:Array α):(pickOrder next xs).toList.Perm xs.toList:=by
 have:=P4 next xs.size 0 xs.toList #[] (by simp)
 unfold pickOrder;simpa using this
theorem KZ{Q:Option Bool×Unit->Shared->Prop}{f:Int×Value->Option Bool×Unit->Sem (ForInStep (Option Bool×Unit))}(a:∀ e,(∃ x u,e=(hashStr w x,Value.str x u))->f e (none,())=pure (ForInStep.yield (none,()))):
  ∀(l:List (Int×Value)),(∀ e∈l,∃ x u,e=(hashStr w x,Value.str x u))->Q (none,()) s->wpAny (model prog w) A (forIn l (none,()) f) Q E s
 | [],_,q=>Qq q
 | e::l,h,q=>by
  rw[List.forIn_cons,a e (h e Ye)];exact Qp (Qq (KZ a l (λx b=>h x (Yd _ b)) q))
theorem fx(h:SS w s.heap a i)(l:SS w s.heap b kb)(q:Q true s):wpAny (model prog w) A (setsQuiet [a,b]) Q E s:=by
 obtain⟨n,k,pa,ta,m,p,hd,T⟩:=h;obtain⟨r,eb,o,tb,d,j,f,g⟩:=l;have hyield:∀ e:Int×Value,(∃ x u,e=(hashStr w x,Value.str x u))->True:=λ_ _=>trivial;unfold setsQuiet;refine Qp ?_;rw[List.forIn_cons];refine Qp (Qp (wpAny_setEntries_of m hd T.ft ?_));rw[<- Array.forIn_toList];refine Qp (KZ (w:=w) (λe c=>?_) k.toList T.el (Qq ?_))
 ·obtain⟨x,u,rfl⟩:=c;rfl
 dsimp only;rw[List.forIn_cons];refine Qp (Qp (wpAny_setEntries_of d f g.ft ?_));rw[<- Array.forIn_toList];refine Qp (KZ (w:=w) (λe c=>?_) eb.toList g.el (Qq ?_))
 ·obtain⟨x,u,rfl⟩:=c;rfl
 dsimp only;rw[List.forIn_nil];exact Qq (Qq q)
theorem fy(m:s.heap.get? o=some g)(u:g.ExactSet)(hd:g.data=.set es ep t)(T:Tab w es t r)(d:SS w s.heap f ks)(p:ks.length < scanBound)(h:∀ h' l,Heap.SameBut f s.heap h'->SS w h' f ks->l.toList.Perm es.toList->Q l {s with heap:=h'}):wpAny (model prog w) A (setWalkUnseen o [f] (some f)) Q E s:=by
 have q:=T.len
 have e:bt w=true\/es.size<=1->wpAny (model prog w) A (setWalk o) Q E s:=λhw=>by
  unfold setWalk;refine Qp (wpAny_setState_of m hd T.ft ?_);dsimp only;unfold setsByText;refine Qp (Qp (wpAny_askSetting (Qq ?_)));show wpAny (model prog w) A (if bt w=true then _ else _) Q E s;by_cases c:bt w=true
  ·rw[if_pos c];exact Qp (wpAny_askSetting (Qq (h s.heap _ (Heap.SameBut.refl _ _) d (P5 _ _))))
  ·rw[if_neg c];have h1:es.size<=1:=hw.resolve_left c;show wpAny (model prog w) A (if(!t.plain&&decide (es.size > 1))=true then _ else _) Q E s
   rw[if_neg (by have:¬ es.size > 1:=by lia
                 simp[this])]
   refine Qp ?_;show wpAny (model prog w) A (if(!t.led&&decide (es.size > 1))=true then _ else pure ()) _ E s
   rw[if_neg (by have:¬ es.size > 1:=by lia
                 simp[this])]
   exact Qq (Qq (h s.heap _ (Heap.SameBut.refl _ _) d (List.Perm.refl _)))
 unfold setWalkUnseen;refine Qp (wpAny_setState_of m hd T.ft ?_);dsimp only;unfold setsByText;refine Qp (Qp (wpAny_askSetting (Qq ?_)));show wpAny (model prog w) A (if(bt w||t.led&&t.plain||decide (es.size<=1))=true then _ else _) Q E s;by_cases hc:(bt w||t.led&&t.plain||decide (es.size<=1))=true
 ·rw[if_pos hc];refine e ?_;simp only[Bool.or_eq_true,YF,YQ]at hc;rcases hc with(hc | hc)| hc
  ·exact .inl hc
  ·have:=T.pl hc.2;subst this;exact .inr (by rw[q];decide)
  ·exact .inr hc
 ·rw[if_neg hc];simp only[Bool.or_eq_true,YF,YQ,not_or]at hc;have c:bt w=false:=by simpa using hc.1.1
  refine Qp (fx ⟨g,es,ep,t,m,u,hd,T⟩ d ?_);rw[if_neg (by decide)];refine Qp (wpAny_rule ?_);have k:=d;obtain⟨of,v,x,j,b,i,a,Tf⟩:=d;refine Qp (wpAny_setState_of b a Tf.ft ?_);dsimp only;split
  ·refine Qp (wpAny_storeSet_of b a ?_ ?_)
   ·refine Qq (h _ _ (Qv s.heap f _) (Fj b i a (Tf.perm (List.Perm.refl _) ?_ (λ_=>?_) λz=>?_)).2 (List.Perm.refl _))
    ·cases j;exact Tf.ft
    ·show(j.led&&t.led)=true;rw[Tf.ld c,T.ld c];rfl
    ·refine Tf.pl ?_;have n:(j.plain&&t.plain)=true:=z;simp only[YF]at n;exact n.1
   ·exact fits_of_scanBound (by rw[Tf.len];exact p)
  ·exact Qq (h _ _ (Heap.SameBut.refl _ _) k (List.Perm.refl _))
theorem P6(m:o≠a)(hd:n.data=.set es ep t)(F:t.fits es.size=true)(D:∀(s':Shared)(G:Unit->Shared->Prop),s'.heap.get? o=some n->G () s'->wpAny (model prog w) A d G E s')(c:∀ x u,f (hashStr w x,Value.str x u) PUnit.unit=(do let _ <- holding [Value.str x u] (setAddHashed a (Value.str x u) (hashStr w x));d;let r <- setState o;if(r.2.1 != ep)=true then(do unsupported "set.changed-during-merge";pure (ForInStep.yield PUnit.unit))else pure (ForInStep.yield PUnit.unit))):
  ∀(l:List (Int×Value))(s:Shared)(ks:List Str)(Q:PUnit->Shared->Prop),(∀ e∈l,∃ x u,e=(hashStr w x,Value.str x u))->s.heap.get? o=some n->SS w s.heap a ks->ks.length+l.length < scanBound->
   (∀ h' ks',Heap.SameBut a s.heap h'->SS w h' a ks'->(∀ x,x∈ks'↔x∈ks\/x∈l.map λe=>strOf e.2)->Q PUnit.unit {s with heap:=h'})->wpAny (model prog w) A (forIn l PUnit.unit f) Q E s
 | [],s,ks,Q,_,_,B,_,h=>Qq (h s.heap ks (Heap.SameBut.refl _ _) B λx=>⟨.inl,λz=>z.elim id λz=>by cases z⟩)
 | e::l,s,ks,Q,i,J,B,L,h=>by
  obtain⟨x,u,rfl⟩:=i e Ye;simp only[Yg]at L;rw[List.forIn_cons,c x u];refine Qp (Qp (wpAny_holding (On B (by lia) λh1 b j q=>?_)));have g:h1.get? o=some n:=by rw[j.2 o m];exact J
  refine Qp (D _ _ g (Qp (wpAny_setState_of g hd F ?_)));rw[if_neg (by simp)];refine Qq (P6 m hd F D c l _ _ Q (λy H=>i y (Yd _ H)) g q (by split <;>(try rw[Yg]) <;> lia) λh2 ks' k p K=>?_);refine h h2 ks' (j.trans k) p λy=>(K y).trans ?_;rw[Ym,Yo];show _↔y∈ks\/y=x\/_
  have I:y∈(if x∈ks then ks else x::ks)↔y∈ks\/y=x:=by
   split
   ·rename_i v;exact⟨.inl,λz=>z.elim id λe=>e▸v⟩
   ·rw[Yo];exact⟨λz=>z.elim .inr .inl,λz=>z.elim .inr .inl⟩
  rw[I,or_assoc]
structure Bare(led:Bool)(n:Nat)(t:SetTable):Prop where
 pl:t.place=#[]
 dm:t.dummies=#[]
 cv:Tb.cover (t.mask+1)=true
 rm:n<=t.mask
 ld:t.led=led
theorem Bare.fits(B:Bare led n t):t.fits 0=true:=P1 (by rw[B.pl];rfl) B.dm (YV _)
theorem fz(d:s.heap.get? a=some (BK led))(o:n < 32)(h:∀ h' ep t,Heap.SameBut a s.heap h'->h'.get? a=some {BK led with data:=.set #[] ep t}->Bare led n t->Q () {s with heap:=h'}):wpAny (model prog w) A (setRoomFor a n) Q E s:=by
 unfold setRoomFor;refine Qp (wpAny_setState_of d rfl rfl ?_);show wpAny (model prog w) A (match(if(0+n)*5>=7*3 then some ((0+n)*2)else none)with | some v=>setRelay a v | _=>pure ()) Q E s;by_cases hc:(0+n)*5>=7*3
 ·rw[if_pos hc];obtain⟨c,h1,h2⟩:=P0 (n:=(0+n)*2) (by lia);dsimp only;unfold setRelay;refine Qp (wpAny_setState_of d rfl rfl ?_);dsimp only
  rw[if_neg (by have:(128:Nat)<=sizeLine:=by decide
                lia)]
  obtain⟨t',b,e,g,j,m,l,k,p⟩:=Tb.laid_ok c (SetTable.fresh 0 0 led).finger ((SetTable.fresh 0 0 led).movedTo (SetTable.sizeAbove ((0+n)*2) - 1)) (SetTable.fresh 0 0 led).led (SetTable.fresh 0 0 led).plain (Array.map (·.1) (#[]:Array (Int×Value))) (by simp);refine Qp ?_;unfold SetTable.relaid;rw[e]
  have f:b=#[]:=by
   have:=g.length_eq;simp at this;exact this
  subst f;show wpAny (model prog w) A (pure ((#[]:Array Nat).filterMap ((#[]:Array (Int×Value))[·]?),t')) _ E s;refine Qq (wpAny_storeSet_of d rfl ?_ (YV _));refine h _ 1 t' (Qv s.heap a _) ?_ ⟨?_,l,by rw[j];exact c,by rw[j];lia,k⟩
  ·have i:=Qw (Obj.putSet #[] t') d (by rw[putSet_of #[] t' rfl];rfl);rw[putSet_of #[] t' rfl]at i;exact i
  ·exact Array.eq_empty_of_size_eq_zero (by rw[m];simp)
 ·rw[if_neg hc];exact Qq (h s.heap 0 _ (Heap.SameBut.refl _ _) d ⟨rfl,rfl,Tb.cover8,by show n<=7;lia,rfl⟩)
theorem P7(v:o≠a)(u:s.heap.get? a=some (BK led))(hl:bt w=false->led=true)(G:SS w s.heap o g)(K:g.length < 32)(h:∀ h',Heap.SameBut a s.heap h'->SS w h' a g->(g=[]->h'.get? a=some (BK led))->Q () {s with heap:=h'}):wpAny (model prog w) A (setMerge a o p) Q E s:=by
 obtain⟨L,es,I,t,F,J,hd,T⟩:=G;have x:=T.len;unfold setMerge;rw[if_neg (by simp only[beq_iff_eq];exact λz=>v z.symm)];refine Qp (wpAny_setState_of F hd T.ft ?_);dsimp only;by_cases c:es.isEmpty=true
 ·rw[if_pos c]
  have:g=[]:=by
   rw[Array.isEmpty_iff]at c;subst c;exact Qg.mp x.symm
  subst this;exact Qq (h s.heap (Heap.SameBut.refl _ _) (Oo led hl u) λ_=>u)
 ·rw[if_neg c]
  have k:g≠[]:=λz=>by
   subst z;exact c (by rw[Array.isEmpty_iff];exact Array.eq_empty_of_size_eq_zero x)
  refine Qp (fz u (by lia) λh1 D j q b B=>?_);refine Qp (wpAny_setState_of b rfl B.fits ?_);dsimp only;have r:bt w=false->(j.led&&t.led)=true:=λz=>by rw[B.ld,hl z,T.ld z];rfl
  have l:(j.plain&&t.plain)=true->g=[]:=λz=>by
   simp only[YF]at z;exact T.pl z.2
  have i:(j.fill != 0)=false:=by unfold SetTable.fill;rw[B.pl,B.dm];rfl
  unfold SetTable.road;rw[i];simp only[Yq,if_false];by_cases y:(j.mask==t.mask&&t.dummies.isEmpty)=true
  ·rw[if_pos y];dsimp only;refine wpAny_storeSet_of b rfl ?_ (fits_of_scanBound (by unfold scanBound;lia));refine h _ (q.trans (Qv h1 a _)) (Fj b ⟨rfl,rfl,rfl⟩ rfl (T.perm (List.Perm.refl _) ?_ r l)).2 λz=>Qo z k;have:=T.ft;cases t;exact this
  ·rw[if_neg y];dsimp only;obtain⟨t',d,e,n,H⟩:=P3 (f:=j.finger) (m:=j.moves) T B.cv (by have:=B.rm;lia) r l;refine Qp ?_;rw[e];show wpAny (model prog w) A (if((d.filterMap (es[·]?)).size != es.size)=true then _ else pure (d.filterMap (es[·]?),t')) _ E _;rw[if_neg (by rw[n];simp)];refine Qq (wpAny_storeSet_of b rfl ?_ (fits_of_scanBound (by rw[n];unfold scanBound;lia)));exact h _ (q.trans (Qv h1 a _)) (Fj b ⟨rfl,rfl,rfl⟩ rfl H).2 λz=>Qo z k
theorem fA(c:o≠a)(L:ks≠[])(J:SS w s.heap a ks)(R:SS w s.heap o r)(Z:ks.length+r.length < 64)(v:∀ j,s.heap.get? o=some j->∀(s':Shared)(K:Unit->Shared->Prop),s'.heap.get? o=some j->K () s'->wpAny (model prog w) A d K E s')(h:∀ h' ks',Heap.SameBut a s.heap h'->SS w h' a ks'->(∀ x,x∈ks'↔x∈ks\/x∈r)->Q () {s with heap:=h'}):wpAny (model prog w) A (setMerge a o d) Q E s:=by
 obtain⟨j,es,Y,t,F,I,hd,T⟩:=R;have P:=T.len;have v:=v j F;unfold setMerge;rw[if_neg (by simp only[beq_iff_eq];exact λz=>c z.symm)];refine Qp (wpAny_setState_of F hd T.ft ?_);dsimp only;by_cases b:es.isEmpty=true
 ·rw[if_pos b]
  have:r=[]:=by
   rw[Array.isEmpty_iff]at b;subst b;exact Qg.mp P.symm
  subst this;exact Qq (h s.heap ks (Heap.SameBut.refl _ _) J λx=>⟨.inl,λz=>z.elim id λz=>by cases z⟩)
 ·rw[if_neg b];refine Qp (fw J (by lia) λh1 p n=>?_);have k:=n;obtain⟨U,X,pa,ta,D,N,y,Ta⟩:=n;refine Qp (wpAny_setState_of D y Ta.ft ?_);dsimp only
  have g:(ta.fill != 0)=true:=by
   have i:=Ta.ft;unfold SetTable.fits at i;simp only[YF,beq_iff_eq]at i;have hl:=Ta.len;have:ks.length≠0:=λz=>L (Qg.mp z);unfold SetTable.fill;simp only[bne_iff_ne,ne_eq];lia
  unfold SetTable.road;rw[g];simp only[if_true];have q:h1.get? o=some j:=by rw[p.2 o c];exact F
  refine Qp (fy q I hd T k (by unfold scanBound;lia) λh2 l f G i=>?_);have B:h2.get? o=some j:=by rw[f.2 o c];exact q
  rw[<- Array.forIn_toList];refine Qp (P6 c hd T.ft v (λx u=>rfl) l.toList _ ks _ (λe O=>T.el e (i.mem_iff.mp O)) B G ?_ λS ks' m H I=>?_)
  ·have hl:l.toList.length=es.size:=i.length_eq.trans YT;rw[hl];unfold scanBound;lia
  ·refine Qq (h S ks' ((p.trans f).trans m) H λx=>(I x).trans ?_);rw[((i.map _).trans T.pm).mem_iff]
theorem fB:entryFor table "set.__or__"=some Builtin.«frozenset.__or__»:=entryFor_alias (id':="frozenset.__or__") (by kernel_rfl) rfl (by decide +kernel) (by kernel_rfl)
theorem SS.ty{s:Shared}(S:SS w s.heap a ks):s.TypeIs (.ref a) "set":=by
 obtain⟨o,es,d,t,c,b,_⟩:=S;exact⟨o,c,b.1⟩
theorem K0(b:s.TypeIs (.ref a) "set")(q:Q true s):wpAny (model prog w) A (Builtin.Frozenset.isAnySet (.ref a)) Q E s:=by
 unfold Builtin.Frozenset.isAnySet;refine Qp (wpAny_isInstance b sub_set_self ?_);exact Qq q
theorem SS.new{s:Shared}(S:SS w s.heap a ks)(o:Obj):SS w (s.heap.push o) a ks:=S.kept λ_ e=>Qr _ e
theorem SS.lt{s:Shared}(S:SS w s.heap a ks):a < s.heap.objs.size:=by
 obtain⟨o,es,c,t,b,_⟩:=S;exact Qs b
theorem SS.same(S:SS w h a ks)(c:a≠b)(d:Heap.SameBut b h h'):SS w h' a ks:=S.kept λo e=>by rw[d.2 a c];exact e
theorem fC{s:Shared}(y:a≠b)(n:SS w s.heap a p)(l:SS w s.heap b kb)(J:p.length < 32)(D:kb.length < 32)(h:∀ h' ks,SS w h' s.heap.objs.size ks->(∀ x,x∈ks↔x∈p\/x∈kb)->(∀ c o,c < s.heap.objs.size->s.heap.get? c=some o->h'.get? c=some o)->Q (.ref s.heap.objs.size) {s with heap:=h'}):
  wpAny (model prog w) A (binaryOp .BitOr (.ref a) (.ref b)) Q E s:=by
 refine wpAny_binaryOp_same (op:=.BitOr) (T:="set") n.ty l.ty PySem.F.fills_set_or PySem.F.slot_set_or (wpAny_call_entry PySem.F.slot_set_or n.ty fB ?_ (PySem.F.args_set_or_2 _ _));unfold Builtin.«frozenset.__or__»;refine Qp (m:=Builtin.Frozenset.slot1 "__or__" ⟨[.ref a,.ref b],[]⟩) ?_;unfold Builtin.Frozenset.slot1;refine Qp (Qq (a:=(Value.ref a,[Value.ref b])) ?_);refine Qq ?_;refine Qp (m:=(Builtin.Frozenset.isAnySet (.ref a) <&&> Builtin.Frozenset.isAnySet (.ref b))) ?_;refine Qp (K0 n.ty (K0 l.ty ?_));rw[if_neg (by decide)];refine Qp (m:=Builtin.Frozenset.addrOf (.ref a)) (Qq ?_);refine Qp ?_;refine Qp (m:=Builtin.Frozenset.copyOf a) ?_;unfold Builtin.Frozenset.copyOf Builtin.Frozenset.baseOf;refine Qp (Qp (wpAny_isInstance n.ty sub_set_self (Qq ?_)));rw[if_pos rfl];refine Qp (aj λled j=>?_);refine Qp (Qq ?_);have f:∀{c:Addr},c < s.heap.objs.size->c≠s.heap.objs.size:=λz=>Ys z;have G:(s.heap.push (BK led)).get? s.heap.objs.size=some (BK led):=Qt _ rfl;refine Qp (P7 (s:={s with heap:=s.heap.push (BK led)}) (f n.lt) G j (n.new _) J λh1 r H q=>?_);refine Qq ?_;show wpAny (model prog w) A.in1 (if(Value.ref b != Value.ref a)=true then _ else _) _ E _;rw[if_pos (by simp only[bne_iff_ne,ne_eq,Value.ref.injEq];exact λz=>y z.symm)];refine Qp (m:=Builtin.Frozenset.addrOf _) (Qq ?_);have k:SS w h1 b kb:=(l.new (BK led)).same (f l.lt) r;have L:Shared.TypeIs {s with heap:=h1} (.ref b) "set":=SS.ty (s:={s with heap:=h1}) k
 have keep:∀ h2,Heap.SameBut s.heap.objs.size h1 h2->∀ c o,c < s.heap.objs.size->s.heap.get? c=some o->h2.get? c=some o:=λh2 d c o hc e=>by
  rw[d.2 c (f hc),r.2 c (f hc)];exact Qr _ e
 refine Qp (wpAny_holding ?_);unfold Builtin.Frozenset.updateFrom;refine Qp (K0 L ?_);rw[if_pos rfl];refine Qp (m:=Builtin.Frozenset.addrOf (.ref b)) (Qq ?_);unfold Builtin.Frozenset.merge;have i:=k;obtain⟨R,es,S,t,O,v,hd,T⟩:=k;refine Qp (wpAny_setEpoch_of O hd T.ft ?_);have u:∀ h2 ks,Heap.SameBut s.heap.objs.size h1 h2->SS w h2 s.heap.objs.size ks->(∀ x,x∈ks↔x∈p\/x∈kb)->Q (.ref s.heap.objs.size) {s with heap:=h2}:=λh2 ks d g v=>h h2 ks g v (keep h2 d);by_cases N:p=[]
 ·subst N;refine P7 (s:={s with heap:=h1}) (f l.lt) (q rfl) j i D λh2 d g _=>?_;refine Qq (Qq ⟨_,rfl,by simp,u h2 kb d g λx=>⟨.inr,λz=>z.elim (λz=>by cases z) id⟩⟩)
 ·refine fA (s:={s with heap:=h1}) (f l.lt) N H i (by lia) (λI K s' U B P=>?_) λh2 ks d g v=>?_
  ·have e:I=R:=by
    have:=K.symm.trans O;exact YE this
   subst e;unfold Builtin.Frozenset.unchanged;refine Qp (wpAny_setEpoch_of B hd T.ft ?_);rw[if_neg (by simp)];exact Qq P
  ·exact Qq (Qq ⟨_,rfl,by simp,u h2 ks d g v⟩)
theorem EQ:Slot "set_iterator" "__next__" "set_iterator.__next__":=.of (owner:="set_iterator") (n:="__next__") (by rw[typeLookup_type,builtinLookup_eq_fast];kernel_rfl) (by decide +kernel) (by decide +kernel) (by decide +kernel) (by first | exact .inl (by decide +kernel)| exact .inr (by decide +kernel)) (by rw[isSubtype_type];kernel_rfl)
theorem P8:Slot "set" "__iter__" "set.__iter__":=.of (owner:="set") (n:="__iter__") (by rw[typeLookup_type,builtinLookup_eq_fast];kernel_rfl) (by decide +kernel) (by decide +kernel) (by decide +kernel) (by first | exact .inl (by decide +kernel)| exact .inr (by decide +kernel)) (by rw[isSubtype_type];kernel_rfl)
theorem P9:entryFor table "set_iterator.__next__"=some Builtin.«set_iterator.__next__»:=entryFor_of_fast (by kernel_rfl)
theorem fD:entryFor table "set.__iter__"=some Builtin.«frozenset.__iter__»:=entryFor_alias (id':="frozenset.__iter__") (by kernel_rfl) rfl (by decide +kernel) (by kernel_rfl)
theorem Qx(a:Value):argsOk "set_iterator.__next__" ⟨[a],[]⟩:=by unfold argsOk;kernel_rfl
theorem fE(a:Value):argsOk "set.__iter__" ⟨[a],[]⟩:=by unfold argsOk;kernel_rfl
section
variable {w:World}
theorem fF(b:n≠0)(h:∀ i d,i < n->Q i {s with drawn:=d}):wpAny (model prog w) A (choose a n) Q E s :=
 λ_ _ _=>⟨b,h _ _ (Nat.mod_lt _ (Nat.pos_of_ne_zero b))⟩
theorem Qy{α:Type}:∀(n:Nat)(xs:List α)(s:Shared)(Q:List α->Shared->Prop),xs.length=n->(∀ ys d,ys.Perm xs->Q ys {s with drawn:=d})->wpAny (model prog w) A (drawOrder n xs) Q E s
 | 0,xs,s,Q,h,q=>by
  obtain rfl:=Qg.mp h;exact Qq (q [] s.drawn (List.Perm.refl _))
 | n+1,[],s,Q,h,q=>by cases h
 | n+1,x::xs,s,Q,h,q=>by
  unfold drawOrder;refine Qp (fF (by simp) λi d hi=>?_);rw[Yp hi];dsimp only;refine Qp (Qy n _ _ _ (by rw[List.length_eraseIdx_of_lt hi];simpa using h) λys a b=>?_);exact Qq (q _ a ((b.cons _).trans (KY _ i hi)))
noncomputable abbrev Itr(first:Value)(i:Nat)(a:Addr)(n ep:Nat):Obj:={cls:=.type "set_iterator",data:=.fields #[first,.int i 0,.ref a,.int n 0,.int ep 0]}
inductive Md(w:World)(a T:Addr)(es:Array (Int×Value))(ep:Nat)(t:SetTable)(l:List (Int×Value))(h:Heap):Value->Nat->Prop where
 | drawn {ps:List Nat} {oT:Obj} {c i:Nat}:h.get? T=some oT->oT.data=.seq (ps.map λp:Nat=>rawInt p).toArray c->ps.length=l.length->(∀(j p:Nat),ps[j]?=some p->∃ e,es[p]?=some e/\l[j]?=some e)->Md w a T es ep t l h (.ref T) i
 | text {k i:Nat}:bt w=true->l=(pickOrder (w.params.setOrder a ep) es).toList->Md w a T es ep t l h (.int k 0) i
 | few {k i:Nat}:bt w=false->t.led=true->es.size<=1->l=es.toList->(i=0->k=0)->(∀ j:Nat,i=1->t.place[0]?=some j->k=j+1)->Md w a T es ep t l h (.int k 0) i
structure Wk(w:World)(it a T:Addr)(ob:Obj)(es:Array (Int×Value))(ep:Nat)(t:SetTable)(l:List (Int×Value))(i:Nat)(h:Heap):Prop where
 st:∃ first,h.get? it=some (Itr first i a es.size ep)/\Md w a T es ep t l h first i
 ob:h.get? a=some ob
theorem Md.at(M:Md w a T es ep t l h v i)(k:∀ o,h.get? T=some o->h'.get? T=some o):Md w a T es ep t l h' v i:=by
 cases M with
 | drawn h1 h2 b c=>exact .drawn (k _ h1) h2 b c
 | text h1 h2=>exact .text h1 h2
 | few h1 h2 b c e d=>exact .few h1 h2 b c e d
theorem Qz{h:Heap}(e:h.get? b=some (Itr first i a n ep))(j:Nat):(h.update b (Obj.mapFields (·.setIfInBounds 1 (rawInt j)))).get? b=some (Itr first j a n ep):=by
 have c:=Qw (Obj.mapFields (·.setIfInBounds 1 (rawInt j))) e (Obj.isFreed_of_fields (Obj.data_mapFields rfl _));rw[c];rfl
theorem HJ{h:Heap}(e:h.get? b=some (Itr first i a n ep))(v:Value):(h.update b (Obj.mapFields (·.setIfInBounds 0 v))).get? b=some (Itr v i a n ep):=by
 have c:=Qw (Obj.mapFields (·.setIfInBounds 0 v)) e (Obj.isFreed_of_fields (Obj.data_mapFields rfl _));rw[c];rfl
end
theorem QA(j k:Nat):SetTable.below #[j] k=if j < k then 1 else 0:=by
 show SetTable.below.go #[j] k 1 0 1=_;unfold SetTable.below.go;simp only[Nat.zero_lt_one,if_true];show(if j < k then SetTable.below.go #[j] k 0 1 1 else SetTable.below.go #[j] k 0 0 0)=_;rfl
theorem HK{α:Type}{xs:Array α}(h:xs.size<=1):xs=#[]\/∃ x,xs=#[x]:=by
 obtain⟨l⟩:=xs
 match l,h with
 | [],_=>exact .inl rfl
 | [x],_=>exact .inr ⟨x,rfl⟩
theorem fG(Y:B.ExactSet)(hd:B.data=.set es ep t)(Tb:Tab w es t ks)(r:a≠b)(h:T≠b)(S:Wk w b a T B es ep t l i s.heap)(hl:l[i]?=some e)(J:∀ h',Wk w b a T B es ep t l (i+1) h'->Heap.SameBut b s.heap h'->Q (some e.2) {s with heap:=h'}):wpAny (model prog w) A (pyNext (.ref b)) Q E s:=by
 obtain⟨⟨first,hi,M⟩,f⟩:=S;have I:s.TypeIs (.ref b) "set_iterator":=⟨_,hi,rfl⟩;unfold pyNext;refine Qp (wpAny_attempt (wpAny_callSpecial?_slot (name:=Str.ofString "__next__") I EQ (wpAny_call_entry EQ I P9 ?_ (Qx _))));unfold Builtin.«set_iterator.__next__»;refine Qp (Qq (a:=(Value.ref b,([]:List Value))) ?_);refine Qp (wpAny_fieldsOf hi rfl ?_);dsimp only;refine Qp (wpAny_setEntries_of f hd Tb.ft ?_);rw[if_neg (by simp)]
 have two:∀(v:Value),Md w a T es ep t l s.heap v (i+1)->Q (some e.2) {s with heap:=(s.heap.update b (Obj.mapFields (·.setIfInBounds 0 v))).update b (Obj.mapFields (·.setIfInBounds 1 (rawInt (i+1))))}:=λv P=>by
  have g:=(Qv s.heap b (Obj.mapFields (·.setIfInBounds 0 v))).trans (Qv _ b (Obj.mapFields (·.setIfInBounds 1 (rawInt (i+1)))));refine J _ ⟨⟨v,Qz (HJ hi v) (i+1),P.at λo z=>by rw[g.2 T h];exact z⟩,by rw[g.2 a r];exact f⟩ g
 cases M with
 | drawn h1 h2 y u =>
  rename_i ps Z c
  obtain⟨p,K⟩:∃ p,ps[i]?=some p:=by
   obtain⟨n,_⟩:=YY.mp hl;exact⟨_,Yp (by lia)⟩
  obtain⟨R,N,D⟩:=u i p K;obtain rfl:R=e:=YE (D.symm.trans hl);dsimp only;refine Qp (wpAny_seqItems h1 h2 ?_);dsimp only
  have U:(ps.map λp:Nat=>rawInt p).toArray[(Int.ofNat i).toNat]?=some (rawInt p):=by
   simp[K]
  have F:(ps.map λp:Nat=>rawInt p).toArray[((i:Int)).toNat]?=some (.int (p:Int) 0):=U;rw[F];dsimp only;refine Qp ?_;unfold setNextDrawn;refine Qp (wpAny_setState_of f hd Tb.ft ?_);dsimp only;rw[if_neg (by simp)];rw[show((p:Int)).toNat=p from Int.toNat_natCast p,N];dsimp only;refine Qq (Qp (wpAny_setField hi rfl (by simp) (Qq ⟨_,rfl,Qq ?_⟩)));have g:=Qv s.heap b (Obj.mapFields (·.setIfInBounds 1 (rawInt (i+1))));exact J _ ⟨⟨_,Qz hi (i+1),.drawn (by rw[g.2 T h];exact h1) h2 y u⟩,by rw[g.2 a r];exact f⟩ g
 | text h1 h2 =>
  rename_i k;dsimp only;refine Qp ?_;unfold setNext;refine Qp (wpAny_setState_of f hd Tb.ft ?_);dsimp only;unfold setsByText;refine Qp (Qp (wpAny_askSetting (Qq ?_)));show wpAny (model prog w) _ (if bt w=true then _ else _) _ _ s;rw[if_pos h1,if_neg (by simp)];unfold setWalk;refine Qp (Qp (wpAny_setState_of f hd Tb.ft ?_));dsimp only;unfold setsByText;refine Qp (Qp (wpAny_askSetting (Qq ?_)));show wpAny (model prog w) _ (if bt w=true then _ else _) _ _ s;rw[if_pos h1];refine Qp (wpAny_askSetting (Qq ?_));subst h2;rw[YN]at hl;show wpAny (model prog w) _ (pure (((pickOrder (w.params.setOrder a ep) es)[((i:Int)).toNat]?).map _)) _ _ s;rw[show((i:Int)).toNat=i from Int.toNat_natCast i,hl];refine Qq ?_;dsimp only[Option.map_some];refine Qp (wpAny_setField hi rfl (by simp) ?_);refine Qp (wpAny_setField (HJ hi _) rfl (by simp) (Qq ⟨_,rfl,Qq ?_⟩));exact two _ (.text h1 rfl)
 | few h1 h2 y u O X =>
  rename_i k;subst u;rw[YN]at hl;have d:=Tb.ft;rcases HK y with z |⟨x,z⟩
  ·rw[z]at hl;simp at hl
  ·rw[z]at hl
   have G:i=0:=by
    obtain⟨n,_⟩:=Array.getElem?_eq_some_iff.mp hl;simpa using n
   subst G;obtain rfl:x=e:=by simpa using hl
   obtain rfl:=O rfl
   have m:t.place.size=1:=by
    unfold SetTable.fits at d;rw[z]at d;simp only[YF,beq_iff_eq]at d;exact d.1
   obtain⟨j,H⟩:∃ j,t.place=#[j]:=by
    rcases HK (by lia:t.place.size<=1)with q | q
    ·rw[q]at m;cases m
    ·exact q
   dsimp only;refine Qp ?_;unfold setNext;refine Qp (wpAny_setState_of f hd Tb.ft ?_);dsimp only;unfold setsByText;refine Qp (Qp (wpAny_askSetting (Qq ?_)));show wpAny (model prog w) _ (if bt w=true then _ else _) _ _ s;rw[if_neg (by rw[h1];decide)];show wpAny (model prog w) _ (if(!t.plain&&decide (es.size > 1))=true then _ else _) _ _ s
   rw[if_neg (by have:¬ es.size > 1:=by lia
                 simp[this])]
   refine Qp ?_;show wpAny (model prog w) _ (if(!t.led&&!es.isEmpty)=true then _ else pure ()) _ _ s;rw[if_neg (by rw[h2];simp)];refine Qq ?_;show wpAny (model prog w) _ (pure (match es[SetTable.below t.place 0]?,t.place[SetTable.below t.place 0]? with | some (_,x),some j=>some (x,j+1)| _,_=>none)) _ _ s;rw[H,QA,if_neg (by lia),z];refine Qq ?_;refine Qp (wpAny_setField hi rfl (by simp) ?_);refine Qp (wpAny_setField (HJ hi _) rfl (by simp) (Qq ⟨_,rfl,Qq ?_⟩));refine two _ (.few (k:=j+1) h1 h2 y rfl (λq=>by cases q) λL _ q=>?_);rw[H]at q;have:j=L:=by simpa using q
   lia
theorem K1{s:Shared}{R:Fin->Shared->Prop}{Q:Option Value->Shared->Prop}(f:A.handled=none)(x:Heap.ExtBut d c h1)(g:∀ h',Heap.ExtBut d c h'->Q none {s with heap:=h'}):
  wpAny (model prog w) A.in1 (do let e <- newExc (.type "StopIteration") [];raiseNew e) R (λe s'=>wpAny (model prog w) A (do let b <- isInstance e (.type "StopIteration");if b=true then pure none else throw e) Q E s') {s with heap:=h1}:=by
 refine Qp ?_;simp only[newExc,newTuple];refine Qp (wpAny_newObj_type ?_ (by size_fits));refine Qp (m:=firstArgMember _ _) (wpAny_of_eq (a:=Value.none) (by first | rfl |(simp only[firstArgMember];rfl)) (wpAny_newObj_type ?_ (by size_fits)));simp only[raiseNew];refine Qp (wpAny_handled ?_);rw[show A.in1.handled=none from f];refine Qp (Qq (wpAny_throw ?_));refine Qp (wpAny_isInstance (T:="StopIteration") (b:=true) ⟨_,Qt _ rfl,rfl⟩ isSubtype_stop ?_);exact Qq (g _ ((x.push _).push _))
theorem fH(m:A.handled=none)(K:o.ExactSet)(hd:o.data=.set es ep t)(Tb:Tab w es t ks)(S:Wk w d a T o es ep t l i s.heap)(hl:l.length=i)(r:es.size=i)(h:∀ h',Heap.ExtBut d s.heap h'->Q none {s with heap:=h'}):wpAny (model prog w) A (pyNext (.ref d)) Q E s:=by
 obtain⟨⟨first,hi,M⟩,g⟩:=S;have y:s.TypeIs (.ref d) "set_iterator":=⟨_,hi,rfl⟩;unfold pyNext;refine Qp (wpAny_attempt (wpAny_callSpecial?_slot (name:=Str.ofString "__next__") y EQ (wpAny_call_entry EQ y P9 ?_ (Qx _))));unfold Builtin.«set_iterator.__next__»;refine Qp (Qq (a:=(Value.ref d,([]:List Value))) ?_);refine Qp (wpAny_fieldsOf hi rfl ?_);dsimp only;refine Qp (wpAny_setEntries_of g hd Tb.ft ?_);rw[if_neg (by simp)];have v:((i:Int)).toNat=i:=Int.toNat_natCast i;cases M with
 | drawn h1 h2 B D =>
  rename_i ps I c;dsimp only;refine Qp (wpAny_seqItems h1 h2 ?_);dsimp only
  have F:(ps.map λp:Nat=>rawInt p).toArray[((i:Int)).toNat]?=none:=by
   rw[v];simp;lia
  rw[F];dsimp only;refine Qp (wpAny_setField hi rfl (by simp) ?_);refine Qp (wpAny_setField (HJ hi _) rfl (by simp) ?_);exact K1 m ((Qv s.heap d (Obj.mapFields (·.setIfInBounds 0 (rawInt 0)))).trans (Qv _ d _)).extBut h
 | text h1 h2 =>
  rename_i k;dsimp only;refine Qp ?_;unfold setNext;refine Qp (wpAny_setState_of g hd Tb.ft ?_);dsimp only;unfold setsByText;refine Qp (Qp (wpAny_askSetting (Qq ?_)));show wpAny (model prog w) _ (if bt w=true then _ else _) _ _ s;rw[if_pos h1,if_neg (by simp)];unfold setWalk;refine Qp (Qp (wpAny_setState_of g hd Tb.ft ?_));dsimp only;unfold setsByText;refine Qp (Qp (wpAny_askSetting (Qq ?_)));show wpAny (model prog w) _ (if bt w=true then _ else _) _ _ s;rw[if_pos h1];refine Qp (wpAny_askSetting (Qq ?_));show wpAny (model prog w) _ (pure (((pickOrder (w.params.setOrder a ep) es)[((i:Int)).toNat]?).map _)) _ _ s
  have H:(pickOrder (w.params.setOrder a ep) es)[i]?=none:=by
   rw[<- YN,<- h2];exact Qf (by lia)
  rw[v,H];refine Qq ?_;dsimp only[Option.map_none];refine Qp (wpAny_setField hi rfl (by simp) ?_);exact K1 m (Qv s.heap d _).extBut h
 | few h1 h2 B D J G =>
  rename_i k;have b:=Tb.ft
  have e:es[SetTable.below t.place k]?=none:=by
   refine Array.getElem?_eq_none ?_;rcases HK B with z |⟨x,z⟩
   ·rw[z];exact YV _
   ·have f:t.place.size=1:=by
     unfold SetTable.fits at b;rw[z]at b;simp only[YF,beq_iff_eq]at b;exact b.1
    obtain⟨j,u⟩:∃ j,t.place=#[j]:=by
     rcases HK (by lia:t.place.size<=1)with q | q
     ·rw[q]at f;cases f
     ·exact q
    have n:i=1:=by rw[<- r,z];rfl
    have:=G j n (by rw[u];rfl);rw[u,this,QA,if_pos (by lia),z];exact Yr _
  dsimp only;refine Qp ?_;unfold setNext;refine Qp (wpAny_setState_of g hd Tb.ft ?_);dsimp only;unfold setsByText;refine Qp (Qp (wpAny_askSetting (Qq ?_)));show wpAny (model prog w) _ (if bt w=true then _ else _) _ _ s;rw[if_neg (by rw[h1];decide)];show wpAny (model prog w) _ (if(!t.plain&&decide (es.size > 1))=true then _ else _) _ _ s
  rw[if_neg (by have:¬ es.size > 1:=by lia
                simp[this])]
  refine Qp ?_;show wpAny (model prog w) _ (if(!t.led&&!es.isEmpty)=true then _ else pure ()) _ _ s;rw[if_neg (by rw[h2];simp)];refine Qq ?_;show wpAny (model prog w) _ (pure (match es[SetTable.below t.place ((k:Int)).toNat]?,t.place[SetTable.below t.place ((k:Int)).toNat]? with | some (_,x),some j=>some (x,j+1)| _,_=>none)) _ _ s;rw[show((k:Int)).toNat=k from Int.toNat_natCast k,e];refine Qq ?_;refine Qp (wpAny_setField hi rfl (by simp) ?_);exact K1 m (Qv s.heap d _).extBut h
theorem QB:Slot "set_iterator" "__iter__" "set_iterator.__iter__":=.of (owner:="set_iterator") (n:="__iter__") (by rw[typeLookup_type,builtinLookup_eq_fast];kernel_rfl) (by decide +kernel) (by decide +kernel) (by decide +kernel) (by first | exact .inl (by decide +kernel)| exact .inr (by decide +kernel)) (by rw[isSubtype_type];kernel_rfl)
theorem fI:entryFor table "set_iterator.__iter__"=some Builtin.«dict_keyiterator.__iter__»:=entryFor_alias (id':="dict_keyiterator.__iter__") (by kernel_rfl) rfl (by decide +kernel) (by kernel_rfl)
theorem fJ(a:Value):argsOk "set_iterator.__iter__" ⟨[a],[]⟩:=by unfold argsOk;kernel_rfl
theorem fK(y:A.handled=none)(x:n.ExactSet)(hd:n.data=.set es ep t)(Tb:Tab w es t ks)(g:a≠c)(k:T≠c)(hl:l.length=es.size):
  Walks prog w A c [c,a,T] [c] es.size (λi v=>∃ e,l[i]?=some e/\v=e.2) (λi h=>Wk w c a T n es ep t l i h) where
 sub:=λb d=>by simp at d;simp[d]
 frame:=λ_ _ _ st j=>by
  obtain⟨⟨first,hi,M⟩,r⟩:=st;exact⟨⟨first,j c (by simp) _ hi,M.at λo e=>j T (by simp) o e⟩,j a (by simp) _ r⟩
 item:=λi s Q E hi st f=>by
  obtain⟨e,u⟩:∃ e,l[i]?=some e:=⟨_,Yp (by lia)⟩;refine fG x hd Tb g k st u λh' W q=>?_;exact f _ h' s.toks ⟨e,u,rfl⟩ W (λb o d z=>q.extBut b o (λh=>d (by simp[h])) z)
 done:=λs Q E st f=>fH y x hd Tb st hl rfl λh' p=>f h' s.toks λb o d e=>p b o (λh=>d (by simp[h])) e
 self:=λ_ s Q E st f=>by
  obtain⟨⟨first,hi,M⟩,r⟩:=st;have m:s.TypeIs (.ref c) "set_iterator":=⟨_,hi,rfl⟩;refine wpAny_pyIter_slot m QB (wpAny_call_entry QB m fI (Qq ⟨_,rfl,"set_iterator",_,m,EQ.lookup,f⟩) (fJ _))
theorem DX{α:Type}{es:Array α}:∀{ys:List Nat},(∀ p∈ys,p < es.size)->(ys.filterMap (es[·]?)).length=ys.length/\∀(j p:Nat),ys[j]?=some p->∃ e,es[p]?=some e/\(ys.filterMap (es[·]?))[j]?=some e
 | [],_=>⟨rfl,λj p h=>by simp at h⟩
 | y::ys,h=>by
  have b:es[y]?=some (es[y]'(h y Ye)):=YX _;obtain⟨h1,h2⟩:=DX (ys:=ys) λp c=>h p (Yd _ c);rw[List.filterMap_cons,b];refine⟨by simp[h1],λj p a=>?_⟩;cases j with
  | zero =>
   simp only[Yb,Option.some.injEq]at a;subst a;exact⟨_,b,rfl⟩
  | succ j =>
   simp only[Yc]at a ⊢;exact h2 j p a
theorem fL{s:Shared}(f:s.heap.get? a=some v)(J:v.ExactSet)(hd:v.data=.set es ep t)(Tb:Tab w es t ks)(I:ks.length < scanBound)(h:∀ r T l h' d,s.heap.objs.size<=r->T≠r->(T=a\/s.heap.objs.size<=T)->(∀ c o,s.heap.get? c=some o->h'.get? c=some o)->Wk w r a T v es ep t l 0 h'->l.Perm es.toList->T < h'.objs.size->r < h'.objs.size->Q (.ref r) {s with heap:=h',drawn:=d}):wpAny (model prog w) A (pyIter (.ref a)) Q E s:=by
 have G:s.TypeIs (.ref a) "set":=⟨v,f,J.1⟩;have q:a < s.heap.objs.size:=Qs f;have F:=Tb.len;refine wpAny_pyIter_slot G P8 (wpAny_call_entry P8 G fD ?_ (fE _));unfold Builtin.«frozenset.__iter__»;refine Qp (m:=Builtin.Frozenset.slot0 "__iter__" ⟨[.ref a],[]⟩) (Qq (a:=a) ?_);refine Qp (m:=Builtin.Frozenset.sizeOf a) (Qp (wpAny_setEntries_of f hd Tb.ft (Qq ?_)));refine Qp ?_;unfold setDrawn;refine Qp (wpAny_setState_of f hd Tb.ft ?_);dsimp only;unfold setsByText;refine Qp (Qp (wpAny_askSetting (Qq ?_)));show wpAny (model prog w) _ (pure (!(bt w)&&(!t.plain&&decide (es.size > 1)))) _ _ s;refine Qq ?_;by_cases hc:(!(bt w)&&(!t.plain&&decide (es.size > 1)))=true
 ·rw[if_pos hc];refine Qp (Qy es.size (List.range es.size) s _ (List.length_range) λys d x=>?_);have D:ys.length=es.size:=by rw[x.length_eq,List.length_range]
  refine Qp (wpAny_newTuple (items:=ys.map λi:Nat=>rawInt i) ?_ (by rw[Yh,D,F];exact fits_of_scanBound I));refine Qp (wpAny_setEpoch_of (s:={s with heap:=s.heap.push _,drawn:=d}) (Qr _ f) hd Tb.ft ?_);simp only[newFields];refine Qp (wpAny_newObj_type ?_ (by show(5:Nat)<=sizeLine+2;decide));refine Qq ⟨_,rfl,"set_iterator",_,⟨_,Qt _ rfl,rfl⟩,EQ.lookup,?_⟩;obtain⟨b,y⟩:=DX (es:=es) (ys:=ys) λp z=>List.mem_range.mp (x.mem_iff.mp z)
  have g:(ys.filterMap (es[·]?)).Perm es.toList:=by
   have B:=L3.Tb.order_perm es ys.toArray (by simpa using x);simpa using B
  refine h _ s.heap.objs.size (ys.filterMap (es[·]?)) _ d ?_ ?_ (.inr (Yr _)) (λc o e=>Qr _ (Qr _ e)) ⟨⟨_,Qt _ rfl,.drawn (Qr _ (Qt _ rfl)) rfl b.symm y⟩,Qr _ (Qr _ f)⟩ g ?_ ?_
  ·rw[Qu];exact Nat.le_succ _
  ·rw[Qu];exact Ys (Nat.lt_succ_self _)
  ·rw[Qu,Qu];exact Nat.lt_succ_of_lt (Nat.lt_succ_self _)
  ·simp only[Qu];exact Nat.lt_succ_self _
 ·rw[if_neg hc];refine Qp (Qq ?_);refine Qp (wpAny_setEpoch_of f hd Tb.ft ?_);simp only[newFields];refine Qp (wpAny_newObj_type ?_ (by show(5:Nat)<=sizeLine+2;decide));refine Qq ⟨_,rfl,"set_iterator",_,⟨_,Qt _ rfl,rfl⟩,EQ.lookup,?_⟩
  have u:∀ l,l.Perm es.toList->Md w a a es ep t l (s.heap.push (Itr (rawInt 0) 0 a es.size ep)) (rawInt 0) 0->Q (.ref s.heap.objs.size) {s with heap:=s.heap.push (Itr (rawInt 0) 0 a es.size ep)}:=λl x M=>
   h _ a l _ s.drawn (Yr _) (Ys q) (.inl rfl) (λc o e=>Qr _ e) ⟨⟨_,Qt _ rfl,M⟩,Qr _ f⟩ x (by rw[Qu];exact Nat.lt_succ_of_lt q) (by rw[Qu];exact Nat.lt_succ_self _)
  by_cases H:bt w=true
  ·exact u _ (P5 _ _) (.text (k:=0) H rfl)
  ·have n:bt w=false:=by simpa using H
   have h1:es.size<=1:=by
    rw[n]at hc;simp only[Bool.not_false,Bool.true_and,YF,YQ,not_and]at hc;cases b:t.plain with
    | true=>have:=Tb.pl b;subst this;rw[F];decide
    | false=>have:=hc (by rw[b];rfl);lia
   exact u es.toList (List.Perm.refl _) (.few (k:=0) n (Tb.ld n) h1 rfl (λ_=>rfl) λj z=>by cases z)
theorem fM:Slot "set" "__len__" "set.__len__":=.of (owner:="set") (n:="__len__") (by rw[typeLookup_type,builtinLookup_eq_fast];kernel_rfl) (by decide +kernel) (by decide +kernel) (by decide +kernel) (by first | exact .inl (by decide +kernel)| exact .inr (by decide +kernel)) (by rw[isSubtype_type];kernel_rfl)
theorem fN(b:s.TypeIs (.ref a) "set")(q:Q false s):wpAny (model prog w) A (Builtin.List.listLengthHint (.ref a)) Q E s:=by
 unfold Builtin.List.listLengthHint;refine Qp (wpAny_specialOf b fM.lookup ?_);have hs:splitId "set.__len__"=some ("set","__len__"):=by kernel_rfl
 dsimp only;rw[hs];dsimp only;refine Qp (wpAny_isInstance b sub_set_self ?_);rw[if_neg (by decide)];show wpAny (model prog w) A (if _=true then _ else _) Q E s;rw[if_pos (by decide +kernel)];refine Qp (wpAny_typeOf b ?_);exact Qq q
theorem fO{s:Shared}(hh:A.handled=none)(hS:SS w s.heap a ks)(hn:ks.length < scanBound)(h:∀(s':Shared)(vs:List Value)(xs:List Str),StrsAre vs xs->xs.Perm ks->(∀ c o,c < s.heap.objs.size->s.heap.get? c=some o->s'.heap.get? c=some o)->s'.gens=s.gens->s'.os=s.os->s.heap.objs.size<=s'.heap.objs.size->Q vs s'):wpAny (model prog w) A (collect (.ref a)) Q E s:=by
 have p:=hS;obtain⟨ob,es,ep,t,ho,N,hd,T⟩:=hS;have hz:=T.len;have y:a < s.heap.objs.size:=Qs ho;unfold collect;refine Qp (wpAny_runValue (codeAny_builtin PySem.F.entry_proto_collect ?_));rw[Around.under_plainId PySem.F.plain_proto_collect _];refine Qp (m:=newList []) (wpAny_newList ?_ (YV _));refine Qq ⟨plainId_quiet PySem.F.plain_list_iadd _,codeAny_builtin PySem.F.entry_list_iadd ?_⟩;rw[Around.under_plainId PySem.F.plain_list_iadd _];have j:s.heap.objs.size≠a:=YW (Ys y);have J:(s.heap.push (seqObj "list" #[] 0)).get? a=some ob:=Qr _ ho;have hT1:Shared.TypeIs {s with heap:=s.heap.push (seqObj "list" #[] 0)} (.ref a) "set":=⟨ob,J,N.1⟩;refine(?_:wpAny (model prog w) A.in1 (Builtin.List.listExtendWith (.ref s.heap.objs.size) (.ref a) (.ref s.heap.objs.size)) _ _ {s with heap:=s.heap.push (seqObj "list" #[] 0)});unfold Builtin.List.listExtendWith;refine Qp (wpAny_typeOf hT1 ?_);have c1:Builtin.List.listSameRef (.ref s.heap.objs.size) (.ref a)=false:=by simp[Builtin.List.listSameRef,j]
 have c2:(Value.type "set"==Value.type "list")=false:=by decide
 have c3:(Value.type "set"==Value.type "tuple")=false:=by decide
 simp only[c1,c2,c3,Bool.or_false,Yq,if_false];refine Qp (fL J N hd T hn λO Tp l h' d D z U keep W hp hTl hil=>?_);obtain⟨⟨first,hi,M⟩,I⟩:=id W;have X:Shared.TypeIs {s with heap:=h',drawn:=d} (.ref a) "set":=⟨ob,I,N.1⟩;refine Qp (wpAny_holding (fN X ?_));refine(?_:wpAny (model prog w) A.in1 (rule "list.extend.makes-room" >>=λ_=>Builtin.List.listTouch (.ref s.heap.objs.size) >>=λ_=>again (.builtin "list.extend.loop" ⟨[.ref s.heap.objs.size,.ref O,.ref s.heap.objs.size],[]⟩)) _ _ {s with heap:=h',drawn:=d});refine Qp (wpAny_rule ?_);have L:h'.get? s.heap.objs.size=some (seqObj "list" #[] 0):=keep _ _ (Qt _ rfl);refine Qp (m:=Builtin.List.listTouch (.ref s.heap.objs.size)) (Qp (m:=updateSeq s.heap.objs.size (·.push .none)) (wpAny_updateSeq (s:={s with heap:=h',drawn:=d}) L rfl ?_));have r:=Qw (Obj.mapSeq (·.push Value.none)) L rfl;refine(?_:wpAny (model prog w) A.in1 (updateSeq s.heap.objs.size (·.pop)) _ _ _);refine wpAny_updateSeq r rfl ?_;have hS3:=Qw (Obj.mapSeq (·.pop)) r rfl;have f:s.heap.objs.size < O:=by rw[Qu]at D;exact D
 have K:s.heap.objs.size≠Tp:=by
  rcases U with e | e
  ·rw[e];exact j
  ·rw[Qu]at e;exact Ys e
 have Z:s.heap.objs.size∉[O,a,Tp]:=by
  simp only [Yo,Qa,or_false,not_or];exact⟨Ys f,j,K⟩
 have R:a≠O:=Ys (Nat.lt_trans y f);have G:l.length=es.size:=by rw[hp.length_eq,YT]
 have WS:=(fK (prog:=prog) (w:=w) (A:=A.in1) (by simp[hh]) N hd T R z G).toS
 have g:∀ b o,b≠s.heap.objs.size->h'.get? b=some o->((h'.update s.heap.objs.size (Obj.mapSeq (·.push Value.none))).update s.heap.objs.size (Obj.mapSeq (·.pop))).get? b=some o :=
  λb o q e=>(Heap.get?_update_other _ _ (YW q)).trans ((Heap.get?_update_other _ _ (YW q)).trans e)
 refine Qq ⟨plainId_quiet PySem.F.plain_extend_loop _,codeAny_extend_loopS WS (fits_of_scanBound (by rw[hz];exact hn)) _ Z _ es.size 0 _ _ _ rfl (YV _)
  ⟨⟨first,g _ _ (YW (Ys f)) hi,M.at λo e=>g _ _ (YW K) e⟩,g _ _ (YW j) I⟩ hS3 (ItemsOf.nil _) λs' n c S p k=>?_⟩
 refine Qp (m:=load s.heap.objs.size) (wpAny_load p (Qq ?_))
 have hvs:n.toList=l.map (·.2):=by
  apply List.ext_getElem?;intro i;rw[YO,YN];by_cases B:i < n.size
  ·obtain⟨e,P,Y⟩:=k.2 i _ (YX B);rw[YX B,P,Y];rfl
  ·rw[Array.getElem?_eq_none (by lia),Qf (by rw[G,<- k.1];lia)];rfl
 have H:∀ v∈l.map (·.2),∃ x t,v=Value.str x t:=λv Y=>by
  obtain⟨e,P,rfl⟩:=YC.mp Y;obtain⟨x,u,rfl⟩:=T.el e (hp.mem_iff.mp P);exact⟨x,u,rfl⟩
 refine h s' n.toList ((l.map (·.2)).map strOf) (by rw[hvs];exact strsAre_map _ H) ?_ (λb o q e=>?_) S.gens S.os ?_
 ·rw[YB];exact((hp.map _).trans T.pm)
 ·refine S.heap b o ?_ (g b o (Ys q) (keep b o (Qr _ e)));simp only [Yo,Qa,or_false,not_or];exact⟨Ys q,Ys (Nat.lt_trans q f)⟩
 ·exact YK (Qs p)
theorem QC{s:Shared}(F:A.handled=none)(G:SS w s.heap a ks)(H:ks.length < 64)(h:∀(s':Shared)(p:Addr)(vs:List Value)(xs:List Str)(e:Nat),s.heap.objs.size<=p->s'.heap.get? p=some (seqObj "list" vs.toArray e)->StrsAre vs xs->xs.Perm ks->sortedS xs=true->(∀ c o,c < s.heap.objs.size->s.heap.get? c=some o->s'.heap.get? c=some o)->s'.gens=s.gens->s'.os=s.os->Q (.ref p) s'):
  wpAny (model prog w) A (call (.builtin "sorted") [.ref a]) Q E s:=by
 refine Calls.call_function_entry kind_sorted plain_sorted entry_sorted (args_sorted1 _) ?_;unfold Builtin.«sorted»;refine Qp (m:=checkCount "sorted" 1 1 _) (Qq ?_);refine Qp (fO (by simp[F]) G (by unfold scanBound;lia) λi vs xs g v keep B l b=>?_);have k:vs.length < 64:=by rw[g.length,v.length_eq];exact H
 refine Qp (wpAny_newList ?_ (by have:=(by decide:(64:Nat)<=sizeLine);lia));have d:(i.heap.push (seqObj "list" vs.toArray 0)).get? i.heap.objs.size=some (seqObj "list" vs.toArray 0):=Qt _ rfl;refine Qp (wpAny_holding (wpAny_call_entry slot_list_sort ⟨_,d,rfl⟩ entry_list_sort (list_sort_treeK (s:={i with heap:=i.heap.push (seqObj "list" vs.toArray 0)}) strKind_oneLt d g.keysOf (λI J r e=>keyKind_strs (by rw[<- e];exact g)) k λf D y=>⟨_,rfl,?_⟩) (args_list_sort _)));obtain⟨q,j,u,t⟩:=sorted_out_str g D y;obtain⟨e,x⟩:=sortedHeap_at (n:=0) (vs:=vs) (out:=(arrOf f).map (·.2)) d;refine Qq ⟨_,rfl,h _ _ ((arrOf f).map (·.2)).toList q e b (by rw[Array.toArray_toList];exact x) j (u.trans v) t (λc o hc z=>?_) B l⟩;rw[sortedHeap_old (Ys (Yu hc b)) (by rw[Qu];exact Nat.lt_succ_of_lt (Yu hc b))];exact Qr _ (keep c o hc z)
section
variable {K:PySem.W.Frag}{H H2:Hp}
theorem Gk:∀{xs:List Str}{a:List Value},Vals (xs.map V.str) a->StrsAre a xs
 | [],_,.nil=>.nil
 | x::xs,_,.cons r b=>by
  obtain⟨t,rfl⟩:=r;exact .cons x t (Gk b)
theorem HL:∀{xs:List Str}{a:List Value},StrsAre a xs->Vals (xs.map V.str) a:=by
 intro xs;induction xs with
 | nil=>intro a h;cases h;exact .nil
 | cons x xs ih=>intro a h;cases h with | cons _ t b=>exact .cons ⟨t,rfl⟩ (ih b)
theorem ER{α:Type}[BEq α][LawfulBEq α]:∀{ks xs:List α},ks.Nodup->(∀ x∈ks,x∈xs)->ks.length<=xs.length
 | [],xs,_,_=>YV _
 | k::ks,xs,d,h=>by
  have c:=YS.mp d;have a:k∈xs:=h k Ye;have h1:=ER (xs:=xs.erase k) c.2 λx b=>(List.mem_erase_of_ne (λe=>c.1 (by rw[<- e];exact b))).mpr (h x (Yd _ b));rw[List.length_erase_of_mem a]at h1;have:0 < xs.length:=List.length_pos_of_mem a;rw[Yg];lia
section
variable {ta tb:TE}
theorem Gm{X:Cx}(hs:starEach [e] X.env=(false,eval e X.env)::starEach [] X.env)(h:wpAny (model X.prog X.w) A (eval e X.env) (λv a=>Q [v] a) E s):wpAny (model X.prog X.w) A (spliced (backTo pos (starEach [e] X.env))) Q E s:=by
 rw[hs];refine Calls.spliced_cons (wpAny_mono h (λv a q=>?_) λ_ _ z=>z);exact Calls.spliced_nil q
noncomputable def fP(K:PySem.W.Frag)(ta tb:TE):TE:=λσ H Q=>ta σ H λx H1=>∃(p:Addr)(xs:List Str),x=.ref p/\SqL K H1 p (xs.map V.str)/\xs.length < 32/\tb σ H1 λy H2=>∃(q:Addr)(ys:List Str),y=.ref q/\SqL K H2 q (ys.map V.str)/\ys.length < 32/\
 ∀(zs:List Str)(r:Addr),zs.Nodup->sortedS zs=true->(∀ x,x∈zs↔x∈xs\/x∈ys)->H2 r=none->Q (.ref r) (upd H2 r (.lst (zs.map V.str)))
theorem fQ(hc:X.calm=true)(n1:X.mg "sorted"=none)(n2:X.mg "set"=none)(g1:Gl X "sorted")(g2:Gl X "set")(h1:starEach [e] X.env=(false,eval e X.env)::starEach [] X.env)(h2:starEach [eb] X.env=(false,eval eb X.env)::starEach [] X.env)(L:starEach [.BinOp (.Call (.Name "set" p1) [e] [] q1) .BitOr (.Call (.Name "set" p2) [eb] [] q2) qb] X.env=(false,eval (.BinOp (.Call (.Name "set" p1) [e] [] q1) .BitOr (.Call (.Name "set" p2) [eb] [] q2) qb) X.env)::starEach [] X.env)(ha:PE X e ta)(hb:PE X eb tb):
  PE X (.Call (.Name "sorted" p3) [.BinOp (.Call (.Name "set" p1) [e] [] q1) .BitOr (.Call (.Name "set" p2) [eb] [] q2) qb] [] q3) (fP X.K ta tb):=by
 intro pins s σ H Q I h;have bS:bootBuiltins "sorted"=some (.builtin "sorted"):=by decide +kernel
 have bT:bootBuiltins "set"=some (.type "set"):=by decide +kernel
 have hh:X.A.handled=none:=I.ok.hd hc;refine wpAny_Call_Name_kw (Cs I g1 n1 bS ?_);refine PyProof.Rows.callWith_builtin1 (Gm L ?_) L rfl;refine wpAny_BinOp ?_;refine wpAny_Call_Name_kw (Cs I g2 n2 bT ?_);refine Qe (Gm h1 ?_) h1 rfl;refine thn (ha pins s σ H _ I h) λv k zz1=>?_;obtain⟨x,H1,t,r1,p,xs,ex,hq,hn,q1⟩:=zz1;subst ex;cases r1;obtain⟨its,rv,pl,hz⟩:=t.list hq;have hil:its.length=xs.length:=by have:=rv.length;rw[Yh]at this;exact this.symm
 refine Ki hh pl.isList (by simpa using Gk rv) (by rw[Yn,hil];unfold scanBound;lia) λh' tk U hA l keep=>?_;have Y:=hA;obtain⟨P,Z,epA,tA,hoA,hxA,B,TA⟩:=hA;have I2:Inv X pins σ H1 {k with heap:=h',toks:=tk}:=t.kept λb u z=>keep b u (Qs z) z
 have I3:Inv X (pins++[(k.heap.objs.size,P)]) σ H1 {k with heap:=h',toks:=tk}:=I2.pins_of λp g=>by
  rcases Yz.mp g with g | g
  ·exact I2.pin p (YM _ g)
  ·have e:=YA.mp g;subst e;exact⟨hoA,t.hok.fresh (Yr _),YW (Ys t.lt),t.nofs (Yr _),λv z=>by rw[B]at z;cases z⟩
 refine wpAny_Call_Name_kw (Cs I3 g2 n2 bT ?_);refine Qe (Gm h2 ?_) h2 rfl;refine thn (hb _ _ σ H1 _ I3 q1) λv2 f zz2=>?_;obtain⟨y,H2,I4,r2,q,ys,ey,hq2,hn2,q2⟩:=zz2;subst ey;cases r2;have d:f.heap.get? k.heap.objs.size=some P:=(I4.pin (k.heap.objs.size,P) (YM _ (YM _ (YA.mpr rfl)))).1;have T:Inv X pins σ H2 f:=I4.unpinned;obtain⟨G,O,S,hz2⟩:=T.list hq2;have n:G.length=ys.length:=by have:=O.length;rw[Yh]at this;exact this.symm
 refine Ki hh S.isList (by simpa using Gk O) (by rw[Yn,n];unfold scanBound;lia) λa tk2 kb hB m c=>?_;have hA2:SS X.w a k.heap.objs.size U:=⟨P,Z,epA,tA,c _ _ (Qs d) d,hxA,B,TA⟩;have lka:U.length < 32:=YJ (ER Y.nd λx E=>(l x).mp E) hn;have lkb:kb.length < 32:=YJ (ER hB.nd λx E=>(m x).mp E) hn2;refine fC (s:={f with heap:=a,toks:=tk2}) (Ys (Qs d)) hA2 hB lka lkb λL kc R N i=>?_
 have lkc:kc.length < 64:=by
  have:=ER (xs:=U++kb) R.nd λx E=>Yz.mpr ((N x).mp E);rw[Yj]at this;lia
 refine QC hh R lkc λs' r vs zs en hr F hv g hs j hg hos=>?_;have z1:f.heap.objs.size < a.objs.size:=SS.lt (s:={f with heap:=a}) hB;have z2:a.objs.size < L.objs.size:=SS.lt (s:={f with heap:=L}) R;have D:f.heap.objs.size<=r:=YK (Yu (Nat.lt_trans z1 z2) hr)
 have o:∀ b u,f.heap.get? b=some u->s'.heap.get? b=some u:=λb u z=>by
  have y1:=c b u (Qs z) z;have y2:=i b u (Qs y1) y1;exact j b u (Qs y2) y2
 have hzl:zs.length<=sizeLine:=by
  have:(64:Nat)<=sizeLine:=by decide
  rw[g.length_eq];lia
 have J:Inv X pins σ (upd H2 r (.lst (zs.map V.str))) {f with heap:=s'.heap,toks:=s'.toks}:=T.laid (t':=s'.toks) o D (show ObjOk X.prog X.w _ s'.heap r (.lst (zs.map V.str))from⟨by rw[Yh];exact hzl,vs,en,HL hv,F⟩);refine⟨.ref r,_,⟨J.ok,by rw[hos];exact J.os,by rw[hg];exact J.bare,J.base,J.loc,J.cell,J.free,J.freeC,J.pin,J.hok,J.len⟩,rfl,q2 zs r (g.nodup_iff.mpr R.nd) hs (λx=>?_) (T.hok.fresh D)⟩;rw[g.mem_iff,N,l,m]
noncomputable def K2(ga gb:GE):GE:=λω G Q=>ga ω G λx G1=>∃ xs:List Str,Cw G1 x=some (xs.map W.str)/\xs.length < 32/\gb ω G1 λy G2=>∃ ys:List Str,Cw G2 y=some (ys.map W.str)/\ys.length < 32/\
 ∀(zs:List Str)(p:Addr),zs.Nodup->sortedS zs=true->(∀ x,x∈zs↔x∈xs\/x∈ys)->G2 p=none->Q (.ref p) (put G2 p (.lst (zs.map W.str)))
theorem fR(i:ga.M)(e:gb.M):GE.M (K2 ga gb):=λω G Q l h q=>i _ _ _ _ ((by rintro x j ⟨xs,h1,h2,q1⟩;exact⟨xs,h1,h2,e _ _ _ _ ((by rintro y k ⟨ys,f,g,q2⟩;exact⟨ys,f,g,λzs p a b c d=>h _ _ (q2 zs p a b c d)⟩)) q1⟩)) q
theorem HM:∀{xs:List Str}{vs:List V},TrL K H vs (xs.map W.str)->vs=xs.map V.str
 | [],_,.nil=>rfl
 | x::xs,_,.cons t a=>by
  cases t;rw[HM a];rfl
theorem HN:∀(xs:List Str),TrL K H (xs.map V.str) (xs.map W.str)
 | []=>.nil
 | x::xs=>.cons (.str x) (HN xs)
theorem fS(hc:X.calm=true)(P:X.mg "sorted"=none)(K:X.mg "set"=none)(g1:Gl X "sorted")(g2:Gl X "set")(h1:starEach [e] X.env=(false,eval e X.env)::starEach [] X.env)(h2:starEach [eb] X.env=(false,eval eb X.env)::starEach [] X.env)(L:starEach [.BinOp (.Call (.Name "set" p1) [e] [] q1) .BitOr (.Call (.Name "set" p2) [eb] [] q2) qb] X.env=(false,eval (.BinOp (.Call (.Name "set" p1) [e] [] q1) .BitOr (.Call (.Name "set" p2) [eb] [] q2) qb) X.env)::starEach [] X.env)(k:Em X e ga)(f:Em X eb gb):
  Em X (.Call (.Name "sorted" p3) [.BinOp (.Call (.Name "set" p1) [e] [] q1) .BitOr (.Call (.Name "set" p2) [eb] [] q2) qb] [] q3) (K2 ga gb):=by
 refine⟨A8 (fQ hc P K g1 g2 h1 h2 L k.p f.p) λσ H Q h=>?_,fR k.m f.m⟩;obtain⟨ω,G,o,O,q⟩:=h;refine⟨ω,G,o,O,k.m _ _ _ _ (λx J d v H1 n I r1=>?_) q⟩;obtain⟨xs,F,N,q1⟩:=d;obtain⟨a,U,rfl,rfl,T,E,tv⟩:=DS r1 I F;obtain rfl:=HM tv;refine⟨a,xs,rfl,.inl (.inl E),N,ω,J,o.mono n,r1,f.m _ _ _ _ (λy R j u H2 B ty g=>?_) q1⟩;obtain⟨ys,t,c,q2⟩:=j;obtain⟨b,S,rfl,rfl,w,i,z⟩:=DS g ty t;obtain rfl:=HM z;refine⟨b,ys,rfl,.inl (.inl i),c,λzs r D A s l=>?_⟩;exact q2 zs r D A s (g.no l) _ _ (n.trans (B.trans (Mono.new l _))) (.ref r) (g.new l (HN zs))
end
end
noncomputable def BA{α:Type}(kvs:List (Key×α))(x:Str)(d:α):α:=((kvs.find? λy=>decide (y.1=Sum.inr x)).map (·.2)).getD d
theorem DY{α:Type}{v d:α}{kvs:List (Key×α)}:BA ((k,v)::kvs) x d=if k=Sum.inr x then v else BA kvs x d:=by
 unfold BA;by_cases h:k=Sum.inr x
 ·simp[h]
 ·simp[h]
theorem QD(a:RelV d r):∀{kvs:List (Key×V)}{vs:List (Key×Value)},KV kvs vs->RelV (BA kvs x d) ((valueAt vs (Sum.inr x)).getD r):=by
 intro kvs vs h;induction h with
 | nil=>exact a
 | @cons y z _ _ r t b=>
  obtain⟨k,v⟩:=y;obtain⟨f,g⟩:=z;obtain⟨e,c⟩:=r;cases(e);rw[DY];unfold valueAt at b ⊢;by_cases h:k=Sum.inr x
  ·simp[h];exact c
  ·simp[h];exact b
theorem QE{K:PySem.W.Frag}(td:Tr K H d w):∀{vs:List (Key×V)}{a:List (Key×W)},TrP K H vs a->Tr K H (BA vs x d) (BA a x w)
 | _,_,.nil=>td
 |(k,v)::vs,(_,u)::a,.cons tv t=>by
  rw[DY,DY];split
  ·exact tv
  ·exact QE td t
noncomputable def ES(o:W)(ws:List W)(G:Hw)(Q:Kw):Prop:=∃ p kvs x d,o=.ref p/\ws=[.str x,d]/\G p=some (.dct kvs)/\Q (BA kvs x d) G
noncomputable def ET(o:W)(G:Hw):Prop:=∃ p kvs,o=.ref p/\G p=some (.dct kvs)
theorem fT:MtR X "dict.get" (λv vs H Q=>∃ p kvs x d,v=.ref p/\vs=[.str x,d]/\H p=some (.dK kvs)/\Q (BA kvs x d) H):=by
 intro pins s σ H x vs v i Q I f e h;obtain⟨p,kvs,x,d,rfl,rfl,g,q⟩:=h;cases f;cases e with
 | cons r1 t =>
  cases t with
  | cons c t =>
   cases t;obtain⟨t,rfl⟩:=r1;obtain⟨z,hd,vs,a,b⟩:kvs.length<=sizeLine/\(p==sysModules)=false/\∃ vs,KV kvs vs/\s.heap.DictOf (A4 X.prog X.w) p vs:=I.hok p _ g;exact call_meetsIn PySem.F.slot_dict_get b.typeIs PySem.F.entry_dict_get (PySem.F.args_dict_get_3 _ _ _) (meets_dict_get_default (A4 X.prog X.w) p (k:=Sum.inr x) (by simp[A4,Du,Value.isStrOf]) hd _) ⟨_,b.mapOf,⟨_,H,I.tok _,QD c a,q⟩⟩
theorem fU:Mth X "dict" "get" "dict.get" ET ES where
 pa:=PySem.F.plainAttrs_dict
 slot:=PySem.F.slot_dict_get
 ty:=PySem.F.type_dict_get
 ex:=⟨_,fT,λo i v n G H Q tv f r q=>by
  obtain⟨p,a,x,d,rfl,rfl,e,q⟩:=q;cases tv;cases f with
  | cons g t =>
   cases t with
   | cons k t =>
    cases t;cases g;obtain⟨b,c,l⟩:=r p _ e;exact⟨p,b,x,_,rfl,rfl,c,q _ _ .refl (QE k l) r⟩⟩
 pr:=λo v G H t r h=>by
  obtain⟨p,a,rfl,e⟩:=h;cases t;obtain⟨b,c,l⟩:=r p _ e;exact .inr (.inr (.inl ⟨rfl,.inl ⟨b,c⟩⟩))
 m:=(by rintro o i G Q s h ⟨p,a,x,d,h1,h2,j,q⟩;exact⟨p,a,x,d,h1,h2,j,h _ _ q⟩)
inductive PV(K:PySem.W.Frag)(H:Hp):List V->List (Str×V)->Prop where
 | nil:PV K H [] []
 | cons {q:Addr} {x:Str} {v:V} {ys:List V} {pv:List (Str×V)}:SqT K H q [.str x,v]->PV K H ys pv->PV K H (.ref q::ys) ((x,v)::pv)
theorem QF{K:PySem.W.Frag}:∀{a:List (Str×W)}{vs:List V},TrL K H vs (a.map λy=>.tup [.str y.1,y.2])->∃ pv,PV K H vs pv/\TrP K H pv a
 | [],_,.nil=>⟨[],.nil,.nil⟩
 |(x,w)::a,_,.cons t r=>by
  obtain⟨pv,h1,h2⟩:=QF r;cases t with
  | tup b l =>
   cases l with
   | cons c l =>
    cases l with
    | cons d l =>
     cases l;cases c;exact⟨(x,_)::pv,.cons b h1,.cons d h2⟩
theorem QG{K:PySem.W.Frag}:∀{pv:List (Str×V)}{a:List (Str×W)},TrP K H pv a->TrP K H (pv.map λy=>((Sum.inr y.1:Key),y.2)) (a.map λy=>((Sum.inr y.1:Key),y.2)):=by intro pv a h;induction h with | nil=>exact .nil | cons t _ ih=>exact .cons t ih
theorem QH{K:PySem.W.Frag}:∀{pv:List (Str×V)}{a:List (Str×W)},TrP K H pv a->pv.map (·.1)=a.map (·.1)
 | _,_,.nil=>rfl
 | _,_,.cons t r=>by rw[Ym,Ym,QH r]
theorem QI{σ:St}(I:Inv X pins σ H s):∀{ys:List V}{pv:List (Str×V)}{a:List Value},PV X.K H ys pv->Vals ys a->
  ∃ ps:List (Str×Value),KV (pv.map λy=>((Sum.inr y.1:Key),y.2)) (ps.map λy=>((Sum.inr y.1:Key),y.2))/\ps.map (·.1)=pv.map (·.1)/\ps.length=a.length/\∀(j:Nat)(v:Value),a[j]?=some v->∃ p t y,v=.ref p/\ps[j]?=some y/\s.heap.IsTuple p #[.str y.1 t,y.2]
 | _,_,_,.nil,r=>by
  cases r;exact⟨[],.nil,rfl,rfl,λj v h=>by simp at h⟩
 | _,_,_,.cons (q:=q) (x:=x) (v:=v) (pv:=pv) g h,r=>by
  cases r with
  | cons r1 d =>
   obtain⟨ps,h1,h2,e,i⟩:=QI I h d;cases(show _=Value.ref q from r1);obtain⟨o,n,pt,_⟩:=I.tuple g;cases n with
   | cons c t =>
    cases t with
    | cons f t =>
     cases t;obtain⟨t,rfl⟩:=c;refine⟨(x,_)::ps,.cons ⟨rfl,f⟩ h1,by rw[Ym,Ym,h2],by rw[Yg,Yg,e],λj u b=>?_⟩;cases j with
     | zero =>
      rw[Yb]at b;cases b;exact⟨q,t,_,rfl,Yb,pt⟩
     | succ j =>
      rw[Yc]at b;obtain⟨p,t',y,l,m,k⟩:=i j u b;exact⟨p,t',y,l,by rw[Yc];exact m,k⟩
theorem fV(hc:X.calm=true):CallR X (.type "dict") (λxs H Q=>∃ p ys pv,xs=[.ref p]/\SqL X.K H p ys/\PV X.K H ys pv/\(pv.map (·.1)).Nodup/\∀ l,H l=none->Q (.ref l) (upd H l (.dK (pv.map λy=>((Sum.inr y.1:Key),y.2))))):=by
 intro pins s σ H xs N Q I r h;obtain⟨p,ys,pv,rfl,B,f,G,q⟩:=h;obtain⟨u,rfl,x⟩:=Ce r;cases x;obtain⟨E,r',pl,O⟩:=I.list B;obtain⟨o,n,A,c,d,a⟩:=pl;obtain⟨L,P,k,J⟩:=o;simp only at c d a;subst c d a;obtain⟨ps,h1,h2,F,m⟩:=QI I f r';have hl:=r'.length;have g:=Paired.length h1;rw[Yh,Yh]at g;refine aq (ps:=ps) (I.ok.hd hc) A (λj v t=>m j v (by simpa using t)) (by rw[Yn];exact F) (by lia) (by rw[h2];exact G) λh' tk z keep=>?_
 have i:sysModules < s.heap.objs.size:=by
  have h:mainGlobals < s.heap.objs.size:=(I.mod.glob.keeps I.bk).lt;exact Nat.lt_trans (by decide) h
 have D:Inv X pins σ (upd H s.heap.objs.size (.dK (pv.map λy=>((Sum.inr y.1:Key),y.2)))) {s with heap:=h',toks:=tk}:=
  I.laid (t':=tk) (λb u e=>keep b u (Qs e) e) (Yr _) (show ObjOk X.prog X.w _ _ _ (.dK _)from⟨by rw[Yh];lia,by simpa using Nat.ne_of_gt i,_,h1,z⟩)
 exact⟨.ref s.heap.objs.size,_,D,rfl,q _ (I.hok.fresh (Yr _))⟩
noncomputable def HP(ws:List W)(G:Hw)(Q:Kw):Prop:=∃ p,∃ ps:List (Str×W),ws=[.ref p]/\G p=some (.lst (ps.map λy=>.tup [.str y.1,y.2]))/\(ps.map (·.1)).Nodup/\∀ l,G l=none->Q (.ref l) (put G l (.dct (ps.map λy=>((Sum.inr y.1:Key),y.2))))
theorem fW:RWc.M HP:=(by rintro b G Q c h ⟨p,ps,h1,h2,a,q⟩;exact⟨p,ps,h1,h2,a,λl hl=>h _ _ (q l hl)⟩)
theorem fX{K:PySem.W.Frag}:UpC K HP (λxs H Q=>∃ p ys pv,xs=[.ref p]/\SqL K H p ys/\PV K H ys pv/\(pv.map (·.1)).Nodup/\∀ l,H l=none->Q (.ref l) (upd H l (.dK (pv.map λy=>((Sum.inr y.1:Key),y.2))))):=λa h G H Q t r q=>by
 obtain⟨p,ps,rfl,g,c,q⟩:=q;cases t with
 | cons tw t =>
  cases t;cases tw;obtain⟨d,f,l⟩:=r p _ g;obtain⟨pv,h1,h2⟩:=QF l;refine⟨p,d,pv,rfl,.inl (Rd.of f),h1,by rw[QH h2];exact c,λl hl=>?_⟩
  have b:G l=none:=by
   cases e:G l with
   | none=>rfl
   | some o =>
    have:=r l o e;cases o with
    | lst a=>obtain⟨_,z,_⟩:=this;rw[hl]at z;cases z
    | exc C=>rw[show H l=_ from this]at hl;cases hl
    | ins C a=>obtain⟨_,_,z,_⟩:=this;rw[hl]at z;cases z
    | dct a=>obtain⟨_,z,_⟩:=this;rw[hl]at z;cases z
  exact q l b _ _ (Mono.new hl _) (.ref l) (RelH.laid r (Mono.new hl _) ⟨_,BJ,(QG h2).mono (Mono.new hl _)⟩)
theorem fY(hc:X.calm=true):Blt X (.type "dict") HP:=⟨⟨_,fV hc,fX⟩,fW⟩
section
variable {ta:TE}
noncomputable def fZ(K:PySem.W.Frag)(ta:TE):TE:=λσ H Q=>ta σ H λx H2=>∃(p:Addr)(xs:List Str),x=.ref p/\SqL K H2 p (xs.map V.str)/\xs.length < 64/\
 ∀(zs:List Str)(r:Addr),zs.Nodup->sortedS zs=true->(∀ x,x∈zs↔x∈xs)->H2 r=none->Q (.ref r) (upd H2 r (.lst (zs.map V.str)))
theorem f3(hc:X.calm=true)(n1:X.mg "sorted"=none)(n2:X.mg "set"=none)(g1:Gl X "sorted")(g2:Gl X "set")(h1:starEach [e] X.env=(false,eval e X.env)::starEach [] X.env)(f:starEach [.Call (.Name "set" p1) [e] [] q1] X.env=(false,eval (.Call (.Name "set" p1) [e] [] q1) X.env)::starEach [] X.env)(Z:PE X e ta):
  PE X (.Call (.Name "sorted" p3) [.Call (.Name "set" p1) [e] [] q1] [] q3) (fZ X.K ta):=by
 intro pins s σ H Q I h;have L:bootBuiltins "sorted"=some (.builtin "sorted"):=by decide +kernel
 have S:bootBuiltins "set"=some (.type "set"):=by decide +kernel
 have F:X.A.handled=none:=I.ok.hd hc;refine wpAny_Call_Name_kw (Cs I g1 n1 L ?_);refine PyProof.Rows.callWith_builtin1 (Gm f ?_) f rfl;refine wpAny_Call_Name_kw (Cs I g2 n2 S ?_);refine Qe (Gm h1 ?_) h1 rfl;refine thn (Z pins s σ H _ I h) λv d B=>?_;obtain⟨x,H2,m,r1,p,xs,ex,T,hn,q2⟩:=B;subst ex;cases r1;obtain⟨t,G,pl,hz⟩:=m.list T;have o:t.length=xs.length:=by have:=G.length;rw[Yh]at this;exact this.symm
 refine Ki F pl.isList (by simpa using Gk G) (by rw[Yn,o];unfold scanBound;lia) λf tk kc l k a=>?_;have D:kc.length < 64:=YJ (ER l.nd λx U=>(k x).mp U) hn;refine QC (s:={d with heap:=f,toks:=tk}) F l D λs' r P zs en Y j N q hs c R n=>?_;have O:d.heap.objs.size < f.objs.size:=SS.lt (s:={d with heap:=f}) l;have i:d.heap.objs.size<=r:=YK (Yu O Y)
 have g:∀ b u,d.heap.get? b=some u->s'.heap.get? b=some u:=λb u z=>by
  have E:=a b u (Qs z) z;exact c b u (Qs E) E
 have y:zs.length<=sizeLine:=by
  have:(64:Nat)<=sizeLine:=by decide
  rw[q.length_eq];lia
 have J:Inv X pins σ (upd H2 r (.lst (zs.map V.str))) {d with heap:=s'.heap,toks:=s'.toks}:=m.laid (t':=s'.toks) g i (show ObjOk X.prog X.w _ s'.heap r (.lst (zs.map V.str))from⟨by rw[Yh];exact y,P,en,HL N,j⟩);refine⟨.ref r,_,⟨J.ok,by rw[n];exact J.os,by rw[R];exact J.bare,J.base,J.loc,J.cell,J.free,J.freeC,J.pin,J.hok,J.len⟩,rfl,q2 zs r (q.nodup_iff.mpr l.nd) hs (λx=>?_) (m.hok.fresh i)⟩;rw[q.mem_iff,k]
noncomputable def K3(ga:GE):GE:=λω G Q=>ga ω G λy G2=>∃ ys:List Str,Cw G2 y=some (ys.map W.str)/\ys.length < 64/\
 ∀(zs:List Str)(p:Addr),zs.Nodup->sortedS zs=true->(∀ x,x∈zs↔x∈ys)->G2 p=none->Q (.ref p) (put G2 p (.lst (zs.map W.str)))
theorem f5(e:ga.M):GE.M (K3 ga):=λω G Q g h q=>e _ _ _ _ ((by rintro x f ⟨xs,h1,h2,q1⟩;exact⟨xs,h1,h2,λzs p a b c d=>h _ _ (q1 zs p a b c d)⟩)) q
theorem f6(hc:X.calm=true)(y:X.mg "sorted"=none)(s:X.mg "set"=none)(g1:Gl X "sorted")(g2:Gl X "set")(h1:starEach [e] X.env=(false,eval e X.env)::starEach [] X.env)(t:starEach [.Call (.Name "set" p1) [e] [] q1] X.env=(false,eval (.Call (.Name "set" p1) [e] [] q1) X.env)::starEach [] X.env)(d:Em X e ga):
  Em X (.Call (.Name "sorted" p3) [.Call (.Name "set" p1) [e] [] q1] [] q3) (K3 ga):=by
 refine⟨A8 (f3 hc y s g1 g2 h1 t d.p) λσ H Q b=>?_,f5 d.m⟩;obtain⟨ω,G,j,w,q⟩:=b;refine⟨ω,G,j,w,d.m _ _ _ _ (λx B c v H1 h o r1=>?_) q⟩;obtain⟨xs,n,u,q1⟩:=c;obtain⟨a,A,rfl,rfl,z,l,tv⟩:=DS r1 o n;obtain rfl:=HM tv;refine⟨a,xs,rfl,.inl (.inl l),u,λzs r k i g f=>?_⟩;exact q1 zs r k i g (r1.no f) _ _ (h.trans (Mono.new f _)) (.ref r) (r1.new f (HN zs))
end
section
variable {K:PySem.W.Frag}{H H':Hp}
theorem f9(u:s.heap.IsTupleIter a l i)(v:s.heap.IsTuple l xs)(g:xs[i]?=some x)(e:∀ h',h'.IsTupleIter a l (i+1)->Heap.SameBut a s.heap h'->Q x {s with heap:=h'}):
  wpAny (model prog w) A (Builtin.SmallTypes.nextOf (.ref a)) Q E s:=by
 obtain⟨j,c,d,b⟩:=id u;obtain⟨k,el,_,h,f⟩:=v;refine Qp (wpAny_callSpecial?_slot u.typeIs PySem.F.slot_tuple_iterator_next (wpAny_call_entry PySem.F.slot_tuple_iterator_next u.typeIs PySem.F.entry_tuple_iterator_next ?_ (PySem.F.args_tuple_iterator_next_1 _)));refine Qp (m:=field (.ref a) 0) (wpAny_field c b rfl ?_);refine Qp (wpAny_field c b rfl ?_);refine Qp (wpAny_seqItems el f ?_);simp only[Int.toNat_natCast];rw[g];refine Qp (wpAny_setField c b (by simp) (Qq ⟨x,rfl,Qq (e _ ⟨_,Qw _ c (Obj.isFreed_of_fields (Obj.data_mapFields b _)),(Obj.cls_mapFields ..).trans d,?_⟩ (Qv ..))⟩));rw[Obj.data_mapFields b];simp[rawInt]
theorem gf(d:A.handled=none)(u:s.heap.IsTupleIter a l i)(v:s.heap.IsTuple l xs)(h:xs[i]?=none)(f:∀ h' e,Heap.ExtBut a s.heap h'->(∃ o,h'.get? e=some o/\o.cls=.type "StopIteration")->E (.ref e) {s with heap:=h'}):wpAny (model prog w) A (Builtin.SmallTypes.nextOf (.ref a)) Q E s:=by
 obtain⟨k,c,p,b⟩:=id u;obtain⟨n,el,_,j,g⟩:=v;refine Qp (wpAny_callSpecial?_slot u.typeIs PySem.F.slot_tuple_iterator_next (wpAny_call_entry PySem.F.slot_tuple_iterator_next u.typeIs PySem.F.entry_tuple_iterator_next ?_ (PySem.F.args_tuple_iterator_next_1 _)));refine Qp (m:=field (.ref a) 0) (wpAny_field c b rfl ?_);refine Qp (wpAny_field c b rfl ?_);refine Qp (wpAny_seqItems el g ?_);simp only[Int.toNat_natCast];rw[h];refine Qp (wpAny_rule (Qp (wpAny_setField c b (by simp) ?_)));refine Qp ?_;refine Qp (m:=firstArgMember _ _) (wpAny_of_eq (by first | rfl |(rfl)) (wpAny_newObj_type ?_ (by size_fits)));refine Qp (wpAny_handled ?_);rw[show A.in1.handled=none from d];refine Qp (Qq (wpAny_throw ?_));exact f _ _ (((Qv ..).extBut.push _).push _) ⟨_,Qt _ rfl,rfl⟩
theorem tat{h h':Heap}(x:h.IsTupleIter a t i)(k:∀ o,h.get? a=some o->h'.get? a=some o):h'.IsTupleIter a t i:=by
 obtain⟨o,e,r⟩:=x;exact⟨o,k o e,r⟩
noncomputable def itN(t:Bool):String:=bif t then "tuple_iterator" else "list_iterator"
noncomputable def ItX(t:Bool)(h:Heap)(a l:Addr)(i:Nat):Prop:=∃ o,h.get? a=some o/\o.cls=.type (itN t)/\o.data=.fields #[.ref l,.int i 0]
noncomputable def SqH(t:Bool)(h:Heap)(l:Addr)(xs:Array Value):Prop:=match t with | true=>h.IsTuple l xs | false=>h.IsList l xs
theorem ItX.at(x:ItX t h a l i)(k:∀ o,h.get? a=some o->h'.get? a=some o):ItX t h' a l i:=by
 obtain⟨o,e,r⟩:=x;exact⟨o,k o e,r⟩
theorem ItX.extBut(x:ItX t h a l i)(k:Heap.ExtBut b h h')(n:a≠b):ItX t h' a l i:=x.at λo e=>k a o n e
theorem SqH.at(x:SqH t h l xs)(k:∀ o,h.get? l=some o->h'.get? l=some o):SqH t h' l xs:=by
 cases t
 ·obtain⟨o,e,r⟩:=x;exact⟨o,k o e,r⟩
 ·obtain⟨o,e,r⟩:=x;exact⟨o,k o e,r⟩
theorem SqH.extBut(x:SqH t h l xs)(k:Heap.ExtBut b h h')(n:l≠b):SqH t h' l xs:=x.at λo e=>k l o n e
theorem SqH.lt(x:SqH t h l xs):l < h.objs.size:=by
 cases t
 ·obtain⟨o,e,r⟩:=x;exact Qs e
 ·obtain⟨o,e,r⟩:=x;exact Qs e
theorem K5(u:ItX t s.heap a l i)(v:SqH t s.heap l xs)(c:xs[i]?=some x)(b:∀ h',ItX t h' a l (i+1)->Heap.SameBut a s.heap h'->Q x {s with heap:=h'}):
  wpAny (model prog w) A (Builtin.SmallTypes.nextOf (.ref a)) Q E s:=by
 cases t
 ·exact wpAny_nextOf_list_item u v c b
 ·exact f9 u v c b
theorem QJ(b:A.handled=none)(u:ItX t s.heap a l i)(v:SqH t s.heap l xs)(c:xs[i]?=none)(d:∀ h' e,Heap.ExtBut a s.heap h'->(∃ o,h'.get? e=some o/\o.cls=.type "StopIteration")->E (.ref e) {s with heap:=h'}):wpAny (model prog w) A (Builtin.SmallTypes.nextOf (.ref a)) Q E s:=by
 cases t
 ·exact wpAny_nextOf_list_end b u v c d
 ·exact gf b u v c d
theorem QK(v:SqH t s.heap l xs)(a:Q (.ref s.heap.objs.size) {s with heap:=s.heap.push {cls:=.type (itN t),data:=.fields #[.ref l,.int 0 0]}}):wpAny (model prog w) A (pyIter (.ref l)) Q E s:=by
 cases t
 ·exact wpAny_pyIter_list v a
 ·exact wpAny_pyIter_tuple v a
theorem gm{TI TO K H:Addr}{Q:Value->Shared->Prop}(D:ZipApart z TI TO K H N L)(G:IsZip s.heap z TI TO .none)(R:IsPair s.heap TI (.ref K) (.ref H))(P:IsPair s.heap TO a b)(u1:ItX t1 s.heap K N k1)(u2:ItX t2 s.heap H L k2)(v1:SqH t1 s.heap N xs)(v2:SqH t2 s.heap L ys)(hx:xs[k1]?=some x)(hy:ys[k2]?=some y)(hQ:∀ h',IsZip h' z TI TO (rawInt s.heap.objs.size)->IsPair h' TO x y->ItX t1 h' K N (k1+1)->ItX t2 h' H L (k2+1)->IsPair h' s.heap.objs.size x y->(∀ c o,c≠z->c≠TO->c≠K->c≠H->s.heap.get? c=some o->h'.get? c=some o)->Q (.ref s.heap.objs.size) {s with heap:=h'}):
  wpAny (model prog w) A (Builtin.«zip.__next__» ⟨[.ref z],[]⟩) (λT s'=>∃ v,T=.done (.ret v)/\Q v s') E s:=by
 refine Qp (m:=field (.ref z) 2) (wpAny_field G rfl rfl ?_);refine Qp (wpAny_field G rfl rfl (Qp (wpAny_seqItems R rfl ?_)));refine Qp ?_;refine Qp (wpAny_field G rfl rfl (Qq ?_));simp only[if_true];refine Qp (wpAny_rule (Qp (wpAny_field G rfl rfl (Qp (wpAny_setField_rec G (by simp) λU t d=>?_)))));refine Qp ?_;refine Qp (Qp (wpAny_onRaise ?_));refine Qp ?_;refine K5 (u1.extBut d.extBut D.i1z) (v1.extBut d.extBut D.l1z) hx λh₂ w1 f=>Qq ?_;have hTO₂:=f.extBut _ _ D.TOi1 (d.extBut _ _ D.TOz P);refine Qp (wpAny_seqItems hTO₂ rfl (Qp (wpAny_updateSeq_pair hTO₂ λX hTO₃ g=>?_)));refine Qp (wpAny_letGo (Qq ?_));refine Qp (Qp (wpAny_onRaise ?_));refine Qp ?_;refine K5 (((u2.extBut d.extBut D.i2z).extBut f.extBut D.i12.symm).extBut g.extBut D.TOi2.symm) (((v2.extBut d.extBut D.l2z).extBut f.extBut D.l2i1).extBut g.extBut D.l2TO) hy λZ w2 h=>Qq ?_;have hTO₄:=h.extBut _ _ D.TOi2 hTO₃;refine Qp (wpAny_seqItems hTO₄ rfl (Qp (wpAny_updateSeq_pair hTO₄ λj hTO₅ i=>?_)));refine Qp (wpAny_letGo (Qq (Qq ?_)));refine Qp (wpAny_seqItems hTO₅ rfl (Qp (wpAny_newTuple ?_ (by show(2:Nat)<=sizeLine;decide))));have J:j.objs.size=s.heap.objs.size:=by rw[i.1,h.1,g.1,f.1,d.1]
 have l:=i.extBut _ _ D.TOz.symm (h.extBut _ _ D.i2z.symm (g.extBut _ _ D.TOz.symm (f.extBut _ _ D.i1z.symm t)));have S:=((w1.extBut g.extBut D.TOi1.symm).extBut h.extBut D.i12).extBut i.extBut D.TOi1.symm;have O:=w2.extBut i.extBut D.TOi2.symm;refine Qp ?_;have u:IsZip (j.push {cls:=.type "tuple",data:=.seq #[x,y]}) z TI TO .ellipsis:=Qr _ l;refine Qp (wpAny_setField_rec u (by simp) λY B k=>?_);refine wpAny_setField_rec B (by simp) λr p n=>?_;have F:=Nat.ne_of_gt (Qs l);have q:∀ c o,c≠z->j.get? c=some o->r.get? c=some o:=λc o I e=>n.extBut _ _ I (k.extBut _ _ I (Qr _ e));have hT₈:=n.extBut _ _ F (k.extBut _ _ F (Qt _ rfl));rw[J]at p hT₈;refine Qq ⟨_,rfl,(?_:Q (.ref j.objs.size) _)⟩;rw[J];exact hQ r p (q _ _ D.TOz hTO₅) (S.at λo e=>q _ o D.i1z e) (O.at λo e=>q _ o D.i2z e) hT₈ λc o I c2 c3 c4 e=>q c o I (i.extBut _ _ c2 (h.extBut _ _ c4 (g.extBut _ _ c2 (f.extBut _ _ c3 (d.extBut _ _ I e)))))
theorem gn{TI TO H:Addr}(Z:A.handled=none)(D:ZipApart z TI TO H G S O)(v:IsZip s.heap z TI TO .none)(J:IsPair s.heap TI (.ref H) (.ref G))(I:IsPair s.heap TO a b)(Y:ItX t1 s.heap H S k1)(u2:ItX t2 s.heap G O k2)(U:SqH t1 s.heap S xs)(v2:SqH t2 s.heap O ys)(u:xs[k1]?=none\/ys[k2]?=none)(X:∀ h' e,(∀ c o,c≠z->c≠TO->c≠H->c≠G->s.heap.get? c=some o->h'.get? c=some o)->(∃ o,h'.get? e=some o/\o.cls=.type "StopIteration")->E (.ref e) {s with heap:=h'}):wpAny (model prog w) A (Builtin.«zip.__next__» ⟨[.ref z],[]⟩) Q E s:=by
 refine Qp (m:=field (.ref z) 2) (wpAny_field v rfl rfl ?_);refine Qp (wpAny_field v rfl rfl (Qp (wpAny_seqItems J rfl ?_)));refine Qp ?_;refine Qp (wpAny_field v rfl rfl (Qq ?_));simp only[if_true];refine Qp (wpAny_rule (Qp (wpAny_field v rfl rfl (Qp (wpAny_setField_rec v (by simp) λT i d=>?_)))));refine Qp ?_;refine Qp (Qp (wpAny_onRaise ?_));refine Qp ?_;cases L:xs[k1]? with
 | none =>
  refine QJ Z (Y.extBut d.extBut D.i1z) (U.extBut d.extBut D.l1z) L λB e f P=>?_;obtain⟨N,h,n⟩:=P;have l:=f _ _ D.i1z.symm i;have t:e≠z:=λq=>by subst q;rw[l]at h;cases h;simp at n
  exact wpAny_setField_rec l (by simp) λr _ g=>X r e (λc o y _ R _ q=>g.extBut _ _ y (f _ _ R (d.extBut _ _ y q))) ⟨N,g.extBut _ _ t h,n⟩
 | some x =>
  have hy:ys[k2]?=none:=by
   rcases u with q | q
   ·rw[L]at q;cases q
   ·exact q
  refine K5 (Y.extBut d.extBut D.i1z) (U.extBut d.extBut D.l1z) L λB w1 f=>Qq ?_;have hTO₂:=f.extBut _ _ D.TOi1 (d.extBut _ _ D.TOz I);refine Qp (wpAny_seqItems hTO₂ rfl (Qp (wpAny_updateSeq_pair hTO₂ λr hTO₃ g=>?_)));refine Qp (wpAny_letGo (Qq ?_));refine Qp (Qp (wpAny_onRaise ?_));refine Qp ?_;refine QJ Z (((u2.extBut d.extBut D.i2z).extBut f.extBut D.i12.symm).extBut g.extBut D.TOi2.symm) (((v2.extBut d.extBut D.l2z).extBut f.extBut D.l2i1).extBut g.extBut D.l2TO) hy λh₄ e j K=>?_;obtain⟨N,h,n⟩:=K;have k:=j _ _ D.i2z.symm (g.extBut _ _ D.TOz.symm (f.extBut _ _ D.i1z.symm i));have t:e≠z:=λq=>by subst q;rw[k]at h;cases h;simp at n
  exact wpAny_setField_rec k (by simp) λF _ p=>X F e (λc o y c2 R c4 q=>p.extBut _ _ y (j _ _ c4 (g.extBut _ _ c2 (f.extBut _ _ R (d.extBut _ _ y q))))) ⟨N,p.extBut _ _ t h,n⟩
noncomputable abbrev zX1(t1:Bool)(h:Heap)(l1:Addr):Heap:=h.push {cls:=.type (itN t1),data:=.fields #[.ref l1,.int 0 0]}
noncomputable abbrev zX2(t1 t2:Bool)(h:Heap)(l1 l2:Addr):Heap:=(zX1 t1 h l1).push {cls:=.type (itN t2),data:=.fields #[.ref l2,.int 0 0]}
noncomputable abbrev zX3(t1 t2:Bool)(h:Heap)(l1 l2:Addr):Heap:=(zX2 t1 t2 h l1 l2).push {cls:=.type "tuple",data:=.seq #[.ref h.objs.size,.ref (zX1 t1 h l1).objs.size]}
noncomputable abbrev zX4(t1 t2:Bool)(h:Heap)(l1 l2:Addr):Heap:=(zX3 t1 t2 h l1 l2).push {cls:=.type "tuple",data:=.seq #[.none,.none]}
noncomputable abbrev zX5(t1 t2:Bool)(h:Heap)(l1 l2:Addr):Heap:=(zX4 t1 t2 h l1 l2).push {cls:=.type "zip",data:=.fields #[.none,.bool false,.bool false,.ref (zX2 t1 t2 h l1 l2).objs.size,.ref (zX3 t1 t2 h l1 l2).objs.size]}
theorem gp(t1 t2:Bool)(b a:Addr)(xs ys:Array Value):Meets (Builtin.«zip.__new__» ⟨[.type "zip",.ref b,.ref a],[]⟩) (λ_ R s=>SqH t1 s.heap b xs/\SqH t2 s.heap a ys/\R (.ok (.ret (.ref (zX4 t1 t2 s.heap b a).objs.size))) {s with heap:=zX5 t1 t2 s.heap b a}):=
 .of_wp λprog w A R s h=>by
  obtain⟨l,g,d,tk,os⟩:=s;obtain⟨j,k,h⟩:=h;have i:=sub_zip;have f:=j;have c:SqH t2 (Shared.heap ⟨l.push {cls:=.type (itN t1),data:=.fields #[.ref b,.int 0 0]},g,d,tk,os⟩) a ys:=k.at λ_ e=>Qr _ e;wp_walk using QK f,QK c;exact⟨_,rfl,h⟩
theorem gq{s:Shared}(j:SqH t1 s.heap a xs)(k:SqH t2 s.heap b ys)(h:∀ h',IsZip h' (s.heap.objs.size+4) (s.heap.objs.size+2) (s.heap.objs.size+3) .none->IsPair h' (s.heap.objs.size+2) (.ref s.heap.objs.size) (.ref (s.heap.objs.size+1))->IsPair h' (s.heap.objs.size+3) .none .none->ItX t1 h' s.heap.objs.size a 0->ItX t2 h' (s.heap.objs.size+1) b 0->h'.objs.size=s.heap.objs.size+5->(∀ c o,s.heap.get? c=some o->h'.get? c=some o)->Q (.ref (s.heap.objs.size+4)) {s with heap:=h'}):
  wpAny (model prog w) A (call (.type "zip") [.ref a,.ref b]) Q E s:=by
 refine callType_new PySem.F.called_zip (by decide) (PySem.F.typeCall_zip_2 _ _) (PySem.F.newCall_zip_2 _ _) (λobj=>PySem.F.args_object_init_3 obj _ _) PySem.F.entry_zip_new (gp t1 t2 a b xs ys) ⟨j,k,?_⟩;have i:(zX1 t1 s.heap a).objs.size=s.heap.objs.size+1:=Qu ..;have d:(zX2 t1 t2 s.heap a b).objs.size=s.heap.objs.size+2:=by rw[Qu,i]
 have e:(zX3 t1 t2 s.heap a b).objs.size=s.heap.objs.size+3:=by rw[Qu,d]
 have g:(zX4 t1 t2 s.heap a b).objs.size=s.heap.objs.size+4:=by rw[Qu,e]
 have l:(zX5 t1 t2 s.heap a b).objs.size=s.heap.objs.size+5:=by rw[Qu,g]
 have f:(zX5 t1 t2 s.heap a b).get? (zX4 t1 t2 s.heap a b).objs.size=some _:=Qt _ rfl;have g4:(zX5 t1 t2 s.heap a b).get? (zX3 t1 t2 s.heap a b).objs.size=some _:=Qr _ (Qt _ rfl);have g3:(zX5 t1 t2 s.heap a b).get? (zX2 t1 t2 s.heap a b).objs.size=some _:=Qr _ (Qr _ (Qt _ rfl));have g2:(zX5 t1 t2 s.heap a b).get? (zX1 t1 s.heap a).objs.size=some _:=Qr _ (Qr _ (Qr _ (Qt _ rfl)));have g1:(zX5 t1 t2 s.heap a b).get? s.heap.objs.size=some _:=Qr _ (Qr _ (Qr _ (Qr _ (Qt _ rfl))));rw[d,e,g]at f;rw[i,d]at g3;rw[e]at g4;rw[i]at g2;rw[g];exact⟨⟨_,f,rfl⟩,h _ f g3 g4 ⟨_,g1,rfl,rfl⟩ ⟨_,g2,rfl,rfl⟩ l λc o x=>Qr _ (Qr _ (Qr _ (Qr _ (Qr _ x))))⟩
noncomputable def SqX(t:Bool)(K:PySem.W.Frag)(H:Hp)(a:Addr)(xs:List V):Prop:=match t with | true=>SqT K H a xs | false=>SqL K H a xs
theorem Fz{σ:St}(I:Inv X pins σ H s)(h:SqX t X.K H a xs):∃ b:List Value,Vals xs b/\SqH t s.heap a b.toArray:=by
 cases t
 ·obtain⟨b,r,p,_⟩:=I.list h;exact⟨b,r,p.isList⟩
 ·obtain⟨b,r,p,_⟩:=I.tuple h;exact⟨b,r,p⟩
theorem QL{σ:St}(I:Inv X pins σ H s)(h:SqX t X.K H a xs)(h':SqX t X.K H a ys):xs=ys:=by
 cases t
 ·exact I.list_inj h h'
 ·exact I.tuple_inj h h'
def QM(t1 t2:Bool)(K:PySem.W.Frag)(l1 l2:Addr):It :=
 ⟨λi H=>∃ xs ys,SqX t1 K H l1 xs/\SqX t2 K H l2 ys/\i < xs.length/\i < ys.length,
  λi H v H'=>∃ T x y,H T=none/\v=.ref T/\H'=upd H T (.tup [x,y])/\∀ xs ys,SqX t1 K H l1 xs->SqX t2 K H l2 ys->xs[i]?=some x/\ys[i]?=some y,
  λi H=>∃ xs ys,SqX t1 K H l1 xs/\SqX t2 K H l2 ys/\i=min xs.length ys.length⟩
theorem gr{TI TO:Addr}(D:ZipApart z TI TO t r l1 l2):
  DN P w K (.Tuple L k tpos) (QM t1 t2 K l1 l2) [z,TI,TO,t,r] z (λi h=>IsZip h z TI TO .none/\IsPair h TI (.ref t) (.ref r)/\(∃ a b,IsPair h TO a b)/\ItX t1 h t l1 i/\ItX t2 h r l2 i):=
 have obj:∀{i h},(IsZip h z TI TO .none/\IsPair h TI (.ref t) (.ref r)/\(∃ a b,IsPair h TO a b)/\ItX t1 h t l1 i/\ItX t2 h r l2 i)->∀ b∈[z,TI,TO,t,r],∃ o,h.get? b=some o/\∀ v,o.data≠.cell v:=λst b d=>by
  obtain⟨n,f,⟨a,c,g⟩,⟨o1,e1,_,d1⟩,⟨o2,e2,_,d2⟩⟩:=st;simp only[Yo,Qa,or_false]at d;rcases d with rfl | rfl | rfl | rfl | rfl
  ·exact⟨_,n,λv z=>by cases z⟩
  ·exact⟨_,f,λv z=>by cases z⟩
  ·exact⟨_,g,λv z=>by cases z⟩
  ·exact⟨o1,e1,λv z=>by rw[d1]at z;cases z⟩
  ·exact⟨o2,e2,λv z=>by rw[d2]at z;cases z⟩
 {mem:=by simp
  obj:=λi h st=>obj st
  keep:=λi h h' st S=>by
   obtain⟨n,f,⟨a,c,g⟩,h1,h2⟩:=st;exact⟨S z (by simp) _ n,S TI (by simp) _ f,⟨a,c,S TO (by simp) _ g⟩,h1.at λo e=>S t (by simp) o e,h2.at λo e=>S r (by simp) o e⟩
  item:=by
   intro X hP hw hK hc i pins s σ H E I Y st hg;have ob:=obj st;subst hP hw hK;obtain⟨xs,ys,Z,U,hix,hiy⟩:=hg;obtain⟨u,r1,G⟩:=Fz I Z;obtain⟨y,r2,B⟩:=Fz I U;obtain⟨n,f,⟨a,b,g⟩,h1,h2⟩:=st;have O:s.TypeIs (.ref z) "zip":=⟨_,n,rfl⟩;have gx:=Yp hix;have gy:=Yp hiy;obtain⟨u1,q1,rv1⟩:=r1.get gx;obtain⟨u2,q2,rv2⟩:=r2.get gy;refine Qp (wpAny_attempt (wpAny_callSpecial?_slot O PySem.F.slot_zip_next (wpAny_call_entry PySem.F.slot_zip_next O PySem.F.entry_zip_next (gm D n f g h1 h2 G B (by simpa using q1) (by simpa using q2) λh' a1 a2 a3 a4 a5 T=>Qq ?_) (PySem.F.args_zip_next_1 _))));refine⟨_,rfl,wpAny_letOwnedTupleGo_zip a1 λh2 hz' j=>?_⟩;have lt:∀{b:Addr}{o:Obj},s.heap.get? b=some o->b≠s.heap.objs.size:=λe=>Ys (Qs e);have l:∀ b,b∉[z,TI,TO,t,r]->b≠z/\b≠TO/\b≠t/\b≠r:=λb d=>⟨λe=>d (by simp[e]),λe=>d (by simp[e]),λe=>d (by simp[e]),λe=>d (by simp[e])⟩;have I1:Inv X pins σ H {s with heap:=h2}:=Inv.turneds I Y λb o d e=>j.extBut _ _ (l b d).1 (T b o (l b d).1 (l b d).2.1 (l b d).2.2.1 (l b d).2.2.2 e);have N:=I.hok.fresh (Yr _);have hTz:=YW (lt n)
   have I2:Inv X pins σ (upd H s.heap.objs.size (.tup [xs[i],ys[i]])) {s with heap:=h2}:=by
    refine I1.track N ?_ (λx c e=>?_) (λp hp=>?_) ?_ ⟨by show 2<=sizeLine;decide,[u1,u2],.cons rv1 (.cons rv2 .nil),⟨_,j.extBut _ _ hTz a5,rfl,rfl,_,rfl⟩⟩
    ·obtain⟨m,⟨o,es,ep,R,_⟩,_⟩:=I.loc;exact YW (lt R)
    ·obtain⟨v,o,R,_⟩:=I.cell x c e;exact lt R
    ·exact lt (I.pin p hp).1
    ·cases e:X.s₀.heap.get? s.heap.objs.size with
     | none=>rfl
     | some o=>exact Qo (Yu (Qs e) I.sz) (YL _)
   refine⟨.ref s.heap.objs.size,_,I2,rfl,⟨_,_,_,N,rfl,rfl,λxs' ys' hx' hy'=>?_⟩,⟨hz',j.extBut _ _ D.TIz (T _ _ D.TIz D.TITO D.TIi1 D.TIi2 f),⟨_,_,j.extBut _ _ D.TOz a2⟩,a3.extBut j.extBut D.i1z,a4.extBut j.extBut D.i2z⟩,λb d=>?_⟩
   ·rw[QL I hx' Z,QL I hy' U];exact⟨gx,gy⟩
   ·obtain⟨o,e,_⟩:=ob b d;rw[A7 (lt e)];exact(Y b d).1
  done:=by
   intro X hP hw hK hc i pins s σ H E I Y st hg;subst hP hw hK;obtain⟨xs,ys,Z,U,hi⟩:=hg;obtain⟨u,r1,G⟩:=Fz I Z;obtain⟨y,r2,B⟩:=Fz I U;have n1:=r1.length;have n2:=r2.length;obtain⟨n,f,⟨a,b,g⟩,h1,h2⟩:=st;have O:s.TypeIs (.ref z) "zip":=⟨_,n,rfl⟩
   have J:u.toArray[i]?=none\/y.toArray[i]?=none:=by
    rcases Nat.le_total xs.length ys.length with q | q
    ·exact .inl (Array.getElem?_eq_none (by simp only[Yn];lia))
    ·exact .inr (Array.getElem?_eq_none (by simp only[Yn];lia))
   refine Qp (wpAny_attempt (wpAny_callSpecial?_slot O PySem.F.slot_zip_next (wpAny_call_entry PySem.F.slot_zip_next O PySem.F.entry_zip_next (gn (I.ok.hd hc) D n f g h1 h2 G B J λh' e T he=>?_) (PySem.F.args_zip_next_1 _))));obtain⟨o,R,hc⟩:=he;exact Qp (wpAny_isInstance ⟨o,R,hc⟩ isSubtype_stop (Qq ⟨rfl,Inv.turneds I Y λb o d e=>T b o (λe=>d (by simp[e])) (λe=>d (by simp[e])) (λe=>d (by simp[e])) (λe=>d (by simp[e])) e⟩))
  self:=λA i s Q E st h=>wpAny_pyIter_zip st.1 h}
noncomputable def gw(t1 t2:Bool)(K:PySem.W.Frag)(ta:TA):TI:=λσ H R=>ta σ H λvs H1=>∃ a b xs ys,vs=[.ref a,.ref b]/\SqX t1 K H1 a xs/\SqX t2 K H1 b ys/\R (QM t1 t2 K a b) H1
theorem gz(E:Gl X "zip")(B:X.mg "zip"=none)(J:PA X [a,b] ta)(hs:starEach [a,b] X.env=[(false,eval a X.env),(false,eval b X.env)])(f:starEach [b] X.env=[(false,eval b X.env)]):
  PI X (.Tuple d k tpos) (.Call (.Name "zip" p) [a,b] [] pos) (gw t1 t2 X.K ta):=by
 intro pins s σ H R I h;refine Call_ (Cs I E B boot_zip (Qe (thn (J pos pins s σ H _ I h) λN D r=>?_) (by rw[hs,f]) (by rw[f];rfl)));obtain⟨O,H1,i,r1,q1⟩:=r;obtain⟨S,Q,xs,ys,e,G,A,q⟩:=q1;subst e;obtain⟨u,P,rfl,L,n⟩:=NT r1;cases L;cases n;obtain⟨x,_,g⟩:=Fz i G;obtain⟨y,_,c⟩:=Fz i A;refine gq g c λh' w m l t o F z=>wpAny_pyIter_zip w (⟨_,_,_,_,H1,rfl,i.kept z,gr (zipApart_new g.lt c.lt),⟨w,m,⟨_,_,l⟩,t,o⟩,λb v=>?_,q⟩)
 have j:D.heap.objs.size<=b:=by
  simp only[Yo,Qa,or_false]at v;rcases v with rfl | rfl | rfl | rfl | rfl
  ·exact YZ _ 4
  ·exact YZ _ 2
  ·exact YZ _ 3
  ·exact Yr _
  ·exact YZ _ 1
 exact i.fpOk j (i.hok.fresh j)
theorem gA(t:Tr K H v (.tup xs)):∃ a vs,v=.ref a/\SqT K H a vs/\TrL K H vs xs:=by
 cases t with
 | tup h l=>exact⟨_,_,rfl,h,l⟩
noncomputable def rdX(t:Bool)(G:Hw)(x:W):Option (List W):=match t,x with | true,.tup xs=>some xs | true,_=>none | false,x=>rdL G x
theorem HQ(r:RelH K H G)(b:Tr K H v x)(e:rdX t G x=some xs):∃ a vs,v=.ref a/\SqX t K H a vs/\TrL K H vs xs:=by
 cases t
 ·exact Pn r b e
 ·unfold rdX at e;split at e
  ·cases e;exact gA b
  ·cases e
  ·rename_i h;cases h
def QN(t1 t2:Bool)(gs:GA):GI:=λω G R=>gs ω G λws G1=>∃ x y xs ys,ws=[x,y]/\rdX t1 G1 x=some xs/\rdX t2 G1 y=some ys/\R (Bm xs ys) (λG=>rdX t1 G x=some xs/\rdX t2 G y=some ys) G1
theorem gD(m:gs.M):GI.M (QN t1 t2 gs):=λω G R f h q=>m _ _ _ _ ((by rintro c d ⟨x,y,xs,ys,e,a,b,z⟩;exact⟨x,y,xs,ys,e,a,b,h _ _ _ z⟩)) q
theorem K6(t1 t2:Bool)(Z:X.mg "zip"=none)(hg:Gl X "zip")(hs:starEach [a,b] X.env=[(false,eval a X.env),(false,eval b X.env)])(u:starEach [b] X.env=[(false,eval b X.env)])(I:Am X [a,b] gs):
  Im X (.Tuple s k tpos) (.Call (.Name "zip" p) [a,b] [] pos) (QN t1 t2 gs):=by
 refine⟨⟨_,gz (t1:=t1) (t2:=t2) hg Z I.p hs u,λσ H ω G R R0 ts r q kk=>⟨ω,G,ts,r,I.m _ _ _ _ (λws G1 z vs H1 m t r1=>?_) q⟩⟩,gD I.m⟩;obtain⟨x,y,xs,ys,rfl,L,S,z⟩:=z;cases t with
 | cons Q t =>
  cases t with
  | cons ty t =>
   cases t;obtain⟨P,D,rfl,J,l1⟩:=HQ r1 Q L;obtain⟨O,B,rfl,F,l2⟩:=HQ r1 ty S
   have two:∀{e n},Mono X.K H1 e->RelH X.K e n->(rdX t1 n x=some xs/\rdX t2 n y=some ys)->∃ d c,SqX t1 X.K e P d/\TrL X.K e d xs/\SqX t2 X.K e O c/\TrL X.K e c ys:=λ{e n}g f g3=>by
    obtain⟨b1,d,e3,o,h⟩:=HQ f (Q.mono g) g3.1;obtain⟨b2,c,U,j,l⟩:=HQ f (ty.mono g) g3.2;cases e3;cases U;exact⟨d,c,o,h,j,l⟩
   refine⟨P,O,D,B,rfl,J,F,kk _ _ _ H1 _ z m r1 ⟨L,S⟩ ⟨λi e n g f g3 hi=>?_,λi e n v H4 g f g3 y3 hi=>?_,λe n g f g3=>?_⟩⟩
   ·obtain⟨d,c,o,h,j,l⟩:=two g f g3;rw[KJ]at hi;exact⟨d,c,o,j,by rw[h.length];lia,by rw[l.length];lia⟩
   ·obtain⟨d,c,o,h,j,l⟩:=two g f g3;obtain⟨T,Y,v2,N,rfl,rfl,hv⟩:=y3;obtain⟨g1,g2⟩:=hv _ _ o j;obtain⟨w1,q1,E⟩:=h.get' g1;obtain⟨w2,q2,w⟩:=l.get' g2;have A:Mono X.K e (upd e T (.tup [Y,v2])):=Mono.new N _;exact⟨A,f.mono0 N,_,Po _ _ i q1 q2,.tup (SqT.of BJ) (.cons (E.mono A) (.cons (w.mono A) .nil))⟩
   ·obtain⟨d,c,o,h,j,l⟩:=two g f g3;exact⟨d,c,o,j,by rw[KJ,h.length,l.length]⟩
theorem K8(h:Im X tg e gi)(m:GI.M a)(i:∀ ω G R,a ω G R->gi ω G R):Im X tg e a:=by
 obtain⟨⟨g,p,f⟩,_⟩:=h;exact⟨⟨g,p,λσ H ω G R d c r q b=>f σ H ω G R d c r (i _ _ _ q) b⟩,m⟩
noncomputable def BS(gs:GA):GI:=λω G R=>gs ω G λws G1=>∃ xs ys,ws=[.tup xs,.tup ys]/\R (Bm xs ys) yes G1
theorem gE(m:gs.M):GI.M (BS gs):=λω G R c h q=>m _ _ _ _ ((by rintro a b ⟨xs,ys,e,z⟩;exact⟨xs,ys,e,h _ _ _ z⟩)) q
theorem gF(f:X.mg "zip"=none)(g:Gl X "zip")(hs:starEach [a,b] X.env=[(false,eval a X.env),(false,eval b X.env)])(e:starEach [b] X.env=[(false,eval b X.env)])(d:Am X [a,b] gs):
  Im X (.Tuple c k tpos) (.Call (.Name "zip" p) [a,b] [] pos) (BS gs):=
 K8 (K6 true true f g hs e d) (gE d.m) λω G R q=>d.m _ _ _ _ (by
  rintro h i ⟨xs,ys,rfl,z⟩;refine⟨_,_,xs,ys,rfl,rfl,rfl,?_⟩;rw[show(λG=>rdX true G (.tup xs)=some xs/\rdX true G (.tup ys)=some ys)=yes from funext λ_=>propext ⟨λ_=>trivial,λ_=>⟨rfl,rfl⟩⟩];exact z) q
noncomputable def B8(gs:GA):GI:=λω G R=>gs ω G λws G1=>match ws with
 | [x,y]=>(match rdL G1 x,rdL G1 y with
  | some xs,some ys=>R (Bm xs ys) (λG=>rdL G x=some xs/\rdL G y=some ys) G1
  | _,_=>False)
 | _=>False
theorem QO{gs:GA}{R:List W->(Hw->Prop)->Hw->Prop}(z:match b with
 | [x,y]=>(match rdL a x,rdL a y with
  | some xs,some ys=>R (Bm xs ys) (λG=>rdL G x=some xs/\rdL G y=some ys) a
  | _,_=>False)
 | _=>False):∃ x y xs ys,b=[x,y]/\rdL a x=some xs/\rdL a y=some ys/\R (Bm xs ys) (λG=>rdL G x=some xs/\rdL G y=some ys) a:=by
 split at z
 ·rename_i x y;split at z
  ·rename_i xs ys c d;exact⟨x,y,xs,ys,rfl,c,d,z⟩
  ·exact z.elim
 ·exact z.elim
theorem gG(m:gs.M):GI.M (B8 gs):=λω G R e h q=>m _ _ _ _ (λc d z=>by
 obtain⟨x,y,xs,ys,rfl,a,b,z⟩:=QO (gs:=gs) z;dsimp only;rw[a,b];exact h _ _ _ z) q
theorem gH(f:X.mg "zip"=none)(i:Gl X "zip")(hs:starEach [a,b] X.env=[(false,eval a X.env),(false,eval b X.env)])(e:starEach [b] X.env=[(false,eval b X.env)])(d:Am X [a,b] gs):
  Im X (.Tuple c k tpos) (.Call (.Name "zip" p) [a,b] [] pos) (B8 gs):=
 K8 (K6 false false f i hs e d) (gG d.m) λω G R q=>d.m _ _ _ _ (by
  intro j l z;obtain⟨x,y,xs,ys,rfl,g,h,z⟩:=QO (gs:=gs) z;exact⟨x,y,xs,ys,rfl,g,h,z⟩) q
end
noncomputable abbrev EU(h:Heap)(T:Addr)(a b c:Value):Prop:=h.get? T=some {cls:=.type "tuple",data:=.seq #[a,b,c]}
noncomputable def St3(n l1 l2 l3:Nat)(f0:Value)(i:Nat)(h:Heap):Prop:=IsZip h (n+5) (n+3) (n+4) f0/\EU h (n+3) (.ref n) (.ref (n+1)) (.ref (n+2))/\(∃ a b c,EU h (n+4) a b c)/\h.IsListIter n l1 i/\h.IsListIter (n+1) l2 i/\h.IsListIter (n+2) l3 i
section
variable {K:PySem.W.Frag}{H:Hp}
theorem St3.at(st:St3 n l g j m i h)(k:∀(c:Nat)o,n<=c->c<=n+5->h.get? c=some o->h'.get? c=some o):St3 n l g j m i h':=by
 obtain⟨q,f,⟨a,b,c,d⟩,r,s,p⟩:=st;exact⟨k _ _ (by lia) (by lia) q,k _ _ (by lia) (by lia) f,⟨a,b,c,k _ _ (by lia) (by lia) d⟩,r.at λo e=>k _ o (by lia) (by lia) e,s.at λo e=>k _ o (by lia) (by lia) e,p.at λo e=>k _ o (by lia) (by lia) e⟩
noncomputable def FA(x:W):List W->Option Bool
 | []=>some false
 | w::ws=>if dpW w < 90 then(match eqD w x,FA x ws with | some a,some b=>some (a||b)| _,_=>none)else none
theorem QP:∀{a:List W}{b:Bool},FA x a=some b->∃ e:Nat->Bool,(∀(j:Nat)w,a[j]?=some w->eqD w x=some (e j)/\dpW w < 90)/\(b=true↔∃ j,j < a.length/\e j=true)
 | [],b,h=>by
  cases h;exact⟨λ_=>false,λj w e=>by simp at e,by simp⟩
 | w::a,b,h=>by
  unfold FA at h;split at h
  ·rename_i hd;split at h
   ·rename_i c d i k;cases h;obtain⟨e,h1,h2⟩:=QP k;refine⟨λj=>match j with | 0=>c | j+1=>e j,λj u f=>?_,?_⟩
    ·cases j with
     | zero=>simp only[Yb,Option.some.injEq]at f;subst f;exact⟨i,hd⟩
     | succ j=>exact h1 j u (by simpa using f)
    ·rw[Bool.or_eq_true,h2];constructor
     ·rintro(z |⟨j,g,z⟩)
      ·exact⟨0,by simp,z⟩
      ·exact⟨j+1,by simpa using g,z⟩
     ·rintro⟨j,g,z⟩;cases j with
      | zero=>exact .inl z
      | succ j=>exact .inr ⟨j,by simpa using g,z⟩
   ·cases h
  ·cases h
noncomputable def inT(x y:W)(G:Hw):Option W:=(rdL G y).bind λws=>(FA x ws).map .bl
def QQ(K:PySem.W.Frag):R2:=λv u H Q=>∃ p vs ws x b,u=.ref p/\SqL K H p vs/\TrL K H vs ws/\Tr K H v x/\FA x ws=some b/\Q (.bl b) H
open Classical in
theorem gI(hu:X.A.units+100 < cLine):OpR X (compareOp .In) (QQ X.K):=by
 intro pins s σ H x y v u Q I J L h;obtain⟨p,o,Y,S,b,rfl,N,tl,O,e,q⟩:=h;cases L;obtain⟨a,r,pl,R⟩:=I.list N;obtain⟨f,G,E⟩:=QP e;have Z:=r.length;have U:=tl.length
 have k:∀(i:Nat)(z:Value),a[i]?=some z->SeqAt.EqAt X.A.in1 s z v (f i):=λi z hi=>by
  have B:i < a.length:=by
   rcases Nat.lt_or_ge i a.length with h | h
   ·exact h
   ·rw[Qf h]at hi;cases hi
  have gv:o[i]?=some (o[i]'(by lia)):=Yp _;obtain⟨T,t,P⟩:=r.get gv;rw[hi]at t;cases t;obtain⟨w,F,tw⟩:=tl.get' gv;obtain⟨h1,h2⟩:=G i w F;exact O7 I 99 _ _ _ _ _ _ _ X.A.in1 (by lia) tw O P J h1 (by show X.A.units+1+99 < cLine;lia)
 refine SeqAt.in_listAt (λz=>decide (∃ i,a[i]?=some z/\f i=true)) pl.isList (λz d=>?_) ⟨.bl b,H,I,?_,q⟩
 ·have D:z∈a:=by simpa using d
  obtain⟨i,hi,rfl⟩:=List.getElem_of_mem D;have gi:a[i]?=some a[i]:=Yp hi;by_cases h:∃ j,a[j]?=some a[i]/\f j=true
  ·obtain⟨j,g,m⟩:=h;have:=k j _ g;rw[m]at this;rw[YG ⟨j,g,m⟩];exact this
  ·have:=k i _ gi;rw[Qn h];cases c:f i with
   | false=>rw[c]at this;exact this
   | true=>exact Qo ⟨i,gi,c⟩ h
 ·show RelV (.bl b) (.bool _)
  have:(a.toArray.any λz=>decide (∃ i,a[i]?=some z/\f i=true))=b:=by
   rw[Bool.eq_iff_iff,E];simp only[List.any_toArray,List.any_eq_true,YQ];constructor
   ·rintro⟨z,d,i,hi,c⟩;refine⟨i,?_,c⟩;rcases Nat.lt_or_ge i a.length with h | h
    ·lia
    ·rw[Qf h]at hi;cases hi
   ·rintro⟨j,m,n⟩;have l:j < a.length:=by lia
    exact⟨a[j],Qh l,j,Yp l,n⟩
  rw[this];rfl
theorem gJ(x y:W)(v u:V)(G:Hw)(H:Hp)(Q:VK)(c:Tr K H v x)(ty:Tr K H u y)(r:RelH K H G)(q:Ae inT x y G (dn K H Q)):QQ K v u H Q:=by
 obtain⟨w,e,f⟩:=B6 q;obtain⟨d,k,l⟩:=Qd.mp e;obtain⟨b,j,g⟩:=YR.mp l;subst g;obtain⟨a,h,rfl,i,t⟩:=Pn r ty k;exact⟨a,h,d,x,b,rfl,i,t,c,j,f _ H .refl (.bl _) r⟩
theorem gK(a:X.A.units+100 < cLine):Cop X .In (Ae inT):=⟨⟨_,gI a,gJ⟩,CQ⟩
def K9(w:W):Bool:=match w with | .non=>true | _=>false
noncomputable def isF(neg:Bool)(x y:W)(_:Hw):Option W:=match y with | .non=>some (.bl (K9 x != neg))| _=>none
theorem gL(t:Tr K H v x):decide (v=.non)=K9 x:=by cases t <;> rfl
theorem gM(t:Tr K H u .non):u=.non:=by cases t;rfl
theorem gN(neg:Bool)(x y:W)(v u:V)(G:Hw)(H:Hp)(Q:VK)(b:Tr K H v x)(ty:Tr K H u y)(r:RelH K H G)(q:Ae (isF neg) x y G (dn K H Q)):u=.non/\Q (.bl (K9 x != neg)) H:=by
 obtain⟨w,e,a⟩:=B6 q;cases y with
 | non=>cases e;exact⟨gM ty,a _ H .refl (.bl _) r⟩
 | _=>cases e
theorem gO:Cop X .Is (Ae (isF false)):=⟨⟨_,Zb,λx y v u G H Q a ty r q=>by
 obtain⟨h1,h2⟩:=gN false x y v u G H Q a ty r q;refine⟨h1,?_⟩;rw[gL a];simpa using h2⟩,CQ⟩
noncomputable def St3T(n l1 l2 l3:Nat)(f0:Value)(i:Nat)(h:Heap):Prop:=IsZip h (n+5) (n+3) (n+4) f0/\EU h (n+3) (.ref n) (.ref (n+1)) (.ref (n+2))/\(∃ a b c,EU h (n+4) a b c)/\h.IsTupleIter n l1 i/\h.IsTupleIter (n+1) l2 i/\h.IsTupleIter (n+2) l3 i
theorem St3T.at(st:St3T n l g j m i h)(k:∀(c:Nat)o,n<=c->c<=n+5->h.get? c=some o->h'.get? c=some o):St3T n l g j m i h':=by
 obtain⟨q,f,⟨a,b,c,d⟩,r,s,p⟩:=st;exact⟨k _ _ (by lia) (by lia) q,k _ _ (by lia) (by lia) f,⟨a,b,c,k _ _ (by lia) (by lia) d⟩,tat r λo e=>k _ o (by lia) (by lia) e,tat s λo e=>k _ o (by lia) (by lia) e,tat p λo e=>k _ o (by lia) (by lia) e⟩
noncomputable def La(K:PySem.W.Frag)(mg:Str->Option Value)(base:Heap)(x:Str)(D:List (Str×List Str)):Prop:=∃ d,mg x=some (.ref d)/\KTD.TabOf (λss v=>∃ a,v=.ref a/\∀ H:Hp,SqT K H a (ss.map V.str)) base d D
theorem QR(H:Hp):∀ a:List Str,TrL K H (a.map V.str) (a.map W.str)
 | []=>.nil
 | s::a=>.cons (.str _) (QR H a)
theorem gP(X:K.In h)(G:h.Ns mainGlobals mg)(B:K.In base)(e:PySem.W.nsIn K mainGlobals x=some (some (.ref d)))(l:K.lookup d=some o)(hd:(d==sysModules)=false)(b:o.ExactDict)(g:o.data=.dict es ep)(c:KTD.Rows (λf v=>∃ a,v=.ref a/\∀ H:Hp,SqT K H a (f.map V.str)) es.toList D):La K mg base x D :=
 ⟨d,PySem.W.mg_of X G e,hd,o,es,ep,B _ _ l,b,g,c⟩
theorem BZ{ts:List (Str×Tok)}{dd:Option Addr}(h1:e.key=.str x t)(h2:e.val=.ref a)(l:K.lookup a=some ⟨.type "tuple",none,.seq ((ts.map λp=>Value.str p.1 p.2).toArray) n,c⟩)(d:ts.length<=1000)(r:KTD.Rows (λb v=>∃ a,v=.ref a/\∀ H:Hp,SqT K H a (b.map V.str)) es D):KTD.Rows (λb v=>∃ a,v=.ref a/\∀ H:Hp,SqT K H a (b.map V.str)) (e::es) ((x,ts.map (·.1))::D):=by
 refine .cons h1 ⟨a,h2,λH=>.inr ⟨_,_,n,l,rfl,rfl,rfl,?_,?_⟩⟩ r
 ·simp only[Yn,Yh];exact Yt d (by decide)
 ·have f:∀ ts:List (Str×Tok),Vals ((ts.map (·.1)).map V.str) (ts.map λp=>Value.str p.1 p.2):=λts=>by
   induction ts with
   | nil=>exact .nil
   | cons p ts g=>exact .cons ⟨p.2,rfl⟩ g
  simpa using f ts
end
noncomputable abbrev gQ(h:Heap)(z TI TO:Addr)(f0:Value)(b:Bool):Prop:=h.get? z=some {cls:=.type "zip",dict:=none,data:=.fields #[f0,.bool b,.bool false,.ref TI,.ref TO],slots:=#[]}
noncomputable def Hd3(n l1 l2 l3 i:Nat)(h:Heap):Prop:=(∃(T:Nat)(o:Obj)(b:Bool),gQ h (n+5) (n+3) (n+4) (rawInt T) b/\h.get? T=some o/\(T < n\/n+5 < T))/\EU h (n+3) (.ref n) (.ref (n+1)) (.ref (n+2))/\h.IsListIter n l1 i/\h.IsListIter (n+1) l2 i/\h.IsListIter (n+2) l3 i
noncomputable def Cm3(n l1 l2 l3 i:Nat)(h:Heap):Prop:=(i=0/\St3 n l1 l2 l3 .none 0 h)\/Hd3 n l1 l2 l3 i h
theorem Cm3.zip(st:Cm3 n d a c i h):∃ o,h.get? (n+5)=some o/\o.cls=.type "zip":=by
 rcases st with⟨_,st⟩| st
 ·exact⟨_,st.1,rfl⟩
 ·obtain⟨⟨T,o,b,e,_⟩,_⟩:=st;exact⟨_,e,rfl⟩
noncomputable def St3M(n l1 l2 l3:Nat)(f0:Value)(i:Nat)(h:Heap):Prop:=IsZip h (n+5) (n+3) (n+4) f0/\EU h (n+3) (.ref n) (.ref (n+1)) (.ref (n+2))/\(∃ a b c,EU h (n+4) a b c)/\h.IsListIter n l1 i/\h.IsTupleIter (n+1) l2 i/\h.IsTupleIter (n+2) l3 i
theorem St3M.at(st:St3M n l g j m i h)(k:∀(c:Nat)o,n<=c->c<=n+5->h.get? c=some o->h'.get? c=some o):St3M n l g j m i h':=by
 obtain⟨q,f,⟨a,b,c,d⟩,r,s,p⟩:=st;exact⟨k _ _ (by lia) (by lia) q,k _ _ (by lia) (by lia) f,⟨a,b,c,k _ _ (by lia) (by lia) d⟩,r.at λo e=>k _ o (by lia) (by lia) e,tat s λo e=>k _ o (by lia) (by lia) e,tat p λo e=>k _ o (by lia) (by lia) e⟩
noncomputable def gR(tk1 t1 tk2 t2:TE):TE:=λσ H Q=>tk1 σ H λa H1=>t1 σ H1 λx H2=>tk2 σ H2 λb H3=>t2 σ H3 λy H4=>∃ k1 k2,a=.str k1/\b=.str k2/\k1≠k2/\∀ l,H4 l=none->Q (.ref l) (upd H4 l (.dK [((Sum.inr k1:Key),x),((Sum.inr k2:Key),y)]))
theorem gS(h1:PE X f i)(h2:PE X m t1)(h3:PE X d j)(Z:PE X t t2):PE X (.Dict [some f,some d] [m,t] pos) (gR i t1 j t2):=by
 intro pins s σ H Q I h;have A:∀ b:Addr,s.heap.objs.size<=b->H b=none:=λb r=>I.hok.fresh r;refine wpAny_Dict_pairs (knd:=A4 X.prog X.w) (pairs:=[(eval f X.env,do let x <- eval m X.env;standAt pos;pure x),(eval d X.env,do let x <- eval t X.env;standAt pos;pure x)]) rfl (by simp) (by simp) ?_;have F:(s.heap.push {cls:=.type "dict",data:=.dict #[]}).get? s.heap.objs.size=some {cls:=.type "dict",data:=.dict #[]}:=Qt _ rfl;have O:Inv X pins σ H {s with heap:=s.heap.push {cls:=.type "dict",data:=.dict #[]}}:=I.kept (t':=s.toks) λb u e=>Qr _ e
 have I1:Inv X (pins++[(s.heap.objs.size,{cls:=.type "dict",data:=.dict #[]})]) σ H {s with heap:=s.heap.push {cls:=.type "dict",data:=.dict #[]}}:=O.pins_of λp k=>by
  rcases Yz.mp k with z | z
  ·exact O.pin p (YM _ z)
  ·rw[YA.mp z];exact⟨F,A _ (Yr _),Nat.ne_of_gt I.lt,I.nofs (Yr _),λv z=>by cases z⟩
 refine evalPairs_cons (thn (h1 _ _ σ H _ I1 h) λa s1 G=>?_);obtain⟨av,H1,J1,ra,q1⟩:=G;refine Qp (thn (h2 _ _ σ H1 _ J1 q1) λx s2 B=>Qp (wpAny_standAt (Qq ?_)));obtain⟨S,H2,R,rx,q2⟩:=B;refine evalPairs_cons (thn (h3 _ _ σ H2 _ R q2) λb s3 D=>?_);obtain⟨bv,H3,Y,T,q3⟩:=D;refine Qp (thn (Z _ _ σ H3 _ Y q3) λy J n=>Qp (wpAny_standAt (Qq ?_)));obtain⟨yv,H4,P,ry,q4⟩:=n;refine evalPairs_nil ?_;obtain⟨g,l,rfl,rfl,K,q⟩:=q4;obtain⟨ta,rfl⟩:=ra;obtain⟨tb,rfl⟩:=T;have pd:=P.pin (s.heap.objs.size,{cls:=.type "dict",data:=.dict #[]}) (by simp);refine⟨[(Sum.inr g,x),(Sum.inr l,y)],⟨JQ _ _ _ _,rfl,JQ _ _ _ _,rfl,trivial⟩,⟨_,#[],0,pd.1,⟨rfl,rfl,rfl⟩,rfl,λ_ U=>by simp at U,Pairs.nil,List.nodup_nil⟩,λh' N sb=>?_⟩
 have em:merged [] [((Sum.inr g:Key),x),((Sum.inr l:Key),y)]=[((Sum.inr g:Key),x),((Sum.inr l:Key),y)]:=by
  have:¬ ((Sum.inr g:Key)=Sum.inr l):=λz=>K (Sum.inr.inj z);simp[merged,stored,this]
 rw[em]at N;have J5:=P.unpinned
 have L:sysModules < s.heap.objs.size:=by
  have h:mainGlobals < s.heap.objs.size:=(I.mod.glob.keeps I.bk).lt;exact Nat.lt_trans (by decide) h
 have J6:Inv X pins σ H4 {J with heap:=h',toks:=J.toks+2}:=by
  refine J5.turned (t':=J.toks+2) (λb o r e=>(sb.2 b r).trans e) pd.2.1 pd.2.2.1 (.inr I.sz) (λx c e=>?_) λp k=>?_
  ·obtain⟨v,o,E,_⟩:=I.cell x c e;exact Ys (Qs E)
  ·exact Ys (Qs (I.pin p k).1)
 refine⟨.ref s.heap.objs.size,_,J6.track (o:=.dK [((Sum.inr g:Key),S),((Sum.inr l:Key),yv)]) pd.2.1 pd.2.2.1 (λx c e=>?_) (λp k=>Ys (Qs (I.pin p k).1)) ?_ ⟨(Qzz 2),by simpa using Nat.ne_of_gt L,_,.cons ⟨rfl,rx⟩ (.cons ⟨rfl,ry⟩ .nil),N⟩,rfl,q _ pd.2.1⟩
 ·obtain⟨v,o,E,_⟩:=I.cell x c e;exact Ys (Qs E)
 ·cases e:X.s₀.heap.get? s.heap.objs.size with
  | none=>rfl
  | some o=>exact Qo (Yu (Qs e) I.sz) (YL _)
noncomputable def HR(g1 g2 g3 g4:GE):GE:=λω G Q=>g1 ω G λa G1=>g2 ω G1 λx G2=>g3 ω G2 λb G3=>g4 ω G3 λy G4=>∃ k1 k2,a=.str k1/\b=.str k2/\k1≠k2/\∀ l,G4 l=none->Q (.ref l) (put G4 l (.dct [((Sum.inr k1:Key),x),((Sum.inr k2:Key),y)]))
theorem gT(c:g1.M)(k:g2.M)(d:g3.M)(e:g4.M):GE.M (HR g1 g2 g3 g4):=λω G Q r h q=>c _ _ _ _ (λa o z=>k _ _ _ _ (λx p z=>d _ _ _ _ (λb n z=>e _ _ _ _ (by rintro y s ⟨i,f,g,m,j,z⟩;exact⟨i,f,g,m,j,λl hl=>h _ _ (z l hl)⟩) z) z) z) q
theorem gU(h1:Em X d g1)(h2:Em X o g2)(j:Em X c g3)(g:Em X t g4):Em X (.Dict [some d,some c] [o,t] pos) (HR g1 g2 g3 g4):=by
 refine⟨A8 (gS h1.p h2.p j.p g.p) λσ H Q⟨ω,G,f,r,q⟩=>⟨ω,G,f,r,h1.m _ _ _ _ (λa J D T H1 e ta r1=>⟨ω,J,f.mono e,r1,h2.m _ _ _ _ (λx v B N H2 i F A=>⟨ω,v,f.mono (e.trans i),A,j.m _ _ _ _ (λb E w U S h tb K=>⟨ω,E,f.mono ((e.trans i).trans h),K,g.m _ _ _ _ (λy O L P R n ty s=>?_) w⟩) B⟩) D⟩) q⟩,gT h1.m h2.m j.m g.m⟩;obtain⟨u,I,rfl,rfl,k,z⟩:=L;cases ta;cases tb;refine⟨u,I,rfl,rfl,k,λl hl=>z l (s.no hl) _ _ ((((e.trans i).trans h).trans n).trans (Mono.new hl _)) (.ref l) (RelH.laid s (Mono.new hl _) ⟨_,BJ,.cons ((F.mono (h.trans n)).mono (Mono.new hl _)) (.cons (ty.mono (Mono.new hl _)) .nil)⟩)⟩
section
variable {H:Hp}
noncomputable def atT{α:Type}(kvs:List (Key×α))(x:Str):Option α:=(kvs.find? λy=>decide (y.1=Sum.inr x)).map (·.2)
theorem Lb{α:Type}{v:α}{kvs:List (Key×α)}:atT ((k,v)::kvs) x=if k=Sum.inr x then some v else atT kvs x:=by
 unfold atT;by_cases h:k=Sum.inr x
 ·simp[h]
 ·simp[h]
theorem QS:∀{kvs:List (Key×V)}{vs:List (Key×Value)},KV kvs vs->(atT kvs x=none/\valueAt vs (Sum.inr x)=none)\/∃ v u,atT kvs x=some v/\valueAt vs (Sum.inr x)=some u/\RelV v u
 | _,_,.nil=>.inl ⟨rfl,rfl⟩
 |(k,v)::kvs,(d,b)::vs,.cons ⟨e,c⟩ t=>by
  have a:=QS (x:=x) t;cases(e);rw[Lb];unfold valueAt at a ⊢;rw[List.find?_cons];by_cases h:k=Sum.inr x
  ·simp only[h];exact .inr ⟨v,b,rfl,rfl,c⟩
  ·simp only[h];exact a
theorem QT{K:PySem.W.Frag}:∀{vs:List (Key×V)}{a:List (Key×W)},TrP K H vs a->(atT vs x=none/\atT a x=none)\/∃ v w,atT vs x=some v/\atT a x=some w/\Tr K H v w:=by
 intro vs a h;induction h with
 | nil=>exact .inl ⟨rfl,rfl⟩
 | @cons k _ _ _ _ tv _ ih=>
  rw[Lb,Lb];by_cases h:k=Sum.inr x
  ·rw[if_pos h,if_pos h];exact .inr ⟨_,_,rfl,rfl,tv⟩
  ·rw[if_neg h,if_neg h];exact ih
noncomputable def inK(neg:Bool)(x y:W)(G:Hw):Option W:=match x,y with
 | .str z,.ref p=>(match G p with | some (.dct kvs)=>some (.bl ((atT kvs z).isSome != neg))| _=>none)
 | _,_=>none
def QU:R2:=λx y H Q=>∃ p kvs z v,x=.ref p/\y=.str z/\H p=some (.dK kvs)/\atT kvs z=some v/\Q v H
theorem gW:IxR X QU:=by
 intro value slice pins s σ H x y v u Q I i j h hs;obtain⟨p,a,z,v,rfl,rfl,k,b,q⟩:=h;cases i;obtain⟨t,rfl⟩:=j;obtain⟨_,hd,d,c,f⟩:a.length<=sizeLine/\(p==sysModules)=false/\∃ d,KV a d/\s.heap.DictOf (A4 X.prog X.w) p d:=I.hok p _ k;rcases QS c with⟨e,_⟩|⟨m,u,e,l,g⟩
 ·rw[e]at b;cases b
 ·rw[e]at b;cases b;refine subscriptTail_builtinR (x:=u) f.typeIs PySem.F.slot_dict_getitem.lookup ?_ hs;exact wpAny_getItem_of (by simp[A4,Du,Value.isStrOf]) f.mapOf l ⟨rfl,_,H,I.tok _,g,q⟩
noncomputable def ixK(x y:W)(G:Hw):Option W:=match x,y with
 | .ref p,.str z=>(match G p with | some (.dct kvs)=>atT kvs z | _=>none)
 | _,_=>none
theorem gX{K:PySem.W.Frag}(x y:W)(v u:V)(G:Hw)(H:Hp)(Q:VK)(c:Tr K H v x)(ty:Tr K H u y)(r:RelH K H G)(q:Ae ixK x y G (dn K H Q)):QU v u H Q:=by
 obtain⟨w,e,d⟩:=B6 q;unfold ixK at e;split at e
 ·rename_i p z;split at e
  ·rename_i h b;cases c;cases ty;obtain⟨f,i,l⟩:=r p _ b;rcases QT l with⟨_,a⟩|⟨v,u,a,g,tv⟩
   ·rw[a]at e;cases e
   ·rw[g]at e;cases e;exact⟨p,f,z,v,rfl,rfl,i,a,d _ H .refl tv r⟩
  ·cases e
 ·cases e
theorem gY(hs:Ht b)(d:Em X a ga)(c:Em X b gb):Em X (.Subscript a b pos) (Ad (Ae ixK) ga gb):=⟨OD gW CQ d.m c.m gX d.p c.p hs,Cg CQ d.m c.m⟩
noncomputable def BC{α:Type}(kvs:List (Key×α))(k:Key)(v:α):List (Key×α):=if kvs.any (λkv=>decide (kv.1=k))then kvs.map (λkv=>if kv.1=k then(kv.1,v)else kv)else kvs++[(k,v)]
theorem gZ{α:Type}(kvs:List (Key×α))(k:Key)(v:α):(BC kvs k v).length<=kvs.length+1:=by unfold BC;split <;> simp
theorem QV:∀{kvs:List (Key×V)}{vs:List (Key×Value)},KV kvs vs->kvs.any (λkv=>decide (kv.1=k))=vs.any (λkv=>decide (kv.1=k)):=by intro kvs vs h;induction h with | nil=>rfl | cons r _ ih=>rw[List.any_cons,List.any_cons,ih,r.1]
theorem QW(r:RelV v u):∀{kvs:List (Key×V)}{vs:List (Key×Value)},KV kvs vs->KV (kvs.map λkv=>if kv.1=k then(kv.1,v)else kv) (vs.map λkv=>if kv.1=k then(kv.1,u)else kv)
 | _,_,.nil=>.nil
 |(a,x)::_,(b,y)::_,.cons ⟨e,c⟩ t=>by
  cases(e);rw[Ym,Ym];refine .cons ?_ (QW r t);by_cases h:a=k
  ·rw[if_pos h,if_pos h];exact⟨rfl,r⟩
  ·rw[if_neg h,if_neg h];exact⟨rfl,c⟩
theorem QX(r:RelV v u):∀{kvs:List (Key×V)}{vs:List (Key×Value)},KV kvs vs->KV (kvs++[(k,v)]) (vs++[(k,u)])
 | _,_,.nil=>.cons ⟨rfl,r⟩ .nil
 | _,_,.cons h t=>.cons h (QX r t)
theorem g6(r:RelV v u)(h:KV kvs vs):KV (BC kvs k v) (stored vs k u):=by
 unfold BC stored;rw[QV h];split
 ·exact QW r h
 ·exact QX r h
theorem QY{K:PySem.W.Frag}:∀{vs:List (Key×V)}{a:List (Key×W)},TrP K H vs a->vs.any (λkv=>decide (kv.1=k))=a.any (λkv=>decide (kv.1=k)):=by intro vs a h;induction h with | nil=>rfl | cons _ _ ih=>rw[List.any_cons,List.any_cons,ih]
theorem Lc{K:PySem.W.Frag}(r:Tr K H v w):∀{vs:List (Key×V)}{b:List (Key×W)},TrP K H vs b->TrP K H (vs.map λkv=>if kv.1=k then(kv.1,v)else kv) (b.map λkv=>if kv.1=k then(kv.1,w)else kv)
 | _,_,.nil=>.nil
 |(a,x)::_,(_,y)::_,.cons tv t=>by
  rw[Ym,Ym];by_cases h:a=k
  ·simp only[h];exact .cons r (Lc r t)
  ·simp only[h];exact .cons tv (Lc r t)
theorem QZ{K:PySem.W.Frag}(r:Tr K H v w):∀{vs:List (Key×V)}{a:List (Key×W)},TrP K H vs a->TrP K H (vs++[(k,v)]) (a++[(k,w)])
 | _,_,.nil=>.cons r .nil
 | _,_,.cons h t=>.cons h (QZ r t)
theorem g8{K:PySem.W.Frag}(r:Tr K H v w)(h:TrP K H vs a):TrP K H (BC vs k v) (BC a k w):=by
 unfold BC;rw[QY h];split
 ·exact Lc r h
 ·exact QZ r h
theorem Q0{K:PySem.W.Frag}:∀{vs:List (Key×V)}{a:List (Key×W)},TrP K H vs a->vs.length=a.length
 | _,_,.nil=>rfl
 | _,_,.cons _ t=>by rw[Yg,Yg,Q0 t]
def Q1:V->V->V->Hp->(Hp->Prop)->Prop:=λo i v H Q=>∃ p kvs z,o=.ref p/\i=.str z/\H p=some (.dK kvs)/\kvs.length < sizeLine/\Q (upd H p (.dK (BC kvs (Sum.inr z) v)))
theorem g9:JS X Q1:=by
 intro pins s σ H o i v F E u Q I m D r h;obtain⟨p,a,z,rfl,rfl,j,hl,q⟩:=h;cases m;obtain⟨t,rfl⟩:=D;obtain⟨_,hd,f,c,y⟩:a.length<=sizeLine/\(p==sysModules)=false/\∃ f,KV a f/\s.heap.DictOf (A4 X.prog X.w) p f:=I.hok p _ j;have g:=Paired.length c;refine wpAny_setItem_pairs (knd:=A4 X.prog X.w) (k:=Sum.inr z) (by simp[A4,Du,Value.isStrOf]) y (λh' d A=>?_) (by lia);have n:∃ o,h'.get? p=some o:=by obtain⟨o,_,_,l,_⟩:=d;exact⟨o,l⟩
 refine⟨_,I.write (t':=s.toks+1) (x:=p) (e:=p) (o:=.dK (BC a (Sum.inr z) v)) (by rw[j];trivial) (.inl rfl) (λb w B e=>(A.2 b B).trans e) n ?_,q⟩;have:=gZ a (Sum.inr z) v;exact⟨by lia,hd,_,g6 r c,d⟩
def Q2(o k v:W)(G:Hw)(Q:Hw->Prop):Prop:=∃ p kvs z,o=.ref p/\k=.str z/\G p=some (.dct kvs)/\kvs.length < sizeLine/\Q (put G p (.dct (BC kvs (Sum.inr z) v)))
theorem hE{K:PySem.W.Frag}(h:Tr K H x v)(ty:Tr K H y o)(i:Tr K H u k)(r:RelH K H G)(q:Q2 o k v G Pq)(f:∀ g b,Mono K H b->RelH K b g->Pq g->R b):Q1 y u x H R:=by
 obtain⟨p,a,z,rfl,rfl,e,j,q⟩:=q;cases ty;cases i;obtain⟨c,d,t⟩:=r p _ e;have m:Mono K H (upd H p (.dK (BC c (Sum.inr z) x))):=Mono.was d _ (λ_ z=>by cases z) (λ_ _ z=>by cases z);exact⟨p,c,z,rfl,rfl,d,by rw[Q0 t];exact j,f _ _ m (RelH.laid (u:=.dct (BC a (Sum.inr z) v)) r m ⟨_,BJ,(g8 h t).mono m⟩) q⟩
noncomputable def FC(gv go gi:GE):GS:=λD ω G=>gv ω G λv G1=>go ω G1 λo G2=>gi ω G2 λk G3=>Q2 o k v G3 λG4=>D.nx ω G4
theorem hF(c:gv.M)(e:go.M)(d:gi.M):GS.M (FC gv go gi):=λω G D m h1 _ _ _ q=>
 c _ _ _ _ (λv j z=>e _ _ _ _ (λo l z=>d _ _ _ _ ((by rintro k i ⟨p,a,z,h,f,b,g,q⟩;exact⟨p,a,z,h,f,b,g,h1 _ _ q⟩)) z) z) q
theorem hI(F:∀ v,assign (.Subscript o i pos') X.env v=(do
   let ov <- holding [v] (eval o X.env)
   let iv <- holding [v,ov] (eval i X.env)
   standAt pos'
   holding [v,ov,iv] (setItem ov iv v)
   release [v,ov,iv] []))(hs:swapsWithSole [.Subscript o i pos'] e pos.line X.env=pure false)(hw:swappedStores [.Subscript o i pos'] e X.env=pure none)(h1:(assignEach [.Subscript o i pos'] X.env).map (·.2)=[assign (.Subscript o i pos') X.env])(f:Em X e gv)(g:Em X o go)(hi:Em X i gi):Sm X P (.Assign [.Subscript o i pos'] e pos) (FC gv go gi):=
 ⟨λB R=>CN (JU f.p (NI g.p hi.p g9 F) hs hw h1) λD σ H⟨ω,G,c,r,I,q⟩=>⟨ω,G,c,r,f.m _ _ _ _ (λv J z x H1 a E r1=>
  ⟨ω,J,c.mono a,r1,g.m _ _ _ _ (λL j t y H2 d ty s=>
   ⟨ω,j,(c.mono a).mono d,s,hi.m _ _ _ _ (λk Q l u O b w K=>
    hE ((E.mono d).mono b) (ty.mono b) w K l (λN A h n q4=>q4 σ A ((((I.trans a).trans d).trans b).trans h) ((((c.mono a).mono d).mono b).mono h) n)) t⟩) z⟩) q⟩,hF f.m g.m hi.m⟩
noncomputable def hJ:TE:=λ_ H Q=>∀ l,H l=none->Q (.ref l) (upd H l (.dK []))
theorem hL:PE X (.Dict [] [] pos) hJ:=by
 intro pins s σ H Q I h;refine wpAny_Dict_empty ?_
 have a:sysModules < s.heap.objs.size:=by
  have h:mainGlobals < s.heap.objs.size:=(I.mod.glob.keeps I.bk).lt;exact Nat.lt_trans (by decide) h
 have c:=I.hok.fresh (Yr s.heap.objs.size);have J:Inv X pins σ (upd H s.heap.objs.size (.dK [])) {s with heap:=s.heap.push {cls:=.type "dict",data:=.dict #[]},toks:=s.toks}:=I.laid (t':=s.toks) (λb u e=>Qr _ e) (Yr _) (show ObjOk X.prog X.w _ _ _ (.dK _)from⟨YV _,by simpa using Nat.ne_of_gt a,[],.nil,Heap.DictOf.new s.heap⟩);exact⟨.ref _,_,J,rfl,h _ c⟩
noncomputable def Ld:GE:=λ_ G Q=>∀ l,G l=none->Q (.ref l) (put G l (.dct []))
theorem hO:Em X (.Dict [] [] pos) Ld:=by
 refine⟨A8 hL λσ H Q⟨ω,G,b,r,q⟩l hl=>?_,λω G Q a h q l hl=>h _ _ (q l hl)⟩;exact q l (r.no hl) _ _ (Mono.new hl _) (.ref l) (RelH.laid r (Mono.new hl _) ⟨_,BJ,.nil⟩)
end
theorem hR(h:(A4 prog w).is (Sum.inr z) v=true):∃ t,v=.str z t:=by
 rcases C8 (show Du (Sum.inr z) v=true from h)with⟨i,t,e,_⟩|⟨x,t,e,rfl⟩
 ·cases e
 ·cases e;exact⟨t,rfl⟩
theorem Q3:∀{zs:List Str}{kvs:List (Key×Value)}{a:List Value},kvs.map (·.1)=zs.map Sum.inr->a.length=kvs.length->(∀(j:Nat)(v:Value),a[j]?=some v->∃ k x,kvs[j]?=some (k,x)/\(A4 prog w).is k v=true)->Vals (zs.map V.str) a:=by
 intro zs;induction zs with
 | nil=>intro kvs a e hl _;cases kvs with
  | nil=>cases a with
   | nil=>exact .nil
   | cons _ _=>cases hl
  | cons _ _=>cases e
 | cons z zs ih=>intro kvs a e hl h;cases kvs with
  | nil=>cases e
  | cons p kvs=>obtain⟨k,x⟩:=p;cases a with
   | nil=>cases hl
   | cons v a=>rw[Ym,Ym]at e;obtain⟨f,g⟩:=Qk e;obtain⟨b,c,h1,h2⟩:=h 0 v rfl;cases h1;cases(show k=Sum.inr z from f);obtain⟨t,rfl⟩:=hR h2;refine .cons ⟨t,rfl⟩ (ih g (Nat.succ.inj hl) λj u d=>?_);obtain⟨b,c,h1,h2⟩:=h (j+1) u (by simpa using d);exact⟨b,c,by simpa using h1,h2⟩
theorem Q4:∀{kvs:List (Key×V)}{vs:List (Key×Value)},KV kvs vs->vs.map (·.1)=kvs.map (·.1)
 | _,_,.nil=>rfl
 | _,_,.cons h t=>by rw[Ym,Ym,Q4 t,h.1]
theorem Q5{K:PySem.W.Frag}:∀{vs:List (Key×V)}{a:List (Key×W)},TrP K H vs a->vs.map (·.1)=a.map (·.1)
 | _,_,.nil=>rfl
 | _,_,.cons _ t=>by rw[Ym,Ym,Q5 t]
noncomputable def EV(g:GE):GE:=λω G Q=>g ω G λx G1=>∃ i,x=.int i/\Q (.int (-i)) G1
theorem hU(m:g.M):GE.M (EV g):=λω G Q b h q=>m _ _ _ _ (by rintro x a ⟨i,e,z⟩;exact⟨i,e,h _ _ z⟩) q
theorem hV(h:Em X a g):Em X (.UnaryOp .USub a pos) (EV g):=
 ⟨A8 (X6 Y3 h.p) λσ H Q⟨ω,G,b,r,q⟩=>⟨ω,G,b,r,h.m _ _ _ _ (λx c z v H1 m t r1=>by
  obtain⟨i,rfl,z⟩:=z;cases t;exact⟨_,rfl,z _ _ m (.int _) r1⟩) q⟩,hU h.m⟩
noncomputable def HS(gg:GG)(ga:GE):GS:=λD ω G=>ga ω G λw G1=>gg w ω G1 D.nx
theorem hW(hs:swapsWithSole [tg] e pos.line X.env=pure false)(hw:swappedStores [tg] e X.env=pure none)(h1:(assignEach [tg] X.env).map (·.2)=[assign tg X.env])(j:TgW X tg d)(a:Em X e ga):
  Sm X P (.Assign [tg] e pos) (HS d ga):=by
 obtain⟨⟨g,pg,b⟩,mg⟩:=j;refine⟨λB x=>CN (JU a.p pg hs hw h1) ?_,λω G D u h _ _ _ q=>a.m _ _ _ _ (λw f z=>mg _ _ _ _ _ h z) q⟩;rintro D σ H ⟨ω,G,i,r,k,q⟩;exact⟨ω,G,i,r,a.m _ _ _ _ (λw f z v H1 m t r1=>b v w σ ω H1 f _ t (i.mono m) r1 (mg _ _ _ _ _ (λω2 s n σ2 H2 o c l=>n σ2 H2 (k.trans (m.trans o)) c l) z)) q⟩
noncomputable def ev{α:Type}(lt:Nat->Nat->Bool)(n:Nat):PySem.W.KasT α->Option α
 | .ret a=>some a
 | .ask i j k=>if i≠j/\i < n/\j < n then ev lt n (k (lt i j))else none
theorem Q6:bootBuiltins "sorted"=some (.builtin "sorted"):=by decide +kernel
theorem hX(z:A.handled=none)(hd:(d==sysModules)=false)(u:s.heap.DictAt (A4 prog w) d kvs ep)(D:kvs.length<=sizeLine)(h:∀(h':Heap)(tk:Nat)(a:Array Value),(∀ b o,s.heap.get? b=some o->h'.get? b=some o)->s.heap.objs.size<=h'.objs.size->ItemsOf (λi v=>∃ k x,kvs[i]?=some (k,x)/\(A4 prog w).is k v=true) a kvs.length->R a.toList {s with heap:=h',toks:=tk}):
  wpAny (model prog w) A (collect (.ref d)) R E s:=by
 have n:d < s.heap.objs.size:=u.lt_size;unfold collect;refine Qp (wpAny_runValue (codeAny_builtin PySem.F.entry_proto_collect ?_));rw[Around.under_plainId PySem.F.plain_proto_collect _];refine Qp (m:=newList []) (wpAny_newList ?_ (YV _));refine Qq ⟨plainId_quiet PySem.F.plain_list_iadd _,codeAny_builtin PySem.F.entry_list_iadd ?_⟩;rw[Around.under_plainId PySem.F.plain_list_iadd _];have B:(s.heap.push (seqObj "list" #[] 0)).get? s.heap.objs.size=some {cls:=.type "list",data:=.seq #[]}:=Qt _ rfl;refine(?_:wpAny (model prog w) A.in1 (Builtin.List.listExtendWith (.ref s.heap.objs.size) (.ref d) (.ref s.heap.objs.size)) _ _ {s with heap:=s.heap.push (seqObj "list" #[] 0)})
 have key:=PySem.W.kdl_extend (A:=A) (s:={s with heap:=s.heap.push (seqObj "list" #[] 0)}) (R:=λ(q:Result)(s':Shared)=>∃(h':Heap)(tk:Nat)(a:Array Value)(c:Nat),q=.ok (.ret (.ref s.heap.objs.size))/\s'={s with heap:=h',toks:=tk}/\(∀ b o,s.heap.get? b=some o->h'.get? b=some o)/\h'.get? s.heap.objs.size=some {cls:=.type "list",dict:=none,data:=.seq a c,slots:=#[]}/\ItemsOf (λi v=>∃ k x,kvs[i]?=some (k,x)/\(A4 prog w).is k v=true) a kvs.length)
  (PySem.W.kdl_dict (knd:=A4 prog w) (kvs:=kvs) (ep:=ep) hd) z (u.push _) s.heap.objs.size (Nat.ne_of_gt n) (Nat.ne_of_gt n) (.ref s.heap.objs.size) 0 B (λh' tk a c l j g=>⟨h',tk,a,c,rfl,rfl,λb o e=>l b o (Ys (Qs e)) (Qr _ e),j,g⟩) D
 refine wpAny_mono key (λp s' x=>?_) λe s' x=>?_
 ·cases p with
  | done f =>
   obtain⟨h',tk,a,c,e,rfl,l,j,g⟩:=x;cases e;refine Qp (m:=load s.heap.objs.size) (wpAny_load j (Qq ?_));exact h h' tk a l (YK (Qs j)) g
  | again t =>
   refine⟨x.1,codeAny_mono x.2 λq r y=>?_⟩;obtain⟨h',tk,a,c,rfl,rfl,l,j,g⟩:=y;refine Qp (m:=load s.heap.objs.size) (wpAny_load j (Qq ?_));exact h h' tk a l (YK (Qs j)) g
 ·obtain⟨_,_,_,_,G,_⟩:=x;cases G
theorem hY(hc:X.calm=true):CallR X (.builtin "sorted") (λxs H Q=>∃(p:Addr)(kvs:List (Key×V))(zs:List Str),xs=[.ref p]/\H p=some (.dK kvs)/\kvs.map (·.1)=zs.map Sum.inr/\zs.length < 64/\∀(ys:List Str)l,sortedS ys=true->ys.Perm zs->H l=none->Q (.ref l) (upd H l (.lst (ys.map V.str)))):=by
 intro pins s σ H xs Y Q I r h;obtain⟨p,kvs,zs,rfl,S,G,U,q⟩:=h;obtain⟨u,rfl,N⟩:=Ce r;cases N;obtain⟨hz,hd,vs,g,P⟩:kvs.length<=sizeLine/\(p==sysModules)=false/\∃ vs,KV kvs vs/\s.heap.DictOf (A4 X.prog X.w) p vs:=I.hok p _ S;have hl:=Paired.length g;obtain⟨ep,E⟩:=P.dictAt;have k:vs.map (·.1)=zs.map Sum.inr:=by rw[<- G,Q4 g]
 have T:zs.length=vs.length:=by have:=Ql List.length k;simpa using this.symm
 have L:(64:Nat)<=sizeLine:=by decide
 refine Calls.call_function_entry kind_sorted plain_sorted entry_sorted (args_sorted1 _) ?_;unfold Builtin.«sorted»;refine Qp (m:=checkCount "sorted" 1 1 _) (Qq ?_);refine Qp (hX (by simp[I.ok.hd hc]) hd E (by lia) λh1 tk y keep x a=>?_);have i:StrsAre y.toList zs:=Gk (Q3 (prog:=X.prog) (w:=X.w) k (by rw[YT];exact a.1) λj v e=>a.2 j v (by rw[<- YN];exact e));generalize y.toList=ac at i ⊢;have D:ac.length < 64:=by rw[i.length];exact U
 refine Qp (wpAny_newList ?_ (by lia));have d:(h1.push (seqObj "list" ac.toArray 0)).get? h1.objs.size=some (seqObj "list" ac.toArray 0):=Qt _ rfl;refine Qp (wpAny_holding (wpAny_call_entry slot_list_sort ⟨_,d,rfl⟩ entry_list_sort (list_sort_treeK (s:={s with heap:=h1.push (seqObj "list" ac.toArray 0),toks:=tk}) strKind_oneLt d i.keysOf (λZ v2 r e=>keyKind_strs (by rw[<- e];exact i)) D λc R O=>⟨_,rfl,?_⟩) (args_list_sort _)));obtain⟨ys,B,A,F⟩:=sorted_out_str i R O;obtain⟨e,K⟩:=sortedHeap_at (n:=0) (vs:=ac) (out:=(arrOf c).map (·.2)) d
 have t:∀ b o,s.heap.get? b=some o->(sortedHeap (h1.push (seqObj "list" ac.toArray 0)) h1.objs.size ac ((arrOf c).map (·.2))).get? b=some o:=λb o z=>by
  have f:=Qs (keep b o z);rw[sortedHeap_old (Ys f) (by rw[Qu];exact Nat.lt_succ_of_lt f)];exact Qr _ (keep b o z)
 have J:Inv X pins σ (upd H h1.objs.size (.lst (ys.map V.str))) {s with heap:=_,toks:=tk}:=I.laid (t':=tk) t x (show ObjOk X.prog X.w _ _ _ (.lst (ys.map V.str))from⟨by rw[Yh,A.length_eq];lia,((arrOf c).map (·.2)).toList,e,HL B,by rw[Array.toArray_toList];exact K⟩);exact Qq ⟨_,rfl,.ref h1.objs.size,_,J,rfl,q ys _ F A (I.hok.fresh x)⟩
noncomputable def HU(ws:List W)(G:Hw)(Q:Kw):Prop:=∃(p:Addr)(kvs:List (Key×W))(zs:List Str),ws=[.ref p]/\G p=some (.dct kvs)/\kvs.map (·.1)=zs.map Sum.inr/\zs.length < 64/\∀(ys:List Str)l,sortedS ys=true->ys.Perm zs->G l=none->Q (.ref l) (put G l (.lst (ys.map W.str)))
theorem hZ:RWc.M HU:=λf G Q g h⟨p,c,zs,h1,h2,d,e,q⟩=>⟨p,c,zs,h1,h2,d,e,λys l a b hl=>h _ _ (q ys l a b hl)⟩
theorem h0{K:PySem.W.Frag}:UpC K HU (λxs H Q=>∃(p:Addr)(kvs:List (Key×V))(zs:List Str),xs=[.ref p]/\H p=some (.dK kvs)/\kvs.map (·.1)=zs.map Sum.inr/\zs.length < 64/\∀(ys:List Str)l,sortedS ys=true->ys.Perm zs->H l=none->Q (.ref l) (upd H l (.lst (ys.map V.str)))):=λh i G H Q t r q=>by
 obtain⟨p,kvs,zs,rfl,c,d,e,q⟩:=q;cases t with
 | cons tw t =>
  cases t;cases tw;obtain⟨f,g,l⟩:=r p _ c;refine⟨p,f,zs,rfl,g,by rw[Q5 l];exact d,e,λys l a b hl=>?_⟩;exact q ys l a b (r.no hl) _ _ (Mono.new hl _) (.ref l) (r.new hl (HN ys))
theorem ia(hc:X.calm=true):Blt X (.builtin "sorted") HU:=⟨⟨_,hY hc,h0⟩,hZ⟩
section
variable {H H':Hp}
noncomputable def prs(X:Cx)(pos:Pos):List (Option Expr)->List Expr->List (Sem Value×Sem Value)
 | some k::ks,v::vs=>(eval k X.env,do let x <- eval v X.env;standAt pos;pure x)::prs X pos ks vs
 | _,_=>[]
noncomputable def KVs:List Str->List V->List (Value×Value)->Prop
 | [],[],[]=>True
 | k::ks,v::vs,p::ps=>(∃ t,p.1=.str k t)/\RelV v p.2/\KVs ks vs ps
 | _,_,_=>False
noncomputable def PD(X:Cx)(pos:Pos)(kes:List (Option Expr))(ves:List Expr)(ks:List Str)(t:TA):Prop :=
 ∀(pins:List (Addr×Obj))(s:Shared)(σ:St)(H:Hp)(Q:List V->Hp->Prop),Inv X pins σ H s->t σ H Q->wpAny (model X.prog X.w) X.A (evalPairs (prs X pos kes ves)) (λps s'=>∃ vs H',Inv X pins σ H' s'/\KVs ks vs ps/\Q vs H') X.xe s
theorem ib:PD X pos [] [] [] J3:=λ_ _ _ H Q I h=>evalPairs_nil ⟨[],H,I,trivial,h⟩
theorem ic(i:PE X f (tC (.str k)))(m:PE X v te)(y:PD X pos b c ks t):PD X pos (some f::b) (v::c) (k::ks) (Ho te t):=by
 intro pins s σ H Q I h;refine evalPairs_cons (thn (i pins s σ H (λu H'=>u=.str k/\H'=H) I ⟨rfl,rfl⟩) λa p e=>?_);obtain⟨B,H1,z,w,rfl,rfl⟩:=e;refine Qp (thn (m pins p σ _ _ z h) λx q d=>Qp (wpAny_standAt (Qq ?_)));obtain⟨j,H2,g,n,q2⟩:=d;exact thn (y pins q σ H2 _ g q2) (by rintro ps D ⟨o,r,l,A,q3⟩;exact⟨j::o,r,l,⟨w,n,A⟩,q3⟩)
theorem Q7(h:PD X pos a b ks t)(i:∀ σ H Q,t' σ H Q->t σ H Q):PD X pos a b ks t':=λpins s σ H Q I q=>h pins s σ H Q I (i σ H Q q)
noncomputable def kvW{α:Type}:List Str->List α->List (Key×α)
 | k::ks,v::vs=>(Sum.inr k,v)::kvW ks vs
 | _,_=>[]
theorem KVs.len:∀{ks:List Str}{vs:List V}{ps:List (Value×Value)},KVs ks vs ps->vs.length=ks.length/\ps.length=ks.length:=by
 intro ks;induction ks with
 | nil=>intro vs ps h;cases vs <;> cases ps <;> first | exact h.elim | exact⟨rfl,rfl⟩
 | cons k ks ih=>
  intro vs ps h;cases vs <;> cases ps <;> first | exact h.elim | skip
  obtain⟨a,b⟩:=ih h.2.2;simp only[Yg];lia
theorem Q8{α:Type}:∀{ks:List Str}{vs:List α},(kvW ks vs).length<=ks.length
 | [],vs=>by cases vs <;> exact Yr _
 | k::ks,[]=>YV _
 | k::ks,v::vs=>by have:=Q8 (ks:=ks) (vs:=vs);simp only[kvW,Yg];lia
theorem KVs.carries:∀{ks:List Str}{vs:List V}{ps:List (Value×Value)},KVs ks vs ps->Carries (A4 P w) ps (kvW ks (ps.map (·.2))):=by
 intro ks;induction ks with
 | nil=>intro vs ps h;cases vs <;> cases ps <;> first | exact h.elim | trivial
 | cons k ks ih=>
  intro vs ps h;cases vs <;> cases ps <;> first | exact h.elim | skip
  rename_i v vs p ps;obtain⟨a,x⟩:=p;obtain⟨⟨t,e⟩,_,h⟩:=h;cases(show a=_ from e);exact⟨JQ _ _ _ _,rfl,ih h⟩
theorem KVs.kv:∀{ks:List Str}{vs:List V}{ps:List (Value×Value)},KVs ks vs ps->KV (kvW ks vs) (kvW ks (ps.map (·.2)))
 | [],[],[],_=>.nil
 | k::ks,v::vs,(a,x)::ps,h=>.cons ⟨rfl,h.2.1⟩ h.2.2.kv
theorem ie{k:Key}{v:Value}(h:∀ y∈a,y.1≠k):stored a k v=a++[(k,v)]:=by
 unfold stored;rw[if_neg];intro z;obtain⟨y,b,e⟩:=List.any_eq_true.mp z;exact h y b (Qm e)
theorem Q9:∀(ks:List Str)(vs:List Value)(a:List (Key×Value)),ks.Nodup->(∀ y∈a,∀ k∈ks,y.1≠Sum.inr k)->merged a (kvW ks vs)=a++kvW ks vs
 | [],vs,a,_,_=>by cases vs <;> simp[kvW,merged]
 | k::ks,[],a,_,_=>by simp[kvW,merged]
 | k::ks,v::vs,a,g,c=>by
  obtain⟨h,f⟩:=YS.mp g;show merged (stored a (Sum.inr k) v) (kvW ks vs)=a++(Sum.inr k,v)::kvW ks vs;rw[ie λy b=>c y b k Ye,Q9 ks vs _ f λy b j d=>?_,Yv]
  ·rfl
  ·rcases Yz.mp b with b | b
   ·exact c y b j (Yd _ d)
   ·rw[YA.mp b];intro e;exact h (by rw[Sum.inr.inj e];exact d)
noncomputable def ig(ks:List Str)(t:TA):TE:=λσ H Q=>t σ H λvs H1=>ks.Nodup/\∀ l,H1 l=none->Q (.ref l) (upd H1 l (.dK (kvW ks vs)))
theorem ii(m:(evalEachOpt a X.env).zip ((evalEach d X.env).map λv=>do let x <- v;standAt pos;pure x)=(prs X pos a d).map λp=>(some p.1,p.2))(N:prs X pos a d≠[])(hl:(prs X pos a d).length<=15)(j:ks.length<=15)(f:PD X pos a d ks t):PE X (.Dict a d pos) (ig ks t):=by
 intro pins s σ H Q I h;have k:∀ b:Addr,s.heap.objs.size<=b->H b=none:=λb i=>I.hok.fresh i;refine wpAny_Dict_pairs (knd:=A4 X.prog X.w) m N hl ?_;have n:(s.heap.push {cls:=.type "dict",data:=.dict #[]}).get? s.heap.objs.size=some {cls:=.type "dict",data:=.dict #[]}:=Qt _ rfl;have A:Inv X pins σ H {s with heap:=s.heap.push {cls:=.type "dict",data:=.dict #[]}}:=I.kept λb u e=>Qr _ e
 have O:Inv X (pins++[(s.heap.objs.size,{cls:=.type "dict",data:=.dict #[]})]) σ H {s with heap:=s.heap.push {cls:=.type "dict",data:=.dict #[]}}:=A.pins_of λp f=>by
  rcases Yz.mp f with z | z
  ·exact A.pin p (YM _ z)
  ·rw[YA.mp z];exact⟨n,k _ (Yr _),Nat.ne_of_gt I.lt,I.nofs (Yr _),λv z=>by cases z⟩
 refine thn (f _ _ σ H _ O h) λps D g=>?_;obtain⟨G,J,B,kv,P,q⟩:=g;have pd:=B.pin (s.heap.objs.size,{cls:=.type "dict",data:=.dict #[]}) (by simp);refine⟨kvW ks (ps.map (·.2)),kv.carries,⟨_,#[],0,pd.1,⟨rfl,rfl,rfl⟩,rfl,λ_ E=>by simp at E,Pairs.nil,List.nodup_nil⟩,λh' y R=>?_⟩;rw[Q9 ks _ [] P (λ_ F=>by cases F)]at y;have K:=B.unpinned
 have r:sysModules < s.heap.objs.size:=by
  have h:=(I.mod.glob.keeps I.bk).lt;exact Nat.lt_trans (by decide) h
 have L:Inv X pins σ J {D with heap:=h',toks:=D.toks+ps.length}:=by
  refine K.turned (λb o i e=>(R.2 b i).trans e) pd.2.1 pd.2.2.1 (.inr I.sz) (λx c e=>?_) λp f=>?_
  ·obtain⟨v,o,l,_⟩:=I.cell x c e;exact Ys (Qs l)
  ·exact Ys (Qs (I.pin p f).1)
 refine⟨.ref s.heap.objs.size,_,L.track (o:=.dK (kvW ks G)) pd.2.1 pd.2.2.1 (λx c e=>?_) (λp f=>Ys (Qs (I.pin p f).1)) ?_ ⟨Yt Q8 (Yt j (by decide)),by simpa using Nat.ne_of_gt r,_,kv.kv,y⟩,rfl,q _ pd.2.1⟩
 ·obtain⟨v,o,l,_⟩:=I.cell x c e;exact Ys (Qs l)
 ·cases e:X.s₀.heap.get? s.heap.objs.size with
  | none=>rfl
  | some o=>exact Qo (Yu (Qs e) I.sz) (YL _)
structure Pm(X:Cx)(pos:Pos)(kes:List (Option Expr))(ves:List Expr)(ks:List Str)(g:GA):Prop where
 p:PD X pos kes ves ks (upA X.K g)
 m:g.M
theorem ij:Pm X pos [] [] [] Ac:=⟨Q7 ib (by rintro σ H Q ⟨ω,G,a,r,q⟩;exact q [] H .refl .nil r),OF⟩
theorem ik{j}(d:Em X v ga)(c:Pm X pos a b ks gs):Pm X pos (some (.Constant (.str k) j kp)::a) (v::b) (k::ks) (Aa ga gs):=
 ⟨Q7 (ic NH d.p c.p) (by rintro σ H Q ⟨ω,G,g,r,q⟩;exact⟨ω,G,g,r,d.m _ _ _ _ (λx l q1 v H1 f i r1=>⟨ω,l,g.mono f,r1,c.m _ _ _ _ (λxs o q2 s H2 h e n=>q2 _ H2 (f.trans h) (.cons (i.mono h) e) n) q1⟩) q⟩),OG d.m c.m⟩
noncomputable def HV(ks:List Str)(gs:GA):GE:=λω G Q=>gs ω G λws G1=>ks.Nodup/\∀ l,G1 l=none->Q (.ref l) (put G1 l (.dct (kvW ks ws)))
theorem il(m:gs.M):GE.M (HV ks gs):=λω G Q c h q=>m _ _ _ _ (by rintro a b ⟨e,z⟩;exact⟨e,λl hl=>h _ _ (z l hl)⟩) q
theorem Ra{K:PySem.W.Frag}:∀{ks:List Str}{vs:List V}{b:List W},TrL K H vs b->TrP K H (kvW ks vs) (kvW ks b)
 | [],_,_,t=>by cases t <;> exact .nil
 | k::ks,_,_,.nil=>.nil
 | k::ks,_,_,.cons a t=>.cons a (Ra t)
theorem im(e:(evalEachOpt a X.env).zip ((evalEach b X.env).map λv=>do let x <- v;standAt pos;pure x)=(prs X pos a b).map λp=>(some p.1,p.2))(g:prs X pos a b≠[])(hl:(prs X pos a b).length<=15)(c:ks.length<=15)(d:Pm X pos a b ks gs):Em X (.Dict a b pos) (HV ks gs):=by
 refine⟨A8 (ii e g hl c d.p) λσ H Q⟨ω,G,h,r,q⟩=>⟨ω,G,h,r,d.m _ _ _ _ (λj k z n H1 f tv r1=>?_) q⟩,il d.m⟩;obtain⟨i,z⟩:=z;exact⟨i,λl hl=>z l (r1.no hl) _ _ (f.trans (Mono.new hl _)) (.ref l) (RelH.laid r1 (Mono.new hl _) ⟨_,BJ,Ra (tv.mono (Mono.new hl _))⟩)⟩
theorem io{δ:Type}{R:δ->Value->Prop}{D:List (Str×δ)}(T:KTD.TabOf R c a D)(m:∀ b o,c.get? b=some o->s.heap.get? b=some o)(h1:∀ d v,KTD.datumAt k D=some d->R d v->Q (some v) {s with toks:=s.toks+1})(h2:KTD.datumAt k D=none->Q none {s with toks:=s.toks+1}):wpAny (model prog w) A (dictGet a (.str k tk)) Q E s:=by
 obtain⟨_,o,es,q,h,hc,hd,j⟩:=T;have h:=m _ _ h
 try with_reducible refine wpAny_holding ?_
 refine Qp (wpAny_pyHash_str (Qp (KTD.kt_dictFind_strs h hd (by simpa using j.exact) ?_)))
 have f:Q (findBy (λk v=>v.isStr k) es k) {s with toks:=s.toks+1}:=by
  have n:findBy (λk v=>v.isStr k) es k=(es.toList.find? λe=>e.key.isStr k).map (·.val):=by
   obtain⟨l⟩:=es;simp[findBy]
  rw[n];cases g:KTD.datumAt k D with
  | none=>rw[j.find_none g];exact h2 g
  | some d=>obtain⟨v,e,p⟩:=j.find_some g;rw[e];exact h1 d v g p
 rw[findBy_of_findIdx?]at f;cases hi:es.findIdx? λe=>e.key.isStr k with
 | none=>rw[hi]at f;exact Qq f
 | some i=>rw[hi]at f;exact Qp (wpAny_dictEntries h hd (Qq f))
variable {prog:Program}{w:World}{s:Shared} in
theorem ip{δ:Type}{R:δ->Value->Prop}{c:Heap}{a:Addr}{D:List (Str×δ)}{k:Str}{tk:Tok}:MeetsIn prog w (Builtin.«dict.get» ⟨[.ref a,.str k tk],[]⟩) (λ_ Z s=>(KTD.TabOf R c a D/\∀ b o,c.get? b=some o->s.heap.get? b=some o)/\(∀ d v,KTD.datumAt k D=some d->R d v->Z (.ok (.ret v)) {s with toks:=s.toks+1})/\(KTD.datumAt k D=none->Z (.ok (.ret .none)) {s with toks:=s.toks+1})):=
 .of_wp λA Z s⟨⟨T,e⟩,h1,h2⟩=>by
  show wpAny _ _ (dictGet a (.str k tk) >>=_) _ _ s;refine Qp (io T e (λd v f g=>Qq ⟨v,rfl,h1 d v f g⟩) λh=>?_);exact Qp (wpAny_missed_other T.1 (Qq ⟨.none,rfl,h2 h⟩))
noncomputable def EW(D:List (Str×List Str))(z:Str):W:=match KTD.datumAt z D with | some ss=>.tup (ss.map W.str)| none=>.non
noncomputable def Rb(D:List (Str×List Str))(gk:GE):GE:=λω G Q=>gk ω G λw G1=>match w with | .str z=>Q (EW D z) G1 | _=>False
theorem iq(h:La X.K X.mg X.base x D)(R:Gl X x)(hd:(x==("__debug__":Str))=false)(c:attributeBase (.Name x i) "get" X.env (eval (.Name x i) X.env)=eval (.Name x i) X.env)(g:((backTo cpos (starEach [e] X.env)).all (λx=>!x.1)&&(backToKw cpos (keywordEach [] X.env)).all (λx=>x.1.isSome)&&decide ([e].length+([]:List Keyword).length+(if([]:List Keyword).isEmpty then 0 else 1) < 30))=true)(a:(apos.endLine==cpos.line)=true)(hs:starEach [e] X.env=(false,eval e X.env)::starEach [] X.env)(hplain:(backTo cpos (starEach [] X.env)).any (·.1)=false)(f:Em X e n):
  Em X (.Call (.Attribute (.Name x i) "get" apos) [e] [] cpos) (Rb D n):=by
 refine⟨λpins s σ H Q I⟨ω,G,P,r,q⟩=>?_,λω G Q Q' S q=>f.m _ _ _ _ (λw G1 z=>by cases w <;> first | exact S _ _ z | exact z) q⟩;obtain⟨d,J,T⟩:=h
 have ty:∀{s:Shared},(∀ b o,X.base.get? b=some o->s.heap.get? b=some o)->s.TypeIs (.ref d) "dict":=λf=>by
  obtain⟨_,o,_,_,k,hc,_⟩:=T;exact⟨o,f _ _ k,hc.1⟩
 have nd:∀ b,Value.ref d=.ref b->∃ E,s.heap.get? b=some E/\E.dict=none:=λb e=>by
  injection e with e;subst e;obtain⟨_,o,_,_,k,hc,_⟩:=T;exact⟨o,I.bk _ _ k,hc.2.1⟩
 refine wpAny_Call_method_late c g a rfl (F7 I R J ⟨"dict","dict.get",PySem.F.plainAttrs_dict,PySem.F.slot_dict_get,PySem.F.type_dict_get,ty I.bk,nd,?_⟩ hd);have pa:=F9 f.p Hq hs
 have B:=pa cpos pins s σ H (λA H1=>∃ z,A=[.str z]/\∀ v,Tr X.K H1 v (EW D z)->Q v H1) I ⟨ω,G,P,r,f.m _ _ _ _ (λw G1 z v H1 m t r1=>by
  cases w with
  | str y=>exact⟨y,by rw[OK t],λv tv=>z v H1 m tv r1⟩
  | _=>exact z.elim) q⟩
 rw[hs]at B ⊢;refine Calls.callWith_builtin (by show(false||(backTo cpos (starEach [] X.env)).any (·.1))=false;rw[hplain] <;> rfl) (Calls.evalArgs_plain ?_);refine thn B λus s2 l=>?_;obtain⟨A,H2,j,O,z,L,q2⟩:=l;subst L;obtain⟨u,rfl,ru⟩:=Ce O;obtain⟨t,rfl⟩:=ru;refine call_meetsIn PySem.F.slot_dict_get (ty j.bk) PySem.F.entry_dict_get (PySem.F.args_dict_get_2 _ _) (ip) ⟨⟨T,j.bk⟩,λY v Z N=>?_,λhn=>?_⟩
 ·obtain⟨b,rfl,U⟩:=N;exact⟨.ref b,H2,j.tok _,rfl,q2 _ (by unfold EW;rw[Z];exact .tup (U H2) (QR H2 Y))⟩
 ·exact⟨.non,H2,j.tok _,rfl,q2 _ (by unfold EW;rw[hn];exact .non)⟩
end
noncomputable def Le(gs:GA):GI:=λω G R=>gs ω G λws G1=>∃ xs y ys,ws=[.tup xs,y]/\rdL G1 y=some ys/\R (Bm xs ys) (λG=>rdL G y=some ys) G1
theorem ir(m:gs.M):GI.M (Le gs):=λω G R d h q=>m _ _ _ _ ((by rintro b c ⟨xs,y,ys,e,a,z⟩;exact⟨xs,y,ys,e,a,h _ _ _ z⟩)) q
theorem iu(f:X.mg "zip"=none)(i:Gl X "zip")(hs:starEach [a,b] X.env=[(false,eval a X.env),(false,eval b X.env)])(e:starEach [b] X.env=[(false,eval b X.env)])(d:Am X [a,b] gs):
  Im X (.Tuple c k tpos) (.Call (.Name "zip" p) [a,b] [] pos) (Le gs):=
 K8 (K6 true false f i hs e d) (ir d.m) λω G R q=>d.m _ _ _ _ (by
  rintro j l ⟨xs,y,ys,rfl,g,z⟩;refine⟨_,y,xs,ys,rfl,rfl,g,?_⟩;rw[show(λG=>rdX true G (.tup xs)=some xs/\rdX false G y=some ys)=λG=>rdL G y=some ys from funext λ_=>propext ⟨λh=>h.2,λh=>⟨rfl,h⟩⟩];exact z) q
theorem iw{K:PySem.W.Frag}:DP K H1 (L2.Itr i n) ((List.range n).map λk:Nat=>W.int (i+k)) gd where
 go:=λj H G m r g hi=>by show j < n;simpa using hi
 yld:=λj H G x H' m r g y hi=>by
  obtain⟨e,ex⟩:=y;subst ex;have a:j < n:=by simpa using hi
  exact Gd r e ⟨.int (i+j),by simp[a],.int _⟩
 stop:=λH G m r g=>by show n<=_;simp
noncomputable def FD(gs:GA):GI:=λω G R=>gs ω G λws G1=>∃ i j:Int,ws=[.int i,.int j]/\(-(2 ^ 62)<=i/\i < 2 ^ 62/\-(2 ^ 62)<=j/\j < 2 ^ 62)/\R ((List.range (j - i).toNat).map λk:Nat=>W.int (i+k)) yes G1
theorem ix(m:gs.M):GI.M (FD gs):=λω G R d h q=>m _ _ _ _ (by rintro a c ⟨i,j,e,b,z⟩;exact⟨i,j,e,b,h _ _ _ z⟩) q
theorem iy(g:X.mg "range"=none)(h:Gl X "range")(hs:starEach [a,b] X.env=[(false,eval a X.env),(false,eval b X.env)])(e:starEach [b] X.env=[(false,eval b X.env)])(c:Am X [a,b] gs):Im X tg (.Call (.Name "range" p) [a,b] [] pos) (FD gs):=by
 refine⟨⟨_,X0 h g c.p hs e,λσ H ω G R s f r q k=>⟨ω,G,f,r,c.m _ _ _ _ (λl n z o H1 m t r1=>?_) q⟩⟩,ix c.m⟩;obtain⟨i,j,rfl,b,z⟩:=z;cases t with
 | cons tw t =>
  cases t with
  | cons d t =>
   cases t;cases tw;cases d;exact⟨_,_,rfl,b,k _ _ _ H1 _ z m r1 trivial iw⟩
theorem iz:CallR X (.type "dict") (λxs H Q=>∃(p:Addr)(kvs:List (Key×V)),xs=[.ref p]/\H p=some (.dK kvs)/\∀ l,H l=none->Q (.ref l) (upd H l (.dK kvs))):=by
 intro pins s σ H xs n Q I r h;obtain⟨p,kvs,rfl,m,q⟩:=h;obtain⟨u,rfl,j⟩:=Ce r;cases j;obtain⟨f,hd,c,a,g⟩:kvs.length<=sizeLine/\(p==sysModules)=false/\∃ c,KV kvs c/\s.heap.DictOf (A4 X.prog X.w) p c:=I.hok p _ m;have hl:=Paired.length a;refine kt_call_dict hd g (by lia) λh' i hs=>?_
 have d:sysModules < s.heap.objs.size:=by
  have h:mainGlobals < s.heap.objs.size:=(I.mod.glob.keeps I.bk).lt;exact Nat.lt_trans (by decide) h
 have k:Inv X pins σ (upd H s.heap.objs.size (.dK kvs)) {s with heap:=h'}:=
  I.laid (t':=s.toks) (λb u e=>(hs.2 b (Ys (Qs e))).trans (Qr _ e)) (Yr _) (show ObjOk X.prog X.w _ _ _ (.dK _)from⟨f,by simpa using Nat.ne_of_gt d,_,a,i⟩)
 exact⟨.ref s.heap.objs.size,_,k,rfl,q _ (I.hok.fresh (Yr _))⟩
noncomputable def Gn(ws:List W)(G:Hw)(Q:Kw):Prop:=∃(p:Addr)(kvs:List (Key×W)),ws=[.ref p]/\G p=some (.dct kvs)/\∀ l,G l=none->Q (.ref l) (put G l (.dct kvs))
theorem iA:RWc.M Gn:=λb G Q c h⟨p,a,h1,h2,q⟩=>⟨p,a,h1,h2,λl hl=>h _ _ (q l hl)⟩
theorem iB{K:PySem.W.Frag}:UpC K Gn (λxs H Q=>∃(p:Addr)(kvs:List (Key×V)),xs=[.ref p]/\H p=some (.dK kvs)/\∀ l,H l=none->Q (.ref l) (upd H l (.dK kvs))):=λe f G H Q t r q=>by
 obtain⟨p,kvs,rfl,b,q⟩:=q;cases t with
 | cons tw t =>
  cases t;cases tw;obtain⟨c,d,l⟩:=r p _ b;refine⟨p,c,rfl,d,λa hl=>?_⟩;exact q a (r.no hl) _ _ (Mono.new hl _) (.ref a) (RelH.laid r (Mono.new hl _) ⟨_,BJ,l.mono (Mono.new hl _)⟩)
theorem iC(_:X.calm=true):Blt X (.type "dict") Gn:=⟨⟨_,iz,iB⟩,iA⟩
section
variable {K:PySem.W.Frag}{H:Hp}
noncomputable def eqX:W->W->Option Bool
 | .int a,.bl b=>some (a==(if b then 1 else 0))
 | .bl a,.int b=>some ((if a then 1 else 0)==b)
 | .tup _,.int _|.int _,.tup _|.tup _,.bl _|.bl _,.tup _|.tup _,.str _|.str _,.tup _=>some false
 | _,_=>none
noncomputable def eqP(x y:W)(G:Hw):Option W:=match eqX x y with | some b=>some (.bl b)| none=>eqF false x y G
noncomputable def rPX(K:PySem.W.Frag):R2:=λv u H Q=>∃ x y b,Tr K H v x/\Tr K H u y/\eqX x y=some b/\Q (.bl b) H
theorem iD(n:X.A.units+100 < cLine):OpR X (compareOp .Eq) (rPX X.K):=by
 intro pins s σ H x y v u Q I k d h;obtain⟨o,p,c,m,ty,e,q⟩:=h;have a:EP X pins σ Q (.bool c) s:=⟨.bl c,H,I,rfl,q⟩;cases m with
 | int i =>
  obtain⟨t,rfl⟩:=k;cases ty with
  | bl b=>cases d;cases e;exact SeqAt.RcAt.int_bool _ _ _ _ _ _ _ a
  | tup g l=>cases d;cases e;obtain⟨f,r1,p1,_⟩:=I.tuple g;exact SeqAt.RcAt.int_tuple _ _ p1 (by lia) _ _ _ _ a
  | _=>cases e
 | bl b =>
  cases k;cases ty with
  | int j=>obtain⟨t,rfl⟩:=d;cases e;exact SeqAt.RcAt.bool_int _ _ _ _ _ _ _ a
  | tup g l=>cases d;cases e;obtain⟨f,r1,p1,_⟩:=I.tuple g;exact SeqAt.RcAt.bool_tuple _ p1 (by lia) _ _ _ _ a
  | _=>cases e
 | str b =>
  obtain⟨t,rfl⟩:=k;cases ty with
  | tup g l=>cases d;cases e;obtain⟨f,r1,p1,_⟩:=I.tuple g;exact SeqAt.RcAt.str_tuple _ _ p1 (by lia) _ _ _ _ a
  | _=>cases e
 | tup g l =>
  cases k;obtain⟨f,r1,p1,_⟩:=I.tuple g;cases ty with
  | int j=>obtain⟨t,rfl⟩:=d;cases e;exact SeqAt.RcAt.tuple_int _ _ p1 (by lia) _ _ _ _ a
  | str j=>obtain⟨t,rfl⟩:=d;cases e;exact SeqAt.RcAt.tuple_str _ _ p1 (by lia) _ _ _ _ a
  | bl j=>cases d;cases e;exact SeqAt.RcAt.tuple_bool _ p1 (by lia) _ _ _ _ a
  | _=>cases e
 | _=>cases e
theorem iE(x y:W)(v u:V)(G:Hw)(H:Hp)(Q:VK)(c:Tr K H v x)(ty:Tr K H u y)(r:RelH K H G)(q:Ae eqP x y G (dn K H Q)):rPX K v u H Q\/Ae (eqF false) x y G (dn K H Q):=by
 obtain⟨w,e,a⟩:=B6 q;unfold eqP at e;split at e
 ·rename_i b d;cases e;exact .inl ⟨x,y,b,c,ty,d,a _ H .refl (.bl _) r⟩
 ·right;unfold Ae;rw[e];exact a
theorem iF(b:X.A.units+100 < cLine):Cop X .Eq (Ae eqP):=⟨⟨_,OpR.or (iD b) (O9 b),λx y v u G H Q a ty r q=>(iE x y v u G H Q a ty r q).imp id λz=>KA false x y v u G H Q a ty r z⟩,CQ⟩
noncomputable def isT(x y:W)(_:Hw):Option W:=match x,y with | .bl a,.bl b=>some (.bl (a==b))| _,_=>none
theorem iG:OpR X (compareOp .Is) (λx y H Q=>∃ a b,x=.bl a/\y=.bl b/\Q (.bl (a==b)) H):=by
 intro pins s σ H x y v u Q I c d h;obtain⟨a,b,rfl,rfl,q⟩:=h;cases c;cases d;refine wpAny_is_plain (by cases a <;> cases b <;> rfl) (A5 I q ?_);cases a <;> cases b <;> rfl
theorem iH:Cop X .Is (Ae isT):=⟨⟨_,iG,λx y v u G H Q a ty r q=>by
 obtain⟨w,e,b⟩:=B6 q;cases a <;> first |(cases e;done)| skip
 cases ty <;> first |(cases e;done)| skip
 cases e;exact⟨_,_,rfl,rfl,b _ H .refl (.bl _) r⟩⟩,CQ⟩
end
section
variable {x y:Str}{js:List Nat}
theorem ec1(hc:X.calm=true)(b:scope.kind=.function)(c:∀ y∈scope.names,y.2≠.free/\y.2≠.cell)(f:∀ x∈scope.names,x.2=.local->scope.names.lookup x.1=some .local)(g:scope.names.lookup x=some .local)(hs:∀ x,foldedSetIterable iter X.env x=pure x)(hi:Im X (.Name x p) iter gi)(d:∀ C a s H,Fm (cxB X [x] scope [] C a s H) ifs gt)(e:∀ C a s H,Em (cxB X [x] scope [] C a s H) elt ge):Em X (.ListComp elt [⟨.Name x p,iter,ifs,0⟩] scope pos) (AM gi 1 (gNm 0) gt ge):=
 Pt (Nc:=[x]) hc (Ot b c f) hs hi (b6 (by simp) rfl g) d e
theorem ec2(hc:X.calm=true)(c:scope.kind=.function)(d:∀ y∈scope.names,y.2≠.free/\y.2≠.cell)(g:∀ x∈scope.names,x.2=.local->scope.names.lookup x.1=some .local)(i:scope.names.lookup x=some .local)(h:scope.names.lookup y=some .local)(b:[x,y].Nodup)(hs:∀ x,foldedSetIterable iter X.env x=pure x)(hi:Im X (.Tuple [.Name x p,.Name y p'] k tpos) iter gi)(e:∀ C a s H,Fm (cxB X [x,y] scope [] C a s H) ifs gt)(f:∀ C a s H,Em (cxB X [x,y] scope [] C a s H) elt ge):Em X (.ListComp elt [⟨.Tuple [.Name x p,.Name y p'] k tpos,iter,ifs,0⟩] scope pos) (AM gi 2 (AJ 0 1) gt ge):=
 Pt (Nc:=[x,y]) hc (Ot c d g) hs hi (b7 hc b rfl i rfl h) e f
noncomputable abbrev frN(N:List Str)(js:List Nat):List Str:=js.map λj=>(N[j]?).getD ""
noncomputable abbrev OcP(N:List Str)(sX sc:Scope)(js:List Nat)(own:List Str):Prop:=(sc.kind=.function/\sX.kind=.function)/\(∀ x∈sc.names,(x.2=.local->sc.names.lookup x.1=some .local)/\x.2≠.cell/\(x.2=.free->x.1∈frN N js))/\(∀ y∈frN N js,sc.names.lookup y=some .free/\sX.names.lookup y=some .cell)/\js.map (λj=>N[j]?)=(frN N js).map some/\(own++frN N js).Nodup/\∀ x∈own,sc.names.lookup x=some .local
theorem Lf(o:OcP X.N X.env.scope scope js own)(a:X.env.cells=cellsFrom n X.env.scope.names []):Blk X (own++frN X.N js) scope (BQ X.env scope.names []) (BG own.length js):=
 eI o.1.1 (λx h=>(o.2.1 x h).1) (λx h=>(o.2.1 x h).2.1) (λx h=>(o.2.1 x h).2.2) (λy h=>(o.2.2.1 y h).1) rfl o.1.2 a (λy h=>(o.2.2.1 y h).2) o.2.2.2.1
theorem eC1(hc:X.calm=true)(o:decide (OcP X.N X.env.scope scope js [x])=true)(a:X.env.cells=cellsFrom n X.env.scope.names [])(hs:∀ x,foldedSetIterable iter X.env x=pure x)(hi:Im X (.Name x p) iter gi)(c:∀ C b s H,Fm (cxB X ([x]++frN X.N js) scope (BQ X.env scope.names []) C b s H) ifs gt)(d:∀ C b s H,Em (cxB X ([x]++frN X.N js) scope (BQ X.env scope.names []) C b s H) elt ge):Em X (.ListComp elt [⟨.Name x p,iter,ifs,0⟩] scope pos) (Bd gi 1 js (gNm 0) gt ge):=
 have o:=Qm o
 PM hc (Lf (own:=[x]) o a) hs hi (PL o.2.2.2.2.1 rfl (o.2.2.2.2.2 x (.head _))) c d
theorem eC2(hc:X.calm=true)(o:decide (OcP X.N X.env.scope scope js [x,y])=true)(a:X.env.cells=cellsFrom n X.env.scope.names [])(hs:∀ x,foldedSetIterable iter X.env x=pure x)(hi:Im X (.Tuple [.Name x p,.Name y p'] k tpos) iter gi)(c:∀ C b s H,Fm (cxB X ([x,y]++frN X.N js) scope (BQ X.env scope.names []) C b s H) ifs gt)(d:∀ C b s H,Em (cxB X ([x,y]++frN X.N js) scope (BQ X.env scope.names []) C b s H) elt ge):Em X (.ListComp elt [⟨.Tuple [.Name x p,.Name y p'] k tpos,iter,ifs,0⟩] scope pos) (Bd gi 2 js (AJ 0 1) gt ge):=
 have o:=Qm o
 PM hc (Lf (own:=[x,y]) o a) hs hi (eJ hc o.2.2.2.2.1 rfl (o.2.2.2.2.2 x (.head _)) rfl (o.2.2.2.2.2 y (.tail _ (.head _)))) c d
theorem sC1(d:X.N.Nodup)(e:X.N[i]?=some z)(g:Fq X.env.scope z=true)(b:swapsWith (.ListComp elt [⟨.Name x p,iter,ifs,0⟩] scope pos) (some (.Name z pos')) a.line X.env=pure true)(hc:X.calm=true)(o:decide (OcP X.N X.env.scope scope js [x])=true)(c:X.env.cells=cellsFrom n X.env.scope.names [])(hs:∀ x,foldedSetIterable iter X.env x=pure x)(hi:Im X (.Name x p) iter gi)(h:∀ C f s H,Fm (cxB X ([x]++frN X.N js) scope (BQ X.env scope.names []) C f s H) ifs gt)(j:∀ C f s H,Em (cxB X ([x]++frN X.N js) scope (BQ X.env scope.names []) C f s H) elt ge):Sm X P (.Assign [.Name z pos'] (.ListComp elt [⟨.Name x p,iter,ifs,0⟩] scope pos) a) (Al i (Bd gi 1 js (gNm 0) gt ge)):=
 have o:=Qm o
 fg d e g b hc (Lf (own:=[x]) o c) hs hi (PL o.2.2.2.2.1 rfl (o.2.2.2.2.2 x (.head _))) h j
end
section
variable {α:Type}
theorem Bg:atI (x::xs) 0=some x:=CM (j:=0) (xs:=x::xs) rfl
theorem Bx:atI (x::y::xs) 1=some y:=CM (j:=1) (xs:=x::y::xs) rfl
theorem Cm:atI (x::y::z::xs) 2=some z:=CM (j:=2) (xs:=x::y::z::xs) rfl
end
theorem Ao:opt (some w) f=f w:=rfl
theorem AA(h:G p=none):Sub G (put G p o):=Sub.refl.put h
theorem Bh(s:Sub G a)(h:a p=none):Sub G (put a p o):=s.trans (AA h)
theorem HX:put (put G p o) p o'=put G p o':=by
 funext b;unfold put;split <;> rfl
theorem CJ(h:G p=some (.lst xs)):Cw G (.ref p)=some xs:=by unfold Cw;dsimp only;rw[h]
theorem HY(h:G p=some (.lst xs)):DU G (.ref p)=some xs:=by unfold DU;dsimp only;rw[h]
theorem FE(h:G p=some (.lst xs)):rdL G (.ref p)=some xs:=by unfold rdL;dsimp only;rw[h]
theorem Rc(h:G p=some (.lst xs)):B7 (.ref p) G=some (.int xs.length):=by unfold B7;dsimp only;rw[h]
theorem DZ(h:G p=some (.lst xs)):ixW (.ref p) (.int i) G=atI xs i:=by unfold ixW;dsimp only;rw[h]
theorem F6:∀ bs:List Bool,EJ (bs.map W.bl)=some bs
 | []=>rfl
 | b::bs=>by show(EJ (bs.map W.bl)).map (b::·)=_;rw[F6 bs];rfl
theorem Lg:∀ bs:List Int,DQ (bs.map W.int)=some bs
 | []=>rfl
 | b::bs=>by show(DQ (bs.map W.int)).map (b::·)=_;rw[Lg bs];rfl
theorem Re:∀ bs:List Str,Ft (bs.map W.str)=some (bs.map V.str)
 | []=>rfl
 | b::bs=>by show(HE (.str b)).bind (λv=>(Ft (bs.map W.str)).map (v::·))=_;rw[Re bs];rfl
theorem Rf(s:Str):∀ bs:List Str,inV (.str s) (bs.map V.str)=bs.any (·==s)
 | []=>rfl
 | b::bs=>by
  show(eqV (.str b) (.str s)||inV (.str s) (bs.map V.str))=_;rw[Rf s bs];rfl
theorem Cz(a:gd G):∀(b:List W)(o:Option W)(ys:List W),(∀ x∈b,∀ Q:Kw,Q (f x) G->ge [some x] G Q)->
  ys.length+b.length<=sizeLine->R (ys++b.map f) G->AU gd (gNm 0) AC ge R b [o] G ys
 | [],o,ys,_,_,r=>⟨a,by simpa using r⟩
 | x::b,o,ys,h,hl,r=>by
  refine⟨a,by simp only[Yg]at hl;lia,h x Ye _ (Cz a b (some x) (ys++[f x]) (λy c=>h y (Yd _ c)) ?_ ?_)⟩
  ·simp only[Yj,Yg,Yi]at hl ⊢;lia
  ·simpa[Yv]using r
theorem Gp{f:W->W->W}(a:gd G):∀(b:List (W×W))(o o':Option W)(ys:List W),(∀ x∈b,∀ Q:Kw,Q (f x.1 x.2) G->ge [some x.1,some x.2] G Q)->
  ys.length+b.length<=sizeLine->R (ys++b.map λx=>f x.1 x.2) G->AU gd (AJ 0 1) AC ge R (b.map λx=>W.tup [x.1,x.2]) [o,o'] G ys
 | [],o,o',ys,_,_,r=>⟨a,by simpa using r⟩
 | x::b,o,o',ys,h,hl,r=>by
  refine⟨a,by simp only[Yg]at hl;lia,h x Ye _ (Gp a b (some x.1) (some x.2) (ys++[f x.1 x.2]) (λy c=>h y (Yd _ c)) ?_ ?_)⟩
  ·simp only[Yj,Yg,Yi]at hl ⊢;lia
  ·simpa[Yv]using r
theorem HZ:∀(xs ys:List W),Bm xs ys=(xs.zip ys).map λx=>W.tup [x.1,x.2]
 | [],_|_::_,[]=>by simp[Bm]
 | x::xs,y::ys=>by simp[Bm,HZ xs ys]
noncomputable def spR{α:Type}(A:α->List W->Hw->Prop)(f:α->W):Spw:=λws G Q _=>∃ x,A x ws G/\Q (f x) G
theorem Bb{α:Type}{A:α->List W->Hw->Prop}{f:α->W}:Spw.M (spR A f):=(by rintro a G Q b E c h _ ⟨x,h1,q⟩;exact⟨x,h1,h _ _ q⟩)
noncomputable def spL{α:Type}(A:α->List W->Hw->Prop)(f:α->List W):Spw:=λws G Q _=>∃ x,A x ws G/\∀ p,G p=none->Q (.ref p) (put G p (.lst (f x)))
theorem BU{α:Type}{A:α->List W->Hw->Prop}{f:α->List W}:Spw.M (spL A f):=(by rintro b G Q c E d h _ ⟨x,h1,q⟩;exact⟨x,h1,λp a=>h _ _ (q p a)⟩)
theorem Dy{α:Type}(xs:List α):Bz xs (some 1) none=xs.drop 1:=by
 cases xs with
 | nil=>rfl
 | cons x xs =>
  show(xs.take ((xs.length+1) - 1))=xs;rw[Nat.add_sub_cancel,List.take_length]
theorem Gq{α:Type}(x:α)(xs:List α):¬ (HT.sIx (x::xs).length 0 (some 1)=0/\HT.sIx (x::xs).length (x::xs).length none=(x::xs).length):=by
 have e:HT.sIx (x::xs).length 0 (some 1)=min 1 (x::xs).length:=HT.sIx_nat (x::xs).length 0 1;intro h;have:=h.1;rw[e]at this;simp only[Yg]at this;lia
theorem iI{lo:Option Int}(h:G p=some (.lst xs))(q:∀ p1,G p1=none->Q (.ref p1) (put G p1 (.lst (Bz xs lo hi)))):slW (.ref p) lo hi G Q:=by
 unfold slW;dsimp only;rw[h];exact q
theorem A3{G:Hw}(h:G p=some o)(h':G q=none):p≠q:=by intro e;rw[e,h']at h;cases h
theorem AZ(h:n<=100000):n<=sizeLine:=Yt h (by decide)
theorem Bf(h:n<=100000):n < sizeLine:=YJ h (by decide)
theorem ok0{K:PySem.W.Frag}{st:Stmt}(F:Fun K x x st f fd)(S:Ay N ps (Ap st))(len:∀ c G Q E,sp c G Q E->c.length=ps.length)(i:∀{f:Addr}{d:Value}{A:Around}{outer:List Env}{s:Shared}{H:Hp}{E:XK},Room k (A.deeper (envOfC x (Ap st) s.heap.objs.size f d))->Ssm (cxW P w K mg base N x (Ap st) f d A outer s H E).nox (λB=>B=H) (B4 st) g)(ok:∀ c G(Q:Kw)(E:Addr->Hw->Prop),Kw.C Q->sp c G Q E->g (AH Q) (BO N c) G):FnOk P w K mg base (CXe P w) (k+1) f fd ps (Gc K sp):=by
 obtain⟨v,J,kV,u,pm,y,d,ct,o,rfl,lk,e⟩:=F.ex;refine Hr lk e S ((by rintro n H Q E ⟨c,G,t,r,q⟩;rw[t.length];exact len c G _ _ q)) λA outer s H n Q E j h=>?_;obtain⟨c,G,t,r,q⟩:=h;have D:=i (outer:=outer) (H:=H) (E:=E) j;exact⟨_,(D.p H rfl).nox,BO N c,G,Ko t,r,.refl,D.m _ _ (AH (dn K H Q)) _ (λa b z σ H2 m I l=>z _ H2 m Tr.non l) (λa b z=>z) (λa b z=>z.elim) (λa b z=>z.elim) (ok c G _ _ Kp q)⟩
noncomputable def Lh:Spw:=λws _ Q _=>∃ ns:List Int,ws=[.rol (ns.map W.int)]/\ns.length<=63/\∀ G',Q (.bl true) G'
theorem Rg{K:PySem.W.Frag}:∀ ns:List Int,TrL K H (ns.map V.int) (ns.map W.int)
 | []=>.nil
 | n::ns=>.cons (.int n) (Rg ns)
theorem iJ{K:PySem.W.Frag}{ns:List Int}(hl:ns.length<=63)(c:Hu H)(d:SqL K H a (ns.map V.int)):Gc K Lh [.ref a] H (λv _=>v=.bl true) (λ_ _ _=>False):=by
 have b:RoL K H a (ns.map V.int):=by
  rcases d with(h |⟨o,h⟩)| h
  ·rcases c a with z |⟨o,xs,z⟩
   ·rw[z]at h;cases h
   ·rw[z]at h;cases h
  ·exact .inl ⟨o,h⟩
  ·exact .inr h
 exact⟨[.rol (ns.map W.int)],λ_=>none,.cons (.rol b (Rg ns)) .nil,(λa o e=>by cases e),ns,rfl,hl,λf v H' m t r=>Fp t⟩
theorem iK(h:CXe P w [] H s (λ_ _ _=>False) e s'):False:=by
 obtain⟨_,_,_,_,_,q⟩:=h;exact q
section
variable {K:PySem.W.Frag}{h:Heap}{mg:Str->Option Value}(X:K.In h)(G:h.Ns mainGlobals mg)
include X G
theorem iL{st:Stmt}{h:Array (Option Value)}{kV:Value}(j:PySem.W.nsIn K mainGlobals x=some (some (.ref f)))(l:K.lookup f=some ⟨i,m,.func (PySem.W.fnOf x x (ED st) (B4 st) (Ap st) .none kV d pm e a ct),h⟩)(c:PySem.W.codeIn K a x=true)(k:PySem.W.keepIn K (.ref f)=true)(b:∀(kV d pm:Value)(e:Option Addr)(a ct:Value)(g:List Value),g.length=ps.length->bindArgs (PySem.W.fnOf x x (ED st) (B4 st) (Ap st) .none kV d pm e a ct) ⟨g,[]⟩=pure (ps.zip g)):Fn K mg st x ps :=
 ⟨f,_,PySem.W.mg_of X G j,Od l c k,(Od l c k).binds b⟩
theorem FG(e:PySem.W.nsIn K mainGlobals x=some (some (.int i t))):Glb K mg x (.int i):=⟨.int i,.int i t,PySem.W.mg_of X G e,⟨t,rfl⟩,λH=>.int i⟩
theorem iM{ts:List (Str×Tok)}{dd:Option Addr}(e:PySem.W.nsIn K mainGlobals x=some (some (.ref d)))(l:K.lookup d=some ⟨.type "tuple",none,.seq ((ts.map λp=>Value.str p.1 p.2).toArray) n,b⟩)(c:ts.length<=1000):
  Glb K mg x (.tup (ts.map λp=>.str p.1)):=by
 have g:∀ ts:List (Str×Tok),Vals (ts.map λp=>V.str p.1) (ts.map λp=>Value.str p.1 p.2):=λts=>by
  induction ts with
  | nil=>exact .nil
  | cons p ts a=>exact .cons ⟨p.2,rfl⟩ a
 have f:∀(H:Hp)(ts:List (Str×Tok)),TrL K H (ts.map λp=>V.str p.1) (ts.map λp=>W.str p.1):=λH ts=>by
  induction ts with
  | nil=>exact .nil
  | cons p ts a=>exact .cons (.str _) a
 refine⟨.ref d,.ref d,PySem.W.mg_of X G e,rfl,λH=>.tup (.inr ⟨_,_,n,l,rfl,rfl,rfl,?_,by simpa using g ts⟩) (f H ts)⟩;simp only[Yn,Yh];exact Yt c (by decide)
end
theorem iN{K:PySem.W.Frag}(X:K.In h)(G:h.Ns mainGlobals mg)(B:K.In base)(e:PySem.W.nsIn K mainGlobals x=some (some (.ref d)))(l:K.lookup d=some o)(hd:(d==sysModules)=false)(a:o.ExactDict)(b:o.data=.dict es ep)(c:KTD.Rows (KTD.Dat.At base) es.toList (D.map λp=>(p.1,KTD.Dat.flat (.int p.2)))):KO mg base x D :=
 ⟨d,PySem.W.mg_of X G e,hd,o,es,ep,B _ _ l,a,b,c⟩
theorem iO{l:PySem.W.OpenLaw}{K:Params->PySem.W.Frag}(i:Room k callerA)(m:l.most=some 63)(b:d.params.defaults=[])(n:∀(w:World)(h:Heap),YP w h->(K w.params).In h)(F:∀(w:World)(mg:Str->Option Value)(c:Addr)(h:Heap),(K w.params).In h->h.Ns mainGlobals mg->mg d.name=some (.ref c)->
   ∃ fd:FuncData,(∀(s:Shared)(u:Value),BindsTo s fd ⟨[u],[]⟩ [("script",u)])/\∀ base:Heap,(K w.params).In base->base.Ns mainGlobals mg->FnOk l.prog w (K w.params) mg base (CXe l.prog w) k c fd ["script"] (Gc (K w.params) Lh)):
  PySem.W.WalkO q loose XP YP l.row.toRowW d [] (λf vs=>PySem.call f vs):=
 L2.Z2 m (by decide) b i n F (λw H a ns hl g j=>iJ hl g j) λw H s e s' z=>iK z
theorem ln0{a:List Value}(h:a.length=0):a=[]:=Qg.mp h
theorem ln1{b:List Value}(h:b.length=n+1):∃ a r,b=a::r/\r.length=n:=by
 cases b with
 | nil=>cases h
 | cons a r=>exact⟨a,r,rfl,Nat.succ.inj h⟩
end L3
namespace KU
open PySem L2 L3
mutual
inductive Kd where
 | any | num | truth
 | to (a b:Kd)| box (a:Kd)| row (fs:Fs) (o:Bool)
inductive Fs where
 | nil | cons (n:Str) (m:Bool) (k:Kd) (r:Fs)
end
def Bc(m:Bool):Str:=if m then "must" else "may"
mutual
def Kd.enc:Kd->W
 | .any=>.tup [.str "any"]
 | .num=>.tup [.str "num"]
 | .truth=>.tup [.str "truth"]
 | .to a b=>.tup [.str "to",a.enc,b.enc]
 | .box a=>.tup [.str "box",a.enc]
 | .row fs o=>.tup [.str "row",.tup fs.enc,.bl o]
def Fs.enc:Fs->List W
 | .nil=>[]
 | .cons n m k r=>.tup [.str n,.str (Bc m),k.enc]::r.enc
end
noncomputable def Fs.kinds:Fs->List Kd
 | .nil=>[]
 | .cons _ _ k r=>k::r.kinds
noncomputable def Fs.names:Fs->List Str
 | .nil=>[]
 | .cons n _ _ r=>n::r.names
noncomputable def Kd.kids:Kd->List Kd
 | .to a b=>[a,b]
 | .box a=>[a]
 | .row fs _=>fs.kinds
 | _=>[]
mutual
def Kd.cnt:Kd->Nat
 | .to a b=>1+(a.cnt+b.cnt)
 | .box a=>1+a.cnt
 | .row fs _=>1+fs.cnt
 | _=>1
def Fs.cnt:Fs->Nat
 | .nil=>0
 | .cons _ _ k r=>k.cnt+r.cnt
end
mutual
def Kd.dp:Kd->Nat
 | .to a b=>1+max a.dp b.dp
 | .box a=>1+a.dp
 | .row fs _=>1+fs.dp
 | _=>1
def Fs.dp:Fs->Nat
 | .nil=>0
 | .cons _ _ k r=>max k.dp r.dp
end
mutual
def Kd.all:Kd->List Kd
 | .to a b=>.to a b::(a.all++b.all)
 | .box a=>.box a::a.all
 | .row fs o=>.row fs o::fs.all
 | .any=>[.any]
 | .num=>[.num]
 | .truth=>[.truth]
def Fs.all:Fs->List Kd
 | .nil=>[]
 | .cons _ _ k r=>k.all++r.all
end
def AX:List Kd->Nat
 | []=>0
 | k::r=>k.cnt+AX r
def dpL:List Kd->Nat
 | []=>0
 | k::r=>max k.dp (dpL r)
theorem Li:∀ fs:Fs,fs.cnt=AX fs.kinds
 | .nil=>rfl
 | .cons _ _ k r=>by show k.cnt+r.cnt=k.cnt+AX r.kinds;rw[Li r]
theorem Rh:∀ fs:Fs,fs.dp=dpL fs.kinds
 | .nil=>rfl
 | .cons _ _ k r=>by show max k.dp r.dp=max k.dp (dpL r.kinds);rw[Rh r]
theorem D1(k:Kd):k.cnt=1+AX k.kids:=by
 cases k with
 | to a b=>show 1+(a.cnt+b.cnt)=1+(a.cnt+(b.cnt+0));lia
 | box a=>show 1+a.cnt=1+(a.cnt+0);lia
 | row fs o=>show 1+fs.cnt=1+AX fs.kinds;rw[Li]
 | _=>rfl
theorem FH(k:Kd):k.dp=1+dpL k.kids:=by
 cases k with
 | to a b=>show 1+max a.dp b.dp=1+max a.dp (max b.dp 0);lia
 | box a=>show 1+a.dp=1+max a.dp 0;lia
 | row fs o=>show 1+fs.dp=1+dpL fs.kinds;rw[Rh]
 | _=>rfl
theorem Ri:∀(l m:List Kd),AX (l++m)=AX l+AX m
 | [],m=>by simp[AX]
 | k::l,m=>by show k.cnt+AX (l++m)=k.cnt+AX l+AX m;rw[Ri l m];lia
theorem Rj:∀(l m:List Kd),dpL (l++m)=max (dpL l) (dpL m)
 | [],m=>by simp[dpL]
 | k::l,m=>by show max k.dp (dpL (l++m))=max (max k.dp (dpL l)) (dpL m);rw[Rj l m];lia
theorem D2(k:Kd):1<=k.cnt:=by rw[D1];lia
theorem CV(k:Kd):1<=k.dp:=by rw[FH];lia
theorem Rk:∀ l:List Kd,AX l=l.length+AX (l.flatMap Kd.kids)
 | []=>rfl
 | k::l=>by
  show k.cnt+AX l=(l.length+1)+AX ((k::l).flatMap Kd.kids);rw[Qc,Ri,Rk l,D1 k];lia
theorem Rl:∀ l:List Kd,l≠[]->dpL l=1+dpL (l.flatMap Kd.kids)
 | [],h=>Qo rfl h
 | [k],_=>by
  show max k.dp 0=1+dpL ([k].flatMap Kd.kids);rw[Qc,List.flatMap_nil,Yx,FH];lia
 | k::a::l,_=>by
  have b:=Rl (a::l) (by simp);show max k.dp (dpL (a::l))=1+dpL ((k::a::l).flatMap Kd.kids);rw[Qc,Rj,b,FH k];lia
theorem H9:∀ l:List Kd,l.length<=AX l
 | []=>Yr _
 | k::l=>by have:=H9 l;have:=D2 k;show l.length+1<=k.cnt+AX l;lia
theorem Ia:∀{l:List Kd}{k:Kd},k∈l->k.cnt<=AX l
 | a::l,k,h=>by
  show k.cnt<=a.cnt+AX l;rcases Yo.mp h with rfl | h
  ·lia
  ·have:=Ia h;lia
theorem EK:∀{l:List Kd}{k:Kd},k∈l->k.dp<=dpL l
 | a::l,k,h=>by
  show k.dp<=max a.dp (dpL l);rcases Yo.mp h with rfl | h
  ·lia
  ·have:=EK h;lia
theorem D3{k:Kd}(h:c∈k.kids):c.dp+1<=k.dp:=by rw[FH k];have:=EK h;lia
theorem Rm{k:Kd}(h:c∈k.kids):c.cnt+1<=k.cnt:=by rw[D1 k];have:=Ia h;lia
theorem iP(k:Kd):k.kids.length+1<=k.cnt:=by rw[D1 k];have:=H9 k.kids;lia
theorem Lj:∀ fs:Fs,fs.enc.length=fs.kinds.length
 | .nil=>rfl
 | .cons _ _ k r=>by show r.enc.length+1=r.kinds.length+1;rw[Lj r]
def Kd.unk:Kd->Bool
 | .any=>true
 | .row _ o=>o
 | _=>false
def Kd.fb:Kd->Bool
 | .to _ _|.box _=>true
 | _=>false
def Kd.known(k:Kd):Bool:=!(k.all.any Kd.unk)
def Kd.data(k:Kd):Bool:=!(k.all.any Kd.fb)
noncomputable def Kd.hd:Kd->Str
 | .any=>"any"
 | .num=>"num"
 | .truth=>"truth"
 | .to _ _=>"to"
 | .box _=>"box"
 | .row _ _=>"row"
noncomputable def Kd.own:Kd->List Str
 | .row _ o=>if o then["row","open"]else["row"]
 | k=>[k.hd]
def Gr(z:Str):Bool:=!AW z "a"&&!AW "z" z
noncomputable def okN(n:Str):Bool:=decide (1<=n.length)&&decide (n.length<=8)&&n.cps.toList.all λc=>Gr ⟨#[c]⟩
def Nms:List Str:=["a","b","cc","w","x","y","zz"]
def AB(n:Str):Bool:=decide (n∈Nms)
theorem okn(h:AB n=true):okN n=true:=(by decide +kernel:∀ n∈Nms,okN n=true) n (Qm h)
noncomputable def A0:List Str->Bool
 | a::b::r=>AW a b&&A0 (b::r)
 | _=>true
mutual
def Kd.ok:Kd->Bool
 | .to a b=>a.ok&&b.ok
 | .box a=>a.ok
 | .row fs _=>A0 fs.names&&fs.ok
 | _=>true
def Fs.ok:Fs->Bool
 | .nil=>true
 | .cons n _ k r=>AB n&&k.ok&&r.ok
end
theorem Rn:∀{fs:Fs},fs.ok=true->∀ c∈fs.kinds,c.ok=true
 | .nil,_,c,hc=>by cases hc
 | .cons n m k r,h,c,hc=>by
  have h':(AB n&&k.ok&&r.ok)=true:=h;simp only [YF] at h';rcases Yo.mp hc with rfl | hc
  ·exact h'.1.2
  ·exact Rn h'.2 c hc
theorem Co{k:Kd}(h:k.ok=true):∀ c∈k.kids,c.ok=true:=by
 intro c hc;cases k with
 | to a b =>
  have h':(a.ok&&b.ok)=true:=h;simp only [YF] at h';have d:c=a\/c=b:=by simpa[Kd.kids]using hc
  rcases d with rfl | rfl
  ·exact h'.1
  ·exact h'.2
 | box a=>have d:c=a:=by simpa[Kd.kids]using hc
          subst d;exact h
 | row fs o =>
  have h':(A0 fs.names&&fs.ok)=true:=h;simp only [YF] at h';exact Rn h'.2 c hc
 | _=>cases hc
theorem BD(n:Bool)(i j:Int)(G:Hw):eqF n (.int i) (.int j) G=some (.bl ((i==j) != n)):=rfl
theorem Bi(n:Bool)(i j:Str)(G:Hw):eqF n (.str i) (.str j) G=some (.bl ((i==j) != n)):=rfl
theorem EX(n:Bool)(i j:Bool)(G:Hw):eqF n (.bl i) (.bl j) G=some (.bl ((i==j) != n)):=rfl
section
open PySem PySem.Spec PyProof.Rows L2 L3
abbrev Lk:Stmt:=top 20
abbrev Ll:Stmt:=top 21
abbrev Lm:Stmt:=top 19
abbrev Ln:Stmt:=top 18
abbrev Lo:Stmt:=top 17
abbrev Lp:Stmt:=top 16
abbrev Lq:Stmt:=top 15
abbrev Ib:Stmt:=top 14
abbrev Ic:Stmt:=top 13
abbrev Lr:Stmt:=top 12
abbrev Ls:Stmt:=top 9
abbrev Lu:Stmt:=top 10
abbrev Lv:Stmt:=top 11
abbrev Lw:Stmt:=top 25
abbrev Lx:Stmt:=top 24
abbrev Ly:Stmt:=top 23
abbrev Lz:Stmt:=top 33
abbrev LA:Stmt:=top 34
abbrev LC:Stmt:=top 37
abbrev LD:Stmt:=top 39
abbrev LF:Stmt:=top 38
abbrev LG:Stmt:=top 36
abbrev LH:Stmt:=top 35
abbrev LI:Stmt:=top 32
abbrev Gs:Stmt:=top 31
abbrev LJ:Stmt:=top 43
abbrev LK:Stmt:=top 44
abbrev LM:Stmt:=top 46
abbrev LN:Stmt:=top 47
abbrev LO:Stmt:=top 45
abbrev LP:Stmt:=top 41
abbrev LQ:Stmt:=top 42
abbrev LS:Stmt:=top 49
abbrev LU:Stmt:=top 50
abbrev LV:Stmt:=top 51
abbrev LW:Stmt:=top 56
abbrev LX:Stmt:=top 57
abbrev LY:Stmt:=top 58
abbrev LZ:Stmt:=top 59
abbrev L0:Stmt:=top 60
abbrev L1:Stmt:=top 61
abbrev L5:Stmt:=top 62
abbrev L6:Stmt:=top 63
abbrev L8:Stmt:=top 64
abbrev L9:Stmt:=top 65
abbrev Ma:Stmt:=top 66
abbrev Mb:Stmt:=top 67
abbrev Mc:Stmt:=top 52
abbrev Me:Stmt:=top 53
abbrev Mf:Stmt:=top 54
abbrev Mg:Stmt:=top 55
abbrev Mh:Stmt:=top 68
abbrev Mi:Stmt:=top 69
abbrev Mj:Stmt:=top 70
abbrev Mk:Stmt:=top 71
abbrev FI:Stmt:=top 72
noncomputable def Ro:List (Str×Int):=[("any",1),("num",1),("truth",1),("to",3),("box",2),("row",3)]
noncomputable def AT:List (Str×List Str):=[("num",["number"]),("truth",["truth"]),("name",["name"]),("fun",["name","kind","term"]),("call",["term","term"]),("rec",["fields"]),("get",["term","name"]),("or",["term","name","term"]),("if",["term","term","term"]),("plus",["term","term"]),("less",["term","term"]),("new",["term"]),("read",["term"]),("write",["term","term"]),("as",["term","kind"])]
structure Adr where
 CastError:Addr
 NoTerm:Addr
structure Fns(K:PySem.W.Frag)(mg:Str->Option Value):Prop where
 iQ:Fn K mg Lk "is_small_letter" ["sign"]
 iR:Fn K mg Ll "names_rise" ["names"]
 iS:Fn K mg Lm "is_name" ["thing"]
 iT:Fn K mg Ln "is_field" ["thing"]
 iU:Fn K mg Lo "are_fields" ["thing"]
 iV:Fn K mg Lp "has_form" ["thing"]
 iW:Fn K mg Lq "kinds_within" ["kind"]
 Rp:Fn K mg Ib "layer_within" ["layer","things_within"]
 Rq:Fn K mg Ic "is_made_of" ["thing","is_formed","things_within","most","deepest"]
 iX:Fn K mg Lr "is_kind" ["thing"]
 iY:Fn K mg Ls "entry_of" ["row","name"]
 iZ:Fn K mg Lu "names_of" ["row"]
 i0:Fn K mg Lv "names_of_both" ["one","other"]
 i1:Fn K mg Lw "is_less_entry" ["one","other"]
 i3:Fn K mg Lx "is_less_row" ["one","other"]
 Rr:Fn K mg Ly "is_less" ["one","other"]
 i4:Fn K mg Lz "form_of" ["word"]
 i5:Fn K mg LA "parts_of" ["term"]
 i6:Fn K mg LC "is_number" ["thing"]
 i7:Fn K mg LD "is_term_field" ["thing"]
 i8:Fn K mg LF "are_term_fields" ["thing"]
 i9:Fn K mg LG "is_of_sort" ["thing","sort"]
 jd:Fn K mg LH "has_term_form" ["thing"]
 ji:Fn K mg LI "is_term" ["thing"]
 jj:Fn K mg Gs "check_term" ["thing"]
 jl:Fn K mg LJ "told_by" ["term"]
 Rt:Fn K mg LK "all_told" ["term"]
 jq:Fn K mg LM "with_kind" ["term","kind"]
 ju:Fn K mg LN "with_parts" ["term","parts"]
 Ru:Fn K mg LO "without_kinds" ["term"]
 jx:Fn K mg LP "forgotten" ["term"]
 jy:Fn K mg LQ "less_term" ["one","other"]
 jA:Fn K mg LS "_law_state" ["script","k"]
 jE:Fn K mg LU "_law_take" ["state","many"]
 Rv:Fn K mg LV "_law_kind" ["state","deep"]
 Rw:Fn K mg LW "_law_least" ["state","want"]
 Rx:Fn K mg LX "_law_dim" ["state","kind"]
 jF:Fn K mg LY "_law_blur" ["state","part"]
 jL:Fn K mg LZ "_law_by_name" ["state","want","names","deep"]
 Ry:Fn K mg L0 "_law_term" ["state","want","names","deep"]
 jN:Fn K mg L1 "_law_any_first" ["state","want","names","deep"]
 jV:Fn K mg L5 "_law_around" ["state","want","names","deep"]
 jX:Fn K mg L6 "_law_parts" ["term"]
 Rz:Fn K mg L8 "_law_size" ["term"]
 j0:Fn K mg L9 "_law_drawn" ["state","want"]
 RA:Fn K mg Ma "_law_less_kinds" ["kind"]
 RB:Fn K mg Mb "_law_less_terms" ["term"]
 RC:Fn K mg Mc "_law_near" ["state","kind","deep"]
 j1:Fn K mg Me "_law_entries" ["kind","names"]
 j2:Fn K mg Mf "_law_names" ["one","other"]
 RD:Fn K mg Mg "_law_less" ["one","other"]
 RE:Fn K mg Mh "_law_less_term" ["one","other"]
 RF:Fn K mg Mi "_law_all_any" ["term"]
 RG:Fn K mg Mj "_law_other_name" ["term"]
 RH:Fn K mg Mk "_law_turned" ["state","term"]
 j4:Fn K mg FI "law" ["script"]
structure Bls(mg:Str->Option Value):Prop where
 j8:mg "all"=none
 j9:mg "bool"=none
 Ml:mg "dict"=none
 RI:mg "int"=none
 FJ:mg "isinstance"=none
 ka:mg "len"=none
 RJ:mg "list"=none
 ke:mg "max"=none
 RK:mg "range"=none
 Mm:mg "set"=none
 FK:mg "sorted"=none
 kf:mg "str"=none
 kg:mg "sum"=none
 RL:mg "tuple"=none
 Mn:mg "zip"=none
structure Tx(K:PySem.W.Frag)(mg:Str->Option Value)(base:Heap)(a:Adr):Prop extends Fns K mg,Bls mg where
 kh:mg "CastError"=some (.ref a.CastError)
 RM:mg "NoTerm"=some (.ref a.NoTerm)
 RN:PySem.W.excIn K a.NoTerm [.type "ValueError",.type "Exception",.type "BaseException",.type "object"] "ValueError.__new__"=true
 RO:Glb K mg "MARKS" (.tup [(.str "must"),(.str "may")])
 RP:Glb K mg "MOST_DEPTH" (.int 8)
 RQ:Glb K mg "MOST_KINDS" (.int 40)
 RS:Glb K mg "MOST_LETTERS" (.int 8)
 RT:Glb K mg "MOST_NUMBER" (.int 99999999999999999999)
 RU:Glb K mg "MOST_TERMS" (.int 40)
 RV:Glb K mg "MOST_TERM_DEPTH" (.int 10)
 RW:KO mg base "LENGTHS" Ro
 RX:La K mg base "FORMS" AT
noncomputable def Dn(P:Program)(w:World)(K:PySem.W.Frag)(mg:Str->Option Value)(base:Heap)(N:List Str)(x:Str)(st:Stmt)(k:Nat)(g:GS):Prop:=∀{f:Addr}{cdv:Value}{A:Around}{outer:List Env}{s:Shared}{H:Hp}{E:XK},Room k (A.deeper (envOfC x (Ap st) s.heap.objs.size f cdv))->Ssm (cxW P w K mg base N x (Ap st) f cdv A outer s H E).nox (λB=>B=H) (B4 st) g
theorem mk0{K:PySem.W.Frag}{st:Stmt}(Fx:Fn K mg st x ps)(c:ps.length=n)(S:Ay N ps (Ap st))(b:sp.M)(len:∀ a G Q E,sp a G Q E->a.length=n)(d:Dn P w K mg base N x st k g)(ok:∀ a G(Q:Kw)(E:Addr->Hw->Prop),Kw.C Q->sp a G Q E->g (AH Q) (BO N a) G):Df P w K mg base x (k+1) n sp:=L3.mk0 Fx c S b len d ok
local macro_rules | `(tactic| walk_at "s") => `(tactic| exact ⟨rfl, rfl, rfl, by decide +kernel, rfl, by decide +kernel, by decide +kernel⟩)
local macro_rules | `(tactic| walk_at "c") => `(tactic| first | exact dz hu | exact iF hu | exact dA hu | exact dB | exact cop_nin | exact dw | exact du | exact dy | exact dv | exact gO | exact cop_isn | exact gK hu | exact cop_nInT hu | exact cop_nInU hu | exact cop_isB | exact iH | exact cop_inN hu | exact cop_inK | exact cop_ninK | exact cop_inS)
local macro_rules | `(tactic| walk_at "b") => `(tactic| first | refine Fu eo (dI rfl) rfl T.j8 (by decide) rfl rfl rfl ?_ | refine Gi KM (fY rfl) rfl T.Ml (by decide) rfl rfl rfl ?_ | refine Gi Ps (dR) rfl T.RI (by decide) rfl rfl rfl ?_ | refine Fu ej (dH) rfl T.ka (by decide) rfl rfl rfl ?_ | refine Gi Pp (dN) rfl T.RJ (by decide) rfl rfl rfl ?_ | refine Fu et (dW rfl) rfl T.ke (by decide) rfl rfl rfl ?_ | refine Fu Q6 (blt_sorted) rfl T.FK (by decide) rfl rfl rfl ?_ | refine Fu er (dJ rfl) rfl T.kg (by decide) rfl rfl rfl ?_ | refine Gi Pr (dP) rfl T.RL (by decide) rfl rfl rfl ?_ | refine Gi KM (iC rfl) rfl T.Ml (by decide) rfl rfl rfl ?_ | refine Fu Q6 (ia rfl) rfl T.FK (by decide) rfl rfl rfl ?_ | refine Fw (T := "tuple") (by decide) Pr T.RL T.FJ rfl rfl (by decide) rfl rfl rfl ?_ | refine Fw (T := "list") (by decide) Pp T.RJ T.FJ rfl rfl (by decide) rfl rfl rfl ?_ | refine Fw (T := "str") (by decide) eu T.kf T.FJ rfl rfl (by decide) rfl rfl rfl ?_ | refine Fw (T := "int") (by decide) Ps T.RI T.FJ rfl rfl (by decide) rfl rfl rfl ?_ | refine Fw (T := "bool") (by decide) ez T.j9 T.FJ rfl rfl (by decide) rfl rfl rfl ?_ | refine Fw (T := "dict") (by decide) KM T.Ml T.FJ rfl rfl (by decide) rfl rfl rfl ?_ | refine fS rfl T.FK T.Mm rfl rfl rfl rfl rfl ?_ ?_ | refine eG T.RW rfl rfl rfl rfl rfl rfl rfl ?_ | refine KG dX rfl rfl rfl rfl rfl ?_ ?_ | refine KG dY rfl rfl rfl rfl rfl ?_ ?_ | refine KG fU rfl rfl rfl rfl rfl ?_ ?_ | exact EN T.RO rfl rfl | exact EN T.RP rfl rfl | exact EN T.RQ rfl rfl | exact EN T.RS rfl rfl | exact EN T.RT rfl rfl | exact EN T.RU rfl rfl | exact EN T.RV rfl rfl)
local macro_rules | `(tactic| walk_at "v") => `(tactic| (first | (show Am _ _ _; first | exact cA | refine cB rfl ?_ ?_) | (show Em _ _ _; first | exact eA rfl rfl rfl rfl | exact cc | exact cg | refine cq (fun _ _ => rfl) ?_ ?_ | refine OW (by assumption) (hr.mono (by assumption)) rfl Pu rfl rfl rfl ?_ | refine cr ?_ | refine cu ?_ | exact ce | refine dD (by walk_at "c") rfl ?_ ?_ | refine eT ?_ ?_ | refine cj ?_ ?_ | refine cn ?_ ?_ | refine ck ?_ ?_ | refine e7 ?_ ?_ | refine cm ?_ ?_ | refine cp ?_ ?_ | walk_at "b" | exact cf | refine cz ?_ ?_ ?_ | refine cx ?_ ?_ | refine cy ?_ ?_ | refine cw ?_ | refine em_not ?_ | refine ci ?_ ?_ | refine eX ?_ ?_ ?_ | refine dr ?_ ?_ ?_ | refine dF (by walk_at "c") (by walk_at "c") rfl ?_ ?_ ?_ | refine gY (fun _ _ => rfl) ?_ ?_ | exact hO | refine em_sortI rfl T.FK rfl rfl rfl rfl ?_ | refine em_sortUD rfl T.FK T.Mm rfl rfl rfl rfl rfl ?_ ?_ | refine ec1 rfl rfl (by decide +kernel) (by decide +kernel) rfl (fun _ => rfl) ?_ (fun _ _ _ _ => ?_) (fun _ _ _ _ => ?_) | refine ec2 rfl rfl (by decide +kernel) (by decide +kernel) rfl rfl (by decide) (fun _ => rfl) ?_ (fun _ _ _ _ => ?_) (fun _ _ _ _ => ?_) | refine eC1 (n := s.heap.objs.size + 1) rfl (by kernel_rfl) rfl (fun _ => rfl) ?_ (fun _ _ _ _ => ?_) (fun _ _ _ _ => ?_) | refine eC2 (n := s.heap.objs.size + 1) rfl (by kernel_rfl) rfl (fun _ => rfl) ?_ (fun _ _ _ _ => ?_) (fun _ _ _ _ => ?_) | refine eC3 (n := s.heap.objs.size + 1) rfl (by kernel_rfl) rfl (fun _ => rfl) ?_ (fun _ _ _ _ => ?_) (fun _ _ _ _ => ?_) | refine fm (by assumption) (hr.mono (by assumption)) rfl rfl Pu rfl rfl rfl rfl ?_ | exact fq (by assumption) rfl rfl | refine hV ?_ | refine im (by rfl) (by intro h; cases h) (Nat.le_of_ble_eq_true rfl) (by decide) ?_ | refine gU ?_ ?_ ?_ ?_ | refine f6 rfl T.FK T.Mm rfl rfl rfl rfl ?_ | refine iq T.RX rfl rfl rfl rfl rfl rfl rfl ?_) | (show Tm _ _ _; first | refine dE (by walk_at "c") rfl ?_ ?_ | refine OY ?_ | refine cC ?_ | refine OX (fun _ => rfl) ?_ | refine dG (by walk_at "c") (by walk_at "c") rfl ?_ ?_ ?_) | (show Ssm _ _ _ _; first | refine cI ?_ ?_ | exact OZ | refine Kx ?_) | (show Sm _ _ _ _; first | refine cJ ?_ | refine eB hN rfl rfl rfl ?_ | refine O0 ?_ ?_ ?_ | refine cK rfl ?_ | refine cM PassesOwn.never rfl (fun _ => rfl) ?_ ?_ ?_ | refine c9 PassesOwn.never ?_ ?_ | refine eD hN rfl rfl ?_ | refine dj (fun _ => rfl) rfl rfl rfl ?_ ?_ ?_ | refine hW rfl rfl rfl ?_ ?_ | refine eN hN rfl rfl rfl rfl ?_ | exact sm_pass | exact sm_never | refine hI (fun _ => rfl) rfl rfl rfl ?_ ?_ ?_ | refine sC1 (n := s.heap.objs.size + 1) hN rfl rfl rfl rfl (by kernel_rfl) rfl (fun _ => rfl) ?_ (fun _ _ _ _ => ?_) (fun _ _ _ _ => ?_)) | (show Wm _ _ _; first | refine cG ?_ ?_ | refine cH ?_ ?_ | refine cD ?_ | refine cE ?_) | (show Im _ _ _ _; first | refine ff ?_ | refine cL (fun _ _ => rfl) ?_ | refine eh T.RK rfl rfl ?_ | refine gF T.Mn rfl rfl rfl ?_ | refine gH T.Mn rfl rfl rfl ?_ | refine iu T.Mn rfl rfl rfl ?_ | refine iy T.RK rfl rfl rfl ?_) | (show Pm _ _ _ _ _ _; first | refine ik ?_ ?_ | exact ij) | (show Om _ _ _; first | exact dk | refine dq ?_) | (show Fm _ _ _; first | exact eE | refine eF ?_) | exact ON hN rfl (.inl rfl) (.inr rfl) | exact eO rfl hN rfl (.inl rfl) (.inr rfl) rfl (.inl rfl) (.inr rfl) rfl (.inl rfl) (.inr rfl) | exact OO rfl hN rfl (.inl rfl) (.inr rfl) rfl (.inl rfl) (.inr rfl) | exact OO rfl hN rfl (.inr rfl) (.inl rfl) rfl (.inl rfl) (.inr rfl) | exact ON hN rfl (.inr rfl) (.inl rfl)) <;> walk_at "v")
local macro_rules | `(tactic| walk_at "z") => `(tactic| (intro f cdv A outer s H E hr; have hu := KN hr; walk_at "v"))
section
variable {w:World}{K:PySem.W.Frag}{mg:Str->Option Value}{a:Adr}
abbrev RY:List Str:=["sign"]
theorem RZ:Ay RY ["sign"] (Ap Lk):=by walk_at "s"
abbrev ef:=Ab 0
noncomputable def R1:GS:=(Ai (Cj (Ba (λi j=>decide (i<=j)) (λa b=>!AW b a)) (Ba (λi j=>decide (i<=j)) (λa b=>!AW b a)) (gC (.str "a")) ef (gC (.str "z"))))
theorem ki(T:Tx K mg base a):Dn P w K mg base RY "is_small_letter" Lk k (R1):=by
 have hN:=RZ.nd;walk_at "z"
abbrev R3:List Str:=["names"]
theorem R4:Ay R3 ["names"] (Ap Ll):=by walk_at "s"
abbrev f4:=Ab 1
abbrev dl:=gC (.int 1)
noncomputable def R5:GS:=(Ai (gB (rF Be) (Aa (AM (B8 (Aa ef (Aa (gSl ef (Av dl) Au) Ac))) 2 (AJ 0 1) AC (Ad (Ba (λi j=>decide (i < j)) AW) ef f4)) Ac)))
theorem kj(T:Tx K mg base a):Dn P w K mg base R3 "names_rise" Ll k (R5):=by
 have hN:=R4.nd;walk_at "z"
abbrev R6:List Str:=["thing"]
theorem R7:Ay R6 ["thing"] (Ap Lm):=by walk_at "s"
abbrev ln:=Aa ef Ac
abbrev rR:=gB (rF AK) ln
abbrev le:=Ai (gC (.bl false))
noncomputable def R8(Ie:Spw):GS:=(Af (gIf (gOr (gNt (AI (AR "str" ef))) (gNt (gTB (Cj (Ba (λi j=>decide (i<=j)) (λa b=>!AW b a)) (Ba (λi j=>decide (i<=j)) (λa b=>!AW b a)) dl rR (gC (.int 8)))))) le Aj) (Ai (gB (rF Be) (Aa (AM (Ax ef) 1 (gNm 0) AC (Ag Ie XF ln)) Ac))))
theorem kl(T:Tx K mg base a)(pE:Df P w K mg base "is_small_letter" Ig 1 Ie)(pF:Ig<=k):Dn P w K mg base R6 "is_name" Lm k (R8 Ie):=by
 have hN:=R7.nd;walk_at "z"
abbrev R9:List Str:=["thing"]
theorem Sa:Ay R9 ["thing"] (Ap Ln):=by walk_at "s"
abbrev ad:=Ad (Ae ixW) (Ab 0) (gC (.int 0))
abbrev sM:=Aa ad Ac
abbrev rV:=AI (AR "tuple" ef)
abbrev rT:=gC (.int 3)
abbrev hH:=Ad (Ae ixW) ef dl
noncomputable def Sb(B9:Spw):GS:=(Af (gIf (gOr (gNt rV) (gTB (Ad (Ae (eqF true)) rR rT))) le Aj) (Ai (Bu (Ag B9 XF sM) (Ad (Ae (inF false)) hH (gC (.tup [(.str "must"),(.str "may")]))))))
theorem km(T:Tx K mg base a)(Sd:Df P w K mg base "is_name" CA 1 B9)(Se:CA<=k):Dn P w K mg base R9 "is_field" Ln k (Sb B9):=by
 have hN:=Sa.nd;walk_at "z"
abbrev Sf:List Str:=["thing"]
theorem Sg:Ay Sf ["thing"] (Ap Lo):=by walk_at "s"
noncomputable def Sh(Ih:Spw)(Dz:Spw):GS:=(Af (gIf (gNt rV) le Aj) (Ai (Bu (gB (rF Be) (Aa (AM (Ax ef) 1 (gNm 0) AC (Ag Ih XF ln)) Ac)) (Ag Dz XF (Aa (AM (Ax ef) 1 (gNm 0) AC ad) Ac)))))
theorem kn(T:Tx K mg base a)(pG:Df P w K mg base "is_field" Ii 1 Ih)(pH:Ii<=k)(ko:Df P w K mg base "names_rise" D4 1 Dz)(kq:D4<=k):Dn P w K mg base Sf "are_fields" Lo k (Sh Ih Dz):=by
 have hN:=Sg.nd;walk_at "z"
local macro_rules | `(tactic| walk_at "rd") => `(tactic| ((try dsimp only [Af,gIf,Ai,Al,AD,Aj,Ab,gC,Ad,gTB,AI,gNt,AF,gOr,Bu,CO,By,Ah,An,Aa,Ac,Ag,gB,rF,Ae,AR,gMt,BP,Cj,Ba,AV,Ar,L3.BB,BY,gSl,Av,Au,AM,Ax,B8,AH,BO,List.map_cons,List.map_nil,List.length_cons,List.length_nil,List.cons_append,List.nil_append,List.getElem?_cons_zero,List.getElem?_cons_succ,List.set_cons_zero,List.set_cons_succ,List.replicate,B5,tyN,Ao,Bg,Bx,Cm,ixW,BD,Bi,EX,AK,B7,Be,List.getElem?_nil]); (try simp only [Af,gIf,Ai,Al,AD,Aj,Ab,gC,Ad,gTB,AI,gNt,AF,gOr,Bu,CO,By,Ah,An,Aa,Ac,Ag,gB,rF,Ae,AR,gMt,BP,Cj,Ba,AV,Ar,L3.BB,BY,gSl,Av,Au,AM,Ax,B8,AH,BO,List.map_cons,List.map_nil,List.length_cons,List.length_nil,List.cons_append,List.nil_append,List.getElem?_cons_zero,List.getElem?_cons_succ,List.set_cons_zero,List.set_cons_succ,List.replicate,B5,tyN,Ao,Bg,Bx,Cm,ixW,BD,Bi,EX,AK,B7,Be,List.getElem?_nil])))
noncomputable abbrev kr:Spw:=spR (λ(z:Str)ws _=>ws=[.str z]) λz=>.bl (Gr z)
theorem Ig(T:Tx K mg base a):Df P w K mg base "is_small_letter" 1 1 kr:=by
 refine mk0 T.iQ rfl RZ Bb ((by rintro b G Q E ⟨z,e,_⟩;rw[e];rfl)) (ki T) λb G Q E c q=>?_;obtain⟨z,rfl,q⟩:=q;unfold R1;walk_at "rd";dsimp only at q;unfold Gr at q;refine Bk (fun h=>?_) (fun h=>?_)
 ·rw[h]at q;simpa using q
 ·rw[Bool.eq_false_iff.mpr h]at q;simpa using q
theorem Si:∀ ns:List Str,A0 ns=((ns.zip (ns.drop 1)).map λx=>AW x.1 x.2).all id
 | []|[_]=>rfl
 | a::b::r=>by
  show(AW a b&&A0 (b::r))=_;rw[Si (b::r)];rfl
noncomputable abbrev kt:Spw:=spR (λ(ns:List Str)ws G=>∃ p,ws=[.ref p]/\G p=some (.lst (ns.map W.str))/\ns.length<=1000) λns=>.bl (A0 ns)
noncomputable def ltW(x y:W):W:=match x,y with | .str a,.str b=>.bl (AW a b)| _,_=>.non
theorem D4(T:Tx K mg base a):Df P w K mg base "names_rise" 1 1 kt:=by
 refine mk0 T.iR rfl R4 Bb ((by rintro h G Q E ⟨ns,⟨p,e,_⟩,_⟩;rw[e];rfl)) (kj T) λh G Q E k q=>?_;obtain⟨ns,⟨p,rfl,g,hl⟩,q⟩:=q;unfold R5;walk_at "rd";refine iI g λp1 h1=>?_;have b:=A3 g h1;have c:rdL (put G p1 (.lst (Bz (ns.map W.str) (some 1) none))) (.ref p)=some (ns.map W.str):=FE (by rw[Az b];exact g);have d:rdL (put G p1 (.lst (Bz (ns.map W.str) (some 1) none))) (.ref p1)=some (Bz (ns.map W.str) (some 1) none):=FE Ak;simp only[c,d];rw[Dy,<- List.map_drop,HZ,List.zip_map,YB];have l:((λx:W×W=>W.tup [x.1,x.2])∘Prod.map W.str W.str)=(λx:W×W=>W.tup [x.1,x.2])∘λx:Str×Str=>(W.str x.1,W.str x.2):=rfl;rw[l,<- YB];refine Gp (f:=ltW) ⟨by rw[Dy,<- List.map_drop]at c;exact c,by rw[Dy,<- List.map_drop]at d;exact d⟩ _ none none [] (λx m n i=>?_) ?_ ?_
 ·obtain⟨y,o,rfl⟩:=YC.mp m;exact i
 ·rw[Yh,List.length_zip];exact AZ (by simp only[Yi];lia)
 ·intro p2 h2;rw[YB];have j:((λx:W×W=>ltW x.1 x.2)∘λx:Str×Str=>(W.str x.1,W.str x.2))=W.bl∘λx:Str×Str=>AW x.1 x.2:=rfl;rw[j,<- YB,Yw];simp only [CJ Ak,Option.bind_some,F6,YD];rw[<- Si];exact k _ _ _ (Bh (AA h1) h2) q
noncomputable abbrev ku:Spw:=spR (λ(z:Str)ws _=>ws=[.str z]/\z.length<=100000) λz=>.bl (okN z)
def Sj(x:W):W:=match x with | .str z=>.bl (Gr z)| _=>.non
theorem CA(T:Tx K mg base a):Df P w K mg base "is_name" 2 1 ku:=by
 refine mk0 T.iS rfl R7 Bb ((by rintro j G Q E ⟨z,⟨e,_⟩,_⟩;rw[e];rfl)) (kl T (Ig T) (Yr _)) λj G Q E l q=>?_;obtain⟨z,⟨rfl,i⟩,q⟩:=q;unfold R8;walk_at "rd";have d:=AZ i;have s:Dx "str" "str"=true:=by decide
 simp only[d,if_true,Ao];unfold okN at q;by_cases h1:1<=z.length
 ·by_cases h:z.length<=8
  ·have b:(1:Int)<=(z.length:Int):=by lia
   have g:(z.length:Int)<=8:=by lia
   simp only[b,g];refine Cz (f:=Sj) trivial (EI z) none [] (λx m r k=>?_) ?_ ?_
   ·obtain⟨c,hc,rfl⟩:=YC.mp m;exact⟨_,rfl,k⟩
   ·rw[EI];exact AZ (by simpa[Str.length]using i)
   ·intro p n
    have o:(EI z).map Sj=(z.cps.toList.map λc=>Gr ⟨#[c]⟩).map W.bl:=by
     unfold EI;rw[YB,YB];rfl
    rw[Yw,o];simp only [CJ Ak,Option.bind_some,F6,YD];rw[List.all_map];simp only[h1,h]at q;exact l _ _ _ (AA n) q
  ·have b:(1:Int)<=(z.length:Int):=by lia
   have g:¬ (z.length:Int)<=8:=by lia
   simp only[h1,h]at q;simp only[b,g];exact q
 ·have b:¬ (1:Int)<=(z.length:Int):=by lia
  simp only[h1]at q;simp only[b];exact q
abbrev Sk:List Str:=["thing"]
theorem Sl:Ay Sk ["thing"] (Ap Lp):=by walk_at "s"
abbrev rQ:=gC (.str "row")
abbrev h8:=gC (.int 2)
abbrev rL:=Ad (Ae ixW) ef h8
abbrev eq:=gC (.int 0)
noncomputable def kx(Ij:Spw):GS:=(Af (gIf (gOr (gNt rV) (gOr (gTB (Ad (Ae (eqF false)) rR eq)) (gNt (AI (AR "str" ad))))) le Aj) (Af (gIf (gTB (Ad (Ae (eqF true)) rR (Fy Ro ad))) le Aj) (Ai (CO (Ad (Ae (eqF true)) ad rQ) (Bu (Ag Ij XF (Aa hH Ac)) (AR "bool" rL))))))
theorem ky(T:Tx K mg base a)(pI:Df P w K mg base "are_fields" Ik 1 Ij)(pJ:Ik<=k):Dn P w K mg base Sk "has_form" Lp k (kx Ij):=by
 have hN:=Sl.nd;walk_at "z"
abbrev Sn:List Str:=["kind"]
theorem So:Ay Sn ["kind"] (Ap Lq):=by walk_at "s"
abbrev sO:=gTB (Ad (Ae (eqF false)) ad rQ)
noncomputable def kz:GS:=(Af (gIf sO (Ai (AM (Ax hH) 1 (gNm 0) AC rL)) Aj) (Ai (gB (Fv) (Aa (gSl ef (Av dl) Au) Ac))))
theorem kA(T:Tx K mg base a):Dn P w K mg base Sn "kinds_within" Lq k (kz):=by
 have hN:=So.nd;walk_at "z"
noncomputable abbrev Mo:List Str:=["layer","things_within","found","thing"]
theorem Il:Ay Mo ["layer","things_within"] (Ap Ib):=by walk_at "s"
abbrev rK:=Aa (Ab 3) Ac
abbrev kw:=Ab 2
noncomputable def Sq(mg:Str->Option Value)(D5:Spw):GS:=(Af (Al 2 (An Ac)) (Af (AN (Ax ef) (gNm 3) (AD (gMt AQ Cy kw (Aa (CU 1 (fAt mg "kinds_within") D5 XF rK) Ac)))) (Ai kw)))
theorem kB(T:Tx K mg base a)(kC:Df P w K mg base "kinds_within" D6 1 D5)(kD:D6<=k):Dn P w K mg base Mo "layer_within" Ib k (Sq mg D5):=by
 have hN:=Il.nd;walk_at "z"
noncomputable abbrev Mp:List Str:=["thing","is_formed","things_within","most","deepest","layer","count","depth"]
theorem Io:Ay Mp ["thing","is_formed","things_within","most","deepest"] (Ap Ic):=by walk_at "s"
abbrev sG:=Ab 5
abbrev sF:=Ab 6
abbrev sm:=Ab 3
abbrev se:=Ab 4
abbrev sd:=Aa (Ab 5) Ac
abbrev rY:=gC (.bl true)
abbrev rM:=Aa kw Ac
noncomputable def Sr(mg:Str->Option Value)(D7:Spw)(DA:Spw):GS:=(Af (Al 5 (An ln)) (Af (Al 6 eq) (Af (Al 7 eq) (Af (Gh (gTB (Ad (AV λi j=>decide (j < i)) (gB (rF AK) sd) eq)) (Af (BP 6 BY (gB (rF AK) sd)) (Af (BP 7 BY dl) (Af (gIf (gOr (gTB (Ad (AV λi j=>decide (j < i)) sF sm)) (gTB (Ad (AV λi j=>decide (j < i)) (Ab 7) se))) le Aj) (Af (gIf (gNt (AI (gB (rF Be) (Aa (Bd (Ax sG) 1 [1] (gNm 0) AC (CU 1 (fAt mg "has_form") D7 XF ln)) Ac)))) le Aj) (Al 5 (Ag DA XF (Aa sG rM)))))))) (Ai rY)))))
theorem kE(T:Tx K mg base a)(kF:Df P w K mg base "has_form" D8 1 D7)(kG:D8<=k)(kH:Df P w K mg base "layer_within" EY 2 DA)(kI:EY<=k):Dn P w K mg base Mp "is_made_of" Ic k (Sr mg D7 DA):=by
 have hN:=Io.nd;walk_at "z"
abbrev Ss:List Str:=["thing"]
theorem Su:Ay Ss ["thing"] (Ap Lr):=by walk_at "s"
abbrev sS:=gC (.int 40)
noncomputable def kJ(mg:Str->Option Value)(D7:Spw)(D5:Spw)(DB:Spw):GS:=(Ai (Ag DB XF (Aa ef (Aa (gC (.ref (fAt mg "has_form"))) (Aa (gC (.ref (fAt mg "kinds_within"))) (Aa sS (Aa (gC (.int 8)) Ac)))))))
theorem kK(T:Tx K mg base a)(kF:Df P w K mg base "has_form" D8 1 D7)(kG:D8<=k)(kC:Df P w K mg base "kinds_within" D6 1 D5)(kD:D6<=k)(kL:Df P w K mg base "is_made_of" EZ 5 DB)(kM:EZ<=k):Dn P w K mg base Ss "is_kind" Lr k (kJ mg D7 D5 DB):=by
 have hN:=Su.nd;walk_at "z"
noncomputable def Sv(mg:Str->Option Value)(BL:Spw):GS:=(Af (Al 2 (An Ac)) (Af (AN (Ax ef) (gNm 3) (AD (gMt AQ Cy kw (Aa (CU 1 (fAt mg "parts_of") BL XF rK) Ac)))) (Ai kw)))
theorem kN(T:Tx K mg base a)(Mq:Df P w K mg base "parts_of" BV 1 BL)(Mr:BV<=k):Dn P w K mg base Mo "layer_within" Ib k (Sv mg BL):=by
 have hN:=Il.nd;walk_at "z"
noncomputable def Sx(mg:Str->Option Value)(D9:Spw)(DA:Spw):GS:=(Af (Al 5 (An ln)) (Af (Al 6 eq) (Af (Al 7 eq) (Af (Gh (gTB (Ad (AV λi j=>decide (j < i)) (gB (rF AK) sd) eq)) (Af (BP 6 BY (gB (rF AK) sd)) (Af (BP 7 BY dl) (Af (gIf (gOr (gTB (Ad (AV λi j=>decide (j < i)) sF sm)) (gTB (Ad (AV λi j=>decide (j < i)) (Ab 7) se))) le Aj) (Af (gIf (gNt (AI (gB (rF Be) (Aa (Bd (Ax sG) 1 [1] (gNm 0) AC (CU 1 (fAt mg "has_term_form") D9 XF ln)) Ac)))) le Aj) (Al 5 (Ag DA XF (Aa sG rM)))))))) (Ai rY)))))
theorem kO(T:Tx K mg base a)(kP:Df P w K mg base "has_term_form" Ea 1 D9)(kQ:Ea<=k)(kH:Df P w K mg base "layer_within" EY 2 DA)(kI:EY<=k):Dn P w K mg base Mp "is_made_of" Ic k (Sx mg D9 DA):=by
 have hN:=Io.nd;walk_at "z"
local macro_rules | `(tactic| walk_at "rd") => `(tactic| ((try dsimp only [Af,gIf,Ai,Al,AD,Aj,Ab,gC,Ad,gTB,AI,gNt,AF,gOr,Bu,CO,By,Ah,An,Aa,Ac,Ag,gB,rF,Ae,AR,gMt,BP,EL,Cj,Ba,AV,Ar,L3.BB,BY,gSl,Av,Au,AM,Ax,B8,Dd,AN,Fy,Ci,AH,BO,List.map_cons,List.map_nil,List.length_cons,List.length_nil,List.cons_append,List.nil_append,List.getElem?_cons_zero,List.getElem?_cons_succ,List.set_cons_zero,List.set_cons_succ,List.replicate,B5,tyN,Ao,Bg,Bx,Cm,ixW,BD,Bi,EX,AK,B7,Be,Bv,CS,List.getElem?_nil]); (try simp only [Af,gIf,Ai,Al,AD,Aj,Ab,gC,Ad,gTB,AI,gNt,AF,gOr,Bu,CO,By,Ah,An,Aa,Ac,Ag,gB,rF,Ae,AR,gMt,BP,EL,Cj,Ba,AV,Ar,L3.BB,BY,gSl,Av,Au,AM,Ax,B8,Dd,AN,Fy,Ci,AH,BO,List.map_cons,List.map_nil,List.length_cons,List.length_nil,List.cons_append,List.nil_append,List.getElem?_cons_zero,List.getElem?_cons_succ,List.set_cons_zero,List.set_cons_succ,List.replicate,B5,tyN,Ao,Bg,Bx,Cm,ixW,BD,Bi,EX,AK,B7,Be,Bv,CS,List.getElem?_nil])))
noncomputable abbrev kR:Spw:=spR (λ(x:Str×Bool×W)ws _=>ws=[.tup [.str x.1,.str (Bc x.2.1),x.2.2]]/\AB x.1=true) λ_=>.bl true
theorem Ms(h:AB n=true):n.length<=8:=by
 have h:=okn h;unfold okN at h;simp only[YF,YQ]at h;exact h.1.2
theorem kS(b:Bool)(G:Hw):inF false (.str (Bc b)) (.tup [.str "must",.str "may"]) G=some (.bl true):=by cases b <;> kernel_rfl
theorem Ii(T:Tx K mg base a):Df P w K mg base "is_field" 3 1 kR:=by
 refine mk0 T.iT rfl Sa Bb ((by rintro d G Q E ⟨x,⟨e,_⟩,_⟩;rw[e];rfl)) (km T (CA T) (Yr _)) λd G Q E f q=>?_;obtain⟨⟨n,b,k⟩,⟨rfl,c⟩,q⟩:=q;have hl:n.length<=8:=Ms c;unfold Sb;walk_at "rd";refine⟨n,⟨rfl,by lia⟩,?_⟩;dsimp only;rw[okn c];simp only[kS];exact q
theorem Gu(k:Kd):∃ xs,k.enc=.tup (.str k.hd::xs):=by cases k <;> exact⟨_,rfl⟩
noncomputable abbrev kT:Spw:=spR (λ(fs:Fs)ws _=>ws=[.tup fs.enc]/\fs.ok=true/\A0 fs.names=true/\fs.cnt<=1000) λ_=>.bl true
def Eb(x:W):W:=match x with | .tup (n::_)=>n | _=>.non
theorem Mt:∀{fs:Fs}{x:W},fs.ok=true->x∈fs.enc->∃ n b k,x=.tup [.str n,.str (Bc b),k]/\AB n=true
 | .nil,x,_,h=>by cases h
 | .cons n m k r,x,a,h=>by
  have h':(AB n&&k.ok&&r.ok)=true:=a;simp only [YF] at h';rcases Yo.mp h with rfl | h
  ·exact⟨n,m,k.enc,rfl,h'.1.1⟩
  ·exact Mt h'.2 h
theorem Gv:∀ fs:Fs,fs.enc.map Eb=fs.names.map W.str
 | .nil=>rfl
 | .cons n m k r=>by show W.str n::r.enc.map Eb=W.str n::r.names.map W.str;rw[Gv r]
theorem Ec:∀ fs:Fs,fs.names.length=fs.enc.length
 | .nil=>rfl
 | .cons n m k r=>by show r.names.length+1=r.enc.length+1;rw[Ec r]
theorem Iq(fs:Fs):fs.enc.length<=fs.cnt:=by rw[Lj,Li];exact H9 _
theorem Ik(T:Tx K mg base a):Df P w K mg base "are_fields" 4 1 kT:=by
 refine mk0 T.iU rfl Sg Bb ((by rintro m G Q E ⟨x,⟨e,_⟩,_⟩;rw[e];rfl)) (kn T (Ii T) (Yr _) (D4 T) (by lia)) λm G Q E o q=>?_;obtain⟨fs,⟨rfl,i,l,hc⟩,q⟩:=q;have hl:=Iq fs;unfold Sh;walk_at "rd";refine Cz (f:=λ_=>.bl true) trivial fs.enc none [] (λx g r d=>?_) (by simp only[Yi];exact AZ (by lia)) ?_
 ·obtain⟨n,b,k,rfl,j⟩:=Mt i g;exact⟨⟨n,b,k⟩,⟨rfl,j⟩,d⟩
 ·intro p s;rw[Yw,show(λ_:W=>W.bl true)=W.bl∘(λ_=>true)from rfl,<- YB];simp only [CJ Ak,Option.bind_some,F6,YD];have c:(fs.enc.map λ_=>true).all id=true:=by simp
  rw[c];refine Cz (f:=Eb) trivial fs.enc none [] (λx g r d=>?_) (by simp only[Yi];exact AZ (by lia)) ?_
  ·obtain⟨n,b,k,rfl,j⟩:=Mt i g;exact d
  ·intro p2 h;rw[Gv];refine⟨fs.names,⟨p2,rfl,Ak,by rw[Ec];lia⟩,?_⟩;dsimp only;rw[l];exact o _ _ _ (Bh (AA s) h) q
noncomputable abbrev kU:Spw:=spR (λ(k:Kd)ws _=>ws=[k.enc]/\k.ok=true/\k.cnt<=1000) λ_=>.bl true
theorem D8(T:Tx K mg base a):Df P w K mg base "has_form" 5 1 kU:=by
 refine mk0 T.iV rfl Sl Bb ((by rintro c G Q E ⟨x,⟨e,_⟩,_⟩;rw[e];rfl)) (ky T (Ik T) (Yr _)) λc G Q E f q=>?_;obtain⟨k,⟨rfl,d,hc⟩,q⟩:=q;cases k with
 | any|num|truth|to x y|box x=>
  exact q
 | row fs o =>
  have h':(A0 fs.names&&fs.ok)=true:=d;simp only [YF] at h';have b:1+fs.cnt<=1000:=hc;exact⟨fs,⟨rfl,h'.2,h'.1,by lia⟩,q⟩
def Mu(x:W):W:=match x with | .tup [_,_,k]=>k | _=>.non
theorem Sy:∀ fs:Fs,fs.enc.map Mu=fs.kinds.map Kd.enc
 | .nil=>rfl
 | .cons n m k r=>by show k.enc::r.enc.map Mu=k.enc::r.kinds.map Kd.enc;rw[Sy r]
theorem FL:∀{fs:Fs}{x:W},x∈fs.enc->∃ n b k,x=.tup [.str n,.str (Bc b),k]
 | .nil,x,h=>by cases h
 | .cons n m k r,x,h=>by
  rcases Yo.mp h with rfl | h
  ·exact⟨n,m,k.enc,rfl⟩
  ·exact FL h
noncomputable abbrev Sz:Spw:=spL (λ(k:Kd)ws _=>ws=[k.enc]/\k.cnt<=20000) λk=>k.kids.map Kd.enc
theorem D6(T:Tx K mg base a):Df P w K mg base "kinds_within" 1 1 Sz:=by
 refine mk0 T.iW rfl So BU ((by rintro c G Q E ⟨x,⟨e,_⟩,_⟩;rw[e];rfl)) (kA T) λc G Q E i q=>?_;obtain⟨k,⟨rfl,hc⟩,q⟩:=q;cases k with
 | row fs o =>
  have g:1+fs.cnt<=20000:=hc;have hl:=Iq fs;refine Cz (f:=Mu) trivial fs.enc none [] (λx h j d=>?_) (by simp only[Yi];exact AZ (by lia)) ?_
  ·obtain⟨n,b,k,rfl⟩:=FL h;exact d
  ·rw[Sy];exact q
 | any|num|truth|to x y|box x=>exact⟨Gq _ _,q⟩
theorem Ir(b:G p=some (.lst xs))(a:G r=some (.lst zs))(hl:xs.length+zs.length<=sizeLine)(q:Q .non (put G p (.lst (xs++zs)))):Cy (.ref p) [.ref r] G Q:=by
 refine KI b ?_ q;rw[CJ a,Option.bind_some,if_pos hl]
theorem BW(h:G p=some (.lst xs)):AQ (.ref p) G:=⟨xs,CJ h⟩
local macro_rules | `(tactic| walk_at "rd") => `(tactic| ((try dsimp only [Af,gIf,Ai,Al,AD,Aj,Ab,gC,Ad,gTB,AI,gNt,AF,gOr,Bu,CO,By,Ah,An,Aa,Ac,Ag,gB,rF,Ae,AR,gMt,BP,EL,Cj,Ba,AV,Ar,L3.BB,BY,gSl,Av,Au,AM,Ax,B8,Dd,AN,Fy,Ci,CU,Bd,BG,AH,BO,List.map_cons,List.map_nil,List.length_cons,List.length_nil,List.cons_append,List.nil_append,List.getElem?_cons_zero,List.getElem?_cons_succ,List.set_cons_zero,List.set_cons_succ,List.replicate,B5,tyN,Ao,Bg,Bx,Cm,ixW,BD,Bi,EX,AK,B7,Be,Bv,CS,List.getElem?_nil]); (try simp only [Af,gIf,Ai,Al,AD,Aj,Ab,gC,Ad,gTB,AI,gNt,AF,gOr,Bu,CO,By,Ah,An,Aa,Ac,Ag,gB,rF,Ae,AR,gMt,BP,EL,Cj,Ba,AV,Ar,L3.BB,BY,gSl,Av,Au,AM,Ax,B8,Dd,AN,Fy,Ci,CU,Bd,BG,AH,BO,List.map_cons,List.map_nil,List.length_cons,List.length_nil,List.cons_append,List.nil_append,List.getElem?_cons_zero,List.getElem?_cons_succ,List.set_cons_zero,List.set_cons_succ,List.replicate,B5,tyN,Ao,Bg,Bx,Cm,ixW,BD,Bi,EX,AK,B7,Be,Bv,CS,List.getElem?_nil])))
noncomputable abbrev kW(mg:Str->Option Value):Spw:=spL (λ(l:List Kd)ws G=>∃ p,ws=[.ref p,.ref (fAt mg "kinds_within")]/\G p=some (.lst (l.map Kd.enc))/\AX l<=10000) λl=>(l.flatMap Kd.kids).map Kd.enc
theorem SA:∀(l:List Kd)(o:Option W)(k0:W)(G:Hw)(a:List W),a.length+AX l<=20000->p≠q0->G p=some (.lst a)->G q0=some (.lst items)->
  (∀ ω f,(∃ o',ω=[some k0,some (.ref j),some (.ref p),o'])->f p=some (.lst (a++(l.flatMap Kd.kids).map Kd.enc))->(∀ b,b≠p->∀ u,G b=some u->f b=some u)->D.nx ω f)->
  A9 (holds q0 items) (gNm 3) (AD (gMt AQ Cy kw (Aa (CU 1 j Sz XF rK) Ac))) D (l.map Kd.enc) [some k0,some (.ref j),some (.ref p),o] G
 | [],o,k0,G,a,_,d,i,g,e=>⟨g,e _ G ⟨o,rfl⟩ (by simpa using i) λ_ _ _ h=>h⟩
 | c::l,o,k0,G,a,hl,d,i,g,e=>by
  have t:a.length+(c.cnt+AX l)<=20000:=hl;have v:=iP c;refine⟨g,?_⟩;show AD _ _ [some k0,some (.ref j),some (.ref p),some c.enc] G;walk_at "rd";refine⟨BW i,trivial,c,⟨rfl,by lia⟩,λr m=>?_⟩;have k:=A3 i m;have n:=A3 g m;refine Ir (by rw[Az k];exact i) Ak (by rw[Yh];exact AZ (by lia)) (SA l (some c.enc) k0 _ (a++c.kids.map Kd.enc) (by rw[Yj,Yh];lia) d Ak ?_ ?_)
  ·rw[Az (YW d),Az n];exact g
  ·intro ω f hω h1 h2;refine e ω f hω (by rw[h1,Qc,Yy,Yv]) λb s u q=>h2 b s u ?_;rw[Az s,Az (A3 q m)];exact q
theorem EY(T:Tx K mg base a):Df P w K mg base "layer_within" 2 2 (kW mg):=by
 refine mk0 T.Rp rfl Il BU ((by rintro k G Q E ⟨x,⟨p,e,_⟩,_⟩;rw[e];rfl)) (kB T (D6 T) (by lia)) λk G Q E m q=>?_;obtain⟨l,⟨q0,rfl,h,hl⟩,q⟩:=q;unfold Sq;walk_at "rd";refine⟨by decide,λp i=>?_⟩;have d:=YW (A3 h i);have c:put G p (.lst []) q0=some (.lst (l.map Kd.enc)):=by rw[Az (YW d)];exact h
 simp only[c];refine SA l none (.ref q0) _ [] (by simp only[Yi];lia) d Ak c ?_;intro ω j hω h1 h2;obtain⟨o',rfl⟩:=hω
 have hs:Sub (put G p (.lst ((l.flatMap Kd.kids).map Kd.enc))) j:=λb u f=>by
  by_cases g:b=p
  ·subst g;rw[Ak]at f;cases f;exact h1
  ·rw[Az g]at f;exact h2 b g u (by rw[Az g];exact f)
 exact m _ _ _ hs (q p i)
theorem E0{α:Type}{enc f:α->W}{b:Sw}(a:gd G):∀(l:List α)(o:Option W)(ys:List W),(∀ x∈l,∀ Q:Kw,Q (f x) G->ge (some (enc x)::b) G Q)->
  ys.length+l.length<=sizeLine->R (ys++l.map f) G->AU gd (gNm 0) AC ge R (l.map enc) (o::b) G ys
 | [],o,ys,_,_,r=>⟨a,by simpa using r⟩
 | x::l,o,ys,h,hl,r=>by
  refine⟨a,by simp only[Yg]at hl;lia,h x Ye _ (E0 a l (some (enc x)) (ys++[f x]) (λy c=>h y (Yd _ c)) ?_ ?_)⟩
  ·simp only[Yj,Yg,Yi]at hl ⊢;lia
  ·simpa[Yv]using r
def Bl(k:Kd):Bool:=decide (k.cnt<=40/\k.dp<=8)
noncomputable abbrev kX(mg:Str->Option Value):Spw:=spR (λ(k:Kd)ws _=>ws=[k.enc,.ref (fAt mg "has_form"),.ref (fAt mg "kinds_within"),.int 40,.int 8]/\k.ok=true/\k.cnt<=1000) λk=>.bl (Bl k)
theorem EZ(T:Tx K mg base a):Df P w K mg base "is_made_of" 6 5 (kX mg):=by
 refine mk0 T.Rq rfl Io Bb ((by rintro S G Q E ⟨x,⟨e,_⟩,_⟩;rw[e];rfl)) (kE T (D8 T) (Yr _) (EY T) (by lia)) λS G Q E t q=>?_;obtain⟨k,⟨rfl,H,hc⟩,q⟩:=q;unfold Sr;walk_at "rd";refine⟨by decide,λp N=>⟨λm ω u=>∃(l:List Kd)(p:Addr)(c d:Nat),ω=[some k.enc,some (.ref (fAt mg "has_form")),some (.ref (fAt mg "kinds_within")),some (.int 40),some (.int 8),some (.ref p),some (.int c),some (.int d)]/\u p=some (.lst (l.map Kd.enc))/\Sub G u/\c+AX l=k.cnt/\d+dpL l=k.dp/\(∀ x∈l,x.ok=true)/\c<=40/\d<=8/\m=9 - d,⟨9,[k],p,0,0,rfl,Ak,AA N,?_,?_,?_,by lia,by lia,rfl⟩,?_⟩⟩
 ·show 0+(k.cnt+0)=k.cnt;lia
 ·show 0+max k.dp 0=k.dp;lia
 ·intro x L;rw[YA.mp L];exact H
 rintro m ω G1 ⟨l,p,c,d,rfl,hl,hs,D,U,hok,B,Z,rfl⟩;have b:(l.map Kd.enc).length=l.length:=Yh _;walk_at "rd";simp only[hl,Ao,b];cases l with
 | nil =>
  have h:Bl k=true:=by
   unfold Bl;have Y:c+0=k.cnt:=D;have X:d+0=k.dp:=U;simp only[YQ];lia
  dsimp only at q;rw[h]at q;exact t _ _ _ hs q
 | cons x l =>
  have R:=Rk (x::l);have A:=Rl (x::l) (by simp);have F:(0:Int) <(((x::l).length:Nat):Int):=by simp only[Yg];lia
  simp only[F,decide_true,if_true,hl,Ao,b]
  have r:decide ((40:Int) <(c:Int)+(((x::l).length:Nat):Int))=decide (40 < c+(x::l).length):=by
   rw[decide_eq_decide];lia
  have O:decide ((8:Int) <(d:Int)+1)=decide (8 < d+1):=by
   rw[decide_eq_decide];lia
  rw[r,O];by_cases g:40 < c+(x::l).length
  ·have h:Bl k=false:=by
    unfold Bl;simp only[decide_eq_false_iff_not];lia
   dsimp only at q;rw[h]at q;simp only[g,decide_true,if_true];exact t _ _ _ hs q
  ·by_cases v:8 < d+1
   ·have h:Bl k=false:=by
     unfold Bl;simp only[decide_eq_false_iff_not];lia
    dsimp only at q;rw[h]at q;simp only[g,v,decide_true,decide_false,if_true,Yq,if_false];exact t _ _ _ hs q
   ·simp only[g,v,decide_false,Yq,if_false];refine E0 (f:=λ_=>.bl true) hl (x::l) none [] (λz n Q' I=>?_) (AZ (by simp only[Yi];lia)) ?_
    ·have J:=Ia n;exact⟨rfl,z,⟨rfl,hok z n,by lia⟩,I⟩
    ·intro p1 i;rw[Yw,show(λ_:Kd=>W.bl true)=W.bl∘(λ_=>true)from rfl,<- YB];simp only[CJ Ak,Option.bind_some,F6,YD,Ao];have j:((x::l).map λ_=>true).all id=true:=by simp
     rw[j];refine⟨x::l,⟨p,rfl,by rw[Az (A3 hl i)];exact hl,by lia⟩,λp2 s=>⟨9 -(d+1),by lia,(x::l).flatMap Kd.kids,p2,c+(x::l).length,d+1,?_,Ak,?_,by lia,by lia,?_,by lia,by lia,rfl⟩⟩
     ·simp only[Int.natCast_add,Int.natCast_one]
     ·exact Bh (Bh hs i) s
     ·intro y o;obtain⟨z,n,o⟩:=List.mem_flatMap.mp o;exact Co (hok z n) y o
noncomputable abbrev kY:Spw:=spR (λ(k:Kd)ws _=>ws=[k.enc]/\k.ok=true/\k.cnt<=1000) λk=>.bl (Bl k)
theorem Iu(T:Tx K mg base a):Df P w K mg base "is_kind" 7 1 kY:=by
 refine mk0 T.iX rfl Su Bb ((by rintro b G Q E ⟨x,⟨e,_⟩,_⟩;rw[e];rfl)) (kK T (D8 T) (by lia) (D6 T) (by lia) (EZ T) (Yr _)) λb G Q E d q=>?_;obtain⟨k,⟨rfl,c,hc⟩,q⟩:=q;exact⟨k,⟨rfl,c,hc⟩,q⟩
abbrev SC:List Str:=["word"]
theorem SD:Ay SC ["word"] (Ap Lz):=by walk_at "s"
def kZ:GS:=(Ai (Rb AT ef))
theorem k6(T:Tx K mg base a):Dn P w K mg base SC "form_of" Lz k (kZ):=by
 have hN:=SD.nd;walk_at "z"
abbrev SE:List Str:=["term"]
theorem SF:Ay SE ["term"] (Ap LA):=by walk_at "s"
abbrev r6:=AE ef (Av dl) Au
abbrev rN:=gTB (Ad (Ae (eqF false)) ad (gC (.str "rec")))
noncomputable def k7(Bn:Spw):GS:=(Af (gIf rN (Ai (AM (Ax hH) 1 (gNm 0) AC hH)) Aj) (Ai (AM (BS (Aa (Ag Bn XF sM) (Aa r6 Ac))) 2 (AJ 0 1) (gTB (Ad (Ae (eqF false)) ef (gC (.str "term")))) f4)))
theorem k8(T:Tx K mg base a)(Iv:Df P w K mg base "form_of" BE 1 Bn)(Iw:BE<=k):Dn P w K mg base SE "parts_of" LA k (k7 Bn):=by
 have hN:=SF.nd;walk_at "z"
abbrev SG:List Str:=["thing"]
theorem SH:Ay SG ["thing"] (Ap LC):=by walk_at "s"
noncomputable def SI:GS:=(Af (gIf (gOr (gNt (AI (AR "int" ef))) (AI (AR "bool" ef))) le Aj) (Ai (Cj (Ba (λi j=>decide (i<=j)) (λa b=>!AW b a)) (Ba (λi j=>decide (i<=j)) (λa b=>!AW b a)) (EV (gC (.int 99999999999999999999))) ef (gC (.int 99999999999999999999)))))
theorem la(T:Tx K mg base a):Dn P w K mg base SG "is_number" LC k (SI):=by
 have hN:=SH.nd;walk_at "z"
abbrev SJ:List Str:=["thing"]
theorem SK:Ay SJ ["thing"] (Ap LD):=by walk_at "s"
noncomputable def lb(B9:Spw):GS:=(Ai (Bu (AR "tuple" ef) (Bu (Ad (Ae (eqF false)) rR h8) (Ag B9 XF sM))))
theorem lc(T:Tx K mg base a){CA:Nat}(Sd:Df P w K mg base "is_name" CA 1 B9)(Se:CA<=k):Dn P w K mg base SJ "is_term_field" LD k (lb B9):=by
 have hN:=SK.nd;walk_at "z"
abbrev SL:List Str:=["thing"]
theorem SM:Ay SL ["thing"] (Ap LF):=by walk_at "s"
noncomputable def SN(Iy:Spw)(Dz:Spw):GS:=(Af (gIf (gNt rV) le Aj) (Ai (Bu (gB (rF Be) (Aa (AM (Ax ef) 1 (gNm 0) AC (Ag Iy XF ln)) Ac)) (Ag Dz XF (Aa (AM (Ax ef) 1 (gNm 0) AC ad) Ac)))))
theorem lf(T:Tx K mg base a)(pK:Df P w K mg base "is_term_field" Iz 1 Iy)(pL:Iz<=k){D4:Nat}(ko:Df P w K mg base "names_rise" D4 1 Dz)(kq:D4<=k):Dn P w K mg base SL "are_term_fields" LF k (SN Iy Dz):=by
 have hN:=SM.nd;walk_at "z"
abbrev SO:List Str:=["thing","sort"]
theorem SQ:Ay SO ["thing","sort"] (Ap LG):=by walk_at "s"
abbrev so:=gC (.str "truth")
abbrev rW:=gC (.str "name")
noncomputable def lg(IA:Spw)(B9:Spw)(IB:Spw)(IC:Spw):GS:=(Af (gIf (gTB (Ad (Ae (eqF false)) f4 (gC (.str "number")))) (Ai (Ag IA XF ln)) Aj) (Af (gIf (gTB (Ad (Ae (eqF false)) f4 so)) (Ai (AR "bool" ef)) Aj) (Af (gIf (gTB (Ad (Ae (eqF false)) f4 rW)) (Ai (Ag B9 XF ln)) Aj) (Af (gIf (gTB (Ad (Ae (eqF false)) f4 (gC (.str "kind")))) (Ai (Ag IB XF ln)) Aj) (Af (gIf (gTB (Ad (Ae (eqF false)) f4 (gC (.str "fields")))) (Ai (Ag IC XF ln)) Aj) (Ai rY))))))
theorem lh(T:Tx K mg base a)(pM:Df P w K mg base "is_number" ID 1 IA)(pN:ID<=k){CA:Nat}(Sd:Df P w K mg base "is_name" CA 1 B9)(Se:CA<=k){Iu:Nat}(pO:Df P w K mg base "is_kind" Iu 1 IB)(pP:Iu<=k)(pQ:Df P w K mg base "are_term_fields" IE 1 IC)(pR:IE<=k):Dn P w K mg base SO "is_of_sort" LG k (lg IA B9 IB IC):=by
 have hN:=SQ.nd;walk_at "z"
abbrev SR:List Str:=["thing","form"]
theorem SU:Ay SR ["thing"] (Ap LH):=by walk_at "s"
abbrev re:=Aa f4 Ac
abbrev si:=Aa ef re
noncomputable def li(Bn:Spw)(IF:Spw):GS:=(Af (gIf (gOr (gNt rV) (gOr (gTB (Ad (Ae (eqF false)) rR eq)) (gNt (AI (AR "str" ad))))) le Aj) (Af (Al 1 (Ag Bn XF sM)) (Af (gIf (gOr (gTB (Ad (Ae (isF false)) f4 (gC .non))) (gTB (Ad (Ae (eqF true)) rR (Ad (Aw) dl (gB (rF AK) re))))) le Aj) (Ai (gB (rF Be) (Aa (AM (BS (Aa r6 re)) 2 (AJ 0 1) AC (Ag IF XF si)) Ac))))))
theorem lj(T:Tx K mg base a)(Iv:Df P w K mg base "form_of" BE 1 Bn)(Iw:BE<=k)(pS:Df P w K mg base "is_of_sort" IG 2 IF)(pT:IG<=k):Dn P w K mg base SR "has_term_form" LH k (li Bn IF):=by
 have hN:=SU.nd;walk_at "z"
abbrev SV:List Str:=["thing"]
theorem SW:Ay SV ["thing"] (Ap LI):=by walk_at "s"
noncomputable def ll(mg:Str->Option Value)(D9:Spw)(BL:Spw)(DB:Spw):GS:=(Ai (Ag DB XF (Aa ef (Aa (gC (.ref (fAt mg "has_term_form"))) (Aa (gC (.ref (fAt mg "parts_of"))) (Aa sS (Aa (gC (.int 10)) Ac)))))))
theorem lm(T:Tx K mg base a)(kP:Df P w K mg base "has_term_form" Ea 1 D9)(kQ:Ea<=k)(Mq:Df P w K mg base "parts_of" BV 1 BL)(Mr:BV<=k){EZ:Nat}(kL:Df P w K mg base "is_made_of" EZ 5 DB)(kM:EZ<=k):Dn P w K mg base SV "is_term" LI k (ll mg D9 BL DB):=by
 have hN:=SW.nd;walk_at "z"
abbrev SX:List Str:=["thing"]
theorem SY:Ay SX ["thing"] (Ap Gs):=by walk_at "s"
noncomputable def lp(K:PySem.W.Frag)(a:Adr)(IH:Spw)(E:Addr->Hw->Prop):GS:=(gIf (gNt (AI (Ag IH (λ_=>E) ln))) (Pl a.NoTerm E (Aa (gC (.str "this is no term")) Ac)) Aj)
theorem lq(T:Tx K mg base a)(lr:Df P w K mg base "is_term" II 1 IH)(lu:II<=k)(hr:Room k (A.deeper (envOfC "check_term" (Ap Gs) s.heap.objs.size f cdv))):Ssm (cxW P w K mg base SX "check_term" (Ap Gs) f cdv A outer s H E) (λB=>B=H) (B4 Gs) (lp K a IH (dnX K H E)):=
 have hu:=KN hr
 have hN:=SY.nd
 (Kx (O0 (OY (OX (λ_=>rfl) (OW lr (hr.mono lu) rfl aX rfl rfl rfl (by walk_at "v")))) (Kx (dZ T.RM T.RN PySem.F.excBase_ValueError rfl rfl rfl rfl (by walk_at "v"))) OZ))
local macro_rules | `(tactic| walk_at "k1") => `(tactic| simp only [Ag, Ab, gC, Aa, Ac, Yb, Yc, Yk, Yl, Ad, Ae, Ar, ixW, Bg, Bx, Cm, Ao, BD, Bi])
local macro_rules | `(tactic| walk_at "k2") => `(tactic| simp only [Ag, Ab, gC, Aa, Ac, Yb, Yc, Yk, Yl, Ad, Ae, Ar, ixW, Bg, Bx, Cm, Ao, BD, Bi, Af, gIf, gTB, AF, gOr, gNt, AI, Aj])
mutual
inductive Te where
 | nd (w:Str) (r:As)
inductive As where
 | nil | num (i:Int) (r:As)| tru (b:Bool) (r:As)| nam (x:Str) (r:As)| knd (k:Kd) (r:As)| trm (t:Te) (r:As)| fld (f:Fl) (r:As)
inductive Fl where
 | nil | cons (x:Str) (t:Te) (r:Fl)
end
mutual
def Te.enc:Te->W
 | .nd w r=>.tup (.str w::r.enc)
def As.enc:As->List W
 | .nil=>[]
 | .num i r=>.int i::r.enc
 | .tru b r=>.bl b::r.enc
 | .nam x r=>.str x::r.enc
 | .knd k r=>k.enc::r.enc
 | .trm t r=>t.enc::r.enc
 | .fld f r=>.tup f.enc::r.enc
def Fl.enc:Fl->List W
 | .nil=>[]
 | .cons x t r=>.tup [.str x,t.enc]::r.enc
end
noncomputable def Fl.names:Fl->List Str
 | .nil=>[]
 | .cons x _ r=>x::r.names
noncomputable def Fl.terms:Fl->List Te
 | .nil=>[]
 | .cons _ t r=>t::r.terms
noncomputable def As.sorts:As->List Str
 | .nil=>[]
 | .num _ r=>"number"::r.sorts
 | .tru _ r=>"truth"::r.sorts
 | .nam _ r=>"name"::r.sorts
 | .knd _ r=>"kind"::r.sorts
 | .trm _ r=>"term"::r.sorts
 | .fld _ r=>"fields"::r.sorts
noncomputable def As.parts:As->List Te
 | .nil=>[]
 | .num _ r|.tru _ r|.nam _ r|.knd _ r=>r.parts
 | .trm t r=>t::r.parts
 | .fld f r=>f.terms++r.parts
noncomputable def As.told:As->List Kd
 | .nil=>[]
 | .num _ r|.tru _ r|.nam _ r=>r.told
 | .knd k r=>k::r.told
 | .trm _ r|.fld _ r=>r.told
def Te.parts:Te->List Te
 | .nd _ r=>r.parts
def Te.told:Te->List Kd
 | .nd _ r=>r.told
mutual
def Te.cnt:Te->Nat
 | .nd _ r=>1+r.cnt
def As.cnt:As->Nat
 | .nil=>0
 | .num _ r|.tru _ r|.nam _ r|.knd _ r=>r.cnt
 | .trm t r=>t.cnt+r.cnt
 | .fld f r=>f.cnt+r.cnt
def Fl.cnt:Fl->Nat
 | .nil=>0
 | .cons _ t r=>t.cnt+r.cnt
end
mutual
def Te.dp:Te->Nat
 | .nd _ r=>1+r.dp
def As.dp:As->Nat
 | .nil=>0
 | .num _ r|.tru _ r|.nam _ r|.knd _ r=>r.dp
 | .trm t r=>max t.dp r.dp
 | .fld f r=>max f.dp r.dp
def Fl.dp:Fl->Nat
 | .nil=>0
 | .cons _ t r=>max t.dp r.dp
end
abbrev NB:Int:=99999999999999999999
mutual
def Te.ok:Te->Bool
 | .nd w r=>decide (KTD.datumAt w AT=some r.sorts)&&r.ok
def As.ok:As->Bool
 | .nil=>true
 | .num i r=>decide (-NB<=i/\i<=NB)&&r.ok
 | .tru _ r=>r.ok
 | .nam x r=>AB x&&r.ok
 | .knd k r=>(k.ok&&Bl k)&&r.ok
 | .trm t r=>t.ok&&r.ok
 | .fld f r=>(A0 f.names&&f.ok)&&r.ok
def Fl.ok:Fl->Bool
 | .nil=>true
 | .cons x t r=>(AB x&&t.ok)&&r.ok
end
def AL:List Te->Nat
 | []=>0
 | t::r=>t.cnt+AL r
def tdp:List Te->Nat
 | []=>0
 | t::r=>max t.dp (tdp r)
theorem Mv:∀(l m:List Te),AL (l++m)=AL l+AL m
 | [],m=>by simp[AL]
 | v::l,m=>by show v.cnt+AL (l++m)=v.cnt+AL l+AL m;rw[Mv l m];lia
theorem Mw:∀(l m:List Te),tdp (l++m)=max (tdp l) (tdp m)
 | [],m=>by simp[tdp]
 | v::l,m=>by show max v.dp (tdp (l++m))=max (max v.dp (tdp l)) (tdp m);rw[Mw l m];lia
theorem S0:∀ f:Fl,f.cnt=AL f.terms/\f.dp=tdp f.terms
 | .nil=>⟨rfl,rfl⟩
 | .cons _ t r=>by
  obtain⟨a,b⟩:=S0 r;exact⟨by show t.cnt+r.cnt=t.cnt+AL r.terms;rw[a],by show max t.dp r.dp=max t.dp (tdp r.terms);rw[b]⟩
theorem Gx:∀ r:As,r.cnt=AL r.parts/\r.dp=tdp r.parts
 | .nil=>⟨rfl,rfl⟩
 | .num _ r | .tru _ r | .nam _ r | .knd _ r=>Gx r
 | .trm t r=>by
  obtain⟨a,b⟩:=Gx r;exact⟨by show t.cnt+r.cnt=t.cnt+AL r.parts;rw[a],by show max t.dp r.dp=max t.dp (tdp r.parts);rw[b]⟩
 | .fld f r=>by
  obtain⟨a,b⟩:=Gx r;obtain⟨c,d⟩:=S0 f;exact⟨by show f.cnt+r.cnt=AL (f.terms++r.parts);rw[Mv,a,c],by show max f.dp r.dp=tdp (f.terms++r.parts);rw[Mw,b,d]⟩
theorem Cp(t:Te):t.cnt=1+AL t.parts:=by cases t with | nd w r=>show 1+r.cnt=_;rw[(Gx r).1];rfl
theorem CW(t:Te):t.dp=1+tdp t.parts:=by cases t with | nd w r=>show 1+r.dp=_;rw[(Gx r).2];rfl
theorem IJ(t:Te):1<=t.cnt:=by rw[Cp];lia
theorem Ed(t:Te):1<=t.dp:=by rw[CW];lia
theorem S1:∀ l:List Te,AL l=l.length+AL (l.flatMap Te.parts)
 | []=>rfl
 | v::l=>by
  show v.cnt+AL l=(l.length+1)+AL ((v::l).flatMap Te.parts);rw[Qc,Mv,S1 l,Cp v];lia
theorem S2:∀ l:List Te,l≠[]->tdp l=1+tdp (l.flatMap Te.parts)
 | [],h=>Qo rfl h
 | [v],_=>by
  show max v.dp 0=1+tdp ([v].flatMap Te.parts);rw[Qc,List.flatMap_nil,Yx,CW];lia
 | v::u::l,_=>by
  have a:=S2 (u::l) (by simp);show max v.dp (tdp (u::l))=1+tdp ((v::u::l).flatMap Te.parts);rw[Qc,Mw,CW v];lia
theorem IK:∀ l:List Te,l.length<=AL l
 | []=>Yr _
 | v::l=>by have:=IK l;have:=IJ v;show l.length+1<=v.cnt+AL l;lia
theorem Gy:∀{l:List Te}{v:Te},v∈l->v.cnt<=AL l
 | u::l,v,h=>by
  show v.cnt<=u.cnt+AL l;rcases Yo.mp h with rfl | h
  ·lia
  ·have:=Gy h;lia
theorem Gz:∀{l:List Te}{v:Te},v∈l->v.dp<=tdp l
 | u::l,v,h=>by
  show v.dp<=max u.dp (tdp l);rcases Yo.mp h with rfl | h
  ·lia
  ·have:=Gz h;lia
theorem S3(t:Te):t.parts.length+1<=t.cnt:=by rw[Cp t];have:=IK t.parts;lia
theorem Mx:∀ f:Fl,f.enc.length=f.terms.length
 | .nil=>rfl
 | .cons _ t r=>by show r.enc.length+1=r.terms.length+1;rw[Mx r]
theorem S4:∀ f:Fl,f.names.length=f.terms.length
 | .nil=>rfl
 | .cons _ t r=>by show r.names.length+1=r.terms.length+1;rw[S4 r]
theorem CY:∀ r:As,r.enc.length=r.sorts.length
 | .nil=>rfl
 | .num _ r | .tru _ r | .nam _ r | .knd _ r | .trm _ r | .fld _ r=>Ql (·+1) (CY r)
theorem aR{a:Bool}(h:(a&&b)=true):b=true:=(Qj.mp h).2
theorem aL{a:Bool}(h:(a&&b)=true):a=true:=(Qj.mp h).1
theorem aM{a:Bool}(h:a=true)(h':b=true):(a&&b)=true:=Qj.mpr ⟨h,h'⟩
theorem S5:∀{f:Fl},f.ok=true->∀ c∈f.terms,c.ok=true
 | .cons x t r,h,c,hc=>(Yo.mp hc).elim (λe=>e▸aR (aL h)) (S5 (f:=r) (aR h) c)
theorem GB:∀{r:As},r.ok=true->∀ c∈r.parts,c.ok=true
 | .nil,_=>nofun
 | .num _ r,h | .nam _ r,h | .knd _ r,h=>GB (r:=r) (aR h)
 | .tru _ r,h=>GB (r:=r) h
 | .trm t r,h=>λc hc=>(Yo.mp hc).elim (λe=>e▸aL h) (GB (r:=r) (aR h) c)
 | .fld f r,h=>λc hc=>(Yz.mp hc).elim (S5 (aR (aL h)) c) (GB (r:=r) (aR h) c)
theorem Br{w:Str}(h:(Te.nd w r).ok=true):KTD.datumAt w AT=some r.sorts/\r.ok=true:=⟨Qm (aL h),aR h⟩
theorem CZ{t:Te}(h:t.ok=true):∀ c∈t.parts,c.ok=true:=by
 cases t with
 | nd w r=>exact GB (Br h).2
def IL(x:W):W:=match x with | .tup [_,k]=>k | _=>.non
abbrev lv:Spw:=spR (λ(z:Str)ws _=>ws=[.str z]) λz=>EW AT z
theorem BE(T:Tx K mg base a):Df P w K mg base "form_of" 1 1 lv:=by
 refine mk0 T.i4 rfl SD Bb (λb G Q E⟨x,e,_⟩=>by rw[e];rfl) (k6 T) λb G Q E c q=>?_;obtain⟨z,rfl,q⟩:=q;exact q
theorem GC{w:Str}{a:List Str}(h:KTD.datumAt w AT=some a):EW AT w=.tup (a.map W.str):=by unfold EW;rw[h]
theorem GF{δ:Type}:∀{D:List (Str×δ)}{k:Str}{d:δ},KTD.datumAt k D=some d->(k,d)∈D
 | [],k,d,h=>by cases h
 |(x,e)::D,k,d,h=>by
  have h':(if decide (k=x)=true then some e else KTD.datumAt k D)=some d:=h;by_cases a:k=x
  ·rw[if_pos (YG a)]at h';cases h';rw[a];exact Ye
  ·rw[if_neg (by simp[a])]at h';exact Yd _ (GF h')
theorem lw:(AT.all λp=>decide (p.1="rec")||!p.2.contains ("fields":Str))=true:=by decide +kernel
theorem lx:(AT.all λp=>!decide (p.1="rec")||decide (p.2=[("fields":Str)]))=true:=by decide +kernel
theorem B0{w:Str}{r:As}(h:KTD.datumAt w AT=some r.sorts):(w="rec"->∃ f,r=.fld f .nil)/\(w≠"rec"->("fields":Str)∉r.sorts):=by
 have b:=GF h;have h1:=List.all_eq_true.mp lw _ b;have h2:=List.all_eq_true.mp lx _ b;simp only[Bool.or_eq_true,Bool.not_eq_true',YQ,decide_eq_false_iff_not]at h1 h2;constructor
 ·intro e;have a:=h2.resolve_left λz=>z e;cases r with
  | fld f r =>
   have c:=a;injection c with _ h5;cases r with
   | nil=>exact⟨f,rfl⟩
   | _=>cases h5
  | nil=>cases a
  | _=>exact Qo (Qk a).1 (by decide +kernel)
 ·intro e z;have a:=h1.resolve_left e;rw[List.contains_iff_mem.mpr z]at a;cases a
theorem My:∀ f:Fl,f.enc.map IL=f.terms.map Te.enc
 | .nil=>rfl
 | .cons x t r=>by show t.enc::r.enc.map IL=t.enc::r.terms.map Te.enc;rw[My r]
theorem S6:∀ f:Fl,f.enc.map Eb=f.names.map W.str
 | .nil=>rfl
 | .cons x t r=>by show W.str x::r.enc.map Eb=W.str x::r.names.map W.str;rw[S6 r]
theorem GH:∀{f:Fl}{x:W},f.ok=true->x∈f.enc->∃ n v,x=.tup [.str n,v]/\AB n=true
 | .cons n t r,x,h,a=>(Yo.mp a).elim (λe=>⟨n,t.enc,e,aL (aL h)⟩) (GH (f:=r) (aR h))
noncomputable abbrev gTe:GT:=gTB (Ad (Ae (eqF false)) ef (gC (.str "term")))
theorem ly(q:Q (s=="term") G):gTe [some (.str s),some v] G Q:=by
 simp only[gTB,Ad,Ae,Ab,gC,Yb,Bi];cases h:(s=="term")with
 | true|false=>rw[h]at q;exact q
theorem S7(hl:ys.length < 1000)(h:AU yes (AJ 0 1) gTe f4 R zs [some (.str s),some v] G (if(s=="term")=true then ys++[v]else ys)):
  AU yes (AJ 0 1) gTe f4 R (.tup [.str s,v]::zs) [o,o'] G ys:=by
 refine⟨trivial,Bf (by lia),ly ?_⟩;cases e:(s=="term")with
 | true|false=>
  rw[e]at h;exact h
theorem Mz:∀(r:As)(o o':Option W)(ys:List W),("fields":Str)∉r.sorts->ys.length+r.enc.length<=1000->R (ys++r.parts.map Te.enc) G->
  AU yes (AJ 0 1) gTe f4 R (Bm (r.sorts.map W.str) r.enc) [o,o'] G ys
 | .nil,o,o',ys,_,_,h=>⟨trivial,by have h':R (ys++[]) G:=h;rw[Yx]at h';exact h'⟩
 | .num _ r,o,o',ys,a,hl,h | .tru _ r,o,o',ys,a,hl,h | .nam _ r,o,o',ys,a,hl,h | .knd _ r,o,o',ys,a,hl,h=>by
  have b:ys.length+(r.enc.length+1)<=1000:=hl;refine S7 (by lia) ?_;rw[if_neg (by decide +kernel)];exact Mz r _ _ _ (λz=>a (Yd _ z)) (by lia) h
 | .trm t r,o,o',ys,a,hl,h=>by
  have b:ys.length+(r.enc.length+1)<=1000:=hl;refine S7 (by lia) ?_;rw[if_pos (by decide +kernel)];refine Mz r _ _ _ (λz=>a (Yd _ z)) (by rw[Yj];simp only[Yg,Yi];lia) ?_;rw[Yv];exact h
 | .fld f r,o,o',ys,a,_,_=>Qo Ye a
theorem GJ:∀ f:Fl,f.enc.length<=f.cnt
 | .nil=>Yr _
 | .cons _ t r=>by have:=GJ r;have:=IJ t;show r.enc.length+1<=t.cnt+r.cnt;lia
theorem lz:(AT.all λp=>decide (p.2.length<=3))=true:=by decide +kernel
theorem Ca{w:Str}{r:As}(h:KTD.datumAt w AT=some r.sorts):r.sorts.length<=3:=Qm (List.all_eq_true.mp lz _ (GF h))
noncomputable abbrev MA:Spw:=spL (λ(t:Te)ws _=>ws=[t.enc]/\t.ok=true/\t.cnt<=20000) λt=>t.parts.map Te.enc
theorem BV(T:Tx K mg base a):Df P w K mg base "parts_of" 2 1 MA:=by
 refine mk0 T.i5 rfl SF BU (λws G Q E⟨x,⟨e,_⟩,_⟩=>by rw[e];rfl) (k8 T (BE T) (Yr _)) λws G Q E hC q=>?_;obtain⟨t,⟨rfl,ho,hc⟩,q⟩:=q;cases t with
 | nd w r =>
 obtain⟨h1,h2⟩:=Br ho;have hs:=Ca h1;have hl:=CY r;show Af (gIf _ _ Aj) _ (AH Q) [some (.tup (.str w::r.enc))] G;walk_at "k2";by_cases e:w="rec"
 ·rw[show(w==("rec":Str))=true by simp[e]];obtain⟨f,rfl⟩:=(B0 h1).1 e;have hc':1+(f.cnt+0)<=20000:=hc;have hf:=GJ f;have h2':((A0 f.names&&f.ok)&&true)=true:=h2;simp only[Bool.and_true,YF]at h2';refine Cz (f:=IL) trivial f.enc none [] (λx hx Q' q'=>?_) (by simp only[Yi];exact AZ (by lia)) ?_
  ·obtain⟨n,u,rfl,_⟩:=GH h2'.2 hx;exact q'
  ·rw[My];have q':∀ p,G p=none->Q (.ref p) (put G p (.lst ((f.terms++[]).map Te.enc))):=q;rw[Yx]at q';exact q'
 ·rw[show(w==("rec":Str))=false by simpa using e];simp only[Ai,AM,BS,Ag,Aa,Ad,Ae,Ab,gC,Yb,ixW,Bg];refine⟨w,rfl,⟨r.sorts.map W.str,r.enc,?_,?_⟩⟩
  ·rw[Dy];dsimp only;rw[GC h1];rfl
  ·exact Mz r none none [] ((B0 h1).2 e) (by simp only[Yi];lia) (q)
theorem lB:Dx "tuple" "tuple"=true:=by decide
noncomputable abbrev lC:Spw:=spR (λ(i:Int)ws _=>ws=[.int i]/\-NB<=i/\i<=NB) λ_=>.bl true
theorem ID(T:Tx K mg base a):Df P w K mg base "is_number" 1 1 lC:=by
 refine mk0 T.i6 rfl SH Bb (λb G Q E⟨x,⟨e,_⟩,_⟩=>by rw[e];rfl) (la T) λb G Q E d q=>?_;obtain⟨i,⟨rfl,h1,h2⟩,q⟩:=q;unfold SI;walk_at "rd";simp only[EV];have c:=YG h2;simp only[c];refine⟨99999999999999999999,rfl,?_⟩;rw[if_pos (YG h1)];exact q
noncomputable abbrev lD:Spw:=spR (λ(x:Str×W)ws _=>ws=[.tup [.str x.1,x.2]]/\AB x.1=true) λ_=>.bl true
theorem Iz(T:Tx K mg base a):Df P w K mg base "is_term_field" 3 1 lD:=by
 refine mk0 T.i7 rfl SK Bb (λc G Q E⟨x,⟨e,_⟩,_⟩=>by rw[e];rfl) (lc T (CA T) (Yr _)) λc G Q E d q=>?_;obtain⟨⟨n,u⟩,⟨rfl,b⟩,q⟩:=q;have hl:n.length<=8:=Ms b;refine⟨n,⟨rfl,by lia⟩,?_⟩;dsimp only;rw[okn b];exact q
noncomputable abbrev lE:Spw:=spR (λ(f:Fl)ws _=>ws=[.tup f.enc]/\f.ok=true/\A0 f.names=true/\f.cnt<=1000) λ_=>.bl true
theorem IE(T:Tx K mg base a):Df P w K mg base "are_term_fields" 4 1 lE:=by
 refine mk0 T.i8 rfl SM Bb (λj G Q E⟨x,⟨e,_⟩,_⟩=>by rw[e];rfl) (lf T (Iz T) (Yr _) (D4 T) (by lia)) λj G Q E k q=>?_;obtain⟨f,⟨rfl,h,i,hc⟩,q⟩:=q;have hl:=GJ f;unfold SN;walk_at "rd";refine Cz (f:=λ_=>.bl true) trivial f.enc none [] (λx d m c=>?_) (by simp only[Yi];exact AZ (by lia)) ?_
 ·obtain⟨n,u,rfl,l⟩:=GH h d;exact⟨(n,u),⟨rfl,l⟩,c⟩
 ·intro p o;rw[Yw,show(λ_:W=>W.bl true)=W.bl∘(λ_=>true)from rfl,<- YB];simp only [CJ Ak,Option.bind_some,F6,YD];have b:(f.enc.map λ_=>true).all id=true:=by simp
  rw[b];refine Cz (f:=Eb) trivial f.enc none [] (λx d m c=>?_) (by simp only[Yi];exact AZ (by lia)) ?_
  ·obtain⟨n,u,rfl,_⟩:=GH h d;exact c
  ·intro p2 g;rw[S6];refine⟨f.names,⟨p2,rfl,Ak,by rw[S4,<- Mx];lia⟩,?_⟩;dsimp only;rw[i];exact k _ _ _ (Bh (AA o) g) q
inductive Ok1:W->Str->Prop
 | num (i:Int) (h:-NB<=i/\i<=NB):Ok1 (.int i) "number"
 | tru (b:Bool):Ok1 (.bl b) "truth"
 | nam (x:Str) (h:AB x=true):Ok1 (.str x) "name"
 | knd (k:Kd) (h:k.ok=true) (h2:Bl k=true):Ok1 k.enc "kind"
 | trm (t:Te):Ok1 t.enc "term"
 | fld (f:Fl) (h:f.ok=true) (h2:A0 f.names=true) (h3:f.cnt<=1000):Ok1 (.tup f.enc) "fields"
noncomputable def MB:Spw:=λws G Q _=>∃ v s,ws=[v,.str s]/\Ok1 v s/\Q (.bl true) G
theorem lG:Spw.M MB:=(by rintro a G Q b E c h _ ⟨v,s,h1,h2,q⟩;exact⟨v,s,h1,h2,h _ _ q⟩)
theorem BF{rest:GS}(h1:ω[1]?=some (some (.str s)))(h:if s=t then e ω G D.rt else rest D ω G):Af (gIf (gTB (Ad (Ae (eqF false)) f4 (gC (.str t)))) (Ai e) Aj) rest D ω G:=by
 simp only[Af,gIf,gTB,Ad,Ae,Ab,h1,gC,Bi];by_cases z:s=t
 ·rw[if_pos z]at h;rw[show(s==t)=true by simp[z]];exact h
 ·rw[if_neg z]at h;rw[show(s==t)=false by simpa using z];exact h
theorem IG(T:Tx K mg base a):Df P w K mg base "is_of_sort" 8 2 MB:=by
 refine mk0 T.i9 rfl SQ lG (λc G Q E⟨_,_,e,_⟩=>by rw[e];rfl) (lh T (ID T) (by lia) (CA T) (by lia) (Iu T) (by lia) (IE T) (by lia)) λc G Q E g q=>?_;obtain⟨v,s,rfl,h,q⟩:=q;cases h with
 | num i h =>
  exact BF rfl (⟨i,⟨rfl,h⟩,q⟩)
 | tru b =>
  exact BF rfl (BF rfl q)
 | nam x h =>
  have hl:=Ms h;refine BF rfl (BF rfl ?_);refine BF rfl (⟨x,⟨rfl,by lia⟩,?_⟩);dsimp only;rw[okn h];exact q
 | knd k h h2 =>
  have j:=Qm h2;refine BF rfl (BF rfl ?_);refine BF rfl (BF rfl ?_);refine⟨k,⟨rfl,h,by lia⟩,?_⟩;dsimp only;rw[h2];exact q
 | trm t =>
  exact BF rfl (BF rfl (BF rfl (BF rfl (BF rfl q))))
 | fld f h h2 d =>
  exact BF rfl (BF rfl (BF rfl (BF rfl (BF rfl (⟨f,⟨rfl,h,h2,d⟩,q⟩)))))
noncomputable def As.prs:As->List (W×Str)
 | .nil=>[]
 | .num i r=>(.int i,"number")::r.prs
 | .tru b r=>(.bl b,"truth")::r.prs
 | .nam x r=>(.str x,"name")::r.prs
 | .knd k r=>(k.enc,"kind")::r.prs
 | .trm t r=>(t.enc,"term")::r.prs
 | .fld f r=>(.tup f.enc,"fields")::r.prs
theorem E1:∀ r:As,Bm r.enc (r.sorts.map W.str)=r.prs.map λx=>.tup [x.1,.str x.2]
 | .nil=>rfl
 | .num _ r|.tru _ r|.nam _ r|.knd _ r|.trm _ r|.fld _ r=>Ql (_::·) (E1 r)
theorem E2:∀{r:As},r.ok=true->r.cnt<=1000->∀ x∈r.prs,Ok1 x.1 x.2
 | .nil,_,_,x,a=>by cases a
 | .num i r,h,hc,x,a=>by
  have h':(decide (-NB<=i/\i<=NB)&&r.ok)=true:=h;simp only[YF,YQ]at h';rcases Yo.mp a with rfl | a
  ·exact .num i h'.1
  ·exact E2 h'.2 hc x a
 | .tru b r,h,hc,x,a=>by
  rcases Yo.mp a with rfl | a
  ·exact .tru b
  ·exact E2 (r:=r) h hc x a
 | .nam y r,h,hc,x,a=>by
  have h':(AB y&&r.ok)=true:=h;simp only [YF] at h';rcases Yo.mp a with rfl | a
  ·exact .nam y h'.1
  ·exact E2 h'.2 hc x a
 | .knd k r,h,hc,x,a=>by
  have h':((k.ok&&Bl k)&&r.ok)=true:=h;simp only [YF] at h';rcases Yo.mp a with rfl | a
  ·exact .knd k h'.1.1 h'.1.2
  ·exact E2 h'.2 hc x a
 | .trm t r,h,hc,x,a=>by
  have h':(t.ok&&r.ok)=true:=h;have c:t.cnt+r.cnt<=1000:=hc;simp only [YF] at h';rcases Yo.mp a with rfl | a
  ·exact .trm t
  ·exact E2 h'.2 (by lia) x a
 | .fld f r,h,hc,x,a=>by
  have h':((A0 f.names&&f.ok)&&r.ok)=true:=h;have c:f.cnt+r.cnt<=1000:=hc;simp only [YF] at h';rcases Yo.mp a with rfl | a
  ·exact .fld f h'.1.2 h'.1.1 (by lia)
  ·exact E2 h'.2 (by lia) x a
theorem C0:∀ r:As,r.prs.length=r.sorts.length
 | .nil=>rfl
 | .num _ r|.tru _ r|.nam _ r|.knd _ r|.trm _ r|.fld _ r=>Ql (·+1) (C0 r)
theorem S8:∀(l:List (W×Str))(o o':Option W)(ys:List W),(∀ x∈l,Ok1 x.1 x.2)->ys.length+l.length<=1000->R (ys++l.map λ_=>.bl true) G->
  AU yes (AJ 0 1) AC (Ag MB XF si) R (l.map λx=>.tup [x.1,.str x.2]) [o,o'] G ys
 | [],o,o',ys,_,_,h=>⟨trivial,by rw[YH,Yx]at h;exact h⟩
 | x::l,o,o',ys,a,hl,h=>by
  rw[Yg]at hl;refine⟨trivial,Bf (by lia),⟨x.1,x.2,rfl,a x Ye,?_⟩⟩;refine S8 l _ _ _ (λz b=>a z (Yd _ b)) (by rw[Yj];simp only[Yg,Yi];lia) ?_;rw[Yv];exact h
theorem AG{rest:GS}(h:ge ω G λw a=>rest D (ω.set i (some w)) a):Af (Al i ge) rest D ω G:=h
theorem S9{rest:GS}(h:∀ Z:Bool->Hw->Prop,Z false G->c ω G Z)(h2:rest D ω G):Af (gIf c s Aj) rest D ω G:=h _ h2
noncomputable abbrev lH:Spw:=spR (λ(t:Te)ws _=>ws=[t.enc]/\t.ok=true/\t.cnt<=1000) λ_=>.bl true
theorem Ea(T:Tx K mg base a):Df P w K mg base "has_term_form" 9 1 lH:=by
 refine mk0 T.jd rfl SU Bb (λf G Q E⟨x,⟨e,_⟩,_⟩=>by rw[e];rfl) (lj T (BE T) (by lia) (IG T) (by lia)) λf G Q E h q=>?_;obtain⟨t,⟨rfl,d,hc⟩,q⟩:=q;cases t with
 | nd w r =>
 obtain⟨h1,h2⟩:=Br d;have hs:=Ca h1;have hl:=CY r;have g:1+r.cnt<=1000:=hc;show Af (gIf _ _ Aj) _ (AH Q) [some (.tup (.str w::r.enc)),none] G;refine S9 (λZ c=>?_) ?_
 ·simp only[gOr,gNt,AI,AR,Ab,Yb,Ad,Ae,gC,ixW,Bg];exact c
 refine AG ?_;simp only[Ag,Aa,Ad,Ae,Ab,gC,Yb,ixW,Bg];refine⟨w,rfl,?_⟩;dsimp only;rw[GC h1];simp only[Yk,Yl];refine S9 (λZ c=>?_) ?_
 ·simp only[gOr,gTB,Ad,Ae,Ab,gC,Yb,Yc,Ao,gB,rF,Aa,Ac,AK,B7,Aw,L3.BB];rw[BD]
  have e:((((W.str w::r.enc).length:Nat):Int)==1+(((r.sorts.map W.str).length:Nat):Int))=true:=by
   rw[Yh];simpa using(by lia)
  rw[e];exact c
 simp only[Ai,gB,rF,Aa,Ac];refine⟨r.enc,r.sorts.map W.str,?_,?_⟩
 ·rw[Dy];rfl
 rw[E1];refine S8 r.prs none none [] (E2 h2 (by lia)) (by rw[C0];simp only[Yi];lia) λp i=>?_;rw[Yw,show(λ_:W×Str=>W.bl true)=W.bl∘(λ_=>true)from rfl,<- YB];simp only[Be,CJ Ak,Option.bind_some,F6,YD];have b:(r.prs.map λ_=>true).all id=true:=by simp
 rw[b];exact h _ _ _ (AA i) q
noncomputable abbrev lI(mg:Str->Option Value):Spw:=spL (λ(l:List Te)ws G=>∃ p,ws=[.ref p,.ref (fAt mg "parts_of")]/\G p=some (.lst (l.map Te.enc))/\AL l<=10000/\∀ t∈l,t.ok=true) λl=>(l.flatMap Te.parts).map Te.enc
theorem Tc:∀(l:List Te)(o:Option W)(k0:W)(G:Hw)(a:List W),a.length+AL l<=20000->(∀ t∈l,t.ok=true)->p≠q0->G p=some (.lst a)->G q0=some (.lst items)->
  (∀ ω f,(∃ o',ω=[some k0,some (.ref j),some (.ref p),o'])->f p=some (.lst (a++(l.flatMap Te.parts).map Te.enc))->(∀ b,b≠p->∀ u,G b=some u->f b=some u)->D.nx ω f)->
  A9 (holds q0 items) (gNm 3) (AD (gMt AQ Cy kw (Aa (CU 1 j MA XF rK) Ac))) D (l.map Te.enc) [some k0,some (.ref j),some (.ref p),o] G
 | [],o,k0,G,a,_,_,d,i,g,e=>⟨g,e _ G ⟨o,rfl⟩ (by simpa using i) λ_ _ _ h=>h⟩
 | c::l,o,k0,G,a,hl,q,d,i,g,e=>by
  have x:a.length+(c.cnt+AL l)<=20000:=hl;have y:=S3 c;refine⟨g,?_⟩;show AD _ _ [some k0,some (.ref j),some (.ref p),some c.enc] G;walk_at "rd";refine⟨BW i,trivial,c,⟨rfl,q c Ye,by lia⟩,λr m=>?_⟩;have k:=A3 i m;have n:=A3 g m;refine Ir (by rw[Az k];exact i) Ak (by rw[Yh];exact AZ (by lia)) (Tc l (some c.enc) k0 _ (a++c.parts.map Te.enc) (by rw[Yj,Yh];lia) (λt w=>q t (Yd _ w)) d Ak ?_ ?_)
  ·rw[Az (YW d),Az n];exact g
  ·intro ω f hω h1 h2;refine e ω f hω (by rw[h1,Qc,Yy,Yv]) λb v u s=>h2 b v u ?_;rw[Az v,Az (A3 s m)];exact s
theorem lJ(T:Tx K mg base a):Df P w K mg base "layer_within" 3 2 (lI mg):=by
 refine mk0 T.Rp rfl Il BU ((by rintro m G Q E ⟨x,⟨p,e,_⟩,_⟩;rw[e];rfl)) (kN T (BV T) (by lia)) λm G Q E n q=>?_;obtain⟨l,⟨q0,rfl,h,hl,j⟩,q⟩:=q;unfold Sv;walk_at "rd";refine⟨by decide,λp i=>?_⟩;have d:=YW (A3 h i);have c:put G p (.lst []) q0=some (.lst (l.map Te.enc)):=by rw[Az (YW d)];exact h
 simp only[c];refine Tc l none (.ref q0) _ [] (by simp only[Yi];lia) j d Ak c ?_;intro ω k hω h1 h2;obtain⟨o',rfl⟩:=hω
 have hs:Sub (put G p (.lst ((l.flatMap Te.parts).map Te.enc))) k:=λb u f=>by
  by_cases g:b=p
  ·subst g;rw[Ak]at f;cases f;exact h1
  ·rw[Az g]at f;exact h2 b g u (by rw[Az g];exact f)
 exact n _ _ _ hs (q p i)
def tg(t:Te):Prop:=t.ok=true/\t.cnt<=40/\t.dp<=10
noncomputable abbrev lK(mg:Str->Option Value):Spw:=spR (λ(v:Te)ws _=>ws=[v.enc,.ref (fAt mg "has_term_form"),.ref (fAt mg "parts_of"),.int 40,.int 10]/\tg v) λ_=>.bl true
theorem lL(T:Tx K mg base a):Df P w K mg base "is_made_of" 10 5 (lK mg):=by
 refine mk0 T.Rq rfl Io Bb ((by rintro J G Q E ⟨x,⟨e,_⟩,_⟩;rw[e];rfl)) (kO T (Ea T) (by lia) (lJ T) (by lia)) λJ G Q E B q=>?_;obtain⟨v,⟨rfl,t,hc,hd⟩,q⟩:=q;unfold Sx;walk_at "rd";refine⟨by decide,λp F=>⟨λm ω o=>∃(l:List Te)(p:Addr)(c d:Nat),ω=[some v.enc,some (.ref (fAt mg "has_term_form")),some (.ref (fAt mg "parts_of")),some (.int 40),some (.int 10),some (.ref p),some (.int c),some (.int d)]/\o p=some (.lst (l.map Te.enc))/\Sub G o/\c+AL l=v.cnt/\d+tdp l=v.dp/\(∀ x∈l,x.ok=true)/\m=11 - d,⟨11,[v],p,0,0,rfl,Ak,AA F,?_,?_,?_,rfl⟩,?_⟩⟩
 ·show 0+(v.cnt+0)=v.cnt;lia
 ·show 0+max v.dp 0=v.dp;lia
 ·intro x D;rw[YA.mp D];exact t
 rintro m ω N ⟨l,p,c,d,rfl,hl,hs,L,R,hok,rfl⟩;have b:(l.map Te.enc).length=l.length:=Yh _;walk_at "rd";simp only[hl,Ao,b];cases l with
 | nil =>
  exact B _ _ _ hs q
 | cons x l =>
  have I:=S1 (x::l);have r:=S2 (x::l) (by simp);have s:(0:Int) <(((x::l).length:Nat):Int):=by simp only[Yg];lia
  simp only[s,decide_true,if_true,hl,Ao,b]
  have k:decide ((40:Int) <(c:Int)+(((x::l).length:Nat):Int))=false:=by
   rw[decide_eq_false_iff_not];lia
  have H:decide ((10:Int) <(d:Int)+1)=false:=by
   rw[decide_eq_false_iff_not];lia
  rw[k,H];refine E0 (f:=λ_=>.bl true) hl (x::l) none [] (λz i O u=>?_) (AZ (by simp only[Yi];lia)) ?_
  ·have A:=Gy i;exact⟨rfl,z,⟨rfl,hok z i,by lia⟩,u⟩
  ·intro p1 g;rw[Yw,show(λ_:Te=>W.bl true)=W.bl∘(λ_=>true)from rfl,<- YB];simp only[CJ Ak,Option.bind_some,F6,YD,Ao];have h:((x::l).map λ_=>true).all id=true:=by simp
   rw[h];refine⟨x::l,⟨p,rfl,by rw[Az (A3 hl g)];exact hl,by lia,hok⟩,λp2 n=>⟨11 -(d+1),by lia,(x::l).flatMap Te.parts,p2,c+(x::l).length,d+1,?_,Ak,?_,by lia,by lia,?_,rfl⟩⟩
   ·simp only[Int.natCast_add,Int.natCast_one]
   ·exact Bh (Bh hs g) n
   ·intro y j;obtain⟨z,i,j⟩:=List.mem_flatMap.mp j;exact CZ (hok z i) y j
noncomputable abbrev lM:Spw:=spR (λ(v:Te)ws _=>ws=[v.enc]/\tg v) λ_=>.bl true
theorem II(T:Tx K mg base a):Df P w K mg base "is_term" 11 1 lM:=by
 refine mk0 T.ji rfl SW Bb ((by rintro b G Q E ⟨x,⟨e,_⟩,_⟩;rw[e];rfl)) (lm T (Ea T) (by lia) (BV T) (by lia) (lL T) (Yr _)) λb G Q E c q=>?_;obtain⟨v,⟨rfl,h⟩,q⟩:=q;exact⟨v,⟨rfl,h⟩,q⟩
abbrev Td:List Str:=["term"]
theorem Tg:Ay Td ["term"] (Ap LJ):=by walk_at "s"
abbrev sw:=gTB (Ad (Ae (eqF false)) ef (gC (.str "kind")))
noncomputable def lN(Bn:Spw):GS:=(Ai (AM (BS (Aa (Ag Bn XF sM) (Aa r6 Ac))) 2 (AJ 0 1) sw f4))
theorem lO(T:Tx K mg base a){BE:Nat}(Iv:Df P w K mg base "form_of" BE 1 Bn)(Iw:BE<=k):Dn P w K mg base Td "told_by" LJ k (lN Bn):=by
 have hN:=Tg.nd;walk_at "z"
abbrev Th:List Str:=["term","found","part"]
theorem Ti:Ay Th ["term"] (Ap LK):=by walk_at "s"
noncomputable def lP(IM:Spw)(BL:Spw)(De:Spw):GS:=(Af (Al 1 (Ag IM XF ln)) (Af (AN (Ax (Ag BL XF ln)) (gNm 2) (AD (gMt AQ Cy f4 (Aa (Ag De XF rM) Ac)))) (Ai f4)))
theorem lQ(T:Tx K mg base a)(pU:Df P w K mg base "told_by" IN 1 IM)(pV:IN<=k){BV:Nat}(Mq:Df P w K mg base "parts_of" BV 1 BL)(Mr:BV<=k)(lR:Df P w K mg base "all_told" Ee 1 De)(lS:Ee<=k):Dn P w K mg base Th "all_told" LK k (lP IM BL De):=by
 have hN:=Ti.nd;walk_at "z"
abbrev Tj:List Str:=["term","kind","sorts"]
theorem Tl:Ay Tj ["term","kind"] (Ap LM):=by walk_at "s"
noncomputable def lU(Bn:Spw):GS:=(Af (Al 2 (Ag Bn XF sM)) (Ai (Ad (Aw) (Ah sM) (gB (rF Bv) (Aa (Bd (BS (Aa kw (Aa r6 Ac))) 2 [1] (AJ 0 1) AC (By sw kw f4)) Ac)))))
theorem lV(T:Tx K mg base a){BE:Nat}(Iv:Df P w K mg base "form_of" BE 1 Bn)(Iw:BE<=k):Dn P w K mg base Tj "with_kind" LM k (lU Bn):=by
 have hN:=Tl.nd;walk_at "z"
noncomputable abbrev Tn:List Str:=["term","parts","things","number","sort","thing"]
theorem To:Ay Tn ["term","parts"] (Ap LN):=by walk_at "s"
abbrev sg:=gC (.str "rec")
noncomputable abbrev rZ:=gTB (Ad (Ae (eqF false)) (Ab 4) (gC (.str "term")))
noncomputable def lW(Bn:Spw):GS:=(Af (gIf rN (Ai (Ah (Aa sg (Aa (gB (rF Bv) (Aa (AM (Le (Aa hH re)) 2 (AJ 0 1) AC (Ah (Aa ad re))) Ac)) Ac)))) Aj) (Af (Al 2 (An sM)) (Af (Al 3 eq) (Af (AN (BS (Aa (Ag Bn XF sM) (Aa r6 Ac))) (AJ 4 5) (Af (AD (gMt AQ A2 kw (Aa (By rZ (Ad (Ae ixW) f4 sm) sG) Ac))) (BP 3 BY (By rZ dl eq)))) (Ai (gB (rF Bv) rM))))))
theorem lX(T:Tx K mg base a){BE:Nat}(Iv:Df P w K mg base "form_of" BE 1 Bn)(Iw:BE<=k):Dn P w K mg base Tn "with_parts" LN k (lW Bn):=by
 have hN:=To.nd;walk_at "z"
abbrev Tq:List Str:=["term","bare"]
theorem Ts:Ay Tq ["term"] (Ap LO):=by walk_at "s"
abbrev na:=Ah (Aa (gC (.str "any")) Ac)
noncomputable def lY(BL:Spw)(B1:Spw)(IP:Spw)(IQ:Spw):GS:=(Af (Al 1 (Ag IP XF (Aa ef (Aa (AM (Ax (Ag BL XF ln)) 1 (gNm 0) AC (Ag B1 XF ln)) Ac)))) (Ai (Ag IQ XF (Aa f4 (Aa na Ac)))))
theorem lZ(T:Tx K mg base a){BV:Nat}(Mq:Df P w K mg base "parts_of" BV 1 BL)(Mr:BV<=k)(Tt:Df P w K mg base "without_kinds" CB 1 B1)(Tu:CB<=k)(pW:Df P w K mg base "with_parts" IR 2 IP)(pX:IR<=k)(pY:Df P w K mg base "with_kind" IS 2 IQ)(pZ:IS<=k):Dn P w K mg base Tq "without_kinds" LO k (lY BL B1 IP IQ):=by
 have hN:=Ts.nd;walk_at "z"
abbrev Tv:List Str:=["term"]
theorem Tw:Ay Tv ["term"] (Ap LP):=by walk_at "s"
noncomputable def l0(Dg:Spw)(B1:Spw):GS:=(Af (AD (Ag Dg XF ln)) (Ai (Ag B1 XF ln)))
theorem l6(T:Tx K mg base a)(l8:Df P w K mg base "check_term" Ef 1 Dg)(ma:Ef<=k)(Tt:Df P w K mg base "without_kinds" CB 1 B1)(Tu:CB<=k):Dn P w K mg base Tv "forgotten" LP k (l0 Dg B1):=by
 have hN:=Tw.nd;walk_at "z"
abbrev Tz:List Str:=["one","other"]
theorem TC:Ay Tz ["one","other"] (Ap LQ):=by walk_at "s"
noncomputable def TD(Dg:Spw)(B1:Spw)(De:Spw)(Cb:Spw):GS:=(Af (AD (Ag Dg XF ln)) (Af (AD (Ag Dg XF re)) (Af (gIf (gTB (Ad (Ae (eqF true)) (Ag B1 XF ln) (Ag B1 XF re))) le Aj) (Ai (gB (rF Be) (Aa (AM (B8 (Aa (Ag De XF ln) (Aa (Ag De XF re) Ac))) 2 (AJ 0 1) AC (Ag Cb XF si)) Ac))))))
theorem md(T:Tx K mg base a)(l8:Df P w K mg base "check_term" Ef 1 Dg)(ma:Ef<=k)(Tt:Df P w K mg base "without_kinds" CB 1 B1)(Tu:CB<=k)(lR:Df P w K mg base "all_told" Ee 1 De)(lS:Ee<=k)(TF:Df P w K mg base "is_less" C1 2 Cb)(TH:C1<=k):Dn P w K mg base Tz "less_term" LQ k (TD Dg B1 De Cb):=by
 have hN:=TC.nd;walk_at "z"
theorem BX{st:Stmt}(Fx:Fn K mg st x ps)(m:sp.M)(no:∀ a G Q E,¬ sp a G Q E):Df P w K mg base x k ps.length sp:=by
 obtain⟨f,fd,h1,F,c⟩:=Fx;exact⟨⟨f,fd,_,h1,F.kp,c,rfl,⟨(by rintro d H Q E ⟨a,G,t,r,q⟩;exact Qo q (no _ _ _ _)),(by rintro A outer s H b e d Q E _ _ _ _ ⟨a,G,t,r,q⟩;exact Qo q (no _ _ _ _))⟩⟩,m⟩
noncomputable abbrev gWd(t:Str):GT:=gTB (Ad (Ae (eqF false)) ef (gC (.str t)))
theorem MC:∀(l:List (W×Str))(o o':Option W)(ys:List W),ys.length+l.length<=1000->R (ys++(l.filter λx=>x.2==t).map (·.1)) G->
  AU yes (AJ 0 1) (gWd t) f4 R (l.map λx=>.tup [.str x.2,x.1]) [o,o'] G ys
 | [],o,o',ys,_,h=>⟨trivial,by rw[List.filter_nil,YH,Yx]at h;exact h⟩
 | x::l,o,o',ys,hl,h=>by
  rw[Yg]at hl;refine⟨trivial,Bf (by lia),?_⟩;show gWd t [some (.str x.2),some x.1] G _;simp only[gTB,Ad,Ae,Ab,gC,Yb,Bi];rw[List.filter_cons]at h;cases e:(x.2==t)with
  | true =>
   rw[e]at h;refine MC l _ _ (ys++[x.1]) (by rw[Yj];simp only[Yg,Yi];lia) ?_;rw[Yv];exact h
  | false =>
   rw[e]at h;exact MC l _ _ ys (by lia) h
theorem DC:∀ r:As,Bm (r.sorts.map W.str) r.enc=r.prs.map λx=>.tup [.str x.2,x.1]
 | .nil=>rfl
 | .num _ r|.tru _ r|.nam _ r|.knd _ r|.trm _ r|.fld _ r=>Ql (_::·) (DC r)
theorem E3:∀ r:As,(r.prs.filter λx=>x.2==("kind":Str)).map (·.1)=r.told.map Kd.enc
 | .nil=>rfl
 | .num _ r|.tru _ r|.nam _ r=>by exact E3 r
 | .knd k r=>by
  show(((k.enc,("kind":Str))::r.prs).filter λx=>x.2==("kind":Str)).map (·.1)=k.enc::r.told.map Kd.enc;rw[List.filter_cons,if_pos (show(("kind":Str)=="kind")=true by decide +kernel),Ym,E3 r]
 | .trm _ r|.fld _ r=>by exact E3 r
noncomputable abbrev mf:Spw:=spL (λ(t:Te)ws _=>ws=[t.enc]/\t.ok=true) λt=>t.told.map Kd.enc
theorem IN(T:Tx K mg base a):Df P w K mg base "told_by" 2 1 mf:=by
 refine mk0 T.jl rfl Tg BU (λb G Q E⟨x,⟨e,_⟩,_⟩=>by rw[e];rfl) (lO T (BE T) (Yr _)) λb G Q E d q=>?_;obtain⟨t,⟨rfl,c⟩,q⟩:=q;cases t with
 | nd w r =>
 obtain⟨h1,h2⟩:=Br c;have hs:=Ca h1;show Ai _ (AH Q) [some (.tup (.str w::r.enc))] G;simp only[Ai,AM,BS,Ag,Aa,Ad,Ae,Ab,gC,Yb,ixW,Bg];refine⟨w,rfl,⟨r.sorts.map W.str,r.enc,?_,?_⟩⟩
 ·rw[Dy];dsimp only;rw[GC h1];rfl
 ·rw[DC];refine MC r.prs none none [] (by rw[C0];simp only[Yi];lia) ?_;rw[E3];exact q
noncomputable def Bo:Nat->Te->List Kd
 | 0,_=>[]
 | n+1,t=>t.told++t.parts.flatMap (Bo n)
theorem E4:∀ r:As,r.told.length<=r.sorts.length
 | .nil=>Yr _
 | .num _ r|.tru _ r|.nam _ r=>Nat.le_succ_of_le (E4 r)
 | .knd _ r=>Nat.succ_le_succ (E4 r)
 | .trm _ r|.fld _ r=>Nat.le_succ_of_le (E4 r)
theorem IT{t:Te}(h:t.ok=true):t.told.length<=3:=by
 cases t with
 | nd w r=>exact Yt (E4 r) (Ca (Br h).1)
theorem MD:∀(n:Nat)(t:Te),t.ok=true->(Bo n t).length<=3*t.cnt
 | 0,t,_=>YV _
 | n+1,t,h=>by
  have f:=IT h;have b:=CZ h;have e:=Cp t
  have go:∀ l:List Te,(∀ c∈l,c.ok=true)->(l.flatMap (Bo n)).length<=3*AL l:=by
   intro l;induction l with
   | nil=>intro _;exact Yr _
   | cons c l a =>
    intro hl;have i:=MD n c (hl c Ye);have g:=a λd hd=>hl d (Yd _ hd);rw[Qc,Yj];show _<=3*(c.cnt+AL l);lia
  have:=go t.parts b;show(t.told++t.parts.flatMap (Bo n)).length<=_;rw[Yj];lia
noncomputable abbrev TJ(n:Nat):Spw:=spL (λ(t:Te)ws _=>ws=[t.enc]/\t.ok=true/\t.dp<=n/\t.cnt<=1000) λt=>(Bo n t).map Kd.enc
theorem TK:∀(l:List Te)(o:Option W)(k0:W)(G:Hw)(a:List W),(∀ c∈l,c.ok=true/\c.dp<=n)->a.length+3*AL l<=20000->AL l<=1000->p≠q0->G p=some (.lst a)->G q0=some (.lst items)->
  (∀ ω i,(∃ o',ω=[some k0,some (.ref p),o'])->i p=some (.lst (a++(l.flatMap (Bo n)).map Kd.enc))->(∀ b,b≠p->∀ u,G b=some u->i b=some u)->D.nx ω i)->
  A9 (holds q0 items) (gNm 2) (AD (gMt AQ Cy f4 (Aa (Ag (TJ n) XF rM) Ac))) D (l.map Te.enc) [some k0,some (.ref p),o] G
 | [],o,k0,G,a,_,_,_,f,k,j,g=>⟨j,g _ G ⟨o,rfl⟩ (by simpa using k) λ_ _ _ h=>h⟩
 | c::l,o,k0,G,a,hd,hl,hc,f,k,j,g=>by
  have x:c.cnt+AL l<=1000:=hc;have y:a.length+3*(c.cnt+AL l)<=20000:=hl;have e:=hd c Ye;have z:=MD n c e.1;refine⟨j,?_⟩;walk_at "rd";refine⟨BW k,c,⟨rfl,e.1,e.2,by lia⟩,λr q=>?_⟩;have m:=A3 k q;have s:=A3 j q;refine Ir (by rw[Az m];exact k) Ak (by rw[Yh];exact AZ (by lia)) (TK l (some c.enc) k0 _ (a++(Bo n c).map Kd.enc) (λd t=>hd d (Yd _ t)) (by rw[Yj,Yh];lia) (by lia) f Ak ?_ ?_)
  ·rw[Az (YW f),Az s];exact j
  ·intro ω i hω h1 h2;refine g ω i hω (by rw[h1,Qc,Yy,Yv]) λb w u v=>h2 b w u ?_;rw[Az w,Az (A3 v q)];exact v
theorem Ee(T:Tx K mg base a):∀ n:Nat,Df P w K mg base "all_told" (n+3) 1 (TJ n)
 | 0=>BX T.Rt BU λk G Q E⟨t,⟨_,_,hd,_⟩,_⟩=>by have:=Ed t;lia
 | n+1=>by
  refine mk0 T.Rt rfl Ti BU (λk G Q E⟨x,⟨e,_⟩,_⟩=>by rw[e];rfl) (lQ T (IN T) (by lia) (BV T) (by lia) (Ee T n) (Yr _)) λk G Q E m q=>?_;obtain⟨t,⟨rfl,j,hd,hc⟩,q⟩:=q;have s:=Cp t;have v:=CW t;have r:=IT j;refine⟨t,⟨rfl,j⟩,λp o=>⟨t,⟨rfl,j,by lia⟩,λq0 d=>?_⟩⟩;have i:=A3 Ak d;simp only[Ak];refine TK t.parts none t.enc _ (t.told.map Kd.enc) (λc h=>⟨CZ j c h,by have:=Gz h;lia⟩) (by rw[Yh];lia) (by lia) i (by rw[Az i];exact Ak) Ak ?_;intro ω l hω h1 h2;obtain⟨o',rfl⟩:=hω
  have hs:Sub (put G p (.lst ((Bo (n+1) t).map Kd.enc))) l:=λb u f=>by
   by_cases g:b=p
   ·subst g;rw[Ak]at f;cases f;rw[h1,<- Yy];rfl
   ·rw[Az g]at f;refine h2 b g u ?_;rw[Az (λz=>by subst z;rw[Az g]at d;rw[d]at f;cases f),Az g];exact f
  exact m _ _ _ hs (q p o)
def TN:Spw:=λws G Q _=>∃ t:Te,ws=[t.enc]/\tg t/\Q .non G
theorem mh:Spw.M TN:=(by rintro a G Q b E c h _ ⟨t,h1,h2,q⟩;exact⟨t,h1,h2,h _ _ q⟩)
theorem Ef(T:Tx K mg base a):Df P w K mg base "check_term" 12 1 TN:=by
 refine mkX T.jj rfl SY mh (λb G Q E⟨x,e,_⟩=>by rw[e];rfl) (lq T (II T) (by lia)) λb G Q E c d q=>?_;obtain⟨t,rfl,h,q⟩:=q;exact⟨t,⟨rfl,h⟩,q⟩
theorem TQ{α:Type}(xs:List α)(i:Nat):Bz xs none (some (i:Int))=xs.take i:=by
 unfold Bz;rw[HT.sIx_none,HT.sIx_nat,List.drop_zero,List.take_eq_take_iff];lia
theorem TR{α:Type}(xs:List α)(i:Nat):Bz xs (some (i:Int)) none=xs.drop i:=by
 unfold Bz;rw[HT.sIx_nat];rcases Nat.le_total i xs.length with h | h
 ·rw[Nat.min_eq_left h];exact List.take_of_length_le (by rw[List.length_drop];exact Yr _)
 ·rw[Nat.min_eq_right h,List.drop_of_length_le h];simp
theorem TU{α:Type}:∀(xs:List α)(i:Nat)(v:α),i < xs.length->xs.take i++[v]++xs.drop (i+1)=xs.set i v
 | [],i,v,h=>by cases h
 | x::xs,0,v,_=>rfl
 | x::xs,i+1,v,h=>by
  have a:=TU xs i v (by simpa using h);rw[Yl,<- a];rfl
noncomputable def Fs.withK:Fs->List Kd->Fs
 | .cons n m _ r,c::cs=>.cons n m c (r.withK cs)
 | fs,_=>fs
noncomputable def Kd.withK:Kd->List Kd->Kd
 | .to _ _,[x,y]=>.to x y
 | .box _,[x]=>.box x
 | .row fs o,cs=>.row (fs.withK cs) o
 | k,_=>k
theorem ME(h:G p=some (.lst ys)):Bv [.ref p] G=some (.tup ys):=by unfold Bv;dsimp only;rw[HY h];rfl
noncomputable def opn:Kd->List Kd
 | .row fs false=>[.row fs true]
 | _=>[]
noncomputable def lkS(f:Kd->List Kd)(k:Kd):Nat->List Kd->List Kd
 | _,[]=>[]
 | i,c::cs=>(f c).map (λd=>k.withK (k.kids.set i d))++lkS f k (i+1) cs
noncomputable def lk:Nat->Kd->List Kd
 | 0,_=>[]
 | n+1,k=>((if k.hd="any" then[]else[.any])++opn k)++lkS (lk n) k 0 k.kids
theorem TV(h:∀ c,(f c).length<=2*c.cnt):∀(l:List Kd)(i:Nat),(lkS f k i l).length<=2*AX l
 | [],_=>YV _
 | c::l,i=>by
  have h1:=h c;have h2:=TV (k:=k) h l (i+1);show((f c).map _++lkS f k (i+1) l).length<=2*(c.cnt+AX l);rw[Yj,Yh];lia
theorem GK:∀(n:Nat)(k:Kd),(lk n k).length<=2*k.cnt
 | 0,k=>YV _
 | n+1,k=>by
  have h1:=TV (k:=k) (GK n) k.kids 0;have h2:=D1 k;have a:(if k.hd="any" then([]:List Kd)else[.any]).length<=1:=by split <;> decide
  have b:(opn k).length<=1:=by
   cases k with
   | row fs o =>
    cases o with
    | false=>exact Yr 1
    | true=>exact YV _
   | _=>exact YV _
  show(((if k.hd="any" then([]:List Kd)else[.any])++opn k)++lkS (lk n) k 0 k.kids).length<=_;rw[Yj,Yj];lia
theorem CC(a:G p=some (.lst xs))(hl:xs.length < sizeLine)(q:Q .non (put G p (.lst (xs++[y])))):A2 (.ref p) [y] G Q:=by
 refine KI a ?_ q;rw[if_pos hl]
theorem B2(k:Kd)(G:Hw):ixW k.enc (.int 0) G=some (.str k.hd):=by
 obtain⟨xs,e⟩:=Gu k;rw[e];exact Bg
theorem GL{k:Kd}(h:k.hd="row"):∃ fs o,k=.row fs o:=by
 cases k <;> first | exact⟨_,_,rfl⟩| exact Qo h (by simp only[Kd.hd];decide)
local macro_rules | `(tactic| walk_at "k0") => `(tactic| simp only [Ag, Ab, gC, Aa, Ac, Yb, Yc, Yk, Yl])
noncomputable def As.withKd(k:Kd):As->As
 | .nil=>.nil
 | .num i r=>.num i (r.withKd k)
 | .tru b r=>.tru b (r.withKd k)
 | .nam x r=>.nam x (r.withKd k)
 | .knd _ r=>.knd k (r.withKd k)
 | .trm t r=>.trm t (r.withKd k)
 | .fld f r=>.fld f (r.withKd k)
def Te.withKd(k:Kd):Te->Te
 | .nd w r=>.nd w (r.withKd k)
theorem MF:∀(l:List (W×Str))(o o':Option W)(ys:List W),ys.length+l.length<=1000->R (ys++l.map λx=>if(x.2==("kind":Str))=true then v else x.1) G->
  AU yes (AJ 0 1) AC (By sw kw f4) R (l.map λx=>.tup [.str x.2,x.1]) [o,o',some v] G ys
 | [],o,o',ys,_,h=>⟨trivial,by rw[YH,Yx]at h;exact h⟩
 | x::l,o,o',ys,hl,h=>by
  rw[Yg]at hl;refine⟨trivial,Bf (by lia),?_⟩;simp only[AJ,Yk,Yl,By,gTB,Ad,Ae,Ab,gC,Yb,Bi];rw[Ym]at h;cases e:(x.2==("kind":Str))with
  | true =>
   rw[e]at h;refine MF l _ _ (ys++[v]) (by rw[Yj];simp only[Yg,Yi];lia) ?_;rw[Yv];exact h
  | false =>
   rw[e]at h;refine MF l _ _ (ys++[x.1]) (by rw[Yj];simp only[Yg,Yi];lia) ?_;rw[Yv];exact h
theorem Eg(k:Kd):∀ r:As,(r.prs.map λx=>if(x.2==("kind":Str))=true then k.enc else x.1)=(r.withKd k).enc
 | .nil=>rfl
 | .num i r|.tru b r|.nam x r|.knd j r|.trm t r|.fld f r=>by exact Ql (_::·) (Eg k r)
noncomputable abbrev mj:Spw:=spR (λ(x:Te×Kd)ws _=>ws=[x.1.enc,x.2.enc]/\x.1.ok=true) λx=>(x.1.withKd x.2).enc
theorem IS(T:Tx K mg base a):Df P w K mg base "with_kind" 2 2 mj:=by
 refine mk0 T.jq rfl Tl Bb (λws G Q E⟨x,⟨e,_⟩,_⟩=>by rw[e];rfl) (lV T (BE T) (Yr _)) λws G Q E hC q=>?_;obtain⟨⟨t,k⟩,⟨rfl,ho⟩,q⟩:=q;cases t with
 | nd w r =>
 obtain⟨h1,h2⟩:=Br ho;have hs:=Ca h1;show Af (Al 2 _) _ (AH Q) [some (.tup (.str w::r.enc)),some k.enc,none] G;refine AG ?_;walk_at "k1";refine⟨w,rfl,?_⟩;dsimp only;rw[GC h1];simp only[Ai,Ad,Ah,Aa,Ac,Ae,Ab,gC,Yb,ixW,Bg,gB];refine⟨(Qzz 1),⟨r.sorts.map W.str,r.enc,by rw[Dy];rfl,?_⟩⟩;rw[DC];refine MF r.prs none none [] (by rw[C0];simp only[Yi];lia) λp hp=>?_;rw[Yw,Eg];simp only[rF,ME Ak];have el:(r.withKd k).enc.length<=3:=by rw[<- Eg,Yh,C0];exact hs
 exact⟨AZ (by simp only[Yg,Yi];lia),hC _ _ _ (AA hp) q⟩
noncomputable def Fl.withT:Fl->List Te->Fl
 | .cons x _ r,u::us=>.cons x u (r.withT us)
 | f,_=>f
noncomputable def As.withPs:As->List Te->As
 | .nil,_=>.nil
 | .num i r,us=>.num i (r.withPs us)
 | .tru b r,us=>.tru b (r.withPs us)
 | .nam x r,us=>.nam x (r.withPs us)
 | .knd k r,us=>.knd k (r.withPs us)
 | .trm t r,u::us=>.trm u (r.withPs us)
 | .trm t r,[]=>.trm t r
 | .fld f r,us=>.fld (f.withT us) r
noncomputable def Te.withPs:Te->List Te->Te
 | .nd w r,us=>.nd w (r.withPs us)
theorem TX(b:gd G):∀(f:Fl)(a:List Te)(o o':Option W)(ys:List W),a.length=f.terms.length->ys.length+a.length<=1000->R (ys++(f.withT a).enc) G->
  AU gd (AJ 0 1) AC (Ah (Aa ad re)) R (Bm f.enc (a.map Te.enc)) [o,o'] G ys
 | .nil,[],o,o',ys,_,_,h=>⟨b,by have h':R (ys++[]) G:=h;rw[Yx]at h';exact h'⟩
 | .cons x t r,u::a,o,o',ys,hl,d,h=>by
  have c:a.length+1=r.terms.length+1:=hl;rw[Yg]at d;refine⟨b,Bf (by lia),⟨(Qzz 2),?_⟩⟩;refine TX b r a _ _ _ (by lia) (by rw[Yj];simp only[Yg,Yi];lia) ?_;rw[Yv];exact h
noncomputable def mix:List (W×Str)->List W->List W
 | [],_=>[]
 | x::l,us=>if(x.2==("term":Str))=true then us.headD x.1::mix l us.tail else x.1::mix l us
noncomputable def DD:List (W×Str)->Nat
 | []=>0
 | x::l=>(if(x.2==("term":Str))=true then 1 else 0)+DD l
noncomputable abbrev TY:GS:=Af (AD (gMt AQ A2 kw (Aa (By rZ (Ad (Ae ixW) f4 sm) sG) Ac))) (BP 3 BY (By rZ dl eq))
theorem MG(d:p≠q):∀(l:List (W×Str))(j:Nat)(o4 c:Option W)(G:Hw)(a:List W),j+DD l=vs.length->a.length+l.length<=1000->G p=some (.lst vs)->G q=some (.lst a)->
  (∀ i o4 c g,g q=some (.lst (a++mix l (vs.drop j)))->(∀ b,b≠q->∀ u,G b=some u->g b=some u)->D.nx [t,some (.ref p),some (.ref q),some (.int i),o4,c] g)->
  A9 yes (AJ 4 5) TY D (l.map λx=>.tup [.str x.2,x.1]) [t,some (.ref p),some (.ref q),some (.int (j:Int)),o4,c] G
 | [],j,o4,c,G,a,_,_,r,k,f=>⟨trivial,f _ o4 c G (by show G q=some (.lst (a++[]));rw[Yx];exact k) λ_ _ _ h=>h⟩
 | x::l,j,o4,c,G,a,w,hl,r,k,f=>by
  rw[Yg]at hl;have n:j+((if(x.2==("term":Str))=true then 1 else 0)+DD l)=vs.length:=w;refine⟨trivial,?_⟩;show TY _ [t,some (.ref p),some (.ref q),some (.int (j:Int)),some (.str x.2),some x.1] G;simp only[Af,AD,gMt,BP,By,gTB,Ad,Ae,Aa,Ac,Ab,gC,Yb,Yc,Bi,Ao];cases e:(x.2==("term":Str))with
  | true =>
   rw[e,if_pos rfl]at n;have m:j < vs.length:=by lia
   have v:ixW (.ref p) (.int (j:Int)) G=some vs[j]:=by rw[DZ r];exact CM (Yp m)
   simp only[show(true != false)=true from rfl,if_true,v,Ao];refine⟨BW k,CC k (Bf (by lia)) (MG (vs:=vs) d l (j+1) _ _ _ (a++[vs[j]]) (by lia) (by rw[Yj];simp only[Yg,Yi];lia) (by rw[Az d];exact r) Ak λi o4 c g h1 h2=>?_)⟩;refine f i o4 c g ?_ λb o u s=>h2 b o u (by rw[Az o];exact s);rw[h1,Yv];have y:=List.drop_eq_getElem_cons m;rw[y];show _=some (HW.lst (a++(if(x.2==("term":Str))=true then vs[j]::mix l (vs.drop (j+1))else _)));rw[e];rfl
  | false =>
   rw[e,if_neg (by decide)]at n;simp only[show(false != false)=false from rfl,Yq,if_false];refine⟨BW k,CC k (Bf (by lia)) (MG (vs:=vs) d l j _ _ _ (a++[x.1]) (by lia) (by rw[Yj];simp only[Yg,Yi];lia) (by rw[Az d];exact r) Ak λi o4 c g h1 h2=>?_)⟩;refine f i o4 c g ?_ λb o u s=>h2 b o u (by rw[Az o];exact s);rw[h1,Yv];show _=some (HW.lst (a++(if(x.2==("term":Str))=true then _ else x.1::mix l (vs.drop j))));rw[e];rfl
theorem WO{a:List W}(h:(s==("term":Str))=false):mix ((x,s)::l) a=x::mix l a:=by
 show(if(s==("term":Str))=true then _ else _)=_;rw[h,if_neg (by decide)]
theorem WP(h:(s==("term":Str))=false):DD ((x,s)::l)=DD l:=by
 show(if(s==("term":Str))=true then 1 else 0)+DD l=DD l;rw[h,if_neg (by decide),Nat.zero_add]
theorem JP:∀(r:As)(c:List Te),("fields":Str)∉r.sorts->c.length=r.parts.length->mix r.prs (c.map Te.enc)=(r.withPs c).enc/\DD r.prs=r.parts.length
 | .nil,c,_,_=>⟨rfl,rfl⟩
 | .num i r,c,d,hl|.tru i r,c,d,hl|.nam i r,c,d,hl|.knd i r,c,d,hl=>by
  obtain ⟨a,b⟩:=JP r c (fun z=>d (Yd _ z)) hl;exact ⟨(WO (by decide +kernel)).trans (Ql (_::·) a),(WP (by decide +kernel)).trans b⟩
 | .trm t r,u::c,d,hl=>by
  have e:c.length+1=r.parts.length+1:=hl;obtain⟨a,b⟩:=JP r c (λz=>d (Yd _ z)) (by lia);constructor
  ·show(if(("term":Str)=="term")=true then u.enc::mix r.prs (c.map Te.enc)else _)=u.enc::(r.withPs c).enc;rw[if_pos (by decide +kernel),a]
  ·show(if(("term":Str)=="term")=true then 1 else 0)+DD r.prs=r.parts.length+1;rw[if_pos (by decide +kernel)];lia
 | .trm t r,[],_,hl=>by cases hl
 | .fld f r,c,d,_=>Qo Ye d
noncomputable def TZ:Spw:=λws G Q _=>∃(t:Te)(p:Addr)(us:List Te),ws=[t.enc,.ref p]/\G p=some (.lst (us.map Te.enc))/\us.length=t.parts.length/\t.ok=true/\t.cnt<=900/\Q (t.withPs us).enc G
theorem ml:Spw.M TZ:=(by rintro e G Q f E g h _ ⟨k,p,d,h1,h2,b,c,a,q⟩;exact⟨k,p,d,h1,h2,b,c,a,h _ _ q⟩)
theorem IR(T:Tx K mg base a):Df P w K mg base "with_parts" 2 2 TZ:=by
 refine mk0 T.ju rfl To ml (λws G Q E⟨_,_,_,e,_⟩=>by rw[e];rfl) (lX T (BE T) (Yr _)) λws G Q E hC q=>?_;obtain⟨t,p,us,rfl,hp,hl,ho,hc,q⟩:=q;have htp:=S3 t;cases t with
 | nd w r =>
 obtain⟨h1,h2⟩:=Br ho;have hs:=Ca h1;show Af (gIf _ _ Aj) _ (AH Q) [some (.tup (.str w::r.enc)),some (.ref p),none,none,none,none] G;walk_at "k2";by_cases e:w="rec"
 ·rw[show(w==("rec":Str))=true by simp[e]];obtain⟨f,rfl⟩:=(B0 h1).1 e;have hl':us.length=(f.terms++[]).length:=hl;rw[Yx]at hl';simp only[Ai,Ah,Aa,Ac,gB];refine⟨f.enc,.ref p,us.map Te.enc,rfl,FE hp,TX (FE hp) f us none none [] hl' (by simp only[Yi];lia) λp1 hp1=>?_⟩;simp only[rF,ME Ak];refine⟨(Qzz 2),hC _ _ _ (AA hp1) ?_⟩;rw[e]at q;exact q
 ·rw[show(w==("rec":Str))=false by simpa using e];obtain⟨m1,m2⟩:=JP r us ((B0 h1).2 e) hl;refine AG ?_;simp only[An,Aa,Ad,Ae,Ab,gC,Yb,ixW,Bg];refine⟨(Qzz 1),λq0 hq0=>?_⟩;have hne:=A3 hp hq0;refine AG ?_;walk_at "k0";simp only[Af,AN,BS,Ag,Aa,Ad,Ae,Ab,gC,Yb,ixW,Bg];refine⟨w,rfl,⟨r.sorts.map W.str,r.enc,?_,?_⟩⟩
  ·rw[Dy];dsimp only;rw[GC h1];rfl
  rw[DC];refine MG (vs:=us.map Te.enc) hne r.prs 0 none none _ [.str w] (by rw[m2,Yh,Nat.zero_add];exact hl.symm) (by rw[C0];simp only[Yg,Yi];lia) (by rw[Az hne];exact hp) Ak λi o4 o5 G' g1 g2=>?_;simp only[Ai,gB,rF,Aa,Ac,Ab,Yb,Yc,ME g1];rw[List.drop_zero,m1]
  have hsb:Sub G G':=λb u hu=>by
   have hb:=A3 hu hq0;exact g2 b hb u (by rw[Az hb];exact hu)
  exact hC _ _ _ hsb q
noncomputable def ltS(f:Te->List Te)(t:Te):Nat->List Te->List Te
 | _,[]=>[]
 | i,c::cs=>(f c).map (λd=>t.withPs (t.parts.set i d))++ltS f t (i+1) cs
noncomputable def ltK(t:Te)(l:List Kd):List Te:=l.flatMap λk=>(lk 8 k).map λj=>t.withKd j
noncomputable def lt:Nat->Te->List Te
 | 0,_=>[]
 | n+1,t=>ltK t t.told++ltS (lt n) t 0 t.parts
theorem B3:∀{r:As},r.ok=true->∀ k∈r.told,k.ok=true/\k.cnt<=40/\k.dp<=8
 | .nil,_=>nofun
 | .num _ r,h | .nam _ r,h | .trm _ r,h | .fld _ r,h=>B3 (r:=r) (aR h)
 | .tru _ r,h=>B3 (r:=r) h
 | .knd k r,h=>λc hc=>(Yo.mp hc).elim (λe=>e▸⟨aL (aL h),Qm (aR (aL h))⟩) (B3 (r:=r) (aR h) c)
theorem MH:∀{t:Te},t.ok=true->∀ k∈t.told,k.ok=true/\k.cnt<=40/\k.dp<=8
 | .nd _ _,h=>B3 (aR h)
theorem MI:∀ l:List Kd,(∀ k∈l,k.ok=true/\k.cnt<=40/\k.dp<=8)->(ltK t l).length<=80*l.length
 | [],_=>YV _
 | k::l,h=>by
  have h1:=GK 8 k;have h2:=(h k Ye).2.1;have b:=MI (t:=t) l λj a=>h j (Yd _ a);show((lk 8 k).map _++ltK t l).length<=80*(l.length+1);rw[Yj,Yh];lia
theorem Eh:∀(n:Nat)(t:Te),t.ok=true->(lt n t).length<=240*t.cnt
 | 0,t,_=>YV _
 | n+1,t,h=>by
  have h1:=MI (t:=t) t.told (MH h);have f:=IT h;have b:=CZ h;have e:=Cp t
  have go:∀(l:List Te)(i:Nat),(∀ c∈l,c.ok=true)->(ltS (lt n) t i l).length<=240*AL l:=by
   intro l;induction l with
   | nil=>intro i _;exact YV _
   | cons c l a =>
    intro i hl;have j:=Eh n c (hl c Ye);have g:=a (i+1) λd hd=>hl d (Yd _ hd);show((lt n c).map _++ltS (lt n) t (i+1) l).length<=240*(c.cnt+AL l);rw[Yj,Yh];lia
  have:=go t.parts 0 b;show(ltK t t.told++ltS (lt n) t 0 t.parts).length<=_;rw[Yj];lia
noncomputable abbrev FM(n:Nat):Spw:=spL (λ(t:Te)ws _=>ws=[t.enc]/\t.ok=true/\t.dp<=n/\t.cnt<=40) λt=>(lt n t).map Te.enc
theorem MJ:∀ cs:List Nat,(cs.map λc:Nat=>(c:Int)).sum=((cs.sum:Nat):Int)
 | []=>rfl
 | c::cs=>by rw[Ym,List.sum_cons,List.sum_cons,MJ cs];lia
theorem T1:∀(cs:List Nat)(j:Nat),(cs.take j).sum<=cs.sum
 | [],j|c::cs,0=>by simp
 | c::cs,j+1=>by have:=T1 cs j;rw[List.take_succ_cons,List.sum_cons,List.sum_cons];lia
theorem T2:∀{cs:List Nat}{c:Nat},c∈cs->c<=cs.sum
 | d::cs,c,h=>by
  rw[List.sum_cons];rcases Yo.mp h with rfl | h
  ·lia
  ·have:=T2 h;lia
theorem T3(a:0<=i)(h1:i<=1000000):InLong i:=by unfold InLong;lia
theorem mm(cs:List Nat)(h:cs.sum<=1000000):PyProof.Rows.SumFits (cs.map λc:Nat=>(c:Int)):=by
 intro j a;rw[Yh]at a;refine⟨?_,?_⟩
 ·have e:(cs.map λc:Nat=>(c:Int)).getD j 0=(cs[j]:Int):=by rw[Qb,YO,Yp a];rfl
  have:=T2 (Qh a);exact T3 (by lia) (by lia)
 ·rw[<- List.map_take,MJ];have:=T1 cs (j+1);exact T3 (by lia) (by lia)
theorem mn{cs:List Nat}(h:cs.sum<=1000000)(a:G p=some (.lst (cs.map λc:Nat=>W.int (c:Int))))(q:Q (.int (cs.sum:Nat)) G):DT [.ref p] G Q:=by
 unfold DT;simp only[CJ a,Option.bind_some];rw[show(cs.map λc:Nat=>W.int (c:Int))=(cs.map λc:Nat=>(c:Int)).map W.int by rw[YB];rfl,L3.Lg];refine⟨mm cs h,?_⟩;rw[MJ];exact q
abbrev T4:List Str:=["term","places","more"]
theorem T5:Ay T4 ["term"] (Ap L6):=by walk_at "s"
abbrev sE:=Aa dl Ac
abbrev sx:=Aa h8 Ac
noncomputable def mo:GS:=(Af (gIf rN (Ai (AM (Ax hH) 1 (gNm 0) AC hH)) Aj) (Af (Al 1 (HV ["fun","call","get","or","if","plus","less"] (Aa (An (Aa rT Ac)) (Aa (An (Aa dl sx)) (Aa (An sE) (Aa (An (Aa dl (Aa rT Ac))) (Aa (An (Aa dl (Aa h8 (Aa rT Ac)))) (Aa (An (Aa dl sx)) (Aa (An (Aa dl sx)) Ac))))))))) (Af (Al 2 (HV ["new","read","write","as"] (Aa (An sE) (Aa (An sE) (Aa (An (Aa dl sx)) (Aa (An sE) Ac)))))) (Ai (Bd (Ax (gMt ET ES f4 (Aa ad (Aa (gMt ET ES kw (Aa ad (Aa (An Ac) Ac))) Ac)))) 1 [0] (gNm 0) AC (Ad (Ae ixW) f4 ef))))))
theorem mq(T:Tx K mg base a):Dn P w K mg base T4 "_law_parts" L6 k (mo):=by
 have hN:=T5.nd;walk_at "z"
abbrev T6:List Str:=["term","inner"]
theorem T7:Ay T6 ["term"] (Ap L8):=by walk_at "s"
abbrev sV:=Aa eq Ac
noncomputable def ms(IU:Spw)(Cc:Spw):GS:=(Af (Al 1 (Bd (Ax (Ag IU XF ln)) 1 [] (gNm 0) AC (Ag Cc XF ln))) (Ai (An (Aa (Ad (Aw) dl (gB (DT) (Aa (AM (Ax f4) 1 (gNm 0) AC ad) Ac))) (Aa (Ad (Aw) dl (gB (rF Gj) (Aa (Ad (Aw) (An sV) (AM (Ax f4) 1 (gNm 0) AC hH)) Ac))) Ac)))))
theorem mu(T:Tx K mg base a)(p0:Df P w K mg base "_law_parts" IV 1 IU)(p4:IV<=k)(T8:Df P w K mg base "_law_size" CD 1 Cc)(T9:CD<=k):Dn P w K mg base T6 "_law_size" L8 k (ms IU Cc):=by
 have hN:=T7.nd;walk_at "z"
noncomputable abbrev Ua:List Str:=["state","want","found","deep","more","size"]
theorem Ub:Ay Ua ["state","want"] (Ap L9):=by walk_at "s"
abbrev sN:=Aa se Ac
abbrev sh:=gC (.str "num")
noncomputable def mv(AS:Spw)(Cc:Spw)(Aq:Spw):GS:=(Af (Al 2 (Ah (Aa sh sV))) (Af (AN (Ax (An (Aa dl (Aa h8 (Aa h8 (Aa rT (Aa rT Ac))))))) (gNm 3) (Af (Al 4 (Ag AS XF (Aa ef (Aa f4 (Aa Ld rK))))) (Af (Al 5 (Ag Cc XF sN)) (gIf (AF (gTB (Ad (Ba (λi j=>decide (i<=j)) (λa b=>!AW b a)) (Ad (Ae ixW) sG eq) sS)) (AF (gTB (Ad (Ba (λi j=>decide (i<=j)) (λa b=>!AW b a)) (Ad (Ae ixW) sG dl) (gC (.int 10)))) (gOr (gTB (Ad (Ae (eqF false)) kw (Ah (Aa sh sV)))) (gTB (Ad (AV λi j=>decide (j < i)) (Ag Aq XF (Aa ef (Aa rT Ac))) eq))))) (Al 2 se) Aj)))) (Ai kw)))
theorem mw(T:Tx K mg base a)(IW:Df P w K mg base "_law_term" BH 4 AS)(IX:BH<=k)(T8:Df P w K mg base "_law_size" CD 1 Cc)(T9:CD<=k)(Dh:Df P w K mg base "_law_take" AO 2 Aq)(Di:AO<=k):Dn P w K mg base Ua "_law_drawn" L9 k (mv AS Cc Aq):=by
 have hN:=Ub.nd;walk_at "z"
noncomputable abbrev Uc:List Str:=["kind","found","k","name","mark","inner","less"]
theorem Ud:Ay Uc ["kind"] (Ap Ma):=by walk_at "s"
abbrev sL:=AE ef Au (Av kw)
abbrev sJ:=Av (Ad (Aw) kw dl)
abbrev sA:=Ad (Ae ixW) hH kw
abbrev sr:=Ad (Ae ixW) ef kw
noncomputable def mx(Dj:Spw):GS:=(Af (Al 1 (An Ac)) (Af (gIf (gTB (Ad (Ae (eqF true)) ef na)) (AD (gMt AQ A2 f4 (Aa na Ac))) Aj) (Af (gIf sO (Af (gIf (gNt (AI rL)) (AD (gMt AQ A2 f4 (Aa (Ah (Aa rQ (Aa hH (Aa rY Ac)))) Ac))) Aj) (AN (Dd (Aa (gB (rF AK) (Aa hH Ac)) Ac)) (gNm 2) (Af (HS (CT 3 4 5) sA) (AN (Ax (Ag Dj XF sd)) (gNm 6) (AD (gMt AQ A2 f4 (Aa (Ah (Aa rQ (Aa (Ad (Aw) (Ad (Aw) (AE hH Au (Av kw)) (Ah (Aa (Ah (Aa sm (Aa se (Aa sF Ac)))) Ac))) (AE hH sJ Au)) (Aa rL Ac)))) Ac))))))) (AN (FD (Aa dl (Aa rR Ac))) (gNm 2) (AN (Ax (Ag Dj XF (Aa sr Ac))) (gNm 6) (AD (gMt AQ A2 f4 (Aa (Ad (Aw) (Ad (Aw) sL (Ah (Aa sF Ac))) (AE ef sJ Au)) Ac)))))) (Ai f4))))
theorem my(T:Tx K mg base a)(mz:Df P w K mg base "_law_less_kinds" Ei 1 Dj)(mB:Ei<=k):Dn P w K mg base Uc "_law_less_kinds" Ma k (mx Dj):=by
 have hN:=Ud.nd;walk_at "z"
abbrev Ue:List Str:=["term","found","k","less","part"]
theorem Ug:Ay Ue ["term"] (Ap Mb):=by walk_at "s"
abbrev rP:=An (Aa (gC (.str "fun")) (Aa (gC (.str "as")) Ac))
abbrev sP:=gTB (Ad (Ae (inF false)) ad rP)
noncomputable def mC(Dj:Spw)(Dk:Spw):GS:=(Af (Al 1 (An Ac)) (Af (gIf sP (AN (Ax (Ag Dj XF (Aa rL Ac))) (gNm 3) (AD (gMt AQ A2 f4 (Aa (Ad (Aw) (Ad (Aw) (AE ef Au (Av h8)) (Ah rK)) (AE ef (Av rT) Au)) Ac)))) Aj) (Af (gIf rN (Af (AN (Dd (Aa (gB (rF AK) (Aa hH Ac)) Ac)) (gNm 2) (AN (Ax (Ag Dk XF (Aa (Ad (Ae ixW) sA dl) Ac))) (gNm 4) (AD (gMt AQ A2 f4 (Aa (Ah (Aa sg (Aa (Ad (Aw) (Ad (Aw) (AE hH Au (Av kw)) (Ah (Aa (Ah (Aa (Ad (Ae ixW) sA eq) sN)) Ac))) (AE hH sJ Au)) Ac))) Ac))))) (Ai f4)) Aj) (Af (AN (FD (Aa dl (Aa rR Ac))) (gNm 2) (gIf (AF (AI (AR "tuple" sr)) (gNt (AF (gTB (Ad (Ae (eqF false)) kw h8)) sP))) (AN (Ax (Ag Dk XF (Aa sr Ac))) (gNm 4) (AD (gMt AQ A2 f4 (Aa (Ad (Aw) (Ad (Aw) sL (Ah sN)) (AE ef sJ Au)) Ac)))) Aj)) (Ai f4)))))
theorem mD(T:Tx K mg base a)(mz:Df P w K mg base "_law_less_kinds" Ei 1 Dj)(mB:Ei<=k)(mE:Df P w K mg base "_law_less_terms" Ej 1 Dk)(mF:Ej<=k):Dn P w K mg base Ue "_law_less_terms" Mb k (mC Dj Dk):=by
 have hN:=Ug.nd;walk_at "z"
theorem C2{r:As}(h:r.sorts=[]):r=.nil:=by cases r <;> first | rfl | cases h
theorem mG{r:As}{a:List Str}(h:r.sorts=("number":Str)::a):∃ t r',r=.num t r'/\r'.sorts=a:=by cases r <;> first | exact⟨_,_,rfl,(Qk h).2⟩| exact Qo (Qk h).1 (by decide +kernel)| cases h
theorem mH{r:As}{a:List Str}(h:r.sorts=("truth":Str)::a):∃ t r',r=.tru t r'/\r'.sorts=a:=by cases r <;> first | exact⟨_,_,rfl,(Qk h).2⟩| exact Qo (Qk h).1 (by decide +kernel)| cases h
theorem FN{r:As}{a:List Str}(h:r.sorts=("name":Str)::a):∃ t r',r=.nam t r'/\r'.sorts=a:=by cases r <;> first | exact⟨_,_,rfl,(Qk h).2⟩| exact Qo (Qk h).1 (by decide +kernel)| cases h
theorem FO{r:As}{a:List Str}(h:r.sorts=("kind":Str)::a):∃ t r',r=.knd t r'/\r'.sorts=a:=by cases r <;> first | exact⟨_,_,rfl,(Qk h).2⟩| exact Qo (Qk h).1 (by decide +kernel)| cases h
theorem C3{r:As}{a:List Str}(h:r.sorts=("term":Str)::a):∃ t r',r=.trm t r'/\r'.sorts=a:=by cases r <;> first | exact⟨_,_,rfl,(Qk h).2⟩| exact Qo (Qk h).1 (by decide +kernel)| cases h
theorem FP{w:Str}{r:As}(h:KTD.datumAt w AT=some r.sorts)(g:w≠"rec"):(w="num"/\∃ i,r=.num i .nil)\/(w="truth"/\∃ b,r=.tru b .nil)\/(w="name"/\∃ x,r=.nam x .nil)\/(w="fun"/\∃ x k t,r=.nam x (.knd k (.trm t .nil)))\/(w="get"/\∃ t x,r=.trm t (.nam x .nil))\/(w="or"/\∃ t x u,r=.trm t (.nam x (.trm u .nil)))\/(w="if"/\∃ t u v,r=.trm t (.trm u (.trm v .nil)))\/(w="as"/\∃ t k,r=.trm t (.knd k .nil))\/((w="new"\/w="read")/\∃ t,r=.trm t .nil)\/((w="call"\/w="plus"\/w="less"\/w="write")/\∃ t u,r=.trm t (.trm u .nil)):=by
 have f:=GF h
 have two:∀{r:As},r.sorts=[("term":Str),"term"]->∃ t u,r=.trm t (.trm u .nil):=λe=>by
  obtain⟨t,r1,rfl,a⟩:=C3 e;obtain⟨u,d,rfl,c⟩:=C3 a;rw[C2 c];exact⟨t,u,rfl⟩
 have one:∀{r:As},r.sorts=[("term":Str)]->∃ t,r=.trm t .nil:=λe=>by
  obtain⟨t,r1,rfl,a⟩:=C3 e;rw[C2 a];exact⟨t,rfl⟩
 simp only[AT,Yo,Prod.mk.injEq,Qa,or_false]at f;rcases f with⟨rfl,e⟩|⟨rfl,e⟩|⟨rfl,e⟩|⟨rfl,e⟩|⟨rfl,e⟩|⟨rfl,e⟩|⟨rfl,e⟩|⟨rfl,e⟩|⟨rfl,e⟩|⟨rfl,e⟩|⟨rfl,e⟩|⟨rfl,e⟩|⟨rfl,e⟩|⟨rfl,e⟩|⟨rfl,e⟩
 ·obtain⟨i,r1,rfl,a⟩:=mG e;rw[C2 a];exact .inl ⟨rfl,i,rfl⟩
 ·obtain⟨i,r1,rfl,a⟩:=mH e;rw[C2 a];exact .inr (.inl ⟨rfl,i,rfl⟩)
 ·obtain⟨i,r1,rfl,a⟩:=FN e;rw[C2 a];exact .inr (.inr (.inl ⟨rfl,i,rfl⟩))
 ·obtain⟨x,r1,rfl,a⟩:=FN e;obtain⟨k,d,rfl,c⟩:=FO a;obtain⟨t,rfl⟩:=one c;exact .inr (.inr (.inr (.inl ⟨rfl,x,k,t,rfl⟩)))
 ·exact .inr (.inr (.inr (.inr (.inr (.inr (.inr (.inr (.inr ⟨.inl rfl,two e⟩))))))))
 ·exact Qo rfl g
 ·obtain⟨t,r1,rfl,a⟩:=C3 e;obtain⟨x,d,rfl,c⟩:=FN a;rw[C2 c];exact .inr (.inr (.inr (.inr (.inl ⟨rfl,t,x,rfl⟩))))
 ·obtain⟨t,r1,rfl,a⟩:=C3 e;obtain⟨x,d,rfl,c⟩:=FN a;obtain⟨u,rfl⟩:=one c;exact .inr (.inr (.inr (.inr (.inr (.inl ⟨rfl,t,x,u,rfl⟩)))))
 ·obtain⟨t,r1,rfl,a⟩:=C3 e;obtain⟨u,v,rfl⟩:=two a;exact .inr (.inr (.inr (.inr (.inr (.inr (.inl ⟨rfl,t,u,v,rfl⟩))))))
 ·exact .inr (.inr (.inr (.inr (.inr (.inr (.inr (.inr (.inr ⟨.inr (.inl rfl),two e⟩))))))))
 ·exact .inr (.inr (.inr (.inr (.inr (.inr (.inr (.inr (.inr ⟨.inr (.inr (.inl rfl)),two e⟩))))))))
 ·exact .inr (.inr (.inr (.inr (.inr (.inr (.inr (.inr (.inl ⟨.inl rfl,one e⟩))))))))
 ·exact .inr (.inr (.inr (.inr (.inr (.inr (.inr (.inr (.inl ⟨.inr rfl,one e⟩))))))))
 ·exact .inr (.inr (.inr (.inr (.inr (.inr (.inr (.inr (.inr ⟨.inr (.inr (.inr rfl)),two e⟩))))))))
 ·obtain⟨t,r1,rfl,a⟩:=C3 e;obtain⟨k,d,rfl,c⟩:=FO a;rw[C2 c];exact .inr (.inr (.inr (.inr (.inr (.inr (.inr (.inl ⟨rfl,t,k,rfl⟩)))))))
noncomputable def MK:List Int->GA
 | []=>Ac
 | i::r=>Aa (gC (.int i)) (MK r)
noncomputable def Uh:List (List Int)->GA
 | []=>Ac
 | l::r=>Aa (An (MK l)) (Uh r)
theorem Ui:∀(l:List Int)(R:List W->Hw->Prop),R (l.map W.int) G->MK l ω G R
 | [],R,h=>h
 | i::l,R,h=>Ui l (λxs a=>R (W.int i::xs) a) h
noncomputable def LL(G:Hw):List W->List (List Int)->Prop
 | [],[]=>True
 | p::ps,l::ls=>(∃ a,p=.ref a/\G a=some (.lst (l.map W.int)))/\LL G ps ls
 | _,_=>False
theorem LL.mono(s:Sub G c):∀{ps:List W}{b:List (List Int)},LL G ps b->LL c ps b
 | [],[],_=>trivial
 | p::ps,l::b,h=>by
  obtain⟨⟨a,e,g⟩,h⟩:=h;exact⟨⟨a,e,s _ _ g⟩,LL.mono s h⟩
theorem ML:∀(a:List (List Int))(G:Hw)(R:List W->Hw->Prop),(∀ l∈a,l.length<=10)->(∀ ps b,Sub G b->LL b ps a->R ps b)->Uh a ω G R
 | [],G,R,_,h=>h [] G Sub.refl trivial
 | l::a,G,R,hl,h=>by
  have h1:=hl l Ye;exact Ui l _ ⟨by rw[Yh];exact AZ (by lia),λp d=>ML a _ _ (λm c=>hl m (Yd _ c)) λps b s h2=>h (.ref p::ps) b ((AA d).trans s) ⟨⟨p,rfl,s _ _ Ak⟩,h2⟩⟩
noncomputable def plc:List Str->List (List Int)->Str->Option (List Int)
 | k::ks,l::ls,x=>if k=x then some l else plc ks ls x
 | _,_,_=>none
theorem MM:∀{ks:List Str}{b:List (List Int)}{ps:List W},LL G ps b->ks.length=b.length->(∀ l,plc ks b x=some l->∃ a,BA (kvW ks ps) x d=.ref a/\G a=some (.lst (l.map W.int)))/\(plc ks b x=none->BA (kvW ks ps) x d=d)
 | [],[],[],_,_=>⟨(λl h=>by cases h),λ_=>rfl⟩
 | k::ks,l::b,p::ps,h,hl=>by
  obtain⟨⟨a,rfl,g⟩,h⟩:=h;have c:=MM (x:=x) (d:=d) h (by simpa using hl)
  have i:BA (kvW (k::ks) (W.ref a::ps)) x d=if k=x then .ref a else BA (kvW ks ps) x d:=by
   show BA ((Sum.inr k,W.ref a)::kvW ks ps) x d=_;rw[DY];by_cases e:k=x
   ·rw[if_pos e,if_pos (by rw[e])]
   ·rw[if_neg e,if_neg λz=>e (Sum.inr.inj z)]
  have j:plc (k::ks) (l::b) x=if k=x then some l else plc ks b x:=rfl
  rw[i,j];by_cases e:k=x
  ·rw[if_pos e,if_pos e];exact⟨(λm f=>by cases f;exact⟨a,rfl,g⟩),λz=>by cases z⟩
  ·rw[if_neg e,if_neg e];exact c
noncomputable abbrev K7:List Str:=["fun","call","get","or","if","plus","less"]
noncomputable abbrev L7:List (List Int):=[[3],[1,2],[1],[1,3],[1,2,3],[1,2],[1,2]]
abbrev K4:List Str:=["new","read","write","as"]
abbrev L4:List (List Int):=[[1],[1],[1,2],[1]]
noncomputable def DX(w:Str):List Int:=(plc K7 L7 w).getD ((plc K4 L4 w).getD [])
theorem map_some{α β:Type}{g:α->Option β}{d:β}:∀{l:List α}{ys:List β},l.map g=ys.map some->(∀ i∈l,g i=some ((g i).getD d))/\l.map (λi=>(g i).getD d)=ys
 | [],[],_=>⟨(λi hi=>by cases hi),rfl⟩
 | x::l,y::ys,h=>by
  obtain⟨h1,h2⟩:=Qk h;obtain⟨a,b⟩:=map_some h2;constructor
  ·intro i hi;rcases Yo.mp hi with rfl | hi
   ·rw[h1];rfl
   ·exact a i hi
  ·rw[Ym,b,h1];rfl
 | [],y::ys,h|x::l,[],h=>by cases h
theorem mI{w:Str}{r:As}(h:KTD.datumAt w AT=some r.sorts)(a:w≠"rec"):(DX w).map (atI (.str w::r.enc))=(r.parts.map Te.enc).map some:=by
 rcases FP h a with⟨rfl,i,rfl⟩|⟨rfl,i,rfl⟩|⟨rfl,i,rfl⟩|⟨rfl,x,k,t,rfl⟩|⟨rfl,t,x,rfl⟩|⟨rfl,t,x,u,rfl⟩|⟨rfl,t,u,v,rfl⟩|⟨rfl,t,k,rfl⟩|⟨rfl | rfl,t,rfl⟩|⟨rfl | rfl | rfl | rfl,t,u,rfl⟩
 ·rfl
 ·rfl
 ·rfl
 ·rfl
 ·rfl
 ·rfl
 ·rfl
 ·rfl
 ·rfl
 ·rfl
 ·rfl
 ·rfl
 ·rfl
 ·rfl
theorem IV(T:Tx K mg base a):Df P w K mg base "_law_parts" 1 1 MA:=by
 refine mk0 T.jX rfl T5 BU (λws G Q E⟨x,⟨e,_⟩,_⟩=>by rw[e];rfl) (mq T) λws G Q E hC q=>?_;obtain⟨t,⟨rfl,ho,hc⟩,q⟩:=q;cases t with
 | nd w r =>
 obtain⟨h1,h2⟩:=Br ho;show Af (gIf _ _ Aj) _ (AH Q) [some (.tup (.str w::r.enc)),none,none] G;walk_at "k2";by_cases e:w="rec"
 ·rw[show(w==("rec":Str))=true by simp[e]];obtain⟨f,rfl⟩:=(B0 h1).1 e;have hc':1+(f.cnt+0)<=20000:=hc;have hf:=GJ f;have h2':((A0 f.names&&f.ok)&&true)=true:=h2;simp only[Bool.and_true,YF]at h2';refine Cz (f:=IL) trivial f.enc none [] (λx hx Q' q'=>?_) (by simp only[Yi];exact AZ (by lia)) ?_
  ·obtain⟨n,u,rfl,_⟩:=GH h2'.2 hx;exact q'
  ·rw[My];have q':∀ p,G p=none->Q (.ref p) (put G p (.lst ((f.terms++[]).map Te.enc))):=q;rw[Yx]at q';exact q'
 ·rw[show(w==("rec":Str))=false by simpa using e];obtain⟨m1,m2⟩:=map_some (mI h1 e)
  have hpl:(DX w).length<=10:=by
   have z:=Ql List.length m2;rw[Yh,Yh]at z
   have s3:r.parts.length<=3:=by
    rcases FP h1 e with⟨_,i,rfl⟩|⟨_,i,rfl⟩|⟨_,i,rfl⟩|⟨_,x,k,t,rfl⟩|⟨_,t,x,rfl⟩|⟨_,t,x,u,rfl⟩|⟨_,t,u,v,rfl⟩|⟨_,t,k,rfl⟩|⟨_,t,rfl⟩|⟨_,t,u,rfl⟩ <;> first | exact(show(0:Nat)<=3 by decide)| exact(show(1:Nat)<=3 by decide)| exact(show(2:Nat)<=3 by decide)| exact(show(3:Nat)<=3 by decide)
   lia
  refine AG (ML L7 G _ (by decide) λps7 G1 s1 l7=>⟨by decide +kernel,λd7 hd7=>?_⟩);have s2:=Bh (o:=.dct (kvW K7 ps7)) s1 hd7;have l7':=l7.mono (AA (o:=.dct (kvW K7 ps7)) hd7);have g7:put G1 d7 (.dct (kvW K7 ps7)) d7=some (.dct (kvW K7 ps7)):=Ak;generalize put G1 d7 (.dct (kvW K7 ps7))=G2 at s2 l7' g7 ⊢;refine AG (ML L4 G2 _ (by decide) λps4 G3 s3 l4=>⟨by decide +kernel,λd4 hd4=>?_⟩);simp only[Yl];have s4:=Bh (o:=.dct (kvW K4 ps4)) s3 hd4;have l4':=l4.mono (AA (o:=.dct (kvW K4 ps4)) hd4);have g4:put G3 d4 (.dct (kvW K4 ps4)) d4=some (.dct (kvW K4 ps4)):=Ak;generalize put G3 d4 (.dct (kvW K4 ps4))=G4 at s4 l4' g4 ⊢;simp only[Ai,Bd,Ax,gMt,BG,Ad,Ae,Aa,Ab,gC,Ym,List.replicate,List.cons_append,Yw,Yb,Option.getD_some,ixW,Bg];refine⟨⟨d7,_,rfl,s4 _ _ g7⟩,⟨d4,_,rfl,g4⟩,by decide,λp hp=>?_⟩;have s5:Sub G4 (put G4 p (.lst [])):=AA hp;have l4'':=l4'.mono s5;have l7'':=(l7'.mono s4).mono s5;refine⟨d4,kvW K4 ps4,w,.ref p,rfl,rfl,s5 _ _ g4,d7,kvW K7 ps7,w,_,rfl,rfl,s5 _ _ (s4 _ _ g7),?_⟩
  obtain⟨b,eb,gb⟩:∃ b,BA (kvW K7 ps7) w (BA (kvW K4 ps4) w (.ref p))=.ref b/\put G4 p (.lst []) b=some (.lst ((DX w).map W.int)):=by
   unfold DX;obtain⟨a1,a2⟩:=MM (ks:=K7) l7'' rfl;cases h7:plc K7 L7 w with
   | some l=>exact a1 l h7
   | none =>
    rw[a2 h7];obtain⟨b1,b2⟩:=MM (ks:=K4) l4'' rfl;cases h4:plc K4 L4 w with
    | some l=>exact b1 l h4
    | none=>rw[b2 h4];exact⟨p,rfl,Ak⟩
  rw[eb];simp only[gb];refine E0 (f:=λi=>(atI (.str w::r.enc) i).getD .non) gb (DX w) none [] (λi hi Q' q'=>?_) (AZ (by simp only[Yi];lia)) λp1 hp1=>?_
  ·walk_at "k1";rw[m1 i hi];exact q'
  ·rw[m2];have sb:=s2.trans (s4.trans s5)
   have hn:G p1=none:=by
    cases z:G p1 with
    | none=>rfl
    | some u=>rw[sb _ _ z]at hp1;cases hp1
   exact hC _ _ _ (Sub.put2 sb) (q p1 hn)
def two(s:Str):Bool:=[("fun":Str),"as"].any (·==s)
theorem MN(s:Str)(h:G p=some (.lst [.str "fun",.str "as"])):inF false (.str s) (.ref p) G=some (.bl (two s)):=by
 unfold inF;rw[HY h];show some (W.bl (inV (.str s) ([("fun":Str),"as"].map V.str)))=_;rfl
theorem mJ{w:Str}{r:As}(h:KTD.datumAt w AT=some r.sorts):(two w=true/\∃ k,r.told=[k]/\atI (.str w::r.enc) 2=some k.enc)\/(two w=false/\r.told=[]):=by
 by_cases e:w="rec"
 ·obtain⟨f,rfl⟩:=(B0 h).1 e;subst e;exact .inr ⟨by decide +kernel,rfl⟩
 rcases FP h e with⟨rfl,i,rfl⟩|⟨rfl,i,rfl⟩|⟨rfl,i,rfl⟩|⟨rfl,x,k,t,rfl⟩|⟨rfl,t,x,rfl⟩|⟨rfl,t,x,u,rfl⟩|⟨rfl,t,u,v,rfl⟩|⟨rfl,t,k,rfl⟩|⟨rfl | rfl,t,rfl⟩|⟨rfl | rfl | rfl | rfl,t,u,rfl⟩ <;> first | exact .inr ⟨by decide +kernel,rfl⟩| exact .inl ⟨by decide +kernel,_,rfl,rfl⟩
noncomputable def SZ(G:Hw):List W->List Te->Prop
 | [],[]=>True
 | p::ps,t::ts=>(∃ b,p=.ref b/\G b=some (.lst [.int (t.cnt:Nat),.int (t.dp:Nat)]))/\SZ G ps ts
 | _,_=>False
theorem SZ.mono{a:Hw}(s:Sub G a):∀{ps:List W}{ts:List Te},SZ G ps ts->SZ a ps ts
 | [],[],_=>trivial
 | p::ps,t::ts,h=>by
  obtain⟨⟨b,e,g⟩,h⟩:=h;exact⟨⟨b,e,s _ _ g⟩,SZ.mono s h⟩
theorem SZ.len:∀{ps:List W}{ts:List Te},SZ G ps ts->ps.length=ts.length
 | [],[],_=>rfl
 | p::ps,t::ts,h=>Ql (·+1) (SZ.len h.2)
noncomputable abbrev IY(n:Nat):Spw:=spL (λ(t:Te)ws _=>ws=[t.enc]/\t.ok=true/\t.dp<=n/\t.cnt<=20000) λt=>[.int (t.cnt:Nat),.int (t.dp:Nat)]
theorem Uj:∀(l:List Te)(o:Option W)(G:Hw)(ys:List W),(∀ t∈l,t.ok=true/\t.dp<=n/\t.cnt<=20000)->ys.length+l.length<=30000->G q=some (.lst items)->(∀ ps a,Sub G a->SZ a ps l->R (ys++ps) a)->
  AU (holds q items) (gNm 0) AC (Ag (IY n) XF ln) R (l.map Te.enc) [o] G ys
 | [],o,G,ys,_,_,c,r=>⟨c,by have h:=r [] G Sub.refl trivial;rw[Yx]at h;exact h⟩
 | t::l,o,G,ys,d,hl,c,r=>by
  rw[Yg]at hl;refine⟨c,Bf (by lia),⟨t,⟨rfl,d t Ye⟩,λb e=>?_⟩⟩;refine Uj l _ _ (ys++[.ref b]) (λu f=>d u (Yd _ f)) (by rw[Yj];simp only[Yg,Yi];lia) (AA e _ _ c) λps a s h=>?_;rw[Yv];exact r (.ref b::ps) a ((AA e).trans s) ⟨⟨b,rfl,s _ _ Ak⟩,h⟩
theorem MO(a:G q=some (.lst items))(c:∀ t:Te,atI [W.int (t.cnt:Nat),.int (t.dp:Nat)] i=some (f t)):∀(ps:List W)(l:List Te)(o:Option W)(ys:List W),SZ G ps l->ys.length+l.length<=30000->R (ys++l.map f) G->
  AU (holds q items) (gNm 0) AC (Ad (Ae ixW) ef (gC (.int i))) R ps [o] G ys
 | [],[],o,ys,_,_,r=>⟨a,by rw[YH,Yx]at r;exact r⟩
 | p::ps,t::l,o,ys,h,hl,r=>by
  obtain⟨⟨b,rfl,g⟩,h⟩:=h;rw[Yg]at hl;refine⟨a,Bf (by lia),?_⟩;simp only[gNm,AC,Yk,Ad,Ae,Ab,gC,Yb];rw[DZ g,c t];refine MO a c ps l _ _ h (by rw[Yj];simp only[Yg,Yi];lia) ?_;rw[Yv];exact r
theorem mK(x y:Int)(r:List Int):Ck (x::y::r)=max x (Ck (y::r)):=rfl
theorem Uk:∀(l:List Te)(x:Int),0<=x->Ck (x::l.map λc=>(c.dp:Int))=max x (tdp l:Int)
 | [],x,h=>by show x=max x ((0:Nat):Int);lia
 | c::l,x,h=>by
  rw[Ym,mK,Uk l (c.dp:Int) (by lia)];show max x (max (c.dp:Int) (tdp l:Int))=max x ((max c.dp (tdp l):Nat):Int);lia
theorem Ul:∀ l:List Te,AL l=(l.map Te.cnt).sum
 | []=>rfl
 | k::l=>by rw[Ym,List.sum_cons,<- Ul l];rfl
theorem CD(T:Tx K mg base a):∀ n:Nat,Df P w K mg base "_law_size" (n+2) 1 (IY n)
 | 0=>BX T.Rz BU λI G Q E⟨k,⟨_,_,hd,_⟩,_⟩=>by have:=Ed k;lia
 | n+1=>by
  refine mk0 T.Rz rfl T7 BU (λI G Q E⟨x,⟨e,_⟩,_⟩=>by rw[e];rfl) (mu T (IV T) (by lia) (CD T n) (Yr _)) λI G Q E Z q=>?_;obtain⟨t,⟨rfl,F,hd,hc⟩,q⟩:=q;have e1:=Cp t;have e2:=CW t;have S:=IK t.parts;show Af (Al 1 _) _ (AH Q) [some t.enc,none] G;refine AG (⟨t,⟨rfl,F,by lia⟩,λp hp=>?_⟩);simp only[Ak];refine Uj t.parts none _ [] (λc b=>⟨CZ F c b,by have:=Gz b;lia,by have:=Gy b;lia⟩) (by simp only[Yi];lia) Ak λps J U hs p1 r=>?_;rw[Yw];simp only[Yk,Yl];have O:=(AA hp).trans U;have L:=Bh (o:=.lst ps) O r;have g:=hs.mono (AA (o:=.lst ps) r);have g1:put J p1 (.lst ps) p1=some (.lst ps):=Ak;generalize put J p1 (.lst ps)=G2 at L g g1 ⊢;simp only[Ai,An,Ad,gB,AM,Ax,Aa,Ac,Ab,gC,Yb,Yc,g1];refine MO g1 (λt=>rfl) ps t.parts none [] g (by simp only[Yi];lia) λp2 d=>?_;rw[Yw,show(t.parts.map λt=>W.int (t.cnt:Nat))=(t.parts.map Te.cnt).map λc:Nat=>W.int (c:Int) by rw[YB];rfl];have i:=Ul t.parts;refine mn (by lia) Ak ?_;rw[<- i];have H:=Bh (o:=.lst ((t.parts.map Te.cnt).map λc:Nat=>W.int (c:Int))) L d;have j:=g.mono (AA (o:=.lst ((t.parts.map Te.cnt).map λc:Nat=>W.int (c:Int))) d);have g2:=AA (o:=.lst ((t.parts.map Te.cnt).map λc:Nat=>W.int (c:Int))) d _ _ g1;generalize put G2 p2 (.lst ((t.parts.map Te.cnt).map λc:Nat=>W.int (c:Int)))=G3 at H j g2 ⊢;refine⟨(by decide),λp3 f=>?_⟩;have g3:=AA (o:=.lst [.int 0]) f _ _ g2;have m:=j.mono (AA (o:=.lst [.int 0]) f);have B:=Bh (o:=.lst [.int 0]) H f;have N:put G3 p3 (.lst [.int 0]) p3=some (.lst [.int 0]):=Ak;generalize put G3 p3 (.lst [.int 0])=G4 at g3 m B N ⊢;simp only[g3];refine MO g3 (λt=>rfl) ps t.parts none [] m (by simp only[Yi];lia) λD l=>?_;rw[Yw];have X:=Bh (o:=.lst (t.parts.map λt=>W.int (t.dp:Nat))) B l;have v:=AA (o:=.lst (t.parts.map λt=>W.int (t.dp:Nat))) l _ _ N;have R:put G4 D (.lst (t.parts.map λt=>W.int (t.dp:Nat))) D=some (.lst (t.parts.map λt=>W.int (t.dp:Nat))):=Ak;rw[KW (λz=>by obtain⟨⟨u,hu⟩,_⟩:=z;cases hu)];unfold L3.BB;simp only[v,R];refine⟨by rw[Yh];exact AZ (by simp only[Yg,Yi];lia),λp5 y=>?_⟩;have Y:[W.int 0]++(t.parts.map λt=>W.int (t.dp:Nat))=(0::t.parts.map λc=>(c.dp:Int)).map W.int:=by rw[Ym,YB];rfl
  rw[Y];simp only[rF,Gj,CJ Ak,Option.bind_some,L3.Lg];rw[Uk _ 0 (Int.le_refl 0)];have A:=Bh (o:=.lst ((0::t.parts.map λc=>(c.dp:Int)).map W.int)) X y;refine⟨(Qzz 2),λs h=>?_⟩
  have hn:G s=none:=by
   cases z:G s with
   | none=>rfl
   | some u=>rw[A _ _ z]at h;cases h
  rw[show(1:Int)+((AL t.parts:Nat):Int)=((t.cnt:Nat):Int) by lia,show(1:Int)+max 0 ((tdp t.parts:Nat):Int)=((t.dp:Nat):Int) by lia];exact Z _ _ _ (Sub.put2 A) (q s hn)
local macro_rules | `(tactic| walk_at "k3") => `(tactic| simp only [Ag, Ab, gC, Aa, Ac, Yb, Yc, Yk, Yl, Ad, Ae, Ar, ixW, Bg, Bx, Cm, Ao, BD, Bi, Af, gIf, gTB, AF, gOr, gNt, AI, Aj, Ai, Ah, An, gB, rF, Al, AE, Av, Au, AD, gMt, AV])
local macro_rules | `(tactic| walk_at "k4") => `(tactic| simp only [Ag, Ab, gC, Aa, Ac, Yb, Yc, Yk, Yl, Ad, Ae, Ar, ixW, Bg, Bx, Cm, Ao, BD, Bi, Af, gIf, gTB, AF, gOr, gNt, AI, Aj, Ai, Ah, An, gB, rF, Al, AE, Av, Au, AD, gMt, AV, AM, Bd, Ax, DW, AN, BG, List.replicate, Ym, YH, List.cons_append, Yw, Option.getD_some, Yq, Bool.not_true, Bool.not_false, Ak, B5, Kd.enc, B2, As.enc])
theorem FQ{k:Kd}(h:k.hd≠"row"):k.enc=.tup (.str k.hd::k.kids.map Kd.enc):=by
 cases k with
 | row fs o=>exact Qo rfl h
 | _=>rfl
theorem FR{α β:Type}{enc:α->W}{eb:β->W}{g:α->β}{mk:Option W->Sw}(h1:∀ o,(mk o)[1]?=some (some (.ref p)))(h2:∀ o x,(mk o).set v (some x)=mk (some x))(i:p≠q):∀(l:List α)(o:Option W)(G:Hw)(a:List β),(∀ d∈l,∀(m:Hw)(Z:Kw),Z (eb (g d)) m->ge (mk (some (enc d))) m Z)->a.length+l.length<=20000->G p=some (.lst (a.map eb))->G q=some (.lst items)->
  (∀ o f,f p=some (.lst ((a++l.map g).map eb))->(∀ b,b≠p->∀ u,G b=some u->f b=some u)->D.nx (mk o) f)->
  A9 (holds q items) (gNm v) (AD (gMt AQ A2 f4 (Aa ge Ac))) D (l.map enc) (mk o) G
 | [],o,G,a,_,_,k,j,c=>⟨j,c o G (by rw[YH,Yx];exact k) λ_ _ _ h=>h⟩
 | d::l,o,G,a,r,hl,k,j,c=>by
  rw[Yg]at hl;refine⟨j,?_⟩;show AD (gMt AQ A2 f4 (Aa ge Ac)) _ ((mk o).set v (some (enc d))) G;rw[h2];simp only[AD,gMt,Aa,Ac,Ab,h1];refine⟨BW k,r d Ye _ _ (CC k (by rw[Yh];exact Bf (by lia)) ?_)⟩;rw[show a.map eb++[eb (g d)]=(a++[g d]).map eb by rw[Yy];rfl];refine FR h1 h2 i l _ _ (a++[g d]) (λe s=>r e (Yd _ s)) (by rw[Yj];simp only[Yg,Yi];lia) Ak (by rw[Az (YW i)];exact j) λo f h1 h2=>c o f (by rw[h1,Yv];rfl) λb n u t=>h2 b n u (by rw[Az n];exact t)
theorem Um:∀{fs:Fs}{i:Nat}{c:Kd},fs.kinds[i]?=some c->∃ n m,fs.enc[i]?=some (.tup [.str n,.str (Bc m),c.enc])/\∀ d:Kd,fs.enc.set i (.tup [.str n,.str (Bc m),d.enc])=(fs.withK (fs.kinds.set i d)).enc
 | .nil,i,c,h=>by cases h
 | .cons n m k r,0,c,h=>by
  cases h;refine⟨n,m,rfl,λd=>?_⟩;show _::r.enc=_::(r.withK r.kinds).enc;rw[show(r.withK r.kinds)=r from ?_]
  have go:∀ r:Fs,r.withK r.kinds=r:=by
   intro r;induction r using Fs.rec (motive_1:=λ_=>True)with
   | any|num|truth|to|box|row=>trivial
   | nil=>rfl
   | cons x m k r _ b=>show Fs.cons x m k (r.withK r.kinds)=_;rw[b]
  exact go r
 | .cons n m k r,i+1,c,h=>by
  obtain⟨e,a,h1,h2⟩:=Um (fs:=r) h;refine⟨e,a,h1,λd=>?_⟩;show _::r.enc.set i _=_::(r.withK (r.kinds.set i d)).enc;rw[h2]
mutual
theorem DF:∀ k:Kd,dpW k.enc<=3*k.dp
 | .any|.num|.truth=>by show 1<=3*1;lia
 | .to x y=>by have:=DF x;have:=DF y;show max 0 (max (dpW x.enc) (max (dpW y.enc) 0))+1<=3*(1+max x.dp y.dp);lia
 | .box x=>by have:=DF x;show max 0 (max (dpW x.enc) 0)+1<=3*(1+x.dp);lia
 | .row fs o=>by have:=MP fs;show max 0 (max (L3.dpL fs.enc+1) (max 0 0))+1<=3*(1+fs.dp);lia
theorem MP:∀ fs:Fs,L3.dpL fs.enc<=3*fs.dp+1
 | .nil=>YV _
 | .cons n m k r=>by
  have:=DF k;have:=MP r;show max (max 0 (max 0 (max (dpW k.enc) 0))+1) (L3.dpL r.enc)<=3*max k.dp r.dp+1;lia
end
theorem Uo:∀ xs:List W,A1 xs []=some xs.isEmpty
 | []|_::_=>rfl
theorem Up{k:Kd}(hd:k.dp<=20)(G:Hw):eqF true k.enc (.tup [.str "any"]) G=some (.bl (!decide (k.hd="any"))):=by
 have h:=DF k;obtain⟨xs,e⟩:=Gu k
 have c:k.hd="any"->xs.isEmpty=true:=λz=>by
  cases k with
  | any=>injection e with e;injection e with _ e;rw[<- e];rfl
  | num|truth=>exact Qo z (by decide +kernel)
  | to _ _=>exact Qo z (by show("to":Str)≠"any";decide +kernel)
  | box _=>exact Qo z (by show("box":Str)≠"any";decide +kernel)
  | row _ _=>exact Qo z (by show("row":Str)≠"any";decide +kernel)
 rw[e]at h ⊢;have h':max 0 (L3.dpL xs)+1<=3*k.dp:=h
 have d:eqW (.tup (.str k.hd::xs)) (.tup [.str "any"]) G=some (decide (k.hd="any")):=by
  show(if max 0 (L3.dpL xs) < 90 then A1 (.str k.hd::xs) [.str "any"]else none)=_;rw[if_pos (by lia)];show(match some (k.hd==("any":Str)),A1 xs []with | some a,some b=>some (a&&b)| _,_=>none)=_;rw[Uo];by_cases z:k.hd="any"
  ·rw[c z,show(k.hd==("any":Str))=true by simp[z],YG z];rfl
  ·rw[show(k.hd==("any":Str))=false by simpa using z,Qn z];rfl
 unfold eqF;rw[d];cases decide (k.hd="any") <;> rfl
noncomputable abbrev MQ(n:Nat):Spw:=spL (λ(k:Kd)ws _=>ws=[k.enc]/\k.dp<=n/\k.cnt<=1000/\k.dp<=20) λk=>(lk n k).map Kd.enc
noncomputable abbrev gX1:GE:=Ah (Aa rQ (Aa (Ad Aw (Ad Aw (AE hH Au (Av kw)) (Ah (Aa (Ah (Aa sm (Aa se (Aa sF Ac)))) Ac))) (AE hH (Av (Ad Aw kw dl)) Au)) (Aa rL Ac)))
theorem Dl{lo:Option Int}(h:Q (.tup (Bz xs lo hi)) G):slA (.tup xs) lo hi G Q:=h
theorem GM{i:Nat}(hb:∀ Z:Kw,Z (.tup xs) G->gb ω G Z)(hgi:∀ Z:Kw,Z (.int i) G->gi ω G Z)(he:∀ Z:Kw,Z d G->ge ω G Z)(hgj:∀ Z:Kw,Z (.int ((i+1:Nat):Int)) G->gj ω G Z)(hi:i < xs.length)(hl:xs.length<=1000)(z:Z (.tup (xs.set i d)) G):Ad Aw (Ad Aw (AE gb Au (Av gi)) (Ah (Aa ge Ac))) (AE gb (Av gj) Au) ω G Z:=by
 walk_at "k3";refine hb _ (hgi _ ?_);refine Dl ?_;rw[TQ];have t1:(xs.take i).length=i:=by rw[List.length_take];lia
 have t2:(xs.drop (i+1)).length=xs.length -(i+1):=List.length_drop;refine he _ ⟨(Qzz 1),⟨by exact AZ (by simp only[Yg,Yi];lia),hb _ (hgj _ ?_)⟩⟩;refine Dl ?_;rw[TR];refine⟨by rw[Yj];exact AZ (by simp only[Yg,Yi];lia),?_⟩;rw[TU _ _ _ hi];exact z
theorem mL{a:Option W}{Z:Kw}(hi:i < fs.enc.length)(hl:fs.enc.length<=1000)(hs:fs.enc.set i (.tup [.str n,.str (Bc m),d.enc])=(fs.withK (fs.kinds.set i d)).enc)(z:Z ((Kd.row fs o).withK ((Kd.row fs o).kids.set i d)).enc G):gX1 [some (Kd.row fs o).enc,a,some (.int i),some (.str n),some (.str (Bc m)),b,some d.enc] G Z :=
 GM (d:=.tup [.str n,.str (Bc m),d.enc]) (λZ z=>z) (λZ z=>z) (λZ z=>⟨(Qzz 3),z⟩) (λZ z=>z) hi hl (by rw[hs];exact⟨(Qzz 3),z⟩)
noncomputable abbrev Uq(n:Nat):GS:=Af (HS (CT 3 4 5) sA) (AN (Ax (Ag (MQ n) XF sd)) (gNm 6) (AD (gMt AQ A2 f4 (Aa gX1 Ac))))
theorem Ur(O:n<=20)(g:fs.enc.length<=1000):∀(l:List Kd)(i:Nat)(k o3 o4 f e:Option W)(G:Hw)(a:List Kd),fs.kinds.drop i=l->(∀ c∈l,c.dp<=n/\c.cnt<=1000)->a.length+2*AX l<=5000->G p=some (.lst (a.map Kd.enc))->
  (∀ k o3 o4 f e w,w p=some (.lst ((a++lkS (lk n) (.row fs o) i l).map Kd.enc))->(∀ b,b≠p->∀ u,G b=some u->w b=some u)->D.nx [some (Kd.row fs o).enc,some (.ref p),k,o3,o4,f,e] w)->
  A9 yes (gNm 2) (Uq n) D ((List.range' i l.length).map λj:Nat=>W.int j) [some (Kd.row fs o).enc,some (.ref p),k,o3,o4,f,e] G
 | [],i,k,o3,o4,f,e,G,a,_,_,_,v,r=>⟨trivial,r k o3 o4 f e G (by show G p=some (.lst ((a++[]).map Kd.enc));rw[Yx];exact v) λ_ _ _ h=>h⟩
 | c::l,i,k,o3,o4,f,e,G,a,hl,hc,K,v,r=>by
  have P:a.length+2*(c.cnt+AX l)<=5000:=K;have Q:=GK n c
  have s:fs.kinds[i]?=some c:=by
   have z:=Ql (·[0]?) hl;simpa using z
  obtain⟨nm,m,h1,h2⟩:=Um s
  have hi:i < fs.enc.length:=by
   rcases Nat.lt_or_ge i fs.enc.length with z | z
   ·exact z
   ·rw[Qf z]at h1;cases h1
  have x:fs.kinds.drop (i+1)=l:=by rw[<- List.drop_drop,hl];rfl
  refine⟨trivial,?_⟩;show Uq n _ [some (Kd.row fs o).enc,some (.ref p),some (.int i),o3,o4,f,e] G;simp only[Af,HS,Ad,Ae,Ab,gC,Yb,Yc,Kd.enc,ixW,Bx,Ao];rw[show atI fs.enc (i:Int)=some (.tup [.str nm,.str (Bc m),c.enc])from CM h1];obtain⟨I,N⟩:=hc c Ye;refine⟨c,⟨rfl,I,N,by lia⟩,λq A=>?_⟩;have t:=A3 v A;simp only[Ak];refine FR (mk:=λo=>_::_::_::_::_::_::[o]) (λ_=>rfl) (λ_ _=>rfl) t (lk n c) e _ a (λd hd B Z z=>mL hi g (h2 d) z) (by lia) (by rw[Az t];exact v) Ak λH B g1 g2=>Ur O g l (i+1) _ _ _ _ _ B _ x (λd hd=>hc d (Yd _ hd)) (by rw[Yj,Yh];lia) g1 λk o3 o4 f e F E J=>?_;refine r k o3 o4 f e F (by rw[E,Yv];rfl) λb y u L=>J b y u (g2 b y u (AA A _ _ L))
abbrev sW:=AE ef (Av (Ad Aw kw dl)) Au
abbrev gX2:GE:=Ad Aw (Ad Aw sL (Ah (Aa sF Ac))) sW
theorem mM{k:Kd}(h:k.hd≠"row")(hi:i < k.kids.length):(k.withK (k.kids.set i d)).enc=.tup (.str k.hd::(k.kids.map Kd.enc).set i d.enc):=by
 cases k with
 | row fs o=>exact Qo rfl h
 | any|num|truth=>cases hi
 | to x y =>
  match i,hi with
  | 0,_|1,_=>rfl
 | box x =>
  match i,hi with
  | 0,_=>rfl
noncomputable abbrev Us(n:Nat):GS:=AN (Ax (Ag (MQ n) XF (Aa sr Ac))) (gNm 6) (AD (gMt AQ A2 f4 (Aa gX2 Ac)))
theorem Ut{k:Kd}(Q:n<=20)(x:k.hd≠"row")(r:k.kids.length<=999):∀(l:List Kd)(i:Nat)(g f:Option W)(G:Hw)(a:List Kd),k.kids.drop i=l->(∀ c∈l,c.dp<=n/\c.cnt<=1000)->a.length+2*AX l<=5000->G p=some (.lst (a.map Kd.enc))->
  (∀ g f v,v p=some (.lst ((a++lkS (lk n) k i l).map Kd.enc))->(∀ b,b≠p->∀ u,G b=some u->v b=some u)->D.nx [some k.enc,some (.ref p),g,none,none,none,f] v)->
  A9 yes (gNm 2) (Us n) D ((List.range' i l.length).map λj:Nat=>W.int (1+j)) [some k.enc,some (.ref p),g,none,none,none,f] G
 | [],i,g,f,G,a,_,_,_,t,m=>⟨trivial,m g f G (by show G p=some (.lst ((a++[]).map Kd.enc));rw[Yx];exact t) λ_ _ _ h=>h⟩
 | c::l,i,g,f,G,a,hl,hc,N,t,m=>by
  have R:a.length+2*(c.cnt+AX l)<=5000:=N;have S:=GK n c
  have e:k.kids[i]?=some c:=by
   have z:=Ql (·[0]?) hl;simpa using z
  have hi:i < k.kids.length:=by
   rcases Nat.lt_or_ge i k.kids.length with z | z
   ·exact z
   ·rw[Qf z]at e;cases e
  have w:k.kids.drop (i+1)=l:=by rw[<- List.drop_drop,hl];rfl
  have E:=FQ x;have I:(1:Int)+(i:Int)=((i+1:Nat):Int):=by lia
  refine⟨trivial,?_⟩;show Us n _ [some k.enc,some (.ref p),some (.int (1+(i:Int))),none,none,none,f] G;rw[I,E];simp only[AN,Ax,Ag,Ad,Ae,Aa,Ab,Yb,Yc,ixW];rw[show atI (W.str k.hd::k.kids.map Kd.enc) ((i+1:Nat):Int)=some c.enc from CM (by rw[Yc,YO,e];rfl)];obtain⟨K,P⟩:=hc c Ye;refine⟨c,⟨rfl,K,P,by lia⟩,λq A=>?_⟩;have s:=A3 t A;simp only[Ak];refine FR (mk:=λo=>_::_::_::_::_::_::[o]) (λ_=>rfl) (λ_ _=>rfl) s (lk n c) f _ a (λd hd B Z z=>GM (λZ z=>z) (λZ z=>z) (λZ z=>z) (λZ z=>z) (by simp only[Yg,Yh];lia) (by simp only[Yg,Yh];lia) (by rw[Yl,<- mM x hi];exact z)) (by lia) (by rw[Az s];exact t) Ak λJ B g1 g2=>?_;rw[<- E];refine Ut Q x r l (i+1) _ _ B _ w (λd hd=>hc d (Yd _ hd)) (by rw[Yj,Yh];lia) g1 λg f H F L=>m g f H (by rw[F,Yv];rfl) λb y u O=>L b y u (g2 b y u (AA A _ _ O))
theorem Ei(T:Tx K mg base a):∀ n:Nat,n<=20->Df P w K mg base "_law_less_kinds" (n+1) 1 (MQ n)
 | 0,_=>BX T.RA BU λws G Q E⟨k,⟨_,hd,_⟩,_⟩=>by have:=CV k;lia
 | n+1,hn=>by
  refine mk0 T.RA rfl Ud BU (λws G Q E⟨x,⟨e,_⟩,_⟩=>by rw[e];rfl) (my T (Ei T n (by lia)) (Yr _)) λws G Q E hC q=>?_;obtain⟨k,⟨rfl,hd,hc,h20⟩,q⟩:=q;have hk:=D1 k;have hl:=H9 k.kids;have hin:∀ c∈k.kids,c.dp<=n/\c.cnt<=1000:=λc hc'=>⟨by have:=D3 hc';lia,by have:=Ia hc';lia⟩;refine AG (⟨by decide,λp hp=>?_⟩)
  have fin:∀(o2 o3 o4 o5 o6:Option W)(G':Hw),G' p=some (.lst ((lk (n+1) k).map Kd.enc))->(∀ b,b≠p->∀ u,G b=some u->G' b=some u)->Ai f4 (AH Q) [some k.enc,some (.ref p),o2,o3,o4,o5,o6] G':=by
   intro o2 o3 o4 o5 o6 G' h1 h2;refine hC _ _ _ (λb u hu=>?_) (q p hp);by_cases hb:b=p
   ·subst hb;rw[Ak]at hu;cases hu;exact h1
   ·rw[Az hb]at hu;exact h2 b hb u hu
  have st1:∀{rest:GS}{D:Ew},rest D [some k.enc,some (.ref p),none,none,none,none,none] (put G p (.lst ((if k.hd="any" then([]:List Kd)else[.any]).map Kd.enc)))->Af (gIf (gTB (Ad (Ae (eqF true)) ef na)) (AD (gMt AQ A2 f4 (Aa na Ac))) Aj) rest D [some k.enc,some (.ref p),none,none,none,none,none] (put G p (.lst [])):=by
   intro rest D h;walk_at "k3";refine⟨(by decide),?_⟩;rw[Up h20,Ao];by_cases e:k.hd="any"
   ·rw[if_pos e]at h;rw[YG e];exact h
   ·rw[if_neg e]at h;rw[Qn e];refine⟨BW Ak,(by decide),CC Ak (by decide) ?_⟩;rw[HX];exact h
  refine st1 ?_;generalize hA:(if k.hd="any" then([]:List Kd)else[.any])=A;have hAl:A.length<=1:=by rw[<- hA];split <;> decide
  simp only[Af,gIf,gTB,Ad,Ae,Ab,gC,Yb,B2,Ao,Bi];by_cases e:k.hd="row"
  ·obtain⟨fs,o,rfl⟩:=GL e;have hz:=Lj fs;have hz2:fs.kinds.length<=AX fs.kinds:=hl;have hz3:(Kd.row fs o).cnt=1+AX fs.kinds:=hk
   have st2:∀{rest:GS}{D:Ew},rest D [some (Kd.row fs o).enc,some (.ref p),none,none,none,none,none] (put G p (.lst ((A++opn (.row fs o)).map Kd.enc)))->Af (gIf (gNt (AI rL)) (AD (gMt AQ A2 f4 (Aa (Ah (Aa rQ (Aa hH (Aa rY Ac)))) Ac))) Aj) rest D [some (Kd.row fs o).enc,some (.ref p),none,none,none,none,none] (put G p (.lst (A.map Kd.enc))):=by
    intro rest D h;walk_at "k4";cases o with
    | true =>
     have h':rest D [some (Kd.row fs true).enc,some (.ref p),none,none,none,none,none] (put G p (.lst ((A++[]).map Kd.enc))):=h;rw[Yx]at h';exact h'
    | false =>
     refine⟨BW Ak,(Qzz 3),CC Ak (by rw[Yh];exact Bf (by lia)) ?_⟩;rw[HX];have h':=h;rw[Yy]at h';exact h'
   have hol:(opn (.row fs o)).length<=1:=by
    cases o with
    | false=>exact Yr 1
    | true=>exact YV _
   refine st2 (⟨by lia,by lia,?_⟩);rw[Int.toNat_natCast,hz,List.range_eq_range'];exact Ur (by lia) (by lia) fs.kinds 0 none none none none none _ (A++opn (.row fs o)) rfl hin (by rw[Yj];lia) Ak λo2 o3 o4 o5 o6 G' h1 h2=>fin o2 o3 o4 o5 o6 G' (by rw[h1,<- hA];rfl) λb hb u hu=>h2 b hb u (by rw[Az hb];exact hu)
  ·rw[show(k.hd==("row":Str))=false by simpa using e,show(false != false)=false from rfl,if_neg (by decide)]
   have e2:opn k=[]:=by
    cases k with
    | row fs o=>exact Qo rfl e
    | _=>rfl
   have ek:=FQ e
   have el:AK [k.enc] (put G p (.lst (A.map Kd.enc)))=some (.int ((k.kids.length+1:Nat):Int)):=by
    rw[ek];show some (W.int (((W.str k.hd::k.kids.map Kd.enc).length:Nat):Int))=_;rw[Yg,Yh]
   simp only[AN,FD,gB,rF,Aa,Ac,Ab,gC,Yb,el,Ao];refine⟨1,((k.kids.length+1:Nat):Int),rfl,⟨by lia,by lia,by lia,by lia⟩,?_⟩;rw[show(((k.kids.length+1:Nat):Int) - 1).toNat=k.kids.length by lia,List.range_eq_range'];exact Ut (by lia) e (by lia) k.kids 0 none none _ A rfl hin (by lia) Ak λo2 o6 G' h1 h2=>fin o2 none none none o6 G' (by rw[h1,<- hA];show _=some (HW.lst ((((if k.hd="any" then([]:List Kd)else[.any])++opn k)++lkS (lk n) k 0 k.kids).map Kd.enc));rw[e2,Yx]) λb hb u hu=>h2 b hb u (by rw[Az hb];exact hu)
abbrev Uu:List Str:=["script","k","cell"]
theorem Uv:Ay Uu ["script","k"] (Ap LS):=by walk_at "s"
abbrev sQ:=gC (.int 2147483647)
noncomputable abbrev rS:=Ad (Ar EG λi j=>i ^ j.toNat) (gC (.int 10)) (gC (.int 18))
noncomputable def mN:GS:=(Af (Al 2 eq) (Af (gIf (gTB (Ad (Ba (λi j=>decide (i < j)) AW) f4 rR)) (Al 2 (Ad (Ae ixW) ef f4)) Aj) (Af (gIf (gTB (Ad (AV λi j=>decide (j<=i)) kw rS)) (Ai (An (Aa (Ad (Ar (λ_ _=>True) λi j=>i - j) kw rS) sE))) Aj) (Ai (An (Aa (Ad (Ar (λ_ j=>0 < j) λi j=>i % j) (Ad (BB) kw (Ad (Ar CMul λi j=>i*j) (gC (.int 7919)) f4)) sQ) sV))))))
theorem mO(T:Tx K mg base a):Dn P w K mg base Uu "_law_state" LS k (mN):=by
 have hN:=Uv.nd;walk_at "z"
abbrev Uw:List Str:=["state","many","mixed","found"]
theorem Ux:Ay Uw ["state","many"] (Ap LU):=by walk_at "s"
noncomputable def mP:GS:=(Af (gIf (AF (gTB (Ad (Ae (eqF false)) hH dl)) (gTB (Ad (AV λi j=>decide (j < i)) ad eq))) (Af (Al 3 (Ad (Ar (λ_ j=>0 < j) λi j=>i % j) ad f4)) (Af (Ci (Ad (Ar EF λi j=>i / j) ad f4) ef eq) (Ai sm))) Aj) (Af (Ci eq ef dl) (Af (Ci (Ad (Ar (λ_ j=>0 < j) λi j=>i % j) (Ad (Aw) (Ad (BR) ad (gC (.int 48271))) (gC (.int 69621))) sQ) ef eq) (Af (Al 2 (Ad (Ar (λ_ j=>0 < j) λi j=>i % j) (Ad (Aw) (Ad (BR) ad ad) (Ad (BR) (gC (.int 16807)) ad)) (gC (.int 2147483629)))) (Af (Al 2 (Ad (Ar (λ_ j=>0 < j) λi j=>i % j) (Ad (Aw) (Ad (BR) kw kw) (Ad (BR) (gC (.int 39373)) kw)) (gC (.int 2147483587)))) (Ai (Ad (Ar (λ_ j=>0 < j) λi j=>i % j) (Ad (Ar EF λi j=>i / j) kw (gC (.int 8))) f4)))))))
theorem mQ(T:Tx K mg base a):Dn P w K mg base Uw "_law_take" LU k (mP):=by
 have hN:=Ux.nd;walk_at "z"
noncomputable abbrev Uy:List Str:=["state","deep","way","fields","name","pick"]
theorem Uz:Ay Uy ["state","deep"] (Ap LV):=by walk_at "s"
abbrev sU:=gC (.str "to")
abbrev sR:=gC (.str "box")
abbrev sk:=Aa ef (Aa (gC (.int 4)) Ac)
noncomputable abbrev rX:=An (Aa (gC (.str "must")) (Aa (gC (.str "may")) Ac))
noncomputable abbrev rO:=Aa ef (Aa (Ad (Ar (λ_ _=>True) λi j=>i - j) f4 dl) Ac)
noncomputable def UA(Aq:Spw)(AY:Spw):GS:=(Af (Al 2 (Ag Aq XF (Aa ef (Aa (Ad (BB) (gC (.int 6)) (Ad (Ar CMul λi j=>i*j) (gC (.int 4)) (gB (rF CS) (Aa (Ad (AV λi j=>decide (j < i)) f4 eq) Ac)))) Ac)))) (Af (gIf (gTB (Ad (Ba (λi j=>decide (i < j)) AW) kw (gC (.int 6)))) (Ai (Ad (Ae ixW) (An (Aa na (Aa (Ah (Aa sh Ac)) (Aa (Ah (Aa so Ac)) Ac)))) (Ad (Ar EF λi j=>i / j) kw h8))) Aj) (Af (gIf (gTB (Ad (Ae (eqF false)) kw (gC (.int 6)))) (Ai (Ah (Aa sU (Aa (Ag AY XF rO) (Aa (Ag AY XF rO) Ac))))) Aj) (Af (gIf (gTB (Ad (Ae (eqF false)) kw (gC (.int 7)))) (Ai (Ah (Aa sR (Aa (Ag AY XF rO) Ac)))) Aj) (Af (Al 3 (An Ac)) (Af (AN (Ax (An (Aa (gC (.str "a")) (Aa (gC (.str "b")) (Aa (gC (.str "cc")) Ac))))) (gNm 4) (Af (Al 5 (Ag Aq XF sk)) (gIf (gTB (Ad (AV λi j=>decide (j < i)) sG dl)) (AD (gMt AQ A2 sm (Aa (Ah (Aa se (Aa (Ad (Ae ixW) rX (Ad (Ar (λ_ _=>True) λi j=>i - j) sG h8)) (Aa (Ag AY XF rO) Ac)))) Ac))) Aj))) (Ai (Ah (Aa rQ (Aa (gB (rF Bv) rK) (Aa (Ad (Ae (eqF false)) (Ag Aq XF (Aa ef (Aa rT Ac))) eq) Ac)))))))))))
theorem mR(T:Tx K mg base a)(Dh:Df P w K mg base "_law_take" AO 2 Aq)(Di:AO<=k)(GN:Df P w K mg base "_law_kind" Bp 2 AY)(GP:Bp<=k):Dn P w K mg base Uy "_law_kind" LV k (UA Aq AY):=by
 have hN:=Uz.nd;walk_at "z"
abbrev UB:List Str:=["state","want","told"]
theorem UC:Ay UB ["state","want"] (Ap LW):=by walk_at "s"
abbrev sK:=gC (.str "as")
abbrev sI:=gC (.str "fun")
abbrev su:=Ad (Ae ixW) f4 h8
abbrev sj:=Ad (Ae ixW) f4 dl
abbrev on:=Ad (Ae ixW) f4 eq
noncomputable def mS(Aq:Spw)(C4:Spw):GS:=(Af (gIf (gTB (Ad (Ae (eqF false)) on so)) (Ai (Ah (Aa so (Aa (Ad (Ae (eqF false)) (Ag Aq XF (Aa ef sx)) eq) Ac)))) Aj) (Af (gIf (gTB (Ad (Ae (eqF false)) on sU)) (Ai (Ah (Aa sI (Aa (Ad (Ae ixW) (An (Aa (gC (.str "x")) (Aa (gC (.str "y")) Ac))) (Ag Aq XF (Aa ef sx))) (Aa sj (Aa (Ag C4 XF (Aa ef (Aa su Ac))) Ac)))))) Aj) (Af (gIf (gTB (Ad (Ae (eqF false)) on sR)) (Ai (Ah (Aa (gC (.str "new")) (Aa (Ah (Aa sK (Aa (Ag C4 XF (Aa ef (Aa sj Ac))) (Aa sj Ac)))) Ac)))) Aj) (Af (gIf (gTB (Ad (Ae (eqF false)) on rQ)) (Af (Al 2 (Bd (Ax sj) 1 [0] (gNm 0) (gOr (gTB (Ad (Ae (eqF false)) hH (gC (.str "must")))) (gTB (Ad (Ae (eqF false)) (Ag Aq XF (Aa f4 sx)) eq))) ef)) (Ai (Ah (Aa sg (Aa (gB (rF Bv) (Aa (Bd (Ax kw) 1 [0] (gNm 0) AC (Ah (Aa ad (Aa (Ag C4 XF (Aa f4 (Aa rL Ac))) Ac)))) Ac)) Ac))))) Aj) (Ai (Ah (Aa sh (Aa (Ad (Ar (λ_ _=>True) λi j=>i - j) (Ag Aq XF (Aa ef (Aa (gC (.int 9)) Ac))) (gC (.int 4))) Ac))))))))
theorem mT(T:Tx K mg base a)(Dh:Df P w K mg base "_law_take" AO 2 Aq)(Di:AO<=k)(mU:Df P w K mg base "_law_least" Ek 2 C4)(mV:Ek<=k):Dn P w K mg base UB "_law_least" LW k (mS Aq C4):=by
 have hN:=UC.nd;walk_at "z"
abbrev UD:List Str:=["state","kind"]
theorem UE:Ay UD ["state","kind"] (Ap LX):=by walk_at "s"
noncomputable def mW(Aq:Spw)(Dm:Spw):GS:=(Af (gIf (gTB (Ad (Ae (eqF false)) (Ag Aq XF sk) eq)) (Ai na) Aj) (Af (gIf (gTB (Ad (Ae (inF false)) on (An (Aa sU (Aa sR Ac))))) (Ai (Ad (Aw) (Ah (Aa on Ac)) (gB (rF Bv) (Aa (Bd (Ax (AE f4 (Av dl) Au)) 1 [0] (gNm 0) AC (Ag Dm XF (Aa f4 ln))) Ac)))) Aj) (Ai f4)))
theorem mX(T:Tx K mg base a)(Dh:Df P w K mg base "_law_take" AO 2 Aq)(Di:AO<=k)(mY:Df P w K mg base "_law_dim" El 2 Dm)(mZ:El<=k):Dn P w K mg base UD "_law_dim" LX k (mW Aq Dm):=by
 have hN:=UE.nd;walk_at "z"
abbrev UF:List Str:=["state","part"]
theorem UG:Ay UF ["state","part"] (Ap LY):=by walk_at "s"
noncomputable def UH(Aq:Spw):GS:=(Ai (Ad (Ae ixW) (An (Aa f4 (Aa f4 (Aa f4 (Aa (Ah (Aa sK (Aa f4 (Aa na Ac)))) Ac))))) (Ag Aq XF sk)))
theorem m5(T:Tx K mg base a)(Dh:Df P w K mg base "_law_take" AO 2 Aq)(Di:AO<=k):Dn P w K mg base UF "_law_blur" LY k (UH Aq):=by
 have hN:=UG.nd;walk_at "z"
theorem m6{ns:List Int}(c:0<=k)(h:k <(ns.length:Int)):∃ v:Int,atI (ns.map W.int) k=some (.int v):=by
 have a:k.toNat < ns.length:=by lia
 have b:k=((k.toNat:Nat):Int):=by lia
 refine⟨ns[k.toNat],?_⟩;have q:atI (ns.map W.int) ((k.toNat:Nat):Int)=some (.int ns[k.toNat]):=CM (by rw[YO,Yp a] <;> rfl);rw[<- b]at q;exact q
theorem UI:EG 10 18:=⟨by decide,by decide,by decide⟩
theorem m7(n:Nat):ixN (n+1) 0=some 0:=by unfold ixN;rw[if_pos (Int.le_refl 0),if_pos (by lia)];rfl
theorem m8(n:Nat):ixN (n+2) 1=some 1:=by unfold ixN;rw[if_pos (by decide),if_pos (by lia)];rfl
theorem UJ(h:G s=some (.lst (x::l)))(q:Q (put G s (.lst (v::l)))):Dc (.ref s) (.int 0) v G Q:=KC h (m7 l.length) q
theorem ix0(h:G s=some (.lst (x::l))):ixW (.ref s) (.int 0) G=some x:=by rw[DZ h];exact Bg
theorem ix1(h:G s=some (.lst (x::y::l))):ixW (.ref s) (.int 1) G=some y:=by rw[DZ h];exact Bx
theorem UK(b:0<=x)(h1:x < m)(a:m<=2147483647):-(2 ^ 64) < x/\x < 2 ^ 64:=by
 have:(2:Int) ^ 64=18446744073709551616:=by decide
 lia
theorem m9(h:G s=some (.lst (x::y::l)))(q:Q (put G s (.lst (x::v::l)))):Dc (.ref s) (.int 1) v G Q:=KC h (m8 l.length) q
abbrev ST(x f:Int):HW:=.lst [.int x,.int f]
noncomputable def BM:Spw:=λws G Q _=>∃(s:Addr)(m x f:Int),ws=[.ref s,.int m]/\0 < m/\m < 1267650600228229401496703205376/\G s=some (ST x f)/\∀ r x' f':Int,0<=r->r < m->Q (.int r) (put G s (ST x' f'))
theorem nc:Spw.M BM:=(by rintro i G Q j E k h _ ⟨s,m,x,f,h1,h2,d,e,q⟩;exact⟨s,m,x,f,h1,h2,d,e,λr a b g c=>h _ _ (q r a b g c)⟩)
theorem AO(T:Tx K mg base a):Df P w K mg base "_law_take" 1 2 BM:=by
 refine mk0 T.jE rfl Ux nc ((by rintro o G Q E ⟨s,m,x,f,e,_⟩;rw[e];rfl)) (mQ T) λo G Q E t q=>?_;obtain⟨s,m,x,f,rfl,c,h,hs,q⟩:=q;show Af (gIf _ _ Aj) _ (AH Q) [some (.ref s),some (.int m),none,none] G
 have b:Af (Ci eq ef dl) (Af (Ci (Ad (Ar (λ_ j=>0 < j) λi j=>i % j) (Ad (Aw) (Ad (BR) ad (gC (.int 48271))) (gC (.int 69621))) sQ) ef eq) (Af (Al 2 (Ad (Ar (λ_ j=>0 < j) λi j=>i % j) (Ad (Aw) (Ad (BR) ad ad) (Ad (BR) (gC (.int 16807)) ad)) (gC (.int 2147483629)))) (Af (Al 2 (Ad (Ar (λ_ j=>0 < j) λi j=>i % j) (Ad (Aw) (Ad (BR) kw kw) (Ad (BR) (gC (.int 39373)) kw)) (gC (.int 2147483587)))) (Ai (Ad (Ar (λ_ j=>0 < j) λi j=>i % j) (Ad (Ar EF λi j=>i / j) kw (gC (.int 8))) f4))))) (AH Q) [some (.ref s),some (.int m),none,none] G:=by
  simp only[Af,Ci,gC,Ab];refine m9 hs ?_;have h1:put G s (ST x 0) s=some (ST x 0):=Ak;simp only[Ad,Ar,Ae,gC,Ab,Yb,ix0 h1];refine⟨.inr ⟨by decide,by decide⟩,by decide,UJ h1 ?_⟩;rw[HX];generalize d:(x*48271+69621) % 2147483647=x2;have r:0<=x2:=by rw[<- d];exact Int.emod_nonneg _ (by decide)
  have p:x2 < 2147483647:=by rw[<- d];exact Int.emod_lt_of_pos _ (by decide)
  have h2:put G s (ST x2 0) s=some (ST x2 0):=Ak;simp only[Al,Ad,Ar,Ae,gC,Ab,Yb,ix0 h2,BR];refine⟨.inl (UK r p (by decide)),.inl ⟨by decide,by decide⟩,by decide,?_⟩;generalize g:(x2*x2+16807*x2) % 2147483629=x3;have l:0<=x3:=by rw[<- g];exact Int.emod_nonneg _ (by decide)
  have n:x3 < 2147483629:=by rw[<- g];exact Int.emod_lt_of_pos _ (by decide)
  exact⟨.inl (UK l n (by decide)),.inl ⟨by decide,by decide⟩,(show(0:Int) < 2147483587 by decide),⟨⟨by decide,by decide⟩,c,q _ _ _ (Int.emod_nonneg _ (by lia)) (Int.emod_lt_of_pos _ c)⟩⟩
 simp only[Af,gIf,AF,gTB,Ad,Ae,AV,Ab,gC,Yb,ix0 hs,ix1 hs,Ao,BD];by_cases e:(f==1)=true
 ·rw[e];by_cases k:(0:Int) < x
  ·simp only[k,Af,Al,Ci,Ad,Ar,Ae,Ab,gC,Yb,Yl,ix0 hs];exact⟨c,⟨⟨c,h⟩,UJ hs (q _ _ _ (Int.emod_nonneg _ (by lia)) (Int.emod_lt_of_pos _ c))⟩⟩
  ·simp only[k];exact b
 ·rw[Bool.eq_false_iff.mpr e];exact b
def St(s:Addr)(G:Hw):Prop:=∃ x f,G s=some (ST x f)
noncomputable def Hs(s:Addr)(G G':Hw):Prop:=St s G'/\∀ b,b≠s->∀ u,G b=some u->G' b=some u
theorem Hs.trans{a:Hw}(h:Hs s G a)(h':Hs s a d):Hs s G d:=⟨h'.1,λb c u e=>h'.2 b c u (h.2 b c u e)⟩
theorem Hs.refl(h:St s G):Hs s G G:=⟨h,λ_ _ _ h=>h⟩
theorem St.put(h:St s G)(a:G p=none):St s (put G p o):=by
 obtain⟨x,f,e⟩:=h;exact⟨x,f,by rw[Az (A3 e a)];exact e⟩
theorem Hs.put{a:Hw}(h:Hs s G a)(c:a p=none):Hs s G (put a p o):=⟨h.1.put c,λb d u e=>AA c _ _ (h.2 b d u e)⟩
theorem Hs.ne(h:St s G)(a:G p=none):p≠s:=by
 obtain⟨x,f,e⟩:=h;exact YW (A3 e a)
theorem Hs.new(h:St s G)(a:G p=none):Hs s G (L3.put G p o):=(Hs.refl h).put a
theorem Bj(h:0 < m)(g:m<=100000)(hs:St s G)(k:∀(r:Int)(a:Hw),0<=r->r < m->Hs s G a->Z (.int r) a):BM [.ref s,.int m] G Z E:=by
 obtain⟨x,f,hs⟩:=hs;exact⟨s,m,x,f,rfl,h,by lia,hs,λr c d h1 h2=>k r _ h1 h2 ⟨⟨c,d,Ak⟩,λb i u e=>by rw[Az i];exact e⟩⟩
theorem Do(h:G p=some (.lst xs))(b:0<=r)(h1:r <(xs.length:Int)):∃ x∈xs,ixW (.ref p) (.int r) G=some x:=by
 obtain⟨k,rfl⟩:∃ k:Nat,r=(k:Int):=⟨r.toNat,by lia⟩;have a:k < xs.length:=by lia
 refine⟨xs[k],Qh a,?_⟩;rw[DZ h];exact CM (Yp a)
theorem E5(i:m=(xs.length:Int))(g:0 < m)(h1:m<=1000)(hs:St s G)(k:∀ x∈xs,∀ a,Hs s G a->Z x a):xs.length<=sizeLine/\∀ p,G p=none->BM [.ref s,.int m] (put G p (.lst xs)) (λw a=>Ae ixW (.ref p) w a Z) E:=by
 refine⟨AZ (by lia),λp c=>?_⟩;have b:=Hs.ne hs c;refine Bj g (by lia) (hs.put c) λr a f r1 d=>?_;obtain⟨x,h,e⟩:=Do (d.2 p b _ Ak) f (by lia);show opt (ixW (.ref p) (.int r) a) _;rw[e];exact k x h a ((Hs.new hs c).trans d)
noncomputable def C5{α:Type}(A:α->Addr->List W->Hw->Prop)(R:α->Addr->W->Hw->Prop):Spw:=λws G Q _=>∃ a s,A a s ws G/\St s G/\∀ r G',R a s r G'->Hs s G G'->Q r G'
theorem BN{α:Type}{A:α->Addr->List W->Hw->Prop}{R:α->Addr->W->Hw->Prop}:Spw.M (C5 A R):=(by rintro e G Q f E g h _ ⟨a,s,h1,h2,q⟩;exact⟨a,s,h1,h2,λr b d c=>h _ _ (q r b d c)⟩)
noncomputable def UL:Spw:=λws G Q _=>∃ ns:List Int,ws=[.rol (ns.map W.int),.int 0]/\∀ s x f,G s=none->Q (.ref s) (put G s (ST x f))
theorem ng:Spw.M UL:=(by rintro a G Q b E c h _ ⟨ns,h1,q⟩;exact⟨ns,h1,λs x f z=>h _ _ (q s x f z)⟩)
theorem IZ(T:Tx K mg base a):Df P w K mg base "_law_state" 1 2 UL:=by
 refine mk0 T.jA rfl Uv ng ((by rintro ws G Q E ⟨ns,e,_⟩;rw[e];rfl)) (mO T) λws G Q E hC q=>?_;obtain⟨ns,rfl,q⟩:=q;show Af (Al 2 _) _ (AH Q) [some (.rol (ns.map W.int)),some (.int 0),none] G
 have rest:∀ v:Int,Af (gIf (gTB (Ad (AV λi j=>decide (j<=i)) kw rS)) (Ai (An (Aa (Ad (Ar (λ_ _=>True) λi j=>i - j) kw rS) sE))) Aj) (Ai (An (Aa (Ad (Ar (λ_ j=>0 < j) λi j=>i % j) (Ad (L3.BB) kw (Ad (Ar CMul λi j=>i*j) (gC (.int 7919)) f4)) sQ) sV))) (AH Q) [some (.rol (ns.map W.int)),some (.int 0),some (.int v)] G:=by
  intro v;walk_at "rd";refine⟨UI,Bk (λh=>?_) (λh=>?_)⟩
  ·exact⟨UI,trivial,by decide,λp hp=>q p _ _ hp⟩
  ·exact⟨.inl ⟨by decide,by decide⟩,by decide,by decide,λp hp=>q p _ _ hp⟩
 refine AG ?_;simp only[gC,Yl,Af,gIf,gTB,Ad,Ab,gB,rF,Aa,Ac,Yb];rw[show AK [W.rol (ns.map W.int)] G=some (.int (((ns.map W.int).length:Nat):Int))from rfl,Yh];refine Bk (fun h=>?_) (fun h=>?_)
 ·have h:=Qm h;walk_at "k3";obtain⟨v,e⟩:=m6 (Int.le_refl 0) h;rw[e];exact rest v
 ·exact rest 0
def kc:Nat->Nat | 0=>1 | n+1=>1+3*kc n
def KdOk(c d:Nat)(k:Kd):Prop:=k.ok=true/\k.cnt<=c/\k.dp<=d
abbrev Fd:=Str×Bool×Kd
def Bs(x:Fd):W:=.tup [.str x.1,.str (Bc x.2.1),x.2.2.enc]
noncomputable def ofL:List Fd->Fs
 | []=>.nil
 | x::l=>.cons x.1 x.2.1 x.2.2 (ofL l)
theorem MR:∀ l:List Fd,(ofL l).enc=l.map Bs
 | []=>rfl
 | x::l=>by show _::(ofL l).enc=_::l.map Bs;rw[MR l];rfl
theorem MS:∀ l:List Fd,(ofL l).names=l.map (·.1)
 | []=>rfl
 | x::l=>by show _::(ofL l).names=_::l.map (·.1);rw[MS l]
theorem UM:∀ l:List Fd,(∀ x∈l,AB x.1=true/\KdOk c d x.2.2)->(ofL l).ok=true/\(ofL l).cnt<=l.length*c/\(ofL l).dp<=d
 | [],_=>⟨rfl,YV _,YV _⟩
 | x::l,h=>by
  obtain⟨h1,h2,b⟩:=UM l λy a=>h y (Yd _ a);obtain⟨g1,g2,g3,g4⟩:=h x Ye;refine⟨?_,?_,?_⟩
  ·show(AB x.1&&x.2.2.ok&&(ofL l).ok)=true;rw[g1,g2,h1];rfl
  ·show x.2.2.cnt+(ofL l).cnt<=(l.length+1)*c;rw[Nat.add_mul];lia
  ·show max x.2.2.dp (ofL l).dp<=d;lia
theorem nh{a:Str}(h1:AW a b=true)(h2:AW b c=true):AW a c=true:=YG (List.lt_trans (Qm h1) (Qm h2))
theorem MT:∀{ns:List Str},A0 ns=true->ns.Pairwise (λx y=>AW x y=true)
 | [],_=>.nil
 | [_],_=>.cons (λ_ h=>by cases h) .nil
 | x::y::r,h=>by
  have h':(AW x y&&A0 (y::r))=true:=h;simp only [YF] at h';have b:=MT h'.2;refine .cons (λz a=>?_) b;rcases Yo.mp a with rfl | a
  ·exact h'.1
  ·exact nh h'.1 ((List.pairwise_cons.mp b).1 z a)
theorem UN:∀{ns:List Str},ns.Pairwise (λx y=>AW x y=true)->A0 ns=true
 | [],_|[_],_=>rfl
 | x::y::r,h=>by
  show(AW x y&&A0 (y::r))=true;cases h with
  | cons h1 h2=>rw[h1 y Ye,UN h2];rfl
theorem MU(h:xs.Sublist ys)(r:A0 ys=true):A0 xs=true:=UN ((MT r).sublist h)
noncomputable abbrev FT(n:Nat):Spw:=C5 (λ(m:Int)s ws _=>ws=[.ref s,.int m]/\m.toNat < n) λm _ r _=>∃ k:Kd,r=k.enc/\KdOk (kc m.toNat) (m.toNat+1) k
noncomputable abbrev gKB(n:Nat):GS:=Af (Al 5 (Ag BM XF sk)) (gIf (gTB (Ad (AV λi j=>decide (j < i)) sG dl)) (AD (gMt AQ A2 sm (Aa (Ah (Aa se (Aa (Ad (Ae ixW) rX (Ad (Ar (λ_ _=>True) λi j=>i - j) sG h8)) (Aa (Ag (FT n) XF rO) Ac)))) Ac))) Aj)
noncomputable def Hs2(s p:Addr)(G G':Hw):Prop:=St s G'/\∀ b,b≠s->b≠p->∀ u,G b=some u->G' b=some u
theorem Hs2.trans{a:Hw}(h:Hs2 s p G a)(h':Hs2 s p a c):Hs2 s p G c:=⟨h'.1,λb d e u f=>h'.2 b d e u (h.2 b d e u f)⟩
theorem Hs.two{a:Hw}(h:Hs s G a):Hs2 s p G a:=⟨h.1,λb c _ u d=>h.2 b c u d⟩
theorem Hs2.set(h:St s G)(a:p≠s):Hs2 s p G (put G p o):=by
 obtain⟨x,f,e⟩:=h;exact⟨⟨x,f,by rw[Az (YW a)];exact e⟩,λb _ c u d=>by rw[Az c];exact d⟩
theorem Hs2.one(h:Hs2 s p G c)(e:G p=none):Hs s G c:=⟨h.1,λb d u a=>h.2 b d (A3 a e) u a⟩
theorem MV(hm:m < n)(hps:p≠s)(hqs:q≠s)(hpq:p≠q):∀(ns:List Str)(acc:List Fd)(o4 o5:Option W)(G:Hw),G p=some (.lst (acc.map Bs))->G q=some (.lst items)->St s G->acc.length+ns.length<=100->
  (∀(l:List Fd)o4 o5 G',(l.map (·.1)).Sublist ns->(∀ x∈l,KdOk (kc m) (m+1) x.2.2)->G' p=some (.lst ((acc++l).map Bs))->Hs2 s p G G'->D.nx [some (.ref s),some (.int ((m+1:Nat):Int)),o2,some (.ref p),o4,o5] G')->
  A9 (holds q items) (gNm 4) (gKB n) D (ns.map W.str) [some (.ref s),some (.int ((m+1:Nat):Int)),o2,some (.ref p),o4,o5] G
 | [],acc,o4,o5,G,hp,hq,hs,_,fin=>⟨hq,fin [] o4 o5 G (List.nil_sublist _) (λx hx=>by cases hx) (by rw[Yx];exact hp) (Hs.refl hs).two⟩
 | x::ns,acc,o4,o5,G,hp,hq,hs,hl,fin=>by
  rw[Yg]at hl;refine⟨hq,AG ?_⟩;walk_at "k0";refine Bj (by decide) (by decide) hs λr G1 r0 r4 hg=>?_;have hp1:=hg.2 p hps _ hp;have hq1:=hg.2 q hqs _ hq;refine Bk (fun h=>?_) (fun h=>?_)
  ·have h1:=Qm h;walk_at "k3";refine⟨BW hp1,by decide,λz hz=>⟨trivial,?_⟩⟩;obtain⟨y,hy,e⟩:=Do (r:=r - 2) (G:=put G1 z (.lst [.str "must",.str "may"])) Ak (by lia) (by show r - 2 < 2;lia);show opt (ixW (.ref z) (.int (r - 2)) _) _;rw[e]
   have hy':∃ b,y=.str (Bc b):=by
    simp only[Yo,Qa,or_false]at hy;rcases hy with rfl | rfl
    ·exact⟨true,rfl⟩
    ·exact⟨false,rfl⟩
   obtain⟨b,rfl⟩:=hy';refine⟨trivial,(m:Int),s,⟨by rw[show(((m+1:Nat):Int) - 1)=(m:Int) by lia],hm⟩,hg.1.put hz,λk' G2 hk hg2=>?_⟩;obtain⟨k,rfl,hk⟩:=hk;have hg3:=(hg.put hz).trans hg2;have hp2:=hg3.2 p hps _ hp;have hq2:=hg3.2 q hqs _ hq;refine⟨(Qzz 3),CC hp2 (by rw[Yh];exact Bf (by lia)) (MV hm hps hqs hpq ns (acc++[(x,b,k)]) _ _ _ (by rw[Yy];exact Ak) (by rw[Az (YW hpq)];exact hq2) (Hs2.set hg3.1 hps).1 (by rw[Yj];simp only[Yg,Yi];lia) λl o4 o5 G' l1 l2 l3 l4=>?_)⟩;refine fin ((x,b,k)::l) o4 o5 G' (.cons₂ _ l1) (λy hy=>?_) (by rw[l3,Yv];rfl) ((hg3.two).trans ((Hs2.set hg3.1 hps).trans l4));rcases Yo.mp hy with rfl | hy
   ·exact hk
   ·exact l2 y hy
  ·exact MV hm hps hqs hpq ns acc _ _ G1 hp1 hq1 hg.1 (by lia) λl o4 o5 G' l1 l2 l3 l4=>fin l o4 o5 G' (.cons _ l1) l2 l3 (hg.two.trans l4)
theorem Dp(h:G p=some (.lst xs)):Bv [.ref p] G=some (.tup xs):=by
 show(DU G (.ref p)).map W.tup=_;rw[HY h];rfl
theorem ni(hi:i.toNat=m)(hm:m < n+1)(hs:St s G)(q:∀ r G',(∃ k:Kd,r=k.enc/\KdOk (kc m) (m+1) k)->Hs s G G'->Q r G'):UA BM (FT n) (AH Q) [some (.ref s),some (.int i),none,none,none,none] G:=by
 refine AG ?_;simp only[Ag,Ab,gC,Ad,gB,rF,AV,Ar,L3.BB,CS,Ao,Aa,Ac,Yb,Yc];refine⟨.inl ⟨by decide,by decide⟩,?_⟩
 have hw:(6:Int)+4*(if decide (0 < i)=true then 1 else 0)=if m=0 then 6 else 10:=by
  cases m with
  | zero=>rw[if_neg (by simp only[YQ];lia),if_pos rfl];rfl
  | succ m=>rw[if_pos (by simp only[YQ];lia),if_neg (by lia)];rfl
 rw[hw];refine Bj (by split <;> decide) (by split <;> decide) hs λr G1 r0 r1 hg=>Bk (λh=>?_) (λh=>?_)
 ·have h6:=Qm h;refine⟨by decide,by decide,by decide,by decide,λp hp=>⟨⟨by decide,by decide⟩,?_⟩⟩;obtain⟨y,hy,e⟩:=Do (r:=r / 2) (G:=put G1 p (.lst [.tup [.str "any"],.tup [.str "num"],.tup [.str "truth"]])) Ak (by lia) (by show r / 2 < 3;lia);show opt (ixW (.ref p) (.int (r / 2)) _) _;rw[e,Ao]
  have hk:1<=kc m:=by
   cases m with
   | zero=>exact Yr 1
   | succ m=>show 1<=1+3*kc m;lia
  refine q _ _ ?_ (hg.put hp);simp only[Yo,Qa,or_false]at hy;rcases hy with rfl | rfl | rfl
  ·exact⟨.any,rfl,rfl,hk,by show 1<=m+1;lia⟩
  ·exact⟨.num,rfl,rfl,hk,by show 1<=m+1;lia⟩
  ·exact⟨.truth,rfl,rfl,hk,by show 1<=m+1;lia⟩
 ·have h6:=λz=>h (YG z);cases m with
  | zero=>exact Qo r1 h6
  | succ m =>
  have hmn:m < n:=by lia
  obtain rfl:i=((m+1:Nat):Int):=by lia
  have ek:kc (m+1)=1+3*kc m:=rfl;have e2:kc (m:Int).toNat=kc m:=rfl;have e1:(((m+1:Nat):Int) - 1)=(m:Int):=by lia
  refine Bk (fun h=>?_) (fun h=>?_)
  ·walk_at "k3";refine⟨trivial,(m:Int),s,⟨by rw[e1],hmn⟩,hg.1,λk1 G2 hk1 hg2=>?_⟩;obtain⟨k1,rfl,a1,a2,a3⟩:=hk1;refine⟨trivial,(m:Int),s,⟨by rw[e1],hmn⟩,hg2.1,λk2 G3 hk2 hg3=>?_⟩;obtain⟨k2,rfl,b1,b2,b3⟩:=hk2;refine⟨(Qzz 3),q _ _ ⟨.to k1 k2,rfl,?_,?_,?_⟩ ((hg.trans hg2).trans hg3)⟩
   ·show(k1.ok&&k2.ok)=true;rw[a1,b1];rfl
   ·show 1+(k1.cnt+k2.cnt)<=_;lia
   ·show 1+max k1.dp k2.dp<=_;lia
  ·refine Bk (fun h=>?_) (fun h=>?_)
   ·walk_at "k3";refine⟨trivial,(m:Int),s,⟨by rw[e1],hmn⟩,hg.1,λk1 G2 hk1 hg2=>?_⟩;obtain⟨k1,rfl,a1,a2,a3⟩:=hk1;refine⟨(Qzz 2),q _ _ ⟨.box k1,rfl,a1,?_,?_⟩ (hg.trans hg2)⟩
    ·show 1+k1.cnt<=_;lia
    ·show 1+k1.dp<=_;lia
   ·simp only[Aj];refine AG (⟨by decide,λp hp=>?_⟩);have hps:=Hs.ne hg.1 hp;refine⟨by decide,λz hz=>?_⟩;have hzs:=Hs.ne (hg.1.put hp) hz;have hzp:=A3 Ak hz;walk_at "k4";refine MV hmn hps hzs hzp ["a","b","cc"] [] none none _ (by rw[Az hzp];exact Ak) Ak ((hg.1.put hp).put hz) (by decide) λl o4 o5 G' l1 l2 l3 l4=>?_;walk_at "k3";rw[Yw]at l3;rw[Dp l3,Ao];have hg1:=hg.trans ⟨l4.1,λb hb u hu=>l4.2 b hb (A3 hu hp) u (AA hz _ _ (AA hp _ _ hu))⟩;refine Bj (by decide) (by decide) l4.1 λv G2 v0 v1 hg2=>⟨(Qzz 3),?_⟩;have hl:=l1.length_le;rw[Yh]at hl;have hl3:l.length<=3:=hl
    have hn:∀ x∈l,AB x.1=true:=λx hx=>by
     have hx':=l1.subset (List.mem_map_of_mem hx);simp only[Yo,Qa,or_false]at hx';rcases hx' with z | z | z <;> rw[z] <;> decide +kernel
    obtain⟨g1,g2,g3⟩:=UM l λx hx=>⟨hn x hx,l2 x hx⟩;refine q _ _ ⟨.row (ofL l) ((v==0) != false),?_,?_,?_,?_⟩ (hg1.trans hg2)
    ·show _=W.tup [.str "row",.tup (ofL l).enc,_];rw[MR]
    ·show(A0 (ofL l).names&&(ofL l).ok)=true;rw[g1,MS,MU l1 (by decide +kernel)];rfl
    ·show 1+(ofL l).cnt<=_;have:=Nat.mul_le_mul_right (kc m) hl3;lia
    ·show 1+(ofL l).dp<=_;lia
theorem Bp(T:Tx K mg base a):∀ n:Nat,Df P w K mg base "_law_kind" (n+1) 2 (FT n)
 | 0=>BX T.Rv BN λb G Q E⟨k,s,⟨_,hd⟩,_⟩=>by lia
 | n+1=>by
  refine mk0 T.Rv rfl Uz BN (λb G Q E⟨k,s,⟨e,hd⟩,_⟩=>by rw[e];rfl) (mR T (AO T) (by lia) (Bp T n) (Yr _)) λb G Q E d q=>?_;obtain⟨m,s,⟨rfl,c⟩,hs,q⟩:=q;exact ni rfl c hs q
def TmB(c d:Nat)(t:Te):Prop:=t.ok=true/\t.cnt<=c/\t.dp<=d
def KOk(k:Kd):Prop:=k.ok=true/\Bl k=true
theorem TmB.mono{a:Nat}(h:TmB c d t)(hc:c<=a)(hd:d<=b):TmB a b t:=⟨h.1,Yt h.2.1 hc,Yt h.2.2 hd⟩
theorem Bt{w:Str}(h:KTD.datumAt w AT=some r.sorts)(h2:r.ok=true):(Te.nd w r).ok=true:=by
 show(decide (KTD.datumAt w AT=some r.sorts)&&r.ok)=true;rw[YG h,h2];rfl
theorem Cq(h:TmB c d t)(a:KOk k):TmB (c+1) (d+1) (.nd "as" (.trm t (.knd k .nil))):=by
 obtain⟨h1,h2,b⟩:=h;refine⟨Bt (show KTD.datumAt ("as":Str) AT=some [("term":Str),"kind"] by decide +kernel) ?_,?_,?_⟩
 ·show(t.ok&&((k.ok&&Bl k)&&true))=true;rw[h1,a.1,a.2];rfl
 ·show 1+(t.cnt+0)<=_;lia
 ·show 1+max t.dp 0<=_;lia
theorem DG{w:Str}{a:Nat}(hw:KTD.datumAt w AT=some [("term":Str),"term"])(h:TmB b d t)(h':TmB a d u):TmB (b+a+1) (d+1) (.nd w (.trm t (.trm u .nil))):=by
 obtain⟨h1,h2,c⟩:=h;obtain⟨g1,g2,g3⟩:=h';refine⟨Bt hw ?_,?_,?_⟩
 ·show(t.ok&&(u.ok&&true))=true;rw[h1,g1];rfl
 ·show 1+(t.cnt+(u.cnt+0))<=_;lia
 ·show 1+max t.dp (max u.dp 0)<=_;lia
theorem GQ{w:Str}(hw:KTD.datumAt w AT=some [("term":Str)])(h:TmB c d t):TmB (c+1) (d+1) (.nd w (.trm t .nil)):=by
 obtain⟨h1,h2,a⟩:=h;refine⟨Bt hw ?_,?_,?_⟩
 ·show(t.ok&&true)=true;rw[h1];rfl
 ·show 1+(t.cnt+0)<=_;lia
 ·show 1+max t.dp 0<=_;lia
theorem MW(h:TmB c d t)(a:AB x=true):TmB (c+1) (d+1) (.nd "get" (.trm t (.nam x .nil))):=by
 obtain⟨h1,h2,b⟩:=h;refine⟨Bt (show KTD.datumAt ("get":Str) AT=some [("term":Str),"name"] by decide +kernel) ?_,?_,?_⟩
 ·show(t.ok&&(AB x&&true))=true;rw[h1,a];rfl
 ·show 1+(t.cnt+0)<=_;lia
 ·show 1+max t.dp 0<=_;lia
theorem UO{a:Nat}(h:TmB b d t)(c:AB x=true)(h':TmB a d u):TmB (b+a+1) (d+1) (.nd "or" (.trm t (.nam x (.trm u .nil)))):=by
 obtain⟨h1,h2,e⟩:=h;obtain⟨g1,g2,g3⟩:=h';refine⟨Bt (show KTD.datumAt ("or":Str) AT=some [("term":Str),"name","term"] by decide +kernel) ?_,?_,?_⟩
 ·show(t.ok&&(AB x&&(u.ok&&true)))=true;rw[h1,c,g1];rfl
 ·show 1+(t.cnt+(u.cnt+0))<=_;lia
 ·show 1+max t.dp (max u.dp 0)<=_;lia
theorem nj(h:TmB c d t)(h':TmB c d u)(a:TmB c d v):TmB (3*c+1) (d+1) (.nd "if" (.trm t (.trm u (.trm v .nil)))):=by
 obtain⟨h1,h2,g⟩:=h;obtain⟨g1,g2,g3⟩:=h';obtain⟨b,f,e⟩:=a;refine⟨Bt (show KTD.datumAt ("if":Str) AT=some [("term":Str),"term","term"] by decide +kernel) ?_,?_,?_⟩
 ·show(t.ok&&(u.ok&&(v.ok&&true)))=true;rw[h1,g1,b];rfl
 ·show 1+(t.cnt+(u.cnt+(v.cnt+0)))<=_;lia
 ·show 1+max t.dp (max u.dp (max v.dp 0))<=_;lia
theorem Ja(b:AB x=true)(a:KOk k)(h:TmB c d t):TmB (c+1) (d+1) (.nd "fun" (.nam x (.knd k (.trm t .nil)))):=by
 obtain⟨h1,h2,e⟩:=h;refine⟨Bt (show KTD.datumAt ("fun":Str) AT=some [("name":Str),"kind","term"] by decide +kernel) ?_,?_,?_⟩
 ·show(AB x&&((k.ok&&Bl k)&&(t.ok&&true)))=true;rw[h1,b,a.1,a.2];rfl
 ·show 1+(t.cnt+0)<=_;lia
 ·show 1+max t.dp 0<=_;lia
theorem Jb(a:AB x=true):TmB 1 1 (.nd "name" (.nam x .nil)):=by
 refine⟨Bt (show KTD.datumAt ("name":Str) AT=some [("name":Str)] by decide +kernel) ?_,Yr 1,Yr 1⟩;show(AB x&&true)=true;rw[a];rfl
theorem UP(b:Bool):TmB 1 1 (.nd "truth" (.tru b .nil)):=⟨Bt (show KTD.datumAt ("truth":Str) AT=some [("truth":Str)] by decide +kernel) rfl,Yr 1,Yr 1⟩
theorem UQ(h:-100<=i)(h':i<=100):TmB 1 1 (.nd "num" (.num i .nil)):=by
 refine⟨Bt (show KTD.datumAt ("num":Str) AT=some [("number":Str)] by decide +kernel) ?_,Yr 1,Yr 1⟩;show(decide (-NB<=i/\i<=NB)&&true)=true;rw[YG ⟨by show(-99999999999999999999:Int)<=i;lia,by show i<=(99999999999999999999:Int);lia⟩];rfl
noncomputable abbrev DH:Spw:=C5 (λ(t:Te)s ws _=>ws=[.ref s,t.enc]) λt _ r _=>r=t.enc\/r=(Te.nd "as" (.trm t (.knd .any .nil))).enc
theorem CF(T:Tx K mg base a):Df P w K mg base "_law_blur" 2 2 DH:=by
 refine mk0 T.jF rfl UG BN (λws G Q E⟨k,s,e,_⟩=>by rw[e];rfl) (m5 T (AO T) (Yr _)) λws G Q E hC q=>?_;obtain⟨t,s,rfl,hs,q⟩:=q;unfold UH;walk_at "k3";refine⟨by decide,(Qzz 3),E5 rfl (by decide) (by decide) hs λx hx G' hg=>q x G' ?_ hg⟩;simp only [Yo,Qa,or_false] at hx;rcases hx with rfl | rfl | rfl | rfl
 ·exact .inl rfl
 ·exact .inl rfl
 ·exact .inl rfl
 ·exact .inr rfl
theorem GR:KOk .any:=⟨rfl,rfl⟩
theorem nk(h:TmB c d t)(a:r=t.enc\/r=(Te.nd "as" (.trm t (.knd .any .nil))).enc):∃ u:Te,r=u.enc/\TmB (c+1) (d+1) u:=by
 rcases a with rfl | rfl
 ·exact⟨t,rfl,h.mono (by lia) (by lia)⟩
 ·exact⟨_,rfl,Cq h GR⟩
theorem GU(l:List Str)(s:Str)(h:G p=some (.lst xs))(e:xs=l.map W.str):inF false (.str s) (.ref p) G=some (.bl (l.any (·==s))):=by
 unfold inF;rw[HY h,e];show((Ft (l.map W.str)).map _)=_;rw[Re];show some (W.bl (inV (.str s) (l.map V.str)))=_;rw[Rf]
noncomputable abbrev MX(n:Nat):Spw:=C5 (λ(k:Kd)s ws _=>ws=[.ref s,k.enc]/\k.ok=true/\k.dp<=n) λk _ r _=>∃ k':Kd,r=k'.enc/\KdOk k.cnt k.dp k'
theorem El(T:Tx K mg base a):∀ n:Nat,Df P w K mg base "_law_dim" (n+1) 2 (MX n)
 | 0=>BX T.Rx BN λws G Q E⟨k,s,⟨_,_,hd⟩,_⟩=>by have:=CV k;lia
 | n+1=>by
  refine mk0 T.Rx rfl UE BN (λws G Q E⟨k,s,⟨e,_⟩,_⟩=>by rw[e];rfl) (mX T (AO T) (by lia) (El T n) (Yr _)) λws G Q E hC q=>?_;obtain⟨k,s,⟨rfl,ho,hd⟩,hs,q⟩:=q;show Af (gIf _ _ Aj) _ (AH Q) [some (.ref s),some k.enc] G;simp only[Af,gIf,gTB,Ad,Ag,Aa,Ac,Ab,gC];refine Bj (by decide) (by decide) hs λr G1 r0 r4 hg=>Bk (λh=>?_) (λh=>?_)
  ·exact⟨by decide,q _ _ ⟨.any,rfl,rfl,D2 k,CV k⟩ hg⟩
  ·simp only[Aj,Af,gIf,gTB,Ad,Ab,An,Ae,gC,Yb,Yc,B2];refine⟨by decide,λp hp=>?_⟩;rw[GU ["to","box"] k.hd (xs:=[.str "to",.str "box"]) Ak rfl];have hg1:=hg.put (o:=.lst [.str "to",.str "box"]) hp
   have out:Ai f4 (AH Q) [some (.ref s),some k.enc] (put G1 p (.lst [.str "to",.str "box"])):=by
    exact q _ _ ⟨k,rfl,ho,Yr _,Yr _⟩ hg1
   cases k with
   | any|num|truth|row fs o=>exact out
   | to x y =>
    have ho':(x.ok&&y.ok)=true:=ho;simp only[YF]at ho';have hd':1+max x.dp y.dp<=n+1:=hd;walk_at "k4";refine⟨by decide,Dl (⟨trivial,by decide,x,s,⟨rfl,ho'.1,by lia⟩,hg1.1,λx' G3 hx' hg2=>?_⟩)⟩;obtain⟨x',rfl,a1,a2,a3⟩:=hx';refine⟨trivial,(show 1 < sizeLine by decide),y,s,⟨rfl,ho'.2,by lia⟩,hg2.1,λy' G4 hy' hg3=>?_⟩;obtain⟨y',rfl,b1,b2,b3⟩:=hy';refine⟨trivial,λp2 hp2=>?_⟩;rw[Dp Ak];refine⟨(Qzz 3),q _ _ ⟨.to x' y',rfl,?_,?_,?_⟩ (((hg1.trans hg2).trans hg3).put hp2)⟩
    ·show(x'.ok&&y'.ok)=true;rw[a1,b1];rfl
    ·show 1+(x'.cnt+y'.cnt)<=1+(x.cnt+y.cnt);lia
    ·show 1+max x'.dp y'.dp<=1+max x.dp y.dp;lia
   | box x =>
    have ho':=ho;have hd':1+x.dp<=n+1:=hd;walk_at "k4";refine⟨by decide,Dl (⟨trivial,by decide,x,s,⟨rfl,ho',by lia⟩,hg1.1,λx' G3 hx' hg2=>?_⟩)⟩;obtain⟨x',rfl,a1,a2,a3⟩:=hx';refine⟨trivial,λp2 hp2=>?_⟩;rw[Dp Ak];refine⟨(Qzz 2),q _ _ ⟨.box x',rfl,a1,?_,?_⟩ ((hg1.trans hg2).put hp2)⟩
    ·show 1+x'.cnt<=1+x.cnt;lia
    ·show 1+x'.dp<=1+x.dp;lia
theorem Cd{k:Kd}{rest:GS}(h1:ω[i]?=some (some k.enc))(h:(k.hd==t)=false)(h':rest D ω G):Af (gIf (gTB (Ad (Ae (eqF false)) (Ad (Ae ixW) (Ab i) eq) (gC (.str t)))) B Aj) rest D ω G:=by
 simp only[Af,gIf,gTB,Ad,Ae,Ab,h1,gC,B2,Ao,Bi,h];exact h'
theorem Jc{k:Kd}{rest:GS}(h1:ω[i]?=some (some k.enc))(h:(k.hd==t)=true)(h':B {nx:=rest D,rt:=D.rt,bk:=D.bk,ct:=D.ct} ω G):Af (gIf (gTB (Ad (Ae (eqF false)) (Ad (Ae ixW) (Ab i) eq) (gC (.str t)))) B Aj) rest D ω G:=by
 simp only[Af,gIf,gTB,Ad,Ae,Ab,h1,gC,B2,Ao,Bi,h];exact h'
noncomputable def toL:Fs->List Fd
 | .nil=>[]
 | .cons n m k r=>(n,m,k)::toL r
theorem F4:∀ fs:Fs,fs.enc=(toL fs).map Bs
 | .nil=>rfl
 | .cons n m k r=>by show _::r.enc=_::(toL r).map Bs;rw[F4 r];rfl
theorem Jd:∀ fs:Fs,fs.names=(toL fs).map (·.1)
 | .nil=>rfl
 | .cons n m k r=>by show _::r.names=_::(toL r).map (·.1);rw[Jd r]
def cF:List Fd->Nat
 | []=>0
 | x::l=>x.2.2.cnt+cF l
theorem nl{a:List Fd}(h:l.Sublist a):cF l<=cF a:=by
 induction h with
 | slnil=>exact Yr _
 | cons x _ b=>show _<=x.2.2.cnt+_;lia
 | cons_cons x _ b=>show x.2.2.cnt+_<=x.2.2.cnt+_;lia
theorem MY:∀ fs:Fs,fs.cnt=cF (toL fs)
 | .nil=>rfl
 | .cons n m k r=>by show k.cnt+r.cnt=k.cnt+cF (toL r);rw[MY r]
theorem GV:∀{fs:Fs},fs.ok=true->∀ x∈toL fs,AB x.1=true/\x.2.2.ok=true/\x.2.2.cnt<=fs.cnt/\x.2.2.dp<=fs.dp
 | .nil,_,x,a=>by cases a
 | .cons n m k r,h,x,a=>by
  have h':(AB n&&k.ok&&r.ok)=true:=h;simp only [YF] at h';show _/\_/\x.2.2.cnt<=k.cnt+r.cnt/\x.2.2.dp<=max k.dp r.dp;rcases Yo.mp a with rfl | a
  ·exact⟨h'.1.1,h'.1.2,by show k.cnt<=_;lia,by show k.dp<=_;lia⟩
  ·obtain⟨c,b,d,e⟩:=GV h'.2 x a;exact⟨c,b,by lia,by lia⟩
noncomputable abbrev UR:GT:=gOr (gTB (Ad (Ae (eqF false)) hH (gC (.str "must")))) (gTB (Ad (Ae (eqF false)) (Ag BM XF (Aa f4 sx)) eq))
theorem MZ:∀(l:List Fd)(o:Option W)(G:Hw)(acc:List Fd),St s G->acc.length+l.length<=1000->(∀ l' G',l'.Sublist l->Hs s G G'->R ((acc++l').map Bs) G')->AU yes (gNm 0) UR ef R (l.map Bs) [o,some (.ref s)] G (acc.map Bs)
 | [],o,G,acc,hs,_,fin=>⟨trivial,by have:=fin [] G (.slnil) (Hs.refl hs);rw[Yx]at this;exact this⟩
 | x::l,o,G,acc,hs,hl,fin=>by
  rw[Yg]at hl
  have go:∀ G1,Hs s G G1->AU yes (gNm 0) UR ef R (l.map Bs) [some (Bs x),some (.ref s)] G1 (acc.map Bs++[Bs x]):=λG1 hg=>by
   have z:=MZ l (some (Bs x)) G1 (acc++[x]) hg.1 (by rw[Yj];simp only[Yg,Yi];lia) λl' G' h1 h2=>by
    rw[Yv];exact fin (x::l') G' (.cons₂ _ h1) (hg.trans h2)
   rw[Yy]at z;exact z
  refine⟨trivial,by rw[Yh];exact Bf (by lia),?_⟩;simp only[gOr,gTB,Ad];refine Bk (fun h=>?_) (fun h=>?_)
  ·exact go G (Hs.refl hs)
  ·walk_at "k0";refine Bj (by decide) (by decide) hs λr G1 r0 r1 hg=>Bk (λh=>?_) (λh=>?_)
   ·exact go G1 hg
   ·exact MZ l _ G1 acc hg.1 (by lia) λl' G' h1 h2=>fin l' G' (.cons _ h1) (hg.trans h2)
noncomputable def flO:List (Str×Te)->Fl
 | []=>.nil
 | x::l=>.cons x.1 x.2 (flO l)
def Je(x:Str×Te):W:=.tup [.str x.1,x.2.enc]
theorem US:∀ l,(flO l).enc=l.map Je
 | []=>rfl
 | x::l=>by show _::(flO l).enc=_::l.map Je;rw[US l];rfl
theorem UT:∀ l,(flO l).names=l.map (·.1)
 | []=>rfl
 | x::l=>by show _::(flO l).names=_::l.map (·.1);rw[UT l]
noncomputable def TL(d:Nat):List (Str×Te)->List Fd->Prop
 | [],[]=>True
 | y::ys,x::xs=>(y.1=x.1/\TmB (2*x.2.2.cnt) d y.2)/\TL d ys xs
 | _,_=>False
theorem TL.ok:∀{ys:List (Str×Te)}{xs:List Fd},TL d ys xs->(∀ x∈xs,AB x.1=true)->(flO ys).ok=true/\(flO ys).cnt<=2*cF xs/\(flO ys).dp<=d/\ys.map (·.1)=xs.map (·.1)
 | [],[],_,_=>⟨rfl,YV _,YV _,rfl⟩
 | y::ys,x::xs,⟨⟨h1,h2,g,j⟩,h⟩,a=>by
  obtain⟨e,i,f,c⟩:=TL.ok h λz b=>a z (Yd _ b);refine⟨?_,?_,?_,?_⟩
  ·show((AB y.1&&y.2.ok)&&(flO ys).ok)=true;rw[h1,a x Ye,h2,e];rfl
  ·show y.2.cnt+(flO ys).cnt<=2*(x.2.2.cnt+cF xs);lia
  ·show max y.2.dp (flO ys).dp<=d;lia
  ·rw[Ym,Ym,c,h1]
theorem TL.snoc(h:y.1=x.1/\TmB (2*x.2.2.cnt) d y.2):∀{ys:List (Str×Te)}{xs:List Fd},TL d ys xs->TL d (ys++[y]) (xs++[x])
 | [],[],_=>⟨h,trivial⟩
 | y::ys,x::xs,⟨h1,h2⟩=>⟨h1,TL.snoc h h2⟩
noncomputable abbrev Jf(n:Nat):Spw:=C5 (λ(k:Kd)s ws _=>ws=[.ref s,k.enc]/\KOk k/\k.dp<=n) λk _ r _=>∃ t:Te,r=t.enc/\TmB (2*k.cnt) (2*k.dp) t
noncomputable abbrev gLe(n:Nat):GE:=Ah (Aa ad (Aa (Ag (Jf n) XF (Aa f4 (Aa rL Ac))) Ac))
theorem UU(c:q≠s):∀(l done:List Fd)(ys:List (Str×Te))(o:Option W)(G:Hw),St s G->G q=some (.lst items)->TL d ys done->ys.length+l.length<=1000->(∀ x∈l,KOk x.2.2/\x.2.2.dp<=n/\2*x.2.2.dp<=d)->(∀ a e,TL d a (done++l)->Hs s G e->R (a.map Je) e)->AU (holds q items) (gNm 0) AC (gLe n) R (l.map Bs) [o,some (.ref s)] G (ys.map Je)
 | [],done,ys,o,G,hs,f,h,_,_,b=>⟨f,b ys G (by rw[Yx];exact h) (Hs.refl hs)⟩
 | x::l,done,ys,o,G,hs,f,h,hl,i,b=>by
  rw[Yg]at hl;refine⟨f,by rw[Yh];exact Bf (by lia),?_⟩;obtain⟨u,p,w⟩:=i x Ye;refine⟨x.2.2,s,⟨rfl,u,p⟩,hs,λr k j g=>?_⟩;obtain⟨t,rfl,h1,h2,v⟩:=j;refine⟨(Qzz 2),?_⟩;have z:=UU c l (done++[x]) (ys++[(x.1,t)]) (some (Bs x)) k g.1 (g.2 q c _ f) (TL.snoc ⟨rfl,h1,h2,by show t.dp<=d;lia⟩ h) (by rw[Yj];simp only[Yg,Yi];lia) (λy m=>i y (Yd _ m)) λa e g1 g2=>b a e (by rw[Yv]at g1;exact g1) (g.trans g2);rw[Yy]at z;exact z
theorem nn(h1:A0 f.names=true)(h2:f.ok=true)(a:f.cnt<=c)(b:f.dp<=d):TmB (c+1) (d+1) (.nd "rec" (.fld f .nil)):=by
 refine⟨Bt (show KTD.datumAt ("rec":Str) AT=some [("fields":Str)] by decide +kernel) ?_,?_,?_⟩
 ·show((A0 f.names&&f.ok)&&true)=true;rw[h1,h2];rfl
 ·show 1+(f.cnt+0)<=_;lia
 ·show 1+max f.dp 0<=_;lia
theorem M0(h:KOk k)(hc:c∈k.kids):KOk c:=by
 have h2:=h.2;unfold Bl at h2;simp only[YQ]at h2;refine⟨Co h.1 c hc,?_⟩;unfold Bl;have:=Rm hc;have:=D3 hc;simp only[YQ];lia
theorem Ek(T:Tx K mg base a):∀ n:Nat,Df P w K mg base "_law_least" (n+1) 2 (Jf n)
 | 0=>BX T.Rw BN λws G Q E⟨k,s,⟨_,_,hd⟩,_⟩=>by have:=CV k;lia
 | n+1=>by
  refine mk0 T.Rw rfl UC BN (λws G Q E⟨k,s,⟨e,_⟩,_⟩=>by rw[e];rfl) (mT T (AO T) (by lia) (Ek T n) (Yr _)) λws G Q E hC q=>?_;obtain⟨k,s,⟨rfl,ho,hd⟩,hs,q⟩:=q;show Af (gIf _ _ Aj) _ (AH Q) [some (.ref s),some k.enc,none] G
  have out:∀ k':Kd,k'=k->Ai (Ah (Aa sh (Aa (Ad (Ar (λ_ _=>True) λi j=>i - j) (Ag BM XF (Aa ef (Aa (gC (.int 9)) Ac))) (gC (.int 4))) Ac))) (AH Q) [some (.ref s),some k'.enc,none] G:=by
   rintro k' rfl;walk_at "k3";exact Bj (by decide) (by decide) hs λr G1 r0 r9 hg=>⟨trivial,(Qzz 2),q _ _ ⟨.nd "num" (.num (r - 4) .nil),rfl,(UQ (by lia) (by lia)).mono (by have:=D2 k';lia) (by have:=CV k';lia)⟩ hg⟩
  cases k with
  | any|num=>exact Cd rfl rfl (Cd rfl rfl (Cd rfl rfl (Cd rfl rfl (out _ rfl))))
  | truth =>
   refine Jc rfl rfl ?_;walk_at "k3";exact Bj (by decide) (by decide) hs λr G1 r0 r9 hg=>⟨(Qzz 2),q _ _ ⟨.nd "truth" (.tru _ .nil),rfl,(UP _).mono (by decide) (by decide)⟩ hg⟩
  | to x y =>
   have hy:=M0 ho (.tail _ (.head _));have hx:=M0 ho (.head _);have hd':1+max x.dp y.dp<=n+1:=hd;refine Cd rfl rfl (Jc rfl rfl ?_);walk_at "k3";refine E5 rfl (by decide) (by decide) hs λz hz G1 hg=>⟨y,s,⟨rfl,hy,by lia⟩,hg.1,λr G2 hr hg2=>?_⟩;obtain⟨t,rfl,ht⟩:=hr;refine⟨(Qzz 4),?_⟩
   have hn:∃ v:Str,z=.str v/\AB v=true:=by
    simp only[Yo,Qa,or_false]at hz;rcases hz with rfl | rfl
    ·exact⟨_,rfl,by decide +kernel⟩
    ·exact⟨_,rfl,by decide +kernel⟩
   obtain⟨v,rfl,hv⟩:=hn;exact q _ _ ⟨.nd "fun" (.nam v (.knd x (.trm t .nil))),rfl,(Ja hv hx ht).mono (by show _<=2*(1+(x.cnt+y.cnt));lia) (by show _<=2*(1+max x.dp y.dp);lia)⟩ (hg.trans hg2)
  | box x =>
   have hx:=M0 ho (.head _);have hd':1+x.dp<=n+1:=hd;refine Cd rfl rfl (Cd rfl rfl (Jc rfl rfl ?_));refine⟨x,s,⟨rfl,hx,by lia⟩,hs,λr G2 hr hg2=>?_⟩;obtain⟨t,rfl,ht⟩:=hr;exact⟨(Qzz 3),(Qzz 2),q _ _ ⟨.nd "new" (.trm (.nd "as" (.trm t (.knd x .nil))) .nil),rfl,(GQ (by decide +kernel) (Cq ht hx)).mono (by show _<=2*(1+x.cnt);lia) (by show _<=2*(1+x.dp);lia)⟩ hg2⟩
  | row fs o =>
   have hr:(A0 fs.names&&fs.ok)=true:=ho.1;simp only[YF]at hr;have hd':1+fs.dp<=n+1:=hd;have hgd:=ho.2;unfold Bl at hgd;simp only[YQ]at hgd;have hgc:1+fs.cnt<=40:=hgd.1;have hgp:1+fs.dp<=8:=hgd.2;have hfl:=Iq fs;rw[F4,Yh]at hfl;refine Cd rfl rfl (Cd rfl rfl (Cd rfl rfl (Jc rfl rfl ?_)));refine AG ?_;simp only [Bd,Ax,Ad,Ae,Ab,gC,Yb,Yc,Kd.enc,ixW,Bx,Ao,F4,BG,List.replicate,Ym,YH,Option.getD_some,List.cons_append,Yw];refine MZ (toL fs) none G [] hs (by simp only[Yi];lia) λl G1 l1 hg p hp=>?_;have hps:=Hs.ne hg.1 hp;have hll:=l1.length_le;walk_at "k4";refine UU (d:=2*fs.dp) hps l [] [] none _ (hg.1.put hp) Ak trivial (by simp only[Yi];lia) (λx hx=>?_) λys G2 g1 g2 p2 hp2=>?_
   ·obtain⟨a1,a2,a3,a4⟩:=GV hr.2 x (l1.subset hx);refine⟨⟨a2,?_⟩,by lia,by lia⟩;unfold Bl;simp only[YQ];lia
   ·rw[Dp Ak,Ao];refine⟨(Qzz 2),?_⟩;obtain⟨b1,b2,b3,b4⟩:=g1.ok λx hx=>(GV hr.2 x (l1.subset hx)).1;have hcl:=nl l1;have hfc:=MY fs;refine q _ _ ⟨.nd "rec" (.fld (flO ys) .nil),?_,(nn (c:=2*cF l) ?_ b1 b2 b3).mono ?_ ?_⟩ ((hg.put hp).trans g2 |>.put hp2)
    ·show _=W.tup [.str "rec",.tup (flO ys).enc];rw[US]
    ·rw[UT,b4];exact MU (l1.map _) (by rw[<- Jd];exact hr.1)
    ·show _<=2*(1+fs.cnt);lia
    ·show _<=2*(1+fs.dp);lia
noncomputable abbrev UV:List Str:=["state","want","names","deep","some","name","kind","told"]
theorem UW:Ay UV ["state","want","names","deep"] (Ap LZ):=by walk_at "s"
noncomputable def UX(BI:Spw)(AS:Spw):GS:=(Af (Al 4 (An Ac)) (Af (AN (Ax (gB (HU) rM)) (gNm 5) (Af (Al 6 (Ad (Ae ixK) kw sG)) (Af (gIf (gTB (Ad (Ae (eqF false)) sF f4)) (AD (gMt AQ A2 se (Aa (Ah (Aa rW sd)) Ac))) Aj) (Af (gIf (AF (gTB (Ad (Ae (eqF false)) (Ad (Ae ixW) sF eq) sU)) (gTB (Ad (Ae (eqF false)) (Ad (Ae ixW) sF h8) f4))) (AD (gMt AQ A2 se (Aa (Ah (Aa (gC (.str "call")) (Aa (Ag BI XF (Aa ef (Aa (Ah (Aa rW sd)) Ac))) (Aa (Ag AS XF (Aa ef (Aa (Ad (Ae ixW) sF dl) (Aa kw rK)))) Ac)))) Ac))) Aj) (Af (gIf (gTB (Ad (Ae (eqF false)) sF (Ah (Aa sR re)))) (Af (AD (gMt AQ A2 se (Aa (Ah (Aa (gC (.str "read")) (Aa (Ag BI XF (Aa ef (Aa (Ah (Aa rW sd)) Ac))) Ac))) Ac))) (AD (gMt AQ A2 se (Aa (Ah (Aa (gC (.str "write")) (Aa (Ah (Aa rW sd)) (Aa (Ag AS XF (Aa ef (Aa f4 (Aa kw rK)))) Ac)))) Ac)))) Aj) (gIf (gTB (Ad (Ae (eqF false)) (Ad (Ae ixW) sF eq) rQ)) (Af (Al 7 (Bd (Ax (Ad (Ae ixW) sF dl)) 1 [1] (gNm 0) (gTB (Ad (Ae (eqF false)) r6 (Ah (Aa (gC (.str "must")) re)))) ad)) (AD (gMt AQ Cy se (Aa (Bd (Ax (Ab 7)) 1 [0,5] (gNm 0) AC (Ah (Aa (gC (.str "get")) (Aa (Ag BI XF (Aa f4 (Aa (Ah (Aa rW rM)) Ac))) ln)))) Ac)))) Aj)))))) (Ai se)))
theorem np(T:Tx K mg base a){CF:Nat}(UY:Df P w K mg base "_law_blur" CF 2 BI)(UZ:CF<=k)(IW:Df P w K mg base "_law_term" BH 4 AS)(IX:BH<=k):Dn P w K mg base UV "_law_by_name" LZ k (UX BI AS):=by
 have hN:=UW.nd;walk_at "z"
noncomputable abbrev U0:List Str:=["state","want","names","deep","way","some","one","other","mark","kind","row","inner","number"]
theorem U1:Ay U0 ["state","want","names","deep"] (Ap L0):=by walk_at "s"
noncomputable def Mg1(Aq BI:Spw):GS:=(Af (gIf (gTB (Ad (Ae (eqF false)) (Ag Aq XF (Aa (Ab 0) (Aa (gC (.int 2)) Ac))) (gC (.int 0)))) (Af (Al 9 (Ah (Aa (gC (.str "row")) (Aa (Ad (Ae ixW) (An (Aa (Ad (Ae ixW) (Ab 9) (gC (.int 1))) (Aa (Ah Ac) Ac))) (Ad (Ar EF λi j=>i / j) (Ag Aq XF (Aa (Ab 0) (Aa (gC (.int 3)) Ac))) (gC (.int 2)))) (Aa (Ad (Ae ixW) (Ab 9) (gC (.int 2))) Ac))))) (Al 10 (Ag BI XF (Aa (Ab 0) (Aa (Ah (Aa (gC (.str "as")) (Aa (Ab 10) (Aa (Ah (Aa (gC (.str "any")) Ac)) Ac)))) Ac))))) Aj) (Af (Al 10 (Ah (Aa (gC (.str "as")) (Aa (Ab 10) (Aa (Ab 9) Ac))))) (Af (gIf (gOr (gTB (Ad (Ae (eqF false)) (Ab 8) (gC (.str "may")))) (AF (gTB (Ad (Ae (eqF false)) (Ad (Ae ixW) (Ab 9) (gC (.int 1))) (Ah Ac))) (gNt (AI (Ad (Ae ixW) (Ab 9) (gC (.int 2))))))) (Ai (Ah (Aa (gC (.str "or")) (Aa (Ab 10) (Aa (Ad (Ae ixW) (An (Aa (gC (.str "a")) (Aa (gC (.str "b")) Ac))) (Ag Aq XF (Aa (Ab 0) (Aa (gC (.int 2)) Ac)))) (Aa (Ab 7) Ac)))))) Aj) (Ai (Ah (Aa (gC (.str "get")) (Aa (Ab 10) (Aa (gC (.str "a")) Ac))))))))
noncomputable def Mf1(Aq AS BI:Spw):GS:=(Af (Al 8 (Ad (Ae ixW) (An (Aa (gC (.str "must")) (Aa (gC (.str "may")) Ac))) (Ag Aq XF (Aa (Ab 0) (Aa (gC (.int 2)) Ac))))) (Af (Al 9 (Ah (Aa (gC (.str "row")) (Aa (Ah (Aa (Ah (Aa (gC (.str "a")) (Aa (Ab 8) (Aa (Ab 1) Ac)))) Ac)) (Aa (Ad (Ae (eqF false)) (Ag Aq XF (Aa (Ab 0) (Aa (gC (.int 2)) Ac))) (gC (.int 0))) Ac))))) (Af (Al 10 (Ag AS XF (Aa (Ab 0) (Aa (Ah (Aa (gC (.str "row")) (Aa (Ad (Ae ixW) (Ab 9) (gC (.int 1))) (Aa (gC (.bl false)) Ac)))) (Aa (Ab 2) (Aa (Ad (Ar (λ_ _=>True) λi j=>i - j) (Ab 3) (gC (.int 1))) Ac)))))) (Mg1 Aq BI))))
noncomputable def Me1(Aq AS BI:Spw):GS:=(Af (gIf (AF (gTB (Ad (Ae (eqF false)) (Ab 4) (gC (.int 9)))) (gTB (Ad (Ae (inF false)) (Ad (Ae ixW) (Ab 1) (gC (.int 0))) (An (Aa (gC (.str "num")) (Aa (gC (.str "truth")) Ac)))))) (Af (Al 12 (Ag AS XF (Aa (Ab 0) (Aa (Ah (Aa (gC (.str "num")) Ac)) (Aa (Ab 2) (Aa (Ad (Ar (λ_ _=>True) λi j=>i - j) (Ab 3) (gC (.int 1))) Ac)))))) (Af (gIf (gTB (Ad (Ae (eqF false)) (Ad (Ae ixW) (Ab 1) (gC (.int 0))) (gC (.str "num")))) (Ai (Ah (Aa (gC (.str "plus")) (Aa (Ab 12) (Aa (Ab 6) Ac))))) Aj) (Ai (Ah (Aa (gC (.str "less")) (Aa (Ab 12) (Aa (Ag AS XF (Aa (Ab 0) (Aa (Ah (Aa (gC (.str "num")) Ac)) (Aa (Ab 2) (Aa (Ad (Ar (λ_ _=>True) λi j=>i - j) (Ab 3) (gC (.int 1))) Ac))))) Ac))))))) Aj) (Mf1 Aq AS BI))
noncomputable def Md1(Aq AS BI:Spw):GS:=(Af (gIf (AF (gTB (Ad (AV λi j=>decide (j < i)) (Ab 4) (gC (.int 8)))) (gTB (Ad (Ae (eqF false)) (Ad (Ae ixW) (Ab 1) (gC (.int 0))) (gC (.str "to"))))) (Af (Al 11 (gB (Gn) (Aa (Ab 2) Ac))) (Af (FC (Ad (Ae ixW) (Ab 1) (gC (.int 1))) (Ab 11) (Ad (Ae ixW) (An (Aa (gC (.str "x")) (Aa (gC (.str "y")) Ac))) (Ad (Ar (λ_ j=>0 < j) λi j=>i % j) (Ab 4) (gC (.int 2))))) (Ai (Ah (Aa (gC (.str "fun")) (Aa (Ad (Ae ixW) (An (Aa (gC (.str "x")) (Aa (gC (.str "y")) Ac))) (Ad (Ar (λ_ j=>0 < j) λi j=>i % j) (Ab 4) (gC (.int 2)))) (Aa (Ad (Ae ixW) (Ab 1) (gC (.int 1))) (Aa (Ag AS XF (Aa (Ab 0) (Aa (Ad (Ae ixW) (Ab 1) (gC (.int 2))) (Aa (Ab 11) (Aa (Ad (Ar (λ_ _=>True) λi j=>i - j) (Ab 3) (gC (.int 1))) Ac))))) Ac)))))))) Aj) (Me1 Aq AS BI))
noncomputable def Mc1(Aq AS BI:Spw):GS:=(Af (Al 6 (Ag AS XF (Aa (Ab 0) (Aa (Ab 1) (Aa (Ab 2) (Aa (Ad (Ar (λ_ _=>True) λi j=>i - j) (Ab 3) (gC (.int 1))) Ac)))))) (Af (Al 7 (Ag AS XF (Aa (Ab 0) (Aa (Ab 1) (Aa (Ab 2) (Aa (Ad (Ar (λ_ _=>True) λi j=>i - j) (Ab 3) (gC (.int 1))) Ac)))))) (Af (gIf (gTB (Ad (Ae (eqF false)) (Ab 4) (gC (.int 8)))) (Ai (Ah (Aa (gC (.str "if")) (Aa (Ag AS XF (Aa (Ab 0) (Aa (Ah (Aa (gC (.str "truth")) Ac)) (Aa (Ab 2) (Aa (Ad (Ar (λ_ _=>True) λi j=>i - j) (Ab 3) (gC (.int 1))) Ac))))) (Aa (Ab 6) (Aa (Ab 7) Ac)))))) Aj) (Md1 Aq AS BI))))
noncomputable def Mb1(Aq Jh AS BI:Spw):GS:=(Af (gIf (gTB (Ad (Ae (eqF true)) (Ab 5) (An Ac))) (Ai (Ad (Ae ixW) (Ab 5) (Ag Aq XF (Aa (Ab 0) (Aa (gB (rF AK) (Aa (Ab 5) Ac)) Ac))))) Aj) (Af (gIf (gTB (Ad (Ba (λi j=>decide (i < j)) AW) (Ab 4) (gC (.int 8)))) (Ai (Ag Jh XF (Aa (Ab 0) (Aa (Ab 1) (Aa (Ab 2) (Aa (Ad (Ar (λ_ _=>True) λi j=>i - j) (Ab 3) (gC (.int 1))) Ac)))))) Aj) (Mc1 Aq AS BI)))
noncomputable def Ma1(Aq Jg Jh AS BI:Spw):GS:=(Af (Al 5 (An Ac)) (Af (gIf (gTB (Ad (Ba (λi j=>decide (i < j)) AW) (Ab 4) (gC (.int 6)))) (Al 5 (Ag Jg XF (Aa (Ab 0) (Aa (Ab 1) (Aa (Ab 2) (Aa (Ad (Ar (λ_ _=>True) λi j=>i - j) (Ab 3) (gC (.int 1))) Ac)))))) Aj) (Mb1 Aq Jh AS BI)))
noncomputable def M1(Aq:Spw)(C4:Spw)(Jg:Spw)(Jh:Spw)(AS:Spw)(BI:Spw):GS:=(Af (Al 4 (Ag Aq XF (Aa (Ab 0) (Aa (gC (.int 12)) Ac)))) (Af (gIf (gOr (gTB (Ad (Ae (eqF false)) (Ab 3) (gC (.int 0)))) (gTB (Ad (Ae (eqF false)) (Ab 4) (gC (.int 11))))) (Af (gIf (gTB (Ad (Ae (eqF false)) (gMt ET ES (Ab 2) (Aa (gC (.str "x")) (Aa (Ah Ac) Ac))) (Ab 1))) (Ai (Ah (Aa (gC (.str "name")) (Aa (gC (.str "x")) Ac)))) Aj) (Ai (Ag C4 XF (Aa (Ab 0) (Aa (Ab 1) Ac))))) Aj) (Ma1 Aq Jg Jh AS BI)))
theorem nq(T:Tx K mg base a){AO:Nat}(Dh:Df P w K mg base "_law_take" AO 2 Aq)(Di:AO<=k){Ek:Nat}(mU:Df P w K mg base "_law_least" Ek 2 C4)(mV:Ek<=k)(p6:Df P w K mg base "_law_by_name" Ji 4 Jg)(p7:Ji<=k)(p8:Df P w K mg base "_law_around" Jj 4 Jh)(p9:Jj<=k)(IW:Df P w K mg base "_law_term" BH 4 AS)(IX:BH<=k){CF:Nat}(UY:Df P w K mg base "_law_blur" CF 2 BI)(UZ:CF<=k):Dn P w K mg base U0 "_law_term" L0 k (M1 Aq C4 Jg Jh AS BI):=by
 have hN:=U1.nd;walk_at "z"
noncomputable abbrev U2:List Str:=["state","want","names","deep","made","part","some"]
theorem U3:Ay U2 ["state","want","names","deep"] (Ap L1):=by walk_at "s"
noncomputable def U4(AY:Spw)(AS:Spw)(Aq:Spw):GS:=(Af (Al 4 (Ah (Aa sK (Aa (Ag AS XF (Aa ef (Aa (Ag AY XF (Aa ef sE)) (Aa kw rK)))) (Aa na Ac))))) (Af (Al 5 (Ag AS XF (Aa ef (Aa (Ag AY XF (Aa ef sV)) (Aa kw rK))))) (Af (Al 6 (An (Aa (Ah (Aa (gC (.str "call")) (Aa se sd))) (Aa (Ah (Aa (gC (.str "read")) sN)) (Aa (Ah (Aa (gC (.str "write")) (Aa se sd))) (Aa (Ah (Aa (gC (.str "get")) (Aa se (Aa (gC (.str "a")) Ac)))) Ac)))))) (Af (AD (gMt AQ A2 sF (Aa (Ah (Aa (gC (.str "or")) (Aa se (Aa (gC (.str "a")) (Aa (Ag AS XF (Aa ef (Aa f4 (Aa kw rK)))) Ac))))) Ac))) (Ai (Ad (Ae ixW) sF (Ag Aq XF (Aa ef (Aa (gC (.int 5)) Ac)))))))))
theorem nr(T:Tx K mg base a){Bp:Nat}(GN:Df P w K mg base "_law_kind" Bp 2 AY)(GP:Bp<=k)(IW:Df P w K mg base "_law_term" BH 4 AS)(IX:BH<=k){AO:Nat}(Dh:Df P w K mg base "_law_take" AO 2 Aq)(Di:AO<=k):Dn P w K mg base U2 "_law_any_first" L1 k (U4 AY AS Aq):=by
 have hN:=U3.nd;walk_at "z"
noncomputable abbrev U5:List Str:=["state","want","names","deep","way","kind","made","other","name","inner"]
theorem U6:Ay U5 ["state","want","names","deep"] (Ap L5):=by walk_at "s"
noncomputable def U7(Aq:Spw)(Jk:Spw)(AY:Spw)(AS:Spw)(Dm:Spw)(BI:Spw):GS:=(Af (Al 4 (Ag Aq XF (Aa (Ab 0) (Aa (gC (.int 10)) Ac)))) (Af (gIf (gTB (Ad (AV λi j=>decide (j < i)) (Ab 4) (gC (.int 7)))) (Ai (Ag Jk XF (Aa (Ab 0) (Aa (Ab 1) (Aa (Ab 2) (Aa (Ab 3) Ac)))))) Aj) (Af (gIf (gTB (Ad (Ae (eqF false)) (Ab 4) (gC (.int 0)))) (Af (Al 7 (Ad (Ae ixW) (An (Aa (Ab 1) (Aa (Ab 1) (Aa (Ag AY XF (Aa (Ab 0) (Aa (gC (.int 1)) Ac))) Ac)))) (Ag Aq XF (Aa (Ab 0) (Aa (gC (.int 3)) Ac))))) (Ai (Ah (Aa (gC (.str "as")) (Aa (Ag AS XF (Aa (Ab 0) (Aa (Ab 7) (Aa (Ab 2) (Aa (Ab 3) Ac))))) (Aa (Ah (Aa (gC (.str "any")) Ac)) Ac)))))) Aj) (Af (gIf (gTB (Ad (Ae (eqF false)) (Ab 4) (gC (.int 1)))) (Ai (Ah (Aa (gC (.str "as")) (Aa (Ah (Aa (gC (.str "as")) (Aa (Ag AS XF (Aa (Ab 0) (Aa (Ab 1) (Aa (Ab 2) (Aa (Ab 3) Ac))))) (Aa (Ag Dm XF (Aa (Ab 0) (Aa (Ab 1) Ac))) Ac)))) (Aa (Ab 1) Ac))))) Aj) (Af (gIf (gTB (Ad (Ae (eqF false)) (Ab 4) (gC (.int 2)))) (Ai (Ah (Aa (gC (.str "as")) (Aa (Ah (Aa (gC (.str "as")) (Aa (Ag AS XF (Aa (Ab 0) (Aa (Ag AY XF (Aa (Ab 0) (Aa (gC (.int 1)) Ac))) (Aa (Ab 2) (Aa (Ab 3) Ac))))) (Aa (Ah (Aa (gC (.str "any")) Ac)) Ac)))) (Aa (Ab 1) Ac))))) Aj) (Af (Al 5 (Ad (Ae ixW) (An (Aa (Ag AY XF (Aa (Ab 0) (Aa (gC (.int 1)) Ac))) (Aa (Ah (Aa (gC (.str "to")) (Aa (Ag AY XF (Aa (Ab 0) (Aa (gC (.int 0)) Ac))) (Aa (Ab 1) Ac)))) (Aa (Ah (Aa (gC (.str "box")) (Aa (Ab 1) Ac))) Ac)))) (Ad (Ar (λ_ j=>0 < j) λi j=>i % j) (Ab 4) (gC (.int 3))))) (Af (gIf (gTB (Ad (Ba (λi j=>decide (i < j)) AW) (Ab 4) (gC (.int 6)))) (Af (Al 8 (Ad (Ae ixW) (An (Aa (gC (.str "x")) (Aa (gC (.str "y")) Ac))) (Ag Aq XF (Aa (Ab 0) (Aa (gC (.int 2)) Ac))))) (Af (Al 9 (gB (Gn) (Aa (Ab 2) Ac))) (Af (FC (Ab 5) (Ab 9) (Ab 8)) (Af (Al 6 (Ah (Aa (gC (.str "fun")) (Aa (Ab 8) (Aa (Ab 5) (Aa (Ag AS XF (Aa (Ab 0) (Aa (Ab 1) (Aa (Ab 9) (Aa (Ab 3) Ac))))) Ac)))))) (Ai (Ah (Aa (gC (.str "call")) (Aa (Ag BI XF (Aa (Ab 0) (Aa (Ab 6) Ac))) (Aa (Ag AS XF (Aa (Ab 0) (Aa (Ab 5) (Aa (Ab 2) (Aa (Ab 3) Ac))))) Ac))))))))) Aj) (Af (gIf (gTB (Ad (Ae (eqF false)) (Ab 4) (gC (.int 6)))) (Af (Al 6 (Ah (Aa (gC (.str "as")) (Aa (Ag AS XF (Aa (Ab 0) (Aa (Ah (Aa (gC (.str "box")) (Aa (Ab 1) Ac))) (Aa (Ab 2) (Aa (Ab 3) Ac))))) (Aa (Ah (Aa (gC (.str "box")) (Aa (Ab 1) Ac))) Ac))))) (Af (gIf (gTB (Ad (Ae (eqF false)) (Ag Aq XF (Aa (Ab 0) (Aa (gC (.int 2)) Ac))) (gC (.int 0)))) (Ai (Ah (Aa (gC (.str "read")) (Aa (Ag BI XF (Aa (Ab 0) (Aa (Ab 6) Ac))) Ac)))) Aj) (Ai (Ah (Aa (gC (.str "write")) (Aa (Ag BI XF (Aa (Ab 0) (Aa (Ab 6) Ac))) (Aa (Ag AS XF (Aa (Ab 0) (Aa (Ab 1) (Aa (Ab 2) (Aa (Ab 3) Ac))))) Ac))))))) Aj) (Af (Al 5 (Ah (Aa (gC (.str "to")) (Aa (Ag AY XF (Aa (Ab 0) (Aa (gC (.int 1)) Ac))) (Aa (Ab 1) Ac))))) (Af (Al 6 (Ag AS XF (Aa (Ab 0) (Aa (Ab 5) (Aa (Ab 2) (Aa (Ab 3) Ac)))))) (Af (gIf (gTB (Ad (Ae (eqF false)) (Ag Aq XF (Aa (Ab 0) (Aa (gC (.int 2)) Ac))) (gC (.int 0)))) (Al 6 (Ah (Aa (gC (.str "as")) (Aa (Ab 6) (Aa (Ag Dm XF (Aa (Ab 0) (Aa (Ab 5) Ac))) Ac))))) Aj) (Af (Al 6 (Ah (Aa (gC (.str "as")) (Aa (Ab 6) (Aa (Ab 5) Ac))))) (Ai (Ah (Aa (gC (.str "call")) (Aa (Ag BI XF (Aa (Ab 0) (Aa (Ab 6) Ac))) (Aa (Ag AS XF (Aa (Ab 0) (Aa (Ad (Ae ixW) (Ab 5) (gC (.int 1))) (Aa (Ab 2) (Aa (Ab 3) Ac))))) Ac)))))))))))))))))
theorem nt(T:Tx K mg base a){AO:Nat}(Dh:Df P w K mg base "_law_take" AO 2 Aq)(Di:AO<=k)(rb:Df P w K mg base "_law_any_first" Jl 4 Jk)(rc:Jl<=k){Bp:Nat}(GN:Df P w K mg base "_law_kind" Bp 2 AY)(GP:Bp<=k)(IW:Df P w K mg base "_law_term" BH 4 AS)(IX:BH<=k){El:Nat}(mY:Df P w K mg base "_law_dim" El 2 Dm)(mZ:El<=k){CF:Nat}(UY:Df P w K mg base "_law_blur" CF 2 BI)(UZ:CF<=k):Dn P w K mg base U5 "_law_around" L5 k (U7 Aq Jk AY AS Dm BI):=by
 have hN:=U6.nd;walk_at "z"
mutual
def plW:W->Bool
 | .str _|.bl _|.int _=>true
 | .tup xs=>plL xs
 | _=>false
def plL:List W->Bool
 | []=>true
 | x::xs=>plW x&&plL xs
end
theorem M2(h:plL (x::xs)=true):plW x=true/\plL xs=true:=Qj.mp h
theorem Cr{a:Bool}(h1:eqD x y=some a)(h2:A1 xs ys=some b):A1 (x::xs) (y::ys)=some (a&&b):=by
 show(match eqD x y,A1 xs ys with | some a,some b=>some (a&&b)| _,_=>none)=_;rw[h1,h2]
mutual
theorem plD:∀(x y:W),plW x=true->plW y=true->∃ b,eqD x y=some b
 | .tup s,.tup t,h,h'=>FU s t h h'
 | .str _,y,_,h|.bl _,y,_,h|.int _,y,_,h=>by cases y <;> first | exact⟨_,rfl⟩| cases h
 | .tup _,.str _,_,_|.tup _,.bl _,_,_|.tup _,.int _,_,_=>⟨false,rfl⟩
 | .tup _,.non,_,h|.tup _,.rol _,_,h|.tup _,.ref _,_,h|.non,_,h,_|.rol _,_,h,_|.ref _,_,h,_=>by cases h
theorem FU:∀(xs ys:List W),plL xs=true->plL ys=true->∃ b,A1 xs ys=some b
 | [],[],_,_=>⟨true,rfl⟩
 | [],_::_,_,_|_::_,[],_,_=>⟨false,rfl⟩
 | x::xs,y::ys,h,h'=>by
  obtain⟨h1,h2⟩:=M2 h;obtain⟨a,d⟩:=M2 h';obtain⟨b,e⟩:=plD x y h1 a;obtain⟨c,f⟩:=FU xs ys h2 d;exact⟨b&&c,Cr e f⟩
end
mutual
theorem E6:∀ k:Kd,plW k.enc=true
 | .any|.num|.truth=>rfl
 | .to x y=>by
  have h1:=E6 x;have h2:=E6 y;show(true&&(plW x.enc&&(plW y.enc&&true)))=true;rw[h1,h2];rfl
 | .box x=>by
  have h1:=E6 x;show(true&&(plW x.enc&&true))=true;rw[h1];rfl
 | .row fs o=>by
  have h1:=M3 fs;show(true&&(plL fs.enc&&(true&&true)))=true;rw[h1];rfl
theorem M3:∀ fs:Fs,plL fs.enc=true
 | .nil=>rfl
 | .cons n m k r=>by
  have h1:=E6 k;have h2:=M3 r;show((true&&(true&&(plW k.enc&&true)))&&plL r.enc)=true;rw[h1,h2];rfl
end
def PT(x:W):Prop:=∃ xs,x=.tup xs/\plL xs=true/\L3.dpL xs < 90
theorem U8(h:PT x)(h':PT y)(G:Hw):∃ b,eqF neg x y G=some (.bl b):=by
 obtain⟨xs,rfl,h1,h2⟩:=h;obtain⟨ys,rfl,a,c⟩:=h';obtain⟨b,e⟩:=FU xs ys h1 a;refine⟨b != neg,?_⟩;show(if L3.dpL xs < 90 then A1 xs ys else none).map _=_;rw[if_pos h2,e];rfl
theorem Eo{k:Kd}(h:k.dp<=20):PT k.enc:=by
 obtain⟨xs,e⟩:=Gu k;have h1:=E6 k;have h2:=DF k;rw[e]at h1 h2;have a:L3.dpL (.str k.hd::xs)+1<=3*k.dp:=h2;exact⟨_,e,h1,by lia⟩
theorem U9:PT (.tup []):=⟨[],rfl,rfl,by decide⟩
theorem FV(h:PT x)(h':PT y)(q:∀ b,Z (.bl b)):opt (eqF neg x y G) Z:=by
 obtain⟨b,e⟩:=U8 h h' G;rw[e];exact q b
def kb(m:Nat):Nat:=19 - 5*m
def kp(m:Nat):Nat:=5 - m
def tb:Nat->Nat | 0=>38 | m+1=>3*tb m+6
def td(m:Nat):Nat:=10+4*m
theorem M4:∀ m,38<=tb m
 | 0=>Yr _
 | m+1=>by have:=M4 m;show 38<=3*tb m+6;lia
theorem KdOk.mono{a:Nat}(h:KdOk c d k)(hc:c<=a)(hd:d<=b):KdOk a b k:=⟨h.1,Yt h.2.1 hc,Yt h.2.2 hd⟩
theorem KdOk.ok(h:KdOk (kb m) (kp m) k):KOk k:=by
 refine⟨h.1,?_⟩;have h2:=h.2;unfold kb kp at h2;unfold Bl;rw[YQ];lia
theorem KdOk.down(h:KdOk (kb (m+1)) (kp (m+1)) k):KdOk (kb m) (kp m) k:=h.mono (by unfold kb;lia) (by unfold kp;lia)
theorem KdOk.pt(h:KdOk (kb m) (kp m) k):PT k.enc:=Eo (by have:=h.2.2;unfold kp at this;lia)
noncomputable def kvK(l:List (Str×Kd)):List (Key×W):=l.map λx=>(Sum.inr x.1,x.2.enc)
noncomputable def Nm(m:Nat)(p:Addr)(G:Hw):Prop:=∃ l:List (Str×Kd),G p=some (.dct (kvK l))/\(∀ x∈l,AB x.1=true/\KdOk (kb m) (kp m) x.2)/\l.length+m<=3
theorem Nm.down(h:Nm (m+1) p G):Nm m p G:=by
 obtain⟨l,h1,h2,b⟩:=h;exact⟨l,h1,λx a=>⟨(h2 x a).1,(h2 x a).2.down⟩,by lia⟩
theorem Nm.hs{a:Hw}(h:Nm m p G)(hs:St s G)(c:Hs s G a):Nm m p a:=by
 obtain⟨l,h1,h2,b⟩:=h;obtain⟨x,f,e⟩:=hs;refine⟨l,c.2 p ?_ _ h1,h2,b⟩;rintro rfl;rw[h1]at e;cases e
theorem Nm.put(h:Nm m p G)(b:G q=none):Nm m p (put G q o):=by
 obtain⟨l,h1,h2,a⟩:=h;exact⟨l,AA b _ _ h1,h2,a⟩
theorem nu(i:AB z=true)(f:KdOk c d k)(l:List (Str×Kd))(h:∀ x∈l,AB x.1=true/\KdOk c d x.2):∃ b,BC (kvK l) (Sum.inr z) k.enc=kvK b/\(∀ x∈b,AB x.1=true/\KdOk c d x.2)/\b.length<=l.length+1:=by
 unfold BC;split
 ·refine⟨l.map λx=>if x.1=z then(x.1,k)else x,?_,?_,by rw[Yh];lia⟩
  ·unfold kvK;rw[YB,YB];refine List.map_congr_left λx _=>?_;show(if(Sum.inr x.1:Key)=Sum.inr z then _ else _)=_;by_cases e:x.1=z
   ·rw[if_pos (by rw[e])];simp only[Function.comp,if_pos e]
   ·rw[if_neg λh=>e (Sum.inr.inj h)];simp only[Function.comp,if_neg e]
  ·intro x a;obtain⟨y,g,rfl⟩:=YC.mp a;split
   ·exact⟨(h y g).1,f⟩
   ·exact h y g
 ·refine⟨l++[(z,k)],by unfold kvK;rw[Yy];rfl,λx a=>?_,by rw[Yj];exact Yr _⟩;rcases Yz.mp a with a | a
  ·exact h x a
  ·rw[YA.mp a];exact⟨i,f⟩
theorem Nm.new(h:Nm (m+1) p G)(g:AB z=true)(f:KdOk (kb m) (kp m) k):∃ kvs,G p=some (.dct kvs)/\kvs.length < sizeLine/\∀ l c,c l=some (.dct (BC kvs (Sum.inr z) k.enc))->Nm m l c:=by
 obtain⟨l,h1,h2,n⟩:=h;obtain⟨i,e,a,b⟩:=nu g f l λx d=>⟨(h2 x d).1,(h2 x d).2.down⟩;exact⟨_,h1,by unfold kvK;rw[Yh];exact Bf (by lia),λq c j=>⟨i,by rw[<- e];exact j,a,by lia⟩⟩
theorem Nm.get(h:Nm m p G)(z:Str):∃ kvs,G p=some (.dct kvs)/\PT (BA kvs z (.tup [])):=by
 obtain⟨l,h1,h2,_⟩:=h;refine⟨_,h1,?_⟩
 have go:∀ l:List (Str×Kd),(∀ x∈l,AB x.1=true/\KdOk (kb m) (kp m) x.2)->PT (BA (kvK l) z (.tup [])):=by
  intro l;induction l with
  | nil=>intro _;exact U9
  | cons x l a =>
   intro h;show PT (BA ((Sum.inr x.1,x.2.enc)::kvK l) z _);rw[DY];split
   ·exact(h x Ye).2.pt
   ·exact a λy b=>h y (Yd _ b)
 exact go l h2
noncomputable abbrev CG(n:Nat):Spw:=C5 (λ(x:Kd×Nat×Addr)s ws G=>ws=[.ref s,x.1.enc,.ref x.2.2,.int (x.2.1:Nat)]/\x.2.1 < n/\x.2.1<=3/\KdOk (kb x.2.1) (kp x.2.1) x.1/\Nm x.2.1 x.2.2 G) λx _ r _=>∃ t:Te,r=t.enc/\TmB (tb x.2.1) (td x.2.1) t
noncomputable abbrev Jm(n:Nat):Spw:=C5 (λ(x:Kd×Nat×Addr)s ws G=>ws=[.ref s,x.1.enc,.ref x.2.2,.int (x.2.1:Nat)]/\x.2.1 < n/\x.2.1+1<=3/\KdOk (kb (x.2.1+1)) (kp (x.2.1+1)) x.1/\Nm (x.2.1+1) x.2.2 G) λx _ r _=>∃ t:Te,r=t.enc/\TmB (2*tb x.2.1+5) (td x.2.1+4) t
noncomputable abbrev Va(n:Nat):Spw:=C5 (λ(x:Kd×Nat×Addr)s ws G=>ws=[.ref s,x.1.enc,.ref x.2.2,.int (x.2.1:Nat)]/\x.2.1 < n/\x.2.1+1<=3/\KdOk (kb (x.2.1+1)) (kp (x.2.1+1)) x.1/\Nm (x.2.1+1) x.2.2 G) λx s r G'=>∃ q,∃ ts:List Te,r=.ref q/\q≠s/\G' q=some (.lst (ts.map Te.enc))/\(∀ t∈ts,TmB (tb x.2.1+3) (td x.2.1+2) t)/\ts.length<=1000
theorem Bw(g:m < n)(b:m<=3)(c:KdOk (kb m) (kp m) k)(f:Nm m p G)(hs:St s G)(hi:i=(m:Int))(q:∀(t:Te)a,TmB (tb m) (td m) t->Hs s G a->Z t.enc a):CG n [.ref s,k.enc,.ref p,.int i] G Z E:=by
 subst hi;exact⟨(k,m,p),s,⟨rfl,g,b,c,f⟩,hs,λr a⟨t,e,d⟩h=>by rw[e];exact q t a d h⟩
theorem DI(b:m < 2)(hs:St s G)(q:∀(k:Kd)a,KdOk 4 2 k->Hs s G a->Z k.enc a):FT 2 [.ref s,.int (m:Nat)] G Z E:=by
 have hc:kc m<=4:=by
  have:m=0\/m=1:=by lia
  rcases this with rfl | rfl <;> decide
 exact⟨(m:Int),s,⟨rfl,b⟩,hs,λr a⟨k,e,c⟩d=>by rw[e];exact q k a (c.mono hc (by lia)) d⟩
theorem Ep(e:TmB c d t)(hs:St s G)(q:∀(t:Te)a,TmB (c+1) (d+1) t->Hs s G a->Z t.enc a):DH [.ref s,t.enc] G Z E:=by
 refine⟨t,s,rfl,hs,λr a b g=>?_⟩;obtain⟨u,rfl,f⟩:=nk e b;exact q u a f g
theorem Vb(a:KdOk c d k)(hd:d<=8)(hs:St s G)(q:∀(k:Kd)b,KdOk c d k->Hs s G b->Z k.enc b):MX 8 [.ref s,k.enc] G Z E:=by
 refine⟨k,s,⟨rfl,a.1,Yt a.2.2 hd⟩,hs,λr b⟨g,e,f⟩h=>by rw[e];exact q g b (f.mono a.2.1 a.2.2) h⟩
theorem nv(h:x∈[W.str "x",.str "y"]):∃ z:Str,x=.str z/\AB z=true:=by
 simp only[Yo,Qa,or_false]at h;rcases h with rfl | rfl
 ·exact⟨_,rfl,by decide +kernel⟩
 ·exact⟨_,rfl,by decide +kernel⟩
theorem GW:AB "a"=true:=by decide +kernel
theorem nw:AB "b"=true:=by decide +kernel
theorem Jn:KTD.datumAt ("call":Str) AT=some [("term":Str),"term"]:=by decide +kernel
theorem M5:KTD.datumAt ("write":Str) AT=some [("term":Str),"term"]:=by decide +kernel
theorem ny:KTD.datumAt ("plus":Str) AT=some [("term":Str),"term"]:=by decide +kernel
theorem nz:KTD.datumAt ("less":Str) AT=some [("term":Str),"term"]:=by decide +kernel
theorem M6:KTD.datumAt ("read":Str) AT=some [("term":Str)]:=by decide +kernel
theorem C7(J:Sw->Hw->Prop)(h1:∀ ω' a,J ω' a->R D ω' a)(h2:(∀ ω' a,J ω' a->R D ω' a)->Af A R D ω G):Af A R D ω G:=h2 h1
theorem nA(hm:m < n)(hm3:m+1<=3)(hk:KdOk (kb (m+1)) (kp (m+1)) k)(hn:Nm (m+1) p G)(hs:St s G)(q:∀ r G',(∃ t:Te,r=t.enc/\TmB (2*tb m+5) (td m+4) t)->Hs s G G'->Q r G'):U4 (FT 2) (CG n) BM (AH Q) [some (.ref s),some k.enc,some (.ref p),some (.int (m:Nat)),none,none,none] G:=by
 have hk2:∀{k:Kd},KdOk 4 2 k->KdOk (kb m) (kp m) k:=λh=>h.mono (by unfold kb;lia) (by unfold kp;lia);refine AG ?_;simp only[Ah,Ag,Ab,gC,Aa,Ac];refine DI (by decide) hs λk1 G1 hk1 hg1=>Bw hm (by lia) (hk2 hk1) (hn.hs hs hg1).down hg1.1 rfl λt1 G2 ht1 hg2=>?_;have hg:=hg1.trans hg2;refine⟨by decide,(Qzz 3),AG ?_⟩;walk_at "k0";refine DI (by decide) hg.1 λk2 G3 hk2' hg3=>?_;have hg:=hg.trans hg3;refine Bw hm (by lia) (hk2 hk2') (hn.hs hs hg).down hg3.1 rfl λt2 G4 ht2 hg4=>?_;have hg:=hg.trans hg4;refine AG (⟨(Qzz 3),(Qzz 2),(Qzz 3),(Qzz 3),(Qzz 4),λz hz=>?_⟩);have hzs:=Hs.ne hg.1 hz;have hg5:=hg.put (o:=.lst ([Te.nd "call" (.trm (.nd "as" (.trm t1 (.knd .any .nil))) (.trm t2 .nil)),.nd "read" (.trm (.nd "as" (.trm t1 (.knd .any .nil))) .nil),.nd "write" (.trm (.nd "as" (.trm t1 (.knd .any .nil))) (.trm t2 .nil)),.nd "get" (.trm (.nd "as" (.trm t1 (.knd .any .nil))) (.nam "a" .nil))].map Te.enc)) hz;simp only[Af,AD,gMt,Ah,Ag,Ab,gC,Aa,Ac];refine⟨BW Ak,Bw hm (by lia) hk.down (hn.hs hs hg5).down hg5.1 rfl λt3 G6 ht3 hg6=>?_⟩;refine⟨(Qzz 4),?_⟩;have hz6:=hg6.2 z hzs _ Ak;refine CC hz6 (show 4 < sizeLine by decide) ?_;walk_at "k3"
 have hg7:Hs s G (put G6 z (.lst ([Te.nd "call" (.trm (.nd "as" (.trm t1 (.knd .any .nil))) (.trm t2 .nil)),.nd "read" (.trm (.nd "as" (.trm t1 (.knd .any .nil))) .nil),.nd "write" (.trm (.nd "as" (.trm t1 (.knd .any .nil))) (.trm t2 .nil)),.nd "get" (.trm (.nd "as" (.trm t1 (.knd .any .nil))) (.nam "a" .nil)),.nd "or" (.trm (.nd "as" (.trm t1 (.knd .any .nil))) (.nam "a" (.trm t3 .nil)))].map Te.enc))):=⟨(Hs2.set hg6.1 hzs).1,λb hb u hu=>by
  have hbz:=A3 (hg.2 b hb u hu) hz;rw[Az hbz];exact hg6.2 b hb u (hg5.2 b hb u hu)⟩
 refine Bj (by decide) (by decide) hg7.1 λr G8 r0 r5 hg8=>?_;obtain⟨x,hx,e⟩:=Do (xs:=[Te.nd "call" (.trm (.nd "as" (.trm t1 (.knd .any .nil))) (.trm t2 .nil)),.nd "read" (.trm (.nd "as" (.trm t1 (.knd .any .nil))) .nil),.nd "write" (.trm (.nd "as" (.trm t1 (.knd .any .nil))) (.trm t2 .nil)),.nd "get" (.trm (.nd "as" (.trm t1 (.knd .any .nil))) (.nam "a" .nil)),.nd "or" (.trm (.nd "as" (.trm t1 (.knd .any .nil))) (.nam "a" (.trm t3 .nil)))].map Te.enc) (hg8.2 z hzs _ Ak) r0 (r5);show opt (ixW (.ref z) (.int r) G8) _;rw[e];obtain⟨t,ht,rfl⟩:=YC.mp hx;have ha:=Cq ht1 GR;refine q _ _ ⟨t,rfl,?_⟩ (hg7.trans hg8);simp only[Yo,Qa,or_false]at ht;rcases ht with rfl | rfl | rfl | rfl | rfl
 ·exact(DG Jn ha (ht2.mono (Yr _) (by lia))).mono (by lia) (by lia)
 ·exact(GQ M6 ha).mono (by lia) (by lia)
 ·exact(DG M5 ha (ht2.mono (Yr _) (by lia))).mono (by lia) (by lia)
 ·exact(MW ha GW).mono (by lia) (by lia)
 ·exact(UO ha GW (ht3.mono (Yr _) (by lia))).mono (by lia) (by lia)
theorem Jl(T:Tx K mg base a)(c:10<=k)(D:Df P w K mg base "_law_term" k 4 (CG n)):Df P w K mg base "_law_any_first" (k+1) 4 (Jm n):=by
 refine mk0 T.jN rfl U3 BN (λd G Q E⟨x,s,⟨e,_⟩,_⟩=>by rw[e];rfl) (nr T (Bp T 2) (by lia) D (Yr _) (AO T) (by lia)) λd G Q E h q=>?_;obtain⟨⟨k,m,p⟩,s,⟨rfl,g,b,c,f⟩,hs,q⟩:=q;exact nA g b c f hs q
theorem nB(hm:m < n)(hm3:m+1<=3)(hk:KdOk (kb (m+1)) (kp (m+1)) k)(hn:Nm (m+1) p G)(hs:St s G)(q:∀ r G',(∃ t:Te,r=t.enc/\TmB (2*tb m+5) (td m+4) t)->Hs s G G'->Q r G'):U7 BM (Jm n) (FT 2) (CG n) (MX 8) DH (AH Q) [some (.ref s),some k.enc,some (.ref p),some (.int (m:Nat)),none,none,none,none,none,none] G:=by
 have hk2:∀{k:Kd},KdOk 4 2 k->KdOk (kb m) (kp m) k:=λh=>h.mono (by unfold kb;lia) (by unfold kp;lia);have hkm:=hk.down;have hp3:kp (m+1)<=8:=by unfold kp;lia
 have ktb:∀{k':Kd},KdOk 4 2 k'->KdOk (kb m) (kp m) (.to k' k):=λ{k'}h=>by
  obtain⟨a1,a2,a3⟩:=h;obtain⟨b1,b2,b3⟩:=hk;refine⟨?_,?_,?_⟩
  ·show(k'.ok&&k.ok)=true;rw[a1,b1];rfl
  ·show 1+(k'.cnt+k.cnt)<=_;unfold kb at b2 ⊢;lia
  ·show 1+max k'.dp k.dp<=_;unfold kp at b3 ⊢;lia
 have kbx:KdOk (kb m) (kp m) (.box k):=by
  obtain⟨b1,b2,b3⟩:=hk;refine⟨b1,?_,?_⟩
  ·show 1+k.cnt<=_;unfold kb at b2 ⊢;lia
  ·show 1+k.dp<=_;unfold kp at b3 ⊢;lia
 refine AG ?_;walk_at "k0";refine Bj (by decide) (by decide) hs λr G1 r0 r1 hg=>?_;have hn1:=hn.hs hs hg;refine Bk (fun h=>?_) (fun h=>?_)
 ·exact⟨(k,m,p),s,⟨rfl,hm,hm3,hk,hn1⟩,hg.1,λr' G2 ht hg2=>q r' G2 ht (hg.trans hg2)⟩
 refine Bk (fun h=>?_) (fun h=>?_)
 ·refine AG ?_;simp only [Ad,An,Ag,Ab,gC,Aa,Ac,Yb,Yc];refine DI (by decide) hg.1 λk1 G2 hk1 hg2=>E5 rfl (by decide) (by decide) hg2.1 λx hx G3 hg3=>?_
  have hx':∃ k':Kd,x=k'.enc/\KdOk (kb m) (kp m) k':=by
   simp only [Yo,Qa,or_false] at hx;rcases hx with rfl | rfl | rfl
   ·exact⟨k,rfl,hkm⟩
   ·exact⟨k,rfl,hkm⟩
   ·exact⟨k1,rfl,hk2 hk1⟩
  obtain⟨k',rfl,hk'⟩:=hx';have hg3:=(hg.trans hg2).trans hg3;walk_at "k3";refine Bw hm (by lia) hk' (hn.hs hs hg3).down hg3.1 rfl λt G4 ht hg4=>⟨by decide,(Qzz 3),q _ _ ⟨.nd "as" (.trm t (.knd .any .nil)),rfl,(Cq ht GR).mono (by lia) (by lia)⟩ (hg3.trans hg4)⟩
 refine Bk (fun h=>?_) (fun h=>?_)
 ·walk_at "k3";refine Bw hm (by lia) hkm hn1.down hg.1 rfl λt G2 ht hg2=>Vb hk hp3 hg2.1 λk' G3 hk' hg3=>?_;refine⟨(Qzz 3),(Qzz 3),q _ _ ⟨.nd "as" (.trm (.nd "as" (.trm t (.knd k' .nil))) (.knd k .nil)),rfl,(Cq (Cq ht hk'.ok) hk.ok).mono (by lia) (by lia)⟩ ((hg.trans hg2).trans hg3)⟩
 refine Bk (fun h=>?_) (fun h=>?_)
 ·walk_at "k3";refine DI (by decide) hg.1 λk1 G2 hk1 hg2=>?_;have hg2:=hg.trans hg2;refine Bw hm (by lia) (hk2 hk1) (hn.hs hs hg2).down hg2.1 rfl λt G3 ht hg3=>⟨by decide,(Qzz 3),(Qzz 3),q _ _ ⟨.nd "as" (.trm (.nd "as" (.trm t (.knd .any .nil))) (.knd k .nil)),rfl,(Cq (Cq ht GR) hk.ok).mono (by lia) (by lia)⟩ (hg2.trans hg3)⟩
 simp only[Aj];refine AG ?_;simp only[Ad,An,Ah,Ag,Ab,gC,Ar,Aa,Ac,Yb,Yc];refine DI (by decide) hg.1 λk1 G2 hk1 hg2=>DI (by decide) hg2.1 λk0 G3 hk0 hg3=>?_;have hg3:=(hg.trans hg2).trans hg3;refine⟨(Qzz 3),(Qzz 2),(Qzz 3),λz hz=>⟨by decide,?_⟩⟩;obtain⟨x,hx,e⟩:=Do (r:=r % 3) (G:=put G3 z (.lst [k1.enc,.tup [.str "to",k0.enc,k.enc],.tup [.str "box",k.enc]])) Ak (by lia) (by show r % 3 < 3;lia);show opt (ixW (.ref z) (.int (r % 3)) _) _;rw[e,Ao]
 have hx':∃ k':Kd,x=k'.enc/\KdOk (kb m) (kp m) k':=by
  simp only [Yo,Qa,or_false] at hx;rcases hx with rfl | rfl | rfl
  ·exact⟨k1,rfl,hk2 hk1⟩
  ·exact⟨.to k0 k,rfl,ktb hk0⟩
  ·exact⟨.box k,rfl,kbx⟩
 obtain⟨k',rfl,hk'⟩:=hx';have hg4:=hg3.put (o:=.lst [k1.enc,.tup [.str "to",k0.enc,k.enc],.tup [.str "box",k.enc]]) hz;refine Bk (fun h=>?_) (fun h=>?_)
 ·refine AG ?_;simp only [Ad,An,Ag,Ab,gC,Aa,Ac,Yb,Yc];refine E5 rfl (by decide) (by decide) hg4.1 λx hx G5 hg5=>?_;obtain⟨v,rfl,hv⟩:=nv hx;have hg5:=hg4.trans hg5;refine AG ?_;have hn5:=hn.hs hs hg5;obtain⟨kvs,e1,e2,e3⟩:=hn5.new hv hk';refine⟨p,kvs,rfl,e1,λl hl=>?_⟩;simp only[Af,FC,Ab,Yb,Yc,Yk,Yl];refine⟨l,kvs,v,rfl,rfl,Ak,e2,?_⟩;rw[HX];have hg6:=hg5.put (o:=.dct (BC kvs (Sum.inr v) k'.enc)) hl;have hn6:=e3 l (put G5 l (.dct (BC kvs (Sum.inr v) k'.enc))) Ak;simp only[Al,Ah,Ag,Ab,gC,Aa,Ac,Yb,Yc,Yk,Yl];refine Bw hm (by lia) hkm hn6 hg6.1 rfl λt G7 ht hg7=>?_;have hg7:=hg6.trans hg7;refine⟨(Qzz 4),?_⟩;walk_at "k3";refine Ep (Ja hv hk'.ok ht) hg7.1 λu G8 hu hg8=>?_;have hg8:=hg7.trans hg8;exact Bw hm (by lia) hk' (hn.hs hs hg8).down hg8.1 rfl λt' G9 ht' hg9=>⟨(Qzz 3),q _ _ ⟨.nd "call" (.trm u (.trm t' .nil)),rfl,(DG Jn hu (ht'.mono (Yr _) (by lia))).mono (by lia) (by lia)⟩ (hg8.trans hg9)⟩
 refine Bk (fun h=>?_) (fun h=>?_)
 ·refine AG ?_;simp only[Ah,Ag,Ab,gC,Aa,Ac,Yb,Yc];refine⟨(Qzz 2),Bw hm (by lia) kbx (hn.hs hs hg4).down hg4.1 rfl λt G5 ht hg5=>?_⟩;have hg5:=hg4.trans hg5;refine⟨(Qzz 2),(Qzz 3),?_⟩;walk_at "k2";refine Bj (by decide) (by decide) hg5.1 λr' G6 r0' r1' hg6=>?_;have hg6:=hg5.trans hg6;have hma:=Cq ht kbx.ok;refine Bk (fun h=>?_) (fun h=>?_)
  ·walk_at "k3";exact Ep hma hg6.1 λu G7 hu hg7=>⟨(Qzz 2),q _ _ ⟨.nd "read" (.trm u .nil),rfl,(GQ M6 hu).mono (by lia) (by lia)⟩ (hg6.trans hg7)⟩
  ·walk_at "k3";refine Ep hma hg6.1 λu G7 hu hg7=>?_;have hg7:=hg6.trans hg7;exact Bw hm (by lia) hkm (hn.hs hs hg7).down hg7.1 rfl λt' G8 ht' hg8=>⟨(Qzz 3),q _ _ ⟨.nd "write" (.trm u (.trm t' .nil)),rfl,(DG M5 hu (ht'.mono (Yr _) (by lia))).mono (by lia) (by lia)⟩ (hg7.trans hg8)⟩
 simp only[Aj];refine AG ?_;simp only[Ah,Ag,Ab,gC,Aa,Ac,Yb,Yc];refine DI (by decide) hg4.1 λk5 G5 hk5 hg5=>?_;have hg5:=hg4.trans hg5;refine⟨(Qzz 3),?_⟩;have hkt:=ktb hk5;refine AG ?_;walk_at "k0";refine Bw hm (by lia) hkt (hn.hs hs hg5).down hg5.1 rfl λt G6 ht hg6=>?_;have hg6:=hg5.trans hg6;refine C7 (λω' G'=>∃ u:Te,ω'=[some (.ref s),some k.enc,some (.ref p),some (.int (m:Nat)),some (.int r),some (Kd.to k5 k).enc,some u.enc,none,none,none]/\TmB (tb m+1) (td m+1) u/\Hs s G G') ?_ (λrest=>?_)
 ·rintro ω' G' ⟨u,rfl,hu,hgu⟩;refine AG (⟨(Qzz 3),?_⟩);walk_at "k3";refine Ep (Cq hu hkt.ok) hgu.1 λv G7 hv hg7=>?_;have hg7:=hgu.trans hg7;walk_at "k4";exact Bw hm (by lia) (hk2 hk5) (hn.hs hs hg7).down hg7.1 rfl λt' G8 ht' hg8=>⟨(Qzz 3),q _ _ ⟨.nd "call" (.trm v (.trm t' .nil)),rfl,(DG Jn hv (ht'.mono (Yr _) (by lia))).mono (by lia) (by lia)⟩ (hg7.trans hg8)⟩
 simp only[Af,gIf,gTB,Ad,Ag,Ab,gC,Aa,Ac,Yb,Yc,Yk,Yl];refine Bj (by decide) (by decide) hg6.1 λr' G7 r0' r1' hg7=>?_;have hg7:=hg6.trans hg7;refine Bk (fun h=>?_) (fun h=>?_)
 ·walk_at "k3";exact Vb (hkt.mono (Yr _) (Yr _)) (by unfold kp;lia) hg7.1 λk' G8 hk' hg8=>⟨(Qzz 3),rest _ _ ⟨.nd "as" (.trm t (.knd k' .nil)),rfl,Cq ht hk'.ok,hg7.trans hg8⟩⟩
 ·exact rest _ _ ⟨t,rfl,ht.mono (by lia) (by lia),hg7⟩
theorem Jj(T:Tx K mg base a)(b:10<=k)(D:Df P w K mg base "_law_term" k 4 (CG n)):Df P w K mg base "_law_around" (k+2) 4 (Jm n):=by
 refine mk0 T.jV rfl U6 BN (λd G Q E⟨x,s,⟨e,_⟩,_⟩=>by rw[e];rfl) (nt T (AO T) (by lia) (Jl T b D) (by lia) (Bp T 2) (by lia) D (by lia) (El T 8) (by lia) (CF T) (by lia)) λd G Q E h q=>?_;obtain⟨⟨k,m,p⟩,s,⟨rfl,g,c,b,f⟩,hs,q⟩:=q;exact nB g c b f hs q
theorem KdOk.kid(h:KdOk c d k)(a:x∈k.kids):KdOk c d x:=⟨Co h.1 x a,by have:=Rm a;have:=h.2.1;lia,by have:=D3 a;have:=h.2.2;lia⟩
theorem Vc{k:Kd}(h:k.dp<=20):PT (.tup [.str x,k.enc]):=by
 refine⟨_,rfl,?_,?_⟩
 ·show(true&&(plW k.enc&&true))=true;rw[E6];rfl
 ·have:=DF k;show max 0 (max (dpW k.enc) 0) < 90;lia
theorem Vd:∀{l:List (Str×Kd)},(∀ x∈l,AB x.1=true/\KdOk c d x.2)->y∈l.map (·.1)->∃ k:Kd,atT (kvK l) y=some k.enc/\KdOk c d k/\AB y=true
 | x::l,h,f=>by
  by_cases e:x.1=y
  ·refine⟨x.2,?_,(h x Ye).2,by rw[<- e];exact(h x Ye).1⟩;show(((Sum.inr x.1,x.2.enc)::kvK l).find? λz=>decide (z.1=Sum.inr y)).map (·.2)=_;rw[List.find?_cons_of_pos (by simp[e])];rfl
  ·have a:y∈l.map (·.1):=by
    rcases Yo.mp f with z | z
    ·exact Qo z.symm e
    ·exact z
   obtain⟨k,h1,h2⟩:=Vd (λz b=>h z (Yd _ b)) a;refine⟨k,?_,h2⟩;show(((Sum.inr x.1,x.2.enc)::kvK l).find? λz=>decide (z.1=Sum.inr y)).map (·.2)=_;rw[List.find?_cons_of_neg (by simpa using λz=>e z)];exact h1
theorem nC(l:List (Str×Kd)):(kvK l).map (·.1)=(l.map (·.1)).map Sum.inr:=by
 unfold kvK;rw[YB,YB];rfl
theorem M7{w:Kd}(hw:w.dp<=20):∀(l:List Fd)(o:Option W)(a:List Str),(∀ x∈l,AB x.1=true/\x.2.2.dp<=20)->a.length+l.length<=1000->(∀ ns:List Str,ns.length<=a.length+l.length->(∀ n∈ns,n∈a\/AB n=true)->R (ns.map W.str) G)->
  AU yes (gNm 0) (gTB (Ad (Ae (eqF false)) r6 (Ah (Aa (gC (.str "must")) re)))) ad R (l.map Bs) [o,some w.enc] G (a.map W.str)
 | [],o,a,_,_,c=>⟨trivial,c a (YZ _ _) λn e=>.inl e⟩
 | x::l,o,a,i,hl,c=>by
  rw[Yg]at hl c;obtain⟨k,j⟩:=i x Ye;refine⟨trivial,by rw[Yh];exact Bf (by lia),?_⟩;simp only[gNm,gTB,Ad,AE,Av,Au,Ab,gC];refine Dl (⟨(Qzz 2),FV (Vc j) (Vc hw) λb=>?_⟩);refine Bk (fun h=>?_) (fun h=>?_)
  ·have z:=M7 hw l (some (Bs x)) (a++[x.1]) (λy f=>i y (Yd _ f)) (by rw[Yj];simp only[Yg,Yi];lia) λns g d=>c ns (by rw[Yj]at g;simp only[Yg,Yi]at g;lia) λn e=>by
    rcases d n e with z | z
    ·rcases Yz.mp z with z | z
     ·exact .inl z
     ·rw[YA.mp z];exact .inr k
    ·exact .inr z
   rw[Yy]at z;exact z
  ·exact M7 hw l _ a (λy f=>i y (Yd _ f)) (by lia) λns g d=>c ns (by lia) d
theorem Ve(l:AB y=true)(d:z≠s):∀(ns:List Str)(o:Option W)(G:Hw)(a:List Te),(∀ n∈ns,AB n=true)->(∀ t∈a,TmB 3 3 t)->a.length+ns.length<=1000->St s G->G z=some (.lst items)->(∀(ts:List Te)e,ts.length<=a.length+ns.length->(∀ t∈ts,TmB 3 3 t)->Hs s G e->R (ts.map Te.enc) e)->
  AU (holds z items) (gNm 0) AC (Ah (Aa (gC (.str "get")) (Aa (Ag DH XF (Aa f4 (Aa (Ah (Aa rW rM)) Ac))) ln))) R (ns.map W.str) [o,some (.ref s),some (.str y)] G (a.map Te.enc)
 | [],o,G,a,_,h,_,hs,f,b=>⟨f,b a G (YZ _ _) h (Hs.refl hs)⟩
 | n::ns,o,G,a,k,h,hl,hs,f,b=>by
  rw[Yg]at hl b;refine⟨f,by rw[Yh];exact Bf (by lia),?_⟩;simp only[Ah,Ag,Aa,Ac];refine⟨(Qzz 2),Ep (Jb l) hs λu p q i=>⟨(Qzz 3),?_⟩⟩;have g:=MW q (k n Ye)
  have z:=Ve l d ns (some (.str n)) p (a++[.nd "get" (.trm u (.nam n .nil))]) (λm v=>k m (Yd _ v)) (λt c=>by
   rcases Yz.mp c with c | c
   ·exact h t c
   ·rw[YA.mp c];exact g) (by rw[Yj];simp only[Yg,Yi];lia) i.1 (i.2 z d _ f) λts e j w r=>b ts e (by rw[Yj]at j;simp only[Yg,Yi]at j;lia) w (i.trans r)
  rw[Yy]at z;exact z
noncomputable def Gw(s q:Addr)(m c:Nat)(G:Hw)(ts:List Te)(G':Hw):Prop:=Hs2 s q G G'/\G' q=some (.lst (ts.map Te.enc))/\(∀ t∈ts,TmB (tb m+3) (td m+2) t)/\ts.length<=c
theorem Gw.app(h:Gw s q m c G ts e)(d:q≠s)(g:Hs s e f)(i:∀ t∈b,TmB (tb m+3) (td m+2) t):Gw s q m (c+b.length) G (ts++b) (put f q (.lst (ts.map Te.enc++b.map Te.enc))):=by
 obtain⟨h1,h2,j,k⟩:=h;refine⟨(h1.trans g.two).trans (Hs2.set g.1 d),by rw[Yy];exact Ak,λt a=>?_,by rw[Yj];lia⟩;rcases Yz.mp a with a | a
 ·exact j t a
 ·exact i t a
theorem Vf{k:Kd}(h:(k.hd=="to")=true):∃ x y,k=.to x y:=by
 cases k with
 | to x y=>exact⟨x,y,rfl⟩
 | any|num|truth=>exact Qo h (by decide +kernel)
 | box x=>exact Qo h (by show ¬ (("box":Str)=="to")=true;decide +kernel)
 | row x y=>exact Qo h (by show ¬ (("row":Str)=="to")=true;decide +kernel)
theorem nD{k:Kd}(h:(k.hd=="row")=true):∃ x y,k=.row x y:=by
 cases k with
 | row x y=>exact⟨x,y,rfl⟩
 | any|num|truth=>exact Qo h (by decide +kernel)
 | box x=>exact Qo h (by show ¬ (("box":Str)=="row")=true;decide +kernel)
 | to x y=>exact Qo h (by show ¬ (("to":Str)=="row")=true;decide +kernel)
theorem nE(hm:m < n)(hm3:m+1<=3)(hk:KdOk (kb (m+1)) (kp (m+1)) k)(hn:Nm (m+1) p G)(hs:St s G)(q:∀ r G',(∃ q,∃ ts:List Te,r=.ref q/\q≠s/\G' q=some (.lst (ts.map Te.enc))/\(∀ t∈ts,TmB (tb m+3) (td m+2) t)/\ts.length<=1000)->Hs s G G'->Q r G'):UX DH (CG n) (AH Q) [some (.ref s),some k.enc,some (.ref p),some (.int (m:Nat)),none,none,none,none] G:=by
 have hkm:=hk.down;have hkd:k.dp<=8:=by have:=hk.2.2;unfold kp at this;lia
 obtain⟨l,l1,l2,l3⟩:=hn;refine AG (⟨by decide,λq0 hq0=>?_⟩);have hqs:=Hs.ne hs hq0;have hpq:=A3 l1 hq0
 have hps:p≠s:=by
  obtain⟨x,f,e⟩:=hs;rintro rfl;rw[l1]at e;cases e
 refine⟨p,kvK l,l.map (·.1),rfl,AA hq0 _ _ l1,nC l,by rw[Yh];lia,λys z _ hys hz=>?_⟩;have hzq:=A3 Ak hz;have hzs:=Hs.ne (hs.put hq0) hz;simp only[Ak];have hyl:=hys.length_eq;rw[Yh]at hyl;have hmem:∀ y∈ys,y∈l.map (·.1):=λy hy=>hys.mem_iff.mp hy;have hstart:Gw s q0 m 0 (put (put G q0 (.lst [])) z (.lst (ys.map W.str))) [] (put (put G q0 (.lst [])) z (.lst (ys.map W.str))):=⟨(Hs.refl ((hs.put hq0).put hz)).two,by rw[Az hzq];exact Ak,(λt ht=>by cases ht),Yr _⟩;have hz1:put (put G q0 (.lst [])) z (.lst (ys.map W.str)) z=some (.lst (ys.map W.str)):=Ak;have hl1:put (put G q0 (.lst [])) z (.lst (ys.map W.str)) p=some (.dct (kvK l)):=AA hz _ _ (AA hq0 _ _ l1);have hG1:Hs s G (put (put G q0 (.lst [])) z (.lst (ys.map W.str))):=(Hs.new hs hq0).put hz;generalize hH:put (put G q0 (.lst [])) z (.lst (ys.map W.str))=G1 at hstart hz1 hl1 hG1 ⊢
 have loop:∀(zs:List Str)(c:Nat)(ts:List Te)(o5 o6 o7:Option W)(G2:Hw),(∀ y∈zs,y∈l.map (·.1))->Gw s q0 m c G1 ts G2->c+60*zs.length<=900->A9 (holds z (ys.map W.str)) (gNm 5) (Af (Al 6 (Ad (Ae ixK) (Ab 2) (Ab 5))) (Af (gIf (gTB (Ad (Ae (eqF false)) (Ab 6) (Ab 1))) (AD (gMt AQ A2 (Ab 4) (Aa (Ah (Aa (gC (.str "name")) (Aa (Ab 5) Ac))) Ac))) Aj) (Af (gIf (AF (gTB (Ad (Ae (eqF false)) (Ad (Ae ixW) (Ab 6) (gC (.int 0))) (gC (.str "to")))) (gTB (Ad (Ae (eqF false)) (Ad (Ae ixW) (Ab 6) (gC (.int 2))) (Ab 1)))) (AD (gMt AQ A2 (Ab 4) (Aa (Ah (Aa (gC (.str "call")) (Aa (Ag DH XF (Aa (Ab 0) (Aa (Ah (Aa (gC (.str "name")) (Aa (Ab 5) Ac))) Ac))) (Aa (Ag (CG n) XF (Aa (Ab 0) (Aa (Ad (Ae ixW) (Ab 6) (gC (.int 1))) (Aa (Ab 2) (Aa (Ab 3) Ac))))) Ac)))) Ac))) Aj) (Af (gIf (gTB (Ad (Ae (eqF false)) (Ab 6) (Ah (Aa (gC (.str "box")) (Aa (Ab 1) Ac))))) (Af (AD (gMt AQ A2 (Ab 4) (Aa (Ah (Aa (gC (.str "read")) (Aa (Ag DH XF (Aa (Ab 0) (Aa (Ah (Aa (gC (.str "name")) (Aa (Ab 5) Ac))) Ac))) Ac))) Ac))) (AD (gMt AQ A2 (Ab 4) (Aa (Ah (Aa (gC (.str "write")) (Aa (Ah (Aa (gC (.str "name")) (Aa (Ab 5) Ac))) (Aa (Ag (CG n) XF (Aa (Ab 0) (Aa (Ab 1) (Aa (Ab 2) (Aa (Ab 3) Ac))))) Ac)))) Ac)))) Aj) (gIf (gTB (Ad (Ae (eqF false)) (Ad (Ae ixW) (Ab 6) (gC (.int 0))) (gC (.str "row")))) (Af (Al 7 (Bd (Ax (Ad (Ae ixW) (Ab 6) (gC (.int 1)))) 1 [1] (gNm 0) (gTB (Ad (Ae (eqF false)) (AE (Ab 0) (Av (gC (.int 1))) Au) (Ah (Aa (gC (.str "must")) (Aa (Ab 1) Ac))))) (Ad (Ae ixW) (Ab 0) (gC (.int 0))))) (AD (gMt AQ Cy (Ab 4) (Aa (Bd (Ax (Ab 7)) 1 [0,5] (gNm 0) AC (Ah (Aa (gC (.str "get")) (Aa (Ag DH XF (Aa (Ab 1) (Aa (Ah (Aa (gC (.str "name")) (Aa (Ab 2) Ac))) Ac))) (Aa (Ab 0) Ac))))) Ac)))) Aj))))) {nx:=Ai (Ab 4) (AH Q),rt:=(AH Q).rt,bk:=(AH Q).bk,ct:=(AH Q).ct} (zs.map W.str) [some (.ref s),some k.enc,some (.ref p),some (.int (m:Nat)),some (.ref q0),o5,o6,o7] G2:=by
  intro zs;induction zs with
  | nil =>
   intro c ts o5 o6 o7 G2 _ hw hc;refine⟨hw.1.2 z hzs (YW hzq) _ hz1,?_⟩;obtain⟨w1,w2,w3,w4⟩:=hw;refine q _ _ ⟨q0,ts,rfl,hqs,w2,w3,by lia⟩ ⟨w1.1,λb hb u hu=>w1.2 b hb (A3 hu hq0) u (hG1.2 b hb u hu)⟩
  | cons y zs ih =>
   intro c ts o5 o6 o7 G2 hzm hw hc;rw[Yg]at hc;have hG2z:=hw.1.2 z hzs (YW hzq) _ hz1;have hp2:=hw.1.2 p hps hpq _ hl1;obtain⟨kd,k1,k2,k3⟩:=Vd l2 (hzm y Ye);have k2d:kd.dp<=8:=by have:=k2.2.2;unfold kp at this;lia
   have hnm:=Jb k3;have nmG:∀{G':Hw},Hs2 s q0 G1 G'->Nm m p G':=λh=>Nm.down ⟨l,h.2 p hps hpq _ hl1,l2,l3⟩;refine⟨hG2z,AG ?_⟩;walk_at "k1";rw[show ixK (.ref p) (.str y) G2=some kd.enc by unfold ixK;simp only[hp2];exact k1];walk_at "k1";refine C7 (λω' G'=>∃ ts' o7',ω'=[some (.ref s),some k.enc,some (.ref p),some (.int (m:Nat)),some (.ref q0),some (.str y),some kd.enc,o7']/\Gw s q0 m (c+1) G1 ts' G') ?_ (λrest=>?_)
   ·rintro ω' G3 ⟨ts3,o7',rfl,hw3⟩;refine C7 (λω' G'=>∃ ts' o7',ω'=[some (.ref s),some k.enc,some (.ref p),some (.int (m:Nat)),some (.ref q0),some (.str y),some kd.enc,o7']/\Gw s q0 m (c+2) G1 ts' G') ?_ (λrest=>?_)
    ·rintro ω' G4 ⟨ts4,o7',rfl,hw4⟩;refine C7 (λω' G'=>∃ ts' o7',ω'=[some (.ref s),some k.enc,some (.ref p),some (.int (m:Nat)),some (.ref q0),some (.str y),some kd.enc,o7']/\Gw s q0 m (c+4) G1 ts' G') ?_ (λrest=>?_)
     ·rintro ω' G5 ⟨ts5,o7',rfl,hw5⟩;simp only[gIf,gTB,Ad,Ae,Ab,gC,Yb,Yc,B2,Ao,Bi];refine Bk (fun h=>?_) (fun h=>?_)
      ·rw[show ∀ b:Bool,(b != false)=b by intro b;cases b <;> rfl]at h;obtain⟨fs,o,rfl⟩:=nD h;have hko:=k2.ok;have hr:(A0 fs.names&&fs.ok)=true:=hko.1;simp only[YF]at hr;have hgd:=hko.2;unfold Bl at hgd;simp only[YQ]at hgd;have hgc:1+fs.cnt<=40:=hgd.1;have hgp:1+fs.dp<=8:=hgd.2;have hfl:=Iq fs;rw[F4,Yh]at hfl;refine AG ?_;simp only [Bd,Ax,Ad,Ae,Ab,gC,Yb,Yc,Kd.enc,ixW,Bx,Ao,F4,BG,List.replicate,Ym,YH,Option.getD_some,List.cons_append,Yw];refine M7 (by lia) (toL fs) none [] (λx hx=>?_) (by simp only[Yi];lia) λns n1 n2 v hv=>?_
       ·obtain⟨a1,a2,a3,a4⟩:=GV hr.2 x hx;exact⟨a1,by lia⟩
       ·have hvs:=Hs.ne hw5.1.1 hv;rw[Yi]at n1;have hgv:=Hs.new (o:=.lst (ns.map W.str)) hw5.1.1 hv;walk_at "k4";refine⟨BW (hgv.2 q0 hqs _ hw5.2.1),Ve k3 hvs ns none _ [] (λn hn=>(n2 n hn).resolve_left (by simp)) (λt ht=>by cases ht) (by simp only[Yi];lia) hgv.1 Ak λus G6 u1 u2 hg6 v2 hv2=>?_⟩;rw[Yi]at u1;have hg7:=(hgv.trans hg6).put (o:=.lst (us.map Te.enc)) hv2;have hq7:=hg7.2 q0 hqs _ hw5.2.1;refine Ir hq7 Ak (by rw[Yh,Yh];have:=hw5.2.2.2;exact AZ (by lia)) ?_;have hw6:=hw5.app hqs hg7 λt ht=>(u2 t ht).mono (by lia) (by unfold td;lia);exact ih (c+4+us.length) _ _ _ _ _ (λy hy=>hzm y (Yd _ hy)) hw6 (by lia)
      ·exact ih (c+4) _ _ _ _ _ (λy hy=>hzm y (Yd _ hy)) hw5 (by lia)
     ·refine⟨(Qzz 2),FV (Eo (by lia)) (Eo (k:=.box k) (by show 1+k.dp<=20;lia)) λb=>Bk (λh=>?_) (λh=>?_)⟩
      ·walk_at "k3";refine⟨BW hw4.2.1,(Qzz 2),Ep hnm hw4.1.1 λu G5 hu hg5=>⟨(Qzz 2),?_⟩⟩;have hq5:=hg5.2 q0 hqs _ hw4.2.1;have hl5:=hw4.2.2.2;refine CC hq5 (by rw[Yh];exact Bf (by lia)) ?_;have hw5:=hw4.app hqs hg5 λt ht=>by rw[YA.mp ht];exact(GQ M6 hu).mono (by lia) (by unfold td;lia)
       refine⟨BW Ak,(Qzz 2),Bw hm (by lia) hkm (nmG hw5.1) hw5.1.1 rfl λt G6 ht hg6=>⟨(Qzz 3),?_⟩⟩;have hq6:=hg6.2 q0 hqs _ hw5.2.1;have hl6:=hw5.2.2.2;refine CC hq6 (by rw[Yh];exact Bf (by simp only[Yg,Yi]at hl6;lia)) ?_;have hw6:=hw5.app hqs hg6 λt' ht'=>by rw[YA.mp ht'];exact(DG M5 (hnm.mono (Yr _) (by unfold td;lia)) ht).mono (by lia) (by lia)
       exact rest _ _ ⟨_,_,rfl,hw6⟩
      ·exact rest _ _ ⟨_,_,rfl,hw4.1,hw4.2.1,hw4.2.2.1,by have:=hw4.2.2.2;lia⟩
    ·simp only[Af,gIf,AF,gTB,Ad,Ae,Ab,gC,Yb,Yc,B2,Ao,Bi];have no:=rest [some (.ref s),some k.enc,some (.ref p),some (.int (m:Nat)),some (.ref q0),some (.str y),some kd.enc,o7'] G3 ⟨_,_,rfl,hw3.1,hw3.2.1,hw3.2.2.1,by have:=hw3.2.2.2;lia⟩;refine Bk (fun h=>?_) (fun h=>?_)
     ·rw[show ∀ b:Bool,(b != false)=b by intro b;cases b <;> rfl]at h;obtain⟨x,y',rfl⟩:=Vf h;have hdx:1+max x.dp y'.dp<=8:=k2d;simp only[Kd.enc,ixW,Cm,Ao];refine FV (Eo (by lia)) (Eo (by lia)) λb=>Bk (λh=>?_) (λh=>?_)
      ·walk_at "k3";refine⟨BW hw3.2.1,(Qzz 2),Ep hnm hw3.1.1 λu G5 hu hg5=>Bw hm (by lia) (k2.kid (.head _)).down (nmG (hw3.1.trans hg5.two)) hg5.1 rfl λt G6 ht hg6=>⟨(Qzz 3),?_⟩⟩;have hg6:=hg5.trans hg6;have hl3:=hw3.2.2.2;refine CC (hg6.2 q0 hqs _ hw3.2.1) (by rw[Yh];exact Bf (by lia)) ?_;have hw6:=hw3.app hqs hg6 λt' ht'=>by rw[YA.mp ht'];exact(DG Jn (hu.mono (Yr _) (by unfold td;lia)) ht).mono (by lia) (by lia)
       exact rest _ _ ⟨_,_,rfl,hw6⟩
      ·exact no
     ·exact no
   ·refine FV (Eo (by lia)) (Eo (by lia)) λb=>Bk (λh=>?_) (λh=>?_)
    ·walk_at "k3";have hl3:=hw.2.2.2;refine⟨BW hw.2.1,(Qzz 2),CC hw.2.1 (by rw[Yh];exact Bf (by lia)) ?_⟩;have hw6:=hw.app hqs (Hs.refl hw.1.1) λt' ht'=>by rw[YA.mp ht'];exact hnm.mono (by lia) (by lia)
     exact rest _ _ ⟨_,_,rfl,hw6⟩
    ·exact rest _ _ ⟨_,_,rfl,hw.1,hw.2.1,hw.2.2.1,by have:=hw.2.2.2;lia⟩
 exact loop ys 0 [] none none none G1 hmem hstart (by lia)
theorem Ji(T:Tx K mg base a)(c:10<=k)(D:Df P w K mg base "_law_term" k 4 (CG n)):Df P w K mg base "_law_by_name" (k+1) 4 (Va n):=by
 refine mk0 T.jL rfl UW BN (λd G Q E⟨x,s,⟨e,_⟩,_⟩=>by rw[e];rfl) (np T (CF T) (by lia) D (Yr _)) λd G Q E h q=>?_;obtain⟨⟨k,m,p⟩,s,⟨rfl,g,b,c,f⟩,hs,q⟩:=q;exact nE g b c f hs q
mutual
theorem GX:∀ t:Te,t.ok=true->dpW t.enc<=3*t.dp+25
 | .nd w r,h=>by
  have:=E7 r (Br h).2;show max 0 (L3.dpL r.enc)+1<=3*(1+r.dp)+25;lia
theorem E7:∀ r:As,r.ok=true->L3.dpL r.enc<=3*r.dp+27
 | .nil,_=>YV _
 | .num i r,h=>by
  have h':(decide (-NB<=i/\i<=NB)&&r.ok)=true:=h;simp only [YF] at h';have:=E7 r h'.2;show max 0 (L3.dpL r.enc)<=3*r.dp+27;lia
 | .tru _ r,h=>by
  have:=E7 r h;show max 0 (L3.dpL r.enc)<=3*r.dp+27;lia
 | .nam x r,h=>by
  have h':(AB x&&r.ok)=true:=h;simp only [YF] at h';have:=E7 r h'.2;show max 0 (L3.dpL r.enc)<=3*r.dp+27;lia
 | .knd k r,h=>by
  have h':((k.ok&&Bl k)&&r.ok)=true:=h;simp only [YF] at h';have h2:=h'.1.2;unfold Bl at h2;simp only[YQ]at h2;have:=E7 r h'.2;have:=DF k;show max (dpW k.enc) (L3.dpL r.enc)<=3*r.dp+27;lia
 | .trm t r,h=>by
  have h':(t.ok&&r.ok)=true:=h;simp only [YF] at h';have:=E7 r h'.2;have:=GX t h'.1;show max (dpW t.enc) (L3.dpL r.enc)<=3*max t.dp r.dp+27;lia
 | .fld f r,h=>by
  have h':((A0 f.names&&f.ok)&&r.ok)=true:=h;simp only [YF] at h';have:=E7 r h'.2;have:=M8 f h'.1.2;show max (L3.dpL f.enc+1) (L3.dpL r.enc)<=3*max f.dp r.dp+27;lia
theorem M8:∀ f:Fl,f.ok=true->L3.dpL f.enc<=3*f.dp+26
 | .nil,_=>YV _
 | .cons x t r,h=>by
  have h':((AB x&&t.ok)&&r.ok)=true:=h;simp only [YF] at h';have:=GX t h'.1.2;have:=M8 r h'.2;show max (max 0 (max (dpW t.enc) 0)+1) (L3.dpL r.enc)<=3*max t.dp r.dp+26;lia
end
theorem M9:∀{ts:List Te},(∀ t∈ts,TmB c d t)->L3.dpL (ts.map Te.enc)<=3*d+25
 | [],_=>YV _
 | t::ts,h=>by
  obtain⟨h1,_,h2⟩:=h t Ye;have:=GX t h1;have:=M9 (λu a=>h u (Yd _ a));show max (dpW t.enc) (L3.dpL (ts.map Te.enc))<=_;lia
theorem nF(h:G q=some (.lst xs))(h':G p=some (.lst []))(hd:L3.dpL xs < 90):eqF true (.ref q) (.ref p) G=some (.bl (!xs.isEmpty)):=by
 have e:eqW (.ref q) (.ref p) G=some xs.isEmpty:=by
  unfold eqW;simp only[h,h'];rw[if_pos hd,Uo]
 unfold eqF;rw[e];show some (W.bl (xs.isEmpty != true))=_;rw[O8]
noncomputable abbrev nG:GS:=Af (gIf (gTB (Ad (Ae (eqF false)) (gMt ET ES kw (Aa (gC (.str "x")) (Aa (Ah Ac) Ac))) f4)) (Ai (Ah (Aa rW (Aa (gC (.str "x")) Ac)))) Aj) (Ai (Ag (Jf 8) XF si))
theorem Vg{o3 o4:Option W}(f:KdOk (kb m) (kp m) k)(o:Nm m p G)(hs:St s G)(q:∀(t:Te)c,TmB (tb m) (td m) t->Hs s G c->D.rt t.enc c):nG D (some (.ref s)::some k.enc::some (.ref p)::l) G:=by
 have i:=M4 m;have d:=f.ok;obtain⟨a,g,v⟩:=o.get "x";obtain⟨x,n,u⟩:=f;refine⟨⟨p,a,rfl,g⟩,by decide,p,a,"x",.tup [],rfl,rfl,g,?_⟩;unfold kb at n;unfold kp at u;refine FV v (Eo (by lia)) λb=>Bk (λh=>?_) (λh=>?_)
 ·exact⟨(by decide),q (.nd "name" (.nam "x" .nil)) _ ((Jb (by decide +kernel)).mono (by lia) (by unfold td;lia)) (Hs.refl hs)⟩
 ·refine⟨k,s,⟨rfl,d,by lia⟩,hs,λr c⟨t,e,j⟩w=>?_⟩;rw[e];exact q t c (j.mono (by lia) (by unfold td;lia)) w
theorem nH(hm:m < n+1)(hm3:m<=3)(hk:KdOk (kb m) (kp m) k)(hn:Nm m p G)(hs:St s G)(q:∀ r G',(∃ t:Te,r=t.enc/\TmB (tb m) (td m) t)->Hs s G G'->Q r G'):M1 BM (Jf 8) (Va n) (Jm n) (CG n) DH (AH Q) [some (.ref s),some k.enc,some (.ref p),some (.int (m:Nat)),none,none,none,none,none,none,none,none,none] G:=by
 unfold M1;refine AG ?_;walk_at "k0";refine Bj (by decide) (by decide) hs λr G1 r0 r1 hg=>?_;have hn1:=hn.hs hs hg;simp only[Yk,Yl,Af,gIf,gOr,gTB,Ad,Ae,Ab,gC,Yb,Yc,BD,Ao];refine Bk (fun h=>?_) (fun h=>?_)
 ·rw[if_pos trivial];exact Vg (o3:=none) (o4:=none) hk hn1 hg.1 λt G' ht hg'=>q _ _ ⟨t,rfl,ht⟩ (hg.trans hg')
 refine Bk (λh=>?_) (λh11=>?_)
 ·exact Vg (o3:=none) (o4:=none) hk hn1 hg.1 λt G' ht hg'=>q _ _ ⟨t,rfl,ht⟩ (hg.trans hg')
 cases m with
 | zero=>exact Qo rfl h
 | succ m =>
 have e1:(((m+1:Nat):Int) - 1)=(m:Int):=by lia
 have hmn:m < n:=by lia
 have h38:=M4 m;have etb:tb (m+1)=3*tb m+6:=rfl;have etd:td (m+1)=td m+4:=by unfold td;lia
 have hkm:=hk.down;rw[etb,etd]at q;simp only[Aj];unfold Ma1;refine AG ?_;simp only[An,Ac];refine⟨by decide,λq0 hq0=>?_⟩;have hq0s:=Hs.ne hg.1 hq0;have hg2:=hg.put (o:=.lst []) hq0;have hq2:put G1 q0 (.lst []) q0=some (.lst []):=Ak;generalize put G1 q0 (.lst [])=G2 at hg2 hq2 ⊢;simp only[Yk,Yl];refine C7 (λω' G'=>∃ z,∃ ts:List Te,ω'=[some (.ref s),some k.enc,some (.ref p),some (.int ((m+1:Nat):Int)),some (.int r),some (.ref z),none,none,none,none,none,none,none]/\z≠s/\G' z=some (.lst (ts.map Te.enc))/\(∀ t∈ts,TmB (tb m+3) (td m+2) t)/\ts.length<=1000/\Hs s G G') ?_ (λrest=>?_);rotate_left
 ·simp only[Af,gIf,gTB,Ad,Ba,Ab,gC,Yb,Yc];refine Bk (fun h=>?_) (fun h=>?_)
  ·walk_at "k3";refine⟨trivial,(k,m,p),s,⟨by rw[e1],hmn,by lia,hk,hn.hs hs hg2⟩,hg2.1,λr' G3 h3 hg3=>?_⟩;obtain⟨z,ts,rfl,t1,t2,t3,t4⟩:=h3;exact rest _ _ ⟨z,ts,rfl,t1,t2,t3,t4,hg2.trans hg3⟩
  ·simp only[Aj];exact rest _ _ ⟨q0,[],rfl,hq0s,hq2,(λt ht=>by cases ht),by decide,hg2⟩
 rintro ω' G3 ⟨z,ts,rfl,t1,t2,t3,t4,hg3⟩;unfold Mb1;simp only[Af,gIf,gTB,Ad,An,Ac,Ab,Yb,Yc];refine⟨by decide,λq1 hq1=>?_⟩;have hz3:=AA (o:=.lst []) hq1 _ _ t2;have hdl:=M9 t3;have hg4:=hg3.put (o:=.lst []) hq1;show opt (eqF true (.ref z) (.ref q1) _) _;rw[nF hz3 Ak (by unfold td at hdl;lia),Ao];generalize put G3 q1 (.lst [])=G4 at hg4 hz3 ⊢;refine Bk (fun h=>?_) (fun h=>?_)
 ·walk_at "k3";rw[show AK [.ref z] G4=some (.int ((ts.map Te.enc).length:Nat))from Rc hz3,Ao,Yh]
  have hpos:0 < ts.length:=by
   cases ts with
   | nil=>exact Qo h (by decide)
   | cons=>exact Nat.succ_pos _
  refine Bj (by lia) (by lia) hg4.1 λv G5 v0 v1 hg5=>?_;obtain⟨x,hx,e⟩:=Do (hg5.2 z t1 _ hz3) v0 (by rw[Yh];exact v1);show opt (ixW (.ref z) (.int v) G5) _;rw[e,Ao];obtain⟨t,ht,rfl⟩:=YC.mp hx;exact q _ _ ⟨t,rfl,(t3 t ht).mono (by lia) (by lia)⟩ (hg4.trans hg5)
 simp only[Aj,Ba];refine Bk (λh=>?_) (λh8=>?_)
 ·walk_at "k3";refine⟨trivial,(k,m,p),s,⟨by rw[e1],hmn,by lia,hk,hn.hs hs hg4⟩,hg4.1,λr' G5 h5 hg5=>?_⟩;obtain⟨t,rfl,ht⟩:=h5;exact q _ _ ⟨t,rfl,TmB.mono (c:=2*tb m+5) (d:=td m+4) ht (by lia) (by lia)⟩ (hg4.trans hg5)
 simp only[Aj];unfold Mc1;refine AG ?_;walk_at "k1";refine⟨trivial,Bw hmn (by lia) hkm (hn.hs hs hg4).down hg4.1 e1 λone G5 hone hg5=>?_⟩;have hg5:=hg4.trans hg5;refine AG ?_;walk_at "k1";refine⟨trivial,Bw hmn (by lia) hkm (hn.hs hs hg5).down hg5.1 e1 λother G6 hother hg6=>?_⟩;have hg6:=hg5.trans hg6;simp only[Yk,Yl,Af,gIf,gTB,Ad,Ae,Ab,gC,Yb,Yc,BD,Ao];refine Bk (fun h=>?_) (fun h=>?_)
 ·walk_at "k3";refine⟨by decide,trivial,Bw (k:=.truth) hmn (by lia) ⟨rfl,by unfold kb;show 1<=_;lia,by unfold kp;show 1<=_;lia⟩ (hn.hs hs hg6).down hg6.1 e1 λt G7 ht hg7=>?_⟩;exact⟨(Qzz 4),q _ _ ⟨.nd "if" (.trm t (.trm one (.trm other .nil))),rfl,(nj ht hone hother).mono (by lia) (by lia)⟩ (hg6.trans hg7)⟩
 simp only[Aj];unfold Md1;refine C7 (fun ω' G'=>∃ o11 o12,ω'=[some (.ref s),some k.enc,some (.ref p),some (.int ((m+1:Nat):Int)),some (.int r),some (.ref z),some one.enc,some other.enc,none,none,none,o11,o12]∧Hs s G G') ?_ (fun rest=>?_);rotate_left
 ·simp only[Af,gIf,AF,gTB,Ad,AV,Ae,Ab,gC,Yb,Yc,B2,Ao,Bi];have no:=rest [some (.ref s),some k.enc,some (.ref p),some (.int ((m+1:Nat):Int)),some (.int r),some (.ref z),some one.enc,some other.enc,none,none,none,none,none] G6 ⟨none,none,rfl,hg6⟩;refine Bk (fun h=>?_) (fun h=>?_)
  ·refine Bk (λh=>?_) (λh=>?_)
   ·rw[show ∀ b:Bool,(b != false)=b by intro b;cases b <;> rfl]at h;obtain⟨x,y,rfl⟩:=Vf h;have hx:=(hk.kid (x:=x) (.head _)).down;have hy:=(hk.kid (x:=y) (.tail _ (.head _))).down;refine AG ?_;walk_at "k3"
    obtain⟨v,hv,ev⟩:∃ v:Str,AB v=true/\∀(G:Hw)(l:Addr),G l=some (.lst [.str "x",.str "y"])->ixW (.ref l) (.int (r % 2)) G=some (.str v):=by
     have h2:r % 2=0\/r % 2=1:=by lia
     rcases h2 with e | e <;> rw[e]
     ·exact⟨"x",by decide +kernel,λG l hl=>by rw[DZ hl];rfl⟩
     ·exact⟨"y",by decide +kernel,λG l hl=>by rw[DZ hl];rfl⟩
    obtain⟨kvs,a1,a2,a3⟩:=(hn.hs hs hg6).new hv hx;refine⟨p,kvs,rfl,a1,λl hl=>?_⟩;simp only[Af,FC,Ad,An,Ar,Ae,gC,Aa,Ac,Ab,Yb,Yc,Yk,Yl,Kd.enc,ixW,Bx,Ao];have hl7:put G6 l (.dct kvs) l=some (.dct kvs):=Ak;have hg7:=hg6.put (o:=.dct kvs) hl;have hls:=Hs.ne hg6.1 hl;generalize hH:put G6 l (.dct kvs)=G7 at hl7 hg7 ⊢;refine⟨by decide,λb hb=>⟨by decide,?_⟩⟩;have eb:=ev (put G7 b (.lst [.str "x",.str "y"])) b Ak;show opt (ixW (.ref b) (.int (r % 2)) (put G7 b (.lst [.str "x",.str "y"]))) _;rw[eb,Ao];have hlb:put G7 b (.lst [.str "x",.str "y"]) l=some (.dct kvs):=AA hb _ _ hl7;refine⟨l,kvs,v,rfl,rfl,hlb,a2,?_⟩
    have hg8:Hs s G (put (put G7 b (.lst [.str "x",.str "y"])) l (.dct (BC kvs (Sum.inr v) x.enc))):=by
     have h8:=hg7.put (o:=.lst [.str "x",.str "y"]) hb;refine⟨(Hs2.set h8.1 hls).1,λc hc u hu=>?_⟩;have hcl:c≠l:=A3 (hg6.2 c hc u hu) hl;rw[Az hcl];exact h8.2 c hc u hu
    have hn8:=a3 l (put (put G7 b (.lst [.str "x",.str "y"])) l (.dct (BC kvs (Sum.inr v) x.enc))) Ak;generalize put (put G7 b (.lst [.str "x",.str "y"])) l (.dct (BC kvs (Sum.inr v) x.enc))=G8 at hg8 hn8 ⊢;walk_at "k3";refine⟨by decide,λb2 hb2=>⟨by decide,?_⟩⟩;have eb2:=ev (put G8 b2 (.lst [.str "x",.str "y"])) b2 Ak;show opt (ixW (.ref b2) (.int (r % 2)) (put G8 b2 (.lst [.str "x",.str "y"]))) _;rw[eb2,Ao];have hg9:=hg8.put (o:=.lst [.str "x",.str "y"]) hb2;have hn9:=hn8.put (o:=.lst [.str "x",.str "y"]) hb2;refine⟨trivial,Bw hmn (by lia) hy hn9 hg9.1 e1 λt G10 ht hg10=>?_⟩;exact⟨(Qzz 4),q _ _ ⟨.nd "fun" (.nam v (.knd x (.trm t .nil))),rfl,(Ja hv hx.ok ht).mono (by lia) (by lia)⟩ (hg9.trans hg10)⟩
   ·exact no
  ·exact no
 rintro ω' G7 ⟨o11,o12,rfl,hg7⟩;unfold Me1;refine C7 (fun ω' G'=>∃ o11 o12,ω'=[some (.ref s),some k.enc,some (.ref p),some (.int ((m+1:Nat):Int)),some (.int r),some (.ref z),some one.enc,some other.enc,none,none,none,o11,o12]∧Hs s G G') ?_ (fun rest=>?_);rotate_left
 ·simp only[Af,gIf,AF,gTB,Ad,Ae,Ab,gC,An,Aa,Ac,Yb,Yc,B2,Ao,BD];refine Bk (fun h=>?_) (fun h=>?_)
  ·refine⟨by decide,λb hb=>?_⟩;rw[GU ["num","truth"] k.hd (xs:=[.str "num",.str "truth"]) Ak rfl,Ao];have hg8:=hg7.put (o:=.lst [.str "num",.str "truth"]) hb;generalize put G7 b (.lst [.str "num",.str "truth"])=G8 at hg8 ⊢;refine Bk (fun h=>?_) (fun h=>?_)
   ·have hnum:KdOk (kb m) (kp m) .num:=⟨rfl,by unfold kb;show 1<=_;lia,by unfold kp;show 1<=_;lia⟩;refine AG ?_;simp only[Ah,Ag,Ad,Ar,Ab,gC,Aa,Ac,Yb,Yc];refine⟨by decide,trivial,Bw (k:=.num) hmn (by lia) hnum (hn.hs hs hg8).down hg8.1 e1 λt G9 ht hg9=>?_⟩;have hg9:=hg8.trans hg9;simp only[Af,gIf,gTB,Ad,Ae,Ab,gC,Yb,Yc,Yk,Yl,B2,Ao,Bi];refine Bk (fun h=>?_) (fun h=>?_)
    ·walk_at "k3";exact⟨(Qzz 3),q _ _ ⟨.nd "plus" (.trm t (.trm one .nil)),rfl,(DG ny ht hone).mono (by lia) (by lia)⟩ hg9⟩
    ·walk_at "k3";refine⟨by decide,trivial,Bw (k:=.num) hmn (by lia) hnum (hn.hs hs hg9).down hg9.1 e1 λt' G10 ht' hg10=>?_⟩;exact⟨(Qzz 3),q _ _ ⟨.nd "less" (.trm t (.trm t' .nil)),rfl,(DG nz ht ht').mono (by lia) (by lia)⟩ (hg9.trans hg10)⟩
   ·exact rest _ _ ⟨_,_,rfl,hg8⟩
  ·exact rest _ _ ⟨_,_,rfl,hg7⟩
 rintro ω' G8 ⟨o11,o12,rfl,hg8⟩;unfold Mf1;refine AG ?_;simp only [Ad,An,Ag,Ab,gC,Aa,Ac,Yb,Yc];refine E5 rfl (by decide) (by decide) hg8.1 λx hx G9 hg9=>?_;have hg9:=hg8.trans hg9
 obtain⟨b,rfl⟩:∃ b,x=.str (Bc b):=by
  simp only [Yo,Qa,or_false] at hx;rcases hx with rfl | rfl
  ·exact⟨true,rfl⟩
  ·exact⟨false,rfl⟩
 refine AG ?_;simp only[Ah,Ad,Ag,Ab,gC,Aa,Ac,Yb,Yc,Yk,Yl];refine⟨(Qzz 3),(Qzz 1),Bj (by decide) (by decide) hg9.1 λv G10 v0 v1 hg10=>?_⟩;have hg10:=hg9.trans hg10;walk_at "k1";refine⟨(Qzz 3),?_⟩
 have krow:∀(fs:Fs)(o:Bool),fs=.nil\/fs=.cons "a" b k .nil->KdOk (kb m) (kp m) (.row fs o):=λfs o hf=>by
  obtain⟨b1,b2,b3⟩:=hk;unfold kb at b2;unfold kp at b3;rcases hf with rfl | rfl
  ·exact⟨rfl,by show 1+0<=_;unfold kb;lia,by show 1+0<=_;unfold kp;lia⟩
  ·refine⟨?_,?_,?_⟩
   ·show(true&&(AB "a"&&k.ok&&true))=true;rw[GW,b1];rfl
   ·show 1+(k.cnt+0)<=_;unfold kb;lia
   ·show 1+max k.dp 0<=_;unfold kp;lia
 refine AG ?_;simp only[Ah,Ad,Ag,Ae,Ar,Ab,gC,Aa,Ac,Yb,Yc,Yk,Yl,ixW,Bx,Ao];refine⟨(Qzz 3),trivial,Bw (k:=.row (.cons "a" b k .nil) false) hmn (by lia) (krow _ _ (.inr rfl)) (hn.hs hs hg10).down hg10.1 e1 λrow G11 hrow hg11=>?_⟩;have hg11:=hg10.trans hg11;unfold Mg1;refine C7 (λω' G'=>∃ fs o,∃ u:Te,ω'=[some (.ref s),some k.enc,some (.ref p),some (.int ((m+1:Nat):Int)),some (.int r),some (.ref z),some one.enc,some other.enc,some (.str (Bc b)),some (Kd.row fs o).enc,some u.enc,o11,o12]/\(fs=.nil\/fs=.cons "a" b k .nil)/\TmB (tb m+2) (td m+2) u/\Hs s G G') ?_ (λrest=>?_);rotate_left
 ·simp only[Af,gIf,gTB,Ad,Ag,Ab,gC,Aa,Ac,Yb,Yc,Yk,Yl];refine Bj (by decide) (by decide) hg11.1 λv' G12 _ _ hg12=>?_;have hg12:=hg11.trans hg12;refine Bk (fun h=>?_) (fun h=>?_)
  ·refine AG ?_;simp only[Ah,An,Ad,Ag,Ae,Ar,Ab,gC,Aa,Ac,Yb,Yc,ixW,Bx,Ao];refine⟨by decide,(Qzz 2),λy hy=>?_⟩;have hys:=Hs.ne hg12.1 hy;have hg13:=hg12.put (o:=.lst [.tup [.tup [.str "a",.str (Bc b),k.enc]],.tup []]) hy;refine Bj (by decide) (by decide) hg13.1 λv3 G14 v30 v31 hg14=>⟨⟨by decide,by decide⟩,?_⟩;obtain⟨x,hx,e⟩:=Do (r:=v3 / 2) (hg14.2 y hys _ Ak) (by lia) (by show v3 / 2 < 2;lia);rw[DZ (hg14.2 y hys _ Ak)]at e;rw[hg14.2 y hys _ Ak];dsimp only;rw[e,Ao];have hg14:=hg13.trans hg14
   obtain⟨fs,rfl,hfs⟩:∃ fs:Fs,x=.tup fs.enc/\(fs=.nil\/fs=.cons "a" b k .nil):=by
    simp only [Yo,Qa,or_false] at hx;rcases hx with rfl | rfl
    ·exact⟨.cons "a" b k .nil,rfl,.inr rfl⟩
    ·exact⟨.nil,rfl,.inl rfl⟩
   refine⟨(Qzz 3),?_⟩;walk_at "k3";refine⟨by decide,(Qzz 3),Ep (t:=.nd "as" (.trm row (.knd .any .nil))) (Cq hrow GR) hg14.1 λu G15 hu hg15=>?_⟩;exact rest _ _ ⟨fs,_,u,rfl,hfs,hu,hg14.trans hg15⟩
  ·exact rest _ _ ⟨.cons "a" b k .nil,_,row,rfl,.inr rfl,hrow.mono (by lia) (by lia),hg12⟩
 rintro ω' G12 ⟨fs,o,u,rfl,hfs,hu,hg12⟩;have hrk:=krow fs o hfs;refine AG ?_;walk_at "k3";refine⟨(Qzz 3),?_⟩;have hua:TmB (tb m+3) (td m+3) (.nd "as" (.trm u (.knd (.row fs o) .nil))):=Cq hu hrk.ok
 have last:∀ G',Hs s G G'->Ai (Ah (Aa (gC (.str "get")) (Aa (Ab 10) (Aa (gC (.str "a")) Ac)))) (AH Q) [some (.ref s),some k.enc,some (.ref p),some (.int ((m+1:Nat):Int)),some (.int r),some (.ref z),some one.enc,some other.enc,some (.str (Bc b)),some (Kd.row fs o).enc,some (Te.nd "as" (.trm u (.knd (.row fs o) .nil))).enc,o11,o12] G':=λG' hg'=>by
  exact⟨(Qzz 3),q _ _ ⟨.nd "get" (.trm (.nd "as" (.trm u (.knd (.row fs o) .nil))) (.nam "a" .nil)),rfl,(MW hua GW).mono (by lia) (by lia)⟩ hg'⟩
 have orr:∀(D:Ew)G',D.rt=Q->Hs s G G'->Ai (Ah (Aa (gC (.str "or")) (Aa (Ab 10) (Aa (Ad (Ae ixW) (An (Aa (gC (.str "a")) (Aa (gC (.str "b")) Ac))) (Ag BM XF (Aa (Ab 0) (Aa (gC (.int 2)) Ac)))) (Aa (Ab 7) Ac))))) D [some (.ref s),some k.enc,some (.ref p),some (.int ((m+1:Nat):Int)),some (.int r),some (.ref z),some one.enc,some other.enc,some (.str (Bc b)),some (Kd.row fs o).enc,some (Te.nd "as" (.trm u (.knd (.row fs o) .nil))).enc,o11,o12] G':=λD G' hD hg'=>by
  walk_at "k3";refine E5 rfl (by decide) (by decide) hg'.1 λx hx G13 hg13=>?_
  obtain⟨y,rfl,hy⟩:∃ y:Str,x=.str y/\AB y=true:=by
   simp only [Yo,Qa,or_false] at hx;rcases hx with rfl | rfl
   ·exact⟨_,rfl,GW⟩
   ·exact⟨_,rfl,nw⟩
  rw[hD];exact⟨(Qzz 4),q _ _ ⟨.nd "or" (.trm (.nd "as" (.trm u (.knd (.row fs o) .nil))) (.nam y (.trm other .nil))),rfl,(UO hua hy (hother.mono (Yr _) (by lia))).mono (by lia) (by lia)⟩ (hg'.trans hg13)⟩
 refine Bk (fun h=>?_) (fun h=>?_)
 ·exact orr _ _ rfl hg12
 ·refine⟨by decide,?_⟩
  have hpf:PT (.tup fs.enc):=by
   have hd:=MP fs;have hd3:1+fs.dp<=kp m:=hrk.2.2;unfold kp at hd3;exact⟨_,rfl,M3 fs,by lia⟩
  obtain⟨c,ec⟩:=U8 (neg:=false) hpf U9 G12;rw[ec,Ao];cases c with
  | false=>exact last _ hg12
  | true =>
   cases o with
   | true=>exact last _ hg12
   | false=>exact orr _ _ rfl hg12
theorem BH(T:Tx K mg base a):∀ n:Nat,Df P w K mg base "_law_term" (3*n+10) 4 (CG n)
 | 0=>BX T.Ry BN λc G Q E⟨x,s,⟨_,hd,_⟩,_⟩=>by lia
 | n+1=>by
  refine mk0 T.Ry rfl U1 BN (λc G Q E⟨x,s,⟨e,_⟩,_⟩=>by rw[e];rfl) (nq T (AO T) (by lia) (Ek T 8) (by lia) (Ji T (by lia) (BH T n)) (by lia) (Jj T (by lia) (BH T n)) (by lia) (BH T n) (by lia) (CF T) (by lia)) λc G Q E h q=>?_;obtain⟨⟨k,m,p⟩,s,⟨rfl,g,b,d,f⟩,hs,q⟩:=q;exact nH g b d f hs q
abbrev Vh:List Str:=["row","name","field"]
theorem Vi:Ay Vh ["row","name"] (Ap Ls):=by walk_at "s"
abbrev sy:=Ah (Aa (gC (.str "free")) Ac)
noncomputable def nI:GS:=(Af (AN (Ax hH) (gNm 2) (gIf (gTB (Ad (Ae (eqF false)) (Ad (Ae ixW) kw eq) f4)) (Ai (Ah (Aa (Ad (Ae ixW) kw dl) (Aa (Ad (Ae ixW) kw h8) Ac)))) Aj)) (Ai (By (AI rL) sy (Ah (Aa (gC (.str "none")) Ac)))))
theorem nJ(T:Tx K mg base a):Dn P w K mg base Vh "entry_of" Ls k (nI):=by
 have hN:=Vi.nd;walk_at "z"
abbrev Vj:List Str:=["row"]
theorem Vk:Ay Vj ["row"] (Ap Lu):=by walk_at "s"
def nK:GS:=(Ai (AM (Ax hH) 1 (gNm 0) AC ad))
theorem nL(T:Tx K mg base a):Dn P w K mg base Vj "names_of" Lu k (nK):=by
 have hN:=Vk.nd;walk_at "z"
abbrev Vl:List Str:=["one","other"]
theorem Vm:Ay Vl ["one","other"] (Ap Lv):=by walk_at "s"
def nM(GY:Spw):GS:=(Ai (K2 (Ag GY XF ln) (Ag GY XF re)))
theorem nN(T:Tx K mg base a)(rd:Df P w K mg base "names_of" Jo 1 GY)(rf:Jo<=k):Dn P w K mg base Vl "names_of_both" Lv k (nM GY):=by
 have hN:=Vm.nd;walk_at "z"
abbrev Vn:List Str:=["one","other"]
theorem Vo:Ay Vn ["one","other"] (Ap Lw):=by walk_at "s"
abbrev sB:=gIf (gTB (Ad (Ae (eqF true)) ad on)) le Aj
noncomputable def nO(Cb:Spw):GS:=(Af (gIf (gTB (Ad (Ae (eqF false)) ad (gC (.str "free")))) (Ai rY) Aj) (Af sB (Ai (CO (Ad (Ae (eqF false)) ad (gC (.str "none"))) (Ag Cb XF (Aa hH (Aa sj Ac)))))))
theorem nP(T:Tx K mg base a)(TF:Df P w K mg base "is_less" C1 2 Cb)(TH:C1<=k):Dn P w K mg base Vn "is_less_entry" Lw k (nO Cb):=by
 have hN:=Vo.nd;walk_at "z"
abbrev Vp:List Str:=["one","other","names"]
theorem Vq:Ay Vp ["one","other"] (Ap Lx):=by walk_at "s"
noncomputable def nQ(Jp:Spw)(GZ:Spw)(Jq:Spw):GS:=(Af (gIf (AF (AI su) (gNt (AI rL))) le Aj) (Af (Al 2 (Ag Jp XF si)) (Ai (gB (rF Be) (Aa (Bd (Ax kw) 1 [0,1] (gNm 0) AC (Ag Jq XF (Aa (Ag GZ XF (Aa f4 ln)) (Aa (Ag GZ XF (Aa kw ln)) Ac)))) Ac)))))
theorem nR(T:Tx K mg base a)(rg:Df P w K mg base "names_of_both" Jr 2 Jp)(rh:Jr<=k)(ri:Df P w K mg base "entry_of" Js 2 GZ)(rj:Js<=k)(rk:Df P w K mg base "is_less_entry" Jt 2 Jq)(rl:Jt<=k):Dn P w K mg base Vp "is_less_row" Lx k (nQ Jp GZ Jq):=by
 have hN:=Vq.nd;walk_at "z"
abbrev Vr:List Str:=["one","other"]
theorem Vs:Ay Vr ["one","other"] (Ap Ly):=by walk_at "s"
noncomputable def nS(Ju:Spw)(Cb:Spw):GS:=(Af (gIf (gTB (Ad (Ae (eqF false)) ad (gC (.str "any")))) (Ai rY) Aj) (Af sB (Af (gIf sO (Ai (Ag Ju XF si)) Aj) (Ai (gB (rF Be) (Aa (AM (BS (Aa r6 (Aa (AE f4 (Av dl) Au) Ac))) 2 (AJ 0 1) AC (Ag Cb XF si)) Ac))))))
theorem nT(T:Tx K mg base a)(rn:Df P w K mg base "is_less_row" Jv 2 Ju)(ro:Jv<=k)(TF:Df P w K mg base "is_less" C1 2 Cb)(TH:C1<=k):Dn P w K mg base Vr "is_less" Ly k (nS Ju Cb):=by
 have hN:=Vs.nd;walk_at "z"
noncomputable def Fs.find:Fs->Str->Option (Bool×Kd)
 | .nil,_=>none
 | .cons n m k r,x=>if n=x then some (m,k)else r.find x
inductive En where
 | free | nope | told (m:Bool) (k:Kd)
noncomputable def En.enc:En->W
 | .free=>.tup [.str "free"]
 | .nope=>.tup [.str "none"]
 | .told m k=>.tup [.str (Bc m),k.enc]
noncomputable def ent(fs:Fs)(o:Bool)(x:Str):En:=match fs.find x with | some (m,k)=>.told m k | none=>if o then .free else .nope
noncomputable def Er(f:Kd->Kd->Bool):En->En->Bool
 | .free,_|.nope,.nope=>true
 | .told m k,.told m' k'=>m==m'&&f k k'
 | _,_=>false
noncomputable def A6:Nat->Kd->Kd->Bool
 | 0,_,_=>false
 | _+1,.any,_|_+1,.num,.num|_+1,.truth,.truth=>true
 | n+1,.to a b,.to c d=>A6 n a c&&A6 n b d
 | n+1,.box a,.box b=>A6 n a b
 | n+1,.row fs o,.row gs p=>!(p&&!o)&&(fs.names++gs.names).all λx=>Er (A6 n) (ent fs o x) (ent gs p x)
 | _+1,_,_=>false
theorem Vt:∀{fs:Fs}{x:Str}{m:Bool}{k:Kd},fs.find x=some (m,k)->k∈fs.kinds
 | .nil,x,m,k,h=>by cases h
 | .cons n b a r,x,m,k,h=>by
  unfold Fs.find at h;split at h
  ·cases h;exact Ye
  ·exact Yd _ (Vt h)
theorem G0(e:ent fs o x=.told m k):k∈fs.kinds:=by
 unfold ent at e;cases q:fs.find x with
 | none=>rw[q]at e;cases o <;> cases e
 | some p=>rw[q]at e;cases e;exact Vt q
theorem Na:∀{fs:Fs},fs.ok=true->∀ x∈fs.names,x∈Nms
 | .nil,_,x,a=>by cases a
 | .cons n m k r,h,x,a=>by
  have h':(AB n&&k.ok&&r.ok)=true:=h;simp only [YF] at h';rcases Yo.mp a with rfl | a
  ·exact Qm h'.1.1
  ·exact Na h'.2 x a
theorem Es(h:(Kd.row fs o).ok=true):fs.names.Nodup/\fs.names.length<=7:=by
 have h':(A0 fs.names&&fs.ok)=true:=h;simp only [YF] at h'
 have a:fs.names.Nodup:=(MT h'.1).imp λz e=>by
  subst e;exact List.lt_irrefl _ (Qm z)
 exact⟨a,ER a (Na h'.2)⟩
theorem Vu:∀(fs:Fs)(o':Option W),(∀ m k,fs.find x=some (m,k)->D.rt (.tup [.str (Bc m),k.enc]) G)->(fs.find x=none->∀ b,D.nx [some row,some (.str x),b] G)->
  A9 yes (gNm 2) (gIf (gTB (Ad (Ae (eqF false)) (Ad (Ae ixW) kw eq) f4)) (Ai (Ah (Aa (Ad (Ae ixW) kw dl) (Aa (Ad (Ae ixW) kw h8) Ac)))) Aj) D fs.enc [some row,some (.str x),o'] G
 | .nil,o',_,h=>⟨trivial,h rfl o'⟩
 | .cons n m k r,o',h1,h2=>by
  refine⟨trivial,?_⟩;show gIf _ _ Aj _ [some row,some (.str x),some (.tup [.str n,.str (Bc m),k.enc])] G;walk_at "rd";by_cases a:n=x
  ·subst a;rw[show((n==n) != false)=true by simp];exact⟨by decide,h1 _ _ (by unfold Fs.find;rw[if_pos rfl])⟩
  ·rw[show((n==x) != false)=false by simpa using a];refine Vu r _ (λf c d=>h1 f c ?_) (λe=>h2 ?_)
   ·unfold Fs.find;rw[if_neg a];exact d
   ·unfold Fs.find;rw[if_neg a];exact e
noncomputable abbrev nU:Spw:=spR (λ(x:Fs×Bool×Str)ws _=>ws=[(Kd.row x.1 x.2.1).enc,.str x.2.2]) λx=>(ent x.1 x.2.1 x.2.2).enc
theorem Js(T:Tx K mg base a):Df P w K mg base "entry_of" 1 2 nU:=by
 refine mk0 T.iY rfl Vi Bb (λb G Q E⟨x,e,_⟩=>by rw[e];rfl) (nJ T) λb G Q E g q=>?_;obtain⟨⟨fs,o,x⟩,rfl,q⟩:=q;dsimp only at q;refine Vu fs none (λm k c=>?_) (λf d=>?_)
 ·unfold ent at q;rw[c]at q;exact q
 ·unfold ent at q;rw[f]at q;cases o with
  | true|false=>exact⟨by decide,q⟩
noncomputable abbrev nV:Spw:=spL (λ(x:Fs×Bool)ws _=>ws=[(Kd.row x.1 x.2).enc]/\x.1.names.length<=100) λx=>x.1.names.map W.str
theorem Jo(T:Tx K mg base a):Df P w K mg base "names_of" 1 1 nV:=by
 refine mk0 T.iZ rfl Vk BU (λc G Q E⟨x,⟨e,_⟩,_⟩=>by rw[e];rfl) (nL T) λc G Q E i q=>?_;obtain⟨⟨fs,o⟩,⟨rfl,hl⟩,q⟩:=q;have g:fs.enc.length<=100:=by rw[<- Ec];exact hl
 refine Cz (f:=Eb) trivial fs.enc none [] (λx h j d=>?_) (by simp only[Yi];exact AZ (by lia)) ?_
 ·obtain⟨n,b,k,rfl⟩:=FL h;exact d
 ·rw[Gv];exact q
noncomputable def BothN(fs gs:Fs)(zs:List Str):Prop:=zs.Nodup/\∀ x,x∈zs↔x∈fs.names\/x∈gs.names
theorem BothN.len(h:BothN fs gs zs)(h1:(Kd.row fs o).ok=true)(h2:(Kd.row gs p).ok=true):zs.length<=14:=by
 have:=ER h.1 λx a=>Yz.mpr ((h.2 x).mp a);have:=(Es h1).2;have:=(Es h2).2;rw[Yj]at *;lia
noncomputable def Jw:Spw:=λws G Q _=>∃(fs gs:Fs)(o p:Bool),ws=[(Kd.row fs o).enc,(Kd.row gs p).enc]/\(Kd.row fs o).ok=true/\(Kd.row gs p).ok=true/\∀(zs:List Str)(r:Addr),BothN fs gs zs->G r=none->Q (.ref r) (put G r (.lst (zs.map W.str)))
theorem Vv:Spw.M Jw:=λd G Q e E f h _⟨fs,gs,o,p,h1,h2,c,q⟩=>⟨fs,gs,o,p,h1,h2,c,λzs r a b=>h _ _ (q zs r a b)⟩
theorem Jr(T:Tx K mg base a):Df P w K mg base "names_of_both" 2 2 Jw:=by
 refine mk0 T.i0 rfl Vm Vv (λh G Q E⟨_,_,_,_,e,_⟩=>by rw[e];rfl) (nN T (Jo T) (Yr _)) λh G Q E j q=>?_;obtain⟨fs,gs,o,p,rfl,h1,h2,q⟩:=q;have h1:=(Es h1).2;have h2:=(Es h2).2;refine⟨(fs,o),⟨rfl,by dsimp only;lia⟩,λp1 c=>⟨fs.names,CJ Ak,by lia,(gs,p),⟨rfl,by dsimp only;lia⟩,λp2 d=>?_⟩⟩;refine⟨gs.names,CJ Ak,by lia,λzs r i l k b=>?_⟩;have f:r≠p2:=λe=>by subst e;rw[Ak]at b;cases b
 rw[Az f]at b;have g:r≠p1:=λe=>by subst e;rw[Ak]at b;cases b
 rw[Az g]at b;exact j _ _ _ ((Bh (AA c) d).put2) (q zs r ⟨i,k⟩ b)
noncomputable abbrev Et(n:Nat):Spw:=spR (λ(x:Kd×Kd)ws _=>ws=[x.1.enc,x.2.enc]/\x.1.ok=true/\x.2.ok=true/\x.1.dp<=n) λx=>.bl (A6 n x.1 x.2)
noncomputable abbrev Vw(n:Nat):Spw:=spR (λ(x:En×En)ws _=>ws=[x.1.enc,x.2.enc]/\∀ m k m' k',x.1=.told m k->x.2=.told m' k'->k.ok=true/\k'.ok=true/\k.dp<=n) λx=>.bl (Er (A6 n) x.1 x.2)
theorem Jt(T:Tx K mg base a)(D:Df P w K mg base "is_less" j 2 (Et n)):Df P w K mg base "is_less_entry" (j+1) 2 (Vw n):=by
 refine mk0 T.i1 rfl Vo Bb (λd G Q E⟨x,⟨e,_⟩,_⟩=>by rw[e];rfl) (nP T D (Yr _)) λd G Q E i q=>?_;obtain⟨⟨x,y⟩,⟨rfl,h⟩,q⟩:=q;cases x with
 | free=>exact Eq.mpr (by kernel_rfl) q
 | nope =>
  cases y with
  | free|nope=>exact Eq.mpr (by kernel_rfl) q
  | told m k=>cases m <;> exact Eq.mpr (by kernel_rfl) q
 | told m k =>
  cases y with
  | free|nope=>cases m <;> exact Eq.mpr (by kernel_rfl) q
  | told c b =>
   obtain⟨f,g,hd⟩:=h m k c b rfl rfl;have o:∀ z,Q (.bl (A6 n k b)) G->Et n [k.enc,b.enc] G Q z:=λz q=>⟨(k,b),⟨rfl,f,g,hd⟩,q⟩;cases m <;> cases c
   ·exact Eq.mpr (by kernel_rfl) (o (λ_ _=>False) q)
   ·exact Eq.mpr (by kernel_rfl) q
   ·exact Eq.mpr (by kernel_rfl) q
   ·exact Eq.mpr (by kernel_rfl) (o (λ_ _=>False) q)
theorem Vx{α:Type}{f:α->Bool}{l:List α}:Be [.ref p] (put G p (.lst (l.map λx=>.bl (f x))))=some (.bl (l.all f)):=by
 rw[show(λx=>W.bl (f x))=W.bl∘f from rfl,<- YB];unfold Be;simp only [CJ Ak,Option.bind_some,F6,YD];rw[List.all_map];rfl
noncomputable abbrev nW(n:Nat):Spw:=spR (λ(x:Fs×Bool×Fs×Bool)ws _=>ws=[(Kd.row x.1 x.2.1).enc,(Kd.row x.2.2.1 x.2.2.2).enc]/\(Kd.row x.1 x.2.1).ok=true/\(Kd.row x.2.2.1 x.2.2.2).ok=true/\(Kd.row x.1 x.2.1).dp<=n+1) λx=>.bl (A6 (n+1) (.row x.1 x.2.1) (.row x.2.2.1 x.2.2.2))
theorem Vy(h:BothN fs gs zs)(a:(p&&!o)=false)(n:Nat):A6 (n+1) (.row fs o) (.row gs p)=zs.all λx=>Er (A6 n) (ent fs o x) (ent gs p x):=by
 show(!(p&&!o)&&(fs.names++gs.names).all λx=>Er (A6 n) (ent fs o x) (ent gs p x))=_;rw[a,Bool.eq_iff_iff];simp only[Bool.not_false,Bool.true_and,List.all_eq_true,Yz,h.2]
theorem Jv(T:Tx K mg base a)(hj:2<=j)(D:Df P w K mg base "is_less_entry" j 2 (Vw n)):Df P w K mg base "is_less_row" (j+1) 2 (nW n):=by
 refine mk0 T.i3 rfl Vq Bb (λws G Q E⟨x,⟨e,_⟩,_⟩=>by rw[e];rfl) (nR T (Jr T) hj (Js T) (by lia) D (Yr _)) λws G Q E hC q=>?_;obtain⟨⟨fs,o,gs,p⟩,⟨rfl,w1,w2,hd⟩,q⟩:=q;dsimp only at w1 w2 hd q;cases hop:(p&&!o)with
 | true =>
  have:p=true/\o=false:=by cases p <;> cases o <;> first | exact⟨rfl,rfl⟩| cases hop
  obtain⟨rfl,rfl⟩:=this;exact q
 | false =>
 refine C7 (λω' G'=>ω'=[some (Kd.row fs o).enc,some (Kd.row gs p).enc,none]/\G'=G) ?_ (λrst=>?_)
 ·rintro ω' G' ⟨rfl,rfl⟩;refine AG (⟨fs,gs,o,p,rfl,w1,w2,λzs r z1 z3=>?_⟩);have hzl:=z1.len w1 w2;walk_at "k4";refine E0 (f:=λx=>.bl (Er (A6 n) (ent fs o x) (ent gs p x))) Ak zs none [] (λx hx Q' q'=>?_) (by simp only[Yi];exact AZ (by lia)) λp1 hp1=>?_
  ·refine⟨(fs,o,x),rfl,(gs,p,x),rfl,(ent fs o x,ent gs p x),⟨rfl,λm k m' k' e1 e2=>?_⟩,q'⟩;have k1:=G0 e1;have:=D3 (k:=.row fs o) k1;exact⟨Co w1 _ k1,Co w2 _ (G0 e2),by lia⟩
  ·rw[Yw,Vx];rw[Vy z1 hop]at q;exact hC _ _ _ (Bh (AA z3) hp1) q
 ·have z:=rst _ _ ⟨rfl,rfl⟩;cases p <;> cases o <;> first | exact z | cases hop
theorem Vz{k:Kd}(h:k.hd=l.hd)(b:k≠.any)(a:k.hd≠"row")(n:Nat):A6 (n+1) k l=(k.kids.zip l.kids).all λp=>A6 n p.1 p.2:=by
 cases k <;> cases l <;> first | exact Qo rfl b | exact Qo rfl a | exact Qo h (by simp only[Kd.hd];decide)| rfl | exact(Bool.and_true _).symm | exact Ql (_&&·) (Bool.and_true _).symm
theorem VB(h:k.hd≠l.hd)(a:k≠.any)(n:Nat):A6 (n+1) k l=false:=by
 cases k <;> cases l <;> first | rfl | exact Qo rfl h | exact Qo rfl a
theorem VC{k:Kd}(h:k≠.any):(k.hd=="any")=false:=by
 cases k <;> first | exact Qo rfl h |(simp only[Kd.hd];decide)
theorem Gp{α:Type}{b c f:α->W}(a:gd G):∀(l:List α)(o o':Option W)(ys:List W),(∀ x∈l,∀ Q:Kw,Q (f x) G->ge [some (b x),some (c x)] G Q)->ys.length+l.length<=sizeLine->R (ys++l.map f) G->AU gd (AJ 0 1) AC ge R (l.map λx=>W.tup [b x,c x]) [o,o'] G ys
 | [],o,o',ys,_,_,r=>⟨a,by simpa using r⟩
 | x::l,o,o',ys,h,hl,r=>by
  refine⟨a,by simp only[Yg]at hl;lia,h x Ye _ (Gp a l _ _ (ys++[f x]) (λy d=>h y (Yd _ d)) ?_ ?_)⟩
  ·simp only[Yj,Yg,Yi]at hl ⊢;lia
  ·simpa[Yv]using r
theorem Zip(h:Q (.tup (xs.drop 1)) G):slA (.tup xs) (some 1) none G Q:=by
 show Q (.tup (Bz xs (some 1) none)) G;rw[Dy];exact h
theorem VD{k:Kd}(h:k.hd≠"row"):k.kids.length<=2:=by
 cases k <;> first | exact Qo rfl h | exact(by decide:2<=2)| exact(by decide:1<=2)| exact(by decide:0<=2)
theorem Nb{xs:List Kd}(b:gd G)(f:Kw.C Q)(hl:xs.length<=1000)(g:∀ p∈xs.zip ys,∀ a:Kw,a (.bl (A6 n p.1 p.2)) G->∀ z,sp [p.1.enc,p.2.enc] G a z)(q:Q (.bl ((xs.zip ys).all λp=>A6 n p.1 p.2)) G):AU gd (AJ 0 1) AC (Ag sp XF si) (λzs c=>∀ p,c p=none->opt (Be [.ref p] (put c p (.lst zs))) λv=>Q v (put c p (.lst zs))) (Bm (xs.map Kd.enc) (ys.map Kd.enc)) [none,none] G []:=by
 rw[HZ,List.zip_map,YB];refine Gp b (xs.zip ys) none none [] (λx d a e=>g x d a e _) (by have:=List.length_zip (l₁:=xs) (l₂:=ys);simp only[Yi];exact AZ (by lia)) λp h=>?_;rw[Yw,Vx];exact f _ _ _ (AA h) q
theorem C1(T:Tx K mg base a):∀ n:Nat,Df P w K mg base "is_less" (3*n+2) 2 (Et n)
 | 0=>BX T.Rr Bb λf G Q E⟨x,⟨_,_,_,h⟩,_⟩=>by have:=CV x.1;lia
 | n+1=>by
  have D:Df P w K mg base "is_less" (3*n+2) 2 (Et n):=C1 T n;have DE:=Jt T D;have DR:=Jv T (by lia) DE;refine mk0 T.Rr rfl Vs Bb (λf G Q E⟨x,⟨e,_⟩,_⟩=>by rw[e];rfl) (nT T DR (Yr _) D (by lia)) λf G Q E j q=>?_;obtain⟨⟨k,l⟩,⟨rfl,h1,h2,g⟩,q⟩:=q;dsimp only at h1 h2 g q;show Af (gIf _ _ Aj) _ (AH Q) [some k.enc,some l.enc] G;simp only[Af,gIf,gTB,Ad,Ae,Ab,gC,Yb,B2,Ao,Bi];by_cases c:k=.any
  ·subst c;exact q
  rw[VC c,if_neg (by decide)];simp only[Aj,Af,gIf,gTB,Ad,Ae,Ab,gC,Yb,Yc,B2,Ao,Bi];by_cases b:k.hd=l.hd;rotate_left
  ·rw[VB b c]at q;rw[show((k.hd==l.hd) != true)=true by simpa using b];exact q
  rw[show((k.hd==l.hd) != true)=false by simp[b],if_neg (by decide)];by_cases e:k.hd="row"
  ·obtain⟨fs,o,rfl⟩:=GL e;obtain⟨gs,p,rfl⟩:=GL (b.symm.trans e);exact⟨(fs,o,gs,p),⟨rfl,h1,h2,g⟩,q⟩
  ·rw[show(k.hd==("row":Str))=false by simpa using e,if_neg (by decide)];have s:=VD e;rw[Vz b c e]at q;rw[FQ e,FQ λz=>e (b.trans z)];simp only[Ai,gB,AM,BS,AE,Av,Au,Aa,Ab,gC];refine Zip (Zip ⟨k.kids.map Kd.enc,l.kids.map Kd.enc,rfl,Nb trivial j (by lia) (λp m t i z=>?_) q⟩);have d:=List.of_mem_zip m;have r:=D3 d.1;exact⟨p,⟨rfl,Co h1 _ d.1,Co h2 _ d.2,by lia⟩,i⟩
noncomputable abbrev VE:List Str:=["state","kind","deep","way","fields","name","mark","inner","pick"]
theorem VF:Ay VE ["state","kind","deep"] (Ap Mc):=by walk_at "s"
abbrev sD:=Aa ef (Aa (gC (.int 8)) Ac)
abbrev sv:=Aa (Ad (Ar (λ_ _=>True) λi j=>i - j) kw dl) Ac
noncomputable def nX(Aq:Spw)(AY:Spw)(Dq:Spw):GS:=(Af (Al 3 (Ag Aq XF sD)) (Af (gIf (gTB (Ad (Ae (eqF false)) sm eq)) (Ai na) Aj) (Af (gIf (gTB (Ad (Ae (eqF false)) sm dl)) (Ai (Ag AY XF (Aa ef rM))) Aj) (Af (gIf (gTB (Ad (Ae (inF false)) on (An (Aa sU (Aa sR Ac))))) (Ai (Ad (Aw) (Ah (Aa on Ac)) (gB (rF Bv) (Aa (Bd (Ax (AE f4 (Av dl) Au)) 1 [0,2] (gNm 0) AC (Ag Dq XF (Aa f4 (Aa ef sv)))) Ac)))) Aj) (Af (gIf (gTB (Ad (Ae (eqF true)) on rQ)) (Ai f4) Aj) (Af (Al 4 (An Ac)) (Af (AN (DW sj) (CT 5 6 7) (Af (Al 8 (Ag Aq XF sD)) (Af (gIf (gTB (Ad (Ae (eqF false)) (Ab 8) eq)) (Al 6 (Ad (Ae ixW) rX (Ag Aq XF (Aa ef sx)))) Aj) (gIf (gTB (Ad (Ae (eqF true)) (Ab 8) dl)) (AD (gMt AQ A2 se (Aa (Ah (Aa sG (Aa sF (Aa (Ag Dq XF (Aa ef (Aa (Ab 7) sv))) Ac)))) Ac))) Aj)))) (Ai (Ah (Aa rQ (Aa (gB (rF Bv) sN) (Aa (Ad (Ae (eqF true)) su (Ad (Ae (eqF false)) (Ag Aq XF (Aa ef (Aa (gC (.int 5)) Ac))) eq)) Ac))))))))))))
theorem nY(T:Tx K mg base a){AO:Nat}(Dh:Df P w K mg base "_law_take" AO 2 Aq)(Di:AO<=k){Bp:Nat}(GN:Df P w K mg base "_law_kind" Bp 2 AY)(GP:Bp<=k)(nZ:Df P w K mg base "_law_near" Eu 3 Dq)(n0:Eu<=k):Dn P w K mg base VE "_law_near" Mc k (nX Aq AY Dq):=by
 have hN:=VF.nd;walk_at "z"
abbrev VG:List Str:=["kind","names","told","rest"]
theorem VH:Ay VG ["kind","names"] (Ap Me):=by walk_at "s"
noncomputable def VI:GS:=(Af (Al 2 (gB (HP) (Aa (AM (Ax hH) 1 (gNm 0) AC (Ah (Aa ad (Aa r6 Ac)))) Ac))) (Af (Al 3 (Ad (Ae ixW) (An (Aa (Ah (Aa (gC (.str "none")) Ac)) (Aa sy Ac))) (gB (rF CS) (Aa rL Ac)))) (Ai (Bd (Ax f4) 1 [2,3] (gNm 0) AC (gMt ET ES f4 (Aa ef rM))))))
theorem n4(T:Tx K mg base a):Dn P w K mg base VG "_law_entries" Me k (VI):=by
 have hN:=VH.nd;walk_at "z"
abbrev VJ:List Str:=["one","other"]
theorem VL:Ay VJ ["one","other"] (Ap Mf):=by walk_at "s"
noncomputable def n5:GS:=(Ai (K3 (AM (Ax (Ad (Aw) hH sj)) 1 (gNm 0) AC ad)))
theorem n6(T:Tx K mg base a):Dn P w K mg base VJ "_law_names" Mf k (n5):=by
 have hN:=VL.nd;walk_at "z"
abbrev VM:List Str:=["one","other","names","a","b"]
theorem VN:Ay VM ["one","other"] (Ap Mg):=by walk_at "s"
noncomputable def n7(Dr:Spw)(Jx:Spw)(Ha:Spw):GS:=(Af (gIf (gTB (Ad (Ae (eqF false)) ef na)) (Ai rY) Aj) (Af sB (Af (gIf (gTB (Ad (Ae (eqF true)) ad rQ)) (Ai (gB (rF Be) (Aa (AM (BS (Aa r6 (Aa (AE f4 (Av dl) Au) Ac))) 2 (AJ 0 1) AC (Ag Dr XF si)) Ac))) Aj) (Af (gIf (AF (AI su) (gNt (AI rL))) le Aj) (Af (Al 2 (Ag Jx XF si)) (Af (AN (B8 (Aa (Ag Ha XF (Aa ef rM)) (Aa (Ag Ha XF (Aa f4 rM)) Ac))) (AJ 3 4) (Af (gIf (AF (gTB (Ad (Ae (eqF true)) sm sy)) (gTB (Ad (Ae (eqF true)) (Ad (Ae ixW) sm eq) (Ad (Ae ixW) se eq)))) le Aj) (gIf (AF (gTB (Ad (Ae (eqF false)) (gB (rF AK) rK) h8)) (gNt (AI (Ag Dr XF (Aa (Ad (Ae ixW) sm dl) (Aa (Ad (Ae ixW) se dl) Ac)))))) le Aj))) (Ai rY)))))))
theorem n8(T:Tx K mg base a)(n9:Df P w K mg base "_law_less" Ex 2 Dr)(oa:Ex<=k)(rp:Df P w K mg base "_law_names" Jy 2 Jx)(rq:Jy<=k)(rr:Df P w K mg base "_law_entries" Jz 2 Ha)(rs:Jz<=k):Dn P w K mg base VM "_law_less" Mg k (n7 Dr Jx Ha):=by
 have hN:=VN.nd;walk_at "z"
theorem Jy(T:Tx K mg base a):Df P w K mg base "_law_names" 1 2 Jw:=by
 refine mk0 T.j2 rfl VL Vv (λh G Q E⟨_,_,_,_,e,_⟩=>by rw[e];rfl) (n6 T) λh G Q E l q=>?_;obtain⟨fs,gs,o,p,rfl,h1,h2,q⟩:=q;have u:fs.enc.length<=7:=by rw[<- Ec];exact(Es h1).2
 have t:gs.enc.length<=7:=by rw[<- Ec];exact(Es h2).2
 refine⟨AZ (by lia),Cz (f:=Eb) trivial (fs.enc++gs.enc) none [] (λx s y j=>?_) (by simp only[Yi,Yj];exact AZ (by lia)) ?_⟩
 ·have:∃ n b k,x=.tup [.str n,.str (Bc b),k]:=(Yz.mp s).elim FL FL;obtain⟨n,b,k,rfl⟩:=this;exact j
 ·intro p1 d;rw[Yy,Gv,Gv,<- Yy];refine⟨fs.names++gs.names,CJ Ak,by rw[Yj,Ec,Ec];lia,λzs r i v m c=>?_⟩;have g:r≠p1:=λe=>by subst e;rw[Ak]at c;cases c
  rw[Az g]at c;exact l _ _ _ ((AA d).put2) (q zs r ⟨i,λx=>by rw[m,Yz]⟩ c)
noncomputable def VO(x:W):W:=match x with | .tup [n,m,k]=>.tup [n,.tup [m,k]]| _=>.non
noncomputable def DJ:Fs->List (Str×W)
 | .nil=>[]
 | .cons n m k r=>(n,.tup [.str (Bc m),k.enc])::DJ r
theorem VP:∀ fs:Fs,fs.enc.map VO=(DJ fs).map λy=>W.tup [.str y.1,y.2]
 | .nil=>rfl
 | .cons n m k r=>Ql (_::·) (VP r)
theorem VQ:∀ fs:Fs,(DJ fs).map (·.1)=fs.names
 | .nil=>rfl
 | .cons n m k r=>Ql (_::·) (VQ r)
theorem VR:∀ fs:Fs,BA ((DJ fs).map λy=>((Sum.inr y.1:Key),y.2)) x (if o then En.free else En.nope).enc=(ent fs o x).enc
 | .nil=>rfl
 | .cons n m k r=>by
  have a:=VR (o:=o) (x:=x) r;show BA (((Sum.inr n:Key),W.tup [.str (Bc m),k.enc])::(DJ r).map λy=>((Sum.inr y.1:Key),y.2)) x _=_;unfold ent at a ⊢;unfold Fs.find;rw[DY];by_cases h:n=x
  ·subst h;rw[if_pos rfl,if_pos rfl];rfl
  ·rw[if_neg (λz=>h (Sum.inr.inj z)),if_neg h,a]
noncomputable abbrev Nd:Spw:=spL (λ(x:Fs×Bool×Addr×List Str)ws G=>ws=[(Kd.row x.1 x.2.1).enc,.ref x.2.2.1]/\G x.2.2.1=some (.lst (x.2.2.2.map W.str))/\(Kd.row x.1 x.2.1).ok=true/\x.2.2.2.length<=100) λx=>x.2.2.2.map λz=>(ent x.1 x.2.1 z).enc
theorem Jz(T:Tx K mg base a):Df P w K mg base "_law_entries" 1 2 Nd:=by
 refine mk0 T.j1 rfl VH BU (λws G Q E⟨x,⟨e,_⟩,_⟩=>by rw[e];rfl) (n4 T) λws G Q E hC q=>?_;obtain⟨⟨fs,o,p,zs⟩,⟨rfl,hp,hn,hz⟩,q⟩:=q;dsimp only at hp hn hz q;have hn:=Es hn;have l1:fs.enc.length<=7:=by rw[<- Ec];exact hn.2
 unfold VI;simp only[Kd.enc];walk_at "rd";refine Cz (f:=VO) trivial fs.enc none [] (λx hx Q' q'=>?_) (by simp only[Yi];exact AZ (by lia)) ?_
 ·obtain⟨n,b,k,rfl⟩:=FL hx;walk_at "k3";exact Zip ⟨(Qzz 2),q'⟩
 ·intro p1 hp1;rw[Yw,VP];refine⟨p1,DJ fs,rfl,Ak,by rw[VQ];exact hn.1,λd hd=>⟨by decide,by decide,by decide,λp3 hp3=>?_⟩⟩;generalize hG:put (put G p1 (.lst ((DJ fs).map λy=>W.tup [.str y.1,y.2]))) d (.dct ((DJ fs).map λy=>((Sum.inr y.1:Key),y.2)))=G2 at hp3;have gd:G2 d=some (.dct ((DJ fs).map λy=>((Sum.inr y.1:Key),y.2))):=by rw[<- hG];exact Ak
  have hs:Sub G G2:=by rw[<- hG];exact Bh (AA hp1) hd
  have g3d:=AA (o:=.lst [.tup [.str "none"],.tup [.str "free"]]) hp3 _ _ gd;have hs3:=Bh (o:=.lst [.tup [.str "none"],.tup [.str "free"]]) hs hp3;have g3:=hs3 _ _ hp;have ei:CS [.bl o]=λ_=>some (.int (if o then 1 else 0)):=rfl
  have ea:atI [W.tup [.str "none"],.tup [.str "free"]] (if o then 1 else 0)=some (if o then En.free else En.nope).enc:=by
   cases o
   ·exact Bg
   ·exact Bx
  simp only[Ak,ea,g3];refine E0 (f:=λx=>(ent fs o x).enc) g3 zs none [] (λx hx Q' q'=>?_) (by simp only[Yi];exact AZ (by lia)) λr hr=>?_
  ·refine⟨⟨d,_,rfl,g3d⟩,d,_,x,_,rfl,rfl,g3d,?_⟩;rw[VR];exact q'
  ·have hG:G r=none:=by
    cases e:G r with
    | none=>rfl
    | some u=>have:=hs3 r u e;rw[hr]at this;cases this
   exact hC _ _ _ hs3.put2 (q r hG)
theorem oe{k:Kd}(hd:k.dp<=20)(G:Hw):eqF true (.tup [.str (Bc m),k.enc]) (.tup [.str "free"]) G=some (.bl true):=by
 have h:=DF k;show Option.map _ (if max 0 (max (dpW k.enc) 0) < 90 then A1 [.str (Bc m),k.enc] [.str "free"]else none)=_;rw[if_pos (by lia)];show Option.map _ (match some (Bc m=="free"),some false with | some a,some b=>some (a&&b)| _,_=>none)=_;simp
noncomputable abbrev gL1:GS:=gIf (AF (gTB (Ad (Ae (eqF true)) sm sy)) (gTB (Ad (Ae (eqF true)) (Ad (Ae ixW) sm eq) (Ad (Ae ixW) se eq)))) le Aj
noncomputable abbrev gL2(sp:Spw):GS:=gIf (AF (gTB (Ad (Ae (eqF false)) (gB (rF AK) rK) h8)) (gNt (AI (Ag sp XF (Aa (Ad (Ae ixW) sm dl) (Aa (Ad (Ae ixW) se dl) Ac)))))) le Aj
theorem og{a:En}(hk:∀ m k m' k',a=.told m k->b=.told m' k'->k.ok=true/\k'.ok=true/\k.dp<=n)(h20:∀ m k,a=.told m k->k.dp<=20)(h:∀ c,Er (A6 n) a b=c->if c then D.nx [x0,x1,x2,some a.enc,some b.enc] G else D.rt (.bl false) G):
  Af gL1 (gL2 (Et n)) D [x0,x1,x2,some a.enc,some b.enc] G:=by
 cases a with
 | free=>cases b <;> exact Eq.mpr (by kernel_rfl) (And.intro (Qzz 1) (h true rfl))
 | nope =>
  cases b with
  | free=>exact Eq.mpr (by kernel_rfl) (And.intro (Qzz 1) (h false rfl))
  | nope=>exact Eq.mpr (by kernel_rfl) (And.intro (Qzz 1) (h true rfl))
  | told m k=>cases m <;> exact Eq.mpr (by kernel_rfl) (And.intro (Qzz 1) (h false rfl))
 | told m k =>
  have ef:=oe (m:=m) (h20 m k rfl) G;simp only[Af,gIf,AF,gTB,Ad,Ae,Ah,En.enc];refine⟨by decide,?_⟩;rw[ef];cases b with
  | free|nope=>cases m <;> exact Eq.mpr (by kernel_rfl) (h false rfl)
  | told m' k' =>
   by_cases hm:m=m'
   ·subst hm;have e:Er (A6 n) (.told m k) (.told m k')=A6 n k k':=by show(m==m&&A6 n k k')=_;simp
    walk_at "k4";rw[show((Bc m==Bc m) != true)=false by simp];refine⟨(k,k'),⟨rfl,hk _ _ _ _ rfl rfl⟩,?_⟩;have z:=h _ e;dsimp only;cases e2:A6 n k k' with
    | true|false=>rw[e2]at z;exact z
   ·cases m <;> cases m' <;> first | exact Qo rfl hm | exact Eq.mpr (by kernel_rfl) (h false rfl)
theorem VS{b d:Str->En}(a:gd G):∀(zs:List Str)(o3 o4:Option W),(∀ x∈zs,(∀ m k o f,b x=.told m k->d x=.told o f->k.ok=true/\f.ok=true/\k.dp<=n)/\∀ m k,b x=.told m k->k.dp<=20)->(∀ c,zs.all (λx=>Er (A6 n) (b x) (d x))=c->if c then ∀ o3 o4,D.nx [some k0,some g,some nm,o3,o4] G else D.rt (.bl false) G)->
  A9 gd (AJ 3 4) (Af gL1 (gL2 (Et n))) D (zs.map λx=>W.tup [(b x).enc,(d x).enc]) [some k0,some g,some nm,o3,o4] G
 | [],o3,o4,_,h=>⟨a,h true rfl o3 o4⟩
 | x::zs,o3,o4,i,h=>by
  refine⟨a,?_⟩;obtain⟨p,j⟩:=i x Ye;refine og p j λc e=>?_;cases c with
  | true=>exact VS a zs _ _ (λy l=>i y (Yd _ l)) λc z=>h c (by rw[List.all_cons,e,z];rfl)
  | false=>exact h false (by rw[List.all_cons,e];rfl)
theorem oh{k:Kd}{rest:GS}(hd:k.dp<=20)(d:ω[0]?=some (some k.enc))(h:k=.any->e ω G D.rt)(h':k≠.any->rest D ω G):
  Af (gIf (gTB (Ad (Ae (eqF false)) ef na)) (Ai e) Aj) rest D ω G:=by
 have eb:=Up hd G;simp only[Af,gIf,gTB,Ad,Ae,Ab,d,Ah];refine⟨by decide,?_⟩;unfold eqF at eb ⊢;cases z:eqW k.enc (.tup [.str "any"]) G with
 | none=>rw[z]at eb;cases eb
 | some b =>
  rw[z]at eb;have a:(b != true)=!decide (k.hd="any"):=by injection eb with eb;injection eb
  by_cases c:k=.any
  ·subst c;rw[show b=true by cases b with | true=>rfl | false=>cases a];exact h rfl
  ·have:=VC c;rw[show b=false by cases b with | false=>rfl | true=>rw[show decide (k.hd="any")=false by simpa using this]at a;cases a];exact h' c
theorem oi(l:Kw.C Q)(e:(Kd.row fs o).ok=true)(f:(Kd.row gs p).ok=true)(hd:(Kd.row fs o).dp<=n+1)(w:n<=19)(hop:(p&&!o)=false)(q:Q (.bl (A6 (n+1) (.row fs o) (.row gs p))) G):
  Af (Al 2 (Ag Jw XF si)) (Af (AN (B8 (Aa (Ag Nd XF (Aa ef rM)) (Aa (Ag Nd XF (Aa f4 rM)) Ac))) (AJ 3 4) (Af gL1 (gL2 (Et n)))) (Ai rY)) (AH Q) [some (Kd.row fs o).enc,some (Kd.row gs p).enc,none,none,none] G:=by
 simp only[Af,Al,Aa,Ac,AN,B8];refine⟨fs,gs,o,p,rfl,e,f,λzs r h t=>?_⟩;have s:=h.len e f;refine⟨(fs,o,r,zs),⟨rfl,Ak,e,by dsimp only;lia⟩,λp1 b=>⟨(gs,p,r,zs),⟨rfl,AA b _ _ Ak,f,by dsimp only;lia⟩,λp2 d=>?_⟩⟩;have a:=Bh (o:=.lst (zs.map λz=>(ent gs p z).enc)) (Bh (AA t) b) d
 have r1:rdL (put (put (put G r (.lst (zs.map W.str))) p1 (.lst (zs.map λz=>(ent fs o z).enc))) p2 (.lst (zs.map λz=>(ent gs p z).enc))) (.ref p1)=some (zs.map λz=>(ent fs o z).enc):=by
  unfold rdL;simp only[AA d _ _ Ak]
 have j:rdL (put (put (put G r (.lst (zs.map W.str))) p1 (.lst (zs.map λz=>(ent fs o z).enc))) p2 (.lst (zs.map λz=>(ent gs p z).enc))) (.ref p2)=some (zs.map λz=>(ent gs p z).enc):=by
  unfold rdL;simp only[Ak]
 rw[Vy h hop]at q;simp only[r1,j];rw[show Bm (zs.map λz=>(ent fs o z).enc) (zs.map λz=>(ent gs p z).enc)=zs.map λx=>W.tup [(ent fs o x).enc,(ent gs p x).enc] by rw[HZ,List.zip_map',YB];rfl];refine VS ⟨r1,j⟩ zs none none (λx A=>⟨λm k y v g u=>?_,λm k g=>?_⟩) λc z=>?_
 ·have i:=G0 g;have:=D3 (k:=.row fs o) i;exact⟨Co e _ i,Co f _ (G0 u),by lia⟩
 ·have:=D3 (k:=.row fs o) (G0 g);lia
 ·rw[z]at q;cases c with
  | true=>exact λ_ _=>l _ _ _ a q
  | false=>exact l _ _ _ a q
theorem Ex(T:Tx K mg base a):∀ n:Nat,n<=20->Df P w K mg base "_law_less" (n+1) 2 (Et n)
 | 0,_=>BX T.RD Bb λi G Q E⟨x,⟨_,_,_,h⟩,_⟩=>by have:=CV x.1;lia
 | n+1,u=>by
  have D:Df P w K mg base "_law_less" (n+1) 2 (Et n):=Ex T n (by lia);refine mk0 T.RD rfl VN Bb (λi G Q E⟨x,⟨e,_⟩,_⟩=>by rw[e];rfl) (n8 T D (Yr _) (Jy T) (by lia) (Jz T) (by lia)) λi G Q E j q=>?_;obtain⟨⟨k,l⟩,⟨rfl,f,g,hd⟩,q⟩:=q;dsimp only at f g hd q;show Af (gIf _ _ Aj) _ (AH Q) [some k.enc,some l.enc,none,none,none] G;refine oh (by lia) rfl (λc=>?_) (λc=>?_)
  ·subst c;exact q
  simp only[Af,gIf,gTB,Ad,Ae,Ab,gC,Yb,Yc,B2,Ao,Bi];by_cases b:k.hd=l.hd;rotate_left
  ·rw[VB b c]at q;rw[show((k.hd==l.hd) != true)=true by simpa using b];exact q
  rw[show((k.hd==l.hd) != true)=false by simp[b],if_neg (by decide)];simp only[Aj,Af,gIf,gTB,Ad,Ae,Ab,gC,Yb,B2,Ao,Bi];by_cases e:k.hd="row"
  ·obtain⟨fs,o,rfl⟩:=GL e;obtain⟨gs,p,rfl⟩:=GL (b.symm.trans e);cases hop:(p&&!o)with
   | true =>
    have:p=true/\o=false:=by cases p <;> cases o <;> first | exact⟨rfl,rfl⟩| cases hop
    obtain⟨rfl,rfl⟩:=this;exact Eq.mpr (by kernel_rfl) q
   | false =>
    have z:=oi j f g hd (by lia) hop q;cases p <;> cases o <;> first | exact Qo hop (by decide)| exact Eq.mpr (by kernel_rfl) z
  ·rw[show(k.hd==("row":Str))=false by simpa using e,show(false != true)=true from rfl,if_pos rfl];have t:=VD e;rw[Vz b c e]at q;rw[FQ e,FQ λz=>e (b.trans z)];simp only[Ai,gB,AM,BS,AE,Av,Au,Aa,Ab,gC];refine Zip (Zip ⟨k.kids.map Kd.enc,l.kids.map Kd.enc,rfl,Nb trivial j (by lia) (λp r v m z=>?_) q⟩);have d:=List.of_mem_zip r;have s:=D3 d.1;exact⟨p,⟨rfl,Co f _ d.1,Co g _ d.2,by lia⟩,m⟩
noncomputable abbrev VT(n:Nat):Spw:=C5 (λ(x:Kd×Int)s ws _=>ws=[.ref s,x.1.enc,.int x.2]/\x.1.ok=true/\x.1.dp<=n/\x.2<=1) λx _ r _=>∃ k:Kd,r=k.enc/\KdOk (max x.1.cnt (kc x.2.toNat)) (max x.1.dp (x.2.toNat+1)) k
noncomputable abbrev gNA(n:Nat):GS:=gIf (gTB (Ad (Ae (eqF true)) (Ab 8) dl)) (AD (gMt AQ A2 se (Aa (Ah (Aa sG (Aa sF (Aa (Ag (VT n) XF (Aa ef (Aa (Ab 7) sv))) Ac)))) Ac))) Aj
noncomputable abbrev gNB(n:Nat):GS:=Af (Al 8 (Ag BM XF sD)) (Af (gIf (gTB (Ad (Ae (eqF false)) (Ab 8) eq)) (Al 6 (Ad (Ae ixW) rX (Ag BM XF (Aa ef sx)))) Aj) (gNA n))
noncomputable def NL(d:Nat)(l' l:List Fd):Prop:=(l'.map (·.1)).Sublist (l.map (·.1))/\cF l'<=cF l/\∀ x∈l',x.2.2.ok=true/\x.2.2.dp<=d
theorem Nf(hi:i<=1)(hps:p≠s):∀(l acc:List Fd)(o5 o6 o7 o8:Option W)(G:Hw),G p=some (.lst (acc.map Bs))->St s G->acc.length+l.length<=1000->(∀ x∈l,x.2.2.ok=true/\x.2.2.dp<=n/\x.2.2.dp<=d)->
  (∀(l':List Fd)o5 o6 o7 o8 G',NL d l' l->G' p=some (.lst ((acc++l').map Bs))->Hs2 s p G G'->D.nx [some (.ref s),w1,some (.int i),w3,some (.ref p),o5,o6,o7,o8] G')->
  A9 yes (CT 5 6 7) (gNB n) D (l.map Bs) [some (.ref s),w1,some (.int i),w3,some (.ref p),o5,o6,o7,o8] G
 | [],acc,o5,o6,o7,o8,G,hp,hs,_,_,fin=>⟨trivial,fin [] o5 o6 o7 o8 G ⟨List.nil_sublist _,Yr _,λx hx=>by cases hx⟩ (by rw[Yx];exact hp) (Hs.refl hs).two⟩
 | x::l,acc,o5,o6,o7,o8,G,hp,hs,hl,hx,fin=>by
  rw[Yg]at hl;obtain⟨x1,x2,x3⟩:=hx x Ye;have hx':=λy hy=>hx y (Yd _ hy);refine⟨trivial,AG ?_⟩;walk_at "k0";refine Bj (by decide) (by decide) hs λr G1 r0 r4 hg=>?_
  have key:∀(b:Bool)(G2:Hw),Hs s G G2->gNA n ⟨A9 yes (CT 5 6 7) (gNB n) D (l.map Bs),D.rt,D.nx,A9 yes (CT 5 6 7) (gNB n) D (l.map Bs)⟩ [some (.ref s),w1,some (.int i),w3,some (.ref p),some (.str x.1),some (.str (Bc b)),some x.2.2.enc,some (.int r)] G2:=λb G2 hg2=>by
   have hp2:=hg2.2 p hps _ hp;refine Bk (λ_=>?_) (λ_=>?_)
   ·walk_at "k3";refine⟨BW hp2,trivial,(x.2.2,i - 1),s,⟨rfl,x1,x2,by lia⟩,hg2.1,λk' G3 hk hg3=>?_⟩;obtain⟨k,rfl,k1,k2,k3⟩:=hk;have e0:(i - 1).toNat=0:=by lia
    dsimp only at k2 k3;rw[e0]at k2 k3;have:=D2 x.2.2;have:=CV x.2.2;have e1:kc 0=1:=rfl;have hg4:=hg2.trans hg3;have hp3:=hg4.2 p hps _ hp;refine⟨(Qzz 3),CC hp3 (by rw[Yh];exact Bf (by lia)) (Nf hi hps l (acc++[(x.1,b,k)]) _ _ _ _ _ (by rw[Yy];exact Ak) (Hs2.set hg4.1 hps).1 (by rw[Yj];simp only[Yg,Yi];lia) hx' λl' o5 o6 o7 o8 G' l1 l3 l4=>?_)⟩;refine fin ((x.1,b,k)::l') o5 o6 o7 o8 G' ⟨.cons₂ _ l1.1,?_,λy hy=>?_⟩ (by rw[l3,Yv];rfl) ((hg4.two).trans ((Hs2.set hg4.1 hps).trans l4))
    ·have:=l1.2.1;show k.cnt+cF l'<=x.2.2.cnt+cF l;lia
    ·rcases Yo.mp hy with rfl | hy
     ·exact⟨k1,by show k.dp<=d;lia⟩
     ·exact l1.2.2 y hy
   ·exact Nf hi hps l acc _ _ _ _ G2 hp2 hg2.1 (by lia) hx' λl' o5 o6 o7 o8 G' l1 l3 l4=>fin l' o5 o6 o7 o8 G' ⟨.cons _ l1.1,by have:=l1.2.1;show cF l'<=x.2.2.cnt+cF l;lia,l1.2.2⟩ l3 (hg2.two.trans l4)
  refine Bk (λ_=>?_) (λ_=>?_)
  ·simp only[Al,Ad,Ag,Ab,gC,Aa,Ac];refine⟨by decide,λz hz=>Bj (by decide) (by decide) (hg.1.put hz) λv G2 v0 v4 hg2=>?_⟩;obtain⟨y,hy,e⟩:=Do (hg2.2 z (λe=>Hs.ne hg.1 hz e) _ Ak) v0 (by omega);rw[Ae,e]
   have hy':∃ b,y=.str (Bc b):=by
    simp only[Yo,Qa,or_false]at hy;rcases hy with rfl | rfl
    ·exact⟨true,rfl⟩
    ·exact⟨false,rfl⟩
   obtain⟨b,rfl⟩:=hy';exact key b G2 ((hg.put hz).trans hg2)
  ·exact key x.2.1 G1 hg
theorem VU:∀ l:List Fd,(∀ x∈l,AB x.1=true/\x.2.2.ok=true/\x.2.2.dp<=d)->(ofL l).ok=true/\(ofL l).cnt=cF l/\(ofL l).dp<=d
 | [],_=>⟨rfl,rfl,YV _⟩
 | x::l,h=>by
  obtain⟨h1,h2,b⟩:=VU l λy a=>h y (Yd _ a);obtain⟨g1,g2,g3⟩:=h x Ye;refine⟨?_,?_,?_⟩
  ·show(AB x.1&&x.2.2.ok&&(ofL l).ok)=true;rw[g1,g2,h1];rfl
  ·show x.2.2.cnt+(ofL l).cnt=x.2.2.cnt+cF l;rw[h2]
  ·show max x.2.2.dp (ofL l).dp<=d;lia
theorem Ng{i:Int}{k a:Kd}(hi:i<=1)(h:KdOk (max k.cnt (kc (i - 1).toNat)) (max k.dp ((i - 1).toNat+1)) a):KdOk k.cnt k.dp a:=by
 have b:(i - 1).toNat=0:=by lia
 have c:kc 0=1:=rfl;rw[b]at h;exact h.mono (by have:=D2 k;lia) (by have:=CV k;lia)
theorem Eu(T:Tx K mg base a):∀ n:Nat,Df P w K mg base "_law_near" (n+3) 3 (VT n)
 | 0=>BX T.RC BN λws G Q E⟨x,s,⟨_,_,hd,_⟩,_⟩=>by have:=CV x.1;lia
 | n+1=>by
  refine mk0 T.RC rfl VF BN (λws G Q E⟨k,s,⟨e,_⟩,_⟩=>by rw[e];rfl) (nY T (AO T) (by lia) (Bp T 2) (by lia) (Eu T n) (Yr _)) λws G Q E hC q=>?_;obtain⟨⟨k,i⟩,s,⟨rfl,ho,hd,hi⟩,hs,q⟩:=q;dsimp only at ho hd hi q;show Af (Al 3 _) _ (AH Q) [some (.ref s),some k.enc,some (.int i),none,none,none,none,none,none] G;refine AG ?_;walk_at "k0";refine Bj (by decide) (by decide) hs λr G1 r0 r8 hg=>Bk (λ_=>?_) (λ_=>?_)
  ·exact⟨by decide,q _ _ ⟨.any,rfl,rfl,by have:=D2 k;show 1<=_;lia,by show 1<=_;lia⟩ hg⟩
  refine Bk (λ_=>?_) (λ_=>?_)
  ·refine⟨i,s,⟨rfl,by lia⟩,hg.1,λr G2⟨k',e,h⟩hg2=>q _ _ ⟨k',e,h.mono (by lia) (by lia)⟩ (hg.trans hg2)⟩
  simp only[Aj,Af,gIf,gTB,Ad,Ab,An,Ae,gC,Aa,Ac,Yb,Yc,B2,Ao];refine⟨by decide,λp hp=>?_⟩;rw[GU ["to","box"] k.hd (xs:=[.str "to",.str "box"]) Ak rfl,Ao];have hg1:=hg.put (o:=.lst [.str "to",.str "box"]) hp;generalize put G1 p (.lst [.str "to",.str "box"])=G2 at hg1 ⊢;have out:k.hd≠"row"->Q k.enc G2:=λ_=>q _ _ ⟨k,rfl,ho,by lia,by lia⟩ hg1;cases k with
  | any|num|truth=>exact Eq.mpr (by kernel_rfl) (out (by decide))
  | to x y =>
   have ho':(x.ok&&y.ok)=true:=ho;simp only[YF]at ho';have hd':1+max x.dp y.dp<=n+1:=hd;walk_at "k4";refine⟨by decide,Dl (⟨trivial,by decide,trivial,(x,i - 1),s,⟨rfl,ho'.1,by dsimp only;lia,by lia⟩,hg1.1,λx' G3 hx' hg2=>?_⟩)⟩;obtain⟨x',rfl,hx'⟩:=hx';obtain⟨a1,a2,a3⟩:=Ng (k:=x) hi hx';refine⟨trivial,(show 1 < sizeLine by decide),trivial,(y,i - 1),s,⟨rfl,ho'.2,by dsimp only;lia,by lia⟩,hg2.1,λy' G4 hy' hg3=>?_⟩;obtain⟨y',rfl,hy'⟩:=hy';obtain⟨b1,b2,b3⟩:=Ng (k:=y) hi hy';refine⟨trivial,λp2 hp2=>?_⟩;rw[Dp Ak,Ao,PN];refine⟨(Qzz 3),q _ _ ⟨.to x' y',rfl,?_,?_,?_⟩ (((hg1.trans hg2).trans hg3).put hp2)⟩
   ·show(x'.ok&&y'.ok)=true;rw[a1,b1];rfl
   ·show 1+(x'.cnt+y'.cnt)<=max (1+(x.cnt+y.cnt)) _;lia
   ·show 1+max x'.dp y'.dp<=max (1+max x.dp y.dp) _;lia
  | box x =>
   have hd':1+x.dp<=n+1:=hd;walk_at "k4";refine⟨by decide,Dl (⟨trivial,by decide,trivial,(x,i - 1),s,⟨rfl,ho,by dsimp only;lia,by lia⟩,hg1.1,λx' G3 hx' hg2=>?_⟩)⟩;obtain⟨x',rfl,hx'⟩:=hx';obtain⟨a1,a2,a3⟩:=Ng (k:=x) hi hx';refine⟨trivial,λp2 hp2=>?_⟩;rw[Dp Ak,Ao,PN];refine⟨(Qzz 2),q _ _ ⟨.box x',rfl,a1,?_,?_⟩ ((hg1.trans hg2).put hp2)⟩
   ·show 1+x'.cnt<=max (1+x.cnt) _;lia
   ·show 1+x'.dp<=max (1+x.dp) _;lia
  | row fs o =>
   have ho':(A0 fs.names&&fs.ok)=true:=ho;simp only[YF]at ho';have hd':1+fs.dp<=n+1:=hd;have hl:=(Es ho).2;rw[Jd,Yh]at hl;walk_at "k4";refine⟨by decide,λp hp=>?_⟩;have hps:=Hs.ne hg1.1 hp;rw[F4 fs];refine Nf (d:=fs.dp) hi hps (toL fs) [] none none none none _ Ak (hg1.1.put hp) (by simp only[Yi];lia) (λx hx=>?_) λl' o5 o6 o7 o8 G' l1 l3 l4=>?_
   ·obtain⟨_,b,_,c⟩:=GV ho'.2 x hx;exact⟨b,by lia,c⟩
   have hg3:=hg1.trans ⟨l4.1,λb hb u hu=>l4.2 b hb (A3 hu hp) u (AA hp _ _ hu)⟩;simp only[Ai,Ah,Aa,Ac,gB,rF,Ad,Ag,Ab,gC,Yb,Yc];rw[Dp l3,Ao];walk_at "k1";refine Bj (by decide) (by decide) hg3.1 λv G4 v0 v1 hg4=>⟨(Qzz 3),?_⟩;obtain⟨l1,l2,l5⟩:=l1;rw[<- Jd]at l1;obtain⟨g1,g2,g3⟩:=VU l' λx hx=>⟨YG (Na ho'.2 _ (l1.subset (List.mem_map_of_mem hx))),l5 x hx⟩;refine q _ _ ⟨.row (ofL l') _,Ql (λz=>W.tup [.str "row",.tup z,_]) (MR l').symm,?_,?_,?_⟩ (hg3.trans hg4)
   ·show(A0 (ofL l').names&&(ofL l').ok)=true;rw[g1,MS,MU l1 ho'.1];rfl
   ·show 1+(ofL l').cnt<=max (1+fs.cnt) _;rw[g2,MY];lia
   ·show 1+(ofL l').dp<=max (1+fs.dp) _;lia
noncomputable abbrev gT1(n:Nat):GS:=gIf (AF (AI (AR "tuple" sr)) (gNt (AF (gTB (Ad (Ae (eqF false)) kw h8)) sP))) (AN (Ax (Ag (FM n) XF (Aa sr Ac))) (gNm 4) (AD (gMt AQ A2 f4 (Aa (Ad Aw (Ad Aw sL (Ah sN)) sW) Ac)))) Aj
theorem FW{a:Option W}(d:atI xs i=some v)(c:∀ f:Hw,∃ ty,tyN v f=some ty/\Dx ty "tuple"=false)(q:D.nx [some (.tup xs),a,some (.int i),o3,o4] G):gT1 n D [some (.tup xs),a,some (.int i),o3,o4] G:=by
 simp only[gIf,AF,AI,AR,Ad,Ae,Ab,Yb,Yc,ixW,d,Ao];obtain⟨ty,e,b⟩:=c G;simp only[e,b];exact q
theorem VV{w:Str}{a:Option W}(c:atI (.str w::ys) 2=some (.tup zs))(h2:two w=true)(q:∀ b,G b=none->D.nx [some (.tup (.str w::ys)),a,some (.int 2),o3,o4] (put G b (.lst [.str "fun",.str "as"]))):gT1 n D [some (.tup (.str w::ys)),a,some (.int 2),o3,o4] G:=by
 simp only[gIf,AF,gNt,AI,gTB,AR,Ad,An,Ae,Ab,gC,Yb,Yc,ixW,c,Bg];refine⟨by decide,λb d=>?_⟩;rw[MN w Ak,h2];exact q b d
theorem C6{t:Te}{w:Str}{a:List Te}(N:t.enc=.tup (.str w::ys))(hl:ys.length<=3)(y:(W.str w::ys)[i]?=some c.enc)(h2:i≠2\/two w=false)(l:∀ d:Te,(t.withPs (t.parts.set j d)).enc=.tup ((.str w::ys).set i d.enc))(hc:c.ok=true/\c.dp<=n/\c.cnt<=40)(L:a.length+240*c.cnt<=20000)(H:G p=some (.lst (a.map Te.enc)))(E:∀ o4 v,v p=some (.lst ((a++(lt n c).map λd=>t.withPs (t.parts.set j d)).map Te.enc))->(∀ b,b≠p->∀ u,G b=some u->v b=some u)->D.nx [some (.tup (.str w::ys)),some (.ref p),some (.int i),o3,o4] v):gT1 n D [some (.tup (.str w::ys)),some (.ref p),some (.int i),o3,o4] G:=by
 have f:=CM y;have I:=Eh n c hc.1
 have hi:i <(W.str w::ys).length:=by
  rcases Nat.lt_or_ge i (W.str w::ys).length with z | z
  ·exact z
  ·rw[Qf z]at y;cases y
 obtain⟨zs,K⟩:∃ zs,c.enc=.tup zs:=by cases c;exact⟨_,rfl⟩
 have go:∀ s:Hw,(∀ b,b≠p->∀ u,G b=some u->s b=some u)->s p=some (.lst (a.map Te.enc))->AN (Ax (Ag (FM n) XF (Aa sr Ac))) (gNm 4) (AD (gMt AQ A2 f4 (Aa (Ad Aw (Ad Aw sL (Ah sN)) sW) Ac))) D [some (.tup (.str w::ys)),some (.ref p),some (.int i),o3,o4] s:=by
  intro s J m;simp only[AN,Ax,Ag,Ad,Ae,Aa,Ab,Yb,Yc,ixW,f];refine⟨c,⟨rfl,hc⟩,λq F=>?_⟩;have r:=A3 m F;simp only[Ak];refine FR (g:=λd=>t.withPs (t.parts.set j d)) (mk:=λo=>[some (.tup (.str w::ys)),some (.ref p),some (.int i),o3,o]) (λ_=>rfl) (λ_ _=>rfl) r (lt n c) o4 _ a (λd _ x Z z=>?_) (by lia) (by rw[Az r];exact m) Ak λo x g1 g2=>?_
  ·refine GM (λZ z=>z) (λZ z=>z) (λZ z=>z) (λZ z=>?_) hi (by rw[Yg];lia) (by rw[<- l];exact z);show Z (.int ((i:Int)+1)) x;exact z
  ·exact E o x g1 λb k u B=>g2 b k u (AA F _ _ (J b k u B))
 simp only[gIf,AF,gNt,AI,gTB,AR,Ad,An,Ae,Ab,gC,Yb,Yc,ixW,f,Bg,Ao,BD];rw[K];simp only[tyN,B5];rw[show Dx "tuple" "tuple"=true by decide];simp only[if_true];by_cases e:i=2
 ·have A:=h2.resolve_left λz=>z e;rw[show(((i:Int)==2) != false)=true by rw[e];rfl];refine⟨by decide,λb k=>?_⟩;rw[MN w Ak,A];exact go _ (λc _ u B=>AA k _ _ B) (AA k _ _ H)
 ·rw[show(((i:Int)==2) != false)=false by rw[show((i:Int)==2)=false from beq_eq_false_iff_ne.mpr (by lia)];rfl];exact go G (λ_ _ _ h=>h) H
theorem VW{w:Str}(h:w∈[("call":Str),"plus","less","write","if","get","or","new","read"]):two w=false:=by
 simp only[Yo,Qa,or_false]at h;rcases h with rfl | rfl | rfl | rfl | rfl | rfl | rfl | rfl | rfl <;> decide +kernel
theorem oj{w:Str}(h:KTD.datumAt w AT=some r.sorts)(R:w≠"rec"){a:List Te}(e:∀ c∈r.parts,c.ok=true/\c.dp<=n/\c.cnt<=40)(y:a.length+240*AL r.parts<=20000)(o:G p=some (.lst (a.map Te.enc)))(g:∀ S o4 l,l p=some (.lst ((a++ltS (lt n) (.nd w r) 0 r.parts).map Te.enc))->(∀ b,b≠p->∀ u,G b=some u->l b=some u)->D.nx [some (.tup (.str w::r.enc)),some (.ref p),S,o3,o4] l):
  A9 yes (gNm 2) (gT1 n) D ((List.range' 0 r.enc.length).map λj:Nat=>W.int (1+j)) [some (.tup (.str w::r.enc)),some (.ref p),none,o3,none] G:=by
 have id:∀{G:Hw}b,b≠p->∀ u,G b=some u->G b=some u:=λ_ _ _ h=>h;have str:∀ x:Str,∀ G:Hw,∃ ty,tyN (.str x) G=some ty/\Dx ty "tuple"=false:=λx G=>⟨_,rfl,by decide⟩;have f:r.enc.length<=3:=by rw[CY];exact Ca h
 have z:∀{K J F:Hw},(∀ b,b≠p->∀ u,K b=some u->J b=some u)->(∀ b,b≠p->∀ u,J b=some u->F b=some u)->∀ b,b≠p->∀ u,K b=some u->F b=some u:=λO P b s u E=>P b s u (O b s u E);rcases FP h R with⟨rfl,i,rfl⟩|⟨rfl,i,rfl⟩|⟨rfl,x,rfl⟩|⟨rfl,x,k,t,rfl⟩|⟨rfl,t,x,rfl⟩|⟨rfl,t,x,u,rfl⟩|⟨rfl,t,u,v,rfl⟩|⟨rfl,t,k,rfl⟩|⟨hw,t,rfl⟩|⟨hw,t,u,rfl⟩
 ·exact⟨trivial,FW rfl (λ_=>⟨_,rfl,by decide⟩) ⟨trivial,g _ _ G (by show G p=some (.lst ((a++[]).map Te.enc));rw[Yx];exact o) id⟩⟩
 ·exact⟨trivial,FW rfl (λ_=>⟨_,rfl,by decide⟩) ⟨trivial,g _ _ G (by show G p=some (.lst ((a++[]).map Te.enc));rw[Yx];exact o) id⟩⟩
 ·exact⟨trivial,FW rfl (str x) ⟨trivial,g _ _ G (by show G p=some (.lst ((a++[]).map Te.enc));rw[Yx];exact o) id⟩⟩
 ·obtain⟨zs,I⟩:∃ zs,k.enc=.tup zs:=⟨_,(Gu k).choose_spec⟩;have m:a.length+240*(t.cnt+0)<=20000:=y;refine⟨trivial,FW rfl (str x) ⟨trivial,VV (by rw[<- I];rfl) (by decide +kernel) λb s=>⟨trivial,C6 (t:=.nd "fun" (.nam x (.knd k (.trm t .nil)))) (j:=0) rfl f rfl (.inl (by decide)) (λd=>rfl) (e t (.head _)) (by lia) (AA s _ _ o) λo4 l g1 g2=>⟨trivial,g _ _ l ?_ (z (λQ _ u E=>AA s _ _ E) g2)⟩⟩⟩⟩;rw[g1];show _=some (HW.lst ((a++((lt n t).map _++[])).map Te.enc));rw[Yx]
 ·have m:a.length+240*(t.cnt+0)<=20000:=y;refine⟨trivial,C6 (t:=.nd "get" (.trm t (.nam x .nil))) (j:=0) rfl f rfl (.inl (by decide)) (λd=>rfl) (e t (.head _)) (by lia) o λo4 l g1 g2=>⟨trivial,FW rfl (str x) ⟨trivial,g _ _ l ?_ g2⟩⟩⟩;rw[g1];show _=some (HW.lst ((a++((lt n t).map _++[])).map Te.enc));rw[Yx]
 ·have m:a.length+240*(t.cnt+(u.cnt+0))<=20000:=y;have L:=Eh n t (e t (.head _)).1;refine⟨trivial,C6 (t:=.nd "or" (.trm t (.nam x (.trm u .nil)))) (j:=0) rfl f rfl (.inl (by decide)) (λd=>rfl) (e t (.head _)) (by lia) o λo4 l g1 g2=>⟨trivial,FW rfl (str x) ⟨trivial,C6 (t:=.nd "or" (.trm t (.nam x (.trm u .nil)))) (j:=1) rfl f rfl (.inl (by decide)) (λd=>rfl) (e u (.tail _ (.head _))) (by rw[Yj,Yh];lia) g1 λo4 q A B=>⟨trivial,g _ _ q ?_ (z g2 B)⟩⟩⟩⟩;rw[A,Yv];show _=some (HW.lst ((a++((lt n t).map _++((lt n u).map _++[]))).map Te.enc));rw[Yx]
 ·have m:a.length+240*(t.cnt+(u.cnt+(v.cnt+0)))<=20000:=y;have L:=Eh n t (e t (.head _)).1;have U:=Eh n u (e u (.tail _ (.head _))).1;refine⟨trivial,C6 (t:=.nd "if" (.trm t (.trm u (.trm v .nil)))) (j:=0) rfl f rfl (.inl (by decide)) (λd=>rfl) (e t (.head _)) (by lia) o λo4 l g1 g2=>⟨trivial,C6 (t:=.nd "if" (.trm t (.trm u (.trm v .nil)))) (j:=1) rfl f rfl (.inr (VW (by decide +kernel))) (λd=>rfl) (e u (.tail _ (.head _))) (by rw[Yj,Yh];lia) g1 λo4 q A B=>⟨trivial,?_⟩⟩⟩;refine C6 (t:=.nd "if" (.trm t (.trm u (.trm v .nil)))) (j:=2) rfl f rfl (.inl (by decide)) (λd=>rfl) (e v (.tail _ (.tail _ (.head _)))) (by rw[Yj,Yj,Yh,Yh];lia) A λo4 F N T=>⟨trivial,g _ _ F ?_ (z (z g2 B) T)⟩;rw[N,Yv,Yv];show _=some (HW.lst ((a++((lt n t).map _++((lt n u).map _++((lt n v).map _++[])))).map Te.enc));rw[Yx]
 ·obtain⟨zs,I⟩:∃ zs,k.enc=.tup zs:=⟨_,(Gu k).choose_spec⟩;have m:a.length+240*(t.cnt+0)<=20000:=y;refine⟨trivial,C6 (t:=.nd "as" (.trm t (.knd k .nil))) (j:=0) rfl f rfl (.inl (by decide)) (λd=>rfl) (e t (.head _)) (by lia) o λo4 l g1 g2=>⟨trivial,VV (by rw[<- I];rfl) (by decide +kernel) λb s=>⟨trivial,g _ _ _ ?_ (z g2 λQ _ u E=>AA s _ _ E)⟩⟩⟩;rw[AA s _ _ g1];show _=some (HW.lst ((a++((lt n t).map _++[])).map Te.enc));rw[Yx]
 ·have m:a.length+240*(t.cnt+0)<=20000:=y;refine⟨trivial,C6 (t:=.nd w (.trm t .nil)) (j:=0) rfl f rfl (.inl (by decide)) (λd=>rfl) (e t (.head _)) (by lia) o λo4 l g1 g2=>⟨trivial,g _ _ l ?_ g2⟩⟩;rw[g1];show _=some (HW.lst ((a++((lt n t).map _++[])).map Te.enc));rw[Yx]
 ·have m:a.length+240*(t.cnt+(u.cnt+0))<=20000:=y;have L:=Eh n t (e t (.head _)).1;have H:two w=false:=VW (by rcases hw with rfl | rfl | rfl | rfl <;> decide +kernel);refine⟨trivial,C6 (t:=.nd w (.trm t (.trm u .nil))) (j:=0) rfl f rfl (.inl (by decide)) (λd=>rfl) (e t (.head _)) (by lia) o λo4 l g1 g2=>⟨trivial,C6 (t:=.nd w (.trm t (.trm u .nil))) (j:=1) rfl f rfl (.inr H) (λd=>rfl) (e u (.tail _ (.head _))) (by rw[Yj,Yh];lia) g1 λo4 q A B=>⟨trivial,g _ _ q ?_ (z g2 B)⟩⟩⟩;rw[A,Yv];show _=some (HW.lst ((a++((lt n t).map _++((lt n u).map _++[]))).map Te.enc));rw[Yx]
theorem VX:∀{f:Fl}{i:Nat}{c:Te},f.terms[i]?=some c->∃ x,f.enc[i]?=some (.tup [.str x,c.enc])/\∀ d:Te,f.enc.set i (.tup [.str x,d.enc])=(f.withT (f.terms.set i d)).enc
 | .nil,i,c,h=>by cases h
 | .cons x t r,0,c,h=>by
  cases h;refine⟨x,rfl,λd=>?_⟩;show _::r.enc=_::(r.withT r.terms).enc
  have go:∀ r:Fl,r.withT r.terms=r:=by
   intro r;induction r using Fl.rec (motive_1:=λ_=>True) (motive_2:=λ_=>True)with
   | nd|num|tru|nam|knd|trm|fld=>trivial
   | cons x t r _ a=>show Fl.cons x t (r.withT r.terms)=_;rw[a]
   | _=>first | rfl | trivial
  rw[go r]
 | .cons x t r,i+1,c,h=>by
  obtain⟨b,h1,h2⟩:=VX (f:=r) h;refine⟨b,h1,λd=>?_⟩;show _::r.enc.set i _=_::(r.withT (r.terms.set i d)).enc;rw[h2]
noncomputable abbrev gT2(n:Nat):GS:=AN (Ax (Ag (FM n) XF (Aa (Ad (Ae ixW) sA dl) Ac))) (gNm 4) (AD (gMt AQ A2 f4 (Aa (Ah (Aa sg (Aa (Ad (Aw) (Ad (Aw) (AE hH Au (Av kw)) (Ah (Aa (Ah (Aa (Ad (Ae ixW) sA eq) sN)) Ac))) (AE hH sJ Au)) Ac))) Ac)))
theorem VY(e:f.enc.length<=1000):∀(l:List Te)(i:Nat)(k o4:Option W)(G:Hw)(a:List Te),f.terms.drop i=l->(∀ c∈l,c.ok=true/\c.dp<=n/\c.cnt<=40)->a.length+240*AL l<=20000->G p=some (.lst (a.map Te.enc))->
  (∀ k o4 x,x p=some (.lst ((a++ltS (lt n) (.nd "rec" (.fld f .nil)) i l).map Te.enc))->(∀ b,b≠p->∀ u,G b=some u->x b=some u)->D.nx [some (.tup [.str "rec",.tup f.enc]),some (.ref p),k,o3,o4] x)->
  A9 yes (gNm 2) (gT2 n) D ((List.range' i l.length).map λj:Nat=>W.int j) [some (.tup [.str "rec",.tup f.enc]),some (.ref p),k,o3,o4] G
 | [],i,k,o4,G,a,_,_,_,v,m=>⟨trivial,m k o4 G (by show G p=some (.lst ((a++[]).map Te.enc));rw[Yx];exact v) λ_ _ _ h=>h⟩
 | c::l,i,k,o4,G,a,hl,hc,K,v,m=>by
  have N:a.length+240*(c.cnt+AL l)<=20000:=K;have O:=Eh n c (hc c Ye).1
  have s:f.terms[i]?=some c:=by
   have z:=Ql (·[0]?) hl;simpa using z
  obtain⟨nm,h1,h2⟩:=VX s
  have hi:i < f.enc.length:=by
   rcases Nat.lt_or_ge i f.enc.length with z | z
   ·exact z
   ·rw[Qf z]at h1;cases h1
  have y:f.terms.drop (i+1)=l:=by rw[<- List.drop_drop,hl];rfl
  have r:=CM h1;refine⟨trivial,?_⟩;show gT2 n _ [some (.tup [.str "rec",.tup f.enc]),some (.ref p),some (.int i),o3,o4] G;simp only[AN,Ax,Ag,Ad,Ae,Ab,gC,Aa,Yb,Yc,ixW,Bx,r,Ao];refine⟨c,⟨rfl,hc c Ye⟩,λq B=>?_⟩;have t:=A3 v B;simp only[Ak];refine FR (g:=λd=>(Te.nd "rec" (.fld f .nil)).withPs ((Te.nd "rec" (.fld f .nil)).parts.set i d)) (mk:=λo=>[some (.tup [.str "rec",.tup f.enc]),some (.ref p),some (.int i),o3,o]) (λ_=>rfl) (λ_ _=>rfl) t (lt n c) o4 _ a (λd hd w Z z=>?_) (by lia) (by rw[Az t];exact v) Ak λI w g1 g2=>?_
  ·have E:Z (.tup [.str "rec",.tup (f.withT ((f.terms++[]).set i d)).enc]) w:=z;rw[Yx,<- h2]at E;refine GM (λZ z=>?_) (λZ z=>z) (λZ z=>?_) (λZ z=>?_) hi e ⟨(Qzz 2),E⟩
   ·exact z
   ·simp only[Ah,Aa,Ad,Ae,Ab,gC,Yb,Yc,ixW,Bx,r,Ao];exact⟨(Qzz 2),z⟩
   ·show Z (.int ((i:Int)+1)) w;exact z
  ·refine VY e l (i+1) _ _ w _ y (λd hd=>hc d (Yd _ hd)) (by rw[Yj,Yh];lia) g1 λk o4 H F J=>m k o4 H (by rw[F,Yv];rfl) λb A u L=>J b A u (g2 b A u (AA B _ _ L))
theorem om{w:Str}(h:KTD.datumAt w AT=some r.sorts)(h2:two w=true)(d:Kd):((Te.nd w r).withKd d).enc=.tup ((.str w::r.enc).set 2 d.enc)/\2<=r.enc.length:=by
 have a:w≠"rec":=by rintro rfl;exact Qo h2 (by decide +kernel)
 rcases FP h a with⟨rfl,i,rfl⟩|⟨rfl,i,rfl⟩|⟨rfl,i,rfl⟩|⟨rfl,x,k,t,rfl⟩|⟨rfl,t,x,rfl⟩|⟨rfl,t,x,u,rfl⟩|⟨rfl,t,u,v,rfl⟩|⟨rfl,t,k,rfl⟩|⟨rfl | rfl,t,rfl⟩|⟨rfl | rfl | rfl | rfl,t,u,rfl⟩ <;> first | exact⟨rfl,(show 3>=2 by decide)⟩| exact⟨rfl,(show 2>=2 by decide)⟩| exact Qo h2 (by decide +kernel)
theorem Ej(T:Tx K mg base a):∀ n:Nat,Df P w K mg base "_law_less_terms" (n+10) 1 (FM n)
 | 0=>BX T.RB BU λws G Q E⟨k,⟨_,_,hd,_⟩,_⟩=>by have:=Ed k;lia
 | n+1=>by
  refine mk0 T.RB rfl Ug BU (λws G Q E⟨x,⟨e,_⟩,_⟩=>by rw[e];rfl) (mD T (Ei T 8 (by lia)) (by lia) (Ej T n) (Yr _)) λws G Q E hC q=>?_;obtain⟨t,⟨rfl,ho,hd,hc⟩,q⟩:=q;have e1:=Cp t;have e2:=CW t;have hK:=MI (t:=t) t.told (MH ho);have h3:=IT ho;have hin:∀ c∈t.parts,c.ok=true/\c.dp<=n/\c.cnt<=40:=λc hc'=>⟨CZ ho c hc',by have:=Gz hc';lia,by have:=Gy hc';lia⟩;cases t with
  | nd w r =>
  obtain⟨h1,h2⟩:=Br ho;have hsl:=Ca h1;have hel:=CY r;show Af (Al 1 _) _ (AH Q) [some (.tup (.str w::r.enc)),none,none,none,none] G;refine AG (⟨by decide,λp hp=>?_⟩);simp only[Yk,Yl]
  have fin:∀(o2 o3 o4:Option W)(D:Ew)(G':Hw),G' p=some (.lst ((lt (n+1) (.nd w r)).map Te.enc))->(∀ b,b≠p->∀ u,G b=some u->G' b=some u)->D.rt=Q->Ai f4 D [some (.tup (.str w::r.enc)),some (.ref p),o2,o3,o4] G':=by
   intro o2 o3 o4 D G' h1 h2 hD;simp only[Ai,Ab,Yb,Yc,hD];refine hC _ _ _ (λb u hu=>?_) (q p hp);by_cases hb:b=p
   ·subst hb;rw[Ak]at hu;cases hu;exact h1
   ·rw[Az hb]at hu;exact h2 b hb u hu
  refine C7 (λω' G'=>∃ o3,ω'=[some (.tup (.str w::r.enc)),some (.ref p),none,o3,none]/\G' p=some (.lst ((ltK (.nd w r) r.told).map Te.enc))/\∀ b,b≠p->∀ u,G b=some u->G' b=some u) ?_ (λrest=>?_);rotate_left
  ·simp only[Af,gIf,gTB,Ad,Ae,Ab,gC,An,Aa,Ac,Yb,ixW,Bg,Ao];refine⟨by decide,λp2 hp2=>?_⟩;have hne2:=A3 Ak hp2;have hp3:put (put G p (.lst [])) p2 (.lst [.str "fun",.str "as"]) p=some (.lst []):=by rw[Az hne2];exact Ak
   have s3:∀ b,b≠p->∀ u,G b=some u->put (put G p (.lst [])) p2 (.lst [.str "fun",.str "as"]) b=some u:=λb hb u hu=>AA hp2 _ _ (by rw[Az hb];exact hu);rw[MN w Ak,Ao];rcases mJ h1 with⟨e3,k,ek,ea⟩|⟨e3,ek⟩
   ·have hk:=(B3 h2 k (by rw[ek];exact Ye)).2;rw[e3];simp only[if_true,AN,Ax,Ag,Ad,Ae,Ab,gC,Aa,Ac,Yb,ixW,ea,Ao];refine⟨k,⟨rfl,hk.2,by lia,by lia⟩,λz hz=>?_⟩;have hne:=A3 hp3 hz;simp only[Ak];have hll:=GK 8 k;refine FR (eb:=Te.enc) (g:=λd=>(Te.nd w r).withKd d) (mk:=λo=>[some (.tup (.str w::r.enc)),some (.ref p),none,o,none]) (λ_=>rfl) (λ_ _=>rfl) hne (lk 8 k) none _ [] (λd _ G2 Z z=>?_) (by simp only[Yi];lia) (by rw[Az hne];exact hp3) Ak λo G3 g1 g2=>?_
    ·obtain⟨a1,a2⟩:=om h1 e3 d;exact GM (i:=2) (λZ z=>z) (λZ z=>z) (λZ z=>z) (λZ z=>z) (by rw[Yg];lia) (by rw[Yg];lia) (by rw[<- a1];exact z)
    ·refine rest _ _ ⟨o,rfl,?_,λb hb u hu=>g2 b hb u (AA hz _ _ (s3 b hb u hu))⟩;rw[g1,ek];show _=some (HW.lst (((lk 8 k).map _++[]).map Te.enc));rw[Yx];rfl
   ·rw[e3];refine rest _ _ ⟨none,rfl,?_,s3⟩;rw[ek];exact hp3
  rintro ω' G1 ⟨o3,rfl,hp1,s1⟩;have hK':(ltK (.nd w r) r.told).length<=80*r.told.length:=hK;have h3':r.told.length<=3:=h3;walk_at "k2";by_cases e:w="rec"
  ·obtain⟨f,rfl⟩:=(B0 h1).1 e;subst e;have hfl:=Mx f;have hcl:=GJ f;have hc':1+(f.cnt+0)<=40:=hc;have ep:(Te.nd "rec" (.fld f .nil)).parts=f.terms:=by show f.terms++[]=f.terms;rw[Yx]
   rw[ep]at hin e1;refine⟨by lia,by lia,?_⟩;rw[Int.toNat_natCast,hfl,List.range_eq_range'];refine VY (by lia) f.terms 0 none none G1 _ rfl hin (by lia) hp1 λo2 o4 G2 g1 g2=>fin o2 o3 o4 (AH Q) G2 ?_ (λb hb u hu=>g2 b hb u (s1 b hb u hu)) rfl;rw[g1];show _=some (HW.lst ((ltK _ _++ltS (lt n) _ 0 (Te.nd "rec" (.fld f .nil)).parts).map Te.enc));rw[ep];rfl
  ·rw[show(w==("rec":Str))=false by simpa using e];refine⟨1,((r.enc.length+1:Nat):Int),rfl,⟨by lia,by lia,by lia,by lia⟩,?_⟩;rw[show(((r.enc.length+1:Nat):Int) - 1).toNat=r.enc.length by lia,List.range_eq_range'];refine oj h1 e hin ?_ hp1 λo2 o4 G2 g1 g2=>?_
   ·have e1':(Te.nd w r).cnt=1+AL r.parts:=e1;lia
   ·exact fin o2 o3 o4 (AH Q) G2 g1 (λb hb u hu=>g2 b hb u (s1 b hb u hu)) rfl
mutual
theorem JA:∀ t:Te,plW t.enc=true
 | .nd w r=>by have:=DK r;show(true&&plL r.enc)=true;rw[this];rfl
theorem DK:∀ r:As,plL r.enc=true
 | .nil=>rfl
 | .num i r|.tru i r|.nam i r=>by have:=DK r;show(true&&plL r.enc)=true;rw[this];rfl
 | .knd k r=>by have:=DK r;show(plW k.enc&&plL r.enc)=true;rw[E6,this];rfl
 | .trm t r=>by have:=DK r;have:=JA t;show(plW t.enc&&plL r.enc)=true;rw[‹plW t.enc=true›,‹plL r.enc=true›];rfl
 | .fld f r=>by have:=DK r;have:=VZ f;show(plL f.enc&&plL r.enc)=true;rw[‹plL f.enc=true›,‹plL r.enc=true›];rfl
theorem VZ:∀ f:Fl,plL f.enc=true
 | .nil=>rfl
 | .cons x t r=>by have:=JA t;have:=VZ r;show((true&&(plW t.enc&&true))&&plL r.enc)=true;rw[‹plW t.enc=true›,‹plL r.enc=true›];rfl
end
mutual
theorem V0:∀ x:W,plW x=true->eqD x x=some true
 | .str s,_|.bl s,_|.int s,_=>by show some (s==s)=_;rw[beq_self_eq_true]
 | .tup xs,h=>V1 xs h
 | .non,h|.rol _,h|.ref _,h=>by cases h
theorem V1:∀ xs:List W,plL xs=true->A1 xs xs=some true
 | [],_=>rfl
 | x::xs,h=>by
  obtain⟨h1,h2⟩:=M2 h;exact Cr (V0 x h1) (V1 xs h2)
end
theorem FX(h:tg t):PT t.enc:=by
 have h1:=JA t;have h2:=GX t h.1;have b:=h.2.2;cases t with
 | nd w r =>
  have a:L3.dpL (.str w::r.enc)+1<=3*(Te.nd w r).dp+25:=h2;exact⟨_,rfl,h1,by lia⟩
theorem V2:∀(fs:Fs)(d:List Kd),d.length=fs.kinds.length->(fs.withK d).names=fs.names/\(fs.withK d).kinds=d/\(fs.ok=true->(∀ c∈d,c.ok=true)->(fs.withK d).ok=true)
 | .nil,[],_=>⟨rfl,rfl,λ_ _=>rfl⟩
 | .cons n m k r,u::d,h =>
  let⟨a,b,c⟩:=V2 r d (Nat.succ.inj h)
  ⟨Ql (n::·) a,Ql (u::·) b,λh1 h2=>aM (aM (aL (aL h1)) (h2 u (.head _))) (c (aR h1) λc hc=>h2 c (.tail _ hc))⟩
theorem oo:∀(k:Kd)(d:List Kd),d.length=k.kids.length->(k.withK d).kids=d/\(k.ok=true->(∀ c∈d,c.ok=true)->(k.withK d).ok=true)
 | .to x y,[u,v],_=>⟨rfl,λ_ h=>aM (h u (.head _)) (h v (.tail _ (.head _)))⟩
 | .box x,[u],_=>⟨rfl,λ_ h=>h u (.head _)⟩
 | .row fs o,d,h =>
  let⟨a,b,c⟩:=V2 fs d h
  ⟨b,λh1 h2=>aM (a▸aL h1) (c (aR h1) h2)⟩
 | .any,[],_ | .num,[],_ | .truth,[],_=>⟨rfl,λ_ _=>rfl⟩
theorem V3:∀{l:List Kd}{i:Nat}{c d:Kd},l[i]?=some c->d.cnt<=c.cnt->d.dp<=c.dp->AX (l.set i d)<=AX l/\dpL (l.set i d)<=dpL l
 | x::l,0,c,d,h,h1,h2=>by
  cases h;exact⟨by show d.cnt+AX l<=x.cnt+AX l;lia,by show max d.dp (dpL l)<=max x.dp (dpL l);lia⟩
 | x::l,i+1,c,d,h,h1,h2=>by
  obtain⟨a,b⟩:=V3 (l:=l) h h1 h2;exact⟨by show x.cnt+AX (l.set i d)<=x.cnt+AX l;lia,by show max x.dp (dpL (l.set i d))<=max x.dp (dpL l);lia⟩
theorem V4:∀{l:List Kd}{i:Nat},d∈lkS f k i l->∃ j c a,l[j]?=some c/\a∈f c/\d=k.withK (k.kids.set (i+j) a)
 | c::l,i,h=>by
  rcases Yz.mp (h)with h | h
  ·obtain⟨a,h1,rfl⟩:=YC.mp h;exact⟨0,c,a,rfl,h1,rfl⟩
  ·obtain⟨j,e,a,h1,h2,b⟩:=V4 h;exact⟨j+1,e,a,h1,h2,by rw[b];congr 2;lia⟩
theorem V5:∀(n:Nat){k:Kd},k.ok=true->∀ d∈lk n k,d.ok=true/\d.cnt<=k.cnt/\d.dp<=k.dp
 | 0,k,_,d,h=>by cases h
 | n+1,k,a,d,h=>by
  rcases Yz.mp (h)with h | h
  ·rcases Yz.mp h with h | h
   ·split at h
    ·cases h
    ·rw[YA.mp h];exact⟨rfl,D2 k,CV k⟩
   ·unfold opn at h;split at h
    ·rw[YA.mp h];exact⟨a,Yr _,Yr _⟩
    ·cases h
  ·obtain⟨j,c,f,h1,h2,rfl⟩:=V4 h;rw[Nat.zero_add];have hc:=List.mem_of_getElem? h1;obtain⟨m,l,g⟩:=V5 n (Co a c hc) f h2;obtain⟨p,o⟩:=V3 h1 l g;obtain⟨e,i⟩:=oo k (k.kids.set j f) (by rw[List.length_set]);refine⟨i a λx b=>?_,?_,?_⟩
   ·rcases List.mem_or_eq_of_mem_set b with b | rfl
    ·exact Co a x b
    ·exact m
   ·rw[D1,D1 k,e];lia
   ·rw[FH,FH k,e];lia
theorem FY(d:Kd):∀ r:As,(r.withKd d).parts=r.parts/\(r.withKd d).sorts=r.sorts/\(r.ok=true->d.ok=true->Bl d=true->(r.withKd d).ok=true)
 | .nil=>⟨rfl,rfl,λ_ _ _=>rfl⟩
 | .num _ r | .nam _ r =>
  let⟨a,b,c⟩:=FY d r
  ⟨a,Ql (_::·) b,λh h1 h2=>aM (aL h) (c (aR h) h1 h2)⟩
 | .tru _ r =>
  let⟨a,b,c⟩:=FY d r
  ⟨a,Ql (_::·) b,c⟩
 | .knd _ r =>
  let⟨a,b,c⟩:=FY d r
  ⟨a,Ql (_::·) b,λh h1 h2=>aM (aM h1 h2) (c (aR h) h1 h2)⟩
 | .trm t r =>
  let⟨a,b,c⟩:=FY d r
  ⟨Ql (t::·) a,Ql (_::·) b,λh h1 h2=>aM (aL h) (c (aR h) h1 h2)⟩
 | .fld f r =>
  let⟨a,b,c⟩:=FY d r
  ⟨Ql (f.terms++·) a,Ql (_::·) b,λh h1 h2=>aM (aL h) (c (aR h) h1 h2)⟩
theorem V6:∀(f:Fl)(d:List Te),d.length=f.terms.length->(f.withT d).names=f.names/\(f.withT d).terms=d/\(f.ok=true->(∀ c∈d,c.ok=true)->(f.withT d).ok=true)
 | .nil,[],_=>⟨rfl,rfl,λ_ _=>rfl⟩
 | .cons n k r,u::d,h =>
  let⟨a,b,c⟩:=V6 r d (Nat.succ.inj h)
  ⟨Ql (n::·) a,Ql (u::·) b,λh1 h2=>aM (aM (aL (aL h1)) (h2 u (.head _))) (c (aR h1) λc hc=>h2 c (.tail _ hc))⟩
theorem JB:∀(r:As)(d:List Te),("fields":Str)∉r.sorts->d.length=r.parts.length->(r.withPs d).parts=d/\(r.withPs d).sorts=r.sorts/\(r.ok=true->(∀ c∈d,c.ok=true)->(r.withPs d).ok=true)
 | .nil,[],_,_=>⟨rfl,rfl,λ_ _=>rfl⟩
 | .num _ r,d,e,hl | .nam _ r,d,e,hl | .knd _ r,d,e,hl =>
  let⟨a,b,c⟩:=JB r d (λz=>e (.tail _ z)) hl
  ⟨a,Ql (_::·) b,λh h2=>aM (aL h) (c (aR h) h2)⟩
 | .tru _ r,d,e,hl =>
  let⟨a,b,c⟩:=JB r d (λz=>e (.tail _ z)) hl
  ⟨a,Ql (_::·) b,c⟩
 | .trm t r,u::d,e,hl =>
  let⟨a,b,c⟩:=JB r d (λz=>e (.tail _ z)) (Nat.succ.inj hl)
  ⟨Ql (u::·) a,Ql (_::·) b,λh h2=>aM (h2 u (.head _)) (c (aR h) λc hc=>h2 c (.tail _ hc))⟩
 | .fld f r,d,e,hl=>Qo Ye e
theorem V7{t:Te}(i:t.ok=true)(d:List Te)(h:d.length=t.parts.length)(h2:∀ c∈d,c.ok=true):(t.withPs d).parts=d/\(t.withPs d).ok=true:=by
 cases t with
 | nd w r =>
 obtain⟨h1,g⟩:=Br i;by_cases e:w="rec"
 ·obtain⟨f,rfl⟩:=(B0 h1).1 e;have hl:d.length=(f.terms++[]).length:=h;rw[Yx]at hl;obtain⟨a,b,c⟩:=V6 f d hl;exact⟨by show(f.withT d).terms++[]=d;rw[Yx,b],Bt h1 (aM (aM (a▸aL (aL g)) (c (aR (aL g)) h2)) rfl)⟩
 ·obtain⟨a,b,c⟩:=JB r d ((B0 h1).2 e) h;exact⟨a,Bt (by rw[b];exact h1) (c g h2)⟩
theorem V8:∀{l:List Te}{i:Nat}{c d:Te},l[i]?=some c->d.cnt<=c.cnt->d.dp<=c.dp->AL (l.set i d)<=AL l/\tdp (l.set i d)<=tdp l
 | x::l,0,c,d,h,h1,h2=>by
  cases h;exact⟨by show d.cnt+AL l<=x.cnt+AL l;lia,by show max d.dp (tdp l)<=max x.dp (tdp l);lia⟩
 | x::l,i+1,c,d,h,h1,h2=>by
  obtain⟨a,b⟩:=V8 (l:=l) h h1 h2;exact⟨by show x.cnt+AL (l.set i d)<=x.cnt+AL l;lia,by show max x.dp (tdp (l.set i d))<=max x.dp (tdp l);lia⟩
theorem V9:∀{l:List Te}{i:Nat},d∈ltS f t i l->∃ j c a,l[j]?=some c/\a∈f c/\d=t.withPs (t.parts.set (i+j) a)
 | c::l,i,h=>by
  rcases Yz.mp (h)with h | h
  ·obtain⟨a,h1,rfl⟩:=YC.mp h;exact⟨0,c,a,rfl,h1,rfl⟩
  ·obtain⟨j,e,a,h1,h2,b⟩:=V9 h;exact⟨j+1,e,a,h1,h2,by rw[b];congr 2;lia⟩
theorem Nh:∀(n:Nat){t:Te},t.ok=true->∀ u∈lt n t,TmB t.cnt t.dp u
 | 0,t,_,u,h=>by cases h
 | n+1,t,a,u,h=>by
  rcases Yz.mp (h)with h | h
  ·obtain⟨k,q,h⟩:=List.mem_flatMap.mp h;obtain⟨j,v,rfl⟩:=YC.mp h;obtain⟨b,A⟩:=MH a k q;cases t with
   | nd w r =>
   obtain⟨h1,s⟩:=Br a;obtain⟨e,m,f⟩:=V5 8 b j v;obtain⟨o,l,z⟩:=FY j r;have p:((Te.nd w r).withKd j).parts=(Te.nd w r).parts:=o;refine⟨Bt (by rw[l];exact h1) (z s e (by unfold Bl;rw[YQ];lia)),?_,?_⟩
   ·rw[Cp,p,<- Cp];exact Yr _
   ·rw[CW,p,<- CW];exact Yr _
  ·obtain⟨j,c,i,h1,h2,rfl⟩:=V9 h;rw[Nat.zero_add];have hc:=List.mem_of_getElem? h1;obtain⟨e,m,f⟩:=Nh n (CZ a c hc) i h2;obtain⟨o,l⟩:=V8 h1 m f
   obtain⟨g,y⟩:=V7 a (t.parts.set j i) (by rw[List.length_set]) λx d=>by
    rcases List.mem_or_eq_of_mem_set d with d | rfl
    ·exact CZ a x d
    ·exact e
   exact⟨y,by rw[Cp,Cp t,g];lia,by rw[CW,CW t,g];lia⟩
noncomputable abbrev oq:Spw:=C5 (λ(k:Kd)s ws _=>ws=[.ref s,k.enc]/\KdOk 4 2 k) λ_ _ r _=>∃ t:Te,r=t.enc/\tg t
noncomputable abbrev Wa:GS:=Af (Al 4 (Ag (CG 4) XF (Aa ef (Aa f4 (Aa Ld rK))))) (Af (Al 5 (Ag (IY 22) XF sN)) (gIf (AF (gTB (Ad (Ba (λi j=>decide (i<=j)) (λa b=>!AW b a)) (Ad (Ae ixW) sG eq) sS)) (AF (gTB (Ad (Ba (λi j=>decide (i<=j)) (λa b=>!AW b a)) (Ad (Ae ixW) sG dl) (gC (.int 10)))) (gOr (gTB (Ad (Ae (eqF false)) kw (Ah (Aa sh sV)))) (gTB (Ad (AV λi j=>decide (j < i)) (Ag BM XF (Aa ef (Aa rT Ac))) eq))))) (Al 2 se) Aj))
theorem Wb(hk:KdOk 4 2 k)(hqs:q≠s):∀(l:List Nat)(t:Te)(o3 o4 o5:Option W)(G:Hw),tg t->St s G->G q=some (.lst items)->(∀ m∈l,m<=3)->(∀(t:Te)o3 o4 o5 G',tg t->Hs s G G'->D.nx [some (.ref s),some k.enc,some t.enc,o3,o4,o5] G')->A9 (holds q items) (gNm 3) Wa D (l.map λm:Nat=>W.int m) [some (.ref s),some k.enc,some t.enc,o3,o4,o5] G
 | [],t,o3,o4,o5,G,ht,hs,hq,_,fin=>⟨hq,fin t o3 o4 o5 G ht (Hs.refl hs)⟩
 | m::l,t,o3,o4,o5,G,ht,hs,hq,hm,fin=>by
  have hm3:=hm m Ye;refine⟨hq,AG ?_⟩;simp only[Ag,Ab,Aa,Ac];intro z hz;have hg1:=Hs.new (o:=.dct []) hs hz;refine Bw (by lia) hm3 (hk.mono (by unfold kb;lia) (by unfold kp;lia)) ⟨[],Ak,(λx hx=>by cases hx),by rw[Yi];lia⟩ hg1.1 rfl λu G2 hu hg2=>?_;have hg2:=hg1.trans hg2
  have hb:tb m<=1104/\td m<=22:=by
   have:m=0\/m=1\/m=2\/m=3:=by lia
   rcases this with rfl | rfl | rfl | rfl <;> decide
  refine AG (⟨u,⟨rfl,hu.1,by have:=hu.2.2;lia,by have:=hu.2.1;lia⟩,λy hy=>?_⟩);have hg3:=hg2.put (o:=.lst [.int (u.cnt:Nat),.int (u.dp:Nat)]) hy;have hy3:put G2 y (.lst [.int (u.cnt:Nat),.int (u.dp:Nat)]) y=some (.lst [.int (u.cnt:Nat),.int (u.dp:Nat)]):=Ak;generalize put G2 y (.lst [.int (u.cnt:Nat),.int (u.dp:Nat)])=G3 at hg3 hy3 ⊢;have next:∀(v:Te)G',tg v->Hs s G G'->A9 (holds q items) (gNm 3) Wa D (l.map λm:Nat=>W.int m) [some (.ref s),some k.enc,some v.enc,some (.int m),some u.enc,some (.ref y)] G':=λv G' hv hg'=>Wb hk hqs l v _ _ _ G' hv hg'.1 (hg'.2 q hqs _ hq) (λm hm'=>hm m (Yd _ hm')) λt o3 o4 o5 G'' h1 h2=>fin t o3 o4 o5 G'' h1 (hg'.trans h2)
  simp only[gIf,AF,gOr,gTB,Ad,Ba,Ae,Ab,gC,Yb,Yc,Yk,Yl,ix0 hy3,ix1 hy3];refine Bk (λh1=>?_) (λ_=>?_)
  ·refine Bk (λh2=>?_) (λ_=>?_)
   ·have c1:=Qm h1;have c2:=Qm h2;have hu':tg u:=⟨hu.1,by lia,by lia⟩;refine⟨by decide,FV (FX ht) (FX (t:=.nd "num" (.num 0 .nil)) ⟨by decide +kernel,by decide,by decide⟩) λb=>Bk (λ_=>?_) (λ_=>?_)⟩
    ·exact next u G3 hu' hg3
    ·walk_at "k0";refine Bj (by decide) (by decide) hg3.1 λr G4 r0 r1 hg4=>Bk (λ_=>?_) (λ_=>?_)
     ·exact next u G4 hu' (hg3.trans hg4)
     ·exact next t G4 ht (hg3.trans hg4)
   ·exact next t G3 ht hg3
  ·exact next t G3 ht hg3
theorem JC(T:Tx K mg base a):Df P w K mg base "_law_drawn" 25 2 oq:=by
 refine mk0 T.j0 rfl Ub BN (λd G Q E⟨k,s,⟨e,_⟩,_⟩=>by rw[e];rfl) (mw T (BH T 4) (by lia) (CD T 22) (by lia) (AO T) (by lia)) λd G Q E m q=>?_;obtain⟨k,s,⟨rfl,c⟩,hs,q⟩:=q;refine AG (⟨by decide,?_⟩);refine⟨by decide,λz b=>?_⟩;simp only[Ak];exact Wb c (Hs.ne hs b) [1,2,2,3,3] (.nd "num" (.num 0 .nil)) none none none _ ⟨by decide +kernel,by decide,by decide⟩ (hs.put b) Ak (by decide) λt i h l j f g=>q _ _ ⟨t,rfl,f⟩ ((Hs.new hs b).trans g)
mutual
def Te.bare:Te->Te
 | .nd w r=>.nd w r.bare
def As.bare:As->As
 | .nil=>.nil
 | .num i r=>.num i r.bare
 | .tru b r=>.tru b r.bare
 | .nam x r=>.nam x r.bare
 | .knd _ r=>.knd .any r.bare
 | .trm t r=>.trm t.bare r.bare
 | .fld f r=>.fld f.bare r.bare
def Fl.bare:Fl->Fl
 | .nil=>.nil
 | .cons x t r=>.cons x t.bare r.bare
end
theorem Wc:∀ f:Fl,f.withT (f.terms.map Te.bare)=f.bare
 | .nil=>rfl
 | .cons x t r=>Ql (Fl.cons x t.bare) (Wc r)
theorem FZ:∀ r:As,("fields":Str)∉r.sorts->(r.withPs (r.parts.map Te.bare)).withKd .any=r.bare
 | .nil,_=>rfl
 | .num i r,h=>Ql (As.num i) (FZ r λz=>h (.tail _ z))
 | .tru i r,h=>Ql (As.tru i) (FZ r λz=>h (.tail _ z))
 | .nam i r,h=>Ql (As.nam i) (FZ r λz=>h (.tail _ z))
 | .knd k r,h=>Ql (As.knd .any) (FZ r λz=>h (.tail _ z))
 | .trm t r,h=>Ql (As.trm t.bare) (FZ r λz=>h (.tail _ z))
 | .fld f r,h=>Qo (.head _) h
theorem ot{t:Te}(a:t.ok=true):(t.withPs (t.parts.map Te.bare)).withKd .any=t.bare:=by
 cases t with
 | nd w r =>
 have h1:=(Br a).1;by_cases e:w="rec"
 ·obtain⟨f,rfl⟩:=(B0 h1).1 e;show Te.nd w (.fld (f.withT ((f.terms++[]).map Te.bare)) .nil)=_;rw[Yx,Wc];rfl
 ·exact Ql (Te.nd w) (FZ r ((B0 h1).2 e))
mutual
theorem JD:∀{t:Te},t.ok=true->t.bare.ok=true/\t.bare.cnt=t.cnt/\t.bare.dp=t.dp
 | .nd w r,h=>by
  obtain⟨h1,h2⟩:=Br h;obtain⟨a,b,c,d⟩:=E8 h2;exact⟨Bt (r:=r.bare) (by rw[d];exact h1) a,Ql (1+·) b,Ql (1+·) c⟩
theorem E8:∀{r:As},r.ok=true->r.bare.ok=true/\r.bare.cnt=r.cnt/\r.bare.dp=r.dp/\r.bare.sorts=r.sorts
 | .nil,_=>⟨rfl,rfl,rfl,rfl⟩
 | .num i r,h=>by
  obtain⟨h1,h2⟩:=Qj.mp (show(decide (-NB<=i/\i<=NB)&&r.ok)=true from h);obtain⟨a,b,c,d⟩:=E8 h2;exact⟨Qj.mpr ⟨h1,a⟩,b,c,Ql (_::·) d⟩
 | .tru i r,h=>by
  obtain⟨a,b,c,d⟩:=E8 (r:=r) h;exact⟨a,b,c,Ql (_::·) d⟩
 | .nam x r,h=>by
  obtain⟨h1,h2⟩:=Qj.mp (show(AB x&&r.ok)=true from h);obtain⟨a,b,c,d⟩:=E8 h2;exact⟨Qj.mpr ⟨h1,a⟩,b,c,Ql (_::·) d⟩
 | .knd k r,h=>by
  obtain⟨h1,h2⟩:=Qj.mp (show((k.ok&&Bl k)&&r.ok)=true from h);obtain⟨a,b,c,d⟩:=E8 h2;exact⟨a,b,c,Ql (_::·) d⟩
 | .trm t r,h=>by
  obtain⟨h1,h2⟩:=Qj.mp (show(t.ok&&r.ok)=true from h);obtain⟨a,b,c,d⟩:=E8 h2;obtain⟨g,j,e⟩:=JD h1;exact⟨Qj.mpr ⟨g,a⟩,by show t.bare.cnt+r.bare.cnt=_;rw[b,j];rfl,by show max t.bare.dp r.bare.dp=_;rw[c,e];rfl,Ql (_::·) d⟩
 | .fld f r,h=>by
  obtain⟨h1,h2⟩:=Qj.mp (show((A0 f.names&&f.ok)&&r.ok)=true from h);obtain⟨h1,m⟩:=Qj.mp h1;obtain⟨a,b,c,d⟩:=E8 h2;obtain⟨g,j,e,l⟩:=Wd m;exact⟨Qj.mpr ⟨Qj.mpr ⟨by rw[l];exact h1,g⟩,a⟩,by show f.bare.cnt+r.bare.cnt=_;rw[b,j];rfl,by show max f.bare.dp r.bare.dp=_;rw[c,e];rfl,Ql (_::·) d⟩
theorem Wd:∀{f:Fl},f.ok=true->f.bare.ok=true/\f.bare.cnt=f.cnt/\f.bare.dp=f.dp/\f.bare.names=f.names
 | .nil,_=>⟨rfl,rfl,rfl,rfl⟩
 | .cons x t r,h=>by
  obtain⟨h1,h2⟩:=Qj.mp (show((AB x&&t.ok)&&r.ok)=true from h);obtain⟨h1,g⟩:=Qj.mp h1;obtain⟨a,b,c,d⟩:=Wd h2;obtain⟨e,j,i⟩:=JD g;exact⟨Qj.mpr ⟨Qj.mpr ⟨h1,e⟩,a⟩,by show t.bare.cnt+r.bare.cnt=_;rw[b,j];rfl,by show max t.bare.dp r.bare.dp=_;rw[c,i];rfl,Ql (x::·) d⟩
end
theorem Ni(h:tg t):tg t.bare:=by
 obtain⟨a,b,c⟩:=JD h.1;exact⟨a,by rw[b];exact h.2.1,by rw[c];exact h.2.2⟩
noncomputable abbrev ou(n:Nat):Spw:=spR (λ(t:Te)ws _=>ws=[t.enc]/\t.ok=true/\t.dp<=n/\t.cnt<=40) λt=>t.bare.enc
theorem CB(T:Tx K mg base a):∀ n:Nat,Df P w K mg base "without_kinds" (n+3) 1 (ou n)
 | 0=>BX T.Ru Bb λh G Q E⟨k,⟨_,_,hd,_⟩,_⟩=>by have:=Ed k;lia
 | n+1=>by
  refine mk0 T.Ru rfl Ts Bb (λh G Q E⟨x,⟨e,_⟩,_⟩=>by rw[e];rfl) (lZ T (BV T) (by lia) (CB T n) (Yr _) (IR T) (by lia) (IS T) (by lia)) λh G Q E l q=>?_;obtain⟨t,⟨rfl,f,hd,hc⟩,q⟩:=q;have s:=Cp t;have u:=CW t;have i:=IK t.parts;refine AG (⟨t,⟨rfl,f,by lia⟩,λp o=>?_⟩);simp only[Ak];refine E0 Ak t.parts none [] (λc b r j=>⟨c,⟨rfl,CZ f c b,by have:=Gz b;lia,by have:=Gy b;lia⟩,j⟩) (by simp only[Yi];exact AZ (by lia)) λp1 g=>?_;rw[show(λt:Te=>t.bare.enc)=Te.enc∘Te.bare from rfl,<- YB];refine⟨t,p1,t.parts.map Te.bare,rfl,Ak,by rw[Yh],f,by lia,?_⟩
  have m:=(V7 f (t.parts.map Te.bare) (by rw[Yh]) λc hc=>by
   obtain⟨d,hd,rfl⟩:=YC.mp hc;exact(JD (CZ f d hd)).1).2
  refine⟨by decide,(t.withPs (t.parts.map Te.bare),.any),⟨rfl,m⟩,?_⟩;dsimp only;rw[ot f];exact l _ _ _ (Bh (AA o) g) q
noncomputable abbrev Nj:Spw:=spR (λ(t:Te)ws _=>ws=[t.enc]/\tg t) λt=>t.bare.enc
theorem JE(T:Tx K mg base a):Df P w K mg base "forgotten" 26 1 Nj:=by
 refine mk0 T.jx rfl Tw Bb (λb G Q E⟨x,⟨e,_⟩,_⟩=>by rw[e];rfl) (l6 T (Ef T) (by lia) (CB T 10) (by lia)) λb G Q E c q=>?_;obtain⟨t,⟨rfl,h⟩,q⟩:=q;exact⟨t,rfl,h,t,⟨rfl,h.1,h.2.2,h.2.1⟩,q⟩
noncomputable abbrev zl(xs ys:List Kd):Bool:=(xs.zip ys).all λp=>A6 9 p.1 p.2
theorem We{a:List Kd}(h:xs.length=ys.length):zl (xs++a) (ys++b)=(zl xs ys&&zl a b):=by
 unfold zl;rw[List.zip_append h,List.all_append]
mutual
def lT:Te->Te->Bool
 | .nd w r,.nd v s=>w==v&&lA r s
def lA:As->As->Bool
 | .nil,.nil=>true
 | .num i r,.num j s|.tru i r,.tru j s|.nam i r,.nam j s=>i==j&&lA r s
 | .knd k r,.knd l s=>A6 9 k l&&lA r s
 | .trm t r,.trm u s=>lT t u&&lA r s
 | .fld f r,.fld g s=>lF f g&&lA r s
 | _,_=>false
def lF:Fl->Fl->Bool
 | .nil,.nil=>true
 | .cons x t r,.cons y u s=>(x==y&&lT t u)&&lF r s
 | _,_=>false
end
noncomputable def TB(b:Bool)(xs ys:List Kd)(c:Bool):Prop:=(b=true->xs.length=ys.length)/\(b&&zl xs ys)=c
theorem TB.no:TB false xs ys false:=⟨λz=>(by cases z),rfl⟩
theorem TB.app{a:Bool}(h:TB a xs ys c)(h':TB b e f d):TB (a&&b) (xs++e) (ys++f) (c&&d):=by
 obtain⟨h1,rfl⟩:=h;obtain⟨h2,rfl⟩:=h';cases a with
 | false=>exact .no
 | true =>
  cases b with
  | false=>rw[Bool.false_and,Bool.and_false,Bool.and_false];exact .no
  | true=>exact⟨λ_=>by rw[Yj,Yj,h1 rfl,h2 rfl],by rw[We (h1 rfl)];rfl⟩
theorem TB.pre(a:Bool)(h:TB b xs ys c):TB (a&&b) xs ys (a&&c):=by
 cases a with
 | false=>exact .no
 | true=>exact h
noncomputable def TB2(b:Bool)(xs ys us vs:List Kd)(c:Bool):Prop:=xs.length=ys.length/\(b=true->us.length=vs.length)/\(b&&(zl xs ys&&zl us vs))=c
theorem TB2.pre(a:Bool)(h:TB2 b xs ys d vs c):TB2 (a&&b) xs ys d vs (a&&c):=by
 obtain⟨h1,h2,rfl⟩:=h;cases a with
 | false=>exact⟨h1,λz=>(by cases z),rfl⟩
 | true=>exact⟨h1,h2,rfl⟩
theorem TB2.kd{a:List Kd}(k l:Kd)(h:TB2 b xs ys a vs c):TB2 b (k::xs) (l::ys) a vs (A6 9 k l&&c):=by
 obtain⟨h1,h2,rfl⟩:=h;refine⟨Ql (·+1) h1,h2,?_⟩;show(b&&((A6 9 k l&&zl xs ys)&&zl a vs))=_;cases b <;> cases A6 9 k l <;> rfl
theorem TB2.app{a:Bool}(h:TB a g vs c)(h':TB2 b xs ys f e d):TB2 (a&&b) xs ys (g++f) (vs++e) (c&&d):=by
 obtain⟨j,h1,h2⟩:=h';subst h2;obtain⟨k,i⟩:=h.app ⟨h1,rfl⟩;refine⟨j,k,?_⟩;cases l:zl xs ys with
 | true=>exact i
 | false=>cases a <;> cases b <;> cases c <;> rfl
theorem TB2.one{a:List Kd}(h:TB2 b xs ys a vs c):TB b (xs++a) (ys++vs) c:=by
 obtain⟨h1,h2,rfl⟩:=h;exact⟨λz=>by rw[Yj,Yj,h1,h2 z],by rw[We h1]⟩
theorem Nk:eqD (.str x) (.str y)=some (x==y):=rfl
mutual
theorem Nl:∀(n:Nat)(t u:Te),t.ok=true->u.ok=true->t.dp<=n->u.dp<=n->∃ b,eqD t.bare.enc u.bare.enc=some b/\TB b (Bo n t) (Bo n u) (lT t u)
 | 0,t,u,_,_,h,_=>by have:=Ed t;lia
 | n+1,.nd w r,.nd v s,h1,h2,i,k=>by
  obtain⟨d,j⟩:=Br h1;obtain⟨f,l⟩:=Br h2;have c:1+r.dp<=n+1:=i;have g:1+s.dp<=n+1:=k;by_cases e:w=v
  ·subst e;obtain⟨b,a,z⟩:=F5 n r s j l (YE (d.symm.trans f)) (by lia) (by lia);exact⟨_,Cr Nk a,z.one.pre _⟩
  ·obtain⟨b,a⟩:=FU r.bare.enc s.bare.enc (DK _) (DK _);refine⟨_,Cr Nk a,?_⟩;show TB _ _ _ (w==v&&lA r s);rw[show(w==v)=false by simpa using e];exact .no
theorem F5:∀(n:Nat)(r s:As),r.ok=true->s.ok=true->r.sorts=s.sorts->r.dp<=n->s.dp<=n->∃ b,A1 r.bare.enc s.bare.enc=some b/\TB2 b r.told s.told (r.parts.flatMap (Bo n)) (s.parts.flatMap (Bo n)) (lA r s)
 | n,.nil,s,_,_,h,_,_=>by
  cases s with
  | nil=>exact⟨true,rfl,rfl,λ_=>rfl,rfl⟩
  | _=>cases h
 | n,.num i r,s,h1,h2,h,c,d=>by
  cases s with
  | num j s =>
   obtain ⟨b,e,z⟩:=F5 n r s (Qj.mp h1).2 (Qj.mp h2).2 (Qk h).2 c d;exact⟨_,Cr rfl e,z.pre _⟩
  | _=>first | exact Qo (Qk h).1 (by decide +kernel)| cases h
 | n,.tru i r,s,h1,h2,h,c,d=>by
  cases s with
  | tru j s =>
   obtain⟨b,e,z⟩:=F5 n r s h1 h2 (Qk h).2 c d;exact⟨_,Cr rfl e,z.pre _⟩
  | _=>first | exact Qo (Qk h).1 (by decide +kernel)| cases h
 | n,.nam i r,s,h1,h2,h,c,d=>by
  cases s with
  | nam j s =>
   obtain ⟨b,e,z⟩:=F5 n r s (Qj.mp h1).2 (Qj.mp h2).2 (Qk h).2 c d;exact⟨_,Cr rfl e,z.pre _⟩
  | _=>first | exact Qo (Qk h).1 (by decide +kernel)| cases h
 | n,.knd k r,s,h1,h2,h,c,d=>by
  cases s with
  | knd l s =>
   obtain ⟨b,e,z⟩:=F5 n r s (Qj.mp h1).2 (Qj.mp h2).2 (Qk h).2 c d;exact⟨_,Cr (a:=true) (by decide +kernel) e,z.kd k l⟩
  | _=>first | exact Qo (Qk h).1 (by decide +kernel)| cases h
 | n,.trm t r,s,h1,h2,h,c,d=>by
  cases s with
  | trm u s =>
   have p:max t.dp r.dp<=n:=c;have m:max u.dp s.dp<=n:=d;obtain⟨b,e,z⟩:=F5 n r s (Qj.mp h1).2 (Qj.mp h2).2 (Qk h).2 (by lia) (by lia);obtain⟨v,q,o⟩:=Nl n t u (Qj.mp h1).1 (Qj.mp h2).1 (by lia) (by lia);exact⟨_,Cr q e,TB2.app o z⟩
  | _=>first | exact Qo (Qk h).1 (by decide +kernel)| cases h
 | n,.fld f r,s,h1,h2,h,c,d=>by
  cases s with
  | fld g s =>
   have p:max f.dp r.dp<=n:=c;have m:max g.dp s.dp<=n:=d;obtain⟨b,e,z⟩:=F5 n r s (Qj.mp h1).2 (Qj.mp h2).2 (Qk h).2 (by lia) (by lia);obtain⟨v,q,o⟩:=Wf n f g (Qj.mp (Qj.mp h1).1).2 (Qj.mp (Qj.mp h2).1).2 (by lia) (by lia);refine⟨_,Cr q e,?_⟩;show TB2 _ _ _ ((f.terms++r.parts).flatMap _) ((g.terms++s.parts).flatMap _) _;rw[List.flatMap_append,List.flatMap_append];exact TB2.app o z
  | _=>first | exact Qo (Qk h).1 (by decide +kernel)| cases h
theorem Wf:∀(n:Nat)(f g:Fl),f.ok=true->g.ok=true->f.dp<=n->g.dp<=n->∃ b,A1 f.bare.enc g.bare.enc=some b/\TB b (f.terms.flatMap (Bo n)) (g.terms.flatMap (Bo n)) (lF f g)
 | n,.nil,.nil,_,_,_,_=>⟨true,rfl,λ_=>rfl,rfl⟩
 | n,.nil,.cons _ _ _,_,_,_,_|n,.cons _ _ _,.nil,_,_,_,_=>⟨false,rfl,.no⟩
 | n,.cons x t r,.cons y u s,h1,h2,h,i=>by
  have p:max t.dp r.dp<=n:=h;have d:max u.dp s.dp<=n:=i;obtain⟨c,k⟩:=Qj.mp (show((AB x&&t.ok)&&r.ok)=true from h1);obtain⟨o,j⟩:=Qj.mp (show((AB y&&u.ok)&&s.ok)=true from h2);obtain⟨b,e,z⟩:=Wf n r s k j (by lia) (by lia);obtain⟨a,q,m⟩:=Nl n t u (Qj.mp c).2 (Qj.mp o).2 (by lia) (by lia)
  have l:eqD (.tup [.str x,t.bare.enc]) (.tup [.str y,u.bare.enc])=some (x==y&&a):=by
   rw[<- Bool.and_true a];exact Cr Nk (Cr q rfl)
  exact⟨_,Cr l e,(m.pre _).app z⟩
end
theorem Wg(a:PT x)(c:PT y)(e:eqD x y=some b)(G:Hw):eqF neg x y G=some (.bl (b != neg)):=by
 obtain⟨xs,rfl,_,h2⟩:=a;obtain⟨ys,rfl,_⟩:=c;show(if L3.dpL xs < 90 then A1 xs ys else none).map _=_;rw[if_pos h2,show A1 xs ys=some b from e];rfl
theorem Nn:∀(n:Nat){t:Te},t.ok=true->∀ k∈Bo n t,k.ok=true/\k.dp<=8
 | 0,t,_,k,a=>by cases a
 | n+1,.nd w r,h,k,a=>by
  rcases Yz.mp (a)with a | a
  ·exact(B3 (aR h) k a).imp_right (·.2)
  ·obtain⟨c,hc,a⟩:=List.mem_flatMap.mp a;exact Nn n (CZ h c hc) k a
noncomputable abbrev JF:Spw:=spR (λ(x:Te×Te)ws _=>ws=[x.1.enc,x.2.enc]/\tg x.1/\tg x.2) λx=>.bl (lT x.1 x.2)
theorem JG(T:Tx K mg base a):Df P w K mg base "less_term" 31 2 JF:=by
 refine mk0 T.jy rfl TC Bb (λws G Q E⟨x,⟨e,_⟩,_⟩=>by rw[e];rfl) (md T (Ef T) (by lia) (CB T 10) (by lia) (Ee T 10) (by lia) (C1 T 9) (by lia)) λws G Q E hC q=>?_;obtain⟨⟨t,u⟩,⟨rfl,h1,h2⟩,q⟩:=q;dsimp only at h1 h2 q;obtain⟨b,e,z1,z2⟩:=Nl 10 t u h1.1 h2.1 h1.2.2 h2.2.2;unfold TD;walk_at "k3";refine⟨t,rfl,h1,u,rfl,h2,t,⟨rfl,h1.1,h1.2.2,h1.2.1⟩,u,⟨rfl,h2.1,h2.2.2,h2.2.1⟩,?_⟩;dsimp only;rw[Wg (FX (Ni h1)) (FX (Ni h2)) e];cases b with
 | false=>rw[show lT t u=false from z2.symm]at q;exact q
 | true =>
  rw[show lT t u=zl (Bo 10 t) (Bo 10 u)from z2.symm]at q;have l1:=MD 10 t h1.1;have c1:=h1.2.1;simp only[AM,B8,Aa,Ac];refine⟨t,⟨rfl,h1.1,h1.2.2,by lia⟩,λp hp=>⟨u,⟨rfl,h2.1,h2.2.2,by have:=h2.2.1;lia⟩,λp' hp'=>?_⟩⟩;have r1:rdL (put (put G p (.lst ((Bo 10 t).map Kd.enc))) p' (.lst ((Bo 10 u).map Kd.enc))) (.ref p)=some ((Bo 10 t).map Kd.enc):=FE (AA hp' _ _ Ak);have r2:rdL (put (put G p (.lst ((Bo 10 t).map Kd.enc))) p' (.lst ((Bo 10 u).map Kd.enc))) (.ref p')=some ((Bo 10 u).map Kd.enc):=FE Ak;have s3:=Bh (o:=.lst ((Bo 10 u).map Kd.enc)) (AA hp) hp';simp only[r1,r2];refine Nb ⟨r1,r2⟩ hC (by lia) (λx hx Q' q' z=>?_) (hC _ _ _ s3 q);have m1:=List.of_mem_zip hx;have k1:=Nn 10 h1.1 _ m1.1;exact⟨x,⟨rfl,k1.1,(Nn 10 h2.1 _ m1.2).1,by lia⟩,q'⟩
abbrev Wh:List Str:=["one","other","rest","good"]
theorem Wi:Ay Wh ["one","other"] (Ap Mh):=by walk_at "s"
noncomputable def ow(Ds:Spw)(Dr:Spw):GS:=(Af (gIf (AF rV (AF (AI (AR "tuple" f4)) (AF (gTB (Ad (AV λi j=>decide (j < i)) rR eq)) (gTB (Ad (Ae (eqF false)) rR (gB (rF AK) re)))))) (Af (gIf (AF (gTB (Ad (Ae inT) ad rP)) (gTB (Ad (Ae eqP) on ad))) (Af (Al 2 (Bd (FD (Aa dl (Aa rR Ac))) 1 [] (gNm 0) (gTB (Ad (Ae (eqF true)) ef h8)) ef)) (Af (Al 3 (gB (rF Be) (Aa (Bd (Ax kw) 1 [0,1] (gNm 0) AC (Ag Ds XF (Aa (Ad (Ae ixW) f4 ef) (Aa (Ad (Ae ixW) kw ef) Ac)))) Ac))) (Ai (Bu sm (Ag Dr XF (Aa rL (Aa su Ac))))))) Aj) (Ai (gB (rF Be) (Aa (AM (BS si) 2 (AJ 0 1) AC (Ag Ds XF si)) Ac)))) Aj) (Ai (Bu (Ad (Ae eqP) ef f4) (Ad (Ae (eqF false)) (AR "bool" ef) (AR "bool" f4)))))
theorem oy(T:Tx K mg base a)(oz:Df P w K mg base "_law_less_term" Ey 2 Ds)(oA:Ey<=k){Ex:Nat}(n9:Df P w K mg base "_law_less" Ex 2 Dr)(oa:Ex<=k):Dn P w K mg base Wh "_law_less_term" Mh k (ow Ds Dr):=by
 have hN:=Wi.nd;walk_at "z"
abbrev Wj:List Str:=["term"]
theorem Wl:Ay Wj ["term"] (Ap Mi):=by walk_at "s"
noncomputable def oB(CH:Spw):GS:=(Af (gIf rN (Ai (Ah (Aa sg (Aa (gB (rF Bv) (Aa (AM (DW hH) 2 (AJ 0 1) AC (Ah (Aa ef (Aa (Ag CH XF re) Ac)))) Ac)) Ac)))) Aj) (Af (gIf (gTB (Ad (Ae (eqF false)) ad sK)) (Ai (Ah (Aa sK (Aa (Ag CH XF (Aa hH Ac)) (Aa na Ac))))) Aj) (Af (gIf (gTB (Ad (Ae (eqF false)) ad sI)) (Ai (Ah (Aa sI (Aa hH (Aa na (Aa (Ag CH XF (Aa (Ad (Ae ixW) ef rT) Ac)) Ac)))))) Aj) (Ai (gB (rF Bv) (Aa (AM (Ax ef) 1 (gNm 0) AC (By rV (Ag CH XF ln) ef)) Ac))))))
theorem oD(T:Tx K mg base a)(oE:Df P w K mg base "_law_all_any" Ez 1 CH)(oF:Ez<=k):Dn P w K mg base Wj "_law_all_any" Mi k (oB CH):=by
 have hN:=Wl.nd;walk_at "z"
abbrev Wn:List Str:=["term"]
theorem Wo:Ay Wn ["term"] (Ap Mj):=by walk_at "s"
noncomputable def oG(DL:Spw):GS:=(Af (gIf (gTB (Ad (Ae (eqF false)) ad sI)) (Ai (Ad (Aw) (Ah (Aa sI (Aa (gC (.str "w")) Ac))) (AE ef (Av h8) Au))) Aj) (Af (gIf (gTB (Ad (Ae (inF false)) ad (An (Aa (gC (.str "get")) (Aa (gC (.str "or")) Ac))))) (Ai (Ad (Aw) (Ad (Aw) (AE ef Au (Av h8)) (Ah (Aa (gC (.str "zz")) Ac))) (AE ef (Av rT) Au))) Aj) (Af (gIf (AF rN (gTB (Ad (Ae (eqF true)) hH (Ah Ac)))) (Ai (Ah (Aa sg (Aa (Ad (Aw) (AE hH Au (Av (EV dl))) (Ah (Aa (Ah (Aa (gC (.str "zz")) (Aa (Ad (Ae ixW) (Ad (Ae ixW) hH (EV dl)) dl) Ac))) Ac))) Ac)))) Aj) (Af (gIf (gTB (Ad (Ae (inF false)) ad (An (Aa sh (Aa so (Aa rW (Aa sg Ac))))))) (Ai ef) Aj) (Ai (Ad (Aw) (Ad (Aw) (AE ef Au (Av dl)) (Ah (Aa (Ag DL XF (Aa hH Ac)) Ac))) (AE ef (Av h8) Au)))))))
theorem oH(T:Tx K mg base a)(oI:Df P w K mg base "_law_other_name" EA 1 DL)(oJ:EA<=k):Dn P w K mg base Wn "_law_other_name" Mj k (oG DL):=by
 have hN:=Wo.nd;walk_at "z"
abbrev Wp:List Str:=["state","term","way","at","some"]
theorem Wq:Ay Wp ["state","term"] (Ap Mk):=by walk_at "s"
noncomputable def oK(Aq:Spw)(AY:Spw)(Dq:Spw)(Dt:Spw):GS:=(Af (Al 2 (Ag Aq XF sD)) (Af (gIf (AF (gTB (Ad (Ae (inF false)) on rP)) (gTB (Ad (Ba (λi j=>decide (i < j)) AW) kw rT))) (Af (Al 4 (An (Aa (Ag AY XF (Aa ef sE)) (Aa (Ag Dq XF (Aa ef (Aa su sE))) Ac)))) (Ai (Ad (Aw) (Ad (Aw) (AE f4 Au (Av h8)) (Ah (Aa (Ad (Ae ixW) se (Ag Aq XF (Aa ef sx))) Ac))) (AE f4 (Av rT) Au)))) Aj) (Af (gIf (gTB (Ad (Ae (eqF false)) kw rT)) (Ai (Ad (Ae ixW) (An (Aa (Ah (Aa sh (Aa (gC (.int 7)) Ac))) (Aa (Ah (Aa so (Aa rY Ac))) (Aa (Ah (Aa rW (Aa (gC (.str "y")) Ac))) (Aa (Ah (Aa (gC (.str "new")) re)) Ac))))) (Ag Aq XF sk))) Aj) (Af (gIf (gOr (gTB (Ad (Ae (eqF false)) on sh)) (gOr (gTB (Ad (Ae (eqF false)) on so)) (gTB (Ad (Ae (eqF false)) on rW)))) (Ai f4) Aj) (Af (gIf (gTB (Ad (Ae (eqF false)) on sg)) (Ai (Ah (Aa sg (Aa (gB (rF Bv) (Aa (Bd (DW sj) 2 [0] (AJ 0 1) AC (Ah (Aa ef (Aa (Ag Dt XF (Aa kw re)) Ac)))) Ac)) Ac)))) Aj) (Af (Al 3 (gMt ET ES (HR sI rT sK dl) (Aa on sE))) (Ai (Ad (Aw) (Ad (Aw) (AE f4 Au (Av sm)) (Ah (Aa (Ag Dt XF (Aa ef (Aa (Ad (Ae ixW) f4 sm) Ac))) Ac))) (AE f4 (Av (Ad (Aw) sm dl)) Au)))))))))
theorem oM(T:Tx K mg base a){AO:Nat}(Dh:Df P w K mg base "_law_take" AO 2 Aq)(Di:AO<=k){Bp:Nat}(GN:Df P w K mg base "_law_kind" Bp 2 AY)(GP:Bp<=k){Eu:Nat}(nZ:Df P w K mg base "_law_near" Eu 3 Dq)(n0:Eu<=k)(oN:Df P w K mg base "_law_turned" EB 2 Dt)(oO:EB<=k):Dn P w K mg base Wp "_law_turned" Mk k (oK Aq AY Dq Dt):=by
 have hN:=Wq.nd;walk_at "z"
noncomputable abbrev Wr:List Str:=["script","state","term","other","k","size","named","first","second","some","found"]
theorem Ws:Ay Wr ["script"] (Ap FI):=by walk_at "s"
abbrev sT:=gNt (AI (AR "bool" (Ab 10)))
abbrev sH:=gTB (Ad (Ae (eqF true)) (Ab 9) (An Ac))
abbrev sC:=Aa f4 (Aa (gB (rF AK) (Aa (Ab 9) Ac)) Ac)
abbrev sf:=Aa (Ab 7) (Aa (Ab 8) Ac)
noncomputable def oP(JH:Spw)(AY:Spw)(JI:Spw)(Aq:Spw)(Dk:Spw)(Dt:Spw)(Cc:Spw)(DL:Spw)(Hb:Spw)(Ds:Spw)(Hd:Spw)(CH:Spw):GS:=(Af (Al 1 (Ag JH XF (Aa ef sV))) (Af (Al 2 (Ag JI XF (Aa f4 (Aa (Ag AY XF (Aa f4 sE)) Ac)))) (Af (Al 3 kw) (Af (AN (Dd (Aa (Ag Aq XF (Aa f4 (Aa (gC (.int 6)) Ac))) Ac)) (gNm 4) (Af (Al 9 (Ag Dk XF rK)) (gIf sH (Al 3 (Ad (Ae ixW) (Ab 9) (Ag Aq XF sC))) Aj))) (Af (gIf (gTB (Ad (Ae (eqF false)) (Ag Aq XF (Aa f4 sx)) eq)) (Al 3 (Ag Dt XF (Aa f4 rK))) Aj) (Af (Al 5 (Ag Cc XF rK)) (Af (gIf (gOr (gTB (Ad (AV λi j=>decide (j < i)) (Ad (Ae ixW) sG eq) sS)) (gTB (Ad (AV λi j=>decide (j < i)) (Ad (Ae ixW) sG dl) (gC (.int 10))))) (Al 3 kw) Aj) (Af (Al 6 (Ag DL XF rM)) (Af (AN (DW (An (Aa (Ah (Aa kw rK)) (Aa (Ah (Aa sm rM)) (Aa (Ah (Aa kw rM)) (Aa (Ah (Aa sF rM)) (Aa (Ah (Aa kw (Aa sF Ac))) Ac))))))) (AJ 7 8) (Af (Al 10 (Ag Hb XF sf)) (gIf (gOr sT (gTB (Ad (Ae (eqF true)) (Ab 10) (Ag Ds XF sf)))) le Aj))) (Ai (Bu (Ad (Ae (eqF false)) (Ag Hd XF rM) (Ag CH XF rM)) (Ad (Ae isT) (Ag Hb XF (Aa (Ag Hd XF rM) rM)) rY))))))))))))
theorem oQ(T:Tx K mg base a){IZ:Nat}(rz:Df P w K mg base "_law_state" IZ 2 JH)(rA:IZ<=k){Bp:Nat}(GN:Df P w K mg base "_law_kind" Bp 2 AY)(GP:Bp<=k){JC:Nat}(rB:Df P w K mg base "_law_drawn" JC 2 JI)(rD:JC<=k){AO:Nat}(Dh:Df P w K mg base "_law_take" AO 2 Aq)(Di:AO<=k){Ej:Nat}(mE:Df P w K mg base "_law_less_terms" Ej 1 Dk)(mF:Ej<=k)(oN:Df P w K mg base "_law_turned" EB 2 Dt)(oO:EB<=k){CD:Nat}(T8:Df P w K mg base "_law_size" CD 1 Cc)(T9:CD<=k)(oI:Df P w K mg base "_law_other_name" EA 1 DL)(oJ:EA<=k){JG:Nat}(rE:Df P w K mg base "less_term" JG 2 Hb)(rG:JG<=k)(oz:Df P w K mg base "_law_less_term" Ey 2 Ds)(oA:Ey<=k){JE:Nat}(rH:Df P w K mg base "forgotten" JE 1 Hd)(rJ:JE<=k)(oE:Df P w K mg base "_law_all_any" Ez 1 CH)(oF:Ez<=k)(hr:Room k (A.deeper (envOfC "law" (Ap FI) s.heap.objs.size f cdv))):Ssm (cxW P w K mg base Wr "law" (Ap FI) f cdv A outer s H E).nox (λB=>B=H) (B4 FI) (oP JH AY JI Aq Dk Dt Cc DL Hb Ds Hd CH):=
 have hu:=KN hr
 have hN:=Ws.nd
 (by walk_at "v")
def JJ:W->Bool
 | .bl _=>true
 | _=>false
noncomputable def STp(x y:W):Prop:=∃ a b xs ys,x=.tup (a::xs)/\y=.tup (b::ys)/\xs.length=ys.length
inductive Z3(F:W->W->Bool->Prop):List W->List W->List Bool->Prop
 | nil:Z3 F [] [] []
 | cons {x y:W} {c:Bool} {xs ys:List W} {cs:List Bool}:F x y c->Z3 F xs ys cs->Z3 F (x::xs) (y::ys) (c::cs)
def FAh(h:W):Prop:=h=.str "fun"\/h=.str "as"
noncomputable def LR:Nat->W->W->Bool->Prop
 | 0,_,_,_=>False
 | n+1,x,y,c=>(plW x=true/\plW y=true/\¬ STp x y/\∃ b,(∀ G,eqP x y G=some (.bl b))/\c=(b&&(JJ x==JJ y)))\/
  (∃ h x1 y1 k l xs ys cs,x=.tup (h::x1::Kd.enc k::xs)/\y=.tup (h::y1::Kd.enc l::ys)/\FAh h/\(k.ok=true/\l.ok=true/\k.dp<=8)/\xs.length<=1/\Z3 (LR n) (x1::xs) (y1::ys) cs/\c=(cs.all id&&A6 9 k l))\/
  ∃ a b xs ys cs,x=.tup (a::xs)/\y=.tup (b::ys)/\(FAh a->a≠b)/\plW a=true/\plW b=true/\xs.length<=1000/\Z3 (LR n) (a::xs) (b::ys) cs/\c=cs.all id
theorem Z3.len(h:Z3 F xs ys cs):xs.length=ys.length/\cs.length=xs.length:=by
 induction h with
 | nil=>exact⟨rfl,rfl⟩
 | cons _ _ a=>exact⟨Ql (·+1) a.1,Ql (·+1) a.2⟩
noncomputable abbrev He(n:Nat):Spw:=spR (λ(z:W×W×Bool)ws _=>ws=[z.1,z.2.1]/\LR n z.1 z.2.1 z.2.2) λz=>.bl z.2.2
theorem Wt:∀{xs ys:List W}{cs:List Bool}(o o':Option W)(a:List Bool),Z3 (LR n) xs ys cs->a.length+xs.length<=2000->R ((a++cs).map W.bl) G->AU yes (AJ 0 1) AC (Ag (He n) XF si) R (Bm xs ys) [o,o'] G (a.map W.bl)
 | [],[],[],o,o',a,_,_,r=>⟨trivial,by rw[Yx]at r;exact r⟩
 | x::xs,y::ys,c::cs,o,o',a,h,hl,r=>by
  cases h with
  | cons h1 h2 =>
  rw[Yg]at hl;refine⟨trivial,by rw[Yh];exact Bf (by lia),(x,y,c),⟨rfl,h1⟩,?_⟩;have z:=Wt (some x) (some y) (a++[c]) h2 (by rw[Yj];simp only[Yg,Yi];lia) (by rw[Yv];exact r);rw[Yy]at z;exact z
 | [],_::_,_,_,_,_,h,_,_|_::_,[],_,_,_,_,h,_,_|[],[],_::_,_,_,_,h,_,_|_::_,_::_,[],_,_,_,h,_,_=>by cases h
theorem oR{cs:List Bool}:Be [.ref p] (put G p (.lst (cs.map W.bl)))=some (.bl (cs.all id)):=by
 unfold Be;simp only [CJ Ak,Option.bind_some,F6,YD]
theorem Np{cs:List Bool}(q:Z (.bl (cs.all id))):opt (Be [.ref p] (put G p (.lst (cs.map W.bl)))) Z:=by rw[oR];exact q
theorem Wu{a:W}(h:plW a=true)(c:G p=some (.lst [.str "fun",.str "as"])):∃ b,inT a (.ref p) G=some (.bl b)/\(b=true↔FAh a):=by
 have e:inT a (.ref p) G=(FA a [.str "fun",.str "as"]).map .bl:=by
  unfold inT rdL;simp only[c,Option.bind_some]
 rw[e];cases a with
 | str s =>
  refine⟨("fun"==s||("as"==s||false)),rfl,?_⟩;unfold FAh;simp only[Bool.or_false,Bool.or_eq_true,beq_iff_eq,W.str.injEq];exact⟨λz=>z.imp Eq.symm Eq.symm,λz=>z.imp Eq.symm Eq.symm⟩
 | bl s|int s|tup s=>exact⟨false,rfl,λz=>(by cases z),λz=>by rcases z with z | z <;> cases z⟩
 | _=>cases h
theorem Wv{a:W}(h:FAh a)(d:plW b=true)(G:Hw):∃ c,eqP b a G=some (.bl c)/\(c=true↔a=b):=by
 obtain⟨s,rfl⟩:∃ s,a=.str s:=h.elim (λz=>⟨_,z⟩) (λz=>⟨_,z⟩);cases b with
 | str s' =>
  refine⟨s'==s,by show some (W.bl ((s'==s) != false))=_;cases(s'==s) <;> rfl,?_⟩;simp only[beq_iff_eq,W.str.injEq];exact⟨Eq.symm,Eq.symm⟩
 | bl s|int s|tup s=>exact⟨false,rfl,λz=>(by cases z),λz=>(by cases z)⟩
 | _=>cases d
noncomputable abbrev Nq:GT:=AF rV (AF (AI (AR "tuple" f4)) (AF (gTB (Ad (AV λi j=>decide (j < i)) rR eq)) (gTB (Ad (Ae (eqF false)) rR (gB (rF AK) re)))))
theorem oS(c:plW x=true)(g:plW y=true)(h:¬ STp x y)(q:Z false G):Nq [some x,some y,f,d] G Z:=by
 cases x with
 | str s|bl s|int s=>exact Eq.mpr (by kernel_rfl) q
 | tup xs =>
  cases y with
  | str s|bl s|int s=>exact Eq.mpr (by kernel_rfl) q
  | tup ys =>
   simp only[AF,gTB,Ad,gB,rF,Ae,AK,B7,tyN,lB,B5,Ab,Aa,Ac,Yb,Yc,Ao,BD,if_true];refine Bk (λz=>?_) (λ_=>q);have c:=Qm z
   rw[show(((xs.length:Int)==(ys.length:Int)) != false)=false by
    cases xs with
    | nil=>cases c
    | cons a xs =>
     cases ys with
     | nil=>rfl
     | cons b ys =>
      have:((a::xs).length:Int)≠(b::ys).length:=λe=>h ⟨a,b,xs,ys,rfl,rfl,by simp only[Yg]at e;lia⟩;simpa using this]
   exact q
  | _=>cases g
 | _=>cases c
theorem Ww{a:W}(h:xs.length=ys.length)(q:Z true G):Nq [some (.tup (a::xs)),some (.tup (b::ys)),d,c] G Z:=by
 simp only[AF,AI,gTB,AR,Ad,gB,rF,AV,Ae,AK,B7,Ab,gC,Aa,Ac,Yb,Yc,Ao,BD];rw[if_pos (YG (by simp only[Yg];lia)),show((((a::xs).length:Int)==((b::ys).length:Int)) != false)=true by simp[h]];exact q
theorem Nr{rest:GS}(h:c ω G λb a=>if b=true then A ⟨rest D,D.rt,D.bk,D.ct⟩ ω a else rest D ω a):Af (gIf c A Aj) rest D ω G:=h
theorem oU(a:ω[0]?=some (some x))(h1:ω[1]?=some (some y))(b:plW x=true)(c:plW y=true)(q:Q (.bl (JJ x==JJ y)) G):Ad (Ae (eqF false)) (AR "bool" ef) (AR "bool" f4) ω G Q:=by
 simp only[Ad,AR,Ab,a,h1];cases x <;> first |(cases b;done)| skip
 all_goals cases y <;> first |(cases c;done)| exact Eq.mpr (by kernel_rfl) q
theorem Ey(T:Tx K mg base a):∀ n:Nat,Df P w K mg base "_law_less_term" (n+10) 2 (He n)
 | 0=>BX T.RE Bb λws G Q E⟨x,⟨_,h⟩,_⟩=>h
 | n+1=>by
  refine mk0 T.RE rfl Wi Bb (λws G Q E⟨x,⟨e,_⟩,_⟩=>by rw[e];rfl) (oy T (Ey T n) (Yr _) (Ex T 9 (by lia)) (by lia)) λws G Q E hC q=>?_;obtain⟨⟨x,y,c⟩,⟨rfl,h⟩,q⟩:=q;dsimp only at h q;show Af (gIf Nq _ Aj) _ (AH Q) [some x,some y,none,none] G;rcases h with⟨p1,p2,ns,b,e,rfl⟩|⟨h,x1,y1,k,l,xs,ys,cs,rfl,rfl,hf,⟨k1,l1,k2⟩,hl,hz,rfl⟩|⟨u,v,xs,ys,cs,rfl,rfl,hf,pu,pv,hl,hz,rfl⟩
  ·refine Nr (oS p1 p2 ns ?_);show opt (eqP x y G) _;rw[e,Ao];cases b with
   | true=>exact oU rfl rfl p1 p2 q
   | false=>exact q
  ·have hlen:=hz.len.1;refine Nr (Ww (Ql (·+1) hlen) ?_);walk_at "k4";refine⟨by decide,λp hp=>?_⟩;have ph:plW h=true:=by rcases hf with rfl | rfl <;> rfl
   obtain⟨b,e,i⟩:=Wu ph Ak;rw[e,Ao,i.mpr hf];obtain⟨c,e2,i2⟩:=Wv hf ph (put G p (.lst [.str "fun",.str "as"]));rw[e2,Ao,i2.mpr rfl];have hs:=AA (o:=.lst [.str "fun",.str "as"]) hp;generalize put G p (.lst [.str "fun",.str "as"])=G1 at hs ⊢
   have fin:∀(o2:Option W)(G2:Hw),Sub G G2->Bu sm (Ag (Et 9) XF (Aa rL (Aa su Ac))) [some (.tup (h::x1::k.enc::xs)),some (.tup (h::y1::l.enc::ys)),o2,some (.bl (cs.all id))] G2 Q:=λo2 G2 s2=>by
    simp only[Bu,Ag,Ad,Ae,Ab,gC,Aa,Ac,Yb,Yc,ixW,Cm,Ao];cases hc:cs.all id with
    | true=>rw[hc]at q;exact⟨(k,l),⟨rfl,k1,l1,by dsimp only;lia⟩,hC _ _ _ s2 q⟩
    | false=>rw[hc]at q;exact hC _ _ _ s2 q
   cases hz with
   | cons z1 z2 =>
   cases z2 with
   | nil =>
    refine⟨1,3,rfl,by decide,?_⟩;show AU yes (gNm 0) _ _ _ [.int 1,.int 2] _ G1 [];simp only[AU,gNm,gTB,Ad,Ae,Ab,gC,BD,Ao,Yk,Yb];exact⟨trivial,by decide,(if_pos (by decide)).mpr ⟨trivial,(by decide),(if_neg (by decide)).mpr ⟨trivial,λp2 hp2=>⟨Ak,by decide,(x1,y1,_),⟨rfl,z1⟩,Ak,λp3 hp3=>Np (cs:=[_]) (fin _ _ (Bh (Bh hs hp2) hp3))⟩⟩⟩⟩
   | cons z3 z4 =>
    cases z4 with
    | nil =>
     refine⟨1,4,rfl,by decide,?_⟩;show AU yes (gNm 0) _ _ _ [.int 1,.int 2,.int 3] _ G1 [];simp only[AU,gNm,gTB,Ad,Ae,Ab,gC,BD,Ao,Yk,Yb];exact⟨trivial,by decide,(if_pos (by decide)).mpr ⟨trivial,(by decide),(if_neg (by decide)).mpr ⟨trivial,(by decide),(if_pos (by decide)).mpr ⟨trivial,λp2 hp2=>⟨Ak,by decide,(x1,y1,_),⟨rfl,z1⟩,Ak,(show 1 < sizeLine by decide),(_,_,_),⟨rfl,z3⟩,Ak,λp3 hp3=>Np (cs:=[_,_]) (fin _ _ (Bh (Bh hs hp2) hp3))⟩⟩⟩⟩⟩
    | cons _ _=>exact Qo hl (by simp only[Yg];lia)
  ·have hlen:=hz.len.1;refine Nr (Ww (Nat.succ.inj hlen) ?_);walk_at "k4";refine⟨by decide,λp hp=>?_⟩;obtain⟨b,e,i⟩:=Wu pu Ak;rw[e,Ao];have hs:=AA (o:=.lst [.str "fun",.str "as"]) hp
   have fin:Ai (gB (rF Be) (Aa (AM (BS si) 2 (AJ 0 1) AC (Ag (He n) XF si)) Ac)) (AH Q) [some (.tup (u::xs)),some (.tup (v::ys)),none,none] (put G p (.lst [.str "fun",.str "as"])):=by
    exact⟨u::xs,v::ys,rfl,Wt none none [] hz (by simp only[Yi,Yg];lia) λp1 hp1=>Np (hC _ _ _ (Bh hs hp1) q)⟩
   cases b with
   | false=>exact fin
   | true =>
    obtain⟨c,e2,i2⟩:=Wv (i.mp rfl) pv (put G p (.lst [.str "fun",.str "as"]));rw[e2,Ao];cases c with
    | true=>exact Qo (i2.mp rfl) (hf (i.mp rfl))
    | false=>exact fin
theorem oV:(AT.all λp=>(decide (p.1="fun")&&decide (p.2=[("name":Str),"kind","term"]))||((decide (p.1="as")&&decide (p.2=[("term":Str),"kind"]))||(!decide (p.1="fun")&&!decide (p.1="as")&&!p.2.contains ("kind":Str))))=true:=by decide +kernel
theorem JK{w:Str}{r:As}(h:KTD.datumAt w AT=some r.sorts):(w="fun"/\∃ x k t,r=.nam x (.knd k (.trm t .nil)))\/(w="as"/\∃ t k,r=.trm t (.knd k .nil))\/(¬ FAh (.str w)/\("kind":Str)∉r.sorts):=by
 have h1:=List.all_eq_true.mp oV _ (GF h);simp only[Bool.or_eq_true,YF,Bool.not_eq_true',YQ,decide_eq_false_iff_not]at h1;rcases h1 with⟨a,b⟩|⟨a,b⟩|⟨⟨a,b⟩,c⟩
 ·obtain⟨x,r1,rfl,d⟩:=FN b;obtain⟨k,f,rfl,e⟩:=FO d;obtain⟨t,i,rfl,g⟩:=C3 e;rw[C2 g];exact .inl ⟨a,x,k,t,rfl⟩
 ·obtain⟨t,r1,rfl,d⟩:=C3 b;obtain⟨k,f,rfl,e⟩:=FO d;rw[C2 e];exact .inr (.inl ⟨a,t,k,rfl⟩)
 ·refine .inr (.inr ⟨λz=>?_,λz=>?_⟩)
  ·rcases z with z | z
   ·exact a (W.str.inj z)
   ·exact b (W.str.inj z)
  ·rw[List.contains_iff_mem.mpr z]at c;cases c
noncomputable def FAs(xs:List W):Prop:=∀ h rest,xs=h::rest->FAh h->∃ x1 k r,rest=x1::Kd.enc k::r/\r.length<=1/\k.ok=true/\k.dp<=8
theorem FAs.no(n:¬ FAh h):FAs (h::xs):=λh' rest e z=>by
 injection e with e;subst e;exact Qo z n
theorem E9{s:Str}(h:s≠"fun"/\s≠"as"):¬ FAh (.str s):=λz=>z.elim (λz=>h.1 (W.str.inj z)) (λz=>h.2 (W.str.inj z))
theorem Nt(h:AB s=true):¬ FAh (.str s):=E9 ((by decide +kernel:∀ s∈Nms,s≠"fun"/\s≠"as") s (Qm h))
mutual
def tw:W->Prop
 | .str _|.bl _|.int _=>True
 | .tup xs=>FAs xs/\xs.length<=1000/\twL xs
 | _=>False
def twL:List W->Prop
 | []=>True
 | x::xs=>tw x/\twL xs
end
mutual
theorem CI:∀ x:W,tw x->plW x=true
 | .str _,_|.bl _,_|.int _,_=>rfl
 | .tup xs,h=>JL xs h.2.2
 | .non,h|.rol _,h|.ref _,h=>Qo h id
theorem JL:∀ xs:List W,twL xs->plL xs=true
 | [],_=>rfl
 | x::xs,h=>Qj.mpr ⟨CI x h.1,JL xs h.2⟩
end
theorem oW(c:plW x=true)(a:plW y=true)(hd:dpW x<=90):∃ b,∀ G,eqP x y G=some (.bl b):=by
 cases x with
 | tup xs =>
  cases y with
  | tup ys =>
   obtain⟨b,e⟩:=FU xs ys c a;have d:L3.dpL xs+1<=90:=hd;refine⟨b != false,λG=>?_⟩;show(if L3.dpL xs < 90 then A1 xs ys else none).map _=_;rw[if_pos (by lia),e];rfl
  | _=>first | exact⟨_,λG=>rfl⟩| cases a
 | str s|bl s|int s=>cases y <;> first | exact⟨_,λG=>rfl⟩| cases a
 | _=>cases c
theorem JM(a:plW x=true)(d:plW y=true)(hd:dpW x<=90)(h:¬ STp x y):∃ c,LR (n+1) x y c:=by
 obtain⟨b,e⟩:=oW a d hd;exact⟨_,.inl ⟨a,d,h,b,e,rfl⟩⟩
theorem F0(h:∀ xs,x≠.tup xs):¬ STp x y:=λ⟨_,_,_,_,e,_⟩=>h _ e
mutual
theorem oX:∀(n:Nat)(x y:W),tw x->tw y->dpW x<=n->n<=90->∃ c,LR (n+1) x y c
 | n,.str s,y,i,d,hd,p|n,.bl s,y,i,d,hd,p|n,.int s,y,i,d,hd,p=>JM rfl (CI y d) (YV _) (F0 λ_ e=>by cases e)
 | n,.tup xs,y,i,d,hd,p=>by
  have v:L3.dpL xs+1<=n:=hd;by_cases h:STp (.tup xs) y;rotate_left
  ·exact JM (CI _ i) (CI y d) (by lia) h
  obtain⟨a,b,o,j,e,rfl,hl⟩:=h;injection e with e;obtain⟨m,rfl⟩:∃ m,n=m+1:=⟨n - 1,by lia⟩;obtain⟨H,f⟩:=Nu m xs (b::j) i.2.2 d.2.2 (by rw[e];exact Ql (·+1) hl) (by lia) (by lia);obtain⟨q,E,t⟩:=i;obtain⟨w,I,G⟩:=d;subst e;rw[Yg]at E;by_cases g:FAh a/\a=b
  ·obtain⟨g,rfl⟩:=g;obtain⟨B,k,r,rfl,r1,u,D⟩:=q a _ rfl g;obtain⟨A,l,r',rfl,_,F,_⟩:=w a _ rfl g;cases f with
   | cons _ f =>
   cases f with
   | cons h1 f =>
   cases f with
   | cons _ f=>exact⟨_,.inr (.inl ⟨a,B,A,k,l,r,r',_,rfl,rfl,g,⟨u,F,D⟩,r1,.cons h1 f,rfl⟩)⟩
  ·exact⟨_,.inr (.inr ⟨a,b,o,j,H,rfl,rfl,λz e=>g ⟨z,e⟩,CI _ t.1,CI _ G.1,by lia,f,rfl⟩)⟩
 | _,.non,_,h,_,_,_|_,.rol _,_,h,_,_,_|_,.ref _,_,h,_,_,_=>Qo h id
theorem Nu:∀(n:Nat)(xs ys:List W),twL xs->twL ys->xs.length=ys.length->L3.dpL xs<=n->n<=90->∃ cs,Z3 (LR (n+1)) xs ys cs
 | n,[],[],_,_,_,_,_=>⟨[],.nil⟩
 | n,x::xs,y::ys,b,d,hl,hd,a=>by
  have e:max (dpW x) (L3.dpL xs)<=n:=hd;obtain⟨c,h⟩:=oX n x y b.1 d.1 (by lia) a;obtain⟨cs,hs⟩:=Nu n xs ys b.2 d.2 (Nat.succ.inj hl) (by lia) a;exact⟨c::cs,.cons h hs⟩
end
mutual
theorem Hf:∀ k:Kd,k.ok=true->k.cnt<=900->tw k.enc
 | .any,_,_|.num,_,_|.truth,_,_=>⟨.no (E9 (by decide +kernel)),by decide,trivial,trivial⟩
 | .to x y,h,hc=>by
  obtain⟨h1,h2⟩:=Qj.mp (show(x.ok&&y.ok)=true from h);have d:1+(x.cnt+y.cnt)<=900:=hc;exact⟨.no (E9 (by decide +kernel)),(by decide:3<=1000),trivial,Hf x h1 (by lia),Hf y h2 (by lia),trivial⟩
 | .box x,h,hc=>by
  have d:1+x.cnt<=900:=hc;exact⟨.no (E9 (by decide +kernel)),(by decide:2<=1000),trivial,Hf x h (by lia),trivial⟩
 | .row fs o,h,hc=>by
  obtain⟨_,h2⟩:=Qj.mp (show(A0 fs.names&&fs.ok)=true from h);have d:1+fs.cnt<=900:=hc;obtain⟨a,b,c⟩:=Wx fs h2 (by lia);exact⟨.no (E9 (by decide +kernel)),(by decide:3<=1000),trivial,⟨a,by lia,c⟩,trivial,trivial⟩
theorem Wx:∀ fs:Fs,fs.ok=true->fs.cnt<=900->FAs fs.enc/\fs.enc.length<=fs.cnt/\twL fs.enc
 | .nil,_,_=>⟨λ_ _ e=>(by cases e),Yr _,trivial⟩
 | .cons n m k r,h,hc=>by
  obtain⟨h1,h2⟩:=Qj.mp (show(AB n&&k.ok&&r.ok)=true from h);obtain⟨h1,f⟩:=Qj.mp h1;have d:k.cnt+r.cnt<=900:=hc;obtain⟨a,b,c⟩:=Wx r h2 (by lia);refine⟨.no λz=>(by rcases z with z | z <;> cases z),?_,⟨.no (Nt h1),(by decide:3<=1000),trivial,trivial,Hf k f (by lia),trivial⟩,c⟩;have:=D2 k;show r.enc.length+1<=k.cnt+r.cnt;lia
end
mutual
theorem JN:∀ t:Te,t.ok=true->t.cnt<=900->tw t.enc
 | .nd w r,h,hc=>by
  obtain⟨h1,h2⟩:=Br h;have b:1+r.cnt<=900:=hc;have c:=Fa r h2 (by lia);refine⟨?_,?_,trivial,c⟩
  ·rcases JK h1 with⟨_,x,k,t,rfl⟩|⟨_,t,k,rfl⟩|⟨a,_⟩
   ·have g:=B3 h2 k (.head _);exact λh' rest e _=>⟨.str x,k,[t.enc],(Qk e).2.symm,Yr _,g.1,g.2.2⟩
   ·have g:=B3 h2 k (.head _);exact λh' rest e _=>⟨t.enc,k,[],(Qk e).2.symm,YV _,g.1,g.2.2⟩
   ·exact .no a
  ·have:=Ca h1;have:=CY r;show r.enc.length+1<=1000;lia
theorem Fa:∀ r:As,r.ok=true->r.cnt<=900->twL r.enc
 | .nil,_,_=>trivial
 | .num _ r,h,hc=>⟨trivial,Fa r (Qj.mp h).2 hc⟩
 | .tru _ r,h,hc=>⟨trivial,Fa r h hc⟩
 | .nam _ r,h,hc=>⟨trivial,Fa r (Qj.mp h).2 hc⟩
 | .knd k r,h,hc=>by
  have g:k.cnt<=40/\k.dp<=8:=Qm (Qj.mp (Qj.mp h).1).2;exact⟨Hf k (Qj.mp (Qj.mp h).1).1 (by lia),Fa r (Qj.mp h).2 hc⟩
 | .trm t r,h,hc=>by
  have d:t.cnt+r.cnt<=900:=hc;exact⟨JN t (Qj.mp h).1 (by lia),Fa r (Qj.mp h).2 (by lia)⟩
 | .fld f r,h,hc=>by
  have d:f.cnt+r.cnt<=900:=hc;obtain⟨a,b,c⟩:=Fb f (Qj.mp (Qj.mp h).1).2 (by lia);exact⟨⟨a,by lia,c⟩,Fa r (Qj.mp h).2 (by lia)⟩
theorem Fb:∀ f:Fl,f.ok=true->f.cnt<=900->FAs f.enc/\f.enc.length<=f.cnt/\twL f.enc
 | .nil,_,_=>⟨λ_ _ e=>(by cases e),Yr _,trivial⟩
 | .cons x t r,h,hc=>by
  obtain⟨h1,h2⟩:=Qj.mp (show((AB x&&t.ok)&&r.ok)=true from h);obtain⟨h1,g⟩:=Qj.mp h1;have d:t.cnt+r.cnt<=900:=hc;obtain⟨a,b,c⟩:=Fb r h2 (by lia);refine⟨.no λz=>(by rcases z with z | z <;> cases z),?_,⟨.no (Nt h1),(by decide:2<=1000),trivial,JN t g (by lia),trivial⟩,c⟩;have:=IJ t;show r.enc.length+1<=t.cnt+r.cnt;lia
end
theorem JO:LR (n+1) (.str x) (.str y) (x==y):=.inl ⟨rfl,rfl,F0 λ_ e=>(by cases e),(x==y) != false,λ_=>rfl,by cases(x==y) <;> rfl⟩
theorem Wy:∀{xs ys:List W}{b:Bool},A1 xs ys=some b->xs.length≠ys.length->b=false
 | [],[],b,_,h=>Qo rfl h
 | [],_::_,b,e,_|_::_,[],b,e,_=>by cases e;rfl
 | x::xs,y::ys,b,e,h=>by
  unfold A1 at e;split at e
  ·rename_i a c f d;cases e;rw[Wy d λz=>h (Ql (·+1) z),Bool.and_false]
  ·cases e
theorem Wz(g:plL xs=true)(f:plL ys=true)(hd:L3.dpL xs < 90)(h:xs.length≠ys.length):LR (n+1) (.tup xs) (.tup ys) false:=by
 obtain⟨b,e⟩:=FU xs ys g f;have:=Wy e h;subst this;refine .inl ⟨g,f,λ⟨a,b,i,k,c,d,j⟩=>h ?_,false,λG=>?_,rfl⟩
 ·injection c with c;injection d with d;rw[c,d];exact Ql (·+1) j
 ·show(if L3.dpL xs < 90 then A1 xs ys else none).map _=_;rw[if_pos hd,e];rfl
noncomputable def As.rest:As->List W
 | .nil=>[]
 | .num i r=>.int i::r.rest
 | .tru b r=>.bl b::r.rest
 | .nam x r=>.str x::r.rest
 | .knd _ r=>r.rest
 | .trm t r=>t.enc::r.rest
 | .fld f r=>.tup f.enc::r.rest
theorem Fc:∀{r:As},("kind":Str)∉r.sorts->r.rest=r.enc/\r.told=[]
 | .nil,_=>⟨rfl,rfl⟩
 | .num i r,h|.tru i r,h|.nam i r,h|.trm i r,h|.fld i r,h=>by obtain⟨a,b⟩:=Fc λz=>h (.tail _ z);exact⟨Ql (_::·) a,b⟩
 | .knd k r,h=>Qo (.head _) h
theorem WA:∀{f g:Fl},f.enc.length≠g.enc.length->lF f g=false
 | .nil,.nil,h=>Qo rfl h
 | .nil,.cons _ _ _,_|.cons _ _ _,.nil,_=>rfl
 | .cons x t r,.cons y u s,h=>by
  show((x==y&&lT t u)&&lF r s)=false;rw[WA λz=>h (Ql (·+1) z),Bool.and_false]
mutual
theorem Nv:∀(n:Nat)(t u:Te),t.ok=true->u.ok=true->t.cnt<=900->u.cnt<=900->dpW t.enc<=n->n<=90->LR (n+1) t.enc u.enc (lT t u)
 | n,.nd w r,.nd v s,h1,h2,B,F,hd,N=>by
  have g:=JN _ h1 B;have f:=JN _ h2 F;obtain⟨i,h⟩:=Br h1;obtain⟨K,q⟩:=Br h2;have G:1+r.cnt<=900:=B;have I:1+s.cnt<=900:=F;have H:max 0 (L3.dpL r.enc)+1<=n:=hd;obtain⟨m,rfl⟩:∃ m,n=m+1:=⟨n - 1,by lia⟩;by_cases e:w=v
  ·subst e;have es:=YE (i.symm.trans K);obtain⟨d,c,hc⟩:=Fe m r s h q es (by lia) (by lia) (by lia) (by lia);have o:lT (.nd w r) (.nd w s)=lA r s:=by show(w==w&&lA r s)=_;rw[beq_self_eq_true,Bool.true_and]
   rw[o,<- hc];rcases JK i with⟨rfl,x,k,t,rfl⟩|⟨rfl,t,k,rfl⟩|⟨a,b⟩
   ·obtain⟨y,p,rfl,j⟩:=FN es.symm;obtain⟨l,D,rfl,A⟩:=FO j;obtain⟨u,O,rfl,L⟩:=C3 A;rw[C2 L]at c ⊢;exact .inr (.inl ⟨_,.str x,.str y,k,l,[t.enc],[u.enc],d,rfl,rfl,.inl rfl,⟨(B3 h k (.head _)).1,(B3 q l (.head _)).1,(B3 h k (.head _)).2.2⟩,Yr _,c,Ql (_&&·) (Bool.and_true _)⟩)
   ·obtain⟨u,p,rfl,j⟩:=C3 es.symm;obtain⟨l,D,rfl,A⟩:=FO j;rw[C2 A]at c ⊢;exact .inr (.inl ⟨_,t.enc,u.enc,k,l,[],[],d,rfl,rfl,.inr rfl,⟨(B3 h k (.head _)).1,(B3 q l (.head _)).1,(B3 h k (.head _)).2.2⟩,YV _,c,Ql (_&&·) (Bool.and_true _)⟩)
   ·obtain⟨r1,J⟩:=Fc b;obtain⟨p,D⟩:=Fc (r:=s) (by rw[<- es];exact b);rw[r1,p]at c;rw[J];have:=Ca i;have:=CY r;refine .inr (.inr ⟨_,_,r.enc,s.enc,true::d,rfl,rfl,λz=>Qo z a,rfl,rfl,by lia,.cons ?_ c,Bool.and_true _⟩);have z:=JO (n:=m) (x:=w) (y:=w);rw[beq_self_eq_true]at z;exact z
  ·have E:(w==v)=false:=by simpa using e
   have o:lT (.nd w r) (.nd v s)=false:=by show(w==v&&lA r s)=_;rw[E];rfl
   rw[o];by_cases hl:r.enc.length=s.enc.length
   ·obtain⟨d,c⟩:=Nu m r.enc s.enc g.2.2.2 f.2.2.2 hl (by lia) (by lia);have:=Ca i;have:=CY r;refine .inr (.inr ⟨_,_,r.enc,s.enc,false::d,rfl,rfl,λ_ z=>e (W.str.inj z),rfl,rfl,by lia,.cons ?_ c,rfl⟩);have z:=JO (n:=m) (x:=w) (y:=v);rw[E]at z;exact z
   ·exact Wz (CI _ g) (CI _ f) (by show max 0 (L3.dpL r.enc) < 90;lia) λz=>hl (Nat.succ.inj z)
theorem Fe:∀(n:Nat)(r s:As),r.ok=true->s.ok=true->r.sorts=s.sorts->r.cnt<=900->s.cnt<=900->L3.dpL r.enc<=n->n<=89->∃ cs,Z3 (LR (n+1)) r.rest s.rest cs/\(cs.all id&&zl r.told s.told)=lA r s
 | n,.nil,s,_,_,h,_,_,_,_=>by
  cases s with
  | nil=>exact⟨[],.nil,rfl⟩
  | _=>cases h
 | n,.num i r,s,h1,h2,h,a,c,hd,d=>by
  cases s with
  | num j s =>
   obtain⟨cs,z,e⟩:=Fe n r s (Qj.mp h1).2 (Qj.mp h2).2 (Qk h).2 a c (by have b:max 0 (L3.dpL r.enc)<=n:=hd;lia) d;refine⟨(i==j)::cs,.cons (.inl ⟨rfl,rfl,F0 λ_ e=>(by cases e),(i==j) != false,λ_=>rfl,by cases(i==j) <;> rfl⟩) z,?_⟩;show(((i==j)&&cs.all id)&&_)=((i==j)&&lA r s);rw[Bool.and_assoc,<- e];rfl
  | _=>first | exact Qo (Qk h).1 (by decide +kernel)| cases h
 | n,.tru i r,s,h1,h2,h,a,c,hd,d=>by
  cases s with
  | tru j s =>
   obtain⟨cs,z,e⟩:=Fe n r s h1 h2 (Qk h).2 a c (by have b:max 0 (L3.dpL r.enc)<=n:=hd;lia) d;refine⟨(i==j)::cs,.cons (.inl ⟨rfl,rfl,F0 λ_ e=>(by cases e),(i==j) != false,λ_=>rfl,by cases(i==j) <;> rfl⟩) z,?_⟩;show(((i==j)&&cs.all id)&&_)=((i==j)&&lA r s);rw[Bool.and_assoc,<- e];rfl
  | _=>first | exact Qo (Qk h).1 (by decide +kernel)| cases h
 | n,.nam i r,s,h1,h2,h,a,c,hd,d=>by
  cases s with
  | nam j s =>
   obtain⟨cs,z,e⟩:=Fe n r s (Qj.mp h1).2 (Qj.mp h2).2 (Qk h).2 a c (by have b:max 0 (L3.dpL r.enc)<=n:=hd;lia) d;refine⟨(i==j)::cs,.cons JO z,?_⟩;show(((i==j)&&cs.all id)&&_)=((i==j)&&lA r s);rw[Bool.and_assoc,<- e];rfl
  | _=>first | exact Qo (Qk h).1 (by decide +kernel)| cases h
 | n,.knd k r,s,h1,h2,h,a,c,hd,d=>by
  cases s with
  | knd l s =>
   obtain⟨cs,z,e⟩:=Fe n r s (Qj.mp h1).2 (Qj.mp h2).2 (Qk h).2 a c (by have b:max _ (L3.dpL r.enc)<=n:=hd;lia) d;refine⟨cs,z,?_⟩;show(cs.all id&&(A6 9 k l&&zl r.told s.told))=(A6 9 k l&&lA r s);rw[<- e,Bool.and_left_comm]
  | _=>first | exact Qo (Qk h).1 (by decide +kernel)| cases h
 | n,.trm t r,s,h1,h2,h,a,c,hd,d=>by
  cases s with
  | trm u s =>
   have p:t.cnt+r.cnt<=900:=a;have o:u.cnt+s.cnt<=900:=c;have b:max (dpW t.enc) (L3.dpL r.enc)<=n:=hd;obtain⟨cs,z,e⟩:=Fe n r s (Qj.mp h1).2 (Qj.mp h2).2 (Qk h).2 (by lia) (by lia) (by lia) d;have q:=Nv n t u (Qj.mp h1).1 (Qj.mp h2).1 (by lia) (by lia) (by lia) (by lia);refine⟨lT t u::cs,.cons q z,?_⟩;show((lT t u&&cs.all id)&&_)=(lT t u&&lA r s);rw[Bool.and_assoc,<- e];rfl
  | _=>first | exact Qo (Qk h).1 (by decide +kernel)| cases h
 | n,.fld f r,s,h1,h2,h,a,c,hd,d=>by
  cases s with
  | fld g s =>
   have p:f.cnt+r.cnt<=900:=a;have o:g.cnt+s.cnt<=900:=c;have b:max (L3.dpL f.enc+1) (L3.dpL r.enc)<=n:=hd;have B:=(Qj.mp (Qj.mp h1).1).2;have A:=(Qj.mp (Qj.mp h2).1).2;obtain⟨cs,z,e⟩:=Fe n r s (Qj.mp h1).2 (Qj.mp h2).2 (Qk h).2 (by lia) (by lia) (by lia) d;obtain⟨m,rfl⟩:∃ m,n=m+1:=⟨n - 1,by lia⟩;obtain⟨J,F,v⟩:=Fb f B (by lia);obtain⟨I,H,w⟩:=Fb g A (by lia)
   have q:LR (m+1+1) (.tup f.enc) (.tup g.enc) (lF f g):=by
    by_cases hl:f.enc.length=g.enc.length
    ·obtain⟨ds,D,hc⟩:=WB m f g B A (by lia) (by lia) hl (by lia) (by lia);cases f with
     | nil =>
      cases g with
      | nil=>exact .inl ⟨rfl,rfl,λ⟨_,_,_,_,e,_⟩=>(by cases e),true,λG=>rfl,rfl⟩
      | cons _ _ _=>cases hl
     | cons x t r' =>
      cases g with
      | nil=>cases hl
      | cons y u s'=>exact .inr (.inr ⟨_,_,r'.enc,s'.enc,ds,rfl,rfl,λz=>(by rcases z with z | z <;> cases z),CI _ v.1,CI _ w.1,by have E:r'.enc.length+1<=_:=F;lia,D,hc.symm⟩)
    ·rw[WA hl];exact Wz (JL _ v) (JL _ w) (by lia) hl
   refine⟨lF f g::cs,.cons q z,?_⟩;show((lF f g&&cs.all id)&&_)=(lF f g&&lA r s);rw[Bool.and_assoc,<- e];rfl
  | _=>first | exact Qo (Qk h).1 (by decide +kernel)| cases h
theorem WB:∀(n:Nat)(f g:Fl),f.ok=true->g.ok=true->f.cnt<=900->g.cnt<=900->f.enc.length=g.enc.length->L3.dpL f.enc<=n->n<=89->∃ cs,Z3 (LR (n+1)) f.enc g.enc cs/\cs.all id=lF f g
 | n,.nil,.nil,_,_,_,_,_,_,_=>⟨[],.nil,rfl⟩
 | n,.cons x t r,.cons y u s,h1,h2,c,j,hl,hd,o=>by
  obtain⟨a,l⟩:=Qj.mp (show((AB x&&t.ok)&&r.ok)=true from h1);obtain⟨q,k⟩:=Qj.mp (show((AB y&&u.ok)&&s.ok)=true from h2);obtain⟨a,b⟩:=Qj.mp a;have h:t.cnt+r.cnt<=900:=c;have d:u.cnt+s.cnt<=900:=j;have i:max (max 0 (max (dpW t.enc) 0)+1) (L3.dpL r.enc)<=n:=hd;obtain⟨cs,z,e⟩:=WB n r s l k (by lia) (by lia) (Nat.succ.inj hl) (by lia) o;obtain⟨m,rfl⟩:∃ m,n=m+1:=⟨n - 1,by lia⟩;have p:=Nv m t u b (Qj.mp q).2 (by lia) (by lia) (by lia) (by lia);refine⟨(x==y&&lT t u)::cs,.cons (.inr (.inr ⟨.str x,.str y,[t.enc],[u.enc],[x==y,lT t u],rfl,rfl,λz=>Qo z (Nt a),rfl,rfl,(by decide:1<=1000),.cons JO (.cons p .nil),?_⟩)) z,?_⟩
  ·show _=((x==y)&&(lT t u&&true));rw[Bool.and_true]
  ·show((x==y&&lT t u)&&cs.all id)=_;rw[e];rfl
end
noncomputable abbrev F1(n:Nat):Spw:=spR (λ(t:Te)ws _=>ws=[t.enc]/\t.ok=true/\t.dp<=n/\t.cnt<=900) λt=>t.bare.enc
theorem WC(a:gd G):∀(f:Fl)(o o':Option W)(ys:List W),f.ok=true->f.dp<=n->f.cnt<=900->ys.length+f.enc.length<=1000->R (ys++f.bare.enc) G->AU gd (AJ 0 1) AC (Ah (Aa ef (Aa (Ag (F1 n) XF re) Ac))) R f.enc [o,o'] G ys
 | .nil,o,o',ys,_,_,_,_,r=>⟨a,by have r':R (ys++[]) G:=r;rw[Yx]at r';exact r'⟩
 | .cons x t f,o,o',ys,h,hd,hc,hl,r=>by
  obtain⟨h1,h2⟩:=Qj.mp (h);have d:max t.dp f.dp<=n:=hd;have b:t.cnt+f.cnt<=900:=hc;have c:ys.length+(f.enc.length+1)<=1000:=hl;refine⟨a,Bf (by lia),⟨t,⟨rfl,(Qj.mp h1).2,by lia,by lia⟩,(Qzz 2),?_⟩⟩;refine WC a f _ _ _ h2 (by lia) (by lia) (by rw[Yj];simp only[Yg,Yi];lia) ?_;rw[Yv];exact r
theorem Hg(a:gd G):∀(r:As)(o:Option W)(ys:List W),r.ok=true->r.dp<=n->r.cnt<=900->("kind":Str)∉r.sorts->("fields":Str)∉r.sorts->ys.length+r.enc.length<=1000->R (ys++r.bare.enc) G->AU gd (gNm 0) AC (By rV (Ag (F1 n) XF ln) ef) R r.enc [o] G ys
 | .nil,o,ys,_,_,_,_,_,_,q=>⟨a,by have c:R (ys++[]) G:=q;rw[Yx]at c;exact c⟩
 | .num i r,o,ys,h,hd,hc,h1,h2,hl,q=>⟨a,Bf (by lia),Hg a r _ _ (Qj.mp h).2 hd hc (λz=>h1 (.tail _ z)) (λz=>h2 (.tail _ z)) (by have b:ys.length+(r.enc.length+1)<=1000:=hl;rw[Yj];simp only[Yg,Yi];lia) (by rw[Yv];exact q)⟩
 | .tru i r,o,ys,h,hd,hc,h1,h2,hl,q=>⟨a,Bf (by lia),Hg a r _ _ h hd hc (λz=>h1 (.tail _ z)) (λz=>h2 (.tail _ z)) (by have b:ys.length+(r.enc.length+1)<=1000:=hl;rw[Yj];simp only[Yg,Yi];lia) (by rw[Yv];exact q)⟩
 | .nam i r,o,ys,h,hd,hc,h1,h2,hl,q=>⟨a,Bf (by lia),Hg a r _ _ (Qj.mp h).2 hd hc (λz=>h1 (.tail _ z)) (λz=>h2 (.tail _ z)) (by have b:ys.length+(r.enc.length+1)<=1000:=hl;rw[Yj];simp only[Yg,Yi];lia) (by rw[Yv];exact q)⟩
 | .knd _ _,_,_,_,_,_,h1,_,_,_|.fld _ _,_,_,_,_,_,_,h1,_,_=>Qo (.head _) h1
 | .trm t r,o,ys,h,hd,hc,h1,h2,hl,q=>by
  have f:max t.dp r.dp<=n:=hd;have e:t.cnt+r.cnt<=900:=hc;have b:ys.length+(r.enc.length+1)<=1000:=hl;have z:=Hg a r (some t.enc) (ys++[t.bare.enc]) (Qj.mp h).2 (show r.dp<=n by omega) (by omega) (λz=>h1 (.tail _ z)) (λz=>h2 (.tail _ z)) (by rw[Yj];simp only[Yg,Yi];lia) (by rw[Yv];exact q);have o:F1 n [t.enc] G (λy d=>AU gd (gNm 0) AC (By rV (Ag (F1 n) XF ln) ef) R r.enc [some t.enc] d (ys++[y])) (λ_ _=>False):=⟨t,⟨rfl,(Qj.mp h).1,by lia,by lia⟩,z⟩;cases t with
  | nd w s=>exact⟨a,Bf (by lia),Eq.mpr (by kernel_rfl) o⟩
theorem Hh{w:Str}{rest:GS}(h:if w=c then e [some (.tup (.str w::xs))] G D.rt else rest D [some (.tup (.str w::xs))] G):Af (gIf (gTB (Ad (Ae (eqF false)) ad (gC (.str c)))) (Ai e) Aj) rest D [some (.tup (.str w::xs))] G:=by
 walk_at "k2";by_cases z:w=c
 ·rw[if_pos z]at h;rw[show((w==c) != false)=true by simp[z]];exact h
 ·rw[if_neg z]at h;rw[show((w==c) != false)=false by simpa using z];exact h
theorem Ez(T:Tx K mg base a):∀ n:Nat,Df P w K mg base "_law_all_any" (n+1) 1 (F1 n)
 | 0=>BX T.RF Bb λws G Q E⟨k,⟨_,_,hd,_⟩,_⟩=>by have:=Ed k;lia
 | n+1=>by
  refine mk0 T.RF rfl Wl Bb (λws G Q E⟨x,⟨e,_⟩,_⟩=>by rw[e];rfl) (oD T (Ez T n) (Yr _)) λws G Q E hC q=>?_;obtain⟨⟨w,r⟩,⟨rfl,ho,hd,hc⟩,q⟩:=q;obtain⟨f1,o1⟩:=Br ho;have hd':1+r.dp<=n+1:=hd;have hc':1+r.cnt<=900:=hc;have hl:=Ca f1;have hl2:=CY r;refine Hh ?_;by_cases hw:w="rec"
  ·obtain⟨f,rfl⟩:=(B0 f1).1 hw;subst hw;have hd'':1+max f.dp 0<=n+1:=hd;have hc'':1+(f.cnt+0)<=900:=hc;have o2:=(Qj.mp (Qj.mp (o1)).1).2;walk_at "k4";refine WC trivial f none none [] o2 (by lia) (by lia) (by have:=(Fb f o2 (by lia)).2.1;simp only[Yi];lia) λp hp=>?_;rw[Dp Ak];exact⟨(Qzz 2),hC _ _ _ (AA hp) q⟩
  rw[if_neg hw];refine Hh ?_;rcases JK f1 with⟨rfl,x,k,t,rfl⟩|⟨rfl,t,k,rfl⟩|⟨a,b⟩
  ·have hd'':1+max t.dp 0<=n+1:=hd;have hc'':1+(t.cnt+0)<=900:=hc;exact Hh (⟨by decide,t,⟨rfl,(Qj.mp (Qj.mp (Qj.mp o1).2).2).1,by lia,by lia⟩,(Qzz 4),q⟩)
  ·have hd'':1+max t.dp 0<=n+1:=hd;have hc'':1+(t.cnt+0)<=900:=hc;exact⟨t,⟨rfl,(Qj.mp o1).1,by lia,by lia⟩,by decide,(Qzz 3),q⟩
  ·rw[if_neg λz=>a (.inr (Ql W.str z))];refine Hh ?_;rw[if_neg λz=>a (.inl (Ql W.str z))];refine⟨trivial,by decide,Eq.mpr (by kernel_rfl) (Hg (n:=n) (gd:=yes) (G:=G) (R:=λys G2=>∀ p,G2 p=none->opt (Bv [.ref p] (put G2 p (.lst ys))) λv=>Q v (put G2 p (.lst ys))) trivial r (some (.str w)) [.str w] o1 (by lia) (by lia) b ((B0 f1).2 hw) (by simp only[Yg,Yi];lia) λp hp=>?_)⟩;rw[Dp Ak];exact hC _ _ _ (AA hp) q
theorem oY{z:W}:Bz (ys++[z]) none (some (-1))=ys:=by
 have e:HT.sIx (ys++[z]).length (ys++[z]).length (some (-1))=ys.length:=by
  unfold HT.sIx;dsimp only;rw[if_pos (by decide),Yj];simp only[Yg,Yi];lia
 unfold Bz;rw[HT.sIx_none,e];simp
theorem oZ{z:W}:atI (ys++[z]) (-1)=some z:=by
 have e:ixN (ys++[z]).length (-1)=some ys.length:=by
  unfold ixN;rw[if_neg (by decide),Yj];simp only[Yg,Yi];rw[if_pos (by lia)];congr 1;lia
 unfold atI;rw[e];simp
noncomputable def Fl.zz:Fl->Fl
 | .nil=>.nil
 | .cons x t .nil=>.cons "zz" t .nil
 | .cons x t (.cons y u r)=>.cons x t (Fl.zz (.cons y u r))
theorem WD:∀(f:Fl),f≠.nil->∃ ys x t,f.enc=ys++[.tup [.str x,Te.enc t]]/\f.zz.enc=ys++[.tup [.str "zz",t.enc]]
 | .nil,h=>Qo rfl h
 | .cons x t .nil,_=>⟨[],x,t,rfl,rfl⟩
 | .cons x t (.cons y u r),_=>by
  obtain⟨ys,a,t',b,c⟩:=WD (.cons y u r) (λz=>by cases z);exact⟨_::ys,a,t',Ql (_::·) b,Ql (_::·) c⟩
theorem o0:∀ x∈Nms,∀ y∈Nms,AW x y=true->AW x "zz"=true:=by decide +kernel
theorem WE:∀{f:Fl},f.ok=true->A0 f.names=true->f.zz.ok=true/\A0 f.zz.names=true/\f.zz.cnt=f.cnt/\f.zz.dp=f.dp
 | .nil,_,_=>⟨rfl,rfl,rfl,rfl⟩
 | .cons x t .nil,h,_=>by
  obtain⟨h1,h2⟩:=Qj.mp (h);refine⟨?_,rfl,rfl,rfl⟩;show((AB "zz"&&t.ok)&&true)=true;rw[(Qj.mp h1).2];decide +kernel
 | .cons x t (.cons y u r),h,j=>by
  obtain⟨h1,h2⟩:=Qj.mp (h);obtain⟨r1,g⟩:=Qj.mp (j);obtain⟨a,b,c,d⟩:=WE h2 g;refine⟨Qj.mpr ⟨h1,a⟩,?_,Ql (t.cnt+·) c,Ql (max t.dp) d⟩;have e:=Qm (Qj.mp h1).1;have i:=Qm (Qj.mp (Qj.mp h2).1).1;cases r with
  | nil =>
   show(AW x "zz"&&true)=true;rw[o0 x e y i r1];rfl
  | cons z v r =>
   show(AW x y&&A0 (Fl.zz (.cons y u (.cons z v r))).names)=true;rw[r1,b];rfl
theorem WF{w:Str}(h:(Te.nd w (.trm t r)).ok=true)(c:u.ok=true):(Te.nd w (.trm u r)).ok=true:=by
 obtain⟨a,b⟩:=Br h;exact Bt a (Qj.mpr ⟨c,(Qj.mp b).2⟩)
theorem F2{i:Nat}{Z:Kw}(h:Z (.tup (xs.drop i)) G):slA (.tup xs) (some (i:Int)) none G Z:=Dl (by rw[TR];exact h)
theorem Hi{i:Nat}{Z:Kw}(h:Z (.tup (xs.take i)) G):slA (.tup xs) none (some (i:Int)) G Z:=Dl (by rw[TQ];exact h)
noncomputable abbrev Nw(n:Nat):Spw:=λws G Q _=>∃ t:Te,ws=[t.enc]/\(t.ok=true/\t.dp<=n/\t.cnt<=900)/\∀ u,TmB t.cnt t.dp u->Q u.enc G
theorem WG:Spw.M (Nw n):=(by rintro b G Q c E d h _ ⟨t,h1,h2,q⟩;exact⟨t,h1,h2,λu a=>h _ _ (q u a)⟩)
theorem WH{w:Str}{r:As}(h:KTD.datumAt w AT=some r.sorts)(a:w≠"rec"):(w="fun"/\∃ x k t,r=.nam x (.knd k (.trm t .nil)))\/(w="get"/\∃ t x,r=.trm t (.nam x .nil))\/(w="or"/\∃ t x u,r=.trm t (.nam x (.trm u .nil)))\/(w="num"\/w="truth"\/w="name")\/((w≠"fun"/\[("get":Str),"or"].any (·==w)=false/\[("num":Str),"truth","name","rec"].any (·==w)=false)/\∃ t r',r=.trm t r'):=by
 rcases FP h a with⟨rfl,_⟩|⟨rfl,_⟩|⟨rfl,_⟩|⟨rfl,z⟩|⟨rfl,z⟩|⟨rfl,z⟩|⟨rfl,t,u,v,rfl⟩|⟨rfl,t,k,rfl⟩|⟨hw,t,rfl⟩|⟨hw,t,u,rfl⟩
 ·exact .inr (.inr (.inr (.inl (.inl rfl))))
 ·exact .inr (.inr (.inr (.inl (.inr (.inl rfl)))))
 ·exact .inr (.inr (.inr (.inl (.inr (.inr rfl)))))
 ·exact .inl ⟨rfl,z⟩
 ·exact .inr (.inl ⟨rfl,z⟩)
 ·exact .inr (.inr (.inl ⟨rfl,z⟩))
 ·exact .inr (.inr (.inr (.inr ⟨by decide +kernel,_,_,rfl⟩)))
 ·exact .inr (.inr (.inr (.inr ⟨by decide +kernel,_,_,rfl⟩)))
 ·exact .inr (.inr (.inr (.inr ⟨by rcases hw with rfl | rfl <;> decide +kernel,_,_,rfl⟩)))
 ·exact .inr (.inr (.inr (.inr ⟨by rcases hw with rfl | rfl | rfl | rfl <;> decide +kernel,_,_,rfl⟩)))
theorem EC{w:Str}{cs:List Str}{rest:GS}(hg:∀(G:Hw)(Z:List W->Hw->Prop),Z (cs.map W.str) G->gl [some (.tup (.str w::xs))] G Z)(hl:(cs.map W.str).length<=sizeLine)(h:∀ G',Sub G G'->if cs.any (·==w)=true then e [some (.tup (.str w::xs))] G' D.rt else rest D [some (.tup (.str w::xs))] G'):Af (gIf (gTB (Ad (Ae (inF false)) ad (An gl))) (Ai e) Aj) rest D [some (.tup (.str w::xs))] G:=by
 walk_at "k3";refine hg _ _ ⟨hl,λp hp=>?_⟩;rw[GU cs w Ak rfl];have z:=h _ (AA (o:=.lst (cs.map W.str)) hp);cases hc:cs.any (·==w)with
 | true=>rw[if_pos hc]at z;exact z
 | false=>rw[if_neg (by rw[hc];decide)]at z;exact z
theorem WI{w:Str}{rest:GS}(hw:w≠c)(h:rest D [some (.tup (.str w::xs))] G):Af (gIf (AF (gTB (Ad (Ae (eqF false)) ad (gC (.str c)))) B) A Aj) rest D [some (.tup (.str w::xs))] G:=by
 walk_at "k2";rw[show((w==c) != false)=false by simpa using hw];exact h
theorem EA(T:Tx K mg base a):∀ n:Nat,n<=20->Df P w K mg base "_law_other_name" (n+1) 1 (Nw n)
 | 0,_=>BX T.RG WG λws G Q E⟨k,_,⟨_,hd,_⟩,_⟩=>by have:=Ed k;lia
 | n+1,hn=>by
  refine mk0 T.RG rfl Wo WG (λws G Q E⟨x,e,_⟩=>by rw[e];rfl) (oH T (EA T n (by lia)) (Yr _)) λws G Q E hC q=>?_;obtain⟨⟨w,r⟩,rfl,⟨ho,hd,hc⟩,q⟩:=q;obtain⟨f1,o1⟩:=Br ho;refine Hh ?_;by_cases hr:w="rec"
  ·obtain⟨f,rfl⟩:=(B0 f1).1 hr;subst hr;obtain⟨o2,_⟩:=Qj.mp (o1);obtain⟨o2,o3⟩:=Qj.mp o2;have hc':1+(f.cnt+0)<=900:=hc;have hlen:=(Fb f o3 (by lia)).2.1;refine EC (cs:=["get","or"]) (λ_ _ z=>z) (by decide) λG1 s1=>?_;have hd':1+max f.dp 0<=n+1:=hd;have hdf:=M8 f o3
   have en:eqF true (.tup f.enc) (.tup []) G1=some (.bl (!f.enc.isEmpty)):=by
    show(if L3.dpL f.enc < 90 then A1 f.enc []else none).map _=_;rw[if_pos (by lia)];cases f.enc <;> rfl
   simp only[Af,gIf,AF,gTB,Ad,Ae,Ab,gC,Ah,Ac,Yb,As.enc,ixW,Bg,Bx,Ao,Bi];refine⟨by decide,?_⟩;rw[en,Ao];by_cases hf:f=.nil
   ·subst hf;simp only[Yq,if_false,Aj];exact EC (cs:=["num","truth","name","rec"]) (λ_ _ z=>z) (by decide) λG2 s2=>hC _ _ _ (s1.trans s2) (q (.nd "rec" (.fld .nil .nil)) ⟨ho,Yr _,Yr _⟩)
   ·obtain⟨ys,x,t,e1,e2⟩:=WD f hf;obtain⟨z1,z2,z3,z4⟩:=WE o3 o2;rw[e1]at hlen ⊢;rw[Yj]at hlen;rw[show(!(ys++[W.tup [.str x,t.enc]]).isEmpty)=true by cases ys <;> rfl];simp only[if_true,Ai,Ad,Ae,AE,Av,Au,EV,Ah,Aa,Ac,Ab,gC,Yb,ixW,Bx,Ao];refine⟨1,rfl,Dl ⟨1,rfl,?_⟩⟩;rw[oZ,Ao,oY];refine⟨(Qzz 2),(Qzz 1),⟨AZ (by simp only[Yg,Yi]at hlen ⊢;lia),(Qzz 2),?_⟩⟩;rw[<- e2];refine hC _ _ _ s1 (q (.nd "rec" (.fld f.zz .nil)) ⟨Bt f1 ?_,?_,?_⟩)
    ·show((A0 f.zz.names&&f.zz.ok)&&true)=true;rw[z1,z2];rfl
    ·show 1+(f.zz.cnt+0)<=1+(f.cnt+0);lia
    ·show 1+max f.zz.dp 0<=1+max f.dp 0;lia
  rcases WH f1 hr with⟨rfl,x,k,t,rfl⟩|⟨rfl,t,x,rfl⟩|⟨rfl,t,x,u,rfl⟩| hw |⟨⟨w1,w2,w3⟩,t,r',rfl⟩
  ·walk_at "k3";exact⟨by decide,F2 ⟨(Qzz 4),q (.nd "fun" (.nam "w" (.knd k (.trm t .nil)))) ⟨Bt f1 (Qj.mpr ⟨by decide +kernel,(Qj.mp o1).2⟩),Yr _,Yr _⟩⟩⟩
  ·refine EC (cs:=["get","or"]) (λ_ _ z=>z) (by decide) λG1 s1=>?_;rw[if_pos (by decide)];walk_at "k3";exact Hi ⟨by decide,⟨(Qzz 3),F2 ⟨(Qzz 3),hC _ _ _ s1 (q (.nd "get" (.trm t (.nam "zz" .nil))) ⟨Bt f1 (Qj.mpr ⟨(Qj.mp o1).1,by decide +kernel⟩),Yr _,Yr _⟩)⟩⟩⟩
  ·refine EC (cs:=["get","or"]) (λ_ _ z=>z) (by decide) λG1 s1=>?_;rw[if_pos (by decide)];walk_at "k3";exact Hi ⟨by decide,⟨(Qzz 3),F2 ⟨(Qzz 4),hC _ _ _ s1 (q (.nd "or" (.trm t (.nam "zz" (.trm u .nil)))) ⟨Bt f1 (Qj.mpr ⟨(Qj.mp o1).1,Qj.mpr ⟨by decide +kernel,(Qj.mp (Qj.mp o1).2).2⟩⟩),Yr _,Yr _⟩)⟩⟩⟩
  ·rw[if_neg (by rcases hw with rfl | rfl | rfl <;> decide)];refine EC (cs:=["get","or"]) (λ_ _ z=>z) (by decide) λG1 s1=>?_;rw[if_neg (by rcases hw with rfl | rfl | rfl <;> decide)];refine WI hr (EC (cs:=["num","truth","name","rec"]) (λ_ _ z=>z) (by decide) λG2 s2=>?_);rw[if_pos (by rcases hw with rfl | rfl | rfl <;> decide)];exact hC _ _ _ (s1.trans s2) (q (.nd w r) ⟨ho,Yr _,Yr _⟩)
  ·have hd':1+max t.dp r'.dp<=n+1:=hd;have hc':1+(t.cnt+r'.cnt)<=900:=hc;rw[if_neg w1];refine EC (cs:=["get","or"]) (λ_ _ z=>z) (by decide) λG1 s1=>?_;rw[if_neg (by rw[w2];decide)];refine WI hr (EC (cs:=["num","truth","name","rec"]) (λ_ _ z=>z) (by decide) λG2 s2=>?_);rw[if_neg (by rw[w3];decide)];have hl:=Ca f1;rw[<- CY]at hl;have hl':r'.enc.length+1<=3:=hl;walk_at "k4";refine Hi ⟨t,rfl,⟨(Qj.mp o1).1,by lia,by lia⟩,λu hu=>⟨(Qzz 1),⟨(Qzz 2),F2 ?_⟩⟩⟩;refine⟨AZ (by show 2+r'.enc.length<=_;lia),hC _ _ _ (s1.trans s2) (q (.nd w (.trm u r')) ⟨WF ho hu.1,?_,?_⟩)⟩
   ·have:=hu.2.1;show 1+(u.cnt+r'.cnt)<=1+(t.cnt+r'.cnt);lia
   ·have:=hu.2.2;show 1+max u.dp r'.dp<=1+max t.dp r'.dp;lia
noncomputable abbrev Nx(n:Nat):Spw:=C5 (λ(t:Te)s ws _=>ws=[.ref s,t.enc]/\t.ok=true/\t.dp<=n/\t.cnt<=400) λt _ r _=>∃ u:Te,r=u.enc/\TmB (2*t.cnt) (t.dp+1) u
noncomputable abbrev WJ(n:Nat):GS:=Ai (Ad (Aw) (Ad (Aw) (AE f4 Au (Av sm)) (Ah (Aa (Ag (Nx n) XF (Aa ef (Aa (Ad (Ae ixW) f4 sm) Ac))) Ac))) (AE f4 (Av (Ad (Aw) sm dl)) Au))
theorem pe{t:Te}(hi:pre.length=i)(hl:pre.length+post.length<=10)(hs:St s G)(c:t.ok=true/\t.dp<=n/\t.cnt<=400)(q:∀ u a,TmB (2*t.cnt) (t.dp+1) u->Hs s G a->Q (.tup (pre++u.enc::post)) a):WJ n (AH Q) [some (.ref s),some (.tup (pre++t.enc::post)),h,some (.int (i:Nat)),o4] G:=by
 have g:atI (pre++t.enc::post) (i:Nat)=some t.enc:=CM (by rw[<- hi];simp);simp only[Ai,Ad,Ae,AE,Av,Au,Ag,Ah,Aa,Ab,Yb,Yc,ixW,g];refine Hi ⟨t,s,⟨rfl,c⟩,hs,λr b⟨u,e,f⟩j=>⟨(Qzz 1),?_⟩⟩;subst e;rw[show(pre++t.enc::post).take i=pre by rw[<- hi];simp];refine⟨AZ (by simp only[Yg,Yi];lia),?_⟩;show slA (.tup (pre++t.enc::post)) (some ((i:Int)+1)) none b λy d=>Aw (.tup (pre++[u.enc])) y d (AH Q).rt;refine F2 ?_;rw[show(pre++t.enc::post).drop (i+1)=post by rw[<- hi];simp];refine⟨AZ (by rw[Yj];simp only[Yg,Yi];lia),?_⟩;have z:=q u b f j;rw[show pre++u.enc::post=pre++[u.enc]++post by simp]at z;exact z
theorem WK:∀(f:Fl)(o o':Option W)(G:Hw)(ys:List W),St s G->f.ok=true->f.dp<=n->f.cnt<=400->ys.length+f.enc.length<=1000->(∀(a:Fl)b,a.ok=true->a.names=f.names->a.cnt<=2*f.cnt->a.dp<=f.dp+1->Hs s G b->R (ys++a.enc) b)->AU yes (AJ 0 1) AC (Ah (Aa ef (Aa (Ag (Nx n) XF (Aa kw re)) Ac))) R f.enc [o,o',some (.ref s)] G ys
 | .nil,o,o',G,ys,hs,_,_,_,_,r=>⟨trivial,by have r':R (ys++[]) G:=r .nil G rfl rfl (Yr _) (YV _) (Hs.refl hs);rw[Yx]at r';exact r'⟩
 | .cons x t f,o,o',G,ys,hs,h,hd,hc,hl,r=>by
  obtain⟨h1,h2⟩:=Qj.mp (h);obtain⟨h1,l⟩:=Qj.mp h1;have i:max t.dp f.dp<=n:=hd;have j:t.cnt+f.cnt<=400:=hc;have k:ys.length+(f.enc.length+1)<=1000:=hl;refine⟨trivial,Bf (by lia),⟨t,s,⟨rfl,l,by lia,by lia⟩,hs,λv g⟨u,e,c⟩d=>⟨(Qzz 2),?_⟩⟩⟩;subst e;refine WK f _ _ g _ d.1 h2 (by lia) (by lia) (by rw[Yj];simp only[Yg,Yi];lia) λa b g1 g2 g3 g4 m=>?_;rw[Yv];refine r (.cons x u a) b ?_ (Ql (x::·) g2) ?_ ?_ (d.trans m)
  ·show((AB x&&u.ok)&&a.ok)=true;rw[h1,c.1,g1];rfl
  ·have:=c.2.1;show u.cnt+a.cnt<=2*(t.cnt+f.cnt);lia
  ·have:=c.2.2;show max u.dp a.dp<=max t.dp f.dp+1;lia
theorem Ny{w:Str}(h:(Te.nd w r).ok=true):∀ k∈r.told,KOk k:=λk a=>(B3 (aR h) k a).imp_right YG
theorem pf{w:Str}{r:As}(h:KTD.datumAt w AT=some r.sorts)(a:w≠"rec"):(w="num"\/w="truth"\/w="name")\/((w≠"num"/\w≠"truth"/\w≠"name")/\((w="fun"/\∃ x k t,r=.nam x (.knd k (.trm t .nil)))\/(w≠"fun"/\∃ t r',r=.trm t r'))):=by
 rcases WH h a with⟨rfl,z⟩|⟨rfl,t,x,rfl⟩|⟨rfl,t,x,u,rfl⟩| hw |⟨⟨c,_,b⟩,z⟩
 ·exact .inr ⟨by decide +kernel,.inl ⟨rfl,z⟩⟩
 ·exact .inr ⟨by decide +kernel,.inr ⟨by decide +kernel,_,_,rfl⟩⟩
 ·exact .inr ⟨by decide +kernel,.inr ⟨by decide +kernel,_,_,rfl⟩⟩
 ·exact .inl hw
 ·refine .inr ⟨⟨λe=>?_,λe=>?_,λe=>?_⟩,.inr ⟨c,z⟩⟩ <;>(subst e;exact Qo b (by decide))
theorem EB(T:Tx K mg base a):∀ n:Nat,Df P w K mg base "_law_turned" (n+12) 2 (Nx n)
 | 0=>BX T.RH BN λws G Q E⟨k,s,⟨_,_,hd,_⟩,_⟩=>by have:=Ed k;lia
 | n+1=>by
  refine mk0 T.RH rfl Wq BN (λws G Q E⟨k,s,⟨e,_⟩,_⟩=>by rw[e];rfl) (oM T (AO T) (by lia) (Bp T 2) (by lia) (Eu T 8) (by lia) (EB T n) (Yr _)) λws G Q E hC q=>?_;obtain⟨⟨w,r⟩,s,⟨rfl,ho,hd,hc⟩,hs,q⟩:=q;obtain⟨f1,o1⟩:=Br ho;have q1:∀ u G',TmB (2*(Te.nd w r).cnt) ((Te.nd w r).dp+1) u->Hs s G G'->Q u.enc G':=λu G' hu hg=>q _ _ ⟨u,rfl,hu⟩ hg;have ht:TmB (Te.nd w r).cnt (Te.nd w r).dp (.nd w r):=⟨ho,Yr _,Yr _⟩;have hp1:=IJ (.nd w r);have hl:=Ca f1;rw[<- CY]at hl;show Af (Al 2 _) _ (AH Q) [some (.ref s),some (.tup (.str w::r.enc)),none,none,none] G;refine AG ?_;simp only[Ag,Ab,gC,Aa,Ac,Yb,Yc];refine Bj (by decide) (by decide) hs λv G1 v0 v8 hg1=>?_;simp only[Yk,Yl];refine C7 (λω' G'=>ω'=[some (.ref s),some (.tup (.str w::r.enc)),some (.int v),none,none]/\Hs s G G') ?_ (λrst=>?_)
  ·rintro ω' G' ⟨rfl,hg2⟩;refine Bk (λ_=>?_) (λ_=>?_)
   ·walk_at "k3";refine⟨by decide,by decide,by decide,(Qzz 2),E5 rfl (by decide) (by decide) hg2.1 λx hx G3 hg3=>?_⟩;have hg:=hg2.trans hg3;simp only [Yo,Qa,or_false] at hx;rcases hx with rfl | rfl | rfl | rfl
    ·exact q1 (.nd "num" (.num 7 .nil)) G3 ((UQ (by decide) (by decide)).mono (by lia) (by lia)) hg
    ·exact q1 (.nd "truth" (.tru true .nil)) G3 ((UP true).mono (by lia) (by lia)) hg
    ·exact q1 (.nd "name" (.nam "y" .nil)) G3 ((Jb (by decide +kernel)).mono (by lia) (by lia)) hg
    ·exact q1 (.nd "new" (.trm (.nd w r) .nil)) G3 ((GQ (by decide +kernel) ht).mono (by lia) (by lia)) hg
   walk_at "k2";by_cases hr:w="rec"
   ·obtain⟨f,rfl⟩:=(B0 f1).1 hr;subst hr;have hd'':1+max f.dp 0<=n+1:=hd;have hc'':1+(f.cnt+0)<=400:=hc;obtain⟨o2,_⟩:=Qj.mp (o1);obtain⟨o2,o3⟩:=Qj.mp o2;have hlen:=(Fb f o3 (by lia)).2.1;walk_at "k4";refine WK f none none G' [] hg2.1 o3 (by lia) (by lia) (by simp only[Yi];lia) λf' G3 g1 g2 g3 g4 g5 p hp=>?_;rw[Yw,Dp Ak,Ao];refine⟨(Qzz 2),q1 (.nd "rec" (.fld f' .nil)) _ ⟨Bt f1 ?_,?_,?_⟩ ((hg2.trans g5).put hp)⟩
    ·show((A0 f'.names&&f'.ok)&&true)=true;rw[g1,g2,o2];rfl
    ·show 1+(f'.cnt+0)<=2*(1+(f.cnt+0));lia
    ·show 1+max f'.dp 0<=1+max f.dp 0+1;lia
   have leaf:∀ c:Str,((w==c) != false)=decide (w=c):=λc=>by
    by_cases z:w=c
    ·simp[z]
    ·rw[Qn z];simpa using z
   rw[leaf,leaf,leaf,leaf,Qn hr];simp only[Aj,Af,Ai,Al,gMt,HR,Aa,Ac,Ad,Ae,Ab,gC,Yb,Yc,ixW,Bg,Ao,Yq,if_false]
   have last:∀(i:Nat)(G3:Hw),Hs s G G3->(∃ t pre post,(.str w::r.enc:List W)=pre++Te.enc t::post/\pre.length=i/\pre.length+post.length<=10/\(t.ok=true/\t.dp<=n/\t.cnt<=400)/\∀ u,TmB (2*t.cnt) (t.dp+1) u->∃ v:Te,v.enc=.tup (pre++u.enc::post)/\TmB (2*(Te.nd w r).cnt) ((Te.nd w r).dp+1) v)->WJ n (AH Q) [some (.ref s),some (.tup (.str w::r.enc)),some (.int v),some (.int (i:Nat)),none] G3:=by
    rintro i G3 hg3 ⟨t,pre,post,e,e1,e2,e3,e4⟩;rw[e];refine pe e1 e2 hg3.1 e3 λu G4 hu hg4=>?_;obtain⟨v,e5,e6⟩:=e4 u hu;rw[<- e5];exact q1 v G4 e6 (hg3.trans hg4)
   rcases pf f1 hr with hw |⟨⟨n1,n2,n3⟩,hw⟩
   ·rcases hw with rfl | rfl | rfl <;> exact Eq.mpr (by kernel_rfl) (q1 (.nd _ r) G' (ht.mono (by lia) (by lia)) hg2)
   rw[Qn n1,Qn n2,Qn n3];refine⟨"fun","as",rfl,rfl,by decide,λd hd=>⟨⟨d,_,rfl,Ak⟩,d,_,w,_,rfl,rfl,Ak,?_⟩⟩;have hg3:=hg2.put (o:=.dct [((Sum.inr ("fun":Str):Key),W.int 3),((Sum.inr ("as":Str):Key),W.int 1)]) hd;generalize put G' d (.dct [((Sum.inr ("fun":Str):Key),W.int 3),((Sum.inr ("as":Str):Key),W.int 1)])=G3 at hg3 ⊢;rcases hw with⟨rfl,x,k,t,rfl⟩|⟨w1,t,r',rfl⟩
   ·have hd'':1+max t.dp 0<=n+1:=hd;have hc'':1+(t.cnt+0)<=400:=hc;refine last 3 G3 hg3 ⟨t,[.str "fun",.str x,k.enc],[],rfl,rfl,(by decide:3+0<=10),⟨(Qj.mp (Qj.mp (Qj.mp o1).2).2).1,by lia,by lia⟩,λu hu=>⟨.nd "fun" (.nam x (.knd k (.trm u .nil))),rfl,(Ja (Qj.mp o1).1 (Ny ho k (.head _)) hu).mono ?_ ?_⟩⟩
    ·show 2*t.cnt+1<=2*(1+(t.cnt+0));lia
    ·show t.dp+1+1<=1+max t.dp 0+1;lia
   ·have hd'':1+max t.dp r'.dp<=n+1:=hd;have hc'':1+(t.cnt+r'.cnt)<=400:=hc;have hl':r'.enc.length+1<=3:=hl
    have eg:BA [((Sum.inr ("fun":Str):Key),W.int 3),((Sum.inr ("as":Str):Key),W.int 1)] w (.int 1)=.int (1:Nat):=by
     rw[DY,if_neg (λz=>w1 (Sum.inr.inj z).symm),DY];split <;> rfl
    rw[eg];refine last 1 G3 hg3 ⟨t,[.str w],r'.enc,rfl,rfl,by simp only[Yg,Yi];lia,⟨(Qj.mp o1).1,by lia,by lia⟩,λu hu=>⟨.nd w (.trm u r'),rfl,WF ho hu.1,?_,?_⟩⟩
    ·have:=hu.2.1;show 1+(u.cnt+r'.cnt)<=2*(1+(t.cnt+r'.cnt));lia
    ·have:=hu.2.2;show 1+max u.dp r'.dp<=1+max t.dp r'.dp+1;lia
  ·simp only[Af,gIf,AF,gTB,Ad,Ae,Ba,An,Ab,gC,Aa,Ac,Yb,Yc,ixW,Bg,Ao];refine⟨by decide,λp hp=>?_⟩;rw[GU ["fun","as"] w (xs:=[.str "fun",.str "as"]) Ak rfl,Ao];have hg2:=hg1.put (o:=.lst [.str "fun",.str "as"]) hp;cases hb:[("fun":Str),"as"].any (·==w)with
   | false=>exact rst _ _ ⟨rfl,hg2⟩
   | true =>
   simp only[if_true];refine Bk (λ_=>?_) (λ_=>rst _ _ ⟨rfl,hg2⟩)
   obtain⟨b,k,post,e,hpo,hk,mk⟩:∃ b k post,r.enc=b::Kd.enc k::post/\post.length<=1/\KOk k/\∀ k',KOk k'->∃ v:Te,v.enc=.tup (.str w::b::k'.enc::post)/\TmB (Te.nd w r).cnt (Te.nd w r).dp v:=by
    rcases JK f1 with⟨rfl,x,k,t,rfl⟩|⟨rfl,t,k,rfl⟩|⟨a,_⟩
    ·refine⟨_,k,_,rfl,Yr 1,Ny ho k (.head _),λk' h'=>⟨.nd "fun" (.nam x (.knd k' (.trm t .nil))),rfl,Bt f1 ?_,Yr _,Yr _⟩⟩;exact Qj.mpr ⟨(Qj.mp o1).1,Qj.mpr ⟨Qj.mpr ⟨h'.1,h'.2⟩,(Qj.mp (Qj.mp o1).2).2⟩⟩
    ·refine⟨_,k,_,rfl,YV 1,Ny ho k (.head _),λk' h'=>⟨.nd "as" (.trm t (.knd k' .nil)),rfl,Bt f1 ?_,Yr _,Yr _⟩⟩;exact Qj.mpr ⟨(Qj.mp o1).1,Qj.mpr ⟨Qj.mpr ⟨h'.1,h'.2⟩,rfl⟩⟩
    ·refine Qo ?_ a;simp only[List.any_cons,List.any_nil,Bool.or_false,Bool.or_eq_true,beq_iff_eq]at hb;exact hb.imp (λz=>by rw[z]) (λz=>by rw[z])
   have gk:=Qm hk.2;rw[e];simp only[Al,An,Ag,Ai,Ad,Ae,Ah,Aa,Ac,AE,Av,Au,Ab,gC,Yb,Yc,ixW,Cm,Ao];refine DI (by decide) hg2.1 λk1 G3 hk1 hg3=>⟨(k,1),s,⟨rfl,hk.1,gk.2,Int.le_refl _⟩,hg3.1,λx G4⟨k2,e2,hk2⟩hg4=>?_⟩;subst e2;have hg5:=(hg2.trans hg3).trans hg4;refine⟨(Qzz 2),λp2 hp2=>?_⟩;have hne:=Hs.ne hg5.1 hp2;refine Hi (Bj (by decide) (by decide) (hg5.1.put hp2) λz G6 z0 z2 hg6=>?_);obtain⟨y,hy,ey⟩:=Do (hg6.2 p2 hne _ Ak) z0 (by omega);show opt (ixW (.ref p2) (.int z) G6) _;rw[ey,Ao]
   obtain⟨k',rfl,hk'⟩:∃ k':Kd,y=k'.enc/\KOk k':=by
    simp only[Yo,Qa,or_false]at hy;rcases hy with rfl | rfl
    ·exact⟨k1,rfl,hk1.1,by have:=hk1.2;exact YG (by lia)⟩
    ·have h2:=hk2.2;have e4:kc (1:Int).toNat=4:=rfl;exact⟨k2,rfl,hk2.1,by exact YG (by dsimp only at h2;lia)⟩
   obtain⟨v',e5,e6⟩:=mk k' hk';refine⟨(Qzz 1),⟨(Qzz 3),F2 ?_⟩⟩;refine⟨AZ (by show 3+post.length<=_;lia),?_⟩;have zz:=q1 v' G6 (e6.mono (by lia) (by lia)) ((hg5.put hp2).trans hg6);rw[e5]at zz;exact zz
mutual
theorem Nz:∀{t:Te},lT t.bare t=true
 | .nd w r=>by show(w==w&&lA r.bare r)=true;rw[beq_self_eq_true,Ff (r:=r)];rfl
theorem Ff:∀{r:As},lA r.bare r=true
 | .nil=>rfl
 | .num i r|.tru i r|.nam i r=>by show(i==i&&lA r.bare r)=true;rw[beq_self_eq_true,Ff (r:=r)];rfl
 | .knd k r=>Ff (r:=r)
 | .trm t r=>by show(lT t.bare t&&lA r.bare r)=true;rw[Nz (t:=t),Ff (r:=r)];rfl
 | .fld f r=>by show(lF f.bare f&&lA r.bare r)=true;rw[WL (f:=f),Ff (r:=r)];rfl
theorem WL:∀{f:Fl},lF f.bare f=true
 | .nil=>rfl
 | .cons x t r=>by show((x==x&&lT t.bare t)&&lF r.bare r)=true;rw[beq_self_eq_true,Nz (t:=t),WL (f:=r)];rfl
end
theorem WM(h:tg t)(a:TmB t.cnt t.dp u):tg u:=⟨a.1,Yt a.2.1 h.2.1,Yt a.2.2 h.2.2⟩
theorem lp1{w:Option W}:∀(l:List W)(o4 c:Option W)(t:Te)(G:Hw),tg t->St s G->(∀ o4 c u i,tg u->Hs s G i->D.nx [n,some (.ref s),q,some (Te.enc u),o4,m,B,w,A,c,d] i)->
  A9 yes (gNm 4) (Af (Al 9 (Ag (FM 10) XF rK)) (gIf sH (Al 3 (Ad (Ae ixW) (Ab 9) (Ag BM XF sC))) Aj)) D l [n,some (.ref s),q,some t.enc,o4,m,B,w,A,c,d] G
 | [],o4,c,t,G,a,hs,e=>⟨trivial,e o4 c t G a (Hs.refl hs)⟩
 | x::l,o4,c,t,G,a,hs,e=>by
  refine⟨trivial,AG ⟨t,⟨rfl,a.1,a.2.2,a.2.1⟩,λp H=>?_⟩⟩;simp only[gIf,gTB,Ad,Ae,An,Yk,Yl];refine⟨by decide,λp2 g=>?_⟩;have k:=Hs.ne hs H;have j:=((Hs.refl hs).put H).put (o:=.lst []) g;have hl:put (put G p (.lst ((lt 10 t).map Te.enc))) p2 (.lst []) p=some (.lst ((lt 10 t).map Te.enc)):=AA g _ _ Ak;have K:=M9 λu h=>Nh 10 a.1 u h;have O:=a.2.2;have R:=Eh 10 t a.1;have S:=a.2.1
  have J:eqF true (.ref p) (.ref p2) (put (put G p (.lst ((lt 10 t).map Te.enc))) p2 (.lst []))=some (.bl (!((lt 10 t).map Te.enc).isEmpty)):=by
   unfold eqF eqW;simp only[hl,Ak];rw[if_pos (by lia)];cases(lt 10 t).map Te.enc <;> rfl
  rw[J,Ao];generalize put (put G p (.lst ((lt 10 t).map Te.enc))) p2 (.lst [])=G1 at j hl ⊢;have again:∀ u f,tg u->Hs s G1 f->A9 yes (gNm 4) (Af (Al 9 (Ag (FM 10) XF rK)) (gIf sH (Al 3 (Ad (Ae ixW) (Ab 9) (Ag BM XF sC))) Aj)) D l [n,some (.ref s),q,some u.enc,some x,m,B,w,A,some (.ref p),d] f:=λu f h b=>lp1 l _ _ u f h b.1 λo4 c v i P E=>e o4 c v i P ((j.trans b).trans E);cases L:(lt 10 t).map Te.enc with
  | nil=>exact again t G1 a (Hs.refl j.1)
  | cons y ys =>
   simp only[List.isEmpty_cons,Bool.not_false,if_true,Al,Ad,Ae,Ag,gB,rF,Ab,Aa,Ac,Yb,Yc];have el:AK [.ref p] G1=some (.int (((lt 10 t).map Te.enc).length:Nat)):=Rc hl;rw[el,Ao];have F:0 <((lt 10 t).map Te.enc).length:=by rw[L];exact Nat.succ_pos _
   refine Bj (by lia) (by rw[Yh];lia) j.1 λr f I r1 b=>?_;obtain⟨z,N,Q⟩:=Do (b.2 p k _ hl) I r1;rw[Q];obtain⟨u,h,rfl⟩:=YC.mp N;exact again u f (WM a (Nh 10 a.1 u h)) b
theorem lp2(e:G q=some (.lst items)):∀(l:List (Te×Te))(d c a:Option W),(∀ x∈l,tg x.1/\tg x.2)->(∀ d c a,D.nx [h,k,n,i,j,f,g,d,c,m,a] G)->
  A9 (holds q items) (AJ 7 8) (Af (Al 10 (Ag JF XF sf)) (gIf (gOr sT (gTB (Ad (Ae (eqF true)) (Ab 10) (Ag (He 61) XF sf)))) le Aj)) D (l.map λx=>W.tup [x.1.enc,x.2.enc]) [h,k,n,i,j,f,g,d,c,m,a] G
 | [],d,c,a,_,b=>⟨e,b d c a⟩
 | x::l,d,c,a,o,b=>by
  obtain⟨h1,h2⟩:=o x Ye;refine⟨e,AG ⟨x,⟨rfl,h1,h2⟩,?_⟩⟩;simp only[gIf,gOr,gTB,Ad,Ae];have hd:=GX x.1 h1.1;have r:=h1.2;have s:=h2.2;refine⟨(x.1.enc,x.2.enc,lT x.1 x.2),⟨rfl,Nv 60 x.1 x.2 h1.1 h2.1 (by lia) (by lia) (by lia) (by lia)⟩,?_⟩;dsimp only;rw[EX,show((lT x.1 x.2==lT x.1 x.2) != true)=false by rw[beq_self_eq_true];rfl];exact lp2 e l _ _ _ (λy p=>o y (Yd _ p)) b
noncomputable abbrev WN:GS:=Af (Al 6 (Ag (Nw 10) XF rM)) (Af (AN (DW (An (Aa (Ah (Aa kw rK)) (Aa (Ah (Aa sm rM)) (Aa (Ah (Aa kw rM)) (Aa (Ah (Aa sF rM)) (Aa (Ah (Aa kw (Aa sF Ac))) Ac))))))) (AJ 7 8) (Af (Al 10 (Ag JF XF sf)) (gIf (gOr sT (gTB (Ad (Ae (eqF true)) (Ab 10) (Ag (He 61) XF sf)))) le Aj))) (Ai (Bu (Ad (Ae (eqF false)) (Ag Nj XF rM) (Ag (F1 10) XF rM)) (Ad (Ae isT) (Ag JF XF (Aa (Ag Nj XF rM) rM)) rY))))
theorem pk(T:Tx K mg base a)(F:Fun K "law" "law" FI f fd):FnOk P w K mg base (CXe P w) 73 f fd ["script"] (Gc K Lh):=by
 refine ok0 F Ws (λws G Q E⟨ns,e,_⟩=>by rw[e];rfl) (oQ T (IZ T) (by lia) (Bp T 2) (by lia) (JC T) (by lia) (AO T) (by lia) (Ej T 10) (by lia) (EB T 10) (by lia) (CD T 11) (by lia) (EA T 10 (by lia)) (by lia) (JG T) (by lia) (Ey T 61) (by lia) (JE T) (by lia) (Ez T 10) (by lia)) λws G Q E hC q=>?_;obtain⟨ns,rfl,hns,q⟩:=q;refine AG ⟨ns,rfl,λs x f hs=>?_⟩;have hs1:St s (put G s (ST x f)):=⟨x,f,Ak⟩;refine AG ?_;simp only[Ag,Ab,gC,Aa,Ac];refine DI (by decide) hs1 λk G2 hk hg2=>⟨k,s,⟨rfl,hk⟩,hg2.1,λr G3 hr hg3=>?_⟩;obtain⟨t,rfl,ht⟩:=hr;refine AG ?_;simp only[Ab,Af,AN,Dd,Ag,gC,Aa,Ac];refine Bj (by decide) (by decide) hg3.1 λv G4 v0 v1 hg4=>⟨by lia,by lia,lp1 _ none none t G4 ht hg4.1 λo4 o9 u G5 hu hg5=>?_⟩
 have fin:∀(u:Te)(G6:Hw)(o:Option W),tg u->WN (AH Q) [some (.rol (ns.map W.int)),some (.ref s),some t.enc,some u.enc,o4,o,none,none,none,o9,none] G6:=by
  intro u G6 o hu;have c1:=ht.2;refine AG ⟨t,rfl,⟨ht.1,ht.2.2,by lia⟩,λm hm=>?_⟩;have hm':=WM ht hm;refine⟨(Qzz 2),(Qzz 2),(Qzz 2),(Qzz 2),(Qzz 2),(Qzz 5),λp hp=>?_⟩;simp only[Ak];refine lp2 Ak [(t,u),(u,t),(t,t),(m,t),(t,m)] none none none (λx hx=>?_) λo7 o8 o10=>?_
  ·simp only [Yo,Qa,or_false] at hx;rcases hx with rfl | rfl | rfl | rfl | rfl
   ·exact⟨ht,hu⟩
   ·exact⟨hu,ht⟩
   ·exact⟨ht,ht⟩
   ·exact⟨hm',ht⟩
   ·exact⟨ht,hm'⟩
  simp only[Ai,Bu,Ad,Ae];refine⟨t,⟨rfl,ht⟩,t,⟨rfl,ht.1,ht.2.2,by lia⟩,?_⟩;have hb:=Ni ht;dsimp only;rw[Wg (FX hb) (FX hb) (V0 _ (JA _))];refine⟨t,⟨rfl,ht⟩,(t.bare,t),⟨rfl,hb,ht⟩,?_⟩;dsimp only;rw[Nz];exact q _
 have fin2:∀(u:Te)(G6:Hw),u.ok=true->u.cnt<=80->u.dp<=11->Af (Al 5 (Ag (IY 11) XF rK)) (Af (gIf (gOr (gTB (Ad (AV λi j=>decide (j < i)) (Ad (Ae ixW) sG eq) sS)) (gTB (Ad (AV λi j=>decide (j < i)) (Ad (Ae ixW) sG dl) (gC (.int 10))))) (Al 3 kw) Aj) WN) (AH Q) [some (.rol (ns.map W.int)),some (.ref s),some t.enc,some u.enc,o4,none,none,none,none,o9,none] G6:=by
  intro u G6 u1 u2 u3;refine AG ⟨u,⟨rfl,u1,u3,by lia⟩,λp hp=>?_⟩;simp only[Af,gIf,gOr,gTB,Ad,Ae,AV,Ab,gC,Yb,Yc,Yk,Yl,ixW,Ak];refine Bk (λ_=>fin t _ _ ht) (λh4=>Bk (λ_=>fin t _ _ ht) (λh5=>fin u _ _ ⟨u1,?_,?_⟩))
  ·have h:¬ (40:Int) <(u.cnt:Nat):=λz=>h4 (YG z);lia
  ·have h:¬ (10:Int) <(u.dp:Nat):=λz=>h5 (YG z);lia
 walk_at "k2";refine Bj (by decide) (by decide) hg5.1 λv2 G6 _ _ hg6=>?_;have c2:=hu.2;refine Bk (λ_=>?_) (λ_=>fin2 u G6 hu.1 (by lia) (by lia));refine⟨u,s,⟨rfl,hu.1,hu.2.2,by lia⟩,hg6.1,λr G7⟨u',e,hu'⟩hg7=>?_⟩;subst e;have c3:=hu'.2;exact fin2 u' G7 hu'.1 (by lia) (by lia)
theorem F3(h1:e.key=.str x t)(h2:e.val=.int i u)(r:KTD.Rows (KTD.Dat.At base) es D):KTD.Rows (KTD.Dat.At base) (e::es) ((x,KTD.Dat.flat (.int i))::D):=
 .cons h1 (by rw[h2];exact PyProof.V.Flat.int i u) r
variable {P:Program}{w:World}{K:PySem.W.Frag}{mg:Str->Option Value}{base:Heap}{a:Adr} in
theorem pz{K:PySem.W.Frag}{h:Heap}{mg:Str->Option Value}(X:K.In h)(G:h.Ns mainGlobals mg)(FF:Fns K mg)(NN:Bls mg){vm u:Addr}{vo:Addr}{vp S:Tok}{vr:Nat}{vs:Array (Option Value)}{vt:Tok}{vu:Tok}{vv:Tok}{vw:Tok}{vx:Tok}{vy:Tok}{j:Addr}{vA:Nat}{p b d g i e:DictEntry}{vH vI vJ vK vL vM vN vO vP vQ vR vS:Tok}{n:Addr}{vU:Nat}{l:DictEntry}{vW:Tok}{H:Addr}{vY:Nat}{vZ:Array (Option Value)}{J:Tok}{f:DictEntry}{v2:Tok}{L:Addr}{v4:Nat}{v5:Array (Option Value)}{v6:Tok}{w:DictEntry}{v8:Tok}{v9:Addr}{ja:Nat}{jb:Array (Option Value)}{jc:Tok}{c:DictEntry}{je:Tok}{jf:Addr}{jg:Nat}{jh:Array (Option Value)}{Z:Tok}{O:Tok}{jk:Tok}{o:DictEntry}{jm:Tok}{jn:Addr}{jo:Nat}{jp:Array (Option Value)}{y:Tok}{jr:Tok}{js:DictEntry}{jt:Tok}{A:Addr}{jv:Nat}{jw:Array (Option Value)}{x:Tok}{s:DictEntry}{jz:Tok}{U:Addr}{jB:Nat}{jC:Array (Option Value)}{jD:Tok}{z:Tok}{v:DictEntry}{jG:Tok}{jH:Addr}{jI:Nat}{jJ:Array (Option Value)}{jK:Tok}{P:Tok}{jM:Tok}{r:DictEntry}{jO:Tok}{jP:Addr}{jQ:Nat}{jR:Array (Option Value)}{jS:Tok}{jT:Tok}{jU:Tok}{q:DictEntry}{jW:Tok}{F:Addr}{jY:Nat}{jZ:Array (Option Value)}{D:Tok}{N:Tok}{t:DictEntry}{j3:Tok}{E:Addr}{j5:Nat}{j6:Array (Option Value)}{j7:Tok}{R:Tok}{m:DictEntry}{pa:Tok}{pb:Addr}{pc:Nat}{pd:Array (Option Value)}{T:Tok}{k:DictEntry}{pg:Tok}{ph:Addr}{pi:Nat}{pj:Array (Option Value)}{I:Tok}{pl:DictEntry}{pn:Tok}{Q:Addr}{pp:Nat}{pq:Array (Option Value)}{pr:Tok}{ps:Tok}{pt:DictEntry}{pu:Tok}{pv:Addr}{pw:Nat}{px:Array (Option Value)}{py:Tok}{Y:Tok}
  (qa:PySem.W.nsIn K mainGlobals "CastError"=some (some (.ref vm)))
  (qb:PySem.W.nsIn K mainGlobals "NoTerm"=some (some (.ref u)))
  (qc:PySem.W.excIn K u [.type "ValueError",.type "Exception",.type "BaseException",.type "object"] "ValueError.__new__"=true)
  (qd:PySem.W.nsIn K mainGlobals "MARKS"=some (some (.ref vo)))
  (qe:K.lookup vo=some ⟨.type "tuple",none,.seq #[.str "must" vp,.str "may" S] vr,vs⟩)
  (qf:PySem.W.nsIn K mainGlobals "MOST_DEPTH"=some (some (.int 8 vt)))
  (qg:PySem.W.nsIn K mainGlobals "MOST_KINDS"=some (some (.int 40 vu)))
  (qh:PySem.W.nsIn K mainGlobals "MOST_LETTERS"=some (some (.int 8 vv)))
  (qi:PySem.W.nsIn K mainGlobals "MOST_NUMBER"=some (some (.int 99999999999999999999 vw)))
  (qj:PySem.W.nsIn K mainGlobals "MOST_TERMS"=some (some (.int 40 vx)))
  (qk:PySem.W.nsIn K mainGlobals "MOST_TERM_DEPTH"=some (some (.int 10 vy)))
  (ql:PySem.W.nsIn K mainGlobals "LENGTHS"=some (some (.ref j)))
  (qm:K.lookup j=some ⟨.type "dict",none,.dict #[p,b,d,g,i,e] vA,#[]⟩)
  (qn:(j==sysModules)=false)
  (qo:p.key=.str "any" vH)
  (qp:p.val=.int 1 vI)
  (qq:b.key=.str "num" vJ)
  (qr:b.val=.int 1 vK)
  (qs:d.key=.str "truth" vL)
  (qt:d.val=.int 1 vM)
  (qu:g.key=.str "to" vN)
  (qv:g.val=.int 3 vO)
  (qw:i.key=.str "box" vP)
  (qx:i.val=.int 2 vQ)
  (qy:e.key=.str "row" vR)
  (qz:e.val=.int 3 vS)
  (qA:PySem.W.nsIn K mainGlobals "FORMS"=some (some (.ref n)))
  (qB:K.lookup n=some ⟨.type "dict",none,.dict #[l,f,w,c,o,js,s,v,r,q,t,m,k,pl,pt] vU,#[]⟩)
  (qC:(n==sysModules)=false)
  (qD:l.key=.str "num" vW)
  (qE:l.val=.ref H)
  (qF:K.lookup H=some ⟨.type "tuple",none,.seq #[.str "number" J] vY,vZ⟩)
  (qG:f.key=.str "truth" v2)
  (qH:f.val=.ref L)
  (qI:K.lookup L=some ⟨.type "tuple",none,.seq #[.str "truth" v6] v4,v5⟩)
  (qJ:w.key=.str "name" v8)
  (qK:w.val=.ref v9)
  (qL:K.lookup v9=some ⟨.type "tuple",none,.seq #[.str "name" jc] ja,jb⟩)
  (qM:c.key=.str "fun" je)
  (qN:c.val=.ref jf)
  (qO:K.lookup jf=some ⟨.type "tuple",none,.seq #[.str "name" Z,.str "kind" O,.str "term" jk] jg,jh⟩)
  (qP:o.key=.str "call" jm)
  (qQ:o.val=.ref jn)
  (qR:K.lookup jn=some ⟨.type "tuple",none,.seq #[.str "term" y,.str "term" jr] jo,jp⟩)
  (qS:js.key=.str "rec" jt)
  (qT:js.val=.ref A)
  (qU:K.lookup A=some ⟨.type "tuple",none,.seq #[.str "fields" x] jv,jw⟩)
  (qV:s.key=.str "get" jz)
  (qW:s.val=.ref U)
  (qX:K.lookup U=some ⟨.type "tuple",none,.seq #[.str "term" jD,.str "name" z] jB,jC⟩)
  (qY:v.key=.str "or" jG)
  (qZ:v.val=.ref jH)
  (q0:K.lookup jH=some ⟨.type "tuple",none,.seq #[.str "term" jK,.str "name" P,.str "term" jM] jI,jJ⟩)
  (q1:r.key=.str "if" jO)
  (q2:r.val=.ref jP)
  (q3:K.lookup jP=some ⟨.type "tuple",none,.seq #[.str "term" jS,.str "term" jT,.str "term" jU] jQ,jR⟩)
  (q4:q.key=.str "plus" jW)
  (q5:q.val=.ref F)
  (q6:K.lookup F=some ⟨.type "tuple",none,.seq #[.str "term" D,.str "term" N] jY,jZ⟩)
  (q7:t.key=.str "less" j3)
  (q8:t.val=.ref E)
  (q9:K.lookup E=some ⟨.type "tuple",none,.seq #[.str "term" j7,.str "term" R] j5,j6⟩)
  (va:m.key=.str "new" pa)
  (vb:m.val=.ref pb)
  (vc:K.lookup pb=some ⟨.type "tuple",none,.seq #[.str "term" T] pc,pd⟩)
  (vd:k.key=.str "read" pg)
  (ve:k.val=.ref ph)
  (vf:K.lookup ph=some ⟨.type "tuple",none,.seq #[.str "term" I] pi,pj⟩)
  (vg:pl.key=.str "write" pn)
  (vh:pl.val=.ref Q)
  (vi:K.lookup Q=some ⟨.type "tuple",none,.seq #[.str "term" pr,.str "term" ps] pp,pq⟩)
  (vj:pt.key=.str "as" pu)
  (vk:pt.val=.ref pv)
  (vl:K.lookup pv=some ⟨.type "tuple",none,.seq #[.str "term" py,.str "kind" Y] pw,px⟩):
  ∃ a:Adr,∀ base:Heap,K.In base->Tx K mg base a:=by
 refine⟨⟨vm,u⟩,λbase B=>?_⟩
 exact{
  toFns:=FF
  toBls:=NN
  kh:=PySem.W.mg_of X G qa
  RM:=PySem.W.mg_of X G qb
  RN:=qc
  RO:=iM X G (dd:=none) (ts:=[("must",vp),("may",S)]) qd qe (by simp)
  RP:=FG X G qf
  RQ:=FG X G qg
  RS:=FG X G qh
  RT:=FG X G qi
  RU:=FG X G qj
  RV:=FG X G qk
  RW:=iN X G B ql qm qn ⟨rfl,rfl,rfl⟩ rfl (F3 qo qp (F3 qq qr (F3 qs qt (F3 qu qv (F3 qw qx (F3 qy qz .nil))))))
  RX:=gP X G B qA qB qC ⟨rfl,rfl,rfl⟩ rfl (BZ (dd:=none) (ts:=[("number",J)]) qD qE qF (by simp) (BZ (dd:=none) (ts:=[("truth",v6)]) qG qH qI (by simp) (BZ (dd:=none) (ts:=[("name",jc)]) qJ qK qL (by simp) (BZ (dd:=none) (ts:=[("name",Z),("kind",O),("term",jk)]) qM qN qO (by simp) (BZ (dd:=none) (ts:=[("term",y),("term",jr)]) qP qQ qR (by simp) (BZ (dd:=none) (ts:=[("fields",x)]) qS qT qU (by simp) (BZ (dd:=none) (ts:=[("term",jD),("name",z)]) qV qW qX (by simp) (BZ (dd:=none) (ts:=[("term",jK),("name",P),("term",jM)]) qY qZ q0 (by simp) (BZ (dd:=none) (ts:=[("term",jS),("term",jT),("term",jU)]) q1 q2 q3 (by simp) (BZ (dd:=none) (ts:=[("term",D),("term",N)]) q4 q5 q6 (by simp) (BZ (dd:=none) (ts:=[("term",j7),("term",R)]) q7 q8 q9 (by simp) (BZ (dd:=none) (ts:=[("term",T)]) va vb vc (by simp) (BZ (dd:=none) (ts:=[("term",I)]) vd ve vf (by simp) (BZ (dd:=none) (ts:=[("term",pr),("term",ps)]) vg vh vi (by simp) (BZ (dd:=none) (ts:=[("term",py),("kind",Y)]) vj vk vl (by simp) .nil)))))))))))))))}
end
end
end KU
open PySem PySem.W PyProof.Rows
local macro_rules | `(tactic| walk_at "fb") => `(tactic| (intro _ _ _ _ _ _ us hl; first | (obtain rfl := L3.ln0 hl; rfl) | (obtain ⟨_, _, rfl, g0⟩ := L3.ln1 hl; first | (obtain rfl := L3.ln0 g0; rfl) | (obtain ⟨_, _, rfl, g1⟩ := L3.ln1 g0; first | (obtain rfl := L3.ln0 g1; rfl) | (obtain ⟨_, _, rfl, g2⟩ := L3.ln1 g1; first | (obtain rfl := L3.ln0 g2; rfl) | (obtain ⟨_, _, rfl, g3⟩ := L3.ln1 g2; first | (obtain rfl := L3.ln0 g3; rfl) | (obtain ⟨_, _, rfl, g4⟩ := L3.ln1 g3; obtain rfl := L3.ln0 g4; rfl)))))))
local macro_rules | `(tactic| walk_at "fk") => `(tactic| (dsimp only [L2.KOf]; refine' L3.iL KX G ?e ?l ?c ?k ?b; (case e => k_is); (case l => k_is); (case c => k_is); (case k => k_is); (case b => walk_at "fb")))
set_option maxRecDepth 100000 in
set_option maxHeartbeats 0 in
theorem PySem.Challenge.cw_castwright_k74_less_known_terms_holds : PySem.Challenge.rw_castwright_k74_less_known_terms.Holds := by
 show KU.rwS.Holds
 w_on;refine holds_law KU.wsd λsaid=>?_
 refine holds_open (r:=KU.rwS.row) (q:=KU.vwS) (loose:=["LENGTHS","FORMS"]) (N:=5144)
  (Yf:=(kHook KU.KF KU.KL KU.kfe).obs) (Ya:=(kHook KU.KF KU.KL KU.kfe).val) (YP:=(kHook KU.KF KU.KL KU.kfe).says)
  (Xt:=λs=>xlAt KU.vwS [] s&&recOk (RowW.records KU.rwS.row.toRowW) s)
  (XP:=XL KU.vwS []) ?hl (kHook KU.KF KU.KL KU.kfe).of (kHook KU.KF KU.KL KU.kfe).keeps ?g1 XL.keeps rfl rfl rfl ?g2 rfl
  ?g3 (by decide +kernel) ?g4 ?hw ?hc
 case g1=>exact λs e=>xl_of s (Qj.mp e).1
 case g2=>exact λs e=>recFacts_of (Qj.mp e).2
 case g3=>first | assumption | decide +kernel
 case g4=>exact⟨rfl,rfl,rfl,rfl,rfl,by decide +kernel⟩
 case hw=>w_witness2
 case hl=>exact byRow2 "special-get-raises" KU.lbf KU.lbt
 k_fill
 refine L3.iO (l:=KU.rwS) (k:=73) ⟨rfl,by decide,by decide⟩ rfl rfl (λw h Y=>PySem.W.kIn_of Y) ?F
 case F =>
  intro w mg fa h KX G hmg
  have FF:KU.Fns (L2.KOf KX) mg:=by constructor <;> walk_at "fk"
  have NN:KU.Bls mg:=by constructor <;> exact PySem.W.mg_none_of KX G (by k_is)
  have T:∃ a:KU.Adr,∀ base:Heap,(L2.KOf KX).In base->KU.Tx (L2.KOf KX) mg base a:=by
   dsimp only[L2.KOf]at *
   refine' KU.pz KX G FF NN ?qa ?qb ?qc ?qd ?qe ?qf ?qg ?qh ?qi ?qj ?qk ?ql ?qm ?qn ?qo ?qp ?qq ?qr ?qs ?qt ?qu ?qv ?qw ?qx ?qy ?qz ?qA ?qB ?qC ?qD ?qE ?qF ?qG ?qH ?qI ?qJ ?qK ?qL ?qM ?qN ?qO ?qP ?qQ ?qR ?qS ?qT ?qU ?qV ?qW ?qX ?qY ?qZ ?q0 ?q1 ?q2 ?q3 ?q4 ?q5 ?q6 ?q7 ?q8 ?q9 ?va ?vb ?vc ?vd ?ve ?vf ?vg ?vh ?vi ?vj ?vk ?vl
   (case qa=>k_is)
   (case qb=>k_is)
   (case qc=>k_exc)
   (case qd=>k_is)
   (case qe=>k_is)
   (case qf=>k_is)
   (case qg=>k_is)
   (case qh=>k_is)
   (case qi=>k_is)
   (case qj=>k_is)
   (case qk=>k_is)
   (case ql=>k_is)
   (case qm=>k_is)
   (case qn=>decide)
   (case qo=>exact rfl)
   (case qp=>exact rfl)
   (case qq=>exact rfl)
   (case qr=>exact rfl)
   (case qs=>exact rfl)
   (case qt=>exact rfl)
   (case qu=>exact rfl)
   (case qv=>exact rfl)
   (case qw=>exact rfl)
   (case qx=>exact rfl)
   (case qy=>exact rfl)
   (case qz=>exact rfl)
   (case qA=>k_is)
   (case qB=>k_is)
   (case qC=>decide)
   (case qD=>exact rfl)
   (case qE=>exact rfl)
   (case qF=>k_is)
   (case qG=>exact rfl)
   (case qH=>exact rfl)
   (case qI=>k_is)
   (case qJ=>exact rfl)
   (case qK=>exact rfl)
   (case qL=>k_is)
   (case qM=>exact rfl)
   (case qN=>exact rfl)
   (case qO=>k_is)
   (case qP=>exact rfl)
   (case qQ=>exact rfl)
   (case qR=>k_is)
   (case qS=>exact rfl)
   (case qT=>exact rfl)
   (case qU=>k_is)
   (case qV=>exact rfl)
   (case qW=>exact rfl)
   (case qX=>k_is)
   (case qY=>exact rfl)
   (case qZ=>exact rfl)
   (case q0=>k_is)
   (case q1=>exact rfl)
   (case q2=>exact rfl)
   (case q3=>k_is)
   (case q4=>exact rfl)
   (case q5=>exact rfl)
   (case q6=>k_is)
   (case q7=>exact rfl)
   (case q8=>exact rfl)
   (case q9=>k_is)
   (case va=>exact rfl)
   (case vb=>exact rfl)
   (case vc=>k_is)
   (case vd=>exact rfl)
   (case ve=>exact rfl)
   (case vf=>k_is)
   (case vg=>exact rfl)
   (case vh=>exact rfl)
   (case vi=>k_is)
   (case vj=>exact rfl)
   (case vk=>exact rfl)
   (case vl=>k_is)
  obtain⟨a,T⟩:=T
  obtain⟨f,fd,hm,F,_⟩:=FF.j4
  have e0:=hmg.symm.trans hm
  cases e0
  obtain⟨oc,od,kV,doc,pm,an,cdv,ct,osl,rfl,lk,hcd⟩:=F.ex
  exact⟨_,λs u=>.of_eq rfl,λbase kb nb=>KU.pk (T base kb) F⟩

