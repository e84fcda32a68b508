import PyProof.Rows.All
import Wide.All
import Wide.FinOn
import Lean
import PyProof.EqAt
import PyProof.EqKinds
import PyProof.TupleCall
import PyProof.SetRoads
import PyProof.CollectWalk
import PyProof.ZipIter
import PyProof.TupleIter
import PyProof.NeKinds
import PyProof.AttrMissHeap
import KE.KDictOf
import KE.KSortTup
import PyProof.ListMulAny
import PySem.Challenge.RW_castwright_k30_no_kinds
import KE.KxBytes
import OpenK.KRaise
import OpenK.KDescr
import OpenK.KGet
import OpenK.KMore
import OpenK.KWalk
import KE.KTab
import OpenK.KFacts
import KE.KSortAsk
import KE.KFromBytes
import OpenK.KCall
import KE.KIsAll
import OpenK.KMake
import OpenK.KLine
import OpenK.KOwn
import KE.KItem
import OpenK.Peek
import OpenK.KCls
set_option Elab.async false
set_option linter.all false
set_option maxRecDepth 100000
set_option maxHeartbeats 4000000
set_option hygiene false in
local macro_rules | `(tactic| walk_at "pa")=>`(tactic| (intro X hP hw hK hc i pins s σ H E I hf st hg))
set_option hygiene false in
local macro_rules | `(tactic| walk_at "pb")=>`(tactic| (refine wpAny_bind (wpAny_bind (wpAny_askSetting (wpAny_pure ?_)))))
set_option hygiene false in
local macro_rules | `(tactic| walk_at "pc")=>`(tactic| (intro pins s σ H x y v u Q I rx ry h))
set_option hygiene false in
local macro_rules | `(tactic| walk_at "pd")=>`(tactic| (simp only [List.set_cons_zero,List.set_cons_succ]))
set_option hygiene false in
local macro_rules | `(tactic| walk_at "pe")=>`(tactic| (exact D.m _ _ (Zaw (dn K H Q)) _ (fun a b z σ H2 m ts r2=>z _ H2 m Tr.non r2) (fun a b z=>z) (fun a b z=>z.elim) (fun a b z=>z.elim) (ok ws G _ _ ZyN q)))
set_option hygiene false in
local macro_rules | `(tactic| walk_at "pf")=>`(tactic| (refine PySem.W.callWith_K (h₀:=X.base) I.ok.mod.kin hk (thn (ha pos pins s σ H _ I h) fun us s1 ⟨vs,H1,I1,r,q⟩=>⟨I1.kIn,?_⟩) he hpl))
set_option hygiene false in
local macro_rules | `(tactic| walk_at "pg")=>`(tactic| (obtain ⟨f0,f1,f2,f3,f4,f5⟩:=hf it (by simp)))
set_option hygiene false in
local macro_rules | `(tactic| walk_at "ph")=>`(tactic| (have I1:Inv X pins σ H { s with heap:=h',toks:=tk }:=I.turned (fun b o hb e=>kk b o (by simpa using hb) e) f0 f1 f3 f4 f5))
set_option hygiene false in
local macro_rules | `(tactic| walk_at "pi")=>`(tactic| (obtain ⟨oc,od,kV,doc,pm,an,cdv,ct,osl,rfl,lk,hcd⟩:=F.ex))
set_option hygiene false in
local macro_rules | `(tactic| walk_at "pj")=>`(tactic| (simp only [Bool.and_eq_true] at h'))
set_option hygiene false in
local macro_rules | `(tactic| walk_at "pk")=>`(tactic| (simp only [List.mem_cons,List.not_mem_nil,or_false] at hb))
set_option hygiene false in
local macro_rules | `(tactic| walk_at "pl")=>`(tactic| (show wpAny (model prog w) _ (if bt w=true then _ else _) _ _ s))
set_option hygiene false in
local macro_rules | `(tactic| walk_at "pm")=>`(tactic| (have e2:its'.toArray.size=ys.length:=by rw [List.size_toArray];omega))
set_option hygiene false in
local macro_rules | `(tactic| walk_at "pn")=>`(tactic| (have e1:its.toArray.size=ws.length:=by rw [List.size_toArray];omega))
set_option hygiene false in
local macro_rules | `(tactic| walk_at "po")=>`(tactic| (simp only [List.zipIdx_cons,List.zipIdx_nil,List.forIn_cons,List.forIn_nil]))
set_option hygiene false in
local macro_rules | `(tactic| walk_at "pp")=>`(tactic| (refine wpAny_bind (wpAny_setState_of ho hd Tb.ft ?_)))
set_option hygiene false in
local macro_rules | `(tactic| walk_at "pq")=>`(tactic| (refine wpAny_bind (wpAny_setState_of ho hd T.ft ?_)))
set_option hygiene false in
local macro_rules | `(tactic| walk_at "pr")=>`(tactic| (refine wpAny_bind (wpAny_setField hi rfl (by simp) ?_)))
namespace L2
open PySem PySem.Spec PyProof.Rows
def ZmL (s:Stmt) (j:Nat):Stmt:=match s with
 | .ClassDef _ _ _ body _ _ _ _ _ _ _=>body.getD j (.Pass ⟨0,0,0,0⟩)
 | _=>.Pass ⟨0,0,0,0⟩
def ZeX (s:Stmt):Arguments:=match s with
 | .FunctionDef _ a _ _ _ _ _ _ _ _=>a
 | _=>{ posonlyargs:=[],args:=[],vararg:=none,kwonlyargs:=[],kw_defaults:=[],kwarg:=none,defaults:=[] }
def Zbe (s:Stmt):List Stmt:=match s with
 | .FunctionDef _ _ b _ _ _ _ _ _ _=>b
 | _=>[]
def Zae (s:Stmt):Scope:=match s with
 | .FunctionDef _ _ _ _ _ _ sc _ _ _=>sc
 | _=>{ kind:=.function,names:=[],isGenerator:=false,isCoroutine:=false }
end L2
namespace KM
open PySem PySem.Spec PyProof.Rows L2
 def top (i:Nat):Stmt:=PySem.Challenge.pw_castwright_k30_no_kinds.main.body.getD i (.Pass ⟨0,0,0,0⟩)
abbrev pwS:Program:=PySem.Challenge.pw_castwright_k30_no_kinds
abbrev rwS:PySem.W.OpenLaw:=PySem.Challenge.rw_castwright_k30_no_kinds
def vwS:Program:=PySem.W.view pwS [1,2,3,4,5,6,7,9,10,11,12,13,14,15,16,17,18,19,20,21,22,23,24,25,26,27,28,29,31,32,33,34,35,36,37,38,40,41,42,43,44,45,46,47,48,49,50,51,53,54,55,56,57,58,59,60,61,62,63,64,65]
abbrev en (P:Params) (k:Str) (t:Tok) (v:Value):DictEntry:=⟨PyData.keyHash P k,.str k t,v⟩
abbrev co (n:Str) (a l g r f e:Nat) (x y:Value) (z t u:Nat):Obj:=.mk (.type "code") Option.none (.fields #[.str n a,.str n (a+1),.str "/claim/cut.py" (a+2),.int l 0,.int g 0,.int 0 0,.int 0 0,.int 3 0,.ref r,.bool Bool.true,.int f 0,.ref e,.none,x,y,.ref z,.int t 0,.int l 0,.str "/claim/cut.py" u]) #[]
abbrev fo (n:Str) (s:Stmt) (q:Str) (t c:Nat):Obj:=.mk (.type "function") Option.none (.func (PySem.W.fnOf n n (ZeX s) (Zbe s) (Zae s) .none .none .none (.str q t) Option.none (.ref c) .none)) #[]
def KF:Params→PySem.W.Frag:=fun P =>
 (nat_lit 2,.mk .none Option.none (.dict #[]) #[]) ::
 (nat_lit 3,.mk (.type "dict") Option.none (.dict #[en P "__name__" 165 (.str "law_castwright_k30_no_kinds" 631),en P "__doc__" 166 .none,en P "__package__" 167 .none,en P "__loader__" 168 (.builtin "__main__.__loader__#opaque"),en P "__spec__" 169 .none,en P "__annotations__" 170 (.ref 6),en P "__builtins__" 171 (.ref 4),en P "__file__" 173 (.str "/claim/cut.py" 172),en P "__cached__" 174 .none,en P "CastError" 206 (.ref 24),en P "NoKind" 222 (.ref 37),en P "NoTerm" 238 (.ref 49),en P "BadUse" 263 (.ref 68),en P "NoValue" 279 (.ref 80),en P "NoNumber" 295 (.ref 92),en P "BadNote" 311 (.ref 104),en P "MOST_KINDS" 315 (.int 40 314),en P "MOST_DEPTH" 317 (.int 8 316),en P "MOST_LETTERS" 319 (.int 8 318),en P "MARKS" 322 (.ref 107),en P "LENGTHS" 341 (.ref 108),en P "entry_of" 350 (.ref 115),en P "names_of" 356 (.ref 120),en P "names_of_both" 364 (.ref 127),en P "row_of" 370 (.ref 132),en P "check_kind" 377 (.ref 139),en P "check_kinds" 385 (.ref 146),en P "is_kind" 392 (.ref 153),en P "is_made_of" 398 (.ref 158),en P "layer_within" 408 (.ref 165),en P "kinds_within" 414 (.ref 170),en P "has_form" 421 (.ref 177),en P "are_fields" 427 (.ref 182),en P "is_field" 434 (.ref 189),en P "is_name" 440 (.ref 194),en P "is_small_letter" 447 (.ref 201),en P "names_rise" 453 (.ref 206),en P "STEPS" 469 (.ref 207),en P "behind" 477 (.ref 219),en P "clash_of" 489 (.ref 226),en P "clash_of_rows" 499 (.ref 233),en P "clash_of_entries" 507 (.ref 240),en P "join_of" 513 (.ref 245),en P "join_of_rows" 519 (.ref 250),en P "join_of_entries" 527 (.ref 257),en P "SERVING" 540 (.ref 263),en P "serves" 548 (.ref 270),en P "first_lack" 556 (.ref 277),en P "either" 564 (.ref 284),en P "does_serve" 572 (.ref 291),en P "lack_of" 580 (.ref 298),en P "lack_of_functions" 589 (.ref 305),en P "lack_of_rows" 599 (.ref 312),en P "lack_of_entries" 607 (.ref 319),en P "either_of" 615 (.ref 326),en P "either_of_rows" 621 (.ref 331),en P "either_of_entries" 630 (.ref 338),en P "_law_cell_at" 640 (.ref 345),en P "_law_state" 649 (.ref 352),en P "_law_choice" 659 (.ref 359),en P "_law_row" 673 (.ref 366),en P "_law_kind" 685 (.ref 373),en P "_law_drawn_kind" 697 (.ref 380),en P "_law_nested_kind" 706 (.ref 387),en P "_law_bad_kind" 712 (.ref 392),en P "_law_marks" 720 (.ref 399),en P "_law_refused" 726 (.ref 404),en P "_law_called" 735 (.ref 411),en P "_law_told" 746 (.ref 418),en P "law" 752 (.ref 423)] 70) #[]) ::
 (nat_lit 15,.mk (.type "tuple") Option.none (.seq #[.type "ValueError"]) #[]) ::
 (nat_lit 22,.mk (.type "tuple") Option.none (.seq #[]) #[]) ::
 (nat_lit 23,.mk (.type "dict") Option.none (.dict #[en P "__module__" 196 (.str "castwright.errors" 187),en P "__firstlineno__" 200 (.int 2 199),en P "__static_attributes__" 201 (.ref 22),en P "__weakref__" 203 (.ref 25),en P "__doc__" 204 .none] 3) #[]) ::
 (nat_lit 24,.mk (.type "type") Option.none (.cls (.mk "CastError" [.type "ValueError"] [.ref 24,.type "ValueError",.type "Exception",.type "BaseException",.type "object"] 23 "CastError" Bool.true [] [.ref 37,.ref 49,.ref 68,.ref 80,.ref 92,.ref 104] Bool.false Option.none Bool.false)) #[Option.some (.ref 15),Option.none,Option.some (.str "CastError" 189),Option.some (.str "CastError" 197),Option.some (.builtin "ValueError.__new__"),Option.some (.bool Bool.true)]) ::
 (nat_lit 25,.mk (.type "getset_descriptor") Option.none (.fields #[.str "__weakref__" 202,.ref 24,.builtin "ExceptionGroup.__weakref__",.none]) #[]) ::
 (nat_lit 28,.mk (.type "tuple") Option.none (.seq #[.ref 24]) #[]) ::
 (nat_lit 35,.mk (.type "tuple") Option.none (.seq #[]) #[]) ::
 (nat_lit 36,.mk (.type "dict") Option.none (.dict #[en P "__module__" 214 (.str "castwright.errors" 187),en P "__firstlineno__" 218 (.int 4 217),en P "__static_attributes__" 219 (.ref 35),en P "__doc__" 220 .none] 2) #[]) ::
 (nat_lit 37,.mk (.type "type") Option.none (.cls (.mk "NoKind" [.ref 24] [.ref 37,.ref 24,.type "ValueError",.type "Exception",.type "BaseException",.type "object"] 36 "NoKind" Bool.true [] [] Bool.false Option.none Bool.false)) #[Option.some (.ref 28),Option.none,Option.some (.str "NoKind" 207),Option.some (.str "NoKind" 215),Option.some (.builtin "ValueError.__new__"),Option.some (.bool Bool.true)]) ::
 (nat_lit 40,.mk (.type "tuple") Option.none (.seq #[.ref 24]) #[]) ::
 (nat_lit 47,.mk (.type "tuple") Option.none (.seq #[]) #[]) ::
 (nat_lit 48,.mk (.type "dict") Option.none (.dict #[en P "__module__" 230 (.str "castwright.errors" 187),en P "__firstlineno__" 234 (.int 6 233),en P "__static_attributes__" 235 (.ref 47),en P "__doc__" 236 .none] 2) #[]) ::
 (nat_lit 49,.mk (.type "type") Option.none (.cls (.mk "NoTerm" [.ref 24] [.ref 49,.ref 24,.type "ValueError",.type "Exception",.type "BaseException",.type "object"] 48 "NoTerm" Bool.true [] [] Bool.false Option.none Bool.false)) #[Option.some (.ref 40),Option.none,Option.some (.str "NoTerm" 223),Option.some (.str "NoTerm" 231),Option.some (.builtin "ValueError.__new__"),Option.some (.bool Bool.true)]) ::
 (nat_lit 52,.mk (.type "tuple") Option.none (.seq #[.ref 24]) #[]) ::
 (nat_lit 64,.mk (.type "code") Option.none (.fields #[.str "__init__" 251,.str "BadUse.__init__" 252,.str "/claim/cut.py" 253,.int 10 0,.int 2 0,.int 0 0,.int 0 0,.int 3 0,.ref 59,.bool Bool.true,.int 181 0,.ref 60,.none,.ref 61,.ref 62,.ref 63,.int 256 0,.int 10 0,.str "/claim/cut.py" 257]) #[]) ::
 (nat_lit 65,.mk (.type "function") Option.none (.func (PySem.W.fnOf "__init__" "BadUse.__init__" (ZeX (ZmL (top 4) 0)) (Zbe (ZmL (top 4) 0)) (Zae (ZmL (top 4) 0)) .none .none .none (.str "castwright.errors" 187) Option.none (.ref 64) .none)) #[]) ::
 (nat_lit 66,.mk (.type "tuple") Option.none (.seq #[.str "path" 259]) #[]) ::
 (nat_lit 67,.mk (.type "dict") Option.none (.dict #[en P "__module__" 246 (.str "castwright.errors" 187),en P "__firstlineno__" 250 (.int 8 249),en P "__init__" 258 (.ref 65),en P "__static_attributes__" 260 (.ref 66),en P "__doc__" 261 .none] 2) #[]) ::
 (nat_lit 68,.mk (.type "type") Option.none (.cls (.mk "BadUse" [.ref 24] [.ref 68,.ref 24,.type "ValueError",.type "Exception",.type "BaseException",.type "object"] 67 "BadUse" Bool.true [] [] Bool.false Option.none Bool.false)) #[Option.some (.ref 52),Option.none,Option.some (.str "BadUse" 239),Option.some (.str "BadUse" 247),Option.some (.builtin "ValueError.__new__"),Option.some (.bool Bool.true)]) ::
 (nat_lit 71,.mk (.type "tuple") Option.none (.seq #[.ref 24]) #[]) ::
 (nat_lit 78,.mk (.type "tuple") Option.none (.seq #[]) #[]) ::
 (nat_lit 79,.mk (.type "dict") Option.none (.dict #[en P "__module__" 271 (.str "castwright.errors" 187),en P "__firstlineno__" 275 (.int 12 274),en P "__static_attributes__" 276 (.ref 78),en P "__doc__" 277 .none] 2) #[]) ::
 (nat_lit 80,.mk (.type "type") Option.none (.cls (.mk "NoValue" [.ref 24] [.ref 80,.ref 24,.type "ValueError",.type "Exception",.type "BaseException",.type "object"] 79 "NoValue" Bool.true [] [] Bool.false Option.none Bool.false)) #[Option.some (.ref 71),Option.none,Option.some (.str "NoValue" 264),Option.some (.str "NoValue" 272),Option.some (.builtin "ValueError.__new__"),Option.some (.bool Bool.true)]) ::
 (nat_lit 83,.mk (.type "tuple") Option.none (.seq #[.ref 24]) #[]) ::
 (nat_lit 90,.mk (.type "tuple") Option.none (.seq #[]) #[]) ::
 (nat_lit 91,.mk (.type "dict") Option.none (.dict #[en P "__module__" 287 (.str "castwright.errors" 187),en P "__firstlineno__" 291 (.int 14 290),en P "__static_attributes__" 292 (.ref 90),en P "__doc__" 293 .none] 2) #[]) ::
 (nat_lit 92,.mk (.type "type") Option.none (.cls (.mk "NoNumber" [.ref 24] [.ref 92,.ref 24,.type "ValueError",.type "Exception",.type "BaseException",.type "object"] 91 "NoNumber" Bool.true [] [] Bool.false Option.none Bool.false)) #[Option.some (.ref 83),Option.none,Option.some (.str "NoNumber" 280),Option.some (.str "NoNumber" 288),Option.some (.builtin "ValueError.__new__"),Option.some (.bool Bool.true)]) ::
 (nat_lit 95,.mk (.type "tuple") Option.none (.seq #[.ref 24]) #[]) ::
 (nat_lit 102,.mk (.type "tuple") Option.none (.seq #[]) #[]) ::
 (nat_lit 103,.mk (.type "dict") Option.none (.dict #[en P "__module__" 303 (.str "castwright.errors" 187),en P "__firstlineno__" 307 (.int 16 306),en P "__static_attributes__" 308 (.ref 102),en P "__doc__" 309 .none] 2) #[]) ::
 (nat_lit 104,.mk (.type "type") Option.none (.cls (.mk "BadNote" [.ref 24] [.ref 104,.ref 24,.type "ValueError",.type "Exception",.type "BaseException",.type "object"] 103 "BadNote" Bool.true [] [] Bool.false Option.none Bool.false)) #[Option.some (.ref 95),Option.none,Option.some (.str "BadNote" 296),Option.some (.str "BadNote" 304),Option.some (.builtin "ValueError.__new__"),Option.some (.bool Bool.true)]) ::
 (nat_lit 107,.mk (.type "tuple") Option.none (.seq #[.str "must" 320,.str "may" 321]) #[]) ::
 (nat_lit 108,.mk (.type "dict") Option.none (.dict #[en P "any" 323 (.int 1 324),en P "num" 325 (.int 1 326),en P "truth" 327 (.int 1 328),en P "to" 329 (.int 3 330),en P "box" 331 (.int 2 332),en P "row" 333 (.int 3 334)] 6) #[]) ::
 (nat_lit 114,co "entry_of" 342 24 2 109 181 110 (.ref 111) (.ref 112) 113 348 349) ::
 (nat_lit 115,fo "entry_of" (top 14) "castwright.kinds" 312 114) ::
 (nat_lit 119,co "names_of" 351 29 1 116 181 117 .none .none 118 354 355) ::
 (nat_lit 120,fo "names_of" (top 15) "castwright.kinds" 312 119) ::
 (nat_lit 126,co "names_of_both" 357 31 2 121 181 122 (.ref 123) (.ref 124) 125 362 363) ::
 (nat_lit 127,fo "names_of_both" (top 16) "castwright.kinds" 312 126) ::
 (nat_lit 131,co "row_of" 365 33 3 128 181 129 .none .none 130 368 369) ::
 (nat_lit 132,fo "row_of" (top 17) "castwright.kinds" 312 131) ::
 (nat_lit 138,co "check_kind" 371 36 1 133 181 134 (.ref 135) (.ref 136) 137 375 376) ::
 (nat_lit 139,fo "check_kind" (top 18) "castwright.kinds" 312 138) ::
 (nat_lit 145,co "check_kinds" 378 39 2 140 181 141 (.ref 142) (.ref 143) 144 383 384) ::
 (nat_lit 146,fo "check_kinds" (top 19) "castwright.kinds" 312 145) ::
 (nat_lit 152,co "is_kind" 386 42 1 147 181 148 (.ref 149) (.ref 150) 151 390 391) ::
 (nat_lit 153,fo "is_kind" (top 20) "castwright.kinds" 312 152) ::
 (nat_lit 157,co "is_made_of" 393 44 5 154 181 155 .none .none 156 396 397) ::
 (nat_lit 158,fo "is_made_of" (top 21) "castwright.kinds" 312 157) ::
 (nat_lit 164,co "layer_within" 399 57 2 159 181 160 (.ref 161) (.ref 162) 163 406 407) ::
 (nat_lit 165,fo "layer_within" (top 22) "castwright.kinds" 312 164) ::
 (nat_lit 169,co "kinds_within" 409 62 1 166 181 167 .none .none 168 412 413) ::
 (nat_lit 170,fo "kinds_within" (top 23) "castwright.kinds" 312 169) ::
 (nat_lit 176,co "has_form" 415 66 1 171 181 172 (.ref 173) (.ref 174) 175 419 420) ::
 (nat_lit 177,fo "has_form" (top 24) "castwright.kinds" 312 176) ::
 (nat_lit 181,co "are_fields" 422 72 1 178 181 179 .none .none 180 425 426) ::
 (nat_lit 182,fo "are_fields" (top 25) "castwright.kinds" 312 181) ::
 (nat_lit 188,co "is_field" 428 76 1 183 181 184 (.ref 185) (.ref 186) 187 432 433) ::
 (nat_lit 189,fo "is_field" (top 26) "castwright.kinds" 312 188) ::
 (nat_lit 193,co "is_name" 435 80 1 190 181 191 .none .none 192 438 439) ::
 (nat_lit 194,fo "is_name" (top 27) "castwright.kinds" 312 193) ::
 (nat_lit 200,co "is_small_letter" 441 84 1 195 181 196 (.ref 197) (.ref 198) 199 445 446) ::
 (nat_lit 201,fo "is_small_letter" (top 28) "castwright.kinds" 312 200) ::
 (nat_lit 205,co "names_rise" 448 86 1 202 181 203 .none .none 204 451 452) ::
 (nat_lit 206,fo "names_rise" (top 29) "castwright.kinds" 312 205) ::
 (nat_lit 207,.mk (.type "dict") Option.none (.dict #[en P "any" 456 (.ref 208),en P "num" 457 (.ref 209),en P "truth" 458 (.ref 210),en P "to" 459 (.ref 211),en P "box" 462 (.ref 212)] 5) #[]) ::
 (nat_lit 208,.mk (.type "tuple") Option.none (.seq #[]) #[]) ::
 (nat_lit 209,.mk (.type "tuple") Option.none (.seq #[]) #[]) ::
 (nat_lit 210,.mk (.type "tuple") Option.none (.seq #[]) #[]) ::
 (nat_lit 211,.mk (.type "tuple") Option.none (.seq #[.str "in" 460,.str "out" 461]) #[]) ::
 (nat_lit 212,.mk (.type "tuple") Option.none (.seq #[.str "inside" 463]) #[]) ::
 (nat_lit 218,co "behind" 470 90 2 213 181 214 (.ref 215) (.ref 216) 217 475 476) ::
 (nat_lit 219,fo "behind" (top 32) "castwright.known" 454 218) ::
 (nat_lit 225,co "clash_of" 478 92 2 220 181 221 (.ref 222) (.ref 223) 224 487 488) ::
 (nat_lit 226,fo "clash_of" (top 33) "castwright.known" 454 225) ::
 (nat_lit 232,co "clash_of_rows" 490 104 2 227 181 228 (.ref 229) (.ref 230) 231 497 498) ::
 (nat_lit 233,fo "clash_of_rows" (top 34) "castwright.known" 454 232) ::
 (nat_lit 239,co "clash_of_entries" 500 110 2 234 181 235 (.ref 236) (.ref 237) 238 505 506) ::
 (nat_lit 240,fo "clash_of_entries" (top 35) "castwright.known" 454 239) ::
 (nat_lit 244,co "join_of" 508 116 2 241 181 242 .none .none 243 511 512) ::
 (nat_lit 245,fo "join_of" (top 36) "castwright.known" 454 244) ::
 (nat_lit 249,co "join_of_rows" 514 122 2 246 181 247 .none .none 248 517 518) ::
 (nat_lit 250,fo "join_of_rows" (top 37) "castwright.known" 454 249) ::
 (nat_lit 256,co "join_of_entries" 520 126 2 251 181 252 (.ref 253) (.ref 254) 255 525 526) ::
 (nat_lit 257,fo "join_of_entries" (top 38) "castwright.known" 454 256) ::
 (nat_lit 258,.mk (.type "tuple") Option.none (.seq #[.str "none" 530,.str "none" 531]) #[]) ::
 (nat_lit 259,.mk (.type "tuple") Option.none (.seq #[.str "none" 532,.str "may" 533]) #[]) ::
 (nat_lit 260,.mk (.type "tuple") Option.none (.seq #[.str "must" 534,.str "must" 535]) #[]) ::
 (nat_lit 261,.mk (.type "tuple") Option.none (.seq #[.str "must" 536,.str "may" 537]) #[]) ::
 (nat_lit 262,.mk (.type "tuple") Option.none (.seq #[.str "may" 538,.str "may" 539]) #[]) ::
 (nat_lit 263,.mk (.type "tuple") Option.none (.seq #[.ref 258,.ref 259,.ref 260,.ref 261,.ref 262]) #[]) ::
 (nat_lit 269,co "serves" 541 132 2 264 181 265 (.ref 266) (.ref 267) 268 546 547) ::
 (nat_lit 270,fo "serves" (top 41) "castwright.serving" 528 269) ::
 (nat_lit 276,co "first_lack" 549 135 2 271 181 272 (.ref 273) (.ref 274) 275 554 555) ::
 (nat_lit 277,fo "first_lack" (top 42) "castwright.serving" 528 276) ::
 (nat_lit 283,co "either" 557 138 2 278 181 279 (.ref 280) (.ref 281) 282 562 563) ::
 (nat_lit 284,fo "either" (top 43) "castwright.serving" 528 283) ::
 (nat_lit 290,co "does_serve" 565 141 2 285 181 286 (.ref 287) (.ref 288) 289 570 571) ::
 (nat_lit 291,fo "does_serve" (top 44) "castwright.serving" 528 290) ::
 (nat_lit 297,co "lack_of" 573 143 2 292 181 293 (.ref 294) (.ref 295) 296 578 579) ::
 (nat_lit 298,fo "lack_of" (top 45) "castwright.serving" 528 297) ::
 (nat_lit 304,co "lack_of_functions" 581 155 2 299 181 300 (.ref 301) (.ref 302) 303 587 588) ::
 (nat_lit 305,fo "lack_of_functions" (top 46) "castwright.serving" 528 304) ::
 (nat_lit 311,co "lack_of_rows" 590 160 2 306 181 307 (.ref 308) (.ref 309) 310 597 598) ::
 (nat_lit 312,fo "lack_of_rows" (top 47) "castwright.serving" 528 311) ::
 (nat_lit 318,co "lack_of_entries" 600 166 2 313 181 314 (.ref 315) (.ref 316) 317 605 606) ::
 (nat_lit 319,fo "lack_of_entries" (top 48) "castwright.serving" 528 318) ::
 (nat_lit 325,co "either_of" 608 172 2 320 181 321 (.ref 322) (.ref 323) 324 613 614) ::
 (nat_lit 326,fo "either_of" (top 49) "castwright.serving" 528 325) ::
 (nat_lit 330,co "either_of_rows" 616 182 2 327 181 328 .none .none 329 619 620) ::
 (nat_lit 331,fo "either_of_rows" (top 50) "castwright.serving" 528 330) ::
 (nat_lit 337,co "either_of_entries" 622 186 2 332 181 333 (.ref 334) (.ref 335) 336 628 629) ::
 (nat_lit 338,fo "either_of_entries" (top 51) "castwright.serving" 528 337) ::
 (nat_lit 344,co "_law_cell_at" 633 196 2 339 181 340 (.ref 341) (.ref 342) 343 638 639) ::
 (nat_lit 345,fo "_law_cell_at" (top 53) "law_castwright_k30_no_kinds" 631 344) ::
 (nat_lit 351,co "_law_state" 641 200 2 346 181 347 (.ref 348) (.ref 349) 350 647 648) ::
 (nat_lit 352,fo "_law_state" (top 54) "law_castwright_k30_no_kinds" 631 351) ::
 (nat_lit 358,co "_law_choice" 650 205 2 353 181 354 (.ref 355) (.ref 356) 357 657 658) ::
 (nat_lit 359,fo "_law_choice" (top 55) "law_castwright_k30_no_kinds" 631 358) ::
 (nat_lit 365,co "_law_row" 660 214 4 360 181 361 (.ref 362) (.ref 363) 364 671 672) ::
 (nat_lit 366,fo "_law_row" (top 56) "law_castwright_k30_no_kinds" 631 365) ::
 (nat_lit 372,co "_law_kind" 674 223 4 367 181 368 (.ref 369) (.ref 370) 371 683 684) ::
 (nat_lit 373,fo "_law_kind" (top 57) "law_castwright_k30_no_kinds" 631 372) ::
 (nat_lit 379,co "_law_drawn_kind" 686 234 4 374 181 375 (.ref 376) (.ref 377) 378 695 696) ::
 (nat_lit 380,fo "_law_drawn_kind" (top 58) "law_castwright_k30_no_kinds" 631 379) ::
 (nat_lit 386,co "_law_nested_kind" 698 241 2 381 181 382 (.ref 383) (.ref 384) 385 704 705) ::
 (nat_lit 387,fo "_law_nested_kind" (top 59) "law_castwright_k30_no_kinds" 631 386) ::
 (nat_lit 391,co "_law_bad_kind" 707 245 1 388 181 389 .none .none 390 710 711) ::
 (nat_lit 392,fo "_law_bad_kind" (top 60) "law_castwright_k30_no_kinds" 631 391) ::
 (nat_lit 398,co "_law_marks" 713 259 1 393 181 394 (.ref 395) (.ref 396) 397 718 719) ::
 (nat_lit 399,fo "_law_marks" (top 61) "law_castwright_k30_no_kinds" 631 398) ::
 (nat_lit 403,co "_law_refused" 721 262 2 400 181 401 .none .none 402 724 725) ::
 (nat_lit 404,fo "_law_refused" (top 62) "law_castwright_k30_no_kinds" 631 403) ::
 (nat_lit 410,co "_law_called" 727 264 3 405 181 406 (.ref 407) (.ref 408) 409 733 734) ::
 (nat_lit 411,fo "_law_called" (top 63) "law_castwright_k30_no_kinds" 631 410) ::
 (nat_lit 417,co "_law_told" 736 271 3 412 181 413 (.ref 414) (.ref 415) 416 744 745) ::
 (nat_lit 418,fo "_law_told" (top 64) "law_castwright_k30_no_kinds" 631 417) ::
 (nat_lit 422,co "law" 747 278 1 419 181 420 .none .none 421 750 751) ::
 (nat_lit 423,fo "law" (top 65) "law_castwright_k30_no_kinds" 631 422) ::
 []
def KL:List Addr:=2::3::15::22::23::24::25::28::35::36::37::40::47::48::49::52::64::65::66::67::68::71::78::79::80::83::90::91::92::95::102::103::104::107::108::114::115::119::120::126::127::131::132::138::139::145::146::152::153::157::158::164::165::169::170::176::177::181::182::188::189::193::194::200::201::205::206::207::208::209::210::211::212::218::219::225::226::232::233::239::240::244::245::249::250::256::257::258::259::260::261::262::263::269::270::276::277::283::284::290::291::297::298::304::305::311::312::318::319::325::326::330::331::337::338::344::345::351::352::358::359::365::366::372::373::379::380::386::387::391::392::398::399::403::404::410::411::417::418::422::423::[]
theorem kfe (P:Params):KL=(KF P).map (·.1):=by kernel_rfl
section
open PySem.W
abbrev OE (w:World):=openEnds treeTable pwS w 6508
abbrev FS (s:Shared):=openSeen vwS ["LENGTHS","STEPS"] (importedModules pwS.main.body) (fun s=>xlAt vwS [] s&&recOk (RowW.records rwS.row.toRowW) s) true s
abbrev OB (s:Shared):=(kHook KF KL kfe).obs s
abbrev VA (w:World):=(kHook KF KL kfe).val w
abbrev GD:=openGood vwS ["LENGTHS","STEPS"]
abbrev LB (w:World):Prop:=(OE w).map (fun s=>(FS s,OB s))=some (GD,VA w)
theorem mpp {α β γ:Type} {o:Option α} {f:α→β} {g:α→γ} {a:β} {b:γ} (h1:o.map f=some a) (h2:o.map g=some b):o.map (fun s=>(f s,g s))=some (a,b):=by
 cases o with
 | none=>cases h1
 | some s=>exact congrArg some (Prod.ext (Option.some.inj h1) (Option.some.inj h2))
theorem mpl {α β γ:Type} {o:Option α} {f:α→β} {g:α→γ} {a:β} {b:γ} (h:o.map (fun s=>(f s,g s))=some (a,b)):o.map f=some a:=by
 cases o with
 | none=>cases h
 | some s=>exact congrArg some (Prod.ext_iff.mp (Option.some.inj h)).1
theorem mpr {α β γ:Type} {o:Option α} {f:α→β} {g:α→γ} {a:β} {b:γ} (h:o.map (fun s=>(f s,g s))=some (a,b)):o.map g=some b:=by
 cases o with
 | none=>cases h
 | some s=>exact congrArg some (Prod.ext_iff.mp (Option.some.inj h)).2
theorem mpb {α:Type} {o:Option α} {k a b c d e f:α→Bool} (h1:o.map k=some true) (h2:o.map (fun s=>a s&&b s&&c s&&d s&&e s&&f s)=some true):o.map (fun s=>k s&&a s&&b s&&c s&&d s&&e s&&f s)=some true:=by
 cases o with
 | none=>cases h1
 | some s =>
  have x:k s=true:=Option.some.inj h1
  have y:(a s&&b s&&c s&&d s&&e s&&f s)=true:=Option.some.inj h2
  refine congrArg some ?_
  show (k s&&a s&&b s&&c s&&d s&&e s&&f s)=true
  rw [x];exact y
theorem ZA3 (w:World):(OE (w.withFollow "special-get-raises" false)).map (fun s=>OB s)=some (VA (w.withFollow "special-get-raises" false)):=by kernel_rfl
theorem ZAU (w:World):(OE (w.withFollow "special-get-raises" false)).map (fun s=>seen ((recsOf vwS).map (·.name)) (ownsOf vwS) [] { s with gens:=#[] })=some (expectedOf vwS):=by kernel_rfl
theorem ZAo (w:World):(OE (w.withFollow "special-get-raises" false)).map (fun s=>(s.heap.bltView,tabsOk vwS s))=some ((bltViewBooted,true)):=by kernel_rfl
theorem ZAB (w:World):(OE (w.withFollow "special-get-raises" false)).map (fun s=>s.heap.keysOk (looseW vwS ["LENGTHS","STEPS"]) ((recsOf vwS).map (·.name)) ((litsOf vwS).map (·.1)) ((clssOf vwS (looseW vwS ["LENGTHS","STEPS"])).map (·.name)))=some (true):=by kernel_rfl
theorem ZA0 (w:World):(OE (w.withFollow "special-get-raises" false)).map (fun s=>s.heap.accountedOkI (importedModules pwS.main.body)&&s.heap.isNs mainGlobals&&s.heap.isNs builtinsNs&&tablesOk vwS s.heap&&(xlAt vwS [] s&&recOk (RowW.records rwS.row.toRowW) s)&&(s.gens.size==0))=some (true):=by kernel_rfl
theorem ZAV (w:World):(OE (w.withFollow "special-get-raises" false)).map (fun s=>(pinSeenD vwS (drecsOf vwS) s,plainSeenE vwS (looseW vwS ["LENGTHS","STEPS"]) s,plainSeenD vwS ["LENGTHS","STEPS"] s,wideSeen vwS s,clsSeenW vwS ["LENGTHS","STEPS"] s))=some ((pinGoodD (drecsOf vwS),plainGoodE vwS (looseW vwS ["LENGTHS","STEPS"]),plainGoodD vwS ["LENGTHS","STEPS"],wideGood vwS,clsGoodW vwS ["LENGTHS","STEPS"])):=by kernel_rfl
theorem lbf (w:World):LB (w.withFollow "special-get-raises" false):=mpp (mpp (ZAU w) (mpp (mpl (ZAo w)) (mpp (mpb (ZAB w) (ZA0 w)) (mpp (mpr (ZAo w)) (ZAV w))))) (ZA3 w)
theorem ZAN (w:World):(OE (w.withFollow "special-get-raises" true)).map (fun s=>OB s)=some (VA (w.withFollow "special-get-raises" true)):=by kernel_rfl
theorem ZA1 (w:World):(OE (w.withFollow "special-get-raises" true)).map (fun s=>seen ((recsOf vwS).map (·.name)) (ownsOf vwS) [] { s with gens:=#[] })=some (expectedOf vwS):=by kernel_rfl
theorem ZAi (w:World):(OE (w.withFollow "special-get-raises" true)).map (fun s=>(s.heap.bltView,tabsOk vwS s))=some ((bltViewBooted,true)):=by kernel_rfl
theorem ZAE (w:World):(OE (w.withFollow "special-get-raises" true)).map (fun s=>s.heap.keysOk (looseW vwS ["LENGTHS","STEPS"]) ((recsOf vwS).map (·.name)) ((litsOf vwS).map (·.1)) ((clssOf vwS (looseW vwS ["LENGTHS","STEPS"])).map (·.name)))=some (true):=by kernel_rfl
theorem ZAD (w:World):(OE (w.withFollow "special-get-raises" true)).map (fun s=>s.heap.accountedOkI (importedModules pwS.main.body)&&s.heap.isNs mainGlobals&&s.heap.isNs builtinsNs&&tablesOk vwS s.heap&&(xlAt vwS [] s&&recOk (RowW.records rwS.row.toRowW) s)&&(s.gens.size==0))=some (true):=by kernel_rfl
theorem ZAR (w:World):(OE (w.withFollow "special-get-raises" true)).map (fun s=>(pinSeenD vwS (drecsOf vwS) s,plainSeenE vwS (looseW vwS ["LENGTHS","STEPS"]) s,plainSeenD vwS ["LENGTHS","STEPS"] s,wideSeen vwS s,clsSeenW vwS ["LENGTHS","STEPS"] s))=some ((pinGoodD (drecsOf vwS),plainGoodE vwS (looseW vwS ["LENGTHS","STEPS"]),plainGoodD vwS ["LENGTHS","STEPS"],wideGood vwS,clsGoodW vwS ["LENGTHS","STEPS"])):=by kernel_rfl
theorem lbt (w:World):LB (w.withFollow "special-get-raises" true):=mpp (mpp (ZA1 w) (mpp (mpl (ZAi w)) (mpp (mpb (ZAE w) (ZAD w)) (mpp (mpr (ZAi w)) (ZAR w))))) (ZAN w)
end
end KM
namespace L2
open PySem PySem.Spec PyProof.Rows
abbrev Key:=Sum Int Str
def ZwF:Key→Value→Bool
 | .inl k,v=>Value.isInt k v
 | .inr x,v=>Value.isStrOf x v
def ZAJ (w:World):Key→Int
 | .inl k=>hashInt k
 | .inr x=>hashStr w x
theorem Zbx:∀ {k:Key} {v:Value},ZwF k v=true→(∃ i t,k=Sum.inl i∧v=Value.int i t)∨(∃ x t,k=Sum.inr x∧v=Value.str x t)
 | .inl i,v,h=>by
  obtain ⟨t,e⟩:=Value.isInt_shape (k:=i) (v:=v) h
  exact .inl ⟨i,t,rfl,e⟩
 | .inr x,v,h=>by
  obtain ⟨t,e⟩:=Value.isStrOf_shape (x:=x) (v:=v) h
  exact .inr ⟨x,t,rfl,e⟩
theorem ZxU (a b:Int):decide ((Sum.inl a:Key)=Sum.inl b)=(a==b):=by
 by_cases e:a=b
 ·subst e;simp
 ·have h:¬ (Sum.inl a:Key)=Sum.inl b:=fun q=>e (Sum.inl.inj q)
  rw [decide_eq_false h]
  exact (beq_eq_false_iff_ne.mpr e).symm
theorem Zwq (a b:Str):decide ((Sum.inr a:Key)=Sum.inr b)=decide (a=b):=by
 by_cases e:a=b
 ·subst e;simp
 ·have h:¬ (Sum.inr a:Key)=Sum.inr b:=fun q=>e (Sum.inr.inj q)
  rw [decide_eq_false h,decide_eq_false e]
theorem Zyy (a:Int) (b:Str):decide ((Sum.inl a:Key)=Sum.inr b)=false:=decide_eq_false (fun q=>nomatch q)
theorem ZwJ (a:Str) (b:Int):decide ((Sum.inr a:Key)=Sum.inl b)=false:=decide_eq_false (fun q=>nomatch q)
def Zm2 (prog:Program) (w:World):PySem.KeyKind prog w Key where
 is:=ZwF
 hash:=ZAJ w
 inj:=fun v a b ha hb=>by
  rcases Zbx ha with ⟨i,t,rfl,rfl⟩ | ⟨x,t,rfl,rfl⟩
  ·rcases Zbx hb with ⟨j,u,rfl,e⟩ | ⟨y,u,rfl,e⟩
   ·injection e with e1 _;rw [e1]
   ·exact nomatch e
  ·rcases Zbx hb with ⟨j,u,rfl,e⟩ | ⟨y,u,rfl,e⟩
   ·exact nomatch e
   ·injection e with e1 _;rw [e1]
 byValue:=fun k v h=>by
  rcases Zbx h with ⟨i,t,rfl,rfl⟩ | ⟨x,t,rfl,rfl⟩ <;> rfl
 pyHash:=fun hv h=>by
  rcases Zbx hv with ⟨i,t,rfl,rfl⟩ | ⟨x,t,rfl,rfl⟩
  ·exact wpAny_pyHash_int h
  ·exact wpAny_pyHash_str h
 eqBool:=fun hu hv h=>by
  rcases Zbx hu with ⟨i,t,rfl,rfl⟩ | ⟨x,t,rfl,rfl⟩
  ·rcases Zbx hv with ⟨j,u,rfl,rfl⟩ | ⟨y,u,rfl,rfl⟩
   ·rw [ZxU] at h;exact wpAny_eqBool_int h
   ·rw [Zyy] at h;exact SeqAt.EqAt.int_str i t y u _ _ _ _ h
  ·rcases Zbx hv with ⟨j,u,rfl,rfl⟩ | ⟨y,u,rfl,rfl⟩
   ·rw [ZwJ] at h;exact SeqAt.EqAt.str_int x t j u _ _ _ _ h
   ·rw [Zwq] at h;exact wpAny_eqBool_str h
 «strs»:=fun k x t v h=>by
  rcases Zbx h with ⟨i,u,rfl,e⟩ | ⟨y,u,rfl,e⟩
  ·exact nomatch e
  ·injection e with e1 _
   subst e1
   cases v <;> rfl
inductive V where
 | non | bl (b:Bool) | int (i:Int) | str (x:Str) | byt (b:Array UInt8) | flt (b:UInt64) | ref (a:Addr) | ty (n:String)
 deriving DecidableEq
def RelV:V→Value→Prop
 | .non,u=>u=Value.none
 | .bl b,u=>u=Value.bool b
 | .int i,u=>∃ t,u=Value.int i t
 | .str x,u=>∃ t,u=Value.str x t
 | .byt b,u=>∃ t,u=Value.bytes b t
 | .flt b,u=>∃ t,u=Value.float b t
 | .ref a,u=>u=Value.ref a
 | .ty n,u=>u=Value.type n
abbrev Vals:List V→List Value→Prop:=Paired RelV
theorem Vals.length {xs:List V} {us:List Value} (r:Vals xs us):xs.length=us.length:=Paired.length r
theorem Vals.get:∀ {xs:List V} {us:List Value} {i:Nat} {x:V},Vals xs us→xs[i]?=some x→∃ u,us[i]?=some u∧RelV x u
 | _,_,_,_,.nil,e=>by simp at e
 | _,_,0,_,.cons r _,e=>by simp at e;subst e;exact ⟨_,rfl,r⟩
 | _,_,i+1,x,.cons _ t,e=>by
  obtain ⟨u,h1,h2⟩:=Vals.get (i:=i) (x:=x) t (by simpa using e)
  exact ⟨u,by simpa using h1,h2⟩
theorem Vals.set {x:V} {u:Value} (r:RelV x u):∀ {xs:List V} {us:List Value} (i:Nat),Vals xs us→Vals (xs.set i x) (us.set i u)
 | _,_,_,.nil=>.nil
 | _,_,0,.cons _ t=>.cons r t
 | _,_,i+1,.cons q t=>.cons q (Vals.set r i t)
theorem Vals.append:∀ {xs ys:List V} {us ws:List Value},Vals xs us→Vals ys ws→Vals (xs++ys) (us++ws)
 | _,_,_,_,.nil,s=>s
 | _,_,_,_,.cons r t,s=>.cons r (Vals.append t s)
theorem Vals.take:∀ {xs:List V} {us:List Value} (n:Nat),Vals xs us→Vals (xs.take n) (us.take n)
 | _,_,0,_=>.nil
 | _,_,_+1,.nil=>.nil
 | _,_,n+1,.cons r t=>.cons r (Vals.take n t)
theorem Vals.drop:∀ {xs:List V} {us:List Value} (n:Nat),Vals xs us→Vals (xs.drop n) (us.drop n)
 | _,_,0,r=>r
 | _,_,_+1,.nil=>.nil
 | _,_,n+1,.cons _ t=>Vals.drop n t
def ZAs:Option V→Option Value→Prop
 | some v,some u=>RelV v u
 | none,none=>True
 | _,_=>False
def KV {κ:Type}:List (κ×V)→List (κ×Value)→Prop:=Paired fun (p:κ×V) (q:κ×Value)=>p.1=q.1∧RelV p.2 q.2
def kV:Key→V
 | .inl i=>.int i
 | .inr x=>.str x
inductive HO where
 | lst (xs:List V)
 | tup (xs:List V)
 | dK (kvs:List (Key×V)) | dT (kvs:List (List Key×V))
 | set (S:Int→Bool) (n:Nat)
 | ins (C dx:Addr) (fs:List (Str×V))
 | own (x:Addr)
 | xd (fs:List (Str×V))
 | met (f x:Addr)
 | rng (lo hi:Int)
 | frz (o:Obj) (u:HO)
 | tbl (ps:Array Value)
 | ext (φ:Heap→Prop)
abbrev Hp:=Addr→Option HO
def upd (H:Hp) (a:Addr) (o:HO):Hp:=fun b=>if b=a then some o else H b
theorem ZbA {H:Hp} {a:Addr} {o:HO}:upd H a o a=some o:=by unfold upd;rw [if_pos rfl]
theorem Za2 {H:Hp} {a b:Addr} {o:HO} (h:b≠a):upd H a o b=H b:=by unfold upd;rw [if_neg h]
theorem ZcL {H:Hp} {a b:Addr} {o:HO} (h:H a=some o) (h':H b=none):a≠b:=by
 intro e;subst e;rw [h] at h';cases h'
section
variable (P:Program) (w:World)
def ObjOk (H:Hp) (h:Heap) (a:Addr):HO→Prop
 | .lst xs=>xs.length≤sizeLine∧∃ (its:List Value) (n:Nat),Vals xs its∧h.get? a=some { cls:=.type "list",data:=.seq its.toArray n }
 | .tup xs=>xs.length≤sizeLine∧∃ its:List Value,Vals xs its∧IsTup h a its.toArray
 | .dK kvs=>kvs.length≤sizeLine∧(a==sysModules)=false∧∃ vs,KV kvs vs∧h.DictOf (Zm2 P w) a vs
 | .dT kvs=>kvs.length≤sizeLine∧(a==sysModules)=false∧∃ xs:List (List Key×Addr×Value),
   Paired (fun (p:List Key×V) (q:List Key×Addr×Value)=>p.1=q.1∧H q.2.1=some (.tup (p.1.map kV))∧RelV p.2 q.2.2) kvs xs ∧
   ∃ o es ep,h.get? a=some o∧o.ExactDict∧o.data=.dict es ep∧es.toList=xs.map (entryOfKey (tupleKind (Zm2 P w)))∧(xs.map (·.1)).Nodup
 | .set S n=>h.SetOf (intKind P w) a S n
 | .ins C dx fs=>H dx=some (.own a)∧fs.length≤1000∧dx≠a∧h.get? a=some (PySem.W.instObj C dx) ∧
   ∃ mA,h.Ns1 dx mA∧(∀ f,ZAs (fs.lookup f) (mA f))∧PySem.Within mA (fs.map (·.1))
 | .own _=>∃ o,h.get? a=some o
 | .xd fs=>∃ mA,h.Ns1 a mA∧∀ f,ZAs (fs.lookup f) (mA f)
 | .rng lo hi=>∃ t u v,h.get? a=some { cls:=.type "range",data:=.fields #[.int lo t,.int hi u,.int 1 v] }
 | .frz o u=>h.get? a=some o∧ObjOk H h a u
 | .tbl ps=>h.get? a=some { cls:=.none,data:=.fields ps }
 | .met f x=>h.get? a=some (PySem.W.methodObj (.ref f) (.ref x))
 | .ext φ=>φ h∧(∃ o,h.get? a=some o)∧∀ h1 h2:Heap,φ h1→(∀ o,h1.get? a=some o→h2.get? a=some o)→φ h2
def HOk (H:Hp) (h:Heap):Prop:=∀ a o,H a=some o→ObjOk P w H h a o
end
section
variable {P:Program} {w:World} {H H':Hp} {h h':Heap} {a:Addr} {o:HO}
theorem ObjOk.lt (x:ObjOk P w H h a o):a < h.objs.size:=by
 cases o with
 | lst xs=>obtain ⟨_,_,_,_,e⟩:=x;exact Heap.lt_size e
 | tup xs=>obtain ⟨_,_,_,p⟩:=x;exact p.lt
 | dK kvs=>obtain ⟨_,_,_,_,o,_,_,e,_⟩:=x;exact Heap.lt_size e
 | dT kvs=>obtain ⟨_,_,_,_,o,_,_,e,_⟩:=x;exact Heap.lt_size e
 | set S n=>obtain ⟨o,_,_,_,e,_⟩:=x;exact Heap.lt_size e
 | ins C dx fs=>obtain ⟨_,_,_,e,_⟩:=x;exact Heap.lt_size e
 | own y=>obtain ⟨_,e⟩:=x;exact Heap.lt_size e
 | xd fs=>obtain ⟨_,⟨_,_,_,e,_⟩,_⟩:=x;exact Heap.lt_size e
 | rng lo hi=>obtain ⟨_,_,_,e⟩:=x;exact Heap.lt_size e
 | frz ob u=>obtain ⟨e,_⟩:=x;exact Heap.lt_size e
 | tbl ps=>exact Heap.lt_size (show h.get? a=some _ from x)
 | met f y=>exact Heap.lt_size (show h.get? a=some _ from x)
 | ext φ=>obtain ⟨_,⟨_,e⟩,_⟩:=x;exact Heap.lt_size e
theorem Paired.mapP {α β:Type} {F G:α→β→Prop}:∀ {l₁:List α} {l₂:List β},Paired F l₁ l₂→(∀ a b,F a b→G a b)→Paired G l₁ l₂
 | _,_,.nil,_=>.nil
 | _,_,.cons r t,f=>.cons (f _ _ r) (Paired.mapP t f)
theorem ObjOk.stay (x:ObjOk P w H h a o) (k:∀ b u,(b=a∨H b=some (.own a))→h.get? b=some u→h'.get? b=some u)
  (ho:∀ b,H b=some (.own a)→H' b=some (.own a)) (ht:∀ b xs,H b=some (.tup xs)→H' b=some (.tup xs)):ObjOk P w H' h' a o:=by
 induction o with
 | lst xs=>obtain ⟨z,its,n,r,e⟩:=x;exact ⟨z,its,n,r,k _ _ (.inl rfl) e⟩
 | tup xs=>obtain ⟨z,its,r,ob,e,c⟩:=x;exact ⟨z,its,r,ob,k _ _ (.inl rfl) e,c⟩
 | dK kvs=>obtain ⟨z,y,vs,r,ob,es,ep,e,c⟩:=x;exact ⟨z,y,vs,r,ob,es,ep,k _ _ (.inl rfl) e,c⟩
 | dT kvs =>
  obtain ⟨z,y,xs,r,ob,es,ep,e,c⟩:=x
  exact ⟨z,y,xs,Paired.mapP r fun p q z=>⟨z.1,ht _ _ z.2.1,z.2.2⟩,ob,es,ep,k _ _ (.inl rfl) e,c⟩
 | set S n=>obtain ⟨ob,es,ep,t,e,c⟩:=x;exact ⟨ob,es,ep,t,k _ _ (.inl rfl) e,c⟩
 | ins C dx fs =>
  obtain ⟨d,z,ne,e,mA,⟨od,es,ep,e2,c⟩,r⟩:=x
  exact ⟨ho _ d,z,ne,k _ _ (.inl rfl) e,mA,⟨od,es,ep,k _ _ (.inr d) e2,c⟩,r⟩
 | own y=>obtain ⟨ob,e⟩:=x;exact ⟨ob,k _ _ (.inl rfl) e⟩
 | xd fs=>obtain ⟨mA,⟨od,es,ep,e,c⟩,r⟩:=x;exact ⟨mA,⟨od,es,ep,k _ _ (.inl rfl) e,c⟩,r⟩
 | rng lo hi=>obtain ⟨t,u,v,e⟩:=x;exact ⟨t,u,v,k _ _ (.inl rfl) e⟩
 | frz ob u ih=>obtain ⟨e,q⟩:=x;exact ⟨k _ _ (.inl rfl) e,ih q⟩
 | tbl ps =>
  have e:h.get? a=some { cls:=.none,data:=.fields ps }:=x
  show h'.get? a=some { cls:=.none,data:=.fields ps }
  exact k a _ (.inl rfl) e
 | met f y =>
  have e:h.get? a=some (PySem.W.methodObj (.ref f) (.ref y)):=x
  show h'.get? a=some (PySem.W.methodObj (.ref f) (.ref y))
  exact k a _ (.inl rfl) e
 | ext φ=>obtain ⟨p,⟨o,e⟩,st⟩:=x;exact ⟨st _ _ p fun o q=>k _ _ (.inl rfl) q,⟨o,k _ _ (.inl rfl) e⟩,st⟩
theorem HOk.lt (x:HOk P w H h) (e:H a=some o):a < h.objs.size:=(x a o e).lt
theorem HOk.fresh (x:HOk P w H h) (e:h.objs.size≤a):H a=none:=by
 cases q:H a with
 | none=>rfl
 | some u=>exact absurd (Nat.lt_of_lt_of_le (x.lt q) e) (Nat.lt_irrefl _)
theorem HOk.kept (x:HOk P w H h) (k:∀ b u,h.get? b=some u→h'.get? b=some u):HOk P w H h':=fun a o e =>
 (x a o e).stay (fun b u _ q=>k b u q) (fun _ q=>q) fun _ _ q=>q
theorem HOk.laid (x:HOk P w H h) (k:∀ b u,h.get? b=some u→h'.get? b=some u) (hp:h.objs.size≤a) (new:ObjOk P w (upd H a o) h' a o):HOk P w (upd H a o) h':=fun b u e=>by
 have hn:=x.fresh hp
 by_cases hb:b=a
 ·subst hb;rw [ZbA] at e;cases e;exact new
 ·rw [Za2 hb] at e
  exact (x b u e).stay (fun c v _ q=>k c v q) (fun c q=>by rw [Za2 (ZcL q hn)];exact q) fun c xs q=>by rw [Za2 (ZcL q hn)];exact q
end
def Rd (H:Hp) (a:Addr) (u:HO):Prop:=H a=some u∨∃ o,H a=some (.frz o u)
theorem Rd.of {H:Hp} {a:Addr} {u:HO} (h:H a=some u):Rd H a u:=.inl h
theorem Rd.ok {P:Program} {w:World} {H:Hp} {h:Heap} {a:Addr} {u:HO} (r:Rd H a u) (x:HOk P w H h):ObjOk P w H h a u:=by
 rcases r with r | ⟨o,r⟩
 ·exact x a u r
 ·obtain ⟨_,q⟩:=x a _ r
  exact q
def Mut:Option HO→Prop
 | some (.lst _)=>True
 | some (.dK _)=>True
 | some (.dT _)=>True
 | some (.set _ _)=>True
 | some (.ins _ _ _)=>True
 | some (.ext _)=>True
 | _=>False
section
variable {P:Program} {w:World} {H:Hp} {h h':Heap} {x e:Addr} {o':HO}
theorem HOk.write (ok:HOk P w H h) (mu:Mut (H x)) (he:e=x∨H e=some (.own x)) (k:∀ b u,b≠e→h.get? b=some u→h'.get? b=some u) (heo:∃ u,h'.get? e=some u)
  (new:ObjOk P w (upd H x o') h' x o'):HOk P w (upd H x o') h':=fun b u q=>by
 have nown:∀ c y,H c=some (.own y)→c≠x:=fun c y r z=>by subst z;rw [r] at mu;exact mu
 have ntup:∀ c xs,H c=some (.tup xs)→c≠x:=fun c xs r z=>by subst z;rw [r] at mu;exact mu
 by_cases hb:b=x
 ·subst hb;rw [ZbA] at q;cases q;exact new
 ·rw [Za2 hb] at q
  by_cases hbe:b=e
  ·have q':H b=some (.own x):=by
    rcases he with z | z
    ·exact absurd (hbe.trans z) hb
    ·rw [hbe];exact z
   rw [q] at q';cases q'
   obtain ⟨v,hv⟩:=heo
   exact ⟨v,by rw [hbe];exact hv⟩
  ·refine (ok b u q).stay (fun c v hc r=>k c v ?_ r) (fun c r=>by rw [Za2 (nown c b r)];exact r) fun c xs r=>by rw [Za2 (ntup c xs r)];exact r
   rcases hc with rfl | hc
   ·exact hbe
   ·rintro rfl
    rcases he with z | z
    ·exact nown c b hc z
    ·rw [hc] at z;cases z;exact hb rfl
end
structure Un (fs ex:List Addr) (H H':Hp) (h h':Heap):Prop where
 keep:∀ b o,h.get? b=some o→H b=none→b∉fs→b∉ex→h'.get? b=some o
 slot:∀ b o,h.get? b=some o→H b=none→b∈fs→b∉ex→∃ sl,h'.get? b=some { o with slots:=sl }
 free:∀ b o,h.get? b=some o→H b=none→b∉ex→H' b=none
 there:∀ b o,h.get? b=some o→b∉ex→∃ o',h'.get? b=some o'
 tups:∀ b xs,H b=some (.tup xs)→H' b=some (.tup xs)
 frzs:∀ b o u,H b=some (.frz o u)→H' b=some (.frz o u)
 tbls:∀ b ps,H b=some (.tbl ps)→∃ more,H' b=some (.tbl (ps++more))
section
variable {fs fs' ex ex':List Addr} {H H1 H2:Hp} {h h1 h2 h':Heap} {a x e:Addr} {o:HO}
theorem Un.any (u:Un fs ex H H1 h h1) {b:Addr} {ob:Obj} (q:h.get? b=some ob) (n:H b=none) (hx:b∉ex):∃ sl,h1.get? b=some { ob with slots:=sl }:=by
 by_cases hb:b∈fs
 ·exact u.slot b ob q n hb hx
 ·exact ⟨ob.slots,u.keep b ob q n hb hx⟩
theorem Un.trans (a:Un fs ex H H1 h h1) (b:Un fs ex H1 H2 h1 h2):Un fs ex H H2 h h2 where
 keep:=fun c ob q n hc hx=>b.keep c ob (a.keep c ob q n hc hx) (a.free c ob q n hx) hc hx
 slot:=fun c ob q n hc hx=>by
  obtain ⟨sl,e1⟩:=a.slot c ob q n hc hx
  obtain ⟨sl',e2⟩:=b.slot c _ e1 (a.free c ob q n hx) hc hx
  exact ⟨sl',e2⟩
 free:=fun c ob q n hx=>by
  obtain ⟨o',e1⟩:=a.there c ob q hx
  exact b.free c o' e1 (a.free c ob q n hx) hx
 there:=fun c ob q hx=>by
  obtain ⟨o',e1⟩:=a.there c ob q hx
  exact b.there c o' e1 hx
 tups:=fun c xs q=>b.tups c xs (a.tups c xs q)
 frzs:=fun c ob xs q=>b.frzs c ob xs (a.frzs c ob xs q)
 tbls:=fun c ps q=>by
  obtain ⟨m1,e1⟩:=a.tbls c ps q
  obtain ⟨m2,e2⟩:=b.tbls c _ e1
  exact ⟨m1++m2,by rw [e2,Array.append_assoc]⟩
theorem Un.kept (k:∀ b u,h.get? b=some u→h'.get? b=some u):Un fs ex H H h h' :=
 ⟨fun b ob q _ _ _=>k b ob q,fun b ob q _ _ _=>⟨ob.slots,k b ob q⟩,fun _ _ _ n _=>n,fun b ob q _=>⟨ob,k b ob q⟩,fun _ _ q=>q,fun _ _ _ q=>q,fun _ ps q=>⟨#[],by rw [q];simp⟩⟩
theorem Un.refl:Un fs ex H H h h:=Un.kept fun _ _ q=>q
theorem Un.laid (k:∀ b u,h.get? b=some u→h'.get? b=some u) (hp:h.objs.size≤a) (hn:H a=none):Un fs ex H (upd H a o) h h' where
 keep:=fun b u q _ _ _=>k b u q
 slot:=fun b u q _ _ _=>⟨u.slots,k b u q⟩
 free:=fun b u q n _=>by rw [Za2 (Nat.ne_of_lt (Nat.lt_of_lt_of_le (Heap.lt_size q) hp))];exact n
 there:=fun b u q _=>⟨u,k b u q⟩
 tups:=fun b xs q=>by rw [Za2 (ZcL q hn)];exact q
 frzs:=fun b u xs q=>by rw [Za2 (ZcL q hn)];exact q
 tbls:=fun b ps q=>⟨#[],by rw [Za2 (ZcL q hn),q];simp⟩
theorem Un.write (mu:Mut (H x)) (he:e=x∨H e=some (.own x)) (k:∀ b u,b≠e→h.get? b=some u→h'.get? b=some u) (heo:∃ u,h'.get? e=some u):Un fs ex H (upd H x o) h h':=by
 have hx:∀ b,H b=none→b≠x:=fun b n z=>by subst z;rw [n] at mu;exact mu
 have hb:∀ b,H b=none→b≠e:=fun b n z=>by
  subst z
  rcases he with r | r
  ·exact hx b n r
  ·rw [n] at r;cases r
 have hm:∀ b u,H b=some u→¬ Mut (some u)→b≠x:=fun b u q nm z=>by subst z;rw [q] at mu;exact nm mu
 refine ⟨fun b u q n _ _=>k b u (hb b n) q,fun b u q n _ _=>⟨u.slots,k b u (hb b n) q⟩,fun b u q n _=>by rw [Za2 (hx b n)];exact n,fun b u q _=>?_,
  fun b xs q=>by rw [Za2 (hm b _ q fun z=>z)];exact q,fun b u xs q=>by rw [Za2 (hm b _ q fun z=>z)];exact q,fun b ps q=>⟨#[],by rw [Za2 (hm b _ q fun z=>z),q];simp⟩⟩
 by_cases hbe:b=e
 ·subst hbe;exact heo
 ·exact ⟨u,k b u hbe q⟩
theorem Un.mono (u:Un fs ex H H1 h h1) (hs:∀ b∈fs,b∈fs') (hx:∀ b∈ex,b∈ex'):Un fs' ex' H H1 h h1 :=
 ⟨fun b ob q n hb he=>u.keep b ob q n (fun z=>hb (hs b z)) fun z=>he (hx b z),fun _ _ q n _ he=>u.any q n fun z=>he (hx _ z),fun b ob q n he=>u.free b ob q n fun z=>he (hx b z),fun b ob q he=>u.there b ob q fun z=>he (hx b z),u.tups,u.frzs,u.tbls⟩
end
def trk (h:Heap) (H:Hp):List Addr:=(List.range h.objs.size).filter fun a=>(H a).isSome
def ZrI (h:Heap) (H:Hp):Heap:=PySem.W.hideAll h (trk h H)
theorem Zp0 (h:Heap) (H:Hp):(ZrI h H).objs.size=h.objs.size:=PySem.W.hideAll_size _ _
theorem Zsg {h:Heap} {H:Hp} {b:Addr} {o:Obj} (e:h.get? b=some o) (n:H b=none):(ZrI h H).get? b=some o :=
 PySem.W.hideAll_get _ e fun hm=>by
  have q:(H b).isSome=true:=(List.mem_filter.mp hm).2
  rw [n] at q;simp at q
theorem Zu9 {h:Heap} {H:Hp} {b:Addr} {o:Obj} (e:(ZrI h H).get? b=some o):h.get? b=some o∧H b=none:=by
 have e':h.get? b=some o:=PySem.W.of_hideAll (trk h H) e
 refine ⟨e',?_⟩
 cases q:H b with
 | none=>rfl
 | some x =>
  have hm:b∈trk h H:=List.mem_filter.mpr ⟨List.mem_range.mpr (Heap.lt_size e'),by simp [q]⟩
  have z:(ZrI h H).get? b=none:=PySem.W.hideAll_none (trk h H) hm
  rw [z] at e;cases e
def Zu7 (g h:Heap) (L:Addr):List (Addr×Obj):=(List.range h.objs.size).filterMap fun a=>if a=L∨(g.get? a).isSome=true then none else (h.get? a).map fun o=>(a,o)
def ZbG (g h:Heap) (L d:Addr):List (Addr×Obj):=(Zu7 g h L).filter fun p=>decide (p.1≠d)
structure Mod (K:PySem.W.Frag) (mg:Str→Option Value) (base:Heap):Prop where
 kin:K.In base
 glob:base.Ns mainGlobals mg
 blt:∃ mb,base.Ns builtinsNs mb∧∀ x:Str,x≠"__name__"→mb x=bootBuiltins x
 nolimit:base.NoLimit
structure Cx where
 prog:Program
 w:World
 K:PySem.W.Frag
 mg:Str→Option Value
 base:Heap
 A:Around
 N:List Str
 s₀:Shared
 H₀:Hp
 env:Env
 outer:List Env
 stack:List Env
 ex:List Addr
 fn:Str→Bool
 calm:Bool
 pn:List (Addr×Obj)
 xe:Value→Shared→Prop
def frs (l:List Env):List Addr:=l.filterMap (·.frame)
abbrev Cx.fs (X:Cx):List Addr:=frs X.outer
def Vis (sc:Scope) (x:Str):Prop:=sc.names.lookup x=some .local∨sc.names.lookup x=some .cell∨sc.names.lookup x=some .free
def Loc (sc:Scope) (x:Str):Prop:=sc.names.lookup x=some .local∨sc.names.lookup x=some .cell
def ZAh (env:Env) (h:Heap) (m:Str→Option Value) (x:Str) (u:Value):Prop :=
 (env.kindOf x=some .local∧m x=some u)∨((env.kindOf x=some .cell∨env.kindOf x=some .free)∧∃ c,env.cells.lookup x=some c∧h.IsCell c (some u))
structure Cx.Ok (X:Cx):Prop where
 mod:Mod X.K X.mg X.base
 kind:X.env.scope.kind=.function
 glob:X.env.globals=mainGlobals
 blt:X.env.builtins=builtinsNs
 above:X.s₀.heap.objs.size≤X.env.locals
 inj:∀ x y c,X.env.cells.lookup x=some c→X.env.cells.lookup y=some c→x=y
 has:∀ x,(X.env.kindOf x=some .cell∨X.env.kindOf x=some .free)→∃ c,X.env.cells.lookup x=some c
 cab:∀ x c,X.fn x=true→X.env.cells.lookup x=some c→X.s₀.heap.objs.size≤c
 hd:X.calm=true→X.A.handled=none
 frames:X.A.frames=some X.stack
 stk:X.stack=X.outer∨(X.stack=X.env::X.outer∧X.env.frame=some X.env.locals)
 exf:∀ b∈X.ex,b≠X.env.locals∧∀ x c,X.env.cells.lookup x=some c→c≠b
 bs:∀ b o,X.base.get? b=some o→X.s₀.heap.get? b=some o∧X.H₀ b=none
 bsz:X.base.objs.size≤X.s₀.heap.objs.size
 noex:∀ b o,X.base.get? b=some o→b∉X.ex
 exfs:∀ b∈X.ex,b∉X.fs
 funs:X.s₀.heap.FunFrames X.base X.outer
 frf:∀ b∈X.fs,X.H₀ b=none
structure Inv (X:Cx) (pins:List (Addr×Obj)) (σ:List (Option V)) (H:Hp) (s:Shared):Prop where
 ok:X.Ok
 os:s.os=X.s₀.os
 bare:AllBare s.gens
 base:Un X.fs X.ex X.H₀ H X.s₀.heap s.heap
 loc:∃ m,s.heap.Ns X.env.locals m∧∀ (i:Nat) (x:Str) (v:V),X.N[i]?=some x→σ[i]?=some (some v)→Vis X.env.scope x→∃ u,RelV v u∧ZAh X.env s.heap m x u
 cell:∀ x c,X.env.cells.lookup x=some c→∃ v,s.heap.IsCell c v
 free:H X.env.locals=none
 freeC:∀ x c,X.env.cells.lookup x=some c→H c=none
 pin:∀ p∈X.pn++pins,s.heap.get? p.1=some p.2∧H p.1=none∧p.1≠X.env.locals∧p.1∉X.fs∧∀ v,p.2.data≠.cell v
 hok:HOk X.prog X.w H s.heap
 len:σ.length=X.N.length
section
variable {X:Cx} {pins:List (Addr×Obj)} {σ:List (Option V)} {H H':Hp} {s:Shared} {h':Heap}
theorem Cx.Ok.nofr (ok:X.Ok) {b:Addr} {o:Obj} (e:X.base.get? b=some o):b∉X.fs:=fun hb=>by
 have:=(ok.funs.mem hb).1
 rw [e] at this;cases this
theorem Inv.bs (I:Inv X pins σ H s):∀ b o,X.base.get? b=some o→s.heap.get? b=some o∧H b=none:=fun b o e =>
 ⟨I.base.keep b o (I.ok.bs b o e).1 (I.ok.bs b o e).2 (I.ok.nofr e) (I.ok.noex b o e),I.base.free b o (I.ok.bs b o e).1 (I.ok.bs b o e).2 (I.ok.noex b o e)⟩
theorem Inv.bk (I:Inv X pins σ H s):∀ b o,X.base.get? b=some o→s.heap.get? b=some o:=fun b o e=>(I.bs b o e).1
theorem Inv.mod (I:Inv X pins σ H s):Mod X.K X.mg X.base:=I.ok.mod
theorem Inv.kIn (I:Inv X pins σ H s):X.K.In s.heap:=I.ok.mod.kin.keeps I.bk
theorem Inv.nolimit (I:Inv X pins σ H s):s.heap.NoLimit:=I.ok.mod.nolimit.keeps I.bk
theorem Inv.fr (I:Inv X pins σ H s):∃ m,Fr X.base X.env.locals s.heap m :=
 let ⟨m,hn,_⟩:=I.loc
 ⟨m,hn,I.bk,Nat.le_trans I.ok.bsz I.ok.above⟩
theorem Inv.lt (I:Inv X pins σ H s):X.env.locals < s.heap.objs.size:=let ⟨_,hn,_⟩:=I.loc;hn.lt
theorem Inv.sz (I:Inv X pins σ H s):X.s₀.heap.objs.size≤s.heap.objs.size:=Nat.le_trans I.ok.above (Nat.le_of_lt I.lt)
theorem Inv.nofs (I:Inv X pins σ H s) {a:Addr} (h:s.heap.objs.size≤a):a∉X.fs:=fun hb=>by
 obtain ⟨_,o,ho,_⟩:=I.ok.funs.mem hb
 exact absurd (Nat.lt_of_lt_of_le (Heap.lt_size ho) (Nat.le_trans I.sz h)) (Nat.lt_irrefl _)
theorem Inv.cne (I:Inv X pins σ H s):∀ x c,X.env.cells.lookup x=some c→c≠X.env.locals:=fun x c e z=>by
 obtain ⟨v,o,ho,hd⟩:=I.cell x c e
 obtain ⟨m,⟨o',es,ep,ho',hd',_⟩,_⟩:=I.loc
 rw [z,ho'] at ho;cases ho;rw [hd'] at hd;cases hd
theorem Inv.funs (I:Inv X pins σ H s):s.heap.FunFrames X.base X.outer:=by
 have all:∀ (l:List Env),(∀ b∈frs l,b∈X.fs)→X.s₀.heap.FunFrames X.base l→s.heap.FunFrames X.base l:=by
  intro l
  induction l with
  | nil=>intro _ _;trivial
  | cons env r ih =>
   intro hs hl
   obtain ⟨hk,⟨L,o,hf,hn,ho,hd⟩,hr⟩:=hl
   have hL:L∈X.fs:=hs L (by unfold frs;rw [List.filterMap_cons,hf];exact List.mem_cons_self)
   obtain ⟨sl,e⟩:=I.base.slot L o ho (I.ok.frf L hL) hL fun z=>I.ok.exfs L z hL
   exact ⟨hk,⟨L,_,hf,hn,e,hd⟩,ih (fun b hb=>hs b (by unfold frs;rw [List.filterMap_cons,hf];exact List.mem_cons_of_mem _ hb)) hr⟩
 exact all X.outer (fun _ hb=>hb) I.ok.funs
theorem Inv.stack (I:Inv X pins σ H s):s.heap.FunFrames X.base X.stack:=by
 rcases I.ok.stk with e | ⟨e,hf⟩
 ·rw [e];exact I.funs
 ·rw [e]
  obtain ⟨m,hn,_⟩:=I.loc
  refine .cons (by rw [I.ok.kind];decide) hf hn ?_ I.funs
  exact Heap.get?_none_of_le (Nat.le_trans I.ok.bsz I.ok.above)
theorem Inv.stkSub (I:Inv X pins σ H s):∀ b∈frs X.stack,b∈X.env.locals::X.fs:=fun b hb=>by
 rcases I.ok.stk with e | ⟨e,hf⟩
 ·rw [e] at hb;exact List.mem_cons_of_mem _ hb
 ·rw [e] at hb
  unfold frs at hb
  rw [List.filterMap_cons,hf] at hb
  exact hb
theorem Inv.stkFree (I:Inv X pins σ H s):∀ b∈frs X.stack,H b=none:=fun b hb=>by
 rcases List.mem_cons.mp (I.stkSub b hb) with e | hb
 ·rw [e];exact I.free
 ·obtain ⟨_,o,ho,_⟩:=I.ok.funs.mem hb
  exact I.base.free b o ho (I.ok.frf b hb) fun z=>I.ok.exfs b z hb
theorem Inv.step {g':Array GenState} {t':Nat} {d':Drawn} {ch:List Addr} (I:Inv X pins σ H s)
  (hch:∀ b∈ch,(b∈X.ex∨X.s₀.heap.objs.size≤b)∧b≠X.env.locals∧(∀ x c,X.env.cells.lookup x=some c→c≠b)∧∀ p∈X.pn++pins,p.1≠b)
  (keep:∀ b o,b≠X.env.locals→b∉X.fs→b∉ch→s.heap.get? b=some o→H b=none→h'.get? b=some o)
  (slot:∀ b o,b≠X.env.locals→b∈X.fs→b∉ch→s.heap.get? b=some o→H b=none→∃ sl,h'.get? b=some { o with slots:=sl }) (free:∀ b o,b∉ch→s.heap.get? b=some o→H b=none→H' b=none)
  (there:∀ b o,b∉ch→s.heap.get? b=some o→∃ o',h'.get? b=some o')
  (tups:∀ b xs,H b=some (.tup xs)→H' b=some (.tup xs)) (frzs:∀ b o u,H b=some (.frz o u)→H' b=some (.frz o u)) (tbls:∀ b ps,H b=some (.tbl ps)→∃ more,H' b=some (.tbl (ps++more)))
  (ns:∀ m,s.heap.Ns X.env.locals m→h'.Ns X.env.locals m) (hok:HOk X.prog X.w H' h') (hg:AllBare g') :
  Inv X pins σ H' { s with heap:=h',gens:=g',drawn:=d',toks:=t' }:=by
 have neL:∀ b o,X.s₀.heap.get? b=some o→b≠X.env.locals:=fun b o e=>Nat.ne_of_lt (Nat.lt_of_lt_of_le (Heap.lt_size e) I.ok.above)
 have neC:∀ b o,X.s₀.heap.get? b=some o→b∉X.ex→b∉ch:=fun b o e hx hb=>by
  rcases (hch b hb).1 with z | z
  ·exact hx z
  ·exact absurd (Nat.lt_of_lt_of_le (Heap.lt_size e) z) (Nat.lt_irrefl _)
 have cellK:∀ x c,X.env.cells.lookup x=some c→∀ v,s.heap.IsCell c v→h'.IsCell c v:=by
  rintro x c e v ⟨o,ho,hd⟩
  have nch:c∉ch:=fun z=>(hch c z).2.2.1 x c e rfl
  by_cases hc:c∈X.fs
  ·obtain ⟨sl,q⟩:=slot c o (I.cne x c e) hc nch ho (I.freeC x c e)
   exact ⟨_,q,hd⟩
  ·exact ⟨o,keep c o (I.cne x c e) hc nch ho (I.freeC x c e),hd⟩
 refine ⟨I.ok,I.os,hg,⟨fun b o e n hb hx=>?_,fun b o e n hb hx=>?_,fun b o e n hx=>?_,fun b o e hx=>?_,fun b xs e=>tups b xs (I.base.tups b xs e),fun b o xs e=>frzs b o xs (I.base.frzs b o xs e),fun b ps e=>?_⟩,?_,fun x c e=>?_,?_,fun x c e=>?_,fun p hp=>?_,hok,I.len⟩
 ·exact keep b o (neL b o e) hb (neC b o e hx) (I.base.keep b o e n hb hx) (I.base.free b o e n hx)
 ·obtain ⟨sl,e1⟩:=I.base.slot b o e n hb hx
  obtain ⟨sl',e2⟩:=slot b _ (neL b o e) hb (neC b o e hx) e1 (I.base.free b o e n hx)
  exact ⟨sl',e2⟩
 ·obtain ⟨o',e1⟩:=I.base.there b o e hx
  exact free b o' (neC b o e hx) e1 (I.base.free b o e n hx)
 ·obtain ⟨o',e1⟩:=I.base.there b o e hx
  exact there b o' (neC b o e hx) e1
 ·obtain ⟨m1,e1⟩:=I.base.tbls b ps e
  obtain ⟨m2,e2⟩:=tbls b _ e1
  exact ⟨m1++m2,by rw [e2,Array.append_assoc]⟩
 ·obtain ⟨m,hn,hl⟩:=I.loc
  refine ⟨m,ns m hn,fun i x v e1 e2 e3=>?_⟩
  obtain ⟨u,r,l⟩:=hl i x v e1 e2 e3
  refine ⟨u,r,?_⟩
  rcases l with l | ⟨k,c,e,z⟩
  ·exact .inl l
  ·exact .inr ⟨k,c,e,cellK x c e _ z⟩
 ·obtain ⟨v,z⟩:=I.cell x c e
  exact ⟨v,cellK x c e v z⟩
 ·obtain ⟨m,⟨o,_,_,ho,_⟩,_⟩:=I.loc
  exact free _ o (fun z=>(hch _ z).2.1 rfl) ho I.free
 ·obtain ⟨v,o,ho,hd⟩:=I.cell x c e
  exact free c o (fun z=>(hch c z).2.2.1 x c e rfl) ho (I.freeC x c e)
 ·obtain ⟨e,n,ne,nf,d⟩:=I.pin p hp
  have nch:p.1∉ch:=fun z=>(hch p.1 z).2.2.2 p hp rfl
  exact ⟨keep p.1 p.2 ne nf nch e n,free p.1 p.2 nch e n,ne,nf,d⟩
theorem Inv.un {t':Nat} (I:Inv X pins σ H s) (u:Un X.fs [] H H' s.heap h') (hok:HOk X.prog X.w H' h'):Inv X pins σ H' { s with heap:=h',toks:=t' }:=by
 obtain ⟨m,⟨o,es,ep,ho,r⟩,_⟩:=id I.loc
 obtain ⟨sl,hL⟩:=u.any ho I.free (by simp)
 exact I.step (g':=s.gens) (d':=s.drawn) (ch:=[]) (fun _ z=>nomatch z) (fun b o _ hb _ e n=>u.keep b o e n hb (by simp)) (fun b o _ hb _ e n=>u.slot b o e n hb (by simp)) (fun b o _ e n=>u.free b o e n (by simp)) (fun b o _ e=>u.there b o e (by simp)) u.tups u.frzs u.tbls (fun m' hm=>by
  obtain ⟨o',es',ep',ho',r'⟩:=hm
  rw [ho] at ho';cases ho'
  exact ⟨_,es',ep',hL,r'⟩) hok I.bare
theorem Inv.call {g':Array GenState} {t':Nat} {d':Drawn} {ch:List Addr} (I:Inv X pins σ H s) (u:Un (frs X.stack) ch H H' s.heap h') (hok:HOk X.prog X.w H' h') (hg:AllBare g')
  (hch:∀ b∈ch,(b∈X.ex∨X.s₀.heap.objs.size≤b)∧b≠X.env.locals∧(∀ x c,X.env.cells.lookup x=some c→c≠b)∧∀ p∈X.pn++pins,p.1≠b) :
  Inv X pins σ H' { s with heap:=h',gens:=g',drawn:=d',toks:=t' }:=by
 obtain ⟨m,⟨o,es,ep,ho,r⟩,_⟩:=id I.loc
 obtain ⟨sl,hL⟩:=u.any ho I.free fun z=>(hch _ z).2.1 rfl
 exact I.step (ch:=ch) hch (fun b o hL hb hc e n=>u.keep b o e n (fun z=>(List.mem_cons.mp (I.stkSub b z)).elim hL hb) hc) (fun b o _ _ hc e n=>u.any e n hc) (fun b o hc e n=>u.free b o e n hc) (fun b o hc e=>u.there b o e hc) u.tups u.frzs u.tbls (fun m' hm=>by
  obtain ⟨o',es',ep',ho',r'⟩:=hm
  rw [ho] at ho';cases ho'
  exact ⟨_,es',ep',hL,r'⟩) hok hg
theorem Inv.turned {t':Nat} {it:Addr} (I:Inv X pins σ H s) (k:∀ b o,b≠it→s.heap.get? b=some o→h'.get? b=some o) (hn:H it=none) (hL:it≠X.env.locals)
  (h1:it∈X.ex∨X.s₀.heap.objs.size≤it) (h2:∀ x c,X.env.cells.lookup x=some c→c≠it) (h3:∀ p∈X.pn++pins,p.1≠it):Inv X pins σ H { s with heap:=h',toks:=t' }:=by
 have nit:∀ b u,H b=some u→b≠it:=fun b u e z=>by rw [z,hn] at e;cases e
 refine I.step (g':=s.gens) (d':=s.drawn) (ch:=[it]) (fun b hb=>?_) (fun b o _ _ hc e _=>k b o (fun z=>hc (by simp [z])) e) (fun b o _ _ hc e _=>⟨o.slots,k b o (fun z=>hc (by simp [z])) e⟩) (fun _ _ _ _ n=>n)
  (fun b o hc e=>⟨o,k b o (fun z=>hc (by simp [z])) e⟩) (fun _ _ e=>e) (fun _ _ _ e=>e) (fun b ps e=>⟨#[],by rw [e];simp⟩) (fun m hm=>?_) (fun b u e=>?_) I.bare
 ·have e:b=it:=by simpa using hb
  subst e
  exact ⟨h1,hL,h2,h3⟩
 ·obtain ⟨o,es,ep,ho,r⟩:=hm
  exact ⟨o,es,ep,k _ o (Ne.symm hL) ho,r⟩
 ·refine (I.hok b u e).stay (fun c v hc q=>k c v ?_ q) (fun _ q=>q) fun _ _ q=>q
  rcases hc with z | z
  ·rw [z];exact nit b u e
  ·exact nit c _ z
theorem Inv.tok (I:Inv X pins σ H s) (t:Nat):Inv X pins σ H { s with toks:=t }:=I.un (h':=s.heap) (t':=t) Un.refl I.hok
theorem Inv.kept {t':Nat} (I:Inv X pins σ H s) (k:∀ b u,s.heap.get? b=some u→h'.get? b=some u):Inv X pins σ H { s with heap:=h',toks:=t' }:=I.un (Un.kept k) (I.hok.kept k)
theorem Inv.laid {a:Addr} {o:HO} {t':Nat} (I:Inv X pins σ H s) (k:∀ b u,s.heap.get? b=some u→h'.get? b=some u) (hp:s.heap.objs.size≤a) (new:ObjOk X.prog X.w (upd H a o) h' a o) :
  Inv X pins σ (upd H a o) { s with heap:=h',toks:=t' }:=I.un (Un.laid k hp (I.hok.fresh hp)) (I.hok.laid k hp new)
theorem Inv.write {x e:Addr} {o:HO} {t':Nat} (I:Inv X pins σ H s) (mu:Mut (H x)) (he:e=x∨H e=some (.own x)) (k:∀ b u,b≠e→s.heap.get? b=some u→h'.get? b=some u) (heo:∃ u,h'.get? e=some u)
  (new:ObjOk X.prog X.w (upd H x o) h' x o):Inv X pins σ (upd H x o) { s with heap:=h',toks:=t' }:=I.un (Un.write mu he k heo) (I.hok.write mu he k heo new)
theorem Inv.pins_of {pins':List (Addr×Obj)} (I:Inv X pins σ H s) (h:∀ p∈pins',s.heap.get? p.1=some p.2∧H p.1=none∧p.1≠X.env.locals∧p.1∉X.fs∧∀ v,p.2.data≠.cell v):Inv X pins' σ H s :=
 ⟨I.ok,I.os,I.bare,I.base,I.loc,I.cell,I.free,I.freeC,fun p hp=>(List.mem_append.mp hp).elim (fun z=>I.pin p (List.mem_append_left _ z)) (h p),I.hok,I.len⟩
theorem Zku {N:List Str} (hN:N.Nodup) {i j:Nat} {x:Str} (a:N[i]?=some x) (b:N[j]?=some x):i=j:=by
 obtain ⟨h1,e1⟩:=List.getElem?_eq_some_iff.mp a
 obtain ⟨h2,e2⟩:=List.getElem?_eq_some_iff.mp b
 exact (List.getElem_inj hN).mp (e1.trans e2.symm)
theorem Zqc {M:Model} {A:Around} {E:Value→Shared→Prop} {i:Nat} {x:Str} {v:V} {u:Value} {Q:Unit→Shared→Prop} (I:Inv X pins σ H s) (hN:X.N.Nodup) (hi:X.N[i]?=some x) (hx:Loc X.env.scope x) (r:RelV v u)
  (h:∀ s',Inv X pins (σ.set i (some v)) H s'→(∃ a,Heap.SameBut a s.heap s'.heap∧(a=X.env.locals∨X.env.cells.lookup x=some a))→Q () s') (hf:X.fn x=true∨X.env.scope.names.lookup x=some .local:=by first | exact .inl rfl | exact .inr rfl | assumption):wpAny M A (storeName X.env x u) Q E s:=by
 obtain ⟨m,hn,hl⟩:=id I.loc
 have hcls:(X.env.scope.kind==.class||(X.env.scope.kind==.module&&X.env.locals != X.env.globals))=false:=by rw [I.ok.kind];rfl
 have hiσ:i < σ.length:=by rw [I.len];exact (List.getElem?_eq_some_iff.mp hi).1
 have cne:=I.cne
 have tracked:∀ {a:Addr} {h':Heap},(∃ o,s.heap.get? a=some o∧H a=none)→Heap.SameBut a s.heap h'→HOk X.prog X.w H h':=fun {a h'} ha hs b ob e=>by
  obtain ⟨_,_,hfree⟩:=ha
  refine (I.hok b ob e).stay (fun c w' hc q=>(hs.2 c ?_).trans q) (fun _ q=>q) fun _ _ q=>q
  rintro rfl
  rcases hc with rfl | hc
  ·rw [hfree] at e;cases e
  ·rw [hfree] at hc;cases hc
 rcases hx with hk | hk
 ·refine wpAny_storeName_local hk hn (fun h' hn' hs=>?_) hcls
  obtain ⟨oL,_,_,hoL,_⟩:=id hn
  refine h _ ⟨I.ok,I.os,I.bare,⟨fun b o e n hb hx=>?_,fun b o e n hb hx=>?_,I.base.free,fun b o e hx=>?_,I.base.tups,I.base.frzs,I.base.tbls⟩,⟨_,hn',fun j y v' e1 e2 e3=>?_⟩,fun y c e=>?_,I.free,I.freeC,fun p hp=>?_,tracked ⟨oL,hoL,I.free⟩ hs,by simpa using I.len⟩ ⟨_,hs,.inl rfl⟩
  ·exact (hs.2 b (Nat.ne_of_lt (Nat.lt_of_lt_of_le (Heap.lt_size e) I.ok.above))).trans (I.base.keep b o e n hb hx)
  ·obtain ⟨sl,e1⟩:=I.base.slot b o e n hb hx
   exact ⟨sl,(hs.2 b (Nat.ne_of_lt (Nat.lt_of_lt_of_le (Heap.lt_size e) I.ok.above))).trans e1⟩
  ·obtain ⟨o',e1⟩:=I.base.there b o e hx
   exact ⟨o',(hs.2 b (Nat.ne_of_lt (Nat.lt_of_lt_of_le (Heap.lt_size e) I.ok.above))).trans e1⟩
  ·by_cases hj:j=i
   ·subst hj
    rw [hi] at e1;cases e1
    rw [List.getElem?_set_self hiσ] at e2
    cases e2
    exact ⟨u,r,.inl ⟨hk,by simp⟩⟩
   ·rw [List.getElem?_set_ne (Ne.symm hj)] at e2
    obtain ⟨u',r',q⟩:=hl j y v' e1 e2 e3
    refine ⟨u',r',?_⟩
    rcases q with ⟨k,e⟩ | ⟨k,c,e,z⟩
    ·refine .inl ⟨k,?_⟩
     have:y≠x:=fun e=>hj (Zku hN e1 (e▸hi))
     simp [this,e]
    ·exact .inr ⟨k,c,e,z.sameBut hs (cne y c e)⟩
  ·obtain ⟨w',z⟩:=I.cell y c e
   exact ⟨w',z.sameBut hs (cne y c e)⟩
  ·obtain ⟨e,n,ne,nf,d⟩:=I.pin p hp
   exact ⟨(hs.2 p.1 ne).trans e,n,ne,nf,d⟩
 ·have hfn:X.fn x=true:=by
   rcases hf with z | z
   ·exact z
   ·rw [z] at hk;cases hk
  obtain ⟨c,hc⟩:=I.ok.has x (.inl hk)
  obtain ⟨w',z⟩:=I.cell x c hc
  refine wpAny_storeName_cell I.ok.kind hk hc z (fun h' hc' hs=>?_)
  obtain ⟨oc,hoc,hocd⟩:=id z
  refine h { s with heap:=h' } ⟨I.ok,I.os,I.bare,⟨fun b o e n hb hx=>?_,fun b o e n hb hx=>?_,I.base.free,fun b o e hx=>?_,I.base.tups,I.base.frzs,I.base.tbls⟩,⟨m,hn.sameBut hs (Ne.symm (cne x c hc)),fun j y v' e1 e2 e3=>?_⟩,fun y c' e=>?_,I.free,I.freeC,fun p hp=>?_,tracked ⟨oc,hoc,I.freeC x c hc⟩ hs,by simpa using I.len⟩ ⟨c,hs,.inr hc⟩
  ·exact (hs.2 b (Nat.ne_of_lt (Nat.lt_of_lt_of_le (Heap.lt_size e) (I.ok.cab x c hfn hc)))).trans (I.base.keep b o e n hb hx)
  ·obtain ⟨sl,e1⟩:=I.base.slot b o e n hb hx
   exact ⟨sl,(hs.2 b (Nat.ne_of_lt (Nat.lt_of_lt_of_le (Heap.lt_size e) (I.ok.cab x c hfn hc)))).trans e1⟩
  ·obtain ⟨o',e1⟩:=I.base.there b o e hx
   exact ⟨o',(hs.2 b (Nat.ne_of_lt (Nat.lt_of_lt_of_le (Heap.lt_size e) (I.ok.cab x c hfn hc)))).trans e1⟩
  ·by_cases hj:j=i
   ·subst hj
    rw [hi] at e1;cases e1
    rw [List.getElem?_set_self hiσ] at e2
    cases e2
    exact ⟨u,r,.inr ⟨.inl hk,c,hc,hc'⟩⟩
   ·rw [List.getElem?_set_ne (Ne.symm hj)] at e2
    obtain ⟨u',r',q⟩:=hl j y v' e1 e2 e3
    refine ⟨u',r',?_⟩
    rcases q with q | ⟨k,c',e,z'⟩
    ·exact .inl q
    ·refine .inr ⟨k,c',e,z'.sameBut hs ?_⟩
     rintro rfl
     exact hj (Zku hN e1 (I.ok.inj _ _ _ e hc▸hi))
  ·by_cases hcc:c'=c
   ·subst hcc;exact ⟨_,hc'⟩
   ·obtain ⟨w2,z2⟩:=I.cell y c' e
    exact ⟨w2,z2.sameBut hs hcc⟩
  ·obtain ⟨e,n,ne,nf,d⟩:=I.pin p hp
   refine ⟨(hs.2 p.1 ?_).trans e,n,ne,nf,d⟩
   intro q
   rw [q,hoc] at e
   have q':oc=p.2:=Option.some.inj e
   exact d w' (by rw [← q'];exact hocd)
theorem ZgP {M:Model} {A:Around} {E:Value→Shared→Prop} {i:Nat} {x:Str} {v:V} {u:Value} {Q:Unit→Shared→Prop} (I:Inv X pins σ H s) (hN:X.N.Nodup) (hi:X.N[i]?=some x) (hx:Loc X.env.scope x) (r:RelV v u)
  (h:∀ s',Inv X pins (σ.set i (some v)) H s'→Q () s') (hf:X.fn x=true∨X.env.scope.names.lookup x=some .local:=by first | exact .inl rfl | exact .inr rfl | assumption):wpAny M A (storeName X.env x u) Q E s :=
 Zqc I hN hi hx r (fun s' I' _=>h s' I') hf
theorem Inv.call' {s':Shared} {ch:List Addr} (I:Inv X pins σ H s) (ho:s'.os=s.os) (u:Un (frs X.stack) ch H H' s.heap s'.heap) (hok:HOk X.prog X.w H' s'.heap) (hg:AllBare s'.gens)
  (hch:∀ b∈ch,(b∈X.ex∨X.s₀.heap.objs.size≤b)∧b≠X.env.locals∧(∀ x c,X.env.cells.lookup x=some c→c≠b)∧∀ p∈X.pn++pins,p.1≠b):Inv X pins σ H' s':=by
 obtain ⟨h',g',d',t',o'⟩:=s'
 have e:o'=s.os:=ho
 subst e
 exact I.call (g':=g') (t':=t') (d':=d') u hok hg hch
end
abbrev XK:=Value→Option Addr→Hp→Prop
abbrev St:=List (Option V)
abbrev VK:=V→Hp→Prop
abbrev TE:=St→Hp→VK→Prop
abbrev TT:=St→Hp→(Bool→Hp→Prop)→Prop
abbrev TA:=St→Hp→(List V→Hp→Prop)→Prop
structure ZvS where
 nx:St→Hp→Prop
 rt:VK
 bk:St→Hp→Prop:=fun _ _=>False
 ct:St→Hp→Prop:=fun _ _=>False
abbrev TS:=ZvS→St→Hp→Prop
def EP (X:Cx) (pins:List (Addr×Obj)) (σ:St) (Q:VK) (u:Value) (s':Shared):Prop:=∃ v H',Inv X pins σ H' s'∧RelV v u∧Q v H'
def TP (X:Cx) (pins:List (Addr×Obj)) (σ:St) (Q:Bool→Hp→Prop) (b:Bool) (s':Shared):Prop:=∃ H',Inv X pins σ H' s'∧Q b H'
def AP (X:Cx) (pins:List (Addr×Obj)) (σ:St) (Q:List V→Hp→Prop) (us:List Value) (s':Shared):Prop:=∃ vs H',Inv X pins σ H' s'∧Vals vs us∧Q vs H'
def SP (X:Cx) (pins:List (Addr×Obj)) (D:ZvS) (f:Flow) (s':Shared):Prop :=
 match f with
 | .next=>∃ σ' H',Inv X pins σ' H' s'∧D.nx σ' H'
 | .brk=>∃ σ' H',Inv X pins σ' H' s'∧D.bk σ' H'
 | .cont=>∃ σ' H',Inv X pins σ' H' s'∧D.ct σ' H'
 | .ret u=>∃ v σ' H',Inv X pins σ' H' s'∧RelV v u∧D.rt v H'
def PE (X:Cx) (e:Expr) (t:TE):Prop :=
 ∀ (pins:List (Addr×Obj)) (s:Shared) (σ:St) (H:Hp) (Q:VK),Inv X pins σ H s→t σ H Q→wpAny (model X.prog X.w) X.A (eval e X.env) (EP X pins σ Q) X.xe s
def PT (X:Cx) (e:Expr) (t:TT):Prop :=
 ∀ (pins:List (Addr×Obj)) (s:Shared) (σ:St) (H:Hp) (Q:Bool→Hp→Prop),Inv X pins σ H s→t σ H Q→wpAny (model X.prog X.w) X.A (isTrue e X.env (eval e X.env)) (TP X pins σ Q) X.xe s
def PW (X:Cx) (e:Expr) (t:TT):Prop :=
 ∀ (whole:Sem Value) (pins:List (Addr×Obj)) (s:Shared) (σ:St) (H:Hp) (Q:Bool→Hp→Prop),Inv X pins σ H s→t σ H Q→wpAny (model X.prog X.w) X.A (isTrue e X.env whole) (TP X pins σ Q) X.xe s
theorem PW.pt {X:Cx} {e:Expr} {t:TT} (h:PW X e t):PT X e t:=h _
def PA (X:Cx) (es:List Expr) (t:TA):Prop :=
 ∀ (pos:Pos) (pins:List (Addr×Obj)) (s:Shared) (σ:St) (H:Hp) (Q:List V→Hp→Prop),Inv X pins σ H s→t σ H Q→wpAny (model X.prog X.w) X.A (spliced (backTo pos (starEach es X.env))) (AP X pins σ Q) X.xe s
def PS (X:Cx) (st:Stmt) (t:TS):Prop :=
 ∀ (pins:List (Addr×Obj)) (s:Shared) (σ:St) (H:Hp) (D:ZvS),Inv X pins σ H s→t D σ H→wpAny (model X.prog X.w) X.A (exec st X.env) (SP X pins D) X.xe s
def PSs (X:Cx) (st:List Stmt) (t:TS):Prop :=
 ∀ (pins:List (Addr×Obj)) (s:Shared) (σ:St) (H:Hp) (D:ZvS),Inv X pins σ H s→t D σ H→wpAny (model X.prog X.w) X.A (execs st X.env) (SP X pins D) X.xe s
theorem thn {α:Type} {t:Sem α} {Q Q':α→Shared→Prop} {M:Model} {A:Around} {E:Value→Shared→Prop} {s:Shared} (h:wpAny M A t Q E s) (hQ:∀ a s,Q a s→Q' a s):wpAny M A t Q' E s:=wpAny_mono h hQ fun _ _ x=>x
section
variable {X:Cx}
theorem bin {a b:Expr} {ta tb:TE} (ha:PE X a ta) (hb:PE X b tb) {pins:List (Addr×Obj)} {s:Shared} {σ:St} {H:Hp} {R:V→V→Hp→Prop} (I:Inv X pins σ H s) (h:ta σ H fun x H1=>tb σ H1 fun y H2=>R x y H2)
  {α:Type} {Q:α→Shared→Prop} {f:Value→Value→Sem α}
  (hf:∀ v u s2 x y H2,Inv X pins σ H2 s2→RelV x v→RelV y u→R x y H2→wpAny (model X.prog X.w) X.A (f v u) Q X.xe s2) :
  wpAny (model X.prog X.w) X.A (eval a X.env) (fun v s₁=>wpAny (model X.prog X.w) X.A (eval b X.env) (fun u s₂=>wpAny (model X.prog X.w) X.A (f v u) Q X.xe s₂) X.xe s₁) X.xe s:=by
 refine thn (ha pins s σ H _ I h) fun v s1 zz1=>?_
 obtain ⟨x,H1,I1,r1,q1⟩:=zz1
 refine thn (hb pins s1 σ H1 _ I1 q1) fun u s2 zz2=>?_
 obtain ⟨y,H2,I2,r2,q2⟩:=zz2
 exact hf v u s2 x y H2 I2 r1 r2 q2
def ZAY (i:Nat):TE:=fun σ H Q=>∃ v,σ[i]?=some (some v)∧Q v H
def tC (v:V):TE:=fun _ H Q=>Q v H
theorem ZwH {i:Nat} {x:Str} {pos:Pos} (hN:X.N[i]?=some x) (hv:Vis X.env.scope x) (hd:(x==("__debug__":Str))=false:=by decide) (hcd:(x==("__classdict__":Str))=false:=by decide):PE X (.Name x pos) (ZAY i):=by
 intro pins s σ H Q I h
 obtain ⟨v,e,h⟩:=h
 obtain ⟨m,hn,hl⟩:=I.loc
 obtain ⟨u,r,l⟩:=hl i x v hN e hv
 have fin:EP X pins σ Q u s:=⟨v,H,I,r,h⟩
 rcases l with ⟨hk,hm⟩ | ⟨hk,c,hc,hcell⟩
 ·exact wpAny_Name (wpAny_loadName_local I.ok.kind hk hn hm fin) hd
 ·rcases hk with hk | hk
  ·exact wpAny_Name (wpAny_loadName_cell I.ok.kind hk hc hcell fin) hd
  ·exact wpAny_Name (wpAny_loadName_free I.ok.kind hk hc hcell fin hcd) hd
theorem Zys {i j pos}:PE X (.Constant (.int i) j pos) (tC (.int i)):=fun _ _ _ H _ I h=>wpAny_Constant_int ⟨.int i,H,I.tok _,⟨_,rfl⟩,h⟩
theorem Zy1 {b j pos}:PE X (.Constant (.bool b) j pos) (tC (.bl b)):=fun _ _ _ H _ I h=>Constant_bool ⟨.bl b,H,I,rfl,h⟩
theorem Zxa {j pos}:PE X (.Constant .none j pos) (tC .non):=fun _ _ _ H _ I h=>Constant_none ⟨.non,H,I,rfl,h⟩
theorem Zx4 {x j pos}:PE X (.Constant (.str x) j pos) (tC (.str x)):=fun _ _ _ H _ I h=>Calls.Constant_str ⟨.str x,H,I.tok _,⟨_,rfl⟩,h⟩
def Gl (X:Cx) (x:Str):Prop:=X.env.kindOf x=some .globalImplicit
theorem ZhJ {E:Value→Shared→Prop} {pins:List (Addr×Obj)} {s:Shared} {σ:St} {H:Hp} {x:Str} {u:Value} {pos:Pos} {Q:Value→Shared→Prop} (I:Inv X pins σ H s) (hg:Gl X x) (hm:X.mg x=some u) (h:Q u s)
  (hd:(x==("__debug__":Str))=false:=by decide):wpAny (model X.prog X.w) X.A (eval (.Name x pos) X.env) Q E s :=
 Calls.Name_function_global I.ok.kind hg (Calls.loadGlobal_global (by rw [I.ok.glob];exact I.mod.glob.keeps I.bk) hm h) hd
theorem ZeM {E:Value→Shared→Prop} {pins:List (Addr×Obj)} {s:Shared} {σ:St} {H:Hp} {x:Str} {u:Value} {pos:Pos} {Q:Value→Shared→Prop} (I:Inv X pins σ H s) (hg:Gl X x) (hm:X.mg x=none) (hv:bootBuiltins x=some u) (h:Q u s)
  (hn:x≠"__name__":=by decide) (hd:(x==("__debug__":Str))=false:=by decide):wpAny (model X.prog X.w) X.A (eval (.Name x pos) X.env) Q E s:=by
 obtain ⟨mb,h1,h2⟩:=I.mod.blt
 exact Calls.Name_function_global I.ok.kind hg (Calls.loadGlobal_builtin (by rw [I.ok.glob];exact I.mod.glob.keeps I.bk) hm (by rw [I.ok.blt];exact h1.keeps I.bk) ((h2 x hn).trans hv) h) hd
theorem ZmJ {x:Str} {v:V} {u:Value} {pos:Pos} (hg:Gl X x) (hm:X.mg x=some u) (r:RelV v u) (hd:(x==("__debug__":Str))=false:=by decide):PE X (.Name x pos) (tC v) :=
 fun _ _ _ H _ I h=>ZhJ I hg hm ⟨v,H,I,r,h⟩ hd
theorem ZpR {x:Str} {v:V} {u:Value} {pos:Pos} (hg:Gl X x) (hm:X.mg x=none) (hv:bootBuiltins x=some u) (r:RelV v u) (hn:x≠"__name__":=by decide) (hd:(x==("__debug__":Str))=false:=by decide):PE X (.Name x pos) (tC v) :=
 fun _ _ _ H _ I h=>ZeM I hg hm hv ⟨v,H,I,r,h⟩ hn hd
def t2I (ta tb:TE) (k:Int→Int→Hp→Prop):St→Hp→Prop:=fun σ H=>ta σ H fun x H1=>tb σ H1 fun y H2=>∃ i j,x=.int i∧y=.int j∧k i j H2
def ZAx (ta tb:TE):TE:=fun σ H Q=>t2I ta tb (fun i j H2=>Q (.int (i - j)) H2) σ H
variable {a b:Expr} {ta tb:TE} {pos:Pos}
theorem Zbh (ha:PE X a ta) (hb:PE X b tb):PE X (.BinOp a .Sub b pos) (ZAx ta tb):=by
 intro pins s σ H Q I h
 refine wpAny_BinOp (bin ha hb I h fun v u s2 x y H2 I2 rx ry q=>?_)
 obtain ⟨i,j,rfl,rfl,q⟩:=q
 obtain ⟨t,rfl⟩:=rx
 obtain ⟨t',rfl⟩:=ry
 exact sub_int ⟨.int _,H2,I2.tok _,⟨_,rfl⟩,q⟩
variable {tA tB':TT} {ZbG:List Expr}
def ZAL (t u:TT):TT:=fun σ H Q=>t σ H fun c H1=>if c=true then u σ H1 Q else Q false H1
def tOr (t u:TT):TT:=fun σ H Q=>t σ H fun c H1=>if c=true then Q true H1 else u σ H1 Q
def ZA5 (t:TT):TT:=fun σ H Q=>t σ H fun c H1=>Q (!c) H1
theorem ZuJ (ha:PT X a tA):PW X (.BoolOp .And [a] pos) tA:=by
 intro wh pins s σ H Q I h
 refine isTrue_and (thn (ha pins s σ H Q I h) fun c s1 e=>?_)
 cases c with
 | true=>exact isTrue_and_nil e
 | false=>exact e
theorem ZxH (ha:PT X a tA):PW X (.BoolOp .Or [a] pos) tA:=by
 intro wh pins s σ H Q I h
 refine isTrue_or (thn (ha pins s σ H Q I h) fun c s1 e=>?_)
 cases c with
 | false=>exact isTrue_or_nil e
 | true=>exact e
theorem Zyv (ha:PT X a tA) (hb:PW X (.BoolOp .And (b::ZbG) pos) tB'):PW X (.BoolOp .And (a::b::ZbG) pos) (ZAL tA tB'):=by
 intro wh pins s σ H Q I h
 refine isTrue_and (thn (ha pins s σ H _ I h) fun c s1 zz7=>?_)
 obtain ⟨H1,I1,q1⟩:=zz7
 cases c with
 | true=>exact hb wh pins s1 σ H1 Q I1 q1
 | false=>exact ⟨H1,I1,q1⟩
theorem Zzv (ha:PT X a tA) (hb:PW X (.BoolOp .Or (b::ZbG) pos) tB'):PW X (.BoolOp .Or (a::b::ZbG) pos) (tOr tA tB'):=by
 intro wh pins s σ H Q I h
 refine isTrue_or (thn (ha pins s σ H _ I h) fun c s1 zz8=>?_)
 obtain ⟨H1,I1,q1⟩:=zz8
 cases c with
 | true=>exact ⟨H1,I1,q1⟩
 | false=>exact hb wh pins s1 σ H1 Q I1 q1
theorem Zwi (ha:PT X a tA):PT X (.UnaryOp .Not a pos) (ZA5 tA):=by
 intro pins s σ H Q I h
 exact isTrue_not (ha pins s σ H (fun c H1=>Q (!c) H1) I h)
def Zzw (ta tb:TE):TE:=fun σ H Q=>ta σ H fun x H1=>∃ c,x=.bl c∧if c=true then tb σ H1 Q else Q (.bl false) H1
def ZAS (ta tb:TE):TE:=fun σ H Q=>ta σ H fun x H1=>∃ c,x=.bl c∧if c=true then Q (.bl true) H1 else tb σ H1 Q
def ZzD (ta:TE):TE:=fun σ H Q=>ta σ H fun x H1=>∃ c,x=.bl c∧Q (.bl (!c)) H1
theorem Zxm {op} {t:TE} (h:PE X a t):PE X (.BoolOp op [a] pos) t:=fun pins s σ H Q I hw=>BoolOp_one (h pins s σ H Q I hw)
theorem Zw1 (ha:PE X a ta) (hb:PE X (.BoolOp .And (b::ZbG) pos) tb):PE X (.BoolOp .And (a::b::ZbG) pos) (Zzw ta tb):=by
 intro pins s σ H Q I h
 refine BoolOp_and (thn (ha pins s σ H _ I h) fun v s1 zz9=>?_)
 obtain ⟨x,H1,I1,r1,q1⟩:=zz9
 obtain ⟨c,rfl,q1⟩:=q1
 cases r1
 refine wpAny_truthy_bool ?_
 cases c with
 | true=>exact hb pins s1 σ H1 Q I1 q1
 | false=>exact ⟨.bl false,H1,I1,rfl,q1⟩
theorem Zzk (ha:PE X a ta) (hb:PE X (.BoolOp .Or (b::ZbG) pos) tb):PE X (.BoolOp .Or (a::b::ZbG) pos) (ZAS ta tb):=by
 intro pins s σ H Q I h
 refine BoolOp_or (thn (ha pins s σ H _ I h) fun v s1 zz10=>?_)
 obtain ⟨x,H1,I1,r1,q1⟩:=zz10
 obtain ⟨c,rfl,q1⟩:=q1
 cases r1
 refine wpAny_truthy_bool ?_
 cases c with
 | false=>exact hb pins s1 σ H1 Q I1 q1
 | true=>exact ⟨.bl true,H1,I1,rfl,q1⟩
theorem Zyu (ha:PE X a ta):PE X (.UnaryOp .Not a pos) (ZzD ta):=by
 intro pins s σ H Q I h
 refine UnaryOp_ (thn (ha pins s σ H _ I h) fun v s1 zz11=>?_)
 obtain ⟨x,H1,I1,r1,q1⟩:=zz11
 obtain ⟨c,rfl,q1⟩:=q1
 cases r1
 exact not_of (wpAny_truthy_bool ⟨.bl (!c),H1,I1,rfl,q1⟩)
def tIf (t:TT) (ta tb:TE):TE:=fun σ H Q=>t σ H fun c H1=>if c=true then ta σ H1 Q else tb σ H1 Q
theorem Zrr {c:Expr} (hc:PT X c tA) (ha:PE X a ta) (hb:PE X b tb):PE X (.IfExp c a b pos) (tIf tA ta tb):=by
 intro pins s σ H Q I h
 refine wpAny_IfExp (thn (hc pins s σ H _ I h) fun d s1 zz12=>?_)
 obtain ⟨H1,I1,q1⟩:=zz12
 cases d with
 | true=>exact ha pins s1 σ H1 Q I1 q1
 | false=>exact hb pins s1 σ H1 Q I1 q1
end
def SqL (K:PySem.W.Frag) (H:Hp) (a:Addr) (xs:List V):Prop :=
 Rd H a (.lst xs) ∨
  ∃ (o:Obj) (its:Array Value) (n:Nat),K.lookup a=some o∧o.cls=.type "list"∧o.dict=none∧o.data=.seq its n∧its.size≤sizeLine∧Vals xs its.toList
def SqT (K:PySem.W.Frag) (H:Hp) (a:Addr) (xs:List V):Prop :=
 Rd H a (.tup xs) ∨
  ∃ (o:Obj) (its:Array Value) (n:Nat),K.lookup a=some o∧o.cls=.type "tuple"∧o.data=.seq its n∧its.size≤sizeLine∧Vals xs its.toList
def ZAv:Value→Option V
 | .none=>some .non
 | .bool b=>some (.bl b)
 | .int i _=>some (.int i)
 | .str x _=>some (.str x)
 | .bytes b _=>some (.byt b)
 | .float b _=>some (.flt b)
 | .ref a=>some (.ref a)
 | .type n=>some (.ty n)
 | _=>none
theorem RelV.abs {x:V} {u:Value} (r:RelV x u):ZAv u=some x:=by
 cases x with
 | non=>cases r;rfl
 | bl _=>cases r;rfl
 | int _=>obtain ⟨t,rfl⟩:=r;rfl
 | str _=>obtain ⟨t,rfl⟩:=r;rfl
 | byt _=>obtain ⟨t,rfl⟩:=r;rfl
 | flt _=>obtain ⟨t,rfl⟩:=r;rfl
 | ref _=>cases r;rfl
 | ty _=>cases r;rfl
theorem RelV.inj {x y:V} {u:Value} (r:RelV x u) (q:RelV y u):x=y:=Option.some.inj (r.abs.symm.trans q.abs)
theorem Vals.inj:∀ {xs ys:List V} {us:List Value},Vals xs us→Vals ys us→xs=ys
 | _,_,_,.nil,.nil=>rfl
 | _,_,_,.cons r t,.cons r' t'=>by rw [r.inj r',Vals.inj t t']
section
variable {X:Cx} {pins:List (Addr×Obj)} {σ:St} {H:Hp} {s:Shared} {a:Addr} {xs ys:List V}
theorem SqL.of {K:PySem.W.Frag} (h:H a=some (.lst xs)):SqL K H a xs:=.inl (.inl h)
theorem SqT.of {K:PySem.W.Frag} (h:H a=some (.tup xs)):SqT K H a xs:=.inl (.inl h)
theorem Inv.list (I:Inv X pins σ H s) (h:SqL X.K H a xs):∃ its:List Value,Vals xs its∧PlainL s.heap a its.toArray∧xs.length≤sizeLine:=by
 rcases h with h | ⟨o,its,n,hk,hc,hd,hs,hz,r⟩
 ·obtain ⟨z,its,n,r,e⟩:=h.ok I.hok
  exact ⟨its,r,⟨_,n,e,rfl,rfl,rfl⟩,z⟩
 ·refine ⟨its.toList,r,⟨o,n,I.kIn a o hk,hc,hd,by simpa using hs⟩,?_⟩
  have e:=r.length
  simp only [Array.length_toList] at e
  omega
theorem Inv.tuple (I:Inv X pins σ H s) (h:SqT X.K H a xs):∃ its:List Value,Vals xs its∧IsTup s.heap a its.toArray∧xs.length≤sizeLine:=by
 rcases h with h | ⟨o,its,n,hk,hc,hs,hz,r⟩
 ·obtain ⟨z,its,r,p⟩:=h.ok I.hok
  exact ⟨its,r,p,z⟩
 ·refine ⟨its.toList,r,⟨o,I.kIn a o hk,hc,n,by simpa using hs⟩,?_⟩
  have e:=r.length
  simp only [Array.length_toList] at e
  omega
theorem Inv.list_inj (I:Inv X pins σ H s) (h:SqL X.K H a xs) (h':SqL X.K H a ys):xs=ys:=by
 obtain ⟨its,r,⟨o,n,e,_,_,d⟩,_⟩:=I.list h
 obtain ⟨its',r',⟨o',n',e',_,_,d'⟩,_⟩:=I.list h'
 rw [e] at e';cases e'
 rw [d] at d'
 injection d' with d1 _
 have:its=its':=by simpa using congrArg Array.toList d1
 subst this
 exact r.inj r'
theorem Inv.tuple_inj (I:Inv X pins σ H s) (h:SqT X.K H a xs) (h':SqT X.K H a ys):xs=ys:=by
 obtain ⟨its,r,⟨o,e,_,n,d⟩,_⟩:=I.tuple h
 obtain ⟨its',r',⟨o',e',_,n',d'⟩,_⟩:=I.tuple h'
 rw [e] at e';cases e'
 rw [d] at d'
 injection d' with d1 _
 have:its=its':=by simpa using congrArg Array.toList d1
 subst this
 exact r.inj r'
end
abbrev Cx.wish (X:Cx) (E:Value→Shared→Prop):Cx:={ X with xe:=E }
abbrev Cx.nox (X:Cx):Cx:=X.wish fun _ _=>False
theorem Cx.Ok.wish {X:Cx} (ok:X.Ok) (E:Value→Shared→Prop):(X.wish E).Ok :=
 ⟨ok.mod,ok.kind,ok.glob,ok.blt,ok.above,ok.inj,ok.has,ok.cab,ok.hd,ok.frames,ok.stk,ok.exf,ok.bs,ok.bsz,ok.noex,ok.exfs,ok.funs,ok.frf⟩
theorem Cx.Ok.unwish {X:Cx} {E:Value→Shared→Prop} (ok:(X.wish E).Ok):X.Ok :=
 ⟨ok.mod,ok.kind,ok.glob,ok.blt,ok.above,ok.inj,ok.has,ok.cab,ok.hd,ok.frames,ok.stk,ok.exf,ok.bs,ok.bsz,ok.noex,ok.exfs,ok.funs,ok.frf⟩
section
variable {X:Cx} {pins:List (Addr×Obj)} {σ:St} {H:Hp} {s:Shared} {E:Value→Shared→Prop}
theorem Inv.wish (I:Inv X pins σ H s) (E:Value→Shared→Prop):Inv (X.wish E) pins σ H s:=⟨I.ok.wish E,I.os,I.bare,I.base,I.loc,I.cell,I.free,I.freeC,I.pin,I.hok,I.len⟩
theorem Inv.unwish (I:Inv (X.wish E) pins σ H s):Inv X pins σ H s:=⟨I.ok.unwish,I.os,I.bare,I.base,I.loc,I.cell,I.free,I.freeC,I.pin,I.hok,I.len⟩
theorem SP.unwish {D:ZvS} {f:Flow} {s':Shared} (h:SP (X.wish E) pins D f s'):SP X pins D f s':=by
 cases f with
 | next=>obtain ⟨σ',H',I,q⟩:=h;exact ⟨σ',H',I.unwish,q⟩
 | brk=>obtain ⟨σ',H',I,q⟩:=h;exact ⟨σ',H',I.unwish,q⟩
 | cont=>obtain ⟨σ',H',I,q⟩:=h;exact ⟨σ',H',I.unwish,q⟩
 | ret u=>obtain ⟨v,σ',H',I,r,q⟩:=h;exact ⟨v,σ',H',I.unwish,r,q⟩
theorem PE.nox {e:Expr} {t:TE} (h:PE X.nox e t):PE X e t:=fun pins s σ H Q I hw =>
 wpAny_mono (h pins s σ H Q (I.wish _) hw) ((by rintro _ _ ⟨v,H',I',r,q⟩;exact ⟨v,H',I'.unwish,r,q⟩)) fun _ _ z=>False.elim z
theorem PT.nox {e:Expr} {t:TT} (h:PT X.nox e t):PT X e t:=fun pins s σ H Q I hw =>
 wpAny_mono (h pins s σ H Q (I.wish _) hw) ((by rintro _ _ ⟨H',I',q⟩;exact ⟨H',I'.unwish,q⟩)) fun _ _ z=>False.elim z
theorem PSs.nox {st:List Stmt} {t:TS} (h:PSs X.nox st t):PSs X st t:=fun pins s σ H D I hw =>
 wpAny_mono (h pins s σ H D (I.wish _) hw) (fun _ _ q=>q.unwish) fun _ _ z=>False.elim z
end
section
variable {X:Cx} {st:Stmt} {ZbG:List Stmt} {t u:TS} {e:Expr} {te:TE} {pos:Pos}
def ZzY:TS:=fun D σ H=>D.nx σ H
def ZA6 (t u:TS):TS:=fun D σ H=>t { D with nx:=u D } σ H
theorem Zuo:PSs X [] ZzY:=fun _ _ σ H _ I h=>wpAny_execs_nil ⟨σ,H,I,h⟩
theorem Zsq (h1:PS X st t) (h2:PSs X ZbG u):PSs X (st::ZbG) (ZA6 t u):=by
 intro pins s σ H D I h
 refine wpAny_execs_cons (thn (h1 pins s σ H { D with nx:=u D } I h) fun f s1 q=>?_)
 cases f with
 | next =>
  obtain ⟨σ',H',I',q⟩:=q
  exact h2 pins s1 σ' H' D I' q
 | ret v=>exact q
 | brk=>exact q
 | cont=>exact q
theorem Zud (h1:PS X st t):PSs X [st] t:=by
 intro pins s σ H D I h
 refine wpAny_execs_cons (thn (h1 pins s σ H D I h) fun f s1 q=>?_)
 cases f with
 | next=>exact wpAny_execs_nil q
 | ret v=>exact q
 | brk=>exact q
 | cont=>exact q
theorem Inv.quiet {pins:List (Addr×Obj)} {σ:St} {H:Hp} {s:Shared} (I:Inv X pins σ H s):interactive X.env=false:=by simp [interactive,I.ok.kind]
def Zzz (te:TE):TS:=fun D σ H=>te σ H fun _ H1=>D.nx σ H1
theorem ZuB (he:PE X e te) (hs:swapsWith e none pos.line X.env=pure false:=by rfl):PS X (.Expr e pos) (Zzz te):=by
 intro pins s σ H D I h
 exact wpAny_Expr_any (thn (he pins s σ H _ I h) (by rintro v s1 ⟨x,H1,I1,r1,q1⟩;exact ⟨σ,H1,I1,q1⟩)) I.quiet hs
def ZAC (te:TE):TS:=fun D σ H=>te σ H D.rt
theorem Zv5 (he:PE X e te):PS X (.Return (some e) pos) (ZAC te):=by
 intro pins s σ H D I h
 exact wpAny_Return_some (thn (he pins s σ H _ I h) (by rintro v s1 ⟨x,H1,I1,r1,q1⟩;exact ⟨x,σ,H1,I1,r1,q1⟩))
def ZAu (c:TT) (t u:TS):TS:=fun D σ H=>c σ H fun b H1=>if b=true then t D σ H1 else u D σ H1
theorem ZyV {c:Expr} {a b:List Stmt} {tc:TT} (hc:PT X c tc) (ha:PSs X a t) (hb:PSs X b u):PS X (.If c a b pos) (ZAu tc t u):=by
 intro pins s σ H D I h
 refine wpAny_If (thn (hc pins s σ H _ I h) fun d s1 zz13=>?_)
 obtain ⟨H1,I1,q1⟩:=zz13
 cases d with
 | true=>exact ha pins s1 σ H1 D I1 q1
 | false=>exact hb pins s1 σ H1 D I1 q1
end
abbrev TG:=V→St→Hp→(St→Hp→Prop)→Prop
abbrev TGs:=List V→St→Hp→(St→Hp→Prop)→Prop
def PG (X:Cx) (target:Expr) (t:TG):Prop :=
 ∀ (pins:List (Addr×Obj)) (s:Shared) (σ:St) (H:Hp) (v:V) (u:Value) (Q:St→Hp→Prop),Inv X pins σ H s→RelV v u→t v σ H Q →
  wpAny (model X.prog X.w) X.A (assign target X.env u) (fun _ s'=>∃ σ' H',Inv X pins σ' H' s'∧Q σ' H') X.xe s
def PGs (X:Cx) (ts:List Expr) (t:TGs):Prop :=
 ∀ (pins:List (Addr×Obj)) (s:Shared) (σ:St) (H:Hp) (vs:List V) (us:List Value) (Q:St→Hp→Prop),Inv X pins σ H s→Vals vs us→t vs σ H Q →
  wpAny (model X.prog X.w) X.A (assignInOrder ((assignEach ts X.env).map (·.2)) us) (fun _ s'=>∃ σ' H',Inv X pins σ' H' s'∧Q σ' H') X.xe s
abbrev Zzi:=V→V→V→Hp→(Hp→Prop)→Prop
def ZAq (X:Cx) (t:Zzi):Prop :=
 ∀ (pins:List (Addr×Obj)) (s:Shared) (σ:St) (H:Hp) (o i v:V) (ov iv u:Value) (Q:Hp→Prop),Inv X pins σ H s→RelV o ov→RelV i iv→RelV v u→t o i v H Q →
  wpAny (model X.prog X.w) X.A (setItem ov iv u) (fun _ s'=>∃ H',Inv X pins σ H' s'∧Q H') X.xe s
abbrev TIp:=V→V→Hp→VK→Prop
def PIp (X:Cx) (op:Operator) (t:TIp):Prop :=
 ∀ (pins:List (Addr×Obj)) (s:Shared) (σ:St) (H:Hp) (x y:V) (v u:Value) (Q:VK),Inv X pins σ H s→RelV x v→RelV y u→t x y H Q →
  wpAny (model X.prog X.w) X.A (inplaceOp op v u) (EP X pins σ Q) X.xe s
section
variable {X:Cx} {pos:Pos}
def Zik (i:Nat):TG:=fun v σ H Q=>Q (σ.set i (some v)) H
theorem Zec {i:Nat} {x:Str} (hN:X.N.Nodup) (hi:X.N[i]?=some x) (hx:Loc X.env.scope x) (hf:X.fn x=true∨X.env.scope.names.lookup x=some .local:=by first | exact .inl rfl | exact .inr rfl | assumption):PG X (.Name x pos) (Zik i):=by
 intro pins s σ H v u Q I r h
 exact wpAny_assign_Name (ZgP I hN hi hx r (fun s' I'=>⟨_,H,I',h⟩) hf)
def Zag:TGs:=fun vs σ H Q=>vs=[]∧Q σ H
def Zaa (t:TG) (u:TGs):TGs:=fun vs σ H Q=>∃ v r,vs=v::r∧t v σ H fun σ' H'=>u r σ' H' Q
theorem Zm1:PGs X [] Zag:=by
 intro pins s σ H vs us Q I r h
 obtain ⟨e,h⟩:=h
 subst e
 cases r
 exact assignInOrder_nil ⟨σ,H,I,h⟩
theorem ZeA {e:Expr} {es:List Expr} {t:TG} {u:TGs} (h1:PG X e t) (h2:PGs X es u)
  (hs:(assignEach (e::es) X.env).map (·.2)=assign e X.env::(assignEach es X.env).map (·.2):=by rfl):PGs X (e::es) (Zaa t u):=by
 intro pins s σ H vs us Q I r h
 obtain ⟨v,vr,e1,h⟩:=h
 subst e1
 cases r with
 | cons r rr =>
  rw [hs]
  refine assignInOrder_cons (thn (h1 pins s σ H _ _ _ I r h) fun _ s1 zz14=>?_)
  obtain ⟨σ1,H1,I1,q1⟩:=zz14
  exact h2 pins s1 σ1 H1 _ _ Q I1 rr q1
def ZaA (K:PySem.W.Frag) (n:Nat) (t:TGs):TG:=fun v σ H Q=>∃ a xs,v=.ref a∧SqT K H a xs∧xs.length=n∧t xs σ H Q
theorem ZpD {es:List Expr} {k:Nat} {t:TGs} {n:Nat} (hc:X.calm=true) (h:PGs X es t)
  (hn:(assignEach es X.env).length=n:=by rfl) (hst:(assignEach es X.env).findIdx? (·.1)=none:=by rfl):PG X (.Tuple es k pos) (ZaA X.K n t):=by
 intro pins s σ H v u Q I r hw
 obtain ⟨a,xs,e1,hq,hl,hw⟩:=hw
 subst e1
 cases r
 obtain ⟨its,rv,ht,hz⟩:=I.tuple hq
 refine assign_Tuple_tuple (I.ok.hd hc) ht (by simp [hn,← hl,rv.length]) hst fun h' hx=>?_
 have I1:Inv X pins σ H { s with heap:=h' }:=I.kept (t':=s.toks) fun b o e=>hx b o (Nat.ne_of_lt (Heap.lt_size e)) e
 exact h pins _ σ H xs _ Q I1 (by simpa using rv) hw
def ZA4 (to ti:TE) (t:Zzi):TG:=fun v σ H Q=>to σ H fun o H1=>ti σ H1 fun i H2=>t o i v H2 fun H3=>Q σ H3
theorem Zwb {o i:Expr} {to ti:TE} {t:Zzi} (ho:PE X o to) (hi:PE X i ti) (hs:ZAq X t)
  (ha:∀ v,assign (.Subscript o i pos) X.env v=(do
   let ov ← holding [v] (eval o X.env)
   let iv ← holding [v,ov] (eval i X.env)
   standAt pos
   holding [v,ov,iv] (setItem ov iv v)
   release [v,ov,iv] []):=by intro _;rfl):PG X (.Subscript o i pos) (ZA4 to ti t):=by
 intro pins s σ H v u Q I r h
 rw [ha]
 refine wpAny_bind (wpAny_holding (thn (ho pins s σ H _ I h) fun ov s1 zz15=>?_))
 obtain ⟨x,H1,I1,r1,q1⟩:=zz15
 refine wpAny_bind (wpAny_holding (thn (hi pins s1 σ H1 _ I1 q1) fun iv s2 zz16=>?_))
 obtain ⟨y,H2,I2,r2,q2⟩:=zz16
 refine wpAny_bind (wpAny_standAt (wpAny_bind (wpAny_holding (thn (hs pins s2 σ H2 x y v ov iv u _ I2 r1 r2 r q2) fun _ s3 zz17=>?_))))
 obtain ⟨H3,I3,q3⟩:=zz17
 exact wpAny_release ⟨σ,H3,I3,q3⟩
def Zy0 (te:TE) (g:TG):TS:=fun D σ H=>te σ H fun x H1=>g x σ H1 D.nx
theorem Zyd {tg e:Expr} {te:TE} {g:TG} (he:PE X e te) (hg:PG X tg g) (hs:swapsWithSole [tg] e pos.line X.env=pure false:=by rfl) (hw:swappedStores [tg] e X.env=pure none:=by rfl)
  (h1:(assignEach [tg] X.env).map (·.2)=[assign tg X.env]:=by rfl):PS X (.Assign [tg] e pos) (Zy0 te g):=by
 intro pins s σ H D I h
 refine wpAny_Assign_stores (thn (he pins s σ H _ I h) fun v s1 zz18=>?_) hs hw
 obtain ⟨x,H1,I1,r1,q1⟩:=zz18
 rw [h1]
 exact thn (hg pins s1 σ H1 x v _ I1 r1 q1) fun _ s2 q=>q
theorem Zx3 {i:Nat} {x:Str} {e:Expr} {te:TE} {pos':Pos} (hN:X.N.Nodup) (hi:X.N[i]?=some x) (hx:Loc X.env.scope x) (he:PE X e te) (hs:swapsWith e (some (.Name x pos')) pos.line X.env=pure false:=by rfl) (hf:X.fn x=true∨X.env.scope.names.lookup x=some .local:=by first | exact .inl rfl | exact .inr rfl | assumption) :
  PS X (.Assign [.Name x pos'] e pos) (Zy0 te (Zik i)):=by
 intro pins s σ H D I h
 refine wpAny_Assign_Name (thn (he pins s σ H _ I h) fun v s1 zz19=>?_) hs
 obtain ⟨y,H1,I1,r1,q1⟩:=zz19
 exact ZgP I1 hN hi hx r1 (fun s2 I2=>⟨_,H1,I2,q1⟩) hf
def ZAH (i:Nat) (te:TE) (ti:TIp):TS:=fun D σ H=>∃ x,σ[i]?=some (some x)∧te σ H fun y H1=>ti x y H1 fun z H2=>D.nx (σ.set i (some z)) H2
theorem Zyi {i:Nat} {x:Str} {e:Expr} {te:TE} {op:Operator} {ti:TIp} {pos':Pos} (hN:X.N.Nodup) (hi:X.N[i]?=some x) (hx:Loc X.env.scope x) (he:PE X e te) (ho:PIp X op ti) (hf:X.fn x=true∨X.env.scope.names.lookup x=some .local:=by first | exact .inl rfl | exact .inr rfl | assumption) :
  PS X (.AugAssign (.Name x pos') op e pos) (ZAH i te ti):=by
 intro pins s σ H D I h
 obtain ⟨v,e1,h⟩:=h
 obtain ⟨m,hn,hl⟩:=I.loc
 have vis:Vis X.env.scope x:=by rcases hx with k | k;exact .inl k;exact .inr (.inl k)
 obtain ⟨u,r,l⟩:=hl i x v hi e1 vis
 refine wpAny_AugAssign_Name ?_
 have go:wpAny (model X.prog X.w) X.A (eval e X.env) (fun w s₂=>wpAny (model X.prog X.w) X.A (inplaceOp op u w) (fun r s₃=>wpAny (model X.prog X.w) X.A (storeName X.env x r) (fun _=>SP X pins D .next) X.xe s₃) X.xe s₂) X.xe s:=by
  refine thn (he pins s σ H _ I h) fun w s1 zz21=>?_
  obtain ⟨y,H1,I1,r1,q1⟩:=zz21
  refine thn (ho pins s1 σ H1 v y u w _ I1 r r1 q1) fun z s2 zz22=>?_
  obtain ⟨zv,H2,I2,r2,q2⟩:=zz22
  exact ZgP I2 hN hi hx r2 (fun s3 I3=>⟨_,H2,I3,q2⟩) hf
 rcases l with ⟨hk,hm⟩ | ⟨hk,c,hc,hcell⟩
 ·exact wpAny_loadName_local I.ok.kind hk hn hm go
 ·rcases hk with hk | hk
  ·exact wpAny_loadName_cell I.ok.kind hk hc hcell go
  ·rcases hx with k | k
   ·have:X.env.scope.names.lookup x=some .free:=hk
    rw [k] at this;cases this
   ·have:X.env.scope.names.lookup x=some .free:=hk
    rw [k] at this;cases this
end
section
variable {X:Cx} {pos:Pos}
def ZwB (c:TT) (tb:TS):TS:=fun D σ H=>∃ W:Nat→St→Hp→Prop,(∃ m,W m σ H)∧∀ m σ H,W m σ H →
 c σ H fun b H1=>if b=true then ∃ N:St→Hp→Prop,(∀ σ' H',N σ' H'→∃ m',m' < m∧W m' σ' H')∧tb { D with nx:=N,ct:=N,bk:=D.nx } σ H1 else D.nx σ H1
theorem Zsm {c:Expr} {body:List Stmt} {tc:TT} {tb:TS} (hp:PassesOwn (model X.prog X.w) X.A X.env X.xe) (hc:PT X c tc) (hb:PSs X body tb):PS X (.While c body [] pos) (ZwB tc tb):=by
 intro pins s σ H D I h
 obtain ⟨W,⟨m0,w0⟩,turn⟩:=h
 refine wpAny_While (codeAny_whileLoop (fun n s'=>∃ σ' H',Inv X pins σ' H' s'∧W n σ' H') ?_ m0 ⟨σ,H,I,w0⟩)
 rintro n s1 ⟨σ1,H1,I1,w1⟩
 refine wpAny_passesOwn hp (thn (hc pins s1 σ1 H1 _ I1 (turn n σ1 H1 w1)) fun b s2 zz28=>?_)
 obtain ⟨H2,I2,q2⟩:=zz28
 cases b with
 | true =>
  obtain ⟨N,hN,q2⟩:=q2
  rw [if_pos rfl]
  refine wpAny_passesOwn hp (thn (hb pins s2 σ1 H2 _ I2 q2) fun f s3 q3=>?_)
  cases f with
  | next =>
   obtain ⟨σ3,H3,I3,n3⟩:=q3
   obtain ⟨m',hm,w3⟩:=hN σ3 H3 n3
   exact ⟨m',hm,σ3,H3,I3,w3⟩
  | cont =>
   obtain ⟨σ3,H3,I3,n3⟩:=q3
   obtain ⟨m',hm,w3⟩:=hN σ3 H3 n3
   exact ⟨m',hm,σ3,H3,I3,w3⟩
  | brk=>exact q3
  | ret v=>exact q3
 | false =>
  rw [if_neg Bool.false_ne_true]
  exact wpAny_execs_nil ⟨σ1,H2,I2,q2⟩
end
structure It where
 go:Nat→Hp→Prop
 yld:Nat→Hp→V→Hp→Prop
 stop:Nat→Hp→Prop
def Zpy (X:Cx) (pins:List (Addr×Obj)) (H:Hp) (b:Addr):Prop :=
 H b=none∧b≠X.env.locals∧b∉X.fs∧(b∈X.ex∨X.s₀.heap.objs.size≤b)∧(∀ x c,X.env.cells.lookup x=some c→c≠b)∧∀ p∈X.pn++pins,p.1≠b
theorem Inv.fpOk {X:Cx} {pins:List (Addr×Obj)} {σ:St} {H H':Hp} {s:Shared} {b:Addr} (I:Inv X pins σ H s) (hb:s.heap.objs.size≤b) (hn:H' b=none):Zpy X pins H' b:=by
 refine ⟨hn,Nat.ne_of_gt (Nat.lt_of_lt_of_le I.lt hb),I.nofs hb,.inr (Nat.le_trans I.sz hb),fun x c e z=>?_,fun p hp z=>?_⟩
 ·obtain ⟨v,q⟩:=I.cell x c e
  exact absurd (Nat.lt_of_lt_of_le q.lt (by rw [z];exact hb)) (Nat.lt_irrefl _)
 ·exact absurd (Nat.lt_of_lt_of_le (Heap.lt_size (I.pin p hp).1) (by rw [z];exact hb)) (Nat.lt_irrefl _)
structure Zrn (P:Program) (w:World) (K:PySem.W.Frag) (tg:Expr) (J:It) (fp:List Addr) (it:Addr) (tn:Nat→Heap→Prop):Prop where
 mem:it∈fp
 obj:∀ i h,tn i h→∀ b∈fp,∃ o,h.get? b=some o∧∀ v,o.data≠.cell v
 keep:∀ i h h',tn i h→(∀ b∈fp,∀ o,h.get? b=some o→h'.get? b=some o)→tn i h'
 item:∀ (X:Cx),X.prog=P→X.w=w→X.K=K→X.calm=true→∀ (i:Nat) (pins:List (Addr×Obj)) (s:Shared) (σ:St) (H:Hp) (E:Value→Shared→Prop),Inv X pins σ H s→(∀ b∈fp,Zpy X pins H b)→tn i s.heap→J.go i H →
  wpAny (model P w) X.A (pyNext (.ref it)) (fun r s1=>∃ u,r=some u ∧
   wpAny (model P w) X.A (letOwnedTupleGo tg (.ref it) u) (fun _ s2=>∃ x H',Inv X pins σ H' s2∧RelV x u∧J.yld i H x H'∧tn (i+1) s2.heap∧∀ b∈fp,H' b=none) E s1) E s
 done:∀ (X:Cx),X.prog=P→X.w=w→X.K=K→X.calm=true→∀ (i:Nat) (pins:List (Addr×Obj)) (s:Shared) (σ:St) (H:Hp) (E:Value→Shared→Prop),Inv X pins σ H s→(∀ b∈fp,Zpy X pins H b)→tn i s.heap→J.stop i H →
  wpAny (model P w) X.A (pyNext (.ref it)) (fun r s1=>r=none∧Inv X pins σ H s1) E s
 self:∀ (A:Around) (i:Nat) (s:Shared) (Q:Value→Shared→Prop) (E:Value→Shared→Prop),tn i s.heap→Q (.ref it) s→wpAny (model P w) A (pyIter (.ref it)) Q E s
abbrev TI:=St→Hp→(It→Hp→Prop)→Prop
def PIE (X:Cx) (pins:List (Addr×Obj)) (σ:St) (tg:Expr) (R:It→Hp→Prop) (itv:Value) (s2:Shared):Prop :=
 ∃ (it:Addr) (fp:List Addr) (tn:Nat→Heap→Prop) (J:It) (H':Hp),itv=.ref it∧Inv X pins σ H' s2∧Zrn X.prog X.w X.K tg J fp it tn∧tn 0 s2.heap∧(∀ b∈fp,Zpy X pins H' b)∧R J H'
def PI (X:Cx) (tg iter:Expr) (wi:TI):Prop :=
 ∀ (pins:List (Addr×Obj)) (s:Shared) (σ:St) (H:Hp) (R:It→Hp→Prop),Inv X pins σ H s→wi σ H R →
  wpAny (model X.prog X.w) X.A (eval iter X.env) (fun v s1=>wpAny (model X.prog X.w) X.A (pyIter v) (PIE X pins σ tg R) X.xe s1) X.xe s
theorem ZvD {M:Model} {A:Around} {E:Value→Shared→Prop} {s:Shared} {tg:Expr} {it:Addr} {u:Value} {o:Obj} {n:String} {vs:Array Value} {Q:Unit→Shared→Prop} (ho:s.heap.get? it=some o) (hc:o.cls=.type n) (hd:o.data=.fields vs)
  (hn:["enumerate","zip","dict_itemiterator","dict_reverseitemiterator","odict_iterator","itertools.zip_longest","itertools.pairwise"].contains n=false) (hQ:Q () s):wpAny M A (letOwnedTupleGo tg (.ref it) u) Q E s:=by
 unfold letOwnedTupleGo
 cases tg <;> first
  | exact wpAny_pure hQ
  | (cases u <;> first
    | exact wpAny_pure hQ
    | (refine wpAny_bind (wpAny_load ho ?_)
       rw [hc,hd]
       show wpAny M A (if (["enumerate","zip","dict_itemiterator","dict_reverseitemiterator","odict_iterator","itertools.zip_longest","itertools.pairwise"].contains n&&vs[0]?==some (rawInt _))=true then _ else _) Q E s
       rw [if_neg (by intro h;rw [hn,Bool.false_and] at h;cases h)]
       exact wpAny_pure hQ))
def Itl (K:PySem.W.Frag) (a:Addr):It :=
 ⟨fun i H=>∃ xs x,SqL K H a xs∧xs[i]?=some x,fun i H x H'=>H'=H∧∀ xs,SqL K H a xs→xs[i]?=some x,fun i H=>∃ xs,SqL K H a xs∧xs.length≤i⟩
def Itt (K:PySem.W.Frag) (a:Addr):It :=
 ⟨fun i H=>∃ xs x,SqT K H a xs∧xs[i]?=some x,fun i H x H'=>H'=H∧∀ xs,SqT K H a xs→xs[i]?=some x,fun i H=>∃ xs,SqT K H a xs∧xs.length≤i⟩
def Itr (lo:Int) (n:Nat):It:=⟨fun i _=>i < n,fun i H x H'=>H'=H∧x=.int (lo+i),fun i _=>n≤i⟩
theorem ZqP {P:Program} {w:World} {K:PySem.W.Frag} {tg:Expr} (a it:Addr):Zrn P w K tg (Itl K a) [it] it (fun i h=>h.IsListIter it a i) where
 mem:=by simp
 obj:=fun i h st b hb=>by
  have e:b=it:=by simpa using hb
  subst e
  obtain ⟨o,e,c,d⟩:=st
  exact ⟨o,e,fun v z=>by rw [d] at z;cases z⟩
 keep:=fun i h h' st k=>st.at fun o e=>k it (by simp) o e
 item:=by
  walk_at "pa"
  subst hP hw hK
  obtain ⟨xs,x,hq,hx⟩:=hg
  obtain ⟨its,rv,p,hz⟩:=I.list hq
  obtain ⟨u,hu,ru⟩:=rv.get hx
  walk_at "pg"
  refine wpAny_pyNext_list_item st p.isList (x:=u) (by simpa using hu) fun h' st' sb=>?_
  have I1:Inv X pins σ H { s with heap:=h' }:=I.turned (t':=s.toks) (fun b o hb e=>(sb.2 b hb).trans e) f0 f1 f3 f4 f5
  obtain ⟨o,e,c,d⟩:=id st'
  exact ⟨u,rfl,ZvD (s:={ s with heap:=h' }) e c d (by decide) ⟨x,H,I1,ru,⟨rfl,fun ys hy=>by rw [I.list_inj hy hq];exact hx⟩,st',fun b hb=>(hf b hb).1⟩⟩
 done:=by
  walk_at "pa"
  subst hP hw hK
  obtain ⟨xs,hq,hx⟩:=hg
  obtain ⟨its,rv,p,hz⟩:=I.list hq
  walk_at "pg"
  have hl:=rv.length
  exact wpAny_pyNext_list_end (I.ok.hd hc) st p.isList (by simp;omega) fun h' eb=>⟨rfl,I.turned (t':=s.toks) (fun b o hb e=>eb b o hb e) f0 f1 f3 f4 f5⟩
 self:=fun _ _ _ _ _ st h=>wpAny_pyIter_listiter st h
theorem ZoJ {P:Program} {w:World} {K:PySem.W.Frag} {tg:Expr} (a it:Addr):Zrn P w K tg (Itt K a) [it] it (fun i h=>h.IsTupleIter it a i) where
 mem:=by simp
 obj:=fun i h st b hb=>by
  have e:b=it:=by simpa using hb
  subst e
  obtain ⟨o,e,c,d⟩:=st
  exact ⟨o,e,fun v z=>by rw [d] at z;cases z⟩
 keep:=fun i h h' st k=>st.at fun o e=>k it (by simp) o e
 item:=by
  walk_at "pa"
  subst hP hw hK
  obtain ⟨xs,x,hq,hx⟩:=hg
  obtain ⟨its,rv,p,hz⟩:=I.tuple hq
  obtain ⟨u,hu,ru⟩:=rv.get hx
  walk_at "pg"
  refine wpAny_pyNext_tuple_item st (show s.heap.IsTuple a its.toArray from p) (x:=u) (by simpa using hu) fun h' st' sb=>?_
  have I1:Inv X pins σ H { s with heap:=h' }:=I.turned (t':=s.toks) (fun b o hb e=>(sb.2 b hb).trans e) f0 f1 f3 f4 f5
  obtain ⟨o,e,c,d⟩:=id st'
  exact ⟨u,rfl,ZvD (s:={ s with heap:=h' }) e c d (by decide) ⟨x,H,I1,ru,⟨rfl,fun ys hy=>by rw [I.tuple_inj hy hq];exact hx⟩,st',fun b hb=>(hf b hb).1⟩⟩
 done:=by
  walk_at "pa"
  subst hP hw hK
  obtain ⟨xs,hq,hx⟩:=hg
  obtain ⟨its,rv,p,hz⟩:=I.tuple hq
  walk_at "pg"
  have hl:=rv.length
  exact wpAny_pyNext_tuple_end (I.ok.hd hc) st (show s.heap.IsTuple a its.toArray from p) (by simp;omega) fun h' eb=>⟨rfl,I.turned (t':=s.toks) (fun b o hb e=>eb b o hb e) f0 f1 f3 f4 f5⟩
 self:=fun _ _ _ _ _ st h=>wpAny_pyIter_tupleiter st h
theorem ZoX {P:Program} {w:World} {K:PySem.W.Frag} {tg:Expr} (it:Addr) (lo:Int) (n:Nat):Zrn P w K tg (Itr lo n) [it] it (fun i h=>IsRangeIter h it (lo+(i:Nat)*1) ((n:Int) - (i:Nat)) 1) where
 mem:=by simp
 obj:=fun i h st b hb=>by
  have e:b=it:=by simpa using hb
  subst e
  exact ⟨_,st,fun v z=>by
   have z':Data.fields _=Data.cell v:=z
   cases z'⟩
 keep:=fun i h h' st k=>k it (by simp) _ st
 item:=by
  walk_at "pa"
  subst hP hw hK
  walk_at "pg"
  have W:=Walks.range (prog:=X.prog) (w:=X.w) (I.ok.hd hc) it lo 1 n
  refine W.item i s _ _ hg st fun v h' tk hv st' kk=>?_
  obtain ⟨t,rfl⟩:=hv
  walk_at "ph"
  refine ⟨_,rfl,ZvD (s:={ s with heap:=h',toks:=tk }) (n:="range_iterator") st' rfl rfl (by decide) ⟨.int (lo+i),H,I1,⟨t,?_⟩,⟨rfl,rfl⟩,st',fun b hb=>(hf b hb).1⟩⟩
  rw [Int.mul_one]
 done:=by
  walk_at "pa"
  subst hP hw hK
  walk_at "pg"
  exact wpAny_pyNext_range_end (I.ok.hd hc) st (by have:n≤i:=hg;omega) fun h' eb=>⟨rfl,I.turned (t':=s.toks) (fun b o hb e=>eb b o hb e) f0 f1 f3 f4 f5⟩
 self:=fun _ _ _ _ _ st h=>wpAny_pyIter_rangeiter st h
section
variable {X:Cx} {tg:Expr}
theorem ZrP {pins:List (Addr×Obj)} {σ:St} {H:Hp} {s:Shared} {R:It→Hp→Prop} {E:Value→Shared→Prop} {lo hi:Int} {t u v:Tok} {tk:Nat} (I:Inv X pins σ H s) (h1:-(2 ^ 62)≤lo) (h2:lo < 2 ^ 62) (h3:-(2 ^ 62)≤hi) (h4:hi < 2 ^ 62)
  (q:R (Itr lo (hi - lo).toNat) H):wpAny (model X.prog X.w) X.A (pyIter (.ref s.heap.objs.size)) (PIE X pins σ tg R) E { s with heap:=s.heap.push { cls:=.type "range",data:=.fields #[.int lo t,.int hi u,.int 1 v] },toks:=tk }:=by
 refine wpAny_pyIter_range (IsRange.new ..) (small_one h1 h2 h3 h4) ?_
 have I1:Inv X pins σ H { s with heap:=s.heap.push { cls:=.type "range",data:=.fields #[.int lo t,.int hi u,.int 1 v] },toks:=tk }:=I.kept fun b o e=>Heap.get?_push_of_some _ e
 refine ⟨(s.heap.push { cls:=.type "range",data:=.fields #[.int lo t,.int hi u,.int 1 v] }).objs.size,[(s.heap.push { cls:=.type "range",data:=.fields #[.int lo t,.int hi u,.int 1 v] }).objs.size],_,_,H,rfl,
  I1.kept (t':=tk) fun b o e=>Heap.get?_push_of_some _ e,ZoX _ lo (hi - lo).toNat,?_,fun b hb=>?_,q⟩
 ·have e1:lo+((0:Nat):Int)*1=lo:=by simp
  have e2:(((hi - lo).toNat:Nat):Int) - ((0:Nat):Int)=Builtin.Range.rangeSize lo hi 1:=by rw [rangeSize_one];split <;> omega
  show IsRangeIter _ _ (lo+((0:Nat):Int)*1) ((((hi - lo).toNat:Nat):Int) - ((0:Nat):Int)) 1
  rw [e1,e2]
  exact Heap.get?_push_size _ rfl
 ·have e:b=(s.heap.push { cls:=.type "range",data:=.fields #[.int lo t,.int hi u,.int 1 v] }).objs.size:=by simpa using hb
  subst e
  exact I1.fpOk (Nat.le_refl _) (I1.hok.fresh (Nat.le_refl _))
def Zzh (ta:TA):TI:=fun σ H R=>ta σ H fun vs H1=>∃ j:Int,vs=[.int j]∧-(2 ^ 62)≤j∧j < 2 ^ 62∧R (Itr 0 j.toNat) H1
theorem ZqY {a:Expr} {ta:TA} {p pos:Pos} (hg:Gl X "range") (hm:X.mg "range"=none) (ha:PA X [a] ta) (hs:starEach [a] X.env=[(false,eval a X.env)]:=by rfl):PI X tg (.Call (.Name "range" p) [a] [] pos) (Zzh ta):=by
 intro pins s σ H R I h
 refine Call_ (ZeM I hg hm boot_range (PyProof.Rows.callWith_type1 (thn (ha pos pins s σ H _ I h) fun us s1 zz31=>?_) hs rfl))
 obtain ⟨vs,H1,I1,r1,q1⟩:=zz31
 obtain ⟨j,e,q1,q2,q⟩:=q1
 subst e
 cases r1 with
 | cons r rr =>
  cases rr
  obtain ⟨t,rfl⟩:=r
  exact call_range_1 (ZrP I1 (by omega) (by omega) q1 q2 (by simpa using q))
def ZAG (wi:TI) (g:TG) (tb:TS):TS:=fun D σ H=>wi σ H fun J H1=>∃ W:Nat→Nat→St→Hp→Prop,(∃ m,W 0 m σ H1)∧∀ i m σ H,W i m σ H →
 (J.stop i H∧D.nx σ H)∨(J.go i H∧∃ N:St→Hp→Prop,(∀ σ' H',N σ' H'→∃ m',m' < m∧W (i+1) m' σ' H')∧∀ x H',J.yld i H x H'→g x σ H' fun σ2 H2=>tb { D with nx:=N,ct:=N,bk:=D.nx } σ2 H2)
def ZjS (fp:List Addr) (h:Heap):List (Addr×Obj):=fp.filterMap fun b=>(h.get? b).map fun o=>(b,o)
theorem Zet {fp:List Addr} {h:Heap} {b:Addr} {o:Obj} (hb:b∈fp) (e:h.get? b=some o):(b,o)∈ZjS fp h:=List.mem_filterMap.mpr ⟨b,hb,by rw [e];rfl⟩
theorem Zqq {fp:List Addr} {h:Heap} {p:Addr×Obj} (hp:p∈ZjS fp h):p.1∈fp∧h.get? p.1=some p.2:=by
 obtain ⟨b,hb,e⟩:=List.mem_filterMap.mp hp
 cases q:h.get? b with
 | none=>rw [q] at e;cases e
 | some o =>
  rw [q] at e
  have e':(b,o)=p:=Option.some.inj e
  subst e'
  exact ⟨hb,q⟩
theorem Inv.pinned {pins:List (Addr×Obj)} {σ:St} {H:Hp} {s:Shared} {fp:List Addr} (I:Inv X pins σ H s) (hf:∀ b∈fp,Zpy X pins H b) (ho:∀ b∈fp,∃ o,s.heap.get? b=some o∧∀ v,o.data≠.cell v):Inv X (pins++ZjS fp s.heap) σ H s :=
 I.pins_of fun p hp=>(List.mem_append.mp hp).elim (fun z=>I.pin p (List.mem_append_right _ z)) fun z=>by
  obtain ⟨hb,e⟩:=Zqq z
  obtain ⟨f0,f1,f2,_⟩:=hf p.1 hb
  obtain ⟨o,e',d⟩:=ho p.1 hb
  rw [e] at e';cases e'
  exact ⟨e,f0,f1,f2,d⟩
theorem Inv.unpinned {pins pl:List (Addr×Obj)} {σ:St} {H:Hp} {s:Shared} (I:Inv X (pins++pl) σ H s):Inv X pins σ H s:=I.pins_of fun p hp=>I.pin p (List.mem_append_right _ (List.mem_append_left _ hp))
theorem ZyE {iter:Expr} {body:List Stmt} {wi:TI} {g:TG} {tb:TS} {pos:Pos} (hp:PassesOwn (model X.prog X.w) X.A X.env X.xe) (hc:X.calm=true) (hi:PI X tg iter wi) (hg:PG X tg g) (hb:PSs X body tb)
  (hs:∀ x,foldedSetIterable iter X.env x=pure x:=by intro _;rfl):PS X (.For tg iter body [] pos) (ZAG wi g tb):=by
 intro pins s σ H D I h
 refine wpAny_For (thn (hi pins s σ H _ I h) fun v s1 h1=>thn h1 fun itv s2 h2=>?_) hs
 obtain ⟨it,fp,tn,J,H2,e,I2,T,st2,f2,W,⟨m0,w0⟩,turn⟩:=h2
 subst e
 have stat:∀ {H':Hp},(∀ b∈fp,H' b=none)→∀ b∈fp,Zpy X pins H' b:=fun hn b hb=>⟨hn b hb,(f2 b hb).2⟩
 refine codeAny_forLoop_any (fun n s'=>∃ i σ' H',Inv X pins σ' H' s'∧tn i s'.heap∧(∀ b∈fp,H' b=none)∧W i n σ' H') ?_ m0 ⟨0,σ,H2,I2,st2,fun b hb=>(f2 b hb).1,w0⟩
 rintro n s3 ⟨i,σ3,H3,I3,st3,fr3,w3⟩
 rcases turn i n σ3 H3 w3 with ⟨stop,qn⟩ | ⟨go,N,hN,step⟩
 ·refine wpAny_passesOwn hp (thn (T.done X rfl rfl rfl hc i pins s3 σ3 H3 X.xe I3 (stat fr3) st3 stop) fun r s4 zz33=>?_)
  obtain ⟨hr,I4⟩:=zz33
  subst hr
  exact wpAny_execs_nil ⟨σ3,H3,I4,qn⟩
 ·refine wpAny_passesOwn hp (thn (T.item X rfl rfl rfl hc i pins s3 σ3 H3 X.xe I3 (stat fr3) st3 go) fun r s4 zz34=>?_)
  obtain ⟨u,hr,h4⟩:=zz34
  subst hr
  refine wpAny_passesOwn hp (thn h4 fun _ s5 zz35=>?_)
  obtain ⟨x,H5,I5,r5,y5,st5,fr5⟩:=zz35
  have I5':=I5.pinned (stat fr5) (T.obj _ _ st5)
  refine wpAny_passesOwn hp (thn (hg _ s5 σ3 H5 x u _ I5' r5 (step x H5 y5)) fun _ s6 zz36=>?_)
  obtain ⟨σ6,H6,I6,q6⟩:=zz36
  refine wpAny_passesOwn hp (thn (hb _ s6 σ6 H6 _ I6 q6) fun f s7 q7=>?_)
  have again:∀ {σ7:St} {H7:Hp},Inv X (pins++ZjS fp s5.heap) σ7 H7 s7→N σ7 H7→∃ m,m < n∧∃ i σ' H',Inv X pins σ' H' s7∧tn i s7.heap∧(∀ b∈fp,H' b=none)∧W i m σ' H':=fun {σ7 H7} I7 n7=>by
   obtain ⟨m',hm,w7⟩:=hN σ7 H7 n7
   refine ⟨m',hm,i+1,σ7,H7,I7.unpinned,T.keep _ _ _ st5 fun b hb o e=>(I7.pin (b,o) (List.mem_append_right _ (List.mem_append_right _ (Zet hb e)))).1,fun b hb=>?_,w7⟩
   obtain ⟨o,e,d⟩:=T.obj _ _ st5 b hb
   exact (I7.pin (b,o) (List.mem_append_right _ (List.mem_append_right _ (Zet hb e)))).2.1
  cases f with
  | next=>obtain ⟨σ7,H7,I7,n7⟩:=q7;exact again I7 n7
  | cont=>obtain ⟨σ7,H7,I7,n7⟩:=q7;exact again I7 n7
  | brk=>obtain ⟨σ7,H7,I7,q7⟩:=q7;exact ⟨σ7,H7,I7.unpinned,q7⟩
  | ret v=>obtain ⟨x7,σ7,H7,I7,r7,q7⟩:=q7;exact ⟨x7,σ7,H7,I7.unpinned,r7,q7⟩
end
abbrev R2:=V→V→Hp→VK→Prop
def OpR (X:Cx) (f:Value→Value→Sem Value) (r:R2):Prop :=
 ∀ (pins:List (Addr×Obj)) (s:Shared) (σ:St) (H:Hp) (x y:V) (v u:Value) (Q:VK),Inv X pins σ H s→RelV x v→RelV y u→r x y H Q →
  wpAny (model X.prog X.w) X.A (f v u) (EP X pins σ Q) X.xe s
def CallR (X:Cx) (f:Value) (r:List V→Hp→VK→Prop):Prop :=
 ∀ (pins:List (Addr×Obj)) (s:Shared) (σ:St) (H:Hp) (xs:List V) (us:List Value) (Q:VK),Inv X pins σ H s→Vals xs us→r xs H Q →
  wpAny (model X.prog X.w) X.A (call f us) (EP X pins σ Q) X.xe s
def ZA2 (X:Cx) (r:V→Hp→(Bool→Hp→Prop)→Prop):Prop :=
 ∀ (pins:List (Addr×Obj)) (s:Shared) (σ:St) (H:Hp) (x:V) (v:Value) (Q:Bool→Hp→Prop),Inv X pins σ H s→RelV x v→r x H Q →
  wpAny (model X.prog X.w) X.A (truthy v) (TP X pins σ Q) X.xe s
def tOp (r:R2) (ta tb:TE):TE:=fun σ H Q=>ta σ H fun x H1=>tb σ H1 fun y H2=>r x y H2 Q
def rI (C:Int→Int→Prop) (g:Int→Int→V):R2:=fun x y H Q=>∃ i j,x=.int i∧y=.int j∧C i j∧Q (g i j) H
def rI0 (g:Int→Int→V):R2:=fun x y H Q=>∃ i j,x=.int i∧y=.int j∧Q (g i j) H
section
variable {X:Cx} {a b c:Expr} {ta tb tc:TE} {pos:Pos}
theorem ZyO (ha:PE X a ta) (hb:PE X b tb) {pins:List (Addr×Obj)} {s:Shared} {σ:St} {H:Hp} {R:V→V→Hp→Prop} (I:Inv X pins σ H s)
  (h:ta σ H fun x H1=>tb σ H1 fun y H2=>R x y H2) {Q:Value→Shared→Prop} {f:Value→Value→Sem Value}
  (hf:∀ v u s2 x y H2,Inv X pins σ H2 s2→RelV x v→RelV y u→R x y H2→wpAny (model X.prog X.w) X.A (f v u) Q X.xe s2) :
  wpAny (model X.prog X.w) X.A (eval a X.env) (fun v s₁=>wpAny (model X.prog X.w) X.A (eval b X.env) (fun u s₂=>wpAny (model X.prog X.w) X.A (f v u) Q X.xe s₂) X.xe s₁) X.xe s:=by
 refine thn (ha pins s σ H _ I h) fun v s1 zz37=>?_
 obtain ⟨x,H1,I1,r1,q1⟩:=zz37
 refine thn (hb pins s1 σ H1 _ I1 q1) fun u s2 zz38=>?_
 obtain ⟨y,H2,I2,r2,q2⟩:=zz38
 exact hf v u s2 x y H2 I2 r1 r2 q2
theorem Zzn {op:Operator} {r:R2} (ho:OpR X (binaryOp op) r) (ha:PE X a ta) (hb:PE X b tb):PE X (.BinOp a op b pos) (tOp r ta tb):=by
 intro pins s σ H Q I h
 exact wpAny_BinOp (ZyO ha hb I h fun v u s2 x y H2 I2 rx ry q=>ho pins s2 σ H2 x y v u Q I2 rx ry q)
theorem opI {f:Value→Value→Sem Value} {C:Int→Int→Prop} {g:Int→Int→Int}
  (rule:∀ (i j:Int) (t u:Tok) (s:Shared) (Q:Value→Shared→Prop) (E:Value→Shared→Prop),C i j→Q (.int (g i j) s.toks) { s with toks:=s.toks+1 }→wpAny (model X.prog X.w) X.A (f (.int i t) (.int j u)) Q E s) :
  OpR X f (rI C fun i j=>.int (g i j)):=by
 walk_at "pc"
 obtain ⟨i,j,rfl,rfl,hc,q⟩:=h
 obtain ⟨t,rfl⟩:=rx
 obtain ⟨t',rfl⟩:=ry
 exact rule i j t t' s _ _ hc ⟨.int (g i j),H,I.tok _,⟨_,rfl⟩,q⟩
theorem ZAg {f:Value→Value→Sem Value} {g:Int→Int→Int}
  (rule:∀ (i j:Int) (t u:Tok) (s:Shared) (Q:Value→Shared→Prop) (E:Value→Shared→Prop),Q (.int (g i j) s.toks) { s with toks:=s.toks+1 }→wpAny (model X.prog X.w) X.A (f (.int i t) (.int j u)) Q E s) :
  OpR X f (rI0 fun i j=>.int (g i j)):=by
 walk_at "pc"
 obtain ⟨i,j,rfl,rfl,q⟩:=h
 obtain ⟨t,rfl⟩:=rx
 obtain ⟨t',rfl⟩:=ry
 exact rule i j t t' s _ _ ⟨.int (g i j),H,I.tok _,⟨_,rfl⟩,q⟩
theorem ZyI {f:Value→Value→Sem Value} {g:Int→Int→Bool}
  (rule:∀ (i j:Int) (t u:Tok) (s:Shared) (Q:Value→Shared→Prop) (E:Value→Shared→Prop),Q (.bool (g i j)) s→wpAny (model X.prog X.w) X.A (f (.int i t) (.int j u)) Q E s) :
  OpR X f (rI0 fun i j=>.bl (g i j)):=by
 walk_at "pc"
 obtain ⟨i,j,rfl,rfl,q⟩:=h
 obtain ⟨t,rfl⟩:=rx
 obtain ⟨t',rfl⟩:=ry
 exact rule i j t t' s _ _ ⟨.bl (g i j),H,I,rfl,q⟩
def ZyS (i j:Int):Prop:=0 < j∧j < 1073741824
def Zxb (i j:Int):Prop:=0≤j∧j≤1000000∧i.natAbs < 2 ^ 64
def CMul (i j:Int):Prop:=(-(2 ^ 64) < i∧i < 2 ^ 64)∨(-(2 ^ 64) < j∧j < 2 ^ 64)
theorem CMul.ok {i j:Int} (h:CMul i j):IntMulOk i j:=by
 rcases h with ⟨h1,h2⟩ | ⟨h1,h2⟩
 ·exact .of_left (intBits_le_64 h1 h2)
 ·exact .of_right (intBits_le_64 h1 h2)
theorem ZxE:OpR X (binaryOp .Add) (rI0 fun i j=>.int (i+j)):=ZAg fun _ _ _ _ _ _ _ q=>add_int q
theorem Zyj:OpR X (binaryOp .Mult) (rI CMul fun i j=>.int (i*j)):=opI fun _ _ _ _ _ _ _ hc q=>mul_int q hc.ok
theorem ZuN:OpR X (binaryOp .FloorDiv) (rI ZyS fun i j=>.int (i / j)):=opI fun i j _ _ _ _ _ hc q=>by
 have h1:(0:Int) < j:=hc.1
 have h2:j < 1073741824:=hc.2
 exact floordiv_int (by omega) (by rw [Int.fdiv_eq_ediv_of_nonneg i (by omega)];exact q) (.inl (PyProof.noPylong_small (by omega)))
theorem Zw8:OpR X (binaryOp .Mod) (rI (fun _ j=>0 < j) fun i j=>.int (i % j)):=opI fun i j _ _ _ _ _ hc q=>by
 have h1:(0:Int) < j:=hc
 exact mod_int' (by omega) (by rw [Int.fmod_eq_emod_of_nonneg i (by omega)];exact q)
theorem Zxv:OpR X (binaryOp .Pow) (rI Zxb fun i j=>.int (i ^ j.toNat)):=opI fun _ _ _ _ _ _ _ hc q=>pow_int_small hc.1 hc.2.1 hc.2.2 q
theorem ZvG:OpR X (inplaceOp .Add) (rI0 fun i j=>.int (i+j)):=ZAg fun _ _ _ _ _ _ _ q=>iadd_int q
end
def Zt2:V→V→Bool
 | .non,.non=>true | .non,.int _=>true | .int _,.non=>true | .non,.bl _=>true | .bl _,.non=>true | .non,.str _=>true | .str _,.non=>true
 | .int _,.int _=>true | .bl _,.bl _=>true | .str _,.str _=>true | .byt _,.byt _=>true
 | .int _,.str _=>true | .str _,.int _=>true | .bl _,.str _=>true | .str _,.bl _=>true
 | _,_=>false
def rEq:R2:=fun x y H Q=>Zt2 x y=true∧Q (.bl (decide (x=y))) H
def rNe:R2:=fun x y H Q=>Zt2 x y=true∧Q (.bl (!decide (x=y))) H
theorem Zm3 {i j:Int}:decide (V.int i=V.int j)=(i==j):=by
 rw [Bool.eq_iff_iff]
 simp
theorem Zpu {i j:Bool}:decide (V.bl i=V.bl j)=(i==j):=by
 rw [Bool.eq_iff_iff]
 simp
theorem ZmU {i j:Str}:decide (V.str i=V.str j)=(i==j):=by
 rw [Bool.eq_iff_iff]
 simp
theorem Zqz {i j:Array UInt8}:decide (V.byt i=V.byt j)=(i.toList==j.toList):=by
 rw [Bool.eq_iff_iff]
 cases i
 cases j
 simp
section
variable {X:Cx} {a b c:Expr} {ta tb tc:TE} {pos:Pos}
theorem Za1 {pins:List (Addr×Obj)} {σ:St} {H:Hp} {s:Shared} {Q:VK} {k k':Bool} (I:Inv X pins σ H s) (q:Q (.bl k) H) (e:k=k'):EP X pins σ Q (.bool k') s:=by
 subst e
 exact ⟨.bl k,H,I,rfl,q⟩
theorem Zz0:OpR X (compareOp .Eq) rEq:=by
 walk_at "pc"
 obtain ⟨hs,q⟩:=h
 cases x with
 | non =>
  cases rx
  cases y with
  | non=>cases ry;exact PySem.EqNone.eq_none_none (Za1 I q (by simp))
  | bl j=>cases ry;exact PySem.EqNone.eq_none_bool (Za1 I q (by simp))
  | int j=>obtain ⟨t',rfl⟩:=ry;exact PySem.EqNone.eq_none_int (Za1 I q (by simp))
  | str j=>obtain ⟨t',rfl⟩:=ry;exact PySem.EqNone.eq_none_str (Za1 I q (by simp))
  | _=>exact absurd (show false=true from hs) Bool.false_ne_true
 | bl i =>
  cases rx
  cases y with
  | non=>cases ry;exact PySem.EqNone.eq_bool_none (Za1 I q (by simp))
  | bl j=>cases ry;exact eq_bool (Za1 I q Zpu)
  | str j=>obtain ⟨t',rfl⟩:=ry;exact PySem.EqMixed.eq_bool_str (Za1 I q (by simp))
  | _=>exact absurd (show false=true from hs) Bool.false_ne_true
 | int i =>
  obtain ⟨t,rfl⟩:=rx
  cases y with
  | non=>cases ry;exact PySem.EqNone.eq_int_none (Za1 I q (by simp))
  | int j=>obtain ⟨t',rfl⟩:=ry;exact eq_int (Za1 I q Zm3)
  | str j=>obtain ⟨t',rfl⟩:=ry;exact PySem.EqMixed.eq_int_str (Za1 I q (by simp))
  | _=>exact absurd (show false=true from hs) Bool.false_ne_true
 | str i =>
  obtain ⟨t,rfl⟩:=rx
  cases y with
  | non=>cases ry;exact PySem.EqNone.eq_str_none (Za1 I q (by simp))
  | bl j=>cases ry;exact PySem.EqMixed.eq_str_bool (Za1 I q (by simp))
  | int j=>obtain ⟨t',rfl⟩:=ry;exact PySem.EqMixed.eq_str_int (Za1 I q (by simp))
  | str j=>obtain ⟨t',rfl⟩:=ry;exact eq_str (Za1 I q ZmU)
  | _=>exact absurd (show false=true from hs) Bool.false_ne_true
 | byt i =>
  obtain ⟨t,rfl⟩:=rx
  cases y with
  | byt j=>obtain ⟨t',rfl⟩:=ry;exact PySem.W.eq_bytes (Za1 I q Zqz)
  | _=>exact absurd (show false=true from hs) Bool.false_ne_true
 | _=>cases y <;> exact absurd (show false=true from hs) Bool.false_ne_true
theorem ZzI:OpR X (compareOp .NotEq) rNe:=by
 walk_at "pc"
 obtain ⟨hs,q⟩:=h
 cases x with
 | non =>
  cases rx
  cases y with
  | non=>cases ry;exact PySem.EqNone.ne_none_none (Za1 I q (by simp))
  | bl j=>cases ry;exact PySem.EqNone.ne_none_bool (Za1 I q (by simp))
  | int j=>obtain ⟨t',rfl⟩:=ry;exact PySem.EqNone.ne_none_int (Za1 I q (by simp))
  | str j=>obtain ⟨t',rfl⟩:=ry;exact PySem.EqNone.ne_none_str (Za1 I q (by simp))
  | _=>exact absurd (show false=true from hs) Bool.false_ne_true
 | bl i =>
  cases rx
  cases y with
  | non=>cases ry;exact PySem.EqNone.ne_bool_none (Za1 I q (by simp))
  | bl j=>cases ry;exact ne_bool (Za1 I q (congrArg not Zpu))
  | str j=>obtain ⟨t',rfl⟩:=ry;exact PySem.EqMixed.ne_bool_str (Za1 I q (by simp))
  | _=>exact absurd (show false=true from hs) Bool.false_ne_true
 | int i =>
  obtain ⟨t,rfl⟩:=rx
  cases y with
  | non=>cases ry;exact PySem.EqNone.ne_int_none (Za1 I q (by simp))
  | int j=>obtain ⟨t',rfl⟩:=ry;exact ne_int (Za1 I q (congrArg not Zm3))
  | str j=>obtain ⟨t',rfl⟩:=ry;exact PySem.EqMixed.ne_int_str (Za1 I q (by simp))
  | _=>exact absurd (show false=true from hs) Bool.false_ne_true
 | str i =>
  obtain ⟨t,rfl⟩:=rx
  cases y with
  | non=>cases ry;exact PySem.EqNone.ne_str_none (Za1 I q (by simp))
  | bl j=>cases ry;exact PySem.EqMixed.ne_str_bool (Za1 I q (by simp))
  | int j=>obtain ⟨t',rfl⟩:=ry;exact PySem.EqMixed.ne_str_int (Za1 I q (by simp))
  | str j=>obtain ⟨t',rfl⟩:=ry;exact ne_str (Za1 I q (congrArg not ZmU))
  | _=>exact absurd (show false=true from hs) Bool.false_ne_true
 | byt i =>
  obtain ⟨t,rfl⟩:=rx
  cases y with
  | byt j=>obtain ⟨t',rfl⟩:=ry;exact PySem.W.ne_bytes (Za1 I q (congrArg not Zqz))
  | _=>exact absurd (show false=true from hs) Bool.false_ne_true
 | _=>cases y <;> exact absurd (show false=true from hs) Bool.false_ne_true
theorem ZzV:OpR X (compareOp .Lt) (rI0 fun i j=>.bl (decide (i < j))):=ZyI fun _ _ _ _ _ _ _ q=>lt_int q
theorem Zzo:OpR X (compareOp .LtE) (rI0 fun i j=>.bl (decide (i≤j))):=ZyI fun _ _ _ _ _ _ _ q=>le_int q
theorem Zzu:OpR X (compareOp .Gt) (rI0 fun i j=>.bl (decide (j < i))):=ZyI fun _ _ _ _ _ _ _ q=>gt_int q
theorem ZzL:OpR X (compareOp .GtE) (rI0 fun i j=>.bl (decide (j≤i))):=ZyI fun _ _ _ _ _ _ _ q=>ge_int q
theorem ZpS:OpR X (compareOp .Lt) (fun x y H Q=>∃ i j,x=.str i∧y=.str j∧Q (.bl (decide (i.cps.toList < j.cps.toList))) H):=by
 walk_at "pc"
 obtain ⟨i,j,rfl,rfl,q⟩:=h
 obtain ⟨t,rfl⟩:=rx
 obtain ⟨t',rfl⟩:=ry
 exact lt_str (Za1 I q rfl)
theorem ZyD:OpR X (compareOp .Is) (fun x y H Q=>y=.non∧Q (.bl (decide (x=.non))) H):=by
 walk_at "pc"
 obtain ⟨rfl,q⟩:=h
 cases ry
 refine is_none_gen (Za1 I q ?_)
 cases x <;> first
  | (cases rx;rfl)
  | (obtain ⟨t,rfl⟩:=rx;rfl)
theorem Zvl:OpR X (compareOp .IsNot) (fun x y H Q=>y=.non∧Q (.bl (!decide (x=.non))) H):=by
 walk_at "pc"
 obtain ⟨rfl,q⟩:=h
 cases ry
 refine isnot_none_gen (Za1 I q ?_)
 cases x <;> first
  | (cases rx;rfl)
  | (obtain ⟨t,rfl⟩:=rx;rfl)
theorem OpR.or {f:Value→Value→Sem Value} {r r':R2} (h:OpR X f r) (h':OpR X f r'):OpR X f (fun x y H Q=>r x y H Q∨r' x y H Q):=by
 intro pins s σ H x y v u Q I rx ry q
 rcases q with q | q
 ·exact h pins s σ H x y v u Q I rx ry q
 ·exact h' pins s σ H x y v u Q I rx ry q
theorem ZAl (b:Expr) {op:CmpOp} (h:op≠.In:=by decide) (h2:op≠.NotIn:=by decide):behindInMarks op b=false:=by
 have e1:(op==CmpOp.In)=false:=by cases op <;> first | rfl | exact absurd rfl h
 have e2:(op==CmpOp.NotIn)=false:=by cases op <;> first | rfl | exact absurd rfl h2
 cases b <;> simp [behindInMarks,e1,e2]
theorem ZuL {op:CmpOp} {r:R2} (ho:OpR X (compareOp op) r) (ha:PE X a ta) (hb:PE X b tb) (hm:behindInMarks op b=false):PE X (.Compare a [op] [b] pos) (tOp r ta tb):=by
 intro pins s σ H Q I h
 exact wpAny_Compare1 (ZyO ha hb I h fun v u s2 x y H2 I2 rx ry q=>ho pins s2 σ H2 x y v u Q I2 rx ry q) hm
def ZwT (t:TE):TT:=fun σ H Q=>t σ H fun x H'=>∃ k,x=.bl k∧Q k H'
theorem Zvh {op:CmpOp} {r:R2} (ho:OpR X (compareOp op) r) (ha:PE X a ta) (hb:PE X b tb) (hm:behindInMarks op b=false):PT X (.Compare a [op] [b] pos) (ZwT (tOp r ta tb)):=by
 intro pins s σ H Q I h
 refine wpAny_isTrue_Compare1 (thn (ha pins s σ H _ I h) fun v s1 ⟨x,H1,I1,r1,q1⟩=>thn (hb pins s1 σ H1 _ I1 q1) fun u s2 ⟨y,H2,I2,r2,q2⟩ =>
  thn (ho pins s2 σ H2 x y v u _ I2 r1 r2 q2) fun c s3 ⟨z,H3,I3,r3,k,e,q3⟩=>?_) hm
 subst e
 cases r3
 exact wpAny_truthy_bool ⟨H3,I3,q3⟩
def Zpb (r r':R2) (ta tb tc:TE):TE:=fun σ H Q=>ta σ H fun x H1=>tb σ H1 fun y H2=>r x y H2 fun z H3=>∃ k,z=.bl k ∧
 (if k=true then tc σ H3 fun w' H4=>r' y w' H4 Q else Q (.bl false) H3)
theorem Zso {op op':CmpOp} {r r':R2} (ho:OpR X (compareOp op) r) (ho':OpR X (compareOp op') r') (ha:PE X a ta) (hb:PE X b tb) (hc:PE X c tc)
  (hm:lastMarks [op,op'] [b,c]=false:=by with_unfolding_all rfl):PE X (.Compare a [op,op'] [b,c] pos) (Zpb r r' ta tb tc):=by
 intro pins s σ H Q I h
 refine Compare_chain (thn (ha pins s σ H _ I h) fun v s1 ⟨x,H1,I1,r1,q1⟩=>chain_link (thn (hb pins s1 σ H1 _ I1 q1) fun u s2 ⟨y,H2,I2,r2,q2⟩ =>
  thn (ho pins s2 σ H2 x y v u _ I2 r1 r2 q2) fun d s3 ⟨z,H3,I3,r3,k,e,q3⟩=>?_)) hm
 subst e
 cases r3
 refine wpAny_truthy_bool ?_
 cases k with
 | false=>exact ite_ff ⟨.bl false,H3,I3,rfl,q3⟩
 | true=>exact ite_tt (chain_last (thn (hc pins s3 σ H3 _ I3 q3) (by rintro w' s4 ⟨z',H4,I4,r4,q4⟩;exact ho' pins s4 σ H4 y z' u w' Q I4 r2 r4 q4)))
theorem ZsB {op op':CmpOp} {r r':R2} (ho:OpR X (compareOp op) r) (ho':OpR X (compareOp op') r') (ha:PE X a ta) (hb:PE X b tb) (hc:PE X c tc)
  (hm:lastMarks [op,op'] [b,c]=false:=by with_unfolding_all rfl):PT X (.Compare a [op,op'] [b,c] pos) (ZwT (Zpb r r' ta tb tc)):=by
 intro pins s σ H Q I h
 refine isTrue_chain (thn (ha pins s σ H _ I h) fun v s1 ⟨x,H1,I1,r1,q1⟩=>test_link (thn (hb pins s1 σ H1 _ I1 q1) fun u s2 ⟨y,H2,I2,r2,q2⟩ =>
  thn (ho pins s2 σ H2 x y v u _ I2 r1 r2 q2) fun d s3 ⟨z,H3,I3,r3,k,e,q3⟩=>?_)) hm
 subst e
 cases r3
 refine wpAny_truthy_bool ?_
 cases k with
 | false =>
  obtain ⟨k',e',q'⟩:=q3
  cases e'
  exact ite_ff ⟨H3,I3,q'⟩
 | true =>
  refine ite_tt (test_last (thn (hc pins s3 σ H3 _ I3 q3) fun w' s4 ⟨z',H4,I4,r4,q4⟩=>thn (ho' pins s4 σ H4 y z' u w' _ I4 r2 r4 q4) fun d' s5 ⟨z2,H5,I5,r5,k2,e2,q5⟩=>?_))
  subst e2
  cases r5
  exact wpAny_truthy_bool ⟨H5,I5,q5⟩
def Zzp (K:PySem.W.Frag) (x:V) (H:Hp) (k:Bool):Prop :=
 match x with
 | .non=>k=false
 | .bl b=>k=b
 | .int i=>k=(i != 0)
 | .str y=>y.length≤sizeLine∧k=((y.length:Int) != 0)
 | .byt y=>y.size≤sizeLine∧k=((y.size:Int) != 0)
 | .ref p=>(∃ xs,SqL K H p xs∧k=!xs.isEmpty)∨(∃ xs,SqT K H p xs∧k=!xs.isEmpty)∨∃ kvs,H p=some (.dK kvs)∧k=!kvs.isEmpty
 | _=>False
theorem ZoT {κ:Type} {kvs:List (κ×V)} {vs:List (κ×Value)} (r:KV kvs vs):(!vs.isEmpty)=!kvs.isEmpty:=by
 cases r <;> rfl
theorem Zkd {xs:List V} {its:List Value} (r:Vals xs its):(!its.toArray.isEmpty)=!xs.isEmpty:=by
 cases r <;> simp
theorem ZjU:(sizeLine:Nat) < 2 ^ 63:=by rw [sizeLine_eq];decide
theorem Zym:ZA2 X (fun x H Q=>∃ k,Zzp X.K x H k∧Q k H):=by
 intro pins s σ H x v Q I rx h
 obtain ⟨k,e,q⟩:=h
 have hl:=ZjU
 have hs:sizeLine=16777216:=sizeLine_eq
 cases x with
 | non =>
  cases rx
  have e':k=false:=e
  subst e'
  exact truthy_none ⟨H,I,q⟩
 | bl b =>
  cases rx
  have e':k=b:=e
  subst e'
  exact wpAny_truthy_bool ⟨H,I,q⟩
 | int i =>
  obtain ⟨t,rfl⟩:=rx
  have e':k=(i != 0):=e
  subst e'
  exact PySem.P.truthy_int ⟨H,I,q⟩
 | str y =>
  obtain ⟨t,rfl⟩:=rx
  obtain ⟨hy,e'⟩:y.length≤sizeLine∧k=((y.length:Int) != 0):=e
  subst e'
  exact PySem.P.truthy_str (by omega) ⟨H,I.tok _,q⟩
 | byt y =>
  obtain ⟨t,rfl⟩:=rx
  obtain ⟨hy,e'⟩:y.size≤sizeLine∧k=((y.size:Int) != 0):=e
  subst e'
  exact PySem.W.truthy_bytes (by omega) ⟨H,I.tok _,q⟩
 | ref p =>
  cases rx
  have e':(∃ xs,SqL X.K H p xs∧k=!xs.isEmpty)∨(∃ xs,SqT X.K H p xs∧k=!xs.isEmpty)∨∃ kvs,H p=some (.dK kvs)∧k=!kvs.isEmpty:=e
  rcases e' with ⟨xs,hx,e'⟩ | ⟨xs,hx,e'⟩ | ⟨kvs,hx,e'⟩
  ·subst e'
   obtain ⟨its,r,pl,hz⟩:=I.list hx
   have hlen:=r.length
   exact wpAny_truthy_list pl.isList (by simp only [List.size_toArray];omega) ⟨H,I.tok _,by rw [Zkd r];exact q⟩
  ·subst e'
   obtain ⟨its,r,pl,hz⟩:=I.tuple hx
   have hlen:=r.length
   exact truthy_tuple pl (by simp only [List.size_toArray];omega) ⟨H,I.tok _,by rw [Zkd r];exact q⟩
  ·subst e'
   obtain ⟨hz,hS,vs,r,m⟩:kvs.length≤sizeLine∧(p==sysModules)=false∧∃ vs,KV kvs vs∧s.heap.DictOf (Zm2 X.prog X.w) p vs:=I.hok p _ hx
   have hlen:kvs.length=vs.length:=Paired.length r
   exact wpAny_truthy_dict hS m (by omega) ⟨H,I.tok _,by rw [ZoT r];exact q⟩
 | _=>exact (show False from e).elim
theorem Zst (ha:PE X a ta) (he:∀ whole,isTrue a X.env whole=(do let v ← whole;standAt a.pos;holding [v] (truthy v))) :
  PT X a (fun σ H Q=>ta σ H fun x H'=>∃ k,Zzp X.K x H' k∧Q k H'):=by
 intro pins s σ H Q I h
 exact isTrue_plain (thn (ha pins s σ H _ I h) (by rintro v s1 ⟨x,H1,I1,r1,q1⟩;exact Zym pins s1 σ H1 x v Q I1 r1 q1)) (he _)
theorem ZoB:OpR X (binaryOp .Add) (fun x y H Q=>∃ i j,x=.str i∧y=.str j∧i.length+j.length≤sizeLine∧Q (.str (i++j)) H):=by
 walk_at "pc"
 obtain ⟨i,j,rfl,rfl,hz,q⟩:=h
 obtain ⟨t,rfl⟩:=rx
 obtain ⟨t',rfl⟩:=ry
 exact add_str (fun t' tk=>⟨.str (i++j),H,I.tok _,⟨_,rfl⟩,q⟩) hz
theorem Zmu:OpR X (inplaceOp .Add) (fun x y H Q=>∃ i j,x=.str i∧y=.str j∧i.length+j.length≤sizeLine∧Q (.str (i++j)) H):=by
 walk_at "pc"
 obtain ⟨i,j,rfl,rfl,hz,q⟩:=h
 obtain ⟨t,rfl⟩:=rx
 obtain ⟨t',rfl⟩:=ry
 exact iadd_str (fun t' tk=>⟨.str (i++j),H,I.tok _,⟨_,rfl⟩,q⟩) hz
theorem ZmQ {x:V} {us:List Value} (r:Vals [x] us):∃ u,us=[u]∧RelV x u:=by
 cases r with
 | cons r1 r2=>cases r2;exact ⟨_,rfl,r1⟩
theorem ZsJ {x y:V} {us:List Value} (r:Vals [x,y] us):∃ u w',us=[u,w']∧RelV x u∧RelV y w':=by
 cases r with
 | cons r1 r2 =>
  cases r2 with
  | cons r3 r4=>cases r4;exact ⟨_,_,rfl,r1,r3⟩
theorem Zpf:CallR X (.type "int") (fun xs H Q=>(∃ i,xs=[.int i]∧Q (.int i) H)∨∃ k,xs=[.bl k]∧Q (.int (if k then 1 else 0)) H):=by
 intro pins s σ H xs us Q I r h
 rcases h with ⟨i,rfl,q⟩ | ⟨k,rfl,q⟩
 ·obtain ⟨u,rfl,t,rfl⟩:=ZmQ r
  exact call_int_int ⟨.int i,H,I,⟨_,rfl⟩,q⟩
 ·obtain ⟨u,rfl,r1⟩:=ZmQ r
  cases r1
  exact call_int_bool ⟨.int (if k then 1 else 0),H,I.tok _,⟨_,rfl⟩,q⟩
def ZAj (K:PySem.W.Frag) (x:V) (H:Hp) (n:Nat):Prop :=
 match x with
 | .str y=>y.length≤sizeLine∧n=y.length
 | .byt y=>y.size≤sizeLine∧n=y.size
 | .ref p=>(∃ xs,SqL K H p xs∧n=xs.length)∨∃ xs,SqT K H p xs∧n=xs.length
 | _=>False
theorem ZrQ:CallR X (.builtin "len") (fun xs H Q=>∃ x n,xs=[x]∧ZAj X.K x H n∧Q (.int n) H):=by
 intro pins s σ H xs us Q I r h
 obtain ⟨x,n,rfl,e,q⟩:=h
 obtain ⟨u,rfl,rx⟩:=ZmQ r
 have hl:=ZjU
 have hs:sizeLine=16777216:=sizeLine_eq
 cases x with
 | str y =>
  obtain ⟨t,rfl⟩:=rx
  obtain ⟨hy,e'⟩:y.length≤sizeLine∧n=y.length:=e
  subst e'
  exact len_str (by omega) ⟨.int _,H,I.tok _,⟨_,rfl⟩,q⟩
 | byt y =>
  obtain ⟨t,rfl⟩:=rx
  obtain ⟨hy,e'⟩:y.size≤sizeLine∧n=y.size:=e
  subst e'
  exact PySem.W.len_bytes (by omega) ⟨.int _,H,I.tok _,⟨_,rfl⟩,q⟩
 | ref p =>
  cases rx
  have e':(∃ xs,SqL X.K H p xs∧n=xs.length)∨∃ xs,SqT X.K H p xs∧n=xs.length:=e
  rcases e' with ⟨xs,hx,e'⟩ | ⟨xs,hx,e'⟩
  ·subst e'
   obtain ⟨its,r',pl,hz⟩:=I.list hx
   have hlen:=r'.length
   exact Calls.call_len_list pl.isList (by simp only [List.size_toArray];omega) ⟨.int xs.length,H,I.tok _,⟨_,by simp only [List.size_toArray];rw [hlen]⟩,q⟩
  ·subst e'
   obtain ⟨its,r',pl,hz⟩:=I.tuple hx
   have hlen:=r'.length
   exact len_tuple pl (by simp only [List.size_toArray];omega) ⟨.int xs.length,H,I.tok _,⟨_,by simp only [List.size_toArray];rw [hlen]⟩,q⟩
 | _=>exact (show False from e).elim
end
section
variable {prog:Program} {w:World} {A:Around} {E:Value→Shared→Prop} {s:Shared} {K:PySem.W.Frag} {x dx C f:Addr} {mA:Str→Option Value} {name:Str} {v:Value}
end
section
variable {P:Program} {w:World} {H H':Hp} {h h':Heap} {a C dx:Addr} {fs fs':List (Str×V)}
end
structure Cls (K:PySem.W.Frag) (C:Addr):Prop where
 pg:PySem.W.plainGet K C Str.empty=true
 hd:PySem.W.hasDictIn K C=true
 po:PySem.W.plainOver K C=true
 sa:PySem.W.findIn K (.ref C) "__setattr__"=some (some (.builtin "object.__setattr__"))
theorem Cls.get {K:PySem.W.Frag} {C:Addr} (c:Cls K C) (f:Str):PySem.W.plainGet K C f=true:=c.pg
structure ZAZ (K:PySem.W.Frag) (C:Addr) (m:Str) (f:Addr):Prop where
 at_:PySem.W.findIn K (.ref C) m=some (some (.ref f))
 fn:PySem.W.isFn K (.ref f)=true
 kp:PySem.W.keepIn K (.ref f)=true
section
variable {X:Cx} {pins:List (Addr×Obj)} {σ:St} {H:Hp} {s:Shared} {a C dx:Addr} {fs:List (Str×V)} {f:Str} {v:V} {A:Around} {E:Value→Shared→Prop}
theorem Inv.made (I:Inv X pins σ H s):Inv X pins σ (upd (upd H s.heap.objs.size (.own (s.heap.objs.size+1))) (s.heap.objs.size+1) (.ins C s.heap.objs.size []))
  { s with heap:=(s.heap.push PySem.W.emptyDict).push (PySem.W.instObj C s.heap.objs.size) }:=by
 have e1:(s.heap.push PySem.W.emptyDict).get? s.heap.objs.size=some PySem.W.emptyDict:=Heap.get?_push_size s.heap rfl
 have e2:((s.heap.push PySem.W.emptyDict).push (PySem.W.instObj C s.heap.objs.size)).get? (s.heap.objs.size+1)=some (PySem.W.instObj C s.heap.objs.size):=by
  have:=Heap.get?_push_size (s.heap.push PySem.W.emptyDict) (o:=PySem.W.instObj C s.heap.objs.size) rfl
  rwa [Heap.size_push] at this
 have e3:(s.heap.push PySem.W.emptyDict).Ns s.heap.objs.size (fun _=>none):=⟨PySem.W.emptyDict,#[],_,e1,rfl,(fun e he=>absurd he (by simp)),fun _=>rfl⟩
 have I1:=I.laid (a:=s.heap.objs.size) (o:=.own (s.heap.objs.size+1)) (h':=s.heap.push PySem.W.emptyDict) (t':=s.toks) (fun b u q=>Heap.get?_push_of_some _ q) (Nat.le_refl _) ⟨_,e1⟩
 refine I1.laid (a:=s.heap.objs.size+1) (o:=.ins C s.heap.objs.size []) (t':=s.toks) (fun b u q=>Heap.get?_push_of_some _ q) (Nat.le_of_eq (Heap.size_push _ _)) ?_
 have ne:s.heap.objs.size≠s.heap.objs.size+1:=Nat.ne_of_lt (Nat.lt_succ_self _)
 refine ⟨by rw [Za2 ne,ZbA],Nat.zero_le _,ne,e2,fun _=>none,(Heap.Ns1.of_empty e3).at fun o q=>Heap.get?_push_of_some _ q,fun _=>True.intro,fun y hy=>absurd rfl hy⟩
end
section
variable {X:Cx} {o e value:Expr} {f:Str} {pos pos' tpos:Pos} {ta tv:TE}
def ZdG:V→V→Hp→VK→Prop:=fun x y H Q=>∃ i j,x=.int i∧y=.int j∧Q (.int (i+j)) H
end
section
variable {X:Cx} {pins:List (Addr×Obj)} {σ:St} {H:Hp} {s:Shared} {A:Around} {E:Value→Shared→Prop} {Q:Value→Shared→Prop} {c:Value} {b:Bool}
end
structure Room (k:Nat) (A:Around):Prop where
 hd:A.handled=none
 dp:A.depth+3*k+5 < recursionLimit
 un:A.units+16*k+200 < cLine
theorem Room.mono {j k:Nat} {A:Around} (r:Room k A) (h:j≤k):Room j A:=⟨r.hd,by have:=r.dp;omega,by have:=r.un;omega⟩
theorem Room.deeper {k:Nat} {A:Around} (r:Room (k+1) A) (env:Env):Room k (A.deeper env) :=
 ⟨r.hd,by have:=r.dp;show A.depth+1+3*k+5 < _;omega,by have:=r.un;show A.units+3+16*k+200 < _;omega⟩
theorem Room.in1 {k:Nat} {A:Around} (r:Room (k+1) A):Room k A.in1 :=
 ⟨r.hd,by have:=r.dp;show A.depth+3*k+5 < _;omega,by have:=r.un;show A.units+1+16*k+200 < _;omega⟩
theorem Room.depth {k:Nat} {A:Around} (r:Room k A):A.depth < recursionLimit:=by have:=r.dp;omega
theorem Room.units {k:Nat} {A:Around} (r:Room k A):A.units+64 < cLine:=by have:=r.un;omega
def ZyT:TA:=fun _ H Q=>Q [] H
def Zoz (ta:TE) (tr:TA):TA:=fun σ H Q=>ta σ H fun x H1=>tr σ H1 fun xs H2=>Q (x::xs) H2
section
variable {X:Cx} {e:Expr} {es:List Expr} {te:TE} {t:TA} {pos:Pos}
theorem Zn1:PA X [] ZyT:=fun _ _ _ _ H Q I h=>Calls.spliced_nil ⟨[],H,I,.nil,h⟩
theorem ZhC (ha:PE X e te) (hr:PA X es t) (hs:starEach (e::es) X.env=(false,eval e X.env)::starEach es X.env:=by rfl):PA X (e::es) (Zoz te t):=by
 intro pos pins s σ H Q I h
 rw [hs]
 show wpAny _ _ (spliced ((false,eval e X.env)::backTo pos (starEach es X.env))) _ _ s
 refine Calls.spliced_cons (thn (ha pins s σ H _ I h) fun u s1 zz43=>?_)
 obtain ⟨x,H1,I1,r1,q1⟩:=zz43
 exact thn (hr pos pins s1 σ H1 _ I1 q1) (by rintro us s2 ⟨xs,H2,I2,r2,q2⟩;exact ⟨x::xs,H2,I2,.cons r1 r2,q2⟩)
def ZAy (t:TA):TE:=fun σ H Q=>t σ H fun xs H1=>xs.length≤sizeLine∧∀ p,H1 p=none→Q (.ref p) (upd H1 p (.tup xs))
def ZAQ (t:TA):TE:=fun σ H Q=>t σ H fun xs H1=>xs.length≤sizeLine∧∀ p,H1 p=none→Q (.ref p) (upd H1 p (.lst xs))
theorem Zxh {x1} (h:PA X es t):PE X (.Tuple es x1 pos) (ZAy t):=by
 intro pins s σ H Q I hq
 refine wpAny_Tuple_spliced (thn (h pos pins s σ H _ I hq) fun us s1 ⟨xs,H1,I1,r,z,q⟩=>⟨by rw [← r.length];exact z,?_⟩)
 have hf:H1 s1.heap.objs.size=none:=I1.hok.fresh (Nat.le_refl _)
 refine ⟨.ref s1.heap.objs.size,upd H1 s1.heap.objs.size (.tup xs),I1.laid (t':=s1.toks) (fun b u e=>Heap.get?_push_of_some _ e) (Nat.le_refl _) ?_,rfl,q _ hf⟩
 exact ⟨z,us,r,⟨_,Heap.get?_push_size _ rfl,rfl,_,rfl⟩⟩
theorem ZwQ (h:PA X es t):PE X (.List es pos) (ZAQ t):=by
 intro pins s σ H Q I hq
 refine wpAny_List_spliced (thn (h pos pins s σ H _ I hq) fun us s1 ⟨xs,H1,I1,r,z,q⟩=>⟨by rw [← r.length];exact z,?_⟩)
 have hf:H1 s1.heap.objs.size=none:=I1.hok.fresh (Nat.le_refl _)
 refine ⟨.ref s1.heap.objs.size,upd H1 s1.heap.objs.size (.lst xs),I1.laid (t':=s1.toks) (fun b u e=>Heap.get?_push_of_some _ e) (Nat.le_refl _) ?_,rfl,q _ hf⟩
 exact ⟨z,us,0,r,Heap.get?_push_size _ rfl⟩
end
abbrev Sp:=List V→Hp→VK→XK→Prop
abbrev CXT:=List Env→Hp→Shared→XK→Value→Shared→Prop
structure Env0 (P:Program) (w:World) (K:PySem.W.Frag) (mg:Str→Option Value) (base:Heap) (A:Around) (outer:List Env) (s:Shared) (H:Hp):Prop where
 frames:A.frames=some outer
 mod:Mod K mg base
 bs:∀ b o,base.get? b=some o→s.heap.get? b=some o∧H b=none
 bsz:base.objs.size≤s.heap.objs.size
 funs:s.heap.FunFrames base outer
 frf:∀ b∈frs outer,H b=none
 hok:HOk P w H s.heap
 bare:AllBare s.gens
def CE (outer:List Env) (P:Program) (w:World) (H:Hp) (s:Shared) (Q:VK) (u:Value) (s':Shared):Prop :=
 ∃ v H',s'.os=s.os∧AllBare s'.gens∧Un (frs outer) [] H H' s.heap s'.heap∧HOk P w H' s'.heap∧RelV v u∧Q v H'
def CR (CX:CXT) (outer:List Env) (P:Program) (w:World) (H:Hp) (s:Shared) (Q:VK) (E:XK) (r:Result) (s':Shared):Prop :=
 match r with
 | .ok (.ret u)=>CE outer P w H s Q u s'
 | .ok _=>False
 | .error e=>CX outer H s E e s'
structure FnOk (P:Program) (w:World) (K:PySem.W.Frag) (mg:Str→Option Value) (base:Heap) (CX:CXT) (k:Nat) (f:Addr) (fd:FuncData) (ps:List Str) (sp:Sp):Prop where
 len:∀ vs H Q E,sp vs H Q E→vs.length=ps.length
 run:∀ (A:Around) (outer:List Env) (s:Shared) (H:Hp) (args:Args) (us:List Value) (vs:List V) (Q:VK) (E:XK),Room k A→Env0 P w K mg base A outer s H→BindsTo s fd args (ps.zip us)→Vals vs us→sp vs H Q E →
  codeAny (model P w) A (.call (.ref f) args) (CR CX outer P w H s Q E) s
theorem FnOk.mono {P:Program} {w:World} {K:PySem.W.Frag} {mg:Str→Option Value} {base:Heap} {CX:CXT} {j k:Nat} {f:Addr} {fd:FuncData} {ps:List Str} {sp:Sp} (F:FnOk P w K mg base CX j f fd ps sp) (h:j≤k) :
  FnOk P w K mg base CX k f fd ps sp:=⟨F.len,fun A outer s H args us vs Q E hr=>F.run A outer s H args us vs Q E (hr.mono h)⟩
theorem FnOk.imp {P:Program} {w:World} {K:PySem.W.Frag} {mg:Str→Option Value} {base:Heap} {CX:CXT} {k:Nat} {f:Addr} {fd:FuncData} {ps:List Str} {sp sp':Sp} (F:FnOk P w K mg base CX k f fd ps sp)
  (h:∀ vs H Q E,sp' vs H Q E→sp vs H Q E):FnOk P w K mg base CX k f fd ps sp' :=
 ⟨fun vs H Q E q=>F.len vs H Q E (h _ _ _ _ q),fun A outer s H args us vs Q E hr he hb hv hs=>F.run A outer s H args us vs Q E hr he hb hv (h _ _ _ _ hs)⟩
theorem Env0.in1 {P:Program} {w:World} {K:PySem.W.Frag} {mg:Str→Option Value} {base:Heap} {A:Around} {outer:List Env} {s:Shared} {H:Hp} (e:Env0 P w K mg base A outer s H) :
  Env0 P w K mg base A.in1 outer s H:=⟨e.frames,e.mod,e.bs,e.bsz,e.funs,e.frf,e.hok,e.bare⟩
section
variable {X:Cx} {pins:List (Addr×Obj)} {σ:St} {H:Hp} {s s':Shared}
theorem Inv.env0 (I:Inv X pins σ H s):Env0 X.prog X.w X.K X.mg X.base X.A X.stack s H :=
 ⟨I.ok.frames,I.ok.mod,I.bs,Nat.le_trans I.ok.bsz I.sz,I.stack,I.stkFree,I.hok,I.bare⟩
theorem Inv.after {Q:VK} {u:Value} (I:Inv X pins σ H s) (h:CE X.stack X.prog X.w H s Q u s'):EP X pins σ Q u s':=by
 obtain ⟨v,H',os,bare,un,hok,r,q⟩:=h
 obtain ⟨hh,g,d,t,os'⟩:=s'
 obtain rfl:os'=s.os:=os
 exact ⟨v,H',I.call (h':=hh) (g':=g) (d':=d) (t':=t) (ch:=[]) un hok bare (fun b z=>absurd z (by simp)),r,q⟩
end
def Zzf (sp:Sp) (dvs:List V) (E:XK) (t:TA):TE:=fun σ H Q=>t σ H fun vs H1=>sp (vs++dvs) H1 Q E
def Binds (K:PySem.W.Frag) (fd:FuncData) (ps:List Str) (ds:List Value):Prop :=
 ∀ (s:Shared) (us:List Value),K.In s.heap→(us++ds).length=ps.length→BindsTo s fd ⟨us,[]⟩ (ps.zip (us++ds))
theorem Binds.all {K:PySem.W.Frag} {fd:FuncData} {ps:List Str} (h:∀ us:List Value,us.length=ps.length→bindArgs fd ⟨us,[]⟩=pure (ps.zip us)):Binds K fd ps []:=fun s us _ hl=>by
 rw [List.append_nil] at hl ⊢
 exact .of_eq (h us hl)
def Zwg (CX:CXT) (X:Cx) (E:XK):Prop:=∀ (pins:List (Addr×Obj)) (σ:St) (H:Hp) (s:Shared) (e:Value) (s':Shared),Inv X pins σ H s→CX X.stack H s E e s'→X.xe e s'
section
variable {X:Cx} {CX:CXT} {k:Nat} {f C:Addr} {fd:FuncData} {ps:List Str} {sp:Sp} {dvs:List V} {ds:List Value} {E:XK} {x m:Str} {p pos apos:Pos} {e o:Expr} {es:List Expr} {ta:TE} {t:TA}
end
section
variable {X:Cx} {CX:CXT} {k:Nat} {f C:Addr} {fd:FuncData} {ps ks:List Str} {sp:Sp} {E:XK} {x m:Str} {p pos apos kpos:Pos} {e o:Expr} {es:List Expr} {kws:List Keyword} {te ta:TE} {t tk:TA} {nm:Option Str}
variable {g:List Value→List Value→List Value} {gV:List V→List V→List V}
end
structure Zap (N P:List Str) (sc:Scope):Prop where
 kind:sc.kind=.function
 co:sc.isCoroutine=false
 gen:sc.isGenerator=false
 nd:N.Nodup
 pre:N.take P.length=P
 par:∀ x∈P,sc.names.lookup x=some .local∨sc.names.lookup x=some .cell
 nofree:∀ y∈sc.names,y.2≠.free
theorem Zl4 {kindOf:Str→Option NameKind} {x:Str}:∀ {binds:List (Str×Value)} {m:Str→Option Value},(∀ v,(x,v)∉binds)→bindL kindOf binds m x=m x
 | [],_,_=>rfl
 | (n,v)::r,m,h=>by
  unfold bindL
  rw [Zl4 fun w hw=>h w (List.mem_cons_of_mem _ hw)]
  split
  ·have:x≠n:=by rintro rfl;exact h v List.mem_cons_self
   simp [this]
  ·rfl
theorem Zl6 {kindOf:Str→Option NameKind} {x:Str}:∀ {binds:List (Str×Value)} {m:Str→Option Value},(∀ v,(x,v)∉binds)→bindC kindOf binds m x=m x
 | [],_,_=>rfl
 | (n,v)::r,m,h=>by
  unfold bindC
  rw [Zl6 fun w hw=>h w (List.mem_cons_of_mem _ hw)]
  split
  ·rfl
  ·have:x≠n:=by rintro rfl;exact h v List.mem_cons_self
   simp [this]
theorem Zmm {kindOf:Str→Option NameKind} {x:Str} {v:Value}:∀ {P:List Str} {vs:List Value} {i:Nat} {m:Str→Option Value},P.Nodup→P[i]?=some x→vs[i]?=some v→kindOf x=some .local →
  bindL kindOf (P.zip vs) m x=some v
 | [],_,_,_,_,h,_,_=>by simp at h
 | _::_,[],_,_,_,_,h,_=>by simp at h
 | p::P,w::vs,0,m,nd,h1,h2,hk=>by
  simp at h1 h2;subst h1;subst h2
  show bindL kindOf ((p,w)::P.zip vs) m p=_
  unfold bindL
  rw [Zl4 fun v hv=>(List.nodup_cons.mp nd).1 (List.of_mem_zip hv).1,if_pos hk]
  simp
 | p::P,w::vs,i+1,m,nd,h1,h2,hk=>by
  show bindL kindOf ((p,w)::P.zip vs) m x=_
  unfold bindL
  exact Zmm (i:=i) (List.nodup_cons.mp nd).2 (by simpa using h1) (by simpa using h2) hk
theorem Zlw {kindOf:Str→Option NameKind} {x:Str} {v:Value}:∀ {P:List Str} {vs:List Value} {i:Nat} {m:Str→Option Value},P.Nodup→P[i]?=some x→vs[i]?=some v→kindOf x≠some .local →
  bindC kindOf (P.zip vs) m x=some v
 | [],_,_,_,_,h,_,_=>by simp at h
 | _::_,[],_,_,_,_,h,_=>by simp at h
 | p::P,w::vs,0,m,nd,h1,h2,hk=>by
  simp at h1 h2;subst h1;subst h2
  show bindC kindOf ((p,w)::P.zip vs) m p=_
  unfold bindC
  rw [Zl6 fun v hv=>(List.nodup_cons.mp nd).1 (List.of_mem_zip hv).1,if_neg hk]
  simp
 | p::P,w::vs,i+1,m,nd,h1,h2,hk=>by
  show bindC kindOf ((p,w)::P.zip vs) m x=_
  unfold bindC
  exact Zlw (i:=i) (List.nodup_cons.mp nd).2 (by simpa using h1) (by simpa using h2) hk
def ZgA (N:List Str) (vs:List V):St:=vs.map some++List.replicate (N.length - vs.length) none
def ZhZ (CX:CXT) (P:Program) (w:World) (K:PySem.W.Frag) (mg:Str→Option Value) (base:Heap) (N:List Str) (qual:Str) (scope:Scope) (f:Addr) (cd:Value) (A:Around) (outer:List Env) (s:Shared) (H:Hp) (E:XK):Cx where
 prog:=P
 w:=w
 K:=K
 mg:=mg
 base:=base
 A:=A.deeper (envOfC qual scope s.heap.objs.size f cd)
 N:=N
 s₀:=s
 H₀:=H
 env:=envOfC qual scope s.heap.objs.size f cd
 outer:=outer
 stack:=envOfC qual scope s.heap.objs.size f cd::outer
 ex:=[]
 calm:=true
 fn:=fun _=>true
 pn:=[]
 xe:=fun e s'=>wpAny (model P w) (A.deeper (envOfC qual scope s.heap.objs.size f cd)) (leaving (envOfC qual scope s.heap.objs.size f cd) e) (fun _ s''=>CX outer H s E e s'') (fun e' s''=>CX outer H s E e' s'') s'
theorem Zkn {sc:Scope} {n:Nat} {x:Str} (h:sc.names.lookup x=some .cell):∃ c,(cellsFrom n sc.names []).lookup x=some c:=by
 have q:=PySem.W.cellsFrom_some sc.names n [] (.inl h)
 exact Option.isSome_iff_exists.mp q
theorem Zlx {CX:CXT} {P:Program} {w:World} {K:PySem.W.Frag} {mg:Str→Option Value} {base:Heap} {N ps:List Str} {qual:Str} {scope:Scope} {f:Addr} {cd:Value} {A:Around} {outer:List Env} {s s1:Shared} {H:Hp} {E:XK} {us:List Value} {vs:List V}
  (S:Zap N ps scope) (hd:A.handled=none) (e0:Env0 P w K mg base A outer s H) (hl:vs.length=ps.length) (r:Vals vs us)
  (x:InCallC s s.heap.objs.size (bindL (envOfC qual scope s.heap.objs.size f cd).kindOf (ps.zip us) fun _=>none) (cellsFrom (s.heap.objs.size+1) scope.names []) (bindC (envOfC qual scope s.heap.objs.size f cd).kindOf (ps.zip us) fun _=>none) s1) :
  Inv (ZhZ CX P w K mg base N qual scope f cd A outer s H E) [] (ZgA N vs) H s1:=by
 have hpl:ps.length≤N.length:=by have:=congrArg List.length S.pre;rw [List.length_take] at this;omega
 obtain ⟨h1,tk,rfl,hk⟩:=x.done
 have noA:∀ b:Addr,b∉(ZhZ CX P w K mg base N qual scope f cd A outer s H E).ex:=fun b z=>absurd (show b∈([]:List Addr) from z) (by simp)
 refine ⟨⟨e0.mod,S.kind,rfl,rfl,Nat.le_refl _,fun y z c h1 h2=>?_,fun y hy=>?_,fun y c _ h=>?_,fun _=>hd,Around.frames_deeper e0.frames,.inr ⟨rfl,rfl⟩,fun b z=>absurd z (noA b),e0.bs,e0.bsz,fun b _ _=>noA b,fun b z=>absurd z (noA b),e0.funs,e0.frf⟩,
  rfl,e0.bare,Un.kept hk,⟨_,x.toInCall.ns,fun i y v h1 h2 h3=>?_⟩,fun y c h=>⟨_,x.cell y c h⟩,e0.hok.fresh (Nat.le_refl _),fun y c h=>?_,fun p hp=>absurd (show p∈([]:List (Addr×Obj)) from hp) (by simp),e0.hok.kept hk,?_⟩
 ·exact name_of_addr x.apart (PySem.mem_of_lookup h1) (PySem.mem_of_lookup h2)
 ·have hy:scope.names.lookup y=some .cell∨scope.names.lookup y=some .free:=hy
  rcases hy with hy | hy
  ·exact Zkn hy
  ·exact absurd rfl (S.nofree _ (PySem.mem_of_lookup hy))
 ·exact Nat.le_of_lt (x.above y c (PySem.mem_of_lookup h))
 ·have hi:i < vs.length:=by
   unfold ZgA at h2
   by_cases hi:i < vs.length
   ·exact hi
   ·rw [List.getElem?_append_right (by simpa using hi)] at h2
    rw [List.getElem?_replicate] at h2
    split at h2 <;> cases h2
  have ha:vs[i]?=some v:=by
   unfold ZgA at h2
   rw [List.getElem?_append_left (by simpa using hi),List.getElem?_map] at h2
   cases e:vs[i]? with
   | none=>rw [e] at h2;cases h2
   | some a=>rw [e] at h2;cases h2;rfl
  obtain ⟨u,hu,rv⟩:=r.get ha
  have hp:ps[i]?=some y:=by
   rw [← S.pre,List.getElem?_take_of_lt (by omega)];exact h1
  have ndP:ps.Nodup:=by rw [← S.pre];exact S.nd.sublist (List.take_sublist _ _)
  refine ⟨u,rv,?_⟩
  rcases S.par y (List.mem_of_getElem? hp) with k | k
  ·exact .inl ⟨k,Zmm ndP hp hu k⟩
  ·obtain ⟨c,e⟩:=Zkn (n:=s.heap.objs.size+1) k
   refine .inr ⟨.inl k,c,e,?_⟩
   have q:=x.cell y c e
   rw [Zlw ndP hp hu (by show scope.names.lookup y≠_;rw [k];decide)] at q
   exact q
 ·exact e0.hok.fresh (Nat.le_of_lt (x.above y c (PySem.mem_of_lookup h)))
 ·unfold ZgA
  show _=N.length
  rw [List.length_append,List.length_map,List.length_replicate]
  omega
theorem Zs1 {CX:CXT} {P:Program} {w:World} {K:PySem.W.Frag} {mg:Str→Option Value} {base:Heap} {k:Nat} {f:Addr} {name qual:Str} {params:Arguments} {body:List Stmt} {scope:Scope} {dV kV doc pm cdv ct oc:Value} {an od:Option Addr}
  {osl:Array (Option Value)} {N ps:List Str} {sp:Sp} (lk:K.lookup f=some ⟨oc,od,.func (PySem.W.fnOf name qual params body scope dV kV doc pm an cdv ct),osl⟩) (hcd:PySem.W.codeIn K cdv qual=true) (S:Zap N ps scope)
  (len:∀ vs H Q E,sp vs H Q E→vs.length=ps.length)
  (hbody:∀ (A:Around) (outer:List Env) (s:Shared) (H:Hp) (vs:List V) (Q:VK) (E:XK),Room k (A.deeper (envOfC qual scope s.heap.objs.size f cdv))→sp vs H Q E →
   ∃ t,PSs (ZhZ CX P w K mg base N qual scope f cdv A outer s H E) body t∧t { nx:=fun _ H'=>Q .non H',rt:=Q } (ZgA N vs) H) :
  FnOk P w K mg base CX (k+1) f (PySem.W.fnOf name qual params body scope dV kV doc pm an cdv ct) ps sp:=by
 refine ⟨len,fun A outer s H args us vs Q E hr e0 hb r hsp=>?_⟩
 have hl:=len _ _ _ _ hsp
 have KX:K.In s.heap:=e0.mod.kin.keeps fun b o e=>(e0.bs b o e).1
 have lim:s.heap.NoLimit:=e0.mod.nolimit.keeps fun b o e=>(e0.bs b o e).1
 have hkind:∀ y∈ps.zip us,scope.names.lookup y.1=some .local∨(scope.names.lookup y.1=some .cell∧((cellsFrom (s.heap.objs.size+1) scope.names []).lookup y.1).isSome=true):=by
  rintro ⟨n,v⟩ hy
  rcases S.par n (List.of_mem_zip hy).1 with q | q
  ·exact .inl q
  ·exact .inr ⟨q,PySem.W.cellsFrom_some _ _ _ (.inl q)⟩
 refine codeAny_call_function hr.depth (KX _ _ lk) rfl S.co S.gen rfl (PySem.W.codeRec_of KX hcd) (hb _ _ _ _ ?_)
 refine wpAny_newFunctionEnv_cells S.kind hkind fun env he s1 x=>?_
 subst he
 refine ⟨lim.keeps x.toInCall.keep,codeAny_func ?_⟩
 obtain ⟨t,ht,hq⟩:=hbody A outer s H vs Q E (hr.deeper _) hsp
 have I:Inv (ZhZ CX P w K mg base N qual scope f cdv A outer s H E) [] (ZgA N vs) H s1:=Zlx S hr.hd e0 hl r x
 refine wpAny_mono (ht [] s1 (ZgA N vs) H _ I hq) (fun fl s' hs=>?_) fun e s' hs=>hs
 have fin:∀ {σ':St} {H':Hp} {v:V} {u:Value},Inv (ZhZ CX P w K mg base N qual scope f cdv A outer s H E) [] σ' H' s'→RelV v u→Q v H'→CE outer P w H s Q u s' :=
  fun {σ' H' v u} J rv q=>⟨v,H',J.os,J.bare,J.base,J.hok,rv,q⟩
 cases fl with
 | ret u =>
  obtain ⟨v,σ',H',J,rv,q⟩:=hs
  exact fin J rv q
 | next =>
  obtain ⟨σ',H',J,q⟩:=hs
  exact fin (v:=V.non) (u:=Value.none) J rfl q
 | brk =>
  obtain ⟨_,_,_,q⟩:=hs
  exact False.elim q
 | cont =>
  obtain ⟨_,_,_,q⟩:=hs
  exact False.elim q
section
variable {X:Cx} {x:Str} {p pos:Pos} {e:Expr} {es:List Expr} {t:TA} {id T:String} {r:List V→Hp→VK→Prop}
def tCB (r:List V→Hp→VK→Prop) (t:TA):TE:=fun σ H Q=>t σ H fun vs H1=>r vs H1 Q
theorem ZsN (hc:CallR X (.builtin id) r) (hg:Gl X x) (hm:X.mg x=none) (hv:bootBuiltins x=some (.builtin id)) (ha:PA X (e::es) t) (hn:x≠"__name__":=by decide) (hdb:(x==("__debug__":Str))=false:=by decide)
  (he:starEach (e::es) X.env=(false,eval e X.env)::starEach es X.env:=by rfl) (hpl:(backTo pos (starEach es X.env)).any (·.1)=false:=by rfl):PE X (.Call (.Name x p) (e::es) [] pos) (tCB r t):=by
 intro pins s σ H Q I h
 refine wpAny_Call_Name_kw (ZeM I hg hm hv ?_ hn hdb)
 exact PyProof.Rows.callWith_builtin1 (thn (ha pos pins s σ H _ I h) (by rintro us s1 ⟨vs,H1,I1,r1,q1⟩;exact hc pins s1 σ H1 vs us Q I1 r1 q1)) he hpl
theorem Zpd (hc:CallR X (.type T) r) (hg:Gl X x) (hm:X.mg x=none) (hv:bootBuiltins x=some (.type T)) (ha:PA X (e::es) t) (hn:x≠"__name__":=by decide) (hdb:(x==("__debug__":Str))=false:=by decide)
  (he:starEach (e::es) X.env=(false,eval e X.env)::starEach es X.env:=by rfl) (hpl:(backTo pos (starEach es X.env)).any (·.1)=false:=by rfl):PE X (.Call (.Name x p) (e::es) [] pos) (tCB r t):=by
 intro pins s σ H Q I h
 refine wpAny_Call_Name_kw (ZeM I hg hm hv ?_ hn hdb)
 exact PyProof.Rows.callWith_type1 (thn (ha pos pins s σ H _ I h) (by rintro us s1 ⟨vs,H1,I1,r1,q1⟩;exact hc pins s1 σ H1 vs us Q I1 r1 q1)) he hpl
end
end L2
namespace HT
open PySem PyProof.Rows
section
open PySem.SeqAt
open PySem.AutoSeq1 (wpAny_loadPart')
open PySem.MeetsSeq PySem.MeetsSeq2 PySem.MeetsSeq3
end
section
variable {prog:Program} {w:World} {A:Around} {E:Value→Shared→Prop} {s:Shared}
theorem cat_tup {t b:Addr} {vs ws:List Value} {Q:Value→Shared→Prop} (ht:IsTup s.heap t vs.toArray) (hb:IsTup s.heap b ws.toArray) (hv:vs≠[])
  (h1:ws=[]→Q (.ref t) s) (h2:ws≠[]→Q (.ref s.heap.objs.size) { s with heap:=s.heap.push { cls:=.type "tuple",data:=.seq (vs++ws).toArray } })
  (hsz:vs.length+ws.length≤sizeLine):wpAny (model prog w) A (binaryOp .Add (.ref t) (.ref b)) Q E s:=by
 obtain ⟨⟨cls,dd,data,sl⟩,ho,hc,n,hd⟩:=id ht
 obtain ⟨⟨cls2,dd2,data2,sl2⟩,ho2,hc2,n2,hd2⟩:=id hb
 simp only at hc hd hc2 hd2
 subst hc hd hc2 hd2
 have e:vs.toArray++ws.toArray=(vs++ws).toArray:=by simp
 by_cases hw:ws=[]
 ·exact concat_meets ⟨_,ho,rfl⟩ ⟨_,ho2,rfl⟩ noFill_tuple_add seq_tuple_add PySem.F.slot_tuple_add PySem.F.entry_tuple_add (PySem.F.args_tuple_add_2 _ _)
   (tuple_addW1 t b vs.toArray ws.toArray n n2 dd dd2 sl sl2 (by simpa using hv) (by simp [hw])) ⟨ho,ho2,h1 hw⟩
 ·refine concat_meets ⟨_,ho,rfl⟩ ⟨_,ho2,rfl⟩ noFill_tuple_add seq_tuple_add PySem.F.slot_tuple_add PySem.F.entry_tuple_add (PySem.F.args_tuple_add_2 _ _)
   (tuple_addW2 t b vs.toArray ws.toArray n n2 dd dd2 sl sl2 (by simpa using hv) (by simpa using hw) (by rw [List.size_toArray,List.size_toArray];exact hsz)) ⟨ho,ho2,?_⟩
  rw [e]
  exact h2 hw
def sIx (n d:Nat):Option Int→Nat
 | none=>d
 | some v=>if v < 0 then (v+(n:Int)).toNat else min v.toNat n
theorem sIx_none (n d:Nat):sIx n d none=d:=rfl
theorem sIx_nat (n d k:Nat):sIx n d (some (k:Int))=min k n:=by
 show (if (k:Int) < 0 then ((k:Int)+(n:Int)).toNat else min (k:Int).toNat n)=min k n
 rw [if_neg (by omega),Int.toNat_natCast]
theorem Zx7 (n d:Nat) (hd:d≤n) (o:Option Int):sIx n d o≤n:=by
 cases o with
 | none=>exact hd
 | some v =>
  show (if v < 0 then (v+(n:Int)).toNat else min v.toNat n)≤n
  by_cases hv:v < 0
  ·rw [if_pos hv];omega
  ·rw [if_neg hv];exact Nat.min_le_right _ _
theorem ZqQ (v:Int) (n d:Nat):(if v < 0 then max (v+(n:Int)) 0 else min v (n:Int))=((sIx n d (some v):Nat):Int):=by
 show (if v < 0 then max (v+(n:Int)) 0 else min v (n:Int))=(((if v < 0 then (v+(n:Int)).toNat else min v.toNat n):Nat):Int)
 by_cases hv:v < 0
 ·simp only [if_pos hv];omega
 ·simp only [if_neg hv];omega
theorem Zos (lo hi:Option Int) (n:Nat):Builtin.Slice.sliceAdjust lo hi 1 (n:Int)=(((sIx n 0 lo:Nat):Int),((sIx n n hi:Nat):Int)):=by
 have h1:¬ ((1:Int) < 0):=by omega
 unfold Builtin.Slice.sliceAdjust
 simp only [h1,if_false]
 refine Prod.ext ?_ ?_
 ·cases lo with
  | none=>rfl
  | some v=>exact ZqQ v n 0
 ·cases hi with
  | none=>rfl
  | some v=>exact ZqQ v n n
theorem Zor (i j:Nat):Builtin.Slice.slicePlaces (i:Int) (j:Int) 1=j - i:=by
 unfold Builtin.Slice.slicePlaces
 have h1:(1:Int) > 0:=by omega
 simp only [h1,if_true,Int.ediv_one]
 split <;> omega
theorem ZjX {v:Value} {o:Option Int} {Q:Option Int→Shared→Prop} (p:IsPart v o) (h:Q o s):wpAny (model prog w) A (Builtin.Slice.slicePartIndex v) Q E s:=by
 cases p with
 | none=>exact slicePart_none h
 | int i t=>exact slicePart_int h
theorem ZeF {sl:Addr} {vl vu:Value} {lo hi:Option Int} {n:Nat} {Q:Int×Int×Nat→Shared→Prop} (hs:s.heap.IsSliceOf sl vl vu .none) (pl:IsPart vl lo) (pu:IsPart vu hi)
  (h:Q (((sIx n 0 lo:Nat):Int),1,sIx n n hi - sIx n 0 lo) s):wpAny (model prog w) A (Builtin.Slice.sliceApplied (.ref sl) (pure (n:Int))) Q E s:=by
 obtain ⟨os,hos,hcs,hds⟩:=id hs
 unfold Builtin.Slice.sliceApplied Builtin.Slice.sliceFields
 refine wpAny_bind (wpAny_bind (wpAny_field hos hds (x:=vl) rfl (wpAny_bind (wpAny_field hos hds (x:=vu) rfl (wpAny_bind (wpAny_field hos hds (x:=.none) rfl (wpAny_pure ?_)))))))
 refine wpAny_bind (slicePart_none ?_)
 show wpAny _ _ (if ((1:Int)==0)=true then _ else _) _ _ s
 rw [if_neg (by decide)]
 refine wpAny_bind (ZjX pl (wpAny_bind (ZjX pu (wpAny_bind (wpAny_pure ?_)))))
 show wpAny _ _ (match Builtin.Slice.sliceAdjust lo hi 1 (n:Int) with | (lo,hi)=>pure (lo,(1:Int),Builtin.Slice.slicePlaces lo hi 1)) _ _ s
 rw [Zos lo hi n]
 show wpAny _ _ (pure (((sIx n 0 lo:Nat):Int),(1:Int),Builtin.Slice.slicePlaces ((sIx n 0 lo:Nat):Int) ((sIx n n hi:Nat):Int) 1)) _ _ s
 rw [Zor]
 exact wpAny_pure h
theorem ZrB (xs:Array Value) (i k:Nat):((List.range k).filterMap fun (m:Nat)=>xs[((i:Int)+(m:Int)*1).toNat]?).toArray=((xs.toList.drop i).take k).toArray:=by
 have e:(fun (m:Nat)=>xs[((i:Int)+(m:Int)*1).toNat]?)=fun m=>xs[i+m]?:=by
  funext m
  have:((i:Int)+(m:Int)*1).toNat=i+m:=by omega
  rw [this]
 rw [e]
 have:=pick_run xs i k
 rw [List.filterMap_map] at this
 have e2:((fun x=>xs[x]?)∘fun x=>i+x)=fun m=>xs[i+m]?:=rfl
 rw [e2] at this
 rw [this]
theorem getItem_tuple_cut {t sl:Addr} {items:Array Value} {vl vu:Value} {lo hi:Option Int} {Q:Value→Shared→Prop} (ht:IsTup s.heap t items) (hs:s.heap.IsSliceOf sl vl vu .none) (pl:IsPart vl lo) (pu:IsPart vu hi)
  (hw:¬ (sIx items.size 0 lo=0∧sIx items.size items.size hi=items.size))
  (h:Q (.ref s.heap.objs.size) { s with heap:=s.heap.push { cls:=.type "tuple",data:=.seq ((items.toList.drop (sIx items.size 0 lo)).take (sIx items.size items.size hi - sIx items.size 0 lo)).toArray } })
  (hsz:items.size≤sizeLine):wpAny (model prog w) A (getItem (.ref t) (.ref sl)) Q E s:=by
 have htake:sizeOk (.seq ((items.toList.drop (sIx items.size 0 lo)).take (sIx items.size items.size hi - sIx items.size 0 lo)).toArray):=by
  show ((items.toList.drop (sIx items.size 0 lo)).take (sIx items.size items.size hi - sIx items.size 0 lo)).toArray.size≤sizeLine
  rw [List.size_toArray,List.length_take,List.length_drop,Array.length_toList]
  omega
 have hj:sIx items.size items.size hi≤items.size:=Zx7 _ _ (Nat.le_refl _) hi
 obtain ⟨os,hos,hcs,hds⟩:=id hs
 have hTs:s.TypeIs (.ref sl) "slice":=⟨os,hos,hcs⟩
 unfold getItem
 try with_reducible refine wpAny_holding ?_
 first | refine wpAny_bind (wpAny_pure ?_) | skip
 refine wpAny_bind (wpAny_sequenceKey ht.typeIs (by decide) ?_)
 refine wpAny_bind (wpAny_callSpecial?_slot (name:=Str.ofString "__getitem__") ht.typeIs PyProof.Rows.slot_tuple_getitem
  (wpAny_call_entry PyProof.Rows.slot_tuple_getitem ht.typeIs entry_tuple_getitem ?_ (args_tuple_getitem _ _)))
 show wpAny _ _ (Builtin.Tuple.tupleItemsOf (.ref t) >>= _) _ _ s
 refine wpAny_bind (tupleItemsOf_ ht ?_)
 refine wpAny_bind (wpAny_typeOf hTs ?_)
 rw [if_pos (by decide)]
 refine wpAny_bind (ZeF hs pl pu ?_)
 have hno:¬ ((((sIx items.size 0 lo:Nat):Int)==0&&(1:Int)==1&&(sIx items.size items.size hi - sIx items.size 0 lo)==items.size)=true):=by
  intro q
  rw [Bool.and_eq_true,Bool.and_eq_true] at q
  have q1:((sIx items.size 0 lo:Nat):Int)=0:=eq_of_beq q.1.1
  have q2:sIx items.size items.size hi - sIx items.size 0 lo=items.size:=eq_of_beq q.2
  exact hw ⟨by omega,by omega⟩
 show wpAny _ _ (if (((sIx items.size 0 lo:Nat):Int)==0&&(1:Int)==1&&(sIx items.size items.size hi - sIx items.size 0 lo)==items.size)=true then _ else _) _ _ s
 rw [if_neg hno,ZrB]
 first
  | exact wpAny_bind (m:=Builtin.Tuple.tupleExact _) (wpAny_newObj_type (wpAny_pure ⟨_,rfl,wpAny_pure h⟩) htake)
  | exact wpAny_bind (m:=Builtin.Tuple.tupleExact _) (wpAny_newObj_type (wpAny_bind (wpAny_pure (wpAny_pure ⟨_,rfl,wpAny_pure h⟩))) htake)
  | exact wpAny_bind (wpAny_bind (m:=Builtin.Tuple.tupleExact _) (wpAny_newObj_type (wpAny_pure (wpAny_pure ⟨_,rfl,wpAny_pure h⟩)) htake))
  | exact wpAny_bind (wpAny_bind (m:=Builtin.Tuple.tupleExact _) (wpAny_newObj_type (wpAny_pure ⟨_,rfl,wpAny_pure h⟩) htake))
end
end HT
namespace L2
open PySem PySem.Spec PyProof.Rows
abbrev TO:=St→Hp→(Option Int→Hp→Prop)→Prop
def PO (X:Cx) (e:Option Expr) (t:TO):Prop :=
 ∀ (pins:List (Addr×Obj)) (s:Shared) (σ:St) (H:Hp) (Q:Option Int→Hp→Prop),Inv X pins σ H s→t σ H Q →
  wpAny (model X.prog X.w) X.A (evalPart e X.env) (fun u s'=>∃ o H',Inv X pins σ H' s'∧IsPart u o∧Q o H') X.xe s
def Zt4:TO:=fun _ H Q=>Q none H
def Zz3 (t:TE):TO:=fun σ H Q=>t σ H fun x H1=>∃ i,x=.int i∧Q (some i) H1
section
variable {X:Cx} {e:Expr} {te:TE} {lo hi:Option Expr} {tl th:TO} {pos p2:Pos}
theorem Zub:PO X none Zt4:=by
 intro pins s σ H Q I h
 rw [evalPart_none]
 exact wpAny_pure ⟨none,H,I,.none,h⟩
theorem Zt6 (h:PE X e te):PO X (some e) (Zz3 te):=by
 intro pins s σ H Q I hw
 rw [evalPart_some]
 refine thn (h pins s σ H _ I hw) fun u s1 zz48=>?_
 obtain ⟨x,H1,I1,r1,q1⟩:=zz48
 obtain ⟨i,rfl,q⟩:=q1
 obtain ⟨t,rfl⟩:=r1
 exact ⟨some i,H1,I1,.int i t,q⟩
def SlR (X:Cx) (r:V→Option Int→Option Int→Hp→VK→Prop):Prop :=
 ∀ (pins:List (Addr×Obj)) (s:Shared) (σ:St) (H:Hp) (x:V) (v vl vu:Value) (lo hi:Option Int) (sl:Addr) (Q:VK),Inv X pins σ H s→RelV x v→s.heap.IsSliceOf sl vl vu .none→IsPart vl lo→IsPart vu hi→r x lo hi H Q →
  ∃ T id,typeLookup (.type T) "__getitem__"=pure (some (.builtin id))∧s.TypeIs v T∧wpAny (model X.prog X.w) X.A (getItem v (.ref sl)) (EP X pins σ Q) X.xe s
theorem SlR.or {r r':V→Option Int→Option Int→Hp→VK→Prop} (h:SlR X r) (h':SlR X r'):SlR X (fun x lo hi H Q=>r x lo hi H Q∨r' x lo hi H Q):=by
 intro pins s σ H x v vl vu lo hi sl Q I rx hs pl pu q
 rcases q with q | q
 ·exact h pins s σ H x v vl vu lo hi sl Q I rx hs pl pu q
 ·exact h' pins s σ H x v vl vu lo hi sl Q I rx hs pl pu q
def tSl (r:V→Option Int→Option Int→Hp→VK→Prop) (te:TE) (tl th:TO):TE:=fun σ H Q=>te σ H fun x H1=>tl σ H1 fun l H2=>th σ H2 fun u H3=>r x l u H3 Q
theorem Znu {r:V→Option Int→Option Int→Hp→VK→Prop} (hr:SlR X r) (he:PE X e te) (hl:PO X lo tl) (hu:PO X hi th):PE X (.Subscript e (.Slice lo hi none p2) pos) (tSl r te tl th):=by
 intro pins s σ H Q I h
 refine Subscript_ (thn (he pins s σ H _ I h) fun v s1 zz49=>?_)
 obtain ⟨x,H1,I1,r1,q1⟩:=zz49
 refine wpAny_Slice (thn (hl pins s1 σ H1 _ I1 q1) fun vl s2 ⟨l,H2,I2,pl,q2⟩=>thn (hu pins s2 σ H2 _ I2 q2) fun vu s3 ⟨u,H3,I3,pu,q3⟩=>?_)
 rw [evalPart_none]
 refine wpAny_pure ?_
 have I4:Inv X pins σ H3 { s3 with heap:=s3.heap.push { cls:=.type "slice",data:=.fields #[vl,vu,.none] } }:=I3.kept (t':=s3.toks) fun b ob q=>Heap.get?_push_of_some _ q
 obtain ⟨T,id,hT,ht,hg⟩:=hr pins { s3 with heap:=s3.heap.push { cls:=.type "slice",data:=.fields #[vl,vu,.none] } } σ H3 x v vl vu l u s3.heap.objs.size Q I4 r1 (Heap.IsSliceOf.new ..) pl pu q3
 show wpAny (model X.prog X.w) X.A (subscriptTail e (.Slice lo hi none p2) v (.ref s3.heap.objs.size)) (EP X pins σ Q) X.xe { s3 with heap:=s3.heap.push { cls:=.type "slice",data:=.fields #[vl,vu,.none] } }
 exact tail_any (ops:=[.ref s3.heap.objs.size,v]) ht hT hg (by with_unfolding_all rfl)
def Ztg (xs:List V) (lo hi:Option Int):List V:=(xs.drop (HT.sIx xs.length 0 lo)).take (HT.sIx xs.length xs.length hi - HT.sIx xs.length 0 lo)
theorem Zjc (xs:List V) (lo hi:Option Int):(Ztg xs lo hi).length≤xs.length:=by
 unfold Ztg
 rw [List.length_take,List.length_drop]
 omega
def Zzl (K:PySem.W.Frag):V→Option Int→Option Int→Hp→VK→Prop:=fun x lo hi H Q=>∃ a xs,x=.ref a∧SqT K H a xs ∧
 ¬ (HT.sIx xs.length 0 lo=0∧HT.sIx xs.length xs.length hi=xs.length)∧∀ p,H p=none→Q (.ref p) (upd H p (.tup (Ztg xs lo hi)))
theorem ZtP:SlR X (Zzl X.K):=by
 intro pins s σ H x v vl vu lo hi sl Q I rx hs pl pu h
 obtain ⟨a,xs,rfl,hx,hw,q⟩:=h
 cases rx
 obtain ⟨its,r,ht,hz⟩:=I.tuple hx
 have hlen:its.toArray.size=xs.length:=by rw [List.size_toArray];exact r.length.symm
 refine ⟨"tuple",_,PyProof.Rows.slot_tuple_getitem.lookup,ht.typeIs,?_⟩
 refine HT.getItem_tuple_cut ht hs pl pu (by rw [hlen];exact hw) ?_ (by rw [hlen];exact hz)
 rw [hlen]
 refine ⟨.ref s.heap.objs.size,_,I.laid (t':=s.toks) (o:=.tup (Ztg xs lo hi)) (fun b ob q=>Heap.get?_push_of_some _ q) (Nat.le_refl _) ?_,rfl,q _ (I.hok.fresh (Nat.le_refl _))⟩
 exact ⟨Nat.le_trans (Zjc xs lo hi) hz,_,(r.drop (HT.sIx xs.length 0 lo)).take (HT.sIx xs.length xs.length hi - HT.sIx xs.length 0 lo),IsTup.new _ _⟩
def ZtU (K:PySem.W.Frag):R2:=fun x y H Q=>∃ a b xs ys,x=.ref a∧y=.ref b∧SqT K H a xs∧SqT K H b ys∧xs≠[]∧xs.length+ys.length≤sizeLine ∧
 (ys=[]→Q (.ref a) H)∧(ys≠[]→∀ p,H p=none→Q (.ref p) (upd H p (.tup (xs++ys))))
theorem Vals.nil_iff {xs:List V} {us:List Value} (r:Vals xs us):us=[]↔xs=[]:=by
 cases r with
 | nil=>simp
 | cons _ _=>simp
theorem ZvL:OpR X (binaryOp .Add) (ZtU X.K):=by
 walk_at "pc"
 obtain ⟨a,b,xs,ys,rfl,rfl,ha,hb,hx,hz,q1,q2⟩:=h
 cases rx
 cases ry
 obtain ⟨its,r1,p1,_⟩:=I.tuple ha
 obtain ⟨its2,r2,p2,_⟩:=I.tuple hb
 refine HT.cat_tup p1 p2 (fun z=>hx (r1.nil_iff.mp z)) (fun z=>⟨.ref a,H,I,rfl,q1 (r2.nil_iff.mp z)⟩) (fun z=>?_) (by rw [← r1.length,← r2.length];exact hz)
 refine ⟨.ref s.heap.objs.size,_,I.laid (t':=s.toks) (o:=.tup (xs++ys)) (fun b ob q=>Heap.get?_push_of_some _ q) (Nat.le_refl _) ?_,rfl,q2 (fun w=>z (r2.nil_iff.mpr w)) _ (I.hok.fresh (Nat.le_refl _))⟩
 exact ⟨by rw [List.length_append];exact hz,_,r1.append r2,IsTup.new _ _⟩
end
def ixN (n:Nat) (i:Int):Option Nat:=if 0≤i then (if i < n then some i.toNat else none) else if -(n:Int)≤i then some (i+n).toNat else none
def atI {α:Type} (xs:List α) (i:Int):Option α:=(ixN xs.length i).bind fun j=>xs[j]?
theorem Zpw {n:Nat} {i:Int} {j:Nat} (h:ixN n i=some j):seqIndex? i n=some j∧j < n∧-(n:Int)≤i∧i < n:=by
 unfold ixN at h
 by_cases h0:0≤i
 ·rw [if_pos h0] at h
  by_cases h1:i < n
  ·rw [if_pos h1] at h
   have e:i.toNat=j:=Option.some.inj h
   exact ⟨by rw [seqIndex_of h0 h1,e],by omega,by omega,h1⟩
  ·rw [if_neg h1] at h;cases h
 ·rw [if_neg h0] at h
  by_cases h1:-(n:Int)≤i
  ·rw [if_pos h1] at h
   have e:(i+n).toNat=j:=Option.some.inj h
   exact ⟨by rw [seqIndex_neg (by omega) h1,e],by omega,h1,by omega⟩
  ·rw [if_neg h1] at h;cases h
theorem Zm9 {α:Type} {xs:List α} {i:Int} {v:α} (h:atI xs i=some v):∃ j,seqIndex? i xs.length=some j∧xs[j]?=some v∧j < xs.length∧-(xs.length:Int)≤i∧i < xs.length:=by
 unfold atI at h
 cases e:ixN xs.length i with
 | none=>rw [e] at h;cases h
 | some j =>
  rw [e] at h
  obtain ⟨h1,h2,h3,h4⟩:=Zpw e
  exact ⟨j,h1,h,h2,h3,h4⟩
theorem Zho {α:Type} {xs:List α} {j:Nat} {v:α} (h:xs[j]?=some v):atI xs (j:Int)=some v:=by
 have hj:j < xs.length:=(List.getElem?_eq_some_iff.mp h).1
 have e:ixN xs.length (j:Int)=some j:=by
  unfold ixN
  rw [if_pos (by omega),if_pos (by omega)];simp
 unfold atI;rw [e];exact h
def ZkZ (b:Expr):Prop:=∀ o i,subscripted b false o i=operate [o,i] (getItem o i)
def IxR (X:Cx) (r:R2):Prop :=
 ∀ (value slice:Expr) (pins:List (Addr×Obj)) (s:Shared) (σ:St) (H:Hp) (x y:V) (v u:Value) (Q:VK),Inv X pins σ H s→RelV x v→RelV y u→r x y H Q →
  subscripted slice false v u=operate [v,u] (getItem v u)→wpAny (model X.prog X.w) X.A (subscriptTail value slice v u) (EP X pins σ Q) X.xe s
def MtR (X:Cx) (id:String) (r:V→List V→Hp→VK→Prop):Prop :=
 ∀ (pins:List (Addr×Obj)) (s:Shared) (σ:St) (H:Hp) (x:V) (xs:List V) (v:Value) (us:List Value) (Q:VK),Inv X pins σ H s→RelV x v→Vals xs us→r x xs H Q →
  wpAny (model X.prog X.w) X.A (call (.builtin id) (v::us)) (EP X pins σ Q) X.xe s
section
variable {X:Cx} {a b:Expr} {ta tb:TE} {pos:Pos}
theorem IxR.or {r r':R2} (h:IxR X r) (h':IxR X r'):IxR X (fun x y H Q=>r x y H Q∨r' x y H Q):=by
 intro value slice pins s σ H x y v u Q I rx ry q hs
 rcases q with q | q
 ·exact h value slice pins s σ H x y v u Q I rx ry q hs
 ·exact h' value slice pins s σ H x y v u Q I rx ry q hs
theorem MtR.or {id:String} {r r':V→List V→Hp→VK→Prop} (h:MtR X id r) (h':MtR X id r'):MtR X id (fun x xs H Q=>r x xs H Q∨r' x xs H Q):=by
 intro pins s σ H x xs v us Q I rx rs q
 rcases q with q | q
 ·exact h pins s σ H x xs v us Q I rx rs q
 ·exact h' pins s σ H x xs v us Q I rx rs q
theorem ZzH {r:R2} (hr:IxR X r) (ha:PE X a ta) (hb:PE X b tb) (hs:ZkZ b):PE X (.Subscript a b pos) (tOp r ta tb):=by
 intro pins s σ H Q I h
 exact Subscript_ (ZyO ha hb I h fun v u s2 x y H2 I2 rx ry q=>hr a b pins s2 σ H2 x y v u Q I2 rx ry q (hs _ _))
def Zy6 (K:PySem.W.Frag):R2:=fun x y H Q=>∃ p xs i v,x=.ref p∧y=.int i∧SqL K H p xs∧atI xs i=some v∧Q v H
def ZyX (K:PySem.W.Frag):R2:=fun x y H Q=>∃ p xs i v,x=.ref p∧y=.int i∧SqT K H p xs∧atI xs i=some v∧Q v H
def ZzB:R2:=fun x y H Q=>∃ z i c,x=.str z∧y=.int i∧z.length≤sizeLine∧atI z.cps.toList i=some c∧Q (.str ⟨#[c]⟩) H
theorem Zt9:IxR X (Zy6 X.K):=by
 intro value slice pins s σ H x y v u Q I rx ry h hs
 obtain ⟨p,xs,i,z,rfl,rfl,hq,he,q⟩:=h
 cases rx
 obtain ⟨t,rfl⟩:=ry
 obtain ⟨its,r,pl,hz⟩:=I.list hq
 obtain ⟨j,h1,h2,h3,h4,h5⟩:=Zm9 he
 obtain ⟨w,ew,rw'⟩:=r.get h2
 have hl:=r.length
 have hn:=ZjU
 have fin:EP X pins σ Q w s:=⟨z,H,I,rw',q⟩
 by_cases h0:0≤i
 ·have hj:i.toNat=j:=by
   rw [seqIndex_of h0 h5] at h1
   exact Option.some.inj h1
  exact item_listR pl.isList h0 (by omega) (by rw [hj];simpa using ew) fin hs
 ·have hj:(i+(its.toArray.size:Int)).toNat=j:=by
   rw [seqIndex_neg (by omega) h4] at h1
   rw [List.size_toArray,← hl]
   exact Option.some.inj h1
  exact subscriptTail_builtinR (x:=w) pl.isList.typeIs slot_list_getitem.lookup
   (wpAny_getItem_list_neg (Q:=fun r s'=>r=w∧EP X pins σ Q r s') pl.isList (by omega) (by rw [List.size_toArray] <;> omega) (by omega) (by rw [hj];simpa using ew) ⟨rfl,fin⟩) hs
theorem Zw5:IxR X (ZyX X.K):=by
 intro value slice pins s σ H x y v u Q I rx ry h hs
 obtain ⟨p,xs,i,z,rfl,rfl,hq,he,q⟩:=h
 cases rx
 obtain ⟨t,rfl⟩:=ry
 obtain ⟨its,r,pl,hz⟩:=I.tuple hq
 obtain ⟨j,h1,h2,h3,h4,h5⟩:=Zm9 he
 obtain ⟨w,ew,rw'⟩:=r.get h2
 have hl:=r.length
 have hn:=ZjU
 have fin:EP X pins σ Q w s:=⟨z,H,I,rw',q⟩
 exact subscriptTail_builtinR (x:=w) pl.typeIs slot_tuple_getitem.lookup
  (getItem_tuple (j:=j) (Q:=fun r s'=>r=w∧EP X pins σ Q r s') pl (by omega) (by omega) (by rw [List.size_toArray,← hl];exact h1) (by simpa using ew) ⟨rfl,fin⟩) hs
theorem ZxP:IxR X ZzB:=by
 intro value slice pins s σ H x y v u Q I rx ry h hs
 obtain ⟨z,i,c,rfl,rfl,hz,he,q⟩:=h
 obtain ⟨t,rfl⟩:=rx
 obtain ⟨t',rfl⟩:=ry
 obtain ⟨j,h1,h2,h3,h4,h5⟩:=Zm9 he
 have hl:z.cps.toList.length=z.length:=by simp [Str.length]
 rw [hl] at h1 h4 h5
 have hn:=ZjU
 exact tail_any (typeIs_str s z t) slot_str_getitem.lookup (getItem_str (c:=c) (by
  have e1:decide (i < -(2 ^ 63:Int))=false:=decide_eq_false (by omega)
  have e2:decide (i≥2 ^ 63)=false:=decide_eq_false (by omega)
  rw [e1,e2,Bool.or_false]) (by rw [h1];simpa using h2) ⟨.str ⟨#[c]⟩,H,I.tok _,⟨_,rfl⟩,q⟩) hs
theorem ZoI (its:List Value) (n j:Nat) (u:Value):Obj.mapSeq (·.setIfInBounds j u) { cls:=.type "list",data:=.seq its.toArray n }={ cls:=.type "list",data:=.seq (its.set j u).toArray n }:=by
 simp [Obj.mapSeq]
theorem Inv.lst {pins:List (Addr×Obj)} {σ:St} {H:Hp} {s:Shared} {p:Addr} {xs:List V} (I:Inv X pins σ H s) (h:H p=some (.lst xs)) :
  ∃ (its:List Value) (n:Nat),Vals xs its∧s.heap.get? p=some { cls:=.type "list",data:=.seq its.toArray n }∧xs.length≤sizeLine:=by
 obtain ⟨z,its,n,r,e⟩:=I.hok p _ h
 exact ⟨its,n,r,e,z⟩
theorem Inv.lstUpd {pins:List (Addr×Obj)} {σ:St} {H:Hp} {s:Shared} {p:Addr} {xs ys:List V} {its its':List Value} {n n':Nat} {f:Obj→Obj} (I:Inv X pins σ H s) (h:H p=some (.lst xs))
  (ho:s.heap.get? p=some { cls:=.type "list",data:=.seq its.toArray n }) (hf:f { cls:=.type "list",data:=.seq its.toArray n }={ cls:=.type "list",data:=.seq its'.toArray n' }) (r:Vals ys its') (hz:ys.length≤sizeLine) (t:Nat) :
  Inv X pins σ (upd H p (.lst ys)) { s with heap:=s.heap.update p f,toks:=t }:=by
 have e:(s.heap.update p f).get? p=some { cls:=.type "list",data:=.seq its'.toArray n' }:=by
  rw [Heap.get?_update_self f ho (by rw [hf] <;> rfl),hf]
 refine I.write (x:=p) (e:=p) (by rw [h];trivial) (.inl rfl) (fun b u hb q=>(Heap.get?_update_other _ _ (Ne.symm hb)).trans q) ⟨_,e⟩ ?_
 exact ⟨hz,its',n',r,e⟩
def Zw7:V→V→V→Hp→(Hp→Prop)→Prop:=fun o i v H Q=>∃ p xs k j,o=.ref p∧i=.int k∧H p=some (.lst xs)∧ixN xs.length k=some j∧Q (upd H p (.lst (xs.set j v)))
theorem ZsP:ZAq X Zw7:=by
 intro pins s σ H o i v ov iv u Q I ro ri rv h
 obtain ⟨p,xs,k,j,rfl,rfl,hp,hj,q⟩:=h
 cases ro
 obtain ⟨t,rfl⟩:=ri
 obtain ⟨its,n,r,ho,hz⟩:=I.lst hp
 obtain ⟨h1,h2,h3,h4⟩:=Zpw hj
 have hl:=r.length
 have hn:=ZjU
 have I':Inv X pins σ (upd H p (.lst (xs.set j v))) { s with heap:=s.heap.update p (Obj.mapSeq (·.setIfInBounds j u)) } :=
  I.lstUpd hp ho (ZoI its n j u) (r.set rv j) (by rw [List.length_set];exact hz) s.toks
 by_cases h0:0≤k
 ·have hk:k.toNat=j:=by
   rw [seqIndex_of h0 h4] at h1
   exact Option.some.inj h1
  exact PySem.W.ki_setAt ho h0 (by omega) (by rw [List.size_toArray,← hl];exact h4) (by rw [hk];exact ⟨_,I',q⟩)
 ·have hk:(k+(its.toArray.size:Int)).toNat=j:=by
   rw [seqIndex_neg (by omega) h3] at h1
   rw [List.size_toArray,← hl]
   exact Option.some.inj h1
  exact PySem.W.ki_setBack ho (by omega) (by rw [List.size_toArray,← hl];exact h3) (by omega) (by rw [hk];exact ⟨_,I',q⟩)
theorem Zlj (lo hi:Option Int) (n:Nat):(sliceBounds lo hi none n).1=((HT.sIx n 0 lo:Nat):Int)∧(sliceBounds lo hi none n).2.1=((HT.sIx n n hi:Nat):Int)∧(sliceBounds lo hi none n).2.2=1:=by
 refine ⟨?_,?_,rfl⟩
 ·cases lo with
  | none=>simp [sliceBounds,HT.sIx]
  | some i =>
   simp only [sliceBounds,HT.sIx,Option.getD_none,show (1:Int) > 0 by decide,if_true]
   by_cases h:i < 0
   ·simp only [h,if_true] <;> omega
   ·simp only [h,if_false] <;> omega
 ·cases hi with
  | none=>simp [sliceBounds,HT.sIx]
  | some i =>
   simp only [sliceBounds,HT.sIx,Option.getD_none,show (1:Int) > 0 by decide,if_true]
   by_cases h:i < 0
   ·simp only [h,if_true] <;> omega
   ·simp only [h,if_false] <;> omega
theorem Zkq (its:List Value) (lo hi:Option Int):slicePick its.toArray lo hi none=((its.drop (HT.sIx its.length 0 lo)).take (HT.sIx its.length its.length hi - HT.sIx its.length 0 lo)).toArray:=by
 obtain ⟨h1,h2,h3⟩:=Zlj lo hi its.toArray.size
 unfold slicePick
 rw [h1,h2,h3]
 simp only [sliceRange_one,pick_run,List.size_toArray] <;> rfl
def Zza (K:PySem.W.Frag):V→Option Int→Option Int→Hp→VK→Prop:=fun x lo hi H Q=>∃ a xs,x=.ref a∧SqL K H a xs∧∀ p,H p=none→Q (.ref p) (upd H p (.lst (Ztg xs lo hi)))
theorem Zq0:SlR X (Zza X.K):=by
 intro pins s σ H x v vl vu lo hi sl Q I rx hs pl pu h
 obtain ⟨a,xs,rfl,hx,q⟩:=h
 cases rx
 obtain ⟨its,r,ht,hz⟩:=I.list hx
 have hlen:=r.length
 refine ⟨"list",_,slot_list_getitem.lookup,ht.isList.typeIs,?_⟩
 refine wpAny_getItem_list_slice ht.isList hs pl pu .none (by simp) ?_ (by rw [List.size_toArray] <;> omega)
 rw [Zkq,← hlen]
 refine ⟨.ref s.heap.objs.size,_,I.laid (t':=s.toks) (o:=.lst (Ztg xs lo hi)) (fun b ob q=>Heap.get?_push_of_some _ q) (Nat.le_refl _) ?_,rfl,q _ (I.hok.fresh (Nat.le_refl _))⟩
 exact ⟨Nat.le_trans (Zjc xs lo hi) hz,_,0,(r.drop (HT.sIx xs.length 0 lo)).take (HT.sIx xs.length xs.length hi - HT.sIx xs.length 0 lo),Heap.get?_push_size _ rfl⟩
def Zjy:V→Bool
 | .non=>true
 | .bl _=>true
 | .int _=>true
 | .str _=>true
 | _=>false
def eqV:V→V→Bool
 | .non,.non=>true
 | .bl a,.bl b=>a==b
 | .bl a,.int b=>(if a then 1 else 0)==b
 | .int a,.bl b=>a==(if b then 1 else 0)
 | .int a,.int b=>a==b
 | .str a,.str b=>a==b
 | _,_=>false
theorem Zml {A:Around} {s:Shared} {y x:V} {u v:Value} (ry:RelV y u) (rx:RelV x v) (fy:Zjy y=true) (fx:Zjy x=true):SeqAt.EqAt A s u v (eqV y x):=by
 cases y with
 | non =>
  cases ry
  cases x with
  | non=>cases rx;exact SeqAt.EqAt.same _
  | bl b=>cases rx;exact SeqAt.EqAt.none_bool b
  | int b=>obtain ⟨t,rfl⟩:=rx;exact SeqAt.EqAt.none_int b t
  | str b=>obtain ⟨t,rfl⟩:=rx;exact SeqAt.EqAt.none_str b t
  | _=>exact absurd (show false=true from fx) Bool.false_ne_true
 | bl a =>
  cases ry
  cases x with
  | non=>cases rx;exact SeqAt.EqAt.bool_none a
  | bl b=>cases rx;exact SeqAt.EqAt.bool_bool a b
  | int b=>obtain ⟨t,rfl⟩:=rx;exact SeqAt.EqAt.bool_int a b t
  | str b=>obtain ⟨t,rfl⟩:=rx;exact SeqAt.EqAt.bool_str a b t
  | _=>exact absurd (show false=true from fx) Bool.false_ne_true
 | int a =>
  obtain ⟨t',rfl⟩:=ry
  cases x with
  | non=>cases rx;exact SeqAt.EqAt.int_none a t'
  | bl b=>cases rx;exact SeqAt.EqAt.int_bool a t' b
  | int b=>obtain ⟨t,rfl⟩:=rx;exact SeqAt.EqAt.int_int a t' b t
  | str b=>obtain ⟨t,rfl⟩:=rx;exact SeqAt.EqAt.int_str a t' b t
  | _=>exact absurd (show false=true from fx) Bool.false_ne_true
 | str a =>
  obtain ⟨t',rfl⟩:=ry
  cases x with
  | non=>cases rx;exact SeqAt.EqAt.str_none a t'
  | bl b=>cases rx;exact SeqAt.EqAt.str_bool a t' b
  | int b=>obtain ⟨t,rfl⟩:=rx;exact SeqAt.EqAt.str_int a t' b t
  | str b=>obtain ⟨t,rfl⟩:=rx;exact SeqAt.EqAt.str_str a t' b t
  | _=>exact absurd (show false=true from fx) Bool.false_ne_true
 | _=>exact absurd (show false=true from fy) Bool.false_ne_true
def eqU (x:V) (u:Value):Bool:=match u with
 | .none=>eqV .non x
 | .bool b=>eqV (.bl b) x
 | .int i _=>eqV (.int i) x
 | .str z _=>eqV (.str z) x
 | _=>false
theorem Ztk {x y:V} {u:Value} (r:RelV y u) (f:Zjy y=true):eqU x u=eqV y x:=by
 cases y with
 | non=>cases r;rfl
 | bl b=>cases r;rfl
 | int i=>obtain ⟨t,rfl⟩:=r;rfl
 | str z=>obtain ⟨t,rfl⟩:=r;rfl
 | _=>exact absurd (show false=true from f) Bool.false_ne_true
theorem ZmS {x:V}:∀ {xs:List V} {us:List Value},Vals xs us→xs.all Zjy=true→us.any (eqU x)=xs.any fun y=>eqV y x
 | _,_,.nil,_=>rfl
 | y::xs,u::us,.cons r t,f=>by
  rw [List.all_cons,Bool.and_eq_true] at f
  rw [List.any_cons,List.any_cons,Ztk r f.1,ZmS t f.2]
theorem Zky {A:Around} {s:Shared} {x:V} {v:Value} (rx:RelV x v) (fx:Zjy x=true):∀ {xs:List V} {us:List Value},Vals xs us→xs.all Zjy=true→∀ u∈us,SeqAt.EqAt A s u v (eqU x u)
 | _,_,.nil,_=>fun u hu=>by cases hu
 | y::xs,u::us,.cons r t,f=>fun u' hu=>by
  rw [List.all_cons,Bool.and_eq_true] at f
  rcases List.mem_cons.mp hu with rfl | hu
  ·rw [Ztk r f.1];exact Zml r rx f.1 fx
  ·exact Zky rx fx t f.2 u' hu
def inV (x:V) (xs:List V):Bool:=xs.any fun y=>eqV y x
def rIn (K:PySem.W.Frag) (neg:Bool):R2:=fun x y H Q=>∃ p xs,y=.ref p∧(SqL K H p xs∨SqT K H p xs)∧Zjy x=true∧xs.all Zjy=true∧Q (.bl (if neg then !inV x xs else inV x xs)) H
theorem ZqB:OpR X (compareOp .In) (rIn X.K false):=by
 walk_at "pc"
 obtain ⟨p,xs,rfl,hq,fx,fs,q⟩:=h
 cases ry
 rcases hq with hq | hq
 ·obtain ⟨its,r,pl,hz⟩:=I.list hq
  refine SeqAt.in_listAt (eqU x) pl.isList (fun w hw=>Zky rx fx r fs w (by simpa using hw)) ⟨.bl _,H,I,rfl,?_⟩
  rw [show its.toArray.any (eqU x)=its.any (eqU x) by simp,ZmS r fs]
  exact q
 ·obtain ⟨its,r,pl,hz⟩:=I.tuple hq
  refine SeqAt.in_tupleAt (eqU x) pl (fun w hw=>Zky rx fx r fs w (by simpa using hw)) ⟨.bl _,H,I,rfl,?_⟩
  rw [show its.toArray.any (eqU x)=its.any (eqU x) by simp,ZmS r fs]
  exact q
theorem CallR.or {f:Value} {r r':List V→Hp→VK→Prop} (h:CallR X f r) (h':CallR X f r'):CallR X f (fun xs H Q=>r xs H Q∨r' xs H Q):=by
 intro pins s σ H xs us Q I rs q
 rcases q with q | q
 ·exact h pins s σ H xs us Q I rs q
 ·exact h' pins s σ H xs us Q I rs q
theorem Zmb:CallR X (.type "list") (fun xs H Q=>∃ p ys,xs=[.ref p]∧(SqL X.K H p ys∨SqT X.K H p ys)∧∀ l,H l=none→Q (.ref l) (upd H l (.lst ys))):=by
 intro pins s σ H xs us Q I r h
 obtain ⟨p,ys,rfl,hq,q⟩:=h
 obtain ⟨u,rfl,rx⟩:=ZmQ r
 cases rx
 have fin:∀ (its:List Value),Vals ys its→ys.length≤sizeLine→∀ (h':Heap) (c':Nat),(∀ b o',s.heap.get? b=some o'→h'.get? b=some o') →
   h'.get? s.heap.objs.size=some { cls:=.type "list",dict:=none,data:=.seq its.toArray c',slots:=#[] }→EP X pins σ Q (.ref s.heap.objs.size) { s with heap:=h' }:=fun its r' hz h' c' kp e =>
  ⟨.ref s.heap.objs.size,_,I.laid (t':=s.toks) kp (Nat.le_refl _) (show ObjOk X.prog X.w _ h' _ (.lst ys) from ⟨hz,its,c',r',e⟩),rfl,q _ (I.hok.fresh (Nat.le_refl _))⟩
 rcases hq with hq | hq
 ·obtain ⟨its,r',pl,hz⟩:=I.list hq
  have hlen:=r'.length
  obtain ⟨o,ho,hc,n,hd⟩:=pl.isList
  exact call_list_seq p (.inl rfl) ho hc hd (fun h' c' kp e=>fin its r' hz h' c' kp e) (by simp only [List.size_toArray] <;> omega)
 ·obtain ⟨its,r',pl,hz⟩:=I.tuple hq
  have hlen:=r'.length
  obtain ⟨o,ho,hc,n,hd⟩:=pl
  exact call_list_seq p (.inr rfl) ho hc hd (fun h' c' kp e=>fin its r' hz h' c' kp e) (by simp only [List.size_toArray] <;> omega)
theorem Zkw:CallR X (.type "tuple") (fun xs H Q=>∃ p ys,xs=[.ref p]∧((SqL X.K H p ys∧∀ l,H l=none→Q (.ref l) (upd H l (.tup ys)))∨(SqT X.K H p ys∧Q (.ref p) H))):=by
 intro pins s σ H xs us Q I r h
 obtain ⟨p,ys,rfl,h⟩:=h
 obtain ⟨u,rfl,rx⟩:=ZmQ r
 cases rx
 rcases h with ⟨hq,q⟩ | ⟨hq,q⟩
 ·obtain ⟨its,r',pl,hz⟩:=I.list hq
  have hlen:=r'.length
  refine call_tuple_list pl.isList (fun h' kp=>?_) (by simp only [List.size_toArray] <;> omega)
  have I1:Inv X pins σ H { s with heap:=h' }:=I.kept (t':=s.toks) kp
  have I2:Inv X pins σ (upd H h'.objs.size (.tup ys)) { s with heap:=h'.push { cls:=.type "tuple",data:=.seq its.toArray } } :=
   I1.laid (t':=s.toks) (fun b o e=>Heap.get?_push_of_some _ e) (Nat.le_refl _) (show ObjOk X.prog X.w _ _ _ (.tup ys) from ⟨hz,its,r',IsTup.new _ _⟩)
  exact ⟨.ref h'.objs.size,_,I2,rfl,q _ (I1.hok.fresh (Nat.le_refl _))⟩
 ·obtain ⟨its,r',pl,hz⟩:=I.tuple hq
  exact call_tuple_same pl ⟨.ref p,H,I,rfl,q⟩
def tyV (K:PySem.W.Frag) (T:String) (x:V) (H:Hp):Prop:=match x with
 | .str _=>T="str"
 | .int _=>T="int"
 | .ref p=>(T="list"∧∃ xs,SqL K H p xs)∨(T="tuple"∧∃ o,K.lookup p=some o∧o.cls=.type "tuple"∧o.dict=none) ∨
   (T="dict"∧((∃ kvs,H p=some (.dK kvs))∨∃ kvs,H p=some (.dT kvs)))∨(T="set"∧∃ S n,H p=some (.set S n))
 | _=>False
theorem Zv8 {pins:List (Addr×Obj)} {σ:St} {H:Hp} {s:Shared} {T:String} {x:V} {v:Value} (I:Inv X pins σ H s) (r:RelV x v) (ty:tyV X.K T x H) :
  s.TypeIs v T∧∀ a,v=.ref a→∃ ob,s.heap.get? a=some ob∧ob.dict=none:=by
 cases x with
 | str z =>
  obtain ⟨t,rfl⟩:=r
  cases (show T="str" from ty)
  exact ⟨typeIs_str s z t,fun _ e=>nomatch e⟩
 | int i =>
  obtain ⟨t,rfl⟩:=r
  cases (show T="int" from ty)
  exact ⟨typeIs_int s i t,fun _ e=>nomatch e⟩
 | ref p =>
  cases r
  rcases ty with ⟨rfl,xs,hq⟩ | ⟨rfl,o,hk,hc,hd⟩ | ⟨rfl,hk⟩ | ⟨rfl,S,n,hk⟩
  ·obtain ⟨its,_,pl,_⟩:=I.list hq
   refine ⟨pl.isList.typeIs,fun a e=>?_⟩
   cases e
   obtain ⟨o,n,e,c,hd,_⟩:=pl
   exact ⟨o,e,hd⟩
  ·refine ⟨⟨o,I.kIn p o hk,hc⟩,fun a e=>?_⟩
   cases e
   exact ⟨o,I.kIn _ o hk,hd⟩
  ·have z:∃ o,s.heap.get? p=some o∧o.ExactDict:=by
    rcases hk with ⟨kvs,hk⟩ | ⟨kvs,hk⟩
    ·obtain ⟨_,_,_,_,o,_,_,e,ex,_⟩:=I.hok p _ hk
     exact ⟨o,e,ex⟩
    ·obtain ⟨_,_,_,_,o,_,_,e,ex,_⟩:=I.hok p _ hk
     exact ⟨o,e,ex⟩
   obtain ⟨o,e,ex⟩:=z
   refine ⟨⟨o,e,ex.1⟩,fun a e2=>?_⟩
   cases e2
   exact ⟨o,e,ex.2.1⟩
  ·obtain ⟨o,_,_,_,e,ex,_⟩:=I.hok p _ hk
   refine ⟨⟨o,e,ex.1⟩,fun a e2=>?_⟩
   cases e2
   exact ⟨o,e,ex.2.1⟩
 | _=>exact False.elim ty
def tBM (K:PySem.W.Frag) (T:String) (r:V→List V→Hp→VK→Prop) (to:TE) (t:TA):TE:=fun σ H Q=>to σ H fun x H1=>tyV K T x H1∧t σ H1 fun xs H2=>r x xs H2 Q
variable {o e:Expr} {es:List Expr} {to:TE} {t:TA} {name:Str} {apos cpos:Pos} {T id:String} {r:V→List V→Hp→VK→Prop}
theorem Zz1 (pa:PlainAttrs T) (slot:Slot T name id) (hty:typeOf (.builtin id)=pure (.type "method_descriptor")) (hm:MtR X id r) (ho:PE X o to) (ha:PA X (e::es) t)
  (hbase:attributeBase o name X.env (eval o X.env)=eval o X.env:=by rfl)
  (hfew:((backTo cpos (starEach (e::es) X.env)).all (fun x=>!x.1)&&(backToKw cpos (keywordEach [] X.env)).all (fun x=>x.1.isSome)
   && decide ((e::es).length+([]:List Keyword).length+(if ([]:List Keyword).isEmpty then 0 else 1) < 30))=true:=by rfl)
  (hline:(apos.endLine==cpos.line)=true:=by rfl) (hs:starEach (e::es) X.env=(false,eval e X.env)::starEach es X.env:=by rfl) (hplain:(backTo cpos (starEach es X.env)).any (·.1)=false:=by rfl) :
  PE X (.Call (.Attribute o name apos) (e::es) [] cpos) (tBM X.K T r to t):=by
 intro pins s σ H Q I h
 refine wpAny_Call_method_late hbase hfew hline rfl (thn (ho pins s σ H _ I h) fun v s1 zz51=>?_)
 obtain ⟨x,H1,I1,r1,ty,q1⟩:=zz51
 obtain ⟨h1,h2⟩:=Zv8 I1 r1 ty
 refine ⟨T,id,pa,slot,hty,h1,h2,?_⟩
 have hA:=ha cpos pins s1 σ H1 _ I1 q1
 rw [hs] at hA ⊢
 refine Calls.callWith_builtin (by show (false||(backTo cpos (starEach es X.env)).any (·.1))=false;rw [hplain] <;> rfl) (Calls.evalArgs_plain ?_)
 exact thn hA (by rintro us s2 ⟨vs,H2,I2,r2,q2⟩;exact hm pins s2 σ H2 x vs v us Q I2 r1 r2 q2)
end
def MtM (X:Cx) (id:String) (r:V→List V→Hp→VK→Prop):Prop :=
 ∀ (pins:List (Addr×Obj)) (s:Shared) (σ:St) (H:Hp) (x:V) (xs:List V) (v:Value) (us:List Value) (Q:VK),Inv X pins σ H s→RelV x v→Vals xs us→r x xs H Q →
  wpAny (model X.prog X.w) X.A (call (.builtin id) (v::us)) (EP X pins σ Q) X.xe s
theorem Vals.one:∀ {x:V} {us:List Value},Vals [x] us→∃ u,us=[u]∧RelV x u
 | _,_,.cons r .nil=>⟨_,rfl,r⟩
theorem Vals.two:∀ {x y:V} {us:List Value},Vals [x,y] us→∃ u v,us=[u,v]∧RelV x u∧RelV y v
 | _,_,_,.cons r (.cons q .nil)=>⟨_,_,rfl,r,q⟩
theorem Vals.zero:∀ {us:List Value},Vals [] us→us=[]
 | _,.nil=>rfl
theorem Vals.eraseIdx:∀ {xs:List V} {us:List Value} (i:Nat),Vals xs us→Vals (xs.eraseIdx i) (us.eraseIdx i)
 | _,_,_,.nil=>.nil
 | _,_,0,.cons _ t=>t
 | _,_,i+1,.cons r t=>.cons r (Vals.eraseIdx i t)
section
variable {X:Cx} {pins:List (Addr×Obj)} {σ:St} {H:Hp} {s:Shared} {l b:Addr} {xs ys zs:List V}
theorem Inv.lset {its its':List Value} {n:Nat} {f:Array Value→Array Value} {t':Nat} (I:Inv X pins σ H s) (hH:H l=some (.lst xs))
  (e:s.heap.get? l=some { cls:=.type "list",data:=.seq its.toArray n }) (hf:f its.toArray=its'.toArray) (hv:Vals ys its') (hz:ys.length≤sizeLine) :
  Inv X pins σ (upd H l (.lst ys)) { s with heap:=s.heap.update l (Obj.mapSeq f),toks:=t' }:=by
 have q:=PySem.IsL.update e f
 rw [hf] at q
 refine I.write (x:=l) (e:=l) (by rw [hH];exact trivial) (.inl rfl) (fun b' u hb hu=>(Heap.get?_update_other s.heap (Obj.mapSeq f) (Ne.symm hb)).trans hu) ⟨_,q⟩ ?_
 exact ⟨hz,its',_,hv,q⟩
theorem Inv.lnew {its:List Value} {t':Nat} (I:Inv X pins σ H s) (hv:Vals ys its) (hz:ys.length≤sizeLine) :
  Inv X pins σ (upd H s.heap.objs.size (.lst ys)) { s with heap:=s.heap.push { cls:=.type "list",data:=.seq its.toArray },toks:=t' } :=
 I.laid (fun _ _ q=>Heap.get?_push_of_some _ q) (Nat.le_refl _) ⟨hz,its,0,hv,Heap.get?_push_size _ rfl⟩
theorem Inv.fresh (I:Inv X pins σ H s):H s.heap.objs.size=none:=I.hok.fresh (Nat.le_refl _)
theorem Inv.lstM (I:Inv X pins σ H s) (hH:H l=some (.lst xs)):xs.length≤sizeLine∧∃ (its:List Value) (n:Nat),Vals xs its∧xs.length=its.length∧s.heap.get? l=some { cls:=.type "list",data:=.seq its.toArray n }:=by
 obtain ⟨z,its,n,r,e⟩:=I.hok l _ hH
 exact ⟨z,its,n,r,r.length,e⟩
theorem ZsX {n:Nat} (h:n≤sizeLine):Builtin.List.listTooLong n=false:=by
 unfold Builtin.List.listTooLong
 exact decide_eq_false (by omega)
end
section
variable {X:Cx}
def Zvz:V→List V→Hp→VK→Prop:=fun x vs H Q=>∃ l xs y,x=.ref l∧vs=[y]∧H l=some (.lst xs)∧xs.length < sizeLine∧Q .non (upd H l (.lst (xs++[y])))
theorem ZpT:MtM X "list.append" Zvz:=by
 intro pins s σ H x vs v us Q I rx rv h
 obtain ⟨l,xs,y,rfl,rfl,hH,hz,q⟩:=h
 cases rx
 obtain ⟨u,rfl,ru⟩:=rv.one
 obtain ⟨z,its,n,r,hl,e⟩:=I.lstM hH
 refine call_meets F.slot_list_append ⟨_,e,rfl⟩ F.entry_list_append (F.args_list_append_2 _ _) (PySem.list_append l its.toArray n u (by rw [List.size_toArray];omega)) ⟨e,?_⟩
 refine ⟨.non,_,I.lset (its':=its++[u]) hH e (by simp) (r.append (.cons ru .nil)) ?_,rfl,q⟩
 rw [List.length_append,List.length_singleton]
 omega
def ZuV:V→List V→Hp→VK→Prop:=fun x vs H Q=>∃ l b xs zs,x=.ref l∧vs=[.ref b]∧H l=some (.lst xs)∧H b=some (.lst zs)∧xs.length+zs.length≤sizeLine∧Q .non (upd H l (.lst (xs++zs)))
theorem Zp9:MtM X "list.extend" ZuV:=by
 intro pins s σ H x vs v us Q I rx rv h
 obtain ⟨l,b,xs,zs,rfl,rfl,hH,hB,hz,q⟩:=h
 cases rx
 obtain ⟨u,rfl,ru⟩:=rv.one
 cases ru
 obtain ⟨z,its,n,r,hl,e⟩:=I.lstM hH
 obtain ⟨z2,its2,n2,r2,hl2,e2⟩:=I.lstM hB
 have hsz:its.toArray.size+its2.toArray.size≤sizeLine:=by rw [List.size_toArray,List.size_toArray];omega
 have hlong:¬ (!its.toArray.isEmpty&&Builtin.List.listTooLong (its.toArray.size+its2.toArray.size))=true:=by
  rw [ZsX hsz,Bool.and_false]
  exact Bool.false_ne_true
 refine call_meets F.slot_list_extend ⟨_,e,rfl⟩ F.entry_list_extend (F.args_list_extend_2 _ _)
  (AutoSeq1.list_extend_list_list_0 l its.toArray n b its2.toArray n2 hlong (by rw [List.size_toArray];omega) (by omega)) ⟨e,e2,?_⟩
 refine ⟨.non,_,I.lset (its':=its++its2) hH e (by simp) (r.append r2) ?_,rfl,q⟩
 rw [List.length_append]
 omega
def ZxF:R2:=fun x y H Q=>∃ l b xs zs,x=.ref l∧y=.ref b∧H l=some (.lst xs)∧H b=some (.lst zs)∧xs.length+zs.length≤sizeLine∧∀ p,H p=none→Q (.ref p) (upd H p (.lst (xs++zs)))
theorem Zxg:OpR X (binaryOp .Add) ZxF:=by
 walk_at "pc"
 obtain ⟨l,b,xs,zs,rfl,rfl,hH,hB,hz,q⟩:=h
 cases rx
 cases ry
 obtain ⟨z,its,n,r,hl,e⟩:=I.lstM hH
 obtain ⟨z2,its2,n2,r2,hl2,e2⟩:=I.lstM hB
 refine PySem.P.add_list e e2 ?_ (by rw [List.size_toArray,List.size_toArray];omega)
 have ea:its.toArray++its2.toArray=(its++its2).toArray:=by simp
 rw [ea]
 exact ⟨.ref _,_,I.lnew (t':=s.toks) (r.append r2) (by rw [List.length_append];omega),rfl,q _ I.fresh⟩
end
section
variable {prog:Program} {w:World} {A:Around} {E:Value→Shared→Prop} {s:Shared}
end
section
variable {X:Cx}
end
end L2
namespace Att
open PySem PySem.W PySem.Calls PyProof.Rows
theorem ZiC {P:Params} {h:Heap}:∀ (ns:List Int) (vs:List Value),WellAll P h vs (ns.map WData.int)→IntsAre vs ns:=by
 intro ns
 induction ns with
 | nil =>
  intro vs w
  rw [List.map_nil] at w
  cases w
  exact .nil
 | cons n ns ih =>
  intro vs w
  rw [List.map_cons] at w
  cases w with
  | cons a b =>
   cases a
   exact .cons _ _ (ih _ b)
theorem Zp5 {l:OpenLaw} {n:Nat} (hn:l.most=some n) {P:Params} {h:Heap} {args:List WData} {vals:List Value}
  (hpre:l.row.toRowW.claim.pre args=true) (hwl:WellAll P h vals args) :
  ∃ a vs ns,vals=[Value.ref a]∧args=[WData.list (ns.map WData.int)]∧h.get? a=some { cls:=.type "list",data:=.seq vs.toArray }∧IntsAre vs ns∧ns.length≤n:=by
 have hsh:WShape.hasAll [] args [.list .int]=true:=(pre_splitW hpre).1
 have hc:l.pre.holds [] { args:=args }=true:=(pre_splitW hpre).2
 obtain ⟨d,r,rfl,h1,h2⟩:=hasAllW_cons hsh
 obtain rfl:=hasAllW_nil h2
 obtain ⟨xs,rfl,h3⟩:=hasW_list h1
 obtain ⟨ns,rfl⟩:=items_int h3
 have hlen:ns.length≤n:=by
  unfold OpenLaw.pre at hc
  have h4:(WTm.not (.lt (.lit (.int (n:Int))) (.len (.arg 0)))).holds [] { args:=[.list (ns.map .int)] }=true:=by
   have h4:=(holds_andW hc).1
   rw [hn] at h4
   exact h4
  have h5:=condW_of h4 (w_not (w_lt w_lit (w_len_list (w_arg rfl))))
  rw [List.length_map] at h5
  refine Nat.le_of_not_lt fun q=>?_
  have q':(n:Int) < ((ns.length:Nat):Int):=by omega
  first
   | (rw [decide_eq_true q'] at h5;exact absurd h5 (by decide))
   | (simp at h5;omega)
 cases hwl with
 | cons w1 w2 =>
  cases w2
  cases w1 with
  | list ho hall=>exact ⟨_,_,ns,rfl,rfl,ho,ZiC ns _ hall,hlen⟩
theorem Zqb (l:OpenLaw) (args:List WData):l.row.toRowW.claim.post args (.bool true) args=true :=
 postW_of (r:=l.row.toRowW) (X:=(true==true))
  (show WShape.has [] (.bool true) .bool=true by first | rfl | decide | simp [WShape.has,WShape.arms,WShape.armsAll])
  (show (WTm.eq .res (.lit (.bool true))).value [] { args:=args,res:=some (.bool true),after:=args }=some (.bool (true==true)) from w_eq_bool (w_res rfl) w_lit) rfl
theorem attach_call {l:OpenLaw} {n:Nat} {q:Program} {loose:List Str} {XP:(Str→Option Value)→Heap→Prop} {YP:World→Heap→Prop} {d:DefRec}
  (hn:l.most=some n) (hdf:d.params.defaults=[])
  (call:∀ (w:World) (s₀ s₁:Shared) (mg mb:Str→Option Value) (fa:Addr) (o:Obj) (pm cd doc:Value) (a:Addr) (vs:List Value) (ns:List Int),
   Ground q loose [] XP w s₀ mg mb s₁.heap→YP w s₁.heap →
   s₁.heap.get? fa=some o→o.data=.func (docDef d.name d.params d.body d.scope pm cd doc)→s₁.heap.CodeRec cd d.name→mg d.name=some (.ref fa) →
   s₁.heap.get? a=some { cls:=.type "list",data:=.seq vs.toArray }→IntsAre vs ns→ns.length≤n→s₁.gens=#[] →
   codeAny (model l.prog w) callerA (.call (.ref fa) ⟨[.ref a],[]⟩) (fun r s'=>r=.ok (.ret (.bool true))∧OldK s₁.heap s'.heap∧s'.os=s₁.os∧AllBare s'.gens) s₁) :
  WalkO q loose XP YP l.row.toRowW d [] (fun f vs=>PySem.call f vs):=by
 intro w s₀ s₁ mg mb G Y fa o pm cd doc dV kV ho hd hcd hD hmg hg args vals as hpre hlay hrd hwl hlo
 obtain rfl:dV=.none:=Dflts.none hD hdf
 obtain rfl:kV=.none:=Dflts.noKw hD
 obtain ⟨a,vs,ns,rfl,rfl,hobj,hints,hlen⟩:=Zp5 hn hpre hwl
 refine enter_call (codeAny_mono (call w s₀ s₁ mg mb fa o pm cd doc a vs ns G Y ho (fd_plain hd) hcd hmg hobj hints hlen hg) fun r s' hq=>?_)
 obtain ⟨rfl,h2,h3,h4⟩:=hq
 exact ⟨.inl ⟨.bool true,.bool true,[],rfl,fun _=>rfl,.bool true,Zqb l _,fun _=>⟨List.Pairwise.nil,fun _ hm=>(nomatch hm)⟩⟩,h2,h3,h4⟩
section
variable {prog:Program} {w:World} {A:Around} {E:Value→Shared→Prop} {s:Shared} {K:Frag}
end
end Att
namespace L2
open PySem PySem.Spec PyProof.Rows
theorem ZlA:∀ {vs:List Value} {ns:List Int},IntsAre vs ns→Vals (ns.map V.int) vs
 | _,_,.nil=>.nil
 | _,_,.cons n t h=>.cons ⟨t,rfl⟩ (ZlA h)
def ZyM (H:Hp):Prop:=∀ b,H b=none∨∃ o xs,H b=some (.frz o (.lst xs))
theorem Zsn {P:Program} {w:World} {K:PySem.W.Frag} {mg mb:Str→Option Value} {CX:CXT} {k:Nat} {fa a:Addr} {fd:FuncData} {x:Str} {sp:Sp} {s₁:Shared} {vs:List Value} {ns:List Int}
  (KX:K.In s₁.heap) (hns:s₁.heap.Ns mainGlobals mg) (hb:s₁.heap.Ns builtinsNs mb) (hbb:∀ x:Str,x≠"__name__"→mb x=bootBuiltins x) (hlim:s₁.heap.NoLimit) (hg:s₁.gens=#[])
  (ha:s₁.heap.get? a=some { cls:=.type "list",data:=.seq vs.toArray }) (hi:IntsAre vs ns) (hl:ns.length≤sizeLine) (hr:Room k callerA)
  (F:∀ base:Heap,K.In base→base.Ns mainGlobals mg→FnOk P w K mg base CX k fa fd [x] sp) (hbind:∀ (s:Shared) (u:Value),BindsTo s fd ⟨[u],[]⟩ [(x,u)])
  (hsp:∀ H:Hp,ZyM H→SqL K H a (ns.map V.int)→sp [.ref a] H (fun v _=>v=.bl true) fun _ _ _=>False)
  (hCX:∀ H e s',CX [] H s₁ (fun _ _ _=>False) e s'→False) :
  codeAny (model P w) callerA (.call (.ref fa) ⟨[.ref a],[]⟩) (fun r s'=>r=.ok (.ret (.bool true))∧OldK s₁.heap s'.heap∧s'.os=s₁.os∧AllBare s'.gens) s₁:=by
 have rv:=ZlA hi
 have lenV:=hi.length
 have core:∀ H:Hp,ZyM H→SqL K H a (ns.map V.int)→HOk P w H s₁.heap→(∀ b,H b≠none→b=a)→(H a≠none→K.lookup a=none) →
   codeAny (model P w) callerA (.call (.ref fa) ⟨[.ref a],[]⟩) (fun r s'=>r=.ok (.ret (.bool true))∧OldK s₁.heap s'.heap∧s'.os=s₁.os∧AllBare s'.gens) s₁:=by
  intro H hO hS hok hA hK
  have base_of:∀ {b:Addr} {o:Obj},s₁.heap.get? b=some o→H b=none→(ZrI s₁.heap H).get? b=some o:=fun e n=>Zsg e n
  have noA:∀ {b:Addr} {o:Obj} {es:Array DictEntry} {ep:Nat},s₁.heap.get? b=some o→o.data=.dict es ep→H b=none:=fun {b o es ep} e d=>by
   cases q:H b with
   | none=>rfl
   | some u =>
    have e':b=a:=hA b (by rw [q];simp)
    subst e'
    rw [ha] at e;cases e
    have d':Data.seq vs.toArray _=Data.dict es ep:=d
    cases d'
  have nsK:∀ {b:Addr} {m:Str→Option Value},s₁.heap.Ns b m→(ZrI s₁.heap H).Ns b m:=fun {b m} ⟨o,es,ep,e,d,r⟩=>⟨o,es,ep,base_of e (noA e d),d,r⟩
  have hKb:K.In (ZrI s₁.heap H):=fun b o e=>base_of (KX b o e) (by
   cases q:H b with
   | none=>rfl
   | some u =>
    have e':b=a:=hA b (by rw [q];simp)
    subst e'
    rw [hK (by rw [q];simp)] at e;cases e)
  have hM:Mod K mg (ZrI s₁.heap H):=⟨hKb,nsK hns,⟨mb,nsK hb,hbb⟩,let ⟨mc,h1,h2⟩:=hlim;⟨mc,nsK h1,h2⟩⟩
  have e0:Env0 P w K mg (ZrI s₁.heap H) callerA [] s₁ H:=⟨rfl,hM,fun b o e=>Zu9 e,Nat.le_of_eq (Zp0 _ _),trivial,fun b hb=>absurd (show b∈([]:List Addr) from hb) (by simp),hok,.of_eq hg⟩
  refine codeAny_mono ((F _ hKb (nsK hns)).run callerA [] s₁ H ⟨[.ref a],[]⟩ [.ref a] [.ref a] _ _ hr e0 (hbind s₁ (.ref a)) (.cons rfl .nil) (hsp H hO hS)) fun r s' h=>?_
  cases r with
  | error e=>exact (hCX H e s' h).elim
  | ok fl =>
   cases fl with
   | next=>exact False.elim h
   | brk=>exact False.elim h
   | cont=>exact False.elim h
   | ret u =>
    obtain ⟨v,H',os,bare,un,hok',r',q⟩:=h
    have q':v=.bl true:=q
    subst q'
    obtain rfl:u=Value.bool true:=r'
    refine ⟨rfl,OldK.of_keep fun b o e=>?_,os,bare⟩
    cases q:H b with
    | none=>exact un.keep b o e q (by intro z;exact absurd (show b∈([]:List Addr) from z) (by simp)) (by simp)
    | some u =>
     rcases hO b with z | ⟨ob,xs,z⟩
     ·rw [q] at z;cases z
     ·have z2:=un.frzs b ob _ z
      obtain ⟨e1,_⟩:=hok b _ z
      obtain ⟨e2,_⟩:=hok' b _ z2
      rw [e] at e1;cases e1
      exact e2
 cases hk:K.lookup a with
 | some o =>
  have e:=KX a o hk
  rw [ha] at e
  cases e
  refine core (fun _=>none) (fun _=>.inl rfl) (.inr ⟨_,vs.toArray,_,hk,rfl,rfl,rfl,by rw [List.size_toArray,lenV];exact hl,by simpa using rv⟩) (fun b u z=>by have z':(none:Option HO)=some u:=z;cases z') (fun b z=>absurd rfl z) fun z=>absurd rfl z
 | none =>
  refine core (fun b=>if b=a then some (.frz { cls:=.type "list",data:=.seq vs.toArray } (.lst (ns.map V.int))) else none) (fun b=>?_) (.inl (.inr ⟨{ cls:=.type "list",data:=.seq vs.toArray },if_pos rfl⟩)) (fun b u z=>?_) (fun b z=>?_) fun _=>hk
  ·by_cases hb:b=a
   ·exact .inr ⟨_,_,if_pos hb⟩
   ·exact .inl (if_neg hb)
  ·by_cases hb:b=a
   ·have z':=(if_pos hb).symm.trans z
    cases z'
    subst hb
    exact ⟨ha,by rw [List.length_map];exact hl,vs,_,rv,ha⟩
   ·have z':=(if_neg hb).symm.trans z
    cases z'
  ·by_cases hb:b=a
   ·exact hb
   ·exact absurd (if_neg hb) z
abbrev KOf {K:PySem.W.Frag} {h:Heap} (_:K.In h):PySem.W.Frag:=K
theorem Zvy {l:PySem.W.OpenLaw} {n k:Nat} {q:Program} {loose:List Str} {XP:(Str→Option Value)→Heap→Prop} {YP:World→Heap→Prop} {d:DefRec} {K:Params→PySem.W.Frag} {CX:World→CXT} {sp:World→Sp} {x:Str}
  (hn:l.most=some n) (hn2:n≤sizeLine) (hdf:d.params.defaults=[]) (hr:Room k callerA)
  (hY:∀ (w:World) (h:Heap),YP w h→(K w.params).In h)
  (F:∀ (w:World) (mg:Str→Option Value) (fa:Addr) (h:Heap),(K w.params).In h→h.Ns mainGlobals mg→mg d.name=some (.ref fa) →
   ∃ fd:FuncData,(∀ (s:Shared) (u:Value),BindsTo s fd ⟨[u],[]⟩ [(x,u)]) ∧
    ∀ base:Heap,(K w.params).In base→base.Ns mainGlobals mg→FnOk l.prog w (K w.params) mg base (CX w) k fa fd [x] (sp w))
  (hsp:∀ (w:World) (H:Hp) (a:Addr) (ns:List Int),ns.length≤n→ZyM H→SqL (K w.params) H a (ns.map V.int)→sp w [.ref a] H (fun v _=>v=.bl true) fun _ _ _=>False)
  (hCX:∀ (w:World) (H:Hp) (s:Shared) (e:Value) (s':Shared),CX w [] H s (fun _ _ _=>False) e s'→False) :
  PySem.W.WalkO q loose XP YP l.row.toRowW d [] (fun f vs=>PySem.call f vs):=by
 refine Att.attach_call hn hdf fun w s₀ s₁ mg mb fa o pm cd doc a vs ns G Y ho hd hcd hmg hobj hints hlen hg=>?_
 have KX:=hY w _ Y
 obtain ⟨fd,hb,hF⟩:=F w mg fa _ KX G.T.g hmg
 exact Zsn KX G.T.g G.T.b G.T.builtins G.T.nolimit hg hobj hints (Nat.le_trans hlen hn2) hr hF hb (fun H hO hS=>hsp w H a ns hlen hO hS) fun H e s'=>hCX w H s₁ e s'
abbrev CX0:CXT:=fun _ _ _ _ _ _=>False
abbrev E0:XK:=fun _ _ _=>False
structure Fun (K:PySem.W.Frag) (x qual:Str) (st:Stmt) (f:Addr) (fd:FuncData):Prop where
 ex:∃ (oc:Value) (od:Option Addr) (kV doc pm:Value) (an:Option Addr) (cdv ct:Value) (osl:Array (Option Value)),
  fd=PySem.W.fnOf x qual (ZeX st) (Zbe st) (Zae st) .none kV doc pm an cdv ct∧K.lookup f=some ⟨oc,od,.func fd,osl⟩∧PySem.W.codeIn K cdv qual=true
 kp:PySem.W.keepIn K (.ref f)=true
section
variable {P:Program} {w:World} {K:PySem.W.Frag} {mg:Str→Option Value} {base:Heap}
theorem Fun.ok {x qual:Str} {st:Stmt} {f:Addr} {fd:FuncData} {N ps:List Str} {k:Nat} {sp:Sp} (F:Fun K x qual st f fd) (S:Zap N ps (Zae st)) (len:∀ vs H Q E,sp vs H Q E→vs.length=ps.length)
  (hbody:∀ (cdv:Value) (A:Around) (outer:List Env) (s:Shared) (H:Hp) (vs:List V) (Q:VK) (E:XK),Room k (A.deeper (envOfC qual (Zae st) s.heap.objs.size f cdv))→sp vs H Q E →
   ∃ t,PSs (ZhZ CX0 P w K mg base N qual (Zae st) f cdv A outer s H E).nox (Zbe st) t∧t { nx:=fun _ H'=>Q .non H',rt:=Q } (ZgA N vs) H):FnOk P w K mg base CX0 (k+1) f fd ps sp:=by
 walk_at "pi"
 refine Zs1 lk hcd S len fun A outer s H vs Q E hr hsp=>?_
 obtain ⟨t,h,q⟩:=hbody cdv A outer s H vs Q E hr hsp
 exact ⟨t,h.nox,q⟩
theorem Fun.binds {x qual:Str} {st:Stmt} {f:Addr} {fd:FuncData} {ps:List Str} (F:Fun K x qual st f fd)
  (h:∀ (kV doc pm:Value) (an:Option Addr) (cdv ct:Value) (us:List Value),us.length=ps.length→bindArgs (PySem.W.fnOf x qual (ZeX st) (Zbe st) (Zae st) .none kV doc pm an cdv ct) ⟨us,[]⟩=pure (ps.zip us)):Binds K fd ps []:=by
 walk_at "pi"
 exact .all (h kV doc pm an cdv ct)
theorem Zth {x qual:Str} {st:Stmt} {f:Addr} {oc:Value} {od an:Option Addr} {osl:Array (Option Value)} {kV doc pm cdv ct:Value} (l:K.lookup f=some ⟨oc,od,.func (PySem.W.fnOf x qual (ZeX st) (Zbe st) (Zae st) .none kV doc pm an cdv ct),osl⟩)
  (c:PySem.W.codeIn K cdv qual=true) (k:PySem.W.keepIn K (.ref f)=true):Fun K x qual st f (PySem.W.fnOf x qual (ZeX st) (Zbe st) (Zae st) .none kV doc pm an cdv ct):=⟨⟨oc,od,kV,doc,pm,an,cdv,ct,osl,rfl,l,c⟩,k⟩
end
section
variable {X:Cx}
end
theorem ZAt {c A B:Prop} [Decidable c] (h1:c→A) (h2:¬ c→B):if c then A else B:=by
 by_cases h:c
 ·rw [if_pos h]
  exact h1 h
 ·rw [if_neg h]
  exact h2 h
def Same (H H':Hp):Prop:=∀ b o,H b=some o→H' b=some o
theorem Same.refl (H:Hp):Same H H:=fun _ _ h=>h
theorem Same.trans {H H1 H2:Hp} (a:Same H H1) (b:Same H1 H2):Same H H2:=fun c o h=>b c o (a c o h)
theorem Same.free {H H':Hp} (e:Same H H') {l:Addr} (h:H' l=Option.none):H l=Option.none:=by
 cases q:H l with
 | none=>rfl
 | some o =>
  rw [e l o q] at h
  cases h
theorem Same.seq {K:PySem.W.Frag} {H H':Hp} {a:Addr} {xs:List V} (e:Same H H') (h:SqL K H a xs):SqL K H' a xs:=by
 rcases h with (h | ⟨o,h⟩) | h
 ·exact .inl (.inl (e _ _ h))
 ·exact .inl (.inr ⟨o,e _ _ h⟩)
 ·exact .inr h
section
variable {prog:Program} {w:World} {A:Around} {R:Result→Shared→Prop} {s:Shared}
theorem ZgI {elt target iter:Expr} {ifs:List Expr} {scope:Scope} {pos:Pos} {it acc:Value} {env:Env} {E':Value→Shared→Prop} (I:Nat→Shared→Prop)
  (hE:∀ e s',E' e s'→notedBy (model prog w) A env (fun e s'=>R (.error e) s') e s')
  (turn:∀ n s,I n s→wpAny (model prog w) A (pyNext it) (fun r s₁=>match r with
   | none=>R (.ok .next) s₁
   | some v=>wpAny (model prog w) A (letOwnedTupleGo target it v) (fun _ s₁'=>wpAny (model prog w) A (assign target env v) (fun _ s₂ =>
     wpAny (model prog w) A (forIn ifs true fun c r=>if r=true then do let ok ← isTrue c env (eval c env);pure (ForInStep.yield ok) else pure (ForInStep.yield r)) (fun ok s₃ =>
      if ok=true then wpAny (model prog w) A (eval elt env) (fun x s₄ =>
       wpAny (model prog w) A (call (.builtin "list.append") [acc,x]) (fun _ s₅=>∃ m,m < n∧I m s₅) E' s₄) E' s₃
      else ∃ m,m < n∧I m s₃) E' s₂) E' s₁') E' s₁) E' s)
  (n:Nat) (h:I n s) :
  codeAny (model prog w) A (.compLoop (.ListComp elt [⟨target,iter,ifs,0⟩] scope pos) 0 it acc env) R s:=by
 refine codeAny_loop rfl I (fun n s hI=>?_) n h
 show wpAny _ A ((compTurn (.ListComp elt [⟨target,iter,ifs,0⟩] scope pos) 0 it acc env).onRaise (fun x=>do noteFrame x env;theTreesLotGoes x)) _ _ s
 refine wpAny_noted ?_
 rw [compTurn_list]
 refine wpAny_bind (wpAny_standAt (wpAny_bind (wpAny_mono (turn n s hI) (fun r s₁ h₁=>?_) hE)))
 cases r with
 | none=>exact wpAny_pure h₁
 | some v =>
  refine wpAny_bind (wpAny_mono h₁ (fun _ s₁' h₁'=>?_) hE)
  refine wpAny_bind (wpAny_mono h₁' (fun _ s₂ h₂=>wpAny_bind (wpAny_mono h₂ (fun ok s₃ h₃=>?_) hE)) hE)
  cases ok with
  | false=>exact wpAny_pure ⟨rfl,h₃⟩
  | true =>
   exact wpAny_bind (wpAny_bind (wpAny_mono h₃ (fun x s₄ h₄=>wpAny_bind (wpAny_mono h₄ (fun _ s₅ h₅=>wpAny_pure (wpAny_pure ⟨rfl,h₅⟩)) hE)) hE))
end
def PF (X:Cx) (ifs:List Expr) (t:TT):Prop :=
 ∀ (pins:List (Addr×Obj)) (s:Shared) (σ:St) (H:Hp) (Q:Bool→Hp→Prop),Inv X pins σ H s→t σ H Q →
  wpAny (model X.prog X.w) X.A (forIn ifs true fun c r=>if r=true then do let ok ← isTrue c X.env (eval c X.env);pure (ForInStep.yield ok) else pure (ForInStep.yield r)) (TP X pins σ Q) X.xe s
def ZAO:TT:=fun _ H Q=>Q true H
theorem Zxn {X:Cx}:PF X [] ZAO:=fun _ _ _ H _ I h=>wpAny_tests_nil ⟨H,I,h⟩
theorem Zxl {X:Cx} {c:Expr} {t:TT} (hc:PT X c t):PF X [c] t:=fun pins s σ H Q I h=>wpAny_tests_one (hc pins s σ H Q I h)
def cxB (X:Cx) (Nc:List Str) (scope:Scope) (cl:List (Str×Addr)) (C:Addr) (fp:List Addr) (s:Shared) (H:Hp):Cx :=
 { X with N:=Nc,s₀:=s,H₀:=H,env:=compEnvC scope cl C X.env,outer:=X.stack,ex:=fp,fn:=fun _=>false,pn:=[],xe:=fun _ _=>False }
structure Blk (X:Cx) (Nc:List Str) (scope:Scope) (cl:List (Str×Addr)) (cap:St→St):Prop where
 clos:closureFor scope X.env=pure cl
 kind:scope.kind=.function
 names:∀ x∈scope.names,x.2=.local→scope.names.lookup x.1=some .local
 nocell:∀ y∈scope.names,y.2≠.cell
 sub:∀ y c,cl.lookup y=some c→X.env.cells.lookup y=some c
 has:∀ y,((relabel scope X.env).names.lookup y=some .cell∨(relabel scope X.env).names.lookup y=some .free)→∃ c,cl.lookup y=some c
 take:∀ (σ:St) (i:Nat) (y:Str) (v:V),Nc[i]?=some y→(cap σ)[i]?=some (some v)→Vis (relabel scope X.env) y →
  ((relabel scope X.env).names.lookup y=some .cell∨(relabel scope X.env).names.lookup y=some .free)∧Vis X.env.scope y∧X.env.scope.names.lookup y≠some .local∧∃ j:Nat,X.N[j]?=some y∧σ[j]?=some (some v)
 len:∀ σ:St,(cap σ).length=Nc.length
theorem Zjh {scope:Scope} {env:Env} (h:∀ y∈scope.names,y.2≠.free):relabel scope env=scope:=by
 unfold relabel
 rw [map_eq_self (l:=scope.names) (fun x hx=>by
  obtain ⟨n,k⟩:=x
  have:(k==NameKind.free)=false:=by simpa using h _ hx
  simp [this])]
theorem Zgz {names:List (Str×NameKind)} {x:Str} {k:NameKind} (h:names.lookup x=some k):(x,k)∈names:=PySem.mem_of_lookup h
theorem Ztn {X:Cx} {Nc:List Str} {scope:Scope} (kind:scope.kind=.function) (all:∀ y∈scope.names,y.2≠.free∧y.2≠.cell) (names:∀ x∈scope.names,x.2=.local→scope.names.lookup x.1=some .local) :
  Blk X Nc scope [] (fun _=>List.replicate Nc.length none) where
 clos:=closureFor_none fun x hx=>(all x hx).1
 kind:=kind
 names:=names
 nocell:=fun y hy=>(all y hy).2
 sub:=fun y c h=>by cases h
 has:=fun y h=>by
  rw [Zjh fun z hz=>(all z hz).1] at h
  rcases h with h | h
  ·exact absurd rfl (all _ (Zgz h)).2
  ·exact absurd rfl (all _ (Zgz h)).1
 take:=fun σ i y v h1 h2 h3=>by
  rw [List.getElem?_replicate] at h2
  split at h2 <;> cases h2
 len:=fun σ=>List.length_replicate ..
def cOk (cap:St→St) (g:TG) (tt:TT) (te:TE) (K:List V→Hp→Prop) (σ:St) (J:It) (H1:Hp):Prop :=
 ∃ W:Nat→Nat→St→Hp→List V→Prop,(∃ m,W 0 m (cap σ) H1 [])∧∀ i m σ' H' ys,W i m σ' H' ys →
  (J.stop i H'∧K ys H') ∨
  (J.go i H'∧ys.length < sizeLine∧∃ N:St→Hp→List V→Prop,(∀ σ2 H2 ys2,N σ2 H2 ys2→∃ m',m' < m∧W (i+1) m' σ2 H2 ys2) ∧
   ∀ x H2,J.yld i H' x H2→g x σ' H2 fun σ3 H3=>tt σ3 H3 fun b H4=>if b=true then te σ3 H4 fun y H5=>N σ3 H5 (ys++[y]) else N σ3 H4 ys)
def ZrU (wi:TI) (cap:St→St) (g:TG) (tt:TT) (te:TE):TE:=fun σ H Q=>wi σ H fun J H1=>cOk cap g tt te (fun ys H'=>∀ a,H' a=none→Q (.ref a) (upd H' a (.lst ys))) σ J H1
section
variable {X:Cx} {elt tg iter:Expr} {ifs:List Expr} {scope:Scope} {pos:Pos} {g:TG} {tt:TT} {te:TE} {Nc:List Str} {cap:St→St} {cl:List (Str×Addr)}
theorem ZjL (hc:X.calm=true) (B:Blk X Nc scope cl cap) (hg:∀ C fp s H,PG (cxB X Nc scope cl C fp s H) tg g) (ht:∀ C fp s H,PF (cxB X Nc scope cl C fp s H) ifs tt) (he:∀ C fp s H,PE (cxB X Nc scope cl C fp s H) elt te)
  {pins:List (Addr×Obj)} {σ:St} {H2:Hp} {s2:Shared} {E:Value→Shared→Prop} {RR:Value→Addr→Result→Shared→Prop} {J:It} {fp:List Addr} {it:Addr} {tn:Nat→Heap→Prop} {K:List V→Hp→Prop}
  (I2:Inv X pins σ H2 s2) (T:Zrn X.prog X.w X.K tg J fp it tn) (st2:tn 0 s2.heap) (f2:∀ b∈fp,Zpy X pins H2 b) (w2:cOk cap g tt te K σ J H2)
  (fin:∀ (D C:Addr) (s':Shared) (H':Hp) (ys:List V) (oC:Obj),H' D=none→K ys H'→Inv X pins σ (upd H' D (.lst ys)) s'→Zpy X pins (upd H' D (.lst ys)) C→s'.heap.get? C=some oC→(∀ v,oC.data≠.cell v)→(∃ m,s'.heap.Ns C m)→RR (.ref D) C (.ok .next) s') :
  wpAny (model X.prog X.w) X.A (newList []) (fun acc s₃=>wpAny (model X.prog X.w) X.A (newFunctionEnv scope X.env.globals cl [] X.env.qual none .none (some X.env)) (fun cenv s₄ =>
   codeAny (model X.prog X.w) X.A (.compStart (.ListComp elt [⟨tg,iter,ifs,0⟩] scope pos) 0 (.ref it) acc { cenv with scope:=relabel scope X.env }) (RR acc cenv.locals) s₄) E s₃) E s2:=by
 refine wpAny_newObj_type (wpAny_newFunctionEnv B.nocell (by intro y hy;simp at hy) (fun h₁ hns₁ hsb₁=>?_) B.kind)
 dsimp only at hns₁ hsb₁ ⊢
 generalize hP2:s2.heap.push { cls:=.type "list",dict:=none,data:=.seq ([]:List Value).toArray }=P2 at hns₁ hsb₁ ⊢
 generalize hDD:s2.heap.objs.size=D at hns₁ hsb₁ ⊢
 have hCs:P2.objs.size=D+1:=by rw [← hP2,Heap.size_push,hDD]
 generalize hCC:P2.objs.size=C at hns₁ hsb₁ hCs ⊢
 have hDC:D≠C:=Nat.ne_of_lt (by rw [hCs];exact Nat.lt_succ_self _)
 have ltC:∀ b:Addr,b < D→b≠C:=fun b h=>Nat.ne_of_lt (by rw [hCs];exact Nat.lt_succ_of_lt h)
 have leC:D≤C:=by rw [hCs];exact Nat.le_succ _
 have old:∀ b o,s2.heap.get? b=some o→h₁.get? b=some o:=fun b o e=>by
  have hb:=Heap.lt_size e
  rw [hDD] at hb
  refine hsb₁.extBut b o (ltC b hb) (Heap.get?_push_of_some _ ?_)
  rw [← hP2]
  exact Heap.get?_push_of_some _ e
 have hacc:h₁.get? D=some { cls:=.type "list",data:=.seq #[] }:=by
  refine hsb₁.extBut D _ hDC (Heap.get?_push_of_some _ ?_)
  rw [← hP2,← hDD]
  exact Heap.get?_push_size _ rfl
 have lt2:∀ b o,s2.heap.get? b=some o→b < D:=fun b o e=>by rw [← hDD];exact Heap.lt_size e
 have fplt:∀ b∈fp,b < D:=fun b hb=>by
  obtain ⟨o,e,_⟩:=T.obj _ _ st2 b hb
  exact lt2 b o e
 have celt:∀ x c,X.env.cells.lookup x=some c→c < D:=fun x c e=>by
  obtain ⟨v,z⟩:=I2.cell x c e
  rw [← hDD]
  exact z.lt
 have pinlt:∀ p∈X.pn++pins,p.1 < D:=fun p hp=>lt2 _ _ (I2.pin p hp).1
 have fstk:∀ b∈fp,b∉frs X.stack:=fun b hb z=>(List.mem_cons.mp (I2.stkSub b z)).elim (f2 b hb).2.1 (f2 b hb).2.2.1
 have hDn:H2 D=none:=I2.hok.fresh (by rw [hDD];exact Nat.le_refl _)
 have hCn:H2 C=none:=I2.hok.fresh (by rw [hDD];exact leC)
 have sz0:X.s₀.heap.objs.size≤D:=by rw [← hDD];exact I2.sz
 let Xc:=cxB X Nc scope cl C fp s2 H2
 have okc:Xc.Ok:=by
  refine ⟨I2.ok.mod,?_,I2.ok.glob,I2.ok.blt,?_,fun x y c h1 h2=>I2.ok.inj x y c (B.sub x c h1) (B.sub y c h2),fun x hx=>B.has x hx,(fun x c h=>by cases h),I2.ok.hd,I2.ok.frames,.inl rfl,?_,I2.bs,Nat.le_trans I2.ok.bsz I2.sz,?_,fstk,I2.stack,I2.stkFree⟩
  ·exact B.kind
  ·show s2.heap.objs.size≤C
   rw [hDD];exact leC
  ·intro b hb
   refine ⟨?_,fun x c e=>?_⟩
   ·exact ltC b (fplt b hb)
   ·exact (f2 b hb).2.2.2.2.1 x c (B.sub x c e)
  ·intro b o e hb
   rcases (f2 b hb).2.2.2.1 with z | z
   ·exact I2.ok.noex b o e z
   ·exact absurd (Nat.lt_of_lt_of_le (Heap.lt_size (I2.ok.bs b o e).1) z) (Nat.lt_irrefl _)
 have I0:∀ tk,Inv Xc (X.pn++pins) (cap σ) H2 { s2 with heap:=h₁,toks:=tk }:=fun tk=>by
  refine ⟨okc,rfl,I2.bare,Un.kept old,⟨_,hns₁,fun i y v h1 h2 h3=>?_⟩,fun x c e=>?_,hCn,fun x c e=>I2.freeC x c (B.sub x c e),fun p hp=>?_,I2.hok.kept old,B.len σ⟩
  ·obtain ⟨k1,k2,k3,j,k4,k5⟩:=B.take σ i y v h1 h2 h3
   obtain ⟨m,hn,hl⟩:=I2.loc
   obtain ⟨u,r,l⟩:=hl j y v k4 k5 k2
   refine ⟨u,r,.inr ⟨k1,?_⟩⟩
   rcases l with ⟨l,_⟩ | ⟨_,c,e,z⟩
   ·exact absurd l k3
   ·obtain ⟨c',e'⟩:=B.has y k1
    have:=B.sub y c' e'
    rw [e] at this;cases this
    obtain ⟨oc,ec,dc⟩:=z
    exact ⟨c,e',oc,old _ _ ec,dc⟩
  ·obtain ⟨v,oc,ec,dc⟩:=I2.cell x c (B.sub x c e)
   exact ⟨v,oc,old _ _ ec,dc⟩
  ·have hp':p∈X.pn++pins:=by simpa [Xc,cxB] using hp
   obtain ⟨e,n,ne,nf,d⟩:=I2.pin p hp'
   exact ⟨old _ _ e,n,ltC _ (pinlt p hp'),fun z=>(List.mem_cons.mp (I2.stkSub _ z)).elim ne nf,d⟩
 have fpc:∀ {H':Hp} {o:Obj},(∀ b∈fp,H' b=none)→∀ b∈fp,Zpy Xc ((X.pn++pins)++[(D,o)]) H' b:=fun {H' o} hn b hb=>by
  refine ⟨hn b hb,ltC b (fplt b hb),fstk b hb,.inl hb,fun x c e=>(f2 b hb).2.2.2.2.1 x c (B.sub x c e),fun p hp=>?_⟩
  ·have hp':p∈X.pn++pins∨p=(D,o):=by
    rcases List.mem_append.mp hp with z | z
    ·cases z
    ·rcases List.mem_append.mp z with z | z
     ·exact .inl z
     ·exact .inr (List.mem_singleton.mp z)
   rcases hp' with z | z
   ·exact (f2 b hb).2.2.2.2.2 p z
   ·subst z
    exact Nat.ne_of_gt (fplt b hb)
 obtain ⟨W,⟨m0,w0⟩,turn⟩:=w2
 have loop:∀ tk,codeAny (model X.prog X.w) X.A (.compLoop (.ListComp elt [⟨tg,iter,ifs,0⟩] scope pos) 0 (.ref it) (.ref D) Xc.env) (RR (.ref D) C) { s2 with heap:=h₁,toks:=tk }:=by
  intro tk
  refine ZgI (E':=fun _ _=>False)
   (fun n s'=>∃ (i:Nat) (σ':St) (H':Hp) (ys:List V) (its:List Value) (k:Nat),Inv Xc (X.pn++pins) σ' H' s'∧tn i s'.heap∧(∀ b∈fp,H' b=none)∧H' D=none∧s'.heap.get? D=some { cls:=.type "list",data:=.seq its.toArray k } ∧
    Vals ys its∧ys.length≤sizeLine∧W i n σ' H' ys) (fun _ _ z=>z.elim) ?_ m0
   ⟨0,cap σ,H2,[],[],0,I0 tk,T.keep _ _ _ st2 fun b _ o e=>old b o e,fun b hb=>(f2 b hb).1,hDn,hacc,.nil,Nat.zero_le _,w0⟩
  rintro n s3 ⟨i,σ3,H3,ys,its,k,I3,st3,fr3,hD3,o3,rv3,hz3,w3⟩
  have I3':Inv Xc ((X.pn++pins)++[(D,{ cls:=.type "list",data:=.seq its.toArray k })]) σ3 H3 s3:=I3.pins_of fun p hp=>by
   have hp':p∈X.pn++pins∨p=(D,{ cls:=.type "list",data:=.seq its.toArray k }):=by
    rcases List.mem_append.mp hp with z | z
    ·exact .inl z
    ·exact .inr (List.mem_singleton.mp z)
   rcases hp' with z | z
   ·exact I3.pin p (by simpa [Xc,cxB] using z)
   ·subst z
    refine ⟨o3,hD3,hDC,fun z=>?_,(fun v z=>by cases z)⟩
    ·obtain ⟨_,o,ho,_⟩:=I2.stack.mem z
     exact absurd (lt2 _ _ ho) (Nat.lt_irrefl _)
  rcases turn i n σ3 H3 ys w3 with ⟨stop,qn⟩ | ⟨go,hlt,N,hN,step⟩
  ·refine thn (T.done Xc rfl rfl rfl hc i _ s3 σ3 H3 _ I3' (fpc fr3) st3 stop) fun r s4 zz1=>?_
   obtain ⟨hr,I4⟩:=zz1
   subst hr
   have pD:=I4.pin (D,{ cls:=.type "list",data:=.seq its.toArray k }) (by simp)
   obtain ⟨m4,hn4,_⟩:=I4.loc
   obtain ⟨oC,es,ep,eC,dC,rC⟩:=id hn4
   have hD4:H3 D=none:=hD3
   have hC4:H3 C=none:=I4.free
   have hupd:∀ b u,H3 b=some u→upd H3 D (.lst ys) b=some u:=fun b u e=>by rw [Za2 (ZcL e hD4)];exact e
   have un:Un (frs X.stack) fp H2 (upd H3 D (.lst ys)) s2.heap s4.heap:=by
    have u:=I4.base
    refine ⟨u.keep,u.slot,fun b o e n hx=>?_,u.there,fun b xs e=>hupd _ _ (u.tups b xs e),fun b o v e=>hupd _ _ (u.frzs b o v e),fun b ps e=>?_⟩
    ·rw [Za2 (Nat.ne_of_lt (lt2 b o e))]
     exact u.free b o e n hx
    ·obtain ⟨more,q⟩:=u.tbls b ps e
     exact ⟨more,hupd _ _ q⟩
   have hok:HOk X.prog X.w (upd H3 D (.lst ys)) s4.heap:=fun b u e=>by
    by_cases hb:b=D
    ·subst hb
     rw [ZbA] at e;cases e
     exact ⟨hz3,its,k,rv3,pD.1⟩
    ·rw [Za2 hb] at e
     exact (I4.hok b u e).stay (fun _ _ _ q=>q) (fun c q=>hupd _ _ q) fun c xs q=>hupd _ _ q
   have I5:Inv X pins σ (upd H3 D (.lst ys)) s4:=I2.call' (ch:=fp) I4.os un hok I4.bare fun b hb=>⟨(f2 b hb).2.2.2.1,(f2 b hb).2.1,(f2 b hb).2.2.2.2.1,(f2 b hb).2.2.2.2.2⟩
   refine fin D C s4 H3 ys oC hD4 qn I5 ⟨?_,?_,fun z=>?_,.inr (Nat.le_trans sz0 leC),fun x c e=>?_,fun p hp=>?_⟩ eC (fun v z=>by rw [dC] at z;cases z) ⟨m4,hn4⟩
   ·rw [Za2 (Ne.symm hDC)];exact hC4
   ·have:=I2.lt
    rw [hDD] at this
    exact Ne.symm (ltC _ this)
   ·exact I2.nofs (a:=C) (by rw [hDD];exact leC) z
   ·exact ltC _ (celt x c e)
   ·exact ltC _ (pinlt p hp)
  ·refine thn (T.item Xc rfl rfl rfl hc i _ s3 σ3 H3 _ I3' (fpc fr3) st3 go) fun r s4 zz2=>?_
   obtain ⟨u,hr,h4⟩:=zz2
   subst hr
   refine thn h4 fun _ s5 zz3=>?_
   obtain ⟨x,H5,I5,r5,y5,st5,fr5⟩:=zz3
   have I5':=I5.pinned (fpc fr5) (T.obj _ _ st5)
   refine thn (hg C fp s2 H2 _ s5 σ3 H5 x u _ I5' r5 (step x H5 y5)) fun _ s6 zz4=>?_
   obtain ⟨σ6,H6,I6,q6⟩:=zz4
   refine thn (ht C fp s2 H2 _ s6 σ6 H6 _ I6 q6) fun ok s7 zz5=>?_
   obtain ⟨H7,I7,q7⟩:=zz5
   have again:∀ {σ8:St} {H8:Hp} {s8:Shared},Inv Xc (((X.pn++pins)++[(D,{ cls:=.type "list",data:=.seq its.toArray k })])++ZjS fp s5.heap) σ8 H8 s8 →
     tn (i+1) s8.heap∧(∀ b∈fp,H8 b=none)∧s8.heap.get? D=some { cls:=.type "list",data:=.seq its.toArray k }∧H8 D=none:=fun {σ8 H8 s8} I8=>by
    refine ⟨T.keep _ _ _ st5 fun b hb o e=>(I8.pin (b,o) (List.mem_append_right _ (List.mem_append_right _ (Zet hb e)))).1,fun b hb=>?_,?_⟩
    ·obtain ⟨o,e,d⟩:=T.obj _ _ st5 b hb
     exact (I8.pin (b,o) (List.mem_append_right _ (List.mem_append_right _ (Zet hb e)))).2.1
    ·have:=I8.pin (D,{ cls:=.type "list",data:=.seq its.toArray k }) (by simp)
     exact ⟨this.1,this.2.1⟩
   cases ok with
   | false =>
    rw [if_neg Bool.false_ne_true] at q7 ⊢
    obtain ⟨m',hm,w7⟩:=hN _ _ _ q7
    obtain ⟨t7,f7,o7,d7⟩:=again I7
    exact ⟨m',hm,i+1,σ6,H7,ys,its,k,I7.unpinned.unpinned,t7,f7,d7,o7,rv3,hz3,w7⟩
   | true =>
    rw [if_pos rfl] at q7 ⊢
    refine thn (he C fp s2 H2 _ s7 σ6 H7 _ I7 q7) fun y s8 zz6=>?_
    obtain ⟨yv,H8,I8,r8,q8⟩:=zz6
    obtain ⟨m',hm,w8⟩:=hN _ _ _ q8
    obtain ⟨t8,f8,o8,d8⟩:=again I8
    have hlen:=rv3.length
    refine wpAny_list_append_plain (s:=s8) (items:=its.toArray) ⟨k,o8⟩ (fun h9 zz7 sb9=>?_) (by rw [List.size_toArray];omega)
    obtain ⟨k9,l9⟩:=zz7
    have I9:Inv Xc (X.pn++pins) σ6 H8 { s8 with heap:=h9 }:=by
     refine I8.unpinned.unpinned.turned (t':=s8.toks) (fun b o hb e=>(sb9.2 b hb).trans e) d8 ?_ (.inr ?_) (fun x c e=>?_) fun p hp=>?_
     ·exact hDC
     ·show s2.heap.objs.size≤D
      rw [hDD];exact Nat.le_refl _
     ·exact Nat.ne_of_lt (celt x c (B.sub x c e))
     ·exact Nat.ne_of_lt (pinlt p (by simpa [Xc,cxB] using hp))
    refine ⟨m',hm,i+1,σ6,H8,ys++[yv],its++[y],k9,I9,?_,f8,d8,?_,rv3.append (.cons r8 .nil),?_,w8⟩
    ·refine T.keep _ _ _ t8 fun b hb o e=>?_
     exact (sb9.2 b (Nat.ne_of_lt (fplt b hb))).trans e
    ·rw [l9]
     simp
    ·rw [List.length_append,List.length_singleton]
     omega
 have env_eq:Xc.env=compEnvC scope cl C X.env:=rfl
 exact codeAny_compStart_list (loop _) (T.self _ 0 _ _ _ (T.keep _ _ _ st2 fun b _ o e=>old b o e) (loop _))
theorem Zo8 {wi:TI} (hc:X.calm=true) (hi:PI X tg iter wi) (B:Blk X Nc scope cl cap) (hg:∀ C fp s H,PG (cxB X Nc scope cl C fp s H) tg g) (ht:∀ C fp s H,PF (cxB X Nc scope cl C fp s H) ifs tt) (he:∀ C fp s H,PE (cxB X Nc scope cl C fp s H) elt te)
  (hs:∀ x,foldedSetIterable iter X.env x=pure x:=by intro _;rfl):PE X (.ListComp elt [⟨tg,iter,ifs,0⟩] scope pos) (ZrU wi cap g tt te):=by
 intro pins s σ H Q I h
 rw [eval_ListComp]
 refine wpAny_comprehension_free (use:=none) rfl hs B.clos B.kind B.names (thn (hi pins s σ H _ I h) fun v s1 h1=>thn h1 fun itv s2 h2=>?_)
 obtain ⟨it,fp,tn,J,H2,e,I2,T,st2,f2,w2⟩:=h2
 subst e
 refine ZjL (RR:=fun acc C=>compPost (model X.prog X.w) X.A X.xe none (EP X pins σ Q) acc C) hc B hg ht he I2 T st2 f2 w2 ?_
 intro D C s' H' ys oC hD q I' F eC dC ⟨m,hn⟩
 obtain ⟨f0,f1,_,f3,f4,f5⟩:=F
 exact ⟨m,hn,fun h' sb=>⟨.ref D,_,I'.turned (t':=s'.toks) (fun b o hb e=>(sb.2 b hb).trans e) f0 f1 f3 f4 f5,rfl,q D hD⟩⟩
theorem Zo1 {wi:TI} {i:Nat} {x:Str} {pos' spos:Pos} (hN:X.N.Nodup) (hix:X.N[i]?=some x) (hx:X.env.scope.names.lookup x=some .local) (hsw:swapsWith (.ListComp elt [⟨tg,iter,ifs,0⟩] scope pos) (some (.Name x pos')) spos.line X.env=pure true)
  (hc:X.calm=true) (hi:PI X tg iter wi) (B:Blk X Nc scope cl cap) (hg:∀ C fp s H,PG (cxB X Nc scope cl C fp s H) tg g) (ht:∀ C fp s H,PF (cxB X Nc scope cl C fp s H) ifs tt) (he:∀ C fp s H,PE (cxB X Nc scope cl C fp s H) elt te)
  (hs:∀ x,foldedSetIterable iter X.env x=pure x:=by intro _;rfl):PS X (.Assign [.Name x pos'] (.ListComp elt [⟨tg,iter,ifs,0⟩] scope pos) spos) (Zy0 (ZrU wi cap g tt te) (Zik i)):=by
 intro pins s σ H D0 I h
 rw [exec_Assign_Name_used _ _ _ _ hsw]
 refine wpAny_bind (wpAny_standAt (wpAny_bind ?_))
 show wpAny _ X.A (do let _ ← comprehension (.ListComp elt [⟨tg,iter,ifs,0⟩] scope pos) scope X.env _ (newList []) false (eval iter X.env) (some (assign (.Name x pos') X.env))) _ _ s
 refine wpAny_bind (wpAny_mono (wpAny_comprehension_free (use:=some (assign (.Name x pos') X.env)) (Q:=fun _ s'=>SP X pins D0 .next s') rfl hs B.clos B.kind B.names
  (thn (hi pins s σ H _ I h) fun v s1 h1=>thn h1 fun itv s2 h2=>?_)) (fun _ s' hq=>wpAny_pure (wpAny_pure hq)) fun _ _ e=>e)
 obtain ⟨it,fp,tn,J,H2,e,I2,T,st2,f2,w2⟩:=h2
 subst e
 refine ZjL (RR:=fun acc C=>compPost (model X.prog X.w) X.A X.xe (some (assign (.Name x pos') X.env)) (fun _ s'=>SP X pins D0 .next s') acc C) hc B hg ht he I2 T st2 f2 w2 ?_
 intro D C s' H' ys oC hD q I' F eC dC ⟨m,hn⟩
 obtain ⟨f0,f1,f2',f3,f4,f5⟩:=F
 have Ip:Inv X (pins++ZjS [C] s'.heap) σ (upd H' D (.lst ys)) s':=I'.pinned (fp:=[C]) (fun b hb=>by
  have e:b=C:=by simpa using hb
  subst e
  exact ⟨f0,f1,f2',f3,f4,f5⟩) fun b hb=>by
   have e:b=C:=by simpa using hb
   subst e
   exact ⟨oC,eC,dC⟩
 show wpAny _ X.A (assign (.Name x pos') X.env (.ref D)) _ _ _
 refine wpAny_assign_Name (ZgP Ip hN hix (.inl hx) (v:=.ref D) rfl (fun s3 I3=>?_) (.inr hx))
 have pC:=I3.pin (C,oC) (List.mem_append_right _ (List.mem_append_right _ (Zet (by simp) eC)))
 obtain ⟨oC',es,ep,eC',dC',rC'⟩:=hn
 rw [eC] at eC';cases eC'
 refine ⟨m,⟨oC,es,ep,pC.1,dC',rC'⟩,fun h' sb=>⟨_,_,I3.unpinned.turned (t':=s3.toks) (fun b o hb e=>(sb.2 b hb).trans e) f0 f1 f3 f4 f5,q D hD⟩⟩
end
theorem ObjOk.at {P:Program} {w:World} {H:Hp} {h:Heap} {a:Addr} {o:HO} (x:ObjOk P w H h a o):∃ u,h.get? a=some u:=by
 cases o with
 | lst xs=>obtain ⟨_,_,_,_,e⟩:=x;exact ⟨_,e⟩
 | tup xs=>obtain ⟨_,_,_,ob,e,_⟩:=x;exact ⟨_,e⟩
 | dK kvs=>obtain ⟨_,_,_,_,o,_,_,e,_⟩:=x;exact ⟨_,e⟩
 | dT kvs=>obtain ⟨_,_,_,_,o,_,_,e,_⟩:=x;exact ⟨_,e⟩
 | set S n=>obtain ⟨o,_,_,_,e,_⟩:=x;exact ⟨_,e⟩
 | ins C dx fs=>obtain ⟨_,_,_,e,_⟩:=x;exact ⟨_,e⟩
 | own y=>obtain ⟨_,e⟩:=x;exact ⟨_,e⟩
 | xd fs=>obtain ⟨_,⟨_,_,_,e,_⟩,_⟩:=x;exact ⟨_,e⟩
 | rng lo hi=>obtain ⟨_,_,_,e⟩:=x;exact ⟨_,e⟩
 | frz ob u=>obtain ⟨e,_⟩:=x;exact ⟨_,e⟩
 | tbl ps=>exact ⟨_,(show h.get? a=some _ from x)⟩
 | met f y=>exact ⟨_,(show h.get? a=some _ from x)⟩
 | ext φ=>obtain ⟨_,⟨_,e⟩,_⟩:=x;exact ⟨_,e⟩
structure Fly (P:Program) (w:World) (outer:List Env) (H0:Hp) (s0:Shared) (H':Hp) (e C:Addr) (s':Shared):Prop where
 os:s'.os=s0.os
 bare:AllBare s'.gens
 un:Un (frs outer) [] H0 H' s0.heap s'.heap
 hok:HOk P w H' s'.heap
 fly:∃ (B:Heap) (a0:Value),Heap.FlyingW B outer e (.ref C) a0 s'.heap∧∀ b,b∉frs outer→((∃ o,s0.heap.get? b=some o)∨H' b≠none)→∃ o,B.get? b=some o
 new:s0.heap.get? e=none
 free:H' e=none
def CXe (P:Program) (w:World):CXT:=fun outer H0 s0 E ev s'=>∃ (e C:Addr) (H':Hp),ev=.ref e∧Fly P w outer H0 s0 H' e C s'∧E (.ref C) none H'
theorem Zyn {P:Program} {w:World} {outer:List Env} {H0 H':Hp} {h0 h1 h' B:Heap} (un:Un (frs outer) [] H0 H' h0 h1) (hok:HOk P w H' h1) (frees:∀ b∈frs outer,H' b=none)
  (ff:∀ b∈frs outer,∃ o,h1.get? b=some o∧∀ vs,o.data≠.fields vs) (s1:B.StaysIn h1) (cov:∀ b,b∉frs outer→((∃ o,h0.get? b=some o)∨H' b≠none)→∃ o,B.get? b=some o)
  (st:B.StaysIn h') (up:h1.UpToSlots h'):Un (frs outer) [] H0 H' h0 h'∧HOk P w H' h':=by
 have exact_:∀ b o,b∉frs outer→((∃ o,h0.get? b=some o)∨H' b≠none)→h1.get? b=some o→h'.get? b=some o:=fun b o hb hor e=>by
  obtain ⟨o',hB⟩:=cov b hb hor
  have:=s1 b o' hB
  rw [e] at this;cases this
  exact st b _ hB
 refine ⟨⟨fun b o q n hb hx=>exact_ b o hb (.inl ⟨o,q⟩) (un.keep b o q n hb hx),fun b o q n hb hx=>?_,un.free,fun b o q hx=>?_,un.tups,un.frzs,un.tbls⟩,fun a o e=>?_⟩
 ·obtain ⟨sl,e1⟩:=un.slot b o q n hb hx
  obtain ⟨o2,e2,d2⟩:=ff b hb
  rw [e1] at e2;cases e2
  obtain ⟨sl',e3⟩:=up b _ e1 d2
  exact ⟨sl',e3⟩
 ·obtain ⟨o',e1⟩:=un.there b o q hx
  by_cases hb:b∈frs outer
  ·obtain ⟨o2,e2,d2⟩:=ff b hb
   obtain ⟨sl',e3⟩:=up b _ e2 d2
   exact ⟨_,e3⟩
  ·exact ⟨o',exact_ b o' hb (.inl ⟨o,q⟩) e1⟩
 ·refine (hok a o e).stay (fun b u hb q=>?_) (fun _ q=>q) fun _ _ q=>q
  have hn:H' b≠none:=by
   rcases hb with rfl | hb
   ·rw [e];simp
   ·rw [hb];simp
  exact exact_ b u (fun z=>hn (frees b z)) (.inr hn) q
section
variable {X:Cx} {pins:List (Addr×Obj)} {σ:St} {H H':Hp} {s s':Shared} {e C:Addr}
theorem Fly.inv (I:Inv X pins σ H s) (F:Fly X.prog X.w X.stack H s H' e C s') {B h':Heap} {a0:Value} (fl:Heap.FlyingW B X.stack e (.ref C) a0 s'.heap)
  (cov:∀ b,b∉frs X.stack→((∃ o,s.heap.get? b=some o)∨H' b≠none)→∃ o,B.get? b=some o) (st:B.StaysIn h') (up:s'.heap.UpToSlots h'):Inv X pins σ H' { s' with heap:=h' }:=by
 have frees:∀ b∈frs X.stack,H' b=none:=fun b hb=>by
  obtain ⟨_,o,ho,_⟩:=I.stack.mem hb
  exact F.un.free b o ho (I.stkFree b hb) (by simp)
 obtain ⟨u,k⟩:=Zyn F.un F.hok frees (fun b hb=>(fl.2.2.1.mem hb).2) fl.1 cov st up
 exact I.call' (s':={ s' with heap:=h' }) (ch:=[]) F.os u k F.bare (fun b z=>absurd z (by simp))
end
theorem ZyW {P:Program} {w:World} {K:PySem.W.Frag} {mg:Str→Option Value} {base:Heap} {N:List Str} {qual:Str} {scope:Scope} {f:Addr} {cd:Value} {A:Around} {outer:List Env} {s:Shared} {H:Hp} {E:XK} :
  Zwg (CXe P w) (ZhZ (CXe P w) P w K mg base N qual scope f cd A outer s H E) E:=by
 intro pins σ Hc sc ev s' I ⟨e,C,H',ee,F,q⟩
 subst ee
 obtain ⟨B,a0,fl,cov⟩:=F.fly
 show wpAny _ _ (leaving _ (.ref e)) _ _ s'
 refine wpAny_leaves_onW I.ok.frames rfl fl fun h' fl' up=>?_
 have I':=F.inv I fl cov fl'.1 up
 refine ⟨e,C,H',rfl,⟨I'.os,I'.bare,I'.base,I'.hok,⟨B,a0,fl',fun b hb hor=>?_⟩,?_,F.free⟩,q⟩
 ·have hne:b∉frs (ZhZ (CXe P w) P w K mg base N qual scope f cd A outer s H E).stack:=fun z=>by
   rcases List.mem_cons.mp (I'.stkSub b z) with e1 | e1
   ·rcases hor with ⟨o,ho⟩ | hn
    ·have h1:=Heap.lt_size ho
     have h2:=I.ok.above
     rw [e1] at h1
     exact absurd (Nat.lt_of_lt_of_le h1 h2) (Nat.lt_irrefl _)
    ·rw [e1] at hn;exact hn I'.free
   ·exact hb e1
  refine cov b hne ?_
  rcases hor with ⟨o,ho⟩ | hn
  ·exact .inl (I.base.there b o ho (by intro z;cases z))
  ·exact .inr hn
 ·cases z:s.heap.get? e with
  | none=>rfl
  | some o =>
   obtain ⟨o',e1⟩:=I.base.there e o z (by intro z;cases z)
   rw [F.new] at e1;cases e1
theorem ZzA {P:Program} {w:World} {K:PySem.W.Frag} {mg:Str→Option Value} {base:Heap} {N:List Str} {qual:Str} {scope:Scope} {f:Addr} {cd:Value} {A:Around} {outer:List Env} {s:Shared} {H:Hp} {E:XK}
  {pins:List (Addr×Obj)} {σ:St} {Hc:Hp} {sc:Shared} {h1:Heap} {e C:Addr} {vs:List Value} (I:Inv (ZhZ (CXe P w) P w K mg base N qual scope f cd A outer s H E) pins σ Hc sc) (hx:Heap.MadeExcOf sc.heap h1 e (.ref C) vs) (q:E (.ref C) none Hc) :
  (ZhZ (CXe P w) P w K mg base N qual scope f cd A outer s H E).xe (.ref e) { sc with heap:=h1 }:=by
 have hin:∀ env∈(ZhZ (CXe P w) P w K mg base N qual scope f cd A outer s H E).stack,∀ b,env.frame=some b→b∈frs (ZhZ (CXe P w) P w K mg base N qual scope f cd A outer s H E).stack:=fun env he b hb=>List.mem_filterMap.mpr ⟨env,he,hb⟩
 show wpAny _ _ (leaving _ (.ref e)) _ _ _
 refine wpAny_leaves_madeW (base:=PySem.W.hideAll sc.heap (frs (ZhZ (CXe P w) P w K mg base N qual scope f cd A outer s H E).stack)) I.ok.frames rfl (fun b o z=>PySem.W.of_hideAll _ z) (PySem.W.funFrames_hide I.stack hin) hx fun h' t fl htup hnew up=>?_
 have cov:∀ b,b∉frs (ZhZ (CXe P w) P w K mg base N qual scope f cd A outer s H E).stack→((∃ o,sc.heap.get? b=some o)∨Hc b≠none)→∃ o,(PySem.W.hideAll sc.heap (frs (ZhZ (CXe P w) P w K mg base N qual scope f cd A outer s H E).stack)).get? b=some o:=fun b hb hor=>by
  have:∃ o,sc.heap.get? b=some o:=by
   rcases hor with z | z
   ·exact z
   ·cases e1:Hc b with
    | none=>exact absurd e1 z
    | some o=>exact (I.hok b o e1).at
  obtain ⟨o,ho⟩:=this
  exact ⟨o,PySem.W.hideAll_get _ ho hb⟩
 obtain ⟨u,k⟩:=Zyn (P:=P) (w:=w) (Un.kept hx.keeps) (I.hok.kept hx.keeps) I.stkFree (fun b hb=>by
  obtain ⟨_,o,ho,d⟩:=I.stack.mem hb
  exact ⟨o,hx.keeps _ _ ho,d⟩) (fun b o z=>hx.keeps _ _ (PySem.W.of_hideAll _ z)) cov fl.1 up
 have I':=I.call' (s':={ sc with heap:=h' }) (ch:=[]) rfl u k I.bare (fun b z=>absurd z (by simp))
 have en:Hc e=none:=by
  cases z:Hc e with
  | none=>rfl
  | some o =>
   obtain ⟨o',e1⟩:=(I.hok e o z).at
   rw [hx.new] at e1;cases e1
 refine ⟨e,C,Hc,rfl,⟨I'.os,I'.bare,I'.base,I'.hok,⟨_,_,fl,fun b hb hor=>?_⟩,?_,en⟩,q⟩
 ·have hne:b∉frs (ZhZ (CXe P w) P w K mg base N qual scope f cd A outer s H E).stack:=fun z=>by
   rcases List.mem_cons.mp (I'.stkSub b z) with e1 | e1
   ·rcases hor with ⟨o,ho⟩ | hn
    ·have h1:=Heap.lt_size ho
     have h2:=I.ok.above
     rw [e1] at h1
     exact absurd (Nat.lt_of_lt_of_le h1 h2) (Nat.lt_irrefl _)
    ·rw [e1] at hn;exact hn I'.free
   ·exact hb e1
  refine cov b hne ?_
  rcases hor with ⟨o,ho⟩ | hn
  ·exact .inl (I.base.there b o ho (by intro z;cases z))
  ·exact .inr hn
 ·cases z:s.heap.get? e with
  | none=>rfl
  | some o =>
   obtain ⟨o',e1⟩:=I.base.there e o z (by intro z;cases z)
   rw [hx.new] at e1;cases e1
theorem Zt5 {K:PySem.W.Frag} {h:Heap} {C:Addr} {bmB:List Value} {newId:String} (X:K.In h) (q:PySem.W.excIn K C bmB newId=true) :
  ∃ bm N nm q bs hdct sn sub ab col dd k0 k1 k2 k3 k5 mN,h.get? C=some (excClassObj nm q C N bs bm hdct sn sub ab col dd k0 k1 k2 k3 k5 newId)∧h.Ns N mN∧mN "__init__"=none∧OwnTail h bmB bm:=by
 unfold PySem.W.excIn at q
 split at q
 ·rename_i dd cd sl ho
  split at q
  ·rename_i C' bm k0 k1 k2 k3 n k5 hm hs
   simp only [Bool.and_eq_true,beq_iff_eq,Bool.not_eq_true'] at q
   obtain ⟨⟨⟨⟨⟨rfl,rfl⟩,hdel⟩,ht⟩,hok⟩,hni⟩:=q
   obtain ⟨nm,bs,mro,ns,qn,hd,sn,sub,ab,col,del⟩:=cd
   dsimp only at hm hdel hok hni
   subst hm hdel
   have hsl:sl=#[k0,k1,k2,k3,some (.builtin n),k5]:=by
    obtain ⟨l⟩:=sl
    simp only at hs
    rw [hs]
   subst hsl
   exact ⟨bm,ns,nm,qn,bs,hd,sn,sub,ab,col,dd,k0,k1,k2,k3,k5,_,X _ _ ho,.of_isNs (PySem.W.isNs_of_in X hok),PySem.W.nsMap_none_of_in X hok hni,PySem.W.tail_of_in X ht⟩
  ·cases q
 ·cases q
def ZxY (C:Addr) (E:XK) (t:TA):TS:=fun _ σ H=>t σ H fun vs H1=>vs.length≤sizeLine∧E (.ref C) none H1
section
variable {P:Program} {w:World} {K:PySem.W.Frag} {mg:Str→Option Value} {base:Heap} {N:List Str} {qual:Str} {scope:Scope} {f:Addr} {cd:Value} {A:Around} {outer:List Env} {s:Shared} {H:Hp} {E:XK}
theorem Zsi {x:Str} {C:Addr} {B newId initId:String} {bm:List Value} {np cpos pos:Pos} {e₀:Expr} {ZbG:List Expr} {t:TA}
  (hg:Gl (ZhZ (CXe P w) P w K mg base N qual scope f cd A outer s H E) x) (hm:mg x=some (.ref C)) (q:PySem.W.excIn K C bm newId=true) (FB:ExcBaseFacts B newId initId bm)
  (ha:PA (ZhZ (CXe P w) P w K mg base N qual scope f cd A outer s H E) (e₀::ZbG) t)
  (he:starEach (e₀::ZbG) (ZhZ (CXe P w) P w K mg base N qual scope f cd A outer s H E).env=(false,eval e₀ (ZhZ (CXe P w) P w K mg base N qual scope f cd A outer s H E).env)::starEach ZbG (ZhZ (CXe P w) P w K mg base N qual scope f cd A outer s H E).env:=by rfl)
  (hplain:(backTo cpos (starEach ZbG (ZhZ (CXe P w) P w K mg base N qual scope f cd A outer s H E).env)).any (·.1)=false:=by rfl) (hd:(x==("__debug__":Str))=false:=by decide) :
  PS (ZhZ (CXe P w) P w K mg base N qual scope f cd A outer s H E) (.Raise (some (.Call (.Name x np) (e₀::ZbG) [] cpos)) none pos) (ZxY C E t):=by
 intro pins sc σ Hc D I h
 obtain ⟨tl,N',nm,q',bs,hdct,sn,sub,ab,col,dd,k0,k1,k2,k3,k5,mN,hC,hN,hni,T⟩:=Zt5 I.ok.mod.kin q
 refine wpAny_Raise_call_subT (C:=C) (nm:=nm) (q:=q') (N:=N') (bs:=bs) (bm:=tl) (hdct:=hdct) (sn:=sn) (sub:=sub) (ab:=ab) (col:=col) (dd:=dd) (k0:=k0) (k1:=k1) (k2:=k2) (k3:=k3) (k5:=k5)
  FB (mN:=mN) (T.hasType FB.hasBase) (I.ok.hd rfl) (by rw [he];show (false||(backTo cpos (starEach ZbG _)).any (·.1))=false;rw [hplain];rfl) hni (ZhJ I hg hm ⟨rfl,?_⟩ hd)
 have ha':=ha cpos pins sc σ Hc _ I h
 rw [he] at ha' ⊢
 refine Calls.evalArgs_plain (thn ha' fun us s1 zz1=>?_)
 obtain ⟨vs,H1,I1,r1,z1,q1⟩:=zz1
 exact ⟨rfl,by have:=r1.length;show us.length≤_;omega,I1.bk _ _ hC,hN.keeps I1.bk,T.keeps I1.bk,fun h' e hm'=>ZzA I1 hm' q1⟩
end
theorem Zls {K:PySem.W.Frag} {M:Model} {A:Around} {E:Value→Shared→Prop} {s:Shared} {e C D:Addr} {oe:Obj} {b:Bool} {Q:Bool→Shared→Prop} (X:K.In s.heap) (he:s.heap.get? e=some oe) (hcls:oe.cls=.ref C)
  (hD:PySem.W.typeIn K (.ref D)=some (.type "type")) (hT:(PySem.W.clsIn K D).isSome=true) (hB:PySem.W.subIn K (.ref D) (.type "BaseException")=some true) (hs:PySem.W.subIn K (.ref C) (.ref D)=some b) (h:Q b s) :
  wpAny M A (excMatches (.ref e) (.ref D)) Q E s:=by
 obtain ⟨hp,g,d,t,os⟩:=s
 have L1:PySem.W.Looks M hp (isInstance (.ref D) (.type "tuple")) false:=(PySem.W.looks_typeIn X hD).andThen (PySem.W.Looks.of_pure tc_notTuple)
 have L2:PySem.W.Looks M hp (isType (.ref D)) true:=by
  unfold PySem.W.clsIn at hT
  split at hT
  ·rename_i c' d' cd' sl' ho
   intro A' Q' E' s' k q
   unfold isType loadHead
   exact wpAny_bind (wpAny_loadPart (k _ _ (X _ _ ho)) (wpAny_pure q))
  ·cases hT
 have L3:PySem.W.Looks M hp (isExcClass (.ref D)) true:=by
  unfold isExcClass
  refine L2.andThen ?_
  rw [if_pos rfl]
  exact PySem.W.looks_subIn X hB
 have L4:PySem.W.Looks M hp (typeOf (.ref e)) (.ref C):=by
  rw [← hcls]
  exact (PySem.W.Looks.ld he).andThen .now
 have L5:=PySem.W.looks_subIn (M:=M) X hs
 unfold excMatches
 refine wpAny_bind (L1.at ?_)
 rw [if_neg Bool.false_ne_true]
 show wpAny M A (forIn [Value.ref D] PUnit.unit _ >>= _) Q E _
 rw [List.forIn_cons]
 refine wpAny_bind (wpAny_bind (wpAny_bind (L3.at ?_)))
 rw [if_neg (by decide)]
 refine wpAny_pure ?_
 refine wpAny_pure ?_
 refine wpAny_bind (L4.at ?_)
 rw [List.forIn_cons]
 refine wpAny_bind (wpAny_bind (wpAny_bind (L5.at ?_)))
 cases b with
 | true =>
  rw [if_pos rfl]
  exact wpAny_pure (wpAny_pure (wpAny_pure h))
 | false =>
  rw [if_neg Bool.false_ne_true]
  exact wpAny_pure (wpAny_pure (wpAny_pure h))
theorem Inv.gone {X:Cx} {pins:List (Addr×Obj)} {σ:St} {H:Hp} {s:Shared} {i:Nat} {n:Str} {w:Option Value} {m:Str→Option Value} {h':Heap} {tk:Nat} (I:Inv X pins σ H s) (hN:X.N.Nodup) (hi:X.N[i]?=some n)
  (hm:s.heap.Ns X.env.locals m) (hl:∀ (i:Nat) (x:Str) (v:V),X.N[i]?=some x→σ[i]?=some (some v)→Vis X.env.scope x→∃ u,RelV v u∧ZAh X.env s.heap m x u) (hn':h'.Ns X.env.locals (fun x=>if x=n then w else m x)) (hs:Heap.SameBut X.env.locals s.heap h') :
  Inv X pins (σ.set i none) H { s with heap:=h',toks:=tk }:=by
 have cne:=I.cne
 have hiσ:i < σ.length:=by rw [I.len];exact (List.getElem?_eq_some_iff.mp hi).1
 refine ⟨I.ok,I.os,I.bare,⟨fun b o e n hb hx=>?_,fun b o e n hb hx=>?_,I.base.free,fun b o e hx=>?_,I.base.tups,I.base.frzs,I.base.tbls⟩,⟨_,hn',fun j y v' e1 e2 e3=>?_⟩,fun y c e=>?_,I.free,I.freeC,fun p hp=>?_,fun b ob e=>?_,by simpa using I.len⟩
 ·exact (hs.2 b (Nat.ne_of_lt (Nat.lt_of_lt_of_le (Heap.lt_size e) I.ok.above))).trans (I.base.keep b o e n hb hx)
 ·obtain ⟨sl,e1⟩:=I.base.slot b o e n hb hx
  exact ⟨sl,(hs.2 b (Nat.ne_of_lt (Nat.lt_of_lt_of_le (Heap.lt_size e) I.ok.above))).trans e1⟩
 ·obtain ⟨o',e1⟩:=I.base.there b o e hx
  exact ⟨o',(hs.2 b (Nat.ne_of_lt (Nat.lt_of_lt_of_le (Heap.lt_size e) I.ok.above))).trans e1⟩
 ·by_cases hj:j=i
  ·subst hj
   rw [List.getElem?_set_self hiσ] at e2
   cases e2
  ·rw [List.getElem?_set_ne (Ne.symm hj)] at e2
   obtain ⟨u',r',q⟩:=hl j y v' e1 e2 e3
   refine ⟨u',r',?_⟩
   rcases q with ⟨k,e⟩ | ⟨k,c,e,z⟩
   ·refine .inl ⟨k,?_⟩
    have:y≠n:=fun e=>hj (Zku hN e1 (e▸hi))
    simp [this,e]
   ·exact .inr ⟨k,c,e,z.sameBut hs (cne y c e)⟩
 ·obtain ⟨w',z⟩:=I.cell y c e
  exact ⟨w',z.sameBut hs (cne y c e)⟩
 ·obtain ⟨e,n,ne,nf,d⟩:=I.pin p hp
  exact ⟨(hs.2 p.1 ne).trans e,n,ne,nf,d⟩
 ·refine (I.hok b ob e).stay (fun c w' hc q=>(hs.2 c ?_).trans q) (fun _ q=>q) fun _ _ q=>q
  rintro rfl
  rcases hc with hc | hc
  ·rw [← hc,I.free] at e;cases e
  ·rw [I.free] at hc;cases hc
theorem Inv.track {X:Cx} {pins:List (Addr×Obj)} {σ:St} {H:Hp} {s:Shared} {e:Addr} {o:HO} (I:Inv X pins σ H s) (hn:H e=none) (hL:e≠X.env.locals) (hc:∀ x c,X.env.cells.lookup x=some c→c≠e) (hp:∀ p∈X.pn++pins,p.1≠e)
  (h0:X.s₀.heap.get? e=none) (ok:ObjOk X.prog X.w (upd H e o) s.heap e o):Inv X pins σ (upd H e o) s:=by
 have hupd:∀ b u,H b=some u→upd H e o b=some u:=fun b u z=>by rw [Za2 (ZcL z hn)];exact z
 refine ⟨I.ok,I.os,I.bare,⟨I.base.keep,I.base.slot,fun b ob z n hx=>?_,I.base.there,fun b xs z=>hupd _ _ (I.base.tups b xs z),fun b ob u z=>hupd _ _ (I.base.frzs b ob u z),fun b ps z=>?_⟩,I.loc,I.cell,?_,fun x c z=>?_,fun p z=>?_,fun b u z=>?_,I.len⟩
 ·rw [Za2 (fun q=>by rw [q,h0] at z;cases z)]
  exact I.base.free b ob z n hx
 ·obtain ⟨more,q⟩:=I.base.tbls b ps z
  exact ⟨more,hupd _ _ q⟩
 ·rw [Za2 (Ne.symm hL)];exact I.free
 ·rw [Za2 (hc x c z)];exact I.freeC x c z
 ·obtain ⟨q1,q2,q3⟩:=I.pin p z
  exact ⟨q1,by rw [Za2 (hp p z)];exact q2,q3⟩
 ·by_cases hb:b=e
  ·subst hb
   rw [ZbA] at z;cases z
   exact ok
  ·rw [Za2 hb] at z
   exact (I.hok b u z).stay (fun _ _ _ q=>q) (fun c q=>hupd _ _ q) fun c xs q=>hupd _ _ q
def cxH (X:Cx) (e:Addr):Cx:={ X with A:=X.A.mark (some (.ref e)),calm:=false,xe:=fun _ _=>False }
theorem Inv.toH {X:Cx} {pins:List (Addr×Obj)} {σ:St} {H:Hp} {s:Shared} {e:Addr} (I:Inv X pins σ H s):Inv (cxH X e) pins σ H s :=
 ⟨⟨I.ok.mod,I.ok.kind,I.ok.glob,I.ok.blt,I.ok.above,I.ok.inj,I.ok.has,I.ok.cab,(fun z=>by cases z),I.ok.frames,I.ok.stk,I.ok.exf,I.ok.bs,I.ok.bsz,I.ok.noex,I.ok.exfs,I.ok.funs,I.ok.frf⟩,I.os,I.bare,I.base,I.loc,I.cell,I.free,I.freeC,I.pin,I.hok,I.len⟩
theorem Inv.ofH {X:Cx} {pins:List (Addr×Obj)} {σ:St} {H:Hp} {s:Shared} {e:Addr} (ok:X.Ok) (I:Inv (cxH X e) pins σ H s):Inv X pins σ H s :=
 ⟨ok,I.os,I.bare,I.base,I.loc,I.cell,I.free,I.freeC,I.pin,I.hok,I.len⟩
def cxT (X:Cx) (pn:List (Addr×Obj)) (xe:Value→Shared→Prop):Cx:={ X with pn:=pn,xe:=xe }
theorem Inv.toT {X:Cx} {pins:List (Addr×Obj)} {σ:St} {H:Hp} {s:Shared} {xe:Value→Shared→Prop} (I:Inv X pins σ H s):Inv (cxT X (X.pn++pins) xe) [] σ H s :=
 ⟨⟨I.ok.mod,I.ok.kind,I.ok.glob,I.ok.blt,I.ok.above,I.ok.inj,I.ok.has,I.ok.cab,I.ok.hd,I.ok.frames,I.ok.stk,I.ok.exf,I.ok.bs,I.ok.bsz,I.ok.noex,I.ok.exfs,I.ok.funs,I.ok.frf⟩,I.os,I.bare,I.base,I.loc,I.cell,I.free,I.freeC,(fun p hp=>I.pin p (by simpa [cxT] using hp)),I.hok,I.len⟩
theorem Inv.ofT {X:Cx} {pins pins':List (Addr×Obj)} {σ:St} {H:Hp} {s:Shared} {xe:Value→Shared→Prop} (ok:X.Ok) (I:Inv (cxT X (X.pn++pins) xe) pins' σ H s):Inv X pins σ H s :=
 ⟨ok,I.os,I.bare,I.base,I.loc,I.cell,I.free,I.freeC,(fun p hp=>I.pin p (List.mem_append_left _ hp)),I.hok,I.len⟩
def Zih (e C:Addr):Heap→Prop:=fun h=>∃ ox,h.get? e=some ox∧ox.cls=.ref C
def ZiZ (CX:CXT) (X:Cx) (Eσ:St→XK):Prop:=∀ (pins:List (Addr×Obj)) (σ:St) (H:Hp) (s:Shared) (e:Value) (s':Shared),Inv X pins σ H s→CX X.stack H s (Eσ σ) e s'→X.xe e s'
def ZAW (K:PySem.W.Frag) (D:Addr) (i:Nat) (tb:(St→XK)→TS) (th:TS):TS:=fun Dn σ H =>
 tb (fun σ' Cv _ H'=>∃ C,Cv=.ref C∧PySem.W.subIn K (.ref C) (.ref D)=some true∧∀ e,H' e=none →
  th { nx:=fun σ2 H2=>Dn.nx (σ2.set i none) H2,rt:=Dn.rt,bk:=fun σ2 H2=>Dn.bk (σ2.set i none) H2,ct:=fun σ2 H2=>Dn.ct (σ2.set i none) H2 } (σ'.set i (some (.ref e))) (upd H' e (.ext (Zih e C)))) Dn σ H
theorem Zv3 {X:Cx} {body hbody:List Stmt} {b0:Stmt} {x n:Str} {np hpos pos:Pos} {i:Nat} {D:Addr} {tb:(St→XK)→TS} {th:TS} (hN:X.N.Nodup) (hi:X.N[i]?=some n) (hn:X.env.scope.names.lookup n=some .local)
  (frm:X.stack=X.env::X.outer) (frl:X.env.frame=some X.env.locals) (hex:X.ex=[]) (hgx:Gl X x) (hmx:X.mg x=some (.ref D)) (hD:PySem.W.typeIn X.K (.ref D)=some (.type "type")) (hT:(PySem.W.clsIn X.K D).isSome=true) (hB:PySem.W.subIn X.K (.ref D) (.type "BaseException")=some true)
  (hb:∀ (Eσ:St→XK) (pn:List (Addr×Obj)) (xe:Value→Shared→Prop),ZiZ (CXe X.prog X.w) (cxT X pn xe) Eσ→PSs (cxT X pn xe) body (tb Eσ)) (hh:∀ e,PSs (cxH X e) (b0::hbody) th) (hdb:(x==("__debug__":Str))=false:=by decide) :
  PS X (.Try body [.ExceptHandler (some (.Name x np)) (some n) (b0::hbody) hpos] [] [] pos) (ZAW X.K D i tb th):=by
 intro pins s σ H Dn I h
 refine wpAny_Try_except ?_
 let T:Value→Shared→Prop:=fun ev s₁=>wpAny (model X.prog X.w) X.A (noteFrame ev X.env) (fun _ s₂=>wpAny (model X.prog X.w) X.A (setFlight ev none) (fun _ s₃ =>
  wpAny (model X.prog X.w) X.A (handleBy ev X.env [.ExceptHandler (some (.Name x np)) (some n) (b0::hbody) hpos]) (SP X pins Dn) X.xe s₃) X.xe s₂) X.xe s₁
 have ok:=I.ok
 refine wpAny_mono (hb _ (X.pn++pins) T ?_ [] s σ H Dn I.toT h) (fun f s₁ q=>?_) (fun ev s₁ q=>q)
 ·intro pins' σ' H' s' ev s'' I2 hcx
  obtain ⟨e,C,H2,rfl,F,C',eC,hsub,q⟩:=hcx
  cases eC
  show T (.ref e) s''
  obtain ⟨B,a0,fl,cov⟩:=F.fly
  have fr:X.A.frames=some (X.env::X.outer):=by rw [← frm];exact ok.frames
  have fl':Heap.FlyingW B (X.env::X.outer) e (.ref C) a0 s''.heap:=by rw [← frm];exact fl
  refine wpAny_looks_onW fr frl fl' fun h₄ held₄ up₄=>?_
  refine wpAny_landsW held₄ fun h₅ fl₅ up₅=>?_
  have I5:Inv X pins σ' H2 { s'' with heap:=h₅ }:=Inv.ofT ok (F.inv I2 fl cov fl₅.1 (up₄.trans up₅))
  obtain ⟨ob,hob,hobc⟩:=fl₅.there
  refine wpAny_handleBy_cons (codeAny_handlers_test (ZhJ (X:=cxH X e) I5.toH hgx hmx ?_ hdb)) (by intro q;cases q)
  refine Zls I5.kIn hob hobc hD hT hB hsub ?_
  refine codeAny_handlers_suite_as ?_
  refine lands_againW fl₅ fun h₆ fl₆ up₆=>?_
  have I6:Inv X pins σ' H2 { s'' with heap:=h₆ }:=Inv.ofT ok (F.inv I2 fl cov fl₆.1 ((up₄.trans up₅).trans up₆))
  have old:∀ b o,s'.heap.get? b=some o→b≠e:=fun b o z w=>by rw [w,F.new] at z;cases z
  obtain ⟨oe,hoe,hoec⟩:=fl₆.there
  have I7:Inv X pins σ' (upd H2 e (.ext (Zih e C))) { s'' with heap:=h₆ }:=by
   refine I6.track F.free ?_ (fun x c z=>?_) (fun p z=>?_) ?_ ⟨⟨oe,hoe,hoec⟩,⟨oe,hoe⟩,(by rintro g1 g2 ⟨ox,z1,z2⟩ k;exact ⟨ox,k _ z1,z2⟩)⟩
   ·obtain ⟨m,hm,_⟩:=I2.loc
    obtain ⟨o,es,ep,ho,_⟩:=hm
    exact (old _ _ ho).symm
   ·obtain ⟨v,o,ho,_⟩:=I2.cell x c z
    exact old _ _ ho
   ·exact old _ _ (I2.pin p (List.mem_append_left _ z)).1
   ·cases z:X.s₀.heap.get? e with
    | none=>rfl
    | some o =>
     obtain ⟨o',e1⟩:=I2.base.there e o z (fun w=>by
      have w':e∈X.ex:=w
      rw [hex] at w';cases w')
     rw [F.new] at e1;cases e1
  refine ZgP (X:=cxH X e) I7.toH hN hi (.inl hn) (v:=.ref e) rfl (fun s8 I8=>?_) (.inr hn)
  refine wpAny_mono (hh e pins s8 _ _ _ I8 (q e F.free)) (fun f s9 q9=>?_) (fun _ _ z=>z.elim)
  have fin:∀ {σ9:St} {H9:Hp} {K9:Shared→Prop},Inv (cxH X e) pins σ9 H9 s9→(∀ s10,Inv X pins (σ9.set i none) H9 s10→K9 s10) →
    wpAny (model X.prog X.w) X.A (do bindName X.env n .none;unbindBehindTheSuite X.env n hpos) (fun _ s10=>K9 s10) X.xe s9:=fun {σ9 H9 K9} I9 k9=>by
   have I9':=Inv.ofH ok I9
   obtain ⟨m,hm,hl⟩:=id I9'.loc
   refine wpAny_nameGoes_keeps hn hm (by rw [ok.kind];rfl) fun h' v hn' hs=>k9 _ (I9'.gone hN hi hm hl hn' hs)
  cases f with
  | next=>obtain ⟨σ9,H9,I9,q9⟩:=q9;exact fin I9 fun s10 I10=>⟨_,_,I10,q9⟩
  | brk=>obtain ⟨σ9,H9,I9,q9⟩:=q9;exact fin I9 fun s10 I10=>⟨_,_,I10,q9⟩
  | cont=>obtain ⟨σ9,H9,I9,q9⟩:=q9;exact fin I9 fun s10 I10=>⟨_,_,I10,q9⟩
  | ret u=>obtain ⟨v,σ9,H9,I9,r9,q9⟩:=q9;exact fin I9 fun s10 I10=>⟨v,_,_,I10,r9,q9⟩
 ·cases f with
  | next=>obtain ⟨σ',H',I',q⟩:=q;exact wpAny_execs_nil ⟨σ',H',Inv.ofT ok I',q⟩
  | brk=>obtain ⟨σ',H',I',q⟩:=q;exact ⟨σ',H',Inv.ofT ok I',q⟩
  | cont=>obtain ⟨σ',H',I',q⟩:=q;exact ⟨σ',H',Inv.ofT ok I',q⟩
  | ret u=>obtain ⟨v,σ',H',I',r,q⟩:=q;exact ⟨v,σ',H',Inv.ofT ok I',r,q⟩
def Ztj (sp:Sp) (dvs:List V) (Eσ:St→XK) (t:TA):TE:=fun σ H Q=>t σ H fun vs H1=>sp (vs++dvs) H1 Q (Eσ σ)
section
variable {X:Cx} {CX:CXT} {k:Nat} {f:Addr} {fd:FuncData} {ps:List Str} {sp:Sp} {dvs:List V} {ds:List Value} {Eσ:St→XK} {x:Str} {p pos:Pos} {e:Expr} {es:List Expr} {t:TA}
theorem ZsA (F:FnOk X.prog X.w X.K X.mg X.base CX k f fd ps sp) (hr:Room k X.A) (hg:Gl X x) (hm:X.mg x=some (.ref f)) (hk:PySem.W.keepIn X.K (.ref f)=true) (hb:Binds X.K fd ps ds) (hd:Vals dvs ds) (hx:ZiZ CX X Eσ)
  (ha:PA X (e::es) t) (hdb:(x==("__debug__":Str))=false:=by decide) (he:starEach (e::es) X.env=(false,eval e X.env)::starEach es X.env:=by rfl) (hpl:(backTo pos (starEach es X.env)).any (·.1)=false:=by rfl) :
  PE X (.Call (.Name x p) (e::es) [] pos) (Ztj sp dvs Eσ t):=by
 intro pins s σ H Q I h
 refine wpAny_Call_Name_kw (ZhJ I hg hm ?_ hdb)
 walk_at "pf"
 have r2:Vals (vs++dvs) (us++ds):=r.append hd
 have hl:(us++ds).length=ps.length:=by rw [← r2.length];exact F.len _ _ _ _ q
 refine wpAny_call (codeAny_mono (F.run X.A X.stack s1 H1 ⟨us,[]⟩ (us++ds) (vs++dvs) Q (Eσ σ) hr I1.env0 (hb s1 us I1.kIn hl) r2 q) fun r s' hq=>?_)
 cases r with
 | error e=>exact hx pins σ H1 s1 e s' I1 hq
 | ok fl =>
  cases fl with
  | ret u=>exact I1.after hq
  | next=>exact False.elim hq
  | brk=>exact False.elim hq
  | cont=>exact False.elim hq
end
structure ZsC (k:Nat) (A:Around):Prop where
 dp:A.depth+3*k+5 < recursionLimit
 un:A.units+16*k+200 < cLine
structure Zua (P:Program) (w:World) (K:PySem.W.Frag) (mg:Str→Option Value) (base:Heap) (CX:CXT) (k:Nat) (f:Addr) (fd:FuncData) (ps:List Str) (sp:Sp):Prop where
 len:∀ vs H Q E,sp vs H Q E→vs.length=ps.length
 run:∀ (A:Around) (outer:List Env) (s:Shared) (H:Hp) (args:Args) (us:List Value) (vs:List V) (Q:VK) (E:XK),ZsC k A→Env0 P w K mg base A outer s H→BindsTo s fd args (ps.zip us)→Vals vs us→sp vs H Q E →
  codeAny (model P w) A (.call (.ref f) args) (CR CX outer P w H s Q E) s
def cxN (P:Program) (w:World) (K:PySem.W.Frag) (mg:Str→Option Value) (base:Heap) (N:List Str) (qual:Str) (scope:Scope) (f:Addr) (cd:Value) (A:Around) (outer:List Env) (s:Shared) (H:Hp):Cx :=
 { ZhZ CX0 P w K mg base N qual scope f cd A outer s H E0 with calm:=false,xe:=fun _ _=>False }
theorem ZwY {CX:CXT} {P:Program} {w:World} {K:PySem.W.Frag} {mg:Str→Option Value} {base:Heap} {k:Nat} {f:Addr} {name qual:Str} {params:Arguments} {body:List Stmt} {scope:Scope} {dV kV doc pm cdv ct oc:Value} {an od:Option Addr}
  {osl:Array (Option Value)} {N ps:List Str} {sp:Sp} (lk:K.lookup f=some ⟨oc,od,.func (PySem.W.fnOf name qual params body scope dV kV doc pm an cdv ct),osl⟩) (hcd:PySem.W.codeIn K cdv qual=true) (S:Zap N ps scope)
  (len:∀ vs H Q E,sp vs H Q E→vs.length=ps.length)
  (hbody:∀ (A:Around) (outer:List Env) (s:Shared) (H:Hp) (vs:List V) (Q:VK) (E:XK),sp vs H Q E→∃ t,PSs (cxN P w K mg base N qual scope f cdv A outer s H) body t∧t { nx:=fun _ H'=>Q .non H',rt:=Q } (ZgA N vs) H) :
  Zua P w K mg base CX (k+1) f (PySem.W.fnOf name qual params body scope dV kV doc pm an cdv ct) ps sp:=by
 refine ⟨len,fun A outer s H args us vs Q E hr e0 hb r hsp=>?_⟩
 have hl:=len _ _ _ _ hsp
 have KX:K.In s.heap:=e0.mod.kin.keeps fun b o e=>(e0.bs b o e).1
 have lim:s.heap.NoLimit:=e0.mod.nolimit.keeps fun b o e=>(e0.bs b o e).1
 have hkind:∀ y∈ps.zip us,scope.names.lookup y.1=some .local∨(scope.names.lookup y.1=some .cell∧((cellsFrom (s.heap.objs.size+1) scope.names []).lookup y.1).isSome=true):=by
  rintro ⟨n,v⟩ hy
  rcases S.par n (List.of_mem_zip hy).1 with q | q
  ·exact .inl q
  ·exact .inr ⟨q,PySem.W.cellsFrom_some _ _ _ (.inl q)⟩
 refine codeAny_call_function (by have:=hr.dp;omega) (KX _ _ lk) rfl S.co S.gen rfl (PySem.W.codeRec_of KX hcd) (hb _ _ _ _ ?_)
 refine wpAny_newFunctionEnv_cells S.kind hkind fun env he s1 x=>?_
 subst he
 refine ⟨lim.keeps x.toInCall.keep,codeAny_func ?_⟩
 obtain ⟨t,ht,hq⟩:=hbody A outer s H vs Q E hsp
 have e1:Env0 P w K mg base { A with handled:=none } outer s H:=⟨e0.frames,e0.mod,e0.bs,e0.bsz,e0.funs,e0.frf,e0.hok,e0.bare⟩
 have I0:Inv (ZhZ CX0 P w K mg base N qual scope f cdv { A with handled:=none } outer s H E0) [] (ZgA N vs) H s1:=Zlx S rfl e1 hl r x
 have I:Inv (cxN P w K mg base N qual scope f cdv A outer s H) [] (ZgA N vs) H s1 :=
  ⟨⟨I0.ok.mod,I0.ok.kind,I0.ok.glob,I0.ok.blt,I0.ok.above,I0.ok.inj,I0.ok.has,I0.ok.cab,(fun z=>by cases z),Around.frames_deeper e0.frames,I0.ok.stk,I0.ok.exf,I0.ok.bs,I0.ok.bsz,I0.ok.noex,I0.ok.exfs,I0.ok.funs,I0.ok.frf⟩,I0.os,I0.bare,I0.base,I0.loc,I0.cell,I0.free,I0.freeC,I0.pin,I0.hok,I0.len⟩
 refine wpAny_mono (ht [] s1 (ZgA N vs) H _ I hq) (fun fl s' hs=>?_) fun e s' hs=>hs.elim
 have fin:∀ {σ':St} {H':Hp} {v:V} {u:Value},Inv (cxN P w K mg base N qual scope f cdv A outer s H) [] σ' H' s'→RelV v u→Q v H'→CE outer P w H s Q u s' :=
  fun {σ' H' v u} J rv q=>⟨v,H',J.os,J.bare,J.base,J.hok,rv,q⟩
 cases fl with
 | ret u =>
  obtain ⟨v,σ',H',J,rv,q⟩:=hs
  exact fin J rv q
 | next =>
  obtain ⟨σ',H',J,q⟩:=hs
  exact fin (v:=V.non) (u:=Value.none) J rfl q
 | brk =>
  obtain ⟨_,_,_,q⟩:=hs
  exact False.elim q
 | cont =>
  obtain ⟨_,_,_,q⟩:=hs
  exact False.elim q
section
variable {X:Cx} {k:Nat} {f:Addr} {fd:FuncData} {ps:List Str} {sp:Sp} {x:Str} {p pos:Pos} {e:Expr} {es:List Expr} {t:TA}
theorem ZrC (F:Zua X.prog X.w X.K X.mg X.base CX0 k f fd ps sp) (hr:ZsC k X.A) (hg:Gl X x) (hm:X.mg x=some (.ref f)) (hk:PySem.W.keepIn X.K (.ref f)=true) (hb:Binds X.K fd ps [])
  (ha:PA X (e::es) t) (hdb:(x==("__debug__":Str))=false:=by decide) (he:starEach (e::es) X.env=(false,eval e X.env)::starEach es X.env:=by rfl) (hpl:(backTo pos (starEach es X.env)).any (·.1)=false:=by rfl) :
  PE X (.Call (.Name x p) (e::es) [] pos) (Zzf sp [] E0 t):=by
 intro pins s σ H Q I h
 refine wpAny_Call_Name_kw (ZhJ I hg hm ?_ hdb)
 walk_at "pf"
 have r2:Vals (vs++[]) (us++[]):=r.append .nil
 have hl:(us++[]).length=ps.length:=by rw [← r2.length];exact F.len _ _ _ _ q
 refine wpAny_call (codeAny_mono (F.run X.A X.stack s1 H1 ⟨us,[]⟩ (us++[]) (vs++[]) Q E0 hr I1.env0 (hb s1 us I1.kIn hl) r2 q) fun r s' hq=>?_)
 cases r with
 | error e=>exact False.elim hq
 | ok fl =>
  cases fl with
  | ret u=>exact I1.after hq
  | next=>exact False.elim hq
  | brk=>exact False.elim hq
  | cont=>exact False.elim hq
end
end L2
namespace L3
open PySem PySem.Spec PyProof.Rows L2
abbrev St:=L2.St
inductive W where
 | non | bl (b:Bool) | int (i:Int) | str (x:Str) | tup (xs:List W) | rol (xs:List W) | ref (a:Addr)
inductive HW where
 | lst (xs:List W) | exc (C:Addr) | ins (C:Addr) (fs:List (Str×W)) | dct (kvs:List (Key×W))
abbrev Sw:=List (Option W)
abbrev Hw:=Addr→Option HW
def put (H:Hw) (a:Addr) (o:HW):Hw:=fun b=>if b=a then some o else H b
theorem Zaf {H:Hw} {a:Addr} {o:HW}:put H a o a=some o:=by unfold put;rw [if_pos rfl]
theorem Zau {H:Hw} {a b:Addr} {o:HW} (h:b≠a):put H a o b=H b:=by unfold put;rw [if_neg h]
section
variable (K:PySem.W.Frag)
def RoL (H:Hp) (a:Addr) (xs:List V):Prop:=(∃ o,H a=some (.frz o (.lst xs))) ∨
 ∃ (o:Obj) (its:Array Value) (n:Nat),K.lookup a=some o∧o.cls=.type "list"∧o.dict=none∧o.data=.seq its n∧its.size≤sizeLine∧Vals xs its.toList
theorem RoL.sq {K:PySem.W.Frag} {H:Hp} {a:Addr} {xs:List V} (h:RoL K H a xs):SqL K H a xs:=by
 rcases h with ⟨o,h⟩ | h
 ·exact .inl (.inr ⟨o,h⟩)
 ·exact .inr h
mutual
inductive Tr (H:Hp):V→W→Prop where
 | non:Tr H .non .non
 | bl (b:Bool):Tr H (.bl b) (.bl b)
 | int (i:Int):Tr H (.int i) (.int i)
 | str (x:Str):Tr H (.str x) (.str x)
 | tup {a:Addr} {vs:List V} {ws:List W}:SqT K H a vs→TrL H vs ws→Tr H (.ref a) (.tup ws)
 | rol {a:Addr} {vs:List V} {ws:List W}:RoL K H a vs→TrL H vs ws→Tr H (.ref a) (.rol ws)
 | ref (a:Addr):Tr H (.ref a) (.ref a)
inductive TrL (H:Hp):List V→List W→Prop where
 | nil:TrL H [] []
 | cons {v:V} {w:W} {vs:List V} {ws:List W}:Tr H v w→TrL H vs ws→TrL H (v::vs) (w::ws)
end
inductive TrP {α:Type} (H:Hp):List (α×V)→List (α×W)→Prop where
 | nil:TrP H [] []
 | cons {f:α} {v:V} {w:W} {vs:List (α×V)} {ws:List (α×W)}:Tr K H v w→TrP H vs ws→TrP H ((f,v)::vs) ((f,w)::ws)
structure Mono (H H':Hp):Prop where
 tup:∀ a vs,SqT K H a vs→SqT K H' a vs
 rol:∀ a vs,RoL K H a vs→RoL K H' a vs
def RelO2 (H:Hp) (a:Addr):HW→Prop
 | .lst ws=>∃ vs,H a=some (.lst vs)∧TrL K H vs ws
 | .exc C=>H a=some (.ext (Zih a C))
 | .ins C ws=>∃ dx vs,H a=some (.ins C dx vs)∧TrP K H vs ws
 | .dct ws=>∃ vs,H a=some (.dK vs)∧TrP K H vs ws
def RelH (H:Hp) (G:Hw):Prop:=∀ a o,G a=some o→RelO2 K H a o
structure TrSt (H:Hp) (σ:St) (ω:Sw):Prop where
 len:σ.length=ω.length
 get:∀ (i:Nat) (w:W),ω[i]?=some (some w)→∃ v,σ[i]?=some (some v)∧Tr K H v w
end
variable {K:PySem.W.Frag} {H H' H2:Hp}
theorem Mono.refl:Mono K H H:=⟨fun _ _ h=>h,fun _ _ h=>h⟩
theorem Mono.trans (m:Mono K H H') (m':Mono K H' H2):Mono K H H2:=⟨fun a vs h=>m'.tup a vs (m.tup a vs h),fun a vs h=>m'.rol a vs (m.rol a vs h)⟩
mutual
theorem Tr.mono (m:Mono K H H') {v:V} {w:W} (t:Tr K H v w):Tr K H' v w:=by
 cases t with
 | non=>exact .non
 | bl b=>exact .bl b
 | int i=>exact .int i
 | str x=>exact .str x
 | tup h l=>exact .tup (m.tup _ _ h) (TrL.mono m l)
 | rol h l=>exact .rol (m.rol _ _ h) (TrL.mono m l)
 | ref a=>exact .ref a
theorem TrL.mono (m:Mono K H H') {vs:List V} {ws:List W} (t:TrL K H vs ws):TrL K H' vs ws:=by
 cases t with
 | nil=>exact .nil
 | cons h l=>exact .cons (Tr.mono m h) (TrL.mono m l)
end
theorem TrP.mono {α:Type} (m:Mono K H H'):∀ {vs:List (α×V)} {ws:List (α×W)},TrP K H vs ws→TrP K H' vs ws
 | _,_,.nil=>.nil
 | _,_,.cons r t=>.cons (r.mono m) (TrP.mono m t)
theorem RelO2.mono (m:Mono K H H') {a:Addr} (e:H' a=H a):∀ {o:HW},RelO2 K H a o→RelO2 K H' a o
 | .lst ws,⟨vs,z,t⟩=>⟨vs,e.trans z,t.mono m⟩
 | .exc C,z=>(e.trans z:H' a=_)
 | .ins C ws,⟨dx,vs,z,t⟩=>⟨dx,vs,e.trans z,t.mono m⟩
 | .dct ws,⟨vs,z,t⟩=>⟨vs,e.trans z,t.mono m⟩
theorem RelO2.some {a:Addr}:∀ {o:HW},RelO2 K H a o→H a≠none
 | .lst ws,⟨vs,z,t⟩,q=>by rw [q] at z;cases z
 | .exc C,z,q=>by rw [show H a=_ from z] at q;cases q
 | .ins C ws,⟨dx,vs,z,t⟩,q=>by rw [q] at z;cases z
 | .dct ws,⟨vs,z,t⟩,q=>by rw [q] at z;cases z
theorem TrSt.mono {σ:St} {ω:Sw} (m:Mono K H H') (t:TrSt K H σ ω):TrSt K H' σ ω:=⟨t.len,fun i w e=>let ⟨v,e',r⟩:=t.get i w e;⟨v,e',r.mono m⟩⟩
theorem TrSt.set {σ:St} {ω:Sw} {v:V} {w:W} (t:TrSt K H σ ω) (i:Nat) (r:Tr K H v w):TrSt K H (σ.set i (some v)) (ω.set i (some w)):=by
 refine ⟨by simp [t.len],fun j u e=>?_⟩
 by_cases h:i=j
 ·subst h
  by_cases hl:i < ω.length
  ·rw [List.getElem?_set_self hl] at e
   cases e
   exact ⟨v,List.getElem?_set_self (by rw [t.len];exact hl),r⟩
  ·rw [List.getElem?_eq_none (by simp;omega)] at e;cases e
 ·rw [List.getElem?_set_ne h] at e
  obtain ⟨v',e',r'⟩:=t.get j u e
  exact ⟨v',by rw [List.getElem?_set_ne h];exact e',r'⟩
theorem TrSt.unset {σ:St} {ω:Sw} (t:TrSt K H σ ω) (i:Nat):TrSt K H (σ.set i none) (ω.set i none):=by
 refine ⟨by simp [t.len],fun j u e=>?_⟩
 by_cases h:i=j
 ·subst h
  by_cases hl:i < ω.length
  ·rw [List.getElem?_set_self hl] at e;cases e
  ·rw [List.getElem?_eq_none (by simp;omega)] at e;cases e
 ·rw [List.getElem?_set_ne h] at e
  obtain ⟨v',e',r'⟩:=t.get j u e
  exact ⟨v',by rw [List.getElem?_set_ne h];exact e',r'⟩
theorem TrL.length:∀ {vs:List V} {ws:List W},TrL K H vs ws→vs.length=ws.length
 | _,_,.nil=>rfl
 | _,_,.cons _ t=>congrArg (·+1) t.length
theorem TrL.get:∀ {vs:List V} {ws:List W} {i:Nat} {w:W},TrL K H vs ws→ws[i]?=some w→∃ v,vs[i]?=some v∧Tr K H v w
 | _,_,_,_,.nil,e=>by simp at e
 | _,_,0,_,.cons r _,e=>by simp at e;subst e;exact ⟨_,rfl,r⟩
 | _,_,i+1,w,.cons _ t,e=>by
  obtain ⟨v,h1,h2⟩:=TrL.get (i:=i) (w:=w) t (by simpa using e)
  exact ⟨v,by simpa using h1,h2⟩
theorem TrL.get':∀ {vs:List V} {ws:List W} {i:Nat} {v:V},TrL K H vs ws→vs[i]?=some v→∃ w,ws[i]?=some w∧Tr K H v w
 | _,_,_,_,.nil,e=>by simp at e
 | _,_,0,_,.cons r _,e=>by simp at e;subst e;exact ⟨_,rfl,r⟩
 | _,_,i+1,v,.cons _ t,e=>by
  obtain ⟨w,h1,h2⟩:=TrL.get' (i:=i) (v:=v) t (by simpa using e)
  exact ⟨w,by simpa using h1,h2⟩
theorem TrL.append:∀ {vs vs':List V} {ws ws':List W},TrL K H vs ws→TrL K H vs' ws'→TrL K H (vs++vs') (ws++ws')
 | _,_,_,_,.nil,s=>s
 | _,_,_,_,.cons r t,s=>.cons r (t.append s)
theorem TrL.set {v:V} {w:W} (r:Tr K H v w):∀ {vs:List V} {ws:List W} (i:Nat),TrL K H vs ws→TrL K H (vs.set i v) (ws.set i w)
 | _,_,_,.nil=>.nil
 | _,_,0,.cons _ t=>.cons r t
 | _,_,i+1,.cons q t=>.cons q (TrL.set r i t)
theorem TrL.take:∀ {vs:List V} {ws:List W} (n:Nat),TrL K H vs ws→TrL K H (vs.take n) (ws.take n)
 | _,_,0,_=>.nil
 | _,_,_+1,.nil=>.nil
 | _,_,n+1,.cons r t=>.cons r (TrL.take n t)
theorem TrL.drop:∀ {vs:List V} {ws:List W} (n:Nat),TrL K H vs ws→TrL K H (vs.drop n) (ws.drop n)
 | _,_,0,r=>r
 | _,_,_+1,.nil=>.nil
 | _,_,n+1,.cons _ t=>TrL.drop n t
theorem ZmH {a b:Addr} {vs:List V} {o:HO} (h:SqT K H a vs) (hb:∀ xs,H b≠some (.tup xs)) (hf:∀ ob xs,H b≠some (.frz ob (.tup xs))):SqT K (upd H b o) a vs:=by
 rcases h with (h | ⟨ob,h⟩) | h
 ·exact .inl (.inl (by rw [Za2 (fun e=>hb _ (e▸h))];exact h))
 ·exact .inl (.inr ⟨ob,by rw [Za2 (fun e=>hf _ _ (e▸h))];exact h⟩)
 ·exact .inr h
theorem ZmK {a b:Addr} {vs:List V} {o:HO} (h:RoL K H a vs) (hf:∀ ob u,H b≠some (.frz ob u)):RoL K (upd H b o) a vs:=by
 rcases h with ⟨ob,h⟩ | h
 ·exact .inl ⟨ob,by rw [Za2 (fun e=>hf _ _ (e▸h))];exact h⟩
 ·exact .inr h
theorem Mono.new {p:Addr} (hp:H p=none) (o:HO):Mono K H (upd H p o) :=
 ⟨fun a vs h=>ZmH h (fun xs e=>by rw [hp] at e;cases e) (fun ob xs e=>by rw [hp] at e;cases e),fun a vs h=>ZmK h (fun ob xs e=>by rw [hp] at e;cases e)⟩
theorem Mono.lst {p:Addr} {xs:List V} (hp:H p=some (.lst xs)) (o:HO):Mono K H (upd H p o) :=
 ⟨fun a vs h=>ZmH h (fun xs e=>by rw [hp] at e;cases e) (fun ob xs e=>by rw [hp] at e;cases e),fun a vs h=>ZmK h (fun ob xs e=>by rw [hp] at e;cases e)⟩
theorem Mono.was {p:Addr} {o':HO} (hp:H p=some o') (o:HO) (h1:∀ xs,o'≠.tup xs) (h2:∀ ob u,o'≠.frz ob u):Mono K H (upd H p o) :=
 ⟨fun a vs h=>ZmH h (fun xs e=>by rw [hp] at e;exact h1 _ (Option.some.inj e)) (fun ob xs e=>by rw [hp] at e;exact h2 _ _ (Option.some.inj e)),fun a vs h=>ZmK h (fun ob xs e=>by rw [hp] at e;exact h2 _ _ (Option.some.inj e))⟩
theorem RelH.no {G:Hw} {p:Addr} (r:RelH K H G) (hp:H p=none):G p=none:=by
 cases e:G p with
 | none=>rfl
 | some o=>exact absurd hp (r p o e).some
theorem RelH.mono0 {G:Hw} {p:Addr} {o:HO} (r:RelH K H G) (hp:H p=none):RelH K (upd H p o) G:=fun a u e =>
 have q:=r a u e
 q.mono (Mono.new hp o) (Za2 (by rintro rfl;exact q.some hp))
theorem RelH.laid {G:Hw} {p:Addr} {o:HO} {u:HW} (r:RelH K H G) (m:Mono K H (upd H p o)) (t:RelO2 K (upd H p o) p u):RelH K (upd H p o) (put G p u):=fun a u' e=>by
 by_cases h:a=p
 ·subst h
  rw [Zaf] at e;cases e
  exact t
 ·rw [Zau h] at e
  exact (r a _ e).mono m (Za2 h)
theorem RelH.new {G:Hw} {p:Addr} {vs:List V} {ws:List W} (r:RelH K H G) (hp:H p=none) (t:TrL K H vs ws):RelH K (upd H p (.lst vs)) (put G p (.lst ws)) :=
 r.laid (Mono.new hp _) ⟨vs,ZbA,t.mono (Mono.new hp _)⟩
theorem RelH.chg {G:Hw} {p:Addr} {xs vs:List V} {ws:List W} (r:RelH K H G) (hp:H p=some (.lst xs)) (t:TrL K H vs ws):RelH K (upd H p (.lst vs)) (put G p (.lst ws)) :=
 r.laid (Mono.lst hp _) ⟨vs,ZbA,t.mono (Mono.lst hp _)⟩
abbrev Kw:=W→Hw→Prop
abbrev GE:=Sw→Hw→Kw→Prop
abbrev GT:=Sw→Hw→(Bool→Hw→Prop)→Prop
abbrev GA:=Sw→Hw→(List W→Hw→Prop)→Prop
structure Ew where
 nx:Sw→Hw→Prop
 rt:Kw
 bk:Sw→Hw→Prop
 ct:Sw→Hw→Prop
abbrev GS:=Ew→Sw→Hw→Prop
abbrev GG:=W→Sw→Hw→(Sw→Hw→Prop)→Prop
def GE.M (g:GE):Prop:=∀ ω G (Q Q':Kw),(∀ w G',Q w G'→Q' w G')→g ω G Q→g ω G Q'
def GT.M (g:GT):Prop:=∀ ω G (Q Q':Bool→Hw→Prop),(∀ w G',Q w G'→Q' w G')→g ω G Q→g ω G Q'
def GA.M (g:GA):Prop:=∀ ω G (Q Q':List W→Hw→Prop),(∀ w G',Q w G'→Q' w G')→g ω G Q→g ω G Q'
def GS.M (g:GS):Prop:=∀ ω G (D D':Ew),(∀ a b,D.nx a b→D'.nx a b)→(∀ a b,D.rt a b→D'.rt a b)→(∀ a b,D.bk a b→D'.bk a b)→(∀ a b,D.ct a b→D'.ct a b)→g D ω G→g D' ω G
def GG.M (g:GG):Prop:=∀ w ω G (Q Q':Sw→Hw→Prop),(∀ a b,Q a b→Q' a b)→g w ω G Q→g w ω G Q'
def dn (K:PySem.W.Frag) (H:Hp) (Q:VK):Kw:=fun w G=>∀ v H',Mono K H H'→Tr K H' v w→RelH K H' G→Q v H'
def dnT (K:PySem.W.Frag) (H:Hp) (Q:Bool→Hp→Prop):Bool→Hw→Prop:=fun b G=>∀ H',Mono K H H'→RelH K H' G→Q b H'
def dnA (K:PySem.W.Frag) (H:Hp) (Q:List V→Hp→Prop):List W→Hw→Prop:=fun ws G=>∀ vs H',Mono K H H'→TrL K H' vs ws→RelH K H' G→Q vs H'
def dnS (K:PySem.W.Frag) (H:Hp) (Q:St→Hp→Prop):Sw→Hw→Prop:=fun ω G=>∀ σ H',Mono K H H'→TrSt K H' σ ω→RelH K H' G→Q σ H'
def dnD (K:PySem.W.Frag) (H:Hp) (D:ZvS):Ew:=⟨dnS K H D.nx,dn K H D.rt,dnS K H D.bk,dnS K H D.ct⟩
theorem Zcq {Q:VK} (m:Mono K H H') {w:W} {G:Hw} (q:dn K H Q w G):dn K H' Q w G:=fun v H2 m2 t r=>q v H2 (m.trans m2) t r
theorem Znm {Q:Bool→Hp→Prop} (m:Mono K H H') {w:Bool} {G:Hw} (q:dnT K H Q w G):dnT K H' Q w G:=fun H2 m2 r=>q H2 (m.trans m2) r
theorem ZrR {Q:St→Hp→Prop} (m:Mono K H H') {w:Sw} {G:Hw} (q:dnS K H Q w G):dnS K H' Q w G:=fun v H2 m2 t r=>q v H2 (m.trans m2) t r
def up (K:PySem.W.Frag) (g:GE):TE:=fun σ H Q=>∃ ω G,TrSt K H σ ω∧RelH K H G∧g ω G (dn K H Q)
def upT (K:PySem.W.Frag) (g:GT):TT:=fun σ H Q=>∃ ω G,TrSt K H σ ω∧RelH K H G∧g ω G (dnT K H Q)
def upA (K:PySem.W.Frag) (g:GA):TA:=fun σ H Q=>∃ ω G,TrSt K H σ ω∧RelH K H G∧g ω G (dnA K H Q)
def upS (K:PySem.W.Frag) (B:Hp) (g:GS):TS:=fun D σ H=>∃ ω G,TrSt K H σ ω∧RelH K H G∧Mono K B H∧g (dnD K B D) ω G
theorem Zbh {X:Cx} {e:Expr} {t t':TE} (h:PE X e t) (i:∀ σ H Q,t' σ H Q→t σ H Q):PE X e t':=fun pins s σ H Q I q=>h pins s σ H Q I (i σ H Q q)
theorem Zn9 {X:Cx} {e:Expr} {t t':TT} (h:PT X e t) (i:∀ σ H Q,t' σ H Q→t σ H Q):PT X e t':=fun pins s σ H Q I q=>h pins s σ H Q I (i σ H Q q)
theorem ZtI {X:Cx} {e:List Expr} {t t':TA} (h:PA X e t) (i:∀ σ H Q,t' σ H Q→t σ H Q):PA X e t':=fun pos pins s σ H Q I q=>h pos pins s σ H Q I (i σ H Q q)
theorem Zf1 {X:Cx} {e:Stmt} {t t':TS} (h:PS X e t) (i:∀ D σ H,t' D σ H→t D σ H):PS X e t':=fun pins s σ H D I q=>h pins s σ H D I (i D σ H q)
theorem ZmT {X:Cx} {e:List Stmt} {t t':TS} (h:PSs X e t) (i:∀ D σ H,t' D σ H→t D σ H):PSs X e t':=fun pins s σ H D I q=>h pins s σ H D I (i D σ H q)
section
variable {X:Cx} {a b c e:Expr} {es:List Expr} {pos:Pos} {ga gb gc:GE} {gt:GT} {gs:GA}
abbrev PEw (X:Cx) (e:Expr) (g:GE):Prop:=PE X e (up X.K g)
abbrev PTw (X:Cx) (e:Expr) (g:GT):Prop:=PT X e (upT X.K g)
abbrev PAw (X:Cx) (es:List Expr) (g:GA):Prop:=PA X es (upA X.K g)
abbrev PSw (X:Cx) (P:Hp→Prop) (st:Stmt) (g:GS):Prop:=∀ B,P B→PS X st (upS X.K B g)
abbrev Zss (X:Cx) (P:Hp→Prop) (st:List Stmt) (g:GS):Prop:=∀ B,P B→PSs X st (upS X.K B g)
abbrev Zz8:Hp→Prop:=fun _=>True
abbrev atB (X:Cx):Hp→Prop:=fun B=>B=X.H₀
def gC (w:W):GE:=fun _ G Q=>Q w G
def Zab (i:Nat):GE:=fun ω G Q=>match ω[i]? with | some (some w)=>Q w G | _=>False
theorem ZvV {w:W}:GE.M (gC w):=fun _ _ _ _ h q=>h _ _ q
theorem Zw2 {i:Nat}:GE.M (Zab i):=fun ω G Q Q' h q=>by
 have z:Zab i ω G Q=(match ω[i]? with | some (some w)=>Q w G | _=>False):=rfl
 have z':Zab i ω G Q'=(match ω[i]? with | some (some w)=>Q' w G | _=>False):=rfl
 rw [z] at q
 rw [z']
 cases e:ω[i]? with
 | none=>rw [e] at q;exact q
 | some o =>
  cases o with
  | none=>rw [e] at q;exact q
  | some w=>rw [e] at q;exact h _ _ q
theorem ZxX {i:Nat} {x:Str} (hN:X.N[i]?=some x) (hv:Vis X.env.scope x) (hd:(x==("__debug__":Str))=false) (hcd:(x==("__classdict__":Str))=false):PEw X (.Name x pos) (Zab i) :=
 Zbh (ZwH hN hv hd hcd) <| by
  rintro σ H Q ⟨ω,G,ts,r,q⟩
  unfold Zab at q
  split at q
  ·rename_i w z
   obtain ⟨v,e,t⟩:=ts.get i w z
   exact ⟨v,e,q v H .refl t r⟩
  ·exact q.elim
theorem Zyz {i:Int} {j}:PEw X (.Constant (.int i) j pos) (gC (.int i)):=Zbh Zys (by rintro σ H Q ⟨ω,G,ts,r,q⟩;exact q _ H .refl (.int i) r)
theorem ZzR {i:Bool} {j}:PEw X (.Constant (.bool i) j pos) (gC (.bl i)):=Zbh Zy1 (by rintro σ H Q ⟨ω,G,ts,r,q⟩;exact q _ H .refl (.bl i) r)
theorem ZxL {j}:PEw X (.Constant .none j pos) (gC .non):=Zbh Zxa (by rintro σ H Q ⟨ω,G,ts,r,q⟩;exact q _ H .refl .non r)
theorem Zxp {i:Str} {j}:PEw X (.Constant (.str i) j pos) (gC (.str i)):=Zbh Zx4 (by rintro σ H Q ⟨ω,G,ts,r,q⟩;exact q _ H .refl (.str i) r)
theorem ZpP {x:Str} {v:V} {w:W} {u:Value} (hg:Gl X x) (hm:X.mg x=some u) (rv:RelV v u) (t:∀ H,Tr X.K H v w) (hd:(x==("__debug__":Str))=false):PEw X (.Name x pos) (gC w) :=
 Zbh (ZmJ hg hm rv hd) (by rintro σ H Q ⟨ω,G,ts,r,q⟩;exact q _ H .refl (t H) r)
abbrev RW2:=W→W→Hw→Kw→Prop
def RW2.M (r:RW2):Prop:=∀ x y G (Q Q':Kw),(∀ w G',Q w G'→Q' w G')→r x y G Q→r x y G Q'
def Zaj (r:RW2) (ga gb:GE):GE:=fun ω G Q=>ga ω G fun x G1=>gb ω G1 fun y G2=>r x y G2 Q
theorem Zfh {r:RW2} (mr:r.M) (ma:ga.M) (mb:gb.M):GE.M (Zaj r ga gb):=fun ω G Q Q' h q=>ma _ _ _ _ (fun x G1 q1=>mb _ _ _ _ (fun y G2 q2=>mr _ _ _ _ _ h q2) q1) q
theorem Zob {r:RW2} {r2:R2} (mr:r.M) (ma:ga.M) (mb:gb.M)
  (hr:∀ (x y:W) (v u:V) (G:Hw) (H:Hp) (Q:VK),Tr K H v x→Tr K H u y→RelH K H G→r x y G (dn K H Q)→r2 v u H Q) (σ:St) (H:Hp) (Q:VK) (h:up K (Zaj r ga gb) σ H Q):tOp r2 (up K ga) (up K gb) σ H Q:=by
 obtain ⟨ω,G,ts,rh,q⟩:=h
 refine ⟨ω,G,ts,rh,ma _ _ _ _ (fun x G1 q1 v H1 m1 tx r1=>?_) q⟩
 refine ⟨ω,G1,ts.mono m1,r1,mb _ _ _ _ (fun y G2 q2 u H2 m2 ty r2'=>?_) q1⟩
 exact hr x y v u G2 H2 Q (tx.mono m2) ty r2' (mr _ _ _ _ _ (fun w G' z=>Zcq (m1.trans m2) z) q2)
theorem ZiV {op:Operator} {r:RW2} {r2:R2} (ho:OpR X (binaryOp op) r2) (mr:r.M) (ma:ga.M) (mb:gb.M) (hr:∀ (x y:W) (v u:V) (G:Hw) (H:Hp) (Q:VK),Tr X.K H v x→Tr X.K H u y→RelH X.K H G→r x y G (dn X.K H Q)→r2 v u H Q)
  (ha:PEw X a ga) (hb:PEw X b gb):PEw X (.BinOp a op b pos) (Zaj r ga gb):=Zbh (Zzn ho ha hb) (Zob mr ma mb hr)
theorem Zv2 {op:CmpOp} {r:RW2} {r2:R2} (ho:OpR X (compareOp op) r2) (mr:r.M) (ma:ga.M) (mb:gb.M) (hr:∀ (x y:W) (v u:V) (G:Hw) (H:Hp) (Q:VK),Tr X.K H v x→Tr X.K H u y→RelH X.K H G→r x y G (dn X.K H Q)→r2 v u H Q)
  (ha:PEw X a ga) (hb:PEw X b gb) (hm:behindInMarks op b=false):PEw X (.Compare a [op] [b] pos) (Zaj r ga gb):=Zbh (ZuL ho ha hb hm) (Zob mr ma mb hr)
theorem Zzb {r:RW2} {r2:R2} (ho:IxR X r2) (mr:r.M) (ma:ga.M) (mb:gb.M) (hr:∀ (x y:W) (v u:V) (G:Hw) (H:Hp) (Q:VK),Tr X.K H v x→Tr X.K H u y→RelH X.K H G→r x y G (dn X.K H Q)→r2 v u H Q)
  (ha:PEw X a ga) (hb:PEw X b gb) (hs:ZkZ b):PEw X (.Subscript a b pos) (Zaj r ga gb):=Zbh (ZzH ho ha hb hs) (Zob mr ma mb hr)
end
abbrev Xw:=Sw→Addr→Hw→Prop
abbrev XF:Xw:=fun _ _ _=>False
def upX (K:PySem.W.Frag) (ex:Xw):St→XK:=fun σ Cv _ H'=>∃ C ω G,Cv=.ref C∧TrSt K H' σ ω∧RelH K H' G∧ex ω C G
abbrev ZlP (X:Cx) (ex:Xw):Prop:=ZiZ (CXe X.prog X.w) X (upX X.K ex)
theorem Un.mono' {fs exs:List Addr} {h h':Heap} (u:Un fs exs H H' h h'):Mono K H H':=by
 refine ⟨fun a vs q=>?_,fun a vs q=>?_⟩
 ·rcases q with (q | ⟨o,q⟩) | q
  ·exact .inl (.inl (u.tups a vs q))
  ·exact .inl (.inr ⟨o,u.frzs a o _ q⟩)
  ·exact .inr q
 ·rcases q with ⟨o,q⟩ | q
  ·exact .inl ⟨o,u.frzs a o _ q⟩
  ·exact .inr q
abbrev Spw:=List W→Hw→Kw→(Addr→Hw→Prop)→Prop
def dnX (K:PySem.W.Frag) (H:Hp) (E:XK):Addr→Hw→Prop:=fun C G'=>∀ H',Mono K H H'→RelH K H' G'→E (.ref C) none H'
def ZtS (K:PySem.W.Frag) (sp:Spw):Sp:=fun vs H Q E=>∃ ws G,TrL K H vs ws∧RelH K H G∧sp ws G (dn K H Q) (dnX K H E)
def Spw.M (sp:Spw):Prop:=∀ ws G (Q Q':Kw) (E E':Addr→Hw→Prop),(∀ w G',Q w G'→Q' w G')→(∀ w G',E w G'→E' w G')→sp ws G Q E→sp ws G Q' E'
structure Df (P:Program) (w:World) (K:PySem.W.Frag) (mg:Str→Option Value) (base:Heap) (x:Str) (k n:Nat) (sp:Spw):Prop where
 ex:∃ (f:Addr) (fd:FuncData) (ps:List Str),mg x=some (.ref f)∧PySem.W.keepIn K (.ref f)=true∧Binds K fd ps []∧ps.length=n∧FnOk P w K mg base (CXe P w) k f fd ps (ZtS K sp)
 mono:sp.M
section
variable {X:Cx} {e:Expr} {es:List Expr} {pos p:Pos} {ga gb:GE} {gs:GA} {ex:Xw}
def Zag:GA:=fun _ G Q=>Q [] G
def Zaa (g:GE) (gs:GA):GA:=fun ω G Q=>g ω G fun x G1=>gs ω G1 fun xs G2=>Q (x::xs) G2
theorem ZxW:GA.M Zag:=fun _ _ _ _ h q=>h _ _ q
theorem ZuM (ma:ga.M) (ms:gs.M):GA.M (Zaa ga gs):=fun ω G Q Q' h q=>ma _ _ _ _ (fun x G1 q1=>ms _ _ _ _ (fun xs G2 q2=>h _ _ q2) q1) q
theorem ZwA:PAw X [] Zag:=ZtI Zn1 (by rintro σ H Q ⟨ω,G,ts,r,q⟩;exact q [] H .refl .nil r)
theorem Zue (ma:ga.M) (ms:gs.M) (ha:PEw X e ga) (hs:PAw X es gs) (hst:starEach (e::es) X.env=(false,eval e X.env)::starEach es X.env:=by rfl):PAw X (e::es) (Zaa ga gs) :=
 ZtI (ZhC ha hs hst) (by rintro σ H Q ⟨ω,G,ts,r,q⟩;exact ⟨ω,G,ts,r,ma _ _ _ _ (fun x G1 q1 v H1 m1 tx r1=>⟨ω,G1,ts.mono m1,r1,ms _ _ _ _ (fun xs G2 q2 vs H2 m2 txs r2=>q2 _ H2 (m1.trans m2) (.cons (tx.mono m2) txs) r2) q1⟩) q⟩)
def Zah (sp:Spw) (ex:Xw) (gs:GA):GE:=fun ω G Q=>gs ω G fun ws G1=>sp ws G1 Q (ex ω)
theorem Zp4 {sp:Spw} (m:sp.M) (ms:gs.M):GE.M (Zah sp ex gs):=fun ω G Q Q' h q=>ms _ _ _ _ (fun ws G1 q1=>m _ _ _ _ _ _ h (fun _ _ z=>z) q1) q
theorem ZvH {x:Str} {k n:Nat} {sp:Spw} (D:Df X.prog X.w X.K X.mg X.base x k n sp) (hr:Room k X.A) (hg:Gl X x) (hp:ZlP X ex) (ms:gs.M) (ha:PAw X (e::es) gs)
  (hdb:(x==("__debug__":Str))=false:=by decide) (he:starEach (e::es) X.env=(false,eval e X.env)::starEach es X.env:=by rfl) (hpl:(backTo pos (starEach es X.env)).any (·.1)=false:=by rfl) :
  PEw X (.Call (.Name x p) (e::es) [] pos) (Zah sp ex gs):=by
 obtain ⟨f,fd,ps,hm,hk,hb,_,F⟩:=D.ex
 refine Zbh (ZsA F hr hg hm hk hb .nil hp ha hdb he hpl) fun σ H Q zz1=>?_
 obtain ⟨ω,G,ts,r,q⟩:=zz1
 refine ⟨ω,G,ts,r,ms _ _ _ _ (fun ws G1 q1 vs H1 m1 tvs r1=>?_) q⟩
 refine ⟨ws,G1,by rw [List.append_nil];exact tvs,r1,D.mono _ _ _ _ _ _ (fun w G' z=>Zcq m1 z) (fun C G' z H2 m2 r2=>?_) q1⟩
 exact ⟨C,ω,G',rfl,(ts.mono m1).mono m2,r2,z⟩
end
def ZaQ (N:List Str) (ws:List W):Sw:=ws.map some++List.replicate (N.length - ws.length) none
theorem Zfn {N:List Str} {vs:List V} {ws:List W} (t:TrL K H vs ws):TrSt K H (L2.ZgA N vs) (ZaQ N ws):=by
 have hl:=t.length
 refine ⟨by simp [L2.ZgA,ZaQ,hl],fun i w e=>?_⟩
 unfold ZaQ at e
 by_cases hi:i < ws.length
 ·rw [List.getElem?_append_left (by simpa using hi),List.getElem?_map] at e
  cases z:ws[i]? with
  | none=>rw [z] at e;cases e
  | some w' =>
   rw [z] at e
   cases e
   obtain ⟨v,e1,r⟩:=t.get z
   exact ⟨v,by unfold L2.ZgA;rw [List.getElem?_append_left (by simp;omega),List.getElem?_map,e1];rfl,r⟩
 ·rw [List.getElem?_append_right (by simpa using hi),List.getElem?_replicate] at e
  split at e <;> cases e
def Sub (G G':Hw):Prop:=∀ a o,G a=some o→G' a=some o
theorem Sub.refl {G:Hw}:Sub G G:=fun _ _ h=>h
theorem Sub.trans {G G1 G2:Hw} (a:Sub G G1) (b:Sub G1 G2):Sub G G2:=fun c o h=>b c o (a c o h)
theorem Sub.put {G G':Hw} {a:Addr} {o:HW} (h:Sub G G') (hn:G a=none):Sub G (put G' a o):=fun c u z=>by
 rw [Zau (fun e=>by rw [e,hn] at z;cases z)]
 exact h c u z
theorem Sub.put2 {G G':Hw} {a:Addr} {o:HW} (h:Sub G G'):Sub (L3.put G a o) (L3.put G' a o):=fun c u z=>by
 by_cases e:c=a
 ·subst e;rw [Zaf] at z ⊢;exact z
 ·rw [Zau e] at z ⊢;exact h c u z
theorem RelH.sub {G G':Hw} (r:RelH K H G') (s:Sub G G'):RelH K H G:=fun a o e=>r a o (s a o e)
def Kw.C (Q:Kw):Prop:=∀ w G G',Sub G G'→Q w G→Q w G'
def Xc (E:Addr→Hw→Prop):Prop:=∀ w G G',Sub G G'→E w G→E w G'
theorem ZyN {Q:VK}:Kw.C (dn K H Q):=fun w G G' s q v H2 m t r=>q v H2 m t (r.sub s)
theorem ZzU {E:XK}:Xc (dnX K H E):=fun w G G' s q H2 m r=>q H2 m (r.sub s)
def Zaw (Q:Kw):Ew:=⟨fun _ G=>Q .non G,Q,fun _ _=>False,fun _ _=>False⟩
section
variable {P:Program} {w:World} {mg:Str→Option Value} {base:Heap}
abbrev cxW (P:Program) (w:World) (K:PySem.W.Frag) (mg:Str→Option Value) (base:Heap) (N:List Str) (qual:Str) (scope:Scope) (f:Addr) (cd:Value) (A:Around) (outer:List Env) (s:Shared) (H:Hp) (E:XK):Cx :=
 ZhZ (CXe P w) P w K mg base N qual scope f cd A outer s H E
theorem ZbB {N:List Str} {qual:Str} {scope:Scope} {f:Addr} {cd:Value} {A:Around} {outer:List Env} {s:Shared} {H:Hp} {E:XK}:ZlP (cxW P w K mg base N qual scope f cd A outer s H E) (fun _=>dnX K H E):=by
 intro pins σ Hc sc ev s' I ⟨e,C,H',ee,F,C',ω,G,eC,ts,r,q⟩
 cases eC
 refine ZyW pins σ Hc sc ev s' I ⟨e,C,H',ee,F,q H' ?_ r⟩
 exact (Un.mono' I.base).trans (Un.mono' F.un)
end
section
variable {X:Cx} {a b c e:Expr} {st:Stmt} {sts sts':List Stmt} {pos pos':Pos} {ga gb gc:GE} {gt gu:GT} {g1 g2:GS} {ex:Xw} {P:Hp→Prop}
def Zan:GS:=fun D ω G=>D.nx ω G
def Zao (g1 g2:GS):GS:=fun D ω G=>g1 { D with nx:=g2 D } ω G
theorem ZtW:GS.M Zan:=fun _ _ _ _ h _ _ _ q=>h _ _ q
theorem ZxJ (m1:g1.M) (m2:g2.M):GS.M (Zao g1 g2):=fun ω G D D' h1 h2 h3 h4 q=>m1 _ _ { D with nx:=g2 D } _ (fun _ _ z=>m2 _ _ _ _ h1 h2 h3 h4 z) h2 h3 h4 q
theorem Zvt:Zss X P [] Zan:=fun B hB=>ZmT Zuo (by rintro D σ H ⟨ω,G,ts,r,mb,q⟩;exact q σ H mb ts r)
theorem ZrN (m1:g1.M) (m2:g2.M) (h1:PSw X P st g1) (h2:Zss X P sts g2):Zss X P (st::sts) (Zao g1 g2):=fun B hB =>
 ZmT (Zsq (h1 B hB) (h2 B hB)) (by rintro D σ H ⟨ω,G,ts,r,mb,q⟩;exact ⟨ω,G,ts,r,mb,m1 _ _ { dnD X.K B D with nx:=g2 (dnD X.K B D) } _ (fun ω' G' z σ' H' m ts' r'=>⟨ω',G',ts',r',m,z⟩) (fun _ _ z=>z) (fun _ _ z=>z) (fun _ _ z=>z) q⟩)
theorem ZuG (h1:PSw X P st g1):Zss X P [st] g1:=fun B hB=>ZmT (Zud (h1 B hB)) fun D σ H z=>z
def ZaT (i:Nat) (ga:GE):GS:=fun D ω G=>ga ω G fun w G1=>D.nx (ω.set i (some w)) G1
theorem ZqI {i:Nat} (ma:ga.M):GS.M (ZaT i ga):=fun ω G D D' h _ _ _ q=>ma _ _ _ _ (fun _ _ z=>h _ _ z) q
theorem Ztt {i:Nat} {x:Str} (hN:X.N.Nodup) (hi:X.N[i]?=some x) (hx:Loc X.env.scope x) (ma:ga.M) (ha:PEw X e ga) (hs:swapsWith e (some (.Name x pos')) pos.line X.env=pure false) (hf:X.fn x=true∨X.env.scope.names.lookup x=some .local) :
  PSw X P (.Assign [.Name x pos'] e pos) (ZaT i ga):=fun B hB =>
 Zf1 (Zx3 hN hi hx ha hs hf) (by rintro D σ H ⟨ω,G,ts,r,mb,q⟩;exact ⟨ω,G,ts,r,ma _ _ _ _ (fun w G1 z v H1 m t r1=>z _ H1 (mb.trans m) ((ts.mono m).set i t) r1) q⟩)
def Zaz (ga:GE):GS:=fun D ω G=>ga ω G D.rt
theorem Zwe (ma:ga.M):GS.M (Zaz ga):=fun ω G D D' _ h _ _ q=>ma _ _ _ _ (fun _ _ z=>h _ _ z) q
theorem ZwL (ma:ga.M) (ha:PEw X e ga):PSw X P (.Return (some e) pos) (Zaz ga):=fun B hB=>Zf1 (Zv5 ha) (by rintro D σ H ⟨ω,G,ts,r,mb,q⟩;exact ⟨ω,G,ts,r,ma _ _ _ _ (fun w G1 z v H1 m t r1=>z v H1 (mb.trans m) t r1) q⟩)
def Zbd (ga:GE):GS:=fun D ω G=>ga ω G fun _ G1=>D.nx ω G1
theorem ZvE (ma:ga.M):GS.M (Zbd ga):=fun ω G D D' h _ _ _ q=>ma _ _ _ _ (fun _ _ z=>h _ _ z) q
theorem ZtX (ma:ga.M) (ha:PEw X e ga) (hs:swapsWith e none pos.line X.env=pure false):PSw X P (.Expr e pos) (Zbd ga):=fun B hB =>
 Zf1 (ZuB ha hs) (by rintro D σ H ⟨ω,G,ts,r,mb,q⟩;exact ⟨ω,G,ts,r,ma _ _ _ _ (fun w G1 z v H1 m t r1=>z _ H1 (mb.trans m) (ts.mono m) r1) q⟩)
def gIf (gt:GT) (g1 g2:GS):GS:=fun D ω G=>gt ω G fun b G1=>if b=true then g1 D ω G1 else g2 D ω G1
theorem ZzQ (mt:gt.M) (m1:g1.M) (m2:g2.M):GS.M (gIf gt g1 g2):=fun ω G D D' h1 h2 h3 h4 q=>mt _ _ _ _ (fun b G1 z=>by
 cases b with
 | true=>exact m1 _ _ _ _ h1 h2 h3 h4 z
 | false=>exact m2 _ _ _ _ h1 h2 h3 h4 z) q
theorem Zy7 (mt:gt.M) (m1:g1.M) (m2:g2.M) (hc:PTw X c gt) (h1:Zss X P sts g1) (h2:Zss X P sts' g2):PSw X P (.If c sts sts' pos) (gIf gt g1 g2):=fun B hB =>
 Zf1 (ZyV hc (h1 B hB) (h2 B hB)) fun D σ H ⟨ω,G,ts,r,mb,q⟩=>⟨ω,G,ts,r,mt _ _ _ _ (fun b G1 z H1 m r1=>by
  cases b with
  | true=>exact ⟨ω,G1,ts.mono m,r1,mb.trans m,z⟩
  | false=>exact ⟨ω,G1,ts.mono m,r1,mb.trans m,z⟩) q⟩
def gTB (g:GE):GT:=fun ω G Q=>g ω G fun w G1=>match w with | .bl b=>Q b G1 | _=>False
theorem Zws (m:ga.M):GT.M (gTB ga):=fun ω G Q Q' h q=>m _ _ _ _ (fun w G1 z=>by
 cases w <;> first | exact h _ _ z | exact z) q
theorem ZmG {v:V} {b:Bool} (t:Tr K H v (.bl b)):v=.bl b:=by cases t;rfl
theorem Zxk {v:V} {b:Int} (t:Tr K H v (.int b)):v=.int b:=by cases t;rfl
theorem Ztr {v:V} {b:Str} (t:Tr K H v (.str b)):v=.str b:=by cases t;rfl
theorem ZxD {v:V} {a:Addr} (t:Tr K H v (.ref a)):v=.ref a:=by cases t;rfl
theorem Zv4 (m:ga.M) {f:Bool→Hp→Prop} {σ:St} (h:upT K (gTB ga) σ H f):up K ga σ H (fun x H1=>∃ k,x=.bl k∧f k H1):=by
 obtain ⟨ω,G,ts,r,q⟩:=h
 refine ⟨ω,G,ts,r,m _ _ _ _ (fun w G1 z v H1 m1 t r1=>?_) q⟩
 cases w with
 | bl b=>exact ⟨b,ZmG t,z H1 m1 r1⟩
 | _=>exact z.elim
theorem Zw4 {op:CmpOp} {r:RW2} {r2:R2} (ho:OpR X (compareOp op) r2) (mr:r.M) (ma:ga.M) (mb:gb.M) (hr:∀ (x y:W) (v u:V) (G:Hw) (H:Hp) (Q:VK),Tr X.K H v x→Tr X.K H u y→RelH X.K H G→r x y G (dn X.K H Q)→r2 v u H Q)
  (ha:PEw X a ga) (hb:PEw X b gb) (hm:behindInMarks op b=false):PTw X (.Compare a [op] [b] pos) (gTB (Zaj r ga gb)) :=
 Zn9 (Zvh ho ha hb hm) fun σ H Q z=>Zob mr ma mb hr σ H _ (Zv4 (Zfh mr ma mb) z)
def Zev (w:W) (G:Hw):Option Bool:=match w with
 | .non=>some false
 | .bl b=>some b
 | .int i=>some (i != 0)
 | .tup xs=>some (!xs.isEmpty)
 | .rol xs=>some (!xs.isEmpty)
 | .ref a=>match G a with | some (.lst xs)=>some (!xs.isEmpty) | _=>none
 | .str _=>none
def Zc9 (g:GE):GT:=fun ω G Q=>g ω G fun w G1=>match Zev w G1 with | some b=>Q b G1 | none=>False
theorem Zxr (m:ga.M):GT.M (Zc9 ga):=fun ω G Q Q' h q=>m _ _ _ _ (fun w G1 z=>by
 cases e:Zev w G1 with
 | none=>rw [e] at z;exact z
 | some b=>rw [e] at z;exact h _ _ z) q
theorem Zhx:∀ {vs:List V} {ws:List W},TrL K H vs ws→vs.isEmpty=ws.isEmpty
 | _,_,.nil=>rfl
 | _,_,.cons _ _=>rfl
theorem ZuS {v:V} {w:W} {G:Hw} {b:Bool} (t:Tr K H v w) (r:RelH K H G) (e:Zev w G=some b):Zzp K v H b:=by
 cases t with
 | non=>cases e;rfl
 | bl c=>cases e;rfl
 | int i=>cases e;rfl
 | str x=>cases e
 | tup h l=>cases e;exact .inr (.inl ⟨_,h,by rw [Zhx l]⟩)
 | rol h l=>cases e;exact .inl ⟨_,h.sq,by rw [Zhx l]⟩
 | ref a =>
  unfold Zev at e
  dsimp only at e
  cases z:G a with
  | none=>rw [z] at e;cases e
  | some o =>
   rw [z] at e
   cases o with
   | exc C=>cases e
   | ins C fs=>cases e
   | dct kvs=>cases e
   | lst xs =>
    cases e
    obtain ⟨vs,e1,l⟩:=r a _ z
    exact .inl ⟨vs,SqL.of e1,by rw [Zhx l]⟩
theorem ZxV (ma:ga.M) (ha:PEw X e ga) (he:∀ whole,isTrue e X.env whole=(do let v ← whole;standAt e.pos;holding [v] (truthy v)):=by intro _;rfl):PTw X e (Zc9 ga) :=
 Zn9 (Zst ha he) fun σ H Q ⟨ω,G,ts,r,q⟩=>⟨ω,G,ts,r,ma _ _ _ _ (fun w G1 z v H1 m t r1=>by
  cases e1:Zev w G1 with
  | none=>rw [e1] at z;exact z.elim
  | some b=>rw [e1] at z;exact ⟨b,ZuS t r1 e1,z H1 m r1⟩) q⟩
def gNt (g:GT):GT:=fun ω G Q=>g ω G fun b G1=>Q (!b) G1
theorem Zz2 (m:gt.M):GT.M (gNt gt):=fun ω G Q Q' h q=>m _ _ _ _ (fun w G1 z=>h _ _ z) q
theorem Zx0 (ha:PTw X a gt):PTw X (.UnaryOp .Not a pos) (gNt gt):=Zn9 (Zwi ha) fun σ H Q z=>z
abbrev PWw (X:Cx) (e:Expr) (g:GT):Prop:=PW X e (upT X.K g)
theorem ZnK {e:Expr} {t t':TT} (h:PW X e t) (i:∀ σ H Q,t' σ H Q→t σ H Q):PW X e t':=fun wh pins s σ H Q I q=>h wh pins s σ H Q I (i σ H Q q)
def Zft (g1 g2:GT):GT:=fun ω G Q=>g1 ω G fun b G1=>if b=true then g2 ω G1 Q else Q false G1
def gOr (g1 g2:GT):GT:=fun ω G Q=>g1 ω G fun b G1=>if b=true then Q true G1 else g2 ω G1 Q
theorem Zyw (m1:gt.M) (m2:gu.M):GT.M (Zft gt gu):=fun ω G Q Q' h q=>m1 _ _ _ _ (fun b G1 z=>by
 cases b with
 | true=>exact m2 _ _ _ _ h z
 | false=>exact h _ _ z) q
theorem ZzT (m1:gt.M) (m2:gu.M):GT.M (gOr gt gu):=fun ω G Q Q' h q=>m1 _ _ _ _ (fun b G1 z=>by
 cases b with
 | true=>exact h _ _ z
 | false=>exact m2 _ _ _ _ h z) q
variable {ZbG:List Expr}
theorem Zvn (ha:PTw X a gt):PWw X (.BoolOp .And [a] pos) gt:=ZnK (ZuJ ha) fun σ H Q z=>z
theorem Zxq (ha:PTw X a gt):PWw X (.BoolOp .Or [a] pos) gt:=ZnK (ZxH ha) fun σ H Q z=>z
theorem Zxd (m1:gt.M) (m2:gu.M) (ha:PTw X a gt) (hb:PWw X (.BoolOp .And (b::ZbG) pos) gu):PWw X (.BoolOp .And (a::b::ZbG) pos) (Zft gt gu) :=
 ZnK (Zyv ha hb) fun σ H Q ⟨ω,G,ts,r,q⟩=>⟨ω,G,ts,r,m1 _ _ _ _ (fun b G1 z H1 m r1=>by
  cases b with
  | true=>exact ⟨ω,G1,ts.mono m,r1,m2 _ _ _ _ (fun _ _ z=>Znm m z) z⟩
  | false=>exact z H1 m r1) q⟩
theorem Zy2 (m1:gt.M) (m2:gu.M) (ha:PTw X a gt) (hb:PWw X (.BoolOp .Or (b::ZbG) pos) gu):PWw X (.BoolOp .Or (a::b::ZbG) pos) (gOr gt gu) :=
 ZnK (Zzv ha hb) fun σ H Q ⟨ω,G,ts,r,q⟩=>⟨ω,G,ts,r,m1 _ _ _ _ (fun b G1 z H1 m r1=>by
  cases b with
  | true=>exact z H1 m r1
  | false=>exact ⟨ω,G1,ts.mono m,r1,m2 _ _ _ _ (fun _ _ z=>Znm m z) z⟩) q⟩
theorem ZuI {op:BoolOp} {vs:List Expr} (h:PWw X (.BoolOp op vs pos) gt):PTw X (.BoolOp op vs pos) gt:=PW.pt h
def ZbV (ga gb:GE):GE:=fun ω G Q=>ga ω G fun x G1=>match x with | .bl c=>if c=true then gb ω G1 Q else Q (.bl false) G1 | _=>False
def Zfv (ga gb:GE):GE:=fun ω G Q=>ga ω G fun x G1=>match x with | .bl c=>if c=true then Q (.bl true) G1 else gb ω G1 Q | _=>False
def Zck (ga:GE):GE:=fun ω G Q=>ga ω G fun x G1=>match x with | .bl c=>Q (.bl (!c)) G1 | _=>False
def Zfp (gt:GT) (ga gb:GE):GE:=fun ω G Q=>gt ω G fun c G1=>if c=true then ga ω G1 Q else gb ω G1 Q
theorem Zvd (ma:ga.M) (mb:gb.M):GE.M (ZbV ga gb):=fun ω G Q Q' h q=>ma _ _ _ _ (fun x G1 z=>by
 cases x with
 | bl c =>
  cases c with
  | true=>exact mb _ _ _ _ h z
  | false=>exact h _ _ z
 | _=>exact z) q
theorem ZwE (ma:ga.M) (mb:gb.M):GE.M (Zfv ga gb):=fun ω G Q Q' h q=>ma _ _ _ _ (fun x G1 z=>by
 cases x with
 | bl c =>
  cases c with
  | true=>exact h _ _ z
  | false=>exact mb _ _ _ _ h z
 | _=>exact z) q
theorem ZvN (ma:ga.M):GE.M (Zck ga):=fun ω G Q Q' h q=>ma _ _ _ _ (fun x G1 z=>by
 cases x with
 | bl c=>exact h _ _ z
 | _=>exact z) q
theorem Zx1 (mt:gt.M) (ma:ga.M) (mb:gb.M):GE.M (Zfp gt ga gb):=fun ω G Q Q' h q=>mt _ _ _ _ (fun c G1 z=>by
 cases c with
 | true=>exact ma _ _ _ _ h z
 | false=>exact mb _ _ _ _ h z) q
theorem Zwu {op:BoolOp} (h:PEw X a ga):PEw X (.BoolOp op [a] pos) ga:=Zxm h
theorem Zwp (ma:ga.M) (mb:gb.M) (ha:PEw X a ga) (hb:PEw X (.BoolOp .And (b::ZbG) pos) gb):PEw X (.BoolOp .And (a::b::ZbG) pos) (ZbV ga gb) :=
 Zbh (Zw1 ha hb) fun σ H Q ⟨ω,G,ts,r,q⟩=>⟨ω,G,ts,r,ma _ _ _ _ (fun x G1 z v H1 m t r1=>by
  cases x with
  | bl c =>
   refine ⟨c,ZmG t,?_⟩
   cases c with
   | true=>exact ⟨ω,G1,ts.mono m,r1,mb _ _ _ _ (fun _ _ z=>Zcq m z) z⟩
   | false=>exact z _ H1 m (.bl false) r1
  | _=>exact z.elim) q⟩
theorem ZzM (ma:ga.M) (mb:gb.M) (ha:PEw X a ga) (hb:PEw X (.BoolOp .Or (b::ZbG) pos) gb):PEw X (.BoolOp .Or (a::b::ZbG) pos) (Zfv ga gb) :=
 Zbh (Zzk ha hb) fun σ H Q ⟨ω,G,ts,r,q⟩=>⟨ω,G,ts,r,ma _ _ _ _ (fun x G1 z v H1 m t r1=>by
  cases x with
  | bl c =>
   refine ⟨c,ZmG t,?_⟩
   cases c with
   | true=>exact z _ H1 m (.bl true) r1
   | false=>exact ⟨ω,G1,ts.mono m,r1,mb _ _ _ _ (fun _ _ z=>Zcq m z) z⟩
  | _=>exact z.elim) q⟩
theorem Zwz (ma:ga.M) (ha:PEw X a ga):PEw X (.UnaryOp .Not a pos) (Zck ga) :=
 Zbh (Zyu ha) fun σ H Q ⟨ω,G,ts,r,q⟩=>⟨ω,G,ts,r,ma _ _ _ _ (fun x G1 z v H1 m t r1=>by
  cases x with
  | bl c=>exact ⟨c,ZmG t,z _ H1 m (.bl _) r1⟩
  | _=>exact z.elim) q⟩
theorem Zxz (mt:gt.M) (ma:ga.M) (mb:gb.M) (hc:PTw X c gt) (ha:PEw X a ga) (hb:PEw X b gb):PEw X (.IfExp c a b pos) (Zfp gt ga gb) :=
 Zbh (Zrr hc ha hb) fun σ H Q ⟨ω,G,ts,r,q⟩=>⟨ω,G,ts,r,mt _ _ _ _ (fun c G1 z H1 m r1=>by
  cases c with
  | true=>exact ⟨ω,G1,ts.mono m,r1,ma _ _ _ _ (fun _ _ z=>Zcq m z) z⟩
  | false=>exact ⟨ω,G1,ts.mono m,r1,mb _ _ _ _ (fun _ _ z=>Zcq m z) z⟩) q⟩
variable {es:List Expr} {gs:GA}
def ZaA (gs:GA):GE:=fun ω G Q=>gs ω G fun ws G1=>ws.length≤sizeLine∧Q (.tup ws) G1
def Zbv (gs:GA):GE:=fun ω G Q=>gs ω G fun ws G1=>ws.length≤sizeLine∧∀ p,G1 p=none→Q (.ref p) (put G1 p (.lst ws))
theorem Zwk (m:gs.M):GE.M (ZaA gs):=fun ω G Q Q' h q=>m _ _ _ _ (fun ws G1 z=>⟨z.1,h _ _ z.2⟩) q
theorem Zwm (m:gs.M):GE.M (Zbv gs):=fun ω G Q Q' h q=>m _ _ _ _ (fun ws G1 z=>⟨z.1,fun p hp=>h _ _ (z.2 p hp)⟩) q
theorem ZwP {x1} (m:gs.M) (h:PAw X es gs):PEw X (.Tuple es x1 pos) (ZaA gs) :=
 Zbh (Zxh h) fun σ H Q ⟨ω,G,ts,r,q⟩=>⟨ω,G,ts,r,m _ _ _ _ (fun ws G1 z vs H1 m1 t r1=>⟨by rw [t.length];exact z.1,fun p hp =>
  z.2 _ _ (m1.trans (Mono.new hp _)) (.tup (SqT.of ZbA) (t.mono (Mono.new hp _))) (r1.mono0 hp)⟩) q⟩
theorem Zye (m:gs.M) (h:PAw X es gs):PEw X (.List es pos) (Zbv gs) :=
 Zbh (ZwQ h) fun σ H Q ⟨ω,G,ts,r,q⟩=>⟨ω,G,ts,r,m _ _ _ _ (fun ws G1 z vs H1 m1 t r1=>⟨by rw [t.length];exact z.1,fun p hp =>
  z.2 p (r1.no hp) _ _ (m1.trans (Mono.new hp _)) (.ref p) (r1.new hp t)⟩) q⟩
end
def ZiA (z:Str):List V:=z.cps.toList.map fun c=>V.str ⟨#[c]⟩
def Itk (xs:List V):It:=⟨fun i _=>i < xs.length,fun i H x H'=>H'=H∧xs[i]?=some x,fun i _=>xs.length≤i⟩
theorem ZoO {P:Program} {w:World} {tg:Expr} (ht:∀ it u,letOwnedTupleGo tg it u=pure ()) (it:Addr) (z:Str) (t:Tok):Zrn P w K tg (Itk (ZiA z)) [it] it (fun i h=>h.IsStrIter it "str_ascii_iterator" z t i) where
 mem:=by simp
 obj:=fun i h st b hb=>by
  have e:b=it:=by simpa using hb
  subst e
  obtain ⟨o,e,c,d⟩:=st
  exact ⟨o,e,fun v z=>by rw [d] at z;cases z⟩
 keep:=fun i h h' st k=>by
  obtain ⟨o,e,c,d⟩:=st
  exact ⟨o,k it (by simp) o e,c,d⟩
 item:=by
  walk_at "pa"
  subst hP hw hK
  walk_at "pg"
  have W:=Walks.strAscii (prog:=X.prog) (w:=X.w) (I.ok.hd hc) it z t
  have hi:i < z.cps.size:=by simpa [ZiA,Itk] using hg
  refine W.item i s _ _ hi st fun v h' tk hv st' kk=>?_
  obtain ⟨c,t',hc',rfl⟩:=hv
  walk_at "ph"
  exact ⟨_,rfl,wpAny_of_eq (ht _ _) ⟨.str ⟨#[c]⟩,H,I1,⟨_,rfl⟩,⟨rfl,by simp [ZiA,hc']⟩,st',fun b hb=>(hf b hb).1⟩⟩
 done:=by
  walk_at "pa"
  subst hP hw hK
  walk_at "pg"
  have hi:z.cps.size≤i:=by simpa [ZiA,Itk] using hg
  exact wpAny_pyNext_ascii_end (I.ok.hd hc) st (by simp [hi]) fun h' eb=>⟨rfl,I.turned (t':=s.toks) (fun b o hb e=>eb b o hb e) f0 f1 f3 f4 f5⟩
 self:=fun A i s Q E st h=>wpAny_pyIter_striter_ascii st h
theorem Zps {P:Program} {w:World} {tg:Expr} (ht:∀ it u,letOwnedTupleGo tg it u=pure ()) (it:Addr) (z:Str) (t:Tok):Zrn P w K tg (Itk (ZiA z)) [it] it (fun i h=>h.IsStrIter it "str_iterator" z t i) where
 mem:=by simp
 obj:=fun i h st b hb=>by
  have e:b=it:=by simpa using hb
  subst e
  obtain ⟨o,e,c,d⟩:=st
  exact ⟨o,e,fun v z=>by rw [d] at z;cases z⟩
 keep:=fun i h h' st k=>by
  obtain ⟨o,e,c,d⟩:=st
  exact ⟨o,k it (by simp) o e,c,d⟩
 item:=by
  walk_at "pa"
  subst hP hw hK
  walk_at "pg"
  have W:=Walks.strWide (prog:=X.prog) (w:=X.w) (I.ok.hd hc) it z t
  have hi:i < z.cps.size:=by simpa [ZiA,Itk] using hg
  refine W.item i s _ _ hi st fun v h' tk hv st' kk=>?_
  obtain ⟨c,t',hc',rfl⟩:=hv
  walk_at "ph"
  exact ⟨_,rfl,wpAny_of_eq (ht _ _) ⟨.str ⟨#[c]⟩,H,I1,⟨_,rfl⟩,⟨rfl,by simp [ZiA,hc']⟩,st',fun b hb=>(hf b hb).1⟩⟩
 done:=by
  walk_at "pa"
  subst hP hw hK
  walk_at "pg"
  have hi:z.cps.size≤i:=by simpa [ZiA,Itk] using hg
  exact wpAny_pyNext_wide_end (I.ok.hd hc) st (by simp [hi]) fun h' eb=>⟨rfl,I.turned (t':=s.toks) (fun b o hb e=>eb b o hb e) f0 f1 f3 f4 f5⟩
 self:=fun A i s Q E st h=>wpAny_pyIter_striter_wide st h
def ZAw (K:PySem.W.Frag) (tl:TE):TI:=fun σ H R=>tl σ H fun x H1=>(∃ a,x=.ref a∧(∃ xs,SqL K H1 a xs)∧R (Itl K a) H1)∨(∃ a,x=.ref a∧(∃ xs,SqT K H1 a xs)∧R (Itt K a) H1)∨(∃ z,x=.str z∧R (Itk (ZiA z)) H1)
theorem ZxI {X:Cx} {tg l:Expr} {tl:TE} (ht:∀ it u,letOwnedTupleGo tg it u=pure ()) (hl:PE X l tl):PI X tg l (ZAw X.K tl):=by
 intro pins s σ H R I h
 refine thn (hl pins s σ H _ I h) fun v s1 zz1=>?_
 obtain ⟨x,H1,I1,r1,q1⟩:=zz1
 rcases q1 with ⟨a,e,⟨xs,hq⟩,q⟩ | ⟨a,e,⟨xs,hq⟩,q⟩ | ⟨z,e,q⟩
 ·subst e
  cases r1
  obtain ⟨its,rv,p,hz⟩:=I1.list hq
  refine wpAny_pyIter_list p.isList ?_
  refine ⟨s1.heap.objs.size,[s1.heap.objs.size],_,_,H1,rfl,I1.kept (t':=s1.toks) fun b o e=>Heap.get?_push_of_some _ e,ZqP a _,⟨_,Heap.get?_push_size _ rfl,rfl,rfl⟩,fun b hb=>?_,q⟩
  have e:b=s1.heap.objs.size:=by simpa using hb
  subst e
  exact I1.fpOk (Nat.le_refl _) (I1.hok.fresh (Nat.le_refl _))
 ·subst e
  cases r1
  obtain ⟨its,rv,p,hz⟩:=I1.tuple hq
  refine wpAny_pyIter_tuple (show s1.heap.IsTuple a its.toArray from p) ?_
  refine ⟨s1.heap.objs.size,[s1.heap.objs.size],_,_,H1,rfl,I1.kept (t':=s1.toks) fun b o e=>Heap.get?_push_of_some _ e,ZoJ a _,⟨_,Heap.get?_push_size _ rfl,rfl,rfl⟩,fun b hb=>?_,q⟩
  have e:b=s1.heap.objs.size:=by simpa using hb
  subst e
  exact I1.fpOk (Nat.le_refl _) (I1.hok.fresh (Nat.le_refl _))
 ·subst e
  obtain ⟨t,rfl⟩:=r1
  have fp:∀ b∈[s1.heap.objs.size],Zpy X pins H1 b:=fun b hb=>by
   have e:b=s1.heap.objs.size:=by simpa using hb
   subst e
   exact I1.fpOk (Nat.le_refl _) (I1.hok.fresh (Nat.le_refl _))
  cases ha:z.cps.all (· < 128)
  ·exact wpAny_pyIter_wide ha ⟨s1.heap.objs.size,[s1.heap.objs.size],_,_,H1,rfl,I1.kept (t':=s1.toks) fun b o e=>Heap.get?_push_of_some _ e,Zps ht _ z t,⟨_,Heap.get?_push_size _ rfl,rfl,rfl⟩,fp,q⟩
  ·exact wpAny_pyIter_ascii ha ⟨s1.heap.objs.size,[s1.heap.objs.size],_,_,H1,rfl,I1.kept (t':=s1.toks) fun b o e=>Heap.get?_push_of_some _ e,ZoO ht _ z t,⟨_,Heap.get?_push_size _ rfl,rfl,rfl⟩,fp,q⟩
abbrev GI:=Sw→Hw→(List W→(Hw→Prop)→Hw→Prop)→Prop
def GI.M (g:GI):Prop:=∀ ω G (R R':List W→(Hw→Prop)→Hw→Prop),(∀ ws gd G',R ws gd G'→R' ws gd G')→g ω G R→g ω G R'
def Zi3 (z:Str):List W:=z.cps.toList.map fun c=>W.str ⟨#[c]⟩
theorem ZqU {z:Str}:TrL K H (ZiA z) (Zi3 z):=by
 unfold ZiA Zi3
 generalize z.cps.toList=l
 induction l with
 | nil=>exact .nil
 | cons c l ih=>exact .cons (.str _) ih
def yes:Hw→Prop:=fun _=>True
def holds (a:Addr) (ws:List W):Hw→Prop:=fun G=>G a=some (.lst ws)
def Zbc (ga:GE):GI:=fun ω G R=>ga ω G fun w G1=>match w with
 | .tup ws=>R ws yes G1
 | .rol ws=>R ws yes G1
 | .str z=>R (Zi3 z) yes G1
 | .ref a=>match G1 a with | some (.lst ws)=>R ws (holds a ws) G1 | _=>False
 | _=>False
theorem ZvC {ga:GE} (m:ga.M):GI.M (Zbc ga):=fun ω G R R' h q=>m _ _ _ _ (fun w G1 z=>by
 cases w with
 | tup ws=>exact h _ _ _ z
 | rol ws=>exact h _ _ _ z
 | str x=>exact h _ _ _ z
 | ref a =>
  dsimp only at z ⊢
  cases e:G1 a with
  | none=>rw [e] at z;exact z
  | some o =>
   rw [e] at z
   cases o with
   | lst ws=>exact h _ _ _ z
   | exc C=>exact z
   | ins C fs=>exact z
   | dct kvs=>exact z
 | _=>exact z) q
structure Zvi (K:PySem.W.Frag) (H1:Hp) (J:It) (ws:List W) (gd:Hw→Prop):Prop where
 go:∀ (i:Nat) (H:Hp) (G:Hw),Mono K H1 H→RelH K H G→gd G→i < ws.length→J.go i H
 yld:∀ (i:Nat) (H:Hp) (G:Hw) (x:V) (H':Hp),Mono K H1 H→RelH K H G→gd G→J.yld i H x H'→i < ws.length→Mono K H H'∧RelH K H' G∧∃ w,ws[i]?=some w∧Tr K H' x w
 stop:∀ (H:Hp) (G:Hw),Mono K H1 H→RelH K H G→gd G→J.stop ws.length H
theorem Zim {H H':Hp} {G:Hw} {x:V} {ws:List W} {i:Nat} (r:RelH K H G) (e:H'=H) (h:∃ w,ws[i]?=some w∧Tr K H x w):Mono K H H'∧RelH K H' G∧∃ w,ws[i]?=some w∧Tr K H' x w:=by
 subst e;exact ⟨.refl,r,h⟩
theorem Zni {a:Addr} {ws:List W} {gd:Hw→Prop} {H1:Hp} (h:∀ H G,Mono K H1 H→RelH K H G→gd G→∃ vs,SqL K H a vs∧TrL K H vs ws):Zvi K H1 (Itl K a) ws gd where
 go:=fun i H G m r g hi=>by
  obtain ⟨vs,q,t⟩:=h H G m r g
  have hl:=t.length
  exact ⟨vs,vs[i]'(by omega),q,by simp⟩
 yld:=fun i H G x H' m r g y hi=>by
  obtain ⟨vs,q,t⟩:=h H G m r g
  obtain ⟨w,e,tw⟩:=t.get' (y.2 vs q)
  exact Zim r y.1 ⟨w,e,tw⟩
 stop:=fun H G m r g=>by
  obtain ⟨vs,q,t⟩:=h H G m r g
  exact ⟨vs,q,Nat.le_of_eq t.length⟩
theorem Zrq {a:Addr} {vs:List V} {ws:List W} {gd:Hw→Prop} {H1:Hp} (q:SqT K H1 a vs) (t:TrL K H1 vs ws):Zvi K H1 (Itt K a) ws gd where
 go:=fun i H G m r g hi=>by
  have hl:=t.length
  exact ⟨vs,vs[i]'(by omega),m.tup _ _ q,by simp⟩
 yld:=fun i H G x H' m r g y hi=>by
  obtain ⟨w,e,tw⟩:=(t.mono m).get' (y.2 vs (m.tup _ _ q))
  exact Zim r y.1 ⟨w,e,tw⟩
 stop:=fun H G m r g=>⟨vs,m.tup _ _ q,Nat.le_of_eq t.length⟩
theorem ZoR {vs:List V} {ws:List W} {gd:Hw→Prop} {H1:Hp} (t:TrL K H1 vs ws):Zvi K H1 (Itk vs) ws gd where
 go:=fun i H G m r g hi=>by show i < vs.length;rw [t.length];exact hi
 yld:=fun i H G x H' m r g y hi=>by
  obtain ⟨w,e,tw⟩:=(t.mono m).get' y.2
  exact Zim r y.1 ⟨w,e,tw⟩
 stop:=fun H G m r g=>by show vs.length≤ws.length;exact Nat.le_of_eq t.length
def PIw (X:Cx) (tg l:Expr) (gi:GI):Prop:=∃ wi:TI,PI X tg l wi∧∀ (σ:St) (H:Hp) (ω:Sw) (G:Hw) (R:List W→(Hw→Prop)→Hw→Prop) (R0:It→Hp→Prop),TrSt X.K H σ ω→RelH X.K H G→gi ω G R →
 (∀ ws gd G1 H1 J,R ws gd G1→Mono X.K H H1→RelH X.K H1 G1→gd G1→Zvi X.K H1 J ws gd→R0 J H1)→wi σ H R0
theorem Zx9 {X:Cx} {tg l:Expr} {ga:GE} (ht:∀ it u,letOwnedTupleGo tg it u=pure ()) (ma:ga.M) (hl:PEw X l ga):PIw X tg l (Zbc ga):=by
 refine ⟨_,ZxI ht hl,fun σ H ω G R R0 ts r q k=>⟨ω,G,ts,r,ma _ _ _ _ (fun w G1 z v H1 m t r1=>?_) q⟩⟩
 cases t with
 | tup h l=>exact .inr (.inl ⟨_,rfl,⟨_,h⟩,k _ _ _ H1 _ z m r1 trivial (Zrq h l)⟩)
 | rol h l=>exact .inl ⟨_,rfl,⟨_,h.sq⟩,k _ _ _ H1 _ z m r1 trivial (Zni fun H2 G2 m2 _ _=>⟨_,(m2.rol _ _ h).sq,l.mono m2⟩)⟩
 | str x=>exact .inr (.inr ⟨x,rfl,k _ _ _ H1 _ z m r1 trivial (ZoR ZqU)⟩)
 | ref a =>
  dsimp only at z
  cases e:G1 a with
  | none=>rw [e] at z;exact z.elim
  | some o =>
   rw [e] at z
   cases o with
   | exc C=>exact z.elim
   | ins C fs=>exact z.elim
   | dct kvs=>exact z.elim
   | lst ws =>
    obtain ⟨vs,e1,t1⟩:=r1 a _ e
    exact .inl ⟨a,rfl,⟨vs,SqL.of e1⟩,k _ _ _ H1 _ z m r1 e (Zni fun H2 G2 m2 r2 g2=>let ⟨vs,e2,t2⟩:=r2 a _ g2;⟨vs,SqL.of e2,t2⟩)⟩
 | non=>exact z.elim
 | bl b=>exact z.elim
 | int i=>exact z.elim
structure TgW (X:Cx) (tg:Expr) (gg:GG):Prop where
 ex:∃ g:TG,PG X tg g∧∀ (x:V) (w:W) (σ:St) (ω:Sw) (H:Hp) (G:Hw) (Q:St→Hp→Prop),Tr X.K H x w→TrSt X.K H σ ω→RelH X.K H G→gg w ω G (dnS X.K H Q)→g x σ H Q
 mono:gg.M
def gNm (i:Nat):GG:=fun w ω G Q=>Q (ω.set i (some w)) G
theorem Zbm {X:Cx} {x:Str} {p:Pos} {i:Nat} (hN:X.N.Nodup) (hi:X.N[i]?=some x) (hx:Loc X.env.scope x) (hf:X.fn x=true∨X.env.scope.names.lookup x=some .local):TgW X (.Name x p) (gNm i) where
 ex:=⟨_,Zec hN hi hx hf,fun x w σ ω H G Q t ts r q=>q _ H .refl (ts.set i t) r⟩
 mono:=fun _ _ _ _ _ h q=>h _ _ q
def Zms (i j:Nat):GG:=fun w ω G Q=>match w with | .tup [a,b]=>Q ((ω.set i (some a)).set j (some b)) G | _=>False
def ZeO (gd:Hw→Prop) (gg:GG) (gb:GS) (D:Ew):List W→Sw→Hw→Prop
 | [],ω,G=>gd G∧D.nx ω G
 | x::xs,ω,G=>gd G∧gg x ω G fun ω1 G1=>gb { nx:=ZeO gd gg gb D xs,rt:=D.rt,bk:=D.nx,ct:=ZeO gd gg gb D xs } ω1 G1
def ZdZ (gi:GI) (gg:GG) (gb:GS):GS:=fun D ω G=>gi ω G fun ws gd G1=>ZeO gd gg gb D ws ω G1
theorem ZmW {gd:Hw→Prop} {gg:GG} {gb:GS} (mg:gg.M) (mb:gb.M) {D D':Ew} (h1:∀ a b,D.nx a b→D'.nx a b) (h2:∀ a b,D.rt a b→D'.rt a b):∀ (ws:List W) (ω:Sw) (G:Hw),ZeO gd gg gb D ws ω G→ZeO gd gg gb D' ws ω G
 | [],ω,G,q=>⟨q.1,h1 _ _ q.2⟩
 | x::xs,ω,G,q=>⟨q.1,mg _ _ _ _ _ (fun ω1 G1 z=>mb _ _ { nx:=ZeO gd gg gb D xs,rt:=D.rt,bk:=D.nx,ct:=ZeO gd gg gb D xs } _ (fun a b y=>ZmW mg mb h1 h2 xs a b y) h2 h1 (fun a b y=>ZmW mg mb h1 h2 xs a b y) z) q.2⟩
theorem Zwl {gi:GI} {gg:GG} {gb:GS} (mi:gi.M) (mg:gg.M) (mb:gb.M):GS.M (ZdZ gi gg gb):=fun ω G D D' h1 h2 h3 h4 q=>mi _ _ _ _ (fun ws gd G1 z=>ZmW mg mb h1 h2 ws ω G1 z) q
theorem ZrG {gd:Hw→Prop} {gg:GG} {gb:GS} {D:Ew} {ws:List W} {ω:Sw} {G:Hw} (q:ZeO gd gg gb D ws ω G):gd G:=by
 cases ws with
 | nil=>exact q.1
 | cons w ws=>exact q.1
theorem Zxi {X:Cx} {P:Hp→Prop} {tg iter:Expr} {body:List Stmt} {pos:Pos} {gi:GI} {gg:GG} {gb:GS} (hp:PassesOwn (model X.prog X.w) X.A X.env X.xe) (hc:X.calm=true) (mi:gi.M) (mb:gb.M) (hi:PIw X tg iter gi) (hg:TgW X tg gg) (hb:Zss X Zz8 body gb)
  (hs:∀ x,foldedSetIterable iter X.env x=pure x:=by intro _;rfl):PSw X P (.For tg iter body [] pos) (ZdZ gi gg gb):=by
 intro B hB
 obtain ⟨wi,hwi,hi⟩:=hi
 obtain ⟨g,hpg,hgg⟩:=hg.ex
 have mg:=hg.mono
 have hb':PSs X body (fun D σ H=>∃ B',upS X.K B' gb D σ H):=(by rintro pins s σ H D I ⟨B',z⟩;exact hb B' trivial pins s σ H D I z)
 refine Zf1 (ZyE hp hc hwi hpg hb' hs) fun D σ H zz2=>?_
 obtain ⟨ω,G,ts,r,mb0,q⟩:=zz2
 refine hi σ H ω G _ _ ts r q fun ws gd G1 H1 J z m1 r1 hgd wk=>?_
 have mb1:=mb0.trans m1
 refine ⟨fun i m σ' H'=>m=ws.length - i∧i≤ws.length∧Mono X.K H1 H'∧∃ ω' G',TrSt X.K H' σ' ω'∧RelH X.K H' G'∧ZeO gd gg gb (dnD X.K B D) (ws.drop i) ω' G',⟨ws.length,by simp,Nat.zero_le _,.refl,ω,G1,ts.mono m1,r1,by simpa using z⟩,?_⟩
 rintro i m σ' H' ⟨rfl,hle,mm,ω',G',ts',r',q'⟩
 have hgd':=ZrG q'
 by_cases hlt:i < ws.length
 ·refine .inr ⟨wk.go i H' G' mm r' hgd' hlt,fun σ2 H2=>Mono X.K H1 H2∧∃ ω2 G2,TrSt X.K H2 σ2 ω2∧RelH X.K H2 G2∧ZeO gd gg gb (dnD X.K B D) (ws.drop (i+1)) ω2 G2,
   (by rintro σ2 H2 ⟨y1,y2⟩;exact ⟨ws.length - (i+1),by omega,rfl,hlt,y1,y2⟩),fun x H2 y=>?_⟩
  obtain ⟨my,ry,w,ew,tw⟩:=wk.yld i H' G' x H2 mm r' hgd' y hlt
  have mm:=mm.trans my
  have ed:ws.drop i=w::ws.drop (i+1):=by
   obtain ⟨h',e'⟩:=List.getElem?_eq_some_iff.mp ew
   rw [← e'];exact List.drop_eq_getElem_cons h'
  rw [ed] at q'
  refine hgg x w σ' ω' _ G' _ tw (ts'.mono my) ry (mg _ _ _ _ _ (fun ω1 G1' z1 σ1 H3 m3 ts3 r3=>?_) q'.2)
  exact ⟨H1,ω1,G1',ts3,r3,mm.trans m3,mb _ _ _ _ (fun a b y σ4 H4 m4 ts4 r4=>⟨m4,a,b,ts4,r4,y⟩) (fun a b y=>Zcq mb1 y) (fun a b y=>ZrR mb1 y) (fun a b y σ4 H4 m4 ts4 r4=>⟨m4,a,b,ts4,r4,y⟩) z1⟩
 ·have e:i=ws.length:=by omega
  subst e
  rw [List.drop_length] at q'
  exact .inl ⟨wk.stop H' G' mm r' hgd',q'.2 σ' H' (mb1.trans mm) ts' r'⟩
def Zb7 (gd:Hw→Prop) (gg:GG) (gt:GT) (ge:GE) (R:List W→Hw→Prop):List W→Sw→Hw→List W→Prop
 | [],_,G,ys=>gd G∧R ys G
 | x::xs,ω,G,ys=>gd G∧ys.length < sizeLine∧gg x ω G fun ω1 G1=>gt ω1 G1 fun b G2=>if b=true then ge ω1 G2 fun y G3=>Zb7 gd gg gt ge R xs ω1 G3 (ys++[y]) else Zb7 gd gg gt ge R xs ω1 G2 ys
def Zbu (gi:GI) (n:Nat) (gg:GG) (gt:GT) (ge:GE):GE:=fun ω G Q=>gi ω G fun ws gd G1=>Zb7 gd gg gt ge (fun ys G2=>∀ p,G2 p=none→Q (.ref p) (put G2 p (.lst ys))) ws (List.replicate n none) G1 []
theorem Ziz {gd:Hw→Prop} {gg:GG} {gt:GT} {ge:GE} (mg:gg.M) (mt:gt.M) (me:ge.M) {R R':List W→Hw→Prop} (h:∀ a b,R a b→R' a b):∀ (ws:List W) (ω:Sw) (G:Hw) (ys:List W),Zb7 gd gg gt ge R ws ω G ys→Zb7 gd gg gt ge R' ws ω G ys
 | [],ω,G,ys,q=>⟨q.1,h _ _ q.2⟩
 | x::xs,ω,G,ys,q=>⟨q.1,q.2.1,mg _ _ _ _ _ (fun ω1 G1 z=>mt _ _ _ _ (fun b G2 z2=>by
   cases b with
   | true=>exact me _ _ _ _ (fun y G3 z3=>Ziz mg mt me h xs ω1 G3 _ z3) z2
   | false=>exact Ziz mg mt me h xs ω1 G2 _ z2) z) q.2.2⟩
theorem Zve {gi:GI} {n:Nat} {gg:GG} {gt:GT} {ge:GE} (mi:gi.M) (mg:gg.M) (mt:gt.M) (me:ge.M):GE.M (Zbu gi n gg gt ge):=fun ω G Q Q' h q =>
 mi _ _ _ _ (fun ws gd G1 z=>Ziz mg mt me (fun ys G2 z p hp=>h _ _ (z p hp)) _ _ _ _ z) q
theorem Zlh {gd:Hw→Prop} {gg:GG} {gt:GT} {ge:GE} {R:List W→Hw→Prop} {ws:List W} {ω:Sw} {G:Hw} {ys:List W} (q:Zb7 gd gg gt ge R ws ω G ys):gd G:=by
 cases ws with
 | nil=>exact q.1
 | cons w ws=>exact q.1
def ZhL:GT:=fun _ G Q=>Q true G
theorem Zwf:GT.M ZhL:=fun _ _ _ _ h q=>h _ _ q
abbrev PFw (X:Cx) (ifs:List Expr) (g:GT):Prop:=PF X ifs (upT X.K g)
theorem Zxc {X:Cx}:PFw X [] ZhL:=(by rintro pins s σ H Q I ⟨ω,G,ts,r,q⟩;exact Zxn pins s σ H Q I (q H .refl r))
theorem Zwj {X:Cx} {c:Expr} {g:GT} (h:PTw X c g):PFw X [c] g:=Zxl h
theorem ZqF {n:Nat} {σ:St} (h:σ=List.replicate n none):TrSt K H σ (List.replicate n none):=by
 subst h
 refine ⟨by simp,fun i w e=>?_⟩
 rw [List.getElem?_replicate] at e
 split at e <;> cases e
theorem ZuH {X:Cx} {Nc:List Str} {gi:GI} {gg:GG} {gt:GT} {ge:GE} {wi:TI} {g:TG} (hwi:∀ (σ:St) (H:Hp) (ω:Sw) (G:Hw) (R:List W→(Hw→Prop)→Hw→Prop) (R0:It→Hp→Prop),TrSt X.K H σ ω→RelH X.K H G→gi ω G R →
   (∀ ws gd G1 H1 J,R ws gd G1→Mono X.K H H1→RelH X.K H1 G1→gd G1→Zvi X.K H1 J ws gd→R0 J H1)→wi σ H R0)
  (hgg:∀ (x:V) (w:W) (σ:St) (ω:Sw) (H:Hp) (G:Hw) (Q:St→Hp→Prop),Tr X.K H x w→TrSt X.K H σ ω→RelH X.K H G→gg w ω G (dnS X.K H Q)→g x σ H Q) (mg:gg.M) (mt:gt.M) (me:ge.M) (σ:St) (H:Hp) (Q:VK) (h:up X.K (Zbu gi Nc.length gg gt ge) σ H Q) :
  ZrU wi (fun _=>List.replicate Nc.length none) g (upT X.K gt) (up X.K ge) σ H Q:=by
 obtain ⟨ω,G,ts,r,q⟩:=h
 refine hwi σ H ω G _ _ ts r q fun ws gd G1 H1 J z m1 r1 hgd wk=>?_
 refine ⟨fun i m σ' H' vs=>m=ws.length - i∧i≤ws.length∧Mono X.K H1 H'∧∃ ω' G' ys,TrSt X.K H' σ' ω'∧RelH X.K H' G'∧TrL X.K H' vs ys∧Zb7 gd gg gt ge (fun ys G2=>∀ p,G2 p=none→dn X.K H Q (.ref p) (put G2 p (.lst ys))) (ws.drop i) ω' G' ys,
  ⟨ws.length,by simp,Nat.zero_le _,.refl,_,G1,[],ZqF rfl,r1,.nil,by simpa using z⟩,?_⟩
 rintro i m σ' H' vs ⟨rfl,hle,mm,ω',G',ys,ts',r',tv,q'⟩
 have hgd':=Zlh q'
 by_cases hlt:i < ws.length
 ·have hw:∃ w,ws[i]?=some w:=⟨ws[i],by simp [hlt]⟩
  obtain ⟨w0,ew0⟩:=hw
  have ed:ws.drop i=w0::ws.drop (i+1):=by
   obtain ⟨h',e'⟩:=List.getElem?_eq_some_iff.mp ew0
   rw [← e'];exact List.drop_eq_getElem_cons h'
  rw [ed] at q'
  refine .inr ⟨wk.go i H' G' mm r' hgd' hlt,by rw [tv.length];exact q'.2.1,fun σ2 H2 vs2=>Mono X.K H1 H2∧∃ ω2 G2 ys2,TrSt X.K H2 σ2 ω2∧RelH X.K H2 G2∧TrL X.K H2 vs2 ys2∧Zb7 gd gg gt ge (fun ys G2=>∀ p,G2 p=none→dn X.K H Q (.ref p) (put G2 p (.lst ys))) (ws.drop (i+1)) ω2 G2 ys2,
   (by rintro σ2 H2 vs2 ⟨y1,y2⟩;exact ⟨ws.length - (i+1),by omega,rfl,hlt,y1,y2⟩),fun x H2 y=>?_⟩
  obtain ⟨my,ry,w,ew,tw⟩:=wk.yld i H' G' x H2 mm r' hgd' y hlt
  have mm:=mm.trans my
  have tv:=tv.mono my
  rw [ew0] at ew;cases ew
  refine hgg x _ σ' ω' _ G' _ tw (ts'.mono my) ry (mg _ _ _ _ _ (fun ω1 G1' z1 σ1 H3 m3 ts3 r3=>?_) q'.2.2)
  refine ⟨ω1,G1',ts3,r3,mt _ _ _ _ (fun b G4 z4 H4 m4 r4=>?_) z1⟩
  cases b with
  | true=>exact ⟨ω1,G4,ts3.mono m4,r4,me _ _ _ _ (fun y5 G5 z5 v5 H5 m5 t5 r5=>⟨((mm.trans m3).trans m4).trans m5,ω1,G5,_,(ts3.mono m4).mono m5,r5,(((tv.mono m3).mono m4).mono m5).append (.cons t5 .nil),z5⟩) z4⟩
  | false=>exact ⟨(mm.trans m3).trans m4,ω1,G4,_,ts3.mono m4,r4,(tv.mono m3).mono m4,z4⟩
 ·have e:i=ws.length:=by omega
  subst e
  rw [List.drop_length] at q'
  exact .inl ⟨wk.stop H' G' mm r' hgd',fun p hp=>q'.2 p (r'.no hp) _ _ ((m1.trans mm).trans (Mono.new hp _)) (.ref p) (r'.new hp tv)⟩
structure TgU (X:Cx) (Nc:List Str) (scope:Scope) (tg:Expr) (gg:GG):Prop where
 ex:∃ g:TG,(∀ C fp s H,PG (cxB X Nc scope [] C fp s H) tg g)∧∀ (x:V) (w:W) (σ:St) (ω:Sw) (H:Hp) (G:Hw) (Q:St→Hp→Prop),Tr X.K H x w→TrSt X.K H σ ω→RelH X.K H G→gg w ω G (dnS X.K H Q)→g x σ H Q
 mono:gg.M
theorem Zfs {X:Cx} {Nc:List Str} {scope:Scope} {x:Str} {p:Pos} {i:Nat} (hN:Nc.Nodup) (hi:Nc[i]?=some x) (hx:scope.names.lookup x=some .local):TgU X Nc scope (.Name x p) (gNm i) where
 ex:=⟨Zik i,fun C fp s H=>Zec (X:=cxB X Nc scope [] C fp s H) hN hi (.inl (lookup_relabel_local hx)) (.inr (lookup_relabel_local hx)),fun x w σ ω H G Q t ts r q=>q _ H .refl (ts.set i t) r⟩
 mono:=fun _ _ _ _ _ h q=>h _ _ q
theorem ZtH {i j:Nat}:GG.M (Zms i j):=fun w ω G Q Q' h q=>by
 unfold Zms at q ⊢
 split
 ·exact h _ _ q
 ·rename_i z
  split at q
  ·exact (z _ _ rfl).elim
  ·exact q
theorem Zpn {X:Cx} {Nc:List Str} {scope:Scope} {x y:Str} {p p' pos:Pos} {k i j:Nat} (hc:X.calm=true) (hN:Nc.Nodup) (hi:Nc[i]?=some x) (hx:scope.names.lookup x=some .local) (hj:Nc[j]?=some y) (hy:scope.names.lookup y=some .local) :
  TgU X Nc scope (.Tuple [.Name x p,.Name y p'] k pos) (Zms i j) where
 ex:=⟨L2.ZaA X.K 2 (L2.Zaa (Zik i) (L2.Zaa (Zik j) L2.Zag)),fun C fp s H=>ZpD (X:=cxB X Nc scope [] C fp s H) hc (ZeA (Zec hN hi (.inl (lookup_relabel_local hx)) (.inr (lookup_relabel_local hx))) (ZeA (Zec hN hj (.inl (lookup_relabel_local hy)) (.inr (lookup_relabel_local hy))) Zm1)),
  fun v w σ ω H G Q t ts r q=>by
   unfold Zms at q
   split at q
   ·rename_i a b
    cases t with
    | tup h l =>
     cases l with
     | cons ta l =>
      cases l with
      | cons tb l =>
       cases l
       exact ⟨_,_,rfl,h,rfl,_,_,rfl,_,_,rfl,rfl,q _ H .refl ((ts.set i ta).set j tb) r⟩
   ·exact q.elim⟩
 mono:=ZtH
theorem Zui {X:Cx} {elt tg iter:Expr} {ifs:List Expr} {scope:Scope} {pos:Pos} {Nc:List Str} {gi:GI} {gg:GG} {gt:GT} {ge:GE} (hc:X.calm=true) (hi:PIw X tg iter gi) (B:Blk X Nc scope [] (fun _=>List.replicate Nc.length none))
  (hu:TgU X Nc scope tg gg) (mt:gt.M) (ht:∀ C fp s H,PFw (cxB X Nc scope [] C fp s H) ifs gt) (me:ge.M) (he:∀ C fp s H,PEw (cxB X Nc scope [] C fp s H) elt ge) (hs:∀ x,foldedSetIterable iter X.env x=pure x) :
  PEw X (.ListComp elt [⟨tg,iter,ifs,0⟩] scope pos) (Zbu gi Nc.length gg gt ge):=by
 obtain ⟨wi,hwi,hi⟩:=hi
 obtain ⟨g,hpg,hgg⟩:=hu.ex
 exact Zbh (Zo8 hc hwi B hpg ht he hs) (ZuH hi hgg hu.mono mt me)
def Zb2 (C:Int→Int→Prop) (f:Int→Int→Int):RW2:=fun x y G Q=>match x,y with
 | .int i,.int j=>C i j∧Q (.int (f i j)) G
 | _,_=>False
theorem ZfF {C:Int→Int→Prop} {f:Int→Int→Int}:RW2.M (Zb2 C f):=fun x y G Q Q' h q=>by
 cases x <;> cases y <;> first | exact q | exact ⟨q.1,h _ _ q.2⟩
theorem ZiD {C:Int→Int→Prop} {f:Int→Int→Int} (x y:W) (v u:V) (G:Hw) (H:Hp) (Q:VK) (tx:Tr K H v x) (ty:Tr K H u y) (r:RelH K H G) (q:Zb2 C f x y G (dn K H Q)):rI C (fun i j=>.int (f i j)) v u H Q:=by
 cases tx <;> first | exact q.elim | (cases ty <;> first | exact q.elim | exact ⟨_,_,rfl,rfl,q.1,q.2 _ H .refl (.int _) r⟩)
def ZdG:RW2:=fun x y G Q=>match x,y with
 | .int i,.int j=>Q (.int (i+j)) G
 | .str a,.str b=>a.length+b.length≤sizeLine∧Q (.str (a++b)) G
 | .ref a,.ref b=>(match G a,G b with
  | some (.lst xs),some (.lst ys)=>xs.length+ys.length≤sizeLine∧∀ p,G p=none→Q (.ref p) (put G p (.lst (xs++ys)))
  | _,_=>False)
 | _,_=>False
theorem Zp8:RW2.M ZdG:=fun x y G Q Q' h q=>by
 cases x <;> cases y <;> first | exact q | exact h _ _ q | exact ⟨q.1,h _ _ q.2⟩ | skip
 rename_i a b
 unfold ZdG at q ⊢
 dsimp only at q ⊢
 cases ea:G a with
 | none=>rw [ea] at q;exact q
 | some oa =>
  cases eb:G b with
  | none=>rw [ea,eb] at q;cases oa <;> exact q
  | some ob =>
   rw [ea,eb] at q
   cases oa <;> cases ob <;> first | exact q | exact ⟨q.1,fun p hp=>h _ _ (q.2 p hp)⟩
theorem ZqW {X:Cx}:OpR X (binaryOp .Add) (fun x y H Q=>(rI0 fun i j=>.int (i+j)) x y H Q∨(∃ i j,x=.str i∧y=.str j∧i.length+j.length≤sizeLine∧Q (.str (i++j)) H)∨ZxF x y H Q):=OpR.or ZxE (OpR.or ZoB Zxg)
theorem ZqH (x y:W) (v u:V) (G:Hw) (H:Hp) (Q:VK) (tx:Tr K H v x) (ty:Tr K H u y) (r:RelH K H G) (q:ZdG x y G (dn K H Q)) :
  (rI0 fun i j=>.int (i+j)) v u H Q∨(∃ i j,v=.str i∧u=.str j∧i.length+j.length≤sizeLine∧Q (.str (i++j)) H)∨ZxF v u H Q:=by
 cases tx with
 | int i=>cases ty <;> first | exact q.elim | exact .inl ⟨_,_,rfl,rfl,q _ H .refl (.int _) r⟩
 | str i=>cases ty <;> first | exact q.elim | exact .inr (.inl ⟨_,_,rfl,rfl,q.1,q.2 _ H .refl (.str _) r⟩)
 | ref a =>
  cases ty <;> try exact q.elim
  rename_i b
  unfold ZdG at q
  dsimp only at q
  cases ea:G a with
  | none=>rw [ea] at q;exact q.elim
  | some oa =>
   cases eb:G b with
   | none=>rw [ea,eb] at q;cases oa <;> exact q.elim
   | some ob =>
    rw [ea,eb] at q
    cases oa <;> cases ob <;> try exact q.elim
    obtain ⟨vs,e1,t1⟩:=r a _ ea
    obtain ⟨us,e2,t2⟩:=r b _ eb
    exact .inr (.inr ⟨a,b,vs,us,rfl,rfl,e1,e2,by rw [t1.length,t2.length];exact q.1,fun p hp=>q.2 p (r.no hp) _ _ (Mono.new hp _) (.ref p) (r.new hp (t1.append t2))⟩)
 | _=>exact q.elim
def Zfq (f:Int→Int→Bool):RW2:=fun x y G Q=>match x,y with
 | .int i,.int j=>Q (.bl (f i j)) G
 | _,_=>False
theorem Zty {f:Int→Int→Bool}:RW2.M (Zfq f):=fun x y G Q Q' h q=>by
 cases x <;> cases y <;> first | exact q | exact h _ _ q
theorem ZpW {f:Int→Int→Bool} (x y:W) (v u:V) (G:Hw) (H:Hp) (Q:VK) (tx:Tr K H v x) (ty:Tr K H u y) (r:RelH K H G) (q:Zfq f x y G (dn K H Q)):rI0 (fun i j=>.bl (f i j)) v u H Q:=by
 cases tx <;> first | exact q.elim | (cases ty <;> first | exact q.elim | exact ⟨_,_,rfl,rfl,q _ H .refl (.bl _) r⟩)
def opt (o:Option W) (f:W→Prop):Prop:=match o with | some w=>f w | none=>False
theorem Zu0 {o:Option W} {f f':W→Prop} (h:∀ w,f w→f' w) (q:opt o f):opt o f':=by
 cases o with
 | none=>exact q
 | some w=>exact h _ q
theorem Zfd {o:Option W} {f:W→Prop} (q:opt o f):∃ w,o=some w∧f w:=by
 cases o with
 | none=>exact q.elim
 | some w=>exact ⟨w,rfl,q⟩
def Zak (f:W→W→Hw→Option W):RW2:=fun x y G Q=>opt (f x y G) fun w=>Q w G
theorem Zhl {f:W→W→Hw→Option W}:RW2.M (Zak f):=fun x y G Q Q' h q=>Zu0 (fun w z=>h _ _ z) q
def ixW (x y:W) (G:Hw):Option W:=match x,y with
 | .tup xs,.int i=>atI xs i
 | .rol xs,.int i=>atI xs i
 | .ref a,.int i=>(match G a with | some (.lst xs)=>atI xs i | _=>none)
 | .str z,.int i=>if z.length≤sizeLine then (atI z.cps.toList i).map fun c=>.str ⟨#[c]⟩ else none
 | _,_=>none
theorem Zqo {vs:List V} {ws:List W} {i:Int} {w:W} (t:TrL K H vs ws) (e:atI ws i=some w):∃ v,atI vs i=some v∧Tr K H v w:=by
 unfold atI at e ⊢
 rw [t.length]
 cases z:ixN ws.length i with
 | none=>rw [z] at e;cases e
 | some j =>
  rw [z] at e
  exact t.get e
theorem ZAI {X:Cx}:IxR X (fun x y H Q=>Zy6 X.K x y H Q∨ZyX X.K x y H Q∨ZzB x y H Q):=IxR.or Zt9 (IxR.or Zw5 ZxP)
theorem Zxs (x y:W) (v u:V) (G:Hw) (H:Hp) (Q:VK) (tx:Tr K H v x) (ty:Tr K H u y) (r:RelH K H G) (q:Zak ixW x y G (dn K H Q)):Zy6 K v u H Q∨ZyX K v u H Q∨ZzB v u H Q:=by
 obtain ⟨w,e,q'⟩:=Zfd q
 cases ty with
 | int i =>
  cases tx with
  | tup h l =>
   obtain ⟨v',e',t'⟩:=Zqo l e
   exact .inr (.inl ⟨_,_,_,_,rfl,rfl,h,e',q' _ H .refl t' r⟩)
  | rol h l =>
   obtain ⟨v',e',t'⟩:=Zqo l e
   exact .inl ⟨_,_,_,_,rfl,rfl,h.sq,e',q' _ H .refl t' r⟩
  | str z =>
   unfold ixW at e;dsimp only at e
   split at e
   ·rename_i hz
    cases e1:atI z.cps.toList i with
    | none=>rw [e1] at e;cases e
    | some c =>
     rw [e1] at e;cases e
     exact .inr (.inr ⟨z,i,c,rfl,rfl,hz,e1,q' _ H .refl (.str _) r⟩)
   ·cases e
  | ref a =>
   unfold ixW at e;dsimp only at e
   cases eG:G a with
   | none=>rw [eG] at e;cases e
   | some o =>
    rw [eG] at e
    cases o with
    | exc C=>cases e
    | ins C fs=>cases e
    | dct kvs=>cases e
    | lst ws =>
     obtain ⟨vs,e1,l⟩:=r a _ eG
     obtain ⟨v',e',t'⟩:=Zqo l e
     exact .inl ⟨_,_,_,_,rfl,rfl,SqL.of e1,e',q' _ H .refl t' r⟩
  | _=>cases e
 | _=>cases x <;> cases e
structure Em (X:Cx) (e:Expr) (g:GE):Prop where
 p:PEw X e g
 m:g.M
structure Tm (X:Cx) (e:Expr) (g:GT):Prop where
 p:PTw X e g
 m:g.M
structure Wm (X:Cx) (e:Expr) (g:GT):Prop where
 p:PWw X e g
 m:g.M
structure Am (X:Cx) (es:List Expr) (g:GA):Prop where
 p:PAw X es g
 m:g.M
structure Sm (X:Cx) (P:Hp→Prop) (s:Stmt) (g:GS):Prop where
 p:PSw X P s g
 m:g.M
structure Ssm (X:Cx) (P:Hp→Prop) (s:List Stmt) (g:GS):Prop where
 p:Zss X P s g
 m:g.M
structure Im (X:Cx) (tg l:Expr) (g:GI):Prop where
 p:PIw X tg l g
 m:g.M
def place (N:List Str) (x:Str):Option Nat:=N.findIdx? (·==x)
theorem ZnO {N:List Str} {x:Str} {i:Nat} (h:place N x=some i):N[i]?=some x:=by
 unfold place at h
 obtain ⟨hi,e,_⟩:=List.findIdx?_eq_some_iff_getElem.mp h
 rw [List.getElem?_eq_getElem hi,eq_of_beq e]
def ZvW (sc:Scope) (x:Str):Bool:=match sc.names.lookup x with | some .local=>true | some .cell=>true | some .free=>true | _=>false
theorem Znr {sc:Scope} {x:Str} (h:ZvW sc x=true):Vis sc x:=by
 unfold ZvW at h
 split at h <;> first | (rename_i e;exact .inl e) | (rename_i e;exact .inr (.inl e)) | (rename_i e;exact .inr (.inr e)) | cases h
def Zj9 (sc:Scope) (x:Str):Bool:=match sc.names.lookup x with | some .local=>true | _=>false
theorem Zfm {sc:Scope} {x:Str} (h:Zj9 sc x=true):sc.names.lookup x=some .local:=by
 unfold Zj9 at h
 split at h
 ·rename_i e;exact e
 ·cases h
section
variable {X:Cx} {a b c e f:Expr} {es ZbG:List Expr} {st:Stmt} {sts sts':List Stmt} {pos pos' p:Pos} {ga gb gc:GE} {gt gu:GT} {gs:GA} {g1 g2:GS} {ex:Xw} {P:Hp→Prop}
theorem Zgi {i:Int} {j}:Em X (.Constant (.int i) j pos) (gC (.int i)):=⟨Zyz,ZvV⟩
theorem Zjm {i:Bool} {j}:Em X (.Constant (.bool i) j pos) (gC (.bl i)):=⟨ZzR,ZvV⟩
theorem Zga {j}:Em X (.Constant .none j pos) (gC .non):=⟨ZxL,ZvV⟩
theorem ZfD {i:Str} {j}:Em X (.Constant (.str i) j pos) (gC (.str i)):=⟨Zxp,ZvV⟩
theorem Ze2 (ha:Em X a ga) (hb:Em X b gb):Em X (.BinOp a .Add b pos) (Zaj ZdG ga gb):=⟨ZiV ZqW Zp8 ha.m hb.m ZqH ha.p hb.p,Zfh Zp8 ha.m hb.m⟩
theorem ZfT (ha:Em X a ga) (hb:Em X b gb):Em X (.BinOp a .Sub b pos) (Zaj (Zb2 (fun _ _=>True) fun i j=>i - j) ga gb) :=
 ⟨ZiV (r2:=rI (fun _ _=>True) fun i j=>.int (i - j)) (opI fun _ _ _ _ _ _ _ _ q=>sub_int q) ZfF ha.m hb.m ZiD ha.p hb.p,Zfh ZfF ha.m hb.m⟩
theorem ZfW (ha:Em X a ga) (hb:Em X b gb):Em X (.BinOp a .Mult b pos) (Zaj (Zb2 CMul fun i j=>i*j) ga gb):=⟨ZiV Zyj ZfF ha.m hb.m ZiD ha.p hb.p,Zfh ZfF ha.m hb.m⟩
theorem ZdX (ha:Em X a ga) (hb:Em X b gb):Em X (.BinOp a .FloorDiv b pos) (Zaj (Zb2 ZyS fun i j=>i / j) ga gb):=⟨ZiV ZuN ZfF ha.m hb.m ZiD ha.p hb.p,Zfh ZfF ha.m hb.m⟩
theorem Zfz (ha:Em X a ga) (hb:Em X b gb):Em X (.BinOp a .Mod b pos) (Zaj (Zb2 (fun _ j=>0 < j) fun i j=>i % j) ga gb):=⟨ZiV Zw8 ZfF ha.m hb.m ZiD ha.p hb.p,Zfh ZfF ha.m hb.m⟩
theorem ZfH (ha:Em X a ga) (hb:Em X b gb):Em X (.BinOp a .Pow b pos) (Zaj (Zb2 Zxb fun i j=>i ^ j.toNat) ga gb):=⟨ZiV Zxv ZfF ha.m hb.m ZiD ha.p hb.p,Zfh ZfF ha.m hb.m⟩
theorem Zjx (hs:ZkZ b) (ha:Em X a ga) (hb:Em X b gb):Em X (.Subscript a b pos) (Zaj (Zak ixW) ga gb):=⟨Zzb ZAI Zhl ha.m hb.m Zxs ha.p hb.p hs,Zfh Zhl ha.m hb.m⟩
theorem ZfZ {k} (h:Am X es gs):Em X (.Tuple es k pos) (ZaA gs):=⟨ZwP h.m h.p,Zwk h.m⟩
theorem ZeN (h:Am X es gs):Em X (.List es pos) (Zbv gs):=⟨Zye h.m h.p,Zwm h.m⟩
theorem ZeW {op:BoolOp} (h:Em X a ga):Em X (.BoolOp op [a] pos) ga:=⟨Zwu h.p,h.m⟩
theorem Zfg (ha:Em X a ga) (hb:Em X (.BoolOp .And (b::ZbG) pos) gb):Em X (.BoolOp .And (a::b::ZbG) pos) (ZbV ga gb):=⟨Zwp ha.m hb.m ha.p hb.p,Zvd ha.m hb.m⟩
theorem ZjA (ha:Em X a ga) (hb:Em X (.BoolOp .Or (b::ZbG) pos) gb):Em X (.BoolOp .Or (a::b::ZbG) pos) (Zfv ga gb):=⟨ZzM ha.m hb.m ha.p hb.p,ZwE ha.m hb.m⟩
theorem ZfR (ha:Em X a ga):Em X (.UnaryOp .Not a pos) (Zck ga):=⟨Zwz ha.m ha.p,ZvN ha.m⟩
theorem Zgd (hc:Tm X c gt) (ha:Em X a ga) (hb:Em X b gb):Em X (.IfExp c a b pos) (Zfp gt ga gb):=⟨Zxz hc.m ha.m hb.m hc.p ha.p hb.p,Zx1 hc.m ha.m hb.m⟩
theorem Zb3:Am X [] Zag:=⟨ZwA,ZxW⟩
theorem ZaO (hst:starEach (e::es) X.env=(false,eval e X.env)::starEach es X.env) (ha:Em X e ga) (hs:Am X es gs):Am X (e::es) (Zaa ga gs):=⟨Zue ha.m hs.m ha.p hs.p hst,ZuM ha.m hs.m⟩
theorem ZaZ {x:Str} {k n:Nat} {sp:Spw} (D:Df X.prog X.w X.K X.mg X.base x k n sp) (hr:Room k X.A) (hg:Gl X x) (hp:ZlP X ex) (hdb:(x==("__debug__":Str))=false) (he:starEach (e::es) X.env=(false,eval e X.env)::starEach es X.env) (hpl:(backTo pos (starEach es X.env)).any (·.1)=false)
  (ha:Am X (e::es) gs):Em X (.Call (.Name x p) (e::es) [] pos) (Zah sp ex gs):=⟨ZvH D hr hg hp ha.m ha.p hdb he hpl,Zp4 D.mono ha.m⟩
theorem ZeI (he:∀ whole,isTrue e X.env whole=(do let v ← whole;standAt e.pos;holding [v] (truthy v))) (ha:Em X e ga):Tm X e (Zc9 ga):=⟨ZxV ha.m ha.p he,Zxr ha.m⟩
theorem ZeG (ha:Tm X a gt):Tm X (.UnaryOp .Not a pos) (gNt gt):=⟨Zx0 ha.p,Zz2 ha.m⟩
theorem Zeb {op:BoolOp} {vs:List Expr} (h:Wm X (.BoolOp op vs pos) gt):Tm X (.BoolOp op vs pos) gt:=⟨ZuI h.p,h.m⟩
theorem Zd6 (h:Tm X a gt):Wm X (.BoolOp .And [a] pos) gt:=⟨Zvn h.p,h.m⟩
theorem ZfY (h:Tm X a gt):Wm X (.BoolOp .Or [a] pos) gt:=⟨Zxq h.p,h.m⟩
theorem ZfO (ha:Tm X a gt) (hb:Wm X (.BoolOp .And (b::ZbG) pos) gu):Wm X (.BoolOp .And (a::b::ZbG) pos) (Zft gt gu):=⟨Zxd ha.m hb.m ha.p hb.p,Zyw ha.m hb.m⟩
theorem Zjv (ha:Tm X a gt) (hb:Wm X (.BoolOp .Or (b::ZbG) pos) gu):Wm X (.BoolOp .Or (a::b::ZbG) pos) (gOr gt gu):=⟨Zy2 ha.m hb.m ha.p hb.p,ZzT ha.m hb.m⟩
theorem Zce:Ssm X P [] Zan:=⟨Zvt,ZtW⟩
theorem ZaI (h:Sm X P st g1):Ssm X P [st] g1:=⟨ZuG h.p,h.m⟩
theorem Zal (h1:Sm X P st g1) (h2:Ssm X P sts g2):Ssm X P (st::sts) (Zao g1 g2):=⟨ZrN h1.m h2.m h1.p h2.p,ZxJ h1.m h2.m⟩
theorem Zb0 (ha:Em X e ga):Sm X P (.Return (some e) pos) (Zaz ga):=⟨ZwL ha.m ha.p,Zwe ha.m⟩
theorem Zbl (hs:swapsWith e none pos.line X.env=pure false) (ha:Em X e ga):Sm X P (.Expr e pos) (Zbd ga):=⟨ZtX ha.m ha.p hs,ZvE ha.m⟩
theorem ZeR (hc:Tm X c gt) (h1:Ssm X P sts g1) (h2:Ssm X P sts' g2):Sm X P (.If c sts sts' pos) (gIf gt g1 g2):=⟨Zy7 hc.m h1.m h2.m hc.p h1.p h2.p,ZzQ hc.m h1.m h2.m⟩
theorem ZfV {tg l:Expr} (ht:∀ it u,letOwnedTupleGo tg it u=pure ()) (hl:Em X l ga):Im X tg l (Zbc ga):=⟨Zx9 ht hl.m hl.p,ZvC hl.m⟩
theorem ZeL {tg iter:Expr} {gi:GI} {gg:GG} {gb:GS} (hp:PassesOwn (model X.prog X.w) X.A X.env X.xe) (hc:X.calm=true) (hs:∀ x,foldedSetIterable iter X.env x=pure x) (hi:Im X tg iter gi) (hg:TgW X tg gg) (hb:Ssm X Zz8 sts gb):Sm X P (.For tg iter sts [] pos) (ZdZ gi gg gb) :=
 ⟨Zxi hp hc hi.m hb.m hi.p hg hb.p hs,Zwl hi.m hg.mono hb.m⟩
end
theorem Zo9 {bs:List Bool} {its:List Value} (r:Vals (bs.map V.bl) its) {i:Nat} {v:Value} (e:its.toArray[i]?=some v):v=.bool (bs.getD i false):=by
 have e':its[i]?=some v:=by simpa using e
 have hl:=r.length
 rw [List.length_map] at hl
 have hi:i < its.length:=(List.getElem?_eq_some_iff.mp e').1
 have hb:bs[i]?=some (bs[i]'(by omega)):=List.getElem?_eq_getElem _
 obtain ⟨u,e1,r1⟩:=r.get (i:=i) (x:=.bl (bs[i]'(by omega))) (by rw [List.getElem?_map,hb];rfl)
 rw [e'] at e1;cases e1
 rw [List.getD_eq_getElem?_getD,hb]
 exact r1
theorem Zpx {bs:List Bool}:(List.range bs.length).all (fun i=>bs.getD i false)=bs.all id:=by
 rw [Bool.eq_iff_iff]
 simp only [List.all_eq_true,List.mem_range,id]
 constructor
 ·intro h b hb
  obtain ⟨i,hi,e⟩:=List.mem_iff_getElem.mp hb
  have:=h i hi
  rw [List.getD_eq_getElem?_getD,List.getElem?_eq_getElem hi] at this
  rw [← e];exact this
 ·intro h i hi
  rw [List.getD_eq_getElem?_getD,List.getElem?_eq_getElem hi]
  exact h _ (List.getElem_mem hi)
section
variable {X:Cx}
theorem Zqm (hc:X.calm=true):CallR X (.builtin "all") (fun xs H Q=>∃ (p:Addr) (bs:List Bool),xs=[.ref p]∧SqL X.K H p (bs.map V.bl)∧Q (.bl (bs.all id)) H):=by
 intro pins s σ H xs us Q I r h
 obtain ⟨p,bs,rfl,hq,q⟩:=h
 obtain ⟨u,rfl,rx⟩:=ZmQ r
 cases rx
 obtain ⟨its,r',pl,hz⟩:=I.list hq
 have hl:=r'.length
 rw [List.length_map] at hl
 obtain ⟨o,n,e,_⟩:=id pl
 refine call_all_walk (wpAny_pyIter_list pl.isList ⟨s.heap.objs.size,_,_,_,_,_,fun i=>bs.getD i false,rfl,Walks.list (A:=X.A.in1) (I.ok.hd hc) _ p (Nat.ne_of_lt (Heap.lt_size e)) its.toArray,
  ⟨⟨_,Heap.get?_push_size _ rfl,rfl,rfl⟩,pl.isList.push _⟩,fun i v s Q E hp hq=>by rw [Zo9 r' hp];exact wpAny_truthy_bool hq,fun h' tk k=>?_⟩)
 refine ⟨.bl (bs.all id),H,I.kept (t':=tk) fun b o e=>k b o (by simpa using Nat.ne_of_lt (Heap.lt_size e)) (Heap.get?_push_of_some _ e),?_,q⟩
 show Value.bool _=_
 rw [List.size_toArray,← hl,Zpx]
end
abbrev RWc:=List W→Hw→Kw→Prop
def RWc.M (r:RWc):Prop:=∀ ws G (Q Q':Kw),(∀ w G',Q w G'→Q' w G')→r ws G Q→r ws G Q'
def gB (r:RWc) (gs:GA):GE:=fun ω G Q=>gs ω G fun ws G1=>r ws G1 Q
theorem Zz6 {r:RWc} {gs:GA} (mr:r.M) (ms:gs.M):GE.M (gB r gs):=fun ω G Q Q' h q=>ms _ _ _ _ (fun ws G1 z=>mr _ _ _ _ h z) q
theorem ZAp {r:RWc} {r1:List V→Hp→VK→Prop} {gs:GA} (mr:r.M) (ms:gs.M) (hr:∀ ws vs G H Q,TrL K H vs ws→RelH K H G→r ws G (dn K H Q)→r1 vs H Q) (σ:St) (H:Hp) (Q:VK) (h:up K (gB r gs) σ H Q):tCB r1 (upA K gs) σ H Q:=by
 obtain ⟨ω,G,ts,rh,q⟩:=h
 exact ⟨ω,G,ts,rh,ms _ _ _ _ (fun ws G1 z vs H1 m t r1'=>hr ws vs G1 H1 Q t r1' (mr _ _ _ _ (fun w G' y=>Zcq m y) z)) q⟩
section
variable {X:Cx} {x:Str} {p pos:Pos} {e:Expr} {es:List Expr} {gs:GA} {r:RWc} {r1:List V→Hp→VK→Prop} {id T:String}
theorem ZyG (hc:CallR X (.builtin id) r1) (mr:r.M) (hr:∀ ws vs G H Q,TrL X.K H vs ws→RelH X.K H G→r ws G (dn X.K H Q)→r1 vs H Q) (hg:Gl X x) (hm:X.mg x=none) (hv:bootBuiltins x=some (.builtin id)) (hn:x≠"__name__") (hdb:(x==("__debug__":Str))=false)
  (he:starEach (e::es) X.env=(false,eval e X.env)::starEach es X.env) (hpl:(backTo pos (starEach es X.env)).any (·.1)=false) (ha:Am X (e::es) gs):Em X (.Call (.Name x p) (e::es) [] pos) (gB r gs) :=
 ⟨Zbh (ZsN hc hg hm hv ha.p hn hdb he hpl) (ZAp mr ha.m hr),Zz6 mr ha.m⟩
theorem Zyf (hc:CallR X (.type T) r1) (mr:r.M) (hr:∀ ws vs G H Q,TrL X.K H vs ws→RelH X.K H G→r ws G (dn X.K H Q)→r1 vs H Q) (hg:Gl X x) (hm:X.mg x=none) (hv:bootBuiltins x=some (.type T)) (hn:x≠"__name__") (hdb:(x==("__debug__":Str))=false)
  (he:starEach (e::es) X.env=(false,eval e X.env)::starEach es X.env) (hpl:(backTo pos (starEach es X.env)).any (·.1)=false) (ha:Am X (e::es) gs):Em X (.Call (.Name x p) (e::es) [] pos) (gB r gs) :=
 ⟨Zbh (Zpd hc hg hm hv ha.p hn hdb he hpl) (ZAp mr ha.m hr),Zz6 mr ha.m⟩
end
def rF (f:List W→Hw→Option W):RWc:=fun ws G Q=>opt (f ws G) fun w=>Q w G
theorem ZyU {f:List W→Hw→Option W}:RWc.M (rF f):=fun ws G Q Q' h q=>Zu0 (fun w z=>h _ _ z) q
def ZmB:List W→Option (List Bool)
 | []=>some []
 | .bl b::r=>(ZmB r).map (b::·)
 | _=>none
theorem Zod:∀ {ws:List W} {bs:List Bool} {vs:List V},ZmB ws=some bs→TrL K H vs ws→vs=bs.map V.bl
 | [],bs,vs,e,t=>by cases e;cases t;rfl
 | w::ws,bs,vs,e,t=>by
  cases t with
  | cons tw t =>
   cases w with
   | bl b =>
    unfold ZmB at e
    cases z:ZmB ws with
    | none=>rw [z] at e;cases e
    | some bs' =>
     rw [z] at e;cases e
     rw [ZmG tw,Zod z t];rfl
   | _=>cases e
def Zkm (G:Hw) (w:W):Option (List W):=match w with
 | .ref a=>(match G a with | some (.lst xs)=>some xs | _=>none)
 | _=>none
theorem ZgX {G:Hw} {w:W} {xs:List W} {v:V} (r:RelH K H G) (t:Tr K H v w) (e:Zkm G w=some xs):∃ a vs,v=.ref a∧w=.ref a∧G a=some (.lst xs)∧H a=some (.lst vs)∧TrL K H vs xs:=by
 cases t with
 | ref a =>
  unfold Zkm at e;dsimp only at e
  cases z:G a with
  | none=>rw [z] at e;cases e
  | some o =>
   rw [z] at e
   cases o with
   | lst ys=>cases e;obtain ⟨vs,e1,t1⟩:=r a _ z;exact ⟨a,vs,rfl,rfl,z,e1,t1⟩
   | exc C=>cases e
   | ins C fs=>cases e
   | dct kvs=>cases e
 | _=>cases e
def ZgC (ws:List W) (G:Hw):Option W:=match ws with | [w]=>(Zkm G w).bind fun xs=>(ZmB xs).map fun bs=>.bl (bs.all id) | _=>none
theorem Zvw (ws:List W) (vs:List V) (G:Hw) (H:Hp) (Q:VK) (t:TrL K H vs ws) (r:RelH K H G) (q:rF ZgC ws G (dn K H Q)):∃ (p:Addr) (bs:List Bool),vs=[.ref p]∧SqL K H p (bs.map V.bl)∧Q (.bl (bs.all id)) H:=by
 obtain ⟨w,e,q'⟩:=Zfd q
 unfold ZgC at e
 split at e
 ·rename_i w0
  cases t with
  | cons tw t =>
   cases t
   obtain ⟨xs,e1,e2⟩:=Option.bind_eq_some_iff.mp e
   obtain ⟨bs,e3,e4⟩:=Option.map_eq_some_iff.mp e2
   obtain ⟨a,us,rfl,rfl,_,e5,t5⟩:=ZgX r tw e1
   subst e4
   have:=Zod e3 t5
   subst this
   exact ⟨a,bs,rfl,SqL.of e5,q' _ H .refl (.bl _) r⟩
 ·cases e
def Zfl (w:W) (G:Hw):Option W:=match w with
 | .tup xs=>some (.int xs.length)
 | .rol xs=>some (.int xs.length)
 | .str z=>if z.length≤sizeLine then some (.int z.length) else none
 | .ref a=>(match G a with | some (.lst xs)=>some (.int xs.length) | _=>none)
 | _=>none
def Zed (ws:List W) (G:Hw):Option W:=match ws with | [w]=>Zfl w G | _=>none
theorem Zup (ws:List W) (vs:List V) (G:Hw) (H:Hp) (Q:VK) (t:TrL K H vs ws) (r:RelH K H G) (q:rF Zed ws G (dn K H Q)):∃ x n,vs=[x]∧ZAj K x H n∧Q (.int n) H:=by
 obtain ⟨w,e,q'⟩:=Zfd q
 unfold Zed at e
 split at e
 ·cases t with
  | cons tw t =>
   cases t
   cases tw with
   | tup h l=>cases e;exact ⟨_,_,rfl,.inr ⟨_,h,rfl⟩,by rw [l.length];exact q' _ H .refl (.int _) r⟩
   | rol h l=>cases e;exact ⟨_,_,rfl,.inl ⟨_,h.sq,rfl⟩,by rw [l.length];exact q' _ H .refl (.int _) r⟩
   | str z =>
    unfold Zfl at e;dsimp only at e
    split at e
    ·rename_i hz;cases e;exact ⟨_,_,rfl,⟨hz,rfl⟩,q' _ H .refl (.int _) r⟩
    ·cases e
   | ref a =>
    unfold Zfl at e;dsimp only at e
    cases z:G a with
    | none=>rw [z] at e;cases e
    | some o =>
     rw [z] at e
     cases o with
     | exc C=>cases e
     | ins C fs=>cases e
     | dct kvs=>cases e
     | lst xs =>
      cases e
      obtain ⟨us,e1,t1⟩:=r a _ z
      exact ⟨_,_,rfl,.inl ⟨_,SqL.of e1,rfl⟩,by rw [t1.length];exact q' _ H .refl (.int _) r⟩
   | _=>cases e
 ·cases e
mutual
def eqD:W→W→Option Bool
 | .tup xs,.tup ys=>ZkU xs ys
 | .non,.non=>some true
 | .bl a,.bl b=>some (a==b)
 | .bl a,.int b=>some ((if a then 1 else 0)==b)
 | .int a,.bl b=>some (a==(if b then 1 else 0))
 | .int a,.int b=>some (a==b)
 | .str a,.str b=>some (a==b)
 | .non,.int _=>some false
 | .int _,.non=>some false
 | .int _,.str _=>some false
 | .str _,.int _=>some false
 | .bl _,.str _=>some false
 | .str _,.bl _=>some false
 | .non,.str _=>some false
 | .str _,.non=>some false
 | .non,.bl _=>some false
 | .bl _,.non=>some false
 | .tup _,.str _=>some false
 | .str _,.tup _=>some false
 | .tup _,.bl _=>some false
 | .bl _,.tup _=>some false
 | _,_=>none
def ZkU:List W→List W→Option Bool
 | [],[]=>some true
 | [],_::_=>some false
 | _::_,[]=>some false
 | x::xs,y::ys=>match eqD x y,ZkU xs ys with
  | some a,some b=>some (a&&b)
  | _,_=>none
end
mutual
def dpW:W→Nat
 | .tup xs=>dpL xs+1
 | _=>0
def dpL:List W→Nat
 | []=>0
 | x::xs=>max (dpW x) (dpL xs)
end
def ZpO:W→Option V
 | .non=>some .non
 | .bl b=>some (.bl b)
 | .int i=>some (.int i)
 | .str x=>some (.str x)
 | _=>none
theorem ZnP {v:V} {w:W} {f:V} (t:Tr K H v w) (e:ZpO w=some f):v=f∧Zjy v=true:=by
 cases t <;> first | cases e;exact ⟨rfl,rfl⟩ | cases e
theorem Zit:∀ {xs ys:List W} {b:Bool},ZkU xs ys=some b→∃ e:Nat→Bool,(∀ (i:Nat) x y,xs[i]?=some x→ys[i]?=some y→eqD x y=some (e i))∧b=((List.range (min xs.length ys.length)).all e&&xs.length==ys.length)
 | [],[],b,h=>by
  cases (show some true=some b from h)
  exact ⟨fun _=>true,fun i x y h1 h2=>by simp at h1,by simp⟩
 | [],_::_,b,h=>by
  cases (show some false=some b from h)
  exact ⟨fun _=>true,fun i x y h1 h2=>by simp at h1,by simp⟩
 | _::_,[],b,h=>by
  cases (show some false=some b from h)
  exact ⟨fun _=>true,fun i x y h1 h2=>by simp at h2,by simp⟩
 | x::xs,y::ys,b,h=>by
  have h':(match eqD x y,ZkU xs ys with | some a,some b=>some (a&&b) | _,_=>none)=some b:=by rw [← h];rfl
  cases e1:eqD x y with
  | none=>rw [e1] at h';cases h'
  | some a =>
   cases e2:ZkU xs ys with
   | none=>rw [e1,e2] at h';cases h'
   | some c =>
    rw [e1,e2] at h'
    cases h'
    obtain ⟨f,hf,hc⟩:=Zit e2
    refine ⟨fun i=>match i with | 0=>a | j+1=>f j,fun i x' y' h1 h2=>?_,?_⟩
    ·cases i with
     | zero=>simp at h1 h2;subst h1;subst h2;exact e1
     | succ j=>exact hf j x' y' (by simpa using h1) (by simpa using h2)
    ·have em:min (x::xs).length (y::ys).length=min xs.length ys.length+1:=by simp only [List.length_cons];omega
     rw [em,List.range_succ_eq_map,List.all_cons,List.all_map,hc]
     have e5:((x::xs).length==(y::ys).length)=(xs.length==ys.length):=by simp
     rw [e5,Bool.and_assoc]
     rfl
theorem ZnW:∀ (xs:List W),(∀ x∈xs,eqD x x=some true∨eqD x x=none)→ZkU xs xs=some true∨ZkU xs xs=none
 | [],_=>.inl rfl
 | x::xs,h=>by
  have e:ZkU (x::xs) (x::xs)=(match eqD x x,ZkU xs xs with | some a,some b=>some (a&&b) | _,_=>none):=rfl
  rw [e]
  rcases h x List.mem_cons_self with h1 | h1
  ·rcases ZnW xs (fun y hy=>h y (List.mem_cons_of_mem _ hy)) with h2 | h2
   ·rw [h1,h2];exact .inl rfl
   ·rw [h1,h2];exact .inr rfl
  ·rw [h1];exact .inr rfl
theorem Zqj:∀ (x:W),eqD x x=some true∨eqD x x=none
 | .non=>.inl rfl
 | .bl b=>.inl (by show some (b==b)=_;simp)
 | .int b=>.inl (by show some (b==b)=_;simp)
 | .str b=>.inl (by show some (b==b)=_;simp)
 | .tup xs=>ZnW xs (fun x _=>Zqj x)
 | .rol _=>.inr rfl
 | .ref _=>.inr rfl
theorem Zgu:∀ {xs:List W} {x:W},x∈xs→dpW x≤dpL xs
 | y::xs,x,h=>by
  have e:dpL (y::xs)=max (dpW y) (dpL xs):=rfl
  rw [e]
  rcases List.mem_cons.mp h with rfl | h
  ·exact Nat.le_max_left ..
  ·exact Nat.le_trans (Zgu h) (Nat.le_max_right ..)
theorem ZoM:∀ (ws:List W) (ys:List W) (vs:List V),(∀ (v:V) (w y:W),w∈ws→Tr K H v w→Tr K H v y→eqD w y≠none→w=y)→TrL K H vs ws→TrL K H vs ys→ZkU ws ys≠none→ws=ys:=by
 intro ws
 induction ws with
 | nil =>
  intro ys vs _ l l' _
  cases l
  cases l'
  rfl
 | cons w ws ih =>
  intro ys vs h l l' ne
  cases l with
  | cons t l =>
   cases l' with
   | @cons _ y _ ys t' l' =>
    have e:ZkU (w::ws) (y::ys)=(match eqD w y,ZkU ws ys with | some a,some b=>some (a&&b) | _,_=>none):=rfl
    have h1:eqD w y≠none:=fun z=>ne (by rw [e,z])
    have h2:ZkU ws ys≠none:=fun z=>ne (by rw [e,z];cases eqD w y <;> rfl)
    rw [h _ w y List.mem_cons_self t t' h1,ih ys _ (fun v w y hm=>h v w y (List.mem_cons_of_mem _ hm)) l l' h2]
theorem Zw9 {X:Cx} {pins:List (Addr×Obj)} {σ:St} {H:Hp} {s:Shared} (I:Inv X pins σ H s) (n:Nat):∀ (v:V) (w y:W),dpW w < n→Tr X.K H v w→Tr X.K H v y→eqD w y≠none→w=y:=by
 induction n with
 | zero=>intro v w y h;exact absurd h (Nat.not_lt_zero _)
 | succ n ih =>
  intro v w y h tw ty ne
  cases tw with
  | tup hq l =>
   rename_i a vs ws
   generalize hv:V.ref a=vr at ty
   cases ty with
   | tup hq' l' =>
    cases hv
    have e:=I.tuple_inj hq hq'
    subst e
    have hd2:dpL ws+1 < n+1:=h
    rw [ZoM ws _ _ (fun v w y hm=>ih v w y (by have:=Zgu hm;omega)) l l' ne]
   | rol _ _=>exact absurd rfl ne
   | ref _=>exact absurd rfl ne
   | non=>cases hv
   | bl _=>cases hv
   | int _=>cases hv
   | str _=>cases hv
  | rol _ _=>exact absurd (by cases y <;> rfl) ne
  | ref _=>exact absurd (by cases y <;> rfl) ne
  | non=>cases ty;rfl
  | bl _=>cases ty;rfl
  | int _=>cases ty;rfl
  | str _=>cases ty;rfl
theorem Zm6 {X:Cx} {pins:List (Addr×Obj)} {σ:St} {H:Hp} {s:Shared} (I:Inv X pins σ H s) (n:Nat):∀ (w y:W) (v u:V) (vv uu:Value) (b:Bool) (A:Around),dpW w < n→Tr X.K H v w→Tr X.K H u y→RelV v vv→RelV u uu→eqD w y=some b→A.units+n < cLine→SeqAt.EqAt A s vv uu b:=by
 induction n with
 | zero=>intro w _ _ _ _ _ _ _ h;exact absurd h (Nat.not_lt_zero _)
 | succ n ih =>
  intro w y v u vv uu b A h tw ty rv ru e hu
  cases tw with
  | tup hq l =>
   cases ty with
   | tup hq' l' =>
    rename_i a vs ws a' us ys
    cases rv
    cases ru
    by_cases haa:a=a'
    ·subst haa
     have ew:=Zw9 I (dpW (.tup ws)+1) _ _ _ (Nat.lt_succ_self _) (.tup hq l) (.tup hq' l') (by rw [e];simp)
     cases ew
     rcases Zqj (.tup ws) with z | z
     ·rw [e] at z;cases z;exact SeqAt.EqAt.same _
     ·rw [e] at z;cases z
    ·obtain ⟨its,r1,p1,_⟩:=I.tuple hq
     obtain ⟨its',r2,p2,_⟩:=I.tuple hq'
     obtain ⟨f,hf,hb⟩:=Zit (show ZkU ws ys=some b from e)
     have l1:=r1.length
     have l2:=r2.length
     have l3:=l.length
     have l4:=l'.length
     refine SeqAt.EqAt.of_refs haa ?_
     have key:=SeqAt.RcAt.tuples (A:=A) (s:=s) (e:=f) (show s.heap.IsTuple a its.toArray from p1) (show s.heap.IsTuple a' its'.toArray from p2) (by omega) (fun j h1 h2=>?_)
     ·rw [hb]
      walk_at "pn"
      walk_at "pm"
      rw [e1,e2] at key
      exact key
     ·have j1:j < ws.length:=by rw [List.size_toArray] at h1;omega
      have j2:j < ys.length:=by rw [List.size_toArray] at h2;omega
      obtain ⟨v1,g1,t1⟩:=l.get (List.getElem?_eq_getElem j1)
      obtain ⟨v2,g2,t2⟩:=l'.get (List.getElem?_eq_getElem j2)
      obtain ⟨u1,g3,rr1⟩:=r1.get g1
      obtain ⟨u2,g4,rr2⟩:=r2.get g2
      have eu1:its.toArray[j]=u1:=by
       have z:its[j]?=some its[j]:=List.getElem?_eq_getElem (by omega)
       rw [g3] at z
       have z':=Option.some.inj z
       rw [z'];simp
      have eu2:its'.toArray[j]=u2:=by
       have z:its'[j]?=some its'[j]:=List.getElem?_eq_getElem (by omega)
       rw [g4] at z
       have z':=Option.some.inj z
       rw [z'];simp
      rw [eu1,eu2]
      have hd:dpW (ws[j])≤dpL ws:=Zgu (List.getElem_mem j1)
      have hd2:dpL ws+1 < n+1:=h
      exact ih _ _ _ _ _ _ _ A.in1 (by omega) t1 t2 rr1 rr2 (hf j _ _ (List.getElem?_eq_getElem j1) (List.getElem?_eq_getElem j2)) (by show A.units+1+n < cLine;omega)
   | str _ =>
    cases e;cases rv;obtain ⟨t,rfl⟩:=ru
    obtain ⟨its,r1,p1,_⟩:=I.tuple hq
    exact SeqAt.EqAt.tuple_str (A:=A) _ _ p1 (by omega)
   | bl _ =>
    cases e;cases rv;cases ru
    obtain ⟨its,r1,p1,_⟩:=I.tuple hq
    exact SeqAt.EqAt.tuple_bool _ p1 (by omega)
   | _=>cases e
  | non=>cases ty <;> cases e <;> exact Zml rv ru rfl rfl
  | bl c =>
   cases ty with
   | tup hq l =>
    cases e;cases rv;cases ru
    obtain ⟨its,r1,p1,_⟩:=I.tuple hq
    exact SeqAt.EqAt.bool_tuple _ p1 (by omega)
   | _=>cases e <;> exact Zml rv ru rfl rfl
  | int c=>cases ty <;> cases e <;> exact Zml rv ru rfl rfl
  | str c =>
   cases ty with
   | tup hq l =>
    cases e;cases ru;obtain ⟨t,rfl⟩:=rv
    obtain ⟨its,r1,p1,_⟩:=I.tuple hq
    exact SeqAt.EqAt.str_tuple (A:=A) _ _ p1 (by omega)
   | _=>cases e <;> exact Zml rv ru rfl rfl
  | rol _ _=>cases y <;> cases e
  | ref _=>cases y <;> cases e
def rSq (K:PySem.W.Frag) (neg:Bool):R2:=fun v u H Q=>∃ (a b:Addr) (vs us:List V) (ws ys:List W) (c:Bool),v=.ref a∧u=.ref b∧((SqT K H a vs∧SqT K H b us)∨(SqL K H a vs∧SqL K H b us))∧TrL K H vs ws∧TrL K H us ys∧dpL ws < 90∧ZkU ws ys=some c∧Q (.bl (c != neg)) H
section
variable {X:Cx} {pins:List (Addr×Obj)} {σ:St} {H:Hp} {s:Shared}
theorem Ziw (I:Inv X pins σ H s) {A:Around} {vs us:List V} {ws ys:List W} {its its':List Value} (r1:Vals vs its) (r2:Vals us its') (t1:TrL X.K H vs ws) (t2:TrL X.K H us ys) (hd:dpL ws < 90) (hu:A.units+100 < cLine) {f:Nat→Bool}
  (hf:∀ (i:Nat) x y,ws[i]?=some x→ys[i]?=some y→eqD x y=some (f i)) (j:Nat) (h1:j < its.toArray.size) (h2:j < its'.toArray.size):SeqAt.EqAt A.in1 s its.toArray[j] its'.toArray[j] (f j):=by
 have l1:=r1.length
 have l2:=r2.length
 have l3:=t1.length
 have l4:=t2.length
 have j1:j < ws.length:=by rw [List.size_toArray] at h1;omega
 have j2:j < ys.length:=by rw [List.size_toArray] at h2;omega
 obtain ⟨v1,g1,t1'⟩:=t1.get (List.getElem?_eq_getElem j1)
 obtain ⟨v2,g2,t2'⟩:=t2.get (List.getElem?_eq_getElem j2)
 obtain ⟨u1,g3,rr1⟩:=r1.get g1
 obtain ⟨u2,g4,rr2⟩:=r2.get g2
 have eu1:its.toArray[j]=u1:=by
  have z:its[j]?=some its[j]:=List.getElem?_eq_getElem (by omega)
  rw [g3] at z
  rw [Option.some.inj z];simp
 have eu2:its'.toArray[j]=u2:=by
  have z:its'[j]?=some its'[j]:=List.getElem?_eq_getElem (by omega)
  rw [g4] at z
  rw [Option.some.inj z];simp
 rw [eu1,eu2]
 exact Zm6 I 99 _ _ _ _ _ _ _ A.in1 (by have:=Zgu (List.getElem_mem j1);omega) t1' t2' rr1 rr2 (hf j _ _ (List.getElem?_eq_getElem j1) (List.getElem?_eq_getElem j2)) (by show A.units+1+99 < cLine;omega)
end
theorem ZrH {X:Cx} (hu:X.A.units+100 < cLine):OpR X (compareOp .Eq) (rSq X.K false):=by
 walk_at "pc"
 obtain ⟨a,b,vs,us,ws,ys,c,rfl,rfl,hq,t1,t2,hd,e,q⟩:=h
 cases rx
 cases ry
 obtain ⟨f,hf,hb⟩:=Zit e
 have l3:=t1.length
 have l4:=t2.length
 have fin:∀ d:Bool,d=c→EP X pins σ Q (.bool d) s:=fun d hd=>by subst hd;exact ⟨.bl d,H,I,rfl,by simpa using q⟩
 rcases hq with ⟨h1,h2⟩ | ⟨h1,h2⟩
 ·obtain ⟨its,r1,p1,_⟩:=I.tuple h1
  obtain ⟨its',r2,p2,_⟩:=I.tuple h2
  have l1:=r1.length
  have l2:=r2.length
  refine SeqAt.eq_tupleAt (e:=f) (show s.heap.IsTuple a its.toArray from p1) (show s.heap.IsTuple b its'.toArray from p2) (by omega) (Ziw I r1 r2 t1 t2 hd hu hf) (fin _ ?_)
  walk_at "pn"
  walk_at "pm"
  rw [e1,e2,hb]
 ·obtain ⟨its,r1,p1,_⟩:=I.list h1
  obtain ⟨its',r2,p2,_⟩:=I.list h2
  have l1:=r1.length
  have l2:=r2.length
  walk_at "pn"
  walk_at "pm"
  by_cases hl:ws.length=ys.length
  ·refine SeqAt.eq_listAt (e:=f) p1.isList p2.isList (by omega) (by omega) (Ziw I r1 r2 t1 t2 hd hu hf) (fin _ ?_)
   rw [e1,hb,hl];simp
  ·refine SeqAt.eq_list_lengthsAt p1.isList p2.isList (by rw [e1,e2];simpa using hl) (by omega) (fin _ ?_)
   rw [hb];simp [hl]
theorem Zsa {X:Cx} (hu:X.A.units+100 < cLine):OpR X (compareOp .NotEq) (rSq X.K true):=by
 walk_at "pc"
 obtain ⟨a,b,vs,us,ws,ys,c,rfl,rfl,hq,t1,t2,hd,e,q⟩:=h
 cases rx
 cases ry
 obtain ⟨f,hf,hb⟩:=Zit e
 have l3:=t1.length
 have l4:=t2.length
 have fin:∀ d:Bool,d=!c→EP X pins σ Q (.bool d) s:=fun d hd=>by subst hd;exact ⟨.bl _,H,I,rfl,by simpa using q⟩
 rcases hq with ⟨h1,h2⟩ | ⟨h1,h2⟩
 ·obtain ⟨its,r1,p1,_⟩:=I.tuple h1
  obtain ⟨its',r2,p2,_⟩:=I.tuple h2
  have l1:=r1.length
  have l2:=r2.length
  refine SeqAt.RcNeAt.tuples (e:=f) (show s.heap.IsTuple a its.toArray from p1) (show s.heap.IsTuple b its'.toArray from p2) (by omega) (Ziw I r1 r2 t1 t2 hd hu hf) _ _ _ _ (fin _ ?_)
  walk_at "pn"
  walk_at "pm"
  rw [e1,e2,hb]
 ·obtain ⟨its,r1,p1,_⟩:=I.list h1
  obtain ⟨its',r2,p2,_⟩:=I.list h2
  have l1:=r1.length
  have l2:=r2.length
  walk_at "pn"
  walk_at "pm"
  by_cases hl:ws.length=ys.length
  ·refine SeqAt.RcNeAt.lists (e:=f) p1.isList p2.isList (by omega) (by omega) (Ziw I r1 r2 t1 t2 hd hu hf) _ _ _ _ (fin _ ?_)
   rw [e1,hb,hl];simp
  ·refine SeqAt.RcNeAt.lists_lengths p1.isList p2.isList (by rw [e1,e2];simpa using hl) (by omega) _ _ _ _ (fin _ ?_)
   rw [hb];simp [hl]
def eqW (x y:W) (G:Hw):Option Bool:=match x,y with
 | .tup xs,.tup ys=>if dpL xs < 90 then ZkU xs ys else none
 | .ref a,.ref b=>(match G a,G b with
  | some (.lst xs),some (.lst ys)=>if dpL xs < 90 then ZkU xs ys else none
  | _,_=>none)
 | .int a,.int b=>some (a==b)
 | .bl a,.bl b=>some (a==b)
 | .str a,.str b=>some (a==b)
 | .non,.non=>some true
 | .int _,.non=>some false
 | .non,.int _=>some false
 | .int _,.str _=>some false
 | .str _,.int _=>some false
 | .bl _,.str _=>some false
 | .str _,.bl _=>some false
 | .non,.str _=>some false
 | .str _,.non=>some false
 | .non,.bl _=>some false
 | .bl _,.non=>some false
 | _,_=>none
def eqF (neg:Bool) (x y:W) (G:Hw):Option W:=(eqW x y G).map fun c=>.bl (c != neg)
theorem ZuC (c:Bool):(c != true)=!c:=by cases c <;> rfl
theorem ZtM (neg:Bool) (x y:W) (v u:V) (G:Hw) (H:Hp) (Q:VK) (tx:Tr K H v x) (ty:Tr K H u y) (r:RelH K H G) (q:Zak (eqF neg) x y G (dn K H Q)):(Zt2 v u=true∧Q (.bl (decide (v=u) != neg)) H)∨rSq K neg v u H Q:=by
 obtain ⟨w,e,q'⟩:=Zfd q
 obtain ⟨c,e1,e2⟩:=Option.map_eq_some_iff.mp e
 subst e2
 have qq:=q' (.bl (c != neg)) H .refl (.bl _) r
 have sc:∀ {i j:V},decide (i=j)=c→Zt2 i j=true→(Zt2 i j=true∧Q (.bl (decide (i=j) != neg)) H)∨rSq K neg i j H Q:=fun {i j} h1 h2=>.inl ⟨h2,by rw [h1];exact qq⟩
 cases tx with
 | tup hq l =>
  cases ty with
  | tup hq' l' =>
   unfold eqW at e1;dsimp only at e1
   split at e1
   ·rename_i hd
    exact .inr ⟨_,_,_,_,_,_,c,rfl,rfl,.inl ⟨hq,hq'⟩,l,l',hd,e1,qq⟩
   ·cases e1
  | _=>cases e1
 | ref a =>
  cases ty with
  | ref b =>
   unfold eqW at e1;dsimp only at e1
   cases ea:G a with
   | none=>rw [ea] at e1;cases e1
   | some oa =>
    cases eb:G b with
    | none=>rw [ea,eb] at e1;cases oa <;> cases e1
    | some ob =>
     rw [ea,eb] at e1
     cases oa <;> cases ob <;> try cases e1
     dsimp only at e1
     split at e1
     ·rename_i hd
      obtain ⟨vs,z1,t1⟩:=r a _ ea
      obtain ⟨us,z2,t2⟩:=r b _ eb
      exact .inr ⟨_,_,_,_,_,_,c,rfl,rfl,.inr ⟨SqL.of z1,SqL.of z2⟩,t1,t2,hd,e1,qq⟩
     ·cases e1
  | _=>cases e1
 | rol _ _=>cases y <;> cases e1
 | non=>cases ty <;> cases e1 <;> exact sc (by simp) rfl
 | bl b=>cases ty <;> cases e1 <;> exact sc (by first | exact Zpu | simp) rfl
 | int b=>cases ty <;> cases e1 <;> exact sc (by first | exact Zm3 | simp) rfl
 | str b=>cases ty <;> cases e1 <;> exact sc (by first | exact ZmU | simp) rfl
theorem Zyt {X:Cx} (hu:X.A.units+100 < cLine):OpR X (compareOp .Eq) (fun x y H Q=>(Zt2 x y=true∧Q (.bl (decide (x=y) != false)) H)∨rSq X.K false x y H Q):=by
 walk_at "pc"
 rcases h with ⟨h1,h2⟩ | h
 ·exact Zz0 pins s σ H x y v u Q I rx ry ⟨h1,by simpa using h2⟩
 ·exact ZrH hu pins s σ H x y v u Q I rx ry h
theorem ZwR {X:Cx} (hu:X.A.units+100 < cLine):OpR X (compareOp .NotEq) (fun x y H Q=>(Zt2 x y=true∧Q (.bl (decide (x=y) != true)) H)∨rSq X.K true x y H Q):=by
 walk_at "pc"
 rcases h with ⟨h1,h2⟩ | h
 ·exact ZzI pins s σ H x y v u Q I rx ry ⟨h1,by rw [← ZuC];exact h2⟩
 ·exact Zsa hu pins s σ H x y v u Q I rx ry h
section
variable {X:Cx} {a b c e:Expr} {es ZbG:List Expr} {pos pos' p:Pos} {ga gb gc:GE} {gt gu:GT} {gs:GA}
def ZmN (G:Hw) (w:W):Option (List W):=match w with
 | .tup xs=>some xs
 | .rol xs=>some xs
 | .ref a=>(match G a with | some (.lst xs)=>some xs | _=>none)
 | _=>none
theorem Zkt {G:Hw} {w:W} {xs:List W} {v:V} (r:RelH K H G) (t:Tr K H v w) (e:ZmN G w=some xs):∃ a vs,v=.ref a∧(SqL K H a vs∨SqT K H a vs)∧TrL K H vs xs:=by
 cases t with
 | tup h l=>cases e;exact ⟨_,_,rfl,.inr h,l⟩
 | rol h l=>cases e;exact ⟨_,_,rfl,.inl h.sq,l⟩
 | ref a =>
  unfold ZmN at e;dsimp only at e
  cases z:G a with
  | none=>rw [z] at e;cases e
  | some o =>
   rw [z] at e
   cases o with
   | lst ys=>cases e;obtain ⟨vs,e1,t1⟩:=r a _ z;exact ⟨a,vs,rfl,.inl (SqL.of e1),t1⟩
   | exc C=>cases e
   | ins C fs=>cases e
   | dct kvs=>cases e
 | _=>cases e
def Zm5:List W→Option (List V)
 | []=>some []
 | w::ws=>(ZpO w).bind fun v=>(Zm5 ws).map (v::·)
theorem Znw:∀ {ws:List W} {vs us:List V},Zm5 ws=some us→TrL K H vs ws→vs=us∧vs.all Zjy=true
 | [],vs,us,e,t=>by cases e;cases t;exact ⟨rfl,rfl⟩
 | w::ws,vs,us,e,t=>by
  cases t with
  | cons tw t =>
   obtain ⟨f,e1,e2⟩:=Option.bind_eq_some_iff.mp (show (ZpO w).bind (fun v=>(Zm5 ws).map (v::·))=some us from e)
   obtain ⟨fs,e3,e4⟩:=Option.map_eq_some_iff.mp e2
   obtain ⟨h1,h2⟩:=ZnP tw e1
   obtain ⟨h3,h4⟩:=Znw e3 t
   subst e4
   exact ⟨by rw [h1,h3],by rw [List.all_cons,h2,h4];rfl⟩
def inF (neg:Bool) (x y:W) (G:Hw):Option W:=(ZpO x).bind fun v=>(ZmN G y).bind fun xs=>(Zm5 xs).map fun us=>.bl (if neg then !inV v us else inV v us)
theorem Zwa (neg:Bool) (x y:W) (v u:V) (G:Hw) (H:Hp) (Q:VK) (tx:Tr K H v x) (ty:Tr K H u y) (r:RelH K H G) (q:Zak (inF neg) x y G (dn K H Q)):rIn K neg v u H Q:=by
 obtain ⟨w,e,q'⟩:=Zfd q
 obtain ⟨f,e1,e2⟩:=Option.bind_eq_some_iff.mp e
 obtain ⟨xs,e3,e4⟩:=Option.bind_eq_some_iff.mp e2
 obtain ⟨us,e5,e6⟩:=Option.map_eq_some_iff.mp e4
 subst e6
 obtain ⟨h1,h2⟩:=ZnP tx e1
 obtain ⟨a,vs,rfl,hq,t⟩:=Zkt r ty e3
 obtain ⟨h3,h4⟩:=Znw e5 t
 subst h1;subst h3
 exact ⟨a,vs,rfl,hq,h2,h4,q' _ H .refl (.bl _) r⟩
end
section
variable {X:Cx} {P:Hp→Prop} {a b c e o i:Expr} {sts:List Stmt} {pos pos':Pos} {ga gb gc gv go gi:GE} {gt:GT} {g:GS} {gs:GA}
def ZnY (gt:GT) (g:GS):GS:=fun D ω G=>∃ W:Nat→Sw→Hw→Prop,(∃ m,W m ω G)∧∀ m ω G,W m ω G →
 gt ω G fun b G1=>if b=true then g { nx:=fun ω' G'=>∃ m',m' < m∧W m' ω' G',rt:=D.rt,bk:=D.nx,ct:=fun ω' G'=>∃ m',m' < m∧W m' ω' G' } ω G1 else D.nx ω G1
theorem ZrL (mt:gt.M) (mb:g.M):GS.M (ZnY gt g):=fun ω G D D' h1 h2 h3 h4 ⟨W,w0,turn⟩=>⟨W,w0,fun m ω G w=>mt _ _ _ _ (fun b G1 z=>by
 cases b with
 | true=>exact mb _ _ { nx:=fun ω' G'=>∃ m',m' < m∧W m' ω' G',rt:=D.rt,bk:=D.nx,ct:=fun ω' G'=>∃ m',m' < m∧W m' ω' G' } _ (fun _ _ y=>y) h2 h1 (fun _ _ y=>y) z
 | false=>exact h1 _ _ z) (turn m ω G w)⟩
theorem Zrv (hp:PassesOwn (model X.prog X.w) X.A X.env X.xe) (mt:gt.M) (mb:g.M) (hc:PTw X c gt) (hb:Zss X P sts g):PSw X P (.While c sts [] pos) (ZnY gt g):=fun B hB =>
 Zf1 (Zsm hp hc (hb B hB)) <| by
  rintro D σ H ⟨ω,G,ts,r,mb0,W,⟨m0,w0⟩,turn⟩
  refine ⟨fun m σ' H'=>Mono X.K B H'∧∃ ω' G',TrSt X.K H' σ' ω'∧RelH X.K H' G'∧W m ω' G',⟨m0,mb0,ω,G,ts,r,w0⟩,?_⟩
  rintro m σ' H' ⟨mm,ω',G',ts',r',w'⟩
  refine ⟨ω',G',ts',r',mt _ _ _ _ (fun b G1 z H1 m1 r1=>?_) (turn m ω' G' w')⟩
  cases b with
  | true =>
   rw [if_pos rfl]
   refine ⟨fun σ2 H2=>∃ m',m' < m∧Mono X.K B H2∧∃ ω2 G2,TrSt X.K H2 σ2 ω2∧RelH X.K H2 G2∧W m' ω2 G2,(by rintro σ2 H2 ⟨m',h1,h2⟩;exact ⟨m',h1,h2⟩),ω',G1,ts'.mono m1,r1,mm.trans m1,?_⟩
   exact mb _ _ { nx:=fun ω' G'=>∃ m',m' < m∧W m' ω' G',rt:=(dnD X.K B D).rt,bk:=(dnD X.K B D).nx,ct:=fun ω' G'=>∃ m',m' < m∧W m' ω' G' } _
    ((by rintro a b ⟨m',h1,h2⟩ σ2 H2 m2 ts2 r2;exact ⟨m',h1,m2,a,b,ts2,r2,h2⟩)) (fun a b y=>y) (fun a b y=>y) ((by rintro a b ⟨m',h1,h2⟩ σ2 H2 m2 ts2 r2;exact ⟨m',h1,m2,a,b,ts2,r2,h2⟩)) z
  | false =>
   rw [if_neg Bool.false_ne_true]
   exact z σ' H1 (mm.trans m1) (ts'.mono m1) r1
theorem Zcm (hp:PassesOwn (model X.prog X.w) X.A X.env X.xe) (hc:Tm X c gt) (hb:Ssm X P sts g):Sm X P (.While c sts [] pos) (ZnY gt g):=⟨Zrv hp hc.m hb.m hc.p hb.p,ZrL hc.m hb.m⟩
def ZoW (ω:Sw) (i:Nat):Option W:=match ω[i]? with | some (some w)=>some w | _=>none
theorem Zun {σ:St} {ω:Sw} {n:Nat} {w:W} (ts:TrSt K H σ ω) (e:ZoW ω n=some w):∃ v,σ[n]?=some (some v)∧Tr K H v w:=by
 unfold ZoW at e
 split at e
 ·rename_i u z
  cases e
  exact ts.get n _ z
 ·cases e
def Zha (n:Nat) (r:RW2) (ga:GE):GS:=fun D ω G=>opt (ZoW ω n) fun x=>ga ω G fun y G1=>r x y G1 fun z G2=>D.nx (ω.set n (some z)) G2
theorem Zwn {n:Nat} {r:RW2} (mr:r.M) (ma:ga.M):GS.M (Zha n r ga):=fun ω G D D' h1 _ _ _ q=>Zu0 (fun x q=>ma _ _ _ _ (fun y G1 z=>mr _ _ _ _ _ (fun w G2 z2=>h1 _ _ z2) z) q) q
theorem Zxt {op:Operator} {r:RW2} {r2:R2} {n:Nat} {x:Str} (ho:OpR X (inplaceOp op) r2) (mr:r.M) (hr:∀ (x y:W) (v u:V) (G:Hw) (H:Hp) (Q:VK),Tr X.K H v x→Tr X.K H u y→RelH X.K H G→r x y G (dn X.K H Q)→r2 v u H Q)
  (hN:X.N.Nodup) (hi:X.N[n]?=some x) (hx:Loc X.env.scope x) (hf:X.fn x=true∨X.env.scope.names.lookup x=some .local) (ma:ga.M) (ha:PEw X e ga):PSw X P (.AugAssign (.Name x pos') op e pos) (Zha n r ga):=fun B hB =>
 Zf1 (Zyi hN hi hx ha (fun pins s σ H x y v u Q I r1 r2 h=>ho pins s σ H x y v u Q I r1 r2 h) hf) <| by
  rintro D σ H ⟨ω,G,ts,rh,mb,q⟩
  obtain ⟨w,e1,q⟩:=Zfd q
  obtain ⟨v,e2,t⟩:=Zun ts e1
  refine ⟨v,e2,ω,G,ts,rh,ma _ _ _ _ (fun y G1 z u H1 m tu r1=>?_) q⟩
  exact hr w y v u G1 H1 _ (t.mono m) tu r1 (mr _ _ _ _ _ (fun w2 G2 z2 v2 H2 m2 t2 r2=>z2 _ H2 ((mb.trans m).trans m2) (((ts.mono m).mono m2).set n t2) r2) z)
def Zcu:RW2:=fun x y G Q=>match x,y with
 | .int i,.int j=>Q (.int (i+j)) G
 | .str a,.str b=>a.length+b.length≤sizeLine∧Q (.str (a++b)) G
 | _,_=>False
theorem Zpp:RW2.M Zcu:=fun x y G Q Q' h q=>by
 cases x <;> cases y <;> first | exact q | exact h _ _ q | exact ⟨q.1,h _ _ q.2⟩
theorem ZrT (x y:W) (v u:V) (G:Hw) (H:Hp) (Q:VK) (tx:Tr K H v x) (ty:Tr K H u y) (r:RelH K H G) (q:Zcu x y G (dn K H Q)) :
  (rI0 fun i j=>.int (i+j)) v u H Q∨(∃ i j,v=.str i∧u=.str j∧i.length+j.length≤sizeLine∧Q (.str (i++j)) H):=by
 cases tx with
 | int i=>cases ty <;> first | exact q.elim | exact .inl ⟨_,_,rfl,rfl,q _ H .refl (.int _) r⟩
 | str i=>cases ty <;> first | exact q.elim | exact .inr ⟨_,_,rfl,rfl,q.1,q.2 _ H .refl (.str _) r⟩
 | _=>exact q.elim
def Zjo (o k v:W) (G:Hw) (Q:Hw→Prop):Prop:=match o,k with
 | .ref a,.int j=>(match G a with
  | some (.lst xs)=>(match ixN xs.length j with | some n=>Q (put G a (.lst (xs.set n v))) | none=>False)
  | _=>False)
 | _,_=>False
theorem Zn8 {o k v:W} {G:Hw} {Q:Hw→Prop} (q:Zjo o k v G Q):∃ a j xs n,o=.ref a∧k=.int j∧G a=some (.lst xs)∧ixN xs.length j=some n∧Q (put G a (.lst (xs.set n v))):=by
 unfold Zjo at q
 split at q
 ·split at q
  ·rename_i xs e
   split at q
   ·rename_i n e2;exact ⟨_,_,xs,n,rfl,rfl,e,e2,q⟩
   ·exact q.elim
  ·exact q.elim
 ·exact q.elim
theorem ZkN {v:W} {G:Hw} {Q:Hw→Prop} {a:Addr} {j:Int} {xs:List W} {n:Nat} (e:G a=some (.lst xs)) (e2:ixN xs.length j=some n) (q:Q (put G a (.lst (xs.set n v)))):Zjo (.ref a) (.int j) v G Q:=by
 unfold Zjo
 dsimp only
 rw [e]
 dsimp only
 rw [e2]
 exact q
theorem ZuF {o k v:W} {G:Hw} {Q Q':Hw→Prop} (h:∀ G,Q G→Q' G) (q:Zjo o k v G Q):Zjo o k v G Q':=by
 obtain ⟨a,j,xs,n,rfl,rfl,e,e2,q⟩:=Zn8 q
 exact ZkN e e2 (h _ q)
theorem Zs6 {o k v:W} {x y u:V} {G:Hw} {Pq:Hw→Prop} {R:Hp→Prop} (tx:Tr K H x v) (ty:Tr K H y o) (tu:Tr K H u k) (r:RelH K H G) (q:Zjo o k v G Pq) (f:∀ G4 H4,Mono K H H4→RelH K H4 G4→Pq G4→R H4):Zw7 y u x H R:=by
 obtain ⟨a,j,xs,n,rfl,rfl,e,e2,q⟩:=Zn8 q
 cases ty
 cases tu
 obtain ⟨vs,e3,t⟩:=r a _ e
 exact ⟨a,vs,j,n,rfl,rfl,e3,by rw [t.length];exact e2,f _ _ (Mono.lst e3 _) (r.chg e3 (TrL.set tx n t)) q⟩
def Zb6 (gv go gi:GE):GS:=fun D ω G=>gv ω G fun v G1=>go ω G1 fun o G2=>gi ω G2 fun k G3=>Zjo o k v G3 fun G4=>D.nx ω G4
theorem ZsG (mv:gv.M) (mo:go.M) (mi:gi.M):GS.M (Zb6 gv go gi):=fun ω G D D' h1 _ _ _ q =>
 mv _ _ _ _ (fun v G1 z=>mo _ _ _ _ (fun o G2 z=>mi _ _ _ _ (fun k G3 z=>ZuF (fun G4 z=>h1 _ _ z) z) z) z) q
theorem ZcY (ha:∀ v,assign (.Subscript o i pos') X.env v=(do
   let ov ← holding [v] (eval o X.env)
   let iv ← holding [v,ov] (eval i X.env)
   standAt pos'
   holding [v,ov,iv] (setItem ov iv v)
   release [v,ov,iv] [])) (hs:swapsWithSole [.Subscript o i pos'] e pos.line X.env=pure false) (hw:swappedStores [.Subscript o i pos'] e X.env=pure none)
  (h1:(assignEach [.Subscript o i pos'] X.env).map (·.2)=[assign (.Subscript o i pos') X.env]) (hv:Em X e gv) (ho:Em X o go) (hi:Em X i gi):Sm X P (.Assign [.Subscript o i pos'] e pos) (Zb6 gv go gi) :=
 ⟨fun B hB=>Zf1 (Zyd hv.p (Zwb ho.p hi.p ZsP ha) hs hw h1) fun D σ H ⟨ω,G,ts,r,mb,q⟩=>⟨ω,G,ts,r,hv.m _ _ _ _ (fun v G1 z x H1 m1 tx r1 =>
  ⟨ω,G1,ts.mono m1,r1,ho.m _ _ _ _ (fun ow G2 z2 y H2 m2 ty r2 =>
   ⟨ω,G2,(ts.mono m1).mono m2,r2,hi.m _ _ _ _ (fun k G3 z3 u H3 m3 tu r3 =>
    Zs6 ((tx.mono m2).mono m3) (ty.mono m3) tu r3 z3 (fun G4 H4 m4 r4 q4=>q4 σ H4 ((((mb.trans m1).trans m2).trans m3).trans m4) ((((ts.mono m1).mono m2).mono m3).mono m4) r4)) z2⟩) z⟩) q⟩,ZsG hv.m ho.m hi.m⟩
abbrev GO:=Sw→Hw→(Option Int→Hw→Prop)→Prop
def GO.M (g:GO):Prop:=∀ ω G (Q Q':Option Int→Hw→Prop),(∀ w G',Q w G'→Q' w G')→g ω G Q→g ω G Q'
def dnO (K:PySem.W.Frag) (H:Hp) (Q:Option Int→Hp→Prop):Option Int→Hw→Prop:=fun b G=>∀ H',Mono K H H'→RelH K H' G→Q b H'
def upO (K:PySem.W.Frag) (g:GO):TO:=fun σ H Q=>∃ ω G,TrSt K H σ ω∧RelH K H G∧g ω G (dnO K H Q)
structure Om (X:Cx) (e:Option Expr) (g:GO):Prop where
 p:PO X e (upO X.K g)
 m:g.M
def ZaF:GO:=fun _ G Q=>Q none G
def ZbP (ga:GE):GO:=fun ω G Q=>ga ω G fun w G1=>match w with | .int j=>Q (some j) G1 | _=>False
theorem ZdW:Om X none ZaF:=⟨(by rintro pins s σ H Q I ⟨ω,G,ts,r,q⟩;exact Zub pins s σ H Q I (q H .refl r)),fun _ _ _ _ h q=>h _ _ q⟩
theorem ZdY (h:Em X e ga):Om X (some e) (ZbP ga):=⟨fun pins s σ H Q I ⟨ω,G,ts,r,q⟩=>Zt6 h.p pins s σ H Q I ⟨ω,G,ts,r,h.m _ _ _ _ (fun w G1 z v H1 m t r1=>by
  cases w with
  | int j=>exact ⟨j,Zxk t,z H1 m r1⟩
  | _=>exact z.elim) q⟩,fun ω G Q Q' hh q=>h.m _ _ _ _ (fun w G1 z=>by cases w <;> first | exact hh _ _ z | exact z) q⟩
def Znc {α:Type} (xs:List α) (lo hi:Option Int):List α:=(xs.drop (HT.sIx xs.length 0 lo)).take (HT.sIx xs.length xs.length hi - HT.sIx xs.length 0 lo)
def slW (w:W) (lo hi:Option Int) (G:Hw) (Q:Kw):Prop:=match w with
 | .tup xs=>¬ (HT.sIx xs.length 0 lo=0∧HT.sIx xs.length xs.length hi=xs.length)∧Q (.tup (Znc xs lo hi)) G
 | .rol xs=>∀ p,G p=none→Q (.ref p) (put G p (.lst (Znc xs lo hi)))
 | .ref a=>(match G a with | some (.lst xs)=>∀ p,G p=none→Q (.ref p) (put G p (.lst (Znc xs lo hi))) | _=>False)
 | _=>False
theorem ZrW {w:W} {lo hi:Option Int} {G:Hw} {Q Q':Kw} (h:∀ w G',Q w G'→Q' w G') (q:slW w lo hi G Q):slW w lo hi G Q':=by
 cases w with
 | tup xs=>exact ⟨q.1,h _ _ q.2⟩
 | rol xs=>exact fun p hp=>h _ _ (q p hp)
 | ref a =>
  unfold slW at q ⊢
  dsimp only at q ⊢
  cases e:G a with
  | none=>rw [e] at q;exact q.elim
  | some ob =>
   rw [e] at q
   cases ob with
   | lst xs=>exact fun p hp=>h _ _ (q p hp)
   | exc C=>exact q.elim
   | ins C fs=>exact q.elim
   | dct kvs=>exact q.elim
 | _=>exact q.elim
theorem TrL.cut {vs:List V} {ws:List W} (t:TrL K H vs ws) (lo hi:Option Int):TrL K H (Ztg vs lo hi) (Znc ws lo hi):=by
 unfold Ztg Znc
 rw [t.length]
 exact (t.drop _).take _
theorem Znl {w:W} {v:V} {lo hi:Option Int} {G:Hw} {Q:VK} (t:Tr K H v w) (r:RelH K H G) (q:slW w lo hi G (dn K H Q)):Zzl K v lo hi H Q∨Zza K v lo hi H Q:=by
 cases t with
 | tup h l =>
  refine .inl ⟨_,_,rfl,h,by rw [l.length];exact q.1,fun p hp=>?_⟩
  exact q.2 _ _ (Mono.new hp _) (.tup (SqT.of ZbA) ((l.cut lo hi).mono (Mono.new hp _))) (r.mono0 hp)
 | rol h l=>exact .inr ⟨_,_,rfl,h.sq,fun p hp=>q p (r.no hp) _ _ (Mono.new hp _) (.ref p) (r.new hp (l.cut lo hi))⟩
 | ref a =>
  unfold slW at q
  dsimp only at q
  cases e:G a with
  | none=>rw [e] at q;exact q.elim
  | some ob =>
   rw [e] at q
   cases ob with
   | lst xs =>
    obtain ⟨vs,e1,l⟩:=r a _ e
    exact .inr ⟨_,_,rfl,SqL.of e1,fun p hp=>q p (r.no hp) _ _ (Mono.new hp _) (.ref p) (r.new hp (l.cut lo hi))⟩
   | exc C=>exact q.elim
   | ins C fs=>exact q.elim
   | dct kvs=>exact q.elim
 | _=>exact q.elim
def gSl (ga:GE) (gl gh:GO):GE:=fun ω G Q=>ga ω G fun w G1=>gl ω G1 fun lo G2=>gh ω G2 fun hi G3=>slW w lo hi G3 Q
theorem Zjw {lo hi:Option Expr} {gl gh:GO} {p2:Pos} (ha:Em X e ga) (hl:Om X lo gl) (hh:Om X hi gh):Em X (.Subscript e (.Slice lo hi none p2) pos) (gSl ga gl gh) :=
 ⟨Zbh (Znu (SlR.or ZtP Zq0) ha.p hl.p hh.p) fun σ H Q ⟨ω,G,ts,r,q⟩=>⟨ω,G,ts,r,ha.m _ _ _ _ (fun w G1 z v H1 m1 t r1=>⟨ω,G1,ts.mono m1,r1,hl.m _ _ _ _ (fun l G2 z2 H2 m2 r2 =>
   ⟨ω,G2,(ts.mono m1).mono m2,r2,hh.m _ _ _ _ (fun h G3 z3 H3 m3 r3=>Znl ((t.mono m2).mono m3) r3 (ZrW (fun w G' z=>Zcq ((m1.trans m2).trans m3) z) z3)) z2⟩) z⟩) q⟩,
  fun ω G Q Q' h q=>ha.m _ _ _ _ (fun w G1 z=>hl.m _ _ _ _ (fun l G2 z2=>hh.m _ _ _ _ (fun u G3 z3=>ZrW h z3) z2) z) q⟩
end
abbrev UpW (K:PySem.W.Frag) (r:RW2) (r2:R2):Prop:=∀ (x y:W) (v u:V) (G:Hw) (H:Hp) (Q:VK),Tr K H v x→Tr K H u y→RelH K H G→r x y G (dn K H Q)→r2 v u H Q
structure Cop (X:Cx) (op:CmpOp) (r:RW2):Prop where
 ex:∃ r2,OpR X (compareOp op) r2∧UpW X.K r r2
 m:r.M
def Zbi (a b:Str):Bool:=decide (a.cps.toList < b.cps.toList)
def Zee (f:Int→Int→Bool) (g:Str→Str→Bool):RW2:=fun x y G Q=>match x,y with
 | .int i,.int j=>Q (.bl (f i j)) G
 | .str i,.str j=>Q (.bl (g i j)) G
 | _,_=>False
theorem ZtE {f:Int→Int→Bool} {g:Str→Str→Bool}:RW2.M (Zee f g):=fun x y G Q Q' h q=>by
 cases x <;> cases y <;> first | exact q | exact h _ _ q
theorem ZpZ {f:Int→Int→Bool} {g:Str→Str→Bool}:UpW K (Zee f g) (fun x y H Q=>rI0 (fun i j=>.bl (f i j)) x y H Q∨∃ i j,x=.str i∧y=.str j∧Q (.bl (g i j)) H):=fun x y v u G H Q tx ty r q=>by
 cases tx with
 | int i=>cases ty <;> first | exact q.elim | exact .inl ⟨_,_,rfl,rfl,q _ H .refl (.bl _) r⟩
 | str i=>cases ty <;> first | exact q.elim | exact .inr ⟨_,_,rfl,rfl,q _ H .refl (.bl _) r⟩
 | _=>exact q.elim
theorem Zqx {X:Cx}:OpR X (compareOp .LtE) (fun x y H Q=>∃ i j,x=.str i∧y=.str j∧Q (.bl (!Zbi j i)) H):=by
 walk_at "pc"
 obtain ⟨i,j,rfl,rfl,q⟩:=h
 obtain ⟨t,rfl⟩:=rx
 obtain ⟨t',rfl⟩:=ry
 exact PySem.P.le_str ⟨.bl _,H,I,rfl,q⟩
theorem ZfC {X:Cx}:Cop X .Lt (Zee (fun i j=>decide (i < j)) Zbi):=⟨⟨_,OpR.or ZzV ZpS,ZpZ⟩,ZtE⟩
theorem Zgf {X:Cx}:Cop X .LtE (Zee (fun i j=>decide (i≤j)) (fun a b=>!Zbi b a)):=⟨⟨_,OpR.or Zzo Zqx,ZpZ⟩,ZtE⟩
theorem Zgg {X:Cx}:Cop X .Gt (Zfq fun i j=>decide (j < i)):=⟨⟨_,Zzu,ZpW⟩,Zty⟩
theorem Zf9 {X:Cx}:Cop X .GtE (Zfq fun i j=>decide (j≤i)):=⟨⟨_,ZzL,ZpW⟩,Zty⟩
theorem ZeS {X:Cx} (hu:X.A.units+100 < cLine):Cop X .Eq (Zak (eqF false)):=⟨⟨_,Zyt hu,ZtM false⟩,Zhl⟩
theorem Zgh {X:Cx} (hu:X.A.units+100 < cLine):Cop X .NotEq (Zak (eqF true)):=⟨⟨_,ZwR hu,ZtM true⟩,Zhl⟩
theorem ZfL {X:Cx}:Cop X .In (Zak (inF false)):=⟨⟨_,ZqB,Zwa false⟩,Zhl⟩
section
variable {X:Cx} {op op':CmpOp} {r r':RW2} {a b c e:Expr} {es:List Expr} {pos:Pos} {ga gb gc:GE}
theorem Zfa (C:Cop X op r) (hm:behindInMarks op b=false) (ha:Em X a ga) (hb:Em X b gb):Em X (.Compare a [op] [b] pos) (Zaj r ga gb) :=
 let ⟨_,h1,h2⟩:=C.ex
 ⟨Zv2 h1 C.m ha.m hb.m h2 ha.p hb.p hm,Zfh C.m ha.m hb.m⟩
theorem ZfG (C:Cop X op r) (hm:behindInMarks op b=false) (ha:Em X a ga) (hb:Em X b gb):Tm X (.Compare a [op] [b] pos) (gTB (Zaj r ga gb)) :=
 let ⟨_,h1,h2⟩:=C.ex
 ⟨Zw4 h1 C.m ha.m hb.m h2 ha.p hb.p hm,Zws (Zfh C.m ha.m hb.m)⟩
def Za6 (r r':RW2) (ga gb gc:GE):GE:=fun ω G Q=>ga ω G fun x G1=>gb ω G1 fun y G2=>r x y G2 fun z G3=>match z with
 | .bl k=>if k=true then gc ω G3 fun w G4=>r' y w G4 Q else Q (.bl false) G3
 | _=>False
theorem ZkQ (mr:r.M) (mr':r'.M) (ma:ga.M) (mb:gb.M) (mc:gc.M):GE.M (Za6 r r' ga gb gc):=fun ω G Q Q' h q =>
 ma _ _ _ _ (fun x G1 z=>mb _ _ _ _ (fun y G2 z=>mr _ _ _ _ _ (fun z1 G3 z=>by
  cases z1 with
  | bl k =>
   cases k with
   | true=>exact mc _ _ _ _ (fun w G4 z=>mr' _ _ _ _ _ h z) z
   | false=>exact h _ _ z
  | _=>exact z) z) z) q
theorem Znv {r2 r2':R2} (u:UpW K r r2) (u':UpW K r' r2') (mr:r.M) (mr':r'.M) (ma:ga.M) (mb:gb.M) (mc:gc.M) (σ:St) (H:Hp) (Q:VK) (h:up K (Za6 r r' ga gb gc) σ H Q):Zpb r2 r2' (up K ga) (up K gb) (up K gc) σ H Q:=by
 obtain ⟨ω,G,ts,rh,q⟩:=h
 refine ⟨ω,G,ts,rh,ma _ _ _ _ (fun x G1 z1 v H1 m1 tx r1=>⟨ω,G1,ts.mono m1,r1,mb _ _ _ _ (fun y G2 z2 v2 H2 m2 ty r2=>?_) z1⟩) q⟩
 refine u x y v v2 G2 H2 _ (tx.mono m2) ty r2 (mr _ _ _ _ _ (fun k G3 z3 v3 H3 m3 tk r3=>?_) z2)
 cases k with
 | bl k =>
  refine ⟨k,ZmG tk,?_⟩
  cases k with
  | true =>
   rw [if_pos rfl]
   refine ⟨ω,G3,((ts.mono m1).mono m2).mono m3,r3,mc _ _ _ _ (fun w G4 z4 v4 H4 m4 tw r4=>?_) z3⟩
   exact u' y w v2 v4 G4 H4 Q ((ty.mono m3).mono m4) tw r4 (mr' _ _ _ _ _ (fun w5 G5 z5=>Zcq (((m1.trans m2).trans m3).trans m4) z5) z4)
  | false =>
   rw [if_neg Bool.false_ne_true]
   exact z3 _ H3 ((m1.trans m2).trans m3) (.bl false) r3
 | _=>exact z3.elim
theorem ZcU (C:Cop X op r) (C':Cop X op' r') (hm:lastMarks [op,op'] [b,c]=false) (ha:Em X a ga) (hb:Em X b gb) (hc:Em X c gc):Em X (.Compare a [op,op'] [b,c] pos) (Za6 r r' ga gb gc) :=
 let ⟨_,h1,h2⟩:=C.ex
 let ⟨_,h3,h4⟩:=C'.ex
 ⟨Zbh (Zso h1 h3 ha.p hb.p hc.p hm) (Znv h2 h4 C.m C'.m ha.m hb.m hc.m),ZkQ C.m C'.m ha.m hb.m hc.m⟩
theorem ZcR (C:Cop X op r) (C':Cop X op' r') (hm:lastMarks [op,op'] [b,c]=false) (ha:Em X a ga) (hb:Em X b gb) (hc:Em X c gc):Tm X (.Compare a [op,op'] [b,c] pos) (gTB (Za6 r r' ga gb gc)) :=
 let ⟨_,h1,h2⟩:=C.ex
 let ⟨_,h3,h4⟩:=C'.ex
 ⟨Zn9 (ZsB h1 h3 ha.p hb.p hc.p hm) fun σ H Q z=>Znv h2 h4 C.m C'.m ha.m hb.m hc.m σ H _ (Zv4 (ZkQ C.m C'.m ha.m hb.m hc.m) z),Zws (ZkQ C.m C'.m ha.m hb.m hc.m)⟩
end
abbrev UpC (K:PySem.W.Frag) (r:RWc) (r1:List V→Hp→VK→Prop):Prop:=∀ ws vs G H Q,TrL K H vs ws→RelH K H G→r ws G (dn K H Q)→r1 vs H Q
structure Blt (X:Cx) (f:Value) (r:RWc):Prop where
 ex:∃ r1,CallR X f r1∧UpC X.K r r1
 m:r.M
section
variable {X:Cx} {x:Str} {p pos:Pos} {e:Expr} {es:List Expr} {gs:GA} {r:RWc} {id T:String}
theorem ZbU (hv:bootBuiltins x=some (.builtin id)) (B:Blt X (.builtin id) r) (hg:Gl X x) (hm:X.mg x=none) (hn:x≠"__name__") (hdb:(x==("__debug__":Str))=false)
  (he:starEach (e::es) X.env=(false,eval e X.env)::starEach es X.env) (hpl:(backTo pos (starEach es X.env)).any (·.1)=false) (ha:Am X (e::es) gs):Em X (.Call (.Name x p) (e::es) [] pos) (gB r gs) :=
 let ⟨_,h1,h2⟩:=B.ex
 ZyG h1 B.m h2 hg hm hv hn hdb he hpl ha
theorem Zb1 (hv:bootBuiltins x=some (.type T)) (B:Blt X (.type T) r) (hg:Gl X x) (hm:X.mg x=none) (hn:x≠"__name__") (hdb:(x==("__debug__":Str))=false)
  (he:starEach (e::es) X.env=(false,eval e X.env)::starEach es X.env) (hpl:(backTo pos (starEach es X.env)).any (·.1)=false) (ha:Am X (e::es) gs):Em X (.Call (.Name x p) (e::es) [] pos) (gB r gs) :=
 let ⟨_,h1,h2⟩:=B.ex
 Zyf h1 B.m h2 hg hm hv hn hdb he hpl ha
end
theorem Zd1 {X:Cx}:Blt X (.builtin "len") (rF Zed):=⟨⟨_,ZrQ,Zup⟩,ZyU⟩
theorem ZcF {X:Cx} (hc:X.calm=true):Blt X (.builtin "all") (rF ZgC):=⟨⟨_,Zqm hc,Zvw⟩,ZyU⟩
def Zmy:RWc:=fun ws G Q=>match ws with
 | [w]=>(match ZmN G w with | some xs=>∀ p,G p=none→Q (.ref p) (put G p (.lst xs)) | none=>False)
 | _=>False
theorem Zu8:RWc.M Zmy:=fun ws G Q Q' h q=>by
 unfold Zmy at q ⊢
 split at q
 ·split at q
  ·exact fun p hp=>h _ _ (q p hp)
  ·exact q.elim
 ·exact q.elim
theorem ZsW:UpC K Zmy (fun xs H Q=>∃ p ys,xs=[.ref p]∧(SqL K H p ys∨SqT K H p ys)∧∀ l,H l=none→Q (.ref l) (upd H l (.lst ys))):=fun ws vs G H Q t r q=>by
 unfold Zmy at q
 split at q
 ·rename_i w0
  split at q
  ·rename_i xs e
   cases t with
   | cons tw t =>
    cases t
    obtain ⟨a,us,rfl,hq,l⟩:=Zkt r tw e
    exact ⟨a,us,rfl,hq,fun p hp=>q p (r.no hp) _ _ (Mono.new hp _) (.ref p) (r.new hp l)⟩
  ·exact q.elim
 ·exact q.elim
theorem ZcX {X:Cx}:Blt X (.type "list") Zmy:=⟨⟨_,Zmb,ZsW⟩,Zu8⟩
def ZhU (ws:List W) (G:Hw):Option W:=match ws with | [w]=>(ZmN G w).map W.tup | _=>none
theorem ZuE:UpC K (rF ZhU) (fun xs H Q=>∃ p ys,xs=[.ref p]∧((SqL K H p ys∧∀ l,H l=none→Q (.ref l) (upd H l (.tup ys)))∨(SqT K H p ys∧Q (.ref p) H))):=fun ws vs G H Q t r q=>by
 obtain ⟨w,e,q'⟩:=Zfd q
 unfold ZhU at e
 split at e
 ·obtain ⟨xs,e1,e2⟩:=Option.map_eq_some_iff.mp e
  subst e2
  cases t with
  | cons tw t =>
   cases t
   obtain ⟨a,us,rfl,hq,l⟩:=Zkt r tw e1
   rcases hq with hq | hq
   ·exact ⟨a,us,rfl,.inl ⟨hq,fun p hp=>q' _ _ (Mono.new hp _) (.tup (SqT.of ZbA) (l.mono (Mono.new hp _))) (r.mono0 hp)⟩⟩
   ·exact ⟨a,us,rfl,.inr ⟨hq,q' _ H .refl (.tup hq l) r⟩⟩
 ·cases e
theorem Zbr {X:Cx}:Blt X (.type "tuple") (rF ZhU):=⟨⟨_,Zkw,ZuE⟩,ZyU⟩
def Zmq (ws:List W) (_:Hw):Option W:=match ws with | [.int i]=>some (.int i) | [.bl k]=>some (.int (if k then 1 else 0)) | _=>none
theorem Zvr:UpC K (rF Zmq) (fun xs H Q=>(∃ i,xs=[.int i]∧Q (.int i) H)∨∃ k,xs=[.bl k]∧Q (.int (if k then 1 else 0)) H):=fun ws vs G H Q t r q=>by
 obtain ⟨w,e,q'⟩:=Zfd q
 unfold Zmq at e
 split at e
 ·cases e
  cases t with
  | cons tw t=>cases t;cases tw;exact .inl ⟨_,rfl,q' _ H .refl (.int _) r⟩
 ·cases e
  cases t with
  | cons tw t=>cases t;cases tw;exact .inr ⟨_,rfl,q' _ H .refl (.int _) r⟩
 ·cases e
theorem Zd3 {X:Cx}:Blt X (.type "int") (rF Zmq):=⟨⟨_,Zpf,Zvr⟩,ZyU⟩
structure Mth (X:Cx) (T:String) (name:Str) (id:String) (pre:W→Hw→Prop) (r:W→List W→Hw→Kw→Prop):Prop where
 pa:PlainAttrs T
 slot:Slot T name id
 ty:typeOf (.builtin id)=pure (.type "method_descriptor")
 ex:∃ r2,MtR X id r2∧∀ (o:W) (ws:List W) (v:V) (vs:List V) (G:Hw) (H:Hp) (Q:VK),Tr X.K H v o→TrL X.K H vs ws→RelH X.K H G→r o ws G (dn X.K H Q)→r2 v vs H Q
 pr:∀ (o:W) (v:V) (G:Hw) (H:Hp),Tr X.K H v o→RelH X.K H G→pre o G→tyV X.K T v H
 m:∀ o ws G (Q Q':Kw),(∀ w G',Q w G'→Q' w G')→r o ws G Q→r o ws G Q'
def gMt (pre:W→Hw→Prop) (r:W→List W→Hw→Kw→Prop) (go:GE) (gs:GA):GE:=fun ω G Q=>go ω G fun o G1=>pre o G1∧gs ω G1 fun ws G2=>r o ws G2 Q
section
variable {X:Cx} {o e:Expr} {es:List Expr} {go:GE} {gs:GA} {name:Str} {apos cpos:Pos} {T id:String} {pre:W→Hw→Prop} {r:W→List W→Hw→Kw→Prop}
theorem Za8 (M:Mth X T name id pre r) (hbase:attributeBase o name X.env (eval o X.env)=eval o X.env)
  (hfew:((backTo cpos (starEach (e::es) X.env)).all (fun x=>!x.1)&&(backToKw cpos (keywordEach [] X.env)).all (fun x=>x.1.isSome)&&decide ((e::es).length+([]:List Keyword).length+(if ([]:List Keyword).isEmpty then 0 else 1) < 30))=true)
  (hline:(apos.endLine==cpos.line)=true) (hs:starEach (e::es) X.env=(false,eval e X.env)::starEach es X.env) (hplain:(backTo cpos (starEach es X.env)).any (·.1)=false) (ho:Em X o go) (ha:Am X (e::es) gs) :
  Em X (.Call (.Attribute o name apos) (e::es) [] cpos) (gMt pre r go gs) :=
 let ⟨_,h1,h2⟩:=M.ex
 ⟨Zbh (Zz1 M.pa M.slot M.ty h1 ho.p ha.p hbase hfew hline hs hplain) fun σ H Q ⟨ω,G,ts,rh,q⟩=>⟨ω,G,ts,rh,ho.m _ _ _ _ (fun ow G1 z v H1 m1 tv r1=>⟨M.pr ow v G1 H1 tv r1 z.1,
   ω,G1,ts.mono m1,r1,ha.m _ _ _ _ (fun ws G2 z2 vs H2 m2 tvs r2=>h2 ow ws v vs G2 H2 Q (tv.mono m2) tvs r2 (M.m _ _ _ _ _ (fun w G' y=>Zcq (m1.trans m2) y) z2)) z.2⟩) q⟩,
  fun ω G Q Q' h q=>ho.m _ _ _ _ (fun ow G1 z=>⟨z.1,ha.m _ _ _ _ (fun ws G2 z2=>M.m _ _ _ _ _ h z2) z.2⟩) q⟩
end
def ZkR (o:W) (G:Hw):Prop:=∃ xs,Zkm G o=some xs
theorem ZnT {o:W} {v:V} {G:Hw} (t:Tr K H v o) (r:RelH K H G) (h:ZkR o G):tyV K "list" v H:=by
 obtain ⟨xs,e⟩:=h
 obtain ⟨a,vs,rfl,_,_,e1,_⟩:=ZgX r t e
 exact .inl ⟨rfl,_,SqL.of e1⟩
def Ztd (o:W) (G:Hw) (f:List W→Option (List W)) (Q:Kw):Prop:=match o with
 | .ref a=>(match G a with | some (.lst xs)=>(match f xs with | some ys=>Q .non (put G a (.lst ys)) | none=>False) | _=>False)
 | _=>False
theorem ZmV {o:W} {G:Hw} {f:List W→Option (List W)} {Q:Kw} (q:Ztd o G f Q):∃ a xs ys,o=.ref a∧G a=some (.lst xs)∧f xs=some ys∧Q .non (put G a (.lst ys)):=by
 unfold Ztd at q
 split at q
 ·split at q
  ·rename_i xs e
   split at q
   ·rename_i ys e2;exact ⟨_,xs,ys,rfl,e,e2,q⟩
   ·exact q.elim
  ·exact q.elim
 ·exact q.elim
theorem Zmz {G:Hw} {f:List W→Option (List W)} {Q:Kw} {a:Addr} {xs ys:List W} (e:G a=some (.lst xs)) (e2:f xs=some ys) (q:Q .non (put G a (.lst ys))):Ztd (.ref a) G f Q:=by
 unfold Ztd
 dsimp only
 rw [e]
 dsimp only
 rw [e2]
 exact q
theorem ZtO {o:W} {G:Hw} {f:List W→Option (List W)} {Q Q':Kw} (h:∀ w G',Q w G'→Q' w G') (q:Ztd o G f Q):Ztd o G f Q':=by
 obtain ⟨a,xs,ys,rfl,e,e2,q⟩:=ZmV q
 exact Zmz e e2 (h _ _ q)
def Ztu (o:W) (ws:List W) (G:Hw) (Q:Kw):Prop:=match ws with
 | [y]=>Ztd o G (fun xs=>if xs.length < sizeLine then some (xs++[y]) else none) Q
 | _=>False
theorem ZbD {X:Cx}:Mth X "list" "append" "list.append" ZkR Ztu where
 pa:=PySem.F.plainAttrs_list
 slot:=PySem.F.slot_list_append
 ty:=PySem.F.type_list_append
 ex:=⟨_,ZpT,fun o ws v vs G H Q tv tvs r q=>by
  unfold Ztu at q
  split at q
  ·obtain ⟨a,xs,ys,rfl,e,e2,q⟩:=ZmV q
   split at e2
   ·rename_i hlen
    cases e2
    cases tv
    cases tvs with
    | cons ty t =>
     cases t
     obtain ⟨us,e1,l⟩:=r a _ e
     exact ⟨a,us,_,rfl,rfl,e1,by rw [l.length];exact hlen,q _ _ (Mono.lst e1 _) .non (r.chg e1 (l.append (.cons ty .nil)))⟩
   ·cases e2
  ·exact q.elim⟩
 pr:=fun o v G H t r h=>ZnT t r h
 m:=fun o ws G Q Q' h q=>by
  unfold Ztu at q ⊢
  split at q
  ·exact ZtO h q
  ·exact q.elim
def Zvc (o:W) (ws:List W) (G:Hw) (Q:Kw):Prop:=match ws with
 | [y]=>Ztd o G (fun xs=>(Zkm G y).bind fun zs=>if xs.length+zs.length≤sizeLine then some (xs++zs) else none) Q
 | _=>False
theorem Zbn {X:Cx}:Mth X "list" "extend" "list.extend" ZkR Zvc where
 pa:=PySem.F.plainAttrs_list
 slot:=PySem.F.slot_list_extend
 ty:=PySem.F.type_list_extend
 ex:=⟨_,Zp9,fun o ws v vs G H Q tv tvs r q=>by
  unfold Zvc at q
  split at q
  ·obtain ⟨a,xs,ys,rfl,e,e2,q⟩:=ZmV q
   obtain ⟨zs,e3,e4⟩:=Option.bind_eq_some_iff.mp e2
   split at e4
   ·rename_i hlen
    cases e4
    cases tv
    cases tvs with
    | cons ty t =>
     cases t
     obtain ⟨us,e1,l⟩:=r a _ e
     obtain ⟨b,ws',rfl,_,_,e5,l5⟩:=ZgX r ty e3
     exact ⟨a,b,us,ws',rfl,rfl,e1,e5,by rw [l.length,l5.length];exact hlen,q _ _ (Mono.lst e1 _) .non (r.chg e1 (l.append l5))⟩
   ·cases e4
  ·exact q.elim⟩
 pr:=fun o v G H t r h=>ZnT t r h
 m:=fun o ws G Q Q' h q=>by
  unfold Zvc at q ⊢
  split at q
  ·exact ZtO h q
  ·exact q.elim
def Zqy (C:Addr) (E:Addr→Hw→Prop) (gs:GA):GS:=fun _ ω G=>gs ω G fun ws G1=>ws.length≤sizeLine∧E C G1
section
variable {P:Program} {w:World} {mg:Str→Option Value} {base:Heap} {N:List Str} {qual:Str} {scope:Scope} {f:Addr} {cd:Value} {A:Around} {outer:List Env} {s:Shared} {E:XK} {Pb:Hp→Prop}
theorem Zs0 {x:Str} {C:Addr} {B newId initId:String} {bm:List Value} {np cpos pos:Pos} {e₀:Expr} {ZbG:List Expr} {gs:GA} (hm:mg x=some (.ref C)) (q:PySem.W.excIn K C bm newId=true) (FB:ExcBaseFacts B newId initId bm)
  (hg:Gl (cxW P w K mg base N qual scope f cd A outer s H E) x)
  (he:starEach (e₀::ZbG) (cxW P w K mg base N qual scope f cd A outer s H E).env=(false,eval e₀ (cxW P w K mg base N qual scope f cd A outer s H E).env)::starEach ZbG (cxW P w K mg base N qual scope f cd A outer s H E).env)
  (hplain:(backTo cpos (starEach ZbG (cxW P w K mg base N qual scope f cd A outer s H E).env)).any (·.1)=false) (hd:(x==("__debug__":Str))=false) (ha:Am (cxW P w K mg base N qual scope f cd A outer s H E) (e₀::ZbG) gs) :
  Sm (cxW P w K mg base N qual scope f cd A outer s H E) Pb (.Raise (some (.Call (.Name x np) (e₀::ZbG) [] cpos)) none pos) (Zqy C (dnX K H E) gs):=by
 refine ⟨fun B0 hB0 pins sc σ Hc D I h=>?_,fun ω G D D' _ _ _ _ q=>q⟩
 obtain ⟨ω,G,ts,r,mb,q'⟩:=h
 exact Zsi hg hm q FB ha.p he hplain hd pins sc σ Hc D I ⟨ω,G,ts,r,ha.m _ _ _ _ (fun ws G1 z vs H1 m1 t r1=>⟨by rw [t.length];exact z.1,z.2 H1 ((Un.mono' I.base).trans m1) r1⟩) q'⟩
end
theorem RelH.newX {G:Hw} {p C:Addr} (r:RelH K H G) (hp:H p=none):RelH K (upd H p (.ext (Zih p C))) (put G p (.exc C)):=fun a u e=>by
 by_cases h:a=p
 ·subst h
  rw [Zaf] at e;cases e
  exact ZbA
 ·rw [Zau h] at e
  exact r.mono0 hp a u e
structure ZyJ (D D':Ew):Prop where
 nx:∀ a b,D.nx a b→D'.nx a b
 rt:∀ a b,D.rt a b→D'.rt a b
 bk:∀ a b,D.bk a b→D'.bk a b
 ct:∀ a b,D.ct a b→D'.ct a b
theorem GS.M.le {g:GS} (m:g.M) {D D':Ew} (h:ZyJ D D') {ω:Sw} {G:Hw} (q:g D ω G):g D' ω G:=m ω G D D' h.nx h.rt h.bk h.ct q
def ZuQ (i:Nat) (D:Ew):Ew:={ nx:=fun ω G=>D.nx (ω.set i none) G,rt:=D.rt,bk:=fun ω G=>D.bk (ω.set i none) G,ct:=fun ω G=>D.ct (ω.set i none) G }
def ZwG (K:PySem.W.Frag) (C0:Addr) (i:Nat) (gb:Xw→GS) (gh:GS):GS:=fun D ω G =>
 gb (fun ω' C G'=>PySem.W.subIn K (.ref C) (.ref C0)=some true∧∀ e,G' e=none→gh (ZuQ i D) (ω'.set i (some (.ref e))) (put G' e (.exc C))) D ω G
def ZyZ (K:PySem.W.Frag) (C0:Addr) (i:Nat) (gb:Xw→GS) (gh:GS):GS:=fun D ω G=>∃ D0,ZyJ D0 D∧ZwG K C0 i gb gh D0 ω G
theorem Zww {X:Cx} {body hbody:List Stmt} {b0:Stmt} {x n:Str} {np hpos pos:Pos} {i:Nat} {C0:Addr} {gb:Xw→GS} {gh:GS} (hmx:X.mg x=some (.ref C0)) (hD:PySem.W.typeIn X.K (.ref C0)=some (.type "type")) (hT:(PySem.W.clsIn X.K C0).isSome=true) (hB:PySem.W.subIn X.K (.ref C0) (.type "BaseException")=some true)
  (hN:X.N.Nodup) (hi:place X.N n=some i) (hn:Zj9 X.env.scope n=true) (frm:X.stack=X.env::X.outer) (frl:X.env.frame=some X.env.locals) (hex:X.ex=[]) (hgx:Gl X x) (hdb:(x==("__debug__":Str))=false)
  (hb:∀ (ex:Xw) (pn:List (Addr×Obj)) (xe:Value→Shared→Prop),ZlP (cxT X pn xe) ex→Ssm (cxT X pn xe) (atB X) body (gb ex)) (hh:∀ e,Ssm (cxH X e) (atB X) (b0::hbody) gh) :
  Sm X (atB X) (.Try body [.ExceptHandler (some (.Name x np)) (some n) (b0::hbody) hpos] [] [] pos) (ZyZ X.K C0 i gb gh):=by
 refine ⟨fun B hBB=>?_,(by rintro ω G D D' h1 h2 h3 h4 ⟨D0,le,q⟩;exact ⟨D0,⟨fun a b z=>h1 a b (le.nx a b z),fun a b z=>h2 a b (le.rt a b z),fun a b z=>h3 a b (le.bk a b z),fun a b z=>h4 a b (le.ct a b z)⟩,q⟩)⟩
 have hBB':B=X.H₀:=hBB
 let tb:(St→XK)→TS:=fun Eσ Dn σ H=>∃ (ex:Xw) (D0:Ew) (ω:Sw) (G:Hw),TrSt X.K H σ ω∧RelH X.K H G∧Mono X.K B H ∧
  (∀ σ' C H' ω' G',Mono X.K B H'→TrSt X.K H' σ' ω'→RelH X.K H' G'→ex ω' C G'→Eσ σ' (.ref C) none H')∧ZyJ D0 (dnD X.K B Dn)∧gb ex D0 ω G
 have hbody':∀ (Eσ:St→XK) (pn:List (Addr×Obj)) (xe:Value→Shared→Prop),ZiZ (CXe X.prog X.w) (cxT X pn xe) Eσ→PSs (cxT X pn xe) body (tb Eσ):=by
  intro Eσ pn xe hp pins s σ H Dn I ⟨ex,D0,ω,G,ts,r,mb,hex',hD0,q⟩
  have pw:ZlP (cxT X pn xe) ex:=by
   intro pins' σ' H1 s1 ev s' I1 ⟨e,C,H',ee,F,C',ω',G',eC,ts',r',q'⟩
   cases eC
   exact hp pins' σ' H1 s1 ev s' I1 ⟨e,C,H',ee,F,hex' σ' C H' ω' G' (by rw [hBB'];exact (Un.mono' I1.base).trans (Un.mono' F.un)) ts' r' q'⟩
  have S:=hb ex pn xe pw
  exact S.p B hBB pins s σ H Dn I ⟨ω,G,ts,r,mb,S.m.le hD0 q⟩
 refine Zf1 (Zv3 (tb:=tb) (th:=upS X.K B gh) hN (ZnO hi) (Zfm hn) frm frl hex hgx hmx hD hT hB hbody' (fun e=>(hh e).p B hBB) hdb) fun D σ H zz1=>?_
 obtain ⟨ω,G,ts,r,mb,D0,le,q⟩:=zz1
 refine ⟨_,D0,ω,G,ts,r,mb,fun σ' C H' ω' G' m' ts' r' z=>?_,le,q⟩
 refine ⟨C,rfl,z.1,fun e he=>⟨ω'.set i (some (.ref e)),put G' e (.exc C),(ts'.mono (Mono.new he _)).set i (.ref e),r'.newX he,m'.trans (Mono.new he _),?_⟩⟩
 have lee:ZyJ (ZuQ i D0) (dnD X.K B { nx:=fun σ2 H2=>D.nx (σ2.set i none) H2,rt:=D.rt,bk:=fun σ2 H2=>D.bk (σ2.set i none) H2,ct:=fun σ2 H2=>D.ct (σ2.set i none) H2 }):=by
  refine ⟨fun a b y σ2 H2 m2 ts2 r2=>?_,fun a b y=>le.rt a b y,fun a b y σ2 H2 m2 ts2 r2=>?_,fun a b y σ2 H2 m2 ts2 r2=>?_⟩
  ·exact le.nx _ _ y (σ2.set i none) H2 m2 (ts2.unset i) r2
  ·exact le.bk _ _ y (σ2.set i none) H2 m2 (ts2.unset i) r2
  ·exact le.ct _ _ y (σ2.set i none) H2 m2 (ts2.unset i) r2
 exact (hh e).m.le lee (z.2 e (r'.no he))
structure DfN (P:Program) (w:World) (K:PySem.W.Frag) (mg:Str→Option Value) (base:Heap) (x:Str) (k n:Nat) (sp:Spw):Prop where
 ex:∃ (f:Addr) (fd:FuncData) (ps:List Str),mg x=some (.ref f)∧PySem.W.keepIn K (.ref f)=true∧Binds K fd ps []∧ps.length=n∧Zua P w K mg base CX0 k f fd ps (ZtS K sp)
 mono:sp.M
section
variable {X:Cx} {e:Expr} {es:List Expr} {pos p:Pos} {gs:GA}
theorem ZrD {x:Str} {k n:Nat} {sp:Spw} (D:DfN X.prog X.w X.K X.mg X.base x k n sp) (hr:ZsC k X.A) (hg:Gl X x) (hdb:(x==("__debug__":Str))=false) (he:starEach (e::es) X.env=(false,eval e X.env)::starEach es X.env) (hpl:(backTo pos (starEach es X.env)).any (·.1)=false)
  (ha:Am X (e::es) gs):Em X (.Call (.Name x p) (e::es) [] pos) (Zah sp (fun _ _ _=>False) gs):=by
 obtain ⟨f,fd,ps,hm,hk,hb,_,F⟩:=D.ex
 refine ⟨Zbh (ZrC F hr hg hm hk hb ha.p hdb he hpl) fun σ H Q zz2=>?_,Zp4 D.mono ha.m⟩
 obtain ⟨ω,G,ts,r,q⟩:=zz2
 refine ⟨ω,G,ts,r,ha.m _ _ _ _ (fun ws G1 q1 vs H1 m1 tvs r1=>?_) q⟩
 exact ⟨ws,G1,by rw [List.append_nil];exact tvs,r1,D.mono _ _ _ _ _ _ (fun w G' z=>Zcq m1 z) (fun C G' z=>z.elim) q1⟩
end
def tyN (w:W) (G:Hw):Option String:=match w with
 | .non=>some "NoneType"
 | .bl _=>some "bool"
 | .int _=>some "int"
 | .str _=>some "str"
 | .tup _=>some "tuple"
 | .rol _=>some "list"
 | .ref a=>(match G a with | some (.lst _)=>some "list" | _=>none)
def ZpI (n T:String):Bool:=n==T||(n=="bool"&&T=="int")
theorem Zgo {n T:String} (hn:n∈["NoneType","bool","int","str","tuple","list"]) (hT:T∈["tuple","list","str","int","bool","dict"]):PySem.W.kitOne K (.type n) (.type T)=some (ZpI n T):=by
 simp only [List.mem_cons,List.not_mem_nil,or_false] at hn hT
 rcases hn with rfl | rfl | rfl | rfl | rfl | rfl <;> rcases hT with rfl | rfl | rfl | rfl | rfl | rfl <;> kernel_rfl
def ZbE (T:String) (ge:GE):GE:=fun ω G Q=>ge ω G fun w G1=>match tyN w G1 with | some n=>Q (.bl (ZpI n T)) G1 | none=>False
theorem Zut {T:String} {ge:GE} (m:ge.M):GE.M (ZbE T ge):=fun ω G Q Q' h q=>m _ _ _ _ (fun w G1 z=>by
 cases e:tyN w G1 with
 | none=>rw [e] at z;exact z
 | some n=>rw [e] at z;exact h _ _ z) q
theorem Zv6 {X:Cx} {pins:List (Addr×Obj)} {σ:St} {s:Shared} {v:V} {u:Value} {w:W} {G:Hw} {n T:String} {Q:Value→Shared→Prop} {E:Value→Shared→Prop} (I:Inv X pins σ H s) (rv:RelV v u) (t:Tr X.K H v w) (r:RelH X.K H G) (e:tyN w G=some n)
  (hT:T∈["tuple","list","str","int","bool","dict"]) (h:∀ tk,Q (.bool (ZpI n T)) { s with toks:=tk }):wpAny (model X.prog X.w) X.A (call (.builtin "isinstance") [u,.type T]) Q E s:=by
 cases t with
 | non=>cases e;cases (show u=Value.none from rv);exact PySem.W.kia_one PySem.W.kitx_none I.kIn True.intro (Zgo (by simp) hT) (fun z=>nomatch z) h
 | bl y=>cases e;cases (show u=Value.bool y from rv);exact PySem.W.kia_one PySem.W.kitx_bool I.kIn True.intro (Zgo (by simp) hT) (fun z=>nomatch z) h
 | int i=>cases e;obtain ⟨t,rfl⟩:=rv;exact PySem.W.kia_one PySem.W.kitx_int I.kIn True.intro (Zgo (by simp) hT) (fun z=>nomatch z) h
 | str y=>cases e;obtain ⟨t,rfl⟩:=rv;exact PySem.W.kia_one PySem.W.kitx_str I.kIn True.intro (Zgo (by simp) hT) (fun z=>nomatch z) h
 | tup hq l =>
  cases e
  cases rv
  obtain ⟨its,_,p,_⟩:=I.tuple hq
  obtain ⟨o,h1,h2,_⟩:=p
  exact PySem.W.kia_one PySem.W.kitx_tuple I.kIn ⟨o,h1,h2⟩ (Zgo (by simp) hT) (fun z=>nomatch z) h
 | rol hq l =>
  cases e
  cases rv
  obtain ⟨its,_,p,_⟩:=I.list hq.sq
  obtain ⟨o,h1,h2,_⟩:=p.isList
  exact PySem.W.kia_one PySem.W.kitx_list I.kIn ⟨o,h1,h2⟩ (Zgo (by simp) hT) (fun z=>nomatch z) h
 | ref a =>
  unfold tyN at e
  dsimp only at e
  cases ea:G a with
  | none=>rw [ea] at e;cases e
  | some o =>
   rw [ea] at e
   cases o with
   | exc C=>cases e
   | ins C fs=>cases e
   | dct kvs=>cases e
   | lst xs =>
    cases e
    cases rv
    obtain ⟨vs,e1,_⟩:=r a _ ea
    obtain ⟨its,_,p,_⟩:=I.list (SqL.of e1)
    obtain ⟨o,h1,h2,_⟩:=p.isList
    exact PySem.W.kia_one PySem.W.kitx_list I.kIn ⟨o,h1,h2⟩ (Zgo (by simp) hT) (fun z=>nomatch z) h
theorem ZnD:bootBuiltins "isinstance"=some (.builtin "isinstance"):=by decide +kernel
section
variable {X:Cx} {e:Expr} {p pc pos:Pos} {ge:GE}
theorem Zar {c:Str} {T:String} (hT:T∈["tuple","list","str","int","bool","dict"]) (hv:bootBuiltins c=some (.type T)) (hmc:X.mg c=none) (hmi:X.mg "isinstance"=none) (hgi:Gl X "isinstance") (hgc:Gl X c) (hn:c≠"__name__") (hd:(c==("__debug__":Str))=false)
  (he:starEach [e,.Name c pc] X.env=[(false,eval e X.env),(false,eval (.Name c pc) X.env)]) (he2:starEach [.Name c pc] X.env=[(false,eval (.Name c pc) X.env)]) (h:Em X e ge):Em X (.Call (.Name "isinstance" p) [e,.Name c pc] [] pos) (ZbE T ge):=by
 refine ⟨fun pins s σ H Q I zz3=>?_,Zut h.m⟩
 obtain ⟨ω,G,ts,r,q⟩:=zz3
 have pa:PA X [e,.Name c pc] (Zoz (up X.K ge) (Zoz (tC (.ty T)) ZyT)):=ZhC h.p (ZhC (ZpR hgc hmc hv rfl hn hd) Zn1 (by rw [he2];rfl)) (by rw [he,he2])
 refine wpAny_Call_Name_kw (ZeM I hgi hmi ZnD ?_ (by decide) (by decide))
 refine PyProof.Rows.callWith_builtin1 (thn (pa pos pins s σ H (fun vs H1=>∃ v w G1 n,vs=[v,.ty T]∧Tr X.K H1 v w∧RelH X.K H1 G1∧tyN w G1=some n∧Q (.bl (ZpI n T)) H1) I ?_) fun us s1 ⟨vs,H1,I1,r1,v,w,G1,n,e1,tv,rr,ey,qq⟩=>?_) (by rw [he,he2]) (by rw [he2];rfl)
 ·refine ⟨ω,G,ts,r,h.m _ _ _ _ (fun w G1 z v H1 m t r1=>?_) q⟩
  cases ey:tyN w G1 with
  | none=>rw [ey] at z;exact z.elim
  | some n=>rw [ey] at z;exact ⟨v,w,G1,n,rfl,t,r1,ey,z _ H1 m (.bl _) r1⟩
 ·subst e1
  obtain ⟨u,u2,rfl,rv,rt⟩:=ZsJ r1
  cases rt
  exact Zv6 I1 rv tv rr ey hT fun tk=>⟨.bl _,H1,I1.tok tk,rfl,qq⟩
end
structure ZvA (K:PySem.W.Frag) (C:Addr):Prop where
 ga:PySem.W.findIn K (.ref C) "__getattribute__"=some (some (.builtin "BaseException.__getattribute__"))
 gh:PySem.W.findIn K (.ref C) "__getattr__"=some none
 cl:(PySem.W.clsIn K C).isSome=true
 fc:PySem.W.findIn K (.ref C) "__class__"=some (some (.builtin "object.__class__"))
 sp:PySem.W.specialIn K (.builtin "object.__class__") "__get__"=some (some (.builtin "getset_descriptor.__get__"))
 tk:PySem.W.takesIn K (.builtin "object.__class__")=some true
 mr:PySem.W.mroIn K C (.type "object")=some true
 mb:PySem.W.mroIn K C (.type "BaseException")=some true
end L3
namespace L3
open PySem PySem.W PySem.Spec PySem.Calls PyProof.Rows PySem.Builtin PySem.Builtin.ObjectAttr PySem.Builtin.Getset_descriptor
section
variable {prog:Program} {w:World} {A:Around} {E:Value→Shared→Prop} {s:Shared} {K:Frag} {x C:Addr} {name:Str}
theorem ZiP {M:Model} {h:Heap} (I:L2.Zih x C h):Looks M h (typeOf (.ref x)) (.ref C):=by
 obtain ⟨ox,e,c⟩:=I
 rw [← c];exact (Looks.ld e).andThen .now
theorem Zuk {M:Model} {h:Heap} {a g:Value} (X:K.In h) (ha:findIn K (.ref C) name=some (some a)) (hg:specialIn K a "__get__"=some (some g)) (ht:takesIn K a=some true):Looks M h (find (.ref x) (.ref C) name) (.bind g a):=by
 have L1:=looks_findIn (M:=M) X ha
 have L2:Looks M h (getOf (some a)) (some g):=looks_specialIn X hg
 have L3:Looks M h (dataDescriptor? (some a) (some g)) (some (g,a)):=(looks_takesIn (M:=M) X ht).andThen .now
 exact L1.andThen (L2.andThen (L3.andThen (Looks.tag .now)))
theorem Zu5 {R:Result→Shared→Prop} {tp:Value} (X:K.In s.heap) (I:L2.Zih x C s.heap) (hm:mroIn K C (.type "object")=some true)
  (h:R (.ok (.ret (.ref C))) s):codeAny (model prog w) A (.call (.builtin "getset_descriptor.__get__") ⟨[.builtin "object.__class__",.ref x,tp],[]⟩) R s:=by
 obtain ⟨hp,gn,dr,tt,os⟩:=s
 have LT:=ZiP (M:=model prog w) I
 have LM:=looks_mroIn (M:=model prog w) X hm
 refine codeAny_call_builtin KF.slot_gs.plain KF.entry_gs (KF.slot_gs.check _ _ _ _ _ _ _ _ KF.type_class (KF.args_gs _ _ _) (?_:wpAny _ _ _ _ _ _))
 (unfold Builtin.«getset_descriptor.__get__» descrGet);(rw [dga_obj]);(refine wpAny_bind (wpAny_pure ?_))
 (unfold descrGetter descrCheckInstance descrNameAndClass isInstance);(simp only [KF.owner_class]);(repeat lk)
 refine ⟨Code.quiet_builtin _ (by decide +kernel),(codeAny_builtin KF.entry_class ?_:codeAny _ _ _ _ _)⟩
 (unfold Builtin.«object.__class__» shownTypeOf);(repeat lk)
 exact h
theorem Zr3 {M:Model} {nameV:Value} {Q:Unit→Shared→Prop} (X:K.In s.heap) (I:L2.Zih x C s.heap) (hm:mroIn K C (.type "BaseException")=some true) (hq:Q () s) :
  wpAny M A (checkBuiltinCall "BaseException.__getattribute__" ⟨[.ref x,nameV],[]⟩) Q E s:=by
 obtain ⟨hp,gn,dr,tt,os⟩:=s
 have LT:=ZiP (M:=M) I
 have LM:=looks_mroIn (M:=M) X hm
 have kd:builtinKind "BaseException.__getattribute__"=some .slot:=by decide +kernel
 have sp:splitId "BaseException.__getattribute__"=some ("BaseException","__getattribute__"):=by decide +kernel
 have ao:=F.args_bexc_ga (.ref x) nameV
 simp only [checkBuiltinCall,kd,sp]
 refine wpAny_bind ?_
 unfold isInstance
 repeat lk
 repeat (any_goals (first | assumption | wp_step))
theorem ZvI {R:Result→Shared→Prop} {tk:Tok} (XC:ZvA K C) (X:K.In s.heap) (I:L2.Zih x C s.heap) (h:R (.ok (.ret (.ref C))) s) :
  codeAny (model prog w) A (.call (.builtin "BaseException.__getattribute__") ⟨[.ref x,.str "__class__" tk],[]⟩) R s:=by
 refine codeAny_call_builtin F.attr_Exception.ga.plain F.entry_bexc_ga (Zr3 X I XC.mb ?_)
 obtain ⟨hp,gn,dr,tt,os⟩:=s
 have LT:=ZiP (M:=model prog w) I
 have LF:=Zuk (M:=model prog w) (x:=x) X XC.fc XC.sp XC.tk
 (unfold Builtin.«object.__getattribute__»)
 repeat (first | with_reducible refine wpAny_call (Zu5 X I XC.mr ?_) | lk | wp_step)
 all_goals exact h
theorem ZuW {Q:Option Value→Shared→Prop} (XC:ZvA K C) (X:K.In s.heap) (I:L2.Zih x C s.heap) (h:Q (some (.ref C)) { s with toks:=s.toks+1 }):wpAny (model prog w) A (getAttr? (.ref x) "__class__") Q E s:=by
 obtain ⟨hp,gn,dr,tt,os⟩:=s
 have LT:=ZiP (M:=model prog w) I
 have LG:=looks_findIn (M:=model prog w) X XC.ga
 have LH:=looks_findIn (M:=model prog w) X XC.gh
 unfold getAttr? getAttrBy? getAttrBy
 refine wpAny_bind (wpAny_mkText (wpAny_bind (wpAny_attempt (wpAny_holding (wpAny_bind (LT.at (wpAny_bind (LG.at (?_:wpAny _ _ _ _ _ _)))))))))
 show wpAny _ _ (getAttrByItsOwn _ _ _ _ _ _) _ _ _
 unfold getAttrByItsOwn callGetattribute boundAndCalled
 refine wpAny_bind ((LH:Looks _ _ (hookBefore (.ref C)) none).at (wpAny_bind (wpAny_attempt (wpAny_holding ?_))))
 show wpAny _ _ (bindSpecial (.builtin "BaseException.__getattribute__") (.ref x) >>= _) _ _ _
 refine wpAny_bind (wpAny_of_eq (F.attr_Exception.ga.bind _) ?_)
 refine wpAny_call (ZvI (s:=⟨hp,gn,dr,tt+1,os⟩) XC X I ?_)
 first
  | exact wpAny_pure (handed_on rfl (wpAny_pure h))
  | exact wpAny_pure (wpAny_pure h)
  | exact wpAny_pure h
theorem Zxu (XC:ZvA K C):KitX K (.ref x) (.ref C) (L2.Zih x C) where
 ty:=fun _ _ _ I=>ZiP I
 it:=fun _ _ X _=>by
  have hc:=XC.cl
  unfold clsIn at hc
  split at hc
  ·rename_i _ _ _ _ ho
   intro A' Q' E' s' k q
   unfold isType loadHead
   exact wpAny_bind (wpAny_loadPart (k _ _ (X _ _ ho)) (wpAny_pure q))
  ·cases hc
 ne:=fun h tp dd its n sl X htp=>by
  have hc:=XC.cl
  refine Bool.eq_false_iff.mpr fun q=>?_
  have e:C=tp:=Value.ref.inj (beq_iff_eq.mp q)
  subst e
  unfold clsIn at hc
  split at hc
  ·rename_i _ _ _ _ ho
   have z:=(X _ _ ho).symm.trans htp
   cases z
  ·cases hc
 ca:=fun X I k=>ZuW XC X I k
end
end L3
namespace L3
open PySem PySem.Spec PyProof.Rows L2
variable {K:PySem.W.Frag} {H H' H2:Hp}
def ZhA (K:PySem.W.Frag) (cv:Value) (ge:GE):GE:=fun ω G Q=>ge ω G fun w G1=>match w with
 | .ref a=>(match G1 a with | some (.exc C)=>∃ b,ZvA K C∧PySem.W.kitOne K (.ref C) cv=some b∧Q (.bl b) G1 | _=>False)
 | _=>False
theorem Zul {cv:Value} {ge:GE} (m:ge.M):GE.M (ZhA K cv ge):=fun ω G Q Q' h q=>m _ _ _ _ (fun w G1 z=>by
 cases w with
 | ref a =>
  dsimp only at z ⊢
  cases e:G1 a with
  | none=>rw [e] at z;exact z
  | some o =>
   rw [e] at z
   cases o with
   | lst xs=>exact z
   | ins C fs=>exact z
   | dct kvs=>exact z
   | exc C=>obtain ⟨b,h1,h2,h3⟩:=z;exact ⟨b,h1,h2,h _ _ h3⟩
 | _=>exact z) q
section
variable {X:Cx} {e:Expr} {p pc pos:Pos} {ge:GE}
theorem Zo6 {c:Str} {cv:V} {cu:Value} (rc:RelV cv cu) (hc:PE X (.Name c pc) (tC cv)) (hmi:X.mg "isinstance"=none) (hgi:Gl X "isinstance")
  (he:starEach [e,.Name c pc] X.env=[(false,eval e X.env),(false,eval (.Name c pc) X.env)]) (he2:starEach [.Name c pc] X.env=[(false,eval (.Name c pc) X.env)]) (hcu:∀ u,RelV cv u→u=cu) (h:Em X e ge):Em X (.Call (.Name "isinstance" p) [e,.Name c pc] [] pos) (ZhA X.K cu ge):=by
 refine ⟨fun pins s σ H Q I zz1=>?_,Zul h.m⟩
 obtain ⟨ω,G,ts,r,q⟩:=zz1
 have pa:PA X [e,.Name c pc] (Zoz (up X.K ge) (Zoz (tC cv) ZyT)):=ZhC h.p (ZhC hc Zn1 (by rw [he2];rfl)) (by rw [he,he2])
 refine wpAny_Call_Name_kw (ZeM I hgi hmi ZnD ?_ (by decide) (by decide))
 refine PyProof.Rows.callWith_builtin1 (thn (pa pos pins s σ H (fun vs H1=>∃ a C b,vs=[.ref a,cv]∧H1 a=some (.ext (Zih a C))∧ZvA X.K C∧PySem.W.kitOne X.K (.ref C) cu=some b∧Q (.bl b) H1) I ?_) fun us s1 ⟨vs,H1,I1,r1,a,C,b,e1,ha,hx,hk,qq⟩=>?_) (by rw [he,he2]) (by rw [he2];rfl)
 ·refine ⟨ω,G,ts,r,h.m _ _ _ _ (fun w G1 z v H1 m t r1=>?_) q⟩
  cases w with
  | ref a =>
   dsimp only at z
   cases eg:G1 a with
   | none=>rw [eg] at z;exact z.elim
   | some o =>
    rw [eg] at z
    cases o with
    | lst xs=>exact z.elim
    | ins C fs=>exact z.elim
    | dct kvs=>exact z.elim
    | exc C =>
     obtain ⟨b,h1,h2,h3⟩:=z
     have z2:H1 a=some (.ext (Zih a C)):=r1 a _ eg
     exact ⟨a,C,b,by rw [ZxD t],z2,h1,h2,h3 _ H1 m (.bl _) r1⟩
  | _=>exact z.elim
 ·subst e1
  obtain ⟨u,u2,rfl,rv,rt⟩:=ZsJ r1
  cases rv
  rw [hcu _ rt]
  obtain ⟨h1,_⟩:=I1.hok a _ ha
  exact PySem.W.kia_one (Zxu hx) I1.kIn h1 hk (fun z=>nomatch z) fun tk=>⟨.bl b,H1,I1.tok tk,rfl,qq⟩
theorem ZhE {c:Str} {C:Addr} (hmc:X.mg c=some (.ref C)) (hmi:X.mg "isinstance"=none) (hgi:Gl X "isinstance") (hgc:Gl X c) (hd:(c==("__debug__":Str))=false)
  (he:starEach [e,.Name c pc] X.env=[(false,eval e X.env),(false,eval (.Name c pc) X.env)]) (he2:starEach [.Name c pc] X.env=[(false,eval (.Name c pc) X.env)]) (h:Em X e ge):Em X (.Call (.Name "isinstance" p) [e,.Name c pc] [] pos) (ZhA X.K (.ref C) ge) :=
 Zo6 (cv:=.ref C) rfl (ZmJ hgc hmc rfl hd) hmi hgi he he2 (fun _ z=>z) h
theorem Zt3 {c:Str} {T:String} (hv:bootBuiltins c=some (.type T)) (hmc:X.mg c=none) (hmi:X.mg "isinstance"=none) (hgi:Gl X "isinstance") (hgc:Gl X c) (hn:c≠"__name__") (hd:(c==("__debug__":Str))=false)
  (he:starEach [e,.Name c pc] X.env=[(false,eval e X.env),(false,eval (.Name c pc) X.env)]) (he2:starEach [.Name c pc] X.env=[(false,eval (.Name c pc) X.env)]) (h:Em X e ge):Em X (.Call (.Name "isinstance" p) [e,.Name c pc] [] pos) (ZhA X.K (.type T) ge) :=
 Zo6 (cv:=.ty T) rfl (ZpR hgc hmc hv rfl hn hd) hmi hgi he he2 (fun _ z=>z) h
end
theorem ZoS {n:Nat} {gd:Hw→Prop} {H1:Hp}:Zvi K H1 (Itr 0 n) ((List.range n).map fun i:Nat=>W.int i) gd where
 go:=fun i H G m r g hi=>by show i < n;simpa using hi
 yld:=fun i H G x H' m r g y hi=>by
  obtain ⟨e,ex⟩:=y
  subst ex
  have hn:i < n:=by simpa using hi
  refine Zim r e ⟨.int i,by simp [hn],?_⟩
  rw [Int.zero_add];exact .int _
 stop:=fun H G m r g=>by show n≤_;simp
def ZbQ (gs:GA):GI:=fun ω G R=>gs ω G fun ws G1=>match ws with
 | [.int j]=>-(2 ^ 62)≤j∧j < 2 ^ 62∧R ((List.range j.toNat).map fun i:Nat=>W.int i) yes G1
 | _=>False
theorem Zsc {gs:GA} (m:gs.M):GI.M (ZbQ gs):=fun ω G R R' h q=>m _ _ _ _ (fun ws G1 z=>by
 split at z
 ·exact ⟨z.1,z.2.1,h _ _ _ z.2.2⟩
 ·exact z.elim) q
theorem Zc4 {X:Cx} {tg a:Expr} {p pos:Pos} {gs:GA} (hm:X.mg "range"=none) (hg:Gl X "range") (hs:starEach [a] X.env=[(false,eval a X.env)]) (ha:Am X [a] gs):Im X tg (.Call (.Name "range" p) [a] [] pos) (ZbQ gs):=by
 refine ⟨⟨_,ZqY hg hm ha.p hs,fun σ H ω G R R0 ts r q k=>⟨ω,G,ts,r,ha.m _ _ _ _ (fun ws G1 z vs H1 m t r1=>?_) q⟩⟩,Zsc ha.m⟩
 split at z
 ·cases t with
  | cons tw t=>cases t;cases tw;exact ⟨_,rfl,z.1,z.2.1,k _ _ _ H1 _ z.2.2 m r1 trivial ZoS⟩
 ·exact z.elim
theorem Inv.turneds {X:Cx} {pins:List (Addr×Obj)} {σ:St} {s:Shared} {h':Heap} {t':Nat} {fp:List Addr} (I:Inv X pins σ H s) (hf:∀ b∈fp,Zpy X pins H b) (k:∀ b o,b∉fp→s.heap.get? b=some o→h'.get? b=some o):Inv X pins σ H { s with heap:=h',toks:=t' }:=by
 have nit:∀ b u,H b=some u→b∉fp:=fun b u e z=>by rw [(hf b z).1] at e;cases e
 refine I.step (g':=s.gens) (d':=s.drawn) (ch:=fp) (fun b hb=>⟨(hf b hb).2.2.2.1,(hf b hb).2.1,(hf b hb).2.2.2.2.1,(hf b hb).2.2.2.2.2⟩) (fun b o _ _ hc e _=>k b o hc e) (fun b o _ _ hc e _=>⟨o.slots,k b o hc e⟩) (fun _ _ _ _ n=>n)
  (fun b o hc e=>⟨o,k b o hc e⟩) (fun _ _ e=>e) (fun _ _ _ e=>e) (fun b ps e=>⟨#[],by rw [e];simp⟩) (fun m hm=>?_) (fun b u e=>?_) I.bare
 ·obtain ⟨o,es,ep,ho,r⟩:=hm
  exact ⟨o,es,ep,k _ o (fun z=>(hf _ z).2.1 rfl) ho,r⟩
 ·refine (I.hok b u e).stay (fun c v hc q=>k c v ?_ q) (fun _ q=>q) fun _ _ q=>q
  rcases hc with z | z
  ·rw [z];exact nit b u e
  ·exact nit c _ z
def Itz (K:PySem.W.Frag) (l1 l2:Addr):It :=
 ⟨fun i H=>∃ xs ys,SqL K H l1 xs∧SqL K H l2 ys∧i < xs.length∧i < ys.length,
  fun i H v H'=>∃ T x y,H T=none∧v=.ref T∧H'=upd H T (.tup [x,y])∧∀ xs ys,SqL K H l1 xs→SqL K H l2 ys→xs[i]?=some x∧ys[i]?=some y,
  fun i H=>∃ xs ys,SqL K H l1 xs∧SqL K H l2 ys∧i=min xs.length ys.length⟩
theorem Zr2 {P:Program} {w:World} {elts:List Expr} {k:Nat} {tpos:Pos} {z TI TO i1 i2 l1 l2:Addr} (D:ZipApart z TI TO i1 i2 l1 l2) :
  Zrn P w K (.Tuple elts k tpos) (Itz K l1 l2) [z,TI,TO,i1,i2] z (fun i h=>IsZip h z TI TO .none∧IsPair h TI (.ref i1) (.ref i2)∧(∃ a b,IsPair h TO a b)∧h.IsListIter i1 l1 i∧h.IsListIter i2 l2 i) where
 mem:=by simp
 obj:=fun i h st b hb=>by
  obtain ⟨hz,hTI,⟨a,c,hTO⟩,⟨o1,e1,_,d1⟩,⟨o2,e2,_,d2⟩⟩:=st
  walk_at "pk"
  rcases hb with rfl | rfl | rfl | rfl | rfl
  ·exact ⟨_,hz,fun v z=>by cases z⟩
  ·exact ⟨_,hTI,fun v z=>by cases z⟩
  ·exact ⟨_,hTO,fun v z=>by cases z⟩
  ·exact ⟨o1,e1,fun v z=>by rw [d1] at z;cases z⟩
  ·exact ⟨o2,e2,fun v z=>by rw [d2] at z;cases z⟩
 keep:=fun i h h' st kk=>by
  obtain ⟨hz,hTI,⟨a,c,hTO⟩,h1,h2⟩:=st
  exact ⟨kk z (by simp) _ hz,kk TI (by simp) _ hTI,⟨a,c,kk TO (by simp) _ hTO⟩,h1.at fun o e=>kk i1 (by simp) o e,h2.at fun o e=>kk i2 (by simp) o e⟩
 item:=by
  walk_at "pa"
  subst hP hw hK
  obtain ⟨xs,ys,hx,hy,hix,hiy⟩:=hg
  obtain ⟨its1,r1,pl1,z1⟩:=I.list hx
  obtain ⟨its2,r2,pl2,z2⟩:=I.list hy
  have n1:=r1.length
  have n2:=r2.length
  obtain ⟨hz,hTI,hTO,h1,h2⟩:=st
  have Wk:=WalksT.zip2 (prog:=X.prog) (w:=X.w) (A:=X.A) (I.ok.hd hc) z TI TO i1 i2 l1 l2 D its1.toArray its2.toArray
  refine Wk.item i s _ _ (by simp only [List.size_toArray];omega) ⟨hz,hTI,hTO,h1,h2,pl1.isList,pl2.isList⟩ fun T vals h' tk hPt hT hTup hMid hk=>⟨.ref T,rfl,?_⟩
  refine Wk.go elts k tpos i T _ _ _ hMid fun h2' st2 hk2=>?_
  obtain ⟨v1,v2,g1,g2,rfl⟩:=hPt
  have g1':its1[i]?=some v1:=by simpa using g1
  have g2':its2[i]?=some v2:=by simpa using g2
  have gx:xs[i]?=some xs[i]:=List.getElem?_eq_getElem hix
  have gy:ys[i]?=some ys[i]:=List.getElem?_eq_getElem hiy
  obtain ⟨u1,q1,rv1⟩:=r1.get gx
  obtain ⟨u2,q2,rv2⟩:=r2.get gy
  rw [g1'] at q1;cases q1
  rw [g2'] at q2;cases q2
  have hw1:∀ b,b∉[z,TI,TO,i1,i2]→b∉[z,TO,i1,i2]:=fun b hb hc=>hb (by
   simp only [List.mem_cons,List.not_mem_nil,or_false] at hc ⊢
   rcases hc with h | h | h | h <;> simp [h])
  have I1:Inv X pins σ H { s with heap:=h2',toks:=tk }:=Inv.turneds I hf fun b o hb e=>hk2 b o (hw1 b hb) (hk b o (hw1 b hb) e)
  have hTn:H T=none:=I.hok.fresh hT
  have hTup2:IsTup h2' T #[v1,v2]:=by
   obtain ⟨o,e,c,m,d⟩:=hTup
   exact ⟨o,hk2 _ _ (Wk.apart _ _ _ hMid) e,c,m,d⟩
  have lt:∀ {b:Addr} {o:Obj},s.heap.get? b=some o→b≠T:=fun e q=>absurd (Nat.lt_of_lt_of_le (Heap.lt_size e) hT) (by rw [q];exact Nat.lt_irrefl _)
  have I2:Inv X pins σ (upd H T (.tup [xs[i],ys[i]])) { s with heap:=h2',toks:=tk }:=by
   refine I1.track hTn ?_ (fun x c e=>?_) (fun p hp=>?_) ?_ ⟨by show 2≤sizeLine;decide,[v1,v2],.cons rv1 (.cons rv2 .nil),hTup2⟩
   ·obtain ⟨m,⟨o,es,ep,ho,_⟩,_⟩:=I.loc
    exact Ne.symm (lt ho)
   ·obtain ⟨v,o,ho,_⟩:=I.cell x c e
    exact lt ho
   ·exact lt (I.pin p hp).1
   ·cases e:X.s₀.heap.get? T with
    | none=>rfl
    | some o=>exact absurd (Nat.lt_of_lt_of_le (Heap.lt_size e) (Nat.le_trans I.sz hT)) (Nat.lt_irrefl _)
  refine ⟨.ref T,_,I2,rfl,⟨T,_,_,hTn,rfl,rfl,fun xs' ys' hx' hy'=>?_⟩,⟨st2.1,st2.2.1,st2.2.2.1,st2.2.2.2.1,st2.2.2.2.2.1⟩,fun b hb=>?_⟩
  ·rw [I.list_inj hx' hx,I.list_inj hy' hy];exact ⟨gx,gy⟩
  ·have hb':=(hf b hb).1
   have:b≠T:=by
    obtain ⟨o,e,_⟩:∃ o,s.heap.get? b=some o∧True:=by
     obtain ⟨a,c,hTO'⟩:=hTO
     obtain ⟨o1,e1,_⟩:=h1
     obtain ⟨o2,e2,_⟩:=h2
     walk_at "pk"
     rcases hb with rfl | rfl | rfl | rfl | rfl
     ·exact ⟨_,hz,trivial⟩
     ·exact ⟨_,hTI,trivial⟩
     ·exact ⟨_,hTO',trivial⟩
     ·exact ⟨_,e1,trivial⟩
     ·exact ⟨_,e2,trivial⟩
    exact lt e
   rw [Za2 this];exact hb'
 done:=by
  walk_at "pa"
  subst hP hw hK
  obtain ⟨xs,ys,hx,hy,hi⟩:=hg
  obtain ⟨its1,r1,pl1,z1⟩:=I.list hx
  obtain ⟨its2,r2,pl2,z2⟩:=I.list hy
  have n1:=r1.length
  have n2:=r2.length
  obtain ⟨hz,hTI,hTO,h1,h2⟩:=st
  have Wk:=WalksT.zip2 (prog:=X.prog) (w:=X.w) (A:=X.A) (I.ok.hd hc) z TI TO i1 i2 l1 l2 D its1.toArray its2.toArray
  have hi':i=min its1.toArray.size its2.toArray.size:=by simp only [List.size_toArray];omega
  subst hi'
  refine Wk.done s _ _ ⟨hz,hTI,hTO,h1,h2,pl1.isList,pl2.isList⟩ fun h' tk hk=>⟨rfl,Inv.turneds I hf fun b o hb e=>hk b o (fun hc=>hb ?_) e⟩
  simp only [List.mem_cons,List.not_mem_nil,or_false] at hc ⊢
  rcases hc with h | h | h | h <;> simp [h]
 self:=fun A i s Q E st h=>wpAny_pyIter_zip st.1 h
def ZAK (K:PySem.W.Frag) (ta:TA):TI:=fun σ H R=>ta σ H fun vs H1=>∃ a b xs ys,vs=[.ref a,.ref b]∧SqL K H1 a xs∧SqL K H1 b ys∧R (Itz K a b) H1
theorem Zxx {X:Cx} {a b:Expr} {ta:TA} {p pos tpos:Pos} {elts:List Expr} {k:Nat} (hg:Gl X "zip") (hm:X.mg "zip"=none) (ha:PA X [a,b] ta) (hs:starEach [a,b] X.env=[(false,eval a X.env),(false,eval b X.env)]) (hs2:starEach [b] X.env=[(false,eval b X.env)]) :
  PI X (.Tuple elts k tpos) (.Call (.Name "zip" p) [a,b] [] pos) (ZAK X.K ta):=by
 intro pins s σ H R I h
 refine Call_ (ZeM I hg hm boot_zip (PyProof.Rows.callWith_type1 (thn (ha pos pins s σ H _ I h) fun us s1 zz2=>?_) (by rw [hs,hs2]) (by rw [hs2];rfl)))
 obtain ⟨vs,H1,I1,r1,q1⟩:=zz2
 obtain ⟨l1,l2,xs,ys,e,hx,hy,q⟩:=q1
 subst e
 obtain ⟨u,u2,rfl,ru,ru2⟩:=ZsJ r1
 cases ru
 cases ru2
 obtain ⟨its1,_,pl1,_⟩:=I1.list hx
 obtain ⟨its2,_,pl2,_⟩:=I1.list hy
 have a1:l1 < s1.heap.objs.size:=by obtain ⟨_,e,_⟩:=pl1.isList;exact Heap.lt_size e
 have a2:l2 < s1.heap.objs.size:=by obtain ⟨_,e,_⟩:=pl2.isList;exact Heap.lt_size e
 refine call_zip_2 pl1.isList pl2.isList fun h' hz hTI hTO hi1 hi2 hsz hk=>wpAny_pyIter_zip hz ?_
 refine ⟨_,_,_,_,H1,rfl,I1.kept (t':=s1.toks) hk,Zr2 (zipApart_new a1 a2),⟨hz,hTI,⟨_,_,hTO⟩,hi1,hi2⟩,fun b hb=>?_,q⟩
 have hge:s1.heap.objs.size≤b:=by
  walk_at "pk"
  rcases hb with rfl | rfl | rfl | rfl | rfl
  ·exact Nat.le_add_right _ 4
  ·exact Nat.le_add_right _ 2
  ·exact Nat.le_add_right _ 3
  ·exact Nat.le_refl _
  ·exact Nat.le_add_right _ 1
 exact I1.fpOk hge (I1.hok.fresh hge)
def rdL (G:Hw) (w:W):Option (List W):=match w with
 | .rol xs=>some xs
 | .ref a=>(match G a with | some (.lst xs)=>some xs | _=>none)
 | _=>none
theorem Zg1 {G:Hw} {w:W} {xs:List W} {v:V} (r:RelH K H G) (t:Tr K H v w) (e:rdL G w=some xs):∃ a vs,v=.ref a∧SqL K H a vs∧TrL K H vs xs:=by
 cases t with
 | rol h l=>cases e;exact ⟨_,_,rfl,h.sq,l⟩
 | ref a =>
  unfold rdL at e;dsimp only at e
  cases z:G a with
  | none=>rw [z] at e;cases e
  | some o =>
   rw [z] at e
   cases o with
   | lst ys=>cases e;obtain ⟨vs,e1,t1⟩:=r a _ z;exact ⟨a,vs,rfl,SqL.of e1,t1⟩
   | exc C=>cases e
   | ins C fs=>cases e
   | dct kvs=>cases e
 | _=>cases e
def ZlC:List W→List W→List W
 | x::xs,y::ys=>.tup [x,y]::ZlC xs ys
 | _,_=>[]
theorem ZgN:∀ (xs ys:List W),(ZlC xs ys).length=min xs.length ys.length
 | [],_=>by simp [ZlC]
 | _::_,[]=>by simp [ZlC]
 | _::xs,_::ys=>by simp only [ZlC,List.length_cons,ZgN xs ys];omega
theorem ZkD:∀ (xs ys:List W) (i:Nat) {x y:W},xs[i]?=some x→ys[i]?=some y→(ZlC xs ys)[i]?=some (.tup [x,y])
 | [],_,_,_,_,h,_=>by simp at h
 | _::_,[],_,_,_,_,h=>by simp at h
 | a::xs,b::ys,0,x,y,h,h'=>by simp at h h';subst h;subst h';rfl
 | a::xs,b::ys,i+1,x,y,h,h'=>by
  have:=ZkD xs ys i (x:=x) (y:=y) (by simpa using h) (by simpa using h')
  simpa [ZlC] using this
def ZgW (gs:GA):GI:=fun ω G R=>gs ω G fun ws G1=>match ws with
 | [x,y]=>(match rdL G1 x,rdL G1 y with
  | some xs,some ys=>R (ZlC xs ys) (fun G=>rdL G x=some xs∧rdL G y=some ys) G1
  | _,_=>False)
 | _=>False
theorem Zpk {gs:GA} {R:List W→(Hw→Prop)→Hw→Prop} {ws:List W} {G1:Hw} (z:match ws with
 | [x,y]=>(match rdL G1 x,rdL G1 y with
  | some xs,some ys=>R (ZlC xs ys) (fun G=>rdL G x=some xs∧rdL G y=some ys) G1
  | _,_=>False)
 | _=>False):∃ x y xs ys,ws=[x,y]∧rdL G1 x=some xs∧rdL G1 y=some ys∧R (ZlC xs ys) (fun G=>rdL G x=some xs∧rdL G y=some ys) G1:=by
 split at z
 ·rename_i x y
  split at z
  ·rename_i xs ys e1 e2;exact ⟨x,y,xs,ys,rfl,e1,e2,z⟩
  ·exact z.elim
 ·exact z.elim
theorem ZxG {gs:GA} (m:gs.M):GI.M (ZgW gs):=fun ω G R R' h q=>m _ _ _ _ (fun ws G1 z=>by
 obtain ⟨x,y,xs,ys,rfl,e1,e2,z⟩:=Zpk (gs:=gs) z
 dsimp only
 rw [e1,e2]
 exact h _ _ _ z) q
theorem Ztm {X:Cx} {a b:Expr} {p pos tpos:Pos} {elts:List Expr} {k:Nat} {gs:GA} (hm:X.mg "zip"=none) (hg:Gl X "zip") (hs:starEach [a,b] X.env=[(false,eval a X.env),(false,eval b X.env)]) (hs2:starEach [b] X.env=[(false,eval b X.env)]) (ha:Am X [a,b] gs) :
  Im X (.Tuple elts k tpos) (.Call (.Name "zip" p) [a,b] [] pos) (ZgW gs):=by
 refine ⟨⟨_,Zxx hg hm ha.p hs hs2,fun σ H ω G R R0 ts r q kk=>⟨ω,G,ts,r,ha.m _ _ _ _ (fun ws G1 z vs H1 m t r1=>?_) q⟩⟩,ZxG ha.m⟩
 obtain ⟨x,y,xs,ys,rfl,e1,e2,z⟩:=Zpk (gs:=gs) z
 cases t with
 | cons tx t =>
  cases t with
  | cons ty t =>
   cases t
   obtain ⟨a1,us1,rfl,hq1,l1⟩:=Zg1 r1 tx e1
   obtain ⟨a2,us2,rfl,hq2,l2⟩:=Zg1 r1 ty e2
   refine ⟨a1,a2,us1,us2,rfl,hq1,hq2,kk _ _ _ H1 _ z m r1 ⟨e1,e2⟩ ⟨fun i H3 G3 m3 r3 g3 hi=>?_,fun i H3 G3 v H4 m3 r3 g3 y3 hi=>?_,fun H3 G3 m3 r3 g3=>?_⟩⟩
   ·obtain ⟨b1,vs1,e3,h3,t3⟩:=Zg1 r3 (tx.mono m3) g3.1
    obtain ⟨b2,vs2,e4,h4,t4⟩:=Zg1 r3 (ty.mono m3) g3.2
    cases e3;cases e4
    rw [ZgN] at hi
    exact ⟨vs1,vs2,h3,h4,by rw [t3.length];omega,by rw [t4.length];omega⟩
   ·obtain ⟨b1,vs1,e3,h3,t3⟩:=Zg1 r3 (tx.mono m3) g3.1
    obtain ⟨b2,vs2,e4,h4,t4⟩:=Zg1 r3 (ty.mono m3) g3.2
    cases e3;cases e4
    obtain ⟨T,v1,v2,hT,rfl,rfl,hv⟩:=y3
    obtain ⟨g1,g2⟩:=hv _ _ h3 h4
    obtain ⟨w1,q1,tw1⟩:=t3.get' g1
    obtain ⟨w2,q2,tw2⟩:=t4.get' g2
    have mn:Mono X.K H3 (upd H3 T (.tup [v1,v2])):=Mono.new hT _
    exact ⟨mn,r3.mono0 hT,_,ZkD _ _ i q1 q2,.tup (SqT.of ZbA) (.cons (tw1.mono mn) (.cons (tw2.mono mn) .nil))⟩
   ·obtain ⟨b1,vs1,e3,h3,t3⟩:=Zg1 r3 (tx.mono m3) g3.1
    obtain ⟨b2,vs2,e4,h4,t4⟩:=Zg1 r3 (ty.mono m3) g3.2
    cases e3;cases e4
    exact ⟨vs1,vs2,h3,h4,by rw [ZgN,t3.length,t4.length]⟩
theorem Zf3:bootBuiltins "len"=some (.builtin "len"):=by decide +kernel
theorem ZdS:bootBuiltins "all"=some (.builtin "all"):=by decide +kernel
theorem Zbq:bootBuiltins "list"=some (.type "list"):=by decide +kernel
theorem ZaP:bootBuiltins "tuple"=some (.type "tuple"):=by decide +kernel
theorem Zcj:bootBuiltins "int"=some (.type "int"):=by decide +kernel
theorem Zgc:bootBuiltins "str"=some (.type "str"):=by decide +kernel
theorem ZdV:bootBuiltins "bool"=some (.type "bool"):=by decide +kernel
theorem ZkK:bootBuiltins "ValueError"=some (.type "ValueError"):=by decide +kernel
section
variable {X:Cx} {P:Hp→Prop} {a b c e:Expr} {es:List Expr} {pos pos' p:Pos} {ga gb ge:GE} {gt:GT}
theorem Zrl {x:Str} {i:Nat} (hi:X.N[i]?=some x) (hv:ZvW X.env.scope x=true) (hd:(x==("__debug__":Str))=false) (hc:(x==("__classdict__":Str))=false):Em X (.Name x pos) (Zab i):=⟨ZxX hi (Znr hv) hd hc,Zw2⟩
theorem Znd {x:Str} {i:Nat} (hN:X.N.Nodup) (hi:X.N[i]?=some x) (hx:Zj9 X.env.scope x=true) (hs:swapsWith e (some (.Name x pos')) pos.line X.env=pure false) (ha:Em X e ga):Sm X P (.Assign [.Name x pos'] e pos) (ZaT i ga) :=
 ⟨Ztt hN hi (.inl (Zfm hx)) ha.m ha.p hs (.inr (Zfm hx)),ZqI ha.m⟩
theorem Zrd {n:Nat} {x:Str} (hN:X.N.Nodup) (hi:X.N[n]?=some x) (hx:Zj9 X.env.scope x=true) (ha:Em X e ga):Sm X P (.AugAssign (.Name x pos') .Add e pos) (Zha n Zcu ga) :=
 ⟨Zxt (OpR.or ZvG Zmu) Zpp ZrT hN hi (.inl (Zfm hx)) (.inr (Zfm hx)) ha.m ha.p,Zwn Zpp ha.m⟩
def Glb (K:PySem.W.Frag) (mg:Str→Option Value) (x:Str) (w:W):Prop:=∃ v u,mg x=some u∧RelV v u∧∀ H,Tr K H v w
theorem Zat {x:Str} {w:W} (h:Glb X.K X.mg x w) (hg:Gl X x) (hd:(x==("__debug__":Str))=false):Em X (.Name x pos) (gC w) :=
 let ⟨_,_,h1,h2,h3⟩:=h
 ⟨ZpP hg h1 h2 h3 hd,ZvV⟩
structure Fm (X:Cx) (ifs:List Expr) (g:GT):Prop where
 p:PFw X ifs g
 m:g.M
theorem ZbN:Fm X [] ZhL:=⟨Zxc,Zwf⟩
theorem Zf7 (h:Tm X c gt):Fm X [c] gt:=⟨Zwj h.p,h.m⟩
theorem Ze0 {elt tg iter:Expr} {ifs:List Expr} {scope:Scope} {Nc:List Str} {gi:GI} {gg:GG} (hc:X.calm=true) (B:Blk X Nc scope [] (fun _=>List.replicate Nc.length none)) (hs:∀ x,foldedSetIterable iter X.env x=pure x) (hi:Im X tg iter gi)
  (hu:TgU X Nc scope tg gg) (ht:∀ C fp s H,Fm (cxB X Nc scope [] C fp s H) ifs gt) (he:∀ C fp s H,Em (cxB X Nc scope [] C fp s H) elt ge):Em X (.ListComp elt [⟨tg,iter,ifs,0⟩] scope pos) (Zbu gi Nc.length gg gt ge) :=
 have mt:gt.M:=(ht 0 [] X.s₀ X.H₀).m
 have me:ge.M:=(he 0 [] X.s₀ X.H₀).m
 ⟨Zui hc hi.p B hu mt (fun C fp s H=>(ht C fp s H).p) me (fun C fp s H=>(he C fp s H).p) hs,Zve hi.m hu.mono mt me⟩
theorem Zg9:ZlP X (fun _ _ _=>False):=(by rintro pins σ H s ev s' I ⟨e,C,H',ee,F,C',ω,G,eC,ts,r,q⟩;exact q.elim)
theorem Zfy {k:Nat} {A:Around} (hr:Room k A):A.units+100 < cLine:=by have:=hr.un;omega
theorem ZzN {k j:Nat} {A:Around} {e:Option Value} (hr:Room k A) (h:j≤k):ZsC j (A.mark e):=⟨by have:=hr.dp;show A.depth+3*j+5 < recursionLimit;omega,by have:=hr.un;show A.units+16*j+200 < cLine;omega⟩
end
def ZdA:List (Str×Int)→Str→W
 | [],_=>.non
 | (x,i)::D,z=>if z=x then .int i else ZdA D z
def Zzs (mg:Str→Option Value) (base:Heap) (x:Str) (D:List (Str×Int)):Prop:=∃ d,mg x=some (.ref d)∧KTD.TextTab base d (D.map fun p=>(p.1,KTD.Dat.flat (.int p.2)))
theorem ZjZ:∀ {D:List (Str×Int)} {z:Str} {d:KTD.Dat},KTD.datumAt z (D.map fun p=>(p.1,KTD.Dat.flat (.int p.2)))=some d→∃ i,d=.flat (.int i)∧ZdA D z=.int i
 | [],_,_,h=>by cases h
 | (x,i)::D,z,d,h=>by
  have h':(if decide (z=x)=true then some (KTD.Dat.flat (.int i)) else KTD.datumAt z (D.map fun p=>(p.1,KTD.Dat.flat (.int p.2))))=some d:=h
  unfold ZdA
  by_cases hx:z=x
  ·rw [if_pos (decide_eq_true hx)] at h'
   cases h'
   exact ⟨i,rfl,if_pos hx⟩
  ·rw [if_neg (by simpa using hx)] at h'
   rw [if_neg hx]
   exact ZjZ h'
theorem ZjG:∀ {D:List (Str×Int)} {z:Str},KTD.datumAt z (D.map fun p=>(p.1,KTD.Dat.flat (.int p.2)))=none→ZdA D z=.non
 | [],_,_=>rfl
 | (x,i)::D,z,h=>by
  have h':(if decide (z=x)=true then some (KTD.Dat.flat (.int i)) else KTD.datumAt z (D.map fun p=>(p.1,KTD.Dat.flat (.int p.2))))=none:=h
  unfold ZdA
  by_cases hx:z=x
  ·rw [if_pos (decide_eq_true hx)] at h';cases h'
  ·rw [if_neg (by simpa using hx)] at h'
   rw [if_neg hx]
   exact ZjG h'
def ZcH (D:List (Str×Int)) (gk:GE):GE:=fun ω G Q=>gk ω G fun w G1=>match w with | .str z=>Q (ZdA D z) G1 | _=>False
theorem Zb4 {X:Cx} {x:Str} {D:List (Str×Int)} {e:Expr} {p0 apos cpos:Pos} {gk:GE} (h:Zzs X.mg X.base x D) (hg:Gl X x) (hd:(x==("__debug__":Str))=false) (hbase:attributeBase (.Name x p0) "get" X.env (eval (.Name x p0) X.env)=eval (.Name x p0) X.env)
  (hfew:((backTo cpos (starEach [e] X.env)).all (fun x=>!x.1)&&(backToKw cpos (keywordEach [] X.env)).all (fun x=>x.1.isSome)&&decide ([e].length+([]:List Keyword).length+(if ([]:List Keyword).isEmpty then 0 else 1) < 30))=true)
  (hline:(apos.endLine==cpos.line)=true) (hs:starEach [e] X.env=(false,eval e X.env)::starEach [] X.env) (hplain:(backTo cpos (starEach [] X.env)).any (·.1)=false) (hk:Em X e gk) :
  Em X (.Call (.Attribute (.Name x p0) "get" apos) [e] [] cpos) (ZcH D gk):=by
 refine ⟨fun pins s σ H Q I ⟨ω,G,ts,r,q⟩=>?_,fun ω G Q Q' hh q=>hk.m _ _ _ _ (fun w G1 z=>by cases w <;> first | exact hh _ _ z | exact z) q⟩
 obtain ⟨d,hm,T⟩:=h
 have here:KTD.Here X.base s.heap d (D.map fun p=>(p.1,KTD.Dat.flat (.int p.2))):=⟨T,I.bk⟩
 refine wpAny_Call_method_late hbase hfew hline rfl (ZhJ I hg hm ⟨"dict","dict.get",PySem.F.plainAttrs_dict,PySem.F.slot_dict_get,PySem.F.type_dict_get,here.typeIs,here.noDict,?_⟩ hd)
 have pa:PA X [e] (Zoz (up X.K gk) ZyT):=ZhC hk.p Zn1 hs
 have hA:=pa cpos pins s σ H (fun vs H1=>∃ z,vs=[.str z]∧∀ v,Tr X.K H1 v (ZdA D z)→Q v H1) I ⟨ω,G,ts,r,hk.m _ _ _ _ (fun w G1 z v H1 m t r1=>by
  cases w with
  | str y=>exact ⟨y,by rw [Ztr t],fun v tv=>z v H1 m tv r1⟩
  | _=>exact z.elim) q⟩
 rw [hs] at hA ⊢
 refine Calls.callWith_builtin (by show (false||(backTo cpos (starEach [] X.env)).any (·.1))=false;rw [hplain] <;> rfl) (Calls.evalArgs_plain ?_)
 refine thn hA fun us s2 zz1=>?_
 obtain ⟨vs,H2,I2,r2,z,e1,q2⟩:=zz1
 subst e1
 obtain ⟨u,rfl,ru⟩:=ZmQ r2
 obtain ⟨t,rfl⟩:=ru
 have here2:KTD.Here X.base s2.heap d (D.map fun p=>(p.1,KTD.Dat.flat (.int p.2))):=⟨T,I2.bk⟩
 refine call_meetsIn PySem.F.slot_dict_get here2.typeIs PySem.F.entry_dict_get (PySem.F.args_dict_get_2 _ _) (KTD.meets_get1 (h₀:=X.base) (D:=D.map fun p=>(p.1,KTD.Dat.flat (.int p.2)))) ⟨here2,fun dd v ha hv=>?_,fun hn=>?_⟩
 ·obtain ⟨i,rfl,e2⟩:=ZjZ ha
  obtain ⟨t2,rfl⟩:=PyProof.V.Flat.int_inv hv
  exact ⟨.int i,H2,I2.tok _,⟨_,rfl⟩,q2 _ (by rw [e2];exact .int i)⟩
 ·exact ⟨.non,H2,I2.tok _,rfl,q2 _ (by rw [ZjG hn];exact .non)⟩
def Fn (K:PySem.W.Frag) (mg:Str→Option Value) (st:Stmt) (x:Str) (ps:List Str):Prop:=∃ f fd,mg x=some (.ref f)∧Fun K x x st f fd∧Binds K fd ps []
section
variable {P:Program} {w:World} {mg:Str→Option Value} {base:Heap}
theorem Df.le {x:Str} {j k n:Nat} {sp:Spw} (D:Df P w K mg base x j n sp) (h:j≤k):Df P w K mg base x k n sp :=
 ⟨let ⟨f,fd,ps,h1,h2,h3,h4,F⟩:=D.ex;⟨f,fd,ps,h1,h2,h3,h4,F.mono h⟩,D.mono⟩
theorem mk0 {x:Str} {st:Stmt} {N ps:List Str} {k n:Nat} {sp:Spw} {g:GS} (Fx:Fn K mg st x ps) (hn:ps.length=n) (S:Zap N ps (Zae st)) (spm:sp.M) (len:∀ ws G Q E,sp ws G Q E→ws.length=n)
  (hg:∀ {f:Addr} {cdv:Value} {A:Around} {outer:List Env} {s:Shared} {H:Hp} {E:XK},Room k (A.deeper (envOfC x (Zae st) s.heap.objs.size f cdv))→Ssm (cxW P w K mg base N x (Zae st) f cdv A outer s H E).nox (fun B=>B=H) (Zbe st) g)
  (ok:∀ ws G (Q:Kw) (E:Addr→Hw→Prop),Kw.C Q→sp ws G Q E→g (Zaw Q) (ZaQ N ws) G):Df P w K mg base x (k+1) n sp:=by
 obtain ⟨f,fd,h1,F,h3⟩:=Fx
 refine ⟨⟨f,fd,ps,h1,F.kp,h3,hn,?_⟩,spm⟩
 walk_at "pi"
 refine Zs1 lk hcd S ((by rintro vs H Q E ⟨ws,G,t,r,q⟩;rw [t.length,hn];exact len ws G _ _ q)) fun A outer s H vs Q E hr hsp=>?_
 obtain ⟨ws,G,t,r,q⟩:=hsp
 have D:=hg (cdv:=cdv) (outer:=outer) (H:=H) (E:=E) hr
 refine ⟨_,(D.p H rfl).nox,ZaQ N ws,G,Zfn t,r,.refl,?_⟩
 walk_at "pe"
theorem mkX {x:Str} {st:Stmt} {N ps:List Str} {k n:Nat} {sp:Spw} {g:(Addr→Hw→Prop)→GS} (Fx:Fn K mg st x ps) (hn:ps.length=n) (S:Zap N ps (Zae st)) (spm:sp.M) (len:∀ ws G Q E,sp ws G Q E→ws.length=n)
  (hg:∀ {f:Addr} {cdv:Value} {A:Around} {outer:List Env} {s:Shared} {H:Hp} {E:XK},Room k (A.deeper (envOfC x (Zae st) s.heap.objs.size f cdv))→Ssm (cxW P w K mg base N x (Zae st) f cdv A outer s H E) (fun B=>B=H) (Zbe st) (g (dnX K H E)))
  (ok:∀ ws G (Q:Kw) (E:Addr→Hw→Prop),Kw.C Q→Xc E→sp ws G Q E→g E (Zaw Q) (ZaQ N ws) G):Df P w K mg base x (k+1) n sp:=by
 obtain ⟨f,fd,h1,F,h3⟩:=Fx
 refine ⟨⟨f,fd,ps,h1,F.kp,h3,hn,?_⟩,spm⟩
 walk_at "pi"
 refine Zs1 lk hcd S ((by rintro vs H Q E ⟨ws,G,t,r,q⟩;rw [t.length,hn];exact len ws G _ _ q)) fun A outer s H vs Q E hr hsp=>?_
 obtain ⟨ws,G,t,r,q⟩:=hsp
 have D:=hg (cdv:=cdv) (outer:=outer) (H:=H) (E:=E) hr
 refine ⟨_,D.p H rfl,ZaQ N ws,G,Zfn t,r,.refl,?_⟩
 exact D.m _ _ (Zaw (dn K H Q)) _ (fun a b z σ H2 m ts r2=>z _ H2 m Tr.non r2) (fun a b z=>z) (fun a b z=>z.elim) (fun a b z=>z.elim) (ok ws G _ _ ZyN ZzU q)
theorem mkN {x:Str} {st:Stmt} {N ps:List Str} {k n:Nat} {sp:Spw} {g:GS} (Fx:Fn K mg st x ps) (hn:ps.length=n) (S:Zap N ps (Zae st)) (spm:sp.M) (len:∀ ws G Q E,sp ws G Q E→ws.length=n)
  (hg:∀ {f:Addr} {cdv:Value} {A:Around} {outer:List Env} {s:Shared} {H:Hp},Ssm (cxN P w K mg base N x (Zae st) f cdv A outer s H) (fun B=>B=H) (Zbe st) g)
  (ok:∀ ws G (Q:Kw) (E:Addr→Hw→Prop),Kw.C Q→sp ws G Q E→g (Zaw Q) (ZaQ N ws) G):DfN P w K mg base x (k+1) n sp:=by
 obtain ⟨f,fd,h1,F,h3⟩:=Fx
 refine ⟨⟨f,fd,ps,h1,F.kp,h3,hn,?_⟩,spm⟩
 walk_at "pi"
 refine ZwY lk hcd S ((by rintro vs H Q E ⟨ws,G,t,r,q⟩;rw [t.length,hn];exact len ws G _ _ q)) fun A outer s H vs Q E hsp=>?_
 obtain ⟨ws,G,t,r,q⟩:=hsp
 have D:=hg (f:=f) (cdv:=cdv) (A:=A) (outer:=outer) (s:=s) (H:=H)
 refine ⟨_,D.p H rfl,ZaQ N ws,G,Zfn t,r,.refl,?_⟩
 walk_at "pe"
end
end L3
namespace L3
open PySem PySem.Spec PyProof.Rows L2
def Zf2 {α:Type} (n:Nat) (js:List Nat) (l:List (Option α)):List (Option α):=List.replicate n none++js.map fun j=>(l[j]?).getD none
theorem ZkI {α:Type} {n:Nat} {js:List Nat} {l:List (Option α)}:(Zf2 n js l).length=n+js.length:=by simp [Zf2]
theorem ZnG {α:Type} {n i:Nat} {js:List Nat} {l:List (Option α)} {v:α} (h:(Zf2 n js l)[i]?=some (some v)):∃ m j,i=n+m∧js[m]?=some j∧l[j]?=some (some v):=by
 unfold Zf2 at h
 by_cases hi:i < n
 ·rw [List.getElem?_append_left (by simpa using hi),List.getElem?_replicate] at h
  split at h <;> cases h
 ·rw [List.getElem?_append_right (by simpa using Nat.le_of_not_lt hi),List.length_replicate,List.getElem?_map] at h
  cases hj:js[i - n]? with
  | none=>rw [hj] at h;cases h
  | some j =>
   rw [hj] at h
   refine ⟨i - n,j,by omega,hj,?_⟩
   have h':(l[j]?).getD none=some v:=Option.some.inj h
   cases e:l[j]? with
   | none=>rw [e] at h';cases h'
   | some o=>rw [e] at h';exact congrArg some h'
theorem ZrF {α:Type} {n m j:Nat} {js:List Nat} {l:List (Option α)} {v:α} (h1:js[m]?=some j) (h2:l[j]?=some (some v)):(Zf2 n js l)[n+m]?=some (some v):=by
 unfold Zf2
 rw [List.getElem?_append_right (by simp),List.length_replicate,List.getElem?_map]
 have:n+m - n=m:=by omega
 rw [this,h1]
 show some ((l[j]?).getD none)=_
 rw [h2];rfl
theorem TrSt.cap {K:PySem.W.Frag} {H:Hp} {σ:St} {ω:Sw} (t:TrSt K H σ ω) (n:Nat) (js:List Nat):TrSt K H (Zf2 n js σ) (Zf2 n js ω):=by
 refine ⟨by rw [ZkI,ZkI],fun i w e=>?_⟩
 obtain ⟨m,j,rfl,h1,h2⟩:=ZnG e
 obtain ⟨v,h3,r⟩:=t.get j w h2
 exact ⟨v,ZrF h1 h3,r⟩
def Zkz (env:Env):List (Str×NameKind)→List (Str×Addr)→List (Str×Addr)
 | [],cs=>cs
 | (n,k)::r,cs=>Zkz env r (if k=.free then (n,(env.cells.lookup n).getD 0)::cs else cs)
theorem Znx {env:Env}:∀ (l:List (Str×NameKind)) (cs:List (Str×Addr)),(∀ y∈l,y.2=.free→∃ c,env.cells.lookup y.1=some c) →
  (forIn l cs fun (x:Str×NameKind) r=>if (x.2==NameKind.free)=true then do let c ← cellOf env x.1;pure (ForInStep.yield ((x.1,c)::r)) else pure (ForInStep.yield r):Sem (List (Str×Addr)))=pure (Zkz env l cs)
 | [],cs,_=>by simp [Zkz]
 | (n,k)::r,cs,h=>by
  have ih:=fun cs=>Znx r cs fun y hy=>h y (List.mem_cons_of_mem _ hy)
  rw [List.forIn_cons]
  by_cases hk:k=.free
  ·obtain ⟨c,hc⟩:=h (n,k) List.mem_cons_self hk
   subst hk
   have e:cellOf env n=pure c:=by unfold cellOf;rw [hc]
   simp only [beq_self_eq_true,if_true,e,pure_bind,Zkz,hc,Option.getD_some]
   exact ih _
  ·have:(k==NameKind.free)=false:=by simpa using hk
   simp only [this,Bool.false_eq_true,if_false,pure_bind,Zkz,hk]
   exact ih _
theorem Zlq {env:Env} {y:Str} {c:Addr}:∀ (l:List (Str×NameKind)) (cs:List (Str×Addr)),(Zkz env l cs).lookup y=some c→cs.lookup y=some c∨((y,NameKind.free)∈l∧c=(env.cells.lookup y).getD 0)
 | [],cs,h=>.inl h
 | (n,k)::r,cs,h=>by
  rcases Zlq r _ h with q | ⟨q1,q2⟩
  ·split at q
   ·rename_i hk
    subst hk
    rw [List.lookup_cons] at q
    split at q
    ·rename_i e
     have e':y=n:=beq_iff_eq.mp e
     subst e'
     exact .inr ⟨List.mem_cons_self,(Option.some.inj q).symm⟩
    ·exact .inl q
   ·exact .inl q
  ·exact .inr ⟨List.mem_cons_of_mem _ q1,q2⟩
theorem ZjT {env:Env} {y:Str}:∀ (l:List (Str×NameKind)) (cs:List (Str×Addr)),(∃ c,cs.lookup y=some c)→∃ c,(Zkz env l cs).lookup y=some c
 | [],cs,h=>h
 | (n,k)::r,cs,h=>ZjT r _ (by
  split
  ·rw [List.lookup_cons]
   split
   ·exact ⟨_,rfl⟩
   ·exact h
  ·exact h)
theorem ZlZ {env:Env} {y:Str}:∀ (l:List (Str×NameKind)) (cs:List (Str×Addr)),(y,NameKind.free)∈l→∃ c,(Zkz env l cs).lookup y=some c
 | [],cs,h=>by cases h
 | (n,k)::r,cs,h=>by
  rcases List.mem_cons.mp h with h | h
  ·cases h
   refine ZjT r _ ⟨(env.cells.lookup y).getD 0,?_⟩
   rw [if_pos rfl,List.lookup_cons,beq_self_eq_true]
  ·exact ZlZ r _ h
theorem ZiU {scope:Scope} {env:Env} {y:Str} {k:NameKind} (nocell:∀ z∈scope.names,z.2≠.cell) (h:(relabel scope env).names.lookup y=some k) (hk:k=.cell∨k=.free):(y,NameKind.free)∈scope.names:=by
 have m:=Zgz h
 unfold relabel at m
 obtain ⟨⟨n,k0⟩,hm,e⟩:=List.mem_map.mp m
 dsimp only at e
 split at e
 ·rename_i hc
  cases e
  simp only [Bool.and_eq_true,beq_iff_eq] at hc
  rw [hc.1.1] at hm
  exact hm
 ·cases e
  rcases hk with rfl | rfl
  ·exact absurd rfl (nocell _ hm)
  ·exact hm
theorem Zdo {env:Env} (hf:env.scope.kind=.function):∀ {names:List (Str×NameKind)} {x:Str},names.lookup x=some .free→env.kindOf x=some .cell →
  (names.map fun (n,k)=>if (k==NameKind.free&&env.scope.kind==.function&&env.kindOf n==some .cell) then (n,NameKind.cell) else (n,k)).lookup x=some .cell
 | [],_,h,_=>by cases h
 | (n,k)::r,x,h,hk=>by
  rw [List.lookup_cons] at h
  rw [List.map_cons]
  split at h
  ·rename_i e
   have e':x=n:=beq_iff_eq.mp e
   subst e'
   cases h
   have c:(NameKind.free==NameKind.free&&env.scope.kind==ScopeKind.function&&env.kindOf x==some NameKind.cell)=true:=by rw [hf,hk];rfl
   dsimp only
   rw [if_pos c,List.lookup_cons,beq_self_eq_true]
  ·rename_i e
   have ih:=Zdo hf (names:=r) h hk
   rw [List.lookup_cons]
   have e2:(x==(if (k==NameKind.free&&env.scope.kind==ScopeKind.function&&env.kindOf n==some NameKind.cell)=true then (n,NameKind.cell) else (n,k)).1)=false:=by
    split <;> exact e
   dsimp only at e2 ⊢
   split
   ·rename_i e3;rw [e2] at e3;cases e3
   ·exact ih
theorem ZvP {X:Cx} {own fr:List Str} {js:List Nat} {scope scX:Scope} {n:Nat} (kind:scope.kind=.function) (names:∀ x∈scope.names,x.2=.local→scope.names.lookup x.1=some .local) (nocell:∀ y∈scope.names,y.2≠.cell)
  (hf:∀ y∈scope.names,y.2=.free→y.1∈fr) (hk:∀ y∈fr,scope.names.lookup y=some .free) (hsc:X.env.scope=scX) (hkx:scX.kind=.function) (hce:X.env.cells=cellsFrom n scX.names []) (hx:∀ y∈fr,scX.names.lookup y=some .cell)
  (hj:js.map (fun j=>X.N[j]?)=fr.map some):Blk X (own++fr) scope (Zkz X.env scope.names []) (Zf2 own.length js):=by
 have cel:∀ y∈fr,∃ c,X.env.cells.lookup y=some c:=fun y hy=>by
  rw [hce]
  exact Zkn (hx y hy)
 have frl:js.length=fr.length:=by have:=congrArg List.length hj;simpa using this
 refine ⟨?_,kind,names,nocell,fun y c h=>?_,fun y h=>?_,fun σ i y v h1 h2 h3=>?_,fun σ=>by rw [ZkI,List.length_append,frl]⟩
 ·have:=Znx (env:=X.env) scope.names [] fun y hy hy2=>cel _ (hf y hy hy2)
  unfold closureFor
  simp only [bind_pure]
  exact this
 ·rcases Zlq _ _ h with q | ⟨q1,q2⟩
  ·cases q
  ·obtain ⟨c',e⟩:=cel y (hf _ q1 rfl)
   rw [e] at q2 ⊢
   exact congrArg some q2.symm
 ·refine ZlZ _ _ ?_
  rcases h with h | h
  ·exact ZiU nocell h (.inl rfl)
  ·exact ZiU nocell h (.inr rfl)
 ·obtain ⟨m,j,rfl,e1,e2⟩:=ZnG h2
  rw [List.getElem?_append_right (by omega)] at h1
  have:own.length+m - own.length=m:=by omega
  rw [this] at h1
  have hy:y∈fr:=List.mem_of_getElem? h1
  have q:=congrArg (fun l=>l[m]?) hj
  simp only [List.getElem?_map,e1,h1,Option.map_some] at q
  have l1:X.env.scope.names.lookup y=some .cell:=by rw [hsc];exact hx y hy
  refine ⟨.inl (Zdo (by rw [hsc];exact hkx) (hk y hy) l1),.inr (.inl l1),(by rw [l1];intro z;cases z),j,Option.some.inj q,e2⟩
def Zba (gi:GI) (n:Nat) (js:List Nat) (gg:GG) (gt:GT) (ge:GE):GE:=fun ω G Q=>gi ω G fun ws gd G1=>Zb7 gd gg gt ge (fun ys G2=>∀ p,G2 p=none→Q (.ref p) (put G2 p (.lst ys))) ws (Zf2 n js ω) G1 []
theorem Zkp {gi:GI} {n:Nat} {js:List Nat} {gg:GG} {gt:GT} {ge:GE} (mi:gi.M) (mg:gg.M) (mt:gt.M) (me:ge.M):GE.M (Zba gi n js gg gt ge):=fun ω G Q Q' h q =>
 mi _ _ _ _ (fun ws gd G1 z=>Ziz mg mt me (fun ys G2 z p hp=>h _ _ (z p hp)) _ _ _ _ z) q
theorem ZnF {X:Cx} {n:Nat} {js:List Nat} {gi:GI} {gg:GG} {gt:GT} {ge:GE} {wi:TI} {g:TG} (hwi:∀ (σ:St) (H:Hp) (ω:Sw) (G:Hw) (R:List W→(Hw→Prop)→Hw→Prop) (R0:It→Hp→Prop),TrSt X.K H σ ω→RelH X.K H G→gi ω G R →
   (∀ ws gd G1 H1 J,R ws gd G1→Mono X.K H H1→RelH X.K H1 G1→gd G1→Zvi X.K H1 J ws gd→R0 J H1)→wi σ H R0)
  (hgg:∀ (x:V) (w:W) (σ:St) (ω:Sw) (H:Hp) (G:Hw) (Q:St→Hp→Prop),Tr X.K H x w→TrSt X.K H σ ω→RelH X.K H G→gg w ω G (dnS X.K H Q)→g x σ H Q) (mg:gg.M) (mt:gt.M) (me:ge.M) (σ:St) (H:Hp) (Q:VK) (h:up X.K (Zba gi n js gg gt ge) σ H Q) :
  ZrU wi (Zf2 n js) g (upT X.K gt) (up X.K ge) σ H Q:=by
 obtain ⟨ω,G,ts,r,q⟩:=h
 refine hwi σ H ω G _ _ ts r q fun ws gd G1 H1 J z m1 r1 hgd wk=>?_
 refine ⟨fun i m σ' H' vs=>m=ws.length - i∧i≤ws.length∧Mono X.K H1 H'∧∃ ω' G' ys,TrSt X.K H' σ' ω'∧RelH X.K H' G'∧TrL X.K H' vs ys∧Zb7 gd gg gt ge (fun ys G2=>∀ p,G2 p=none→dn X.K H Q (.ref p) (put G2 p (.lst ys))) (ws.drop i) ω' G' ys,
  ⟨ws.length,by simp,Nat.zero_le _,.refl,_,G1,[],(ts.mono m1).cap n js,r1,.nil,by simpa using z⟩,?_⟩
 rintro i m σ' H' vs ⟨rfl,hle,mm,ω',G',ys,ts',r',tv,q'⟩
 have hgd':=Zlh q'
 by_cases hlt:i < ws.length
 ·have hw:∃ w,ws[i]?=some w:=⟨ws[i],by simp [hlt]⟩
  obtain ⟨w0,ew0⟩:=hw
  have ed:ws.drop i=w0::ws.drop (i+1):=by
   obtain ⟨h',e'⟩:=List.getElem?_eq_some_iff.mp ew0
   rw [← e'];exact List.drop_eq_getElem_cons h'
  rw [ed] at q'
  refine .inr ⟨wk.go i H' G' mm r' hgd' hlt,by rw [tv.length];exact q'.2.1,fun σ2 H2 vs2=>Mono X.K H1 H2∧∃ ω2 G2 ys2,TrSt X.K H2 σ2 ω2∧RelH X.K H2 G2∧TrL X.K H2 vs2 ys2∧Zb7 gd gg gt ge (fun ys G2=>∀ p,G2 p=none→dn X.K H Q (.ref p) (put G2 p (.lst ys))) (ws.drop (i+1)) ω2 G2 ys2,
   (by rintro σ2 H2 vs2 ⟨y1,y2⟩;exact ⟨ws.length - (i+1),by omega,rfl,hlt,y1,y2⟩),fun x H2 y=>?_⟩
  obtain ⟨my,ry,w,ew,tw⟩:=wk.yld i H' G' x H2 mm r' hgd' y hlt
  have mm:=mm.trans my
  have tv:=tv.mono my
  rw [ew0] at ew;cases ew
  refine hgg x _ σ' ω' _ G' _ tw (ts'.mono my) ry (mg _ _ _ _ _ (fun ω1 G1' z1 σ1 H3 m3 ts3 r3=>?_) q'.2.2)
  refine ⟨ω1,G1',ts3,r3,mt _ _ _ _ (fun b G4 z4 H4 m4 r4=>?_) z1⟩
  cases b with
  | true=>exact ⟨ω1,G4,ts3.mono m4,r4,me _ _ _ _ (fun y5 G5 z5 v5 H5 m5 t5 r5=>⟨((mm.trans m3).trans m4).trans m5,ω1,G5,_,(ts3.mono m4).mono m5,r5,(((tv.mono m3).mono m4).mono m5).append (.cons t5 .nil),z5⟩) z4⟩
  | false=>exact ⟨(mm.trans m3).trans m4,ω1,G4,_,ts3.mono m4,r4,(tv.mono m3).mono m4,z4⟩
 ·have e:i=ws.length:=by omega
  subst e
  rw [List.drop_length] at q'
  exact .inl ⟨wk.stop H' G' mm r' hgd',fun p hp=>q'.2 p (r'.no hp) _ _ ((m1.trans mm).trans (Mono.new hp _)) (.ref p) (r'.new hp tv)⟩
structure TgC (X:Cx) (Nc:List Str) (scope:Scope) (cl:List (Str×Addr)) (tg:Expr) (gg:GG):Prop where
 ex:∃ g:TG,(∀ C fp s H,PG (cxB X Nc scope cl C fp s H) tg g)∧∀ (x:V) (w:W) (σ:St) (ω:Sw) (H:Hp) (G:Hw) (Q:St→Hp→Prop),Tr X.K H x w→TrSt X.K H σ ω→RelH X.K H G→gg w ω G (dnS X.K H Q)→g x σ H Q
 mono:gg.M
theorem ZgQ {X:Cx} {Nc:List Str} {scope:Scope} {cl:List (Str×Addr)} {x:Str} {p:Pos} {i:Nat} (hN:Nc.Nodup) (hi:Nc[i]?=some x) (hx:scope.names.lookup x=some .local):TgC X Nc scope cl (.Name x p) (gNm i) where
 ex:=⟨Zik i,fun C fp s H=>Zec (X:=cxB X Nc scope cl C fp s H) hN hi (.inl (lookup_relabel_local hx)) (.inr (lookup_relabel_local hx)),fun x w σ ω H G Q t ts r q=>q _ H .refl (ts.set i t) r⟩
 mono:=fun _ _ _ _ _ h q=>h _ _ q
theorem Zvb {X:Cx} {Nc:List Str} {scope:Scope} {cl:List (Str×Addr)} {x y:Str} {p p' pos:Pos} {k i j:Nat} (hc:X.calm=true) (hN:Nc.Nodup) (hi:Nc[i]?=some x) (hx:scope.names.lookup x=some .local) (hj:Nc[j]?=some y) (hy:scope.names.lookup y=some .local) :
  TgC X Nc scope cl (.Tuple [.Name x p,.Name y p'] k pos) (Zms i j) where
 ex:=⟨L2.ZaA X.K 2 (L2.Zaa (Zik i) (L2.Zaa (Zik j) L2.Zag)),fun C fp s H=>ZpD (X:=cxB X Nc scope cl C fp s H) hc (ZeA (Zec hN hi (.inl (lookup_relabel_local hx)) (.inr (lookup_relabel_local hx))) (ZeA (Zec hN hj (.inl (lookup_relabel_local hy)) (.inr (lookup_relabel_local hy))) Zm1)),
  fun v w σ ω H G Q t ts r q=>by
   unfold Zms at q
   split at q
   ·rename_i a b
    cases t with
    | tup h l =>
     cases l with
     | cons ta l =>
      cases l with
      | cons tb l =>
       cases l
       exact ⟨_,_,rfl,h,rfl,_,_,rfl,_,_,rfl,rfl,q _ H .refl ((ts.set i ta).set j tb) r⟩
   ·exact q.elim⟩
 mono:=ZtH
def ZuY (i j k:Nat):GG:=fun w ω G Q=>match w with
 | .tup [a,b,c]=>Q (((ω.set i (some a)).set j (some b)).set k (some c)) G
 | _=>False
theorem Zyo {i j k:Nat}:GG.M (ZuY i j k):=fun w ω G Q Q' h q=>by
 unfold ZuY at q ⊢
 split
 ·exact h _ _ q
 ·rename_i z
  split at q
  ·exact (z _ _ _ rfl).elim
  ·exact q
theorem Zxo {K:PySem.W.Frag} {i j k:Nat} (v:V) (w:W) (σ:St) (ω:Sw) (H:Hp) (G:Hw) (Q:St→Hp→Prop) (t:Tr K H v w) (ts:TrSt K H σ ω) (r:RelH K H G) (q:ZuY i j k w ω G (dnS K H Q)) :
  L2.ZaA K 3 (L2.Zaa (Zik i) (L2.Zaa (Zik j) (L2.Zaa (Zik k) L2.Zag))) v σ H Q:=by
 unfold ZuY at q
 split at q
 ·cases t with
  | tup h l =>
   cases l with
   | cons ta l =>
    cases l with
    | cons tb l =>
     cases l with
     | cons tc l =>
      cases l
      exact ⟨_,_,rfl,h,rfl,_,_,rfl,_,_,rfl,_,_,rfl,rfl,q _ H .refl (((ts.set i ta).set j tb).set k tc) r⟩
 ·exact q.elim
section
variable {X:Cx} {P:Hp→Prop} {e:Expr} {pos pos':Pos} {ga ge:GE} {gt:GT}
theorem Zk3 {elt tg iter:Expr} {ifs:List Expr} {scope:Scope} {Nc:List Str} {n:Nat} {js:List Nat} {cl:List (Str×Addr)} {gi:GI} {gg:GG} (hc:X.calm=true) (B:Blk X Nc scope cl (Zf2 n js)) (hs:∀ x,foldedSetIterable iter X.env x=pure x) (hi:Im X tg iter gi)
  (hu:TgC X Nc scope cl tg gg) (ht:∀ C fp s H,Fm (cxB X Nc scope cl C fp s H) ifs gt) (he:∀ C fp s H,Em (cxB X Nc scope cl C fp s H) elt ge):Em X (.ListComp elt [⟨tg,iter,ifs,0⟩] scope pos) (Zba gi n js gg gt ge):=by
 have mt:gt.M:=(ht 0 [] X.s₀ X.H₀).m
 have me:ge.M:=(he 0 [] X.s₀ X.H₀).m
 refine ⟨?_,Zkp hi.m hu.mono mt me⟩
 obtain ⟨wi,hwi,hi⟩:=hi.p
 obtain ⟨g,hpg,hgg⟩:=hu.ex
 exact Zbh (Zo8 hc hwi B hpg (fun C fp s H=>(ht C fp s H).p) (fun C fp s H=>(he C fp s H).p) hs) (ZnF hi hgg hu.mono mt me)
def Zo7 (sc:Scope) (x:Str):Bool:=match sc.names.lookup x with | some .cell=>true | _=>false
theorem ZpJ {sc:Scope} {x:Str} (h:Zo7 sc x=true):sc.names.lookup x=some .cell:=by
 unfold Zo7 at h
 split at h
 ·assumption
 ·cases h
theorem Zjn {x:Str} {i:Nat} (hN:X.N.Nodup) (hi:X.N[i]?=some x) (hx:Zo7 X.env.scope x=true) (hf:X.fn x=true) (hs:swapsWith e (some (.Name x pos')) pos.line X.env=pure false) (ha:Em X e ga):Sm X P (.Assign [.Name x pos'] e pos) (ZaT i ga) :=
 ⟨Ztt hN hi (.inr (ZpJ hx)) ha.m ha.p hs (.inl hf),ZqI ha.m⟩
end
theorem ZcS {X:Cx} {x y z:Str} {p p' p2 pos:Pos} {n i j k:Nat} (hc:X.calm=true) (hN:X.N.Nodup) (hi:X.N[i]?=some x) (hx:Loc X.env.scope x) (hf:X.fn x=true∨X.env.scope.names.lookup x=some .local)
  (hj:X.N[j]?=some y) (hy:Loc X.env.scope y) (hfy:X.fn y=true∨X.env.scope.names.lookup y=some .local) (hk:X.N[k]?=some z) (hz:Loc X.env.scope z) (hfz:X.fn z=true∨X.env.scope.names.lookup z=some .local) :
  TgW X (.Tuple [.Name x p,.Name y p',.Name z p2] n pos) (ZuY i j k) where
 ex:=⟨_,ZpD hc (ZeA (Zec hN hi hx hf) (ZeA (Zec hN hj hy hfy) (ZeA (Zec hN hk hz hfz) Zm1))),Zxo⟩
 mono:=Zyo
section
variable {prog:Program} {w:World} {A:Around} {E:Value→Shared→Prop} {s:Shared}
theorem ZsF {t b:Addr} {ws:List Value} {Q:Value→Shared→Prop} (ht:IsTup s.heap t #[]) (hb:IsTup s.heap b ws.toArray) (h1:Q (.ref b) s):wpAny (model prog w) A (binaryOp .Add (.ref t) (.ref b)) Q E s:=by
 obtain ⟨⟨cls,dd,data,sl⟩,ho,hc,n,hd⟩:=id ht
 obtain ⟨⟨cls2,dd2,data2,sl2⟩,ho2,hc2,n2,hd2⟩:=id hb
 simp only at hc hd hc2 hd2
 subst hc hd hc2 hd2
 exact concat_meets ⟨_,ho,rfl⟩ ⟨_,ho2,rfl⟩ noFill_tuple_add seq_tuple_add PySem.F.slot_tuple_add PySem.F.entry_tuple_add (PySem.F.args_tuple_add_2 _ _) (tuple_addW0 t b #[] ws.toArray n n2 dd dd2 sl sl2 rfl) ⟨ho,ho2,h1⟩
end
def ZqM (K:PySem.W.Frag):R2:=fun x y H Q=>∃ a b ys,x=.ref a∧y=.ref b∧SqT K H a []∧SqT K H b ys∧Q (.ref b) H
theorem Zr9 {X:Cx}:OpR X (binaryOp .Add) (ZqM X.K):=by
 walk_at "pc"
 obtain ⟨a,b,ys,rfl,rfl,ha,hb,q⟩:=h
 cases rx
 cases ry
 obtain ⟨its,r1,p1,_⟩:=I.tuple ha
 obtain ⟨its2,r2,p2,_⟩:=I.tuple hb
 cases r1
 exact ZsF p1 p2 ⟨.ref b,H,I,rfl,q⟩
def Zde:RW2:=fun x y G Q=>match x,y with
 | .tup xs,.tup ys=>xs.length+ys.length≤sizeLine∧Q (.tup (xs++ys)) G
 | x,y=>ZdG x y G Q
theorem Zbg {xs ys:List W} {G:Hw} {Q:Kw}:Zde (.tup xs) (.tup ys) G Q=(xs.length+ys.length≤sizeLine∧Q (.tup (xs++ys)) G):=rfl
theorem Zhb {x y:W} {G:Hw} {Q:Kw} (hb:¬((∃ xs,x=.tup xs)∧∃ ys,y=.tup ys)):Zde x y G Q=ZdG x y G Q:=by
 cases x <;> cases y <;> first | rfl | exact absurd ⟨⟨_,rfl⟩,⟨_,rfl⟩⟩ hb
theorem Zqw:RW2.M Zde:=fun x y G Q Q' h q=>by
 by_cases hb:(∃ xs,x=.tup xs)∧∃ ys,y=.tup ys
 ·obtain ⟨⟨xs,rfl⟩,⟨ys,rfl⟩⟩:=hb
  exact ⟨q.1,h _ _ q.2⟩
 ·rw [Zhb hb] at q ⊢
  exact Zp8 _ _ _ _ _ h q
theorem Zuy {X:Cx}:OpR X (binaryOp .Add) (fun x y H Q=>((rI0 fun i j=>.int (i+j)) x y H Q∨(∃ i j,x=.str i∧y=.str j∧i.length+j.length≤sizeLine∧Q (.str (i++j)) H)∨ZxF x y H Q)∨ZqM X.K x y H Q∨ZtU X.K x y H Q):=OpR.or ZqW (OpR.or Zr9 ZvL)
theorem Zsj {K:PySem.W.Frag} (x y:W) (v u:V) (G:Hw) (H:Hp) (Q:VK) (tx:Tr K H v x) (ty:Tr K H u y) (r:RelH K H G) (q:Zde x y G (dn K H Q)) :
  ((rI0 fun i j=>.int (i+j)) v u H Q∨(∃ i j,v=.str i∧u=.str j∧i.length+j.length≤sizeLine∧Q (.str (i++j)) H)∨ZxF v u H Q)∨ZqM K v u H Q∨ZtU K v u H Q:=by
 by_cases hb:(∃ xs,x=.tup xs)∧∃ ys,y=.tup ys
 ·obtain ⟨⟨xs,rfl⟩,⟨ys,rfl⟩⟩:=hb
  rw [Zbg] at q
  cases tx with
  | tup sa la =>
   cases ty with
   | tup sb lb =>
    rename_i a vs b us
    cases la with
    | nil=>exact .inr (.inl ⟨a,b,us,rfl,rfl,sa,sb,by simpa using q.2 _ H .refl (.tup sb lb) r⟩)
    | cons t1 la =>
     refine .inr (.inr ⟨a,b,_,us,rfl,rfl,sa,sb,by simp,?_,fun e=>?_,fun e p hp=>?_⟩)
     ·rw [(TrL.cons t1 la).length,lb.length];exact q.1
     ·subst e
      cases lb
      have:=q.2 (.ref a) H .refl (by simpa using Tr.tup sa (.cons t1 la)) r
      exact this
     ·exact q.2 _ _ (Mono.new hp _) (.tup (SqT.of ZbA) (((TrL.cons t1 la).append lb).mono (Mono.new hp _))) (r.mono0 hp)
 ·refine .inl (ZqH x y v u G H Q tx ty r ?_)
  rwa [Zhb hb] at q
theorem Zdb {X:Cx} {a b:Expr} {ga gb:GE} {pos:Pos} (ha:Em X a ga) (hb:Em X b gb):Em X (.BinOp a .Add b pos) (Zaj Zde ga gb):=⟨ZiV Zuy Zqw ha.m hb.m Zsj ha.p hb.p,Zfh Zqw ha.m hb.m⟩
end L3
namespace L3
open PySem PySem.Spec PyProof.Rows L2
variable {K:PySem.W.Frag} {H H' H2:Hp}
theorem TrP.lookup {α:Type} [BEq α]:∀ {vs:List (α×V)} {ws:List (α×W)} {f:α} {w:W},TrP K H vs ws→ws.lookup f=some w→∃ v,vs.lookup f=some v∧Tr K H v w
 | _,_,_,_,.nil,e=>by cases e
 | _,_,f,w,.cons (f:=g) r t,e=>by
  rw [List.lookup_cons] at e ⊢
  cases hb:f==g with
  | true=>rw [hb] at e;cases e;exact ⟨_,rfl,r⟩
  | false=>rw [hb] at e;exact t.lookup e
theorem TrP.length {α:Type}:∀ {vs:List (α×V)} {ws:List (α×W)},TrP K H vs ws→vs.length=ws.length
 | _,_,.nil=>rfl
 | _,_,.cons _ t=>congrArg (·+1) t.length
section
variable {X:Cx} {P:Hp→Prop} {o e value:Expr} {es:List Expr} {f m:Str} {C:Addr} {pos pos' tpos apos p:Pos} {ga gv:GE} {gs:GA} {ex:Xw}
theorem Mono.ins {p C dx:Addr} {xs:List (Str×V)} (hp:H p=some (.ins C dx xs)) (o:HO):Mono K H (upd H p o):=Mono.was hp _ (fun _ z=>by cases z) (fun _ _ z=>by cases z)
structure DfM (P:Program) (w:World) (K:PySem.W.Frag) (mg:Str→Option Value) (base:Heap) (C:Addr) (m:Str) (k n:Nat) (sp:Spw):Prop where
 ex:∃ (f:Addr) (fd:FuncData) (ps:List Str),ZAZ K C m f∧Binds K fd ps []∧ps.length=n∧FnOk P w K mg base (CXe P w) k f fd ps (ZtS K sp)
 mono:sp.M
end
section
variable {X:Cx} {P:Hp→Prop} {o e value:Expr} {es:List Expr} {f m:Str} {C:Addr} {pos pos' tpos apos p:Pos} {ga gv:GE} {gs:GA} {ex:Xw}
end
section
variable {P:Program} {w:World} {mg:Str→Option Value} {base:Heap} {C:Addr}
theorem DfM.le {m:Str} {j k n:Nat} {sp:Spw} (D:DfM P w K mg base C m j n sp) (h:j≤k):DfM P w K mg base C m k n sp :=
 ⟨let ⟨f,fd,ps,h1,h2,h3,F⟩:=D.ex;⟨f,fd,ps,h1,h2,h3,F.mono h⟩,D.mono⟩
end
def isStr (o:W) (_:Hw):Prop:=∃ x,o=.str x
end L3
namespace HT
open PySem PySem.Spec PyProof.Rows
section
variable {prog:Program} {w:World} {A:Around} {E:Value→Shared→Prop} {s:Shared}
theorem getItem_tuple_whole {t sl:Addr} {items:Array Value} {vl vu:Value} {lo hi:Option Int} {Q:Value→Shared→Prop} (ht:IsTup s.heap t items) (hs:s.heap.IsSliceOf sl vl vu .none) (pl:IsPart vl lo) (pu:IsPart vu hi)
  (hw:sIx items.size 0 lo=0∧sIx items.size items.size hi=items.size) (h:Q (.ref t) s):wpAny (model prog w) A (getItem (.ref t) (.ref sl)) Q E s:=by
 obtain ⟨os,hos,hcs,hds⟩:=id hs
 have hTs:s.TypeIs (.ref sl) "slice":=⟨os,hos,hcs⟩
 unfold getItem
 try with_reducible refine wpAny_holding ?_
 first | refine wpAny_bind (wpAny_pure ?_) | skip
 refine wpAny_bind (wpAny_sequenceKey ht.typeIs (by decide) ?_)
 refine wpAny_bind (wpAny_callSpecial?_slot (name:=Str.ofString "__getitem__") ht.typeIs PyProof.Rows.slot_tuple_getitem
  (wpAny_call_entry PyProof.Rows.slot_tuple_getitem ht.typeIs entry_tuple_getitem ?_ (args_tuple_getitem _ _)))
 show wpAny _ _ (Builtin.Tuple.tupleItemsOf (.ref t) >>= _) _ _ s
 refine wpAny_bind (tupleItemsOf_ ht ?_)
 refine wpAny_bind (wpAny_typeOf hTs ?_)
 rw [if_pos (by decide)]
 refine wpAny_bind (ZeF hs pl pu ?_)
 have hyes:(((sIx items.size 0 lo:Nat):Int)==0&&(1:Int)==1&&(sIx items.size items.size hi - sIx items.size 0 lo)==items.size)=true:=by
  rw [hw.1,hw.2]
  simp
 show wpAny _ _ (if (((sIx items.size 0 lo:Nat):Int)==0&&(1:Int)==1&&(sIx items.size items.size hi - sIx items.size 0 lo)==items.size)=true then _ else _) _ _ s
 rw [if_pos hyes]
 have hT:=ht.typeIs
 unfold Builtin.Tuple.tupleIsExact
 repeat (any_goals (first | assumption | wp_step))
 exact ⟨_,rfl,wpAny_pure h⟩
end
end HT
namespace L3
open PySem PySem.Spec PyProof.Rows L2
variable {K:PySem.W.Frag} {H H' H2:Hp}
def ZAd (K:PySem.W.Frag):V→Option Int→Option Int→Hp→VK→Prop:=fun x lo hi H Q=>∃ a xs,x=.ref a∧SqT K H a xs∧(HT.sIx xs.length 0 lo=0∧HT.sIx xs.length xs.length hi=xs.length)∧Q (.ref a) H
theorem ZvB {X:Cx}:SlR X (ZAd X.K):=by
 intro pins s σ H x v vl vu lo hi sl Q I rx hs pl pu h
 obtain ⟨a,xs,rfl,hx,hw,q⟩:=h
 cases rx
 obtain ⟨its,r,ht,hz⟩:=I.tuple hx
 have hlen:its.toArray.size=xs.length:=by rw [List.size_toArray];exact r.length.symm
 refine ⟨"tuple",_,PyProof.Rows.slot_tuple_getitem.lookup,ht.typeIs,?_⟩
 exact HT.getItem_tuple_whole ht hs pl pu (by rw [hlen];exact hw) ⟨.ref a,H,I,rfl,q⟩
def Zz7:V→Option Int→Option Int→Hp→VK→Prop:=fun x lo hi H Q=>∃ z,x=.str z∧z.length≤sizeLine∧Q (.str (Txt.slice z lo hi)) H
theorem ZwU {X:Cx}:SlR X Zz7:=by
 intro pins s σ H x v vl vu lo hi sl Q I rx hs pl pu h
 obtain ⟨z,rfl,hz,q⟩:=h
 obtain ⟨t,rfl⟩:=rx
 obtain ⟨os,hos,hcs,hds⟩:=id hs
 refine ⟨"str",_,F.slot_str_getitem.lookup,typeIs_str _ _ _,?_⟩
 have fin:∀ t' k,EP X pins σ Q (.str (Txt.slice z lo hi) t') { s with toks:=k }:=fun t' k=>⟨.str _,H,I.tok k,⟨t',rfl⟩,q⟩
 cases pl with
 | none =>
  cases pu with
  | none=>exact wpAny_getItem_str_slice (l:=none) (u:=none) (st:=none) ⟨os,hos,hcs,hds⟩ rfl (post_val_or_str ⟨Nat.le_trans (Txt.slice_le z _ _) hz,fin⟩)
  | int j u=>exact wpAny_getItem_str_slice (l:=none) (u:=some (j,u)) (st:=none) ⟨os,hos,hcs,hds⟩ rfl (post_val_or_str ⟨Nat.le_trans (Txt.slice_le z _ _) hz,fin⟩)
 | int i u =>
  cases pu with
  | none=>exact wpAny_getItem_str_slice (l:=some (i,u)) (u:=none) (st:=none) ⟨os,hos,hcs,hds⟩ rfl (post_val_or_str ⟨Nat.le_trans (Txt.slice_le z _ _) hz,fin⟩)
  | int j u2=>exact wpAny_getItem_str_slice (l:=some (i,u)) (u:=some (j,u2)) (st:=none) ⟨os,hos,hcs,hds⟩ rfl (post_val_or_str ⟨Nat.le_trans (Txt.slice_le z _ _) hz,fin⟩)
def slA (w:W) (lo hi:Option Int) (G:Hw) (Q:Kw):Prop:=match w with
 | .tup xs=>Q (.tup (Znc xs lo hi)) G
 | .str z=>z.length≤sizeLine∧Q (.str (Txt.slice z lo hi)) G
 | w=>slW w lo hi G Q
theorem ZwD {w:W} {lo hi:Option Int} {G:Hw} {Q Q':Kw} (h:∀ w G',Q w G'→Q' w G') (q:slA w lo hi G Q):slA w lo hi G Q':=by
 cases w with
 | tup xs=>exact h _ _ q
 | str z=>exact ⟨q.1,h _ _ q.2⟩
 | non=>exact False.elim q
 | bl b=>exact False.elim q
 | int i=>exact False.elim q
 | rol xs=>exact ZrW (w:=.rol xs) (lo:=lo) (hi:=hi) (G:=G) h q
 | ref a=>exact ZrW (w:=.ref a) (lo:=lo) (hi:=hi) (G:=G) h q
theorem ZyB {w:W} {v:V} {lo hi:Option Int} {G:Hw} {Q:VK} (t:Tr K H v w) (r:RelH K H G) (q:slA w lo hi G (dn K H Q)):((Zzl K v lo hi H Q∨Zza K v lo hi H Q)∨ZAd K v lo hi H Q)∨Zz7 v lo hi H Q:=by
 cases t with
 | tup h l =>
  rename_i a vs ws
  by_cases hw:HT.sIx ws.length 0 lo=0∧HT.sIx ws.length ws.length hi=ws.length
  ·refine .inl (.inr ⟨a,vs,rfl,h,by rw [l.length];exact hw,?_⟩)
   refine q _ H .refl ?_ r
   have e:Znc ws lo hi=ws:=by unfold Znc;rw [hw.1,hw.2];simp
   rw [e]
   exact .tup h l
  ·exact .inl (.inl (Znl (.tup h l) r ⟨hw,q⟩))
 | str z=>exact .inr ⟨z,rfl,q.1,q.2 _ H .refl (.str _) r⟩
 | non=>exact False.elim q
 | bl b=>exact False.elim q
 | int i=>exact False.elim q
 | rol h l=>exact .inl (.inl (Znl (.rol h l) r q))
 | ref a=>exact .inl (.inl (Znl (.ref a) r q))
section
variable {X:Cx} {a b e:Expr} {ga gb:GE} {pos:Pos}
def ZkM (ga:GE) (gl gh:GO):GE:=fun ω G Q=>ga ω G fun w G1=>gl ω G1 fun lo G2=>gh ω G2 fun hi G3=>slA w lo hi G3 Q
theorem ZfU {lo hi:Option Expr} {gl gh:GO} {p2:Pos} (ha:Em X e ga) (hl:Om X lo gl) (hh:Om X hi gh):Em X (.Subscript e (.Slice lo hi none p2) pos) (ZkM ga gl gh) :=
 ⟨Zbh (Znu (SlR.or (SlR.or (SlR.or ZtP Zq0) ZvB) ZwU) ha.p hl.p hh.p) fun σ H Q ⟨ω,G,ts,r,q⟩=>⟨ω,G,ts,r,ha.m _ _ _ _ (fun w G1 z v H1 m1 t r1=>⟨ω,G1,ts.mono m1,r1,hl.m _ _ _ _ (fun l G2 z2 H2 m2 r2 =>
   ⟨ω,G2,(ts.mono m1).mono m2,r2,hh.m _ _ _ _ (fun h G3 z3 H3 m3 r3=>ZyB ((t.mono m2).mono m3) r3 (ZwD (fun w G' z=>Zcq ((m1.trans m2).trans m3) z) z3)) z2⟩) z⟩) q⟩,
  fun ω G Q Q' h q=>ha.m _ _ _ _ (fun w G1 z=>hl.m _ _ _ _ (fun l G2 z2=>hh.m _ _ _ _ (fun u G3 z3=>ZwD h z3) z2) z) q⟩
end
theorem StrsAre.len:∀ {vs:List Value} {ys:List Str},StrsAre vs ys→vs.length=ys.length
 | _,_,.nil=>rfl
 | _,_,.cons _ _ r=>congrArg (·+1) (StrsAre.len r)
section
variable {prog:Program} {w:World} {A:Around} {E:Value→Shared→Prop} {s:Shared}
end
def ZxK:RW2:=fun x y G Q=>match x,y with
 | .int i,.int j=>CMul i j∧Q (.int (i*j)) G
 | .str x,.int n=>MulOk x n∧Q (.str (Txt.mul x n)) G
 | .ref a,.int k=>(match G a with
  | some (.lst xs)=>-(2 ^ 63)≤k∧k < 2 ^ 63∧xs.length*k.toNat≤sizeLine∧∀ p,G p=none→Q (.ref p) (put G p (.lst (List.replicate k.toNat xs).flatten))
  | _=>False)
 | _,_=>False
theorem ZkA {X:Cx} {P:Hp→Prop} {elt tg iter:Expr} {ifs:List Expr} {scope:Scope} {pos pos' spos:Pos} {i:Nat} {x:Str} {Nc:List Str} {n:Nat} {js:List Nat} {cl:List (Str×Addr)} {gi:GI} {gg:GG} {gt:GT} {ge:GE} (hN:X.N.Nodup) (hix:X.N[i]?=some x) (hx:Zj9 X.env.scope x=true)
  (hsw:swapsWith (.ListComp elt [⟨tg,iter,ifs,0⟩] scope pos) (some (.Name x pos')) spos.line X.env=pure true) (hc:X.calm=true) (B:Blk X Nc scope cl (Zf2 n js)) (hs:∀ x,foldedSetIterable iter X.env x=pure x) (hi:Im X tg iter gi)
  (hu:TgC X Nc scope cl tg gg) (ht:∀ C fp s H,Fm (cxB X Nc scope cl C fp s H) ifs gt) (he:∀ C fp s H,Em (cxB X Nc scope cl C fp s H) elt ge) :
  Sm X P (.Assign [.Name x pos'] (.ListComp elt [⟨tg,iter,ifs,0⟩] scope pos) spos) (ZaT i (Zba gi n js gg gt ge)):=by
 have mt:gt.M:=(ht 0 [] X.s₀ X.H₀).m
 have me:ge.M:=(he 0 [] X.s₀ X.H₀).m
 refine ⟨fun B0 hB=>?_,ZqI (Zkp hi.m hu.mono mt me)⟩
 obtain ⟨wi,hwi,hi'⟩:=hi.p
 obtain ⟨g,hpg,hgg⟩:=hu.ex
 refine Zf1 (Zo1 (tt:=upT X.K gt) (te:=up X.K ge) hN hix (Zfm hx) hsw hc hwi B hpg (fun C fp s H=>(ht C fp s H).p) (fun C fp s H=>(he C fp s H).p) hs) fun D σ H zz2=>?_
 obtain ⟨ω,G,ts,r,mb,q⟩:=zz2
 refine ZnF hi' hgg hu.mono mt me σ H _ ⟨ω,G,ts,r,Zkp hi.m hu.mono mt me _ _ _ _ (fun w G1 z v H1 m t r1=>?_) q⟩
 exact z _ H1 (mb.trans m) ((ts.mono m).set i t) r1
section
variable {X:Cx} {CX:CXT} {k:Nat} {f:Addr} {fd:FuncData} {ps:List Str} {sp:Sp} {Eσ:St→XK} {x:Str} {p pos:Pos} {e:Expr} {es:List Expr} {t:TA}
theorem Zwh {E:Value→Shared→Prop} {pins:List (Addr×Obj)} {s:Shared} {σ:St} {H:Hp} {i:Nat} {x:Str} {v:V} {pos:Pos} {Q:Value→Shared→Prop} (I:Inv X pins σ H s) (hN:X.N[i]?=some x) (hv:Vis X.env.scope x) (e:σ[i]?=some (some v)) (hd:(x==("__debug__":Str))=false) (hcd:(x==("__classdict__":Str))=false)
  (fin:∀ u,RelV v u→Q u s):wpAny (model X.prog X.w) X.A (eval (.Name x pos) X.env) Q E s:=by
 obtain ⟨m,hn,hl⟩:=I.loc
 obtain ⟨u,r,l⟩:=hl i x v hN e hv
 rcases l with ⟨hk,hm⟩ | ⟨hk,c,hc,hcell⟩
 ·exact wpAny_Name (wpAny_loadName_local I.ok.kind hk hn hm (fin u r)) hd
 ·rcases hk with hk | hk
  ·exact wpAny_Name (wpAny_loadName_cell I.ok.kind hk hc hcell (fin u r)) hd
  ·exact wpAny_Name (wpAny_loadName_free I.ok.kind hk hc hcell (fin u r) hcd) hd
theorem Zsz {i:Nat} (F:FnOk X.prog X.w X.K X.mg X.base CX k f fd ps sp) (hr:Room k X.A) (hN:X.N[i]?=some x) (hv:Vis X.env.scope x) (hk:PySem.W.keepIn X.K (.ref f)=true) (hb:Binds X.K fd ps []) (hx:ZiZ CX X Eσ)
  (ha:PA X (e::es) t) (hdb:(x==("__debug__":Str))=false) (hcd:(x==("__classdict__":Str))=false) (he:starEach (e::es) X.env=(false,eval e X.env)::starEach es X.env) (hpl:(backTo pos (starEach es X.env)).any (·.1)=false) :
  PE X (.Call (.Name x p) (e::es) [] pos) (fun σ H Q=>σ[i]?=some (some (.ref f))∧Ztj sp [] Eσ t σ H Q):=by
 intro pins s σ H Q I ⟨hi,h⟩
 refine wpAny_Call_Name_kw (Zwh I hN hv hi hdb hcd fun u hu=>?_)
 cases hu
 walk_at "pf"
 have r2:Vals (vs++[]) (us++[]):=r.append .nil
 have hl:(us++[]).length=ps.length:=by rw [← r2.length];exact F.len _ _ _ _ q
 refine wpAny_call (codeAny_mono (F.run X.A X.stack s1 H1 ⟨us,[]⟩ (us++[]) (vs++[]) Q (Eσ σ) hr I1.env0 (hb s1 us I1.kIn hl) r2 q) fun r s' hq=>?_)
 cases r with
 | error e=>exact hx pins σ H1 s1 e s' I1 hq
 | ok fl =>
  cases fl with
  | ret u=>exact I1.after hq
  | next=>exact False.elim hq
  | brk=>exact False.elim hq
  | cont=>exact False.elim hq
end
def fAt (mg:Str→Option Value) (x:Str):Addr:=match mg x with | some (.ref f)=>f | _=>0
theorem ZtQ {mg:Str→Option Value} {x:Str} {f:Addr} (h:mg x=some (.ref f)):fAt mg x=f:=by unfold fAt;rw [h]
section
variable {X:Cx} {e:Expr} {es:List Expr} {pos p:Pos} {ga gb:GE} {gs:GA} {ex:Xw}
def ZeH (i:Nat) (f:Addr) (sp:Spw) (ex:Xw) (gs:GA):GE:=fun ω G Q=>ω[i]?=some (some (.ref f))∧gs ω G fun ws G1=>sp ws G1 Q (ex ω)
theorem Zr1 {i:Nat} {f:Addr} {sp:Spw} (m:sp.M) (ms:gs.M):GE.M (ZeH i f sp ex gs):=fun ω G Q Q' h q=>⟨q.1,ms _ _ _ _ (fun ws G1 q1=>m _ _ _ _ _ _ h (fun _ _ z=>z) q1) q.2⟩
theorem Zr6 {i:Nat} {x y:Str} {k n:Nat} {sp:Spw} (D:Df X.prog X.w X.K X.mg X.base y k n sp) (hr:Room k X.A) (hN:X.N[i]?=some x) (hv:Vis X.env.scope x) (hp:ZlP X ex) (ms:gs.M) (ha:PAw X (e::es) gs)
  (hdb:(x==("__debug__":Str))=false) (hcd:(x==("__classdict__":Str))=false) (he:starEach (e::es) X.env=(false,eval e X.env)::starEach es X.env) (hpl:(backTo pos (starEach es X.env)).any (·.1)=false) :
  PEw X (.Call (.Name x p) (e::es) [] pos) (ZeH i (fAt X.mg y) sp ex gs):=by
 obtain ⟨f,fd,ps,hm,hk,hb,_,F⟩:=D.ex
 rw [ZtQ hm]
 refine Zbh (Zsz F hr hN hv hk hb hp ha hdb hcd he hpl) fun σ H Q zz1=>?_
 obtain ⟨ω,G,ts,r,q0,q⟩:=zz1
 obtain ⟨v,ev,tv⟩:=ts.get i _ q0
 cases tv
 refine ⟨ev,ω,G,ts,r,ms _ _ _ _ (fun ws G1 q1 vs H1 m1 tvs r1=>?_) q⟩
 refine ⟨ws,G1,by rw [List.append_nil];exact tvs,r1,D.mono _ _ _ _ _ _ (fun w G' z=>Zcq m1 z) (fun C G' z H2 m2 r2=>?_) q1⟩
 exact ⟨C,ω,G',rfl,(ts.mono m1).mono m2,r2,z⟩
theorem ZnN {i:Nat} {x y:Str} {k n:Nat} {sp:Spw} (D:Df X.prog X.w X.K X.mg X.base y k n sp) (hr:Room k X.A) (hi:place X.N x=some i) (hv:ZvW X.env.scope x=true) (hp:ZlP X ex) (hdb:(x==("__debug__":Str))=false) (hcd:(x==("__classdict__":Str))=false) (he:starEach (e::es) X.env=(false,eval e X.env)::starEach es X.env) (hpl:(backTo pos (starEach es X.env)).any (·.1)=false)
  (ha:Am X (e::es) gs):Em X (.Call (.Name x p) (e::es) [] pos) (ZeH i (fAt X.mg y) sp ex gs):=⟨Zr6 D hr (ZnO hi) (Znr hv) hp ha.m ha.p hdb hcd he hpl,Zr1 D.mono ha.m⟩
theorem ZxO {x:Str} {k n:Nat} {sp:Spw} (D:Df X.prog X.w X.K X.mg X.base x k n sp) (hg:Gl X x) (hd:(x==("__debug__":Str))=false):Em X (.Name x pos) (gC (.ref (fAt X.mg x))):=by
 obtain ⟨f,fd,ps,hm,hk,hb,_,F⟩:=D.ex
 rw [ZtQ hm]
 exact ⟨ZpP (v:=.ref f) hg hm rfl (fun H=>.ref f) hd,ZvV⟩
end
end L3
namespace L3
open PySem PySem.Spec PyProof.Rows L2
namespace Tb
def hop (M:Nat):Nat→Nat→Nat
 | 0,i=>i
 | n+1,i=>hop M n ((i*5+1) % M)
def cover (M:Nat):Bool:=(List.range M).all fun i=>(List.range M).all fun j=>(List.range M).any fun n=>hop M n i==j
theorem cover8:cover 8=true:=by decide +kernel
theorem cover16:cover 16=true:=by decide +kernel
theorem cover32:cover 32=true:=by decide +kernel
theorem cover64:cover 64=true:=by decide +kernel
theorem Zkx (M:Nat):∀ m n i,hop M (m+n) i=hop M n (hop M m i)
 | 0,n,i=>by rw [Nat.zero_add];rfl
 | m+1,n,i=>by
  rw [Nat.add_right_comm]
  show hop M (m+n) ((i*5+1) % M)=_
  rw [Zkx M m n];rfl
theorem ZsH {M:Nat} (h0:((List.range M).all fun j=>(List.range M).any fun n=>hop M n 0==j)=true) (hp:hop M M 0=0):cover M=true:=by
 have key:∀ j,j < M→∃ n,n < M∧hop M n 0=j:=fun j hj=>by
  obtain ⟨n,hn,e⟩:=List.any_eq_true.mp (List.all_eq_true.mp h0 j (List.mem_range.mpr hj))
  exact ⟨n,List.mem_range.mp hn,by simpa using e⟩
 refine List.all_eq_true.mpr fun i hi=>List.all_eq_true.mpr fun j hj=>List.any_eq_true.mpr ?_
 obtain ⟨m,hm,em⟩:=key i (List.mem_range.mp hi)
 obtain ⟨n,hn,en⟩:=key j (List.mem_range.mp hj)
 by_cases h:m≤n
 ·refine ⟨n - m,List.mem_range.mpr (by omega),?_⟩
  have z:=Zkx M m (n - m) 0
  rw [em,show m+(n - m)=n by omega,en] at z
  rw [← z];simp
 ·refine ⟨n+M - m,List.mem_range.mpr (by omega),?_⟩
  have z:=Zkx M m (n+M - m) 0
  rw [em,show m+(n+M - m)=M+n by omega,Zkx M M n 0,hp,en] at z
  rw [← z];simp
theorem cover128:cover 128=true:=ZsH (by decide +kernel) (by decide +kernel)
theorem Zsu {M i j:Nat} (h:cover M=true) (hi:i < M) (hj:j < M):∃ n,n < M∧hop M n i=j:=by
 unfold cover at h
 have h1:=List.all_eq_true.mp h i (List.mem_range.mpr hi)
 have h2:=List.all_eq_true.mp h1 j (List.mem_range.mpr hj)
 obtain ⟨n,hn,e⟩:=List.any_eq_true.mp h2
 exact ⟨n,List.mem_range.mp hn,by simpa using e⟩
theorem ZlF {mask:Nat} {owner:Array (Option Nat)} {fuel i p:Nat} (h:SetTable.layClean.free mask owner (fuel+1) i p=none) :
  (owner.getD i (some 0)).isSome=true∧SetTable.layClean.free mask owner fuel ((i*5+1+p / 32) % (mask+1)) (p / 32)=none:=by
 unfold SetTable.layClean.free at h
 have hr:0 < SetTable.runEnd mask i+1 - i:=by unfold SetTable.runEnd;split <;> omega
 cases hf:(List.range (SetTable.runEnd mask i+1 - i)).find? fun k=>(owner.getD (i+k) (some 0)).isNone with
 | some k=>rw [hf] at h;cases h
 | none =>
  rw [hf] at h
  refine ⟨?_,h⟩
  have hz:=List.find?_eq_none.mp hf 0 (List.mem_range.mpr hr)
  rw [Nat.add_zero] at hz
  cases hg:owner.getD i (some 0) with
  | some b=>rfl
  | none=>rw [hg] at hz;exact absurd rfl hz
theorem Zle {mask:Nat} {owner:Array (Option Nat)}:∀ (n fuel i:Nat),SetTable.layClean.free mask owner (n+fuel) i 0=none→∀ m,m < n→(owner.getD (hop (mask+1) m i) (some 0)).isSome=true
 | 0,fuel,i,h,m,hm=>by omega
 | n+1,fuel,i,h,m,hm=>by
  rw [show n+1+fuel=(n+fuel)+1 by omega] at h
  obtain ⟨h1,h2⟩:=ZlF h
  simp only [Nat.zero_div,Nat.add_zero] at h2
  cases m with
  | zero=>exact h1
  | succ m=>exact Zle n fuel _ h2 m (by omega)
theorem Zlp {mask:Nat} {owner:Array (Option Nat)}:∀ (n fuel i p:Nat),SetTable.layClean.free mask owner (n+fuel) i p=none→i < mask+1→∃ i',i' < mask+1∧SetTable.layClean.free mask owner fuel i' (p / 32 ^ n)=none
 | 0,fuel,i,p,h,hi=>⟨i,hi,by rw [Nat.zero_add] at h;simpa using h⟩
 | n+1,fuel,i,p,h,hi=>by
  rw [show n+1+fuel=(n+fuel)+1 by omega] at h
  obtain ⟨_,h2⟩:=ZlF h
  obtain ⟨i',hi',h3⟩:=Zlp n fuel _ _ h2 (Nat.mod_lt _ (by omega))
  refine ⟨i',hi',?_⟩
  rw [Nat.div_div_eq_div_mul,show 32*32 ^ n=32 ^ (n+1) by rw [Nat.pow_succ,Nat.mul_comm]] at h3
  exact h3
theorem Zvx {mask:Nat} {owner:Array (Option Nat)} {i p:Nat} (hc:cover (mask+1)=true) (hi:i < mask+1) (hp:p < 2 ^ 64) (he:∃ j,j < mask+1∧owner.getD j (some 0)=none):(SetTable.layClean.free mask owner (SetTable.turns mask) i p).isSome=true:=by
 cases h:SetTable.layClean.free mask owner (SetTable.turns mask) i p with
 | some j=>rfl
 | none =>
  exfalso
  rw [show SetTable.turns mask=13+((mask+1)+1) by unfold SetTable.turns;omega] at h
  obtain ⟨i',hi',h2⟩:=Zlp 13 _ i p h hi
  rw [Nat.div_eq_of_lt (Nat.lt_of_lt_of_le hp (by decide))] at h2
  have h3:=Zle (mask+1) 1 i' h2
  obtain ⟨j,hj,e⟩:=he
  obtain ⟨n,hn,en⟩:=Zsu hc hi' hj
  have:=h3 n hn
  rw [en,e] at this
  cases this
theorem ZqO {mask:Nat} {owner:Array (Option Nat)} (hs:owner.size=mask+1):∀ (fuel i p j:Nat),SetTable.layClean.free mask owner fuel i p=some j→i < mask+1→j < mask+1∧owner.getD j (some 0)=none
 | 0,i,p,j,h,hi=>by unfold SetTable.layClean.free at h;cases h
 | fuel+1,i,p,j,h,hi=>by
  unfold SetTable.layClean.free at h
  cases hf:(List.range (SetTable.runEnd mask i+1 - i)).find? fun k=>(owner.getD (i+k) (some 0)).isNone with
  | none =>
   rw [hf] at h
   exact ZqO hs fuel _ _ j h (Nat.mod_lt _ (by omega))
  | some k =>
   rw [hf] at h
   cases h
   have h1:=List.find?_some hf
   have h2:owner.getD (i+k) (some 0)=none:=by simpa using h1
   refine ⟨?_,h2⟩
   refine Nat.lt_of_not_le fun hge=>?_
   rw [Array.getD_eq_getD_getElem?,Array.getElem?_eq_none (by omega)] at h2
   cases h2
theorem ZkW {α:Type} (x:α):∀ {l:List (Option α)} {j:Nat},l[j]?=some none→((l.set j (some x)).filterMap id).Perm (x::l.filterMap id)
 | [],j,h=>by simp at h
 | a::l,0,h=>by
  simp only [List.getElem?_cons_zero,Option.some.injEq] at h
  subst h
  exact List.Perm.refl _
 | a::l,j+1,h=>by
  simp only [List.getElem?_cons_succ] at h
  rw [List.set_cons_succ]
  cases a with
  | none=>exact ZkW x h
  | some b =>
   show (b::(l.set j (some x)).filterMap id).Perm (x::b::l.filterMap id)
   exact ((ZkW x h).cons b).trans (List.Perm.swap x b _)
theorem Zlg:∀ {l:List (Option Nat)},(l.filterMap id).length < l.length→∃ j,j < l.length∧l[j]?=some none
 | [],h=>by simp at h
 | none::l,h=>⟨0,by simp,rfl⟩
 | some a::l,h=>by
  have h':(l.filterMap id).length+1 < l.length+1:=h
  obtain ⟨j,hj,e⟩:=Zlg (l:=l) (by omega)
  exact ⟨j+1,by simp;omega,by simpa using e⟩
structure Lay (M k:Nat) (owner:Array (Option Nat)):Prop where
 sz:owner.size=M
 pm:(owner.toList.filterMap id).Perm (List.range k)
theorem Zs3 {mask k:Nat} {owner:Array (Option Nat)} (hc:cover (mask+1)=true) (L:Lay (mask+1) k owner) (hk:k < mask+1) (h:Int) :
  ∃ j,SetTable.layClean.free mask owner (SetTable.turns mask) (SetTable.bits h % (mask+1)) (SetTable.bits h)=some j∧Lay (mask+1) (k+1) (owner.setIfInBounds j (some k)):=by
 have hb:SetTable.bits h < 2 ^ 64:=by
  unfold SetTable.bits
  have:=Int.emod_lt_of_pos h (show (0:Int) < 2 ^ 64 by decide)
  have:=Int.emod_nonneg h (show (2 ^ 64:Int)≠0 by decide)
  omega
 have hl:(owner.toList.filterMap id).length=k:=by rw [L.pm.length_eq,List.length_range]
 obtain ⟨j,hj,e⟩:=Zlg (l:=owner.toList) (by rw [hl,Array.length_toList,L.sz];exact hk)
 have hj':j < mask+1:=by rw [Array.length_toList,L.sz] at hj;exact hj
 have hi:SetTable.bits h % (mask+1) < mask+1:=Nat.mod_lt _ (by omega)
 have hs:=Zvx (owner:=owner) (i:=SetTable.bits h % (mask+1)) hc hi hb ⟨j,hj',by
  rw [Array.getD_eq_getD_getElem?]
  rw [Array.getElem?_toList] at e
  rw [e];rfl⟩
 obtain ⟨j2,e2⟩:=Option.isSome_iff_exists.mp hs
 obtain ⟨h1,h2⟩:=ZqO L.sz _ _ _ _ e2 hi
 refine ⟨j2,e2,⟨by rw [Array.size_setIfInBounds];exact L.sz,?_⟩⟩
 have h3:owner.toList[j2]?=some none:=by
  rw [Array.getElem?_toList]
  rw [Array.getD_eq_getD_getElem?] at h2
  have h4:j2 < owner.size:=by rw [L.sz];exact h1
  rw [Array.getElem?_eq_getElem h4] at h2 ⊢
  exact congrArg some h2
 rw [Array.toList_setIfInBounds]
 refine (ZkW k h3).trans ?_
 rw [List.range_succ]
 exact ((L.pm.cons k).trans (List.perm_append_singleton k _).symm)
theorem Zpl {mask:Nat} (hc:cover (mask+1)=true):∀ (hs:List Int) (k:Nat) (owner:Array (Option Nat)),Lay (mask+1) k owner→k+hs.length≤mask+1 →
  ∃ o',(hs.foldl (fun (acc:Option (Array (Option Nat)×Nat)) h=>do
   let (owner,k) ← acc
   let j ← SetTable.layClean.free mask owner (SetTable.turns mask) (SetTable.bits h % (mask+1)) (SetTable.bits h)
   pure (owner.setIfInBounds j (some k),k+1)) (some (owner,k)))=some (o',k+hs.length)∧Lay (mask+1) (k+hs.length) o'
 | [],k,owner,L,_=>⟨owner,rfl,L⟩
 | h::hs,k,owner,L,hk=>by
  simp only [List.length_cons] at hk
  obtain ⟨j,e,L2⟩:=Zs3 hc L (by omega) h
  obtain ⟨o',e2,L3'⟩:=Zpl hc hs (k+1) _ L2 (by omega)
  refine ⟨o',?_,by rw [List.length_cons,show k+(hs.length+1)=k+1+hs.length by omega];exact L3'⟩
  rw [List.foldl_cons]
  show hs.foldl _ (some (owner,k) >>= fun x=>_)=_
  rw [Option.bind_eq_bind,Option.bind_some]
  dsimp only
  rw [e]
  rw [Option.bind_eq_bind,Option.bind_some]
  rw [List.length_cons,show k+(hs.length+1)=k+1+hs.length by omega]
  exact e2
theorem Zum (M:Nat):Lay M 0 (Array.replicate M none):=⟨by simp,by simp⟩
theorem Zr4 {mask:Nat} (hc:cover (mask+1)=true) (hs:Array Int) (hn:hs.size≤mask+1):∃ o',SetTable.layClean mask hs=some o'∧Lay (mask+1) hs.size o':=by
 obtain ⟨o',e,L⟩:=Zpl hc hs.toList 0 _ (Zum (mask+1)) (by simpa using hn)
 refine ⟨o',?_,by simpa using L⟩
 unfold SetTable.layClean
 rw [← Array.foldl_toList]
 rw [e];rfl
theorem ZnM {M:Nat} {owner:Array (Option Nat)} (h:owner.size=M):(((List.range M).filterMap fun j=>(owner.getD j none).map (j,·)).map (·.2))=owner.toList.filterMap id:=by
 have e:owner.toList=(List.range M).map fun j=>owner.getD j none:=by
  apply List.ext_getElem?
  intro i
  rw [List.getElem?_map,Array.getElem?_toList]
  by_cases hi:i < M
  ·have h2:i < owner.size:=by omega
   rw [List.getElem?_range hi,Array.getElem?_eq_getElem h2,Option.map_some,Array.getD_eq_getD_getElem?,Array.getElem?_eq_getElem h2];rfl
  ·rw [Array.getElem?_eq_none (by omega),List.getElem?_eq_none (by simp;omega)];rfl
 rw [e,List.filterMap_map,List.map_filterMap]
 congr 1
 funext j
 show Option.map (·.2) (Option.map (j,·) (owner.getD j none))=owner.getD j none
 cases owner.getD j none <;> rfl
theorem Zrs {M:Nat} {owner:Array (Option Nat)} (h:owner.size=M):((List.range M).filterMap fun j=>(owner.getD j none).map (j,·)).length=(owner.toList.filterMap id).length:=by
 rw [← ZnM h,List.length_map]
theorem laid_ok {mask:Nat} (hc:cover (mask+1)=true) (f m:Nat) (l p:Bool) (hs:Array Int) (hn:hs.size≤mask+1) :
  ∃ t order,SetTable.laid mask f m l p hs=some (t,order)∧order.toList.Perm (List.range hs.size)∧t.mask=mask∧t.place.size=hs.size∧t.dummies=#[]∧t.led=l∧t.plain=p:=by
 obtain ⟨o',e,L⟩:=Zr4 hc hs hn
 unfold SetTable.laid
 rw [e]
 refine ⟨_,_,rfl,?_,rfl,?_,rfl,rfl,rfl⟩
 ·rw [List.toList_toArray,ZnM L.sz];exact L.pm
 ·rw [List.size_toArray,List.length_map,Zrs L.sz,L.pm.length_eq,List.length_range]
theorem order_perm {α:Type} (es:Array α) (order:Array Nat) (h:order.toList.Perm (List.range es.size)):(order.filterMap (es[·]?)).toList.Perm es.toList:=by
 rw [Array.toList_filterMap]
 refine (h.filterMap _).trans ?_
 rw [show (List.range es.size).filterMap (fun x=>es[x]?)=es.toList from ?_]
 have:∀ (l:List α),(List.range l.length).filterMap (fun x=>l[x]?)=l:=fun l=>by
  induction l with
  | nil=>rfl
  | cons a l ih =>
   rw [List.length_cons,List.range_succ_eq_map,List.filterMap_cons]
   simp only [List.getElem?_cons_zero,List.filterMap_map]
   congr 1
 have h2:=this es.toList
 rw [Array.length_toList] at h2
 simpa only [Array.getElem?_toList] using h2
end Tb
def bt (w:World):Bool:=w.params.followText "set-order"
structure Tab (w:World) (es:Array (Int×Value)) (t:SetTable) (ks:List Str):Prop where
 el:∀ e∈es.toList,∃ x u,e=(hashStr w x,Value.str x u)
 pm:(es.toList.map fun e=>strOf e.2).Perm ks
 nd:ks.Nodup
 ft:t.fits es.size=true
 ld:bt w=false→t.led=true
 pl:t.plain=true→ks=[]
def SS (w:World) (h:Heap) (a:Addr) (ks:List Str):Prop:=∃ o es ep t,h.get? a=some o∧o.ExactSet∧o.data=.set es ep t∧Tab w es t ks
namespace Tab
variable {w:World} {es es':Array (Int×Value)} {t t':SetTable} {ks ks':List Str}
theorem len (T:Tab w es t ks):es.size=ks.length:=by
 have:=T.pm.length_eq
 rw [List.length_map,Array.length_toList] at this
 exact this
theorem elems (prog:Program) (T:Tab w es t ks):ElemsOf (strKind prog w) es.toList:=fun e he=>by
 obtain ⟨x,u,rfl⟩:=T.el e he
 exact ⟨⟨x,by show Value.isStrOf x (.str x u)=true;simp [Value.isStrOf],rfl⟩,rfl⟩
theorem perm (T:Tab w es t ks) (p:es'.toList.Perm es.toList) (f:t'.fits es'.size=true) (l:bt w=false→t'.led=true) (q:t'.plain=true→ks=[]):Tab w es' t' ks :=
 ⟨fun e he=>T.el e (p.mem_iff.mp he),(p.map _).trans T.pm,T.nd,f,l,q⟩
theorem mem (T:Tab w es t ks) (k:Str):k∈ks↔∃ e∈es.toList,Value.isStrOf k e.2=true:=by
 rw [← T.pm.mem_iff,List.mem_map]
 constructor
 ·rintro ⟨e,he,rfl⟩
  obtain ⟨x,u,rfl⟩:=T.el e he
  exact ⟨_,he,by show Value.isStrOf x (.str x u)=true;simp [Value.isStrOf]⟩
 ·rintro ⟨e,he,h⟩
  obtain ⟨x,u,rfl⟩:=T.el e he
  refine ⟨_,he,?_⟩
  obtain ⟨t,e2⟩:=Value.isStrOf_shape h
  injection e2
end Tab
theorem Zmw (t:SetTable) (n:Nat):(t.orStandIn n).led=t.led:=by
 unfold SetTable.orStandIn
 split <;> rfl
theorem ZuO (t:SetTable) (es:Array (Int×Value)) (h:Int) (x:Value):(layNew t es h x).2.1.led=t.led:=by
 unfold layNew
 split
 ·exact Zmw _ _
 ·rfl
theorem ZqA (t:SetTable) (es:Array (Int×Value)) (n:Nat):(relayAll t es n).2.1.led=t.led∧((relayAll t es n).2.1.plain=true→t.plain=true):=by
 unfold relayAll
 split
 ·rename_i t' order e
  dsimp only
  split
  ·unfold SetTable.relaid SetTable.laid at e
   simp only [Option.bind_eq_bind,Option.bind_eq_some_iff] at e
   obtain ⟨o,_,e⟩:=e
   cases e
   exact ⟨rfl,id⟩
  ·exact ⟨rfl,fun h=>by cases h⟩
 ·exact ⟨rfl,fun h=>by cases h⟩
section
variable {prog:Program} {w:World} {A:Around} {E:Value→Shared→Prop} {s:Shared}
theorem Zfr {h:Heap} {a:Addr} {o:Obj} {es es':Array (Int×Value)} {ep:Nat} {t t':SetTable} {ks:List Str} (ho:h.get? a=some o) (hx:o.ExactSet) (hd:o.data=.set es ep t) (T:Tab w es' t' ks) :
  (h.update a (Obj.putSet es' t')).get? a=some { o with data:=.set es' (ep+1) t' }∧SS w (h.update a (Obj.putSet es' t')) a ks:=by
 have hg:(h.update a (Obj.putSet es' t')).get? a=some { o with data:=.set es' (ep+1) t' }:=by
  have hz:=Heap.get?_update_self (Obj.putSet es' t') ho (by rw [putSet_of es' t' hd];rfl)
  rw [putSet_of es' t' hd] at hz
  exact hz
 exact ⟨hg,_,es',ep+1,t',hg,hx,rfl,T⟩
theorem ZuR {es es1:Array (Int×Value)} {t t1:SetTable} {ks:List Str} {k:Str} {u:Tok} (T:Tab w es t ks) (hk:k∉ks) (p:es1.toList.Perm (es.toList++[(hashStr w k,Value.str k u)])) (f:t1.fits es1.size=true) (l:t1.led=t.led) (q:t1.plain=false):Tab w es1 t1 (k::ks):=by
 refine ⟨fun e he=>?_,?_,List.nodup_cons.mpr ⟨hk,T.nd⟩,f,fun h=>by rw [l];exact T.ld h,fun h=>by rw [q] at h;cases h⟩
 ·rcases List.mem_append.mp (p.mem_iff.mp he) with he | he
  ·exact T.el e he
  ·exact ⟨k,u,List.mem_singleton.mp he⟩
 ·refine (p.map _).trans ?_
  rw [List.map_append]
  exact (List.perm_append_singleton k _).trans (T.pm.cons k)
theorem Ztv {a:Addr} {ks:List Str} {k:Str} {u:Tok} {Q:Bool→Shared→Prop} (hS:SS w s.heap a ks) (hn:ks.length+1 < scanBound)
  (h:∀ h' b,Heap.SameBut a s.heap h'→SS w h' a (if k∈ks then ks else k::ks)→Q b { s with heap:=h' }):wpAny (model prog w) A (setAddHashed a (.str k u) (hashStr w k)) Q E s:=by
 obtain ⟨o,es,ep,t,ho,hx,hd,T⟩:=hS
 have hel:=T.elems prog
 have hkey:(strKind prog w).is k (.str k u)=true:=by show Value.isStrOf k (.str k u)=true;simp [Value.isStrOf]
 have hsc:(Value.str k u).scannable=true:=rfl
 have hsz:=T.len
 have hb:es.size < scanBound:=by omega
 unfold setAddHashed setAddHashedIn
 refine wpAny_holding (wpAny_bind (wpAny_setState_of ho hd T.ft ?_))
 dsimp only
 rw [byScan_of hsc hb hel,if_pos rfl]
 refine wpAny_bind ?_
 unfold setAddByScan
 refine wpAny_bind (wpAny_rule ?_)
 refine wpAny_bind (wpAny_setScan_of (knd:=strKind prog w) hkey ho hd T.ft hel ?_)
 have hgave:∀ (b:Bool) {s₁:Shared} {Q':Unit→Shared→Prop},Q' () s₁→wpAny (model prog w) A (match b with | true=>rule "set.scan.the-table-gave-way" | false=>pure ()) Q' E s₁:=fun b s₁ Q' z=>by
  cases b
  ·exact wpAny_pure z
  ·exact wpAny_rule z
 cases hr:List.findIdx? (fun e=>(strKind prog w).is k e.2) es.toList with
 | some j =>
  obtain ⟨hj,hpj,_⟩:=List.findIdx?_eq_some_iff_getElem.mp hr
  have hin:k∈ks:=(T.mem k).mpr ⟨_,List.getElem_mem hj,hpj⟩
  have hz:=h s.heap false (Heap.SameBut.refl a s.heap) (by rw [if_pos hin];exact ⟨o,es,ep,t,ho,hx,hd,T⟩)
  exact wpAny_pure (wpAny_pure hz)
 | none =>
  have hout:k∉ks:=fun hin=>by
   obtain ⟨e,he,hp⟩:=(T.mem k).mp hin
   have hz:=List.findIdx?_eq_none_iff.mp hr e he
   exact Bool.noConfusion (hz.symm.trans hp)
  have hperm:=layNew_perm t es (hashStr w k) (.str k u)
  have hfits:=layNew_fits t es (hashStr w k) (.str k u)
  have hled:=ZuO t es (hashStr w k) (.str k u)
  rw [if_neg hout] at h
  dsimp only
  show wpAny (model prog w) A _ _ E s
  have hhash:(strKind prog w).hash k=hashStr w k:=rfl
  revert hperm hfits hled
  generalize layNew t es (hashStr w k) (.str k u)=L
  obtain ⟨es1,t1,dm,gv⟩:=L
  intro hperm hfits hled
  dsimp only at hperm hfits hled ⊢
  rw [Array.toList_push] at hperm
  refine wpAny_bind (hgave _ ?_)
  have hz1:es1.size=es.size+1:=by rw [← Array.length_toList,hperm.length_eq,List.length_append,Array.length_toList];rfl
  have fin:∀ t2:SetTable,t2.fits es1.size=true→t2.led=t.led→t2.plain=false→wpAny (model prog w) A (do
    storeSet a es1 t2
    if (!dm&&t2.tooFull)=true then do
      (match (relayAll t2 es1 (SetTable.grown es1.size)).2.2 with | true=>rule "set.scan.the-table-gave-way" | false=>pure ())
      storeSet a (relayAll t2 es1 (SetTable.grown es1.size)).1 (relayAll t2 es1 (SetTable.grown es1.size)).2.1
      pure (some true)
     else pure (some true)) (fun r s'=>wpAny (model prog w) A (match r with | some added=>pure added | none=>setAddHashedIn a (.str k u) (hashStr w k) 99999) Q E s') E s:=fun t2 f2 l2 p2=>by
   have T2:Tab w es1 t2 (k::ks):=ZuR T hout hperm f2 l2 p2
   refine wpAny_bind (wpAny_storeSet_of ho hd ?_ (fits_of_scanBound (by omega)))
   obtain ⟨ho1,hS1⟩:=Zfr ho hx hd T2
   have b1:=Heap.SameBut.update s.heap a (Obj.putSet es1 t2)
   split
   ·have hp:=relayAll_perm t2 es1 (SetTable.grown es1.size)
    have hf:=relayAll_fits t2 es1 (SetTable.grown es1.size)
    have hg:=ZqA t2 es1 (SetTable.grown es1.size)
    have T3:=T2.perm hp hf (fun z=>by rw [hg.1,l2];exact T.ld z) (fun z=>by rw [hg.2 z] at p2;cases p2)
    refine wpAny_bind (hgave _ ?_)
    refine wpAny_bind (wpAny_storeSet_of ho1 rfl ?_ (fits_of_scanBound (by rw [T3.len,← T2.len];omega)))
    obtain ⟨_,hS2⟩:=Zfr ho1 hx rfl T3
    exact wpAny_pure (wpAny_pure (h _ _ (b1.trans (Heap.SameBut.update _ a _)) hS2))
   ·exact wpAny_pure (wpAny_pure (h _ _ b1 hS1))
  split
  ·refine wpAny_bind ?_
   rw [hashByValue_scannable 8 hsc]
   refine wpAny_pure ?_
   exact fin _ (SetTable.fits_plain_off hfits) hled rfl
  ·rename_i hpl
   refine wpAny_bind (wpAny_pure ?_)
   exact fin _ hfits hled (by simpa using hpl)
end
section
variable {prog:Program} {w:World} {A:Around} {E:Value→Shared→Prop} {s:Shared}
theorem SS.kept {h h':Heap} {a:Addr} {ks:List Str} (S:SS w h a ks) (k:∀ o,h.get? a=some o→h'.get? a=some o):SS w h' a ks:=by
 obtain ⟨o,es,ep,t,ho,r⟩:=S
 exact ⟨o,es,ep,t,k o ho,r⟩
theorem SS.nd {h:Heap} {a:Addr} {ks:List Str} (S:SS w h a ks):ks.Nodup:=by
 obtain ⟨o,es,ep,t,ho,_,_,T⟩:=S
 exact T.nd
theorem ZnE {h:Heap} {a:Addr} (led:Bool) (hl:bt w=false→led=true) (ho:h.get? a=some { cls:=.type "set",dict:=none,data:=.set #[] 0 (.fresh 0 0 led) }):SS w h a [] :=
 ⟨_,#[],0,_,ho,⟨rfl,rfl,rfl⟩,rfl,⟨fun e he=>by simp at he,List.Perm.refl _,List.nodup_nil,rfl,hl,fun _=>rfl⟩⟩
theorem Zvu {R:Result→Shared→Prop} {I:Addr} {fp wr:List Addr} {G:Array GenState→Array GenState→Prop} {n:Nat} {P:Nat→Value→Prop} {St:Nat→Shared→Prop} (W:WalksS prog w A.in1 I fp wr G n P St) {S:Addr} (hSf:S∉fp)
  {val:Nat→Str} (hval:∀ i v,P i v→∃ t,v=.str (val i) t):∀ (k i:Nat) (s:Shared) (ks:List Str),n - i=k→i≤n→St i s→SS w s.heap S ks→ks.length+k < scanBound →
   (∀ s' ks',Moved (S::wr) G s s'→SS w s'.heap S ks'→(∀ x,x∈ks'↔x∈ks∨∃ j,i≤j∧j < n∧val j=x)→R (.ok (.ret .none)) s') →
   codeAny (model prog w) A (.builtin "set.update.loop" ⟨[.ref S,.ref I],[]⟩) R s:=by
 have hSw:S∉wr:=fun z=>hSf (W.sub _ z)
 have hsub:∀ b∈wr,b∈S::wr:=fun b z=>List.mem_cons_of_mem _ z
 intro k
 induction k with
 | zero =>
  intro i s ks hk hi hst hS _ hR
  obtain rfl:i=n:=by omega
  refine codeAny_builtin PyProof.Rows.F.entry_set_update_loop ?_
  rw [Around.under_plainId PyProof.Rows.F.plain_set_update_loop _]
  refine wpAny_bind (m:=pyNext (.ref I)) (W.done s _ _ hst fun s' hm=>?_)
  refine wpAny_pure (hR s' ks (hm.mono hsub) (hS.kept fun o e=>hm.heap S o hSw e) fun x=>⟨.inl,?_⟩)
  rintro (h | ⟨j,h1,h2,_⟩)
  ·exact h
  ·omega
 | succ k ih =>
  intro i s ks hk hi hst hS hn hR
  have hlt:i < n:=by omega
  refine codeAny_builtin PyProof.Rows.F.entry_set_update_loop ?_
  rw [Around.under_plainId PyProof.Rows.F.plain_set_update_loop _]
  refine wpAny_bind (m:=pyNext (.ref I)) (W.item i s _ _ hlt hst fun v s1 hP hst1 hm=>?_)
  obtain ⟨t,rfl⟩:=hval i v hP
  have hS1:SS w s1.heap S ks:=hS.kept fun o e=>hm.heap S o hSw e
  refine wpAny_bind (m:=holding [Value.str (val i) t] (setAdd S (.str (val i) t))) (wpAny_holding ?_)
  unfold setAdd
  refine wpAny_holding (wpAny_bind ((strKind prog w).pyHash (k:=val i) (by show Value.isStrOf (val i) (.str (val i) t)=true;simp [Value.isStrOf]) ?_))
  refine Ztv (s:={ s1 with toks:=s1.toks+1 }) hS1 (by omega) fun h' b hsb hS2=>?_
  refine wpAny_pure ⟨plainId_quiet PyProof.Rows.F.plain_set_update_loop _,ih (i+1) _ _ (by omega) hlt (W.frame _ s1 _ _ hst1 (Nat.le_succ _) fun c hc o e=>?_) hS2 ?_ fun s2 ks' hm2 hS3 hx=>?_⟩
  ·rw [hsb.2 c fun z:c=S=>hSf (by rw [← z];exact hc)];exact e
  ·split
   ·omega
   ·rw [List.length_cons];omega
  ·refine hR s2 ks' (Moved.trans W.gtrans ((hm.mono hsub).then_heap (Nat.le_succ _) fun c o hc e=>?_) hm2) hS3 fun x=>(hx x).trans ?_
   ·rw [hsb.2 c fun z:c=S=>hc (by rw [z];exact List.mem_cons_self)];exact e
   ·have hmem:x∈(if val i∈ks then ks else val i::ks)↔x∈ks∨val i=x:=by
     split
     ·rename_i hin
      exact ⟨.inl,fun z=>z.elim id fun e=>e▸hin⟩
     ·rw [List.mem_cons]
      exact ⟨fun z=>z.elim (fun e=>.inr e.symm) .inl,fun z=>z.elim .inr fun e=>.inl e.symm⟩
    rw [hmem]
    constructor
    ·rintro ((h | h) | ⟨j,h1,h2,h3⟩)
     ·exact .inl h
     ·exact .inr ⟨i,Nat.le_refl _,hlt,h⟩
     ·exact .inr ⟨j,by omega,h2,h3⟩
    ·rintro (h | ⟨j,h1,h2,h3⟩)
     ·exact .inl (.inl h)
     ·by_cases e:j=i
      ·subst e;exact .inl (.inr h3)
      ·exact .inr ⟨j,by omega,h2,h3⟩
end
abbrev Zbb (led:Bool):Obj:={ cls:=.type "set",dict:=none,data:=.set #[] 0 (.fresh 0 0 led) }
section
variable {prog:Program} {w:World} {A:Around} {E:Value→Shared→Prop} {s:Shared}
theorem Zug {Q:Value→Shared→Prop} (h:∀ led:Bool,(bt w=false→led=true)→Q (.ref s.heap.objs.size) { s with heap:=s.heap.push (Zbb led) }):wpAny (model prog w) A (newSet (.type "set")) Q E s:=by
 unfold newSet setsByText
 walk_at "pb"
 simp only [newObj]
 refine wpAny_bind (wpAny_alloc (wpAny_pure (h _ fun z=>?_)))
 show (!(bt w))=true
 rw [z];rfl
theorem Zs8 (a:Value) {Q:Value→Shared→Prop} (h:∀ led:Bool,(bt w=false→led=true)→Q (.ref s.heap.objs.size) { s with heap:=s.heap.push (Zbb led) }) :
  codeAny (model prog w) A (.call (.builtin "set.__new__") ⟨[.type "set",a],[]⟩) (wants Q E) s:=by
 refine codeAny_of_tree (?_:wpAny _ A.in1 (do checkBuiltinCall "set.__new__" ⟨[.type "set",a],[]⟩;again (.builtin "set.__new__" ⟨[.type "set",a],[]⟩)) _ _ s)
 refine wpAny_bind (wpAny_of_eq (PySem.F.newCall_set_1 a) (wpAny_pure ⟨plainId_quiet PySem.F.plain_set_new _,codeAny_builtin PySem.F.entry_set_new ?_⟩))
 rw [Around.under_plainId PySem.F.plain_set_new _];unfold Builtin.«set.__new__» Builtin.Frozenset.newClass
 have hq:=sub_set_self
 obtain ⟨hp,g,d,tk,os⟩:=s
 dsimp only
 wp_walk
 refine wpAny_askSetting (wpAny_pure ?_)
 simp only [newObj]
 refine wpAny_bind (wpAny_alloc (wpAny_pure (wpAny_pure (h _ fun z=>?_))))
 show (!(bt w))=true
 rw [z];rfl
theorem ZqT:∀ {vs:List Value} {xs:List Str},StrsAre vs xs→∀ (i:Nat) (v:Value),vs[i]?=some v→∃ t,v=.str (xs.getD i (Str.ofString "")) t
 | _,_,.nil,i,v,h=>by simp at h
 | _,_,.cons x t r,0,v,h=>⟨t,by simp at h;exact h.symm⟩
 | _,_,.cons x t r,i+1,v,h=>ZqT r i v (by simpa using h)
set_option maxHeartbeats 3200000 in
theorem Znt {l:Addr} {items:Array Value} {xs:List Str} {Q:Value→Shared→Prop} (hh:A.handled=none) (hl:s.heap.IsList l items) (hi:StrsAre items.toList xs) (hb:items.size < scanBound)
  (h:∀ (h':Heap) (tk:Nat) (ks:List Str),SS w h' s.heap.objs.size ks→(∀ x,x∈ks↔x∈xs)→(∀ b o,b < s.heap.objs.size→s.heap.get? b=some o→h'.get? b=some o)→Q (.ref s.heap.objs.size) { s with heap:=h',toks:=tk }) :
  wpAny (model prog w) A (call (.type "set") [.ref l]) Q E s:=by
 obtain ⟨c,tl,hmro⟩:=PySem.F.called_set.mro
 have hmade:=PySem.F.called_set.made
 have hsub:=PySem.F.called_set.sub
 refine wpAny_call (codeAny_of_tree (?_:wpAny _ _ (callAny (.type "set") _) _ _ _))
 refine wpAny_pure ⟨Code.quiet_builtin _ (by decide +kernel),codeAny_builtin PySem.F.entry_type_call ?_⟩
 rw [Around.under_plain (weight_type_call_type "set" [.ref l] []) rfl]
 have h1:=PySem.F.called_set.notType
 have h2:=PySem.F.called_set.canCreate
 have hct:=PySem.F.typeCall_set_1 (.ref l)
 (repeat (any_goals (first | assumption | wp_step)))
 refine codeAny_mono (Zs8 (.ref l) (E:=E) (Q:=fun obj s₁=>∃ led:Bool,(bt w=false→led=true)∧obj=.ref s.heap.objs.size∧s₁={ s with heap:=s.heap.push (Zbb led) }) fun led z=>⟨led,z,rfl,rfl⟩) fun r s₁ hr=>?_
 match r,hr with
 | .error e,hr=>exact hr
 | .ok .next,hr=>exact hr.elim
 | .ok .brk,hr=>exact hr.elim
 | .ok .cont,hr=>exact hr.elim
 | .ok (.ret obj),hr =>
  obtain ⟨led,hled,rfl,rfl⟩:=hr
  have hS:(s.heap.push (Zbb led)).get? s.heap.objs.size=some (Zbb led):=Heap.get?_push_size _ rfl
  have hT:Shared.TypeIs { s with heap:=s.heap.push (Zbb led) } (.ref s.heap.objs.size) "set":=⟨_,hS,rfl⟩
  have hli:=PySem.F.called_set.init.lookup
  have hbi:=PySem.F.called_set.init.bind (.ref s.heap.objs.size)
  (repeat (any_goals (first | assumption | wp_step)))
  refine codeAny_mono (codeAny_call_builtin (R:=wants (fun r s₂=>r=.none∧∃ h' tk ks,s₂={ s with heap:=h',toks:=tk }∧SS w h' s.heap.objs.size ks∧(∀ x,x∈ks↔x∈xs)∧(∀ b o,b < s.heap.objs.size→s.heap.get? b=some o→h'.get? b=some o)) E) PySem.F.called_set.init.plain PySem.F.entry_set_init (check_set_init_1 hT ?_)) fun r₂ s₂ hr₂=>?_
  ·obtain ⟨ol,hol,hcl,nl,hdl⟩:=hl
   obtain ⟨ocls,odict,odata,oslots⟩:=ol
   simp only at hcl hdl
   subst hcl hdl
   have hol':(s.heap.push (Zbb led)).get? l=some { cls:=.type "list",dict:=odict,data:=.seq items nl,slots:=oslots }:=Heap.get?_push_of_some _ hol
   have hs1:=PySem.F.sub_list_set
   have hs2:=PySem.F.sub_list_frozenset
   have hne:(Value.type "list"==Value.type "dict")=false:=by decide
   have hl1:(s.heap.push (Zbb led)).IsList l items:=⟨_,hol',rfl,nl,rfl⟩
   unfold Builtin.«set.__init__» noKeywords Builtin.Frozenset.updateFrom
   generalize hPI:pyIter=PI
   wp_walk
   subst hPI
   refine wpAny_pyIter_list hl1 (wpAny_bind (wpAny_runValue ?_))
   have hlS:l < s.heap.objs.size:=Heap.lt_size hol
   have hneI:l≠(s.heap.push (Zbb led)).objs.size:=by rw [Heap.size_push];exact Nat.ne_of_lt (Nat.lt_succ_of_lt hlS)
   have hSf:s.heap.objs.size∉[(s.heap.push (Zbb led)).objs.size,l]:=by
    rw [Heap.size_push]
    simp only [List.mem_cons,List.not_mem_nil,or_false,not_or]
    exact ⟨Nat.ne_of_lt (Nat.lt_succ_self _),Nat.ne_of_gt hlS⟩
   have hval:∀ (i:Nat) (v:Value),items[i]?=some v→∃ t,v=.str (xs.getD i (Str.ofString "")) t:=fun i v hv=>ZqT hi i v (by rw [Array.getElem?_toList];exact hv)
   have hxl:items.size=xs.length:=by rw [← Array.length_toList];exact hi.length
   refine Zvu ((Walks.list (by simp [hh]) _ l hneI items).toS) hSf hval (items.size - 0) 0 _ [] (by omega) (Nat.zero_le _) ⟨⟨_,Heap.get?_push_size _ rfl,rfl,rfl⟩,hl1.push _⟩ ?_ (by simp only [List.length_nil];omega) ?_
   ·exact ZnE led hled (Heap.get?_push_of_some _ hS)
   ·intro s' ks hm hS' hx
    obtain ⟨h',g',d',tk',os'⟩:=s'
    obtain rfl:g'=s.gens:=hm.gens
    obtain rfl:d'=s.drawn:=hm.drawn
    obtain rfl:os'=s.os:=hm.os
    refine wpAny_pure (wpAny_pure ⟨rfl,h',tk',ks,rfl,hS',fun x=>(hx x).trans ?_,fun b o hb e=>?_⟩)
    ·constructor
     ·rintro (z | ⟨j,_,hj,e⟩)
      ·cases z
      ·rw [← e]
       rw [List.getD_eq_getElem?_getD,List.getElem?_eq_getElem (by omega)]
       exact List.getElem_mem _
     ·intro hx
      obtain ⟨j,hj,e⟩:=List.getElem_of_mem hx
      refine .inr ⟨j,Nat.zero_le _,by omega,?_⟩
      rw [List.getD_eq_getElem?_getD,List.getElem?_eq_getElem hj]
      exact e
    ·refine hm.heap b o ?_ (Heap.get?_push_of_some _ (Heap.get?_push_of_some _ e))
     simp only [List.mem_cons,List.not_mem_nil,or_false,not_or]
     rw [Heap.size_push]
     exact ⟨Nat.ne_of_lt hb,Nat.ne_of_lt (Nat.lt_succ_of_lt hb)⟩
  ·match r₂,hr₂ with
   | .error e,hr₂=>exact hr₂
   | .ok .next,hr₂=>exact hr₂.elim
   | .ok .brk,hr₂=>exact hr₂.elim
   | .ok .cont,hr₂=>exact hr₂.elim
   | .ok (.ret r),hr₂ =>
    obtain ⟨rfl,h',tk,ks,rfl,hS',hx,hk'⟩:=hr₂
    (repeat (any_goals (first | assumption | wp_step)))
    exact h _ _ _ hS' hx hk'
end
theorem ZrY {n:Nat} (h:n < 128):(SetTable.sizeAbove n=8∨SetTable.sizeAbove n=16∨SetTable.sizeAbove n=32∨SetTable.sizeAbove n=64∨SetTable.sizeAbove n=128)∧n < SetTable.sizeAbove n:=by
 have:∀ m:Fin 128,(SetTable.sizeAbove m.1=8∨SetTable.sizeAbove m.1=16∨SetTable.sizeAbove m.1=32∨SetTable.sizeAbove m.1=64∨SetTable.sizeAbove m.1=128)∧m.1 < SetTable.sizeAbove m.1:=by decide +kernel
 exact this ⟨n,h⟩
theorem ZiO {n:Nat} (h:n < 128):Tb.cover (SetTable.sizeAbove n - 1+1)=true∧n < SetTable.sizeAbove n∧SetTable.sizeAbove n≤128:=by
 obtain ⟨h1,h2⟩:=ZrY h
 rcases h1 with e | e | e | e | e <;> rw [e] at h2 ⊢
 ·exact ⟨Tb.cover8,h2,by decide⟩
 ·exact ⟨Tb.cover16,h2,by decide⟩
 ·exact ⟨Tb.cover32,h2,by decide⟩
 ·exact ⟨Tb.cover64,h2,by decide⟩
 ·exact ⟨Tb.cover128,h2,by decide⟩
theorem Zqu {t:SetTable} {n:Nat} (h1:t.place.size=n) (h2:t.dummies=#[]) (h3:n≤t.mask):t.fits n=true:=by
 unfold SetTable.fits SetTable.fill
 rw [h2,h1]
 simp
 exact h3
section
variable {prog:Program} {w:World} {A:Around} {E:Value→Shared→Prop} {s:Shared}
theorem Zne {es:Array (Int×Value)} {t:SetTable} {ks:List Str} (T:Tab w es t ks) {mask f m:Nat} {l p:Bool} (hc:Tb.cover (mask+1)=true) (hn:ks.length≤mask) (hl:bt w=false→l=true) (hp:p=true→ks=[]) :
  ∃ t' order,SetTable.laid mask f m l p (es.map (·.1))=some (t',order)∧(order.filterMap (es[·]?)).size=es.size∧Tab w (order.filterMap (es[·]?)) t' ks:=by
 have hz:=T.len
 obtain ⟨t',order,e,hpm,e1,e2,e3,e4,e5⟩:=Tb.laid_ok hc f m l p (es.map (·.1)) (by rw [Array.size_map];omega)
 rw [Array.size_map] at hpm e2
 have hq:=Tb.order_perm es order hpm
 have hsz:(order.filterMap (es[·]?)).size=es.size:=by rw [← Array.length_toList,hq.length_eq,Array.length_toList]
 refine ⟨t',order,e,hsz,T.perm hq ?_ (fun z=>by rw [e4];exact hl z) fun z=>hp (by rw [← e5];exact z)⟩
 rw [hsz]
 exact Zqu e2 e3 (by rw [e1];omega)
theorem Zrt {a:Addr} {ks:List Str} {n:Nat} {Q:Unit→Shared→Prop} (hS:SS w s.heap a ks) (hn:n < 128) (hk:ks.length≤n)
  (h:∀ h',Heap.SameBut a s.heap h'→SS w h' a ks→Q () { s with heap:=h' }):wpAny (model prog w) A (setRelay a n) Q E s:=by
 obtain ⟨o,es,ep,t,ho,hx,hd,T⟩:=hS
 obtain ⟨hc,h1,h2⟩:=ZiO hn
 have hz:=T.len
 unfold setRelay
 walk_at "pq"
 dsimp only
 rw [if_neg (by have:(128:Nat)≤sizeLine:=by decide
                omega)]
 obtain ⟨t',order,e,hsz,T'⟩:=Zne (f:=t.finger) (m:=t.movedTo (SetTable.sizeAbove n - 1)) (l:=t.led) (p:=t.plain) T hc (by omega) T.ld T.pl
 refine wpAny_bind ?_
 unfold SetTable.relaid
 rw [e]
 show wpAny (model prog w) A (if ((order.filterMap (es[·]?)).size != es.size)=true then _ else pure (order.filterMap (es[·]?),t')) _ E s
 rw [if_neg (by rw [hsz];simp)]
 refine wpAny_pure (wpAny_storeSet_of ho hd ?_ (fits_of_scanBound (by rw [hsz];unfold scanBound;omega)))
 exact h _ (Heap.SameBut.update s.heap a _) (Zfr ho hx hd T').2
theorem Zuh {a:Addr} {ks:List Str} {n:Nat} {Q:Unit→Shared→Prop} (hS:SS w s.heap a ks) (hn:ks.length+n < 64)
  (h:∀ h',Heap.SameBut a s.heap h'→SS w h' a ks→Q () { s with heap:=h' }):wpAny (model prog w) A (setRoomFor a n) Q E s:=by
 have hS':=hS
 obtain ⟨o,es,ep,t,ho,hx,hd,T⟩:=hS
 have hz:=T.len
 unfold setRoomFor
 walk_at "pq"
 have hp:t.place.size=es.size:=by
  have:=T.ft
  unfold SetTable.fits at this
  simp only [Bool.and_eq_true,beq_iff_eq] at this
  exact this.1
 dsimp only
 unfold SetTable.roomFor
 split
 ·rename_i v e
  split at e
  ·cases e
   exact Zrt hS' (by omega) (by omega) h
  ·cases e
 ·exact wpAny_pure (h s.heap (Heap.SameBut.refl a s.heap) hS')
end
theorem Zhy {α:Type}:∀ (l:List α) (i:Nat) (h:i < l.length),(l[i]::l.eraseIdx i).Perm l
 | a::l,0,h=>List.Perm.refl _
 | a::l,i+1,h=>by
  have h':i < l.length:=Nat.lt_of_succ_lt_succ h
  exact (List.Perm.swap a (l[i]'h') (l.eraseIdx i)).trans ((Zhy l i h').cons a)
theorem ZqR {α:Type} (next:Nat→Nat):∀ (n k:Nat) (left:List α) (out:Array α),left.length=n→(pickOrder.go next n k left out).toList.Perm (out.toList++left)
 | 0,k,left,out,h=>by
  obtain rfl:=List.length_eq_zero_iff.mp h
  rw [List.append_nil]
  exact List.Perm.refl _
 | n+1,k,left,out,h=>by
  have hlt:next k % left.length < left.length:=Nat.mod_lt _ (by omega)
  unfold pickOrder.go
  rw [List.getElem?_eq_getElem hlt]
  dsimp only
  refine (ZqR next n (k+1) _ _ (by rw [List.length_eraseIdx_of_lt hlt];omega)).trans ?_
  rw [Array.toList_push,List.append_assoc]
  refine List.Perm.append_left _ ?_
  exact Zhy left _ hlt
theorem Zlb {α:Type} (next:Nat→Nat) (xs:Array α):(pickOrder next xs).toList.Perm xs.toList:=by
 have:=ZqR next xs.size 0 xs.toList #[] (by simp)
 unfold pickOrder
 simpa using this
section
variable {prog:Program} {w:World} {A:Around} {E:Value→Shared→Prop} {s:Shared}
theorem Zk2 {Q:Option Bool×Unit→Shared→Prop} {f:Int×Value→Option Bool×Unit→Sem (ForInStep (Option Bool×Unit))} (hf:∀ e,(∃ x u,e=(hashStr w x,Value.str x u))→f e (none,())=pure (ForInStep.yield (none,()))) :
  ∀ (l:List (Int×Value)),(∀ e∈l,∃ x u,e=(hashStr w x,Value.str x u))→Q (none,()) s→wpAny (model prog w) A (forIn l (none,()) f) Q E s
 | [],_,q=>wpAny_pure q
 | e::l,h,q=>by
  rw [List.forIn_cons,hf e (h e List.mem_cons_self)]
  exact wpAny_bind (wpAny_pure (Zk2 hf l (fun x hx=>h x (List.mem_cons_of_mem _ hx)) q))
theorem Zr0 {a b:Addr} {ka kb:List Str} {Q:Bool→Shared→Prop} (ha:SS w s.heap a ka) (hb:SS w s.heap b kb) (q:Q true s):wpAny (model prog w) A (setsQuiet [a,b]) Q E s:=by
 obtain ⟨oa,ea,pa,ta,ho,hx,hd,T⟩:=ha
 obtain ⟨ob,eb,pb,tb,ho2,hx2,hd2,T2⟩:=hb
 have hyield:∀ e:Int×Value,(∃ x u,e=(hashStr w x,Value.str x u))→True:=fun _ _=>trivial
 unfold setsQuiet
 refine wpAny_bind ?_
 rw [List.forIn_cons]
 refine wpAny_bind (wpAny_bind (wpAny_setEntries_of ho hd T.ft ?_))
 rw [← Array.forIn_toList]
 refine wpAny_bind (Zk2 (w:=w) (fun e he=>?_) ea.toList T.el (wpAny_pure ?_))
 ·obtain ⟨x,u,rfl⟩:=he;rfl
 dsimp only
 rw [List.forIn_cons]
 refine wpAny_bind (wpAny_bind (wpAny_setEntries_of ho2 hd2 T2.ft ?_))
 rw [← Array.forIn_toList]
 refine wpAny_bind (Zk2 (w:=w) (fun e he=>?_) eb.toList T2.el (wpAny_pure ?_))
 ·obtain ⟨x,u,rfl⟩:=he;rfl
 dsimp only
 rw [List.forIn_nil]
 exact wpAny_pure (wpAny_pure q)
theorem Zuu {o f:Addr} {ko ks:List Str} {ob:Obj} {es:Array (Int×Value)} {ep:Nat} {t:SetTable} {Q:Array (Int×Value)→Shared→Prop} (ho:s.heap.get? o=some ob) (hx:ob.ExactSet) (hd:ob.data=.set es ep t) (T:Tab w es t ko) (hf:SS w s.heap f ks) (hk:ks.length < scanBound)
  (h:∀ h' l,Heap.SameBut f s.heap h'→SS w h' f ks→l.toList.Perm es.toList→Q l { s with heap:=h' }):wpAny (model prog w) A (setWalkUnseen o [f] (some f)) Q E s:=by
 have hz:=T.len
 have hall:bt w=true∨es.size≤1→wpAny (model prog w) A (setWalk o) Q E s:=fun hw=>by
  unfold setWalk
  walk_at "pq"
  dsimp only
  unfold setsByText
  walk_at "pb"
  show wpAny (model prog w) A (if bt w=true then _ else _) Q E s
  by_cases hb:bt w=true
  ·rw [if_pos hb]
   exact wpAny_bind (wpAny_askSetting (wpAny_pure (h s.heap _ (Heap.SameBut.refl _ _) hf (Zlb _ _))))
  ·rw [if_neg hb]
   have h1:es.size≤1:=hw.resolve_left hb
   show wpAny (model prog w) A (if (!t.plain&&decide (es.size > 1))=true then _ else _) Q E s
   rw [if_neg (by have:¬ es.size > 1:=by omega
                  simp [this])]
   refine wpAny_bind ?_
   show wpAny (model prog w) A (if (!t.led&&decide (es.size > 1))=true then _ else pure ()) _ E s
   rw [if_neg (by have:¬ es.size > 1:=by omega
                  simp [this])]
   exact wpAny_pure (wpAny_pure (h s.heap _ (Heap.SameBut.refl _ _) hf (List.Perm.refl _)))
 unfold setWalkUnseen
 walk_at "pq"
 dsimp only
 unfold setsByText
 walk_at "pb"
 show wpAny (model prog w) A (if (bt w||t.led&&t.plain||decide (es.size≤1))=true then _ else _) Q E s
 by_cases hc:(bt w||t.led&&t.plain||decide (es.size≤1))=true
 ·rw [if_pos hc]
  refine hall ?_
  simp only [Bool.or_eq_true,Bool.and_eq_true,decide_eq_true_eq] at hc
  rcases hc with (hc | hc) | hc
  ·exact .inl hc
  ·have:=T.pl hc.2
   subst this
   exact .inr (by rw [hz];decide)
  ·exact .inr hc
 ·rw [if_neg hc]
  simp only [Bool.or_eq_true,Bool.and_eq_true,decide_eq_true_eq,not_or] at hc
  have hb:bt w=false:=by simpa using hc.1.1
  refine wpAny_bind (Zr0 ⟨ob,es,ep,t,ho,hx,hd,T⟩ hf ?_)
  rw [if_neg (by decide)]
  refine wpAny_bind (wpAny_rule ?_)
  have hf':=hf
  obtain ⟨of,ef,pf,tf,hof,hxf,hdf,Tf⟩:=hf
  refine wpAny_bind (wpAny_setState_of hof hdf Tf.ft ?_)
  dsimp only
  split
  ·refine wpAny_bind (wpAny_storeSet_of hof hdf ?_ ?_)
   ·refine wpAny_pure (h _ _ (Heap.SameBut.update s.heap f _) (Zfr hof hxf hdf (Tf.perm (List.Perm.refl _) ?_ (fun _=>?_) fun z=>?_)).2 (List.Perm.refl _))
    ·cases tf;exact Tf.ft
    ·show (tf.led&&t.led)=true
     rw [Tf.ld hb,T.ld hb];rfl
    ·refine Tf.pl ?_
     have z':(tf.plain&&t.plain)=true:=z
     simp only [Bool.and_eq_true] at z'
     exact z'.1
   ·exact fits_of_scanBound (by rw [Tf.len];exact hk)
  ·exact wpAny_pure (h _ _ (Heap.SameBut.refl _ _) hf' (List.Perm.refl _))
theorem Zp6 {a o:Addr} {ob:Obj} {es:Array (Int×Value)} {ep:Nat} {t:SetTable} (hne:o≠a) (hd:ob.data=.set es ep t) (hf:t.fits es.size=true) {each:Sem Unit} (he:∀ (s':Shared) (Q':Unit→Shared→Prop),s'.heap.get? o=some ob→Q' () s'→wpAny (model prog w) A each Q' E s') {f:Int×Value→PUnit→Sem (ForInStep PUnit)}
  (hbody:∀ x u,f (hashStr w x,Value.str x u) PUnit.unit=(do let _ ← holding [Value.str x u] (setAddHashed a (Value.str x u) (hashStr w x));each;let r ← setState o;if (r.2.1 != ep)=true then (do unsupported "set.changed-during-merge";pure (ForInStep.yield PUnit.unit)) else pure (ForInStep.yield PUnit.unit))) :
  ∀ (l:List (Int×Value)) (s:Shared) (ks:List Str) (Q:PUnit→Shared→Prop),(∀ e∈l,∃ x u,e=(hashStr w x,Value.str x u))→s.heap.get? o=some ob→SS w s.heap a ks→ks.length+l.length < scanBound →
   (∀ h' ks',Heap.SameBut a s.heap h'→SS w h' a ks'→(∀ x,x∈ks'↔x∈ks∨x∈l.map fun e=>strOf e.2)→Q PUnit.unit { s with heap:=h' })→wpAny (model prog w) A (forIn l PUnit.unit f) Q E s
 | [],s,ks,Q,_,_,hS,_,h=>wpAny_pure (h s.heap ks (Heap.SameBut.refl _ _) hS fun x=>⟨.inl,fun z=>z.elim id fun z=>by cases z⟩)
 | e::l,s,ks,Q,hel,ho,hS,hn,h=>by
  obtain ⟨x,u,rfl⟩:=hel e List.mem_cons_self
  simp only [List.length_cons] at hn
  rw [List.forIn_cons,hbody x u]
  refine wpAny_bind (wpAny_bind (wpAny_holding (Ztv hS (by omega) fun h1 b hsb hS1=>?_)))
  have ho1:h1.get? o=some ob:=by rw [hsb.2 o hne];exact ho
  refine wpAny_bind (he _ _ ho1 (wpAny_bind (wpAny_setState_of ho1 hd hf ?_)))
  rw [if_neg (by simp)]
  refine wpAny_pure (Zp6 hne hd hf he hbody l _ _ Q (fun y hy=>hel y (List.mem_cons_of_mem _ hy)) ho1 hS1 (by split <;> (try rw [List.length_cons]) <;> omega) fun h2 ks' hsb2 hS2 hx=>?_)
  refine h h2 ks' (hsb.trans hsb2) hS2 fun y=>(hx y).trans ?_
  rw [List.map_cons,List.mem_cons]
  show _↔y∈ks∨y=x∨_
  have hm:y∈(if x∈ks then ks else x::ks)↔y∈ks∨y=x:=by
   split
   ·rename_i hin
    exact ⟨.inl,fun z=>z.elim id fun e=>e▸hin⟩
   ·rw [List.mem_cons]
    exact ⟨fun z=>z.elim .inr .inl,fun z=>z.elim .inr .inl⟩
  rw [hm,or_assoc]
end
section
variable {prog:Program} {w:World} {A:Around} {E:Value→Shared→Prop} {s:Shared}
structure Bare (led:Bool) (n:Nat) (t:SetTable):Prop where
 pl:t.place=#[]
 dm:t.dummies=#[]
 cv:Tb.cover (t.mask+1)=true
 rm:n≤t.mask
 ld:t.led=led
theorem Bare.fits {led:Bool} {n:Nat} {t:SetTable} (B:Bare led n t):t.fits 0=true:=Zqu (by rw [B.pl];rfl) B.dm (Nat.zero_le _)
theorem Zqv {a:Addr} {led:Bool} {n:Nat} {Q:Unit→Shared→Prop} (ha:s.heap.get? a=some (Zbb led)) (hn:n < 32)
  (h:∀ h' ep t,Heap.SameBut a s.heap h'→h'.get? a=some { Zbb led with data:=.set #[] ep t }→Bare led n t→Q () { s with heap:=h' }):wpAny (model prog w) A (setRoomFor a n) Q E s:=by
 unfold setRoomFor
 refine wpAny_bind (wpAny_setState_of ha rfl rfl ?_)
 show wpAny (model prog w) A (match (if (0+n)*5≥7*3 then some ((0+n)*2) else none) with | some v=>setRelay a v | _=>pure ()) Q E s
 by_cases hc:(0+n)*5≥7*3
 ·rw [if_pos hc]
  obtain ⟨hcv,h1,h2⟩:=ZiO (n:=(0+n)*2) (by omega)
  dsimp only
  unfold setRelay
  refine wpAny_bind (wpAny_setState_of ha rfl rfl ?_)
  dsimp only
  rw [if_neg (by have:(128:Nat)≤sizeLine:=by decide
                 omega)]
  obtain ⟨t',order,e,hpm,e1,e2,e3,e4,e5⟩:=Tb.laid_ok hcv (SetTable.fresh 0 0 led).finger ((SetTable.fresh 0 0 led).movedTo (SetTable.sizeAbove ((0+n)*2) - 1)) (SetTable.fresh 0 0 led).led (SetTable.fresh 0 0 led).plain (Array.map (·.1) (#[]:Array (Int×Value))) (by simp)
  refine wpAny_bind ?_
  unfold SetTable.relaid
  rw [e]
  have hord:order=#[]:=by
   have:=hpm.length_eq
   simp at this
   exact this
  subst hord
  show wpAny (model prog w) A (pure ((#[]:Array Nat).filterMap ((#[]:Array (Int×Value))[·]?),t')) _ E s
  refine wpAny_pure (wpAny_storeSet_of ha rfl ?_ (Nat.zero_le _))
  refine h _ 1 t' (Heap.SameBut.update s.heap a _) ?_ ⟨?_,e3,by rw [e1];exact hcv,by rw [e1];omega,e4⟩
  ·have hz:=Heap.get?_update_self (Obj.putSet #[] t') ha (by rw [putSet_of #[] t' rfl];rfl)
   rw [putSet_of #[] t' rfl] at hz
   exact hz
  ·exact Array.eq_empty_of_size_eq_zero (by rw [e2];simp)
 ·rw [if_neg hc]
  exact wpAny_pure (h s.heap 0 _ (Heap.SameBut.refl _ _) ha ⟨rfl,rfl,Tb.cover8,by show n≤7;omega,rfl⟩)
theorem ZjV {a o:Addr} {led:Bool} {ko:List Str} {each:Sem Unit} {Q:Unit→Shared→Prop} (hne:o≠a) (ha:s.heap.get? a=some (Zbb led)) (hl:bt w=false→led=true) (hS:SS w s.heap o ko) (hn:ko.length < 32)
  (h:∀ h',Heap.SameBut a s.heap h'→SS w h' a ko→(ko=[]→h'.get? a=some (Zbb led))→Q () { s with heap:=h' }):wpAny (model prog w) A (setMerge a o each) Q E s:=by
 obtain ⟨ob,es,ep,t,ho,hx,hd,T⟩:=hS
 have hz:=T.len
 unfold setMerge
 rw [if_neg (by simp only [beq_iff_eq];exact fun z=>hne z.symm)]
 walk_at "pq"
 dsimp only
 by_cases hem:es.isEmpty=true
 ·rw [if_pos hem]
  have:ko=[]:=by
   rw [Array.isEmpty_iff] at hem
   subst hem
   exact List.length_eq_zero_iff.mp hz.symm
  subst this
  exact wpAny_pure (h s.heap (Heap.SameBut.refl _ _) (ZnE led hl ha) fun _=>ha)
 ·rw [if_neg hem]
  have hko:ko≠[]:=fun z=>by
   subst z
   exact hem (by rw [Array.isEmpty_iff];exact Array.eq_empty_of_size_eq_zero hz)
  refine wpAny_bind (Zqv ha (by omega) fun h1 ep1 t1 hsb ha1 B=>?_)
  refine wpAny_bind (wpAny_setState_of ha1 rfl B.fits ?_)
  dsimp only
  have hld:bt w=false→(t1.led&&t.led)=true:=fun z=>by rw [B.ld,hl z,T.ld z];rfl
  have hpl:(t1.plain&&t.plain)=true→ko=[]:=fun z=>by
   simp only [Bool.and_eq_true] at z
   exact T.pl z.2
  have hfill:(t1.fill != 0)=false:=by unfold SetTable.fill;rw [B.pl,B.dm];rfl
  unfold SetTable.road
  rw [hfill]
  simp only [Bool.false_eq_true,if_false]
  by_cases hr:(t1.mask==t.mask&&t.dummies.isEmpty)=true
  ·rw [if_pos hr]
   dsimp only
   refine wpAny_storeSet_of ha1 rfl ?_ (fits_of_scanBound (by unfold scanBound;omega))
   refine h _ (hsb.trans (Heap.SameBut.update h1 a _)) (Zfr ha1 ⟨rfl,rfl,rfl⟩ rfl (T.perm (List.Perm.refl _) ?_ hld hpl)).2 fun z=>absurd z hko
   have:=T.ft
   cases t
   exact this
  ·rw [if_neg hr]
   dsimp only
   obtain ⟨t',order,e,hsz,T'⟩:=Zne (f:=t1.finger) (m:=t1.moves) T B.cv (by have:=B.rm;omega) hld hpl
   refine wpAny_bind ?_
   rw [e]
   show wpAny (model prog w) A (if ((order.filterMap (es[·]?)).size != es.size)=true then _ else pure (order.filterMap (es[·]?),t')) _ E _
   rw [if_neg (by rw [hsz];simp)]
   refine wpAny_pure (wpAny_storeSet_of ha1 rfl ?_ (fits_of_scanBound (by rw [hsz];unfold scanBound;omega)))
   exact h _ (hsb.trans (Heap.SameBut.update h1 a _)) (Zfr ha1 ⟨rfl,rfl,rfl⟩ rfl T').2 fun z=>absurd z hko
theorem Zoy {a o:Addr} {ks ko:List Str} {each:Sem Unit} {Q:Unit→Shared→Prop} (hne:o≠a) (hk:ks≠[]) (hA:SS w s.heap a ks) (hS:SS w s.heap o ko) (hn:ks.length+ko.length < 64)
  (he:∀ ob,s.heap.get? o=some ob→∀ (s':Shared) (Q':Unit→Shared→Prop),s'.heap.get? o=some ob→Q' () s'→wpAny (model prog w) A each Q' E s')
  (h:∀ h' ks',Heap.SameBut a s.heap h'→SS w h' a ks'→(∀ x,x∈ks'↔x∈ks∨x∈ko)→Q () { s with heap:=h' }):wpAny (model prog w) A (setMerge a o each) Q E s:=by
 obtain ⟨ob,es,ep,t,ho,hx,hd,T⟩:=hS
 have hz:=T.len
 have he:=he ob ho
 unfold setMerge
 rw [if_neg (by simp only [beq_iff_eq];exact fun z=>hne z.symm)]
 walk_at "pq"
 dsimp only
 by_cases hem:es.isEmpty=true
 ·rw [if_pos hem]
  have:ko=[]:=by
   rw [Array.isEmpty_iff] at hem
   subst hem
   exact List.length_eq_zero_iff.mp hz.symm
  subst this
  exact wpAny_pure (h s.heap ks (Heap.SameBut.refl _ _) hA fun x=>⟨.inl,fun z=>z.elim id fun z=>by cases z⟩)
 ·rw [if_neg hem]
  refine wpAny_bind (Zuh hA (by omega) fun h1 hsb hA1=>?_)
  have hA1':=hA1
  obtain ⟨oa,ea,pa,ta,hoa,hxa,hda,Ta⟩:=hA1
  refine wpAny_bind (wpAny_setState_of hoa hda Ta.ft ?_)
  dsimp only
  have hfill:(ta.fill != 0)=true:=by
   have hp:=Ta.ft
   unfold SetTable.fits at hp
   simp only [Bool.and_eq_true,beq_iff_eq] at hp
   have hl:=Ta.len
   have:ks.length≠0:=fun z=>hk (List.length_eq_zero_iff.mp z)
   unfold SetTable.fill
   simp only [bne_iff_ne,ne_eq]
   omega
  unfold SetTable.road
  rw [hfill]
  simp only [if_true]
  have ho1:h1.get? o=some ob:=by rw [hsb.2 o hne];exact ho
  refine wpAny_bind (Zuu ho1 hx hd T hA1' (by unfold scanBound;omega) fun h2 l hsb2 hA2 hp=>?_)
  have ho2:h2.get? o=some ob:=by rw [hsb2.2 o hne];exact ho1
  rw [← Array.forIn_toList]
  refine wpAny_bind (Zp6 hne hd T.ft he (fun x u=>rfl) l.toList _ ks _ (fun e hm=>T.el e (hp.mem_iff.mp hm)) ho2 hA2 ?_ fun h3 ks' hsb3 hA3 hx=>?_)
  ·have hl:l.toList.length=es.size:=hp.length_eq.trans Array.length_toList
   rw [hl];unfold scanBound;omega
  ·refine wpAny_pure (h h3 ks' ((hsb.trans hsb2).trans hsb3) hA3 fun x=>(hx x).trans ?_)
   rw [((hp.map _).trans T.pm).mem_iff]
end
theorem Zsp:entryFor table "set.__or__"=some Builtin.«frozenset.__or__»:=entryFor_alias (id':="frozenset.__or__") (by kernel_rfl) rfl (by decide +kernel) (by kernel_rfl)
section
variable {prog:Program} {w:World} {A:Around} {E:Value→Shared→Prop} {s:Shared}
theorem SS.ty {a:Addr} {ks:List Str} (S:SS w s.heap a ks):s.TypeIs (.ref a) "set":=by
 obtain ⟨o,es,ep,t,ho,hx,_⟩:=S
 exact ⟨o,ho,hx.1⟩
theorem Zmt {a:Addr} {Q:Bool→Shared→Prop} (hT:s.TypeIs (.ref a) "set") (q:Q true s):wpAny (model prog w) A (Builtin.Frozenset.isAnySet (.ref a)) Q E s:=by
 unfold Builtin.Frozenset.isAnySet
 refine wpAny_bind (wpAny_isInstance hT sub_set_self ?_)
 exact wpAny_pure q
theorem SS.new {a:Addr} {ks:List Str} (S:SS w s.heap a ks) (o:Obj):SS w (s.heap.push o) a ks:=S.kept fun _ e=>Heap.get?_push_of_some _ e
theorem SS.lt {a:Addr} {ks:List Str} (S:SS w s.heap a ks):a < s.heap.objs.size:=by
 obtain ⟨o,es,ep,t,ho,_⟩:=S
 exact Heap.lt_size ho
theorem SS.same {h h':Heap} {a b:Addr} {ks:List Str} (S:SS w h a ks) (hne:a≠b) (hsb:Heap.SameBut b h h'):SS w h' a ks:=S.kept fun o e=>by rw [hsb.2 a hne];exact e
theorem ZzZ {a b:Addr} {ka kb:List Str} {Q:Value→Shared→Prop} (hab:a≠b) (ha:SS w s.heap a ka) (hb:SS w s.heap b kb) (hna:ka.length < 32) (hnb:kb.length < 32)
  (h:∀ h' ks,SS w h' s.heap.objs.size ks→(∀ x,x∈ks↔x∈ka∨x∈kb)→(∀ c o,c < s.heap.objs.size→s.heap.get? c=some o→h'.get? c=some o)→Q (.ref s.heap.objs.size) { s with heap:=h' }) :
  wpAny (model prog w) A (binaryOp .BitOr (.ref a) (.ref b)) Q E s:=by
 refine wpAny_binaryOp_same (op:=.BitOr) (T:="set") ha.ty hb.ty PySem.F.fills_set_or PySem.F.slot_set_or (wpAny_call_entry PySem.F.slot_set_or ha.ty Zsp ?_ (PySem.F.args_set_or_2 _ _))
 unfold Builtin.«frozenset.__or__»
 refine wpAny_bind (m:=Builtin.Frozenset.slot1 "__or__" ⟨[.ref a,.ref b],[]⟩) ?_
 unfold Builtin.Frozenset.slot1
 refine wpAny_bind (wpAny_pure (a:=(Value.ref a,[Value.ref b])) ?_)
 refine wpAny_pure ?_
 refine wpAny_bind (m:=(Builtin.Frozenset.isAnySet (.ref a) <&&> Builtin.Frozenset.isAnySet (.ref b))) ?_
 refine wpAny_bind (Zmt ha.ty (Zmt hb.ty ?_))
 rw [if_neg (by decide)]
 refine wpAny_bind (m:=Builtin.Frozenset.addrOf (.ref a)) (wpAny_pure ?_)
 refine wpAny_bind ?_
 refine wpAny_bind (m:=Builtin.Frozenset.copyOf a) ?_
 unfold Builtin.Frozenset.copyOf Builtin.Frozenset.baseOf
 refine wpAny_bind (wpAny_bind (wpAny_isInstance ha.ty sub_set_self (wpAny_pure ?_)))
 rw [if_pos rfl]
 refine wpAny_bind (Zug fun led hled=>?_)
 refine wpAny_bind (wpAny_pure ?_)
 have hne:∀ {c:Addr},c < s.heap.objs.size→c≠s.heap.objs.size:=fun z=>Nat.ne_of_lt z
 have hfr:(s.heap.push (Zbb led)).get? s.heap.objs.size=some (Zbb led):=Heap.get?_push_size _ rfl
 refine wpAny_bind (ZjV (s:={ s with heap:=s.heap.push (Zbb led) }) (hne ha.lt) hfr hled (ha.new _) hna fun h1 hsb hS1 hnil=>?_)
 refine wpAny_pure ?_
 show wpAny (model prog w) A.in1 (if (Value.ref b != Value.ref a)=true then _ else _) _ E _
 rw [if_pos (by simp only [bne_iff_ne,ne_eq,Value.ref.injEq];exact fun z=>hab z.symm)]
 refine wpAny_bind (m:=Builtin.Frozenset.addrOf _) (wpAny_pure ?_)
 have hb1:SS w h1 b kb:=(hb.new (Zbb led)).same (hne hb.lt) hsb
 have hT1:Shared.TypeIs { s with heap:=h1 } (.ref b) "set":=SS.ty (s:={ s with heap:=h1 }) hb1
 have keep:∀ h2,Heap.SameBut s.heap.objs.size h1 h2→∀ c o,c < s.heap.objs.size→s.heap.get? c=some o→h2.get? c=some o:=fun h2 hsb2 c o hc e=>by
  rw [hsb2.2 c (hne hc),hsb.2 c (hne hc)]
  exact Heap.get?_push_of_some _ e
 refine wpAny_bind (wpAny_holding ?_)
 unfold Builtin.Frozenset.updateFrom
 refine wpAny_bind (Zmt hT1 ?_)
 rw [if_pos rfl]
 refine wpAny_bind (m:=Builtin.Frozenset.addrOf (.ref b)) (wpAny_pure ?_)
 unfold Builtin.Frozenset.merge
 have hb1':=hb1
 obtain ⟨ob,es,ep,t,ho,hx,hd,T⟩:=hb1
 refine wpAny_bind (wpAny_setEpoch_of ho hd T.ft ?_)
 have fin:∀ h2 ks,Heap.SameBut s.heap.objs.size h1 h2→SS w h2 s.heap.objs.size ks→(∀ x,x∈ks↔x∈ka∨x∈kb)→Q (.ref s.heap.objs.size) { s with heap:=h2 }:=fun h2 ks hsb2 hS2 hx=>h h2 ks hS2 hx (keep h2 hsb2)
 by_cases hk:ka=[]
 ·subst hk
  refine ZjV (s:={ s with heap:=h1 }) (hne hb.lt) (hnil rfl) hled hb1' hnb fun h2 hsb2 hS2 _=>?_
  refine wpAny_pure (wpAny_pure ⟨_,rfl,by simp,fin h2 kb hsb2 hS2 fun x=>⟨.inr,fun z=>z.elim (fun z=>by cases z) id⟩⟩)
 ·refine Zoy (s:={ s with heap:=h1 }) (hne hb.lt) hk hS1 hb1' (by omega) (fun ob' ho' s' Q' ho2 q'=>?_) fun h2 ks hsb2 hS2 hx=>?_
  ·have e:ob'=ob:=by
    have:=ho'.symm.trans ho
    exact Option.some.inj this
   subst e
   unfold Builtin.Frozenset.unchanged
   refine wpAny_bind (wpAny_setEpoch_of ho2 hd T.ft ?_)
   rw [if_neg (by simp)]
   exact wpAny_pure q'
  ·exact wpAny_pure (wpAny_pure ⟨_,rfl,by simp,fin h2 ks hsb2 hS2 hx⟩)
end
theorem Zgl:Slot "set_iterator" "__next__" "set_iterator.__next__":=.of (owner:="set_iterator") (n:="__next__") (by rw [typeLookup_type,builtinLookup_eq_fast];kernel_rfl) (by decide +kernel) (by decide +kernel) (by decide +kernel) (by first | exact .inl (by decide +kernel) | exact .inr (by decide +kernel)) (by rw [isSubtype_type];kernel_rfl)
theorem ZpV:Slot "set" "__iter__" "set.__iter__":=.of (owner:="set") (n:="__iter__") (by rw [typeLookup_type,builtinLookup_eq_fast];kernel_rfl) (by decide +kernel) (by decide +kernel) (by decide +kernel) (by first | exact .inl (by decide +kernel) | exact .inr (by decide +kernel)) (by rw [isSubtype_type];kernel_rfl)
theorem Zoc:entryFor table "set_iterator.__next__"=some Builtin.«set_iterator.__next__»:=entryFor_of_fast (by kernel_rfl)
theorem ZrJ:entryFor table "set.__iter__"=some Builtin.«frozenset.__iter__»:=entryFor_alias (id':="frozenset.__iter__") (by kernel_rfl) rfl (by decide +kernel) (by kernel_rfl)
theorem Zq1 (a:Value):argsOk "set_iterator.__next__" ⟨[a],[]⟩:=by unfold argsOk;kernel_rfl
theorem ZuK (a:Value):argsOk "set.__iter__" ⟨[a],[]⟩:=by unfold argsOk;kernel_rfl
section
variable {prog:Program} {w:World} {A:Around} {E:Value→Shared→Prop} {s:Shared}
theorem Zzg {src:Source} {n:Nat} {Q:Nat→Shared→Prop} (hn:n≠0) (h:∀ i d,i < n→Q i { s with drawn:=d }):wpAny (model prog w) A (choose src n) Q E s :=
 fun _ _ _=>⟨hn,h _ _ (Nat.mod_lt _ (Nat.pos_of_ne_zero hn))⟩
theorem Zpt {α:Type}:∀ (n:Nat) (xs:List α) (s:Shared) (Q:List α→Shared→Prop),xs.length=n→(∀ ys d,ys.Perm xs→Q ys { s with drawn:=d })→wpAny (model prog w) A (drawOrder n xs) Q E s
 | 0,xs,s,Q,h,q=>by
  obtain rfl:=List.length_eq_zero_iff.mp h
  exact wpAny_pure (q [] s.drawn (List.Perm.refl _))
 | n+1,[],s,Q,h,q=>by cases h
 | n+1,x::xs,s,Q,h,q=>by
  unfold drawOrder
  refine wpAny_bind (Zzg (by simp) fun i d hi=>?_)
  rw [List.getElem?_eq_getElem hi]
  dsimp only
  refine wpAny_bind (Zpt n _ _ _ (by rw [List.length_eraseIdx_of_lt hi];simpa using h) fun ys d' hp=>?_)
  exact wpAny_pure (q _ d' ((hp.cons _).trans (Zhy _ i hi)))
abbrev Itr (first:Value) (i:Nat) (a:Addr) (n ep:Nat):Obj:={ cls:=.type "set_iterator",data:=.fields #[first,.int i 0,.ref a,.int n 0,.int ep 0] }
inductive Md (w:World) (a T:Addr) (es:Array (Int×Value)) (ep:Nat) (t:SetTable) (l:List (Int×Value)) (h:Heap):Value→Nat→Prop where
 | drawn {ps:List Nat} {oT:Obj} {c i:Nat}:h.get? T=some oT→oT.data=.seq (ps.map fun p:Nat=>rawInt p).toArray c→ps.length=l.length→(∀ (j p:Nat),ps[j]?=some p→∃ e,es[p]?=some e∧l[j]?=some e)→Md w a T es ep t l h (.ref T) i
 | text {k i:Nat}:bt w=true→l=(pickOrder (w.params.setOrder a ep) es).toList→Md w a T es ep t l h (.int k 0) i
 | few {k i:Nat}:bt w=false→t.led=true→es.size≤1→l=es.toList→(i=0→k=0)→(∀ j:Nat,i=1→t.place[0]?=some j→k=j+1)→Md w a T es ep t l h (.int k 0) i
structure Wk (w:World) (it a T:Addr) (ob:Obj) (es:Array (Int×Value)) (ep:Nat) (t:SetTable) (l:List (Int×Value)) (i:Nat) (h:Heap):Prop where
 st:∃ first,h.get? it=some (Itr first i a es.size ep)∧Md w a T es ep t l h first i
 ob:h.get? a=some ob
theorem Md.at {w:World} {a T:Addr} {es:Array (Int×Value)} {ep:Nat} {t:SetTable} {l:List (Int×Value)} {h h':Heap} {v:Value} {i:Nat} (M:Md w a T es ep t l h v i) (k:∀ o,h.get? T=some o→h'.get? T=some o):Md w a T es ep t l h' v i:=by
 cases M with
 | drawn h1 h2 h3 h4=>exact .drawn (k _ h1) h2 h3 h4
 | text h1 h2=>exact .text h1 h2
 | few h1 h2 h3 h4 h5 h6=>exact .few h1 h2 h3 h4 h5 h6
theorem ZpA {h:Heap} {it a:Addr} {first:Value} {i n ep:Nat} (e:h.get? it=some (Itr first i a n ep)) (j:Nat):(h.update it (Obj.mapFields (·.setIfInBounds 1 (rawInt j)))).get? it=some (Itr first j a n ep):=by
 have hz:=Heap.get?_update_self (Obj.mapFields (·.setIfInBounds 1 (rawInt j))) e (Obj.isFreed_of_fields (Obj.data_mapFields rfl _))
 rw [hz];rfl
theorem Ziv {h:Heap} {it a:Addr} {first:Value} {i n ep:Nat} (e:h.get? it=some (Itr first i a n ep)) (v:Value):(h.update it (Obj.mapFields (·.setIfInBounds 0 v))).get? it=some (Itr v i a n ep):=by
 have hz:=Heap.get?_update_self (Obj.mapFields (·.setIfInBounds 0 v)) e (Obj.isFreed_of_fields (Obj.data_mapFields rfl _))
 rw [hz];rfl
end
section
variable {prog:Program} {w:World} {A:Around} {E:Value→Shared→Prop} {s:Shared}
theorem Zma (j k:Nat):SetTable.below #[j] k=if j < k then 1 else 0:=by
 show SetTable.below.go #[j] k 1 0 1=_
 unfold SetTable.below.go
 simp only [Nat.zero_lt_one,if_true]
 show (if j < k then SetTable.below.go #[j] k 0 1 1 else SetTable.below.go #[j] k 0 0 0)=_
 rfl
theorem Zin {α:Type} {xs:Array α} (h:xs.size≤1):xs=#[]∨∃ x,xs=#[x]:=by
 obtain ⟨l⟩:=xs
 match l,h with
 | [],_=>exact .inl rfl
 | [x],_=>exact .inr ⟨x,rfl⟩
theorem Zql {it a T:Addr} {ob:Obj} {es:Array (Int×Value)} {ep:Nat} {t:SetTable} {ks:List Str} {l:List (Int×Value)} {i:Nat} {e:Int×Value} {Q:Option Value→Shared→Prop} (hx:ob.ExactSet) (hd:ob.data=.set es ep t) (Tb:Tab w es t ks) (hia:a≠it) (hiT:T≠it) (S:Wk w it a T ob es ep t l i s.heap) (hl:l[i]?=some e)
  (hQ:∀ h',Wk w it a T ob es ep t l (i+1) h'→Heap.SameBut it s.heap h'→Q (some e.2) { s with heap:=h' }):wpAny (model prog w) A (pyNext (.ref it)) Q E s:=by
 obtain ⟨⟨first,hi,M⟩,ho⟩:=S
 have hT:s.TypeIs (.ref it) "set_iterator":=⟨_,hi,rfl⟩
 unfold pyNext
 refine wpAny_bind (wpAny_attempt (wpAny_callSpecial?_slot (name:=Str.ofString "__next__") hT Zgl (wpAny_call_entry Zgl hT Zoc ?_ (Zq1 _))))
 unfold Builtin.«set_iterator.__next__»
 refine wpAny_bind (wpAny_pure (a:=(Value.ref it,([]:List Value))) ?_)
 refine wpAny_bind (wpAny_fieldsOf hi rfl ?_)
 dsimp only
 refine wpAny_bind (wpAny_setEntries_of ho hd Tb.ft ?_)
 rw [if_neg (by simp)]
 have two:∀ (v:Value),Md w a T es ep t l s.heap v (i+1)→Q (some e.2) { s with heap:=(s.heap.update it (Obj.mapFields (·.setIfInBounds 0 v))).update it (Obj.mapFields (·.setIfInBounds 1 (rawInt (i+1)))) }:=fun v M'=>by
  have sb:=(Heap.SameBut.update s.heap it (Obj.mapFields (·.setIfInBounds 0 v))).trans (Heap.SameBut.update _ it (Obj.mapFields (·.setIfInBounds 1 (rawInt (i+1)))))
  refine hQ _ ⟨⟨v,ZpA (Ziv hi v) (i+1),M'.at fun o z=>by rw [sb.2 T hiT];exact z⟩,by rw [sb.2 a hia];exact ho⟩ sb
 cases M with
 | drawn h1 h2 h3 h4 =>
  rename_i ps oT c
  obtain ⟨p,hp⟩:∃ p,ps[i]?=some p:=by
   obtain ⟨hlt,_⟩:=List.getElem?_eq_some_iff.mp hl
   exact ⟨_,List.getElem?_eq_getElem (by omega)⟩
  obtain ⟨e',he,hl'⟩:=h4 i p hp
  obtain rfl:e'=e:=Option.some.inj (hl'.symm.trans hl)
  dsimp only
  refine wpAny_bind (wpAny_seqItems h1 h2 ?_)
  dsimp only
  have hq:(ps.map fun p:Nat=>rawInt p).toArray[(Int.ofNat i).toNat]?=some (rawInt p):=by
   simp [hp]
  have hq':(ps.map fun p:Nat=>rawInt p).toArray[((i:Int)).toNat]?=some (.int (p:Int) 0):=hq
  rw [hq']
  dsimp only
  refine wpAny_bind ?_
  unfold setNextDrawn
  walk_at "pp"
  dsimp only
  rw [if_neg (by simp)]
  rw [show ((p:Int)).toNat=p from Int.toNat_natCast p,he]
  dsimp only
  refine wpAny_pure (wpAny_bind (wpAny_setField hi rfl (by simp) (wpAny_pure ⟨_,rfl,wpAny_pure ?_⟩)))
  have sb:=Heap.SameBut.update s.heap it (Obj.mapFields (·.setIfInBounds 1 (rawInt (i+1))))
  exact hQ _ ⟨⟨_,ZpA hi (i+1),.drawn (by rw [sb.2 T hiT];exact h1) h2 h3 h4⟩,by rw [sb.2 a hia];exact ho⟩ sb
 | text h1 h2 =>
  rename_i k
  dsimp only
  refine wpAny_bind ?_
  unfold setNext
  walk_at "pp"
  dsimp only
  unfold setsByText
  walk_at "pb"
  walk_at "pl"
  rw [if_pos h1,if_neg (by simp)]
  unfold setWalk
  refine wpAny_bind (wpAny_bind (wpAny_setState_of ho hd Tb.ft ?_))
  dsimp only
  unfold setsByText
  walk_at "pb"
  walk_at "pl"
  rw [if_pos h1]
  refine wpAny_bind (wpAny_askSetting (wpAny_pure ?_))
  subst h2
  rw [Array.getElem?_toList] at hl
  show wpAny (model prog w) _ (pure (((pickOrder (w.params.setOrder a ep) es)[((i:Int)).toNat]?).map _)) _ _ s
  rw [show ((i:Int)).toNat=i from Int.toNat_natCast i,hl]
  refine wpAny_pure ?_
  dsimp only [Option.map_some]
  walk_at "pr"
  refine wpAny_bind (wpAny_setField (Ziv hi _) rfl (by simp) (wpAny_pure ⟨_,rfl,wpAny_pure ?_⟩))
  exact two _ (.text h1 rfl)
 | few h1 h2 h3 h4 h5 h6 =>
  rename_i k
  subst h4
  rw [Array.getElem?_toList] at hl
  have hft:=Tb.ft
  rcases Zin h3 with z | ⟨x,z⟩
  ·rw [z] at hl;simp at hl
  ·rw [z] at hl
   have hi0:i=0:=by
    obtain ⟨hlt,_⟩:=Array.getElem?_eq_some_iff.mp hl
    simpa using hlt
   subst hi0
   obtain rfl:x=e:=by simpa using hl
   obtain rfl:=h5 rfl
   have hps:t.place.size=1:=by
    unfold SetTable.fits at hft
    rw [z] at hft
    simp only [Bool.and_eq_true,beq_iff_eq] at hft
    exact hft.1
   obtain ⟨j,hj⟩:∃ j,t.place=#[j]:=by
    rcases Zin (by omega:t.place.size≤1) with q | q
    ·rw [q] at hps;cases hps
    ·exact q
   dsimp only
   refine wpAny_bind ?_
   unfold setNext
   walk_at "pp"
   dsimp only
   unfold setsByText
   walk_at "pb"
   walk_at "pl"
   rw [if_neg (by rw [h1];decide)]
   show wpAny (model prog w) _ (if (!t.plain&&decide (es.size > 1))=true then _ else _) _ _ s
   rw [if_neg (by have:¬ es.size > 1:=by omega
                  simp [this])]
   refine wpAny_bind ?_
   show wpAny (model prog w) _ (if (!t.led&&!es.isEmpty)=true then _ else pure ()) _ _ s
   rw [if_neg (by rw [h2];simp)]
   refine wpAny_pure ?_
   show wpAny (model prog w) _ (pure (match es[SetTable.below t.place 0]?,t.place[SetTable.below t.place 0]? with | some (_,x),some j=>some (x,j+1) | _,_=>none)) _ _ s
   rw [hj,Zma,if_neg (by omega),z]
   refine wpAny_pure ?_
   walk_at "pr"
   refine wpAny_bind (wpAny_setField (Ziv hi _) rfl (by simp) (wpAny_pure ⟨_,rfl,wpAny_pure ?_⟩))
   refine two _ (.few (k:=j+1) h1 h2 h3 rfl (fun q=>by cases q) fun j' _ q=>?_)
   rw [hj] at q
   have:j=j':=by simpa using q
   omega
end
section
variable {prog:Program} {w:World} {A:Around} {E:Value→Shared→Prop} {s:Shared}
theorem ZmF {it:Addr} {h0 h1:Heap} {R:Fin→Shared→Prop} {Q:Option Value→Shared→Prop} (hh:A.handled=none) (x:Heap.ExtBut it h0 h1) (hQ:∀ h',Heap.ExtBut it h0 h'→Q none { s with heap:=h' }) :
  wpAny (model prog w) A.in1 (do let e ← newExc (.type "StopIteration") [];raiseNew e) R (fun e s'=>wpAny (model prog w) A (do let b ← isInstance e (.type "StopIteration");if b=true then pure none else throw e) Q E s') { s with heap:=h1 }:=by
 refine wpAny_bind ?_
 simp only [newExc,newTuple]
 refine wpAny_bind (wpAny_newObj_type ?_ (by size_fits))
 refine wpAny_bind (m:=firstArgMember _ _) (wpAny_of_eq (a:=Value.none) (by first | rfl | (simp only [firstArgMember];rfl)) (wpAny_newObj_type ?_ (by size_fits)))
 simp only [raiseNew]
 refine wpAny_bind (wpAny_handled ?_)
 rw [show A.in1.handled=none from hh]
 refine wpAny_bind (wpAny_pure (wpAny_throw ?_));refine wpAny_bind (wpAny_isInstance (T:="StopIteration") (b:=true) ⟨_,Heap.get?_push_size _ rfl,rfl⟩ isSubtype_stop ?_)
 exact wpAny_pure (hQ _ ((x.push _).push _))
theorem Zpg {it a T:Addr} {ob:Obj} {es:Array (Int×Value)} {ep:Nat} {t:SetTable} {ks:List Str} {l:List (Int×Value)} {i:Nat} {Q:Option Value→Shared→Prop} (hh:A.handled=none) (hx:ob.ExactSet) (hd:ob.data=.set es ep t) (Tb:Tab w es t ks) (S:Wk w it a T ob es ep t l i s.heap) (hl:l.length=i) (hes:es.size=i)
  (hQ:∀ h',Heap.ExtBut it s.heap h'→Q none { s with heap:=h' }):wpAny (model prog w) A (pyNext (.ref it)) Q E s:=by
 obtain ⟨⟨first,hi,M⟩,ho⟩:=S
 have hT:s.TypeIs (.ref it) "set_iterator":=⟨_,hi,rfl⟩
 unfold pyNext
 refine wpAny_bind (wpAny_attempt (wpAny_callSpecial?_slot (name:=Str.ofString "__next__") hT Zgl (wpAny_call_entry Zgl hT Zoc ?_ (Zq1 _))))
 unfold Builtin.«set_iterator.__next__»
 refine wpAny_bind (wpAny_pure (a:=(Value.ref it,([]:List Value))) ?_)
 refine wpAny_bind (wpAny_fieldsOf hi rfl ?_)
 dsimp only
 refine wpAny_bind (wpAny_setEntries_of ho hd Tb.ft ?_)
 rw [if_neg (by simp)]
 have e1:((i:Int)).toNat=i:=Int.toNat_natCast i
 cases M with
 | drawn h1 h2 h3 h4 =>
  rename_i ps oT c
  dsimp only
  refine wpAny_bind (wpAny_seqItems h1 h2 ?_)
  dsimp only
  have hq:(ps.map fun p:Nat=>rawInt p).toArray[((i:Int)).toNat]?=none:=by
   rw [e1];simp;omega
  rw [hq]
  dsimp only
  walk_at "pr"
  refine wpAny_bind (wpAny_setField (Ziv hi _) rfl (by simp) ?_)
  exact ZmF hh ((Heap.SameBut.update s.heap it (Obj.mapFields (·.setIfInBounds 0 (rawInt 0)))).trans (Heap.SameBut.update _ it _)).extBut hQ
 | text h1 h2 =>
  rename_i k
  dsimp only
  refine wpAny_bind ?_
  unfold setNext
  walk_at "pp"
  dsimp only
  unfold setsByText
  walk_at "pb"
  walk_at "pl"
  rw [if_pos h1,if_neg (by simp)]
  unfold setWalk
  refine wpAny_bind (wpAny_bind (wpAny_setState_of ho hd Tb.ft ?_))
  dsimp only
  unfold setsByText
  walk_at "pb"
  walk_at "pl"
  rw [if_pos h1]
  refine wpAny_bind (wpAny_askSetting (wpAny_pure ?_))
  show wpAny (model prog w) _ (pure (((pickOrder (w.params.setOrder a ep) es)[((i:Int)).toNat]?).map _)) _ _ s
  have hn:(pickOrder (w.params.setOrder a ep) es)[i]?=none:=by
   rw [← Array.getElem?_toList,← h2]
   exact List.getElem?_eq_none (by omega)
  rw [e1,hn]
  refine wpAny_pure ?_
  dsimp only [Option.map_none]
  walk_at "pr"
  exact ZmF hh (Heap.SameBut.update s.heap it _).extBut hQ
 | few h1 h2 h3 h4 h5 h6 =>
  rename_i k
  have hft:=Tb.ft
  have hnone:es[SetTable.below t.place k]?=none:=by
   refine Array.getElem?_eq_none ?_
   rcases Zin h3 with z | ⟨x,z⟩
   ·rw [z];exact Nat.zero_le _
   ·have hps:t.place.size=1:=by
     unfold SetTable.fits at hft
     rw [z] at hft
     simp only [Bool.and_eq_true,beq_iff_eq] at hft
     exact hft.1
    obtain ⟨j,hj⟩:∃ j,t.place=#[j]:=by
     rcases Zin (by omega:t.place.size≤1) with q | q
     ·rw [q] at hps;cases hps
     ·exact q
    have hi1:i=1:=by rw [← hes,z];rfl
    have:=h6 j hi1 (by rw [hj];rfl)
    rw [hj,this,Zma,if_pos (by omega),z]
    exact Nat.le_refl _
  dsimp only
  refine wpAny_bind ?_
  unfold setNext
  walk_at "pp"
  dsimp only
  unfold setsByText
  walk_at "pb"
  walk_at "pl"
  rw [if_neg (by rw [h1];decide)]
  show wpAny (model prog w) _ (if (!t.plain&&decide (es.size > 1))=true then _ else _) _ _ s
  rw [if_neg (by have:¬ es.size > 1:=by omega
                 simp [this])]
  refine wpAny_bind ?_
  show wpAny (model prog w) _ (if (!t.led&&!es.isEmpty)=true then _ else pure ()) _ _ s
  rw [if_neg (by rw [h2];simp)]
  refine wpAny_pure ?_
  show wpAny (model prog w) _ (pure (match es[SetTable.below t.place ((k:Int)).toNat]?,t.place[SetTable.below t.place ((k:Int)).toNat]? with | some (_,x),some j=>some (x,j+1) | _,_=>none)) _ _ s
  rw [show ((k:Int)).toNat=k from Int.toNat_natCast k,hnone]
  refine wpAny_pure ?_
  walk_at "pr"
  exact ZmF hh (Heap.SameBut.update s.heap it _).extBut hQ
theorem Zpj:Slot "set_iterator" "__iter__" "set_iterator.__iter__":=.of (owner:="set_iterator") (n:="__iter__") (by rw [typeLookup_type,builtinLookup_eq_fast];kernel_rfl) (by decide +kernel) (by decide +kernel) (by decide +kernel) (by first | exact .inl (by decide +kernel) | exact .inr (by decide +kernel)) (by rw [isSubtype_type];kernel_rfl)
theorem ZrX:entryFor table "set_iterator.__iter__"=some Builtin.«dict_keyiterator.__iter__»:=entryFor_alias (id':="dict_keyiterator.__iter__") (by kernel_rfl) rfl (by decide +kernel) (by kernel_rfl)
theorem ZtZ (a:Value):argsOk "set_iterator.__iter__" ⟨[a],[]⟩:=by unfold argsOk;kernel_rfl
theorem ZpN {it a T:Addr} {ob:Obj} {es:Array (Int×Value)} {ep:Nat} {t:SetTable} {ks:List Str} {l:List (Int×Value)} (hh:A.handled=none) (hx:ob.ExactSet) (hd:ob.data=.set es ep t) (Tb:Tab w es t ks) (hia:a≠it) (hiT:T≠it) (hl:l.length=es.size) :
  Walks prog w A it [it,a,T] [it] es.size (fun i v=>∃ e,l[i]?=some e∧v=e.2) (fun i h=>Wk w it a T ob es ep t l i h) where
 sub:=fun b hb=>by simp at hb;simp [hb]
 frame:=fun _ _ _ st hk=>by
  obtain ⟨⟨first,hi,M⟩,ho⟩:=st
  exact ⟨⟨first,hk it (by simp) _ hi,M.at fun o e=>hk T (by simp) o e⟩,hk a (by simp) _ ho⟩
 item:=fun i s Q E hi st hQ=>by
  obtain ⟨e,he⟩:∃ e,l[i]?=some e:=⟨_,List.getElem?_eq_getElem (by omega)⟩
  refine Zql hx hd Tb hia hiT st he fun h' W hs'=>?_
  exact hQ _ h' s.toks ⟨e,he,rfl⟩ W (fun b o hb z=>hs'.extBut b o (fun h=>hb (by simp [h])) z)
 done:=fun s Q E st hQ=>Zpg hh hx hd Tb st hl rfl fun h' he'=>hQ h' s.toks fun b o hb e=>he' b o (fun h=>hb (by simp [h])) e
 self:=fun _ s Q E st hQ=>by
  obtain ⟨⟨first,hi,M⟩,ho⟩:=st
  have hT:s.TypeIs (.ref it) "set_iterator":=⟨_,hi,rfl⟩
  refine wpAny_pyIter_slot hT Zpj (wpAny_call_entry Zpj hT ZrX (wpAny_pure ⟨_,rfl,"set_iterator",_,hT,Zgl.lookup,hQ⟩) (ZtZ _))
end
theorem ZtN {α:Type} {es:Array α}:∀ {ys:List Nat},(∀ p∈ys,p < es.size)→(ys.filterMap (es[·]?)).length=ys.length∧∀ (j p:Nat),ys[j]?=some p→∃ e,es[p]?=some e∧(ys.filterMap (es[·]?))[j]?=some e
 | [],_=>⟨rfl,fun j p h=>by simp at h⟩
 | y::ys,h=>by
  have hy:es[y]?=some (es[y]'(h y List.mem_cons_self)):=Array.getElem?_eq_getElem _
  obtain ⟨h1,h2⟩:=ZtN (ys:=ys) fun p hp=>h p (List.mem_cons_of_mem _ hp)
  rw [List.filterMap_cons,hy]
  refine ⟨by simp [h1],fun j p hj=>?_⟩
  cases j with
  | zero =>
   simp only [List.getElem?_cons_zero,Option.some.injEq] at hj
   subst hj
   exact ⟨_,hy,rfl⟩
  | succ j =>
   simp only [List.getElem?_cons_succ] at hj ⊢
   exact h2 j p hj
section
variable {prog:Program} {w:World} {A:Around} {E:Value→Shared→Prop} {s:Shared}
theorem Zrz {a:Addr} {ob:Obj} {es:Array (Int×Value)} {ep:Nat} {t:SetTable} {ks:List Str} {Q:Value→Shared→Prop} (ho:s.heap.get? a=some ob) (hx:ob.ExactSet) (hd:ob.data=.set es ep t) (Tb:Tab w es t ks) (hn:ks.length < scanBound)
  (h:∀ it T l h' d,s.heap.objs.size≤it→T≠it→(T=a∨s.heap.objs.size≤T)→(∀ c o,s.heap.get? c=some o→h'.get? c=some o)→Wk w it a T ob es ep t l 0 h'→l.Perm es.toList→T < h'.objs.size→it < h'.objs.size→Q (.ref it) { s with heap:=h',drawn:=d }):wpAny (model prog w) A (pyIter (.ref a)) Q E s:=by
 have hT:s.TypeIs (.ref a) "set":=⟨ob,ho,hx.1⟩
 have hlt:a < s.heap.objs.size:=Heap.lt_size ho
 have hz:=Tb.len
 refine wpAny_pyIter_slot hT ZpV (wpAny_call_entry ZpV hT ZrJ ?_ (ZuK _))
 unfold Builtin.«frozenset.__iter__»
 refine wpAny_bind (m:=Builtin.Frozenset.slot0 "__iter__" ⟨[.ref a],[]⟩) (wpAny_pure (a:=a) ?_)
 refine wpAny_bind (m:=Builtin.Frozenset.sizeOf a) (wpAny_bind (wpAny_setEntries_of ho hd Tb.ft (wpAny_pure ?_)))
 refine wpAny_bind ?_
 unfold setDrawn
 walk_at "pp"
 dsimp only
 unfold setsByText
 walk_at "pb"
 show wpAny (model prog w) _ (pure (!(bt w)&&(!t.plain&&decide (es.size > 1)))) _ _ s
 refine wpAny_pure ?_
 by_cases hc:(!(bt w)&&(!t.plain&&decide (es.size > 1)))=true
 ·rw [if_pos hc]
  refine wpAny_bind (Zpt es.size (List.range es.size) s _ (List.length_range) fun ys d hp=>?_)
  have hyl:ys.length=es.size:=by rw [hp.length_eq,List.length_range]
  refine wpAny_bind (wpAny_newTuple (items:=ys.map fun i:Nat=>rawInt i) ?_ (by rw [List.length_map,hyl,hz];exact fits_of_scanBound hn))
  refine wpAny_bind (wpAny_setEpoch_of (s:={ s with heap:=s.heap.push _,drawn:=d }) (Heap.get?_push_of_some _ ho) hd Tb.ft ?_)
  simp only [newFields]
  refine wpAny_bind (wpAny_newObj_type ?_ (by show (5:Nat)≤sizeLine+2;decide))
  refine wpAny_pure ⟨_,rfl,"set_iterator",_,⟨_,Heap.get?_push_size _ rfl,rfl⟩,Zgl.lookup,?_⟩
  obtain ⟨hpl,hpj⟩:=ZtN (es:=es) (ys:=ys) fun p z=>List.mem_range.mp (hp.mem_iff.mp z)
  have hperm:(ys.filterMap (es[·]?)).Perm es.toList:=by
   have hz2:=L3.Tb.order_perm es ys.toArray (by simpa using hp)
   simpa using hz2
  refine h _ s.heap.objs.size (ys.filterMap (es[·]?)) _ d ?_ ?_ (.inr (Nat.le_refl _)) (fun c o e=>Heap.get?_push_of_some _ (Heap.get?_push_of_some _ e)) ⟨⟨_,Heap.get?_push_size _ rfl,.drawn (Heap.get?_push_of_some _ (Heap.get?_push_size _ rfl)) rfl hpl.symm hpj⟩,Heap.get?_push_of_some _ (Heap.get?_push_of_some _ ho)⟩ hperm ?_ ?_
  ·rw [Heap.size_push];exact Nat.le_succ _
  ·rw [Heap.size_push];exact Nat.ne_of_lt (Nat.lt_succ_self _)
  ·rw [Heap.size_push,Heap.size_push];exact Nat.lt_succ_of_lt (Nat.lt_succ_self _)
  ·simp only [Heap.size_push];exact Nat.lt_succ_self _
 ·rw [if_neg hc]
  refine wpAny_bind (wpAny_pure ?_)
  refine wpAny_bind (wpAny_setEpoch_of ho hd Tb.ft ?_)
  simp only [newFields]
  refine wpAny_bind (wpAny_newObj_type ?_ (by show (5:Nat)≤sizeLine+2;decide))
  refine wpAny_pure ⟨_,rfl,"set_iterator",_,⟨_,Heap.get?_push_size _ rfl,rfl⟩,Zgl.lookup,?_⟩
  have fin:∀ l,l.Perm es.toList→Md w a a es ep t l (s.heap.push (Itr (rawInt 0) 0 a es.size ep)) (rawInt 0) 0→Q (.ref s.heap.objs.size) { s with heap:=s.heap.push (Itr (rawInt 0) 0 a es.size ep) }:=fun l hp M =>
   h _ a l _ s.drawn (Nat.le_refl _) (Nat.ne_of_lt hlt) (.inl rfl) (fun c o e=>Heap.get?_push_of_some _ e) ⟨⟨_,Heap.get?_push_size _ rfl,M⟩,Heap.get?_push_of_some _ ho⟩ hp (by rw [Heap.size_push];exact Nat.lt_succ_of_lt hlt) (by rw [Heap.size_push];exact Nat.lt_succ_self _)
  by_cases hb:bt w=true
  ·exact fin _ (Zlb _ _) (.text (k:=0) hb rfl)
  ·have hb':bt w=false:=by simpa using hb
   have h1:es.size≤1:=by
    rw [hb'] at hc
    simp only [Bool.not_false,Bool.true_and,Bool.and_eq_true,decide_eq_true_eq,not_and] at hc
    cases hpl:t.plain with
    | true=>have:=Tb.pl hpl;subst this;rw [hz];decide
    | false=>have:=hc (by rw [hpl];rfl);omega
   exact fin es.toList (List.Perm.refl _) (.few (k:=0) hb' (Tb.ld hb') h1 rfl (fun _=>rfl) fun j z=>by cases z)
end
theorem Zsy:Slot "set" "__len__" "set.__len__":=.of (owner:="set") (n:="__len__") (by rw [typeLookup_type,builtinLookup_eq_fast];kernel_rfl) (by decide +kernel) (by decide +kernel) (by decide +kernel) (by first | exact .inl (by decide +kernel) | exact .inr (by decide +kernel)) (by rw [isSubtype_type];kernel_rfl)
section
variable {prog:Program} {w:World} {A:Around} {E:Value→Shared→Prop} {s:Shared}
theorem ZsM {a:Addr} {Q:Bool→Shared→Prop} (hT:s.TypeIs (.ref a) "set") (q:Q false s):wpAny (model prog w) A (Builtin.List.listLengthHint (.ref a)) Q E s:=by
 unfold Builtin.List.listLengthHint
 refine wpAny_bind (wpAny_specialOf hT Zsy.lookup ?_)
 have hs:splitId "set.__len__"=some ("set","__len__"):=by kernel_rfl
 dsimp only
 rw [hs]
 dsimp only
 refine wpAny_bind (wpAny_isInstance hT sub_set_self ?_)
 rw [if_neg (by decide)]
 show wpAny (model prog w) A (if _=true then _ else _) Q E s
 rw [if_pos (by decide +kernel)]
 refine wpAny_bind (wpAny_typeOf hT ?_)
 exact wpAny_pure q
theorem ZmI {a:Addr} {ks:List Str} {Q:List Value→Shared→Prop} (hh:A.handled=none) (hS:SS w s.heap a ks) (hn:ks.length < scanBound)
  (h:∀ (s':Shared) (vs:List Value) (xs:List Str),StrsAre vs xs→xs.Perm ks→(∀ c o,c < s.heap.objs.size→s.heap.get? c=some o→s'.heap.get? c=some o)→s'.gens=s.gens→s'.os=s.os→s.heap.objs.size≤s'.heap.objs.size→Q vs s'):wpAny (model prog w) A (collect (.ref a)) Q E s:=by
 have hS':=hS
 obtain ⟨ob,es,ep,t,ho,hx,hd,T⟩:=hS
 have hz:=T.len
 have hlt:a < s.heap.objs.size:=Heap.lt_size ho
 unfold collect
 refine wpAny_bind (wpAny_runValue (codeAny_builtin PySem.F.entry_proto_collect ?_));rw [Around.under_plainId PySem.F.plain_proto_collect _]
 refine wpAny_bind (m:=newList []) (wpAny_newList ?_ (Nat.zero_le _))
 refine wpAny_pure ⟨plainId_quiet PySem.F.plain_list_iadd _,codeAny_builtin PySem.F.entry_list_iadd ?_⟩;rw [Around.under_plainId PySem.F.plain_list_iadd _]
 have hne:s.heap.objs.size≠a:=Ne.symm (Nat.ne_of_lt hlt)
 have ho1:(s.heap.push (seqObj "list" #[] 0)).get? a=some ob:=Heap.get?_push_of_some _ ho
 have hT1:Shared.TypeIs { s with heap:=s.heap.push (seqObj "list" #[] 0) } (.ref a) "set":=⟨ob,ho1,hx.1⟩
 refine (?_:wpAny (model prog w) A.in1 (Builtin.List.listExtendWith (.ref s.heap.objs.size) (.ref a) (.ref s.heap.objs.size)) _ _ { s with heap:=s.heap.push (seqObj "list" #[] 0) })
 unfold Builtin.List.listExtendWith
 refine wpAny_bind (wpAny_typeOf hT1 ?_)
 have c1:Builtin.List.listSameRef (.ref s.heap.objs.size) (.ref a)=false:=by simp [Builtin.List.listSameRef,hne]
 have c2:(Value.type "set"==Value.type "list")=false:=by decide
 have c3:(Value.type "set"==Value.type "tuple")=false:=by decide
 simp only [c1,c2,c3,Bool.or_false,Bool.false_eq_true,if_false]
 refine wpAny_bind (Zrz ho1 hx hd T hn fun it Tp l h' d hit hTit hTa keep W hp hTl hil=>?_)
 obtain ⟨⟨first,hi,M⟩,hob⟩:=id W
 have hT2:Shared.TypeIs { s with heap:=h',drawn:=d } (.ref a) "set":=⟨ob,hob,hx.1⟩
 refine wpAny_bind (wpAny_holding (ZsM hT2 ?_))
 refine (?_:wpAny (model prog w) A.in1 (rule "list.extend.makes-room" >>= fun _=>Builtin.List.listTouch (.ref s.heap.objs.size) >>= fun _=>again (.builtin "list.extend.loop" ⟨[.ref s.heap.objs.size,.ref it,.ref s.heap.objs.size],[]⟩)) _ _ { s with heap:=h',drawn:=d })
 refine wpAny_bind (wpAny_rule ?_)
 have hS0:h'.get? s.heap.objs.size=some (seqObj "list" #[] 0):=keep _ _ (Heap.get?_push_size _ rfl)
 refine wpAny_bind (m:=Builtin.List.listTouch (.ref s.heap.objs.size)) (wpAny_bind (m:=updateSeq s.heap.objs.size (·.push .none)) (wpAny_updateSeq (s:={ s with heap:=h',drawn:=d }) hS0 rfl ?_))
 have hS2:=Heap.get?_update_self (Obj.mapSeq (·.push Value.none)) hS0 rfl
 refine (?_:wpAny (model prog w) A.in1 (updateSeq s.heap.objs.size (·.pop)) _ _ _)
 refine wpAny_updateSeq hS2 rfl ?_
 have hS3:=Heap.get?_update_self (Obj.mapSeq (·.pop)) hS2 rfl
 have hit0:s.heap.objs.size < it:=by rw [Heap.size_push] at hit;exact hit
 have hTs:s.heap.objs.size≠Tp:=by
  rcases hTa with e | e
  ·rw [e];exact hne
  ·rw [Heap.size_push] at e;exact Nat.ne_of_lt e
 have hSf:s.heap.objs.size∉[it,a,Tp]:=by
  simp only [List.mem_cons,List.not_mem_nil,or_false,not_or]
  exact ⟨Nat.ne_of_lt hit0,hne,hTs⟩
 have hai:a≠it:=Nat.ne_of_lt (Nat.lt_trans hlt hit0)
 have hll:l.length=es.size:=by rw [hp.length_eq,Array.length_toList]
 have WS:=(ZpN (prog:=prog) (w:=w) (A:=A.in1) (by simp [hh]) hx hd T hai hTit hll).toS
 have oth:∀ b o,b≠s.heap.objs.size→h'.get? b=some o→((h'.update s.heap.objs.size (Obj.mapSeq (·.push Value.none))).update s.heap.objs.size (Obj.mapSeq (·.pop))).get? b=some o :=
  fun b o hb e=>(Heap.get?_update_other _ _ (Ne.symm hb)).trans ((Heap.get?_update_other _ _ (Ne.symm hb)).trans e)
 refine wpAny_pure ⟨plainId_quiet PySem.F.plain_extend_loop _,codeAny_extend_loopS WS (fits_of_scanBound (by rw [hz];exact hn)) _ hSf _ es.size 0 _ _ _ rfl (Nat.zero_le _)
  ⟨⟨first,oth _ _ (Ne.symm (Nat.ne_of_lt hit0)) hi,M.at fun o e=>oth _ _ (Ne.symm hTs) e⟩,oth _ _ (Ne.symm hne) hob⟩ hS3 (ItemsOf.nil _) fun s' acc c hm hS' hacc=>?_⟩
 refine wpAny_bind (m:=load s.heap.objs.size) (wpAny_load hS' (wpAny_pure ?_))
 have hvs:acc.toList=l.map (·.2):=by
  apply List.ext_getElem?
  intro i
  rw [List.getElem?_map,Array.getElem?_toList]
  by_cases hi':i < acc.size
  ·obtain ⟨e,he,hv⟩:=hacc.2 i _ (Array.getElem?_eq_getElem hi')
   rw [Array.getElem?_eq_getElem hi',he,hv];rfl
  ·rw [Array.getElem?_eq_none (by omega),List.getElem?_eq_none (by rw [hll,← hacc.1];omega)];rfl
 have hall:∀ v∈l.map (·.2),∃ x t,v=Value.str x t:=fun v hv=>by
  obtain ⟨e,he,rfl⟩:=List.mem_map.mp hv
  obtain ⟨x,u,rfl⟩:=T.el e (hp.mem_iff.mp he)
  exact ⟨x,u,rfl⟩
 refine h s' acc.toList ((l.map (·.2)).map strOf) (by rw [hvs];exact strsAre_map _ hall) ?_ (fun b o hb e=>?_) hm.gens hm.os ?_
 ·rw [List.map_map]
  exact ((hp.map _).trans T.pm)
 ·refine hm.heap b o ?_ (oth b o (Nat.ne_of_lt hb) (keep b o (Heap.get?_push_of_some _ e)))
  simp only [List.mem_cons,List.not_mem_nil,or_false,not_or]
  exact ⟨Nat.ne_of_lt hb,Nat.ne_of_lt (Nat.lt_trans hb hit0)⟩
 ·exact Nat.le_of_lt (Heap.lt_size hS')
theorem Zov {a:Addr} {ks:List Str} {Q:Value→Shared→Prop} (hh:A.handled=none) (hS:SS w s.heap a ks) (hn:ks.length < 64)
  (h:∀ (s':Shared) (p:Addr) (vs:List Value) (xs:List Str) (e:Nat),s.heap.objs.size≤p→s'.heap.get? p=some (seqObj "list" vs.toArray e)→StrsAre vs xs→xs.Perm ks→sortedS xs=true→(∀ c o,c < s.heap.objs.size→s.heap.get? c=some o→s'.heap.get? c=some o)→s'.gens=s.gens→s'.os=s.os→Q (.ref p) s') :
  wpAny (model prog w) A (call (.builtin "sorted") [.ref a]) Q E s:=by
 refine Calls.call_function_entry kind_sorted plain_sorted entry_sorted (args_sorted1 _) ?_;unfold Builtin.«sorted»
 refine wpAny_bind (m:=checkCount "sorted" 1 1 _) (wpAny_pure ?_)
 refine wpAny_bind (ZmI (by simp [hh]) hS (by unfold scanBound;omega) fun s1 vs xs hv hp keep hg hos hsz=>?_)
 have hvl:vs.length < 64:=by rw [hv.length,hp.length_eq];exact hn
 refine wpAny_bind (wpAny_newList ?_ (by have:(64:Nat)≤sizeLine:=by decide
                                         omega))
 have hoL:(s1.heap.push (seqObj "list" vs.toArray 0)).get? s1.heap.objs.size=some (seqObj "list" vs.toArray 0):=Heap.get?_push_size _ rfl
 refine wpAny_bind (wpAny_holding (wpAny_call_entry slot_list_sort ⟨_,hoL,rfl⟩ entry_list_sort (list_sort_treeK (s:={ s1 with heap:=s1.heap.push (seqObj "list" vs.toArray 0) }) strKind_oneLt hoL hv.keysOf (fun v1 v2 r e=>keyKind_strs (by rw [← e];exact hv)) hvl fun st' a1 a2=>⟨_,rfl,?_⟩) (args_list_sort _)))
 obtain ⟨xs',hv',hp',hs'⟩:=sorted_out_str hv a1 a2
 obtain ⟨e,he⟩:=sortedHeap_at (n:=0) (vs:=vs) (out:=(arrOf st').map (·.2)) hoL
 refine wpAny_pure ⟨_,rfl,h _ _ ((arrOf st').map (·.2)).toList xs' e hsz (by rw [Array.toArray_toList];exact he) hv' (hp'.trans hp) hs' (fun c o hc z=>?_) hg hos⟩
 rw [sortedHeap_old (Nat.ne_of_lt (Nat.lt_of_lt_of_le hc hsz)) (by rw [Heap.size_push];exact Nat.lt_succ_of_lt (Nat.lt_of_lt_of_le hc hsz))]
 exact Heap.get?_push_of_some _ (keep c o hc z)
end
end L3
namespace L3
open PySem PySem.Spec PyProof.Rows L2
variable {K:PySem.W.Frag} {H H' H2:Hp}
theorem Zi7:∀ {xs:List Str} {its:List Value},Vals (xs.map V.str) its→StrsAre its xs
 | [],_,.nil=>.nil
 | x::xs,_,.cons r rs=>by
  obtain ⟨t,rfl⟩:=r
  exact .cons x t (Zi7 rs)
theorem ZlQ:∀ {xs:List Str} {its:List Value},StrsAre its xs→Vals (xs.map V.str) its
 | [],_,.nil=>.nil
 | x::xs,_,.cons _ t rs=>.cons ⟨t,rfl⟩ (ZlQ rs)
theorem Zhe {α:Type} [BEq α] [LawfulBEq α]:∀ {ks xs:List α},ks.Nodup→(∀ x∈ks,x∈xs)→ks.length≤xs.length
 | [],xs,_,_=>Nat.zero_le _
 | k::ks,xs,hn,h=>by
  have hk:=List.nodup_cons.mp hn
  have hin:k∈xs:=h k List.mem_cons_self
  have h1:=Zhe (xs:=xs.erase k) hk.2 fun x hx=>(List.mem_erase_of_ne (fun e=>hk.1 (by rw [← e];exact hx))).mpr (h x (List.mem_cons_of_mem _ hx))
  rw [List.length_erase_of_mem hin] at h1
  have:0 < xs.length:=List.length_pos_of_mem hin
  rw [List.length_cons];omega
section
variable {X:Cx} {e eb:Expr} {p1 p2 p3 q1 q2 q3 qb:Pos} {ta tb:TE}
theorem ZmP {A:Around} {E:Value→Shared→Prop} {s:Shared} {pos:Pos} {Q:List Value→Shared→Prop} (hs:starEach [e] X.env=(false,eval e X.env)::starEach [] X.env) (h:wpAny (model X.prog X.w) A (eval e X.env) (fun v s1=>Q [v] s1) E s):wpAny (model X.prog X.w) A (spliced (backTo pos (starEach [e] X.env))) Q E s:=by
 rw [hs]
 refine Calls.spliced_cons (wpAny_mono h (fun v s1 q=>?_) fun _ _ z=>z)
 exact Calls.spliced_nil q
def Zxf (K:PySem.W.Frag) (ta tb:TE):TE:=fun σ H Q=>ta σ H fun x H1=>∃ (p:Addr) (xs:List Str),x=.ref p∧SqL K H1 p (xs.map V.str)∧xs.length < 32∧tb σ H1 fun y H2=>∃ (q:Addr) (ys:List Str),y=.ref q∧SqL K H2 q (ys.map V.str)∧ys.length < 32 ∧
 ∀ (zs:List Str) (r:Addr),zs.Nodup→sortedS zs=true→(∀ x,x∈zs↔x∈xs∨x∈ys)→H2 r=none→Q (.ref r) (upd H2 r (.lst (zs.map V.str)))
theorem ZsE (hc:X.calm=true) (n1:X.mg "sorted"=none) (n2:X.mg "set"=none) (g1:Gl X "sorted") (g2:Gl X "set") (h1:starEach [e] X.env=(false,eval e X.env)::starEach [] X.env) (h2:starEach [eb] X.env=(false,eval eb X.env)::starEach [] X.env)
  (h3:starEach [.BinOp (.Call (.Name "set" p1) [e] [] q1) .BitOr (.Call (.Name "set" p2) [eb] [] q2) qb] X.env=(false,eval (.BinOp (.Call (.Name "set" p1) [e] [] q1) .BitOr (.Call (.Name "set" p2) [eb] [] q2) qb) X.env)::starEach [] X.env) (ha:PE X e ta) (hb:PE X eb tb) :
  PE X (.Call (.Name "sorted" p3) [.BinOp (.Call (.Name "set" p1) [e] [] q1) .BitOr (.Call (.Name "set" p2) [eb] [] q2) qb] [] q3) (Zxf X.K ta tb):=by
 intro pins s σ H Q I h
 have bS:bootBuiltins "sorted"=some (.builtin "sorted"):=by decide +kernel
 have bT:bootBuiltins "set"=some (.type "set"):=by decide +kernel
 have hh:X.A.handled=none:=I.ok.hd hc
 refine wpAny_Call_Name_kw (ZeM I g1 n1 bS ?_)
 refine PyProof.Rows.callWith_builtin1 (ZmP h3 ?_) h3 rfl
 refine wpAny_BinOp ?_
 refine wpAny_Call_Name_kw (ZeM I g2 n2 bT ?_)
 refine PyProof.Rows.callWith_type1 (ZmP h1 ?_) h1 rfl
 refine thn (ha pins s σ H _ I h) fun v s1 zz1=>?_
 obtain ⟨x,H1,I1,r1,p,xs,ex,hq,hn,q1⟩:=zz1
 subst ex
 cases r1
 obtain ⟨its,rv,pl,hz⟩:=I1.list hq
 have hil:its.length=xs.length:=by have:=rv.length;rw [List.length_map] at this;exact this.symm
 refine Znt hh pl.isList (by simpa using Zi7 rv) (by rw [List.size_toArray,hil];unfold scanBound;omega) fun h' tk ka hA hxa keep=>?_
 have hA':=hA
 obtain ⟨oa,esA,epA,tA,hoA,hxA,hdA,TA⟩:=hA
 have I2:Inv X pins σ H1 { s1 with heap:=h',toks:=tk }:=I1.kept fun b u z=>keep b u (Heap.lt_size z) z
 have I3:Inv X (pins++[(s1.heap.objs.size,oa)]) σ H1 { s1 with heap:=h',toks:=tk }:=I2.pins_of fun p hp=>by
  rcases List.mem_append.mp hp with hp | hp
  ·exact I2.pin p (List.mem_append_right _ hp)
  ·have e:=List.mem_singleton.mp hp
   subst e
   exact ⟨hoA,I1.hok.fresh (Nat.le_refl _),Ne.symm (Nat.ne_of_lt I1.lt),I1.nofs (Nat.le_refl _),fun v z=>by rw [hdA] at z;cases z⟩
 refine wpAny_Call_Name_kw (ZeM I3 g2 n2 bT ?_)
 refine PyProof.Rows.callWith_type1 (ZmP h2 ?_) h2 rfl
 refine thn (hb _ _ σ H1 _ I3 q1) fun v2 s2 zz2=>?_
 obtain ⟨y,H2,I4,r2,q,ys,ey,hq2,hn2,q2⟩:=zz2
 subst ey
 cases r2
 have hoA2:s2.heap.get? s1.heap.objs.size=some oa:=(I4.pin (s1.heap.objs.size,oa) (List.mem_append_right _ (List.mem_append_right _ (List.mem_singleton.mpr rfl)))).1
 have I5:Inv X pins σ H2 s2:=I4.unpinned
 obtain ⟨its2,rv2,pl2,hz2⟩:=I5.list hq2
 have hil2:its2.length=ys.length:=by have:=rv2.length;rw [List.length_map] at this;exact this.symm
 refine Znt hh pl2.isList (by simpa using Zi7 rv2) (by rw [List.size_toArray,hil2];unfold scanBound;omega) fun h'' tk2 kb hB hxb keep2=>?_
 have hA2:SS X.w h'' s1.heap.objs.size ka:=⟨oa,esA,epA,tA,keep2 _ _ (Heap.lt_size hoA2) hoA2,hxA,hdA,TA⟩
 have lka:ka.length < 32:=Nat.lt_of_le_of_lt (Zhe hA'.nd fun x hx=>(hxa x).mp hx) hn
 have lkb:kb.length < 32:=Nat.lt_of_le_of_lt (Zhe hB.nd fun x hx=>(hxb x).mp hx) hn2
 refine ZzZ (s:={ s2 with heap:=h'',toks:=tk2 }) (Nat.ne_of_lt (Heap.lt_size hoA2)) hA2 hB lka lkb fun h3 kc hC hxc keep3=>?_
 have lkc:kc.length < 64:=by
  have:=Zhe (xs:=ka++kb) hC.nd fun x hx=>List.mem_append.mpr ((hxc x).mp hx)
  rw [List.length_append] at this
  omega
 refine Zov hh hC lkc fun s' r vs zs en hr hget hv hp hs keep4 hg hos=>?_
 have z1:s2.heap.objs.size < h''.objs.size:=SS.lt (s:={ s2 with heap:=h'' }) hB
 have z2:h''.objs.size < h3.objs.size:=SS.lt (s:={ s2 with heap:=h3 }) hC
 have hr2:s2.heap.objs.size≤r:=Nat.le_of_lt (Nat.lt_of_lt_of_le (Nat.lt_trans z1 z2) hr)
 have kall:∀ b u,s2.heap.get? b=some u→s'.heap.get? b=some u:=fun b u z=>by
  have y1:=keep2 b u (Heap.lt_size z) z
  have y2:=keep3 b u (Heap.lt_size y1) y1
  exact keep4 b u (Heap.lt_size y2) y2
 have hzl:zs.length≤sizeLine:=by
  have:(64:Nat)≤sizeLine:=by decide
  rw [hp.length_eq];omega
 have J:Inv X pins σ (upd H2 r (.lst (zs.map V.str))) { s2 with heap:=s'.heap,toks:=s'.toks }:=I5.laid (t':=s'.toks) kall hr2 (show ObjOk X.prog X.w _ s'.heap r (.lst (zs.map V.str)) from ⟨by rw [List.length_map];exact hzl,vs,en,ZlQ hv,hget⟩)
 refine ⟨.ref r,_,⟨J.ok,by rw [hos];exact J.os,by rw [hg];exact J.bare,J.base,J.loc,J.cell,J.free,J.freeC,J.pin,J.hok,J.len⟩,rfl,q2 zs r (hp.nodup_iff.mpr hC.nd) hs (fun x=>?_) (I5.hok.fresh hr2)⟩
 rw [hp.mem_iff,hxc,hxa,hxb]
def Zeu (ga gb:GE):GE:=fun ω G Q=>ga ω G fun x G1=>∃ xs:List Str,Zkm G1 x=some (xs.map W.str)∧xs.length < 32∧gb ω G1 fun y G2=>∃ ys:List Str,Zkm G2 y=some (ys.map W.str)∧ys.length < 32 ∧
 ∀ (zs:List Str) (p:Addr),zs.Nodup→sortedS zs=true→(∀ x,x∈zs↔x∈xs∨x∈ys)→G2 p=none→Q (.ref p) (put G2 p (.lst (zs.map W.str)))
theorem Zrx {ga gb:GE} (ma:ga.M) (mb:gb.M):GE.M (Zeu ga gb):=fun ω G Q Q' h q=>ma _ _ _ _ ((by rintro x G1 ⟨xs,h1,h2,q1⟩;exact ⟨xs,h1,h2,mb _ _ _ _ ((by rintro y G2 ⟨ys,h3,h4,q2⟩;exact ⟨ys,h3,h4,fun zs p a b c d=>h _ _ (q2 zs p a b c d)⟩)) q1⟩)) q
theorem ZmO:∀ {xs:List Str} {vs:List V},TrL K H vs (xs.map W.str)→vs=xs.map V.str
 | [],_,.nil=>rfl
 | x::xs,_,.cons t ts=>by
  cases t
  rw [ZmO ts];rfl
theorem ZqD:∀ (xs:List Str),TrL K H (xs.map V.str) (xs.map W.str)
 | []=>.nil
 | x::xs=>.cons (.str x) (ZqD xs)
theorem ZcT {ga gb:GE} (hc:X.calm=true) (n1:X.mg "sorted"=none) (n2:X.mg "set"=none) (g1:Gl X "sorted") (g2:Gl X "set") (h1:starEach [e] X.env=(false,eval e X.env)::starEach [] X.env) (h2:starEach [eb] X.env=(false,eval eb X.env)::starEach [] X.env)
  (h3:starEach [.BinOp (.Call (.Name "set" p1) [e] [] q1) .BitOr (.Call (.Name "set" p2) [eb] [] q2) qb] X.env=(false,eval (.BinOp (.Call (.Name "set" p1) [e] [] q1) .BitOr (.Call (.Name "set" p2) [eb] [] q2) qb) X.env)::starEach [] X.env) (ha:Em X e ga) (hb:Em X eb gb) :
  Em X (.Call (.Name "sorted" p3) [.BinOp (.Call (.Name "set" p1) [e] [] q1) .BitOr (.Call (.Name "set" p2) [eb] [] q2) qb] [] q3) (Zeu ga gb):=by
 refine ⟨Zbh (ZsE hc n1 n2 g1 g2 h1 h2 h3 ha.p hb.p) fun σ H Q zz3=>?_,Zrx ha.m hb.m⟩
 obtain ⟨ω,G,ts,rh,q⟩:=zz3
 refine ⟨ω,G,ts,rh,ha.m _ _ _ _ (fun x G1 zz4 v H1 m1 tx r1=>?_) q⟩
 obtain ⟨xs,hx,hn,q1⟩:=zz4
 obtain ⟨a,vs,rfl,rfl,hG,hH,tv⟩:=ZgX r1 tx hx
 obtain rfl:=ZmO tv
 refine ⟨a,xs,rfl,.inl (.inl hH),hn,ω,G1,ts.mono m1,r1,hb.m _ _ _ _ (fun y G2 zz5 u H2 m2 ty r2=>?_) q1⟩
 obtain ⟨ys,hy,hn2,q2⟩:=zz5
 obtain ⟨b,us,rfl,rfl,hG2,hH2,tu⟩:=ZgX r2 ty hy
 obtain rfl:=ZmO tu
 refine ⟨b,ys,rfl,.inl (.inl hH2),hn2,fun zs r z1 z2 z3 z4=>?_⟩
 exact q2 zs r z1 z2 z3 (r2.no z4) _ _ (m1.trans (m2.trans (Mono.new z4 _))) (.ref r) (r2.new z4 (ZqD zs))
end
end L3
namespace L3
open PySem PySem.Spec PyProof.Rows L2
section
variable {prog:Program} {w:World} {A:Around} {E:Value→Shared→Prop} {s:Shared}
theorem Zhr {it l:Addr} {i:Nat} {xs:Array Value} {x:Value} {Q:Value→Shared→Prop} (u:s.heap.IsTupleIter it l i) (v:s.heap.IsTuple l xs) (hx:xs[i]?=some x) (hQ:∀ h',h'.IsTupleIter it l (i+1)→Heap.SameBut it s.heap h'→Q x { s with heap:=h' }) :
  wpAny (model prog w) A (Builtin.SmallTypes.nextOf (.ref it)) Q E s:=by
 obtain ⟨oi,ei,ci,di⟩:=id u
 obtain ⟨ol,el,_,nl,dl⟩:=v
 unfold Builtin.SmallTypes.nextOf
 refine wpAny_bind (wpAny_callSpecial?_slot (name:=Str.ofString "__next__") u.typeIs PySem.F.slot_tuple_iterator_next (wpAny_call_entry PySem.F.slot_tuple_iterator_next u.typeIs PySem.F.entry_tuple_iterator_next ?_ (PySem.F.args_tuple_iterator_next_1 _)))
 refine wpAny_bind (m:=field (.ref it) 0) (wpAny_field ei di (x:=.ref l) rfl ?_)
 show wpAny (model prog w) _ (if (Value.ref l==Value.none)=true then _ else _) _ E s
 rw [if_neg (show ¬ ((Value.ref l==Value.none)=true) from Bool.false_ne_true)];refine wpAny_bind (m:=field (.ref it) 1) (wpAny_field ei di (x:=.int i 0) rfl ?_)
 refine wpAny_bind (m:=seqItems? (.ref l)) (wpAny_seqItems el dl ?_)
 simp only [Int.toNat_natCast];rw [hx]
 refine wpAny_bind (wpAny_setField ei di (by simp) (wpAny_pure ⟨x,rfl,wpAny_pure (hQ _ ⟨_,Heap.get?_update_self _ ei (Obj.isFreed_of_fields (Obj.data_mapFields di _)),(Obj.cls_mapFields ..).trans ci,?_⟩ (Heap.SameBut.update ..))⟩))
 rw [Obj.data_mapFields di];simp [rawInt]
theorem Zph {it l:Addr} {i:Nat} {xs:Array Value} {Q:Value→Shared→Prop} (hh:A.handled=none) (u:s.heap.IsTupleIter it l i) (v:s.heap.IsTuple l xs) (hx:xs[i]?=none)
  (hE:∀ h' e,Heap.ExtBut it s.heap h'→(∃ o,h'.get? e=some o∧o.cls=.type "StopIteration")→E (.ref e) { s with heap:=h' }):wpAny (model prog w) A (Builtin.SmallTypes.nextOf (.ref it)) Q E s:=by
 obtain ⟨oi,ei,ci,di⟩:=id u
 obtain ⟨ol,el,_,nl,dl⟩:=v
 unfold Builtin.SmallTypes.nextOf
 refine wpAny_bind (wpAny_callSpecial?_slot (name:=Str.ofString "__next__") u.typeIs PySem.F.slot_tuple_iterator_next (wpAny_call_entry PySem.F.slot_tuple_iterator_next u.typeIs PySem.F.entry_tuple_iterator_next ?_ (PySem.F.args_tuple_iterator_next_1 _)))
 refine wpAny_bind (m:=field (.ref it) 0) (wpAny_field ei di (x:=.ref l) rfl ?_)
 show wpAny (model prog w) _ (if (Value.ref l==Value.none)=true then _ else _) _ E s
 rw [if_neg (show ¬ ((Value.ref l==Value.none)=true) from Bool.false_ne_true)];refine wpAny_bind (m:=field (.ref it) 1) (wpAny_field ei di (x:=.int i 0) rfl ?_)
 refine wpAny_bind (m:=seqItems? (.ref l)) (wpAny_seqItems el dl ?_)
 simp only [Int.toNat_natCast];rw [hx]
 refine wpAny_bind (wpAny_rule (wpAny_bind (wpAny_setField ei di (by simp) ?_)));refine wpAny_bind (m:=newExc (.type "StopIteration") []) ?_
 simp only [newExc,newTuple]
 refine wpAny_bind (wpAny_newObj_type ?_ (by size_fits));refine wpAny_bind (m:=firstArgMember _ _) (wpAny_of_eq (a:=Value.none) (by first | rfl | (simp only [firstArgMember];rfl)) (wpAny_newObj_type ?_ (by size_fits)))
 simp only [raiseNew]
 refine wpAny_bind (wpAny_handled ?_);rw [show A.in1.handled=none from hh]
 refine wpAny_bind (wpAny_pure (wpAny_throw ?_))
 exact hE _ _ (((Heap.SameBut.update ..).extBut.push _).push _) ⟨_,Heap.get?_push_size _ rfl,rfl⟩
theorem Zvq {z TI TO i1 i2 l1 l2:Addr} {k1 k2:Nat} {xs ys:Array Value} {x y a b:Value} {Q:Value→Shared→Prop} (D:ZipApart z TI TO i1 i2 l1 l2) (hz:IsZip s.heap z TI TO .none) (hTI:IsPair s.heap TI (.ref i1) (.ref i2)) (hTO:IsPair s.heap TO a b)
  (u1:s.heap.IsTupleIter i1 l1 k1) (u2:s.heap.IsTupleIter i2 l2 k2) (v1:s.heap.IsTuple l1 xs) (v2:s.heap.IsTuple l2 ys) (hx:xs[k1]?=some x) (hy:ys[k2]?=some y)
  (hQ:∀ h',IsZip h' z TI TO (rawInt s.heap.objs.size)→IsPair h' TO x y→h'.IsTupleIter i1 l1 (k1+1)→h'.IsTupleIter i2 l2 (k2+1)→IsPair h' s.heap.objs.size x y→(∀ c o,c≠z→c≠TO→c≠i1→c≠i2→s.heap.get? c=some o→h'.get? c=some o)→Q (.ref s.heap.objs.size) { s with heap:=h' }) :
  wpAny (model prog w) A (Builtin.«zip.__next__» ⟨[.ref z],[]⟩) (fun fin s'=>∃ v,fin=.done (.ret v)∧Q v s') E s:=by
 refine wpAny_bind (m:=field (.ref z) 2) (wpAny_field hz rfl (x:=.bool false) rfl ?_)
 refine wpAny_bind (m:=field (.ref z) 3) (wpAny_field hz rfl (x:=.ref TI) rfl (wpAny_bind (m:=seqItems? (.ref TI)) (wpAny_seqItems hTI rfl ?_)))
 refine wpAny_bind (m:=Builtin.SmallTypes.ownedTupleIsFree (.ref z)) ?_
 unfold Builtin.SmallTypes.ownedTupleIsFree
 refine wpAny_bind (m:=field (.ref z) 0) (wpAny_field hz rfl (x:=.none) rfl (wpAny_pure ?_));simp only [if_true]
 refine wpAny_bind (wpAny_rule (wpAny_bind (wpAny_field hz rfl (x:=.ref TO) rfl (wpAny_bind (wpAny_setField_rec hz (by simp) fun h₁ hz₁ hs₁=>?_)))))
 replace hz₁:IsZip h₁ z TI TO .ellipsis:=hz₁
 refine wpAny_bind ?_
 walk_at "po"
 refine wpAny_bind (wpAny_bind (wpAny_onRaise ?_));refine wpAny_bind (m:=Builtin.SmallTypes.nextOf (.ref i1)) ?_
 refine Zhr (u1.extBut hs₁.extBut D.i1z) (v1.extBut hs₁.extBut D.l1z) hx fun h₂ w1 hs₂=>wpAny_pure ?_
 have hTO₂:IsPair h₂ TO a b:=hs₂.extBut _ _ D.TOi1 (hs₁.extBut _ _ D.TOz hTO)
 refine wpAny_bind (wpAny_seqItems hTO₂ rfl (wpAny_bind (wpAny_updateSeq_pair hTO₂ fun h₃ hTO₃ hs₃=>?_)))
 replace hTO₃:IsPair h₃ TO x b:=hTO₃
 refine wpAny_bind (wpAny_letGo (wpAny_pure ?_));refine wpAny_bind (wpAny_bind (wpAny_onRaise ?_));refine wpAny_bind (m:=Builtin.SmallTypes.nextOf (.ref i2)) ?_
 refine Zhr (((u2.extBut hs₁.extBut D.i2z).extBut hs₂.extBut D.i12.symm).extBut hs₃.extBut D.TOi2.symm) (((v2.extBut hs₁.extBut D.l2z).extBut hs₂.extBut D.l2i1).extBut hs₃.extBut D.l2TO) hy fun h₄ w2 hs₄=>wpAny_pure ?_
 have hTO₄:IsPair h₄ TO x b:=hs₄.extBut _ _ D.TOi2 hTO₃
 refine wpAny_bind (wpAny_seqItems hTO₄ rfl (wpAny_bind (wpAny_updateSeq_pair hTO₄ fun h₅ hTO₅ hs₅=>?_)))
 replace hTO₅:IsPair h₅ TO x y:=hTO₅
 refine wpAny_bind (wpAny_letGo (wpAny_pure (wpAny_pure ?_)));refine wpAny_bind (wpAny_seqItems hTO₅ rfl (wpAny_bind (wpAny_newTuple ?_ (by show (2:Nat)≤sizeLine;decide))))
 have hsz:h₅.objs.size=s.heap.objs.size:=by rw [hs₅.1,hs₄.1,hs₃.1,hs₂.1,hs₁.1]
 have hz₅:IsZip h₅ z TI TO .ellipsis:=hs₅.extBut _ _ D.TOz.symm (hs₄.extBut _ _ D.i2z.symm (hs₃.extBut _ _ D.TOz.symm (hs₂.extBut _ _ D.i1z.symm hz₁)))
 have w1':h₅.IsTupleIter i1 l1 (k1+1):=((w1.extBut hs₃.extBut D.TOi1.symm).extBut hs₄.extBut D.i12).extBut hs₅.extBut D.TOi1.symm
 have w2':h₅.IsTupleIter i2 l2 (k2+1):=w2.extBut hs₅.extBut D.TOi2.symm
 refine wpAny_bind (m:=Builtin.SmallTypes.ownedTupleHandOut (.ref z) (.ref h₅.objs.size)) ?_
 unfold Builtin.SmallTypes.ownedTupleHandOut
 have hz₆:IsZip (h₅.push { cls:=.type "tuple",data:=.seq #[x,y] }) z TI TO .ellipsis:=Heap.get?_push_of_some _ hz₅
 refine wpAny_bind (wpAny_setField_rec hz₆ (by simp) fun h₇ hz₇ hs₇=>?_)
 replace hz₇:IsZip h₇ z TI TO (rawInt h₅.objs.size):=hz₇
 refine wpAny_setField_rec hz₇ (by simp) fun h₈ hz₈ hs₈=>?_
 replace hz₈:IsZip h₈ z TI TO (rawInt h₅.objs.size):=hz₈
 have zlt:h₅.objs.size≠z:=Nat.ne_of_gt (Heap.lt_size hz₅)
 have upp:∀ c o,c≠z→h₅.get? c=some o→h₈.get? c=some o:=fun c o c1 e=>hs₈.extBut _ _ c1 (hs₇.extBut _ _ c1 (Heap.get?_push_of_some _ e))
 have hT₈:IsPair h₈ h₅.objs.size x y:=hs₈.extBut _ _ zlt (hs₇.extBut _ _ zlt (Heap.get?_push_size _ rfl))
 rw [hsz] at hz₈ hT₈
 refine wpAny_pure ⟨_,rfl,(?_:Q (.ref h₅.objs.size) _)⟩
 rw [hsz]
 obtain ⟨o1,e1,r1⟩:=w1'
 obtain ⟨o2,e2,r2⟩:=w2'
 exact hQ h₈ hz₈ (upp _ _ D.TOz hTO₅) ⟨o1,upp _ _ D.i1z e1,r1⟩ ⟨o2,upp _ _ D.i2z e2,r2⟩ hT₈ fun c o c1 c2 c3 c4 e=>upp c o c1 (hs₅.extBut _ _ c2 (hs₄.extBut _ _ c4 (hs₃.extBut _ _ c2 (hs₂.extBut _ _ c3 (hs₁.extBut _ _ c1 e)))))
theorem Zwr {z TI TO i1 i2 l1 l2:Addr} {k1 k2:Nat} {xs ys:Array Value} {a b:Value} {Q:Fin→Shared→Prop} (hh:A.handled=none) (D:ZipApart z TI TO i1 i2 l1 l2) (hz:IsZip s.heap z TI TO .none) (hTI:IsPair s.heap TI (.ref i1) (.ref i2)) (hTO:IsPair s.heap TO a b)
  (u1:s.heap.IsTupleIter i1 l1 k1) (u2:s.heap.IsTupleIter i2 l2 k2) (v1:s.heap.IsTuple l1 xs) (v2:s.heap.IsTuple l2 ys) (hend:xs[k1]?=none∨ys[k2]?=none)
  (hE:∀ h' e,(∀ c o,c≠z→c≠TO→c≠i1→c≠i2→s.heap.get? c=some o→h'.get? c=some o)→(∃ o,h'.get? e=some o∧o.cls=.type "StopIteration")→E (.ref e) { s with heap:=h' }):wpAny (model prog w) A (Builtin.«zip.__next__» ⟨[.ref z],[]⟩) Q E s:=by
 refine wpAny_bind (m:=field (.ref z) 2) (wpAny_field hz rfl (x:=.bool false) rfl ?_)
 refine wpAny_bind (m:=field (.ref z) 3) (wpAny_field hz rfl (x:=.ref TI) rfl (wpAny_bind (m:=seqItems? (.ref TI)) (wpAny_seqItems hTI rfl ?_)))
 refine wpAny_bind (m:=Builtin.SmallTypes.ownedTupleIsFree (.ref z)) ?_
 unfold Builtin.SmallTypes.ownedTupleIsFree
 refine wpAny_bind (m:=field (.ref z) 0) (wpAny_field hz rfl (x:=.none) rfl (wpAny_pure ?_));simp only [if_true]
 refine wpAny_bind (wpAny_rule (wpAny_bind (wpAny_field hz rfl (x:=.ref TO) rfl (wpAny_bind (wpAny_setField_rec hz (by simp) fun h₁ hz₁ hs₁=>?_)))))
 replace hz₁:IsZip h₁ z TI TO .ellipsis:=hz₁
 refine wpAny_bind ?_
 walk_at "po"
 refine wpAny_bind (wpAny_bind (wpAny_onRaise ?_));refine wpAny_bind (m:=Builtin.SmallTypes.nextOf (.ref i1)) ?_
 cases hx:xs[k1]? with
 | none =>
  refine Zph hh (u1.extBut hs₁.extBut D.i1z) (v1.extBut hs₁.extBut D.l1z) hx fun h₂ e hs₂ zz1=>?_
  obtain ⟨oe,hoe,hce⟩:=zz1
  have hz₂:IsZip h₂ z TI TO .ellipsis:=hs₂ _ _ D.i1z.symm hz₁
  have hez:e≠z:=fun q=>by subst q;rw [hz₂] at hoe;cases hoe;simp at hce
  exact wpAny_setField_rec hz₂ (by simp) fun h₃ _ hs₃=>hE h₃ e (fun c o c1 _ c3 _ q=>hs₃.extBut _ _ c1 (hs₂ _ _ c3 (hs₁.extBut _ _ c1 q))) ⟨oe,hs₃.extBut _ _ hez hoe,hce⟩
 | some x =>
  have hy:ys[k2]?=none:=by
   rcases hend with q | q
   ·rw [hx] at q;cases q
   ·exact q
  refine Zhr (u1.extBut hs₁.extBut D.i1z) (v1.extBut hs₁.extBut D.l1z) hx fun h₂ w1 hs₂=>wpAny_pure ?_
  have hTO₂:IsPair h₂ TO a b:=hs₂.extBut _ _ D.TOi1 (hs₁.extBut _ _ D.TOz hTO)
  refine wpAny_bind (wpAny_seqItems hTO₂ rfl (wpAny_bind (wpAny_updateSeq_pair hTO₂ fun h₃ hTO₃ hs₃=>?_)))
  refine wpAny_bind (wpAny_letGo (wpAny_pure ?_));refine wpAny_bind (wpAny_bind (wpAny_onRaise ?_));refine wpAny_bind (m:=Builtin.SmallTypes.nextOf (.ref i2)) ?_
  refine Zph hh (((u2.extBut hs₁.extBut D.i2z).extBut hs₂.extBut D.i12.symm).extBut hs₃.extBut D.TOi2.symm) (((v2.extBut hs₁.extBut D.l2z).extBut hs₂.extBut D.l2i1).extBut hs₃.extBut D.l2TO) hy fun h₄ e hs₄ zz2=>?_
  obtain ⟨oe,hoe,hce⟩:=zz2
  have hz₄:IsZip h₄ z TI TO .ellipsis:=hs₄ _ _ D.i2z.symm (hs₃.extBut _ _ D.TOz.symm (hs₂.extBut _ _ D.i1z.symm hz₁))
  have hez:e≠z:=fun q=>by subst q;rw [hz₄] at hoe;cases hoe;simp at hce
  exact wpAny_setField_rec hz₄ (by simp) fun h₅ _ hs₅=>hE h₅ e (fun c o c1 c2 c3 c4 q=>hs₅.extBut _ _ c1 (hs₄ _ _ c4 (hs₃.extBut _ _ c2 (hs₂.extBut _ _ c3 (hs₁.extBut _ _ c1 q))))) ⟨oe,hs₅.extBut _ _ hez hoe,hce⟩
end
end L3
namespace L3
open PySem PySem.Spec PyProof.Rows L2
variable {K:PySem.W.Frag} {H H' H2:Hp}
section
variable {prog:Program} {w:World} {A:Around} {E:Value→Shared→Prop} {s:Shared}
theorem tat {h h':Heap} {a t:Addr} {i:Nat} (x:h.IsTupleIter a t i) (k:∀ o,h.get? a=some o→h'.get? a=some o):h'.IsTupleIter a t i:=by
 obtain ⟨o,e,r⟩:=x
 exact ⟨o,k o e,r⟩
theorem ZyK {h h':Heap} {a:Addr} {xs:Array Value} (x:h.IsTuple a xs) (k:∀ o,h.get? a=some o→h'.get? a=some o):h'.IsTuple a xs:=by
 obtain ⟨o,e,r⟩:=x
 exact ⟨o,k o e,r⟩
theorem ZjM (hh:A.handled=none) (z TI TO i1 i2 l1 l2:Addr) (D:ZipApart z TI TO i1 i2 l1 l2) (xs ys:Array Value):WalksT prog w A z [z,TI,TO,i1,i2,l1,l2] [z,TO,i1,i2] (min xs.size ys.size) (fun i vals=>∃ x y,xs[i]?=some x∧ys[i]?=some y∧vals=#[x,y])
   (fun i h=>IsZip h z TI TO .none∧IsPair h TI (.ref i1) (.ref i2)∧(∃ a b,IsPair h TO a b)∧h.IsTupleIter i1 l1 i∧h.IsTupleIter i2 l2 i∧h.IsTuple l1 xs∧h.IsTuple l2 ys)
   (fun i T h=>IsZip h z TI TO (rawInt T)∧IsPair h TI (.ref i1) (.ref i2)∧(∃ a b,IsPair h TO a b)∧h.IsTupleIter i1 l1 (i+1)∧h.IsTupleIter i2 l2 (i+1)∧h.IsTuple l1 xs∧h.IsTuple l2 ys∧T≠z∧T≠TO∧T≠i1∧T≠i2) where
 sub:=fun c hc=>by simp at hc ⊢;rcases hc with rfl | rfl | rfl | rfl <;> simp
 frame:=fun i h h' st kk=>by
  obtain ⟨hz,hTI,⟨a,b,hTO⟩,h1,h2,g1,g2⟩:=st
  exact ⟨kk z (by simp) _ hz,kk TI (by simp) _ hTI,⟨a,b,kk TO (by simp) _ hTO⟩,tat h1 fun o e=>kk i1 (by simp) o e,tat h2 fun o e=>kk i2 (by simp) o e,ZyK g1 fun o e=>kk l1 (by simp) o e,ZyK g2 fun o e=>kk l2 (by simp) o e⟩
 item:=fun i s Q E hi st hQ=>by
  obtain ⟨hz,hTI,⟨a,b,hTO⟩,h1,h2,g1,g2⟩:=st
  have ix:i < xs.size:=Nat.lt_of_lt_of_le hi (Nat.min_le_left ..)
  have iy:i < ys.size:=Nat.lt_of_lt_of_le hi (Nat.min_le_right ..)
  have hT:s.TypeIs (.ref z) "zip":=⟨_,hz,rfl⟩
  have lt:∀ {c o},s.heap.get? c=some o→s.heap.objs.size≠c:=fun e=>Nat.ne_of_gt (Heap.lt_size e)
  unfold pyNext
  refine wpAny_bind (wpAny_attempt (wpAny_callSpecial?_slot (name:=Str.ofString "__next__") hT PySem.F.slot_zip_next (wpAny_call_entry PySem.F.slot_zip_next hT PySem.F.entry_zip_next (Zvq D hz hTI hTO h1 h2 g1 g2 (Array.getElem?_eq_getElem ix) (Array.getElem?_eq_getElem iy) fun h' a1 a2 a3 a4 a5 hk=>wpAny_pure ?_) (PySem.F.args_zip_next_1 _))))
  exact hQ s.heap.objs.size #[xs[i],ys[i]] h' s.toks ⟨_,_,Array.getElem?_eq_getElem ix,Array.getElem?_eq_getElem iy,rfl⟩ (Nat.le_refl _) ⟨_,a5,rfl,_,rfl⟩ ⟨a1,hk _ _ D.TIz D.TITO D.TIi1 D.TIi2 hTI,⟨_,_,a2⟩,a3,a4,ZyK g1 fun o e=>hk _ o D.l1z D.l1TO D.l1i1 D.l1i2 e,ZyK g2 fun o e=>hk _ o D.l2z D.l2TO D.l2i1 D.l2i2 e,lt hz,lt hTO,(by obtain ⟨_,e,_⟩:=h1;exact lt e),(by obtain ⟨_,e,_⟩:=h2;exact lt e)⟩ fun c o hc e=>hk c o (fun x=>hc (by simp [x])) (fun x=>hc (by simp [x])) (fun x=>hc (by simp [x])) (fun x=>hc (by simp [x])) e
 go:=fun elts k pos i T s Q E hm hQ=>by
  obtain ⟨hz,hTI,⟨a,b,hTO⟩,h1,h2,g1,g2,_⟩:=hm
  exact wpAny_letOwnedTupleGo_zip hz fun h' hz' hs'=>hQ h' ⟨hz',hs'.extBut _ _ D.TIz hTI,⟨a,b,hs'.extBut _ _ D.TOz hTO⟩,h1.extBut hs'.extBut D.i1z,h2.extBut hs'.extBut D.i2z,g1.extBut hs'.extBut D.l1z,g2.extBut hs'.extBut D.l2z⟩ fun c o hc e=>hs'.extBut _ _ (fun x=>hc (by simp [x])) e
 apart:=fun i T h hm hT=>by
  obtain ⟨_,_,_,_,_,_,_,t1,t2,t3,t4⟩:=hm
  simp at hT
  rcases hT with e | e | e | e
  ·exact t1 e
  ·exact t2 e
  ·exact t3 e
  ·exact t4 e
 done:=fun s Q E st hQ=>by
  obtain ⟨hz,hTI,⟨a,b,hTO⟩,h1,h2,g1,g2⟩:=st
  have hend:xs[min xs.size ys.size]?=none∨ys[min xs.size ys.size]?=none:=by
   rcases Nat.le_total xs.size ys.size with q | q
   ·exact .inl (Array.getElem?_eq_none (by omega))
   ·exact .inr (Array.getElem?_eq_none (by omega))
  have hT:s.TypeIs (.ref z) "zip":=⟨_,hz,rfl⟩
  unfold pyNext
  refine wpAny_bind (wpAny_attempt (wpAny_callSpecial?_slot (name:=Str.ofString "__next__") hT PySem.F.slot_zip_next (wpAny_call_entry PySem.F.slot_zip_next hT PySem.F.entry_zip_next (Zwr hh D hz hTI hTO h1 h2 g1 g2 hend fun h' e hk he=>?_) (PySem.F.args_zip_next_1 _))))
  obtain ⟨o,ho,hc⟩:=he
  exact wpAny_bind (wpAny_isInstance (T:="StopIteration") (b:=true) ⟨o,ho,hc⟩ isSubtype_stop (wpAny_pure (hQ h' s.toks fun c o hc e=>hk c o (fun x=>hc (by simp [x])) (fun x=>hc (by simp [x])) (fun x=>hc (by simp [x])) (fun x=>hc (by simp [x])) e)))
 self:=fun i s Q E st hQ=>wpAny_pyIter_zip st.1 hQ
abbrev zT1 (h:Heap) (l1:Addr):Heap:=h.push { cls:=.type "tuple_iterator",data:=.fields #[.ref l1,.int 0 0] }
abbrev zT2 (h:Heap) (l1 l2:Addr):Heap:=(zT1 h l1).push { cls:=.type "tuple_iterator",data:=.fields #[.ref l2,.int 0 0] }
abbrev zT3 (h:Heap) (l1 l2:Addr):Heap:=(zT2 h l1 l2).push { cls:=.type "tuple",data:=.seq #[.ref h.objs.size,.ref (zT1 h l1).objs.size] }
abbrev zT4 (h:Heap) (l1 l2:Addr):Heap:=(zT3 h l1 l2).push { cls:=.type "tuple",data:=.seq #[.none,.none] }
abbrev zT5 (h:Heap) (l1 l2:Addr):Heap:=(zT4 h l1 l2).push { cls:=.type "zip",data:=.fields #[.none,.bool false,.bool false,.ref (zT2 h l1 l2).objs.size,.ref (zT3 h l1 l2).objs.size] }
theorem ZrK (l1 l2:Addr) (xs ys:Array Value):Meets (Builtin.«zip.__new__» ⟨[.type "zip",.ref l1,.ref l2],[]⟩) (fun _ R s=>s.heap.IsTuple l1 xs∧s.heap.IsTuple l2 ys∧R (.ok (.ret (.ref (zT4 s.heap l1 l2).objs.size))) { s with heap:=zT5 s.heap l1 l2 }) :=
 .of_wp fun prog w A R s h=>by
  obtain ⟨hp,g,d,tk,os⟩:=s
  obtain ⟨u1,u2,h⟩:=h
  have hsub:=sub_zip
  have hL1:Heap.IsTuple (Shared.heap ⟨hp,g,d,tk,os⟩) l1 xs:=u1
  have hL2:Heap.IsTuple (Shared.heap ⟨hp.push { cls:=.type "tuple_iterator",data:=.fields #[.ref l1,.int 0 0] },g,d,tk,os⟩) l2 ys:=Heap.IsTuple.push u2 _
  wp_walk using wpAny_pyIter_tuple hL1,wpAny_pyIter_tuple hL2
  exact ⟨_,rfl,h⟩
theorem Zpm {l1 l2:Addr} {xs ys:Array Value} {Q:Value→Shared→Prop} (u1:s.heap.IsTuple l1 xs) (u2:s.heap.IsTuple l2 ys)
  (h:∀ h',IsZip h' (s.heap.objs.size+4) (s.heap.objs.size+2) (s.heap.objs.size+3) .none→IsPair h' (s.heap.objs.size+2) (.ref s.heap.objs.size) (.ref (s.heap.objs.size+1))→IsPair h' (s.heap.objs.size+3) .none .none→h'.IsTupleIter s.heap.objs.size l1 0→h'.IsTupleIter (s.heap.objs.size+1) l2 0→h'.objs.size=s.heap.objs.size+5→(∀ c o,s.heap.get? c=some o→h'.get? c=some o)→Q (.ref (s.heap.objs.size+4)) { s with heap:=h' }) :
  wpAny (model prog w) A (call (.type "zip") [.ref l1,.ref l2]) Q E s:=by
 refine callType_new PySem.F.called_zip (by decide) (PySem.F.typeCall_zip_2 _ _) (PySem.F.newCall_zip_2 _ _) (fun obj=>PySem.F.args_object_init_3 obj _ _) PySem.F.entry_zip_new (ZrK l1 l2 xs ys) ⟨u1,u2,?_⟩
 have z1:(zT1 s.heap l1).objs.size=s.heap.objs.size+1:=Heap.size_push ..
 have z2:(zT2 s.heap l1 l2).objs.size=s.heap.objs.size+2:=by rw [Heap.size_push,z1]
 have z3:(zT3 s.heap l1 l2).objs.size=s.heap.objs.size+3:=by rw [Heap.size_push,z2]
 have z4:(zT4 s.heap l1 l2).objs.size=s.heap.objs.size+4:=by rw [Heap.size_push,z3]
 have z5:(zT5 s.heap l1 l2).objs.size=s.heap.objs.size+5:=by rw [Heap.size_push,z4]
 have g5:(zT5 s.heap l1 l2).get? (zT4 s.heap l1 l2).objs.size=some _:=Heap.get?_push_size _ rfl
 have g4:(zT5 s.heap l1 l2).get? (zT3 s.heap l1 l2).objs.size=some _:=Heap.get?_push_of_some _ (Heap.get?_push_size _ rfl)
 have g3:(zT5 s.heap l1 l2).get? (zT2 s.heap l1 l2).objs.size=some _:=Heap.get?_push_of_some _ (Heap.get?_push_of_some _ (Heap.get?_push_size _ rfl))
 have g2:(zT5 s.heap l1 l2).get? (zT1 s.heap l1).objs.size=some _:=Heap.get?_push_of_some _ (Heap.get?_push_of_some _ (Heap.get?_push_of_some _ (Heap.get?_push_size _ rfl)))
 have g1:(zT5 s.heap l1 l2).get? s.heap.objs.size=some _:=Heap.get?_push_of_some _ (Heap.get?_push_of_some _ (Heap.get?_push_of_some _ (Heap.get?_push_of_some _ (Heap.get?_push_size _ rfl))))
 rw [z2,z3,z4] at g5
 rw [z1,z2] at g3
 rw [z3] at g4
 rw [z1] at g2
 rw [z4]
 exact ⟨⟨_,g5,rfl⟩,h _ g5 g3 g4 ⟨_,g1,rfl,rfl⟩ ⟨_,g2,rfl,rfl⟩ z5 fun c o x=>Heap.get?_push_of_some _ (Heap.get?_push_of_some _ (Heap.get?_push_of_some _ (Heap.get?_push_of_some _ (Heap.get?_push_of_some _ x))))⟩
end
def ZAe (K:PySem.W.Frag) (l1 l2:Addr):It :=
 ⟨fun i H=>∃ xs ys,SqT K H l1 xs∧SqT K H l2 ys∧i < xs.length∧i < ys.length,
  fun i H v H'=>∃ T x y,H T=none∧v=.ref T∧H'=upd H T (.tup [x,y])∧∀ xs ys,SqT K H l1 xs→SqT K H l2 ys→xs[i]?=some x∧ys[i]?=some y,
  fun i H=>∃ xs ys,SqT K H l1 xs∧SqT K H l2 ys∧i=min xs.length ys.length⟩
theorem Zqn {P:Program} {w:World} {elts:List Expr} {k:Nat} {tpos:Pos} {z TI TO i1 i2 l1 l2:Addr} (D:ZipApart z TI TO i1 i2 l1 l2) :
  Zrn P w K (.Tuple elts k tpos) (ZAe K l1 l2) [z,TI,TO,i1,i2] z (fun i h=>IsZip h z TI TO .none∧IsPair h TI (.ref i1) (.ref i2)∧(∃ a b,IsPair h TO a b)∧h.IsTupleIter i1 l1 i∧h.IsTupleIter i2 l2 i) where
 mem:=by simp
 obj:=fun i h st b hb=>by
  obtain ⟨hz,hTI,⟨a,c,hTO⟩,⟨o1,e1,_,d1⟩,⟨o2,e2,_,d2⟩⟩:=st
  walk_at "pk"
  rcases hb with rfl | rfl | rfl | rfl | rfl
  ·exact ⟨_,hz,fun v z=>by cases z⟩
  ·exact ⟨_,hTI,fun v z=>by cases z⟩
  ·exact ⟨_,hTO,fun v z=>by cases z⟩
  ·exact ⟨o1,e1,fun v z=>by rw [d1] at z;cases z⟩
  ·exact ⟨o2,e2,fun v z=>by rw [d2] at z;cases z⟩
 keep:=fun i h h' st kk=>by
  obtain ⟨hz,hTI,⟨a,c,hTO⟩,h1,h2⟩:=st
  exact ⟨kk z (by simp) _ hz,kk TI (by simp) _ hTI,⟨a,c,kk TO (by simp) _ hTO⟩,h1.at fun o e=>kk i1 (by simp) o e,h2.at fun o e=>kk i2 (by simp) o e⟩
 item:=by
  walk_at "pa"
  subst hP hw hK
  obtain ⟨xs,ys,hx,hy,hix,hiy⟩:=hg
  obtain ⟨its1,r1,pl1,z1⟩:=I.tuple hx
  obtain ⟨its2,r2,pl2,z2⟩:=I.tuple hy
  have n1:=r1.length
  have n2:=r2.length
  obtain ⟨hz,hTI,hTO,h1,h2⟩:=st
  have Wk:=ZjM (prog:=X.prog) (w:=X.w) (A:=X.A) (I.ok.hd hc) z TI TO i1 i2 l1 l2 D its1.toArray its2.toArray
  refine Wk.item i s _ _ (by simp only [List.size_toArray];omega) ⟨hz,hTI,hTO,h1,h2,pl1,pl2⟩ fun T vals h' tk hPt hT hTup hMid hk=>⟨.ref T,rfl,?_⟩
  refine Wk.go elts k tpos i T _ _ _ hMid fun h2' st2 hk2=>?_
  obtain ⟨v1,v2,g1,g2,rfl⟩:=hPt
  have g1':its1[i]?=some v1:=by simpa using g1
  have g2':its2[i]?=some v2:=by simpa using g2
  have gx:xs[i]?=some xs[i]:=List.getElem?_eq_getElem hix
  have gy:ys[i]?=some ys[i]:=List.getElem?_eq_getElem hiy
  obtain ⟨u1,q1,rv1⟩:=r1.get gx
  obtain ⟨u2,q2,rv2⟩:=r2.get gy
  rw [g1'] at q1;cases q1
  rw [g2'] at q2;cases q2
  have hw1:∀ b,b∉[z,TI,TO,i1,i2]→b∉[z,TO,i1,i2]:=fun b hb hc=>hb (by
   simp only [List.mem_cons,List.not_mem_nil,or_false] at hc ⊢
   rcases hc with h | h | h | h <;> simp [h])
  have I1:Inv X pins σ H { s with heap:=h2',toks:=tk }:=Inv.turneds I hf fun b o hb e=>hk2 b o (hw1 b hb) (hk b o (hw1 b hb) e)
  have hTn:H T=none:=I.hok.fresh hT
  have hTup2:IsTup h2' T #[v1,v2]:=by
   obtain ⟨o,e,c,m,d⟩:=hTup
   exact ⟨o,hk2 _ _ (Wk.apart _ _ _ hMid) e,c,m,d⟩
  have lt:∀ {b:Addr} {o:Obj},s.heap.get? b=some o→b≠T:=fun e q=>absurd (Nat.lt_of_lt_of_le (Heap.lt_size e) hT) (by rw [q];exact Nat.lt_irrefl _)
  have I2:Inv X pins σ (upd H T (.tup [xs[i],ys[i]])) { s with heap:=h2',toks:=tk }:=by
   refine I1.track hTn ?_ (fun x c e=>?_) (fun p hp=>?_) ?_ ⟨by show 2≤sizeLine;decide,[v1,v2],.cons rv1 (.cons rv2 .nil),hTup2⟩
   ·obtain ⟨m,⟨o,es,ep,ho,_⟩,_⟩:=I.loc
    exact Ne.symm (lt ho)
   ·obtain ⟨v,o,ho,_⟩:=I.cell x c e
    exact lt ho
   ·exact lt (I.pin p hp).1
   ·cases e:X.s₀.heap.get? T with
    | none=>rfl
    | some o=>exact absurd (Nat.lt_of_lt_of_le (Heap.lt_size e) (Nat.le_trans I.sz hT)) (Nat.lt_irrefl _)
  refine ⟨.ref T,_,I2,rfl,⟨T,_,_,hTn,rfl,rfl,fun xs' ys' hx' hy'=>?_⟩,⟨st2.1,st2.2.1,st2.2.2.1,st2.2.2.2.1,st2.2.2.2.2.1⟩,fun b hb=>?_⟩
  ·rw [I.tuple_inj hx' hx,I.tuple_inj hy' hy];exact ⟨gx,gy⟩
  ·have hb':=(hf b hb).1
   have:b≠T:=by
    obtain ⟨o,e,_⟩:∃ o,s.heap.get? b=some o∧True:=by
     obtain ⟨a,c,hTO'⟩:=hTO
     obtain ⟨o1,e1,_⟩:=h1
     obtain ⟨o2,e2,_⟩:=h2
     walk_at "pk"
     rcases hb with rfl | rfl | rfl | rfl | rfl
     ·exact ⟨_,hz,trivial⟩
     ·exact ⟨_,hTI,trivial⟩
     ·exact ⟨_,hTO',trivial⟩
     ·exact ⟨_,e1,trivial⟩
     ·exact ⟨_,e2,trivial⟩
    exact lt e
   rw [Za2 this];exact hb'
 done:=by
  walk_at "pa"
  subst hP hw hK
  obtain ⟨xs,ys,hx,hy,hi⟩:=hg
  obtain ⟨its1,r1,pl1,z1⟩:=I.tuple hx
  obtain ⟨its2,r2,pl2,z2⟩:=I.tuple hy
  have n1:=r1.length
  have n2:=r2.length
  obtain ⟨hz,hTI,hTO,h1,h2⟩:=st
  have Wk:=ZjM (prog:=X.prog) (w:=X.w) (A:=X.A) (I.ok.hd hc) z TI TO i1 i2 l1 l2 D its1.toArray its2.toArray
  have hi':i=min its1.toArray.size its2.toArray.size:=by simp only [List.size_toArray];omega
  subst hi'
  refine Wk.done s _ _ ⟨hz,hTI,hTO,h1,h2,pl1,pl2⟩ fun h' tk hk=>⟨rfl,Inv.turneds I hf fun b o hb e=>hk b o (fun hc=>hb ?_) e⟩
  simp only [List.mem_cons,List.not_mem_nil,or_false] at hc ⊢
  rcases hc with h | h | h | h <;> simp [h]
 self:=fun A i s Q E st h=>wpAny_pyIter_zip st.1 h
def Zzt (K:PySem.W.Frag) (ta:TA):TI:=fun σ H R=>ta σ H fun vs H1=>∃ a b xs ys,vs=[.ref a,.ref b]∧SqT K H1 a xs∧SqT K H1 b ys∧R (ZAe K a b) H1
theorem ZuZ {X:Cx} {a b:Expr} {ta:TA} {p pos tpos:Pos} {elts:List Expr} {k:Nat} (hg:Gl X "zip") (hm:X.mg "zip"=none) (ha:PA X [a,b] ta) (hs:starEach [a,b] X.env=[(false,eval a X.env),(false,eval b X.env)]) (hs2:starEach [b] X.env=[(false,eval b X.env)]) :
  PI X (.Tuple elts k tpos) (.Call (.Name "zip" p) [a,b] [] pos) (Zzt X.K ta):=by
 intro pins s σ H R I h
 refine Call_ (ZeM I hg hm boot_zip (PyProof.Rows.callWith_type1 (thn (ha pos pins s σ H _ I h) fun us s1 zz1=>?_) (by rw [hs,hs2]) (by rw [hs2];rfl)))
 obtain ⟨vs,H1,I1,r1,q1⟩:=zz1
 obtain ⟨l1,l2,xs,ys,e,hx,hy,q⟩:=q1
 subst e
 obtain ⟨u,u2,rfl,ru,ru2⟩:=ZsJ r1
 cases ru
 cases ru2
 obtain ⟨its1,_,pl1,_⟩:=I1.tuple hx
 obtain ⟨its2,_,pl2,_⟩:=I1.tuple hy
 have a1:l1 < s1.heap.objs.size:=by obtain ⟨_,e,_⟩:=pl1;exact Heap.lt_size e
 have a2:l2 < s1.heap.objs.size:=by obtain ⟨_,e,_⟩:=pl2;exact Heap.lt_size e
 refine Zpm pl1 pl2 fun h' hz hTI hTO hi1 hi2 hsz hk=>wpAny_pyIter_zip hz ?_
 refine ⟨_,_,_,_,H1,rfl,I1.kept (t':=s1.toks) hk,Zqn (zipApart_new a1 a2),⟨hz,hTI,⟨_,_,hTO⟩,hi1,hi2⟩,fun b hb=>?_,q⟩
 have hge:s1.heap.objs.size≤b:=by
  walk_at "pk"
  rcases hb with rfl | rfl | rfl | rfl | rfl
  ·exact Nat.le_add_right _ 4
  ·exact Nat.le_add_right _ 2
  ·exact Nat.le_add_right _ 3
  ·exact Nat.le_refl _
  ·exact Nat.le_add_right _ 1
 exact I1.fpOk hge (I1.hok.fresh hge)
def ZgG (gs:GA):GI:=fun ω G R=>gs ω G fun ws G1=>∃ xs ys,ws=[.tup xs,.tup ys]∧R (ZlC xs ys) yes G1
theorem Zt1 {gs:GA} (m:gs.M):GI.M (ZgG gs):=fun ω G R R' h q=>m _ _ _ _ ((by rintro ws G1 ⟨xs,ys,e,z⟩;exact ⟨xs,ys,e,h _ _ _ z⟩)) q
theorem ZlD {v:V} {xs:List W} (t:Tr K H v (.tup xs)):∃ a vs,v=.ref a∧SqT K H a vs∧TrL K H vs xs:=by
 cases t with
 | tup h l=>exact ⟨_,_,rfl,h,l⟩
theorem Zu2 {X:Cx} {a b:Expr} {p pos tpos:Pos} {elts:List Expr} {k:Nat} {gs:GA} (hm:X.mg "zip"=none) (hg:Gl X "zip") (hs:starEach [a,b] X.env=[(false,eval a X.env),(false,eval b X.env)]) (hs2:starEach [b] X.env=[(false,eval b X.env)]) (ha:Am X [a,b] gs) :
  Im X (.Tuple elts k tpos) (.Call (.Name "zip" p) [a,b] [] pos) (ZgG gs):=by
 refine ⟨⟨_,ZuZ hg hm ha.p hs hs2,fun σ H ω G R R0 ts r q kk=>⟨ω,G,ts,r,ha.m _ _ _ _ (fun ws G1 z vs H1 m t r1=>?_) q⟩⟩,Zt1 ha.m⟩
 obtain ⟨xs,ys,rfl,z⟩:=z
 cases t with
 | cons tx t =>
  cases t with
  | cons ty t =>
   cases t
   obtain ⟨a1,us1,rfl,hq1,l1⟩:=ZlD tx
   obtain ⟨a2,us2,rfl,hq2,l2⟩:=ZlD ty
   refine ⟨a1,a2,us1,us2,rfl,hq1,hq2,kk _ _ _ H1 _ z m r1 trivial ⟨fun i H3 G3 m3 r3 g3 hi=>?_,fun i H3 G3 v H4 m3 r3 g3 y3 hi=>?_,fun H3 G3 m3 r3 g3=>?_⟩⟩
   ·rw [ZgN] at hi
    exact ⟨us1,us2,m3.tup _ _ hq1,m3.tup _ _ hq2,by rw [l1.length];omega,by rw [l2.length];omega⟩
   ·obtain ⟨T,v1,v2,hT,rfl,rfl,hv⟩:=y3
    obtain ⟨g1,g2⟩:=hv _ _ (m3.tup _ _ hq1) (m3.tup _ _ hq2)
    obtain ⟨w1,q1,tw1⟩:=(l1.mono m3).get' g1
    obtain ⟨w2,q2,tw2⟩:=(l2.mono m3).get' g2
    have mn:Mono X.K H3 (upd H3 T (.tup [v1,v2])):=Mono.new hT _
    exact ⟨mn,r3.mono0 hT,_,ZkD _ _ i q1 q2,.tup (SqT.of ZbA) (.cons (tw1.mono mn) (.cons (tw2.mono mn) .nil))⟩
   ·exact ⟨us1,us2,m3.tup _ _ hq1,m3.tup _ _ hq2,by rw [ZgN,l1.length,l2.length]⟩
end L3
namespace L3
open PySem PySem.Spec PyProof.Rows L2
theorem nA {a b:Nat} (h:a≠b):@Ne Addr a b:=h
abbrev Zmr (h:Heap) (T:Addr) (a b c:Value):Prop:=h.get? T=some { cls:=.type "tuple",data:=.seq #[a,b,c] }
section
variable {prog:Program} {w:World} {A:Around} {E:Value→Shared→Prop} {s:Shared}
theorem Zy5 {T:Addr} {a b c x:Value} {k:Nat} {Q:Unit→Shared→Prop} (hT:Zmr s.heap T a b c)
  (h:∀ h',h'.get? T=some { cls:=.type "tuple",data:=.seq ((#[a,b,c]:Array Value).setIfInBounds k x) }→Heap.SameBut T s.heap h'→Q () { s with heap:=h' }) :
  wpAny (model prog w) A (updateSeq T (·.setIfInBounds k x)) Q E s:=by
 refine wpAny_updateSeq hT rfl (h _ ?_ (Heap.SameBut.update ..))
 rw [Heap.get?_update_self _ hT rfl];simp [Obj.mapSeq]
def St3 (n l1 l2 l3:Nat) (f0:Value) (i:Nat) (h:Heap):Prop:=IsZip h (n+5) (n+3) (n+4) f0∧Zmr h (n+3) (.ref n) (.ref (n+1)) (.ref (n+2))∧(∃ a b c,Zmr h (n+4) a b c)∧h.IsListIter n l1 i∧h.IsListIter (n+1) l2 i∧h.IsListIter (n+2) l3 i
end
end L3
namespace L3
open PySem PySem.Spec PyProof.Rows L2
variable {K:PySem.W.Frag} {H H' H2:Hp}
section
variable {prog:Program} {w:World} {A:Around} {E:Value→Shared→Prop} {s:Shared}
theorem St3.at {n l1 l2 l3:Nat} {f0:Value} {i:Nat} {h h':Heap} (st:St3 n l1 l2 l3 f0 i h) (k:∀ (c:Nat) o,n≤c→c≤n+5→h.get? c=some o→h'.get? c=some o):St3 n l1 l2 l3 f0 i h':=by
 obtain ⟨hz,hTI,⟨a,b,c,hTO⟩,u1,u2,u3⟩:=st
 exact ⟨k _ _ (by omega) (by omega) hz,k _ _ (by omega) (by omega) hTI,⟨a,b,c,k _ _ (by omega) (by omega) hTO⟩,u1.at fun o e=>k _ o (by omega) (by omega) e,u2.at fun o e=>k _ o (by omega) (by omega) e,u3.at fun o e=>k _ o (by omega) (by omega) e⟩
theorem tc3 (a b c:Value):checkTypeCall "zip" ⟨[a,b,c],[]⟩=pure ():=by kernel_rfl
theorem nc3 (a b c:Value):checkBuiltinCall "zip.__new__" ⟨[.type "zip",a,b,c],[]⟩=pure ():=by kernel_rfl
theorem oi4 (a b c d:Value):argsOk "object.__init__" ⟨[a,b,c,d],[]⟩:=by
 unfold argsOk
 rw [signature?_of (o:=['t','c','e','j','b','o']) (n:=['_','_','t','i','n','i','_','_']) (id:="object.__init__") (by kernel_rfl) PySem.F.owner_object]
 kernel_rfl
end
theorem in6 {n b:Nat} (h:b∈[n+5,n+3,n+4,n,n+1,n+2]):n≤b∧b≤n+5:=by
 have h':b=n+5∨b=n+3∨b=n+4∨b=n∨b=n+1∨b=n+2:=by simpa using h
 omega
theorem of6 {n b:Nat} (h1:n≤b) (h2:b≤n+5):b∈[n+5,n+3,n+4,n,n+1,n+2]:=by
 have h':b=n+5∨b=n+3∨b=n+4∨b=n∨b=n+1∨b=n+2:=by omega
 simpa using h'
theorem no6 {n b:Nat} (h:b∉[n+5,n+3,n+4,n,n+1,n+2]):b < n∨n+5 < b:=by
 rcases Nat.lt_or_ge b n with z | z
 ·exact .inl z
 ·exact .inr (Nat.lt_of_not_le fun q=>h (of6 z q))
theorem ZzC {a b c:V} {us:List Value} (h:Vals [a,b,c] us):∃ u v w,us=[u,v,w]∧RelV a u∧RelV b v∧RelV c w:=by
 cases h with
 | cons h1 h =>
  cases h with
  | cons h2 h =>
   cases h with
   | cons h3 h=>cases h;exact ⟨_,_,_,rfl,h1,h2,h3⟩
def Zk0:List W→List W→List W→List W
 | x::xs,y::ys,z::zs=>.tup [x,y,z]::Zk0 xs ys zs
 | _,_,_=>[]
theorem Zkl:∀ (xs ys zs:List W),ys.length=xs.length→zs.length=xs.length→(Zk0 xs ys zs).length=xs.length
 | [],_,_,_,_=>by simp [Zk0]
 | _::xs,y::ys,z::zs,h,h'=>by
  simp only [List.length_cons] at h h'
  simp only [Zk0,List.length_cons,Zkl xs ys zs (by omega) (by omega)]
 | _::xs,[],_,h,_=>by simp at h
 | _::xs,_::_,[],_,h=>by simp at h
theorem ZnU:∀ (xs ys zs:List W) (i:Nat) {x y z:W},xs[i]?=some x→ys[i]?=some y→zs[i]?=some z→(Zk0 xs ys zs)[i]?=some (.tup [x,y,z])
 | [],_,_,_,_,_,_,h,_,_=>by simp at h
 | _::_,[],_,_,_,_,_,_,h,_=>by simp at h
 | _::_,_::_,[],_,_,_,_,_,_,h=>by simp at h
 | a::xs,b::ys,c::zs,0,x,y,z,h,h',h''=>by simp at h h' h'';subst h;subst h';subst h'';rfl
 | a::xs,b::ys,c::zs,i+1,x,y,z,h,h',h''=>by
  have:=ZnU xs ys zs i (x:=x) (y:=y) (z:=z) (by simpa using h) (by simpa using h') (by simpa using h'')
  simpa [Zk0] using this
def Zsl (x:W):List W→Option Bool
 | []=>some false
 | w::ws=>if dpW w < 90 then (match eqD w x,Zsl x ws with | some a,some b=>some (a||b) | _,_=>none) else none
theorem ZmD {x:W}:∀ {ws:List W} {b:Bool},Zsl x ws=some b→∃ e:Nat→Bool,(∀ (j:Nat) w,ws[j]?=some w→eqD w x=some (e j)∧dpW w < 90)∧(b=true↔∃ j,j < ws.length∧e j=true)
 | [],b,h=>by
  cases h
  exact ⟨fun _=>false,fun j w e=>by simp at e,by simp⟩
 | w::ws,b,h=>by
  unfold Zsl at h
  split at h
  ·rename_i hd
   split at h
   ·rename_i c d e1 e2
    cases h
    obtain ⟨e,h1,h2⟩:=ZmD e2
    refine ⟨fun j=>match j with | 0=>c | j+1=>e j,fun j u hu=>?_,?_⟩
    ·cases j with
     | zero=>simp only [List.getElem?_cons_zero,Option.some.injEq] at hu;subst hu;exact ⟨e1,hd⟩
     | succ j=>exact h1 j u (by simpa using hu)
    ·rw [Bool.or_eq_true,h2]
     constructor
     ·rintro (z | ⟨j,hj,z⟩)
      ·exact ⟨0,by simp,z⟩
      ·exact ⟨j+1,by simpa using hj,z⟩
     ·rintro ⟨j,hj,z⟩
      cases j with
      | zero=>exact .inl z
      | succ j=>exact .inr ⟨j,by simpa using hj,z⟩
   ·cases h
  ·cases h
def inT (x y:W) (G:Hw):Option W:=(rdL G y).bind fun ws=>(Zsl x ws).map .bl
def ZAr (K:PySem.W.Frag):R2:=fun v u H Q=>∃ p vs ws x b,u=.ref p∧SqL K H p vs∧TrL K H vs ws∧Tr K H v x∧Zsl x ws=some b∧Q (.bl b) H
open Classical in
theorem Zwo {X:Cx} (hu:X.A.units+100 < cLine):OpR X (compareOp .In) (ZAr X.K):=by
 walk_at "pc"
 obtain ⟨p,vs,ws,xw,b,rfl,hq,tl,tx,e,q⟩:=h
 cases ry
 obtain ⟨its,r,pl,hz⟩:=I.list hq
 obtain ⟨f,hf,hb⟩:=ZmD e
 have l1:=r.length
 have l2:=tl.length
 have at':∀ (i:Nat) (z:Value),its[i]?=some z→SeqAt.EqAt X.A.in1 s z v (f i):=fun i z hi=>by
  have hlt:i < its.length:=by
   rcases Nat.lt_or_ge i its.length with h | h
   ·exact h
   ·rw [List.getElem?_eq_none h] at hi;cases hi
  have gv:vs[i]?=some (vs[i]'(by omega)):=List.getElem?_eq_getElem _
  obtain ⟨z',g',rz⟩:=r.get gv
  rw [hi] at g';cases g'
  obtain ⟨w,gw,tw⟩:=tl.get' gv
  obtain ⟨h1,h2⟩:=hf i w gw
  exact Zm6 I 99 _ _ _ _ _ _ _ X.A.in1 (by omega) tw tx rz rx h1 (by show X.A.units+1+99 < cLine;omega)
 refine SeqAt.in_listAt (fun z=>decide (∃ i,its[i]?=some z∧f i=true)) pl.isList (fun z hz'=>?_) ⟨.bl b,H,I,?_,q⟩
 ·have hm:z∈its:=by simpa using hz'
  obtain ⟨i,hi,rfl⟩:=List.getElem_of_mem hm
  have gi:its[i]?=some its[i]:=List.getElem?_eq_getElem hi
  by_cases h:∃ j,its[j]?=some its[i]∧f j=true
  ·obtain ⟨j,g,hj⟩:=h
   have:=at' j _ g
   rw [hj] at this
   rw [decide_eq_true ⟨j,g,hj⟩];exact this
  ·have:=at' i _ gi
   rw [decide_eq_false h]
   cases hfi:f i with
   | false=>rw [hfi] at this;exact this
   | true=>exact absurd ⟨i,gi,hfi⟩ h
 ·show RelV (.bl b) (.bool _)
  have:(its.toArray.any fun z=>decide (∃ i,its[i]?=some z∧f i=true))=b:=by
   rw [Bool.eq_iff_iff,hb]
   simp only [List.any_toArray,List.any_eq_true,decide_eq_true_eq]
   constructor
   ·rintro ⟨z,hz',i,hi,hfi⟩
    refine ⟨i,?_,hfi⟩
    rcases Nat.lt_or_ge i its.length with h | h
    ·omega
    ·rw [List.getElem?_eq_none h] at hi;cases hi
   ·rintro ⟨j,hj,hfj⟩
    have hj':j < its.length:=by omega
    exact ⟨its[j],List.getElem_mem hj',j,List.getElem?_eq_getElem hj',hfj⟩
  rw [this];rfl
theorem ZwZ (x y:W) (v u:V) (G:Hw) (H:Hp) (Q:VK) (tx:Tr K H v x) (ty:Tr K H u y) (r:RelH K H G) (q:Zak inT x y G (dn K H Q)):ZAr K v u H Q:=by
 obtain ⟨w,e,q'⟩:=Zfd q
 obtain ⟨ws,e1,e2⟩:=Option.bind_eq_some_iff.mp e
 obtain ⟨b,e3,e4⟩:=Option.map_eq_some_iff.mp e2
 subst e4
 obtain ⟨a,vs,rfl,hq,t⟩:=Zg1 r ty e1
 exact ⟨a,vs,ws,x,b,rfl,hq,t,tx,e3,q' _ H .refl (.bl _) r⟩
theorem Zd9 {X:Cx} (hu:X.A.units+100 < cLine):Cop X .In (Zak inT):=⟨⟨_,Zwo hu,ZwZ⟩,Zhl⟩
def Zsr (w:W):Bool:=match w with | .non=>true | _=>false
def isF (neg:Bool) (x y:W) (_:Hw):Option W:=match y with | .non=>some (.bl (Zsr x != neg)) | _=>none
theorem ZqG {v:V} {x:W} (t:Tr K H v x):decide (v=.non)=Zsr x:=by cases t <;> rfl
theorem Zs2 {u:V} (t:Tr K H u .non):u=.non:=by cases t;rfl
theorem Ztl (neg:Bool) (x y:W) (v u:V) (G:Hw) (H:Hp) (Q:VK) (tx:Tr K H v x) (ty:Tr K H u y) (r:RelH K H G) (q:Zak (isF neg) x y G (dn K H Q)):u=.non∧Q (.bl (Zsr x != neg)) H:=by
 obtain ⟨w,e,q'⟩:=Zfd q
 cases y with
 | non=>cases e;exact ⟨Zs2 ty,q' _ H .refl (.bl _) r⟩
 | _=>cases e
theorem ZfI {X:Cx}:Cop X .Is (Zak (isF false)):=⟨⟨_,ZyD,fun x y v u G H Q tx ty r q=>by
 obtain ⟨h1,h2⟩:=Ztl false x y v u G H Q tx ty r q
 refine ⟨h1,?_⟩
 rw [ZqG tx];simpa using h2⟩,Zhl⟩
theorem Zd8 {X:Cx}:Cop X .IsNot (Zak (isF true)):=⟨⟨_,Zvl,fun x y v u G H Q tx ty r q=>by
 obtain ⟨h1,h2⟩:=Ztl true x y v u G H Q tx ty r q
 refine ⟨h1,?_⟩
 rw [ZqG tx];simpa using h2⟩,Zhl⟩
section
variable {prog:Program} {w:World} {A:Around} {E:Value→Shared→Prop} {s:Shared}
def St3T (n l1 l2 l3:Nat) (f0:Value) (i:Nat) (h:Heap):Prop:=IsZip h (n+5) (n+3) (n+4) f0∧Zmr h (n+3) (.ref n) (.ref (n+1)) (.ref (n+2))∧(∃ a b c,Zmr h (n+4) a b c)∧h.IsTupleIter n l1 i∧h.IsTupleIter (n+1) l2 i∧h.IsTupleIter (n+2) l3 i
theorem ZsL {n l1 l2 l3:Nat} {k:Nat} {xs ys vs:Array Value} {x y v:Value} {Q:Value→Shared→Prop} (a1:l1 < n) (a2:l2 < n) (a3:l3 < n) (st:St3T n l1 l2 l3 .none k s.heap) (v1:s.heap.IsTuple l1 xs) (v2:s.heap.IsTuple l2 ys) (v3:s.heap.IsTuple l3 vs)
  (hx:xs[k]?=some x) (hy:ys[k]?=some y) (hv:vs[k]?=some v)
  (hQ:∀ h',St3T n l1 l2 l3 (rawInt s.heap.objs.size) (k+1) h'→Zmr h' s.heap.objs.size x y v→(∀ (c:Nat) o,c < n∨n+5 < c→s.heap.get? c=some o→h'.get? c=some o)→Q (.ref s.heap.objs.size) { s with heap:=h' }) :
  wpAny (model prog w) A (Builtin.«zip.__next__» ⟨[.ref (n+5)],[]⟩) (fun fin s'=>∃ v,fin=.done (.ret v)∧Q v s') E s:=by
 obtain ⟨hz,hTI,⟨a,b,c,hTO⟩,u1,u2,u3⟩:=st
 refine wpAny_bind (m:=field (.ref (n+5)) 2) (wpAny_field hz rfl (x:=.bool false) rfl ?_)
 refine wpAny_bind (m:=field (.ref (n+5)) 3) (wpAny_field hz rfl (x:=.ref (n+3)) rfl (wpAny_bind (m:=seqItems? (.ref (n+3))) (wpAny_seqItems hTI rfl ?_)))
 refine wpAny_bind (m:=Builtin.SmallTypes.ownedTupleIsFree (.ref (n+5))) ?_
 unfold Builtin.SmallTypes.ownedTupleIsFree
 refine wpAny_bind (m:=field (.ref (n+5)) 0) (wpAny_field hz rfl (x:=.none) rfl (wpAny_pure ?_));simp only [if_true]
 refine wpAny_bind (wpAny_rule (wpAny_bind (wpAny_field hz rfl (x:=.ref (n+4)) rfl (wpAny_bind (wpAny_setField_rec hz (by simp) fun h₁ hz₁ hs₁=>?_)))))
 replace hz₁:IsZip h₁ (n+5) (n+3) (n+4) .ellipsis:=hz₁
 refine wpAny_bind ?_
 walk_at "po"
 have e1:=hs₁.extBut
 refine wpAny_bind (wpAny_bind (wpAny_onRaise ?_));refine wpAny_bind (m:=Builtin.SmallTypes.nextOf (.ref n)) ?_
 refine Zhr (u1.extBut e1 (nA (by omega))) (v1.extBut e1 (nA (by omega))) hx fun h₂ w1 hs₂=>wpAny_pure ?_
 have e2:=hs₂.extBut
 have t2:Zmr h₂ (n+4) a b c:=e2 _ _ (nA (by omega)) (e1 _ _ (nA (by omega)) hTO)
 refine wpAny_bind (wpAny_seqItems t2 rfl (wpAny_bind (Zy5 t2 fun h₃ t3 hs₃=>?_)))
 replace t3:Zmr h₃ (n+4) x b c:=t3
 have e3:=hs₃.extBut
 refine wpAny_bind (wpAny_letGo (wpAny_pure ?_));refine wpAny_bind (wpAny_bind (wpAny_onRaise ?_));refine wpAny_bind (m:=Builtin.SmallTypes.nextOf (.ref (n+1))) ?_
 refine Zhr (((u2.extBut e1 (nA (by omega))).extBut e2 (nA (by omega))).extBut e3 (nA (by omega))) (((v2.extBut e1 (nA (by omega))).extBut e2 (nA (by omega))).extBut e3 (nA (by omega))) hy fun h₄ w2 hs₄=>wpAny_pure ?_
 have e4:=hs₄.extBut
 have t4:Zmr h₄ (n+4) x b c:=e4 _ _ (nA (by omega)) t3
 refine wpAny_bind (wpAny_seqItems t4 rfl (wpAny_bind (Zy5 t4 fun h₅ t5 hs₅=>?_)))
 replace t5:Zmr h₅ (n+4) x y c:=t5
 have e5:=hs₅.extBut
 refine wpAny_bind (wpAny_letGo (wpAny_pure ?_));refine wpAny_bind (wpAny_bind (wpAny_onRaise ?_));refine wpAny_bind (m:=Builtin.SmallTypes.nextOf (.ref (n+2))) ?_
 refine Zhr (((((u3.extBut e1 (nA (by omega))).extBut e2 (nA (by omega))).extBut e3 (nA (by omega))).extBut e4 (nA (by omega))).extBut e5 (nA (by omega))) (((((v3.extBut e1 (nA (by omega))).extBut e2 (nA (by omega))).extBut e3 (nA (by omega))).extBut e4 (nA (by omega))).extBut e5 (nA (by omega))) hv fun h₆ w3 hs₆=>wpAny_pure ?_
 have e6:=hs₆.extBut
 have t6:Zmr h₆ (n+4) x y c:=e6 _ _ (nA (by omega)) t5
 refine wpAny_bind (wpAny_seqItems t6 rfl (wpAny_bind (Zy5 t6 fun h₇ t7 hs₇=>?_)))
 replace t7:Zmr h₇ (n+4) x y v:=t7
 have e7:=hs₇.extBut
 refine wpAny_bind (wpAny_letGo (wpAny_pure (wpAny_pure ?_)));refine wpAny_bind (wpAny_seqItems t7 rfl (wpAny_bind (wpAny_newTuple ?_ (by show (3:Nat)≤sizeLine;decide))))
 have hsz:h₇.objs.size=s.heap.objs.size:=by rw [hs₇.1,hs₆.1,hs₅.1,hs₄.1,hs₃.1,hs₂.1,hs₁.1]
 have up:∀ (c:Nat) o,c < n∨n+5 < c∨c=n+3→s.heap.get? c=some o→h₇.get? c=some o:=fun c o hc e=>e7 _ _ (nA (by omega)) (e6 _ _ (nA (by omega)) (e5 _ _ (nA (by omega)) (e4 _ _ (nA (by omega)) (e3 _ _ (nA (by omega)) (e2 _ _ (nA (by omega)) (e1 _ _ (nA (by omega)) e))))))
 have z7:IsZip h₇ (n+5) (n+3) (n+4) .ellipsis:=e7 _ _ (nA (by omega)) (e6 _ _ (nA (by omega)) (e5 _ _ (nA (by omega)) (e4 _ _ (nA (by omega)) (e3 _ _ (nA (by omega)) (e2 _ _ (nA (by omega)) hz₁)))))
 have y1:h₇.IsTupleIter n l1 (k+1):=((((w1.extBut e3 (nA (by omega))).extBut e4 (nA (by omega))).extBut e5 (nA (by omega))).extBut e6 (nA (by omega))).extBut e7 (nA (by omega))
 have y2:h₇.IsTupleIter (n+1) l2 (k+1):=((w2.extBut e5 (nA (by omega))).extBut e6 (nA (by omega))).extBut e7 (nA (by omega))
 have y3:h₇.IsTupleIter (n+2) l3 (k+1):=w3.extBut e7 (nA (by omega))
 refine wpAny_bind (m:=Builtin.SmallTypes.ownedTupleHandOut (.ref (n+5)) (.ref h₇.objs.size)) ?_
 unfold Builtin.SmallTypes.ownedTupleHandOut
 have z8:IsZip (h₇.push { cls:=.type "tuple",data:=.seq #[x,y,v] }) (n+5) (n+3) (n+4) .ellipsis:=Heap.get?_push_of_some _ z7
 refine wpAny_bind (wpAny_setField_rec z8 (by simp) fun h₉ z9 hs₉=>?_)
 replace z9:IsZip h₉ (n+5) (n+3) (n+4) (rawInt h₇.objs.size):=z9
 refine wpAny_setField_rec z9 (by simp) fun k₁ zk hk₁=>?_
 replace zk:IsZip k₁ (n+5) (n+3) (n+4) (rawInt h₇.objs.size):=zk
 have zlt:n+5 < h₇.objs.size:=Heap.lt_size z7
 have upp:∀ c o,c≠n+5→h₇.get? c=some o→k₁.get? c=some o:=fun c o c1 e=>hk₁.extBut _ _ c1 (hs₉.extBut _ _ c1 (Heap.get?_push_of_some _ e))
 have hT:Zmr k₁ h₇.objs.size x y v:=hk₁.extBut _ _ (nA (by omega)) (hs₉.extBut _ _ (nA (by omega)) (Heap.get?_push_size _ rfl))
 rw [hsz] at zk hT
 refine wpAny_pure ⟨_,rfl,(?_:Q (.ref h₇.objs.size) _)⟩
 rw [hsz]
 exact hQ k₁ ⟨zk,upp _ _ (nA (by omega)) (up _ _ (.inr (.inr rfl)) hTI),⟨_,_,_,upp _ _ (nA (by omega)) t7⟩,tat y1 fun o e=>upp _ o (nA (by omega)) e,tat y2 fun o e=>upp _ o (nA (by omega)) e,tat y3 fun o e=>upp _ o (nA (by omega)) e⟩ hT fun c o hc e=>upp c o (nA (by omega)) (up c o (by omega) e)
theorem Zvm {n l1 l2 l3:Nat} {k:Nat} {xs:Array Value} {Q:Fin→Shared→Prop} (hh:A.handled=none) (a1:l1 < n) (st:St3T n l1 l2 l3 .none k s.heap) (v1:s.heap.IsTuple l1 xs) (hx:xs[k]?=none)
  (hE:∀ h' e,(∀ (c:Nat) o,c < n∨n+5 < c→s.heap.get? c=some o→h'.get? c=some o)→(∃ o,h'.get? e=some o∧o.cls=.type "StopIteration")→E (.ref e) { s with heap:=h' }):wpAny (model prog w) A (Builtin.«zip.__next__» ⟨[.ref (n+5)],[]⟩) Q E s:=by
 obtain ⟨hz,hTI,⟨a,b,c,hTO⟩,u1,u2,u3⟩:=st
 refine wpAny_bind (m:=field (.ref (n+5)) 2) (wpAny_field hz rfl (x:=.bool false) rfl ?_)
 refine wpAny_bind (m:=field (.ref (n+5)) 3) (wpAny_field hz rfl (x:=.ref (n+3)) rfl (wpAny_bind (m:=seqItems? (.ref (n+3))) (wpAny_seqItems hTI rfl ?_)))
 refine wpAny_bind (m:=Builtin.SmallTypes.ownedTupleIsFree (.ref (n+5))) ?_
 unfold Builtin.SmallTypes.ownedTupleIsFree
 refine wpAny_bind (m:=field (.ref (n+5)) 0) (wpAny_field hz rfl (x:=.none) rfl (wpAny_pure ?_));simp only [if_true]
 refine wpAny_bind (wpAny_rule (wpAny_bind (wpAny_field hz rfl (x:=.ref (n+4)) rfl (wpAny_bind (wpAny_setField_rec hz (by simp) fun h₁ hz₁ hs₁=>?_)))))
 replace hz₁:IsZip h₁ (n+5) (n+3) (n+4) .ellipsis:=hz₁
 refine wpAny_bind ?_
 walk_at "po"
 have e1:=hs₁.extBut
 refine wpAny_bind (wpAny_bind (wpAny_onRaise ?_));refine wpAny_bind (m:=Builtin.SmallTypes.nextOf (.ref n)) ?_
 refine Zph hh (u1.extBut e1 (nA (by omega))) (v1.extBut e1 (nA (by omega))) hx fun h₂ e hs₂ he=>?_
 obtain ⟨oe,hoe,hce⟩:=he
 have hz₂:IsZip h₂ (n+5) (n+3) (n+4) .ellipsis:=hs₂ _ _ (nA (by omega)) hz₁
 have hez:e≠n+5:=fun q=>by subst q;rw [hz₂] at hoe;cases hoe;simp at hce
 exact wpAny_setField_rec hz₂ (by simp) fun h₃ _ hs₃=>hE h₃ e (fun c o c1 q=>hs₃.extBut _ _ (nA (by omega)) (hs₂ _ _ (nA (by omega)) (e1 _ _ (nA (by omega)) q))) ⟨oe,hs₃.extBut _ _ hez hoe,hce⟩
theorem St3T.at {n l1 l2 l3:Nat} {f0:Value} {i:Nat} {h h':Heap} (st:St3T n l1 l2 l3 f0 i h) (k:∀ (c:Nat) o,n≤c→c≤n+5→h.get? c=some o→h'.get? c=some o):St3T n l1 l2 l3 f0 i h':=by
 obtain ⟨hz,hTI,⟨a,b,c,hTO⟩,u1,u2,u3⟩:=st
 exact ⟨k _ _ (by omega) (by omega) hz,k _ _ (by omega) (by omega) hTI,⟨a,b,c,k _ _ (by omega) (by omega) hTO⟩,tat u1 fun o e=>k _ o (by omega) (by omega) e,tat u2 fun o e=>k _ o (by omega) (by omega) e,tat u3 fun o e=>k _ o (by omega) (by omega) e⟩
abbrev ztL (h:Heap) (l:Addr):Heap:=h.push { cls:=.type "tuple_iterator",data:=.fields #[.ref l,.int 0 0] }
abbrev Zxw (h:Heap) (l1 l2 l3:Addr):Heap:=ztL (ztL (ztL h l1) l2) l3
abbrev ZyP (h:Heap) (l1 l2 l3:Addr):Heap:=(Zxw h l1 l2 l3).push { cls:=.type "tuple",data:=.seq #[.ref h.objs.size,.ref (ztL h l1).objs.size,.ref (ztL (ztL h l1) l2).objs.size] }
abbrev ZyL (h:Heap) (l1 l2 l3:Addr):Heap:=(ZyP h l1 l2 l3).push { cls:=.type "tuple",data:=.seq #[.none,.none,.none] }
abbrev ZtD (h:Heap) (l1 l2 l3:Addr):Heap:=(ZyL h l1 l2 l3).push { cls:=.type "zip",data:=.fields #[.none,.bool false,.bool false,.ref (Zxw h l1 l2 l3).objs.size,.ref (ZyP h l1 l2 l3).objs.size] }
theorem Zqk (l1 l2 l3:Addr) (xs ys vs:Array Value):Meets (Builtin.«zip.__new__» ⟨[.type "zip",.ref l1,.ref l2,.ref l3],[]⟩) (fun _ R s=>s.heap.IsTuple l1 xs∧s.heap.IsTuple l2 ys∧s.heap.IsTuple l3 vs∧R (.ok (.ret (.ref (ZyL s.heap l1 l2 l3).objs.size))) { s with heap:=ZtD s.heap l1 l2 l3 }) :=
 .of_wp fun prog w A R s h=>by
  obtain ⟨hp,g,d,tk,os⟩:=s
  obtain ⟨u1,u2,u3,h⟩:=h
  have hsub:=sub_zip
  have hL1:Heap.IsTuple (Shared.heap ⟨hp,g,d,tk,os⟩) l1 xs:=u1
  have hL2:Heap.IsTuple (Shared.heap ⟨hp.push { cls:=.type "tuple_iterator",data:=.fields #[.ref l1,.int 0 0] },g,d,tk,os⟩) l2 ys:=Heap.IsTuple.push u2 _
  have hL3:Heap.IsTuple (Shared.heap ⟨(hp.push { cls:=.type "tuple_iterator",data:=.fields #[.ref l1,.int 0 0] }).push { cls:=.type "tuple_iterator",data:=.fields #[.ref l2,.int 0 0] },g,d,tk,os⟩) l3 vs:=Heap.IsTuple.push (Heap.IsTuple.push u3 _) _
  wp_walk using wpAny_pyIter_tuple hL1,wpAny_pyIter_tuple hL2,wpAny_pyIter_tuple hL3
  exact ⟨_,rfl,h⟩
theorem ZoK {l1 l2 l3:Addr} {xs ys vs:Array Value} {Q:Value→Shared→Prop} (u1:s.heap.IsTuple l1 xs) (u2:s.heap.IsTuple l2 ys) (u3:s.heap.IsTuple l3 vs)
  (h:∀ h',St3T s.heap.objs.size l1 l2 l3 .none 0 h'→(∀ c o,s.heap.get? c=some o→h'.get? c=some o)→Q (.ref (s.heap.objs.size+5)) { s with heap:=h' }) :
  wpAny (model prog w) A (call (.type "zip") [.ref l1,.ref l2,.ref l3]) Q E s:=by
 refine callType_new PySem.F.called_zip (by decide) (tc3 _ _ _) (nc3 _ _ _) (fun obj=>oi4 obj _ _ _) PySem.F.entry_zip_new (Zqk l1 l2 l3 xs ys vs) ⟨u1,u2,u3,?_⟩
 have q1:(ztL s.heap l1).objs.size=s.heap.objs.size+1:=Heap.size_push ..
 have q2:(ztL (ztL s.heap l1) l2).objs.size=s.heap.objs.size+2:=by rw [Heap.size_push,q1]
 have q3:(Zxw s.heap l1 l2 l3).objs.size=s.heap.objs.size+3:=by rw [Heap.size_push,q2]
 have q4:(ZyP s.heap l1 l2 l3).objs.size=s.heap.objs.size+4:=by rw [Heap.size_push,q3]
 have q5:(ZyL s.heap l1 l2 l3).objs.size=s.heap.objs.size+5:=by rw [Heap.size_push,q4]
 have up:∀ {c:Addr} {o:Obj},(Zxw s.heap l1 l2 l3).get? c=some o→(ZtD s.heap l1 l2 l3).get? c=some o:=fun e=>Heap.get?_push_of_some _ (Heap.get?_push_of_some _ (Heap.get?_push_of_some _ e))
 have g6:(ZtD s.heap l1 l2 l3).get? (ZyL s.heap l1 l2 l3).objs.size=some _:=Heap.get?_push_size _ rfl
 have g5:(ZtD s.heap l1 l2 l3).get? (ZyP s.heap l1 l2 l3).objs.size=some _:=Heap.get?_push_of_some _ (Heap.get?_push_size _ rfl)
 have g4:(ZtD s.heap l1 l2 l3).get? (Zxw s.heap l1 l2 l3).objs.size=some _:=Heap.get?_push_of_some _ (Heap.get?_push_of_some _ (Heap.get?_push_size _ rfl))
 have g3:(ZtD s.heap l1 l2 l3).get? (ztL (ztL s.heap l1) l2).objs.size=some _:=up (Heap.get?_push_size _ rfl)
 have g2:(ZtD s.heap l1 l2 l3).get? (ztL s.heap l1).objs.size=some _:=up (Heap.get?_push_of_some _ (Heap.get?_push_size _ rfl))
 have g1:(ZtD s.heap l1 l2 l3).get? s.heap.objs.size=some _:=up (Heap.get?_push_of_some _ (Heap.get?_push_of_some _ (Heap.get?_push_size _ rfl)))
 rw [q3,q4,q5] at g6
 rw [q1,q2,q3] at g4
 rw [q4] at g5
 rw [q2] at g3
 rw [q1] at g2
 rw [q5]
 exact ⟨⟨_,g6,rfl⟩,h _ ⟨g6,g4,⟨_,_,_,g5⟩,⟨_,g1,rfl,rfl⟩,⟨_,g2,rfl,rfl⟩,⟨_,g3,rfl,rfl⟩⟩ fun c o x=>up (Heap.get?_push_of_some _ (Heap.get?_push_of_some _ (Heap.get?_push_of_some _ x)))⟩
end
def ZAa (K:PySem.W.Frag) (l1 l2 l3:Addr):It :=
 ⟨fun i H=>∃ xs ys vs,SqT K H l1 xs∧SqT K H l2 ys∧SqT K H l3 vs∧ys.length=xs.length∧vs.length=xs.length∧i < xs.length,
  fun i H v H'=>∃ T x y z,H T=none∧v=.ref T∧H'=upd H T (.tup [x,y,z])∧∀ xs ys vs,SqT K H l1 xs→SqT K H l2 ys→SqT K H l3 vs→xs[i]?=some x∧ys[i]?=some y∧vs[i]?=some z,
  fun i H=>∃ xs,SqT K H l1 xs∧i=xs.length⟩
theorem Zol {P:Program} {w:World} {elts:List Expr} {k:Nat} {tpos:Pos} {n l1 l2 l3:Nat} (a1:l1 < n) (a2:l2 < n) (a3:l3 < n) :
  Zrn P w K (.Tuple elts k tpos) (ZAa K l1 l2 l3) [n+5,n+3,n+4,n,n+1,n+2] (n+5) (St3T n l1 l2 l3 .none) where
 mem:=List.mem_cons_self
 obj:=fun i h st b hb=>by
  obtain ⟨hz,hTI,⟨a,c,d,hTO⟩,⟨o1,e1,_,d1⟩,⟨o2,e2,_,d2⟩,⟨o3,e3,_,d3⟩⟩:=st
  walk_at "pk"
  rcases hb with rfl | rfl | rfl | rfl | rfl | rfl
  ·exact ⟨_,hz,fun v z=>by cases z⟩
  ·exact ⟨_,hTI,fun v z=>by cases z⟩
  ·exact ⟨_,hTO,fun v z=>by cases z⟩
  ·exact ⟨o1,e1,fun v z=>by rw [d1] at z;cases z⟩
  ·exact ⟨o2,e2,fun v z=>by rw [d2] at z;cases z⟩
  ·exact ⟨o3,e3,fun v z=>by rw [d3] at z;cases z⟩
 keep:=fun i h h' st kk=>st.at fun c o c1 c2 e=>kk c (of6 c1 c2) o e
 item:=by
  walk_at "pa"
  subst hP hw hK
  obtain ⟨xs,ys,vs,hx,hy,hv,ly,lv,hi⟩:=hg
  obtain ⟨its1,r1,pl1,z1⟩:=I.tuple hx
  obtain ⟨its2,r2,pl2,z2⟩:=I.tuple hy
  obtain ⟨its3,r3,pl3,z3⟩:=I.tuple hv
  have gx:xs[i]?=some xs[i]:=List.getElem?_eq_getElem hi
  have gy:ys[i]?=some (ys[i]'(by omega)):=List.getElem?_eq_getElem _
  have gv:vs[i]?=some (vs[i]'(by omega)):=List.getElem?_eq_getElem _
  obtain ⟨v1,q1,rv1⟩:=r1.get gx
  obtain ⟨v2,q2,rv2⟩:=r2.get gy
  obtain ⟨v3,q3,rv3⟩:=r3.get gv
  have hT:s.TypeIs (.ref (n+5)) "zip":=⟨_,st.1,rfl⟩
  unfold pyNext
  refine wpAny_bind (wpAny_attempt (wpAny_callSpecial?_slot (name:=Str.ofString "__next__") hT PySem.F.slot_zip_next (wpAny_call_entry PySem.F.slot_zip_next hT PySem.F.entry_zip_next (ZsL a1 a2 a3 st pl1 pl2 pl3 (by simpa using q1) (by simpa using q2) (by simpa using q3) fun h' st' hTup hk=>wpAny_pure ⟨.ref s.heap.objs.size,rfl,?_⟩) (PySem.F.args_zip_next_1 _))))
  refine wpAny_letOwnedTupleGo_zip st'.1 fun h2' hz' hs'=>?_
  have e':=hs'.extBut
  have hsz:(n+5:Nat) < s.heap.objs.size:=Heap.lt_size st.1
  have hnT:∀ b:Addr,b∈[n+5,n+3,n+4,n,n+1,n+2]→b≠s.heap.objs.size:=fun b hb=>nA (a:=b) (by have:=in6 (b:=b) hb;omega)
  have st2:St3T n l1 l2 l3 .none (i+1) h2':=by
   obtain ⟨_,hTI,⟨a,c,d,hTO⟩,u1,u2,u3⟩:=st'
   exact ⟨hz',e' _ _ (nA (by omega)) hTI,⟨a,c,d,e' _ _ (nA (by omega)) hTO⟩,u1.extBut e' (nA (by omega)),u2.extBut e' (nA (by omega)),u3.extBut e' (nA (by omega))⟩
  have I1:Inv X pins σ H { s with heap:=h2' }:=Inv.turneds I hf fun b o hb e=>e' _ _ (fun z=>hb (by rw [z];exact List.mem_cons_self)) (hk b o (no6 hb) e)
  have hTn:H s.heap.objs.size=none:=I.hok.fresh (Nat.le_refl _)
  have hTup2:IsTup h2' s.heap.objs.size #[v1,v2,v3]:=⟨_,e' _ _ (nA (by omega)) hTup,rfl,_,rfl⟩
  have lt:∀ {b:Addr} {o:Obj},s.heap.get? b=some o→b≠s.heap.objs.size:=fun e q=>absurd (Heap.lt_size e) (by rw [q];exact Nat.lt_irrefl _)
  have I2:Inv X pins σ (upd H s.heap.objs.size (.tup [xs[i],ys[i]'(by omega),vs[i]'(by omega)])) { s with heap:=h2' }:=by
   refine I1.track hTn ?_ (fun x c e=>?_) (fun p hp=>?_) ?_ ⟨by show 3≤sizeLine;decide,[v1,v2,v3],.cons rv1 (.cons rv2 (.cons rv3 .nil)),hTup2⟩
   ·obtain ⟨m,⟨o,es,ep,ho,_⟩,_⟩:=I.loc
    exact Ne.symm (lt ho)
   ·obtain ⟨v,o,ho,_⟩:=I.cell x c e
    exact lt ho
   ·exact lt (I.pin p hp).1
   ·cases e:X.s₀.heap.get? s.heap.objs.size with
    | none=>rfl
    | some o=>exact absurd (Nat.lt_of_lt_of_le (Heap.lt_size e) I.sz) (Nat.lt_irrefl _)
  refine ⟨.ref s.heap.objs.size,_,I2,rfl,⟨_,_,_,_,hTn,rfl,rfl,fun xs' ys' vs' hx' hy' hv'=>?_⟩,st2,fun b hb=>?_⟩
  ·rw [I.tuple_inj hx' hx,I.tuple_inj hy' hy,I.tuple_inj hv' hv];exact ⟨gx,gy,gv⟩
  ·rw [Za2 (hnT b hb)];exact (hf b hb).1
 done:=by
  walk_at "pa"
  subst hP hw hK
  obtain ⟨xs,hx,hi⟩:=hg
  obtain ⟨its1,r1,pl1,z1⟩:=I.tuple hx
  have n1:=r1.length
  have hT:s.TypeIs (.ref (n+5)) "zip":=⟨_,st.1,rfl⟩
  unfold pyNext
  refine wpAny_bind (wpAny_attempt (wpAny_callSpecial?_slot (name:=Str.ofString "__next__") hT PySem.F.slot_zip_next (wpAny_call_entry PySem.F.slot_zip_next hT PySem.F.entry_zip_next (Zvm (I.ok.hd hc) a1 st pl1 (by simp;omega) fun h' e hk he=>?_) (PySem.F.args_zip_next_1 _))))
  obtain ⟨o,ho,hc'⟩:=he
  exact wpAny_bind (wpAny_isInstance (T:="StopIteration") (b:=true) ⟨o,ho,hc'⟩ isSubtype_stop (wpAny_pure ⟨rfl,Inv.turneds I hf fun b o hb e=>hk b o (no6 hb) e⟩))
 self:=fun A i s Q E st h=>wpAny_pyIter_zip st.1 h
def Zwc (K:PySem.W.Frag) (ta:TA):TI:=fun σ H R=>ta σ H fun vs H1=>∃ a b c xs ys zs,vs=[.ref a,.ref b,.ref c]∧SqT K H1 a xs∧SqT K H1 b ys∧SqT K H1 c zs∧R (ZAa K a b c) H1
theorem Zry {X:Cx} {a b c:Expr} {ta:TA} {p pos tpos:Pos} {elts:List Expr} {k:Nat} (hg:Gl X "zip") (hm:X.mg "zip"=none) (ha:PA X [a,b,c] ta) (hs:starEach [a,b,c] X.env=[(false,eval a X.env),(false,eval b X.env),(false,eval c X.env)]) (hs2:starEach [b,c] X.env=[(false,eval b X.env),(false,eval c X.env)]) :
  PI X (.Tuple elts k tpos) (.Call (.Name "zip" p) [a,b,c] [] pos) (Zwc X.K ta):=by
 intro pins s σ H R I h
 refine Call_ (ZeM I hg hm boot_zip (PyProof.Rows.callWith_type1 (thn (ha pos pins s σ H _ I h) fun us s1 zz2=>?_) (by rw [hs,hs2]) (by rw [hs2];rfl)))
 obtain ⟨vs,H1,I1,r1,q1⟩:=zz2
 obtain ⟨l1,l2,l3,xs,ys,zs,e,hx,hy,hz,q⟩:=q1
 subst e
 obtain ⟨u,u2,u3,rfl,ru,ru2,ru3⟩:=ZzC r1
 cases ru
 cases ru2
 cases ru3
 obtain ⟨its1,_,pl1,_⟩:=I1.tuple hx
 obtain ⟨its2,_,pl2,_⟩:=I1.tuple hy
 obtain ⟨its3,_,pl3,_⟩:=I1.tuple hz
 have a1:l1 < s1.heap.objs.size:=by obtain ⟨_,e,_⟩:=pl1;exact Heap.lt_size e
 have a2:l2 < s1.heap.objs.size:=by obtain ⟨_,e,_⟩:=pl2;exact Heap.lt_size e
 have a3:l3 < s1.heap.objs.size:=by obtain ⟨_,e,_⟩:=pl3;exact Heap.lt_size e
 refine ZoK pl1 pl2 pl3 fun h' st hk=>wpAny_pyIter_zip st.1 ?_
 refine ⟨_,_,_,_,H1,rfl,I1.kept (t':=s1.toks) hk,Zol a1 a2 a3,st,fun b hb=>?_,q⟩
 have hge:s1.heap.objs.size≤b:=(in6 (b:=b) hb).1
 exact I1.fpOk hge (I1.hok.fresh hge)
def Znf (gs:GA):GI:=fun ω G R=>gs ω G fun ws G1=>∃ xs ys zs,ws=[.tup xs,.tup ys,.tup zs]∧ys.length=xs.length∧zs.length=xs.length∧R (Zk0 xs ys zs) yes G1
theorem ZsK {gs:GA} (m:gs.M):GI.M (Znf gs):=fun ω G R R' h q=>m _ _ _ _ (by rintro ws G1 ⟨xs,ys,zs,e,n1,n2,r⟩;exact ⟨xs,ys,zs,e,n1,n2,h _ _ _ r⟩) q
theorem Zsh {X:Cx} {a b c:Expr} {p pos tpos:Pos} {elts:List Expr} {k:Nat} {gs:GA} (hm:X.mg "zip"=none) (hg:Gl X "zip") (hs:starEach [a,b,c] X.env=[(false,eval a X.env),(false,eval b X.env),(false,eval c X.env)]) (hs2:starEach [b,c] X.env=[(false,eval b X.env),(false,eval c X.env)]) (ha:Am X [a,b,c] gs) :
  Im X (.Tuple elts k tpos) (.Call (.Name "zip" p) [a,b,c] [] pos) (Znf gs):=by
 refine ⟨⟨_,Zry hg hm ha.p hs hs2,fun σ H ω G R R0 ts r q kk=>⟨ω,G,ts,r,ha.m _ _ _ _ (fun ws G1 z vs H1 m t r1=>?_) q⟩⟩,ZsK ha.m⟩
 obtain ⟨xs,ys,zs,rfl,n1,n2,z⟩:=z
 cases t with
 | cons tx t =>
  cases t with
  | cons ty t =>
   cases t with
   | cons tv t =>
    cases t
    obtain ⟨c1,us1,rfl,hq1,l1⟩:=ZlD tx
    obtain ⟨c2,us2,rfl,hq2,l2⟩:=ZlD ty
    obtain ⟨c3,us3,rfl,hq3,l3⟩:=ZlD tv
    refine ⟨c1,c2,c3,us1,us2,us3,rfl,hq1,hq2,hq3,kk _ _ _ H1 _ z m r1 trivial ⟨fun i H3 G3 m3 r3 g3 hi=>?_,fun i H3 G3 u H4 m3 r3 g3 y3 hi=>?_,fun H3 G3 m3 r3 g3=>?_⟩⟩
    ·rw [Zkl _ _ _ n1 n2] at hi
     exact ⟨us1,us2,us3,m3.tup _ _ hq1,m3.tup _ _ hq2,m3.tup _ _ hq3,by rw [l1.length,l2.length];exact n1,by rw [l1.length,l3.length];exact n2,by rw [l1.length];exact hi⟩
    ·obtain ⟨T,v1,v2,v3,hT,rfl,rfl,hv⟩:=y3
     obtain ⟨g1,g2,g4⟩:=hv _ _ _ (m3.tup _ _ hq1) (m3.tup _ _ hq2) (m3.tup _ _ hq3)
     obtain ⟨w1,q1,tw1⟩:=(l1.mono m3).get' g1
     obtain ⟨w2,q2,tw2⟩:=(l2.mono m3).get' g2
     obtain ⟨w3,q3,tw3⟩:=(l3.mono m3).get' g4
     have mn:Mono X.K H3 (upd H3 T (.tup [v1,v2,v3])):=Mono.new hT _
     exact ⟨mn,r3.mono0 hT,_,ZnU _ _ _ i q1 q2 q3,.tup (SqT.of ZbA) (.cons (tw1.mono mn) (.cons (tw2.mono mn) (.cons (tw3.mono mn) .nil)))⟩
    ·exact ⟨us1,m3.tup _ _ hq1,by rw [Zkl _ _ _ n1 n2,l1.length]⟩
section
variable {prog:Program} {w:World} {A:Around} {E:Value→Shared→Prop} {s:Shared}
theorem Zxj {δ:Type} {R:δ→Value→Prop} {h₀:Heap} {a:Addr} {D:List (Str×δ)} {k:Str} {tk:Tok} {dd:δ} {Q:Option Value→Shared→Prop} (T:KTD.TabOf R h₀ a D) (hk:∀ b o,h₀.get? b=some o→s.heap.get? b=some o) (hD:KTD.datumAt k D=some dd)
  (h1:∀ v,R dd v→Q (some v) { s with toks:=s.toks+1 }):wpAny (model prog w) A (dictGet a (.str k tk)) Q E s:=by
 obtain ⟨_,o,es,ep,ho,hc,hd,hr⟩:=T
 have ho':=hk _ _ ho
 obtain ⟨v,hv,hR⟩:=hr.find_some hD
 have hq:=h1 v hR
 unfold dictGet
 try with_reducible refine wpAny_holding ?_
 refine wpAny_bind (wpAny_pyHash_str (wpAny_bind (KTD.kt_dictFind_strs (s:={ s with toks:=s.toks+1 }) ho' hd ?_ ?_)))
 ·obtain ⟨l⟩:=es
  simpa using hr.exact
 have hf:findBy (fun k v=>v.isStr k) es k=some v:=by
  obtain ⟨l⟩:=es
  simpa [findBy] using hv
 rw [findBy_of_findIdx?] at hf
 cases hi:es.findIdx? fun e=>e.key.isStr k with
 | none=>rw [hi] at hf;cases hf
 | some i =>
  rw [hi] at hf
  refine wpAny_bind (wpAny_dictEntries (s:={ s with toks:=s.toks+1 }) ho' hd (wpAny_pure ?_))
  have hf':es[i]?.map (·.val)=some v:=hf
  rw [hf'];exact hq
end
def ZzP (K:PySem.W.Frag) (mg:Str→Option Value) (base:Heap) (x:Str) (D:List (Str×List Str)):Prop:=∃ d,mg x=some (.ref d)∧KTD.TabOf (fun ss v=>∃ a,v=.ref a∧∀ H:Hp,SqT K H a (ss.map V.str)) base d D
def Zuq (D:List (Str×List Str)) (gk:GE):GE:=fun ω G Q=>gk ω G fun w G1=>match w with | .str z=>∃ ss,KTD.datumAt z D=some ss∧Q (.tup (ss.map W.str)) G1 | _=>False
theorem Znh (H:Hp):∀ ss:List Str,TrL K H (ss.map V.str) (ss.map W.str)
 | []=>.nil
 | s::ss=>.cons (.str _) (Znh H ss)
theorem Zt0 {X:Cx} {x:Str} {D:List (Str×List Str)} {e:Expr} {p0 pos:Pos} {gk:GE} (h:ZzP X.K X.mg X.base x D) (hg:Gl X x) (hd:(x==("__debug__":Str))=false) (hs:ZkZ e) (hk:Em X e gk) :
  Em X (.Subscript (.Name x p0) e pos) (Zuq D gk):=by
 refine ⟨fun pins s σ H Q I zz=>?_,fun ω G Q Q' hh q=>hk.m _ _ _ _ (fun w G1 z=>by
  cases w with
  | str y=>obtain ⟨ss,h1,h2⟩:=z;exact ⟨ss,h1,hh _ _ h2⟩
  | _=>exact z) q⟩
 obtain ⟨ω,G,ts,r,q⟩:=zz
 obtain ⟨d,hm,T⟩:=h
 refine Subscript_ (ZyO (R:=fun xv yv H2=>xv=.ref d∧∃ z ss,yv=.str z∧KTD.datumAt z D=some ss∧∀ v,Tr X.K H2 v (.tup (ss.map W.str))→Q v H2) (ZmJ (v:=.ref d) hg hm rfl hd) hk.p I ?_ fun v u s2 xv yv H2 I2 rx ry q2=>?_)
 ·exact ⟨ω,G,ts,r,hk.m _ _ _ _ (fun w G1 z v H1 m t r1=>by
   cases w with
   | str y=>obtain ⟨ss,h1,h2⟩:=z;exact ⟨rfl,y,ss,Ztr t,h1,fun v tv=>h2 v H1 m tv r1⟩
   | _=>exact z.elim) q⟩
 ·obtain ⟨rfl,z,ss,rfl,hD,q3⟩:=q2
  cases rx
  obtain ⟨t,rfl⟩:=ry
  have hT:s2.TypeIs (.ref d) "dict":=by
   obtain ⟨_,o,_,_,ho,hc,_⟩:=T
   exact ⟨o,I2.bk _ _ ho,hc.1⟩
  refine subscriptTail_builtin hT PySem.F.slot_dict_getitem.lookup ?_ (hs _ _) (fun _=>rfl)
  unfold getItem
  try with_reducible refine wpAny_holding ?_
  refine wpAny_bind (wpAny_sequenceKey hT (by decide) ?_)
  refine wpAny_bind (wpAny_callSpecial?_slot (name:=Str.ofString "__getitem__") hT PySem.F.slot_dict_getitem (wpAny_call_entry PySem.F.slot_dict_getitem hT PySem.F.entry_dict_getitem ?_ (PySem.F.args_dict_getitem_2 _ _)))
  show wpAny _ _ (dictGet d (.str z t) >>= _) _ _ s2
  refine wpAny_bind (Zxj T I2.bk hD ?_)
  rintro v ⟨a,rfl,hq⟩
  exact wpAny_pure ⟨_,rfl,wpAny_pure ⟨.ref a,H2,I2.tok _,rfl,q3 _ (.tup (hq H2) (Znh H2 ss))⟩⟩
theorem Zuj {h base:Heap} {mg:Str→Option Value} (X:K.In h) (G:h.Ns mainGlobals mg) (B:K.In base) {x:Str} {d:Addr} {o:Obj} {es:Array DictEntry} {ep:Nat} {D:List (Str×List Str)} (e:PySem.W.nsIn K mainGlobals x=some (some (.ref d))) (l:K.lookup d=some o)
  (hd:(d==sysModules)=false) (hx:o.ExactDict) (ho:o.data=.dict es ep) (hr:KTD.Rows (fun ss v=>∃ a,v=.ref a∧∀ H:Hp,SqT K H a (ss.map V.str)) es.toList D):ZzP K mg base x D :=
 ⟨d,PySem.W.mg_of X G e,hd,o,es,ep,B _ _ l,hx,ho,hr⟩
theorem ZpE {e:DictEntry} {x:Str} {t:Tok} {a:Addr} {ts:List (Str×Tok)} {dd:Option Addr} {n:Nat} {sl:Array (Option Value)} {es:List DictEntry} {D:List (Str×List Str)} (h1:e.key=.str x t) (h2:e.val=.ref a) (l:K.lookup a=some ⟨.type "tuple",dd,.seq ((ts.map fun p=>Value.str p.1 p.2).toArray) n,sl⟩) (hz:ts.length≤1000)
  (r:KTD.Rows (fun ss v=>∃ a,v=.ref a∧∀ H:Hp,SqT K H a (ss.map V.str)) es D):KTD.Rows (fun ss v=>∃ a,v=.ref a∧∀ H:Hp,SqT K H a (ss.map V.str)) (e::es) ((x,ts.map (·.1))::D):=by
 refine .cons h1 ⟨a,h2,fun H=>.inr ⟨_,_,n,l,rfl,rfl,?_,?_⟩⟩ r
 ·simp only [List.size_toArray,List.length_map]
  exact Nat.le_trans hz (by decide)
 ·have vs:∀ ts:List (Str×Tok),Vals ((ts.map (·.1)).map V.str) (ts.map fun p=>Value.str p.1 p.2):=fun ts=>by
   induction ts with
   | nil=>exact .nil
   | cons p ts ih=>exact .cons ⟨p.2,rfl⟩ ih
  simpa using vs ts
end L3
namespace L3
open PySem PySem.Spec PyProof.Rows L2
abbrev ZwS (h:Heap) (z TI TO:Addr) (f0:Value) (b:Bool):Prop:=h.get? z=some { cls:=.type "zip",dict:=none,data:=.fields #[f0,.bool b,.bool false,.ref TI,.ref TO],slots:=#[] }
section
variable {prog:Program} {w:World} {A:Around} {E:Value→Shared→Prop} {s:Shared}
def Hd3 (n l1 l2 l3 i:Nat) (h:Heap):Prop:=(∃ (T:Nat) (o:Obj) (b:Bool),ZwS h (n+5) (n+3) (n+4) (rawInt T) b∧h.get? T=some o∧(T < n∨n+5 < T))∧Zmr h (n+3) (.ref n) (.ref (n+1)) (.ref (n+2))∧h.IsListIter n l1 i∧h.IsListIter (n+1) l2 i∧h.IsListIter (n+2) l3 i
def Cm3 (n l1 l2 l3 i:Nat) (h:Heap):Prop:=(i=0∧St3 n l1 l2 l3 .none 0 h)∨Hd3 n l1 l2 l3 i h
theorem Cm3.zip {n l1 l2 l3 i:Nat} {h:Heap} (st:Cm3 n l1 l2 l3 i h):∃ o,h.get? (n+5)=some o∧o.cls=.type "zip":=by
 rcases st with ⟨_,st⟩ | st
 ·exact ⟨_,st.1,rfl⟩
 ·obtain ⟨⟨T,o,b,hz,_⟩,_⟩:=st
  exact ⟨_,hz,rfl⟩
end
section
variable {prog:Program} {w:World} {A:Around} {E:Value→Shared→Prop} {s:Shared}
end
end L3
namespace L3
open PySem PySem.Spec PyProof.Rows L2
variable {K:PySem.W.Frag} {H H' H2:Hp}
section
variable {prog:Program} {w:World} {A:Around} {E:Value→Shared→Prop} {s:Shared}
def St3M (n l1 l2 l3:Nat) (f0:Value) (i:Nat) (h:Heap):Prop:=IsZip h (n+5) (n+3) (n+4) f0∧Zmr h (n+3) (.ref n) (.ref (n+1)) (.ref (n+2))∧(∃ a b c,Zmr h (n+4) a b c)∧h.IsListIter n l1 i∧h.IsTupleIter (n+1) l2 i∧h.IsTupleIter (n+2) l3 i
theorem St3M.at {n l1 l2 l3:Nat} {f0:Value} {i:Nat} {h h':Heap} (st:St3M n l1 l2 l3 f0 i h) (k:∀ (c:Nat) o,n≤c→c≤n+5→h.get? c=some o→h'.get? c=some o):St3M n l1 l2 l3 f0 i h':=by
 obtain ⟨hz,hTI,⟨a,b,c,hTO⟩,u1,u2,u3⟩:=st
 exact ⟨k _ _ (by omega) (by omega) hz,k _ _ (by omega) (by omega) hTI,⟨a,b,c,k _ _ (by omega) (by omega) hTO⟩,u1.at fun o e=>k _ o (by omega) (by omega) e,tat u2 fun o e=>k _ o (by omega) (by omega) e,tat u3 fun o e=>k _ o (by omega) (by omega) e⟩
end
end L3
namespace L3
open PySem PySem.Spec PyProof.Rows L2
section
variable {prog:Program} {w:World} {A:Around} {E:Value→Shared→Prop} {s:Shared}
end
section
variable {prog:Program} {w:World} {A:Around} {E:Value→Shared→Prop} {s:Shared}
end
section
variable {prog:Program} {w:World} {A:Around} {E:Value→Shared→Prop} {s:Shared}
end
section
variable {X:Cx} {e:Expr} {p1 p3 q1 q3:Pos} {ta:TE}
end
end L3
namespace L3
open PySem PySem.Spec PyProof.Rows L2
variable {K:PySem.W.Frag} {H H' H2:Hp}
def ZvQ (x y:W) (_:Hw):Option W:=match y with | .tup ws=>(Zsl x ws).map fun b=>.bl (!b) | _=>none
def Zx8 (K:PySem.W.Frag):R2:=fun v u H Q=>∃ p vs ws x b,u=.ref p∧SqT K H p vs∧TrL K H vs ws∧Tr K H v x∧Zsl x ws=some b∧Q (.bl (!b)) H
open Classical in
theorem Zur {X:Cx} (hu:X.A.units+100 < cLine):OpR X (compareOp .NotIn) (Zx8 X.K):=by
 walk_at "pc"
 obtain ⟨p,vs,ws,xw,b,rfl,hq,tl,tx,e,q⟩:=h
 cases ry
 obtain ⟨its,r,pl,hz⟩:=I.tuple hq
 obtain ⟨f,hf,hb⟩:=ZmD e
 have l1:=r.length
 have l2:=tl.length
 have at':∀ (i:Nat) (z:Value),its[i]?=some z→SeqAt.EqAt X.A.in1 s z v (f i):=fun i z hi=>by
  have hlt:i < its.length:=by
   rcases Nat.lt_or_ge i its.length with h | h
   ·exact h
   ·rw [List.getElem?_eq_none h] at hi;cases hi
  have gv:vs[i]?=some (vs[i]'(by omega)):=List.getElem?_eq_getElem _
  obtain ⟨z',g',rz⟩:=r.get gv
  rw [hi] at g';cases g'
  obtain ⟨w,gw,tw⟩:=tl.get' gv
  obtain ⟨h1,h2⟩:=hf i w gw
  exact Zm6 I 99 _ _ _ _ _ _ _ X.A.in1 (by omega) tw tx rz rx h1 (by show X.A.units+1+99 < cLine;omega)
 refine SeqAt.notIn_tupleAt (fun z=>decide (∃ i,its[i]?=some z∧f i=true)) pl (fun z hz'=>?_) ⟨.bl (!b),H,I,?_,q⟩
 ·have hm:z∈its:=by simpa using hz'
  obtain ⟨i,hi,rfl⟩:=List.getElem_of_mem hm
  have gi:its[i]?=some its[i]:=List.getElem?_eq_getElem hi
  by_cases h:∃ j,its[j]?=some its[i]∧f j=true
  ·obtain ⟨j,g,hj⟩:=h
   have:=at' j _ g
   rw [hj] at this
   rw [decide_eq_true ⟨j,g,hj⟩];exact this
  ·have:=at' i _ gi
   rw [decide_eq_false h]
   cases hfi:f i with
   | false=>rw [hfi] at this;exact this
   | true=>exact absurd ⟨i,gi,hfi⟩ h
 ·show RelV (.bl (!b)) (.bool _)
  have:(its.toArray.any fun z=>decide (∃ i,its[i]?=some z∧f i=true))=b:=by
   rw [Bool.eq_iff_iff,hb]
   simp only [List.any_toArray,List.any_eq_true,decide_eq_true_eq]
   constructor
   ·rintro ⟨z,hz',i,hi,hfi⟩
    refine ⟨i,?_,hfi⟩
    rcases Nat.lt_or_ge i its.length with h | h
    ·omega
    ·rw [List.getElem?_eq_none h] at hi;cases hi
   ·rintro ⟨j,hj,hfj⟩
    have hj':j < its.length:=by omega
    exact ⟨its[j],List.getElem_mem hj',j,List.getElem?_eq_getElem hj',hfj⟩
  rw [this];rfl
theorem Zvk (x y:W) (v u:V) (G:Hw) (H:Hp) (Q:VK) (tx:Tr K H v x) (ty:Tr K H u y) (r:RelH K H G) (q:Zak ZvQ x y G (dn K H Q)):Zx8 K v u H Q:=by
 obtain ⟨w,e,q'⟩:=Zfd q
 unfold ZvQ at e
 cases ty <;> first | (cases e;done) | skip
 rename_i a vs ws hq t
 obtain ⟨b,e3,e4⟩:=Option.map_eq_some_iff.mp e
 subst e4
 exact ⟨a,vs,ws,x,b,rfl,hq,t,tx,e3,q' _ H .refl (.bl _) r⟩
theorem ZcP {X:Cx} (hu:X.A.units+100 < cLine):Cop X .NotIn (Zak ZvQ):=⟨⟨_,Zur hu,Zvk⟩,Zhl⟩
theorem ZsR {h:Heap} {mg:Str→Option Value} (X:K.In h) (G:h.Ns mainGlobals mg) {x:Str} {d:Addr} {us:List (Addr×List (Str×Tok))} {dd:Option Addr} {n:Nat} {sl:Array (Option Value)} (e:PySem.W.nsIn K mainGlobals x=some (some (.ref d))) (l:K.lookup d=some ⟨.type "tuple",dd,.seq ((us.map fun u=>Value.ref u.1).toArray) n,sl⟩) (hz:us.length≤1000)
  (hu:∀ u∈us,u.2.length≤1000∧∃ dd n sl,K.lookup u.1=some ⟨.type "tuple",dd,.seq ((u.2.map fun p=>Value.str p.1 p.2).toArray) n,sl⟩) :
  Glb K mg x (.tup (us.map fun u=>.tup (u.2.map fun p=>.str p.1))):=by
 have vs:∀ ts:List (Str×Tok),Vals (ts.map fun p=>V.str p.1) (ts.map fun p=>Value.str p.1 p.2):=fun ts=>by
  induction ts with
  | nil=>exact .nil
  | cons p ts ih=>exact .cons ⟨p.2,rfl⟩ ih
 have tr:∀ (H:Hp) (ts:List (Str×Tok)),TrL K H (ts.map fun p=>V.str p.1) (ts.map fun p=>W.str p.1):=fun H ts=>by
  induction ts with
  | nil=>exact .nil
  | cons p ts ih=>exact .cons (.str _) ih
 have vr:∀ us:List (Addr×List (Str×Tok)),Vals (us.map fun u=>V.ref u.1) (us.map fun u=>Value.ref u.1):=fun us=>by
  induction us with
  | nil=>exact .nil
  | cons p ts ih=>exact .cons rfl ih
 have tt:∀ (H:Hp) (us:List (Addr×List (Str×Tok))),(∀ u∈us,u.2.length≤1000∧∃ dd n sl,K.lookup u.1=some ⟨.type "tuple",dd,.seq ((u.2.map fun p=>Value.str p.1 p.2).toArray) n,sl⟩)→TrL K H (us.map fun u=>V.ref u.1) (us.map fun u=>W.tup (u.2.map fun p=>.str p.1)):=fun H us=>by
  induction us with
  | nil=>exact fun _=>.nil
  | cons p ts ih =>
   intro h
   obtain ⟨h1,dd,n,sl,h2⟩:=h p List.mem_cons_self
   refine .cons (.tup (.inr ⟨_,_,n,h2,rfl,rfl,?_,by simpa using vs p.2⟩) (tr H p.2)) (ih fun u hm=>h u (List.mem_cons_of_mem _ hm))
   simp only [List.size_toArray,List.length_map]
   exact Nat.le_trans h1 (by decide)
 refine ⟨.ref d,.ref d,PySem.W.mg_of X G e,rfl,fun H=>.tup (.inr ⟨_,_,n,l,rfl,rfl,?_,by simpa using vr us⟩) (tt H us hu)⟩
 simp only [List.size_toArray,List.length_map]
 exact Nat.le_trans hz (by decide)
section
variable {X:Cx} {e:Expr} {p pc pd pt pos:Pos} {ge:GE}
end
end L3
namespace L3
open PySem PySem.Spec PyProof.Rows L2
def ev {α:Type} (lt:Nat→Nat→Bool) (n:Nat):PySem.W.KasT α→Option α
 | .ret a=>some a
 | .ask i j k=>if i≠j∧i < n∧j < n then ev lt n (k (lt i j)) else none
section
variable {prog:Program} {w:World} {A:Around} {E:Value→Shared→Prop} {s:Shared}
end
end L3
namespace L3
open PySem PySem.Spec PyProof.Rows L2
variable {K:PySem.W.Frag} {H H' H2:Hp}
end L3
namespace L2
open PySem PySem.Spec PyProof.Rows
end L2
namespace L3
open PySem PySem.Spec PyProof.Rows L2
section
variable {prog:Program} {w:World} {A:Around} {E:Value→Shared→Prop} {s:Shared}
end
section
variable {α:Type} {x y z:α} {xs:List α}
theorem ZbC:atI (x::xs) 0=some x:=Zho (j:=0) (xs:=x::xs) rfl
theorem ZbW:atI (x::y::xs) 1=some y:=Zho (j:=1) (xs:=x::y::xs) rfl
theorem Zb5:atI (x::y::z::xs) 2=some z:=Zho (j:=2) (xs:=x::y::z::xs) rfl
end
theorem Zad {w:W} {f:W→Prop}:opt (some w) f=f w:=rfl
theorem Za3 {G:Hw} {p:Addr} {o:HW} (h:G p=none):Sub G (put G p o):=Sub.refl.put h
theorem Zb8 {G G':Hw} {p:Addr} {o:HW} (s:Sub G G') (h:G' p=none):Sub G (put G' p o):=s.trans (Za3 h)
theorem ZdU {G:Hw} {p:Addr} {o o':HW}:put (put G p o) p o'=put G p o':=by
 funext b;unfold put;split <;> rfl
theorem ZeU {G:Hw} {p:Addr} {xs:List W} (h:G p=some (.lst xs)):Zkm G (.ref p)=some xs:=by unfold Zkm;dsimp only;rw [h]
theorem ZiH {G:Hw} {p:Addr} {xs:List W} (h:G p=some (.lst xs)):ZmN G (.ref p)=some xs:=by unfold ZmN;dsimp only;rw [h]
theorem ZhY {G:Hw} {p:Addr} {xs:List W} (h:G p=some (.lst xs)):rdL G (.ref p)=some xs:=by unfold rdL;dsimp only;rw [h]
theorem Zg8 {G:Hw} {p:Addr} {xs:List W} {i:Int} (h:G p=some (.lst xs)):ixW (.ref p) (.int i) G=atI xs i:=by unfold ixW;dsimp only;rw [h]
theorem ZeP:∀ bs:List Bool,ZmB (bs.map W.bl)=some bs
 | []=>rfl
 | b::bs=>by show (ZmB (bs.map W.bl)).map (b::·)=_;rw [ZeP bs];rfl
theorem Zkg:∀ bs:List Str,Zm5 (bs.map W.str)=some (bs.map V.str)
 | []=>rfl
 | b::bs=>by show (ZpO (.str b)).bind (fun v=>(Zm5 (bs.map W.str)).map (v::·))=_;rw [Zkg bs];rfl
theorem ZkY (s:Str):∀ bs:List Str,inV (.str s) (bs.map V.str)=bs.any (·==s)
 | []=>rfl
 | b::bs=>by
  show (eqV (.str b) (.str s)||inV (.str s) (bs.map V.str))=_
  rw [ZkY s bs];rfl
theorem Zop {gd:Hw→Prop} {ge:GE} {R:List W→Hw→Prop} {f:W→W} {G:Hw} (hgd:gd G):∀ (ws:List W) (o:Option W) (ys:List W),(∀ x∈ws,∀ Q:Kw,Q (f x) G→ge [some x] G Q) →
  ys.length+ws.length≤sizeLine→R (ys++ws.map f) G→Zb7 gd (gNm 0) ZhL ge R ws [o] G ys
 | [],o,ys,_,_,r=>⟨hgd,by simpa using r⟩
 | x::ws,o,ys,h,hl,r=>by
  refine ⟨hgd,by simp only [List.length_cons] at hl;omega,?_⟩
  show ge [some x] G fun y G3=>Zb7 gd (gNm 0) ZhL ge R ws [some x] G3 (ys++[y])
  refine h x List.mem_cons_self _ (Zop hgd ws (some x) (ys++[f x]) (fun y hy=>h y (List.mem_cons_of_mem _ hy)) ?_ ?_)
  ·simp only [List.length_append,List.length_cons,List.length_nil] at hl ⊢;omega
  ·simpa [List.append_assoc] using r
theorem Zwt {gd:Hw→Prop} {ge:GE} {R:List W→Hw→Prop} {f:W→W→W} {G:Hw} (hgd:gd G):∀ (ws:List (W×W)) (o o':Option W) (ys:List W),(∀ x∈ws,∀ Q:Kw,Q (f x.1 x.2) G→ge [some x.1,some x.2] G Q) →
  ys.length+ws.length≤sizeLine→R (ys++ws.map fun x=>f x.1 x.2) G→Zb7 gd (Zms 0 1) ZhL ge R (ws.map fun x=>W.tup [x.1,x.2]) [o,o'] G ys
 | [],o,o',ys,_,_,r=>⟨hgd,by simpa using r⟩
 | x::ws,o,o',ys,h,hl,r=>by
  refine ⟨hgd,by simp only [List.length_cons] at hl;omega,?_⟩
  show ge [some x.1,some x.2] G fun y G3=>Zb7 gd (Zms 0 1) ZhL ge R (ws.map fun x=>W.tup [x.1,x.2]) [some x.1,some x.2] G3 (ys++[y])
  refine h x List.mem_cons_self _ (Zwt hgd ws (some x.1) (some x.2) (ys++[f x.1 x.2]) (fun y hy=>h y (List.mem_cons_of_mem _ hy)) ?_ ?_)
  ·simp only [List.length_append,List.length_cons,List.length_nil] at hl ⊢;omega
  ·simpa [List.append_assoc] using r
theorem Ziq:∀ (xs ys:List W),ZlC xs ys=(xs.zip ys).map fun x=>W.tup [x.1,x.2]
 | [],_=>by simp [ZlC]
 | _::_,[]=>by simp [ZlC]
 | x::xs,y::ys=>by simp [ZlC,Ziq xs ys]
def spR {α:Type} (A:α→List W→Hw→Prop) (f:α→W):Spw:=fun ws G Q _=>∃ x,A x ws G∧Q (f x) G
theorem Zcl {α:Type} {A:α→List W→Hw→Prop} {f:α→W}:Spw.M (spR A f):=(by rintro ws G Q Q' E E' h _ ⟨x,h1,q⟩;exact ⟨x,h1,h _ _ q⟩)
def spL {α:Type} (A:α→List W→Hw→Prop) (f:α→List W):Spw:=fun ws G Q _=>∃ x,A x ws G∧∀ p,G p=none→Q (.ref p) (put G p (.lst (f x)))
theorem ZvF {α:Type} {A:α→List W→Hw→Prop} {f:α→List W}:Spw.M (spL A f):=(by rintro ws G Q Q' E E' h _ ⟨x,h1,q⟩;exact ⟨x,h1,fun p hp=>h _ _ (q p hp)⟩)
theorem ZoZ {α:Type} (xs:List α):Znc xs (some 1) none=xs.drop 1:=by
 have e:HT.sIx xs.length 0 (some 1)=min 1 xs.length:=HT.sIx_nat xs.length 0 1
 unfold Znc
 rw [e,HT.sIx_none]
 cases xs with
 | nil=>rfl
 | cons x xs =>
  have e1:min 1 (x::xs).length=1:=by simp only [List.length_cons];omega
  rw [e1]
  show (xs.take ((xs.length+1) - 1))=xs
  rw [Nat.add_sub_cancel,List.take_length]
theorem ZqN {α:Type} (x:α) (xs:List α):¬ (HT.sIx (x::xs).length 0 (some 1)=0∧HT.sIx (x::xs).length (x::xs).length none=(x::xs).length):=by
 have e:HT.sIx (x::xs).length 0 (some 1)=min 1 (x::xs).length:=HT.sIx_nat (x::xs).length 0 1
 intro h
 have:=h.1
 rw [e] at this
 simp only [List.length_cons] at this
 omega
theorem Zwy {G:Hw} {p:Addr} {xs:List W} {lo hi:Option Int} {Q:Kw} (h:G p=some (.lst xs)) (q:∀ p1,G p1=none→Q (.ref p1) (put G p1 (.lst (Znc xs lo hi)))):slW (.ref p) lo hi G Q:=by
 unfold slW
 dsimp only
 rw [h]
 exact q
theorem ZaM {G:Hw} {p q:Addr} {o:HW} (h:G p=some o) (h':G q=none):p≠q:=by intro e;rw [e,h'] at h;cases h
theorem Zbf {n:Nat} (h:n≤100000):n≤sizeLine:=Nat.le_trans h (by decide)
theorem Zr5 {n:Nat} (h:n≤100000):n < sizeLine:=Nat.lt_of_le_of_lt h (by decide)
section
variable {P:Program} {w:World} {K:PySem.W.Frag} {mg:Str→Option Value} {base:Heap}
theorem ok0 {x:Str} {st:Stmt} {f:Addr} {fd:FuncData} {N ps:List Str} {k:Nat} {sp:Spw} {g:GS} (F:Fun K x x st f fd) (S:Zap N ps (Zae st)) (len:∀ ws G Q E,sp ws G Q E→ws.length=ps.length)
  (hg:∀ {f:Addr} {cdv:Value} {A:Around} {outer:List Env} {s:Shared} {H:Hp} {E:XK},Room k (A.deeper (envOfC x (Zae st) s.heap.objs.size f cdv))→Ssm (cxW P w K mg base N x (Zae st) f cdv A outer s H E).nox (fun B=>B=H) (Zbe st) g)
  (ok:∀ ws G (Q:Kw) (E:Addr→Hw→Prop),Kw.C Q→sp ws G Q E→g (Zaw Q) (ZaQ N ws) G):FnOk P w K mg base (CXe P w) (k+1) f fd ps (ZtS K sp):=by
 walk_at "pi"
 refine Zs1 lk hcd S ((by rintro vs H Q E ⟨ws,G,t,r,q⟩;rw [t.length];exact len ws G _ _ q)) fun A outer s H vs Q E hr hsp=>?_
 obtain ⟨ws,G,t,r,q⟩:=hsp
 have D:=hg (cdv:=cdv) (outer:=outer) (H:=H) (E:=E) hr
 refine ⟨_,(D.p H rfl).nox,ZaQ N ws,G,Zfn t,r,.refl,?_⟩
 walk_at "pe"
end
def ZrZ:Spw:=fun ws _ Q _=>∃ ns:List Int,ws=[.rol (ns.map W.int)]∧ns.length≤63∧∀ G',Q (.bl true) G'
theorem Zof {K:PySem.W.Frag} {H:Hp}:∀ ns:List Int,TrL K H (ns.map V.int) (ns.map W.int)
 | []=>.nil
 | n::ns=>.cons (.int n) (Zof ns)
theorem ZpL {K:PySem.W.Frag} {H:Hp} {a:Addr} {ns:List Int} (hl:ns.length≤63) (hO:ZyM H) (hS:SqL K H a (ns.map V.int)):ZtS K ZrZ [.ref a] H (fun v _=>v=.bl true) (fun _ _ _=>False):=by
 have ro:RoL K H a (ns.map V.int):=by
  rcases hS with (h | ⟨o,h⟩) | h
  ·rcases hO a with z | ⟨o,xs,z⟩
   ·rw [z] at h;cases h
   ·rw [z] at h;cases h
  ·exact .inl ⟨o,h⟩
  ·exact .inr h
 exact ⟨[.rol (ns.map W.int)],fun _=>none,.cons (.rol ro (Zof ns)) .nil,(fun a o e=>by cases e),ns,rfl,hl,fun G' v H' m t r=>ZmG t⟩
theorem Zs4 {P:Program} {w:World} {H:Hp} {s:Shared} {e:Value} {s':Shared} (h:CXe P w [] H s (fun _ _ _=>False) e s'):False:=by
 obtain ⟨_,_,_,_,_,q⟩:=h
 exact q
section
variable {K:PySem.W.Frag} {h:Heap} {mg:Str→Option Value} (X:K.In h) (G:h.Ns mainGlobals mg)
include X G
theorem ZzE {x:Str} {st:Stmt} {ps:List Str} {f:Addr} {oc:Value} {od an:Option Addr} {osl:Array (Option Value)} {kV doc pm cdv ct:Value} (e1:PySem.W.nsIn K mainGlobals x=some (some (.ref f)))
  (l:K.lookup f=some ⟨oc,od,.func (PySem.W.fnOf x x (ZeX st) (Zbe st) (Zae st) .none kV doc pm an cdv ct),osl⟩) (c:PySem.W.codeIn K cdv x=true) (k:PySem.W.keepIn K (.ref f)=true)
  (b:∀ (kV doc pm:Value) (an:Option Addr) (cdv ct:Value) (us:List Value),us.length=ps.length→bindArgs (PySem.W.fnOf x x (ZeX st) (Zbe st) (Zae st) .none kV doc pm an cdv ct) ⟨us,[]⟩=pure (ps.zip us)):Fn K mg st x ps :=
 ⟨f,_,PySem.W.mg_of X G e1,Zth l c k,(Zth l c k).binds b⟩
theorem ZmA {x:Str} {i:Int} {t:Tok} (e:PySem.W.nsIn K mainGlobals x=some (some (.int i t))):Glb K mg x (.int i):=⟨.int i,.int i t,PySem.W.mg_of X G e,⟨t,rfl⟩,fun H=>.int i⟩
theorem ZtT {x:Str} {d:Addr} {ts:List (Str×Tok)} {dd:Option Addr} {n:Nat} {sl:Array (Option Value)} (e:PySem.W.nsIn K mainGlobals x=some (some (.ref d))) (l:K.lookup d=some ⟨.type "tuple",dd,.seq ((ts.map fun p=>Value.str p.1 p.2).toArray) n,sl⟩) (hz:ts.length≤1000) :
  Glb K mg x (.tup (ts.map fun p=>.str p.1)):=by
 have vs:∀ ts:List (Str×Tok),Vals (ts.map fun p=>V.str p.1) (ts.map fun p=>Value.str p.1 p.2):=fun ts=>by
  induction ts with
  | nil=>exact .nil
  | cons p ts ih=>exact .cons ⟨p.2,rfl⟩ ih
 have tr:∀ (H:Hp) (ts:List (Str×Tok)),TrL K H (ts.map fun p=>V.str p.1) (ts.map fun p=>W.str p.1):=fun H ts=>by
  induction ts with
  | nil=>exact .nil
  | cons p ts ih=>exact .cons (.str _) ih
 refine ⟨.ref d,.ref d,PySem.W.mg_of X G e,rfl,fun H=>.tup (.inr ⟨_,_,n,l,rfl,rfl,?_,by simpa using vs ts⟩) (tr H ts)⟩
 simp only [List.size_toArray,List.length_map]
 exact Nat.le_trans hz (by decide)
end
theorem ZwX {K:PySem.W.Frag} {h base:Heap} {mg:Str→Option Value} (X:K.In h) (G:h.Ns mainGlobals mg) (B:K.In base) {x:Str} {d:Addr} {o:Obj} {es:Array DictEntry} {ep:Nat} {D:List (Str×Int)} (e:PySem.W.nsIn K mainGlobals x=some (some (.ref d))) (l:K.lookup d=some o)
  (hd:(d==sysModules)=false) (hx:o.ExactDict) (ho:o.data=.dict es ep) (hr:KTD.Rows (KTD.Dat.At base) es.toList (D.map fun p=>(p.1,KTD.Dat.flat (.int p.2)))):Zzs mg base x D :=
 ⟨d,PySem.W.mg_of X G e,hd,o,es,ep,B _ _ l,hx,ho,hr⟩
theorem ZlK {K:PySem.W.Frag} {C D:Addr} {b:Bool} (hne:(Value.ref C==Value.ref D)=false) (h0:(PySem.W.clsIn K D).isSome=true) (h1:PySem.W.typeIn K (.ref D)=some (.type "type")) (h2:PySem.W.subIn K (.ref C) (.ref D)=some b):PySem.W.kitOne K (.ref C) (.ref D)=some b:=by
 unfold PySem.W.kitOne PySem.W.kitCls
 rw [if_neg (by rw [hne];exact Bool.false_ne_true)]
 dsimp only
 rw [if_pos (by rw [h0,h1];rfl)]
 exact h2
theorem ZrA {K:PySem.W.Frag} {C:Addr}:PySem.W.kitOne K (.ref C) (.ref C)=some true:=by
 unfold PySem.W.kitOne
 rw [if_pos (by simp)]
theorem ZwN {K:PySem.W.Frag} {C:Addr} {T:String} {b:Bool} (hm:PySem.W.kitMeta T=true) (h2:PySem.W.subIn K (.ref C) (.type T)=some b):PySem.W.kitOne K (.ref C) (.type T)=some b:=by
 unfold PySem.W.kitOne PySem.W.kitCls
 rw [if_neg (by intro h;cases beq_iff_eq.mp h)]
 dsimp only
 rw [if_pos hm]
 exact h2
theorem ZzO {l:PySem.W.OpenLaw} {q:Program} {loose:List Str} {XP:(Str→Option Value)→Heap→Prop} {YP:World→Heap→Prop} {d:DefRec} {K:Params→PySem.W.Frag} {k:Nat} (hr:Room k callerA) (hn:l.most=some 63) (hdf:d.params.defaults=[])
  (hY:∀ (w:World) (h:Heap),YP w h→(K w.params).In h)
  (F:∀ (w:World) (mg:Str→Option Value) (fa:Addr) (h:Heap),(K w.params).In h→h.Ns mainGlobals mg→mg d.name=some (.ref fa) →
   ∃ fd:FuncData,(∀ (s:Shared) (u:Value),BindsTo s fd ⟨[u],[]⟩ [("script",u)])∧∀ base:Heap,(K w.params).In base→base.Ns mainGlobals mg→FnOk l.prog w (K w.params) mg base (CXe l.prog w) k fa fd ["script"] (ZtS (K w.params) ZrZ)) :
  PySem.W.WalkO q loose XP YP l.row.toRowW d [] (fun f vs=>PySem.call f vs) :=
 L2.Zvy (n:=63) (k:=k) (x:="script") (CX:=fun w=>CXe l.prog w) (sp:=fun w=>ZtS (K w.params) ZrZ) hn (by decide) hdf hr hY F (fun w H a ns hl hO hS=>ZpL hl hO hS) fun w H s e s' z=>Zs4 z
theorem ZgE {α:Type} {o:Option α} {x:α} (h:o=some x):o.isSome=true:=by rw [h];rfl
theorem ln0 {us:List Value} (h:us.length=0):us=[]:=List.length_eq_zero_iff.mp h
theorem ln1 {us:List Value} {n:Nat} (h:us.length=n+1):∃ a r,us=a::r∧r.length=n:=by
 cases us with
 | nil=>cases h
 | cons a r=>exact ⟨a,r,rfl,Nat.succ.inj h⟩
end L3
namespace KM
open PySem L2 L3
mutual
inductive Kd where
 | any | num | truth
 | to (a b:Kd) | box (a:Kd) | row (fs:Fs) (o:Bool)
inductive Fs where
 | nil | cons (n:Str) (m:Bool) (k:Kd) (r:Fs)
end
def mark (m:Bool):Str:=if m then "must" else "may"
mutual
def Kd.enc:Kd→W
 | .any=>.tup [.str "any"]
 | .num=>.tup [.str "num"]
 | .truth=>.tup [.str "truth"]
 | .to a b=>.tup [.str "to",a.enc,b.enc]
 | .box a=>.tup [.str "box",a.enc]
 | .row fs o=>.tup [.str "row",.tup fs.enc,.bl o]
def Fs.enc:Fs→List W
 | .nil=>[]
 | .cons n m k r=>.tup [.str n,.str (mark m),k.enc]::r.enc
end
def Fs.kinds:Fs→List Kd
 | .nil=>[]
 | .cons _ _ k r=>k::r.kinds
def Fs.names:Fs→List Str
 | .nil=>[]
 | .cons n _ _ r=>n::r.names
def Kd.kids:Kd→List Kd
 | .to a b=>[a,b]
 | .box a=>[a]
 | .row fs _=>fs.kinds
 | _=>[]
mutual
def Kd.cnt:Kd→Nat
 | .to a b=>1+(a.cnt+b.cnt)
 | .box a=>1+a.cnt
 | .row fs _=>1+fs.cnt
 | _=>1
def Fs.cnt:Fs→Nat
 | .nil=>0
 | .cons _ _ k r=>k.cnt+r.cnt
end
mutual
def Kd.dp:Kd→Nat
 | .to a b=>1+max a.dp b.dp
 | .box a=>1+a.dp
 | .row fs _=>1+fs.dp
 | _=>1
def Fs.dp:Fs→Nat
 | .nil=>0
 | .cons _ _ k r=>max k.dp r.dp
end
mutual
def Kd.all:Kd→List Kd
 | .to a b=>.to a b::(a.all++b.all)
 | .box a=>.box a::a.all
 | .row fs o=>.row fs o::fs.all
 | .any=>[.any]
 | .num=>[.num]
 | .truth=>[.truth]
def Fs.all:Fs→List Kd
 | .nil=>[]
 | .cons _ _ k r=>k.all++r.all
end
def Zjf:List Kd→Nat
 | []=>0
 | k::r=>k.cnt+Zjf r
def dpL:List Kd→Nat
 | []=>0
 | k::r=>max k.dp (dpL r)
theorem Zq4:∀ fs:Fs,fs.cnt=Zjf fs.kinds
 | .nil=>rfl
 | .cons _ _ k r=>by show k.cnt+r.cnt=k.cnt+Zjf r.kinds;rw [Zq4 r]
theorem ZwW:∀ fs:Fs,fs.dp=dpL fs.kinds
 | .nil=>rfl
 | .cons _ _ k r=>by show max k.dp r.dp=max k.dp (dpL r.kinds);rw [ZwW r]
theorem ZkJ (k:Kd):k.cnt=1+Zjf k.kids:=by
 cases k with
 | to a b=>show 1+(a.cnt+b.cnt)=1+(a.cnt+(b.cnt+0));omega
 | box a=>show 1+a.cnt=1+(a.cnt+0);omega
 | row fs o=>show 1+fs.cnt=1+Zjf fs.kinds;rw [Zq4]
 | _=>rfl
theorem Zks (k:Kd):k.dp=1+dpL k.kids:=by
 cases k with
 | to a b=>show 1+max a.dp b.dp=1+max a.dp (max b.dp 0);omega
 | box a=>show 1+a.dp=1+max a.dp 0;omega
 | row fs o=>show 1+fs.dp=1+dpL fs.kinds;rw [ZwW]
 | _=>rfl
theorem ZiW:∀ (l m:List Kd),Zjf (l++m)=Zjf l+Zjf m
 | [],m=>by simp [Zjf]
 | k::l,m=>by show k.cnt+Zjf (l++m)=k.cnt+Zjf l+Zjf m;rw [ZiW l m];omega
theorem Zj3:∀ (l m:List Kd),dpL (l++m)=max (dpL l) (dpL m)
 | [],m=>by simp [dpL]
 | k::l,m=>by show max k.dp (dpL (l++m))=max (max k.dp (dpL l)) (dpL m);rw [Zj3 l m];omega
theorem Zva (k:Kd):1≤k.cnt:=by rw [ZkJ];omega
theorem Zkk (k:Kd):1≤k.dp:=by rw [Zks];omega
theorem Zj5:∀ l:List Kd,Zjf l=l.length+Zjf (l.flatMap Kd.kids)
 | []=>rfl
 | k::l=>by
  show k.cnt+Zjf l=(l.length+1)+Zjf ((k::l).flatMap Kd.kids)
  rw [List.flatMap_cons,ZiW,Zj5 l,ZkJ k];omega
theorem Zl3:∀ l:List Kd,l≠[]→dpL l=1+dpL (l.flatMap Kd.kids)
 | [],h=>absurd rfl h
 | [k],_=>by
  show max k.dp 0=1+dpL ([k].flatMap Kd.kids)
  rw [List.flatMap_cons,List.flatMap_nil,List.append_nil,Zks];omega
 | k::k'::l,_=>by
  have ih:=Zl3 (k'::l) (by simp)
  show max k.dp (dpL (k'::l))=1+dpL ((k::k'::l).flatMap Kd.kids)
  rw [List.flatMap_cons,Zj3,ih,Zks k];omega
theorem Zoi:∀ l:List Kd,l.length≤Zjf l
 | []=>Nat.le_refl _
 | k::l=>by have:=Zoi l;have:=Zva k;show l.length+1≤k.cnt+Zjf l;omega
theorem Zoh:∀ {l:List Kd} {k:Kd},k∈l→k.cnt≤Zjf l
 | k'::l,k,h=>by
  show k.cnt≤k'.cnt+Zjf l
  rcases List.mem_cons.mp h with rfl | h
  ·omega
  ·have:=Zoh h;omega
theorem Zgu:∀ {l:List Kd} {k:Kd},k∈l→k.dp≤dpL l
 | k'::l,k,h=>by
  show k.dp≤max k'.dp (dpL l)
  rcases List.mem_cons.mp h with rfl | h
  ·omega
  ·have:=Zgu h;omega
theorem ZpC {k c:Kd} (h:c∈k.kids):c.dp+1≤k.dp:=by rw [Zks k];have:=Zgu h;omega
theorem Zs9:∀ fs:Fs,fs.enc.length=fs.kinds.length
 | .nil=>rfl
 | .cons _ _ k r=>by show r.enc.length+1=r.kinds.length+1;rw [Zs9 r]
def Kd.unk:Kd→Bool
 | .any=>true
 | .row _ o=>o
 | _=>false
def Kd.fb:Kd→Bool
 | .to _ _=>true
 | .box _=>true
 | _=>false
def Kd.known (k:Kd):Bool:=!(k.all.any Kd.unk)
def Kd.data (k:Kd):Bool:=!(k.all.any Kd.fb)
def Kd.hd:Kd→Str
 | .any=>"any"
 | .num=>"num"
 | .truth=>"truth"
 | .to _ _=>"to"
 | .box _=>"box"
 | .row _ _=>"row"
def Kd.own:Kd→List Str
 | .row _ o=>if o then ["row","open"] else ["row"]
 | k=>[k.hd]
def Zg7 (z:Str):Bool:=!Zbi z "a"&&!Zbi "z" z
def Zdc (n:Str):Bool:=decide (1≤n.length)&&decide (n.length≤8)&&n.cps.toList.all fun c=>Zg7 ⟨#[c]⟩
def ZkB:List Str→Bool
 | a::b::r=>Zbi a b&&ZkB (b::r)
 | _=>true
mutual
def Kd.ok:Kd→Bool
 | .to a b=>a.ok&&b.ok
 | .box a=>a.ok
 | .row fs _=>ZkB fs.names&&fs.ok
 | _=>true
def Fs.ok:Fs→Bool
 | .nil=>true
 | .cons n _ k r=>Zdc n&&k.ok&&r.ok
end
theorem ZgF:∀ {fs:Fs},fs.ok=true→∀ c∈fs.kinds,c.ok=true
 | .nil,_,c,hc=>by cases hc
 | .cons n m k r,h,c,hc=>by
  have h':(Zdc n&&k.ok&&r.ok)=true:=h
  walk_at "pj"
  rcases List.mem_cons.mp hc with rfl | hc
  ·exact h'.1.2
  ·exact ZgF h'.2 c hc
theorem Zm4 {k:Kd} (h:k.ok=true):∀ c∈k.kids,c.ok=true:=by
 intro c hc
 cases k with
 | to a b =>
  have h':(a.ok&&b.ok)=true:=h
  walk_at "pj"
  have hc':c=a∨c=b:=by simpa [Kd.kids] using hc
  rcases hc' with rfl | rfl
  ·exact h'.1
  ·exact h'.2
 | box a=>have hc':c=a:=by simpa [Kd.kids] using hc
          subst hc';exact h
 | row fs o =>
  have h':(ZkB fs.names&&fs.ok)=true:=h
  walk_at "pj"
  exact ZgF h'.2 c hc
 | _=>cases hc
open PySem PySem.Spec PyProof.Rows L2 L3
abbrev ZcK:Stmt:=top 28
abbrev ZeV:Stmt:=top 29
abbrev Zi6:Stmt:=top 27
abbrev Zhw:Stmt:=top 26
abbrev Ze8:Stmt:=top 25
abbrev Zhq:Stmt:=top 24
abbrev Zd7:Stmt:=top 23
abbrev Zd5:Stmt:=top 22
abbrev ZdC:Stmt:=top 21
abbrev ZiY:Stmt:=top 20
abbrev Zc6:Stmt:=top 18
abbrev ZhM:Stmt:=top 14
abbrev Zhs:Stmt:=top 15
abbrev Zdy:Stmt:=top 16
abbrev Zcy:Stmt:=top 19
abbrev ZkP:Stmt:=top 32
abbrev ZcA:Stmt:=top 35
abbrev Zdq:Stmt:=top 34
abbrev ZhI:Stmt:=top 33
abbrev ZcN:Stmt:=top 48
abbrev Zd2:Stmt:=top 47
abbrev Zcf:Stmt:=top 46
abbrev ZiQ:Stmt:=top 45
abbrev Zff:Stmt:=top 44
abbrev ZgL:Stmt:=top 41
abbrev Zc5:Stmt:=top 42
abbrev Zix:Stmt:=top 17
abbrev ZcM:Stmt:=top 38
abbrev ZcQ:Stmt:=top 37
abbrev Zja:Stmt:=top 36
abbrev Zcd:Stmt:=top 51
abbrev Zcb:Stmt:=top 50
abbrev Zgk:Stmt:=top 49
abbrev Zhj:Stmt:=top 43
abbrev Zd4:Stmt:=top 53
abbrev Zfc:Stmt:=top 54
abbrev ZeC:Stmt:=top 55
abbrev ZhG:Stmt:=top 56
abbrev Zgm:Stmt:=top 57
abbrev ZcG:Stmt:=top 58
abbrev ZcD:Stmt:=top 59
abbrev Zco:Stmt:=top 60
abbrev ZdO:Stmt:=top 61
abbrev Zc3:Stmt:=top 62
abbrev Zcw:Stmt:=top 63
abbrev Zgy:Stmt:=top 64
abbrev ZoH:Stmt:=top 65
def ZaN:List (Str×Int):=[("any",1),("num",1),("truth",1),("to",3),("box",2),("row",3)]
def Zi2:List (Str×List Str):=[("any",[]),("num",[]),("truth",[]),("to",["in","out"]),("box",["inside"])]
structure Adr where
 CastError:Addr
 NoKind:Addr
 NoTerm:Addr
 BadUse:Addr
 NoValue:Addr
 NoNumber:Addr
 BadNote:Addr
structure Fns (K:PySem.W.Frag) (mg:Str→Option Value):Prop where
 ZhH:Fn K mg ZcK "is_small_letter" ["sign"]
 ZlS:Fn K mg ZeV "names_rise" ["names"]
 ZpX:Fn K mg Zi6 "is_name" ["thing"]
 Zok:Fn K mg Zhw "is_field" ["thing"]
 Zlt:Fn K mg Ze8 "are_fields" ["thing"]
 ZoA:Fn K mg Zhq "has_form" ["thing"]
 Zjr:Fn K mg Zd7 "kinds_within" ["kind"]
 Zjg:Fn K mg Zd5 "layer_within" ["layer","things_within"]
 Zlu:Fn K mg ZdC "is_made_of" ["thing","is_formed","things_within","most","deepest"]
 Zqi:Fn K mg ZiY "is_kind" ["thing"]
 Zl1:Fn K mg Zc6 "check_kind" ["thing"]
 Zot:Fn K mg ZhM "entry_of" ["row","name"]
 ZoP:Fn K mg Zhs "names_of" ["row"]
 ZiT:Fn K mg Zdy "names_of_both" ["one","other"]
 ZkT:Fn K mg Zcy "check_kinds" ["one","other"]
 ZsV:Fn K mg ZkP "behind" ["step","path"]
 Zhd:Fn K mg ZcA "clash_of_entries" ["one","other"]
 ZiF:Fn K mg Zdq "clash_of_rows" ["one","other"]
 ZjN:Fn K mg ZhI "clash_of" ["one","other"]
 Zhn:Fn K mg ZcN "lack_of_entries" ["one","other"]
 Zjs:Fn K mg Zd2 "lack_of_rows" ["one","other"]
 Zgt:Fn K mg Zcf "lack_of_functions" ["one","other"]
 Zlc:Fn K mg ZiQ "lack_of" ["one","other"]
 ZlN:Fn K mg Zff "does_serve" ["one","other"]
 Zse:Fn K mg ZgL "serves" ["one","other"]
 Zmk:Fn K mg Zc5 "first_lack" ["one","other"]
 ZsY:Fn K mg Zix "row_of" ["names","entries","is_open"]
 Zhu:Fn K mg ZcM "join_of_entries" ["one","other"]
 Zjp:Fn K mg ZcQ "join_of_rows" ["one","other"]
 Zli:Fn K mg Zja "join_of" ["one","other"]
 ZgD:Fn K mg Zcd "either_of_entries" ["one","other"]
 Zii:Fn K mg Zcb "either_of_rows" ["one","other"]
 Zi9:Fn K mg Zgk "either_of" ["one","other"]
 Zru:Fn K mg Zhj "either" ["one","other"]
 Zjq:Fn K mg Zd4 "_law_cell_at" ["script","k"]
 Zl5:Fn K mg Zfc "_law_state" ["script","k"]
 Zk7:Fn K mg ZeC "_law_choice" ["state","many"]
 Zj6:Fn K mg ZhG "_law_row" ["state","deep","plain","known"]
 Zgv:Fn K mg Zgm "_law_kind" ["state","deep","plain","known"]
 ZhF:Fn K mg ZcG "_law_drawn_kind" ["script","k","plain","known"]
 Zg5:Fn K mg ZcD "_law_nested_kind" ["deep","kind"]
 ZiG:Fn K mg Zco "_law_bad_kind" ["state"]
 Zmf:Fn K mg ZdO "_law_marks" ["e"]
 Zjl:Fn K mg Zc3 "_law_refused" ["marks","which"]
 ZkE:Fn K mg Zcw "_law_called" ["way","one","other"]
 Zm0:Fn K mg Zgy "_law_told" ["way","one","other"]
 Zzc:Fn K mg ZoH "law" ["script"]
structure Bls (mg:Str→Option Value):Prop where
 Zln:mg "ValueError"=none
 ZgR:mg "all"=none
 Zgb:mg "bool"=none
 Zek:mg "int"=none
 Zac:mg "isinstance"=none
 Zjt:mg "len"=none
 Zch:mg "list"=none
 Zd0:mg "range"=none
 Zjz:mg "set"=none
 ZaY:mg "sorted"=none
 Zjk:mg "str"=none
 Za9:mg "tuple"=none
 ZsS:mg "zip"=none
structure Tx (K:PySem.W.Frag) (mg:Str→Option Value) (base:Heap) (a:Adr):Prop extends Fns K mg,Bls mg where
 ZiN:mg "CastError"=some (.ref a.CastError)
 Zkv:mg "NoKind"=some (.ref a.NoKind)
 Zn3:mg "NoTerm"=some (.ref a.NoTerm)
 Zn7:mg "BadUse"=some (.ref a.BadUse)
 Zl9:mg "NoValue"=some (.ref a.NoValue)
 ZjK:mg "NoNumber"=some (.ref a.NoNumber)
 Zlr:mg "BadNote"=some (.ref a.BadNote)
 Zfk:PySem.W.excIn K a.NoKind [.type "ValueError",.type "Exception",.type "BaseException",.type "object"] "ValueError.__new__"=true
 ZcO:PySem.W.typeIn K (.ref a.CastError)=some (.type "type")
 ZcJ:(PySem.W.clsIn K a.CastError).isSome=true
 ZcI:PySem.W.subIn K (.ref a.CastError) (.type "BaseException")=some true
 Zcg:Glb K mg "MARKS" (.tup [(.str "must"),(.str "may")])
 ZaH:Glb K mg "MOST_DEPTH" (.int 8)
 ZaG:Glb K mg "MOST_KINDS" (.int 40)
 Zay:Glb K mg "MOST_LETTERS" (.int 8)
 ZbR:Glb K mg "SERVING" (.tup [(.tup [(.str "none"),(.str "none")]),(.tup [(.str "none"),(.str "may")]),(.tup [(.str "must"),(.str "must")]),(.tup [(.str "must"),(.str "may")]),(.tup [(.str "may"),(.str "may")])])
 ZbL:Zzs mg base "LENGTHS" ZaN
 ZqK:ZzP K mg base "STEPS" Zi2
 ZjY:PySem.W.subIn K (.ref a.NoKind) (.ref a.CastError)=some true
 Zc7:ZvA K a.NoKind
 ZnB:PySem.W.kitOne K (.ref a.NoKind) (.ref a.NoKind)=some true
 Zog:PySem.W.kitOne K (.ref a.NoKind) (.ref a.NoTerm)=some false
 Zn0:PySem.W.kitOne K (.ref a.NoKind) (.ref a.BadUse)=some false
 ZlL:PySem.W.kitOne K (.ref a.NoKind) (.ref a.NoValue)=some false
 Zj2:PySem.W.kitOne K (.ref a.NoKind) (.ref a.NoNumber)=some false
 Zl7:PySem.W.kitOne K (.ref a.NoKind) (.ref a.BadNote)=some false
 Zh7:PySem.W.kitOne K (.ref a.NoKind) (.type "ValueError")=some true
def Dn (P:Program) (w:World) (K:PySem.W.Frag) (mg:Str→Option Value) (base:Heap) (N:List Str) (x:Str) (st:Stmt) (k:Nat) (g:GS):Prop:=∀ {f:Addr} {cdv:Value} {A:Around} {outer:List Env} {s:Shared} {H:Hp} {E:XK},Room k (A.deeper (envOfC x (Zae st) s.heap.objs.size f cdv))→Ssm (cxW P w K mg base N x (Zae st) f cdv A outer s H E).nox (fun B=>B=H) (Zbe st) g
theorem mk0 {P:Program} {w:World} {K:PySem.W.Frag} {mg:Str→Option Value} {base:Heap} {x:Str} {st:Stmt} {N ps:List Str} {k n:Nat} {sp:Spw} {g:GS} (Fx:Fn K mg st x ps) (hn:ps.length=n) (S:Zap N ps (Zae st)) (spm:sp.M) (len:∀ ws G Q E,sp ws G Q E→ws.length=n) (hg:Dn P w K mg base N x st k g) (ok:∀ ws G (Q:Kw) (E:Addr→Hw→Prop),Kw.C Q→sp ws G Q E→g (Zaw Q) (ZaQ N ws) G):Df P w K mg base x (k+1) n sp:=L3.mk0 Fx hn S spm len hg ok
set_option hygiene false in
local macro_rules | `(tactic| walk_at "s") => `(tactic| exact ⟨rfl, rfl, rfl, by decide +kernel, rfl, by decide +kernel, by decide +kernel⟩)
set_option hygiene false in
local macro_rules | `(tactic| walk_at "c") => `(tactic| first | exact ZeS hu | exact Zgh hu | exact ZfL | exact cop_nin | exact Zgg | exact ZfC | exact Zf9 | exact Zgf | exact ZfI | exact Zd8 | exact Zd9 hu | exact cop_nInT hu | exact ZcP hu | exact cop_isB | exact cop_inN hu)
set_option hygiene false in
local macro_rules | `(tactic| walk_at "b") => `(tactic| first | refine ZbU ZdS (ZcF rfl) rfl T.ZgR (by decide) rfl rfl rfl ?_ | refine Zb1 Zcj (Zd3) rfl T.Zek (by decide) rfl rfl rfl ?_ | refine ZbU Zf3 (Zd1) rfl T.Zjt (by decide) rfl rfl rfl ?_ | refine Zb1 Zbq (ZcX) rfl T.Zch (by decide) rfl rfl rfl ?_ | refine ZbU bt_sorted (blt_sorted) rfl T.ZaY (by decide) rfl rfl rfl ?_ | refine Zb1 ZaP (Zbr) rfl T.Za9 (by decide) rfl rfl rfl ?_ | refine Zar (T := "tuple") (by decide) ZaP T.Za9 T.Zac rfl rfl (by decide) rfl rfl rfl ?_ | refine Zar (T := "list") (by decide) Zbq T.Zch T.Zac rfl rfl (by decide) rfl rfl rfl ?_ | refine Zar (T := "str") (by decide) Zgc T.Zjk T.Zac rfl rfl (by decide) rfl rfl rfl ?_ | refine Zar (T := "int") (by decide) Zcj T.Zek T.Zac rfl rfl (by decide) rfl rfl rfl ?_ | refine Zar (T := "bool") (by decide) ZdV T.Zgb T.Zac rfl rfl (by decide) rfl rfl rfl ?_ | refine ZcT rfl T.ZaY T.Zjz rfl rfl rfl rfl rfl ?_ ?_ | refine Zb4 T.ZbL rfl rfl rfl rfl rfl rfl rfl ?_ | refine Za8 ZbD rfl rfl rfl rfl rfl ?_ ?_ | refine Za8 Zbn rfl rfl rfl rfl rfl ?_ ?_ | refine Za8 mth_get rfl rfl rfl rfl rfl ?_ ?_ | exact Zat T.Zcg rfl rfl | exact Zat T.ZaH rfl rfl | exact Zat T.ZaG rfl rfl | exact Zat T.Zay rfl rfl | exact Zat T.ZbR rfl rfl)
set_option hygiene false in
local macro_rules | `(tactic| walk_at "v") => `(tactic| (first | (show Am _ _ _; first | exact Zb3 | refine ZaO rfl ?_ ?_) | (show Em _ _ _; first | exact Zrl rfl rfl rfl rfl | exact Zgi | exact ZfD | refine Zjx (fun _ _ => rfl) ?_ ?_ | refine ZaZ (by assumption) (hr.mono (by assumption)) rfl Zg9 rfl rfl rfl ?_ | refine ZfZ ?_ | refine ZeN ?_ | exact Zjm | refine Zfa (by walk_at "c") rfl ?_ ?_ | refine Zdb ?_ ?_ | refine ZfT ?_ ?_ | refine Zfz ?_ ?_ | refine ZfW ?_ ?_ | refine em_mulA ?_ ?_ | refine ZdX ?_ ?_ | refine ZfH ?_ ?_ | walk_at "b" | exact Zga | refine Zgd ?_ ?_ ?_ | refine Zfg ?_ ?_ | refine ZjA ?_ ?_ | refine ZeW ?_ | refine ZfR ?_ | refine Ze2 ?_ ?_ | refine ZfU ?_ ?_ ?_ | refine Zjw ?_ ?_ ?_ | refine ZcU (by walk_at "c") (by walk_at "c") rfl ?_ ?_ ?_) | (show Tm _ _ _; first | refine ZfG (by walk_at "c") rfl ?_ ?_ | refine ZeG ?_ | refine Zeb ?_ | refine ZeI (fun _ => rfl) ?_ | refine ZcR (by walk_at "c") (by walk_at "c") rfl ?_ ?_ ?_) | (show Ssm _ _ _ _; first | refine Zal ?_ ?_ | exact Zce | refine ZaI ?_) | (show Sm _ _ _ _; first | refine Zb0 ?_ | refine Znd hN rfl rfl rfl ?_ | refine ZeR ?_ ?_ ?_ | refine Zbl rfl ?_ | refine ZeL PassesOwn.never rfl (fun _ => rfl) ?_ ?_ ?_ | refine Zcm PassesOwn.never ?_ ?_ | refine Zrd hN rfl rfl ?_ | refine ZcY (fun _ => rfl) rfl rfl rfl ?_ ?_ ?_ | refine sm_asg rfl rfl rfl ?_ ?_ | refine Zjn hN rfl rfl rfl rfl ?_ | exact sm_pass | exact sm_never) | (show Wm _ _ _; first | refine ZfO ?_ ?_ | refine Zjv ?_ ?_ | refine Zd6 ?_ | refine ZfY ?_) | (show Im _ _ _ _; first | refine im_seq ?_ | refine ZfV (fun _ _ => rfl) ?_ | refine Zc4 T.Zd0 rfl rfl ?_) | (show Om _ _ _; first | exact ZdW | refine ZdY ?_) | (show Fm _ _ _; first | exact ZbN | refine Zf7 ?_) | exact Zbm hN rfl (.inl rfl) (.inr rfl) | exact ZcS rfl hN rfl (.inl rfl) (.inr rfl) rfl (.inl rfl) (.inr rfl) rfl (.inl rfl) (.inr rfl) | exact tg_two rfl hN rfl (.inl rfl) (.inr rfl) rfl (.inl rfl) (.inr rfl) | exact Zbm hN rfl (.inr rfl) (.inl rfl)) <;> walk_at "v")
set_option hygiene false in
local macro_rules | `(tactic| walk_at "z") => `(tactic| (intro f cdv A outer s H E hr; have hu := Zfy hr; walk_at "v"))
variable {P:Program} {w:World} {K:PySem.W.Frag} {mg:Str→Option Value} {base:Heap} {a:Adr}
abbrev Zeg:List Str:=["sign"]
theorem Zeq:Zap Zeg ["sign"] (Zae ZcK):=by walk_at "s"
def Zer:GS:=(Zaz (Za6 (Zee (fun i j=>decide (i≤j)) (fun a b=>!Zbi b a)) (Zee (fun i j=>decide (i≤j)) (fun a b=>!Zbi b a)) (gC (.str "a")) (Zab 0) (gC (.str "z"))))
theorem ZhD {k:Nat} (T:Tx K mg base a):Dn P w K mg base Zeg "is_small_letter" ZcK k (Zer):=by
 have hN:=Zeq.nd
 walk_at "z"
abbrev Zh1:List Str:=["names"]
theorem Zh2:Zap Zh1 ["names"] (Zae ZeV):=by walk_at "s"
def ZhR:GS:=(Zaz (gB (rF ZgC) (Zaa (Zbu (ZgW (Zaa (Zab 0) (Zaa (gSl (Zab 0) (ZbP (gC (.int 1))) ZaF) Zag))) 2 (Zms 0 1) ZhL (Zaj (Zee (fun i j=>decide (i < j)) Zbi) (Zab 0) (Zab 1))) Zag)))
theorem ZlJ {k:Nat} (T:Tx K mg base a):Dn P w K mg base Zh1 "names_rise" ZeV k (ZhR):=fun {f cdv A outer s H E} hr =>
 have hu:=Zfy hr
 have hN:=Zh2.nd
 (ZaI (Zb0 (ZbU ZdS (ZcF rfl) rfl T.ZgR (by decide) rfl rfl rfl (ZaO rfl (Ze0 (Nc:=["one","other"]) rfl (Ztn rfl (by decide +kernel) (by decide +kernel)) (fun _=>rfl) (Ztm T.ZsS rfl rfl rfl (by walk_at "v")) (Zpn (i:=0) (j:=1) rfl (by decide) rfl rfl rfl rfl) (fun C fp s1 H1=>ZbN) (fun C fp s1 H1=>(by walk_at "v"))) Zb3))))
abbrev ZiX:List Str:=["thing"]
theorem Zmd:Zap ZiX ["thing"] (Zae Zi6):=by walk_at "s"
def Ze7 (ZbJ:Spw):GS:=(Zao (gIf (gOr (gNt (Zc9 (ZbE "str" (Zab 0)))) (gNt (gTB (Za6 (Zee (fun i j=>decide (i≤j)) (fun a b=>!Zbi b a)) (Zee (fun i j=>decide (i≤j)) (fun a b=>!Zbi b a)) (gC (.int 1)) (gB (rF Zed) (Zaa (Zab 0) Zag)) (gC (.int 8)))))) (Zaz (gC (.bl false))) Zan) (Zaz (gB (rF ZgC) (Zaa (Zbu (Zbc (Zab 0)) 1 (gNm 0) ZhL (Zah ZbJ XF (Zaa (Zab 0) Zag))) Zag))))
theorem Zq2 {k:Nat} (T:Tx K mg base a) {ZbZ:Nat} {ZbJ:Spw} (Zou:Df P w K mg base "is_small_letter" ZbZ 1 ZbJ) (Zo2:ZbZ≤k):Dn P w K mg base ZiX "is_name" Zi6 k (Ze7 ZbJ):=fun {f cdv A outer s H E} hr =>
 have hu:=Zfy hr
 have hN:=Zmd.nd
 (Zal (by walk_at "v") (ZaI (Zb0 (ZbU ZdS (ZcF rfl) rfl T.ZgR (by decide) rfl rfl rfl (ZaO rfl (Ze0 (Nc:=["sign"]) rfl (Ztn rfl (by decide +kernel) (by decide +kernel)) (fun _=>rfl) (by walk_at "v") (Zfs (i:=0) (by decide) rfl rfl) (fun C fp s1 H1=>ZbN) (fun C fp s1 H1=>(by walk_at "v"))) Zb3)))))
abbrev Zkf:List Str:=["thing"]
theorem Zkc:Zap Zkf ["thing"] (Zae Zhw):=by walk_at "s"
def Zj7 (Zfi:Spw):GS:=(Zao (gIf (gOr (gNt (Zc9 (ZbE "tuple" (Zab 0)))) (gTB (Zaj (Zak (eqF true)) (gB (rF Zed) (Zaa (Zab 0) Zag)) (gC (.int 3))))) (Zaz (gC (.bl false))) Zan) (Zaz (ZbV (Zah Zfi XF (Zaa (Zaj (Zak ixW) (Zab 0) (gC (.int 0))) Zag)) (Zaj (Zak (inF false)) (Zaj (Zak ixW) (Zab 0) (gC (.int 1))) (gC (.tup [(.str "must"),(.str "may")]))))))
theorem ZoE {k:Nat} (T:Tx K mg base a) {Zhm:Nat} {Zfi:Spw} (Zx5:Df P w K mg base "is_name" Zhm 1 Zfi) (Zw3:Zhm≤k):Dn P w K mg base Zkf "is_field" Zhw k (Zj7 Zfi):=by
 have hN:=Zkc.nd
 walk_at "z"
abbrev Zia:List Str:=["thing"]
theorem Zic:Zap Zia ["thing"] (Zae Ze8):=by walk_at "s"
def ZhT (ZeB:Spw) (Zdm:Spw):GS:=(Zao (gIf (gNt (Zc9 (ZbE "tuple" (Zab 0)))) (Zaz (gC (.bl false))) Zan) (Zaz (ZbV (gB (rF ZgC) (Zaa (Zbu (Zbc (Zab 0)) 1 (gNm 0) ZhL (Zah ZeB XF (Zaa (Zab 0) Zag))) Zag)) (Zah Zdm XF (Zaa (Zbu (Zbc (Zab 0)) 1 (gNm 0) ZhL (Zaj (Zak ixW) (Zab 0) (gC (.int 0)))) Zag)))))
theorem Zla {k:Nat} (T:Tx K mg base a) {Zfu:Nat} {ZeB:Spw} (ZvU:Df P w K mg base "is_field" Zfu 1 ZeB) (ZvO:Zfu≤k) {ZdI:Nat} {Zdm:Spw} (Zl0:Df P w K mg base "names_rise" ZdI 1 Zdm) (Zl2:ZdI≤k):Dn P w K mg base Zia "are_fields" Ze8 k (ZhT ZeB Zdm):=fun {f cdv A outer s H E} hr =>
 have hu:=Zfy hr
 have hN:=Zic.nd
 (Zal (by walk_at "v") (ZaI (Zb0 (Zfg (ZbU ZdS (ZcF rfl) rfl T.ZgR (by decide) rfl rfl rfl (ZaO rfl (Ze0 (Nc:=["part"]) rfl (Ztn rfl (by decide +kernel) (by decide +kernel)) (fun _=>rfl) (by walk_at "v") (Zfs (i:=0) (by decide) rfl rfl) (fun C fp s1 H1=>ZbN) (fun C fp s1 H1=>(by walk_at "v"))) Zb3)) (ZeW (ZaZ Zl0 (hr.mono Zl2) rfl Zg9 rfl rfl rfl (ZaO rfl (Ze0 (Nc:=["part"]) rfl (Ztn rfl (by decide +kernel) (by decide +kernel)) (fun _=>rfl) (by walk_at "v") (Zfs (i:=0) (by decide) rfl rfl) (fun C fp s1 H1=>ZbN) (fun C fp s1 H1=>(by walk_at "v"))) Zb3)))))))
local macro_rules | `(tactic| walk_at "rd") => `(tactic| ((try dsimp only [Zao,gIf,Zaz,ZaT,Zbd,Zan,Zab,gC,Zaj,gTB,Zc9,gNt,Zft,gOr,ZbV,Zfv,Zck,Zfp,L3.ZaA,Zbv,L3.Zaa,L3.Zag,Zah,gB,rF,Zak,ZbE,gMt,Zha,Za6,Zee,Zfq,Zb2,L3.ZdG,Zcu,gSl,ZbP,ZaF,Zbu,Zbc,ZgW,Zaw,ZaQ,List.map_cons,List.map_nil,List.length_cons,List.length_nil,List.cons_append,List.nil_append,List.getElem?_cons_zero,List.getElem?_cons_succ,List.set_cons_zero,List.set_cons_succ,List.replicate,Zev,tyN,Zad,ZbC,ZbW,Zb5,ixW,eqF,eqW,Zed,Zfl,ZgC,List.getElem?_nil]); (try simp only [Zao,gIf,Zaz,ZaT,Zbd,Zan,Zab,gC,Zaj,gTB,Zc9,gNt,Zft,gOr,ZbV,Zfv,Zck,Zfp,L3.ZaA,Zbv,L3.Zaa,L3.Zag,Zah,gB,rF,Zak,ZbE,gMt,Zha,Za6,Zee,Zfq,Zb2,L3.ZdG,Zcu,gSl,ZbP,ZaF,Zbu,Zbc,ZgW,Zaw,ZaQ,List.map_cons,List.map_nil,List.length_cons,List.length_nil,List.cons_append,List.nil_append,List.getElem?_cons_zero,List.getElem?_cons_succ,List.set_cons_zero,List.set_cons_succ,List.replicate,Zev,tyN,Zad,ZbC,ZbW,Zb5,ixW,eqF,eqW,Zed,Zfl,ZgC,List.getElem?_nil])))
abbrev ZnZ:Spw:=spR (fun (z:Str) ws _=>ws=[.str z]) fun z=>.bl (Zg7 z)
theorem ZbZ (T:Tx K mg base a):Df P w K mg base "is_small_letter" 1 1 ZnZ:=by
 refine mk0 T.ZhH rfl Zeq Zcl ((by rintro ws G Q E ⟨z,e,_⟩;rw [e];rfl)) (ZhD T) fun ws G Q E hC q=>?_
 obtain ⟨z,rfl,q⟩:=q
 unfold Zer
 walk_at "rd"
 dsimp only at q
 unfold Zg7 at q
 refine ZAt (fun h=>?_) (fun h=>?_)
 ·rw [h] at q;simpa using q
 ·rw [Bool.eq_false_iff.mpr h] at q;simpa using q
theorem Znn:∀ ns:List Str,ZkB ns=((ns.zip (ns.drop 1)).map fun x=>Zbi x.1 x.2).all id
 | []=>rfl
 | [_]=>rfl
 | a::b::r=>by
  show (Zbi a b&&ZkB (b::r))=_
  rw [Znn (b::r)];rfl
abbrev Zv7:Spw:=spR (fun (ns:List Str) ws G=>∃ p,ws=[.ref p]∧G p=some (.lst (ns.map W.str))∧ns.length≤1000) fun ns=>.bl (ZkB ns)
def ltW (x y:W):W:=match x,y with | .str a,.str b=>.bl (Zbi a b) | _,_=>.non
theorem ZdI (T:Tx K mg base a):Df P w K mg base "names_rise" 1 1 Zv7:=by
 refine mk0 T.ZlS rfl Zh2 Zcl ((by rintro ws G Q E ⟨ns,⟨p,e,_⟩,_⟩;rw [e];rfl)) (ZlJ T) fun ws G Q E hC q=>?_
 obtain ⟨ns,⟨p,rfl,hp,hl⟩,q⟩:=q
 unfold ZhR
 walk_at "rd"
 refine Zwy hp fun p1 h1=>?_
 have hne:=ZaM hp h1
 have e1:rdL (put G p1 (.lst (Znc (ns.map W.str) (some 1) none))) (.ref p)=some (ns.map W.str):=ZhY (by rw [Zau hne];exact hp)
 have e2:rdL (put G p1 (.lst (Znc (ns.map W.str) (some 1) none))) (.ref p1)=some (Znc (ns.map W.str) (some 1) none):=ZhY Zaf
 simp only [e1,e2]
 rw [ZoZ,← List.map_drop,Ziq,List.zip_map,List.map_map]
 have e3:((fun x:W×W=>W.tup [x.1,x.2])∘Prod.map W.str W.str)=(fun x:W×W=>W.tup [x.1,x.2])∘fun x:Str×Str=>(W.str x.1,W.str x.2):=rfl
 rw [e3,← List.map_map]
 refine Zwt (f:=ltW) ⟨by rw [ZoZ,← List.map_drop] at e1;exact e1,by rw [ZoZ,← List.map_drop] at e2;exact e2⟩ _ none none [] (fun x hx Q' q'=>?_) ?_ ?_
 ·obtain ⟨y,hy,rfl⟩:=List.mem_map.mp hx
  exact q'
 ·rw [List.length_map,List.length_zip]
  exact Zbf (by simp only [List.length_nil];omega)
 ·intro p2 h2
  rw [List.map_map]
  have e4:((fun x:W×W=>ltW x.1 x.2)∘fun x:Str×Str=>(W.str x.1,W.str x.2))=W.bl∘fun x:Str×Str=>Zbi x.1 x.2:=rfl
  rw [e4,← List.map_map,List.nil_append]
  simp only [ZeU Zaf,Option.bind_some,ZeP,Option.map_some,Zad]
  rw [← Znn]
  exact hC _ _ _ (Zb8 (Za3 h1) h2) q
def Zz9 (x:W):W:=match x with | .str z=>.bl (Zg7 z) | _=>.non
abbrev ZjJ:List Str:=["thing"]
theorem Zke:Zap ZjJ ["thing"] (Zae Zhq):=by walk_at "s"
def ZjR (Zdl:Spw):GS:=(Zao (gIf (gOr (gNt (Zc9 (ZbE "tuple" (Zab 0)))) (gOr (gTB (Zaj (Zak (eqF false)) (gB (rF Zed) (Zaa (Zab 0) Zag)) (gC (.int 0)))) (gNt (Zc9 (ZbE "str" (Zaj (Zak ixW) (Zab 0) (gC (.int 0)))))))) (Zaz (gC (.bl false))) Zan) (Zao (gIf (gTB (Zaj (Zak (eqF true)) (gB (rF Zed) (Zaa (Zab 0) Zag)) (ZcH ZaN (Zaj (Zak ixW) (Zab 0) (gC (.int 0)))))) (Zaz (gC (.bl false))) Zan) (Zaz (Zfv (Zaj (Zak (eqF true)) (Zaj (Zak ixW) (Zab 0) (gC (.int 0))) (gC (.str "row"))) (ZbV (Zah Zdl XF (Zaa (Zaj (Zak ixW) (Zab 0) (gC (.int 1))) Zag)) (ZbE "bool" (Zaj (Zak ixW) (Zab 0) (gC (.int 2)))))))))
theorem ZoU {k:Nat} (T:Tx K mg base a) {ZdJ:Nat} {Zdl:Spw} (ZtC:Df P w K mg base "are_fields" ZdJ 1 Zdl) (Ztp:ZdJ≤k):Dn P w K mg base ZjJ "has_form" Zhq k (ZjR Zdl):=by
 have hN:=Zke.nd
 walk_at "z"
abbrev ZfM:List Str:=["kind"]
theorem ZfA:Zap ZfM ["kind"] (Zae Zd7):=by walk_at "s"
def ZfB:GS:=(Zao (gIf (gTB (Zaj (Zak (eqF false)) (Zaj (Zak ixW) (Zab 0) (gC (.int 0))) (gC (.str "row")))) (Zaz (Zbu (Zbc (Zaj (Zak ixW) (Zab 0) (gC (.int 1)))) 1 (gNm 0) ZhL (Zaj (Zak ixW) (Zab 0) (gC (.int 2))))) Zan) (Zaz (gB (Zmy) (Zaa (gSl (Zab 0) (ZbP (gC (.int 1))) ZaF) Zag))))
theorem ZjB {k:Nat} (T:Tx K mg base a):Dn P w K mg base ZfM "kinds_within" Zd7 k (ZfB):=fun {f cdv A outer s H E} hr =>
 have hu:=Zfy hr
 have hN:=ZfA.nd
 (Zal (ZeR (by walk_at "v") (ZaI (Zb0 (Ze0 (Nc:=["field"]) rfl (Ztn rfl (by decide +kernel) (by decide +kernel)) (fun _=>rfl) (by walk_at "v") (Zfs (i:=0) (by decide) rfl rfl) (fun C fp s1 H1=>ZbN) (fun C fp s1 H1=>(by walk_at "v"))))) Zce) (by walk_at "v"))
abbrev Zgj:List Str:=["layer","things_within","found","thing"]
theorem ZfP:Zap Zgj ["layer","things_within"] (Zae Zd5):=by walk_at "s"
def Zge (mg:Str→Option Value) (ZaW:Spw):GS:=(Zao (ZaT 2 (Zbv Zag)) (Zao (ZdZ (Zbc (Zab 0)) (gNm 3) (Zbd (gMt ZkR Zvc (Zab 2) (Zaa (ZeH 1 (fAt mg "kinds_within") ZaW XF (Zaa (Zab 3) Zag)) Zag)))) (Zaz (Zab 2))))
theorem Zju {k:Nat} (T:Tx K mg base a) {Za4:Nat} {ZaW:Spw} (ZdT:Df P w K mg base "kinds_within" Za4 1 ZaW) (Zf0:Za4≤k):Dn P w K mg base Zgj "layer_within" Zd5 k (Zge mg ZaW):=fun {f cdv A outer s H E} hr =>
 have hu:=Zfy hr
 have hN:=ZfP.nd
 (Zal (by walk_at "v") (Zal (ZeL PassesOwn.never rfl (fun _=>rfl) (by walk_at "v") (by walk_at "v") (ZaI (Zbl rfl (Za8 Zbn rfl rfl rfl rfl rfl (by walk_at "v") (ZaO rfl (ZnN (i:=1) ZdT (hr.mono Zf0) rfl rfl Zg9 rfl rfl rfl rfl (by walk_at "v")) Zb3))))) (by walk_at "v")))
abbrev ZhP:List Str:=["thing","is_formed","things_within","most","deepest","layer","count","depth"]
theorem ZhN:Zap ZhP ["thing","is_formed","things_within","most","deepest"] (Zae ZdC):=by walk_at "s"
def Zh0 (mg:Str→Option Value) (ZbO:Spw) (Zcn:Spw):GS:=(Zao (ZaT 5 (Zbv (Zaa (Zab 0) Zag))) (Zao (ZaT 6 (gC (.int 0))) (Zao (ZaT 7 (gC (.int 0))) (Zao (ZnY (gTB (Zaj (Zfq fun i j=>decide (j < i)) (gB (rF Zed) (Zaa (Zab 5) Zag)) (gC (.int 0)))) (Zao (Zha 6 Zcu (gB (rF Zed) (Zaa (Zab 5) Zag))) (Zao (Zha 7 Zcu (gC (.int 1))) (Zao (gIf (gOr (gTB (Zaj (Zfq fun i j=>decide (j < i)) (Zab 6) (Zab 3))) (gTB (Zaj (Zfq fun i j=>decide (j < i)) (Zab 7) (Zab 4)))) (Zaz (gC (.bl false))) Zan) (Zao (gIf (gNt (Zc9 (gB (rF ZgC) (Zaa (Zba (Zbc (Zab 5)) 1 [1] (gNm 0) ZhL (ZeH 1 (fAt mg "has_form") ZbO XF (Zaa (Zab 0) Zag))) Zag)))) (Zaz (gC (.bl false))) Zan) (ZaT 5 (Zah Zcn XF (Zaa (Zab 5) (Zaa (Zab 2) Zag))))))))) (Zaz (gC (.bl true)))))))
theorem Zmc {k:Nat} (T:Tx K mg base a) {Zci:Nat} {ZbO:Spw} (Zhv:Df P w K mg base "has_form" Zci 1 ZbO) (Zkb:Zci≤k) {Zc2:Nat} {Zcn:Spw} (Zra:Df P w K mg base "layer_within" Zc2 2 Zcn) (Zrc:Zc2≤k):Dn P w K mg base ZhP "is_made_of" ZdC k (Zh0 mg ZbO Zcn):=fun {f cdv A outer s H E} hr =>
 have hu:=Zfy hr
 have hN:=ZhN.nd
 (Zal (by walk_at "v") (Zal (by walk_at "v") (Zal (by walk_at "v") (Zal (Zcm PassesOwn.never (by walk_at "v") (Zal (by walk_at "v") (Zal (by walk_at "v") (Zal (by walk_at "v") (Zal (ZeR (ZeG (ZeI (fun _=>rfl) (ZbU ZdS (ZcF rfl) rfl T.ZgR (by decide) rfl rfl rfl (ZaO rfl (Zk3 rfl (ZvP (own:=["part"]) (fr:=["is_formed"]) (js:=[1]) (scX:=Zae ZdC) (n:=s.heap.objs.size+1) rfl (by decide +kernel) (by decide +kernel) (by decide +kernel) (by decide +kernel) rfl rfl rfl (by decide +kernel) rfl) (fun _=>rfl) (by walk_at "v") (ZgQ (i:=0) (by decide) rfl rfl) (fun C fp s1 H1=>ZbN) (fun C fp s1 H1=>(ZnN (i:=1) Zhv (hr.mono Zkb) rfl rfl Zg9 rfl rfl rfl rfl (by walk_at "v")))) Zb3)))) (by walk_at "v") Zce) (by walk_at "v")))))) (by walk_at "v")))))
abbrev Zmg:List Str:=["thing"]
theorem Zll:Zap Zmg ["thing"] (Zae ZiY):=by walk_at "s"
def ZlY (mg:Str→Option Value) (ZbO:Spw) (ZaW:Spw) (Zdj:Spw):GS:=(Zaz (Zah Zdj XF (Zaa (Zab 0) (Zaa (gC (.ref (fAt mg "has_form"))) (Zaa (gC (.ref (fAt mg "kinds_within"))) (Zaa (gC (.int 40)) (Zaa (gC (.int 8)) Zag)))))))
theorem ZpG {k:Nat} (T:Tx K mg base a) {Zci:Nat} {ZbO:Spw} (Zhv:Df P w K mg base "has_form" Zci 1 ZbO) (Zkb:Zci≤k) {Za4:Nat} {ZaW:Spw} (ZdT:Df P w K mg base "kinds_within" Za4 1 ZaW) (Zf0:Za4≤k) {ZdE:Nat} {Zdj:Spw} (Zmo:Df P w K mg base "is_made_of" ZdE 5 Zdj) (Zld:ZdE≤k):Dn P w K mg base Zmg "is_kind" ZiY k (ZlY mg ZbO ZaW Zdj):=fun {f cdv A outer s H E} hr =>
 have hu:=Zfy hr
 have hN:=Zll.nd
 (ZaI (Zb0 (ZaZ Zmo (hr.mono Zld) rfl Zg9 rfl rfl rfl (ZaO rfl (by walk_at "v") (ZaO rfl (ZxO Zhv rfl rfl) (ZaO rfl (ZxO ZdT rfl rfl) (by walk_at "v")))))))
abbrev ZhX:List Str:=["thing"]
theorem Zh9:Zap ZhX ["thing"] (Zae Zc6):=by walk_at "s"
def ZeT (K:PySem.W.Frag) (a:Adr) (Zfx:Spw) (E:Addr→Hw→Prop):GS:=(gIf (gNt (Zc9 (Zah Zfx (fun _=>E) (Zaa (Zab 0) Zag)))) (Zqy a.NoKind E (Zaa (gC (.str "this is no kind")) Zag)) Zan)
theorem Zly {k:Nat} (T:Tx K mg base a) {ZgM:Nat} {Zfx:Spw} (Zqp:Df P w K mg base "is_kind" ZgM 1 Zfx) (Zpz:ZgM≤k) {f:Addr} {cdv:Value} {A:Around} {outer:List Env} {s:Shared} {H:Hp} {E:XK} (hr:Room k (A.deeper (envOfC "check_kind" (Zae Zc6) s.heap.objs.size f cdv))):Ssm (cxW P w K mg base ZhX "check_kind" (Zae Zc6) f cdv A outer s H E) (fun B=>B=H) (Zbe Zc6) (ZeT K a Zfx (dnX K H E)) :=
 have hu:=Zfy hr
 have hN:=Zh9.nd
 (ZaI (ZeR (ZeG (ZeI (fun _=>rfl) (ZaZ Zqp (hr.mono Zpz) rfl ZbB rfl rfl rfl (by walk_at "v")))) (ZaI (Zs0 T.Zkv T.Zfk PySem.F.excBase_ValueError rfl rfl rfl rfl (by walk_at "v"))) Zce))
local macro_rules | `(tactic| walk_at "rd") => `(tactic| ((try dsimp only [Zao,gIf,Zaz,ZaT,Zbd,Zan,Zab,gC,Zaj,gTB,Zc9,gNt,Zft,gOr,ZbV,Zfv,Zck,Zfp,L3.ZaA,Zbv,L3.Zaa,L3.Zag,Zah,gB,rF,Zak,ZbE,gMt,Zha,ZoW,Za6,Zee,Zfq,Zb2,L3.ZdG,Zcu,gSl,ZbP,ZaF,Zbu,Zbc,ZgW,ZbQ,ZdZ,ZcH,Zb6,Zaw,ZaQ,List.map_cons,List.map_nil,List.length_cons,List.length_nil,List.cons_append,List.nil_append,List.getElem?_cons_zero,List.getElem?_cons_succ,List.set_cons_zero,List.set_cons_succ,List.replicate,Zev,tyN,Zad,ZbC,ZbW,Zb5,ixW,eqF,eqW,Zed,Zfl,ZgC,ZhU,Zmq,List.getElem?_nil]); (try simp only [Zao,gIf,Zaz,ZaT,Zbd,Zan,Zab,gC,Zaj,gTB,Zc9,gNt,Zft,gOr,ZbV,Zfv,Zck,Zfp,L3.ZaA,Zbv,L3.Zaa,L3.Zag,Zah,gB,rF,Zak,ZbE,gMt,Zha,ZoW,Za6,Zee,Zfq,Zb2,L3.ZdG,Zcu,gSl,ZbP,ZaF,Zbu,Zbc,ZgW,ZbQ,ZdZ,ZcH,Zb6,Zaw,ZaQ,List.map_cons,List.map_nil,List.length_cons,List.length_nil,List.cons_append,List.nil_append,List.getElem?_cons_zero,List.getElem?_cons_succ,List.set_cons_zero,List.set_cons_succ,List.replicate,Zev,tyN,Zad,ZbC,ZbW,Zb5,ixW,eqF,eqW,Zed,Zfl,ZgC,ZhU,Zmq,List.getElem?_nil])))
def ZvY:W→Bool
 | .str z=>decide (z.length≤1000)
 | .bl _=>true
 | .tup _=>true
 | _=>false
def nmW:W→Bool
 | .str z=>Zdc z
 | _=>false
abbrev ZAX:Spw:=spR (fun (w:W) ws _=>ws=[w]∧ZvY w=true) fun w=>.bl (nmW w)
theorem ZAP:ZpI "str" "str"=true:=by decide
theorem Zrh:ZpI "tuple" "tuple"=true:=by decide
theorem ZAb:ZpI "bool" "str"=false:=by decide
theorem Zz4:ZpI "tuple" "str"=false:=by decide
theorem Zze:ZpI "str" "tuple"=false:=by decide
theorem ZzF:ZpI "bool" "tuple"=false:=by decide
theorem ZtY {z:Str} {G:Hw} {Q:Kw} (hz:z.length≤100000) (hC:Kw.C Q) (q:Q (.bl (Zdc z)) G):Ze7 ZnZ (Zaw Q) (ZaQ ZiX [.str z]) G:=by
 unfold Ze7
 walk_at "rd"
 have hz':z.length≤sizeLine:=Zbf hz
 have b1:ZpI "str" "str"=true:=by decide
 simp only [b1,hz',if_true,Zad,Bool.not_true,Bool.false_eq_true,if_false]
 unfold Zdc at q
 by_cases h1:1≤z.length
 ·by_cases h8:z.length≤8
  ·have d1:(1:Int)≤(z.length:Int):=by omega
   have d8:(z.length:Int)≤8:=by omega
   simp only [d1,d8,decide_true,if_true,Bool.not_true,Bool.false_eq_true,if_false]
   refine Zop (f:=Zz9) trivial (Zi3 z) none [] (fun x hx Q' q'=>?_) ?_ ?_
   ·obtain ⟨c,hc,rfl⟩:=List.mem_map.mp hx
    exact ⟨_,rfl,q'⟩
   ·rw [Zi3,List.length_map]
    exact Zbf (by show 0+z.cps.toList.length≤100000;rw [Nat.zero_add];simpa [Str.length] using hz)
   ·intro p hp
    have e5:(Zi3 z).map Zz9=(z.cps.toList.map fun c=>Zg7 ⟨#[c]⟩).map W.bl:=by
     unfold Zi3;rw [List.map_map,List.map_map];rfl
    rw [List.nil_append,e5]
    simp only [ZeU Zaf,Option.bind_some,ZeP,Option.map_some,Zad]
    rw [List.all_map]
    simp only [h1,h8,decide_true,Bool.true_and] at q
    exact hC _ _ _ (Za3 hp) q
  ·have d1:(1:Int)≤(z.length:Int):=by omega
   have d8:¬ (z.length:Int)≤8:=by omega
   simp only [h1,h8,decide_true,decide_false,Bool.true_and,Bool.false_and] at q
   simp only [d1,d8,decide_true,decide_false,if_true,Bool.not_false,Bool.false_eq_true,if_false]
   exact q
 ·have d1:¬ (1:Int)≤(z.length:Int):=by omega
  simp only [h1,decide_false,Bool.false_and] at q
  simp only [d1,decide_false,if_true,Bool.not_false,Bool.false_eq_true,if_false]
  exact q
theorem Zhm (T:Tx K mg base a):Df P w K mg base "is_name" 2 1 ZAX:=by
 refine mk0 T.ZpX rfl Zmd Zcl (fun ws G Q E ⟨z,⟨e,_⟩,_⟩=>by rw [e];rfl) (Zq2 T (ZbZ T) (Nat.le_refl _)) fun ws G Q E hC q=>?_
 obtain ⟨w,⟨rfl,hw⟩,q⟩:=q
 dsimp only at q
 cases w with
 | str z =>
  have hz:z.length≤1000:=of_decide_eq_true hw
  exact ZtY (by omega) hC q
 | bl b =>
  unfold Ze7
  walk_at "rd"
  simp only [ZAb,Bool.not_false,if_true]
  exact q
 | tup xs =>
  unfold Ze7
  walk_at "rd"
  simp only [Zz4,Bool.not_false,if_true]
  exact q
 | non=>cases hw
 | int i=>cases hw
 | rol xs=>cases hw
 | ref r=>cases hw
def flB:W→Bool
 | .str _=>true
 | .bl _=>true
 | _=>false
def ZxC:W→Bool
 | .str z=>z=="must"||z=="may"
 | _=>false
theorem Zu3 {x:W} (h:flB x=true) (G:Hw):inF false x (.tup [.str "must",.str "may"]) G=some (.bl (ZxC x)):=by
 cases x with
 | str z =>
  show some (W.bl (inV (.str z) [.str "must",.str "may"]))=some (W.bl (z=="must"||z=="may"))
  have e:inV (.str z) (([("must":Str),"may"]:List Str).map V.str)=([("must":Str),"may"]:List Str).any (·==z):=ZkY _ _
  refine congrArg (fun b=>some (W.bl b)) (Eq.trans e ?_)
  show (("must":Str)==z||(("may":Str)==z||false))=_
  rw [Bool.or_false,BEq.comm (a:=("must":Str)),BEq.comm (a:=("may":Str))]
 | bl b=>rfl
 | non=>cases h
 | int i=>cases h
 | rol xs=>cases h
 | ref r=>cases h
 | tup xs=>cases h
def okF:W→Bool
 | .str _=>true
 | .bl _=>true
 | .tup xs=>match xs with
  | [x,y,_]=>ZvY x&&flB y
  | _=>true
 | _=>false
def fdF:W→Bool
 | .tup xs=>match xs with
  | [x,y,_]=>nmW x&&ZxC y
  | _=>false
 | _=>false
abbrev ZAF:Spw:=spR (fun (w:W) ws _=>ws=[w]∧okF w=true) fun w=>.bl (fdF w)
theorem Zfu (T:Tx K mg base a):Df P w K mg base "is_field" 3 1 ZAF:=by
 refine mk0 T.Zok rfl Zkc Zcl (fun ws G Q E ⟨x,⟨e,_⟩,_⟩=>by rw [e];rfl) (ZoE T (Zhm T) (Nat.le_refl _)) fun ws G Q E hC q=>?_
 obtain ⟨w,⟨rfl,hw⟩,q⟩:=q
 dsimp only at q
 unfold Zj7
 cases w with
 | str z=>walk_at "rd";simp only [Zze,Bool.not_false,if_true];exact q
 | bl z=>walk_at "rd";simp only [ZzF,Bool.not_false,if_true];exact q
 | non=>cases hw
 | int i=>cases hw
 | rol xs=>cases hw
 | ref r=>cases hw
 | tup xs =>
  rcases xs with _ | ⟨x,_ | ⟨y,_ | ⟨z,_ | ⟨u,r⟩⟩⟩⟩
  ·walk_at "rd";simp only [Zrh,Bool.not_true,Bool.false_eq_true,if_false];exact q
  ·walk_at "rd";simp only [Zrh,Bool.not_true,Bool.false_eq_true,if_false];exact q
  ·walk_at "rd";simp only [Zrh,Bool.not_true,Bool.false_eq_true,if_false];exact q
  ·have hw':(ZvY x&&flB y)=true:=hw
   simp only [Bool.and_eq_true] at hw'
   have q':Q (.bl (nmW x&&ZxC y)) G:=q
   walk_at "rd";simp only [Zrh,Bool.not_true,Bool.false_eq_true,if_false]
   refine ⟨x,⟨rfl,hw'.1⟩,?_⟩
   dsimp only
   cases hn:nmW x with
   | false=>rw [hn] at q';exact q'
   | true =>
    rw [hn] at q'
    simp only [if_true]
    rw [Zu3 hw'.2,Zad]
    exact q'
  ·have e:((((x::y::z::u::r).length:Nat):Int)==3)=false:=by
    rw [beq_eq_false_iff_ne];simp only [List.length_cons];omega
   show Zao _ _ (Zaw Q) [some (.tup (x::y::z::u::r))] G
   simp only [Zao,gIf,gOr,gNt,Zc9,ZbE,gTB,Zaj,gB,rF,Zak,Zab,gC,Zaz,L3.Zaa,L3.Zag,List.getElem?_cons_zero,tyN,Zev,Zed,Zfl,Zad,eqF,eqW,Zrh,e,Option.map_some,Bool.not_true,Bool.false_eq_true,if_false,show (false != true)=true from rfl,if_true]
   exact q
def ZyQ:W→Bool
 | .str _=>true
 | .bl _=>true
 | .tup xs=>decide (xs.length≤1000)&&xs.all okF
 | _=>false
def nmS:W→Str
 | .tup (.str n::_)=>n
 | _=>""
def arF:W→Bool
 | .tup xs=>xs.all fdF&&ZkB (xs.map nmS)
 | _=>false
abbrev Zy8:Spw:=spR (fun (w:W) ws _=>ws=[w]∧ZyQ w=true) fun w=>.bl (arF w)
def Zlk (x:W):W:=match x with | .tup (n::_)=>n | _=>.non
theorem ZmZ {x:W} (h:fdF x=true):∃ n y z,x=.tup [.str n,y,z]∧Zdc n=true:=by
 cases x with
 | tup xs =>
  rcases xs with _ | ⟨x,_ | ⟨y,_ | ⟨z,_ | ⟨u,r⟩⟩⟩⟩ <;> first | (cases h;done) | skip
  have h':(nmW x&&ZxC y)=true:=h
  walk_at "pj"
  cases x with
  | str n=>exact ⟨n,y,z,rfl,h'.1⟩
  | non=>cases h'.1
  | int i=>cases h'.1
  | rol xs=>cases h'.1
  | ref r=>cases h'.1
  | tup xs=>cases h'.1
  | bl xs=>cases h'.1
 | non=>cases h
 | int i=>cases h
 | rol xs=>cases h
 | ref r=>cases h
 | str xs=>cases h
 | bl xs=>cases h
theorem ZqZ:∀ {xs:List W},(∀ x∈xs,fdF x=true)→xs.map Zlk=(xs.map nmS).map W.str
 | [],_=>rfl
 | x::xs,h=>by
  obtain ⟨n,y,z,rfl,_⟩:=ZmZ (h x List.mem_cons_self)
  rw [List.map_cons,List.map_cons,List.map_cons,ZqZ fun y hy=>h y (List.mem_cons_of_mem _ hy)];rfl
theorem ZdJ (T:Tx K mg base a):Df P w K mg base "are_fields" 4 1 Zy8:=by
 refine mk0 T.Zlt rfl Zic Zcl (fun ws G Q E ⟨x,⟨e,_⟩,_⟩=>by rw [e];rfl) (Zla T (Zfu T) (Nat.le_refl _) (ZdI T) (by omega)) fun ws G Q E hC q=>?_
 obtain ⟨w,⟨rfl,hw⟩,q⟩:=q
 dsimp only at q
 unfold ZhT
 cases w with
 | str z=>walk_at "rd";simp only [Zze,Bool.not_false,if_true];exact q
 | bl z=>walk_at "rd";simp only [ZzF,Bool.not_false,if_true];exact q
 | non=>cases hw
 | int i=>cases hw
 | rol xs=>cases hw
 | ref r=>cases hw
 | tup xs =>
  have hw':(decide (xs.length≤1000)&&xs.all okF)=true:=hw
  simp only [Bool.and_eq_true,decide_eq_true_eq,List.all_eq_true] at hw'
  have q':Q (.bl (xs.all fdF&&ZkB (xs.map nmS))) G:=q
  walk_at "rd"
  simp only [Zrh,Bool.not_true,Bool.false_eq_true,if_false]
  refine Zop (f:=fun x=>.bl (fdF x)) trivial xs none [] (fun x hx Q' q'=>?_) (by simp only [List.length_nil];exact Zbf (by omega)) ?_
  ·exact ⟨x,⟨rfl,hw'.2 x hx⟩,q'⟩
  ·intro p hp
   rw [List.nil_append,show (fun x:W=>W.bl (fdF x))=W.bl∘fdF from rfl,← List.map_map]
   simp only [ZeU Zaf,Option.bind_some,ZeP,Option.map_some,Zad]
   rw [List.all_map,show (id∘fdF)=fdF from rfl]
   cases ha:xs.all fdF with
   | false=>rw [ha] at q';exact hC _ _ _ (Za3 hp) q'
   | true =>
    rw [ha] at q'
    have ha':=List.all_eq_true.mp ha
    simp only [if_true]
    refine Zop (f:=Zlk) trivial xs none [] (fun x hx Q' q'=>?_) (by simp only [List.length_nil];exact Zbf (by omega)) ?_
    ·obtain ⟨n,y,z,rfl,_⟩:=ZmZ (ha' x hx)
     show Zaj (Zak ixW) (Zab 0) (gC (.int 0)) [some (W.tup [.str n,y,z])] _ Q'
     walk_at "rd"
     exact q'
    ·intro p2 hp2
     rw [List.nil_append,ZqZ ha']
     refine ⟨xs.map nmS,⟨p2,rfl,Zaf,by rw [List.length_map];omega⟩,?_⟩
     exact hC _ _ _ (Zb8 (Za3 hp) hp2) q'
def Zij (n:Nat):W→Bool
 | .int i=>(n:Int)==i
 | _=>false
theorem ZxM (D:List (Str×Int)) (h:Str) (n:Nat) (G:Hw):eqF true (.int (n:Int)) (ZdA D h) G=some (.bl (!Zij n (ZdA D h))):=by
 induction D with
 | nil=>rfl
 | cons x D ih =>
  obtain ⟨y,i⟩:=x
  unfold ZdA
  by_cases e:h=y
  ·rw [if_pos e]
   show some (W.bl (((n:Int)==i) != true))=_
   rw [ZuC];rfl
  ·rw [if_neg e];exact ih
def ZyR:W→Bool
 | .bl _=>true
 | _=>false
def rwF:List W→Bool
 | [f,o]=>arF f&&ZyR o
 | _=>false
def ZvX:List W→Bool
 | [f,o]=>ZyQ f&&ZvY o
 | _=>true
def hF:W→Bool
 | .tup (.str h::r)=>Zij (r.length+1) (ZdA ZaN h)&&(h != "row"||rwF r)
 | _=>false
def okL:W→Bool
 | .str _=>true
 | .bl _=>true
 | .tup []=>true
 | .tup (.str h::r)=>decide (r.length≤1000)&&(h != "row"||ZvX r)
 | .tup (.bl _::r)=>true
 | .tup (.tup _::r)=>true
 | _=>false
abbrev ZAM:Spw:=spR (fun (w:W) ws _=>ws=[w]∧okL w=true) fun w=>.bl (hF w)
theorem ZvJ:ZdA ZaN "row"=.int 3:=by kernel_rfl
theorem ZmC {r:List W} (h:Zij (r.length+1) (ZdA ZaN "row")=true):∃ f o,r=[f,o]:=by
 rw [ZvJ] at h
 have h':((r.length+1:Nat):Int)=3:=eq_of_beq h
 rcases r with _ | ⟨x,_ | ⟨y,_ | ⟨z,r⟩⟩⟩
 ·simp at h'
 ·simp at h'
 ·exact ⟨x,y,rfl⟩
 ·simp only [List.length_cons] at h';omega
theorem Zci (T:Tx K mg base a):Df P w K mg base "has_form" 5 1 ZAM:=by
 refine mk0 T.ZoA rfl Zke Zcl (fun ws G Q E ⟨x,⟨e,_⟩,_⟩=>by rw [e];rfl) (ZoU T (ZdJ T) (Nat.le_refl _)) fun ws G Q E hC q=>?_
 obtain ⟨w,⟨rfl,hw⟩,q⟩:=q
 dsimp only at q
 unfold ZjR
 cases w with
 | str z=>walk_at "rd";simp only [Zze,Bool.not_false,if_true];exact q
 | bl z=>walk_at "rd";simp only [ZzF,Bool.not_false,if_true];exact q
 | non=>cases hw
 | int i=>cases hw
 | rol xs=>cases hw
 | ref r=>cases hw
 | tup xs =>
  cases xs with
  | nil=>walk_at "rd";simp only [Zrh,Bool.not_true,Bool.false_eq_true,if_false];exact q
  | cons x r =>
   have e0:((((x::r).length:Nat):Int)==0)=false:=by rw [beq_eq_false_iff_ne];simp only [List.length_cons];omega
   cases x with
   | non=>cases hw
   | int i=>cases hw
   | rol xs=>cases hw
   | ref r=>cases hw
   | bl b =>
    show Zao _ _ (Zaw Q) [some (.tup (.bl b::r))] G
    simp only [Zao,gIf,gOr,gNt,Zc9,ZbE,gTB,Zaj,gB,rF,Zak,Zab,gC,Zaz,L3.Zaa,L3.Zag,List.getElem?_cons_zero,tyN,Zev,Zed,Zfl,Zad,eqF,eqW,Zrh,e0,Option.map_some,Bool.not_true,Bool.false_eq_true,if_false,show (false != false)=false from rfl,ixW,ZbC,ZAb,Bool.not_false,if_true]
    exact q
   | tup b =>
    show Zao _ _ (Zaw Q) [some (.tup (.tup b::r))] G
    simp only [Zao,gIf,gOr,gNt,Zc9,ZbE,gTB,Zaj,gB,rF,Zak,Zab,gC,Zaz,L3.Zaa,L3.Zag,List.getElem?_cons_zero,tyN,Zev,Zed,Zfl,Zad,eqF,eqW,Zrh,e0,Option.map_some,Bool.not_true,Bool.false_eq_true,if_false,show (false != false)=false from rfl,ixW,ZbC,Zz4,Bool.not_false,if_true]
    exact q
   | str h =>
    have hw':(decide (r.length≤1000)&&(h != "row"||ZvX r))=true:=hw
    have q':Q (.bl (Zij (r.length+1) (ZdA ZaN h)&&(h != "row"||rwF r))) G:=q
    have el:=ZxM ZaN h (r.length+1) G
    show Zao _ _ (Zaw Q) [some (.tup (.str h::r))] G
    simp only [Zao,gIf,gOr,gNt,Zc9,ZbE,gTB,Zaj,gB,rF,Zak,Zab,gC,Zaz,Zan,L3.Zaa,L3.Zag,List.getElem?_cons_zero,tyN,Zev,Zed,Zfl,Zad,Zrh,Bool.not_true,Bool.false_eq_true,if_false,ixW,ZbC,ZAP,ZcH]
    rw [show eqF false (.int (((W.str h::r).length:Nat):Int)) (.int 0) G=some (.bl false) by
     show some (W.bl (((((W.str h::r).length:Nat):Int)==0) != false))=_
     rw [e0];rfl,Zad]
    simp only [Bool.false_eq_true,if_false]
    rw [show ((W.str h::r).length:Nat)=r.length+1 from rfl,el,Zad]
    cases hl:Zij (r.length+1) (ZdA ZaN h) with
    | false=>rw [hl] at q';exact q'
    | true =>
     rw [hl] at q'
     simp only [Bool.not_true,Bool.false_eq_true,if_false,Zfv,ZbV,Zaj,Zak,Zab,gC,List.getElem?_cons_zero,ixW,ZbC,Zad,eqF,eqW,Option.map_some,ZuC]
     cases hr:(h=="row") with
     | false =>
      have:(h != "row")=true:=by show (!(h=="row"))=true;rw [hr];rfl
      rw [this] at q'
      exact q'
     | true =>
      obtain rfl:=eq_of_beq hr
      obtain ⟨f,o,rfl⟩:=ZmC hl
      have hk:(ZyQ f&&ZvY o)=true:=by simpa [ZvX] using hw'
      simp only [Bool.and_eq_true] at hk
      have q2:Q (.bl (arF f&&ZyR o)) G:=by simpa [rwF] using q'
      simp only [Zev,Bool.not_true,Bool.false_eq_true,if_false,Zah,L3.Zaa,L3.Zag,Zaj,Zak,Zab,gC,List.getElem?_cons_zero,ixW,ZbW,Zb5,Zad,ZbE]
      refine ⟨f,⟨rfl,hk.1⟩,?_⟩
      dsimp only
      cases hf:arF f with
      | false=>rw [hf] at q2;exact q2
      | true =>
       rw [hf] at q2
       simp only [Zev,if_true]
       cases o with
       | bl b=>exact q2
       | str b=>exact q2
       | tup b=>exact q2
       | non=>cases hk.2
       | int i=>cases hk.2
       | rol xs=>cases hk.2
       | ref r=>cases hk.2
local macro_rules | `(tactic| walk_at "rd") => `(tactic| ((try dsimp only [Zao,gIf,Zaz,ZaT,Zbd,Zan,Zab,gC,Zaj,gTB,Zc9,gNt,Zft,gOr,ZbV,Zfv,Zck,Zfp,L3.ZaA,Zbv,L3.Zaa,L3.Zag,Zah,gB,rF,Zak,ZbE,gMt,Zha,ZoW,Za6,Zee,Zfq,Zb2,L3.ZdG,Zcu,gSl,ZbP,ZaF,Zbu,Zbc,ZgW,ZbQ,ZdZ,ZcH,Zb6,ZeH,Zba,Zf2,Zaw,ZaQ,List.map_cons,List.map_nil,List.length_cons,List.length_nil,List.cons_append,List.nil_append,List.getElem?_cons_zero,List.getElem?_cons_succ,List.set_cons_zero,List.set_cons_succ,List.replicate,Zev,tyN,Zad,ZbC,ZbW,Zb5,ixW,eqF,eqW,Zed,Zfl,ZgC,ZhU,Zmq,List.getElem?_nil]); (try simp only [Zao,gIf,Zaz,ZaT,Zbd,Zan,Zab,gC,Zaj,gTB,Zc9,gNt,Zft,gOr,ZbV,Zfv,Zck,Zfp,L3.ZaA,Zbv,L3.Zaa,L3.Zag,Zah,gB,rF,Zak,ZbE,gMt,Zha,ZoW,Za6,Zee,Zfq,Zb2,L3.ZdG,Zcu,gSl,ZbP,ZaF,Zbu,Zbc,ZgW,ZbQ,ZdZ,ZcH,Zb6,ZeH,Zba,Zf2,Zaw,ZaQ,List.map_cons,List.map_nil,List.length_cons,List.length_nil,List.cons_append,List.nil_append,List.getElem?_cons_zero,List.getElem?_cons_succ,List.set_cons_zero,List.set_cons_succ,List.replicate,Zev,tyN,Zad,ZbC,ZbW,Zb5,ixW,eqF,eqW,Zed,Zfl,ZgC,ZhU,Zmq,List.getElem?_nil])))
def Ze3 (x:W):W:=match x with | .tup [_,_,k]=>k | _=>.non
def Zc8:W→List W
 | .tup (.str h::r)=>if h="row" then (match r with | .tup fs::_=>fs.map Ze3 | _=>[]) else r
 | _=>[]
theorem ZtK {w:W} (h:hF w=true):∃ t r,w=.tup (.str t::r)∧Zij (r.length+1) (ZdA ZaN t)=true∧(t="row"→rwF r=true):=by
 unfold hF at h
 split at h
 ·rename_i t r
  simp only [Bool.and_eq_true] at h
  refine ⟨t,r,rfl,h.1,fun e=>?_⟩
  subst e
  simpa using h.2
 ·cases h
theorem ZpH {f:W} (h:arF f=true):∃ fs,f=.tup fs∧∀ x∈fs,fdF x=true:=by
 unfold arF at h
 split at h
 ·rename_i xs
  simp only [Bool.and_eq_true,List.all_eq_true] at h
  exact ⟨xs,rfl,h.1⟩
 ·cases h
theorem ZqC {w:W} (h:hF w=true) (ho:okL w=true):(Zc8 w).length≤1000:=by
 obtain ⟨t,r,rfl,hl,hr⟩:=ZtK h
 have ho':(decide (r.length≤1000)&&(t != "row"||ZvX r))=true:=ho
 simp only [Bool.and_eq_true,decide_eq_true_eq] at ho'
 show (if t="row" then _ else r).length≤1000
 by_cases e:t="row"
 ·rw [if_pos e]
  subst e
  obtain ⟨f,o,rfl⟩:=ZmC hl
  have hr':(arF f&&ZyR o)=true:=hr rfl
  simp only [Bool.and_eq_true] at hr'
  obtain ⟨fs,rfl,_⟩:=ZpH hr'.1
  have hk:(ZyQ (.tup fs)&&ZvY o)=true:=by simpa [ZvX] using ho'.2
  simp only [Bool.and_eq_true] at hk
  have hk':(decide (fs.length≤1000)&&fs.all okF)=true:=hk.1
  simp only [Bool.and_eq_true,decide_eq_true_eq] at hk'
  show (fs.map Ze3).length≤1000
  rw [List.length_map];exact hk'.1
 ·rw [if_neg e];exact ho'.1
abbrev ZAk:Spw:=spL (fun (w:W) ws _=>ws=[w]∧hF w=true∧okL w=true) Zc8
theorem Za4 (T:Tx K mg base a):Df P w K mg base "kinds_within" 1 1 ZAk:=by
 refine mk0 T.Zjr rfl ZfA ZvF (fun ws G Q E ⟨x,⟨e,_⟩,_⟩=>by rw [e];rfl) (ZjB T) fun ws G Q E hC q=>?_
 obtain ⟨w,⟨rfl,hf,ho⟩,q⟩:=q
 have hkl:=ZqC hf ho
 obtain ⟨t,r,rfl,hl,hr⟩:=ZtK hf
 unfold ZfB
 by_cases e:t="row"
 ·subst e
  obtain ⟨f,o,rfl⟩:=ZmC hl
  have hr':(arF f&&ZyR o)=true:=hr rfl
  simp only [Bool.and_eq_true] at hr'
  obtain ⟨fs,rfl,hfs⟩:=ZpH hr'.1
  have hkl':fs.length≤1000:=by
   have:(fs.map Ze3).length≤1000:=hkl
   rwa [List.length_map] at this
  walk_at "rd"
  refine Zop (f:=Ze3) trivial fs none [] (fun x hx Q' q'=>?_) (by simp only [List.length_nil];exact Zbf (by omega)) ?_
  ·obtain ⟨n,b,k,rfl,_⟩:=ZmZ (hfs x hx)
   show Zaj (Zak ixW) (Zab 0) (gC (.int 2)) [some (W.tup [.str n,b,k])] _ Q'
   walk_at "rd"
   exact q'
  ·rw [List.nil_append]
   exact q
 ·have e1:(t=="row")=false:=by simpa using e
  have ek:Zc8 (.tup (.str t::r))=r:=if_neg e
  rw [ek] at q
  simp only [Zao,gIf,gTB,Zaj,Zak,Zab,gC,ZaQ,List.map_cons,List.map_nil,List.length_cons,List.length_nil,List.cons_append,List.nil_append,List.replicate,List.getElem?_cons_zero,ixW,ZbC,Zad,eqF,eqW,e1,Option.map_some,show (false != false)=false from rfl,Bool.false_eq_true,if_false,Zan]
  walk_at "rd"
  refine ⟨ZqN _ _,?_⟩
  show Zmy [.tup (Znc (.str t::r) (some 1) none)] G Q
  rw [ZoZ]
  exact q
theorem Zv9 {G:Hw} {p r:Addr} {xs zs:List W} {Q:Kw} (hp:G p=some (.lst xs)) (hr:G r=some (.lst zs)) (hl:xs.length+zs.length≤sizeLine) (q:Q .non (put G p (.lst (xs++zs)))):Zvc (.ref p) [.ref r] G Q:=by
 unfold Zvc
 refine Zmz hp ?_ q
 rw [ZeU hr,Option.bind_some,if_pos hl]
theorem Zk6 {G:Hw} {p:Addr} {xs:List W} (h:G p=some (.lst xs)):ZkR (.ref p) G:=⟨xs,ZeU h⟩
abbrev Zuv (mg:Str→Option Value):Spw:=spL (fun (l:List W) ws G=>∃ p,ws=[.ref p,.ref (fAt mg "kinds_within")]∧G p=some (.lst l)∧l.length≤40∧∀ x∈l,hF x=true∧okL x=true) fun l=>l.flatMap Zc8
theorem ZnI {D:Ew} {p q0 fw:Addr} {items:List W}:∀ (l:List W) (o:Option W) (k0:W) (G:Hw) (acc:List W),acc.length+1000*l.length≤90000→(∀ x∈l,hF x=true∧okL x=true)→p≠q0→G p=some (.lst acc)→G q0=some (.lst items) →
  (∀ ω G',(∃ o',ω=[some k0,some (.ref fw),some (.ref p),o'])→G' p=some (.lst (acc++l.flatMap Zc8))→(∀ b,b≠p→∀ u,G b=some u→G' b=some u)→D.nx ω G') →
  ZeO (holds q0 items) (gNm 3) (Zbd (gMt ZkR Zvc (Zab 2) (L3.Zaa (ZeH 1 fw ZAk XF (L3.Zaa (Zab 3) L3.Zag)) L3.Zag))) D l [some k0,some (.ref fw),some (.ref p),o] G
 | [],o,k0,G,acc,_,_,hne,hp,hq,fin=>⟨hq,fin _ G ⟨o,rfl⟩ (by simpa using hp) fun _ _ _ h=>h⟩
 | c::l,o,k0,G,acc,hl,hx,hne,hp,hq,fin=>by
  have hc:=hx c List.mem_cons_self
  have hk:=ZqC hc.1 hc.2
  have hll:acc.length+1000*(l.length+1)≤90000:=hl
  refine ⟨hq,?_⟩
  show Zbd _ _ [some k0,some (.ref fw),some (.ref p),some c] G
  walk_at "rd"
  refine ⟨Zk6 hp,trivial,c,⟨rfl,hc⟩,fun r hr=>?_⟩
  have hpr:=ZaM hp hr
  have hqr:=ZaM hq hr
  refine Zv9 (by rw [Zau hpr];exact hp) Zaf (Zbf (by omega)) ?_
  refine ZnI l (some c) k0 _ (acc++Zc8 c) (by rw [List.length_append];omega) (fun y hy=>hx y (List.mem_cons_of_mem _ hy)) hne Zaf ?_ ?_
  ·rw [Zau (Ne.symm hne),Zau hqr];exact hq
  ·intro ω G' hω h1 h2
   refine fin ω G' hω (by rw [h1,List.flatMap_cons,List.append_assoc]) fun b hb u hu=>h2 b hb u ?_
   rw [Zau hb,Zau (ZaM hu hr)];exact hu
theorem Zc2 (T:Tx K mg base a):Df P w K mg base "layer_within" 2 2 (Zuv mg):=by
 refine mk0 T.Zjg rfl ZfP ZvF (fun ws G Q E ⟨x,⟨p,e,_⟩,_⟩=>by rw [e];rfl) (Zju T (Za4 T) (by omega)) fun ws G Q E hC q=>?_
 obtain ⟨l,⟨q0,rfl,hq,hl,hx⟩,q⟩:=q
 unfold Zge
 walk_at "rd"
 refine ⟨by decide,fun p hp=>?_⟩
 have hne:p≠q0:=Ne.symm (ZaM hq hp)
 have hq':put G p (.lst []) q0=some (.lst l):=by rw [Zau (Ne.symm hne)];exact hq
 simp only [hq']
 refine ZnI l none (.ref q0) _ [] (by simp only [List.length_nil];omega) hx hne Zaf hq' ?_
 intro ω G' hω h1 h2
 obtain ⟨o',rfl⟩:=hω
 simp only [List.getElem?_cons_zero,List.getElem?_cons_succ]
 rw [List.nil_append] at h1
 have hs:Sub (put G p (.lst (l.flatMap Zc8))) G':=fun b u hu=>by
  by_cases hb:b=p
  ·subst hb
   rw [Zaf] at hu;cases hu
   exact h1
  ·rw [Zau hb] at hu
   exact h2 b hb u (by rw [Zau hb];exact hu)
 exact hC _ _ _ hs (q p hp)
def OKW:Nat→W→Prop
 | 0,w=>okL w=true
 | n+1,w=>okL w=true∧(hF w=true→∀ c∈Zc8 w,OKW n c)
theorem OKW.ok:∀ {n:Nat} {w:W},OKW n w→okL w=true
 | 0,_,h=>h
 | _+1,_,h=>h.1
def mdW:Nat→Nat→List W→Bool
 | _,_,[]=>true
 | 0,_,_::_=>false
 | n+1,c,x::l=>if 40 < c+(x::l).length then false else if (x::l).all hF then mdW n (c+(x::l).length) ((x::l).flatMap Zc8) else false
def isK (w:W):Bool:=mdW 8 0 [w]
theorem Zqe {α:Type} {enc f:α→W} {gd:Hw→Prop} {ge:GE} {R:List W→Hw→Prop} {G:Hw} {cst:Sw} (hgd:gd G):∀ (l:List α) (o:Option W) (ys:List W),(∀ x∈l,∀ Q:Kw,Q (f x) G→ge (some (enc x)::cst) G Q) →
  ys.length+l.length≤sizeLine→R (ys++l.map f) G→Zb7 gd (gNm 0) ZhL ge R (l.map enc) (o::cst) G ys
 | [],o,ys,_,_,r=>⟨hgd,by simpa using r⟩
 | x::l,o,ys,h,hl,r=>by
  refine ⟨hgd,by simp only [List.length_cons] at hl;omega,?_⟩
  show ge (some (enc x)::cst) G fun y G3=>Zb7 gd (gNm 0) ZhL ge R (l.map enc) (some (enc x)::cst) G3 (ys++[y])
  refine h x List.mem_cons_self _ (Zqe hgd l (some (enc x)) (ys++[f x]) (fun y hy=>h y (List.mem_cons_of_mem _ hy)) ?_ ?_)
  ·simp only [List.length_append,List.length_cons,List.length_nil] at hl ⊢;omega
  ·simpa [List.append_assoc] using r
abbrev Zx2 (mg:Str→Option Value):Spw:=spR (fun (w:W) ws _=>ws=[w,.ref (fAt mg "has_form"),.ref (fAt mg "kinds_within"),.int 40,.int 8]∧OKW 7 w) fun w=>.bl (isK w)
theorem ZdE (T:Tx K mg base a):Df P w K mg base "is_made_of" 6 5 (Zx2 mg):=by
 refine mk0 T.Zlu rfl ZhN Zcl (fun ws G Q E ⟨x,⟨e,_⟩,_⟩=>by rw [e];rfl) (Zmc T (Zci T) (Nat.le_refl _) (Zc2 T) (by omega)) fun ws G Q E hC q=>?_
 obtain ⟨k,⟨rfl,ho⟩,q⟩:=q
 dsimp only at q
 unfold Zh0
 walk_at "rd"
 refine ⟨by decide,fun p hp=>?_⟩
 refine ⟨fun m ω G'=>∃ (l:List W) (p:Addr) (c d:Nat),ω=[some k,some (.ref (fAt mg "has_form")),some (.ref (fAt mg "kinds_within")),some (.int 40),some (.int 8),some (.ref p),some (.int c),some (.int d)]∧G' p=some (.lst l)∧Sub G G'∧mdW (8 - d) c l=isK k∧(d≤7→∀ x∈l,OKW (7 - d) x)∧c≤40∧d≤8∧m=9 - d,⟨9,[k],p,0,0,rfl,Zaf,Za3 hp,rfl,?_,by omega,by omega,rfl⟩,?_⟩
 ·intro _ x hx;rw [List.mem_singleton.mp hx];exact ho
 rintro m ω G1 ⟨l,p,c,d,rfl,hl,hs,e1,hok,h40,h8,rfl⟩
 walk_at "rd"
 simp only [hl,Zad]
 cases l with
 | nil =>
  have d0:¬ ((0:Int) < ((([]:List W).length:Nat):Int)):=by simp
  simp only [d0,decide_false,Bool.false_eq_true,if_false]
  have hg:isK k=true:=by rw [← e1];cases (8 - d) <;> rfl
  rw [hg] at q
  exact hC _ _ _ hs q
 | cons x l =>
  have d0:(0:Int) < (((x::l).length:Nat):Int):=by simp only [List.length_cons];omega
  simp only [d0,decide_true,if_true,hl,Zad]
  have b40:decide ((40:Int) < (c:Int)+(((x::l).length:Nat):Int))=decide (40 < c+(x::l).length):=by
   rw [decide_eq_decide];omega
  have b8:decide ((8:Int) < (d:Int)+1)=decide (8 < d+1):=by
   rw [decide_eq_decide];omega
  rw [b40,b8]
  by_cases g8:8 < d+1
  ·have hg:isK k=false:=by
    rw [← e1,show 8 - d=0 by omega];rfl
   rw [hg] at q
   by_cases g40:40 < c+(x::l).length
   ·simp only [g40,decide_true,if_true]
    exact hC _ _ _ hs q
   ·simp only [g40,g8,decide_true,decide_false,if_true,Bool.false_eq_true,if_false]
    exact hC _ _ _ hs q
  ·have em:mdW (8 - d) c (x::l)=if 40 < c+(x::l).length then false else if (x::l).all hF then mdW (8 - (d+1)) (c+(x::l).length) ((x::l).flatMap Zc8) else false:=by
    rw [show 8 - d=(8 - (d+1))+1 by omega];rfl
   rw [em] at e1
   by_cases g40:40 < c+(x::l).length
   ·rw [if_pos g40] at e1
    rw [← e1] at q
    simp only [g40,decide_true,if_true]
    exact hC _ _ _ hs q
   ·rw [if_neg g40] at e1
    simp only [g40,g8,decide_false,Bool.false_eq_true,if_false]
    have hok':=hok (by omega)
    have hid:(x::l).map id=x::l:=List.map_id _
    rw [← hid]
    refine Zqe (enc:=id) (f:=fun z=>.bl (hF z)) (cst:=[some (.ref (fAt mg "has_form"))]) (by rw [hid];exact hl) (x::l) none [] (fun z hz Q' q'=>?_) (by exact Zbf (by simp only [List.length_nil];omega)) ?_
    ·exact ⟨rfl,z,⟨rfl,(hok' z hz).ok⟩,q'⟩
    ·intro p1 hp1
     rw [List.nil_append,show (fun z:W=>W.bl (hF z))=W.bl∘hF from rfl,← List.map_map]
     simp only [ZeU Zaf,Option.bind_some,ZeP,Option.map_some,Zad]
     rw [List.all_map,show (id∘hF)=hF from rfl]
     cases ha:(x::l).all hF with
     | false =>
      rw [ha] at e1
      rw [← e1] at q
      simp only [Bool.not_false,if_true]
      exact hC _ _ _ (Zb8 hs hp1) q
     | true =>
      rw [ha,if_pos rfl] at e1
      have ha':=List.all_eq_true.mp ha
      simp only [Bool.not_true,Bool.false_eq_true,if_false]
      refine ⟨x::l,⟨p,rfl,by rw [Zau (ZaM hl hp1)];exact hl,by omega,fun y hy=>⟨ha' y hy,(hok' y hy).ok⟩⟩,fun p2 hp2=>?_⟩
      refine ⟨9 - (d+1),by omega,(x::l).flatMap Zc8,p2,c+(x::l).length,d+1,?_,Zaf,?_,e1,?_,by omega,by omega,rfl⟩
      ·rw [hid];simp only [Int.natCast_add,Int.natCast_one]
      ·exact Zb8 (Zb8 hs hp1) hp2
      ·intro hd y hy
       obtain ⟨z,hz,hy⟩:=List.mem_flatMap.mp hy
       have hz':=hok' z hz
       rw [show 7 - d=(7 - (d+1))+1 by omega] at hz'
       exact hz'.2 (ha' z hz) y hy
abbrev Ztc:Spw:=spR (fun (w:W) ws _=>ws=[w]∧OKW 7 w) fun w=>.bl (isK w)
theorem ZgM (T:Tx K mg base a):Df P w K mg base "is_kind" 7 1 Ztc:=by
 refine mk0 T.Zqi rfl Zll Zcl (fun ws G Q E ⟨x,⟨e,_⟩,_⟩=>by rw [e];rfl) (ZpG T (Zci T) (by omega) (Za4 T) (by omega) (ZdE T) (Nat.le_refl _)) fun ws G Q E hC q=>?_
 obtain ⟨k,⟨rfl,ho⟩,q⟩:=q
 unfold ZlY
 walk_at "rd"
 exact ⟨k,⟨rfl,ho⟩,q⟩
abbrev Zqf (C:Addr):Spw:=fun ws G Q E=>∃ w:W,(ws=[w]∧OKW 7 w)∧(isK w=true→Q .non G)∧(isK w=false→E C G)
theorem Zvs {C:Addr}:Spw.M (Zqf C):=fun ws G Q Q' E E' h h' ⟨k,h1,q1,q2⟩=>⟨k,h1,fun z=>h _ _ (q1 z),fun z=>h' _ _ (q2 z)⟩
theorem ZpF {C:Addr}:∀ ws G Q E,Zqf C ws G Q E→ws.length=1:=fun ws G Q E ⟨k,⟨e,_⟩,_⟩=>by rw [e];rfl
theorem ZdM (T:Tx K mg base a):Df P w K mg base "check_kind" 8 1 (Zqf a.NoKind):=by
 refine mkX T.Zl1 rfl Zh9 Zvs ZpF (g:=fun E=>ZeT K a Ztc E) (Zly T (ZgM T) (Nat.le_refl _)) fun ws G Q E hC hX q=>?_
 obtain ⟨k,⟨rfl,ho⟩,q1,q2⟩:=q
 unfold ZeT
 walk_at "rd"
 refine ⟨k,⟨rfl,ho⟩,?_⟩
 dsimp only
 cases hg:isK k with
 | true =>
  simp only [Bool.not_true,Bool.false_eq_true,if_false]
  exact q1 hg
 | false =>
  simp only [Bool.not_false,if_true]
  unfold Zqy
  walk_at "rd"
  exact ⟨by decide,q2 hg⟩
local macro_rules | `(tactic| walk_at "rd") => `(tactic| ((try dsimp only [Zao,gIf,Zaz,ZaT,Zbd,Zan,Zab,gC,Zaj,gTB,Zc9,gNt,Zft,gOr,ZbV,Zfv,Zck,Zfp,L3.ZaA,Zbv,L3.Zaa,L3.Zag,Zah,gB,rF,Zak,ZbE,gMt,Zha,ZoW,Za6,Zee,Zfq,Zb2,L3.ZdG,Zcu,gSl,ZbP,ZaF,Zbu,Zbc,ZgW,ZbQ,ZdZ,ZcH,Zb6,Zaw,ZaQ,List.map_cons,List.map_nil,List.length_cons,List.length_nil,List.cons_append,List.nil_append,List.getElem?_cons_zero,List.getElem?_cons_succ,List.set_cons_zero,List.set_cons_succ,List.replicate,Zev,tyN,Zad,ZbC,ZbW,Zb5,ixW,eqF,eqW,Zed,Zfl,ZgC,ZhU,Zmq,List.getElem?_nil]); (try simp only [Zao,gIf,Zaz,ZaT,Zbd,Zan,Zab,gC,Zaj,gTB,Zc9,gNt,Zft,gOr,ZbV,Zfv,Zck,Zfp,L3.ZaA,Zbv,L3.Zaa,L3.Zag,Zah,gB,rF,Zak,ZbE,gMt,Zha,ZoW,Za6,Zee,Zfq,Zb2,L3.ZdG,Zcu,gSl,ZbP,ZaF,Zbu,Zbc,ZgW,ZbQ,ZdZ,ZcH,Zb6,Zaw,ZaQ,List.map_cons,List.map_nil,List.length_cons,List.length_nil,List.cons_append,List.nil_append,List.getElem?_cons_zero,List.getElem?_cons_succ,List.set_cons_zero,List.set_cons_succ,List.replicate,Zev,tyN,Zad,ZbC,ZbW,Zb5,ixW,eqF,eqW,Zed,Zfl,ZgC,ZhU,Zmq,List.getElem?_nil])))
theorem Zoo {n:Str} (h:Zdc n=true):n.length≤8:=by
 unfold Zdc at h
 simp only [Bool.and_eq_true,decide_eq_true_eq] at h
 exact h.1.2
theorem Zu1 (k:Kd):∃ xs,k.enc=.tup (.str k.hd::xs):=by cases k <;> exact ⟨_,rfl⟩
theorem ZlE:∀ fs:Fs,fs.enc.map Zlk=fs.names.map W.str
 | .nil=>rfl
 | .cons n m k r=>by show W.str n::r.enc.map Zlk=W.str n::r.names.map W.str;rw [ZlE r]
theorem ZhO:∀ fs:Fs,fs.names.length=fs.enc.length
 | .nil=>rfl
 | .cons n m k r=>by show r.names.length+1=r.enc.length+1;rw [ZhO r]
theorem Zox (fs:Fs):fs.enc.length≤fs.cnt:=by rw [Zs9,Zq4];exact Zoi _
theorem ZqX:∀ {fs:Fs} {x:W},x∈fs.enc→∃ n b k,x=.tup [.str n,.str (mark b),k]
 | .nil,x,h=>by cases h
 | .cons n m k r,x,h=>by
  rcases List.mem_cons.mp h with rfl | h
  ·exact ⟨n,m,k.enc,rfl⟩
  ·exact ZqX h
abbrev ZfX:List Str:=["script","k"]
theorem ZfJ:Zap ZfX ["script","k"] (Zae Zd4):=by walk_at "s"
def Zf5:GS:=(Zao (gIf (gTB (Zaj (Zee (fun i j=>decide (i < j)) Zbi) (Zab 1) (gB (rF Zed) (Zaa (Zab 0) Zag)))) (Zaz (Zaj (Zak ixW) (Zab 0) (Zab 1))) Zan) (Zaz (gC (.int 0))))
theorem ZjC {k:Nat} (T:Tx K mg base a):Dn P w K mg base ZfX "_law_cell_at" Zd4 k (Zf5):=by
 have hN:=ZfJ.nd
 walk_at "z"
abbrev Zh5:List Str:=["script","k","cell"]
theorem Zh4:Zap Zh5 ["script","k"] (Zae Zfc):=by walk_at "s"
def Zh3 (Zcr:Spw):GS:=(Zao (ZaT 2 (Zah Zcr XF (Zaa (Zab 0) (Zaa (Zab 1) Zag)))) (Zao (gIf (gTB (Zaj (Zfq fun i j=>decide (j≤i)) (Zab 2) (Zaj (Zb2 Zxb fun i j=>i ^ j.toNat) (gC (.int 10)) (gC (.int 18))))) (Zaz (Zbv (Zaa (Zaj (Zb2 (fun _ _=>True) fun i j=>i - j) (Zab 2) (Zaj (Zb2 Zxb fun i j=>i ^ j.toNat) (gC (.int 10)) (gC (.int 18)))) (Zaa (gC (.bl true)) Zag)))) Zan) (Zaz (Zbv (Zaa (Zaj (Zb2 (fun _ j=>0 < j) fun i j=>i % j) (Zab 2) (gC (.int 2147483647))) (Zaa (gC (.bl false)) Zag))))))
theorem Zmp {k:Nat} (T:Tx K mg base a) {Zc0:Nat} {Zcr:Spw} (Zrf:Df P w K mg base "_law_cell_at" Zc0 2 Zcr) (Zq8:Zc0≤k):Dn P w K mg base Zh5 "_law_state" Zfc k (Zh3 Zcr):=by
 have hN:=Zh4.nd
 walk_at "z"
abbrev ZgK:List Str:=["state","many","mixed","found"]
theorem ZgU:Zap ZgK ["state","many"] (Zae ZeC):=by walk_at "s"
def ZgS:GS:=(Zao (gIf (Zc9 (Zaj (Zak ixW) (Zab 0) (gC (.int 1)))) (Zao (ZaT 3 (Zaj (Zb2 (fun _ j=>0 < j) fun i j=>i % j) (Zaj (Zak ixW) (Zab 0) (gC (.int 0))) (Zab 1))) (Zao (Zb6 (Zaj (Zb2 ZyS fun i j=>i / j) (Zaj (Zak ixW) (Zab 0) (gC (.int 0))) (Zab 1)) (Zab 0) (gC (.int 0))) (Zaz (Zab 3)))) Zan) (Zao (Zb6 (Zaj (Zb2 (fun _ j=>0 < j) fun i j=>i % j) (Zaj (ZdG) (Zaj (Zb2 CMul fun i j=>i*j) (Zaj (Zak ixW) (Zab 0) (gC (.int 0))) (gC (.int 48271))) (gC (.int 29))) (gC (.int 2147483647))) (Zab 0) (gC (.int 0))) (Zao (ZaT 2 (Zaj (Zb2 (fun _ j=>0 < j) fun i j=>i % j) (Zaj (ZdG) (Zaj (ZdG) (Zaj (Zb2 CMul fun i j=>i*j) (Zaj (Zak ixW) (Zab 0) (gC (.int 0))) (Zaj (Zak ixW) (Zab 0) (gC (.int 0)))) (Zaj (Zb2 CMul fun i j=>i*j) (gC (.int 39373)) (Zaj (Zak ixW) (Zab 0) (gC (.int 0))))) (gC (.int 7))) (gC (.int 2147483629)))) (Zao (ZaT 2 (Zaj (Zb2 (fun _ j=>0 < j) fun i j=>i % j) (Zaj (ZdG) (Zaj (Zb2 CMul fun i j=>i*j) (Zab 2) (Zab 2)) (Zaj (Zb2 CMul fun i j=>i*j) (gC (.int 16807)) (Zab 2))) (gC (.int 2147483587)))) (Zaz (Zaj (Zb2 (fun _ j=>0 < j) fun i j=>i % j) (Zaj (Zb2 ZyS fun i j=>i / j) (Zab 2) (gC (.int 8))) (Zab 1)))))))
theorem ZkS {k:Nat} (T:Tx K mg base a):Dn P w K mg base ZgK "_law_choice" ZeC k (ZgS):=by
 have hN:=ZgU.nd
 walk_at "z"
abbrev ZjQ:List Str:=["state","deep","plain","known","fields","some","name","mark"]
theorem ZjO:Zap ZjQ ["state","deep","plain","known"] (Zae ZhG):=by walk_at "s"
def ZjW (Zai:Spw) (ZaD:Spw):GS:=(Zao (ZaT 4 (Zbv Zag)) (Zao (ZaT 5 (Zbv (Zaa (Zbv (Zaa (gC (.str "a")) (Zaa (gC (.str "ab")) (Zaa (gC (.str "b")) (Zaa (gC (.str "cab")) (Zaa (gC (.str "zzzzzzzz")) Zag)))))) (Zaa (Zbv (Zaa (gC (.str "any")) (Zaa (gC (.str "in")) (Zaa (gC (.str "inside")) (Zaa (gC (.str "num")) (Zaa (gC (.str "out")) Zag)))))) Zag)))) (Zao (Zbd (gMt ZkR Ztu (Zab 5) (Zaa (Zbv (Zaa (gC (.str "aa")) (Zaa (gC (.str "new")) (Zaa (gC (.str "other")) (Zaa (gC (.str "x")) (Zaa (gC (.str "zz")) Zag)))))) Zag))) (Zao (ZdZ (Zbc (Zaj (Zak ixW) (Zab 5) (Zaj (Zak ixW) (Zbv (Zaa (gC (.int 0)) (Zaa (gC (.int 0)) (Zaa (gC (.int 1)) (Zaa (gC (.int 2)) Zag))))) (Zah Zai XF (Zaa (Zab 0) (Zaa (gC (.int 4)) Zag)))))) (gNm 6) (gIf (Zft (gTB (Zaj (Zak (eqF false)) (Zah Zai XF (Zaa (Zab 0) (Zaa (gC (.int 2)) Zag))) (gC (.int 1)))) (gTB (Zaj (Zfq fun i j=>decide (j < i)) (Zaj (Zak ixW) (Zab 0) (gC (.int 2))) (gC (.int 0))))) (Zao (ZaT 7 (Zaj (Zak ixW) (Zbv (Zaa (gC (.str "must")) (Zaa (gC (.str "may")) Zag))) (Zah Zai XF (Zaa (Zab 0) (Zaa (gC (.int 2)) Zag))))) (Zbd (gMt ZkR Ztu (Zab 4) (Zaa (ZaA (Zaa (Zab 6) (Zaa (Zab 7) (Zaa (Zah ZaD XF (Zaa (Zab 0) (Zaa (Zaj (Zb2 (fun _ _=>True) fun i j=>i - j) (Zab 1) (gC (.int 1))) (Zaa (Zab 2) (Zaa (Zab 3) Zag))))) Zag)))) Zag)))) Zan)) (Zaz (ZaA (Zaa (gC (.str "row")) (Zaa (gB (rF ZhU) (Zaa (Zab 4) Zag)) (Zaa (ZbV (Zaj (Zak (eqF false)) (Zah Zai XF (Zaa (Zab 0) (Zaa (gC (.int 2)) Zag))) (gC (.int 1))) (Zck (Zab 3))) Zag)))))))))
theorem Zow {k:Nat} (T:Tx K mg base a) {Zaq:Nat} {Zai:Spw} (Zdi:Df P w K mg base "_law_choice" Zaq 2 Zai) (Zdf:Zaq≤k) {Za0:Nat} {ZaD:Spw} (ZiE:Df P w K mg base "_law_kind" Za0 4 ZaD) (ZiI:Za0≤k):Dn P w K mg base ZjQ "_law_row" ZhG k (ZjW Zai ZaD):=by
 have hN:=ZjO.nd
 walk_at "z"
abbrev ZgH:List Str:=["state","deep","plain","known","pick","some"]
theorem Zgw:Zap ZgH ["state","deep","plain","known"] (Zae Zgm):=by walk_at "s"
def ZgB (Zai:Spw) (ZaD:Spw) (Zew:Spw):GS:=(Zao (Zb6 (Zaj (Zb2 (fun _ _=>True) fun i j=>i - j) (Zaj (Zak ixW) (Zab 0) (gC (.int 2))) (gC (.int 1))) (Zab 0) (gC (.int 2))) (Zao (ZaT 4 (Zah Zai XF (Zaa (Zab 0) (Zaa (gC (.int 8)) Zag)))) (Zao (gIf (gOr (gTB (Zaj (Zee (fun i j=>decide (i < j)) Zbi) (Zab 1) (gC (.int 2)))) (gOr (gTB (Zaj (Zee (fun i j=>decide (i < j)) Zbi) (Zaj (Zak ixW) (Zab 0) (gC (.int 2))) (gC (.int 2)))) (gTB (Zaj (Zee (fun i j=>decide (i < j)) Zbi) (Zab 4) (gC (.int 2)))))) (Zao (ZaT 5 (Zbv (Zaa (ZaA (Zaa (gC (.str "num")) Zag)) (Zaa (ZaA (Zaa (gC (.str "truth")) Zag)) (Zaa (ZaA (Zaa (gC (.str "any")) Zag)) Zag))))) (Zaz (Zaj (Zak ixW) (Zab 5) (Zah Zai XF (Zaa (Zab 0) (Zaa (Zaj (Zb2 (fun _ _=>True) fun i j=>i - j) (gC (.int 3)) (gB (rF Zmq) (Zaa (Zab 3) Zag))) Zag)))))) Zan) (Zao (gIf (Zft (gTB (Zaj (Zee (fun i j=>decide (i < j)) Zbi) (Zab 4) (gC (.int 4)))) (gNt (Zc9 (Zab 2)))) (Zaz (ZaA (Zaa (gC (.str "to")) (Zaa (Zah ZaD XF (Zaa (Zab 0) (Zaa (Zaj (Zb2 (fun _ _=>True) fun i j=>i - j) (Zab 1) (gC (.int 1))) (Zaa (Zab 2) (Zaa (Zab 3) Zag))))) (Zaa (Zah ZaD XF (Zaa (Zab 0) (Zaa (Zaj (Zb2 (fun _ _=>True) fun i j=>i - j) (Zab 1) (gC (.int 1))) (Zaa (Zab 2) (Zaa (Zab 3) Zag))))) Zag))))) Zan) (Zao (gIf (Zft (gTB (Zaj (Zak (eqF false)) (Zab 4) (gC (.int 4)))) (gNt (Zc9 (Zab 2)))) (Zaz (ZaA (Zaa (gC (.str "box")) (Zaa (Zah ZaD XF (Zaa (Zab 0) (Zaa (Zaj (Zb2 (fun _ _=>True) fun i j=>i - j) (Zab 1) (gC (.int 1))) (Zaa (Zab 2) (Zaa (Zab 3) Zag))))) Zag)))) Zan) (Zaz (Zah Zew XF (Zaa (Zab 0) (Zaa (Zab 1) (Zaa (Zab 2) (Zaa (Zab 3) Zag)))))))))))
theorem ZiL {k:Nat} (T:Tx K mg base a) {Zaq:Nat} {Zai:Spw} (Zdi:Df P w K mg base "_law_choice" Zaq 2 Zai) (Zdf:Zaq≤k) {Za0:Nat} {ZaD:Spw} (ZiE:Df P w K mg base "_law_kind" Za0 4 ZaD) (ZiI:Za0≤k) {Zfw:Nat} {Zew:Spw} (ZvZ:Df P w K mg base "_law_row" Zfw 4 Zew) (Zv0:Zfw≤k):Dn P w K mg base ZgH "_law_kind" Zgm k (ZgB Zai ZaD Zew):=by
 have hN:=Zgw.nd
 walk_at "z"
abbrev Zem:List Str:=["script","k","plain","known","state","deep"]
theorem Zei:Zap Zem ["script","k","plain","known"] (Zae ZcG):=by walk_at "s"
def Zeo (ZaV:Spw) (Zai:Spw) (ZaD:Spw):GS:=(Zao (ZaT 4 (Zaj (Zde) (Zah ZaV XF (Zaa (Zab 0) (Zaa (Zab 1) Zag))) (Zbv (Zaa (gC (.int 9)) Zag)))) (Zao (ZaT 5 (gC (.int 3))) (Zao (gIf (gTB (Zaj (Zak (eqF false)) (Zah Zai XF (Zaa (Zab 4) (Zaa (gC (.int 6)) Zag))) (gC (.int 1)))) (Zao (Zb6 (gC (.int 30)) (Zab 4) (gC (.int 2))) (ZaT 5 (gC (.int 8)))) Zan) (Zaz (Zah ZaD XF (Zaa (Zab 4) (Zaa (Zab 5) (Zaa (Zab 2) (Zaa (Zab 3) Zag)))))))))
theorem ZhB {k:Nat} (T:Tx K mg base a) {Zbt:Nat} {ZaV:Spw} (Zmh:Df P w K mg base "_law_state" Zbt 2 ZaV) (ZlV:Zbt≤k) {Zaq:Nat} {Zai:Spw} (Zdi:Df P w K mg base "_law_choice" Zaq 2 Zai) (Zdf:Zaq≤k) {Za0:Nat} {ZaD:Spw} (ZiE:Df P w K mg base "_law_kind" Za0 4 ZaD) (ZiI:Za0≤k):Dn P w K mg base Zem "_law_drawn_kind" ZcG k (Zeo ZaV Zai ZaD):=by
 have hN:=Zei.nd
 walk_at "z"
local macro_rules | `(tactic| walk_at "rd") => `(tactic| ((try dsimp only [ZkM,Zba,ZgG,Zeu,Zbg,Zf2,Zao,gIf,Zaz,ZaT,Zbd,Zan,Zab,gC,Zaj,gTB,Zc9,gNt,Zft,gOr,ZbV,Zfv,Zck,Zfp,L3.ZaA,Zbv,L3.Zaa,L3.Zag,Zah,gB,rF,Zak,ZbE,gMt,Zha,Za6,Zee,Zfq,Zb2,L3.ZdG,Zcu,gSl,ZbP,ZaF,Zbu,Zbc,ZgW,ZdZ,Zaw,ZaQ,List.map_cons,List.map_nil,List.length_cons,List.length_nil,List.cons_append,List.nil_append,List.getElem?_cons_zero,List.getElem?_cons_succ,List.set_cons_zero,List.set_cons_succ,List.replicate,Zev,tyN,Zad,ZbC,ZbW,Zb5,ixW,eqF,eqW,Zed,Zfl,ZgC,List.getElem?_nil]); (try simp only [ZkM,Zba,ZgG,Zeu,Zbg,Zf2,Zao,gIf,Zaz,ZaT,Zbd,Zan,Zab,gC,Zaj,gTB,Zc9,gNt,Zft,gOr,ZbV,Zfv,Zck,Zfp,L3.ZaA,Zbv,L3.Zaa,L3.Zag,Zah,gB,rF,Zak,ZbE,gMt,Zha,Za6,Zee,Zfq,Zb2,L3.ZdG,Zcu,gSl,ZbP,ZaF,Zbu,Zbc,ZgW,ZdZ,Zaw,ZaQ,List.map_cons,List.map_nil,List.length_cons,List.length_nil,List.cons_append,List.nil_append,List.getElem?_cons_zero,List.getElem?_cons_succ,List.set_cons_zero,List.set_cons_succ,List.replicate,Zev,tyN,Zad,ZbC,ZbW,Zb5,ixW,eqF,eqW,Zed,Zfl,ZgC,List.getElem?_nil])))
theorem Zsw {ns:List Int} {k:Int} (h0:0≤k) (h:k < (ns.length:Int)):∃ v:Int,atI (ns.map W.int) k=some (.int v):=by
 have hk:k.toNat < ns.length:=by omega
 have ek:k=((k.toNat:Nat):Int):=by omega
 refine ⟨ns[k.toNat],?_⟩
 have q:atI (ns.map W.int) ((k.toNat:Nat):Int)=some (.int ns[k.toNat]):=Zho (by rw [List.getElem?_map,List.getElem?_eq_getElem hk] <;> rfl)
 rw [← ek] at q
 exact q
def Ztf:Spw:=fun ws G Q _=>∃ (ns:List Int) (k:Int),ws=[.rol (ns.map W.int),.int k]∧0≤k∧∀ v:Int,Q (.int v) G
theorem Zsx:Spw.M Ztf:=(by rintro ws G Q Q' E E' h _ ⟨ns,k,h1,h2,q⟩;exact ⟨ns,k,h1,h2,fun v=>h _ _ (q v)⟩)
theorem Zc0 (T:Tx K mg base a):Df P w K mg base "_law_cell_at" 1 2 Ztf:=by
 refine mk0 T.Zjq rfl ZfJ Zsx ((by rintro ws G Q E ⟨ns,k,e,_⟩;rw [e];rfl)) (ZjC T) fun ws G Q E hC q=>?_
 obtain ⟨ns,k,rfl,h0,q⟩:=q
 unfold Zf5
 show Zao _ _ (Zaw Q) [some (.rol (ns.map W.int)),some (.int k)] G
 by_cases hk:k < ((ns.map W.int).length:Int)
 ·obtain ⟨v,e⟩:=Zsw h0 (by simpa using hk)
  simp only [Zao,gIf,gTB,Zaj,Zee,gB,rF,Zed,Zfl,L3.Zaa,L3.Zag,Zab,List.getElem?_cons_zero,List.getElem?_cons_succ,Zad,hk,decide_true,if_true,Zak,ixW,e,Zaz]
  exact q v
 ·simp only [Zao,gIf,gTB,Zaj,Zee,gB,rF,Zed,Zfl,L3.Zaa,L3.Zag,Zab,List.getElem?_cons_zero,List.getElem?_cons_succ,Zad,hk,decide_false,Bool.false_eq_true,if_false,Zan,Zaz,gC]
  exact q 0
def Znb:Spw:=fun ws G Q _=>∃ (ns:List Int) (k:Int),ws=[.rol (ns.map W.int),.int k]∧0≤k∧∀ p (x:Int) (b:Bool),G p=none→Q (.ref p) (put G p (.lst [.int x,.bl b]))
theorem ZpB:Spw.M Znb:=(by rintro ws G Q Q' E E' h _ ⟨ns,k,h1,h2,q⟩;exact ⟨ns,k,h1,h2,fun p x y hp=>h _ _ (q p x y hp)⟩)
theorem Ztx:Zxb 10 18:=⟨by decide,by decide,by decide⟩
theorem Zbt (T:Tx K mg base a):Df P w K mg base "_law_state" 2 2 Znb:=by
 refine mk0 (k:=1) T.Zl5 rfl Zh4 ZpB ((by rintro ws G Q E ⟨ns,k,e,_⟩;rw [e];rfl)) (Zmp T (Zc0 T) (Nat.le_refl _)) fun ws G Q E hC q=>?_
 obtain ⟨ns,k,rfl,h0,q⟩:=q
 unfold Zh3
 show Zao _ _ (Zaw Q) [some (.rol (ns.map W.int)),some (.int k),none] G
 refine ⟨ns,k,rfl,h0,fun v=>?_⟩
 walk_at "rd"
 refine ⟨Ztx,?_⟩
 refine ZAt (fun h=>?_) (fun h=>?_)
 ·exact ⟨Ztx,trivial,by decide,fun p hp=>q p _ _ hp⟩
 ·exact ⟨by decide,by decide,fun p hp=>q p _ _ hp⟩
def ZgJ:Spw:=fun ws G Q _=>∃ (s:Addr) (m x:Int) (b:Bool) (l:List W),ws=[.ref s,.int m]∧0 < m∧m < 1073741824∧G s=some (.lst (.int x::.bl b::l))∧∀ r x':Int,0≤r→r < m→Q (.int r) (put G s (.lst (.int x'::.bl b::l)))
theorem Zsk:Spw.M ZgJ:=(by rintro ws G Q Q' E E' h _ ⟨s,m,x,b,l,h1,h2,h3,h4,q⟩;exact ⟨s,m,x,b,l,h1,h2,h3,h4,fun r x' z1 z2=>h _ _ (q r x' z1 z2)⟩)
theorem ZzG (n:Nat):ixN (n+1) 0=some 0:=by unfold ixN;rw [if_pos (Int.le_refl 0),if_pos (by omega)];rfl
theorem Zzm (n:Nat):ixN (n+3) 2=some 2:=by unfold ixN;rw [if_pos (by decide),if_pos (by omega)];rfl
theorem ZqV {G:Hw} {s:Addr} {x v:W} {l:List W} {Q:Hw→Prop} (h:G s=some (.lst (x::l))) (q:Q (put G s (.lst (v::l)))):Zjo (.ref s) (.int 0) v G Q:=ZkN h (ZzG l.length) q
theorem ZqS {G:Hw} {s:Addr} {x y z v:W} {Q:Hw→Prop} (h:G s=some (.lst [x,y,z])) (q:Q (put G s (.lst [x,y,v]))):Zjo (.ref s) (.int 2) v G Q:=ZkN h (Zzm 0) q
theorem ix0 {G:Hw} {s:Addr} {x:W} {l:List W} (h:G s=some (.lst (x::l))):ixW (.ref s) (.int 0) G=some x:=by rw [Zg8 h];exact ZbC
theorem ix1 {G:Hw} {s:Addr} {x y:W} {l:List W} (h:G s=some (.lst (x::y::l))):ixW (.ref s) (.int 1) G=some y:=by rw [Zg8 h];exact ZbW
theorem ix2 {G:Hw} {s:Addr} {x y z:W} {l:List W} (h:G s=some (.lst (x::y::z::l))):ixW (.ref s) (.int 2) G=some z:=by rw [Zg8 h];exact Zb5
theorem Zqa {x m:Int} (h0:0≤x) (h1:x < m) (hm:m≤2147483647):-(2 ^ 64) < x∧x < 2 ^ 64:=by
 have:(2:Int) ^ 64=18446744073709551616:=by decide
 rw [this];omega
theorem Zaq (T:Tx K mg base a):Df P w K mg base "_law_choice" 1 2 ZgJ:=by
 refine mk0 T.Zk7 rfl ZgU Zsk ((by rintro ws G Q E ⟨s,m,x,b,l,e,_⟩;rw [e];rfl)) (ZkS T) fun ws G Q E hC q=>?_
 obtain ⟨s,m,x,b,l,rfl,hm0,hm1,hs,q⟩:=q
 unfold ZgS
 show Zao (gIf _ _ Zan) _ (Zaw Q) [some (.ref s),some (.int m),none,none] G
 simp only [Zao,gIf,Zc9,Zaj,Zak,Zab,gC,List.getElem?_cons_zero,List.getElem?_cons_succ,ix1 hs,Zad,Zev]
 cases b with
 | true =>
  simp only [if_true,Zao,ZaT,Zb6,Zaj,Zb2,Zak,Zab,gC,Zaz,Zaw,List.getElem?_cons_zero,List.getElem?_cons_succ,List.set_cons_zero,List.set_cons_succ,ix0 hs,Zad]
  refine ⟨hm0,?_⟩
  refine ⟨⟨hm0,hm1⟩,?_⟩
  refine ZqV hs ?_
  exact q _ _ (Int.emod_nonneg _ (by omega)) (Int.emod_lt_of_pos _ hm0)
 | false =>
  simp only [Bool.false_eq_true,if_false,Zan,Zao,Zb6,Zaj,Zb2,Zak,gC,Zab,List.getElem?_cons_zero,List.getElem?_cons_succ,ix0 hs,Zad,ZxK,Zde,L3.ZdG]
  refine ⟨.inr ⟨by decide,by decide⟩,by decide,?_⟩
  refine ZqV hs ?_
  generalize hx2:(x*48271+29) % 2147483647=x2
  have b0:0≤x2:=by rw [← hx2];exact Int.emod_nonneg _ (by decide)
  have b1:x2 < 2147483647:=by rw [← hx2];exact Int.emod_lt_of_pos _ (by decide)
  have h2:put G s (.lst (.int x2::.bl false::l)) s=some (.lst (.int x2::.bl false::l)):=Zaf
  simp only [ZaT,Zaj,Zb2,Zak,gC,Zab,List.getElem?_cons_zero,List.getElem?_cons_succ,List.set_cons_zero,List.set_cons_succ,ix0 h2,Zad,Zaz,Zaw,ZxK,Zde,L3.ZdG]
  refine ⟨.inl (Zqa b0 b1 (by decide)),.inl ⟨by decide,by decide⟩,by decide,?_⟩
  generalize hx3:(x2*x2+39373*x2+7) % 2147483629=x3
  have c0:0≤x3:=by rw [← hx3];exact Int.emod_nonneg _ (by decide)
  have c1:x3 < 2147483629:=by rw [← hx3];exact Int.emod_lt_of_pos _ (by decide)
  refine ⟨.inl (Zqa c0 c1 (by decide)),.inl ⟨by decide,by decide⟩,(show (0:Int) < 2147483587 by decide),?_⟩
  refine ⟨⟨by decide,by decide⟩,hm0,?_⟩
  exact q _ _ (Int.emod_nonneg _ (by omega)) (Int.emod_lt_of_pos _ hm0)
theorem Zo0 {x:Str} {st:Stmt} {ps:List Str} {k:Nat} {sp:Spw} (Fx:Fn K mg st x ps) (m:sp.M) (no:∀ ws G Q E,¬ sp ws G Q E):Df P w K mg base x k ps.length sp:=by
 obtain ⟨f,fd,h1,F,h3⟩:=Fx
 exact ⟨⟨f,fd,_,h1,F.kp,h3,rfl,⟨(by rintro vs H Q E ⟨ws,G,t,r,q⟩;exact absurd q (no _ _ _ _)),(by rintro A outer s H args us vs Q E _ _ _ _ ⟨ws,G,t,r,q⟩;exact absurd q (no _ _ _ _))⟩⟩,m⟩
def Zzy:Spw:=fun _ _ _ _=>False
theorem Zta:Spw.M Zzy:=fun _ _ _ _ _ _ _ _ q=>q
theorem Zto {G:Hw} {p:Addr} {xs:List W} {y:W} {Q:Kw} (hp:G p=some (.lst xs)) (hl:xs.length < sizeLine) (q:Q .non (put G p (.lst (xs++[y])))):Ztu (.ref p) [y] G Q:=by
 unfold Ztu
 refine Zmz hp ?_ q
 rw [if_pos hl]
mutual
def Kd.thr:Kd→Bool
 | .to a b=>a.thr&&b.thr
 | .box a=>a.thr
 | .row fs _=>decide (fs.names.length≤5)&&fs.thr
 | _=>true
def Fs.thr:Fs→Bool
 | .nil=>true
 | .cons _ _ k r=>k.thr&&r.thr
end
def wf (k:Kd):Prop:=k.ok=true∧k.thr=true
def Zil (x:Str×Bool×Kd):W:=.tup [.str x.1,.str (mark x.2.1),x.2.2.enc]
def ofL:List (Str×Bool×Kd)→Fs
 | []=>.nil
 | x::l=>.cons x.1 x.2.1 x.2.2 (ofL l)
theorem ZkO:∀ l,(ofL l).enc=l.map Zil
 | []=>rfl
 | x::l=>by show Zil x::(ofL l).enc=Zil x::l.map Zil;rw [ZkO l]
theorem Zi4:∀ l,(ofL l).names=l.map (·.1)
 | []=>rfl
 | x::l=>by show x.1::(ofL l).names=x.1::l.map (·.1);rw [Zi4 l]
theorem ZtL {n:Nat}:∀ l:List (Str×Bool×Kd),(∀ y∈l,y.2.2.dp≤n)→(ofL l).dp≤n
 | [],_=>Nat.zero_le _
 | x::l,h=>by
  have h1:=h x List.mem_cons_self
  have h2:=ZtL l fun y hy=>h y (List.mem_cons_of_mem _ hy)
  show max x.2.2.dp (ofL l).dp≤n;omega
theorem ZtR:∀ l:List (Str×Bool×Kd),(∀ y∈l,Zdc y.1=true∧wf y.2.2)→(ofL l).ok=true∧(ofL l).thr=true
 | [],_=>⟨rfl,rfl⟩
 | x::l,h=>by
  obtain ⟨h1,h2,h3⟩:=h x List.mem_cons_self
  obtain ⟨i1,i2⟩:=ZtR l fun y hy=>h y (List.mem_cons_of_mem _ hy)
  constructor
  ·show (Zdc x.1&&x.2.2.ok&&(ofL l).ok)=true
   rw [h1,h2,i1];rfl
  ·show (x.2.2.thr&&(ofL l).thr)=true
   rw [h3,i2];rfl
theorem Zpq:∀ (l l2:List (Str×Bool×Kd)),(ofL (l++l2)).cnt=(ofL l).cnt+(ofL l2).cnt
 | [],l2=>by show (ofL l2).cnt=0+(ofL l2).cnt;omega
 | x::l,l2=>by show x.2.2.cnt+(ofL (l++l2)).cnt=x.2.2.cnt+(ofL l).cnt+(ofL l2).cnt;rw [Zpq l l2];omega
theorem Zqd:∀ {ns:List Str},ns.Pairwise (fun x y=>Zbi x y=true)→ZkB ns=true
 | [],_=>rfl
 | [_],_=>rfl
 | x::y::r,h=>by
  show (Zbi x y&&ZkB (y::r))=true
  cases h with
  | cons h1 h2=>rw [h1 y List.mem_cons_self,Zqd h2];rfl
theorem Zyb {l:List (Str×Bool×Kd)} {o:Bool} (h1:(l.map (·.1)).Pairwise (fun x y=>Zbi x y=true)) (h2:l.length≤5) (h3:∀ y∈l,Zdc y.1=true∧wf y.2.2):wf (.row (ofL l) o):=by
 obtain ⟨i1,i2⟩:=ZtR l h3
 constructor
 ·show (ZkB (ofL l).names&&(ofL l).ok)=true
  rw [Zi4,Zqd h1,i1];rfl
 ·show (decide ((ofL l).names.length≤5)&&(ofL l).thr)=true
  rw [Zi4,List.length_map,decide_eq_true h2,i2];rfl
theorem ZzW {x y:Kd} (hx:wf x) (hy:wf y):wf (.to x y):=⟨by show (x.ok&&y.ok)=true;rw [hx.1,hy.1];rfl,by show (x.thr&&y.thr)=true;rw [hx.2,hy.2];rfl⟩
theorem Zwd {x:Kd} (hx:wf x):wf (.box x):=⟨hx.1,hx.2⟩
def gk (d c:Int) (k:Kd):Prop:=wf k∧(k.dp:Int)≤d∧(k.cnt:Int)≤max c 1+(d - 1)∧(c≤2→k.cnt=1)
def Zk1 (n:Nat):Spw:=fun ws G Q _=>∃ (s:Addr) (x d c:Int) (b pl kn:Bool),ws=[.ref s,.int d,.bl pl,.bl kn]∧1≤d∧d≤(n:Int)+1∧G s=some (.lst [.int x,.bl b,.int c])∧∀ (k:Kd) (x':Int),gk d c k→Q k.enc (put G s (.lst [.int x',.bl b,.int (c - k.cnt)]))
theorem Zp1 {n:Nat}:Spw.M (Zk1 n):=(by rintro ws G Q Q' E E' h _ ⟨s,x,d,c,b,pl,kn,h1,h2,h3,h4,q⟩;exact ⟨s,x,d,c,b,pl,kn,h1,h2,h3,h4,fun k x' g=>h _ _ (q k x' g)⟩)
def Zus (n:Nat):Spw:=fun ws G Q _=>∃ (s:Addr) (x d c:Int) (b pl kn:Bool),ws=[.ref s,.int d,.bl pl,.bl kn]∧2≤d∧d≤(n:Int)+2∧2≤c∧G s=some (.lst [.int x,.bl b,.int c])∧∀ (k:Kd) (x':Int),wf k→(k.dp:Int)≤d→1≤k.cnt→(k.cnt:Int)≤c+d - 1→Q k.enc (put G s (.lst [.int x',.bl b,.int (c+1 - k.cnt)]))
theorem Zvv {n:Nat}:Spw.M (Zus n):=(by rintro ws G Q Q' E E' h _ ⟨s,x,d,c,b,pl,kn,h1,h2,h3,h4,h5,q⟩;exact ⟨s,x,d,c,b,pl,kn,h1,h2,h3,h4,h5,fun k x' g1 g2 g3 g4=>h _ _ (q k x' g1 g2 g3 g4)⟩)
def ZsT (xs:List Str):Prop:=xs.Pairwise (fun x y=>Zbi x y=true)∧(∀ x∈xs,Zdc x=true)∧xs.length≤5
abbrev gRB (sp:Spw):GS:=(gIf (Zft (gTB (Zaj (Zak (eqF false)) (Zah ZgJ XF (L3.Zaa (Zab 0) (L3.Zaa (gC (.int 2)) L3.Zag))) (gC (.int 1)))) (gTB (Zaj (Zfq fun i j=>decide (j < i)) (Zaj (Zak ixW) (Zab 0) (gC (.int 2))) (gC (.int 0))))) (Zao (ZaT 7 (Zaj (Zak ixW) (Zbv (L3.Zaa (gC (.str "must")) (L3.Zaa (gC (.str "may")) L3.Zag))) (Zah ZgJ XF (L3.Zaa (Zab 0) (L3.Zaa (gC (.int 2)) L3.Zag))))) (Zbd (gMt ZkR Ztu (Zab 4) (L3.Zaa (L3.ZaA (L3.Zaa (Zab 6) (L3.Zaa (Zab 7) (L3.Zaa (Zah sp XF (L3.Zaa (Zab 0) (L3.Zaa (Zaj (Zb2 (fun _ _=>True) fun i j=>i - j) (Zab 1) (gC (.int 1))) (L3.Zaa (Zab 2) (L3.Zaa (Zab 3) L3.Zag))))) L3.Zag)))) L3.Zag)))) Zan)
theorem ZtV {r:Int} (h0:0≤r) (h2:r < 2):∃ b:Bool,atI [W.str "must",W.str "may"] r=some (.str (mark b)):=by
 have:r=0∨r=1:=by omega
 rcases this with e | e
 ·exact ⟨true,by rw [e];exact ZbC⟩
 ·exact ⟨false,by rw [e];exact ZbW⟩
theorem ZkH {n:Nat} {D:Ew} {s p q0:Addr} {d c:Int} {b pl kn:Bool} {items:List W} {w5:Option W} (hd1:2≤d) (hd2:d≤(n:Int)+2) (hc:2≤c):∀ (xs:List Str) (o6 o7:Option W) (G:Hw) (l:List (Str×Bool×Kd)) (x c0:Int),G s=some (.lst [.int x,.bl b,.int c0])→G p=some (.lst (l.map Zil))→G q0=some (.lst items)→p≠s→q0≠s→q0≠p→l.length+xs.length≤100→c0=c - (ofL l).cnt→((ofL l).cnt:Int)≤c+d - 2 →
  (∀ ω G' l2 x',(∃ u v,ω=[some (.ref s),some (.int d),some (.bl pl),some (.bl kn),some (.ref p),w5,u,v])→G' s=some (.lst [.int x',.bl b,.int (c - (ofL (l++l2)).cnt)])→((ofL (l++l2)).cnt:Int)≤c+d - 2→G' p=some (.lst ((l++l2).map Zil))→(∀ b,b≠s→b≠p→∀ u,G b=some u→G' b=some u)→(l2.map (·.1)).Sublist xs→(∀ z∈l2,wf z.2.2∧(z.2.2.dp:Int)≤d - 1)→D.nx ω G') →
  ZeO (holds q0 items) (gNm 6) (gRB (Zk1 n)) D (xs.map W.str) [some (.ref s),some (.int d),some (.bl pl),some (.bl kn),some (.ref p),w5,o6,o7] G
 | [],o6,o7,G,l,x,c0,hs,hp,hq,_,_,_,_,e0,e1,fin=>⟨hq,fin _ G [] x ⟨o6,o7,rfl⟩ (by rw [List.append_nil,← e0];exact hs) (by rw [List.append_nil];exact e1) (by rw [List.append_nil];exact hp) (fun b _ _ u h=>h) (.refl _) (by intro z hz;cases hz)⟩
 | nm::xs,o6,o7,G,l,x,c0,hs,hp,hq,nps,nqs,nqp,hl,e0,e1,fin=>by
  refine ⟨hq,?_⟩
  show gRB (Zk1 n) _ [some (.ref s),some (.int d),some (.bl pl),some (.bl kn),some (.ref p),w5,some (.str nm),o7] G
  have hlx:l.length+(xs.length+1)≤100:=hl
  simp only [gIf,Zft,gTB,Zaj,Zah,L3.Zaa,L3.Zag,Zab,gC,Zak,List.getElem?_cons_zero,List.getElem?_cons_succ]
  refine ⟨s,2,x,b,[.int c0],rfl,by decide,by decide,hs,fun r x1 r0 r1=>?_⟩
  have g1s:put G s (.lst [.int x1,.bl b,.int c0]) s=some (.lst [.int x1,.bl b,.int c0]):=Zaf
  have g1p:put G s (.lst [.int x1,.bl b,.int c0]) p=some (.lst (l.map Zil)):=by rw [Zau nps];exact hp
  have g1q:put G s (.lst [.int x1,.bl b,.int c0]) q0=some (.lst items):=by rw [Zau nqs];exact hq
  have skip:∀ o7,ZeO (holds q0 items) (gNm 6) (gRB (Zk1 n)) D (xs.map W.str) [some (.ref s),some (.int d),some (.bl pl),some (.bl kn),some (.ref p),w5,some (.str nm),o7] (put G s (.lst [.int x1,.bl b,.int c0])):=fun o7=>by
   refine ZkH hd1 hd2 hc xs _ _ _ l x1 c0 g1s g1p g1q nps nqs nqp (by omega) e0 e1 ?_
   intro ω G' l2 x' hω f1 f1' f2 f3 f4 f5
   exact fin ω G' l2 x' hω f1 f1' f2 (fun c c1 c2 u hu=>f3 c c1 c2 u (by rw [Zau c1];exact hu)) (f4.cons nm) f5
  show opt (eqF false (.int r) (.int 1) (put G s (.lst [.int x1,.bl b,.int c0]))) _
  rw [show eqF false (.int r) (.int 1) (put G s (.lst [.int x1,.bl b,.int c0]))=some (.bl (r==1)) by unfold eqF eqW;show some (W.bl ((r==1) != false))=_;cases (r==1) <;> rfl,Zad]
  dsimp only
  cases (r==1) with
  | false=>exact skip _
  | true =>
   rw [if_pos rfl,ix2 g1s,Zad]
   show if decide (0 < c0)=true then _ else _
   by_cases h0:0 < c0
   ·rw [if_pos (decide_eq_true h0)]
    simp only [Zao,ZaT,Zaj,Zbv,Zah,L3.Zaa,L3.Zag,Zab,gC,Zak,List.getElem?_cons_zero,List.getElem?_cons_succ]
    refine ⟨(show 2≤sizeLine by decide),fun p2 hp2=>?_⟩
    have n2:s≠p2:=ZaM g1s hp2
    have n3:p≠p2:=ZaM g1p hp2
    have n4:q0≠p2:=ZaM g1q hp2
    refine ⟨s,2,x1,b,[.int c0],rfl,by decide,by decide,by rw [Zau n2];exact g1s,fun r2 x2 r20 r21=>?_⟩
    obtain ⟨m,em⟩:=ZtV r20 r21
    have fm:ixW (.ref p2) (.int r2) (put (put (put G s (.lst [.int x1,.bl b,.int c0])) p2 (.lst [.str "must",.str "may"])) s (.lst [.int x2,.bl b,.int c0]))=some (.str (mark m)):=by
     rw [Zg8 (by rw [Zau (Ne.symm n2)];exact Zaf)];exact em
    rw [fm,Zad]
    simp only [Zbd,gMt,L3.ZaA,Zaj,Zah,Zb2,L3.Zaa,L3.Zag,Zab,gC,List.set_cons_zero,List.set_cons_succ,List.getElem?_cons_zero,List.getElem?_cons_succ]
    have g3p:put (put (put G s (.lst [.int x1,.bl b,.int c0])) p2 (.lst [.str "must",.str "may"])) s (.lst [.int x2,.bl b,.int c0]) p=some (.lst (l.map Zil)):=by rw [Zau nps,Zau n3];exact g1p
    refine ⟨Zk6 g3p,trivial,s,x2,d - 1,c0,b,pl,kn,rfl,by omega,by omega,Zaf,fun k x3 hk=>?_⟩
    refine ⟨(show 3≤sizeLine by decide),?_⟩
    refine Zto (by rw [Zau nps];exact g3p) (by rw [List.length_map];exact Zr5 (by omega)) ?_
    have ee:l.map Zil++[W.tup [.str nm,.str (mark m),k.enc]]=(l++[(nm,m,k)]).map Zil:=by rw [List.map_append];rfl
    rw [ee]
    have ec:(ofL (l++[(nm,m,k)])).cnt=(ofL l).cnt+k.cnt:=by rw [Zpq];rfl
    have hk3:=hk.2.2.1
    refine ZkH hd1 hd2 hc xs _ _ _ (l++[(nm,m,k)]) x3 (c0 - k.cnt) (by rw [Zau (Ne.symm nps)];exact Zaf) Zaf ?_ nps nqs nqp (by rw [List.length_append];simp only [List.length_cons,List.length_nil];omega) (by rw [ec];omega) (by rw [ec];omega) ?_
    ·rw [Zau nqp,Zau nqs,Zau nqs,Zau n4];exact g1q
    ·intro ω G' l2 x' hω f1 f1' f2 f3 f4 f5
     rw [List.append_assoc] at f1 f1' f2
     refine fin ω G' ((nm,m,k)::l2) x' hω f1 f1' f2 (fun c c1 c2 u hu=>f3 c c1 c2 u ?_) (f4.cons_cons nm) ?_
     ·have hc:put G s (.lst [.int x1,.bl b,.int c0]) c=some u:=by rw [Zau c1];exact hu
      rw [Zau c2,Zau c1,Zau c1,Zau (ZaM hc hp2)];exact hc
     ·intro z hz
      rcases List.mem_cons.mp hz with rfl | hz
      ·exact ⟨hk.1,hk.2.1⟩
      ·exact f5 z hz
   ·rw [if_neg (by simpa using h0)]
    exact skip _
theorem ZxN {G G':Hw} {s p:Addr} {S:HW} (hp:G p=none) (h:∀ b,b≠s→b≠p→∀ u,G b=some u→G' b=some u) (hs:G' s=some S):Sub (put G s S) G':=fun b u hu=>by
 by_cases hb:b=s
 ·subst hb;rw [Zaf] at hu;rw [hs];exact hu
 ·rw [Zau hb] at hu
  exact h b hb (fun e=>by subst e;rw [hp] at hu;cases hu) u hu
abbrev LA:List Str:=["a","ab","b","cab","zzzzzzzz"]
abbrev LB':List Str:=["any","in","inside","num","out"]
abbrev LC':List Str:=["aa","new","other","x","zz"]
theorem ZtF:ZsT LA:=⟨by decide +kernel,by decide +kernel,by decide⟩
theorem Zx6:ZsT LB':=⟨by decide +kernel,by decide +kernel,by decide⟩
theorem Zyq:ZsT LC':=⟨by decide +kernel,by decide +kernel,by decide⟩
abbrev gRT (sp:Spw):GS:=Zao (ZdZ (Zbc (Zaj (Zak ixW) (Zab 5) (Zaj (Zak ixW) (Zbv (L3.Zaa (gC (.int 0)) (L3.Zaa (gC (.int 0)) (L3.Zaa (gC (.int 1)) (L3.Zaa (gC (.int 2)) L3.Zag))))) (Zah ZgJ XF (L3.Zaa (Zab 0) (L3.Zaa (gC (.int 4)) L3.Zag)))))) (gNm 6) (gRB sp)) (Zaz (L3.ZaA (L3.Zaa (gC (.str "row")) (L3.Zaa (gB (rF ZhU) (L3.Zaa (Zab 4) L3.Zag)) (L3.Zaa (ZbV (Zaj (Zak (eqF false)) (Zah ZgJ XF (L3.Zaa (Zab 0) (L3.Zaa (gC (.int 2)) L3.Zag))) (gC (.int 1))) (Zck (Zab 3))) L3.Zag)))))
theorem ZzX {n:Nat} {G:Hw} {Q:Kw} {s p p3 p1 p2 p4:Addr} {x d c:Int} {b pl kn:Bool} (hC:Kw.C Q) (hd1:2≤d) (hd2:d≤(n:Int)+2) (hc:2≤c) (hs:G s=some (.lst [.int x,.bl b,.int c])) (hp:G p=some (.lst [])) (nps:p≠s)
  (h3:G p3=some (.lst [.ref p1,.ref p2,.ref p4])) (h1:G p1=some (.lst (LA.map W.str))) (h2:G p2=some (.lst (LB'.map W.str))) (h4:G p4=some (.lst (LC'.map W.str)))
  (q:∀ (k:Kd) (x':Int) G',wf k→(k.dp:Int)≤d→1≤k.cnt→(k.cnt:Int)≤c+d - 1→G' s=some (.lst [.int x',.bl b,.int (c+1 - k.cnt)])→(∀ b,b≠s→b≠p→∀ u,G b=some u→G' b=some u)→Q k.enc G') :
  gRT (Zk1 n) (Zaw Q) [some (.ref s),some (.int d),some (.bl pl),some (.bl kn),some (.ref p),some (.ref p3),none,none] G:=by
 unfold gRT
 simp only [Zao,ZdZ,Zbc,Zaj,Zbv,Zah,L3.Zaa,L3.Zag,Zab,gC,Zak,List.getElem?_cons_zero,List.getElem?_cons_succ]
 refine ⟨(show 4≤sizeLine by decide),fun p5 e5=>?_⟩
 have nsl:∀ {r:Addr} {L:List W},G r=some (.lst L)→L.length≠3→r≠s:=fun h hne e=>by
  subst e;rw [hs] at h;cases h;exact hne rfl
 have n5:s≠p5:=ZaM hs e5
 refine ⟨s,4,x,b,[.int c],rfl,by decide,by decide,by rw [Zau n5];exact hs,fun r x1 r0 r1=>?_⟩
 have keep:∀ a,a≠s→∀ u,G a=some u→put (put G p5 (.lst [.int 0,.int 0,.int 1,.int 2])) s (.lst [.int x1,.bl b,.int c]) a=some u:=fun a ha u hu=>by
  rw [Zau ha,Zau (ZaM hu e5)];exact hu
 have f5:put (put G p5 (.lst [.int 0,.int 0,.int 1,.int 2])) s (.lst [.int x1,.bl b,.int c]) p5=some (.lst [.int 0,.int 0,.int 1,.int 2]):=by rw [Zau (Ne.symm n5)];exact Zaf
 have fs:put (put G p5 (.lst [.int 0,.int 0,.int 1,.int 2])) s (.lst [.int x1,.bl b,.int c]) s=some (.lst [.int x1,.bl b,.int c]):=Zaf
 have n3:p3≠s:=fun e=>by
  subst e;rw [hs] at h3
  have:=HW.lst.inj (Option.some.inj h3)
  cases this
 generalize put (put G p5 (.lst [.int 0,.int 0,.int 1,.int 2])) s (.lst [.int x1,.bl b,.int c])=G1 at keep f5 fs ⊢
 have pick:∃ (pn:Addr) (L:List Str),ZsT L∧(∃ j:Int,atI [W.int 0,.int 0,.int 1,.int 2] r=some (.int j)∧atI [W.ref p1,.ref p2,.ref p4] j=some (.ref pn))∧G pn=some (.lst (L.map W.str))∧L.length≠3∧L≠[]:=by
  have:r=0∨r=1∨r=2∨r=3:=by omega
  rcases this with rfl | rfl | rfl | rfl
  ·exact ⟨p1,LA,ZtF,⟨0,rfl,rfl⟩,h1,by decide,by decide⟩
  ·exact ⟨p1,LA,ZtF,⟨0,rfl,rfl⟩,h1,by decide,by decide⟩
  ·exact ⟨p2,LB',Zx6,⟨1,rfl,rfl⟩,h2,by decide,by decide⟩
  ·exact ⟨p4,LC',Zyq,⟨2,rfl,rfl⟩,h4,by decide,by decide⟩
 obtain ⟨pn,L,gL,⟨j,ej1,ej2⟩,hn,hl3,hl0⟩:=pick
 show opt (ixW (.ref p5) (.int r) G1) _
 rw [Zg8 f5,ej1,Zad,Zg8 (keep p3 n3 _ h3),ej2,Zad]
 have npn:pn≠s:=nsl hn (by rw [List.length_map];exact hl3)
 have npp:pn≠p:=fun e=>by
  subst e;rw [hp] at hn
  have:=HW.lst.inj (Option.some.inj hn)
  cases L with
  | nil=>exact hl0 rfl
  | cons y L=>cases this
 simp only [keep pn npn _ hn]
 refine ZkH (n:=n) (c:=c) hd1 hd2 hc L none none G1 [] x1 c fs (keep p nps _ hp) (keep pn npn _ hn) nps npn npp (by have:=gL.2.2;simp only [List.length_nil];omega) (by show c=c - ((0:Nat):Int);omega) (by show ((0:Nat):Int)≤c+d - 2;omega) ?_
 intro ω G' l2 x' hω f1 f1' f2 f3 f4 f5'
 obtain ⟨u,v,rfl⟩:=hω
 rw [List.nil_append] at f1 f1' f2
 simp only [Zaz,L3.ZaA,gB,ZbV,Zck,Zaj,Zah,L3.Zaa,L3.Zag,Zab,gC,Zak,rF,List.getElem?_cons_zero,List.getElem?_cons_succ]
 rw [show ZhU [.ref p] G'=some (.tup (l2.map Zil)) by unfold ZhU;dsimp only;rw [ZiH f2];rfl,Zad]
 refine ⟨s,2,x',b,[.int (c - (ofL l2).cnt)],rfl,by decide,by decide,f1,fun r2 x2 _ _=>?_⟩
 have done:∀ o:Bool,3≤sizeLine∧Q (.tup [.str "row",.tup (l2.map Zil),.bl o]) (put G' s (.lst [.int x2,.bl b,.int (c - (ofL l2).cnt)])):=fun o=>by
  refine ⟨by decide,?_⟩
  have hl5:l2.length≤5:=by have h1:=f4.length_le;rw [List.length_map] at h1;have:=gL.2.2;omega
  have wk:wf (.row (ofL l2) o):=Zyb (gL.1.sublist f4) hl5 fun y hy=>⟨gL.2.1 _ (f4.subset (List.mem_map_of_mem hy)),(f5' y hy).1⟩
  have ek:(Kd.row (ofL l2) o).cnt=1+(ofL l2).cnt:=rfl
  have hdp:(ofL l2).dp≤(d - 1).toNat:=ZtL l2 fun y hy=>by have:=(f5' y hy).2;omega
  have ed:(Kd.row (ofL l2) o).dp=1+(ofL l2).dp:=rfl
  have:=q (.row (ofL l2) o) x2 (put G' s (.lst [.int x2,.bl b,.int (c - (ofL l2).cnt)])) wk (by rw [ed];omega) (by rw [ek];omega) (by rw [ek];omega) (by rw [Zaf,ek,show c+1 - ((1+(ofL l2).cnt:Nat):Int)=c - (ofL l2).cnt by omega]) fun a h1 h2 u hu=>by
   rw [Zau h1];exact f3 a h1 h2 u (keep a h1 u hu)
  rw [show (Kd.row (ofL l2) o).enc=.tup [.str "row",.tup (l2.map Zil),.bl o] by rw [← ZkO];rfl] at this
  exact this
 show opt (eqF false (.int r2) (.int 1) (put G' s (.lst [.int x2,.bl b,.int (c - (ofL l2).cnt)]))) _
 rw [show eqF false (.int r2) (.int 1) (put G' s (.lst [.int x2,.bl b,.int (c - (ofL l2).cnt)]))=some (.bl (r2==1)) by unfold eqF eqW;show some (W.bl ((r2==1) != false))=_;cases (r2==1) <;> rfl,Zad]
 dsimp only
 cases (r2==1) with
 | false=>exact done false
 | true=>rw [if_pos rfl];exact done (!kn)
theorem Zfw (T:Tx K mg base a) {m n:Nat} (hm:1≤m) (D:Df P w K mg base "_law_kind" m 4 (Zk1 n)):Df P w K mg base "_law_row" (m+1) 4 (Zus n):=by
 refine mk0 (k:=m) T.Zj6 rfl ZjO Zvv ((by rintro ws G Q E ⟨s,x,d,c,b,pl,kn,e,_⟩;rw [e];rfl)) (Zow T (Zaq T) hm D (Nat.le_refl _)) fun ws G Q E hC q=>?_
 obtain ⟨s,x,d,c,b,pl,kn,rfl,hd1,hd2,hc,hs,q⟩:=q
 unfold ZjW
 show Zao (ZaT 4 (Zbv L3.Zag)) _ (Zaw Q) [some (.ref s),some (.int d),some (.bl pl),some (.bl kn),none,none,none,none] G
 simp only [Zao,ZaT,Zbv,L3.Zaa,L3.Zag,gC,List.set_cons_zero,List.set_cons_succ]
 refine ⟨(show 0≤sizeLine by decide),fun p ep=>⟨(show 5≤sizeLine by decide),fun p1 e1=>⟨(show 5≤sizeLine by decide),fun p2 e2=>⟨(show 2≤sizeLine by decide),fun p3 e3=>?_⟩⟩⟩⟩
 have nps:p≠s:=Ne.symm (ZaM hs ep)
 have s0:Sub G (put G p (.lst [])):=Za3 ep
 have fp:put G p (.lst []) p=some (.lst []):=Zaf
 generalize put G p (.lst [])=G0 at *
 have s1:Sub G0 (put G0 p1 (.lst [.str "a",.str "ab",.str "b",.str "cab",.str "zzzzzzzz"])):=Za3 e1
 have f1:put G0 p1 (.lst [.str "a",.str "ab",.str "b",.str "cab",.str "zzzzzzzz"]) p1=some (.lst (LA.map W.str)):=Zaf
 generalize put G0 p1 (.lst [.str "a",.str "ab",.str "b",.str "cab",.str "zzzzzzzz"])=G1 at *
 have s2:Sub G1 (put G1 p2 (.lst [.str "any",.str "in",.str "inside",.str "num",.str "out"])):=Za3 e2
 have f2:put G1 p2 (.lst [.str "any",.str "in",.str "inside",.str "num",.str "out"]) p2=some (.lst (LB'.map W.str)):=Zaf
 generalize put G1 p2 (.lst [.str "any",.str "in",.str "inside",.str "num",.str "out"])=G2 at *
 have s3:Sub G2 (put G2 p3 (.lst [.ref p1,.ref p2])):=Za3 e3
 have f3:put G2 p3 (.lst [.ref p1,.ref p2]) p3=some (.lst [.ref p1,.ref p2]):=Zaf
 have e3':=e3
 generalize put G2 p3 (.lst [.ref p1,.ref p2])=G3 at s3 f3 ⊢
 simp only [Zbd,gMt,Zab,L3.Zaa,L3.Zag,Zbv,gC,List.getElem?_cons_zero,List.getElem?_cons_succ]
 refine ⟨Zk6 f3,(show 5≤sizeLine by decide),fun p4 e4=>?_⟩
 have s4:Sub G3 (put G3 p4 (.lst [.str "aa",.str "new",.str "other",.str "x",.str "zz"])):=Za3 e4
 have f4:put G3 p4 (.lst [.str "aa",.str "new",.str "other",.str "x",.str "zz"]) p4=some (.lst (LC'.map W.str)):=Zaf
 generalize put G3 p4 (.lst [.str "aa",.str "new",.str "other",.str "x",.str "zz"])=G4 at s4 f4 ⊢
 refine Zto (s4 _ _ f3) (show 2 < sizeLine by decide) ?_
 have S2:Sub G G2:=(s0.trans s1).trans s2
 have n3:∀ {r:Addr} {o:HW},G2 r=some o→r≠p3:=fun h=>ZaM h e3'
 have keep:∀ r o,G2 r=some o→put G4 p3 (.lst ([.ref p1,.ref p2]++[.ref p4])) r=some o:=fun r o h=>by rw [Zau (n3 h)];exact s4 _ _ (s3 _ _ h)
 have n43:p4≠p3:=fun e=>by subst e;rw [f3] at e4;cases e4
 refine ZzX (x:=x) hC hd1 hd2 hc (keep _ _ (S2 _ _ hs)) (keep _ _ (s2 _ _ (s1 _ _ fp))) nps Zaf (keep _ _ (s2 _ _ f1)) (keep _ _ f2) (by rw [Zau n43];exact f4) fun k x' G' w1 w2 w3 w4 hG hk=>?_
 refine hC _ _ _ (ZxN ep (fun r h1 h2 u hu=>hk r h1 h2 u (keep _ _ (S2 _ _ hu))) hG) (q k x' w1 w2 w3 w4)
theorem ZuP {r:Int} (h0:0≤r) (h6:r < 3):∃ k:Kd,(k=.any∨k=.num∨k=.truth)∧atI [W.tup [.str "num"],W.tup [.str "truth"],W.tup [.str "any"]] r=some k.enc:=by
 have:r=0∨r=1∨r=2:=by omega
 rcases this with e | e | e
 ·exact ⟨.num,.inr (.inl rfl),by rw [e];exact ZbC⟩
 ·exact ⟨.truth,.inr (.inr rfl),by rw [e];exact ZbW⟩
 ·exact ⟨.any,.inl rfl,by rw [e];exact Zb5⟩
theorem Zp2 {k:Kd} (h:k=.any∨k=.num∨k=.truth):wf k∧k.dp=1∧k.cnt=1:=by rcases h with rfl | rfl | rfl <;> exact ⟨⟨rfl,rfl⟩,rfl,rfl⟩
abbrev gLf:GS:=(Zao (ZaT 5 (Zbv (L3.Zaa (L3.ZaA (L3.Zaa (gC (.str "num")) L3.Zag)) (L3.Zaa (L3.ZaA (L3.Zaa (gC (.str "truth")) L3.Zag)) (L3.Zaa (L3.ZaA (L3.Zaa (gC (.str "any")) L3.Zag)) L3.Zag))))) (Zaz (Zaj (Zak ixW) (Zab 5) (Zah ZgJ XF (L3.Zaa (Zab 0) (L3.Zaa (Zaj (Zb2 (fun _ _=>True) fun i j=>i - j) (gC (.int 3)) (gB (rF Zmq) (L3.Zaa (Zab 3) L3.Zag))) L3.Zag))))))
theorem Zzx {G:Hw} {Q:Kw} {D:Ew} (hD:D.rt=Q) {s:Addr} {x c:Int} {b kn:Bool} {w1 w2 w4:Option W} (hC:Kw.C Q) (hs:G s=some (.lst [.int x,.bl b,.int c])) (q:∀ (k:Kd) (x':Int),(k=.any∨k=.num∨k=.truth)→Q k.enc (put G s (.lst [.int x',.bl b,.int c]))) :
  gLf D [some (.ref s),w1,w2,some (.bl kn),w4,none] G:=by
 unfold gLf
 simp only [Zao,ZaT,Zaz,Zbv,L3.ZaA,Zaj,Zah,gB,rF,L3.Zaa,L3.Zag,Zab,gC,Zak,Zb2,List.set_cons_zero,List.set_cons_succ,List.getElem?_cons_zero,List.getElem?_cons_succ]
 refine ⟨by decide,by decide,by decide,by decide,fun p hp=>?_⟩
 have ei:Zmq [.bl kn] (put G p (.lst [.tup [.str "num"],.tup [.str "truth"],.tup [.str "any"]]))=some (.int (if kn then 1 else 0)):=by cases kn <;> rfl
 rw [ei,Zad]
 have n:s≠p:=ZaM hs hp
 refine ⟨trivial,s,_,x,b,[.int c],rfl,by cases kn <;> decide,by cases kn <;> decide,by rw [Zau n];exact hs,fun r x1 r0 r1=>?_⟩
 have r3:r < 3:=by cases kn with | true=>have:r < 3 - 1:=r1;omega | false=>have:r < 3 - 0:=r1;omega
 obtain ⟨k,hk,ek⟩:=ZuP r0 r3
 show opt (ixW (.ref p) (.int r) _) _
 rw [Zg8 (by rw [Zau (Ne.symm n)];exact Zaf),ek,Zad,hD]
 refine hC _ _ _ (fun a o h=>?_) (q k x1 hk)
 by_cases ha:a=s
 ·subst ha;rw [Zaf] at h ⊢;exact h
 ·rw [Zau ha] at h ⊢;rw [Zau (ZaM h hp)];exact h
theorem ZuU {d c:Int} {k:Kd} (hd:1≤d) (h:k=.any∨k=.num∨k=.truth):gk d c k:=by
 obtain ⟨w,e1,e2⟩:=Zp2 h
 exact ⟨w,by omega,by omega,fun _=>e2⟩
theorem Zp3 {n:Nat} {spK spR':Spw} {ws:List W} {G:Hw} {Q:Kw} {E:Addr→Hw→Prop} (hC:Kw.C Q) (q:Zk1 n ws G Q E) (hK:n=0∨∃ m,n=m+1∧spK=Zk1 m∧spR'=Zus m):ZgB ZgJ spK spR' (Zaw Q) (ZaQ ZgH ws) G:=by
 obtain ⟨s,x,d,c,b,pl,kn,rfl,hd1,hd2,hs,q⟩:=q
 unfold ZgB
 show Zao (Zb6 _ _ _) _ (Zaw Q) [some (.ref s),some (.int d),some (.bl pl),some (.bl kn),none,none] G
 simp only [Zao,Zb6,Zaj,Zb2,Zak,Zab,gC,List.getElem?_cons_zero,List.getElem?_cons_succ,ix2 hs,Zad]
 refine ⟨trivial,ZqS hs ?_⟩
 have h1:put G s (.lst [.int x,.bl b,.int (c - 1)]) s=some (.lst [.int x,.bl b,.int (c - 1)]):=Zaf
 simp only [ZaT,Zah,L3.Zaa,L3.Zag,Zab,gC,List.getElem?_cons_zero,List.getElem?_cons_succ]
 refine ⟨s,8,x,b,[.int (c - 1)],rfl,by decide,by decide,h1,fun r x1 r0 r8=>?_⟩
 rw [ZdU]
 have h2:put G s (.lst [.int x1,.bl b,.int (c - 1)]) s=some (.lst [.int x1,.bl b,.int (c - 1)]):=Zaf
 walk_at "pd"
 have leaf:gLf { Zaw Q with nx:=(fun _ _=>False) } [some (.ref s),some (.int d),some (.bl pl),some (.bl kn),some (.int r),none] (put G s (.lst [.int x1,.bl b,.int (c - 1)])):=by
  refine Zzx (Q:=Q) rfl hC h2 fun k x2 hk=>?_
  rw [ZdU]
  have:=q k x2 (ZuU hd1 hk)
  rw [(Zp2 hk).2.2] at this
  exact this
 have gif:∀ {t:GT} {ZbG:GS} {b':Bool},(∀ R:Bool→Hw→Prop,R b' (put G s (.lst [.int x1,.bl b,.int (c - 1)]))→t [some (.ref s),some (.int d),some (.bl pl),some (.bl kn),some (.int r),none] (put G s (.lst [.int x1,.bl b,.int (c - 1)])) R)→(b'=false→ZbG (Zaw Q) [some (.ref s),some (.int d),some (.bl pl),some (.bl kn),some (.int r),none] (put G s (.lst [.int x1,.bl b,.int (c - 1)]))) →
   Zao (gIf t gLf Zan) ZbG (Zaw Q) [some (.ref s),some (.int d),some (.bl pl),some (.bl kn),some (.int r),none] (put G s (.lst [.int x1,.bl b,.int (c - 1)])):=by
  intro t ZbG b' ht hr
  refine ht _ ?_
  cases b' with
  | true=>exact leaf
  | false=>exact hr rfl
 refine gif (b':=decide (d < 2)||decide (c - 1 < 2)||decide (r < 2)) (fun R hR=>?_) fun hb=>?_
 ·simp only [gOr,gTB,Zaj,Zee,Zak,Zab,gC,List.getElem?_cons_zero,List.getElem?_cons_succ]
  by_cases z1:d < 2
  ·simp only [z1,decide_true,if_true,Bool.true_or] at hR ⊢;exact hR
  ·simp only [z1,decide_false,Bool.false_eq_true,if_false,Bool.false_or] at hR ⊢
   rw [ix2 h2,Zad]
   dsimp only
   by_cases z2:c - 1 < 2
   ·simp only [z2,decide_true,if_true,Bool.true_or] at hR ⊢;exact hR
   ·simp only [z2,decide_false,Bool.false_eq_true,if_false,Bool.false_or] at hR ⊢
    exact hR
 ·simp only [Bool.or_eq_false_iff,decide_eq_false_iff_not,Int.not_lt] at hb
  obtain ⟨⟨b1,b2⟩,b3⟩:=hb
  rcases hK with rfl | ⟨m,rfl,rfl,rfl⟩
  ·exact absurd hd2 (by omega)
  have two:∀ {t:GT} {B ZbG:GS} (b':Bool),(∀ R:Bool→Hw→Prop,R b' (put G s (.lst [.int x1,.bl b,.int (c - 1)]))→t [some (.ref s),some (.int d),some (.bl pl),some (.bl kn),some (.int r),none] (put G s (.lst [.int x1,.bl b,.int (c - 1)])) R)→B { Zaw Q with nx:=ZbG (Zaw Q) } [some (.ref s),some (.int d),some (.bl pl),some (.bl kn),some (.int r),none] (put G s (.lst [.int x1,.bl b,.int (c - 1)]))→ZbG (Zaw Q) [some (.ref s),some (.int d),some (.bl pl),some (.bl kn),some (.int r),none] (put G s (.lst [.int x1,.bl b,.int (c - 1)])) →
    Zao (gIf t B Zan) ZbG (Zaw Q) [some (.ref s),some (.int d),some (.bl pl),some (.bl kn),some (.int r),none] (put G s (.lst [.int x1,.bl b,.int (c - 1)])):=by
   intro t B ZbG b' ht h1 h2
   refine ht _ ?_
   cases b' with
   | true=>exact h1
   | false=>exact h2
  refine two (decide (r < 4)&&!pl) (fun R hR=>?_) ?_ ?_
  ·simp only [Zft,gTB,gNt,Zc9,Zaj,Zee,Zab,gC,List.getElem?_cons_zero,List.getElem?_cons_succ]
   by_cases z:r < 4
   ·simp only [z,decide_true,if_true,Bool.true_and,Zev] at hR ⊢;exact hR
   ·simp only [z,decide_false,Bool.false_eq_true,if_false,Bool.false_and] at hR ⊢;exact hR
  ·simp only [Zaz,L3.ZaA,Zah,Zaj,Zb2,L3.Zaa,L3.Zag,Zab,gC,List.getElem?_cons_zero,List.getElem?_cons_succ]
   refine ⟨trivial,s,x1,d - 1,c - 1,b,pl,kn,rfl,by omega,by omega,h2,fun k1 x2 g1=>?_⟩
   refine ⟨trivial,s,x2,d - 1,c - 1 - k1.cnt,b,pl,kn,rfl,by omega,by omega,Zaf,fun k2 x3 g2=>⟨(show 3≤sizeLine by decide),?_⟩⟩
   rw [ZdU,ZdU]
   have ek:(Kd.to k1 k2).cnt=1+(k1.cnt+k2.cnt):=rfl
   have ed:(Kd.to k1 k2).dp=1+max k1.dp k2.dp:=rfl
   obtain ⟨u1,u2,u3,u4⟩:=g1
   obtain ⟨v1,v2,v3,v4⟩:=g2
   have:=q (.to k1 k2) x3 ⟨ZzW u1 v1,by rw [ed];omega,by rw [ek];by_cases z:c - 1 - (k1.cnt:Int)≤2 <;> omega,fun z=>absurd z (by omega)⟩
   rw [ek] at this
   rw [show c - 1 - (k1.cnt:Int) - k2.cnt=c - ((1+(k1.cnt+k2.cnt):Nat):Int) by omega]
   exact this
  ·refine two ((r==4)&&!pl) (fun R hR=>?_) ?_ ?_
   ·simp only [Zft,gTB,gNt,Zc9,Zaj,Zak,Zab,gC,List.getElem?_cons_zero,List.getElem?_cons_succ]
    show opt (eqF false (.int r) (.int 4) (put G s (.lst [.int x1,.bl b,.int (c - 1)]))) _
    rw [show eqF false (.int r) (.int 4) (put G s (.lst [.int x1,.bl b,.int (c - 1)]))=some (.bl (r==4)) by unfold eqF eqW;show some (W.bl ((r==4) != false))=_;cases (r==4) <;> rfl,Zad]
    dsimp only
    cases hz:(r==4) with
    | true=>rw [hz] at hR;simp only [if_true,Bool.true_and,Zev] at hR ⊢;exact hR
    | false=>rw [hz] at hR;simp only [Bool.false_eq_true,if_false,Bool.false_and] at hR ⊢;exact hR
   ·simp only [Zaz,L3.ZaA,Zah,Zaj,Zb2,L3.Zaa,L3.Zag,Zab,gC,List.getElem?_cons_zero,List.getElem?_cons_succ]
    refine ⟨trivial,s,x1,d - 1,c - 1,b,pl,kn,rfl,by omega,by omega,h2,fun k1 x2 g1=>⟨(show 2≤sizeLine by decide),?_⟩⟩
    rw [ZdU]
    have ek:(Kd.box k1).cnt=1+k1.cnt:=rfl
    have ed:(Kd.box k1).dp=1+k1.dp:=rfl
    obtain ⟨u1,u2,u3,u4⟩:=g1
    have:=q (.box k1) x2 ⟨Zwd u1,by rw [ed];omega,by rw [ek];omega,fun z=>absurd z (by omega)⟩
    rw [ek] at this
    rw [show c - 1 - (k1.cnt:Int)=c - ((1+k1.cnt:Nat):Int) by omega]
    exact this
   ·simp only [Zaz,Zah,L3.Zaa,L3.Zag,Zab,List.getElem?_cons_zero,List.getElem?_cons_succ]
    refine ⟨s,x1,d,c - 1,b,pl,kn,rfl,by omega,by omega,by omega,h2,fun k x2 w1 w2 w3 w4=>?_⟩
    rw [ZdU]
    have:=q k x2 ⟨w1,w2,by omega,fun z=>absurd z (by omega)⟩
    rw [show c - 1+1 - (k.cnt:Int)=c - k.cnt by omega]
    exact this
theorem Za0 (T:Tx K mg base a):∀ n:Nat,Df P w K mg base "_law_kind" (2*n+2) 4 (Zk1 n)
 | 0=>mk0 (k:=1) T.Zgv rfl Zgw Zp1 ((by rintro ws G Q E ⟨s,x,d,c,b,pl,kn,e,_⟩;rw [e];rfl)) (ZiL T (Zaq T) (Nat.le_refl _) (Zo0 (sp:=Zzy) (k:=0) T.Zgv Zta fun _ _ _ _ h=>h) (by omega) (Zo0 (sp:=Zzy) (k:=0) T.Zj6 Zta fun _ _ _ _ h=>h) (by omega)) fun ws G Q E hC q=>Zp3 hC q (.inl rfl)
 | n+1=>mk0 (k:=2*n+3) T.Zgv rfl Zgw Zp1 ((by rintro ws G Q E ⟨s,x,d,c,b,pl,kn,e,_⟩;rw [e];rfl)) (ZiL T (Zaq T) (by omega) (Za0 T n) (by omega) (Zfw T (by omega) (Za0 T n)) (by omega)) fun ws G Q E hC q=>Zp3 hC q (.inr ⟨n,rfl,rfl,rfl⟩)
def kd8 (k:Kd):Prop:=wf k∧k.cnt≤40∧k.dp≤8
def Zz5:Spw:=fun ws G Q _=>∃ (ns:List Int) (i:Int) (pl kn:Bool),ws=[.rol (ns.map W.int),.int i,.bl pl,.bl kn]∧0≤i∧∀ k:Kd,kd8 k→Q k.enc G
theorem ZxT:Spw.M Zz5:=(by rintro ws G Q Q' E E' h _ ⟨ns,i,pl,kn,h1,h2,q⟩;exact ⟨ns,i,pl,kn,h1,h2,fun k g=>h _ _ (q k g)⟩)
theorem Zen {G:Hw} {p:Addr} {o:HW} (h:G p=none) {G1:Hw} (s:Sub G G1):Sub G (put G1 p o):=fun a u hu=>by rw [Zau (ZaM hu h)];exact s _ _ hu
theorem ZbX (T:Tx K mg base a):Df P w K mg base "_law_drawn_kind" 17 4 Zz5:=by
 refine mk0 (k:=16) T.ZhF rfl Zei ZxT ((by rintro ws G Q E ⟨ns,i,pl,kn,e,_⟩;rw [e];rfl)) (ZhB T (Zbt T) (by omega) (Zaq T) (by omega) (Za0 T 7) (by omega)) fun ws G Q E hC q=>?_
 obtain ⟨ns,i,pl,kn,rfl,h0,q⟩:=q
 unfold Zeo
 show Zao (ZaT 4 _) _ (Zaw Q) [some (.rol (ns.map W.int)),some (.int i),some (.bl pl),some (.bl kn),none,none] G
 simp only [Zao,ZaT,Zaj,Zah,Zbv,L3.Zaa,L3.Zag,Zab,gC,List.getElem?_cons_zero,List.getElem?_cons_succ]
 refine ⟨ns,i,rfl,h0,fun p x b hp=>⟨(show 1≤sizeLine by decide),fun p1 e1=>?_⟩⟩
 have s0:Sub G (put G p (.lst [.int x,.bl b])):=Za3 hp
 have f0:put G p (.lst [.int x,.bl b]) p=some (.lst [.int x,.bl b]):=Zaf
 generalize put G p (.lst [.int x,.bl b])=G0 at s0 f0 e1 ⊢
 have s1:Sub G0 (put G0 p1 (.lst [.int 9])):=Za3 e1
 have f1:put G0 p1 (.lst [.int 9]) p1=some (.lst [.int 9]):=Zaf
 generalize put G0 p1 (.lst [.int 9])=G1 at s1 f1 ⊢
 rw [Zhb (by rintro ⟨⟨_,h⟩,_⟩;cases h)]
 unfold L3.ZdG
 simp only [s1 _ _ f0,f1]
 refine ⟨(show 3≤sizeLine by decide),fun s es=>?_⟩
 have S:Sub G G1:=s0.trans s1
 have hsG:G s=none:=by
  cases z:G s with
  | none=>rfl
  | some u=>rw [S _ _ z] at es;cases es
 have hs:put G1 s (.lst ([.int x,.bl b]++[.int 9])) s=some (.lst [.int x,.bl b,.int 9]):=Zaf
 have S2:Sub G (put G1 s (.lst ([.int x,.bl b]++[.int 9]))):=Zen hsG S
 generalize put G1 s (.lst ([.int x,.bl b]++[.int 9]))=G2 at hs S2 ⊢
 simp only [List.set_cons_zero,List.set_cons_succ,gIf,gTB,Zaj,Zah,Zak,L3.Zaa,L3.Zag,Zab,gC,List.getElem?_cons_zero,List.getElem?_cons_succ]
 refine ⟨s,6,x,b,[.int 9],rfl,by decide,by decide,hs,fun r x1 r0 r1=>?_⟩
 have h3:put G2 s (.lst [.int x1,.bl b,.int 9]) s=some (.lst [.int x1,.bl b,.int 9]):=Zaf
 show opt (eqF false (.int r) (.int 1) (put G2 s (.lst [.int x1,.bl b,.int 9]))) _
 rw [show eqF false (.int r) (.int 1) (put G2 s (.lst [.int x1,.bl b,.int 9]))=some (.bl (r==1)) by unfold eqF eqW;show some (W.bl ((r==1) != false))=_;cases (r==1) <;> rfl,Zad]
 dsimp only
 cases (r==1) with
 | false =>
  simp only [Bool.false_eq_true,if_false,Zan,Zaz,Zah,L3.Zaa,L3.Zag,Zab,List.getElem?_cons_zero,List.getElem?_cons_succ]
  refine ⟨s,x1,3,9,b,pl,kn,rfl,by decide,by decide,h3,fun k x2 g=>?_⟩
  obtain ⟨u1,u2,u3,_⟩:=g
  exact hC _ _ _ (Zen hsG (Zen hsG S2)) (q k ⟨u1,by omega,by omega⟩)
 | true =>
  simp only [if_true,Zao,Zb6,ZaT,Zab,gC,List.getElem?_cons_zero,List.getElem?_cons_succ]
  refine ZqS h3 ?_
  simp only [List.set_cons_zero,List.set_cons_succ,Zaz,Zah,L3.Zaa,L3.Zag,Zab,List.getElem?_cons_zero,List.getElem?_cons_succ]
  refine ⟨s,x1,8,30,b,pl,kn,rfl,by decide,by decide,Zaf,fun k x2 g=>?_⟩
  obtain ⟨u1,u2,u3,_⟩:=g
  exact hC _ _ _ (Zen hsG (Zen hsG (Zen hsG S2))) (q k ⟨u1,by omega,by omega⟩)
local macro_rules | `(tactic| walk_at "rd") => `(tactic| ((try dsimp only [Zao,gIf,Zaz,ZaT,Zbd,Zan,Zab,gC,Zaj,gTB,Zc9,gNt,Zft,gOr,ZbV,Zfv,Zck,Zfp,L3.ZaA,Zbv,L3.Zaa,L3.Zag,Zah,gB,rF,Zak,ZbE,gMt,Zha,Za6,Zee,Zfq,Zb2,L3.ZdG,Zcu,gSl,ZbP,ZaF,Zbu,Zbc,ZgW,Zaw,ZaQ,List.map_cons,List.map_nil,List.length_cons,List.length_nil,List.cons_append,List.nil_append,List.getElem?_cons_zero,List.getElem?_cons_succ,List.set_cons_zero,List.set_cons_succ,List.replicate,Zev,tyN,Zad,ZbC,ZbW,Zb5,ixW,eqF,eqW,Zed,Zfl,ZgC,List.getElem?_nil]); (try simp only [Zao,gIf,Zaz,ZaT,Zbd,Zan,Zab,gC,Zaj,gTB,Zc9,gNt,Zft,gOr,ZbV,Zfv,Zck,Zfp,L3.ZaA,Zbv,L3.Zaa,L3.Zag,Zah,gB,rF,Zak,ZbE,gMt,Zha,Za6,Zee,Zfq,Zb2,L3.ZdG,Zcu,gSl,ZbP,ZaF,Zbu,Zbc,ZgW,Zaw,ZaQ,List.map_cons,List.map_nil,List.length_cons,List.length_nil,List.cons_append,List.nil_append,List.getElem?_cons_zero,List.getElem?_cons_succ,List.set_cons_zero,List.set_cons_succ,List.replicate,Zev,tyN,Zad,ZbC,ZbW,Zb5,ixW,eqF,eqW,Zed,Zfl,ZgC,List.getElem?_nil])))
def Fs.find:Fs→Str→Option (Bool×Kd)
 | .nil,_=>none
 | .cons n m k r,x=>if n=x then some (m,k) else r.find x
inductive En where
 | free | nope | told (m:Bool) (k:Kd)
def En.enc:En→W
 | .free=>.tup [.str "free"]
 | .nope=>.tup [.str "none"]
 | .told m k=>.tup [.str (mark m),k.enc]
def ent (fs:Fs) (o:Bool) (x:Str):En:=match fs.find x with | some (m,k)=>.told m k | none=>if o then .free else .nope
theorem Zn6:∀ {fs:Fs} {x:Str} {m:Bool} {k:Kd},fs.find x=some (m,k)→k∈fs.kinds∧x∈fs.names
 | .nil,x,m,k,h=>by cases h
 | .cons n m' k' r,x,m,k,h=>by
  unfold Fs.find at h
  split at h
  ·rename_i e
   cases h
   subst e
   exact ⟨List.mem_cons_self,List.mem_cons_self⟩
  ·obtain ⟨h1,h2⟩:=Zn6 h
   exact ⟨List.mem_cons_of_mem _ h1,List.mem_cons_of_mem _ h2⟩
theorem find_some:∀ {fs:Fs} {x:Str},x∈fs.names→∃ m k,fs.find x=some (m,k)
 | .nil,x,h=>by cases h
 | .cons n m' k' r,x,h=>by
  unfold Fs.find
  split
  ·exact ⟨m',k',rfl⟩
  ·rename_i e
   rcases List.mem_cons.mp h with z | z
   ·exact absurd z.symm e
   ·exact find_some z
theorem Zn2 (a:Str):Zbi a a=false:=by
 unfold Zbi
 exact decide_eq_false (List.lt_irrefl _)
theorem Zuw {a b c:Str} (h1:Zbi a b=true) (h2:Zbi b c=true):Zbi a c=true:=by
 unfold Zbi at h1 h2 ⊢
 exact decide_eq_true (List.lt_trans (of_decide_eq_true h1) (of_decide_eq_true h2))
theorem ZnR:∀ {ns:List Str},ZkB ns=true→ns.Pairwise (fun x y=>Zbi x y=true)
 | [],_=>.nil
 | [_],_=>.cons (fun _ h=>by cases h) .nil
 | x::y::r,h=>by
  have h':(Zbi x y&&ZkB (y::r))=true:=h
  walk_at "pj"
  have ih:=ZnR h'.2
  refine .cons (fun z hz=>?_) ih
  rcases List.mem_cons.mp hz with rfl | hz
  ·exact h'.1
  ·exact Zuw h'.1 ((List.pairwise_cons.mp ih).1 z hz)
theorem ZnA:∀ {xs ys:List Str},xs.Pairwise (fun x y=>Zbi x y=true)→ys.Pairwise (fun x y=>Zbi x y=true)→(∀ x,x∈xs↔x∈ys)→xs=ys
 | [],[],_,_,_=>rfl
 | [],y::ys,_,_,h=>by cases (h y).mpr List.mem_cons_self
 | x::xs,[],_,_,h=>by cases (h x).mp List.mem_cons_self
 | x::xs,y::ys,hx,hy,h=>by
  obtain ⟨a1,a2⟩:=List.pairwise_cons.mp hx
  obtain ⟨b1,b2⟩:=List.pairwise_cons.mp hy
  have e:x=y:=by
   rcases List.mem_cons.mp ((h x).mp List.mem_cons_self) with e | e
   ·exact e
   ·rcases List.mem_cons.mp ((h y).mpr List.mem_cons_self) with e' | e'
    ·exact e'.symm
    ·have:=Zuw (a1 y e') (b1 x e)
     rw [Zn2] at this
     cases this
  subst e
  congr 1
  refine ZnA a2 b2 fun z=>⟨fun hz=>?_,fun hz=>?_⟩
  ·rcases List.mem_cons.mp ((h z).mp (List.mem_cons_of_mem _ hz)) with e | e
   ·subst e;have:=a1 _ hz;rw [Zn2] at this;cases this
   ·exact e
  ·rcases List.mem_cons.mp ((h z).mpr (List.mem_cons_of_mem _ hz)) with e | e
   ·subst e;have:=b1 _ hz;rw [Zn2] at this;cases this
   ·exact e
theorem Ztw {fs:Fs} {o:Bool} (h:(Kd.row fs o).ok=true):fs.names.Pairwise (fun x y=>Zbi x y=true)∧∀ c∈fs.kinds,c.ok=true:=by
 have h':(ZkB fs.names&&fs.ok)=true:=h
 walk_at "pj"
 exact ⟨ZnR h'.1,ZgF h'.2⟩
theorem ZsZ {fs:Fs} {o:Bool} {x:Str} (h:x∈fs.names):∃ m k,ent fs o x=.told m k∧fs.find x=some (m,k):=by
 obtain ⟨m,k,e⟩:=find_some h
 exact ⟨m,k,by unfold ent;rw [e],e⟩
abbrev Zki:List Str:=["row","name","field"]
theorem Zka:Zap Zki ["row","name"] (Zae ZhM):=by walk_at "s"
def Zj8:GS:=(Zao (ZdZ (Zbc (Zaj (Zak ixW) (Zab 0) (gC (.int 1)))) (gNm 2) (gIf (gTB (Zaj (Zak (eqF false)) (Zaj (Zak ixW) (Zab 2) (gC (.int 0))) (Zab 1))) (Zaz (ZaA (Zaa (Zaj (Zak ixW) (Zab 2) (gC (.int 1))) (Zaa (Zaj (Zak ixW) (Zab 2) (gC (.int 2))) Zag)))) Zan)) (Zaz (Zfp (Zc9 (Zaj (Zak ixW) (Zab 0) (gC (.int 2)))) (ZaA (Zaa (gC (.str "free")) Zag)) (ZaA (Zaa (gC (.str "none")) Zag)))))
theorem ZoL {k:Nat} (T:Tx K mg base a):Dn P w K mg base Zki "entry_of" ZhM k (Zj8):=by
 have hN:=Zka.nd
 walk_at "z"
abbrev Zj0:List Str:=["row"]
theorem Zj1:Zap Zj0 ["row"] (Zae Zhs):=by walk_at "s"
def Zkj:GS:=(Zaz (Zbu (Zbc (Zaj (Zak ixW) (Zab 0) (gC (.int 1)))) 1 (gNm 0) ZhL (Zaj (Zak ixW) (Zab 0) (gC (.int 0)))))
theorem ZoC {k:Nat} (T:Tx K mg base a):Dn P w K mg base Zj0 "names_of" Zhs k (Zkj):=fun {f cdv A outer s H E} hr =>
 have hu:=Zfy hr
 have hN:=Zj1.nd
 (ZaI (Zb0 (Ze0 (Nc:=["field"]) rfl (Ztn rfl (by decide +kernel) (by decide +kernel)) (fun _=>rfl) (by walk_at "v") (Zfs (i:=0) (by decide) rfl rfl) (fun C fp s1 H1=>ZbN) (fun C fp s1 H1=>(by walk_at "v")))))
abbrev ZeQ:List Str:=["one","other"]
theorem Ze4:Zap ZeQ ["one","other"] (Zae Zdy):=by walk_at "s"
def Zfb (Zds:Spw):GS:=(Zaz (Zeu (Zah Zds XF (Zaa (Zab 0) Zag)) (Zah Zds XF (Zaa (Zab 1) Zag))))
theorem Zjb {k:Nat} (T:Tx K mg base a) {Zfj:Nat} {Zds:Spw} (ZvT:Df P w K mg base "names_of" Zfj 1 Zds) (Zv1:Zfj≤k):Dn P w K mg base ZeQ "names_of_both" Zdy k (Zfb Zds):=by
 have hN:=Ze4.nd
 walk_at "z"
abbrev Zhc:List Str:=["one","other"]
theorem ZgZ:Zap Zhc ["one","other"] (Zae Zcy):=by walk_at "s"
def ZeD (Zcv:Spw) (E:Addr→Hw→Prop):GS:=(Zao (Zbd (Zah Zcv (fun _=>E) (Zaa (Zab 0) Zag))) (Zbd (Zah Zcv (fun _=>E) (Zaa (Zab 1) Zag))))
theorem Zkr {k:Nat} (T:Tx K mg base a) {ZdM:Nat} {Zcv:Spw} (ZhQ:Df P w K mg base "check_kind" ZdM 1 Zcv) (Zid:ZdM≤k) {f:Addr} {cdv:Value} {A:Around} {outer:List Env} {s:Shared} {H:Hp} {E:XK} (hr:Room k (A.deeper (envOfC "check_kinds" (Zae Zcy) s.heap.objs.size f cdv))):Ssm (cxW P w K mg base Zhc "check_kinds" (Zae Zcy) f cdv A outer s H E) (fun B=>B=H) (Zbe Zcy) (ZeD Zcv (dnX K H E)) :=
 have hu:=Zfy hr
 have hN:=ZgZ.nd
 (Zal (Zbl rfl (ZaZ ZhQ (hr.mono Zid) rfl ZbB rfl rfl rfl (by walk_at "v"))) (ZaI (Zbl rfl (ZaZ ZhQ (hr.mono Zid) rfl ZbB rfl rfl rfl (by walk_at "v")))))
local macro_rules | `(tactic| walk_at "rd") => `(tactic| ((try dsimp only [ZkM,Zba,ZgG,Zeu,Zbg,Zf2,Zao,gIf,Zaz,ZaT,Zbd,Zan,Zab,gC,Zaj,gTB,Zc9,gNt,Zft,gOr,ZbV,Zfv,Zck,Zfp,L3.ZaA,Zbv,L3.Zaa,L3.Zag,Zah,gB,rF,Zak,ZbE,gMt,Zha,Za6,Zee,Zfq,Zb2,L3.ZdG,Zcu,gSl,ZbP,ZaF,Zbu,Zbc,ZgW,ZdZ,Zaw,ZaQ,List.map_cons,List.map_nil,List.length_cons,List.length_nil,List.cons_append,List.nil_append,List.getElem?_cons_zero,List.getElem?_cons_succ,List.set_cons_zero,List.set_cons_succ,List.replicate,Zev,tyN,Zad,ZbC,ZbW,Zb5,ixW,eqF,eqW,Zed,Zfl,ZgC,List.getElem?_nil]); (try simp only [ZkM,Zba,ZgG,Zeu,Zbg,Zf2,Zao,gIf,Zaz,ZaT,Zbd,Zan,Zab,gC,Zaj,gTB,Zc9,gNt,Zft,gOr,ZbV,Zfv,Zck,Zfp,L3.ZaA,Zbv,L3.Zaa,L3.Zag,Zah,gB,rF,Zak,ZbE,gMt,Zha,Za6,Zee,Zfq,Zb2,L3.ZdG,Zcu,gSl,ZbP,ZaF,Zbu,Zbc,ZgW,ZdZ,Zaw,ZaQ,List.map_cons,List.map_nil,List.length_cons,List.length_nil,List.cons_append,List.nil_append,List.getElem?_cons_zero,List.getElem?_cons_succ,List.set_cons_zero,List.set_cons_succ,List.replicate,Zev,tyN,Zad,ZbC,ZbW,Zb5,ixW,eqF,eqW,Zed,Zfl,ZgC,List.getElem?_nil])))
theorem Zcz (k:Kd) (G:Hw):ixW k.enc (.int 0) G=some (.str k.hd):=by
 obtain ⟨xs,e⟩:=Zu1 k
 rw [e];exact ZbC
abbrev Zi5:Spw:=spR (fun (x:Fs×Bool×Str) ws _=>ws=[(Kd.row x.1 x.2.1).enc,.str x.2.2]) fun x=>(ent x.1 x.2.1 x.2.2).enc
theorem ZjP {D:Ew} {G:Hw} {x:Str} {row:W}:∀ (fs:Fs) (o':Option W),(∀ m k,fs.find x=some (m,k)→D.rt (.tup [.str (mark m),k.enc]) G)→(fs.find x=none→∀ o'',D.nx [some row,some (.str x),o''] G) →
  ZeO yes (gNm 2) (gIf (gTB (Zaj (Zak (eqF false)) (Zaj (Zak ixW) (Zab 2) (gC (.int 0))) (Zab 1))) (Zaz (L3.ZaA (L3.Zaa (Zaj (Zak ixW) (Zab 2) (gC (.int 1))) (L3.Zaa (Zaj (Zak ixW) (Zab 2) (gC (.int 2))) L3.Zag)))) Zan) D fs.enc [some row,some (.str x),o'] G
 | .nil,o',_,h=>⟨trivial,h rfl o'⟩
 | .cons n m k r,o',h1,h2=>by
  refine ⟨trivial,?_⟩
  show gIf _ _ Zan _ [some row,some (.str x),some (.tup [.str n,.str (mark m),k.enc])] G
  walk_at "rd"
  simp only [Option.map_some,Zad]
  by_cases hx:n=x
  ·subst hx
   simp only [beq_self_eq_true,bne_iff_ne,ne_eq,Bool.true_eq_false,not_false_eq_true,if_true]
   exact ⟨by decide,h1 _ _ (by unfold Fs.find;rw [if_pos rfl])⟩
  ·have e:(n==x)=false:=by simpa using hx
   simp only [e,bne_self_eq_false,Bool.false_eq_true,if_false]
   refine ZjP r _ (fun m' k' hv=>h1 m' k' ?_) (fun hn=>h2 ?_)
   ·unfold Fs.find;rw [if_neg hx];exact hv
   ·unfold Fs.find;rw [if_neg hx];exact hn
theorem ZaS (T:Tx K mg base a):Df P w K mg base "entry_of" 1 2 Zi5:=by
 refine mk0 T.Zot rfl Zka Zcl (fun ws G Q E ⟨x,e,_⟩=>by rw [e];rfl) (ZoL T) fun ws G Q E hC q=>?_
 obtain ⟨⟨fs,o,x⟩,rfl,q⟩:=q
 dsimp only at q
 unfold Zj8
 simp only [Kd.enc]
 walk_at "rd"
 refine ZjP fs none (fun m k hv=>?_) (fun hn o''=>?_)
 ·unfold ent at q;rw [hv] at q;exact q
 ·unfold ent at q;rw [hn] at q
  simp only [List.getElem?_cons_zero,List.getElem?_cons_succ,Zb5,Zad]
  cases o with
  | true=>exact ⟨by decide,q⟩
  | false=>exact ⟨by decide,q⟩
abbrev Zvj:Spw:=spL (fun (x:Fs×Bool) ws _=>ws=[(Kd.row x.1 x.2).enc]∧x.1.names.length≤100) fun x=>x.1.names.map W.str
theorem Zfj (T:Tx K mg base a):Df P w K mg base "names_of" 1 1 Zvj:=by
 refine mk0 T.ZoP rfl Zj1 ZvF (fun ws G Q E ⟨x,⟨e,_⟩,_⟩=>by rw [e];rfl) (ZoC T) fun ws G Q E hC q=>?_
 obtain ⟨⟨fs,o⟩,⟨rfl,hl⟩,q⟩:=q
 have hl':fs.enc.length≤100:=by rw [← ZhO];exact hl
 unfold Zkj
 simp only [Kd.enc]
 walk_at "rd"
 refine Zop (f:=Zlk) trivial fs.enc none [] (fun x hx Q' q'=>?_) (by simp only [List.length_nil];exact Zbf (by omega)) ?_
 ·obtain ⟨n,b,k,rfl⟩:=ZqX hx
  show Zaj (Zak ixW) (Zab 0) (gC (.int 0)) [some (W.tup [.str n,.str (mark b),k])] _ Q'
  walk_at "rd"
  exact q'
 ·rw [List.nil_append,ZlE]
  exact q
def Zp7:Spw:=fun ws G Q _=>∃ (fs gs:Fs) (o p:Bool),ws=[(Kd.row fs o).enc,(Kd.row gs p).enc]∧fs.names.length < 32∧gs.names.length < 32∧∀ (zs:List Str) (r:Addr),zs.Nodup→sortedS zs=true→(∀ x,x∈zs↔x∈fs.names∨x∈gs.names)→G r=none→Q (.ref r) (put G r (.lst (zs.map W.str)))
theorem ZsD:Spw.M Zp7:=fun ws G Q Q' E E' h _ ⟨fs,gs,o,p,h1,h2,h3,q⟩=>⟨fs,gs,o,p,h1,h2,h3,fun zs r a b c d=>h _ _ (q zs r a b c d)⟩
theorem Zas (T:Tx K mg base a):Df P w K mg base "names_of_both" 2 2 Zp7:=by
 refine mk0 T.ZiT rfl Ze4 ZsD (fun ws G Q E ⟨_,_,_,_,e,_⟩=>by rw [e];rfl) (Zjb T (Zfj T) (Nat.le_refl _)) fun ws G Q E hC q=>?_
 obtain ⟨fs,gs,o,p,rfl,h1,h2,q⟩:=q
 unfold Zfb
 walk_at "rd"
 refine ⟨(fs,o),⟨rfl,by dsimp only;omega⟩,fun p1 hp1=>?_⟩
 refine ⟨fs.names,ZeU Zaf,h1,(gs,p),⟨rfl,by dsimp only;omega⟩,fun p2 hp2=>?_⟩
 refine ⟨gs.names,ZeU Zaf,h2,fun zs r z1 z2 z3 z4=>?_⟩
 have hr2:r≠p2:=fun e=>by subst e;rw [Zaf] at z4;cases z4
 rw [Zau hr2] at z4
 have hr1:r≠p1:=fun e=>by subst e;rw [Zaf] at z4;cases z4
 rw [Zau hr1] at z4
 exact hC _ _ _ ((Zb8 (Za3 hp1) hp2).put2) (q zs r z1 z2 z3 z4)
mutual
def Kd.tw:Kd→Bool
 | .to a b=>a.tw&&b.tw
 | .box a=>a.tw
 | .row fs _=>decide (fs.names.length≤20)&&fs.tw
 | _=>true
def Fs.tw:Fs→Bool
 | .nil=>true
 | .cons _ _ k r=>k.tw&&r.tw
end
mutual
theorem ZlG:∀ {k:Kd},k.thr=true→k.tw=true
 | .any,_=>rfl
 | .num,_=>rfl
 | .truth,_=>rfl
 | .to a b,h=>by
  have h':(a.thr&&b.thr)=true:=h
  walk_at "pj"
  show (a.tw&&b.tw)=true
  rw [ZlG h'.1,ZlG h'.2];rfl
 | .box a,h=>ZlG (k:=a) h
 | .row fs o,h=>by
  have h':(decide (fs.names.length≤5)&&fs.thr)=true:=h
  simp only [Bool.and_eq_true,decide_eq_true_eq] at h'
  show (decide (fs.names.length≤20)&&fs.tw)=true
  rw [decide_eq_true (by omega),Zqt h'.2];rfl
theorem Zqt:∀ {fs:Fs},fs.thr=true→fs.tw=true
 | .nil,_=>rfl
 | .cons _ _ k r,h=>by
  have h':(k.thr&&r.thr)=true:=h
  walk_at "pj"
  show (k.tw&&r.tw)=true
  rw [ZlG h'.1,Zqt h'.2];rfl
end
def wk (k:Kd):Prop:=k.ok=true∧k.tw=true
theorem ZxR:∀ {fs:Fs},fs.tw=true→∀ c∈fs.kinds,c.tw=true
 | .nil,_,c,hc=>by cases hc
 | .cons n m k r,h,c,hc=>by
  have h':(k.tw&&r.tw)=true:=h
  walk_at "pj"
  rcases List.mem_cons.mp hc with rfl | hc
  ·exact h'.1
  ·exact ZxR h'.2 c hc
theorem Zux {k c:Kd} (h:wk k) (hc:c∈k.kids):wk c:=by
 refine ⟨Zm4 h.1 c hc,?_⟩
 have ht:=h.2
 cases k with
 | to x y =>
  have h':(x.tw&&y.tw)=true:=ht
  walk_at "pj"
  simp only [Kd.kids,List.mem_cons,List.not_mem_nil,or_false] at hc
  rcases hc with rfl | rfl
  ·exact h'.1
  ·exact h'.2
 | box x =>
  simp only [Kd.kids,List.mem_cons,List.not_mem_nil,or_false] at hc
  subst hc;exact ht
 | row fs o =>
  have h':(decide (fs.names.length≤20)&&fs.tw)=true:=ht
  walk_at "pj"
  exact ZxR h'.2 c hc
 | any=>simp [Kd.kids] at hc
 | num=>simp [Kd.kids] at hc
 | truth=>simp [Kd.kids] at hc
theorem Zey {fs:Fs} {o:Bool} (h:wk (.row fs o)):fs.names.length < 32:=by
 have h':(decide (fs.names.length≤20)&&fs.tw)=true:=h.2
 simp only [Bool.and_eq_true,decide_eq_true_eq] at h'
 omega
def kg (k:Kd):Prop:=wk k∧k.cnt≤40∧k.dp≤8
theorem ZxQ {k:Kd} (h:kd8 k):kg k:=⟨⟨h.1.1,ZlG h.1.2⟩,h.2⟩
def En.hd:En→Str
 | .free=>"free"
 | .nope=>"none"
 | .told m _=>mark m
theorem Zhg (e:En) (G:Hw):ixW e.enc (.int 0) G=some (.str e.hd):=by cases e <;> exact ZbC
theorem Zhf {x y:W} {s t:Str} {e:GE} {ZbG:GS} {D:Ew} {ω:Sw} {G:Hw} (h0:ω[0]?=some (some x)) (h1:ω[1]?=some (some y)) (e0:ixW x (.int 0) G=some (.str s)) (e1:ixW y (.int 0) G=some (.str t)) (h:if s=t then ZbG D ω G else e ω G D.rt) :
  Zao (gIf (gTB (Zaj (Zak (eqF true)) (Zaj (Zak ixW) (Zab 0) (gC (.int 0))) (Zaj (Zak ixW) (Zab 1) (gC (.int 0))))) (Zaz e) Zan) ZbG D ω G:=by
 simp only [Zao,gIf,gTB,Zaj,Zak,Zab,h0,h1,gC,Zaz,Zan]
 rw [e0,Zad,e1,Zad]
 simp only [eqF,eqW,Option.map_some,Zad]
 by_cases z:s=t
 ·rw [if_pos z] at h
  have:(s==t)=true:=by simp [z]
  simp only [this,bne_self_eq_false,Bool.false_eq_true,if_false]
  exact h
 ·rw [if_neg z] at h
  have:(s==t)=false:=by simp [z]
  simp only [this,show (false != true)=true from rfl,if_true]
  exact h
theorem Ze1 (m:Bool):mark m≠"free"∧mark m≠"none"∧(("free":Str)≠"none"):=by cases m <;> decide +kernel
theorem Zmn {k:Kd} {e:GE} {ZbG:GS} {D:Ew} {ω:Sw} {G:Hw} (h1:ω[0]?=some (some k.enc)) (h:if k.hd="row" then e ω G D.rt else ZbG D ω G) :
  Zao (gIf (gTB (Zaj (Zak (eqF false)) (Zaj (Zak ixW) (Zab 0) (gC (.int 0))) (gC (.str "row")))) (Zaz e) Zan) ZbG D ω G:=by
 simp only [Zao,gIf,gTB,Zaj,Zak,Zab,h1,gC,Zaz,Zan]
 rw [Zcz]
 simp only [Zad,eqF,eqW,Option.map_some]
 by_cases z:k.hd="row"
 ·rw [if_pos z] at h
  simp only [z,beq_self_eq_true,show (true != false)=true from rfl,if_true]
  exact h
 ·rw [if_neg z] at h
  have:(k.hd=="row")=false:=by simpa using z
  simp only [this,bne_self_eq_false,Bool.false_eq_true,if_false]
  exact h
theorem ZnL {k:Kd} (h:k.hd="row"):∃ fs o,k=.row fs o:=by
 cases k <;> first | exact ⟨_,_,rfl⟩ | exact absurd h (by simp only [Kd.hd];decide)
theorem ZgV {x y:W} {s a b:Str} {e:GE} {ZbG:GS} {D:Ew} {ω:Sw} {G:Hw} (h0:ω[0]?=some (some x)) (h1:ω[1]?=some (some y)) (e0:ixW x (.int 0) G=some (.str a)) (e1:ixW y (.int 0) G=some (.str b)) (h:if a=s∨b=s then e ω G D.rt else ZbG D ω G) :
  Zao (gIf (gTB (Zaj (Zak (inF false)) (gC (.str s)) (L3.ZaA (L3.Zaa (Zaj (Zak ixW) (Zab 0) (gC (.int 0))) (L3.Zaa (Zaj (Zak ixW) (Zab 1) (gC (.int 0))) L3.Zag))))) (Zaz e) Zan) ZbG D ω G:=by
 simp only [Zao,gIf,gTB,Zaj,Zak,Zab,h0,h1,gC,Zaz,Zan,L3.ZaA,L3.Zaa,L3.Zag]
 rw [e0,Zad,e1,Zad]
 refine ⟨(show 2≤sizeLine by decide),?_⟩
 have ei:inF false (.str s) (.tup [.str a,.str b]) G=some (.bl ([a,b].any (·==s))):=by
  unfold inF
  show (Zm5 ([a,b].map W.str)).map (fun us=>W.bl (if false=true then !inV (.str s) us else inV (.str s) us))=_
  rw [Zkg]
  show some (W.bl (inV (.str s) ([a,b].map V.str)))=_
  rw [ZkY]
 rw [ei,Zad]
 by_cases z:a=s∨b=s
 ·rw [if_pos z] at h
  have:[a,b].any (·==s)=true:=by simpa using z
  rw [this];exact h
 ·rw [if_neg z] at h
  have:[a,b].any (·==s)=false:=by
   rw [List.any_eq_false]
   intro c hc
   simp only [List.mem_cons,List.not_mem_nil,or_false] at hc
   rcases hc with rfl | rfl
   ·simpa using fun q=>z (.inl q)
   ·simpa using fun q=>z (.inr q)
  rw [this];exact h
theorem Ztq {α:Type} {e1 e2 f:α→W} {gd:Hw→Prop} {ge:GE} {R:List W→Hw→Prop} {G:Hw} (hgd:gd G):∀ (l:List α) (o o':Option W) (ys:List W),(∀ x∈l,∀ Q:Kw,Q (f x) G→ge [some (e1 x),some (e2 x)] G Q) →
  ys.length+l.length≤sizeLine→R (ys++l.map f) G→Zb7 gd (Zms 0 1) ZhL ge R (l.map fun x=>W.tup [e1 x,e2 x]) [o,o'] G ys
 | [],o,o',ys,_,_,r=>⟨hgd,by simpa using r⟩
 | x::l,o,o',ys,h,hl,r=>by
  refine ⟨hgd,by simp only [List.length_cons] at hl;omega,?_⟩
  show ge [some (e1 x),some (e2 x)] G fun y G3=>Zb7 gd (Zms 0 1) ZhL ge R (l.map fun x=>W.tup [e1 x,e2 x]) [some (e1 x),some (e2 x)] G3 (ys++[y])
  refine h x List.mem_cons_self _ (Ztq hgd l _ _ (ys++[f x]) (fun y hy=>h y (List.mem_cons_of_mem _ hy)) ?_ ?_)
  ·simp only [List.length_append,List.length_cons,List.length_nil] at hl ⊢;omega
  ·simpa [List.append_assoc] using r
mutual
theorem ZjI:∀ k:Kd,dpW k.enc≤3*k.dp
 | .any=>by show 1≤3*1;omega
 | .num=>by show 1≤3*1;omega
 | .truth=>by show 1≤3*1;omega
 | .to x y=>by have:=ZjI x;have:=ZjI y;show max 0 (max (dpW x.enc) (max (dpW y.enc) 0))+1≤3*(1+max x.dp y.dp);omega
 | .box x=>by have:=ZjI x;show max 0 (max (dpW x.enc) 0)+1≤3*(1+x.dp);omega
 | .row fs o=>by have:=ZqL fs;show max 0 (max (L3.dpL fs.enc+1) (max 0 0))+1≤3*(1+fs.dp);omega
theorem ZqL:∀ fs:Fs,L3.dpL fs.enc≤3*fs.dp+1
 | .nil=>Nat.zero_le _
 | .cons n m k r=>by
  have:=ZjI k
  have:=ZqL r
  show max (max 0 (max 0 (max (dpW k.enc) 0))+1) (L3.dpL r.enc)≤3*max k.dp r.dp+1;omega
end
theorem Zw6 {x y:Str} (h:Zbi x y=false) (hne:x≠y):Zbi y x=true:=by
 unfold Zbi at h ⊢
 refine decide_eq_true ?_
 have h1:y.cps.toList≤x.cps.toList:=of_decide_eq_false h
 rcases List.le_iff_lt_or_eq.mp h1 with z | z
 ·exact z
 ·exact absurd (by cases x;cases y;congr 1;exact (Array.toList_inj.mp z).symm) hne
theorem ZwC:∀ (p:Str) (r:List Str),risingS p r=true→(p::r).Nodup→(p::r).Pairwise (fun x y=>Zbi x y=true)
 | p,[],_,_=>.cons (fun _ h=>by cases h) .nil
 | p,x::r,h,hn=>by
  have h':(!ltCps x.cps.toList p.cps.toList&&risingS x r)=true:=h
  simp only [Bool.and_eq_true,Bool.not_eq_true'] at h'
  obtain ⟨n1,n2⟩:=List.nodup_cons.mp hn
  have ih:=ZwC x r h'.2 n2
  have hpx:Zbi p x=true:=Zw6 (by rw [← h'.1,ltCps_eq];rfl) fun e=>n1 (by rw [e];exact List.mem_cons_self)
  refine .cons (fun z hz=>?_) ih
  rcases List.mem_cons.mp hz with rfl | hz
  ·exact hpx
  ·exact Zuw hpx ((List.pairwise_cons.mp ih).1 z hz)
local macro_rules | `(tactic| walk_at "rd") => `(tactic| ((try dsimp only [Zao,gIf,Zaz,ZaT,Zbd,Zan,Zab,gC,Zaj,gTB,Zc9,gNt,Zft,gOr,ZbV,Zfv,Zck,Zfp,L3.ZaA,Zbv,L3.Zaa,L3.Zag,Zah,gB,rF,Zak,ZbE,gMt,Zha,ZoW,Za6,Zee,Zfq,Zb2,L3.ZdG,Zcu,gSl,ZbP,ZaF,Zbu,Zbc,ZgW,ZbQ,ZdZ,ZcH,Zb6,ZeH,Zba,Zf2,Zaw,ZaQ,List.map_cons,List.map_nil,List.length_cons,List.length_nil,List.cons_append,List.nil_append,List.getElem?_cons_zero,List.getElem?_cons_succ,List.set_cons_zero,List.set_cons_succ,List.replicate,Zev,tyN,Zad,ZbC,ZbW,Zb5,ixW,eqF,eqW,Zed,Zfl,ZgC,ZhU,Zmq,List.getElem?_nil]); (try simp only [Zao,gIf,Zaz,ZaT,Zbd,Zan,Zab,gC,Zaj,gTB,Zc9,gNt,Zft,gOr,ZbV,Zfv,Zck,Zfp,L3.ZaA,Zbv,L3.Zaa,L3.Zag,Zah,gB,rF,Zak,ZbE,gMt,Zha,ZoW,Za6,Zee,Zfq,Zb2,L3.ZdG,Zcu,gSl,ZbP,ZaF,Zbu,Zbc,ZgW,ZbQ,ZdZ,ZcH,Zb6,ZeH,Zba,Zf2,Zaw,ZaQ,List.map_cons,List.map_nil,List.length_cons,List.length_nil,List.cons_append,List.nil_append,List.getElem?_cons_zero,List.getElem?_cons_succ,List.set_cons_zero,List.set_cons_succ,List.replicate,Zev,tyN,Zad,ZbC,ZbW,Zb5,ixW,eqF,eqW,Zed,Zfl,ZgC,ZhU,Zmq,List.getElem?_nil])))
theorem ZuD:∀ {fs:Fs},fs.ok=true→∀ x∈fs.enc,fdF x=true∧okF x=true
 | .nil,_,x,h=>by cases h
 | .cons n m k r,ho,x,h=>by
  have h':(Zdc n&&k.ok&&r.ok)=true:=ho
  walk_at "pj"
  rcases List.mem_cons.mp h with rfl | h
  ·have hl:n.length≤8:=Zoo h'.1.1
   constructor
   ·show (Zdc n&&ZxC (.str (mark m)))=true
    rw [h'.1.1];cases m <;> decide +kernel
   ·show (decide (n.length≤1000)&&true)=true
    rw [decide_eq_true (by omega)];rfl
  ·exact ZuD h'.2 x h
theorem Zte:∀ fs:Fs,fs.enc.map nmS=fs.names
 | .nil=>rfl
 | .cons n m k r=>by show n::r.enc.map nmS=n::r.names;rw [Zte r]
theorem ZnQ:∀ fs:Fs,fs.enc.map Ze3=fs.kinds.map Kd.enc
 | .nil=>rfl
 | .cons n m k r=>by show k.enc::r.enc.map Ze3=k.enc::r.kinds.map Kd.enc;rw [ZnQ r]
theorem Zwv {fs:Fs} (h:fs.ok=true) (hr:ZkB fs.names=true):arF (.tup fs.enc)=true:=by
 show (fs.enc.all fdF&&ZkB (fs.enc.map nmS))=true
 rw [Zte,hr,List.all_eq_true.mpr fun x hx=>(ZuD h x hx).1];rfl
theorem ZxZ {h:Str} {r:List W} (h1:Zij (r.length+1) (ZdA ZaN h)=true) (h2:(h != "row")=true):hF (.tup (.str h::r))=true:=by
 show (Zij (r.length+1) (ZdA ZaN h)&&(h != "row"||rwF r))=true
 rw [h1,h2];rfl
theorem ZtJ {h:Str} {r:List W} (h1:r.length≤1000) (h2:(h != "row")=true):okL (.tup (.str h::r))=true:=by
 show (decide (r.length≤1000)&&(h != "row"||ZvX r))=true
 rw [decide_eq_true h1,h2];rfl
theorem Zgp {h:Str} {r:List W} (e:h≠"row"):Zc8 (.tup (.str h::r))=r:=if_neg e
theorem ZpY {fs:List W} {r:List W}:Zc8 (.tup (.str "row"::.tup fs::r))=fs.map Ze3:=by
 show (if ("row":Str)="row" then fs.map Ze3 else (.tup fs::r))=_
 exact if_pos rfl
theorem ZyF {k:Kd} (h:k.ok=true):hF k.enc=true:=by
 cases k with
 | any=>decide +kernel
 | num=>decide +kernel
 | truth=>decide +kernel
 | to x y =>
  exact ZxZ (h:="to") (r:=[x.enc,y.enc]) (show Zij 3 (ZdA ZaN "to")=true by decide +kernel) (by decide +kernel)
 | box x =>
  exact ZxZ (h:="box") (r:=[x.enc]) (show Zij 2 (ZdA ZaN "box")=true by decide +kernel) (by decide +kernel)
 | row fs o =>
  have h':(ZkB fs.names&&fs.ok)=true:=h
  walk_at "pj"
  show (Zij 3 (ZdA ZaN "row")&&(("row":Str) != "row"||(arF (.tup fs.enc)&&true)))=true
  rw [show Zij 3 (ZdA ZaN "row")=true by decide +kernel,Zwv h'.2 h'.1];simp
theorem Zpc {k:Kd} (h:k.ok=true) (hc:k.cnt≤1000):okL k.enc=true:=by
 cases k with
 | any=>decide +kernel
 | num=>decide +kernel
 | truth=>decide +kernel
 | to x y =>
  exact ZtJ (h:="to") (r:=[x.enc,y.enc]) (show 2≤1000 by decide) (by decide +kernel)
 | box x =>
  exact ZtJ (h:="box") (r:=[x.enc]) (show 1≤1000 by decide) (by decide +kernel)
 | row fs o =>
  have h':(ZkB fs.names&&fs.ok)=true:=h
  walk_at "pj"
  have hc':1+fs.cnt≤1000:=hc
  have hl:=Zox fs
  show (decide (2≤1000)&&(("row":Str) != "row"||((decide (fs.enc.length≤1000)&&fs.enc.all okF)&&true)))=true
  rw [decide_eq_true (show fs.enc.length≤1000 by omega),List.all_eq_true.mpr fun x hx=>(ZuD h'.2 x hx).2];simp
theorem ZlM (k:Kd):Zc8 k.enc=k.kids.map Kd.enc:=by
 cases k with
 | any=>exact Zgp (h:="any") (r:=[]) (by decide +kernel)
 | num=>exact Zgp (h:="num") (r:=[]) (by decide +kernel)
 | truth=>exact Zgp (h:="truth") (r:=[]) (by decide +kernel)
 | to x y=>exact Zgp (h:="to") (r:=[x.enc,y.enc]) (by decide +kernel)
 | box x=>exact Zgp (h:="box") (r:=[x.enc]) (by decide +kernel)
 | row fs o=>exact (ZpY (fs:=fs.enc) (r:=[.bl o])).trans (ZnQ fs)
theorem Zk4:∀ (n:Nat) {k:Kd},k.ok=true→k.cnt≤1000→OKW n k.enc
 | 0,k,h,hc=>Zpc h hc
 | n+1,k,h,hc=>by
  refine ⟨Zpc h hc,fun _ c hm=>?_⟩
  rw [ZlM] at hm
  obtain ⟨d,hd,rfl⟩:=List.mem_map.mp hm
  have:=Zoh hd
  have:=ZkJ k
  exact Zk4 n (Zm4 h d hd) (by omega)
theorem Ztz:∀ (n c:Nat) (l:List Kd),(∀ k∈l,k.ok=true)→c≤40→mdW n c (l.map Kd.enc)=decide (c+Zjf l≤40∧dpL l≤n)
 | n,c,[],_,hc=>by
  have e:mdW n c []=true:=by cases n <;> rfl
  show mdW n c []=_
  rw [e];exact (decide_eq_true ⟨hc,Nat.zero_le _⟩).symm
 | 0,c,x::l,_,hc=>by
  show false=_
  have:1≤dpL (x::l):=by have h1:=Zkk x;show 1≤max x.dp (dpL l);omega
  exact (decide_eq_false (fun z=>by omega)).symm
 | n+1,c,x::l,ho,hc=>by
  have h1:=Zj5 (x::l)
  have h2:=Zl3 (x::l) (by simp)
  have hl:((x::l).map Kd.enc).length=(x::l).length:=List.length_map _
  show (if 40 < c+((x::l).map Kd.enc).length then false else if ((x::l).map Kd.enc).all hF then mdW n (c+((x::l).map Kd.enc).length) (((x::l).map Kd.enc).flatMap Zc8) else false)=_
  rw [hl]
  by_cases g:40 < c+(x::l).length
  ·rw [if_pos g];exact (decide_eq_false (fun z=>by omega)).symm
  ·have ha:((x::l).map Kd.enc).all hF=true:=by
    rw [List.all_map];exact List.all_eq_true.mpr fun k hk=>ZyF (ho k hk)
   have ef:((x::l).map Kd.enc).flatMap Zc8=((x::l).flatMap Kd.kids).map Kd.enc:=by
    rw [List.flatMap_map,List.map_flatMap];congr 1;funext k;exact ZlM k
   rw [if_neg g,ha,if_pos rfl,ef,Ztz n _ _ (fun k hk=>by
    obtain ⟨z,hz,hk⟩:=List.mem_flatMap.mp hk
    exact Zm4 (ho z hz) k hk) (by omega),decide_eq_decide]
   omega
def ZAn (k:Kd):Bool:=decide (k.cnt≤40∧k.dp≤8)
theorem ZmY {k:Kd} (h:k.ok=true):isK k.enc=ZAn k:=by
 have e:=Ztz 8 0 [k] (fun x hx=>by rw [List.mem_singleton.mp hx];exact h) (by omega)
 refine Eq.trans e ?_
 unfold ZAn
 rw [decide_eq_decide]
 have e1:Zjf [k]=k.cnt+0:=rfl
 have e2:dpL [k]=max k.dp 0:=rfl
 omega
def bdW:Nat→W→Bool
 | 0,w=>!hF w
 | d+1,w=>!hF w||(Zc8 w).any (bdW d)
theorem Zya:∀ (d n c:Nat) (l:List W) {w:W},w∈l→bdW d w=true→mdW n c l=false
 | d,n,c,[],w,h,_=>by cases h
 | d,0,c,x::l,w,_,_=>rfl
 | d,n+1,c,x::l,w,h,hb=>by
  show (if 40 < c+(x::l).length then false else if (x::l).all hF then mdW n (c+(x::l).length) ((x::l).flatMap Zc8) else false)=false
  by_cases g:40 < c+(x::l).length
  ·rw [if_pos g]
  ·rw [if_neg g]
   cases ha:(x::l).all hF with
   | false=>rfl
   | true =>
    have hw:=List.all_eq_true.mp ha w h
    rw [if_pos rfl]
    cases d with
    | zero=>have hb':(!hF w)=true:=hb;rw [hw] at hb';cases hb'
    | succ d =>
     have hb':(!hF w||(Zc8 w).any (bdW d))=true:=hb
     rw [hw] at hb'
     obtain ⟨v,hv,hv2⟩:=List.any_eq_true.mp (by simpa using hb')
     exact Zya d n _ _ (List.mem_flatMap.mpr ⟨w,h,hv⟩) hv2
theorem Zyh {d:Nat} {w:W} (h:bdW d w=true):isK w=false:=Zya d 8 0 [w] List.mem_cons_self h
def bad (w:W):Prop:=OKW 7 w∧isK w=false
theorem Zvo {k:Kd} (h:kg k):OKW 7 k.enc∧isK k.enc=true∧wk k∧k.dp≤8∧k.cnt≤40:=by
 obtain ⟨⟨h1,h2⟩,h3,h4⟩:=h
 have ho:OKW 7 k.enc:=Zk4 7 (k:=k) h1 (by omega)
 have hk:isK k.enc=true:=by
  rw [ZmY (k:=k) h1]
  exact decide_eq_true ⟨h3,h4⟩
 exact ⟨ho,hk,⟨h1,h2⟩,h4,h3⟩
abbrev Zns:List Str:=["step","path"]
theorem ZnC:Zap Zns ["step","path"] (Zae ZkP):=by walk_at "s"
def Zno:GS:=(Zaz (Zfp (gTB (Zaj (Zak (isF false)) (Zab 1) (gC .non))) (gC .non) (Zaj (Zde) (ZaA (Zaa (Zab 0) Zag)) (Zab 1))))
theorem Zrw {k:Nat} (T:Tx K mg base a):Dn P w K mg base Zns "behind" ZkP k (Zno):=by
 have hN:=ZnC.nd
 walk_at "z"
abbrev ZdH:List Str:=["one","other"]
theorem ZdQ:Zap ZdH ["one","other"] (Zae ZcA):=by walk_at "s"
def ZdP (ZaR:Spw):GS:=(Zao (gIf (gTB (Zaj (Zak (inF false)) (gC (.str "free")) (ZaA (Zaa (Zaj (Zak ixW) (Zab 0) (gC (.int 0))) (Zaa (Zaj (Zak ixW) (Zab 1) (gC (.int 0))) Zag))))) (Zaz (gC .non)) Zan) (Zao (gIf (gTB (Zaj (Zak (eqF true)) (Zaj (Zak ixW) (Zab 0) (gC (.int 0))) (Zaj (Zak ixW) (Zab 1) (gC (.int 0))))) (Zaz (ZaA Zag)) Zan) (Zaz (Zfp (gTB (Zaj (Zak (eqF false)) (Zaj (Zak ixW) (Zab 0) (gC (.int 0))) (gC (.str "none")))) (gC .non) (Zah ZaR XF (Zaa (Zaj (Zak ixW) (Zab 0) (gC (.int 1))) (Zaa (Zaj (Zak ixW) (Zab 1) (gC (.int 1))) Zag)))))))
theorem Zhk {k:Nat} (T:Tx K mg base a) {Zbo:Nat} {ZaR:Spw} (Zkh:Df P w K mg base "clash_of" Zbo 2 ZaR) (Zj4:Zbo≤k):Dn P w K mg base ZdH "clash_of_entries" ZcA k (ZdP ZaR):=by
 have hN:=ZdQ.nd
 walk_at "z"
abbrev ZeY:List Str:=["one","other","name","found"]
theorem Ze9:Zap ZeY ["one","other"] (Zae Zdq):=by walk_at "s"
def ZeZ (Zam:Spw) (Zav:Spw) (Zbz:Spw) (ZaC:Spw):GS:=(Zao (ZdZ (Zbc (Zah Zam XF (Zaa (Zab 0) (Zaa (Zab 1) Zag)))) (gNm 2) (Zao (ZaT 3 (Zah Zbz XF (Zaa (Zah Zav XF (Zaa (Zab 0) (Zaa (Zab 2) Zag))) (Zaa (Zah Zav XF (Zaa (Zab 1) (Zaa (Zab 2) Zag))) Zag)))) (gIf (gTB (Zaj (Zak (isF true)) (Zab 3) (gC .non))) (Zaz (Zah ZaC XF (Zaa (Zab 2) (Zaa (Zab 3) Zag)))) Zan))) (Zaz (gC .non)))
theorem ZiK {k:Nat} (T:Tx K mg base a) {Zas:Nat} {Zam:Spw} (Zdp:Df P w K mg base "names_of_both" Zas 2 Zam) (Zdv:Zas≤k) {ZaS:Nat} {Zav:Spw} (ZhK:Df P w K mg base "entry_of" ZaS 2 Zav) (Zhz:ZaS≤k) {ZbH:Nat} {Zbz:Spw} (Znk:Df P w K mg base "clash_of_entries" ZbH 2 Zbz) (ZnH:ZbH≤k) {ZaX:Nat} {ZaC:Spw} (Ziy:Df P w K mg base "behind" ZaX 2 ZaC) (Zio:ZaX≤k):Dn P w K mg base ZeY "clash_of_rows" Zdq k (ZeZ Zam Zav Zbz ZaC):=by
 have hN:=Ze9.nd
 walk_at "z"
abbrev ZjF:List Str:=["one","other","step","left","right","found"]
theorem ZjE:Zap ZjF ["one","other"] (Zae ZhI):=by walk_at "s"
def ZjH (Zca:Spw) (ZaR:Spw) (ZaC:Spw):GS:=(Zao (gIf (gTB (Zaj (Zak (inF false)) (gC (.str "any")) (ZaA (Zaa (Zaj (Zak ixW) (Zab 0) (gC (.int 0))) (Zaa (Zaj (Zak ixW) (Zab 1) (gC (.int 0))) Zag))))) (Zaz (gC .non)) Zan) (Zao (gIf (gTB (Zaj (Zak (eqF true)) (Zaj (Zak ixW) (Zab 0) (gC (.int 0))) (Zaj (Zak ixW) (Zab 1) (gC (.int 0))))) (Zaz (ZaA Zag)) Zan) (Zao (gIf (gTB (Zaj (Zak (eqF false)) (Zaj (Zak ixW) (Zab 0) (gC (.int 0))) (gC (.str "row")))) (Zaz (Zah Zca XF (Zaa (Zab 0) (Zaa (Zab 1) Zag)))) Zan) (Zao (ZdZ (Znf (Zaa (Zuq Zi2 (Zaj (Zak ixW) (Zab 0) (gC (.int 0)))) (Zaa (ZkM (Zab 0) (ZbP (gC (.int 1))) ZaF) (Zaa (ZkM (Zab 1) (ZbP (gC (.int 1))) ZaF) Zag)))) (ZuY 2 3 4) (Zao (ZaT 5 (Zah ZaR XF (Zaa (Zab 3) (Zaa (Zab 4) Zag)))) (gIf (gTB (Zaj (Zak (isF true)) (Zab 5) (gC .non))) (Zaz (Zah ZaC XF (Zaa (Zab 2) (Zaa (Zab 5) Zag)))) Zan))) (Zaz (gC .non))))))
theorem ZoQ {k:Nat} (T:Tx K mg base a) {Zcp:Nat} {Zca:Spw} (Zpo:Df P w K mg base "clash_of_rows" Zcp 2 Zca) (Zpv:Zcp≤k) {Zbo:Nat} {ZaR:Spw} (Zkh:Df P w K mg base "clash_of" Zbo 2 ZaR) (Zj4:Zbo≤k) {ZaX:Nat} {ZaC:Spw} (Ziy:Df P w K mg base "behind" ZaX 2 ZaC) (Zio:ZaX≤k):Dn P w K mg base ZjF "clash_of" ZhI k (ZjH Zca ZaR ZaC):=fun {f cdv A outer s H E} hr =>
 have hu:=Zfy hr
 have hN:=ZjE.nd
 (Zal (by walk_at "v") (Zal (by walk_at "v") (Zal (by walk_at "v") (Zal (ZeL PassesOwn.never rfl (fun _=>rfl) (Zsh T.ZsS rfl rfl rfl (ZaO rfl (Zt0 T.ZqK rfl rfl (fun _ _=>rfl) (by walk_at "v")) (by walk_at "v"))) (by walk_at "v") (by walk_at "v")) (by walk_at "v")))))
abbrev Zef:List Str:=["one","other"]
theorem Zej:Zap Zef ["one","other"] (Zae ZcN):=by walk_at "s"
def Zel (ZaE:Spw):GS:=(Zao (gIf (gTB (Zaj (Zak (inF false)) (gC (.str "free")) (ZaA (Zaa (Zaj (Zak ixW) (Zab 0) (gC (.int 0))) (Zaa (Zaj (Zak ixW) (Zab 1) (gC (.int 0))) Zag))))) (Zaz (gC .non)) Zan) (Zao (gIf (gTB (Zaj (Zak ZvQ) (ZaA (Zaa (Zaj (Zak ixW) (Zab 0) (gC (.int 0))) (Zaa (Zaj (Zak ixW) (Zab 1) (gC (.int 0))) Zag))) (gC (.tup [(.tup [(.str "none"),(.str "none")]),(.tup [(.str "none"),(.str "may")]),(.tup [(.str "must"),(.str "must")]),(.tup [(.str "must"),(.str "may")]),(.tup [(.str "may"),(.str "may")])])))) (Zaz (ZaA Zag)) Zan) (Zaz (Zfp (gTB (Zaj (Zak (eqF false)) (Zaj (Zak ixW) (Zab 0) (gC (.int 0))) (gC (.str "none")))) (gC .non) (Zah ZaE XF (Zaa (Zaj (Zak ixW) (Zab 0) (gC (.int 1))) (Zaa (Zaj (Zak ixW) (Zab 1) (gC (.int 1))) Zag)))))))
theorem Zht {k:Nat} (T:Tx K mg base a) {Za7:Nat} {ZaE:Spw} (Zg2:Df P w K mg base "lack_of" Za7 2 ZaE) (ZgT:Za7≤k):Dn P w K mg base Zef "lack_of_entries" ZcN k (Zel ZaE):=by
 have hN:=Zej.nd
 walk_at "z"
abbrev ZfS:List Str:=["one","other","name","found"]
theorem Zf8:Zap ZfS ["one","other"] (Zae Zd2):=by walk_at "s"
def Zf6 (Zam:Spw) (Zav:Spw) (ZbK:Spw) (ZaC:Spw):GS:=(Zao (ZdZ (Zbc (Zah Zam XF (Zaa (Zab 0) (Zaa (Zab 1) Zag)))) (gNm 2) (Zao (ZaT 3 (Zah ZbK XF (Zaa (Zah Zav XF (Zaa (Zab 0) (Zaa (Zab 2) Zag))) (Zaa (Zah Zav XF (Zaa (Zab 1) (Zaa (Zab 2) Zag))) Zag)))) (gIf (gTB (Zaj (Zak (isF true)) (Zab 3) (gC .non))) (Zaz (Zah ZaC XF (Zaa (Zab 2) (Zaa (Zab 3) Zag)))) Zan))) (Zaz (gC .non)))
theorem Zjj {k:Nat} (T:Tx K mg base a) {Zas:Nat} {Zam:Spw} (Zdp:Df P w K mg base "names_of_both" Zas 2 Zam) (Zdv:Zas≤k) {ZaS:Nat} {Zav:Spw} (ZhK:Df P w K mg base "entry_of" ZaS 2 Zav) (Zhz:ZaS≤k) {ZbT:Nat} {ZbK:Spw} (Zom:Df P w K mg base "lack_of_entries" ZbT 2 ZbK) (ZoF:ZbT≤k) {ZaX:Nat} {ZaC:Spw} (Ziy:Df P w K mg base "behind" ZaX 2 ZaC) (Zio:ZaX≤k):Dn P w K mg base ZfS "lack_of_rows" Zd2 k (Zf6 Zam Zav ZbK ZaC):=by
 have hN:=Zf8.nd
 walk_at "z"
abbrev Zdx:List Str:=["one","other","found"]
theorem Zdt:Zap Zdx ["one","other"] (Zae Zcf):=by walk_at "s"
def Zdz (ZaE:Spw) (ZaC:Spw):GS:=(Zao (ZaT 2 (Zah ZaC XF (Zaa (gC (.str "in")) (Zaa (Zah ZaE XF (Zaa (Zaj (Zak ixW) (Zab 1) (gC (.int 1))) (Zaa (Zaj (Zak ixW) (Zab 0) (gC (.int 1))) Zag))) Zag)))) (Zao (gIf (gTB (Zaj (Zak (isF true)) (Zab 2) (gC .non))) (Zaz (Zab 2)) Zan) (Zaz (Zah ZaC XF (Zaa (gC (.str "out")) (Zaa (Zah ZaE XF (Zaa (Zaj (Zak ixW) (Zab 0) (gC (.int 2))) (Zaa (Zaj (Zak ixW) (Zab 1) (gC (.int 2))) Zag))) Zag))))))
theorem Zgq {k:Nat} (T:Tx K mg base a) {Za7:Nat} {ZaE:Spw} (Zg2:Df P w K mg base "lack_of" Za7 2 ZaE) (ZgT:Za7≤k) {ZaX:Nat} {ZaC:Spw} (Ziy:Df P w K mg base "behind" ZaX 2 ZaC) (Zio:ZaX≤k):Dn P w K mg base Zdx "lack_of_functions" Zcf k (Zdz ZaE ZaC):=by
 have hN:=Zdt.nd
 walk_at "z"
abbrev Zme:List Str:=["one","other"]
theorem ZlB:Zap Zme ["one","other"] (Zae ZiQ):=by walk_at "s"
def Zlm (Zbj:Spw) (ZaR:Spw) (ZaC:Spw) (Zcx:Spw):GS:=(Zao (gIf (gTB (Zaj (Zak (inF false)) (gC (.str "any")) (ZaA (Zaa (Zaj (Zak ixW) (Zab 0) (gC (.int 0))) (Zaa (Zaj (Zak ixW) (Zab 1) (gC (.int 0))) Zag))))) (Zaz (gC .non)) Zan) (Zao (gIf (gTB (Zaj (Zak (eqF true)) (Zaj (Zak ixW) (Zab 0) (gC (.int 0))) (Zaj (Zak ixW) (Zab 1) (gC (.int 0))))) (Zaz (ZaA Zag)) Zan) (Zao (gIf (gTB (Zaj (Zak (eqF false)) (Zaj (Zak ixW) (Zab 0) (gC (.int 0))) (gC (.str "to")))) (Zaz (Zah Zbj XF (Zaa (Zab 0) (Zaa (Zab 1) Zag)))) Zan) (Zao (gIf (gTB (Zaj (Zak (eqF false)) (Zaj (Zak ixW) (Zab 0) (gC (.int 0))) (gC (.str "box")))) (Zaz (Zah ZaC XF (Zaa (gC (.str "inside")) (Zaa (Zah ZaR XF (Zaa (Zaj (Zak ixW) (Zab 0) (gC (.int 1))) (Zaa (Zaj (Zak ixW) (Zab 1) (gC (.int 1))) Zag))) Zag)))) Zan) (Zao (gIf (gTB (Zaj (Zak (eqF false)) (Zaj (Zak ixW) (Zab 0) (gC (.int 0))) (gC (.str "row")))) (Zaz (Zah Zcx XF (Zaa (Zab 0) (Zaa (Zab 1) Zag)))) Zan) (Zaz (gC .non)))))))
theorem Zpi {k:Nat} (T:Tx K mg base a) {Zbw:Nat} {Zbj:Spw} (Zna:Df P w K mg base "lack_of_functions" Zbw 2 Zbj) (Zm7:Zbw≤k) {Zbo:Nat} {ZaR:Spw} (Zkh:Df P w K mg base "clash_of" Zbo 2 ZaR) (Zj4:Zbo≤k) {ZaX:Nat} {ZaC:Spw} (Ziy:Df P w K mg base "behind" ZaX 2 ZaC) (Zio:ZaX≤k) {ZcW:Nat} {Zcx:Spw} (Zrg:Df P w K mg base "lack_of_rows" ZcW 2 Zcx) (Zq9:ZcW≤k):Dn P w K mg base Zme "lack_of" ZiQ k (Zlm Zbj ZaR ZaC Zcx):=by
 have hN:=ZlB.nd
 walk_at "z"
abbrev Zh6:List Str:=["one","other"]
theorem Zie:Zap Zh6 ["one","other"] (Zae Zff):=by walk_at "s"
def ZhW (ZaE:Spw):GS:=(Zaz (Zaj (Zak (isF false)) (Zah ZaE XF (Zaa (Zab 0) (Zaa (Zab 1) Zag))) (gC .non)))
theorem ZlT {k:Nat} (T:Tx K mg base a) {Za7:Nat} {ZaE:Spw} (Zg2:Df P w K mg base "lack_of" Za7 2 ZaE) (ZgT:Za7≤k):Dn P w K mg base Zh6 "does_serve" Zff k (ZhW ZaE):=by
 have hN:=Zie.nd
 walk_at "z"
abbrev ZnX:List Str:=["one","other"]
theorem Zn5:Zap ZnX ["one","other"] (Zae ZgL):=by walk_at "s"
def ZkX (ZaB:Spw) (Zdd:Spw) (E:Addr→Hw→Prop):GS:=(Zao (Zbd (Zah ZaB (fun _=>E) (Zaa (Zab 0) (Zaa (Zab 1) Zag)))) (Zaz (Zah Zdd (fun _=>E) (Zaa (Zab 0) (Zaa (Zab 1) Zag)))))
theorem Zs5 {k:Nat} (T:Tx K mg base a) {ZaL:Nat} {ZaB:Spw} (ZcC:Df P w K mg base "check_kinds" ZaL 2 ZaB) (Zct:ZaL≤k) {ZdK:Nat} {Zdd:Spw} (ZlH:Df P w K mg base "does_serve" ZdK 2 Zdd) (ZlX:ZdK≤k) {f:Addr} {cdv:Value} {A:Around} {outer:List Env} {s:Shared} {H:Hp} {E:XK} (hr:Room k (A.deeper (envOfC "serves" (Zae ZgL) s.heap.objs.size f cdv))):Ssm (cxW P w K mg base ZnX "serves" (Zae ZgL) f cdv A outer s H E) (fun B=>B=H) (Zbe ZgL) (ZkX ZaB Zdd (dnX K H E)) :=
 have hu:=Zfy hr
 have hN:=Zn5.nd
 (Zal (Zbl rfl (ZaZ ZcC (hr.mono Zct) rfl ZbB rfl rfl rfl (by walk_at "v"))) (ZaI (Zb0 (ZaZ ZlH (hr.mono ZlX) rfl ZbB rfl rfl rfl (by walk_at "v")))))
abbrev Zib:List Str:=["one","other"]
theorem ZhV:Zap Zib ["one","other"] (Zae Zc5):=by walk_at "s"
def Ze6 (ZaB:Spw) (ZaE:Spw) (E:Addr→Hw→Prop):GS:=(Zao (Zbd (Zah ZaB (fun _=>E) (Zaa (Zab 0) (Zaa (Zab 1) Zag)))) (Zaz (Zah ZaE (fun _=>E) (Zaa (Zab 0) (Zaa (Zab 1) Zag)))))
theorem Zmi {k:Nat} (T:Tx K mg base a) {ZaL:Nat} {ZaB:Spw} (ZcC:Df P w K mg base "check_kinds" ZaL 2 ZaB) (Zct:ZaL≤k) {Za7:Nat} {ZaE:Spw} (Zg2:Df P w K mg base "lack_of" Za7 2 ZaE) (ZgT:Za7≤k) {f:Addr} {cdv:Value} {A:Around} {outer:List Env} {s:Shared} {H:Hp} {E:XK} (hr:Room k (A.deeper (envOfC "first_lack" (Zae Zc5) s.heap.objs.size f cdv))):Ssm (cxW P w K mg base Zib "first_lack" (Zae Zc5) f cdv A outer s H E) (fun B=>B=H) (Zbe Zc5) (Ze6 ZaB ZaE (dnX K H E)) :=
 have hu:=Zfy hr
 have hN:=ZhV.nd
 (Zal (Zbl rfl (ZaZ ZcC (hr.mono Zct) rfl ZbB rfl rfl rfl (by walk_at "v"))) (ZaI (Zb0 (ZaZ Zg2 (hr.mono ZgT) rfl ZbB rfl rfl rfl (by walk_at "v")))))
local macro_rules | `(tactic| walk_at "rd") => `(tactic| ((try dsimp only [ZkM,Zba,ZgG,Zeu,Zbg,Zf2,Zao,gIf,Zaz,ZaT,Zbd,Zan,Zab,gC,Zaj,gTB,Zc9,gNt,Zft,gOr,ZbV,Zfv,Zck,Zfp,L3.ZaA,Zbv,L3.Zaa,L3.Zag,Zah,gB,rF,Zak,ZbE,gMt,Zha,Za6,Zee,Zfq,Zb2,L3.ZdG,Zcu,gSl,ZbP,ZaF,Zbu,Zbc,ZgW,ZdZ,Zaw,ZaQ,List.map_cons,List.map_nil,List.length_cons,List.length_nil,List.cons_append,List.nil_append,List.getElem?_cons_zero,List.getElem?_cons_succ,List.set_cons_zero,List.set_cons_succ,List.replicate,Zev,tyN,Zad,ZbC,ZbW,Zb5,ixW,eqF,eqW,Zed,Zfl,ZgC,List.getElem?_nil]); (try simp only [ZkM,Zba,ZgG,Zeu,Zbg,Zf2,Zao,gIf,Zaz,ZaT,Zbd,Zan,Zab,gC,Zaj,gTB,Zc9,gNt,Zft,gOr,ZbV,Zfv,Zck,Zfp,L3.ZaA,Zbv,L3.Zaa,L3.Zag,Zah,gB,rF,Zak,ZbE,gMt,Zha,Za6,Zee,Zfq,Zb2,L3.ZdG,Zcu,gSl,ZbP,ZaF,Zbu,Zbc,ZgW,ZdZ,Zaw,ZaQ,List.map_cons,List.map_nil,List.length_cons,List.length_nil,List.cons_append,List.nil_append,List.getElem?_cons_zero,List.getElem?_cons_succ,List.set_cons_zero,List.set_cons_succ,List.replicate,Zev,tyN,Zad,ZbC,ZbW,Zb5,ixW,eqF,eqW,Zed,Zfl,ZgC,List.getElem?_nil])))
theorem Zl8 {fs:Fs} {o:Bool} {zs:List Str} (z3:∀ x,x∈zs↔x∈fs.names∨x∈fs.names) {x:Str} (hx:x∈zs):∃ m k,ent fs o x=.told m k∧k∈fs.kinds:=by
 obtain ⟨m,k,e,f⟩:=ZsZ (o:=o) (((z3 x).mp hx).elim id id)
 exact ⟨m,k,e,(Zn6 f).1⟩
theorem Zi8 {k:Kd} {n:Nat} (w:wk k) (hd:k.dp≤n+1):∀ c∈k.kids,wk c∧c.dp≤n:=fun c hc=>⟨Zux w hc,by have:=ZpC hc;omega⟩
theorem ZsU {k:Kd} (h:k.hd≠"row"):k.enc=.tup (.str k.hd::k.kids.map Kd.enc)∧k.kids.length≤2:=by
 cases k <;> first | exact ⟨rfl,by simp [Kd.kids]⟩ | exact absurd rfl h
abbrev ZAA:Spw:=spR (fun (s:Str) ws _=>ws=[.str s,.non]) fun _=>.non
theorem ZaX (T:Tx K mg base a):Df P w K mg base "behind" 1 2 ZAA:=by
 refine mk0 T.ZsV rfl ZnC Zcl (fun ws G Q E ⟨x,e,_⟩=>by rw [e];rfl) (Zrw T) fun ws G Q E hC q=>?_
 obtain ⟨s,rfl,q⟩:=q
 unfold Zno
 exact q
abbrev Zzr (n:Nat):Spw:=spR (fun (k:Kd) ws _=>ws=[k.enc,k.enc]∧wk k∧k.dp≤n) fun _=>.non
abbrev ZwV (n:Nat):Spw:=spR (fun (x:Bool×Kd) ws _=>ws=[(En.told x.1 x.2).enc,(En.told x.1 x.2).enc]∧wk x.2∧x.2.dp≤n) fun _=>.non
abbrev ZzK (n:Nat):Spw:=spR (fun (x:Fs×Bool) ws _=>ws=[(Kd.row x.1 x.2).enc,(Kd.row x.1 x.2).enc]∧wk (.row x.1 x.2)∧(Kd.row x.1 x.2).dp≤n+1) fun _=>.non
theorem ZbH (T:Tx K mg base a) {j n:Nat} (D:Df P w K mg base "clash_of" j 2 (Zzr n)):Df P w K mg base "clash_of_entries" (j+1) 2 (ZwV n):=by
 refine mk0 T.Zhd rfl ZdQ Zcl (fun ws G Q E ⟨x,⟨e,_⟩,_⟩=>by rw [e];rfl) (Zhk T D (Nat.le_refl _)) fun ws G Q E hC q=>?_
 obtain ⟨⟨m,k⟩,⟨rfl,h1,h2⟩,q⟩:=q
 dsimp only at h1 h2 q
 unfold ZdP
 show Zao (gIf _ _ Zan) _ (Zaw Q) [some (En.told m k).enc,some (En.told m k).enc] G
 refine ZgV rfl rfl (Zhg (.told m k) G) (Zhg (.told m k) G) ?_
 rw [if_neg (fun z=>z.elim (Ze1 m).1 (Ze1 m).1)]
 refine Zhf rfl rfl (Zhg (.told m k) G) (Zhg (.told m k) G) ?_
 rw [if_pos rfl]
 have hm:(mark m=="none")=false:=by simpa using (Ze1 m).2.1
 simp only [Zaz,Zfp,gTB,Zaj,Zak,Zab,gC,En.enc,List.getElem?_cons_zero,List.getElem?_cons_succ,ixW,ZbC,ZbW,Zad,eqF,eqW,hm,Option.map_some,bne_self_eq_false,Bool.false_eq_true,if_false,Zah,L3.Zaa,L3.Zag,Zaw]
 exact ⟨k,⟨rfl,h1,h2⟩,q⟩
abbrev ZvR (i:Nat) (e:GE):GS:=gIf (gTB (Zaj (Zak (isF true)) (Zab i) (gC .non))) (Zaz e) Zan
theorem ZlR {i:Nat} {ge e:GE} {D:Ew} {ω:Sw} {G:Hw} (hi:i < ω.length) (hg:∀ Q:Kw,Q .non G→ge ω G Q) (h:D.nx (ω.set i (some .non)) G):Zao (ZaT i ge) (ZvR i e) D ω G:=by
 refine hg _ ?_
 have gi:(ω.set i (some .non))[i]?=some (some .non):=by rw [List.getElem?_set_self hi]
 simp only [ZvR,gIf,gTB,Zaj,Zak,Zab,gi,gC,isF,Zad,Zaz,Zan]
 exact h
theorem ZmM {n:Nat} {sp:Spw} {D:Ew} {gd:Hw→Prop} {G:Hw} {fs:Fs} {o:Bool} {e:GE} (hgd:gd G) (hsp:∀ m k (Q:Kw) (E:Addr→Hw→Prop),wk k→k.dp≤n→Q .non G→sp [(En.told m k).enc,(En.told m k).enc] G Q E):∀ (xs:List Str) (o2 o3:Option W),(∀ x∈xs,∃ m k,ent fs o x=.told m k∧wk k∧k.dp≤n)→(∀ o2 o3,D.nx [some (Kd.row fs o).enc,some (Kd.row fs o).enc,o2,o3] G) →
  ZeO gd (gNm 2) (Zao (ZaT 3 (Zah sp XF (L3.Zaa (Zah Zi5 XF (L3.Zaa (Zab 0) (L3.Zaa (Zab 2) L3.Zag))) (L3.Zaa (Zah Zi5 XF (L3.Zaa (Zab 1) (L3.Zaa (Zab 2) L3.Zag))) L3.Zag)))) (ZvR 3 e)) D (xs.map W.str) [some (Kd.row fs o).enc,some (Kd.row fs o).enc,o2,o3] G
 | [],o2,o3,_,h=>⟨hgd,h o2 o3⟩
 | x::xs,o2,o3,hs,h=>by
  refine ⟨hgd,?_⟩
  show Zao (ZaT 3 _) (ZvR 3 e) _ [some (Kd.row fs o).enc,some (Kd.row fs o).enc,some (.str x),o3] G
  obtain ⟨m,k,e1,e2,e3⟩:=hs x List.mem_cons_self
  refine ZlR (by simp) (fun Q hQ=>?_) (ZmM hgd hsp xs _ _ (fun y hy=>hs y (List.mem_cons_of_mem _ hy)) h)
  simp only [Zah,L3.Zaa,L3.Zag,Zab,List.getElem?_cons_zero,List.getElem?_cons_succ]
  refine ⟨(fs,o,x),rfl,(fs,o,x),rfl,?_⟩
  dsimp only;rw [e1]
  exact hsp m k _ _ e2 e3 hQ
theorem Zcp (T:Tx K mg base a) {j n:Nat} (hj:2≤j) (D:Df P w K mg base "clash_of_entries" j 2 (ZwV n)):Df P w K mg base "clash_of_rows" (j+1) 2 (ZzK n):=by
 refine mk0 T.ZiF rfl Ze9 Zcl (fun ws G Q E ⟨x,⟨e,_⟩,_⟩=>by rw [e];rfl) (ZiK T (Zas T) hj (ZaS T) (by omega) D (Nat.le_refl _) (ZaX T) (by omega)) fun ws G Q E hC q=>?_
 obtain ⟨⟨fs,o⟩,⟨rfl,w1,hd⟩,q⟩:=q
 dsimp only at w1 hd q
 unfold ZeZ
 show Zao (ZdZ _ _ _) _ (Zaw Q) [some (Kd.row fs o).enc,some (Kd.row fs o).enc,none,none] G
 simp only [Zao,ZdZ,Zbc,Zah,Zab,L3.Zaa,L3.Zag,List.getElem?_cons_zero,List.getElem?_cons_succ]
 refine ⟨fs,fs,o,o,rfl,Zey w1,Zey w1,fun zs r z1 z2 z3 z4=>?_⟩
 simp only [Zaf]
 refine ZmM (gd:=fun G'=>G' r=some (.lst (zs.map W.str))) Zaf (fun m k Q' E' z1 z2 z3=>⟨(m,k),⟨rfl,z1,z2⟩,z3⟩) zs none none (fun x hx=>?_) (fun o2 o3=>?_)
 ·obtain ⟨m,k,e,hk⟩:=Zl8 (o:=o) z3 hx
  exact ⟨m,k,e,(Zi8 w1 hd k hk)⟩
 ·exact hC _ _ _ (Za3 z4) q
theorem Zng {α:Type} (f g h:α→W):∀ xs:List α,Zk0 (xs.map f) (xs.map g) (xs.map h)=xs.map fun x=>W.tup [f x,g x,h x]
 | []=>rfl
 | x::xs=>by show _::Zk0 (xs.map f) (xs.map g) (xs.map h)=_;rw [Zng f g h xs];rfl
theorem Zsv {k:Kd} (h:k.hd≠"row"):∃ us:List (Str×Kd),KTD.datumAt k.hd Zi2=some (us.map (·.1))∧k.enc=.tup (.str k.hd::us.map fun u=>u.2.enc)∧∀ u∈us,u.2∈k.kids:=by
 cases k with
 | any=>exact ⟨[],rfl,rfl,fun u hu=>by cases hu⟩
 | num=>exact ⟨[],rfl,rfl,fun u hu=>by cases hu⟩
 | truth=>exact ⟨[],rfl,rfl,fun u hu=>by cases hu⟩
 | to x y=>exact ⟨[("in",x),("out",y)],rfl,rfl,fun u hu=>by simp only [List.mem_cons,List.not_mem_nil,or_false] at hu;rcases hu with rfl | rfl <;> simp [Kd.kids]⟩
 | box x=>exact ⟨[("inside",x)],rfl,rfl,fun u hu=>by simp only [List.mem_cons,List.not_mem_nil,or_false] at hu;subst hu;simp [Kd.kids]⟩
 | row fs o=>exact absurd rfl h
theorem ZpM {n:Nat} {D:Ew} {G:Hw} {w0 w1:Option W} {e:GE}:∀ (xs:List (Str×Kd)) (o2 o3 o4 o5:Option W),(∀ u∈xs,wk u.2∧u.2.dp≤n)→(∀ o2 o3 o4 o5,D.nx [w0,w1,o2,o3,o4,o5] G) →
  ZeO yes (ZuY 2 3 4) (Zao (ZaT 5 (Zah (Zzr n) XF (L3.Zaa (Zab 3) (L3.Zaa (Zab 4) L3.Zag)))) (ZvR 5 e)) D (xs.map fun u=>W.tup [.str u.1,u.2.enc,u.2.enc]) [w0,w1,o2,o3,o4,o5] G
 | [],o2,o3,o4,o5,_,h=>⟨trivial,h o2 o3 o4 o5⟩
 | u::xs,o2,o3,o4,o5,hs,h=>by
  refine ⟨trivial,?_⟩
  show Zao (ZaT 5 _) (ZvR 5 e) _ [w0,w1,some (.str u.1),some u.2.enc,some u.2.enc,o5] G
  refine ZlR (by simp) (fun Q hQ=>?_) (ZpM xs _ _ _ _ (fun y hy=>hs y (List.mem_cons_of_mem _ hy)) h)
  simp only [Zah,L3.Zaa,L3.Zag,Zab,List.getElem?_cons_zero,List.getElem?_cons_succ]
  exact ⟨u.2,⟨rfl,hs u List.mem_cons_self⟩,hQ⟩
theorem Zbo (T:Tx K mg base a):∀ n:Nat,Df P w K mg base "clash_of" (3*n+2) 2 (Zzr n)
 | 0=>Zo0 T.ZjN Zcl fun ws G Q E ⟨x,⟨_,_,h⟩,_⟩=>by have:=Zkk x;omega
 | n+1=>by
  have D:=Zbo T n
  have DR:=Zcp T (by omega) (ZbH T D)
  refine mk0 (k:=3*n+4) T.ZjN rfl ZjE Zcl (fun ws G Q E ⟨x,⟨e,_⟩,_⟩=>by rw [e];rfl) (ZoQ T DR (Nat.le_refl _) D (by omega) (ZaX T) (by omega)) fun ws G Q E hC q=>?_
  obtain ⟨k,⟨rfl,w1,hd⟩,q⟩:=q
  dsimp only at q
  unfold ZjH
  show Zao (gIf _ _ Zan) _ (Zaw Q) [some k.enc,some k.enc,none,none,none,none] G
  refine ZgV rfl rfl (Zcz k G) (Zcz k G) ?_
  by_cases ha:k.hd="any"∨k.hd="any"
  ·rw [if_pos ha];exact q
  rw [if_neg ha]
  refine Zhf rfl rfl (Zcz k G) (Zcz k G) ?_
  rw [if_pos rfl]
  refine Zmn (k:=k) rfl ?_
  by_cases hr:k.hd="row"
  ·rw [if_pos hr]
   obtain ⟨fs,o,rfl⟩:=ZnL hr
   exact ⟨(fs,o),⟨rfl,w1,hd⟩,q⟩
  ·rw [if_neg hr]
   obtain ⟨us,e1,e2,e3⟩:=Zsv hr
   rw [e2]
   simp only [Zao,ZdZ,Znf,Zuq,L3.Zaa,L3.Zag,Zaj,Zab,gC,Zak,ixW,List.getElem?_cons_zero,List.getElem?_cons_succ,ZbC,Zad,ZkM,ZbP,ZaF,slA,ZoZ,List.drop_succ_cons,List.drop_zero]
   refine ⟨_,e1,_,_,_,rfl,by simp,by simp,?_⟩
   rw [List.map_map]
   have ez:=Zng (fun u:Str×Kd=>W.str u.1) (fun u=>u.2.enc) (fun u=>u.2.enc) us
   rw [show (W.str∘fun x:Str×Kd=>x.1)=fun u:Str×Kd=>W.str u.1 from rfl,ez]
   refine ZpM us none none none none (fun u hu=>Zi8 w1 hd _ (e3 u hu)) (fun o2 o3 o4 o5=>?_)
   exact q
abbrev Zzd (n:Nat):Spw:=spR (fun (x:Kd×Kd) ws _=>ws=[x.1.enc,x.2.enc]∧wk x.1∧x.1.dp≤n∧(x.2=x.1∨x.2=.any)) fun _=>.non
abbrev ZwM (n:Nat):Spw:=spR (fun (x:Bool×Kd) ws _=>ws=[(En.told x.1 x.2).enc,(En.told x.1 x.2).enc]∧wk x.2∧x.2.dp≤n) fun _=>.non
abbrev ZzJ (n:Nat):Spw:=spR (fun (x:Fs×Bool) ws _=>ws=[(Kd.row x.1 x.2).enc,(Kd.row x.1 x.2).enc]∧wk (.row x.1 x.2)∧(Kd.row x.1 x.2).dp≤n+1) fun _=>.non
abbrev ZAT:W:=.tup [.tup [.str "none",.str "none"],.tup [.str "none",.str "may"],.tup [.str "must",.str "must"],.tup [.str "must",.str "may"],.tup [.str "may",.str "may"]]
theorem Zuc (m:Bool) (G:Hw):ZvQ (.tup [.str (mark m),.str (mark m)]) ZAT G=some (.bl false):=by cases m <;> rfl
theorem ZbT (T:Tx K mg base a) {j n:Nat} (D:Df P w K mg base "lack_of" j 2 (Zzd n)):Df P w K mg base "lack_of_entries" (j+1) 2 (ZwM n):=by
 refine mk0 T.Zhn rfl Zej Zcl (fun ws G Q E ⟨x,⟨e,_⟩,_⟩=>by rw [e];rfl) (Zht T D (Nat.le_refl _)) fun ws G Q E hC q=>?_
 obtain ⟨⟨m,k⟩,⟨rfl,h1,h2⟩,q⟩:=q
 dsimp only at h1 h2 q
 unfold Zel
 show Zao (gIf _ _ Zan) _ (Zaw Q) [some (En.told m k).enc,some (En.told m k).enc] G
 refine ZgV rfl rfl (Zhg (.told m k) G) (Zhg (.told m k) G) ?_
 rw [if_neg (fun z=>z.elim (Ze1 m).1 (Ze1 m).1)]
 simp only [Zao,gIf,gTB,Zaj,Zak,Zab,gC,Zaz,Zan,L3.ZaA,L3.Zaa,L3.Zag,List.getElem?_cons_zero,List.getElem?_cons_succ]
 rw [Zhg,Zad]
 refine ⟨(show 2≤sizeLine by decide),?_⟩
 rw [show ZvQ (.tup [.str (En.told m k).hd,.str (En.told m k).hd]) _ G=some (.bl false) from Zuc m G,Zad]
 have hm:(mark m=="none")=false:=by simpa using (Ze1 m).2.1
 simp only [Bool.false_eq_true,if_false,Zfp,gTB,Zaj,Zak,Zab,gC,En.enc,List.getElem?_cons_zero,List.getElem?_cons_succ,ixW,ZbC,ZbW,Zad,eqF,eqW,hm,Option.map_some,bne_self_eq_false,Zah,L3.Zaa,L3.Zag,Zaw]
 exact ⟨(k,k),⟨rfl,h1,h2,.inl rfl⟩,q⟩
theorem ZcW (T:Tx K mg base a) {j n:Nat} (hj:2≤j) (D:Df P w K mg base "lack_of_entries" j 2 (ZwM n)):Df P w K mg base "lack_of_rows" (j+1) 2 (ZzJ n):=by
 refine mk0 T.Zjs rfl Zf8 Zcl (fun ws G Q E ⟨x,⟨e,_⟩,_⟩=>by rw [e];rfl) (Zjj T (Zas T) hj (ZaS T) (by omega) D (Nat.le_refl _) (ZaX T) (by omega)) fun ws G Q E hC q=>?_
 obtain ⟨⟨fs,o⟩,⟨rfl,w1,hd⟩,q⟩:=q
 dsimp only at w1 hd q
 unfold Zf6
 show Zao (ZdZ _ _ _) _ (Zaw Q) [some (Kd.row fs o).enc,some (Kd.row fs o).enc,none,none] G
 simp only [Zao,ZdZ,Zbc,Zah,Zab,L3.Zaa,L3.Zag,List.getElem?_cons_zero,List.getElem?_cons_succ]
 refine ⟨fs,fs,o,o,rfl,Zey w1,Zey w1,fun zs r z1 z2 z3 z4=>?_⟩
 simp only [Zaf]
 refine ZmM (gd:=fun G'=>G' r=some (.lst (zs.map W.str))) Zaf (fun m k Q' E' z1 z2 z3=>⟨(m,k),⟨rfl,z1,z2⟩,z3⟩) zs none none (fun x hx=>?_) (fun o2 o3=>?_)
 ·obtain ⟨m,k,e,hk⟩:=Zl8 (o:=o) z3 hx
  exact ⟨m,k,e,(Zi8 w1 hd k hk)⟩
 ·exact hC _ _ _ (Za3 z4) q
theorem Zbw (T:Tx K mg base a) {j n:Nat} (hj:1≤j) (D:Df P w K mg base "lack_of" j 2 (Zzd n)):Df P w K mg base "lack_of_functions" (j+1) 2 (spR (fun (x:Kd×Kd) ws _=>ws=[(Kd.to x.1 x.2).enc,(Kd.to x.1 x.2).enc]∧(wk x.1∧x.1.dp≤n)∧wk x.2∧x.2.dp≤n) fun _=>.non):=by
 refine mk0 T.Zgt rfl Zdt Zcl (fun ws G Q E ⟨x,⟨e,_⟩,_⟩=>by rw [e];rfl) (Zgq T D (Nat.le_refl _) (ZaX T) hj) fun ws G Q E hC q=>?_
 obtain ⟨⟨x,y⟩,⟨rfl,h1,h2⟩,q⟩:=q
 dsimp only at h1 h2 q
 unfold Zdz
 show Zao (ZaT 2 _) _ (Zaw Q) [some (Kd.to x y).enc,some (Kd.to x y).enc,none] G
 simp only [Zao,ZaT,Zah,L3.Zaa,L3.Zag,Zaj,Zak,Zab,gC,Kd.enc,List.getElem?_cons_zero,List.getElem?_cons_succ,ixW,ZbW,Zad]
 refine ⟨(x,x),⟨rfl,h1.1,h1.2,.inl rfl⟩,"in",rfl,?_⟩
 simp only [List.set_cons_zero,List.set_cons_succ,gIf,gTB,Zaj,Zak,Zab,gC,List.getElem?_cons_zero,List.getElem?_cons_succ,isF,Zsr,Zad,bne_self_eq_false,Bool.false_eq_true,if_false,Zan,Zaz,Zah,L3.Zaa,L3.Zag,ixW,Zb5]
 exact ⟨(y,y),⟨rfl,h2.1,h2.2,.inl rfl⟩,"out",rfl,q⟩
theorem Zfo {k:Kd} {t:Str} {e:GE} {ZbG:GS} {D:Ew} {ω:Sw} {G:Hw} (h1:ω[0]?=some (some k.enc)) (h:if k.hd=t then e ω G D.rt else ZbG D ω G) :
  Zao (gIf (gTB (Zaj (Zak (eqF false)) (Zaj (Zak ixW) (Zab 0) (gC (.int 0))) (gC (.str t)))) (Zaz e) Zan) ZbG D ω G:=by
 simp only [Zao,gIf,gTB,Zaj,Zak,Zab,h1,gC,Zaz,Zan]
 rw [Zcz]
 simp only [Zad,eqF,eqW,Option.map_some]
 by_cases z:k.hd=t
 ·rw [if_pos z] at h
  simp only [z,beq_self_eq_true,show (true != false)=true from rfl,if_true]
  exact h
 ·rw [if_neg z] at h
  have:(k.hd==t)=false:=by simpa using z
  simp only [this,bne_self_eq_false,Bool.false_eq_true,if_false]
  exact h
theorem Zyl {k:Kd} (h:k.hd="to"):∃ x y,k=.to x y:=by
 cases k <;> first | exact ⟨_,_,rfl⟩ | exact absurd h (by simp only [Kd.hd];decide)
theorem Zts {k:Kd} (h:k.hd="box"):∃ x,k=.box x:=by
 cases k <;> first | exact ⟨_,rfl⟩ | exact absurd h (by simp only [Kd.hd];decide)
theorem ZyA {k:Kd} (h:k=.any):k.hd="any":=by rw [h];rfl
theorem Za7 (T:Tx K mg base a):∀ n:Nat,Df P w K mg base "lack_of" (3*n+2) 2 (Zzd n)
 | 0=>Zo0 T.Zlc Zcl fun ws G Q E ⟨x,⟨_,_,h,_⟩,_⟩=>by have:=Zkk x.1;omega
 | n+1=>by
  have D:=Za7 T n
  have DR:=ZcW T (by omega) (ZbT T D)
  refine mk0 (k:=3*n+4) T.Zlc rfl ZlB Zcl (fun ws G Q E ⟨x,⟨e,_⟩,_⟩=>by rw [e];rfl) (Zpi T (Zbw T (by omega) D) (by omega) (Zbo T n) (by omega) (ZaX T) (by omega) DR (Nat.le_refl _)) fun ws G Q E hC q=>?_
  obtain ⟨⟨k,l⟩,⟨rfl,w1,hd,hl⟩,q⟩:=q
  dsimp only at w1 hd hl q
  unfold Zlm
  show Zao (gIf _ _ Zan) _ (Zaw Q) [some k.enc,some l.enc] G
  refine ZgV rfl rfl (Zcz k G) (Zcz l G) ?_
  by_cases ha:k.hd="any"∨l.hd="any"
  ·rw [if_pos ha];exact q
  rw [if_neg ha]
  obtain rfl:l=k:=hl.resolve_right fun z=>ha (.inr (ZyA z))
  refine Zhf rfl rfl (Zcz l G) (Zcz l G) ?_
  rw [if_pos rfl]
  refine Zfo (k:=l) rfl ?_
  by_cases ht:l.hd="to"
  ·rw [if_pos ht]
   obtain ⟨x,y,rfl⟩:=Zyl ht
   exact ⟨(x,y),⟨rfl,Zi8 w1 hd x (by simp [Kd.kids]),Zi8 w1 hd y (by simp [Kd.kids])⟩,q⟩
  rw [if_neg ht]
  refine Zfo (k:=l) rfl ?_
  by_cases hb:l.hd="box"
  ·rw [if_pos hb]
   obtain ⟨x,rfl⟩:=Zts hb
   simp only [Zah,L3.Zaa,L3.Zag,Zaj,Zak,Zab,gC,Kd.enc,List.getElem?_cons_zero,List.getElem?_cons_succ,ixW,ZbW,Zad]
   exact ⟨x,⟨rfl,Zi8 w1 hd x (by simp [Kd.kids])⟩,"inside",rfl,q⟩
  rw [if_neg hb]
  refine Zfo (k:=l) rfl ?_
  by_cases hr:l.hd="row"
  ·rw [if_pos hr]
   obtain ⟨fs,o,rfl⟩:=ZnL hr
   exact ⟨(fs,o),⟨rfl,w1,hd⟩,q⟩
  ·rw [if_neg hr];exact q
abbrev Zoe:List Str:=["names","entries","is_open","fields"]
theorem ZkF:Zap Zoe ["names","entries","is_open"] (Zae Zix):=by walk_at "s"
def Zn4:GS:=(Zao (ZaT 3 (Zba (ZgW (Zaa (Zab 0) (Zaa (Zab 1) Zag))) 2 [] (Zms 0 1) (gTB (Zaj (Zak (eqF true)) (Zab 1) (ZaA (Zaa (gC (.str "free")) Zag)))) (Zaj (Zde) (ZaA (Zaa (Zab 0) Zag)) (Zab 1)))) (Zaz (ZaA (Zaa (gC (.str "row")) (Zaa (gB (rF ZhU) (Zaa (Zab 3) Zag)) (Zaa (Zab 2) Zag))))))
theorem Zs7 {k:Nat} (T:Tx K mg base a):Dn P w K mg base Zoe "row_of" Zix k (Zn4):=fun {f cdv A outer s H E} hr =>
 have hu:=Zfy hr
 have hN:=ZkF.nd
 (Zal (ZkA (i:=3) ZkF.nd rfl rfl rfl rfl (ZvP (own:=["name","entry"]) (fr:=[]) (js:=[]) (scX:=Zae Zix) (n:=s.heap.objs.size+1) rfl (by decide +kernel) (by decide +kernel) (by decide +kernel) (by decide +kernel) rfl rfl rfl (by decide +kernel) rfl) (fun _=>rfl) (Ztm T.ZsS rfl rfl rfl (by walk_at "v")) (Zvb (i:=0) (j:=1) rfl (by decide) rfl rfl rfl rfl) (fun C fp s1 H1=>(by walk_at "v")) (fun C fp s1 H1=>(by walk_at "v"))) (by walk_at "v"))
abbrev Zes:List Str:=["one","other"]
theorem Zeh:Zap Zes ["one","other"] (Zae ZcM):=by walk_at "s"
def Zep (ZaU:Spw):GS:=(Zao (gIf (gTB (Zaj (Zak (eqF true)) (Zaj (Zak ixW) (Zab 0) (gC (.int 0))) (Zaj (Zak ixW) (Zab 1) (gC (.int 0))))) (Zaz (ZaA (Zaa (gC (.str "free")) Zag))) Zan) (Zaz (ZaA (Zaa (Zaj (Zak ixW) (Zab 0) (gC (.int 0))) (Zaa (Zah ZaU XF (Zaa (Zaj (Zak ixW) (Zab 0) (gC (.int 1))) (Zaa (Zaj (Zak ixW) (Zab 1) (gC (.int 1))) Zag))) Zag)))))
theorem Zhp {k:Nat} (T:Tx K mg base a) {ZbM:Nat} {ZaU:Spw} (Zlo:Df P w K mg base "join_of" ZbM 2 ZaU) (ZlO:ZbM≤k):Dn P w K mg base Zes "join_of_entries" ZcM k (Zep ZaU):=by
 have hN:=Zeh.nd
 walk_at "z"
abbrev ZfQ:List Str:=["one","other","names","entries"]
theorem Zea:Zap ZfQ ["one","other"] (Zae ZcQ):=by walk_at "s"
def Zf4 (Zam:Spw) (Zav:Spw) (ZbI:Spw) (Zcs:Spw):GS:=(Zao (ZaT 2 (Zah Zam XF (Zaa (Zab 0) (Zaa (Zab 1) Zag)))) (Zao (ZaT 3 (Zba (Zbc (Zab 2)) 1 [0,1] (gNm 0) ZhL (Zah ZbI XF (Zaa (Zah Zav XF (Zaa (Zab 1) (Zaa (Zab 0) Zag))) (Zaa (Zah Zav XF (Zaa (Zab 2) (Zaa (Zab 0) Zag))) Zag))))) (Zaz (Zah Zcs XF (Zaa (Zab 2) (Zaa (Zab 3) (Zaa (Zfv (Zaj (Zak ixW) (Zab 0) (gC (.int 2))) (Zfv (Zaj (Zak ixW) (Zab 1) (gC (.int 2))) (Zaj (Zak inT) (ZaA (Zaa (gC (.str "free")) Zag)) (Zab 3)))) Zag)))))))
theorem ZjD {k:Nat} (T:Tx K mg base a) {Zas:Nat} {Zam:Spw} (Zdp:Df P w K mg base "names_of_both" Zas 2 Zam) (Zdv:Zas≤k) {ZaS:Nat} {Zav:Spw} (ZhK:Df P w K mg base "entry_of" ZaS 2 Zav) (Zhz:ZaS≤k) {ZbY:Nat} {ZbI:Spw} (Zo3:Df P w K mg base "join_of_entries" ZbY 2 ZbI) (Zoq:ZbY≤k) {ZdL:Nat} {Zcs:Spw} (ZsI:Df P w K mg base "row_of" ZdL 3 Zcs) (ZrE:ZdL≤k):Dn P w K mg base ZfQ "join_of_rows" ZcQ k (Zf4 Zam Zav ZbI Zcs):=fun {f cdv A outer s H E} hr =>
 have hu:=Zfy hr
 have hN:=Zea.nd
 (Zal (by walk_at "v") (Zal (ZkA (i:=3) Zea.nd rfl rfl rfl rfl (ZvP (own:=["name"]) (fr:=["one","other"]) (js:=[0,1]) (scX:=Zae ZcQ) (n:=s.heap.objs.size+1) rfl (by decide +kernel) (by decide +kernel) (by decide +kernel) (by decide +kernel) rfl rfl rfl (by decide +kernel) rfl) (fun _=>rfl) (by walk_at "v") (ZgQ (i:=0) (by decide) rfl rfl) (fun C fp s1 H1=>ZbN) (fun C fp s1 H1=>(by walk_at "v"))) (by walk_at "v")))
abbrev Zlf:List Str:=["one","other"]
theorem ZlW:Zap Zlf ["one","other"] (Zae Zja):=by walk_at "s"
def Zmj (ZcE:Spw) (ZaU:Spw):GS:=(Zao (gIf (gTB (Zaj (Zak (eqF true)) (Zaj (Zak ixW) (Zab 0) (gC (.int 0))) (Zaj (Zak ixW) (Zab 1) (gC (.int 0))))) (Zaz (ZaA (Zaa (gC (.str "any")) Zag))) Zan) (Zao (gIf (gTB (Zaj (Zak (eqF false)) (Zaj (Zak ixW) (Zab 0) (gC (.int 0))) (gC (.str "row")))) (Zaz (Zah ZcE XF (Zaa (Zab 0) (Zaa (Zab 1) Zag)))) Zan) (Zaz (Zaj (Zde) (ZaA (Zaa (Zaj (Zak ixW) (Zab 0) (gC (.int 0))) Zag)) (gB (rF ZhU) (Zaa (Zbu (ZgG (Zaa (ZkM (Zab 0) (ZbP (gC (.int 1))) ZaF) (Zaa (ZkM (Zab 1) (ZbP (gC (.int 1))) ZaF) Zag))) 2 (Zms 0 1) ZhL (Zah ZaU XF (Zaa (Zab 0) (Zaa (Zab 1) Zag)))) Zag))))))
theorem Zqg {k:Nat} (T:Tx K mg base a) {ZcV:Nat} {ZcE:Spw} (Zre:Df P w K mg base "join_of_rows" ZcV 2 ZcE) (Zrj:ZcV≤k) {ZbM:Nat} {ZaU:Spw} (Zlo:Df P w K mg base "join_of" ZbM 2 ZaU) (ZlO:ZbM≤k):Dn P w K mg base Zlf "join_of" Zja k (Zmj ZcE ZaU):=fun {f cdv A outer s H E} hr =>
 have hu:=Zfy hr
 have hN:=ZlW.nd
 (Zal (by walk_at "v") (Zal (by walk_at "v") (ZaI (Zb0 (Zdb (by walk_at "v") (Zb1 ZaP (Zbr) rfl T.Za9 (by decide) rfl rfl rfl (ZaO rfl (Ze0 (Nc:=["left","right"]) rfl (Ztn rfl (by decide +kernel) (by decide +kernel)) (fun _=>rfl) (Zu2 T.ZsS rfl rfl rfl (by walk_at "v")) (Zpn (i:=0) (j:=1) rfl (by decide) rfl rfl rfl rfl) (fun C fp s1 H1=>ZbN) (fun C fp s1 H1=>(by walk_at "v"))) Zb3)))))))
def Fs.toL:Fs→List (Str×Bool×Kd)
 | .nil=>[]
 | .cons n m k r=>(n,m,k)::r.toL
theorem ZvM:∀ fs:Fs,fs.enc=fs.toL.map Zil
 | .nil=>rfl
 | .cons n m k r=>by show _::r.enc=_::r.toL.map Zil;rw [ZvM r];rfl
theorem Zi1:∀ fs:Fs,fs.names=fs.toL.map (·.1)
 | .nil=>rfl
 | .cons n m k r=>by show _::r.names=_::r.toL.map _;rw [Zi1 r]
theorem Zk8:∀ {fs:Fs} {u:Str×Bool×Kd},u∈fs.toL→u.2.2∈fs.kinds
 | .nil,u,h=>by cases h
 | .cons n m k r,u,h=>by
  rcases List.mem_cons.mp h with rfl | h
  ·exact List.mem_cons_self
  ·exact List.mem_cons_of_mem _ (Zk8 h)
theorem Znp:∀ {fs:Fs} {x:Str} {m:Bool} {k:Kd},fs.names.Pairwise (fun x y=>Zbi x y=true)→(x,m,k)∈fs.toL→fs.find x=some (m,k)
 | .nil,x,m,k,_,h=>by cases h
 | .cons n m' k' r,x,m,k,hp,h=>by
  have hp':(n::r.names).Pairwise (fun x y=>Zbi x y=true):=hp
  obtain ⟨a1,a2⟩:=List.pairwise_cons.mp hp'
  unfold Fs.find
  rcases List.mem_cons.mp h with e | h
  ·cases e;rw [if_pos rfl]
  ·have hx:x∈r.names:=by rw [Zi1];exact List.mem_map.mpr ⟨_,h,rfl⟩
   rw [if_neg (fun e=>by subst e;have:=a1 _ hx;rw [Zn2] at this;cases this)]
   exact Znp a2 h
theorem ZtG:∀ fs:Fs,ofL fs.toL=fs
 | .nil=>rfl
 | .cons n m k r=>by show Fs.cons n m k (ofL r.toL)=_;rw [ZtG r]
abbrev spD (n:Nat):Spw:=spR (fun (k:Kd) ws _=>ws=[k.enc,k.enc]∧wk k∧k.dp≤n) Kd.enc
abbrev ZwI (n:Nat):Spw:=spR (fun (x:Bool×Kd) ws _=>ws=[(En.told x.1 x.2).enc,(En.told x.1 x.2).enc]∧wk x.2∧x.2.dp≤n) fun x=>(En.told x.1 x.2).enc
abbrev ZAm (n:Nat):Spw:=spR (fun (x:Fs×Bool) ws _=>ws=[(Kd.row x.1 x.2).enc,(Kd.row x.1 x.2).enc]∧wk (.row x.1 x.2)∧(Kd.row x.1 x.2).dp≤n+1) fun x=>(Kd.row x.1 x.2).enc
theorem Zuf {m:Bool} {k:Kd} (hd:k.dp≤20) (G:Hw):eqW (.tup [.str (mark m),k.enc]) (.tup [.str "free"]) G=some false:=by
 have h:=ZjI k
 show (if max 0 (max (dpW k.enc) 0) < 90 then ZkU [.str (mark m),k.enc] [.str "free"] else none)=_
 rw [if_pos (by omega)]
 show (match some (mark m=="free"),some false with | some a,some b=>some (a&&b) | _,_=>none)=some false
 simp
theorem Znj {gd:Hw→Prop} {R:List W→Hw→Prop} {G:Hw} (hgd:gd G):∀ (us:List (Str×Bool×Kd)) (o o':Option W) (ys:List W),(∀ u∈us,u.2.2.dp≤20) →
  ys.length+us.length≤sizeLine→R (ys++us.map Zil) G→Zb7 gd (Zms 0 1) (gTB (Zaj (Zak (eqF true)) (Zab 1) (L3.ZaA (L3.Zaa (gC (.str "free")) L3.Zag)))) (Zaj Zde (L3.ZaA (L3.Zaa (Zab 0) L3.Zag)) (Zab 1)) R (us.map fun u=>W.tup [.str u.1,(En.told u.2.1 u.2.2).enc]) [o,o'] G ys
 | [],o,o',ys,_,_,r=>⟨hgd,by simpa using r⟩
 | (x,m,k)::us,o,o',ys,h,hl,r=>by
  have hl':ys.length+(us.length+1)≤sizeLine:=hl
  refine ⟨hgd,by omega,?_⟩
  simp only [Zms,List.set_cons_zero,List.set_cons_succ,gTB,Zaj,Zab,L3.ZaA,L3.Zaa,L3.Zag,gC,Zak,List.getElem?_cons_zero,List.getElem?_cons_succ]
  refine ⟨by decide,?_⟩
  have hk:k.dp≤20:=h (x,m,k) List.mem_cons_self
  have e1:eqF true (En.told m k).enc (.tup [.str "free"]) G=some (.bl true):=by unfold eqF;rw [show (En.told m k).enc=.tup [.str (mark m),k.enc] from rfl,Zuf hk];rfl
  rw [e1]
  simp only [Zad,if_true]
  refine ⟨(show 1≤sizeLine by decide),?_⟩
  rw [show (En.told m k).enc=.tup [.str (mark m),k.enc] from rfl,Zbg]
  refine ⟨(show 1+2≤sizeLine by decide),?_⟩
  refine Znj hgd us _ _ _ (fun u hu=>h u (List.mem_cons_of_mem _ hu)) (by simp only [List.length_append,List.length_cons,List.length_nil];omega) ?_
  simpa [Zil,List.append_assoc] using r
abbrev ZtB:Spw:=spR (fun (x:List (Str×Bool×Kd)×Addr×Addr×Bool) ws G=>ws=[.ref x.2.1,.ref x.2.2.1,.bl x.2.2.2]∧G x.2.1=some (.lst (x.1.map fun u=>W.str u.1))∧G x.2.2.1=some (.lst (x.1.map fun u=>(En.told u.2.1 u.2.2).enc))∧x.1.length≤100∧∀ u∈x.1,u.2.2.dp≤20) fun x=>(Kd.row (ofL x.1) x.2.2.2).enc
theorem ZhY {G:Hw} {p:Addr} {xs:List W} (h:G p=some (.lst xs)):rdL G (.ref p)=some xs:=by unfold rdL;dsimp only;rw [h]
theorem ZdL (T:Tx K mg base a):Df P w K mg base "row_of" 1 3 ZtB:=by
 refine mk0 T.ZsY rfl ZkF Zcl (fun ws G Q E ⟨x,⟨e,_⟩,_⟩=>by rw [e];rfl) (Zs7 T) fun ws G Q E hC q=>?_
 obtain ⟨⟨us,p1,p2,b⟩,⟨rfl,h1,h2,hl,hk⟩,q⟩:=q
 dsimp only at h1 h2 hl hk q
 unfold Zn4
 show Zao (ZaT 3 _) _ (Zaw Q) [some (.ref p1),some (.ref p2),some (.bl b),none] G
 simp only [Zao,ZaT,Zba,ZgW,L3.Zaa,L3.Zag,Zab,List.getElem?_cons_zero,List.getElem?_cons_succ,ZhY h1,ZhY h2]
 have ez:ZlC (us.map fun u=>W.str u.1) (us.map fun u=>(En.told u.2.1 u.2.2).enc)=us.map fun u=>W.tup [.str u.1,(En.told u.2.1 u.2.2).enc]:=by
  rw [Ziq,List.zip_map',List.map_map];rfl
 rw [ez]
 refine Znj (G:=G) ⟨ZhY h1,ZhY h2⟩ us none none [] hk (by simp only [List.length_nil];exact Zbf (by omega)) fun p hp=>?_
 simp only [Zaz,L3.ZaA,L3.Zaa,L3.Zag,gC,gB,rF,Zab,List.set_cons_zero,List.set_cons_succ,List.getElem?_cons_zero,List.getElem?_cons_succ,ZhU,ZiH Zaf,Option.map_some,Zad,Zaw,List.nil_append]
 refine ⟨(show 3≤sizeLine by decide),?_⟩
 have e:(Kd.row (ofL us) b).enc=.tup [.str "row",.tup (us.map Zil),.bl b]:=by rw [← ZkO];rfl
 rw [e] at q
 exact hC _ _ _ (Za3 hp) q
theorem ZoD {fs:Fs} {o:Bool} (w1:wk (.row fs o)) {zs:List Str} (z1:zs.Nodup) (z2:sortedS zs=true) (z3:∀ x,x∈zs↔x∈fs.names∨x∈fs.names):zs=fs.names:=by
 refine ZnA ?_ (Ztw w1.1).1 fun x=>by rw [z3,or_self]
 cases zs with
 | nil=>exact .nil
 | cons x r=>exact ZwC x r z2 z1
theorem ZsQ {fs:Fs} {o:Bool} (w1:wk (.row fs o)):∃ us:List (Str×Bool×Kd),fs=ofL us∧fs.names=us.map (·.1)∧(∀ u∈us,u.2.2∈fs.kinds)∧∀ u∈us,ent fs o u.1=.told u.2.1 u.2.2:=by
 refine ⟨fs.toL,(ZtG fs).symm,Zi1 fs,fun u hu=>Zk8 hu,fun u hu=>?_⟩
 unfold ent
 rw [Znp (Ztw w1.1).1 (show (u.1,u.2.1,u.2.2)∈fs.toL from hu)]
abbrev gRw (sp:Spw) (e:GE):GS:=Zao (ZaT 2 (Zah Zp7 XF (L3.Zaa (Zab 0) (L3.Zaa (Zab 1) L3.Zag)))) (Zao (ZaT 3 (Zba (Zbc (Zab 2)) 1 [0,1] (gNm 0) ZhL (Zah sp XF (L3.Zaa (Zah Zi5 XF (L3.Zaa (Zab 1) (L3.Zaa (Zab 0) L3.Zag))) (L3.Zaa (Zah Zi5 XF (L3.Zaa (Zab 2) (L3.Zaa (Zab 0) L3.Zag))) L3.Zag))))) (Zaz (Zah ZtB XF (L3.Zaa (Zab 2) (L3.Zaa (Zab 3) (L3.Zaa e L3.Zag))))))
theorem ZwK {n:Nat} {fs:Fs} {o:Bool} {G:Hw} {Q:Kw} {e:GE} (hC:Kw.C Q) (w1:wk (.row fs o)) (hd:(Kd.row fs o).dp≤n+1) (hn:n≤19) (q:Q (Kd.row fs o).enc G)
  (he:∀ (us:List (Str×Bool×Kd)) (r r2:Addr) (G2:Hw) (Q':Kw),(∀ u∈us,u.2.2.dp≤20)→G2 r2=some (.lst (us.map fun u=>(En.told u.2.1 u.2.2).enc))→Q' (.bl o) G2→e [some (Kd.row fs o).enc,some (Kd.row fs o).enc,some (.ref r),some (.ref r2)] G2 Q'):gRw (ZwI n) e (Zaw Q) [some (Kd.row fs o).enc,some (Kd.row fs o).enc,none,none] G:=by
 obtain ⟨us,e1,e2,e3,e4⟩:=ZsQ w1
 have hl:=Zey w1
 have hul:us.length < 32:=by rw [e2,List.length_map] at hl;exact hl
 have hk:∀ u∈us,u.2.2.dp≤20:=fun u hu=>by have:=ZpC (k:=.row fs o) (c:=u.2.2) (e3 u hu);omega
 simp only [gRw,Zao,ZaT,Zah,Zab,L3.Zaa,L3.Zag,List.getElem?_cons_zero,List.getElem?_cons_succ,List.set_cons_zero,List.set_cons_succ]
 refine ⟨fs,fs,o,o,rfl,Zey w1,Zey w1,fun zs r z1 z2 z3 z4=>?_⟩
 have hz:=ZoD w1 z1 z2 z3
 have hz':zs.map W.str=us.map fun u=>W.str u.1:=by rw [hz,e2,List.map_map];rfl
 rw [hz']
 simp only [Zba,Zbc,Zab,List.getElem?_cons_zero,List.getElem?_cons_succ,Zf2,List.map_cons,List.map_nil,List.replicate,List.cons_append,List.nil_append,Zaf]
 refine Zqe (enc:=fun u:Str×Bool×Kd=>W.str u.1) (f:=fun u=>(En.told u.2.1 u.2.2).enc) (cst:=[some (Kd.row fs o).enc,some (Kd.row fs o).enc]) Zaf us none [] (fun u hu Q' q'=>?_) (by simp only [List.length_nil];exact Zbf (by omega)) fun r2 hr2=>?_
 ·show Zah _ _ _ [some (.str u.1),some (Kd.row fs o).enc,some (Kd.row fs o).enc] _ Q'
  walk_at "rd"
  refine ⟨(fs,o,u.1),rfl,(fs,o,u.1),rfl,(u.2.1,u.2.2),⟨?_,Zi8 w1 hd _ (e3 u hu)⟩,q'⟩
  dsimp only;rw [e4 u hu]
 ·rw [List.nil_append]
  have nrr:r≠r2:=ZaM Zaf hr2
  have hsub:=Zb8 (o:=.lst (us.map fun u=>(En.told u.2.1 u.2.2).enc)) (Za3 z4) hr2
  simp only [Zaz,Zah,L3.Zaa,L3.Zag,Zab,List.getElem?_cons_zero,List.getElem?_cons_succ,List.set_cons_zero,List.set_cons_succ,Zaw]
  refine he us r r2 _ _ hk Zaf ?_
  refine ⟨(us,r,r2,o),⟨rfl,by dsimp only;rw [Zau nrr];exact Zaf,Zaf,by dsimp only;omega,hk⟩,?_⟩
  dsimp only
  rw [← e1]
  exact hC _ _ _ hsub q
abbrev gJ (sp:Spw):GE:=Zaj Zde (L3.ZaA (L3.Zaa (Zaj (Zak ixW) (Zab 0) (gC (.int 0))) L3.Zag)) (gB (rF ZhU) (L3.Zaa (Zbu (ZgG (L3.Zaa (ZkM (Zab 0) (ZbP (gC (.int 1))) ZaF) (L3.Zaa (ZkM (Zab 1) (ZbP (gC (.int 1))) ZaF) L3.Zag))) 2 (Zms 0 1) ZhL (Zah sp XF (L3.Zaa (Zab 0) (L3.Zaa (Zab 1) L3.Zag)))) L3.Zag))
theorem Zy9 {n:Nat} {k:Kd} {ω:Sw} {G:Hw} {Q:Kw} (h0:ω[0]?=some (some k.enc)) (h1:ω[1]?=some (some k.enc)) (hC:Kw.C Q) (hr:¬ k.hd="row") (hw:wk k) (hd:k.dp≤n+1) (q:Q k.enc G):gJ (spD n) ω G Q:=by
 obtain ⟨ek,hk⟩:=ZsU hr
 rw [ek] at h0 h1 q
 unfold gJ
 simp only [Zaj,L3.ZaA,L3.Zaa,L3.Zag,Zab,h0,h1,gC,Zak,ixW,ZbC,Zad,gB,Zbu,ZgG,ZkM,ZbP,ZaF,slA,ZoZ,List.drop_succ_cons,List.drop_zero]
 refine ⟨(show 1≤sizeLine by decide),_,_,rfl,?_⟩
 have e3:ZlC (k.kids.map Kd.enc) (k.kids.map Kd.enc)=k.kids.map fun x=>W.tup [x.enc,x.enc]:=by
  rw [Ziq,List.zip_map',List.map_map];rfl
 rw [e3]
 refine Ztq (e1:=Kd.enc) (e2:=Kd.enc) (f:=Kd.enc) trivial k.kids none none [] (fun x hx' Q' q'=>?_) (by simp only [List.length_nil];exact Zbf (by omega)) fun p hp=>?_
 ·show Zah _ _ _ [some x.enc,some x.enc] G Q'
  walk_at "rd"
  exact ⟨x,⟨rfl,Zi8 hw hd x hx'⟩,q'⟩
 rw [List.nil_append]
 simp only [rF,ZhU,ZiH Zaf,Option.map_some,Zad]
 rw [Zbg]
 exact ⟨by simp only [List.length_cons,List.length_nil,List.length_map];exact Zbf (by omega),hC _ _ _ (Za3 hp) q⟩
theorem ZbY (T:Tx K mg base a) {j n:Nat} (D:Df P w K mg base "join_of" j 2 (spD n)):Df P w K mg base "join_of_entries" (j+1) 2 (ZwI n):=by
 refine mk0 T.Zhu rfl Zeh Zcl (fun ws G Q E ⟨x,⟨e,_⟩,_⟩=>by rw [e];rfl) (Zhp T D (Nat.le_refl _)) fun ws G Q E hC q=>?_
 obtain ⟨⟨m,k⟩,⟨rfl,h1,h2⟩,q⟩:=q
 dsimp only at h1 h2 q
 unfold Zep
 cases m <;> (simp only [En.enc,mark] at q ⊢;walk_at "rd";exact ⟨k,⟨rfl,h1,h2⟩,(show 2≤sizeLine by decide),q⟩)
theorem Zny:∀ us:List (Str×Bool×Kd),(∀ u∈us,u.2.2.dp≤20)→Zsl (.tup [.str "free"]) (us.map fun u=>(En.told u.2.1 u.2.2).enc)=some false
 | [],_=>rfl
 | (x,m,k)::us,h=>by
  have ih:=Zny us fun y hy=>h y (List.mem_cons_of_mem _ hy)
  have hd:k.dp≤20:=h (x,m,k) List.mem_cons_self
  rw [List.map_cons]
  unfold Zsl
  have h3:=ZjI k
  have e1:eqD (En.told m k).enc (.tup [.str "free"])=some false:=by
   show (match some (mark m=="free"),some false with | some a,some b=>some (a&&b) | _,_=>none)=some false
   simp
  have h4:dpW (En.told m k).enc < 90:=by show max 0 (max (dpW k.enc) 0)+1 < 90;omega
  rw [if_pos h4,e1,ih];rfl
theorem ZcV (T:Tx K mg base a) {j n:Nat} (hj:2≤j) (hn:n≤19) (D:Df P w K mg base "join_of_entries" j 2 (ZwI n)):Df P w K mg base "join_of_rows" (j+1) 2 (ZAm n):=by
 refine mk0 T.Zjp rfl Zea Zcl (fun ws G Q E ⟨x,⟨e,_⟩,_⟩=>by rw [e];rfl) (ZjD T (Zas T) hj (ZaS T) (by omega) D (Nat.le_refl _) (ZdL T) (by omega)) fun ws G Q E hC q=>?_
 obtain ⟨⟨fs,o⟩,⟨rfl,w1,hd⟩,q⟩:=q
 dsimp only at w1 hd q
 unfold Zf4
 refine ZwK hC w1 hd hn q fun us r r2 G2 Q' hk h2 q'=>?_
 simp only [Zfv,Zaj,Zak,Zab,gC,L3.ZaA,L3.Zaa,L3.Zag,List.getElem?_cons_zero,List.getElem?_cons_succ,Kd.enc,ixW,Zb5,Zad,Zev]
 cases o with
 | true=>exact q'
 | false =>
  refine ⟨(show 1≤sizeLine by decide),?_⟩
  have ei:inT (.tup [.str "free"]) (.ref r2) G2=some (.bl false):=by
   unfold inT
   rw [ZhY h2,Option.bind_some,Zny us hk];rfl
  rw [ei]
  exact q'
theorem ZbM (T:Tx K mg base a):∀ n:Nat,n≤20→Df P w K mg base "join_of" (3*n+2) 2 (spD n)
 | 0,_=>Zo0 T.Zli Zcl fun ws G Q E ⟨x,⟨_,_,h⟩,_⟩=>by have:=Zkk x;omega
 | n+1,hn=>by
  have D:=ZbM T n (by omega)
  have DR:=ZcV T (by omega) (by omega) (ZbY T D)
  refine mk0 (k:=3*n+4) T.Zli rfl ZlW Zcl (fun ws G Q E ⟨x,⟨e,_⟩,_⟩=>by rw [e];rfl) (Zqg T DR (Nat.le_refl _) D (by omega)) fun ws G Q E hC q=>?_
  obtain ⟨k,⟨rfl,w1,hd⟩,q⟩:=q
  unfold Zmj
  show Zao (gIf _ _ Zan) (Zao (gIf _ _ Zan) (Zaz (gJ (spD n)))) (Zaw Q) [some k.enc,some k.enc] G
  refine Zhf rfl rfl (Zcz k G) (Zcz k G) ?_
  rw [if_pos rfl]
  refine Zmn (k:=k) rfl ?_
  by_cases hr:k.hd="row"
  ·rw [if_pos hr]
   obtain ⟨fs,o,rfl⟩:=ZnL hr
   exact ⟨(fs,o),⟨rfl,w1,hd⟩,q⟩
  ·rw [if_neg hr]
   exact Zy9 rfl rfl hC hr w1 hd q
abbrev Zdr:List Str:=["one","other","mark"]
theorem Zdn:Zap Zdr ["one","other"] (Zae Zcd):=by walk_at "s"
def Zdu (ZaK:Spw):GS:=(Zao (gIf (gTB (Zaj (Zak (inF false)) (gC (.str "free")) (ZaA (Zaa (Zaj (Zak ixW) (Zab 0) (gC (.int 0))) (Zaa (Zaj (Zak ixW) (Zab 1) (gC (.int 0))) Zag))))) (Zaz (ZaA (Zaa (gC (.str "free")) Zag))) Zan) (Zao (gIf (gTB (Zaj (Zak (eqF false)) (Zaj (Zak ixW) (Zab 0) (gC (.int 0))) (gC (.str "none")))) (Zaz (ZaA (Zaa (gC (.str "may")) (Zaa (Zaj (Zak ixW) (Zab 1) (gC (.int 1))) Zag)))) Zan) (Zao (gIf (gTB (Zaj (Zak (eqF false)) (Zaj (Zak ixW) (Zab 1) (gC (.int 0))) (gC (.str "none")))) (Zaz (ZaA (Zaa (gC (.str "may")) (Zaa (Zaj (Zak ixW) (Zab 0) (gC (.int 1))) Zag)))) Zan) (Zao (ZaT 2 (Zfp (gTB (Za6 (Zak (eqF false)) (Zak (eqF false)) (Zaj (Zak ixW) (Zab 0) (gC (.int 0))) (Zaj (Zak ixW) (Zab 1) (gC (.int 0))) (gC (.str "must")))) (gC (.str "must")) (gC (.str "may")))) (Zaz (ZaA (Zaa (Zab 2) (Zaa (Zah ZaK XF (Zaa (Zaj (Zak ixW) (Zab 0) (gC (.int 1))) (Zaa (Zaj (Zak ixW) (Zab 1) (gC (.int 1))) Zag))) Zag))))))))
theorem Zgx {k:Nat} (T:Tx K mg base a) {Za5:Nat} {ZaK:Spw} (Zgn:Df P w K mg base "either_of" Za5 2 ZaK) (Zgs:Za5≤k):Dn P w K mg base Zdr "either_of_entries" Zcd k (Zdu ZaK):=by
 have hN:=Zdn.nd
 walk_at "z"
abbrev ZeK:List Str:=["one","other","names","entries"]
theorem Zda:Zap ZeK ["one","other"] (Zae Zcb):=by walk_at "s"
def ZeJ (Zam:Spw) (Zav:Spw) (Zbk:Spw) (Zcs:Spw):GS:=(Zao (ZaT 2 (Zah Zam XF (Zaa (Zab 0) (Zaa (Zab 1) Zag)))) (Zao (ZaT 3 (Zba (Zbc (Zab 2)) 1 [0,1] (gNm 0) ZhL (Zah Zbk XF (Zaa (Zah Zav XF (Zaa (Zab 1) (Zaa (Zab 0) Zag))) (Zaa (Zah Zav XF (Zaa (Zab 2) (Zaa (Zab 0) Zag))) Zag))))) (Zaz (Zah Zcs XF (Zaa (Zab 2) (Zaa (Zab 3) (Zaa (Zfv (Zaj (Zak ixW) (Zab 0) (gC (.int 2))) (Zaj (Zak ixW) (Zab 1) (gC (.int 2)))) Zag)))))))
theorem Zig {k:Nat} (T:Tx K mg base a) {Zas:Nat} {Zam:Spw} (Zdp:Df P w K mg base "names_of_both" Zas 2 Zam) (Zdv:Zas≤k) {ZaS:Nat} {Zav:Spw} (ZhK:Df P w K mg base "entry_of" ZaS 2 Zav) (Zhz:ZaS≤k) {Zby:Nat} {Zbk:Spw} (Zmv:Df P w K mg base "either_of_entries" Zby 2 Zbk) (ZmE:Zby≤k) {ZdL:Nat} {Zcs:Spw} (ZsI:Df P w K mg base "row_of" ZdL 3 Zcs) (ZrE:ZdL≤k):Dn P w K mg base ZeK "either_of_rows" Zcb k (ZeJ Zam Zav Zbk Zcs):=fun {f cdv A outer s H E} hr =>
 have hu:=Zfy hr
 have hN:=Zda.nd
 (Zal (by walk_at "v") (Zal (ZkA (i:=3) Zda.nd rfl rfl rfl rfl (ZvP (own:=["name"]) (fr:=["one","other"]) (js:=[0,1]) (scX:=Zae Zcb) (n:=s.heap.objs.size+1) rfl (by decide +kernel) (by decide +kernel) (by decide +kernel) (by decide +kernel) rfl rfl rfl (by decide +kernel) rfl) (fun _=>rfl) (by walk_at "v") (ZgQ (i:=0) (by decide) rfl rfl) (fun C fp s1 H1=>ZbN) (fun C fp s1 H1=>(by walk_at "v"))) (by walk_at "v")))
abbrev ZiS:List Str:=["one","other"]
theorem ZiR:Zap ZiS ["one","other"] (Zae Zgk):=by walk_at "s"
def ZiJ (ZaU:Spw) (ZaK:Spw) (ZbS:Spw):GS:=(Zao (gIf (gTB (Zaj (Zak (eqF true)) (Zaj (Zak ixW) (Zab 0) (gC (.int 0))) (Zaj (Zak ixW) (Zab 1) (gC (.int 0))))) (Zaz (ZaA (Zaa (gC (.str "any")) Zag))) Zan) (Zao (gIf (gTB (Zaj (Zak (eqF false)) (Zaj (Zak ixW) (Zab 0) (gC (.int 0))) (gC (.str "to")))) (Zaz (ZaA (Zaa (gC (.str "to")) (Zaa (Zah ZaU XF (Zaa (Zaj (Zak ixW) (Zab 0) (gC (.int 1))) (Zaa (Zaj (Zak ixW) (Zab 1) (gC (.int 1))) Zag))) (Zaa (Zah ZaK XF (Zaa (Zaj (Zak ixW) (Zab 0) (gC (.int 2))) (Zaa (Zaj (Zak ixW) (Zab 1) (gC (.int 2))) Zag))) Zag))))) Zan) (Zao (gIf (gTB (Zaj (Zak (eqF false)) (Zaj (Zak ixW) (Zab 0) (gC (.int 0))) (gC (.str "box")))) (Zaz (ZaA (Zaa (gC (.str "box")) (Zaa (Zah ZaU XF (Zaa (Zaj (Zak ixW) (Zab 0) (gC (.int 1))) (Zaa (Zaj (Zak ixW) (Zab 1) (gC (.int 1))) Zag))) Zag)))) Zan) (Zao (gIf (gTB (Zaj (Zak (eqF false)) (Zaj (Zak ixW) (Zab 0) (gC (.int 0))) (gC (.str "row")))) (Zaz (Zah ZbS XF (Zaa (Zab 0) (Zaa (Zab 1) Zag)))) Zan) (Zaz (Zab 0))))))
theorem ZmR {k:Nat} (T:Tx K mg base a) {ZbM:Nat} {ZaU:Spw} (Zlo:Df P w K mg base "join_of" ZbM 2 ZaU) (ZlO:ZbM≤k) {Za5:Nat} {ZaK:Spw} (Zgn:Df P w K mg base "either_of" Za5 2 ZaK) (Zgs:Za5≤k) {Zb9:Nat} {ZbS:Spw} (Zo5:Df P w K mg base "either_of_rows" Zb9 2 ZbS) (Zo4:Zb9≤k):Dn P w K mg base ZiS "either_of" Zgk k (ZiJ ZaU ZaK ZbS):=by
 have hN:=ZiR.nd
 walk_at "z"
abbrev Znq:List Str:=["one","other"]
theorem Zoa:Zap Znq ["one","other"] (Zae Zhj):=by walk_at "s"
def ZkC (ZaB:Spw) (ZaK:Spw) (E:Addr→Hw→Prop):GS:=(Zao (Zbd (Zah ZaB (fun _=>E) (Zaa (Zab 0) (Zaa (Zab 1) Zag)))) (Zaz (Zah ZaK (fun _=>E) (Zaa (Zab 0) (Zaa (Zab 1) Zag)))))
theorem ZsO {k:Nat} (T:Tx K mg base a) {ZaL:Nat} {ZaB:Spw} (ZcC:Df P w K mg base "check_kinds" ZaL 2 ZaB) (Zct:ZaL≤k) {Za5:Nat} {ZaK:Spw} (Zgn:Df P w K mg base "either_of" Za5 2 ZaK) (Zgs:Za5≤k) {f:Addr} {cdv:Value} {A:Around} {outer:List Env} {s:Shared} {H:Hp} {E:XK} (hr:Room k (A.deeper (envOfC "either" (Zae Zhj) s.heap.objs.size f cdv))):Ssm (cxW P w K mg base Znq "either" (Zae Zhj) f cdv A outer s H E) (fun B=>B=H) (Zbe Zhj) (ZkC ZaB ZaK (dnX K H E)) :=
 have hu:=Zfy hr
 have hN:=Zoa.nd
 (Zal (Zbl rfl (ZaZ ZcC (hr.mono Zct) rfl ZbB rfl rfl rfl (by walk_at "v"))) (ZaI (Zb0 (ZaZ Zgn (hr.mono Zgs) rfl ZbB rfl rfl rfl (by walk_at "v")))))
abbrev ZAf (n:Nat):Spw:=spR (fun (x:Kd×Kd) ws _=>ws=[x.1.enc,x.2.enc]∧wk x.1∧x.1.dp≤n∧(x.2=x.1∨x.2=.any)) fun x=>x.2.enc
theorem Zby (T:Tx K mg base a) {j n:Nat} (D:Df P w K mg base "either_of" j 2 (ZAf n)):Df P w K mg base "either_of_entries" (j+1) 2 (ZwI n):=by
 refine mk0 T.ZgD rfl Zdn Zcl (fun ws G Q E ⟨x,⟨e,_⟩,_⟩=>by rw [e];rfl) (Zgx T D (Nat.le_refl _)) fun ws G Q E hC q=>?_
 obtain ⟨⟨m,k⟩,⟨rfl,h1,h2⟩,q⟩:=q
 dsimp only at h1 h2 q
 unfold Zdu
 show Zao (gIf _ _ Zan) _ (Zaw Q) [some (En.told m k).enc,some (En.told m k).enc,none] G
 refine ZgV rfl rfl (Zhg (.told m k) G) (Zhg (.told m k) G) ?_
 rw [if_neg (fun z=>z.elim (Ze1 m).1 (Ze1 m).1)]
 cases m <;> (simp only [En.enc,mark] at q ⊢;walk_at "rd";exact ⟨(k,k),⟨rfl,h1,h2,.inl rfl⟩,(show 2≤sizeLine by decide),q⟩)
theorem Zb9 (T:Tx K mg base a) {j n:Nat} (hj:2≤j) (hn:n≤19) (D:Df P w K mg base "either_of_entries" j 2 (ZwI n)):Df P w K mg base "either_of_rows" (j+1) 2 (ZAm n):=by
 refine mk0 T.Zii rfl Zda Zcl (fun ws G Q E ⟨x,⟨e,_⟩,_⟩=>by rw [e];rfl) (Zig T (Zas T) hj (ZaS T) (by omega) D (Nat.le_refl _) (ZdL T) (by omega)) fun ws G Q E hC q=>?_
 obtain ⟨⟨fs,o⟩,⟨rfl,w1,hd⟩,q⟩:=q
 dsimp only at w1 hd q
 unfold ZeJ
 refine ZwK hC w1 hd hn q fun us r r2 G2 Q' _ _ q'=>?_
 simp only [Zfv,Zaj,Zak,Zab,gC,List.getElem?_cons_zero,List.getElem?_cons_succ,Kd.enc,ixW,Zb5,Zad,Zev]
 cases o <;> exact q'
theorem Za5 (T:Tx K mg base a):∀ n:Nat,n≤20→Df P w K mg base "either_of" (3*n+2) 2 (ZAf n)
 | 0,_=>Zo0 T.Zi9 Zcl fun ws G Q E ⟨x,⟨_,_,h,_⟩,_⟩=>by have:=Zkk x.1;omega
 | n+1,hn=>by
  have D:=Za5 T n (by omega)
  have DR:=Zb9 T (by omega) (by omega) (Zby T D)
  refine mk0 (k:=3*n+4) T.Zi9 rfl ZiR Zcl (fun ws G Q E ⟨x,⟨e,_⟩,_⟩=>by rw [e];rfl) (ZmR T (ZbM T n (by omega)) (by omega) D (by omega) DR (Nat.le_refl _)) fun ws G Q E hC q=>?_
  obtain ⟨⟨k,l⟩,⟨rfl,w1,hd,hl⟩,q⟩:=q
  dsimp only at w1 hd hl q
  unfold ZiJ
  show Zao (gIf _ _ Zan) _ (Zaw Q) [some k.enc,some l.enc] G
  refine Zhf rfl rfl (Zcz k G) (Zcz l G) ?_
  by_cases hh:k.hd=l.hd
  ·rw [if_pos hh]
   have hkl:l=k:=by
    rcases hl with z | z
    ·exact z
    ·rw [z] at hh ⊢
     cases k <;> first | rfl | exact absurd hh (by simp only [Kd.hd];decide)
   subst hkl
   refine Zfo (k:=l) rfl ?_
   by_cases ht:l.hd="to"
   ·rw [if_pos ht]
    obtain ⟨x,y,rfl⟩:=Zyl ht
    have hx:=Zi8 w1 hd x (by simp [Kd.kids])
    have hy:=Zi8 w1 hd y (by simp [Kd.kids])
    simp only [L3.ZaA,Zah,L3.Zaa,L3.Zag,Zaj,Zak,Zab,gC,Kd.enc,List.getElem?_cons_zero,List.getElem?_cons_succ,ixW,ZbW,Zb5,Zad]
    exact ⟨x,⟨rfl,hx⟩,(y,y),⟨rfl,hy.1,hy.2,.inl rfl⟩,(show 3≤sizeLine by decide),q⟩
   rw [if_neg ht]
   refine Zfo (k:=l) rfl ?_
   by_cases hb:l.hd="box"
   ·rw [if_pos hb]
    obtain ⟨x,rfl⟩:=Zts hb
    simp only [L3.ZaA,Zah,L3.Zaa,L3.Zag,Zaj,Zak,Zab,gC,Kd.enc,List.getElem?_cons_zero,List.getElem?_cons_succ,ixW,ZbW,Zad]
    exact ⟨x,⟨rfl,Zi8 w1 hd x (by simp [Kd.kids])⟩,(show 2≤sizeLine by decide),q⟩
   rw [if_neg hb]
   refine Zfo (k:=l) rfl ?_
   by_cases hr:l.hd="row"
   ·rw [if_pos hr]
    obtain ⟨fs,o,rfl⟩:=ZnL hr
    exact ⟨(fs,o),⟨rfl,w1,hd⟩,q⟩
   ·rw [if_neg hr];exact q
  ·rw [if_neg hh]
   obtain rfl:l=.any:=hl.resolve_left fun z=>hh (by rw [z])
   exact ⟨(show 1≤sizeLine by decide),q⟩
local macro_rules | `(tactic| walk_at "rd") => `(tactic| ((try dsimp only [Zao,gIf,Zaz,ZaT,Zbd,Zan,Zab,gC,Zaj,gTB,Zc9,gNt,Zft,gOr,ZbV,Zfv,Zck,Zfp,L3.ZaA,Zbv,L3.Zaa,L3.Zag,Zah,gB,rF,Zak,ZbE,gMt,Zha,ZoW,Za6,Zee,Zfq,Zb2,L3.ZdG,Zcu,gSl,ZbP,ZaF,Zbu,Zbc,ZgW,ZbQ,ZdZ,ZcH,Zb6,ZeH,Zba,Zf2,Zaw,ZaQ,List.map_cons,List.map_nil,List.length_cons,List.length_nil,List.cons_append,List.nil_append,List.getElem?_cons_zero,List.getElem?_cons_succ,List.set_cons_zero,List.set_cons_succ,List.replicate,Zev,tyN,Zad,ZbC,ZbW,Zb5,ixW,eqF,eqW,Zed,Zfl,ZgC,ZhU,Zmq,List.getElem?_nil]); (try simp only [Zao,gIf,Zaz,ZaT,Zbd,Zan,Zab,gC,Zaj,gTB,Zc9,gNt,Zft,gOr,ZbV,Zfv,Zck,Zfp,L3.ZaA,Zbv,L3.Zaa,L3.Zag,Zah,gB,rF,Zak,ZbE,gMt,Zha,ZoW,Za6,Zee,Zfq,Zb2,L3.ZdG,Zcu,gSl,ZbP,ZaF,Zbu,Zbc,ZgW,ZbQ,ZdZ,ZcH,Zb6,ZeH,Zba,Zf2,Zaw,ZaQ,List.map_cons,List.map_nil,List.length_cons,List.length_nil,List.cons_append,List.nil_append,List.getElem?_cons_zero,List.getElem?_cons_succ,List.set_cons_zero,List.set_cons_succ,List.replicate,Zev,tyN,Zad,ZbC,ZbW,Zb5,ixW,eqF,eqW,Zed,Zfl,ZgC,ZhU,Zmq,List.getElem?_nil])))
theorem Zpr {C:Addr} {w:W} {G:Hw} {Q:Kw} {E:Addr→Hw→Prop} (h1:OKW 7 w) (h2:isK w=true) (q:Q .non G):Zqf C [w] G Q E:=⟨w,⟨rfl,h1⟩,fun _=>q,fun z=>by rw [h2] at z;cases z⟩
theorem ZtA {C:Addr} {w:W} {G:Hw} {Q:Kw} {E:Addr→Hw→Prop} (h:bad w) (q:E C G):Zqf C [w] G Q E:=⟨w,⟨rfl,h.1⟩,(fun z=>by rw [h.2] at z;cases z),fun _=>q⟩
def ZyH (w1 w2:W):Prop:=bad w1∧OKW 7 w2∨(OKW 7 w1∧isK w1=true)∧bad w2
theorem Zxy:kg .any:=⟨⟨rfl,rfl⟩,by decide,by decide⟩
def pr (k l:Kd):Prop:=kg k∧(l=k∨l=.any)
theorem ZAz {k l:Kd} (h:pr k l):kg l:=h.2.elim (fun z=>by rw [z];exact h.1) (fun z=>by rw [z];exact Zxy)
abbrev ZpU (C:Addr):Spw:=fun ws G Q E=>(∃ k l,ws=[k.enc,l.enc]∧pr k l∧Q .non G)∨(∃ w1 w2,ws=[w1,w2]∧ZyH w1 w2∧E C G)
theorem Zsb {C:Addr}:Spw.M (ZpU C):=fun ws G Q Q' E E' h h' q=>q.elim (fun ⟨k,l,h1,h2,q⟩=>.inl ⟨k,l,h1,h2,h _ _ q⟩) (fun ⟨w1,w2,h1,h2,q⟩=>.inr ⟨w1,w2,h1,h2,h' _ _ q⟩)
theorem Zoj {C:Addr}:∀ ws G Q E,ZpU C ws G Q E→ws.length=2:=fun ws G Q E q=>q.elim (fun ⟨k,l,h1,_⟩=>by rw [h1];rfl) (fun ⟨w1,w2,h1,_⟩=>by rw [h1];rfl)
theorem ZaL (T:Tx K mg base a):Df P w K mg base "check_kinds" 9 2 (ZpU a.NoKind):=by
 refine mkX T.ZkT rfl ZgZ Zsb Zoj (g:=fun E=>ZeD _ E) (Zkr T (ZdM T) (Nat.le_refl _)) fun ws G Q E hC hX q=>?_
 unfold ZeD
 rcases q with ⟨k,l,rfl,hk,q⟩ | ⟨w1,w2,rfl,hw,q⟩
 ·obtain ⟨o1,o2,_⟩:=Zvo hk.1
  obtain ⟨u1,u2,_⟩:=Zvo (ZAz hk)
  walk_at "rd"
  exact Zpr o1 o2 (Zpr u1 u2 q)
 ·walk_at "rd"
  rcases hw with ⟨h1,h2⟩ | ⟨h1,h2⟩
  ·exact ZtA h1 q
  ·exact Zpr h1.1 h1.2 (ZtA h2 q)
def ZoV (C:Addr):Spw:=fun ws G Q E=>(∃ k l,ws=[k.enc,l.enc]∧pr k l∧∀ v,Q v G)∨(∃ w1 w2,ws=[w1,w2]∧ZyH w1 w2∧E C G)
theorem ZmX {C:Addr}:Spw.M (ZoV C):=fun ws G Q Q' E E' h h' q=>q.elim (fun ⟨k,l,h1,h2,q⟩=>.inl ⟨k,l,h1,h2,fun v=>h _ _ (q v)⟩) (fun ⟨w1,w2,h1,h2,q⟩=>.inr ⟨w1,w2,h1,h2,h' _ _ q⟩)
theorem Zi0 {C:Addr}:∀ ws G Q E,ZoV C ws G Q E→ws.length=2:=fun ws G Q E q=>q.elim (fun ⟨k,l,h1,_⟩=>by rw [h1];rfl) (fun ⟨w1,w2,h1,_⟩=>by rw [h1];rfl)
theorem ZdF (T:Tx K mg base a):Df P w K mg base "first_lack" 30 2 (ZoV a.NoKind):=by
 refine mkX (k:=29) T.Zmk rfl ZhV ZmX Zi0 (g:=fun E=>Ze6 _ _ E) (Zmi T (ZaL T) (by omega) (Za7 T 8) (by omega)) fun ws G Q E hC hX q=>?_
 unfold Ze6
 rcases q with ⟨k,l,rfl,hk,q⟩ | ⟨w1,w2,rfl,hw,q⟩
 ·walk_at "rd"
  exact .inl ⟨k,l,rfl,hk,(k,l),⟨rfl,hk.1.1,hk.1.2.2,hk.2⟩,q _⟩
 ·walk_at "rd"
  exact .inr ⟨w1,w2,rfl,hw,q⟩
theorem ZdK (T:Tx K mg base a):Df P w K mg base "does_serve" 27 2 (spR (fun (x:Kd×Kd) ws _=>ws=[x.1.enc,x.2.enc]∧pr x.1 x.2) fun _=>.bl true):=by
 refine mk0 T.ZlN rfl Zie Zcl (fun ws G Q E ⟨x,⟨e,_⟩,_⟩=>by rw [e];rfl) (ZlT T (Za7 T 8) (Nat.le_refl _)) fun ws G Q E hC q=>?_
 obtain ⟨⟨k,l⟩,⟨rfl,hk⟩,q⟩:=q
 dsimp only at hk q
 unfold ZhW
 show Zaz _ (Zaw Q) [some k.enc,some l.enc] G
 simp only [Zaz,Zah,L3.Zaa,L3.Zag,Zaj,Zak,Zab,gC,List.getElem?_cons_zero,List.getElem?_cons_succ]
 exact ⟨(k,l),⟨rfl,hk.1.1,hk.1.2.2,hk.2⟩,q⟩
theorem Zir (T:Tx K mg base a):Df P w K mg base "serves" 30 2 (ZoV a.NoKind):=by
 refine mkX (k:=29) T.Zse rfl Zn5 ZmX Zi0 (g:=fun E=>ZkX _ _ E) (Zs5 T (ZaL T) (by omega) (ZdK T) (by omega)) fun ws G Q E hC hX q=>?_
 unfold ZkX
 rcases q with ⟨k,l,rfl,hk,q⟩ | ⟨w1,w2,rfl,hw,q⟩
 ·walk_at "rd"
  exact .inl ⟨k,l,rfl,hk,(k,l),⟨rfl,hk⟩,q _⟩
 ·walk_at "rd"
  exact .inr ⟨w1,w2,rfl,hw,q⟩
theorem Zis (T:Tx K mg base a):Df P w K mg base "either" 30 2 (ZoV a.NoKind):=by
 refine mkX (k:=29) T.Zru rfl Zoa ZmX Zi0 (g:=fun E=>ZkC _ _ E) (ZsO T (ZaL T) (by omega) (Za5 T 8 (by omega)) (by omega)) fun ws G Q E hC hX q=>?_
 unfold ZkC
 rcases q with ⟨k,l,rfl,hk,q⟩ | ⟨w1,w2,rfl,hw,q⟩
 ·walk_at "rd"
  exact .inl ⟨k,l,rfl,hk,(k,l),⟨rfl,hk.1.1,hk.1.2.2,hk.2⟩,q _⟩
 ·walk_at "rd"
  exact .inr ⟨w1,w2,rfl,hw,q⟩
abbrev ZdN:List Str:=["deep","kind","k"]
theorem ZdB:Zap ZdN ["deep","kind"] (Zae ZcD):=by walk_at "s"
def ZdR:GS:=(Zao (ZdZ (ZbQ (Zaa (Zab 0) Zag)) (gNm 2) (ZaT 1 (Zaj (Zak ixW) (Zbv (Zaa (ZaA (Zaa (gC (.str "box")) (Zaa (Zab 1) Zag))) (Zaa (ZaA (Zaa (gC (.str "to")) (Zaa (ZaA (Zaa (gC (.str "num")) Zag)) (Zaa (Zab 1) Zag)))) (Zaa (ZaA (Zaa (gC (.str "row")) (Zaa (ZaA (Zaa (ZaA (Zaa (gC (.str "a")) (Zaa (gC (.str "may")) (Zaa (Zab 1) Zag)))) Zag)) (Zaa (gC (.bl true)) Zag)))) Zag)))) (Zaj (Zb2 (fun _ j=>0 < j) fun i j=>i % j) (Zab 2) (gC (.int 3)))))) (Zaz (Zab 1)))
theorem Zg0 {k:Nat} (T:Tx K mg base a):Dn P w K mg base ZdN "_law_nested_kind" ZcD k (ZdR):=by
 have hN:=ZdB.nd
 walk_at "z"
abbrev Zfe:List Str:=["state","one","some","way","fields"]
theorem Zdw:Zap Zfe ["state"] (Zae Zco):=by walk_at "s"
def Ze5 (Zai:Spw) (Zax:Spw):GS:=(Zao (ZaT 1 (ZaA (Zaa (gC (.str "num")) Zag))) (Zao (ZaT 2 (Zbv (Zaa (ZaA Zag) (Zaa (ZaA (Zaa (gC (.str "nun")) Zag)) (Zaa (ZaA (Zaa (gC (.str "num")) (Zaa (Zab 1) Zag))) (Zaa (ZaA (Zaa (gC (.str "to")) (Zaa (Zab 1) Zag))) (Zaa (ZaA (Zaa (gC (.str "to")) (Zaa (Zab 1) (Zaa (Zab 1) (Zaa (Zab 1) Zag))))) (Zaa (ZaA (Zaa (gC (.str "box")) Zag)) (Zaa (ZaA (Zaa (gC (.str "box")) (Zaa (Zab 1) (Zaa (Zab 1) Zag)))) (Zaa (ZaA (Zaa (gC (.str "row")) (Zaa (ZaA Zag) Zag))) Zag)))))))))) (Zao (ZaT 2 (Zaj (Zde) (Zab 2) (Zbv (Zaa (ZaA (Zaa (gC (.str "row")) (Zaa (ZaA (Zaa (ZaA (Zaa (gC (.str "a")) (Zaa (gC (.str "must")) Zag))) Zag)) (Zaa (gC (.bl false)) Zag)))) (Zaa (ZaA (Zaa (gC (.str "row")) (Zaa (ZaA (Zaa (ZaA (Zaa (gC (.str "A")) (Zaa (gC (.str "must")) (Zaa (Zab 1) Zag)))) Zag)) (Zaa (gC (.bl false)) Zag)))) (Zaa (ZaA (Zaa (gC (.str "any")) (Zaa (Zab 1) Zag))) Zag)))))) (Zao (ZaT 2 (Zaj (Zde) (Zab 2) (Zbv (Zaa (ZaA (Zaa (gC (.str "row")) (Zaa (ZaA (Zaa (ZaA (Zaa (gC (.str "")) (Zaa (gC (.str "must")) (Zaa (Zab 1) Zag)))) Zag)) (Zaa (gC (.bl true)) Zag)))) (Zaa (ZaA (Zaa (gC (.str "row")) (Zaa (ZaA (Zaa (ZaA (Zaa (gC (.str "a")) (Zaa (gC (.str "should")) (Zaa (Zab 1) Zag)))) Zag)) (Zaa (gC (.bl false)) Zag)))) (Zaa (ZaA (Zaa (gC (.str "Num")) Zag)) Zag)))))) (Zao (ZaT 2 (Zaj (Zde) (Zab 2) (Zbv (Zaa (ZaA (Zaa (gC (.str "row")) (Zaa (ZaA (Zaa (ZaA (Zaa (gC (.str "b")) (Zaa (gC (.str "may")) (Zaa (Zab 1) Zag)))) (Zaa (ZaA (Zaa (gC (.str "a")) (Zaa (gC (.str "may")) (Zaa (Zab 1) Zag)))) Zag))) (Zaa (gC (.bl false)) Zag)))) (Zaa (ZaA (Zaa (gC (.str "row")) (Zaa (ZaA (Zaa (ZaA (Zaa (gC (.str "a")) (Zaa (gC (.str "may")) (Zaa (ZaA Zag) Zag)))) Zag)) (Zaa (gC (.bl true)) Zag)))) Zag))))) (Zao (ZaT 2 (Zaj (Zde) (Zab 2) (Zbv (Zaa (ZaA (Zaa (gC (.str "row")) (Zaa (ZaA (Zaa (ZaA (Zaa (gC (.str "a")) (Zaa (gC (.str "may")) (Zaa (Zab 1) Zag)))) (Zaa (ZaA (Zaa (gC (.str "a")) (Zaa (gC (.str "may")) (Zaa (Zab 1) Zag)))) Zag))) (Zaa (gC (.bl true)) Zag)))) (Zaa (ZaA (Zaa (gC (.str "row")) (Zaa (ZaA (Zaa (ZaA (Zaa (gC (.str "abcdefghi")) (Zaa (gC (.str "may")) (Zaa (Zab 1) Zag)))) Zag)) (Zaa (gC (.bl true)) Zag)))) Zag))))) (Zao (ZaT 3 (Zah Zai XF (Zaa (Zab 0) (Zaa (gC (.int 4)) Zag)))) (Zao (gIf (gTB (Zaj (Zak (eqF false)) (Zab 3) (gC (.int 0)))) (Zaz (Zah Zax XF (Zaa (Zaj (Zde) (gC (.int 8)) (Zah Zai XF (Zaa (Zab 0) (Zaa (gC (.int 3)) Zag)))) (Zaa (Zab 1) Zag)))) Zan) (Zao (gIf (gTB (Zaj (Zak (eqF false)) (Zab 3) (gC (.int 1)))) (Zao (ZaT 4 (gB (rF ZhU) (Zaa (Zba (ZbQ (Zaa (gC (.int 20)) Zag)) 1 [1] (gNm 0) ZhL (ZaA (Zaa (Zaj (Zde) (gC (.str "a")) (Zaj (Zak ixW) (gC (.str "abcdefghijklmnopqrst")) (Zab 0))) (Zaa (gC (.str "may")) (Zaa (ZaA (Zaa (gC (.str "box")) (Zaa (Zab 1) Zag))) Zag))))) Zag))) (Zaz (ZaA (Zaa (gC (.str "row")) (Zaa (Zab 4) (Zaa (gC (.bl true)) Zag)))))) Zan) (Zaz (Zah Zax XF (Zaa (Zah Zai XF (Zaa (Zab 0) (Zaa (gC (.int 4)) Zag))) (Zaa (Zaj (Zak ixW) (Zab 2) (Zah Zai XF (Zaa (Zab 0) (Zaa (gB (rF Zed) (Zaa (Zab 2) Zag)) Zag)))) Zag)))))))))))))
theorem Zjd {k:Nat} (T:Tx K mg base a) {Zaq:Nat} {Zai:Spw} (Zdi:Df P w K mg base "_law_choice" Zaq 2 Zai) (Zdf:Zaq≤k) {ZaJ:Nat} {Zax:Spw} (ZgO:Df P w K mg base "_law_nested_kind" ZaJ 2 Zax) (Zhi:ZaJ≤k):Dn P w K mg base Zfe "_law_bad_kind" Zco k (Ze5 Zai Zax):=fun {f cdv A outer s H E} hr =>
 have hu:=Zfy hr
 have hN:=Zdw.nd
 (Zal (by walk_at "v") (Zal (by walk_at "v") (Zal (by walk_at "v") (Zal (by walk_at "v") (Zal (by walk_at "v") (Zal (by walk_at "v") (Zal (by walk_at "v") (Zal (by walk_at "v") (Zal (ZeR (by walk_at "v") (Zal (Znd (i:=4) Zdw.nd rfl rfl rfl (Zb1 ZaP (Zbr) rfl T.Za9 (by decide) rfl rfl rfl (ZaO rfl (Zk3 rfl (ZvP (own:=["k"]) (fr:=["one"]) (js:=[1]) (scX:=Zae Zco) (n:=s.heap.objs.size+1) rfl (by decide +kernel) (by decide +kernel) (by decide +kernel) (by decide +kernel) rfl rfl rfl (by decide +kernel) rfl) (fun _=>rfl) (by walk_at "v") (ZgQ (i:=0) (by decide) rfl rfl) (fun C fp s1 H1=>ZbN) (fun C fp s1 H1=>(by walk_at "v"))) Zb3))) (by walk_at "v")) Zce) (by walk_at "v"))))))))))
abbrev Zif:List Str:=["e","marks"]
theorem ZhS:Zap Zif ["e"] (Zae ZdO):=by walk_at "s"
def Zh8 (K:PySem.W.Frag) (a:Adr):GS:=(Zao (ZaT 1 (Zbv (Zaa (ZhA K (.ref a.NoKind) (Zab 0)) (Zaa (ZhA K (.ref a.NoTerm) (Zab 0)) (Zaa (ZhA K (.ref a.BadUse) (Zab 0)) (Zaa (ZhA K (.ref a.NoValue) (Zab 0)) Zag)))))) (Zaz (Zaj (ZdG) (Zab 1) (Zbv (Zaa (ZhA K (.ref a.NoNumber) (Zab 0)) (Zaa (ZhA K (.ref a.BadNote) (Zab 0)) (Zaa (ZhA K (.type "ValueError") (Zab 0)) Zag)))))))
theorem ZlI {k:Nat} (T:Tx K mg base a) {f:Addr} {cdv:Value} {A:Around} {outer:List Env} {s:Shared} {H:Hp} {E:XK}:Ssm (cxN P w K mg base Zif "_law_marks" (Zae ZdO) f cdv A outer s H) (fun B=>B=H) (Zbe ZdO) (Zh8 K a) :=
 (Zal (Znd (i:=1) ZhS.nd rfl rfl rfl (ZeN (ZaO rfl (ZhE T.Zkv T.Zac rfl rfl rfl rfl rfl (by walk_at "v")) (ZaO rfl (ZhE T.Zn3 T.Zac rfl rfl rfl rfl rfl (by walk_at "v")) (ZaO rfl (ZhE T.Zn7 T.Zac rfl rfl rfl rfl rfl (by walk_at "v")) (ZaO rfl (ZhE T.Zl9 T.Zac rfl rfl rfl rfl rfl (by walk_at "v")) Zb3)))))) (ZaI (Zb0 (Ze2 (by walk_at "v") (ZeN (ZaO rfl (ZhE T.ZjK T.Zac rfl rfl rfl rfl rfl (by walk_at "v")) (ZaO rfl (ZhE T.Zlr T.Zac rfl rfl rfl rfl rfl (by walk_at "v")) (ZaO rfl (Zt3 ZkK T.Zln T.Zac rfl rfl (by decide) rfl rfl rfl (by walk_at "v")) Zb3))))))))
abbrev ZfE:List Str:=["marks","which"]
theorem ZfN:Zap ZfE ["marks","which"] (Zae Zc3):=by walk_at "s"
def ZfK:GS:=(Zaz (Zaj (Zak (eqF false)) (Zab 0) (Zaj (Zde) (Zba (ZbQ (Zaa (gC (.int 6)) Zag)) 1 [1] (gNm 0) ZhL (Zaj (Zak (eqF false)) (Zab 0) (Zab 1))) (Zbv (Zaa (gC (.bl true)) Zag)))))
theorem Zji {k:Nat} (T:Tx K mg base a):Dn P w K mg base ZfE "_law_refused" Zc3 k (ZfK):=fun {f cdv A outer s H E} hr =>
 have hu:=Zfy hr
 have hN:=ZfN.nd
 (ZaI (Zb0 (Zfa (ZeS hu) rfl (by walk_at "v") (Zdb (Zk3 rfl (ZvP (own:=["k"]) (fr:=["which"]) (js:=[1]) (scX:=Zae Zc3) (n:=s.heap.objs.size+1) rfl (by decide +kernel) (by decide +kernel) (by decide +kernel) (by decide +kernel) rfl rfl rfl (by decide +kernel) rfl) (fun _=>rfl) (by walk_at "v") (ZgQ (i:=0) (by decide) rfl rfl) (fun C fp s1 H1=>ZbN) (fun C fp s1 H1=>(by walk_at "v"))) (by walk_at "v")))))
abbrev Zg4:List Str:=["way","one","other"]
theorem Zhh:Zap Zg4 ["way","one","other"] (Zae Zcw):=by walk_at "s"
def Zex (Zdg:Spw) (Zg3:Spw) (ZgY:Spw) (E:Addr→Hw→Prop):GS:=(gIf (gTB (Zaj (Zak (eqF false)) (Zab 0) (gC (.int 0)))) (Zbd (Zah Zdg (fun _=>E) (Zaa (Zab 1) (Zaa (Zab 2) Zag)))) (gIf (gTB (Zaj (Zak (eqF false)) (Zab 0) (gC (.int 1)))) (Zbd (Zah Zg3 (fun _=>E) (Zaa (Zab 1) (Zaa (Zab 2) Zag)))) (Zbd (Zah ZgY (fun _=>E) (Zaa (Zab 1) (Zaa (Zab 2) Zag))))))
theorem ZkG {k:Nat} (T:Tx K mg base a) {ZdF:Nat} {Zdg:Spw} (Zk9:Df P w K mg base "first_lack" ZdF 2 Zdg) (Zlz:ZdF≤k) {Zir:Nat} {Zg3:Spw} (ZrO:Df P w K mg base "serves" Zir 2 Zg3) (ZrS:Zir≤k) {Zis:Nat} {ZgY:Spw} (Zro:Df P w K mg base "either" Zis 2 ZgY) (ZrV:Zis≤k) {f:Addr} {cdv:Value} {A:Around} {outer:List Env} {s:Shared} {H:Hp} {E:XK} (hr:Room k (A.deeper (envOfC "_law_called" (Zae Zcw) s.heap.objs.size f cdv))):Ssm (cxW P w K mg base Zg4 "_law_called" (Zae Zcw) f cdv A outer s H E) (fun B=>B=H) (Zbe Zcw) (Zex Zdg Zg3 ZgY (dnX K H E)) :=
 have hu:=Zfy hr
 have hN:=Zhh.nd
 (ZaI (ZeR (by walk_at "v") (ZaI (Zbl rfl (ZaZ Zk9 (hr.mono Zlz) rfl ZbB rfl rfl rfl (by walk_at "v")))) (ZaI (ZeR (by walk_at "v") (ZaI (Zbl rfl (ZaZ ZrO (hr.mono ZrS) rfl ZbB rfl rfl rfl (by walk_at "v")))) (ZaI (Zbl rfl (ZaZ Zro (hr.mono ZrV) rfl ZbB rfl rfl rfl (by walk_at "v"))))))))
abbrev ZiB:List Str:=["way","one","other","marks","e"]
theorem Zez:Zap ZiB ["way","one","other"] (Zae Zgy):=by walk_at "s"
def ZiM (K:PySem.W.Frag) (a:Adr) (Zc1:Spw) (Zdk:Spw):GS:=(Zao (ZaT 3 (Zbv Zag)) (Zao (ZyZ K a.CastError 4 (fun ex=>(Zbd (Zah Zc1 ex (Zaa (Zab 0) (Zaa (Zab 1) (Zaa (Zab 2) Zag)))))) (ZaT 3 (Zah Zdk XF (Zaa (Zab 4) Zag)))) (Zaz (Zab 3))))
theorem Zmx {k:Nat} (T:Tx K mg base a) {Zdh:Nat} {Zc1:Spw} (ZkL:Df P w K mg base "_law_called" Zdh 3 Zc1) (Zko:Zdh≤k) {ZdD:Nat} {Zdk:Spw} (Zlv:DfN P w K mg base "_law_marks" ZdD 1 Zdk) (ZlU:ZdD≤k):Dn P w K mg base ZiB "_law_told" Zgy k (ZiM K a Zc1 Zdk):=fun {f cdv A outer s H E} hr =>
 have hu:=Zfy hr
 have hN:=Zez.nd
 (Zal (by walk_at "v") (Zal (Zww (i:=4) T.ZiN T.ZcO T.ZcJ T.ZcI Zez.nd rfl rfl rfl rfl rfl rfl rfl (fun ex pn xe hp=>(ZaI (Zbl rfl (ZaZ ZkL (hr.mono Zko) rfl hp rfl rfl rfl (by walk_at "v"))))) (fun e=>(ZaI (Znd (i:=3) Zez.nd rfl rfl rfl (ZrD Zlv (ZzN hr ZlU) rfl rfl rfl rfl (by walk_at "v")))))) (by walk_at "v")))
abbrev ZxS:List Str:=["script","good","edge","bad","way","fields"]
theorem Zuz:Zap ZxS ["script"] (Zae ZoH):=by walk_at "s"
def Zwx (ZbF:Spw) (ZaV:Spw) (Zai:Spw) (Zax:Spw) (Zcc:Spw) (Zbs:Spw) (Zbp:Spw):GS:=(Zao (ZaT 1 (Zah ZbF XF (Zaa (Zab 0) (Zaa (gC (.int 0)) (Zaa (gC (.bl false)) (Zaa (gC (.bl false)) Zag)))))) (Zao (ZaT 2 (Zah ZaV XF (Zaa (Zab 0) (Zaa (gC (.int 2)) Zag)))) (Zao (gIf (gTB (Zaj (Zak (eqF false)) (Zah Zai XF (Zaa (Zab 2) (Zaa (gC (.int 8)) Zag))) (gC (.int 1)))) (Zao (ZaT 5 (gB (rF ZhU) (Zaa (Zbu (ZbQ (Zaa (gC (.int 19)) Zag)) 1 (gNm 0) ZhL (ZaA (Zaa (Zaj (Zde) (gC (.str "a")) (Zaj (Zak ixW) (gC (.str "abcdefghijklmnopqrs")) (Zab 0))) (Zaa (gC (.str "may")) (Zaa (ZaA (Zaa (gC (.str "box")) (Zaa (ZaA (Zaa (gC (.str "num")) Zag)) Zag))) Zag))))) Zag))) (ZaT 1 (ZaA (Zaa (gC (.str "row")) (Zaa (Zaj (Zde) (Zab 5) (ZaA (Zaa (ZaA (Zaa (gC (.str "b")) (Zaa (gC (.str "must")) (Zaa (ZaA (Zaa (gC (.str "any")) Zag)) Zag)))) Zag))) (Zaa (gC (.bl true)) Zag)))))) Zan) (Zao (gIf (gTB (Zaj (Zak (eqF false)) (Zah Zai XF (Zaa (Zab 2) (Zaa (gC (.int 8)) Zag))) (gC (.int 2)))) (ZaT 1 (Zah Zax XF (Zaa (gC (.int 7)) (Zaa (ZaA (Zaa (gC (.str "truth")) Zag)) Zag)))) Zan) (Zao (ZaT 3 (Zah Zcc XF (Zaa (Zah ZaV XF (Zaa (Zab 0) (Zaa (gC (.int 1)) Zag))) Zag))) (Zao (ZdZ (ZbQ (Zaa (gC (.int 3)) Zag)) (gNm 4) (Zao (gIf (gOr (gNt (Zc9 (Zah Zbp XF (Zaa (Zah Zbs XF (Zaa (Zab 4) (Zaa (Zab 3) (Zaa (Zab 1) Zag)))) (Zaa (gC (.int 0)) Zag))))) (gNt (Zc9 (Zah Zbp XF (Zaa (Zah Zbs XF (Zaa (Zab 4) (Zaa (Zab 1) (Zaa (Zab 3) Zag)))) (Zaa (gC (.int 0)) Zag)))))) (Zaz (gC (.bl false))) Zan) (Zao (gIf (gOr (gTB (Zaj (Zak (eqF true)) (Zah Zbs XF (Zaa (Zab 4) (Zaa (Zab 1) (Zaa (Zab 1) Zag)))) (Zbv Zag))) (gTB (Zaj (Zak (eqF true)) (Zah Zbs XF (Zaa (Zab 4) (Zaa (Zab 1) (Zaa (ZaA (Zaa (gC (.str "any")) Zag)) Zag)))) (Zbv Zag)))) (Zaz (gC (.bl false))) Zan) (gIf (gNt (Zc9 (Zah Zbp XF (Zaa (Zah Zbs XF (Zaa (Zab 4) (Zaa (Zab 3) (Zaa (Zab 3) Zag)))) (Zaa (gC (.int 0)) Zag))))) (Zaz (gC (.bl false))) Zan)))) (Zaz (gC (.bl true)))))))))
theorem Zzq {k:Nat} (T:Tx K mg base a) {ZbX:Nat} {ZbF:Spw} (ZoY:Df P w K mg base "_law_drawn_kind" ZbX 4 ZbF) (Zon:ZbX≤k) {Zbt:Nat} {ZaV:Spw} (Zmh:Df P w K mg base "_law_state" Zbt 2 ZaV) (ZlV:Zbt≤k) {Zaq:Nat} {Zai:Spw} (Zdi:Df P w K mg base "_law_choice" Zaq 2 Zai) (Zdf:Zaq≤k) {ZaJ:Nat} {Zax:Spw} (ZgO:Df P w K mg base "_law_nested_kind" ZaJ 2 Zax) (Zhi:ZaJ≤k) {ZcB:Nat} {Zcc:Spw} (ZpK:Df P w K mg base "_law_bad_kind" ZcB 1 Zcc) (Zq3:ZcB≤k) {ZeE:Nat} {Zbs:Spw} (Zvg:Df P w K mg base "_law_told" ZeE 3 Zbs) (Zvf:ZeE≤k) {ZcZ:Nat} {Zbp:Spw} (Zri:Df P w K mg base "_law_refused" ZcZ 2 Zbp) (Zrk:ZcZ≤k) {f:Addr} {cdv:Value} {A:Around} {outer:List Env} {s:Shared} {H:Hp} {E:XK} (hr:Room k (A.deeper (envOfC "law" (Zae ZoH) s.heap.objs.size f cdv))):Ssm (cxW P w K mg base ZxS "law" (Zae ZoH) f cdv A outer s H E).nox (fun B=>B=H) (Zbe ZoH) (Zwx ZbF ZaV Zai Zax Zcc Zbs Zbp) :=
 have hu:=Zfy hr
 have hN:=Zuz.nd
 (Zal (by walk_at "v") (Zal (by walk_at "v") (Zal (ZeR (by walk_at "v") (Zal (Znd (i:=5) Zuz.nd rfl rfl rfl (Zb1 ZaP (Zbr) rfl T.Za9 (by decide) rfl rfl rfl (ZaO rfl (Ze0 (Nc:=["k"]) rfl (Ztn rfl (by decide +kernel) (by decide +kernel)) (fun _=>rfl) (by walk_at "v") (Zfs (i:=0) (by decide) rfl rfl) (fun C fp s1 H1=>ZbN) (fun C fp s1 H1=>(by walk_at "v"))) Zb3))) (by walk_at "v")) Zce) (by walk_at "v"))))
local macro_rules | `(tactic| walk_at "rd") => `(tactic| ((try dsimp only [ZkM,Zba,ZgG,Zeu,Zbg,Zf2,Zao,gIf,Zaz,ZaT,Zbd,Zan,Zab,gC,Zaj,gTB,Zc9,gNt,Zft,gOr,ZbV,Zfv,Zck,Zfp,L3.ZaA,Zbv,L3.Zaa,L3.Zag,Zah,gB,rF,Zak,ZbE,gMt,Zha,Za6,Zee,Zfq,Zb2,L3.ZdG,Zcu,gSl,ZbP,ZaF,Zbu,Zbc,ZgW,ZdZ,Zaw,ZaQ,List.map_cons,List.map_nil,List.length_cons,List.length_nil,List.cons_append,List.nil_append,List.getElem?_cons_zero,List.getElem?_cons_succ,List.set_cons_zero,List.set_cons_succ,List.replicate,Zev,tyN,Zad,ZbC,ZbW,Zb5,ixW,eqF,eqW,Zed,Zfl,ZgC,List.getElem?_nil]); (try simp only [ZkM,Zba,ZgG,Zeu,Zbg,Zf2,Zao,gIf,Zaz,ZaT,Zbd,Zan,Zab,gC,Zaj,gTB,Zc9,gNt,Zft,gOr,ZbV,Zfv,Zck,Zfp,L3.ZaA,Zbv,L3.Zaa,L3.Zag,Zah,gB,rF,Zak,ZbE,gMt,Zha,Za6,Zee,Zfq,Zb2,L3.ZdG,Zcu,gSl,ZbP,ZaF,Zbu,Zbc,ZgW,ZdZ,Zaw,ZaQ,List.map_cons,List.map_nil,List.length_cons,List.length_nil,List.cons_append,List.nil_append,List.getElem?_cons_zero,List.getElem?_cons_succ,List.set_cons_zero,List.set_cons_succ,List.replicate,Zev,tyN,Zad,ZbC,ZbW,Zb5,ixW,eqF,eqW,Zed,Zfl,ZgC,List.getElem?_nil])))
def ZpQ (a:Adr):Spw:=fun ws G Q _=>∃ e:Addr,ws=[.ref e]∧G e=some (.exc a.NoKind)∧∀ p,G p=none→Q (.ref p) (put G p (.lst [.bl true,.bl false,.bl false,.bl false,.bl false,.bl false,.bl true]))
theorem Zpe:Spw.M (ZpQ a):=fun ws G Q Q' E E' h _ ⟨e,h1,h2,q⟩=>⟨e,h1,h2,fun p hp=>h _ _ (q p hp)⟩
theorem Zgr {G:Hw} {e C:Addr} {cv:Value} {b:Bool} {Q:Kw} {ω:Sw} (he:G e=some (.exc C)) (hω:ω[0]?=some (some (.ref e))) (hx:ZvA K C) (hk:PySem.W.kitOne K (.ref C) cv=some b) (q:Q (.bl b) G):ZhA K cv (Zab 0) ω G Q:=by
 unfold ZhA Zab
 rw [hω]
 dsimp only
 rw [he]
 exact ⟨b,hx,hk,q⟩
theorem ZdD (T:Tx K mg base a):DfN P w K mg base "_law_marks" 1 1 (ZpQ a):=by
 refine mkN T.Zmf rfl ZhS Zpe (fun ws G Q E ⟨e,h,_⟩=>by rw [h];rfl) (ZlI (k:=0) (E:=fun _ _ _=>True) T) fun ws G Q E hC q=>?_
 obtain ⟨e,rfl,he,q⟩:=q
 unfold Zh8
 show Zao (ZaT 1 (Zbv _)) (Zaz _) (Zaw Q) [some (.ref e),none] G
 simp only [Zao,ZaT,Zbv,L3.Zaa,L3.Zag,Zaz,Zaw]
 refine Zgr he rfl T.Zc7 T.ZnB (Zgr he rfl T.Zc7 T.Zog (Zgr he rfl T.Zc7 T.Zn0 (Zgr he rfl T.Zc7 T.ZlL ?_)))
 refine ⟨by decide,fun p hp=>?_⟩
 have ne:e≠p:=ZaM he hp
 have he2:put G p (.lst [.bl true,.bl false,.bl false,.bl false]) e=some (.exc a.NoKind):=by rw [Zau ne];exact he
 simp only [Zaj,Zab,Zbv,L3.Zaa,L3.Zag,List.getElem?_cons_zero,List.getElem?_cons_succ,List.set_cons_zero,List.set_cons_succ]
 refine Zgr he2 rfl T.Zc7 T.Zj2 (Zgr he2 rfl T.Zc7 T.Zl7 (Zgr he2 rfl T.Zc7 T.Zh7 ?_))
 refine ⟨by decide,fun p2 hp2=>?_⟩
 have n2:p≠p2:=ZaM Zaf hp2
 unfold L3.ZdG
 have e1:put (put G p (.lst [.bl true,.bl false,.bl false,.bl false])) p2 (.lst [.bl false,.bl false,.bl true]) p=some (.lst [.bl true,.bl false,.bl false,.bl false]):=by rw [Zau n2];exact Zaf
 simp only [e1,Zaf]
 refine ⟨by decide,fun p3 hp3=>?_⟩
 have h3:G p3=none:=by
  cases z:G p3 with
  | none=>rfl
  | some u =>
   have a1:p3≠p:=by intro q;subst q;rw [hp] at z;cases z
   have a2:put G p (.lst [.bl true,.bl false,.bl false,.bl false]) p3=some u:=by rw [Zau a1];exact z
   have a3:p3≠p2:=ZaM a2 hp2
   rw [Zau a3,a2] at hp3;cases hp3
 refine hC _ _ _ (fun b u hu=>?_) (q p3 h3)
 by_cases hb:b=p3
 ·subst hb;rw [Zaf] at hu ⊢;exact hu
 ·rw [Zau hb] at hu ⊢
  have hb1:b≠p:=ZaM hu hp
  have hb2:put G p (.lst [.bl true,.bl false,.bl false,.bl false]) b=some u:=by rw [Zau hb1];exact hu
  rw [Zau (ZaM hb2 hp2)];exact hb2
theorem Zqs {G:Hw} {p q:Addr} {o:HW} (h:put G p o q=none):G q=none:=by
 by_cases hq:q=p
 ·subst hq;rw [Zaf] at h;cases h
 ·rw [Zau hq] at h;exact h
theorem Zr8 {G G1:Hw} {p:Addr} {o:HW} (s:Sub G G1):Sub (put G p o) (put G1 p o):=Sub.put2 s
abbrev Zje:W:=.tup [.str "num"]
def wr (i:Nat) (w:W):W:=match i % 3 with
 | 0=>.tup [.str "box",w]
 | 1=>.tup [.str "to",Zje,w]
 | _=>.tup [.str "row",.tup [.tup [.str "a",.str "may",w]],.bl true]
def nsW:Nat→Nat→W→W
 | 0,_,w=>w
 | n+1,i,w=>nsW n (i+1) (wr i w)
def wrK (i:Nat) (k:Kd):Kd:=match i % 3 with
 | 0=>.box k
 | 1=>.to .num k
 | _=>.row (.cons "a" false k .nil) true
def nsK:Nat→Nat→Kd→Kd
 | 0,_,k=>k
 | n+1,i,k=>nsK n (i+1) (wrK i k)
theorem Zr7 (i:Nat):i % 3=0∨i % 3=1∨i % 3=2:=by omega
theorem Zzj {i:Nat} (h:i % 3=0) (w:W):wr i w=.tup [.str "box",w]:=by unfold wr;rw [h];rfl
theorem Zy4 {i:Nat} (h:i % 3=1) (w:W):wr i w=.tup [.str "to",Zje,w]:=by unfold wr;rw [h];rfl
theorem ZzS {i:Nat} (h:i % 3=2) (w:W):wr i w=.tup [.str "row",.tup [.tup [.str "a",.str "may",w]],.bl true]:=by unfold wr;rw [h];rfl
theorem Zyc {i:Nat} (h:i % 3=0) (k:Kd):wrK i k=.box k:=by unfold wrK;rw [h];rfl
theorem Zxe {i:Nat} (h:i % 3=1) (k:Kd):wrK i k=.to .num k:=by unfold wrK;rw [h];rfl
theorem Zyg {i:Nat} (h:i % 3=2) (k:Kd):wrK i k=.row (.cons "a" false k .nil) true:=by unfold wrK;rw [h];rfl
theorem ZyC (i:Nat) (k:Kd):wr i k.enc=(wrK i k).enc:=by
 rcases Zr7 i with h | h | h
 ·rw [Zzj h,Zyc h];rfl
 ·rw [Zy4 h,Zxe h];rfl
 ·rw [ZzS h,Zyg h];rfl
theorem Zm8:∀ (n i:Nat) (k:Kd),nsW n i k.enc=(nsK n i k).enc
 | 0,_,_=>rfl
 | n+1,i,k=>by show nsW n (i+1) (wr i k.enc)=_;rw [ZyC,Zm8 n];rfl
theorem Zyp (i:Nat) {k:Kd} (h1:k.ok=true) (h2:k.tw=true):(wrK i k).ok=true∧(wrK i k).tw=true∧(wrK i k).dp=1+k.dp∧(wrK i k).cnt≤k.cnt+2:=by
 have hp:=Zkk k
 rcases Zr7 i with h | h | h
 ·rw [Zyc h]
  exact ⟨h1,h2,rfl,by show 1+k.cnt≤_;omega⟩
 ·rw [Zxe h]
  refine ⟨by show (true&&k.ok)=true;rw [h1];rfl,by show (true&&k.tw)=true;rw [h2];rfl,by show 1+max 1 k.dp=_;omega,by show 1+(1+k.cnt)≤_;omega⟩
 ·rw [Zyg h]
  refine ⟨?_,?_,by show 1+max k.dp 0=_;omega,by show 1+(k.cnt+0)≤_;omega⟩
  ·show (ZkB ["a"]&&(Zdc "a"&&k.ok&&true))=true
   rw [h1,show Zdc "a"=true by decide +kernel];rfl
  ·show (decide (1≤20)&&(k.tw&&true))=true
   rw [h2];rfl
theorem ZqE:∀ (n i:Nat) {k:Kd},k.ok=true→k.tw=true→(nsK n i k).ok=true∧(nsK n i k).tw=true∧(nsK n i k).dp=n+k.dp∧(nsK n i k).cnt≤k.cnt+2*n
 | 0,_,k,h1,h2=>⟨h1,h2,(Nat.zero_add _).symm,by show k.cnt≤_;omega⟩
 | n+1,i,k,h1,h2=>by
  obtain ⟨a1,a2,a3,a4⟩:=Zyp i h1 h2
  obtain ⟨b1,b2,b3,b4⟩:=ZqE n (i+1) a1 a2
  exact ⟨b1,b2,by show (nsK n (i+1) (wrK i k)).dp=_;omega,by show (nsK n (i+1) (wrK i k)).cnt≤_;omega⟩
theorem Zg6 {i:Nat} {ge:GE} {ZbG:GS} {D:Ew} {ω:Sw} {G:Hw} (h:ge ω G fun w G1=>ZbG D (ω.set i (some w)) G1):Zao (ZaT i ge) ZbG D ω G:=h
theorem at3 {i:Nat} (w:W):atI [.tup [.str "box",w],.tup [.str "to",Zje,w],.tup [.str "row",.tup [.tup [.str "a",.str "may",w]],.bl true]] ((i:Int) % 3)=some (wr i w):=by
 have e:(i:Int) % 3=((i % 3:Nat):Int):=by omega
 rw [e]
 rcases Zr7 i with h | h | h
 ·rw [h,Zzj h];rfl
 ·rw [h,Zy4 h];rfl
 ·rw [h,ZzS h];rfl
abbrev gNs:GS:=ZaT 1 (Zaj (Zak ixW) (Zbv (L3.Zaa (L3.ZaA (L3.Zaa (gC (.str "box")) (L3.Zaa (Zab 1) L3.Zag))) (L3.Zaa (L3.ZaA (L3.Zaa (gC (.str "to")) (L3.Zaa (L3.ZaA (L3.Zaa (gC (.str "num")) L3.Zag)) (L3.Zaa (Zab 1) L3.Zag)))) (L3.Zaa (L3.ZaA (L3.Zaa (gC (.str "row")) (L3.Zaa (L3.ZaA (L3.Zaa (L3.ZaA (L3.Zaa (gC (.str "a")) (L3.Zaa (gC (.str "may")) (L3.Zaa (Zab 1) L3.Zag)))) L3.Zag)) (L3.Zaa (gC (.bl true)) L3.Zag)))) L3.Zag)))) (Zaj (Zb2 (fun _ j=>0 < j) fun i j=>i % j) (Zab 2) (gC (.int 3))))
theorem Zq6 {D:Ew} {w0:Option W}:∀ (n i:Nat) (w:W) (o2:Option W) (G:Hw),(∀ o2 G',Sub G G'→D.nx [w0,some (nsW n i w),o2] G') →
  ZeO yes (gNm 2) gNs D ((List.range' i n).map fun j:Nat=>W.int j) [w0,some w,o2] G
 | 0,i,w,o2,G,h=>⟨trivial,h o2 G Sub.refl⟩
 | n+1,i,w,o2,G,h=>by
  refine ⟨trivial,?_⟩
  show gNs _ [w0,some w,some (.int i)] G
  simp only [gNs,ZaT,Zaj,Zbv,L3.ZaA,L3.Zaa,L3.Zag,gC,Zab,List.getElem?_cons_zero,List.getElem?_cons_succ,List.length_cons,List.length_nil,Zb2]
  repeat refine ⟨by decide,?_⟩
  intro p hp
  refine ⟨by decide,?_⟩
  show opt (ixW (.ref p) (.int ((i:Int) % 3)) _) _
  rw [Zg8 Zaf,at3,Zad]
  walk_at "pd"
  exact Zq6 n (i+1) (wr i w) _ _ fun o2 G' hs=>h o2 G' ((Za3 hp).trans hs)
def ZAc:Spw:=spR (fun (x:Nat×W) ws _=>ws=[.int x.1,x.2]∧x.1≤20) fun x=>nsW x.1 0 x.2
theorem ZaJ (T:Tx K mg base a):Df P w K mg base "_law_nested_kind" 1 2 ZAc:=by
 refine mk0 T.Zg5 rfl ZdB Zcl (fun ws G Q E ⟨x,⟨e,_⟩,_⟩=>by rw [e];rfl) (Zg0 T) fun ws G Q E hC q=>?_
 obtain ⟨⟨d,w⟩,⟨rfl,hd⟩,q⟩:=q
 dsimp only at hd q
 unfold ZdR
 show Zao (ZdZ _ _ gNs) _ (Zaw Q) [some (.int d),some w,none] G
 simp only [Zao,ZdZ,ZbQ,L3.Zaa,L3.Zag,Zab,List.getElem?_cons_zero]
 refine ⟨by omega,by omega,?_⟩
 rw [Int.toNat_natCast,List.range_eq_range']
 exact Zq6 d 0 w none G fun o2 G' hs=>hC _ _ _ hs q
abbrev bd1:List W:=[.tup [],.tup [.str "nun"],.tup [.str "num",Zje],.tup [.str "to",Zje],.tup [.str "to",Zje,Zje,Zje],.tup [.str "box"],.tup [.str "box",Zje,Zje],.tup [.str "row",.tup []]]
abbrev bd2:List W:=[.tup [.str "row",.tup [.tup [.str "a",.str "must"]],.bl false],.tup [.str "row",.tup [.tup [.str "A",.str "must",Zje]],.bl false],.tup [.str "any",Zje]]
abbrev bd3:List W:=[.tup [.str "row",.tup [.tup [.str "",.str "must",Zje]],.bl true],.tup [.str "row",.tup [.tup [.str "a",.str "should",Zje]],.bl false],.tup [.str "Num"]]
abbrev bd4:List W:=[.tup [.str "row",.tup [.tup [.str "b",.str "may",Zje],.tup [.str "a",.str "may",Zje]],.bl false],.tup [.str "row",.tup [.tup [.str "a",.str "may",.tup []]],.bl true]]
abbrev bd5:List W:=[.tup [.str "row",.tup [.tup [.str "a",.str "may",Zje],.tup [.str "a",.str "may",Zje]],.bl true],.tup [.str "row",.tup [.tup [.str "abcdefghi",.str "may",Zje]],.bl true]]
def Zrm:List W:=bd1++bd2++bd3++bd4++bd5
def okB:Nat→W→Bool
 | 0,w=>okL w
 | n+1,w=>okL w&&(!hF w||(Zc8 w).all (okB n))
theorem ZuX:∀ {n:Nat} {w:W},okB n w=true→OKW n w
 | 0,_,h=>h
 | n+1,w,h=>by
  have h':(okL w&&(!hF w||(Zc8 w).all (okB n)))=true:=h
  walk_at "pj"
  refine ⟨h'.1,fun hf c hc=>?_⟩
  have z:=h'.2
  rw [hf] at z
  exact ZuX (List.all_eq_true.mp (by simpa using z) c hc)
theorem OKW.down:∀ {n:Nat} {w:W},OKW (n+1) w→OKW n w
 | 0,_,h=>h.1
 | n+1,_,h=>⟨h.1,fun hf c hc=>(h.2 hf c hc).down⟩
theorem Zk5:Zrm.length=18:=by decide +kernel
theorem Zrp:(Zrm.all fun w=>bdW 1 w&&okB 7 w)=true:=by decide +kernel
theorem ZrM {w:W} (h:w∈Zrm):bdW 1 w=true∧OKW 7 w:=by
 have z:=List.all_eq_true.mp Zrp w h
 simp only [Bool.and_eq_true] at z
 exact ⟨z.1,ZuX z.2⟩
theorem Zu4 {w v:W} {d:Nat} (hk:v∈Zc8 w) (h:bdW d v=true):bdW (d+1) w=true:=by
 show (!hF w||(Zc8 w).any (bdW d))=true
 rw [List.any_eq_true.mpr ⟨v,hk,h⟩,Bool.or_true]
theorem Znz (w:W):Zc8 (.tup [.str "box",w])=[w]:=Zgp (h:="box") (r:=[w]) (by decide +kernel)
theorem Zq5 (v w:W):Zc8 (.tup [.str "to",v,w])=[v,w]:=Zgp (h:="to") (r:=[v,w]) (by decide +kernel)
theorem ZnS (w:W):Zc8 (.tup [.str "row",.tup [.tup [.str "a",.str "may",w]],.bl true])=[w]:=ZpY (fs:=[.tup [.str "a",.str "may",w]]) (r:=[.bl true])
theorem Zw0 (i:Nat) {w:W} {d:Nat} (h1:bdW d w=true) (h2:OKW 7 w):bdW (d+1) (wr i w)=true∧OKW 7 (wr i w):=by
 rcases Zr7 i with h | h | h
 ·rw [Zzj h]
  refine ⟨Zu4 (by rw [Znz];exact List.mem_singleton.mpr rfl) h1,rfl,fun _ c hc=>?_⟩
  rw [Znz] at hc
  rw [List.mem_singleton.mp hc];exact h2.down
 ·rw [Zy4 h]
  refine ⟨Zu4 (by rw [Zq5];exact List.mem_cons_of_mem _ (List.mem_singleton.mpr rfl)) h1,rfl,fun _ c hc=>?_⟩
  rw [Zq5] at hc
  simp only [List.mem_cons,List.not_mem_nil,or_false] at hc
  rcases hc with rfl | rfl
  ·exact ZuX (by decide +kernel)
  ·exact h2.down
 ·rw [ZzS h]
  refine ⟨Zu4 (by rw [ZnS];exact List.mem_singleton.mpr rfl) h1,rfl,fun _ c hc=>?_⟩
  rw [ZnS] at hc
  rw [List.mem_singleton.mp hc];exact h2.down
theorem Ztb:∀ (n i:Nat) {w:W} {d:Nat},bdW d w=true→OKW 7 w→bdW (d+n) (nsW n i w)=true∧OKW 7 (nsW n i w)
 | 0,_,_,_,h1,h2=>⟨h1,h2⟩
 | n+1,i,w,d,h1,h2=>by
  obtain ⟨a1,a2⟩:=Zw0 i h1 h2
  obtain ⟨b1,b2⟩:=Ztb n (i+1) a1 a2
  rw [show d+(n+1)=d+1+n by omega]
  exact ⟨b1,b2⟩
theorem Zyr {w:W} (h:w∈Zrm) (n:Nat):bad (nsW n 0 w):=by
 obtain ⟨h1,h2⟩:=ZrM h
 obtain ⟨a1,a2⟩:=Ztb n 0 h1 h2
 exact ⟨a2,Zyh a1⟩
theorem Zsf {n:Nat} (h8:8≤n) (h20:n≤20):bad (nsW n 0 Zje):=by
 have e:Zje=Kd.num.enc:=rfl
 rw [e,Zm8]
 obtain ⟨h1,_,h3,h4⟩:=ZqE n 0 (k:=.num) rfl rfl
 have e1:Kd.num.dp=1:=rfl
 have e2:Kd.num.cnt=1:=rfl
 refine ⟨Zk4 7 h1 (by omega),?_⟩
 rw [ZmY h1]
 exact decide_eq_false fun z=>by omega
theorem Zq7:kg (nsK 7 0 .truth):=by
 obtain ⟨h1,h2,h3,h4⟩:=ZqE 7 0 (k:=.truth) rfl rfl
 have e1:Kd.truth.dp=1:=rfl
 have e2:Kd.truth.cnt=1:=rfl
 exact ⟨⟨h1,h2⟩,by omega,by omega⟩
def sgn (z:Str) (i:Nat):Str:=match atI z.cps.toList (i:Int) with | some c=>⟨#[c]⟩ | none=>""
theorem Zti {z:Str} {i:Nat} (G:Hw) (hz:z.length≤sizeLine) (h:i < z.cps.toList.length):ixW (.str z) (.int i) G=some (.str (sgn z i)):=by
 have e:atI z.cps.toList (i:Int)=some z.cps.toList[i]:=Zho (List.getElem?_eq_getElem h)
 show (if z.length≤sizeLine then (atI z.cps.toList (i:Int)).map (fun c=>W.str ⟨#[c]⟩) else none)=_
 unfold sgn
 rw [if_pos hz,e];rfl
theorem Zqh (z:Str) (i:Nat):(sgn z i).length≤1:=by
 unfold sgn
 split
 ·exact Nat.le_refl 1
 ·exact Nat.zero_le _
def rl (z:Str) (n:Nat):List (Str×Bool×Kd):=(List.range n).map fun i=>("a"++sgn z i,false,.box .num)
abbrev z20:Str:="abcdefghijklmnopqrst"
abbrev z19:Str:="abcdefghijklmnopqrs"
abbrev l19:List (Str×Bool×Kd):=rl z19 19++[(("b":Str),true,Kd.any)]
theorem r20:(Kd.row (ofL (rl z20 20)) true).ok=true∧(Kd.row (ofL (rl z20 20)) true).cnt=41:=by decide +kernel
theorem r19:(Kd.row (ofL l19) true).ok=true∧(Kd.row (ofL l19) true).tw=true∧(Kd.row (ofL l19) true).cnt=40∧(Kd.row (ofL l19) true).dp=3:=by decide +kernel
theorem ZxA:bad (Kd.row (ofL (rl z20 20)) true).enc:=by
 obtain ⟨h1,h2⟩:=r20
 refine ⟨Zk4 7 h1 (by omega),?_⟩
 rw [ZmY h1]
 exact decide_eq_false fun z=>by omega
theorem Zu6:kg (Kd.row (ofL l19) true):=by
 obtain ⟨h1,h2,h3,h4⟩:=r19
 exact ⟨⟨h1,h2⟩,by omega,by omega⟩
theorem Zpa (l:List (Str×Bool×Kd)) (o:Bool):(Kd.row (ofL l) o).enc=.tup [.str "row",.tup (l.map Zil),.bl o]:=by rw [← ZkO];rfl
theorem Ziu {i:Nat} {p:Addr} {xs ys:List W} {ga:GA} {ZbG:GS} {D:Ew} {ω:Sw} {G:Hw} (h0:ω[i]?=some (some (.ref p))) (hx:G p=some (.lst xs)) (hl:xs.length+ys.length≤100) (hg:∀ R:List W→Hw→Prop,R ys G→ga ω G R) (h:∀ r G',Sub G G'→G' r=some (.lst (xs++ys))→ZbG D (ω.set i (some (.ref r))) G'):Zao (ZaT i (Zaj Zde (Zab i) (Zbv ga))) ZbG D ω G:=by
 simp only [Zao,ZaT,Zaj,Zab,h0,Zbv]
 refine hg _ ⟨Zbf (by omega),fun q hq=>?_⟩
 have ne:p≠q:=ZaM hx hq
 have e1:put G q (.lst ys) p=some (.lst xs):=by rw [Zau ne];exact hx
 rw [Zhb (fun z=>by obtain ⟨⟨u,hu⟩,_⟩:=z;cases hu)]
 unfold L3.ZdG
 simp only [e1,Zaf]
 exact ⟨Zbf (by omega),fun r hr=>h r _ (Zb8 (Za3 hq) hr) Zaf⟩
theorem Zsd {i:Nat} {ys:List W} {ga:GA} {ZbG:GS} {D:Ew} {ω:Sw} {G:Hw} (hl:ys.length≤100) (hg:∀ R:List W→Hw→Prop,R ys G→ga ω G R) (h:∀ r G',Sub G G'→G' r=some (.lst ys)→ZbG D (ω.set i (some (.ref r))) G'):Zao (ZaT i (Zbv ga)) ZbG D ω G:=by
 simp only [Zao,ZaT,Zbv]
 exact hg _ ⟨Zbf (by omega),fun q hq=>h q _ (Za3 hq) Zaf⟩
theorem Zip {i j:Int} {n:Nat} {s t:GS} {D:Ew} {ω:Sw} {G:Hw} (h0:ω[n]?=some (some (.int i))) (h:if i=j then s D ω G else t D ω G):gIf (gTB (Zaj (Zak (eqF false)) (Zab n) (gC (.int j)))) s t D ω G:=by
 simp only [gIf,gTB,Zaj,Zak,Zab,h0,gC,eqF,eqW,Option.map_some,Zad]
 by_cases z:i=j
 ·rw [if_pos z] at h
  have:(i==j)=true:=by simp [z]
  rw [this];exact h
 ·rw [if_neg z] at h
  have:(i==j)=false:=by simp [z]
  rw [this];exact h
theorem ZwO {xs:List W} {i:Int} (h0:0≤i) (h:i < (xs.length:Int)):∃ w∈xs,atI xs i=some w:=by
 have hk:i.toNat < xs.length:=by omega
 have ek:i=((i.toNat:Nat):Int):=by omega
 refine ⟨xs[i.toNat],List.getElem_mem hk,?_⟩
 have q:atI xs ((i.toNat:Nat):Int)=some xs[i.toNat]:=Zho (List.getElem?_eq_getElem hk)
 rw [← ek] at q
 exact q
local macro_rules | `(tactic| walk_at "lg") => `(tactic| (simp only [L3.ZaA, L3.Zaa, L3.Zag, gC, Zab, Zaj, List.getElem?_cons_zero, List.getElem?_cons_succ, List.length_cons, List.length_nil]; repeat refine ⟨by decide, ?_⟩))
abbrev St (x:Int) (b:Bool):HW:=.lst [.int x,.bl b]
def Zt8:Spw:=fun ws G Q _=>∃ (s:Addr) (x:Int) (b:Bool),ws=[.ref s]∧G s=some (St x b)∧∀ w x',bad w→Q w (put G s (St x' b))
theorem Zt7:Spw.M Zt8:=fun ws G Q Q' E E' h _ ⟨s,x,b,h1,h2,q⟩=>⟨s,x,b,h1,h2,fun w x' z=>h _ _ (q w x' z)⟩
theorem ZnV {z:Str} {n:Nat} {cst:Sw} {ge:GE} {R:List W→Hw→Prop} {G:Hw} (hn:n≤50) (hz:z.length≤sizeLine) (hl:n≤z.cps.toList.length) (hg:∀ i,i < n→∀ Q:Kw,Q (Zil ("a"++sgn z i,false,.box .num)) G→ge (some (.int i)::cst) G Q) (r:R ((rl z n).map Zil) G):Zb7 yes (gNm 0) ZhL ge R ((List.range n).map fun i:Nat=>W.int i) (none::cst) G []:=by
 refine Zqe (enc:=fun i:Nat=>W.int i) (f:=fun i=>Zil ("a"++sgn z i,false,.box .num)) trivial (List.range n) none [] (fun i hi Q' q'=>hg i (List.mem_range.mp hi) Q' q') (by rw [List.length_range];exact Zbf (by simp only [List.length_nil];omega)) ?_
 rw [List.nil_append]
 have e:(rl z n).map Zil=(List.range n).map fun i=>Zil ("a"++sgn z i,false,.box .num):=by unfold rl;rw [List.map_map];rfl
 rw [← e];exact r
theorem ZcB (T:Tx K mg base a):Df P w K mg base "_law_bad_kind" 2 1 Zt8:=by
 refine mk0 (k:=1) T.ZiG rfl Zdw Zt7 (fun ws G Q E ⟨s,x,b,e,_⟩=>by rw [e];rfl) (Zjd T (Zaq T) (Nat.le_refl _) (ZaJ T) (Nat.le_refl _)) fun ws G Q E hC q=>?_
 obtain ⟨s,x,b,rfl,hs,q⟩:=q
 unfold Ze5
 show Zao (ZaT 1 _) _ (Zaw Q) [some (.ref s),none,none,none,none] G
 refine Zg6 ?_
 refine ⟨(show 1≤sizeLine by decide),?_⟩
 walk_at "pd"
 refine Zsd (ys:=bd1) (by decide) (fun R hR=>?_) fun p1 G1 s1 e1=>?_
 ·walk_at "lg"
  exact hR
 walk_at "pd"
 refine Ziu (xs:=bd1) (ys:=bd2) rfl e1 (by decide) (fun R hR=>?_) fun p2 G2 s2 e2=>?_
 ·walk_at "lg"
  exact hR
 walk_at "pd"
 refine Ziu (xs:=bd1++bd2) (ys:=bd3) rfl e2 (by decide) (fun R hR=>?_) fun p3 G3 s3 e3=>?_
 ·walk_at "lg"
  exact hR
 walk_at "pd"
 refine Ziu (xs:=bd1++bd2++bd3) (ys:=bd4) rfl e3 (by decide) (fun R hR=>?_) fun p4 G4 s4 e4=>?_
 ·walk_at "lg"
  exact hR
 walk_at "pd"
 refine Ziu (xs:=bd1++bd2++bd3++bd4) (ys:=bd5) rfl e4 (by decide) (fun R hR=>?_) fun p5 G5 s5 e5=>?_
 ·walk_at "lg"
  exact hR
 walk_at "pd"
 have sb:Sub G G5:=((((s1.trans s2).trans s3).trans s4).trans s5)
 have e9:G5 p5=some (.lst Zrm):=e5
 have hs5:G5 s=some (St x b):=sb s _ hs
 have hne:p5≠s:=fun z=>by
  rw [z,hs5] at e9
  have e0:Zrm=[.int x,.bl b]:=by injection e9 with e9;injection e9 with e9;exact e9.symm
  have:=Zk5
  rw [e0] at this
  cases this
 refine Zg6 ?_
 refine ⟨s,4,x,b,[],rfl,by decide,by decide,hs5,fun way x1 r0 r1=>?_⟩
 walk_at "pd"
 have sb1:∀ {y:Int},Sub (put G s (St y b)) (put (put G5 s (St x1 b)) s (St y b)):=fun {y}=>by rw [ZdU];exact Sub.put2 sb
 simp only [Zao]
 refine Zip (n:=3) rfl ?_
 by_cases h0:way=0
 ·rw [if_pos h0]
  simp only [Zaz,Zah,L3.Zaa,L3.Zag,Zaj,gC,Zab,List.getElem?_cons_zero,List.getElem?_cons_succ,Zde,L3.ZdG]
  refine ⟨s,3,x1,b,[],rfl,by decide,by decide,Zaf,fun r2 x2 u0 u1=>?_⟩
  refine ⟨((8+r2).toNat,Zje),⟨?_,by dsimp only;omega⟩,?_⟩
  ·dsimp only;rw [Int.toNat_of_nonneg (by omega)]
  ·exact hC _ _ _ sb1 (q _ _ (Zsf (by omega) (by omega)))
 rw [if_neg h0]
 simp only [Zan]
 refine Zip (n:=3) rfl ?_
 by_cases h1:way=1
 ·rw [if_pos h1]
  simp only [Zao,ZaT,gB,L3.Zaa,L3.Zag,Zba,ZbQ,gC,Zf2,Zab,List.map_cons,List.map_nil,List.replicate,List.cons_append,List.nil_append,List.getElem?_cons_zero,List.getElem?_cons_succ,Option.getD_some]
  refine ⟨by decide,by decide,?_⟩
  refine ZnV (z:=z20) (n:=20) (by decide) (by decide) (by decide +kernel) (fun i hi Q' q'=>?_) fun p hp=>?_
  ·simp only [L3.ZaA,L3.Zaa,L3.Zag,Zaj,gC,Zab,Zak,List.getElem?_cons_zero,List.getElem?_cons_succ,List.length_cons,List.length_nil]
   rw [Zti _ (by decide) (Nat.lt_of_lt_of_le hi (by decide +kernel)),Zad]
   refine ⟨?_,?_⟩
   ·exact Nat.le_trans (Nat.add_le_add_left (Zqh z20 i) _) (by decide)
   ·refine ⟨by decide,by decide,q'⟩
  ·simp only [rF,ZhU,ZiH Zaf,Option.map_some,Zad,List.set_cons_zero,List.set_cons_succ,Zaz,L3.ZaA,L3.Zaa,L3.Zag,gC,Zab,List.getElem?_cons_zero,List.getElem?_cons_succ,Zaw,List.length_cons,List.length_nil]
   refine ⟨by decide,?_⟩
   have z:=q _ x1 ZxA
   rw [Zpa] at z
   exact hC _ _ _ (Zb8 (Sub.put2 sb) hp) z
 rw [if_neg h1]
 simp only [Zan,Zaz,Zah,L3.Zaa,L3.Zag,Zaj,gC,Zab,Zak,gB,rF,List.getElem?_cons_zero,List.getElem?_cons_succ]
 refine ⟨s,4,x1,b,[],rfl,by decide,by decide,Zaf,fun r2 x2 u0 u1=>?_⟩
 rw [ZdU]
 have ep:put G5 s (St x2 b) p5=some (.lst Zrm):=by rw [Zau hne];exact e9
 simp only [Zed,Zfl,ep,Zad]
 refine ⟨s,Zrm.length,x2,b,[],rfl,by rw [Zk5];decide,by rw [Zk5];decide,Zaf,fun r3 x3 v0 v1=>?_⟩
 rw [ZdU]
 obtain ⟨v,hv,hat⟩:=ZwO (xs:=Zrm) v0 v1
 have ep3:put G5 s (St x3 b) p5=some (.lst Zrm):=by rw [Zau hne];exact e9
 rw [Zg8 ep3,hat,Zad]
 refine ⟨(r2.toNat,v),⟨?_,by dsimp only;omega⟩,?_⟩
 ·dsimp only;rw [Int.toNat_of_nonneg u0]
 ·exact hC _ _ _ (Sub.put2 sb) (q _ _ (Zyr hv _))
abbrev due:List W:=[.bl true,.bl false,.bl false,.bl false,.bl false,.bl false,.bl true]
def ZoG:Spw:=fun ws G Q _=>∃ p,ws=[.ref p,.int 0]∧G p=some (.lst due)∧Q (.bl true) G
theorem ZuT:Spw.M ZoG:=fun ws G Q Q' E E' h _ ⟨p,h1,h2,q⟩=>⟨p,h1,h2,h _ _ q⟩
theorem ZkV (neg:Bool) {G:Hw} {p r:Addr} {xs:List W} (h1:G p=some (.lst xs)) (h2:G r=some (.lst xs)) (hd:L3.dpL xs < 90) (he:ZkU xs xs=some true):eqF neg (.ref p) (.ref r) G=some (.bl (true != neg)):=by
 have:eqW (.ref p) (.ref r) G=some true:=by
  unfold eqW
  simp only [h1,h2]
  rw [if_pos hd,he]
 unfold eqF
 rw [this];rfl
theorem ZcZ (T:Tx K mg base a):Df P w K mg base "_law_refused" 1 2 ZoG:=by
 refine mk0 T.Zjl rfl ZfN ZuT (fun ws G Q E ⟨p,e,_⟩=>by rw [e];rfl) (Zji T) fun ws G Q E hC q=>?_
 obtain ⟨p,rfl,hp,q⟩:=q
 unfold ZfK
 show Zaz _ (Zaw Q) [some (.ref p),some (.int 0)] G
 simp only [Zaz,Zaj,Zab,Zba,ZbQ,L3.Zaa,L3.Zag,gC,Zf2,List.map_cons,List.map_nil,List.replicate,List.cons_append,List.nil_append,List.getElem?_cons_zero,List.getElem?_cons_succ,Option.getD_some]
 refine ⟨by decide,by decide,?_⟩
 refine Zqe (enc:=fun i:Nat=>W.int i) (f:=fun i=>.bl ((i:Int)==0)) (cst:=[some (.int 0)]) trivial (List.range 6) none [] (fun i hi Q' q'=>?_) (by decide) fun p1 hp1=>?_
 ·simp only [Zaj,Zab,Zak,List.getElem?_cons_zero,List.getElem?_cons_succ,eqF,eqW,Option.map_some,Zad]
  cases hh:((i:Int)==0) with
  | true=>rw [hh] at q';exact q'
  | false=>rw [hh] at q';exact q'
 ·simp only [Zbv,L3.Zaa,L3.Zag,gC,List.length_cons,List.length_nil]
  refine ⟨by decide,fun p2 hp2=>?_⟩
  rw [Zhb (fun z=>by obtain ⟨⟨u,hu⟩,_⟩:=z;cases hu)]
  unfold L3.ZdG
  have e1:put (put G p1 (.lst ([]++(List.range 6).map fun i:Nat=>W.bl ((i:Int)==0)))) p2 (.lst [.bl true]) p1=some (.lst ([]++(List.range 6).map fun i:Nat=>W.bl ((i:Int)==0))):=by rw [Zau (ZaM Zaf hp2)];exact Zaf
  simp only [e1,Zaf]
  refine ⟨by decide,fun p3 hp3=>?_⟩
  have n1:put G p1 (.lst ([]++(List.range 6).map fun i:Nat=>W.bl ((i:Int)==0))) p=some (.lst due):=by rw [Zau (ZaM hp hp1)];exact hp
  have n2:put (put G p1 (.lst ([]++(List.range 6).map fun i:Nat=>W.bl ((i:Int)==0)))) p2 (.lst [.bl true]) p=some (.lst due):=by rw [Zau (ZaM n1 hp2)];exact n1
  have n3:put (put (put G p1 (.lst ([]++(List.range 6).map fun i:Nat=>W.bl ((i:Int)==0)))) p2 (.lst [.bl true])) p3 (.lst due) p=some (.lst due):=by rw [Zau (ZaM n2 hp3)];exact n2
  show Zak (eqF false) (.ref p) (.ref p3) (put (put (put G p1 (.lst ([]++(List.range 6).map fun i:Nat=>W.bl ((i:Int)==0)))) p2 (.lst [.bl true])) p3 (.lst due)) Q
  show opt (eqF false (.ref p) (.ref p3) _) _
  rw [ZkV false n3 Zaf (by decide) (by decide),Zad]
  exact hC _ _ _ (Zb8 (Zb8 (Za3 hp1) hp2) hp3) q
def cond (w1 w2:W) (A B:Prop):Prop:=(∃ k l,w1=k.enc∧w2=l.enc∧pr k l∧A)∨(ZyH w1 w2∧B)
theorem cond.imp {w1 w2:W} {A B A' B':Prop} (h1:A→A') (h2:B→B') (h:cond w1 w2 A B):cond w1 w2 A' B':=by
 rcases h with ⟨k,l,e1,e2,g,z⟩ | ⟨h,z⟩
 ·exact .inl ⟨k,l,e1,e2,g,h1 z⟩
 ·exact .inr ⟨h,h2 z⟩
def ZvK (a:Adr):Spw:=fun ws G Q E=>∃ (i:Int) (w1 w2:W),ws=[.int i,w1,w2]∧cond w1 w2 (Q .non G) (E a.NoKind G)
theorem ZuA:Spw.M (ZvK a):=fun ws G Q Q' E E' h h' ⟨i,w1,w2,e,q⟩=>⟨i,w1,w2,e,q.imp (h _ _) (h' _ _)⟩
theorem Zqr:∀ ws G Q E,ZvK a ws G Q E→ws.length=3:=fun ws G Q E ⟨i,w1,w2,e,_⟩=>by rw [e];rfl
theorem ZqJ {w1 w2:W} {G:Hw} {Q:Kw} {E:Addr→Hw→Prop} (q:cond w1 w2 (Q .non G) (E a.NoKind G)):ZoV a.NoKind [w1,w2] G (fun _ G1=>Q .non G1) E:=by
 rcases q with ⟨k,l,e1,e2,g,z⟩ | ⟨h,z⟩
 ·exact .inl ⟨k,l,by rw [e1,e2],g,fun _=>z⟩
 ·exact .inr ⟨w1,w2,rfl,h,z⟩
theorem Zdh (T:Tx K mg base a):Df P w K mg base "_law_called" 31 3 (ZvK a):=by
 refine mkX (k:=30) T.ZkE rfl Zhh ZuA Zqr (g:=fun E=>Zex _ _ _ E) (ZkG T (ZdF T) (by omega) (Zir T) (by omega) (Zis T) (by omega)) fun ws G Q E hC hX q=>?_
 obtain ⟨i,w1,w2,rfl,q⟩:=q
 unfold Zex
 show gIf _ _ _ (Zaw Q) [some (.int i),some w1,some w2] G
 refine Zip (n:=0) rfl ?_
 by_cases z:i=0
 ·rw [if_pos z];exact ZqJ q
 rw [if_neg z]
 refine Zip (n:=0) rfl ?_
 by_cases z1:i=1
 ·rw [if_pos z1];exact ZqJ q
 rw [if_neg z1]
 exact ZqJ q
def Zrb:Spw:=fun ws G Q _=>∃ (i:Int) (w1 w2:W),ws=[.int i,w1,w2]∧cond w1 w2 (∀ p,G p=none→Q (.ref p) (put G p (.lst []))) (∀ p,G p=none→Q (.ref p) (put G p (.lst due)))
theorem Zyx:Spw.M Zrb:=fun ws G Q Q' E E' h h' ⟨i,w1,w2,e,q⟩=>⟨i,w1,w2,e,q.imp (fun z p hp=>h _ _ (z p hp)) (fun z p hp=>h _ _ (z p hp))⟩
theorem ZeE (T:Tx K mg base a):Df P w K mg base "_law_told" 32 3 Zrb:=by
 refine mk0 (k:=31) T.Zm0 rfl Zez Zyx (fun ws G Q E ⟨i,w1,w2,e,_⟩=>by rw [e];rfl) (Zmx T (Zdh T) (by omega) (ZdD T) (by omega)) fun ws G Q E hC q=>?_
 obtain ⟨i,w1,w2,rfl,q⟩:=q
 unfold ZiM
 show Zao (ZaT 3 (Zbv _)) (Zao (ZyZ _ _ _ _ _) (Zaz _)) (Zaw Q) [some (.int i),some w1,some w2,none,none] G
 simp only [Zao,ZaT,Zbv,L3.Zag,List.set_cons_zero,List.set_cons_succ]
 refine ⟨by decide,fun p0 hp0=>?_⟩
 refine ⟨_,⟨fun _ _ z=>z,fun _ _ z=>z,fun _ _ z=>z,fun _ _ z=>z⟩,?_⟩
 simp only [ZwG,ZaT,Zbd,Zah,L3.Zaa,L3.Zag,Zab,List.getElem?_cons_zero,List.getElem?_cons_succ,List.set_cons_zero,List.set_cons_succ]
 refine ⟨i,w1,w2,rfl,q.imp (fun z=>?_) (fun z=>?_)⟩
 ·exact z p0 hp0
 ·refine ⟨T.ZjY,fun e he=>?_⟩
  refine ⟨e,rfl,Zaf,fun p hp=>?_⟩
  simp only [ZuQ,Zaz,Zab,Zaw,List.getElem?_cons_zero,List.getElem?_cons_succ,List.set_cons_zero,List.set_cons_succ]
  exact hC _ _ _ (Zr8 (Zb8 (Za3 hp0) he)) (z p (Zqs (Zqs hp)))
abbrev gR (i j:Nat):GT:=gNt (Zc9 (Zah ZoG XF (L3.Zaa (Zah Zrb XF (L3.Zaa (Zab 4) (L3.Zaa (Zab i) (L3.Zaa (Zab j) L3.Zag)))) (L3.Zaa (gC (.int 0)) L3.Zag))))
abbrev gL1:GS:=gIf (gOr (gR 3 1) (gR 1 3)) (Zaz (gC (.bl false))) Zan
abbrev gL2:GS:=gIf (gOr (gTB (Zaj (Zak (eqF true)) (Zah Zrb XF (L3.Zaa (Zab 4) (L3.Zaa (Zab 1) (L3.Zaa (Zab 1) L3.Zag)))) (Zbv L3.Zag))) (gTB (Zaj (Zak (eqF true)) (Zah Zrb XF (L3.Zaa (Zab 4) (L3.Zaa (Zab 1) (L3.Zaa (L3.ZaA (L3.Zaa (gC (.str "any")) L3.Zag)) L3.Zag)))) (Zbv L3.Zag)))) (Zaz (gC (.bl false))) Zan
abbrev gL3:GS:=gIf (gR 3 3) (Zaz (gC (.bl false))) Zan
theorem Zvp {i j:Nat} {w1 w2:W} {n:Int} {Q:Bool→Hw→Prop} {ω:Sw} {G:Hw} (h4:ω[4]?=some (some (.int n))) (h1:ω[i]?=some (some w1)) (h2:ω[j]?=some (some w2)) (hb:ZyH w1 w2) (h:∀ G',Q false G'):gR i j ω G Q:=by
 simp only [gR,gNt,Zc9,Zah,L3.Zaa,L3.Zag,Zab,h4,h1,h2,gC]
 refine ⟨n,w1,w2,rfl,.inr ⟨hb,fun p hp=>?_⟩⟩
 refine ⟨p,rfl,Zaf,?_⟩
 exact h _
theorem ZnJ {D:Ew} {k:Kd} {b:W} {w0 w2 w5:Option W} (hk:kg k) (hb:bad b):∀ (is:List Nat) (o:Option W) (G:Hw),(∀ o G',D.nx [w0,some k.enc,w2,some b,o,w5] G') →
  ZeO yes (gNm 4) (Zao gL1 (Zao gL2 gL3)) D (is.map fun i:Nat=>W.int i) [w0,some k.enc,w2,some b,o,w5] G
 | [],o,G,h=>⟨trivial,h o G⟩
 | i::is,o,G,h=>by
  refine ⟨trivial,?_⟩
  show Zao gL1 (Zao gL2 gL3) _ [w0,some k.enc,w2,some b,some (.int i),w5] G
  obtain ⟨o1,o2,wk,d3,c40⟩:=Zvo hk
  simp only [Zao,gL1,gIf,gOr]
  refine Zvp rfl rfl rfl (.inl ⟨hb,o1⟩) fun G1=>?_
  simp only [Bool.false_eq_true,if_false]
  refine Zvp rfl rfl rfl (.inr ⟨⟨o1,o2⟩,hb⟩) fun G2=>?_
  simp only [Bool.false_eq_true,if_false,Zan,gL2,gIf,gOr,gTB,Zaj,Zak,Zah,L3.ZaA,L3.Zaa,L3.Zag,Zab,gC,List.getElem?_cons_zero,List.getElem?_cons_succ]
  refine ⟨i,k.enc,k.enc,rfl,.inl ⟨k,k,rfl,rfl,⟨hk,.inl rfl⟩,fun p1 hp1=>?_⟩⟩
  simp only [Zbv,L3.Zag,List.length_nil]
  refine ⟨by decide,fun p2 hp2=>?_⟩
  have n1:put (put G2 p1 (.lst [])) p2 (.lst []) p1=some (.lst []):=by rw [Zau (ZaM Zaf hp2)];exact Zaf
  show opt (eqF true (.ref p1) (.ref p2) (put (put G2 p1 (.lst [])) p2 (.lst []))) _
  rw [ZkV true n1 Zaf (by decide) rfl,Zad]
  simp only [bne_self_eq_false,Bool.false_eq_true,if_false]
  refine ⟨(show 1≤sizeLine by decide),i,k.enc,.tup [.str "any"],rfl,.inl ⟨k,.any,rfl,rfl,⟨hk,.inr rfl⟩,fun p3 hp3=>?_⟩⟩
  refine ⟨by decide,fun p4 hp4=>?_⟩
  generalize put (put G2 p1 (.lst [])) p2 (.lst [])=G3 at hp3 hp4 ⊢
  have n3:put (put G3 p3 (.lst [])) p4 (.lst []) p3=some (.lst []):=by rw [Zau (ZaM Zaf hp4)];exact Zaf
  show opt (eqF true (.ref p3) (.ref p4) (put (put G3 p3 (.lst [])) p4 (.lst []))) _
  rw [ZkV true n3 Zaf (by decide) rfl,Zad]
  simp only [bne_self_eq_false,Bool.false_eq_true,if_false,Zan,gL3,gIf]
  refine Zvp (i:=3) (j:=3) (w1:=b) (w2:=b) (n:=i) rfl rfl rfl (.inl ⟨hb,hb.1⟩) fun G5=>?_
  simp only [Bool.false_eq_true,if_false,Zan]
  exact ZnJ hk hb is _ _ h
abbrev gT3:GS:=(Zao (ZaT 3 (Zah Zt8 XF (L3.Zaa (Zah Znb XF (L3.Zaa (Zab 0) (L3.Zaa (gC (.int 1)) L3.Zag))) L3.Zag))) (Zao (ZdZ (ZbQ (L3.Zaa (gC (.int 3)) L3.Zag)) (gNm 4) (Zao (gIf (gOr (gNt (Zc9 (Zah ZoG XF (L3.Zaa (Zah Zrb XF (L3.Zaa (Zab 4) (L3.Zaa (Zab 3) (L3.Zaa (Zab 1) L3.Zag)))) (L3.Zaa (gC (.int 0)) L3.Zag))))) (gNt (Zc9 (Zah ZoG XF (L3.Zaa (Zah Zrb XF (L3.Zaa (Zab 4) (L3.Zaa (Zab 1) (L3.Zaa (Zab 3) L3.Zag)))) (L3.Zaa (gC (.int 0)) L3.Zag)))))) (Zaz (gC (.bl false))) Zan) (Zao (gIf (gOr (gTB (Zaj (Zak (eqF true)) (Zah Zrb XF (L3.Zaa (Zab 4) (L3.Zaa (Zab 1) (L3.Zaa (Zab 1) L3.Zag)))) (Zbv L3.Zag))) (gTB (Zaj (Zak (eqF true)) (Zah Zrb XF (L3.Zaa (Zab 4) (L3.Zaa (Zab 1) (L3.Zaa (L3.ZaA (L3.Zaa (gC (.str "any")) L3.Zag)) L3.Zag)))) (Zbv L3.Zag)))) (Zaz (gC (.bl false))) Zan) (gIf (gNt (Zc9 (Zah ZoG XF (L3.Zaa (Zah Zrb XF (L3.Zaa (Zab 4) (L3.Zaa (Zab 3) (L3.Zaa (Zab 3) L3.Zag)))) (L3.Zaa (gC (.int 0)) L3.Zag))))) (Zaz (gC (.bl false))) Zan)))) (Zaz (gC (.bl true)))))
theorem ZxB {ns:List Int} {k:Kd} {w2 o5:Option W} {G:Hw} {Q:Kw} (hk:kg k) (q:∀ G',Q (.bl true) G'):gT3 (Zaw Q) [some (.rol (ns.map W.int)),some k.enc,w2,none,none,o5] G:=by
 refine Zg6 ?_
 simp only [Zah,L3.Zaa,L3.Zag,Zab,gC,List.getElem?_cons_zero,List.getElem?_cons_succ]
 refine ⟨ns,1,rfl,by decide,fun s1 x1 b1 hs1=>?_⟩
 refine ⟨s1,x1,b1,rfl,Zaf,fun w x2 hw=>?_⟩
 walk_at "pd"
 generalize put _ s1 (St x2 b1)=G2
 show Zao (ZdZ _ _ (Zao gL1 (Zao gL2 gL3))) _ (Zaw Q) _ G2
 simp only [Zao,ZdZ,ZbQ,L3.Zaa,L3.Zag,gC]
 refine ⟨by decide,by decide,?_⟩
 refine ZnJ hk hw (List.range 3) none _ fun o G'=>?_
 exact q _
abbrev gI2:GS:=(gIf (gTB (Zaj (Zak (eqF false)) (Zah ZgJ XF (L3.Zaa (Zab 2) (L3.Zaa (gC (.int 8)) L3.Zag))) (gC (.int 2)))) (ZaT 1 (Zah ZAc XF (L3.Zaa (gC (.int 7)) (L3.Zaa (L3.ZaA (L3.Zaa (gC (.str "truth")) L3.Zag)) L3.Zag)))) Zan)
theorem Zyk {ns:List Int} {k:Kd} {s:Addr} {x:Int} {b:Bool} {o5:Option W} {G:Hw} {Q:Kw} (hs:G s=some (St x b)) (hk:kg k) (q:∀ G',Q (.bl true) G'):Zao gI2 gT3 (Zaw Q) [some (.rol (ns.map W.int)),some k.enc,some (.ref s),none,none,o5] G:=by
 simp only [Zao,gI2,gIf,gTB,Zaj,Zak,Zah,L3.Zaa,L3.Zag,Zab,gC,List.getElem?_cons_zero,List.getElem?_cons_succ]
 refine ⟨s,8,x,b,[],rfl,by decide,by decide,hs,fun r x2 r0 r1=>?_⟩
 simp only [eqF,eqW,Option.map_some,Zad]
 by_cases z:r=2
 ·have hz:(r==2)=true:=by simp [z]
  simp only [hz,show (true != false)=true from rfl,if_true,ZaT,Zah,L3.ZaA,L3.Zaa,L3.Zag,gC]
  refine ⟨(show 1≤sizeLine by decide),(7,.tup [.str "truth"]),⟨rfl,by decide⟩,?_⟩
  show gT3 (Zaw Q) [some (.rol (ns.map W.int)),some (nsW 7 0 Kd.truth.enc),some (.ref s),none,none,o5] _
  rw [Zm8]
  exact ZxB Zq7 q
 ·have hz:(r==2)=false:=by simpa using z
  simp only [hz,bne_self_eq_false,Bool.false_eq_true,if_false,Zan]
  exact ZxB hk q
theorem Zy3 (T:Tx K mg base a) {f:Addr} {fd:FuncData} (F:Fun K "law" "law" ZoH f fd):FnOk P w K mg base (CXe P w) 33 f fd ["script"] (ZtS K ZrZ):=by
 refine ok0 F Zuz (fun ws G Q E ⟨ns,e,_⟩=>by rw [e];rfl) (Zzq (k:=32) T (ZbX T) (by omega) (Zbt T) (by omega) (Zaq T) (by omega) (ZaJ T) (by omega) (ZcB T) (by omega) (ZeE T) (by omega) (ZcZ T) (by omega)) fun ws G Q E hC q=>?_
 obtain ⟨ns,rfl,hns,q⟩:=q
 unfold Zwx
 show Zao (ZaT 1 _) _ (Zaw Q) [some (.rol (ns.map W.int)),none,none,none,none,none] G
 refine Zg6 ?_
 refine ⟨ns,0,false,false,rfl,by decide,fun k0 hk0=>?_⟩
 walk_at "pd"
 refine Zg6 ?_
 refine ⟨ns,2,rfl,by decide,fun s x b hs=>?_⟩
 walk_at "pd"
 show Zao (gIf _ _ Zan) (Zao gI2 gT3) (Zaw Q) _ _
 simp only [Zao,gIf,gTB,Zaj,Zak,Zah,L3.Zaa,L3.Zag,Zab,gC,List.getElem?_cons_zero,List.getElem?_cons_succ]
 refine ⟨s,8,x,b,[],rfl,by decide,by decide,Zaf,fun r x2 r0 r1=>?_⟩
 rw [ZdU]
 simp only [eqF,eqW,Option.map_some,Zad]
 by_cases z:r=1
 ·have hz:(r==1)=true:=by simp [z]
  simp only [hz,show (true != false)=true from rfl,if_true,ZaT,gB,L3.Zaa,L3.Zag,Zbu,ZbQ,gC,List.replicate]
  refine ⟨by decide,by decide,?_⟩
  refine ZnV (z:=z19) (n:=19) (cst:=[]) (by decide) (by decide) (by decide +kernel) (fun i hi Q' q'=>?_) fun p hp=>?_
  ·simp only [L3.ZaA,L3.Zaa,L3.Zag,Zaj,gC,Zab,Zak,List.getElem?_cons_zero,List.getElem?_cons_succ,List.length_cons,List.length_nil]
   rw [Zti _ (by decide) (Nat.lt_of_lt_of_le hi (by decide +kernel)),Zad]
   refine ⟨?_,?_⟩
   ·exact Nat.le_trans (Nat.add_le_add_left (Zqh z19 i) _) (by decide)
   ·refine ⟨by decide,by decide,by decide,q'⟩
  ·simp only [rF,ZhU,ZiH Zaf,Option.map_some,Zad,List.set_cons_zero,List.set_cons_succ,L3.ZaA,L3.Zaa,L3.Zag,Zaj,gC,Zab,List.getElem?_cons_zero,List.getElem?_cons_succ,List.length_cons,List.length_nil,Zbg]
   refine ⟨by decide,by decide,by decide,?_,?_⟩
   ·rw [List.length_map];exact (by decide +kernel:(rl z19 19).length+1≤sizeLine)
   ·refine ⟨by decide,?_⟩
    have e:W.tup [.str "row",.tup ((rl z19 19).map Zil++[.tup [.str "b",.str "must",.tup [.str "any"]]]),.bl true]=(Kd.row (ofL l19) true).enc:=by
     rw [Zpa,List.map_append];rfl
    rw [e]
    refine Zyk (x:=x2) (b:=b) ?_ Zu6 q
    rw [Zau (ZaM Zaf hp)];exact Zaf
 ·have hz:(r==1)=false:=by simpa using z
  simp only [hz,bne_self_eq_false,Bool.false_eq_true,if_false,Zan]
  exact Zyk (x:=x2) (b:=b) Zaf (ZxQ hk0) q
theorem ZoN {base:Heap} {e:DictEntry} {x:Str} {i:Int} {t u:Tok} {es:List DictEntry} {D:List (Str×KTD.Dat)} (h1:e.key=.str x t) (h2:e.val=.int i u) (r:KTD.Rows (KTD.Dat.At base) es D):KTD.Rows (KTD.Dat.At base) (e::es) ((x,KTD.Dat.flat (.int i))::D) :=
 .cons h1 (by rw [h2];exact PyProof.V.Flat.int i u) r
theorem ZyY {K:PySem.W.Frag} {h:Heap} {mg:Str→Option Value} (X:K.In h) (G:h.Ns mainGlobals mg) (FF:Fns K mg) (NN:Bls mg) {c_CastError c_NoKind c_NoTerm c_BadUse c_NoValue c_NoNumber c_BadNote:Addr} {z_MARKS:Addr} {w0_MARKS w1_MARKS:Tok} {dd_MARKS:Option Addr} {nn_MARKS:Nat} {sl_MARKS:Array (Option Value)} {w_MOST_DEPTH:Tok} {w_MOST_KINDS:Tok} {w_MOST_LETTERS:Tok} {z_LENGTHS:Addr} {ep_LENGTHS:Nat} {e0_LENGTHS e1_LENGTHS e2_LENGTHS e3_LENGTHS e4_LENGTHS e5_LENGTHS:DictEntry} {a0_LENGTHS b0_LENGTHS:Tok} {a1_LENGTHS b1_LENGTHS:Tok} {a2_LENGTHS b2_LENGTHS:Tok} {a3_LENGTHS b3_LENGTHS:Tok} {a4_LENGTHS b4_LENGTHS:Tok} {a5_LENGTHS b5_LENGTHS:Tok} {z_STEPS:Addr} {ep_STEPS:Nat} {s0:DictEntry} {st0:Tok} {sa0:Addr} {sd0:Option Addr} {sn0:Nat} {sl0:Array (Option Value)} {s1:DictEntry} {st1:Tok} {sa1:Addr} {sd1:Option Addr} {sn1:Nat} {sl1:Array (Option Value)} {s2:DictEntry} {st2:Tok} {sa2:Addr} {sd2:Option Addr} {sn2:Nat} {sl2:Array (Option Value)} {s3:DictEntry} {st3:Tok} {sa3:Addr} {sd3:Option Addr} {sn3:Nat} {sl3:Array (Option Value)} {sw3_0:Tok} {sw3_1:Tok} {s4:DictEntry} {st4:Tok} {sa4:Addr} {sd4:Option Addr} {sn4:Nat} {sl4:Array (Option Value)} {sw4_0:Tok} {z_SERV:Addr} {dd_SERV:Option Addr} {nn_SERV:Nat} {sl_SERV:Array (Option Value)} {rv0:Addr} {rt0 ru0:Tok} {rd0:Option Addr} {rn0:Nat} {rl0:Array (Option Value)} {rv1:Addr} {rt1 ru1:Tok} {rd1:Option Addr} {rn1:Nat} {rl1:Array (Option Value)} {rv2:Addr} {rt2 ru2:Tok} {rd2:Option Addr} {rn2:Nat} {rl2:Array (Option Value)} {rv3:Addr} {rt3 ru3:Tok} {rd3:Option Addr} {rn3:Nat} {rl3:Array (Option Value)} {rv4:Addr} {rt4 ru4:Tok} {rd4:Option Addr} {rn4:Nat} {rl4:Array (Option Value)} {d_CastError d_NoKind d_NoTerm d_BadUse d_NoValue d_NoNumber d_BadNote:ClassData}
  (e_CastError:PySem.W.nsIn K mainGlobals "CastError"=some (some (.ref c_CastError)))
  (e_NoKind:PySem.W.nsIn K mainGlobals "NoKind"=some (some (.ref c_NoKind)))
  (e_NoTerm:PySem.W.nsIn K mainGlobals "NoTerm"=some (some (.ref c_NoTerm)))
  (e_BadUse:PySem.W.nsIn K mainGlobals "BadUse"=some (some (.ref c_BadUse)))
  (e_NoValue:PySem.W.nsIn K mainGlobals "NoValue"=some (some (.ref c_NoValue)))
  (e_NoNumber:PySem.W.nsIn K mainGlobals "NoNumber"=some (some (.ref c_NoNumber)))
  (e_BadNote:PySem.W.nsIn K mainGlobals "BadNote"=some (some (.ref c_BadNote)))
  (Zcg:PySem.W.nsIn K mainGlobals "MARKS"=some (some (.ref z_MARKS)))
  (l_MARKS:K.lookup z_MARKS=some ⟨.type "tuple",dd_MARKS,.seq #[.str "must" w0_MARKS,.str "may" w1_MARKS] nn_MARKS,sl_MARKS⟩)
  (ZaH:PySem.W.nsIn K mainGlobals "MOST_DEPTH"=some (some (.int 8 w_MOST_DEPTH)))
  (ZaG:PySem.W.nsIn K mainGlobals "MOST_KINDS"=some (some (.int 40 w_MOST_KINDS)))
  (Zay:PySem.W.nsIn K mainGlobals "MOST_LETTERS"=some (some (.int 8 w_MOST_LETTERS)))
  (v_LENGTHS:PySem.W.nsIn K mainGlobals "LENGTHS"=some (some (.ref z_LENGTHS)))
  (l_LENGTHS:K.lookup z_LENGTHS=some ⟨.type "dict",none,.dict #[e0_LENGTHS,e1_LENGTHS,e2_LENGTHS,e3_LENGTHS,e4_LENGTHS,e5_LENGTHS] ep_LENGTHS,#[]⟩)
  (u_LENGTHS:(z_LENGTHS==sysModules)=false)
  (a0_LENGTHS_:e0_LENGTHS.key=.str "any" a0_LENGTHS)
  (b0_LENGTHS_:e0_LENGTHS.val=.int 1 b0_LENGTHS)
  (a1_LENGTHS_:e1_LENGTHS.key=.str "num" a1_LENGTHS)
  (b1_LENGTHS_:e1_LENGTHS.val=.int 1 b1_LENGTHS)
  (a2_LENGTHS_:e2_LENGTHS.key=.str "truth" a2_LENGTHS)
  (b2_LENGTHS_:e2_LENGTHS.val=.int 1 b2_LENGTHS)
  (a3_LENGTHS_:e3_LENGTHS.key=.str "to" a3_LENGTHS)
  (b3_LENGTHS_:e3_LENGTHS.val=.int 3 b3_LENGTHS)
  (a4_LENGTHS_:e4_LENGTHS.key=.str "box" a4_LENGTHS)
  (b4_LENGTHS_:e4_LENGTHS.val=.int 2 b4_LENGTHS)
  (a5_LENGTHS_:e5_LENGTHS.key=.str "row" a5_LENGTHS)
  (b5_LENGTHS_:e5_LENGTHS.val=.int 3 b5_LENGTHS)
  (v_STEPS:PySem.W.nsIn K mainGlobals "STEPS"=some (some (.ref z_STEPS)))
  (l_STEPS:K.lookup z_STEPS=some ⟨.type "dict",none,.dict #[s0,s1,s2,s3,s4] ep_STEPS,#[]⟩)
  (u_STEPS:(z_STEPS==sysModules)=false)
  (ka0:s0.key=.str "any" st0)
  (kb0:s0.val=.ref sa0)
  (kc0:K.lookup sa0=some ⟨.type "tuple",sd0,.seq #[] sn0,sl0⟩)
  (ka1:s1.key=.str "num" st1)
  (kb1:s1.val=.ref sa1)
  (kc1:K.lookup sa1=some ⟨.type "tuple",sd1,.seq #[] sn1,sl1⟩)
  (ka2:s2.key=.str "truth" st2)
  (kb2:s2.val=.ref sa2)
  (kc2:K.lookup sa2=some ⟨.type "tuple",sd2,.seq #[] sn2,sl2⟩)
  (ka3:s3.key=.str "to" st3)
  (kb3:s3.val=.ref sa3)
  (kc3:K.lookup sa3=some ⟨.type "tuple",sd3,.seq #[.str "in" sw3_0,.str "out" sw3_1] sn3,sl3⟩)
  (ka4:s4.key=.str "box" st4)
  (kb4:s4.val=.ref sa4)
  (kc4:K.lookup sa4=some ⟨.type "tuple",sd4,.seq #[.str "inside" sw4_0] sn4,sl4⟩)
  (v_SERV:PySem.W.nsIn K mainGlobals "SERVING"=some (some (.ref z_SERV)))
  (l_SERV:K.lookup z_SERV=some ⟨.type "tuple",dd_SERV,.seq #[.ref rv0,.ref rv1,.ref rv2,.ref rv3,.ref rv4] nn_SERV,sl_SERV⟩)
  (lv0:K.lookup rv0=some ⟨.type "tuple",rd0,.seq #[.str "none" rt0,.str "none" ru0] rn0,rl0⟩)
  (lv1:K.lookup rv1=some ⟨.type "tuple",rd1,.seq #[.str "none" rt1,.str "may" ru1] rn1,rl1⟩)
  (lv2:K.lookup rv2=some ⟨.type "tuple",rd2,.seq #[.str "must" rt2,.str "must" ru2] rn2,rl2⟩)
  (lv3:K.lookup rv3=some ⟨.type "tuple",rd3,.seq #[.str "must" rt3,.str "may" ru3] rn3,rl3⟩)
  (lv4:K.lookup rv4=some ⟨.type "tuple",rd4,.seq #[.str "may" rt4,.str "may" ru4] rn4,rl4⟩)
  (Zfk:PySem.W.excIn K c_NoKind [.type "ValueError",.type "Exception",.type "BaseException",.type "object"] "ValueError.__new__"=true)
  (ZcJ:PySem.W.clsIn K c_CastError=some d_CastError)
  (k_NoKind:PySem.W.clsIn K c_NoKind=some d_NoKind)
  (k_NoTerm:PySem.W.clsIn K c_NoTerm=some d_NoTerm)
  (k_BadUse:PySem.W.clsIn K c_BadUse=some d_BadUse)
  (k_NoValue:PySem.W.clsIn K c_NoValue=some d_NoValue)
  (k_NoNumber:PySem.W.clsIn K c_NoNumber=some d_NoNumber)
  (k_BadNote:PySem.W.clsIn K c_BadNote=some d_BadNote)
  (ZcO:PySem.W.typeIn K (.ref c_CastError)=some (.type "type"))
  (t_NoTerm:PySem.W.typeIn K (.ref c_NoTerm)=some (.type "type"))
  (t_BadUse:PySem.W.typeIn K (.ref c_BadUse)=some (.type "type"))
  (t_NoValue:PySem.W.typeIn K (.ref c_NoValue)=some (.type "type"))
  (t_NoNumber:PySem.W.typeIn K (.ref c_NoNumber)=some (.type "type"))
  (t_BadNote:PySem.W.typeIn K (.ref c_BadNote)=some (.type "type"))
  (ZcI:PySem.W.subIn K (.ref c_CastError) (.type "BaseException")=some true)
  (s_CastError:PySem.W.subIn K (.ref c_NoKind) (.ref c_CastError)=some true)
  (s_NoTerm:PySem.W.subIn K (.ref c_NoKind) (.ref c_NoTerm)=some false)
  (u_NoTerm:(Value.ref c_NoKind==Value.ref c_NoTerm)=false)
  (s_BadUse:PySem.W.subIn K (.ref c_NoKind) (.ref c_BadUse)=some false)
  (u_BadUse:(Value.ref c_NoKind==Value.ref c_BadUse)=false)
  (s_NoValue:PySem.W.subIn K (.ref c_NoKind) (.ref c_NoValue)=some false)
  (u_NoValue:(Value.ref c_NoKind==Value.ref c_NoValue)=false)
  (s_NoNumber:PySem.W.subIn K (.ref c_NoKind) (.ref c_NoNumber)=some false)
  (u_NoNumber:(Value.ref c_NoKind==Value.ref c_NoNumber)=false)
  (s_BadNote:PySem.W.subIn K (.ref c_NoKind) (.ref c_BadNote)=some false)
  (u_BadNote:(Value.ref c_NoKind==Value.ref c_BadNote)=false)
  (s_ValueError:PySem.W.subIn K (.ref c_NoKind) (.type "ValueError")=some true)
  (y1:PySem.W.findIn K (.ref c_NoKind) "__getattribute__"=some (some (.builtin "BaseException.__getattribute__")))
  (y2:PySem.W.findIn K (.ref c_NoKind) "__getattr__"=some none)
  (y4:PySem.W.findIn K (.ref c_NoKind) "__class__"=some (some (.builtin "object.__class__")))
  (y5:PySem.W.specialIn K (.builtin "object.__class__") "__get__"=some (some (.builtin "getset_descriptor.__get__")))
  (y6:PySem.W.takesIn K (.builtin "object.__class__")=some true)
  (y7:PySem.W.mroIn K c_NoKind (.type "object")=some true)
  (y8:PySem.W.mroIn K c_NoKind (.type "BaseException")=some true)
 :
  ∃ a:Adr,∀ base:Heap,K.In base→Tx K mg base a:=by
 refine ⟨⟨c_CastError,c_NoKind,c_NoTerm,c_BadUse,c_NoValue,c_NoNumber,c_BadNote⟩,fun base B=>?_⟩
 exact {
  toFns:=FF
  toBls:=NN
  ZiN:=PySem.W.mg_of X G e_CastError
  Zkv:=PySem.W.mg_of X G e_NoKind
  Zn3:=PySem.W.mg_of X G e_NoTerm
  Zn7:=PySem.W.mg_of X G e_BadUse
  Zl9:=PySem.W.mg_of X G e_NoValue
  ZjK:=PySem.W.mg_of X G e_NoNumber
  Zlr:=PySem.W.mg_of X G e_BadNote
  Zcg:=ZtT X G (ts:=[("must",w0_MARKS),("may",w1_MARKS)]) Zcg l_MARKS (by simp)
  ZaH:=ZmA X G ZaH
  ZaG:=ZmA X G ZaG
  Zay:=ZmA X G Zay
  ZbL:=ZwX X G B v_LENGTHS l_LENGTHS u_LENGTHS ⟨rfl,rfl,rfl⟩ rfl (ZoN a0_LENGTHS_ b0_LENGTHS_ (ZoN a1_LENGTHS_ b1_LENGTHS_ (ZoN a2_LENGTHS_ b2_LENGTHS_ (ZoN a3_LENGTHS_ b3_LENGTHS_ (ZoN a4_LENGTHS_ b4_LENGTHS_ (ZoN a5_LENGTHS_ b5_LENGTHS_ .nil))))))
  ZqK:=Zuj X G B v_STEPS l_STEPS u_STEPS ⟨rfl,rfl,rfl⟩ rfl (ZpE (ts:=[]) ka0 kb0 kc0 (by simp) (ZpE (ts:=[]) ka1 kb1 kc1 (by simp) (ZpE (ts:=[]) ka2 kb2 kc2 (by simp) (ZpE (ts:=[("in",sw3_0),("out",sw3_1)]) ka3 kb3 kc3 (by simp) (ZpE (ts:=[("inside",sw4_0)]) ka4 kb4 kc4 (by simp) .nil)))))
  ZbR:=ZsR X G (us:=[(rv0,[("none",rt0),("none",ru0)]),(rv1,[("none",rt1),("may",ru1)]),(rv2,[("must",rt2),("must",ru2)]),(rv3,[("must",rt3),("may",ru3)]),(rv4,[("may",rt4),("may",ru4)])]) v_SERV l_SERV (by simp) (by
   intro u hu
   simp only [List.mem_cons,List.not_mem_nil,or_false] at hu
   rcases hu with rfl | rfl | rfl | rfl | rfl
   ·exact ⟨by simp,_,_,_,lv0⟩
   ·exact ⟨by simp,_,_,_,lv1⟩
   ·exact ⟨by simp,_,_,_,lv2⟩
   ·exact ⟨by simp,_,_,_,lv3⟩
   ·exact ⟨by simp,_,_,_,lv4⟩)
  Zfk:=Zfk
  ZcO:=ZcO
  ZcJ:=ZgE ZcJ
  ZcI:=ZcI
  ZjY:=s_CastError
  Zc7:=⟨y1,y2,ZgE k_NoKind,y4,y5,y6,y7,y8⟩
  ZnB:=ZrA
  Zog:=ZlK u_NoTerm (ZgE k_NoTerm) t_NoTerm s_NoTerm
  Zn0:=ZlK u_BadUse (ZgE k_BadUse) t_BadUse s_BadUse
  ZlL:=ZlK u_NoValue (ZgE k_NoValue) t_NoValue s_NoValue
  Zj2:=ZlK u_NoNumber (ZgE k_NoNumber) t_NoNumber s_NoNumber
  Zl7:=ZlK u_BadNote (ZgE k_BadNote) t_BadNote s_BadNote
  Zh7:=ZwN (by decide +kernel) s_ValueError }
end KM
open PySem PySem.W PyProof.Rows
set_option hygiene false in
local macro_rules | `(tactic| walk_at "fb") => `(tactic| (intro _ _ _ _ _ _ us hl; first | (obtain rfl := L3.ln0 hl; rfl) | (obtain ⟨_, _, rfl, g0⟩ := L3.ln1 hl; first | (obtain rfl := L3.ln0 g0; rfl) | (obtain ⟨_, _, rfl, g1⟩ := L3.ln1 g0; first | (obtain rfl := L3.ln0 g1; rfl) | (obtain ⟨_, _, rfl, g2⟩ := L3.ln1 g1; first | (obtain rfl := L3.ln0 g2; rfl) | (obtain ⟨_, _, rfl, g3⟩ := L3.ln1 g2; first | (obtain rfl := L3.ln0 g3; rfl) | (obtain ⟨_, _, rfl, g4⟩ := L3.ln1 g3; obtain rfl := L3.ln0 g4; rfl)))))))
set_option hygiene false in
local macro_rules | `(tactic| walk_at "fk") => `(tactic| (dsimp only [L2.KOf]; refine' L3.ZzE KX G ?e ?l ?c ?k ?b; (case e => k_is); (case l => k_is); (case c => k_is); (case k => k_is); (case b => walk_at "fb")))
set_option maxRecDepth 100000 in
set_option maxHeartbeats 0 in
theorem PySem.Challenge.cw_castwright_k30_no_kinds_holds : PySem.Challenge.rw_castwright_k30_no_kinds.Holds := by
 show KM.rwS.Holds
 w_on;o_law
 refine holds_open (r:=KM.rwS.row) (q:=KM.vwS) (loose:=["LENGTHS","STEPS"]) (N:=6508)
  (Yf:=(kHook KM.KF KM.KL KM.kfe).obs) (Ya:=(kHook KM.KF KM.KL KM.kfe).val) (YP:=(kHook KM.KF KM.KL KM.kfe).says)
  (Xt:=fun s=>xlAt KM.vwS [] s&&recOk (RowW.records KM.rwS.row.toRowW) s)
  (XP:=XL KM.vwS []) ?hl (kHook KM.KF KM.KL KM.kfe).of (kHook KM.KF KM.KL KM.kfe).keeps ?g1 XL.keeps rfl rfl rfl ?g2 rfl
  ?g3 (by decide +kernel) ?g4 ?hw ?hc
 case g1=>exact fun s e=>xl_of s (Bool.and_eq_true_iff.mp e).1
 case g2=>exact fun s e=>recFacts_of (Bool.and_eq_true_iff.mp e).2
 case g3=>first | assumption | decide +kernel
 case g4=>exact ⟨rfl,rfl,rfl,rfl,rfl,by decide +kernel⟩
 case hw=>w_witness2
 case hl=>exact byRow2 "special-get-raises" KM.lbf KM.lbt
 k_fill
 refine L3.ZzO (l:=KM.rwS) (k:=33) ⟨rfl,by decide,by decide⟩ rfl rfl (fun w h Y=>PySem.W.kIn_of Y) ?F
 case F =>
  intro w mg fa h KX G hmg
  have FF:KM.Fns (L2.KOf KX) mg:=by constructor <;> walk_at "fk"
  have NN:KM.Bls mg:=by constructor <;> exact PySem.W.mg_none_of KX G (by k_is)
  have T:∃ a:KM.Adr,∀ base:Heap,(L2.KOf KX).In base→KM.Tx (L2.KOf KX) mg base a:=by
   dsimp only [L2.KOf] at *
   refine' KM.ZyY KX G FF NN ?e_CastError ?e_NoKind ?e_NoTerm ?e_BadUse ?e_NoValue ?e_NoNumber ?e_BadNote ?Zcg ?l_MARKS ?ZaH ?ZaG ?Zay ?v_LENGTHS ?l_LENGTHS ?u_LENGTHS ?a0_LENGTHS_ ?b0_LENGTHS_ ?a1_LENGTHS_ ?b1_LENGTHS_ ?a2_LENGTHS_ ?b2_LENGTHS_ ?a3_LENGTHS_ ?b3_LENGTHS_ ?a4_LENGTHS_ ?b4_LENGTHS_ ?a5_LENGTHS_ ?b5_LENGTHS_ ?v_STEPS ?l_STEPS ?u_STEPS ?ka0 ?kb0 ?kc0 ?ka1 ?kb1 ?kc1 ?ka2 ?kb2 ?kc2 ?ka3 ?kb3 ?kc3 ?ka4 ?kb4 ?kc4 ?v_SERV ?l_SERV ?lv0 ?lv1 ?lv2 ?lv3 ?lv4 ?Zfk ?ZcJ ?k_NoKind ?k_NoTerm ?k_BadUse ?k_NoValue ?k_NoNumber ?k_BadNote ?ZcO ?t_NoTerm ?t_BadUse ?t_NoValue ?t_NoNumber ?t_BadNote ?ZcI ?s_CastError ?s_NoTerm ?u_NoTerm ?s_BadUse ?u_BadUse ?s_NoValue ?u_NoValue ?s_NoNumber ?u_NoNumber ?s_BadNote ?u_BadNote ?s_ValueError ?y1 ?y2 ?y4 ?y5 ?y6 ?y7 ?y8
   (case e_CastError=>k_is)
   (case e_NoKind=>k_is)
   (case e_NoTerm=>k_is)
   (case e_BadUse=>k_is)
   (case e_NoValue=>k_is)
   (case e_NoNumber=>k_is)
   (case e_BadNote=>k_is)
   (case Zcg=>k_is)
   (case l_MARKS=>k_is)
   (case ZaH=>k_is)
   (case ZaG=>k_is)
   (case Zay=>k_is)
   (case v_LENGTHS=>k_is)
   (case l_LENGTHS=>k_is)
   (case u_LENGTHS=>decide)
   (case a0_LENGTHS_=>exact rfl)
   (case b0_LENGTHS_=>exact rfl)
   (case a1_LENGTHS_=>exact rfl)
   (case b1_LENGTHS_=>exact rfl)
   (case a2_LENGTHS_=>exact rfl)
   (case b2_LENGTHS_=>exact rfl)
   (case a3_LENGTHS_=>exact rfl)
   (case b3_LENGTHS_=>exact rfl)
   (case a4_LENGTHS_=>exact rfl)
   (case b4_LENGTHS_=>exact rfl)
   (case a5_LENGTHS_=>exact rfl)
   (case b5_LENGTHS_=>exact rfl)
   (case v_STEPS=>k_is)
   (case l_STEPS=>k_is)
   (case u_STEPS=>decide)
   (case ka0=>exact rfl)
   (case kb0=>exact rfl)
   (case kc0=>k_is)
   (case ka1=>exact rfl)
   (case kb1=>exact rfl)
   (case kc1=>k_is)
   (case ka2=>exact rfl)
   (case kb2=>exact rfl)
   (case kc2=>k_is)
   (case ka3=>exact rfl)
   (case kb3=>exact rfl)
   (case kc3=>k_is)
   (case ka4=>exact rfl)
   (case kb4=>exact rfl)
   (case kc4=>k_is)
   (case v_SERV=>k_is)
   (case l_SERV=>k_is)
   (case lv0=>k_is)
   (case lv1=>k_is)
   (case lv2=>k_is)
   (case lv3=>k_is)
   (case lv4=>k_is)
   (case Zfk=>k_exc)
   (case ZcJ=>k_is)
   (case k_NoKind=>k_is)
   (case k_NoTerm=>k_is)
   (case k_BadUse=>k_is)
   (case k_NoValue=>k_is)
   (case k_NoNumber=>k_is)
   (case k_BadNote=>k_is)
   (case ZcO=>k_is)
   (case t_NoTerm=>k_is)
   (case t_BadUse=>k_is)
   (case t_NoValue=>k_is)
   (case t_NoNumber=>k_is)
   (case t_BadNote=>k_is)
   (case ZcI=>k_is)
   (case s_CastError=>k_is)
   (case s_NoTerm=>k_is)
   (case u_NoTerm=>decide)
   (case s_BadUse=>k_is)
   (case u_BadUse=>decide)
   (case s_NoValue=>k_is)
   (case u_NoValue=>decide)
   (case s_NoNumber=>k_is)
   (case u_NoNumber=>decide)
   (case s_BadNote=>k_is)
   (case u_BadNote=>decide)
   (case s_ValueError=>k_is)
   (case y1=>k_is)
   (case y2=>k_is)
   (case y4=>k_is)
   (case y5=>k_is)
   (case y6=>k_is)
   (case y7=>k_is)
   (case y8=>k_is)
  obtain ⟨a,T⟩:=T
  obtain ⟨f,fd,hm,F,_⟩:=FF.Zzc
  have e0:=hmg.symm.trans hm
  cases e0
  walk_at "pi"
  exact ⟨_,fun s u=>.of_eq rfl,fun base kb nb=>KM.Zy3 (T base kb) F⟩
