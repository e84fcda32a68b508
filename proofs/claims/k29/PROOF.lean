import PyProof.Rows.All
import Wide.All
import Wide.FinOn
import Lean
import PyProof.EqAt
import PyProof.EqKinds
import PyProof.TupleCall
import PyProof.SetRoads
import PyProof.CollectWalk
import PyProof.ZipIter
import PyProof.TupleIter
import PyProof.NeKinds
import PyProof.AttrMissHeap
import KE.KDictOf
import KE.KSortTup
import PySem.Challenge.RW_castwright_k29_whole_either_takes_both
import KE.KxBytes
import OpenK.KRaise
import OpenK.KDescr
import OpenK.KGet
import OpenK.KMore
import OpenK.KWalk
import KE.KTab
import OpenK.KFacts
import KE.KSortAsk
import KE.KFromBytes
import OpenK.KCall
import KE.KIsAll
import OpenK.KMake
import OpenK.KLine
import OpenK.KOwn
import KE.KItem
import OpenK.Peek
import OpenK.KCls
set_option Elab.async false
set_option linter.all false
set_option maxRecDepth 100000
set_option maxHeartbeats 4000000
set_option hygiene false in
local macro_rules | `(tactic| walk_at "pa")=>`(tactic| (refine wpAny_bind (wpAny_bind (wpAny_askSetting (wpAny_pure ?_)))))
set_option hygiene false in
local macro_rules | `(tactic| walk_at "pb")=>`(tactic| (intro pins s σ H x y v u Q I rx ry h))
set_option hygiene false in
local macro_rules | `(tactic| walk_at "pc")=>`(tactic| (intro X hP hw hK hc i pins s σ H E I hf st hg))
set_option hygiene false in
local macro_rules | `(tactic| walk_at "pd")=>`(tactic| (simp only [List.mem_cons,List.not_mem_nil,or_false] at hu))
set_option hygiene false in
local macro_rules | `(tactic| walk_at "pe")=>`(tactic| (simp only [Bool.and_eq_true] at h'))
set_option hygiene false in
local macro_rules | `(tactic| walk_at "pf")=>`(tactic| (refine ⟨s,x1,b,r,a1,rfl,Zax w1 (by simp [Kd.kids]),by omega,h1,fun k1 x2 g1=>⟨s,x2,b,r,a2,rfl,Zax w1 (by simp [Kd.kids]),by omega,Zad,fun k2 x3 g2=>⟨(show 3≤sizeLine by decide),?_⟩⟩⟩))
set_option hygiene false in
local macro_rules | `(tactic| walk_at "pg")=>`(tactic| (simp only [List.set_cons_zero,List.set_cons_succ]))
set_option hygiene false in
local macro_rules | `(tactic| walk_at "ph")=>`(tactic| (refine ⟨s1.heap.objs.size,[s1.heap.objs.size],_,_,H1,rfl,I1.kept (t':=s1.toks) fun b o e=>Heap.get?_push_of_some _ e,Znk a _,⟨_,Heap.get?_push_size _ rfl,rfl,rfl⟩,fun b hb=>?_,q⟩))
set_option hygiene false in
local macro_rules | `(tactic| walk_at "pi")=>`(tactic| (refine ⟨s1.heap.objs.size,[s1.heap.objs.size],_,_,H1,rfl,I1.kept (t':=s1.toks) fun b o e=>Heap.get?_push_of_some _ e,ZkS a _,⟨_,Heap.get?_push_size _ rfl,rfl,rfl⟩,fun b hb=>?_,q⟩))
set_option hygiene false in
local macro_rules | `(tactic| walk_at "pj")=>`(tactic| (simp only [L3.ZaQ,Zae,L3.Zaa,L3.Zaj,Zai,Zak,Zab,gC,Kd.enc,List.getElem?_cons_zero,List.getElem?_cons_succ,ixW,ZbV,Zcz,Zac]))
set_option hygiene false in
local macro_rules | `(tactic| walk_at "pk")=>`(tactic| (rw [show eqF false (.int i) (.int 1) (put G s (.lst (.int x1::.bl b::r)))=some (.bl (i==1)) by unfold eqF eqW;show some (W.bl ((i==1) != false))=_;cases (i==1) <;> rfl,Zac]))
set_option hygiene false in
local macro_rules | `(tactic| walk_at "pl")=>`(tactic| (simp only [L3.ZaQ,Zae,L3.Zaa,L3.Zaj,Zai,Zak,Zab,gC,Kd.enc,List.getElem?_cons_zero,List.getElem?_cons_succ,ixW,ZbV,Zac]))
set_option hygiene false in
local macro_rules | `(tactic| walk_at "pm")=>`(tactic| (simp only [List.mem_cons,List.not_mem_nil,or_false] at hb))
set_option hygiene false in
local macro_rules | `(tactic| walk_at "pn")=>`(tactic| (show wpAny (model prog w) _ (if bt w=true then _ else _) _ _ s))
set_option hygiene false in
local macro_rules | `(tactic| walk_at "po")=>`(tactic| (have d1:=Zar (k:=.to a1 a2) (c:=a1) (by simp [Kd.kids])))
set_option hygiene false in
local macro_rules | `(tactic| walk_at "pp")=>`(tactic| (have d2:=Zar (k:=.to a1 a2) (c:=a2) (by simp [Kd.kids])))
set_option hygiene false in
local macro_rules | `(tactic| walk_at "pq")=>`(tactic| (exact ⟨Zba w1 (by simp [Kd.kids]),Zba w2 (by simp [Kd.kids]),by dsimp only;omega⟩))
set_option hygiene false in
local macro_rules | `(tactic| walk_at "pr")=>`(tactic| (have d1:=Zar (k:=.box a1) (c:=a1) (by simp [Kd.kids])))
set_option hygiene false in
local macro_rules | `(tactic| walk_at "ps")=>`(tactic| (obtain ⟨oc,od,kV,doc,pm,an,cdv,ct,osl,rfl,lk,hcd⟩:=F.ex))
set_option hygiene false in
local macro_rules | `(tactic| walk_at "pt")=>`(tactic| (simp only [b1,b3,Bool.not_true,Bool.false_eq_true,if_false]))
set_option hygiene false in
local macro_rules | `(tactic| walk_at "pu")=>`(tactic| (have e2:its'.toArray.size=ys.length:=by rw [List.size_toArray];omega))
set_option hygiene false in
local macro_rules | `(tactic| walk_at "pv")=>`(tactic| (obtain ⟨f0,f1,f2,f3,f4,f5⟩:=hf it (by simp)))
set_option hygiene false in
local macro_rules | `(tactic| walk_at "pw")=>`(tactic| (have e1:its.toArray.size=ws.length:=by rw [List.size_toArray];omega))
set_option hygiene false in
local macro_rules | `(tactic| walk_at "px")=>`(tactic| (simp only [List.zipIdx_cons,List.zipIdx_nil,List.forIn_cons,List.forIn_nil]))
set_option hygiene false in
local macro_rules | `(tactic| walk_at "py")=>`(tactic| (simp only [this,bne_self_eq_false,Bool.false_eq_true,if_false]))
set_option hygiene false in
local macro_rules | `(tactic| walk_at "pz")=>`(tactic| (exact I1.fpOk (Nat.le_refl _) (I1.hok.fresh (Nat.le_refl _))))
set_option hygiene false in
local macro_rules | `(tactic| walk_at "pA")=>`(tactic| (simp only [Zeg Zad,Option.bind_some,ZdJ,Option.map_some,Zac]))
set_option hygiene false in
local macro_rules | `(tactic| walk_at "pB")=>`(tactic| (refine wpAny_bind (wpAny_setState_of ho hd Tb.ft ?_)))
set_option hygiene false in
local macro_rules | `(tactic| walk_at "pC")=>`(tactic| (refine wpAny_bind (wpAny_setState_of ho hd T.ft ?_)))
set_option hygiene false in
local macro_rules | `(tactic| walk_at "pD")=>`(tactic| (simp only [Kd.kids,List.mem_cons,List.not_mem_nil,or_false] at hc))
set_option hygiene false in
local macro_rules | `(tactic| walk_at "pE")=>`(tactic| (rcases Zbd h2 with rfl | ⟨rfl,rfl⟩ | ⟨m2,l',l,rfl,rfl,hl⟩))
set_option hygiene false in
local macro_rules | `(tactic| walk_at "pF")=>`(tactic| (refine wpAny_bind (wpAny_setField hi rfl (by simp) ?_)))
namespace L2
open PySem PySem.Spec PyProof.Rows
def ZgL (s:Stmt):Arguments:=match s with
 | .FunctionDef _ a _ _ _ _ _ _ _ _=>a
 | _=>{ posonlyargs:=[],args:=[],vararg:=none,kwonlyargs:=[],kw_defaults:=[],kwarg:=none,defaults:=[] }
def Zcr (s:Stmt):List Stmt:=match s with
 | .FunctionDef _ _ b _ _ _ _ _ _ _=>b
 | _=>[]
def Zag (s:Stmt):Scope:=match s with
 | .FunctionDef _ _ _ _ _ _ sc _ _ _=>sc
 | _=>{ kind:=.function,names:=[],isGenerator:=false,isCoroutine:=false }
end L2
namespace KJ
open PySem PySem.Spec PyProof.Rows L2
 def top (i:Nat):Stmt:=PySem.Challenge.pw_castwright_k29_whole_either_takes_both.main.body.getD i (.Pass ⟨0,0,0,0⟩)
abbrev pwS:Program:=PySem.Challenge.pw_castwright_k29_whole_either_takes_both
abbrev rwS:PySem.W.OpenLaw:=PySem.Challenge.rw_castwright_k29_whole_either_takes_both
def vwS:Program:=PySem.W.view pwS [1,2,4,5,6,7,8,9,10,11,12,13,14,15,16,17,18,19,20,21,22,23,24,25,26,28,29,30,31,32,33,34,35,36,37,38,39,41,42,43,44,45,46,47,48,49,50,51,53,54,55,56,57,58,59,60,61,62,63]
abbrev en (P:Params) (k:Str) (t:Tok) (v:Value):DictEntry:=⟨PyData.keyHash P k,.str k t,v⟩
abbrev co (n:Str) (a l g r f e:Nat) (x y:Value) (z t u:Nat):Obj:=.mk (.type "code") Option.none (.fields #[.str n a,.str n (a+1),.str "/claim/cut.py" (a+2),.int l 0,.int g 0,.int 0 0,.int 0 0,.int 3 0,.ref r,.bool Bool.true,.int f 0,.ref e,.none,x,y,.ref z,.int t 0,.int l 0,.str "/claim/cut.py" u]) #[]
abbrev fo (n:Str) (s:Stmt) (q:Str) (t c:Nat):Obj:=.mk (.type "function") Option.none (.func (PySem.W.fnOf n n (ZgL s) (Zcr s) (Zag s) .none .none .none (.str q t) Option.none (.ref c) .none)) #[]
def KF:Params→PySem.W.Frag:=fun P =>
 (nat_lit 2,.mk .none Option.none (.dict #[]) #[]) ::
 (nat_lit 3,.mk (.type "dict") Option.none (.dict #[en P "__name__" 165 (.str "law_castwright_k29_whole_either_takes_both" 578),en P "__doc__" 166 .none,en P "__package__" 167 .none,en P "__loader__" 168 (.builtin "__main__.__loader__#opaque"),en P "__spec__" 169 .none,en P "__annotations__" 170 (.ref 6),en P "__builtins__" 171 (.ref 4),en P "__file__" 173 (.str "/claim/cut.py" 172),en P "__cached__" 174 .none,en P "CastError" 206 (.ref 24),en P "NoKind" 222 (.ref 37),en P "MOST_KINDS" 226 (.int 40 225),en P "MOST_DEPTH" 228 (.int 8 227),en P "MOST_LETTERS" 230 (.int 8 229),en P "MARKS" 233 (.ref 40),en P "LENGTHS" 252 (.ref 41),en P "parts_in" 259 (.ref 48),en P "entry_of" 268 (.ref 55),en P "names_of" 274 (.ref 60),en P "names_of_both" 282 (.ref 67),en P "row_of" 288 (.ref 72),en P "check_kind" 295 (.ref 79),en P "check_kinds" 303 (.ref 86),en P "is_kind" 310 (.ref 93),en P "is_made_of" 316 (.ref 98),en P "layer_within" 326 (.ref 105),en P "kinds_in" 335 (.ref 112),en P "kinds_within" 341 (.ref 117),en P "has_form" 348 (.ref 124),en P "are_fields" 354 (.ref 129),en P "is_field" 361 (.ref 136),en P "is_name" 367 (.ref 141),en P "is_small_letter" 374 (.ref 148),en P "names_rise" 380 (.ref 153),en P "STEPS" 396 (.ref 154),en P "knows_less" 404 (.ref 166),en P "is_less" 410 (.ref 171),en P "is_less_row" 416 (.ref 176),en P "is_less_entry" 424 (.ref 183),en P "behind" 432 (.ref 190),en P "clash_of" 444 (.ref 197),en P "clash_of_rows" 454 (.ref 204),en P "clash_of_entries" 462 (.ref 211),en P "join_of" 468 (.ref 216),en P "join_of_rows" 474 (.ref 221),en P "join_of_entries" 482 (.ref 228),en P "SERVING" 495 (.ref 234),en P "serves" 503 (.ref 241),en P "either" 511 (.ref 248),en P "does_serve" 519 (.ref 255),en P "lack_of" 527 (.ref 262),en P "lack_of_functions" 536 (.ref 269),en P "lack_of_rows" 546 (.ref 276),en P "lack_of_entries" 554 (.ref 283),en P "either_of" 562 (.ref 290),en P "either_of_rows" 568 (.ref 295),en P "either_of_entries" 577 (.ref 302),en P "_law_cell_at" 587 (.ref 309),en P "_law_state" 596 (.ref 316),en P "_law_choice" 606 (.ref 323),en P "_law_row" 620 (.ref 330),en P "_law_kind" 632 (.ref 337),en P "_law_drawn_kind" 644 (.ref 344),en P "_law_less" 650 (.ref 349),en P "_law_other" 663 (.ref 356),en P "_law_pair" 675 (.ref 363),en P "_law_fits" 683 (.ref 370),en P "law" 696 (.ref 377)] 68) #[]) ::
 (nat_lit 15,.mk (.type "tuple") Option.none (.seq #[.type "ValueError"]) #[]) ::
 (nat_lit 22,.mk (.type "tuple") Option.none (.seq #[]) #[]) ::
 (nat_lit 23,.mk (.type "dict") Option.none (.dict #[en P "__module__" 196 (.str "castwright.errors" 187),en P "__firstlineno__" 200 (.int 2 199),en P "__static_attributes__" 201 (.ref 22),en P "__weakref__" 203 (.ref 25),en P "__doc__" 204 .none] 3) #[]) ::
 (nat_lit 24,.mk (.type "type") Option.none (.cls (.mk "CastError" [.type "ValueError"] [.ref 24,.type "ValueError",.type "Exception",.type "BaseException",.type "object"] 23 "CastError" Bool.true [] [.ref 37] Bool.false Option.none Bool.false)) #[Option.some (.ref 15),Option.none,Option.some (.str "CastError" 189),Option.some (.str "CastError" 197),Option.some (.builtin "ValueError.__new__"),Option.some (.bool Bool.true)]) ::
 (nat_lit 25,.mk (.type "getset_descriptor") Option.none (.fields #[.str "__weakref__" 202,.ref 24,.builtin "ExceptionGroup.__weakref__",.none]) #[]) ::
 (nat_lit 28,.mk (.type "tuple") Option.none (.seq #[.ref 24]) #[]) ::
 (nat_lit 35,.mk (.type "tuple") Option.none (.seq #[]) #[]) ::
 (nat_lit 36,.mk (.type "dict") Option.none (.dict #[en P "__module__" 214 (.str "castwright.errors" 187),en P "__firstlineno__" 218 (.int 4 217),en P "__static_attributes__" 219 (.ref 35),en P "__doc__" 220 .none] 2) #[]) ::
 (nat_lit 37,.mk (.type "type") Option.none (.cls (.mk "NoKind" [.ref 24] [.ref 37,.ref 24,.type "ValueError",.type "Exception",.type "BaseException",.type "object"] 36 "NoKind" Bool.true [] [] Bool.false Option.none Bool.false)) #[Option.some (.ref 28),Option.none,Option.some (.str "NoKind" 207),Option.some (.str "NoKind" 215),Option.some (.builtin "ValueError.__new__"),Option.some (.bool Bool.true)]) ::
 (nat_lit 40,.mk (.type "tuple") Option.none (.seq #[.str "must" 231,.str "may" 232]) #[]) ::
 (nat_lit 41,.mk (.type "dict") Option.none (.dict #[en P "any" 234 (.int 1 235),en P "num" 236 (.int 1 237),en P "truth" 238 (.int 1 239),en P "to" 240 (.int 3 241),en P "box" 242 (.int 2 243),en P "row" 244 (.int 3 245)] 6) #[]) ::
 (nat_lit 47,co "parts_in" 253 12 1 42 181 43 (.ref 44) (.ref 45) 46 257 258) ::
 (nat_lit 48,fo "parts_in" (top 9) "castwright.kinds" 223 47) ::
 (nat_lit 54,co "entry_of" 260 15 2 49 181 50 (.ref 51) (.ref 52) 53 266 267) ::
 (nat_lit 55,fo "entry_of" (top 10) "castwright.kinds" 223 54) ::
 (nat_lit 59,co "names_of" 269 20 1 56 181 57 .none .none 58 272 273) ::
 (nat_lit 60,fo "names_of" (top 11) "castwright.kinds" 223 59) ::
 (nat_lit 66,co "names_of_both" 275 22 2 61 181 62 (.ref 63) (.ref 64) 65 280 281) ::
 (nat_lit 67,fo "names_of_both" (top 12) "castwright.kinds" 223 66) ::
 (nat_lit 71,co "row_of" 283 24 3 68 181 69 .none .none 70 286 287) ::
 (nat_lit 72,fo "row_of" (top 13) "castwright.kinds" 223 71) ::
 (nat_lit 78,co "check_kind" 289 27 1 73 181 74 (.ref 75) (.ref 76) 77 293 294) ::
 (nat_lit 79,fo "check_kind" (top 14) "castwright.kinds" 223 78) ::
 (nat_lit 85,co "check_kinds" 296 30 2 80 181 81 (.ref 82) (.ref 83) 84 301 302) ::
 (nat_lit 86,fo "check_kinds" (top 15) "castwright.kinds" 223 85) ::
 (nat_lit 92,co "is_kind" 304 33 1 87 181 88 (.ref 89) (.ref 90) 91 308 309) ::
 (nat_lit 93,fo "is_kind" (top 16) "castwright.kinds" 223 92) ::
 (nat_lit 97,co "is_made_of" 311 35 5 94 181 95 .none .none 96 314 315) ::
 (nat_lit 98,fo "is_made_of" (top 17) "castwright.kinds" 223 97) ::
 (nat_lit 104,co "layer_within" 317 48 2 99 181 100 (.ref 101) (.ref 102) 103 324 325) ::
 (nat_lit 105,fo "layer_within" (top 18) "castwright.kinds" 223 104) ::
 (nat_lit 111,co "kinds_in" 327 53 1 106 181 107 (.ref 108) (.ref 109) 110 333 334) ::
 (nat_lit 112,fo "kinds_in" (top 19) "castwright.kinds" 223 111) ::
 (nat_lit 116,co "kinds_within" 336 58 1 113 181 114 .none .none 115 339 340) ::
 (nat_lit 117,fo "kinds_within" (top 20) "castwright.kinds" 223 116) ::
 (nat_lit 123,co "has_form" 342 62 1 118 181 119 (.ref 120) (.ref 121) 122 346 347) ::
 (nat_lit 124,fo "has_form" (top 21) "castwright.kinds" 223 123) ::
 (nat_lit 128,co "are_fields" 349 68 1 125 181 126 .none .none 127 352 353) ::
 (nat_lit 129,fo "are_fields" (top 22) "castwright.kinds" 223 128) ::
 (nat_lit 135,co "is_field" 355 72 1 130 181 131 (.ref 132) (.ref 133) 134 359 360) ::
 (nat_lit 136,fo "is_field" (top 23) "castwright.kinds" 223 135) ::
 (nat_lit 140,co "is_name" 362 76 1 137 181 138 .none .none 139 365 366) ::
 (nat_lit 141,fo "is_name" (top 24) "castwright.kinds" 223 140) ::
 (nat_lit 147,co "is_small_letter" 368 80 1 142 181 143 (.ref 144) (.ref 145) 146 372 373) ::
 (nat_lit 148,fo "is_small_letter" (top 25) "castwright.kinds" 223 147) ::
 (nat_lit 152,co "names_rise" 375 82 1 149 181 150 .none .none 151 378 379) ::
 (nat_lit 153,fo "names_rise" (top 26) "castwright.kinds" 223 152) ::
 (nat_lit 154,.mk (.type "dict") Option.none (.dict #[en P "any" 383 (.ref 155),en P "num" 384 (.ref 156),en P "truth" 385 (.ref 157),en P "to" 386 (.ref 158),en P "box" 389 (.ref 159)] 5) #[]) ::
 (nat_lit 155,.mk (.type "tuple") Option.none (.seq #[]) #[]) ::
 (nat_lit 156,.mk (.type "tuple") Option.none (.seq #[]) #[]) ::
 (nat_lit 157,.mk (.type "tuple") Option.none (.seq #[]) #[]) ::
 (nat_lit 158,.mk (.type "tuple") Option.none (.seq #[.str "in" 387,.str "out" 388]) #[]) ::
 (nat_lit 159,.mk (.type "tuple") Option.none (.seq #[.str "inside" 390]) #[]) ::
 (nat_lit 165,co "knows_less" 397 86 2 160 181 161 (.ref 162) (.ref 163) 164 402 403) ::
 (nat_lit 166,fo "knows_less" (top 29) "castwright.known" 381 165) ::
 (nat_lit 170,co "is_less" 405 89 2 167 181 168 .none .none 169 408 409) ::
 (nat_lit 171,fo "is_less" (top 30) "castwright.known" 381 170) ::
 (nat_lit 175,co "is_less_row" 411 97 2 172 181 173 .none .none 174 414 415) ::
 (nat_lit 176,fo "is_less_row" (top 31) "castwright.known" 381 175) ::
 (nat_lit 182,co "is_less_entry" 417 102 2 177 181 178 (.ref 179) (.ref 180) 181 422 423) ::
 (nat_lit 183,fo "is_less_entry" (top 32) "castwright.known" 381 182) ::
 (nat_lit 189,co "behind" 425 108 2 184 181 185 (.ref 186) (.ref 187) 188 430 431) ::
 (nat_lit 190,fo "behind" (top 33) "castwright.known" 381 189) ::
 (nat_lit 196,co "clash_of" 433 110 2 191 181 192 (.ref 193) (.ref 194) 195 442 443) ::
 (nat_lit 197,fo "clash_of" (top 34) "castwright.known" 381 196) ::
 (nat_lit 203,co "clash_of_rows" 445 122 2 198 181 199 (.ref 200) (.ref 201) 202 452 453) ::
 (nat_lit 204,fo "clash_of_rows" (top 35) "castwright.known" 381 203) ::
 (nat_lit 210,co "clash_of_entries" 455 128 2 205 181 206 (.ref 207) (.ref 208) 209 460 461) ::
 (nat_lit 211,fo "clash_of_entries" (top 36) "castwright.known" 381 210) ::
 (nat_lit 215,co "join_of" 463 134 2 212 181 213 .none .none 214 466 467) ::
 (nat_lit 216,fo "join_of" (top 37) "castwright.known" 381 215) ::
 (nat_lit 220,co "join_of_rows" 469 140 2 217 181 218 .none .none 219 472 473) ::
 (nat_lit 221,fo "join_of_rows" (top 38) "castwright.known" 381 220) ::
 (nat_lit 227,co "join_of_entries" 475 144 2 222 181 223 (.ref 224) (.ref 225) 226 480 481) ::
 (nat_lit 228,fo "join_of_entries" (top 39) "castwright.known" 381 227) ::
 (nat_lit 229,.mk (.type "tuple") Option.none (.seq #[.str "none" 485,.str "none" 486]) #[]) ::
 (nat_lit 230,.mk (.type "tuple") Option.none (.seq #[.str "none" 487,.str "may" 488]) #[]) ::
 (nat_lit 231,.mk (.type "tuple") Option.none (.seq #[.str "must" 489,.str "must" 490]) #[]) ::
 (nat_lit 232,.mk (.type "tuple") Option.none (.seq #[.str "must" 491,.str "may" 492]) #[]) ::
 (nat_lit 233,.mk (.type "tuple") Option.none (.seq #[.str "may" 493,.str "may" 494]) #[]) ::
 (nat_lit 234,.mk (.type "tuple") Option.none (.seq #[.ref 229,.ref 230,.ref 231,.ref 232,.ref 233]) #[]) ::
 (nat_lit 240,co "serves" 496 150 2 235 181 236 (.ref 237) (.ref 238) 239 501 502) ::
 (nat_lit 241,fo "serves" (top 42) "castwright.serving" 483 240) ::
 (nat_lit 247,co "either" 504 153 2 242 181 243 (.ref 244) (.ref 245) 246 509 510) ::
 (nat_lit 248,fo "either" (top 43) "castwright.serving" 483 247) ::
 (nat_lit 254,co "does_serve" 512 156 2 249 181 250 (.ref 251) (.ref 252) 253 517 518) ::
 (nat_lit 255,fo "does_serve" (top 44) "castwright.serving" 483 254) ::
 (nat_lit 261,co "lack_of" 520 158 2 256 181 257 (.ref 258) (.ref 259) 260 525 526) ::
 (nat_lit 262,fo "lack_of" (top 45) "castwright.serving" 483 261) ::
 (nat_lit 268,co "lack_of_functions" 528 170 2 263 181 264 (.ref 265) (.ref 266) 267 534 535) ::
 (nat_lit 269,fo "lack_of_functions" (top 46) "castwright.serving" 483 268) ::
 (nat_lit 275,co "lack_of_rows" 537 175 2 270 181 271 (.ref 272) (.ref 273) 274 544 545) ::
 (nat_lit 276,fo "lack_of_rows" (top 47) "castwright.serving" 483 275) ::
 (nat_lit 282,co "lack_of_entries" 547 181 2 277 181 278 (.ref 279) (.ref 280) 281 552 553) ::
 (nat_lit 283,fo "lack_of_entries" (top 48) "castwright.serving" 483 282) ::
 (nat_lit 289,co "either_of" 555 187 2 284 181 285 (.ref 286) (.ref 287) 288 560 561) ::
 (nat_lit 290,fo "either_of" (top 49) "castwright.serving" 483 289) ::
 (nat_lit 294,co "either_of_rows" 563 197 2 291 181 292 .none .none 293 566 567) ::
 (nat_lit 295,fo "either_of_rows" (top 50) "castwright.serving" 483 294) ::
 (nat_lit 301,co "either_of_entries" 569 201 2 296 181 297 (.ref 298) (.ref 299) 300 575 576) ::
 (nat_lit 302,fo "either_of_entries" (top 51) "castwright.serving" 483 301) ::
 (nat_lit 308,co "_law_cell_at" 580 211 2 303 181 304 (.ref 305) (.ref 306) 307 585 586) ::
 (nat_lit 309,fo "_law_cell_at" (top 53) "law_castwright_k29_whole_either_takes_both" 578 308) ::
 (nat_lit 315,co "_law_state" 588 215 2 310 181 311 (.ref 312) (.ref 313) 314 594 595) ::
 (nat_lit 316,fo "_law_state" (top 54) "law_castwright_k29_whole_either_takes_both" 578 315) ::
 (nat_lit 322,co "_law_choice" 597 220 2 317 181 318 (.ref 319) (.ref 320) 321 604 605) ::
 (nat_lit 323,fo "_law_choice" (top 55) "law_castwright_k29_whole_either_takes_both" 578 322) ::
 (nat_lit 329,co "_law_row" 607 229 4 324 181 325 (.ref 326) (.ref 327) 328 618 619) ::
 (nat_lit 330,fo "_law_row" (top 56) "law_castwright_k29_whole_either_takes_both" 578 329) ::
 (nat_lit 336,co "_law_kind" 621 238 4 331 181 332 (.ref 333) (.ref 334) 335 630 631) ::
 (nat_lit 337,fo "_law_kind" (top 57) "law_castwright_k29_whole_either_takes_both" 578 336) ::
 (nat_lit 343,co "_law_drawn_kind" 633 249 4 338 181 339 (.ref 340) (.ref 341) 342 642 643) ::
 (nat_lit 344,fo "_law_drawn_kind" (top 58) "law_castwright_k29_whole_either_takes_both" 578 343) ::
 (nat_lit 348,co "_law_less" 645 256 2 345 181 346 .none .none 347 648 649) ::
 (nat_lit 349,fo "_law_less" (top 59) "law_castwright_k29_whole_either_takes_both" 578 348) ::
 (nat_lit 355,co "_law_other" 651 270 2 350 181 351 (.ref 352) (.ref 353) 354 661 662) ::
 (nat_lit 356,fo "_law_other" (top 60) "law_castwright_k29_whole_either_takes_both" 578 355) ::
 (nat_lit 362,co "_law_pair" 664 287 3 357 181 358 (.ref 359) (.ref 360) 361 673 674) ::
 (nat_lit 363,fo "_law_pair" (top 61) "law_castwright_k29_whole_either_takes_both" 578 362) ::
 (nat_lit 369,co "_law_fits" 676 298 1 364 181 365 (.ref 366) (.ref 367) 368 681 682) ::
 (nat_lit 370,fo "_law_fits" (top 62) "law_castwright_k29_whole_either_takes_both" 578 369) ::
 (nat_lit 376,co "law" 684 305 1 371 181 372 (.ref 373) (.ref 374) 375 694 695) ::
 (nat_lit 377,fo "law" (top 63) "law_castwright_k29_whole_either_takes_both" 578 376) ::
 []
def KL:List Addr:=2::3::15::22::23::24::25::28::35::36::37::40::41::47::48::54::55::59::60::66::67::71::72::78::79::85::86::92::93::97::98::104::105::111::112::116::117::123::124::128::129::135::136::140::141::147::148::152::153::154::155::156::157::158::159::165::166::170::171::175::176::182::183::189::190::196::197::203::204::210::211::215::216::220::221::227::228::229::230::231::232::233::234::240::241::247::248::254::255::261::262::268::269::275::276::282::283::289::290::294::295::301::302::308::309::315::316::322::323::329::330::336::337::343::344::348::349::355::356::362::363::369::370::376::377::[]
theorem kfe (P:Params):KL=(KF P).map (·.1):=by kernel_rfl
section
open PySem.W
abbrev OE (w:World):=openEnds treeTable pwS w 4512
abbrev FS (s:Shared):=openSeen vwS ["LENGTHS","STEPS"] (importedModules pwS.main.body) (fun s=>xlAt vwS [] s&&recOk (RowW.records rwS.row.toRowW) s) true s
abbrev OB (s:Shared):=(kHook KF KL kfe).obs s
abbrev VA (w:World):=(kHook KF KL kfe).val w
abbrev GD:=openGood vwS ["LENGTHS","STEPS"]
abbrev LB (w:World):Prop:=(OE w).map (fun s=>(FS s,OB s))=some (GD,VA w)
theorem mp2 {α β γ:Type} {o:Option α} {f:α→β×γ} {g:β×γ} (h1:o.map (fun s=>(f s).1)=some g.1) (h2:o.map (fun s=>(f s).2)=some g.2):o.map f=some g:=by
 cases o with
 | none=>cases h1
 | some s=>exact congrArg some (Prod.ext (Option.some.inj h1) (Option.some.inj h2))
theorem ZBu (w:World):(OE (w.withFollow "special-get-raises" false)).map (fun s=>OB s)=some (VA (w.withFollow "special-get-raises" false)):=by kernel_rfl
theorem ZBl (w:World):(OE (w.withFollow "special-get-raises" false)).map (fun s=>FS s)=some (GD):=by kernel_rfl
theorem lbf (w:World):LB (w.withFollow "special-get-raises" false):=mp2 (f:=fun s=>(FS s,OB s)) (g:=(GD,VA (w.withFollow "special-get-raises" false))) (ZBl w) (ZBu w)
theorem ZBG (w:World):(OE (w.withFollow "special-get-raises" true)).map (fun s=>OB s)=some (VA (w.withFollow "special-get-raises" true)):=by kernel_rfl
theorem ZBF (w:World):(OE (w.withFollow "special-get-raises" true)).map (fun s=>FS s)=some (GD):=by kernel_rfl
theorem lbt (w:World):LB (w.withFollow "special-get-raises" true):=mp2 (f:=fun s=>(FS s,OB s)) (g:=(GD,VA (w.withFollow "special-get-raises" true))) (ZBF w) (ZBG w)
end
end KJ
namespace L2
open PySem PySem.Spec PyProof.Rows
abbrev Key:=Sum Int Str
def Zxs:Key→Value→Bool
 | .inl k,v=>Value.isInt k v
 | .inr x,v=>Value.isStrOf x v
def ZBz (w:World):Key→Int
 | .inl k=>hashInt k
 | .inr x=>hashStr w x
theorem ZbD:∀ {k:Key} {v:Value},Zxs k v=true→(∃ i t,k=Sum.inl i∧v=Value.int i t)∨(∃ x t,k=Sum.inr x∧v=Value.str x t)
 | .inl i,v,h=>by
  obtain ⟨t,e⟩:=Value.isInt_shape (k:=i) (v:=v) h
  exact .inl ⟨i,t,rfl,e⟩
 | .inr x,v,h=>by
  obtain ⟨t,e⟩:=Value.isStrOf_shape (x:=x) (v:=v) h
  exact .inr ⟨x,t,rfl,e⟩
theorem ZyQ (a b:Int):decide ((Sum.inl a:Key)=Sum.inl b)=(a==b):=by
 by_cases e:a=b
 ·subst e;simp
 ·have h:¬ (Sum.inl a:Key)=Sum.inl b:=fun q=>e (Sum.inl.inj q)
  rw [decide_eq_false h]
  exact (beq_eq_false_iff_ne.mpr e).symm
theorem Zzg (a b:Str):decide ((Sum.inr a:Key)=Sum.inr b)=decide (a=b):=by
 by_cases e:a=b
 ·subst e;simp
 ·have h:¬ (Sum.inr a:Key)=Sum.inr b:=fun q=>e (Sum.inr.inj q)
  rw [decide_eq_false h,decide_eq_false e]
theorem Zyl (a:Int) (b:Str):decide ((Sum.inl a:Key)=Sum.inr b)=false:=decide_eq_false (fun q=>nomatch q)
theorem Zxz (a:Str) (b:Int):decide ((Sum.inr a:Key)=Sum.inl b)=false:=decide_eq_false (fun q=>nomatch q)
def ZnM (prog:Program) (w:World):PySem.KeyKind prog w Key where
 is:=Zxs
 hash:=ZBz w
 inj:=fun v a b ha hb=>by
  rcases ZbD ha with ⟨i,t,rfl,rfl⟩ | ⟨x,t,rfl,rfl⟩
  ·rcases ZbD hb with ⟨j,u,rfl,e⟩ | ⟨y,u,rfl,e⟩
   ·injection e with e1 _;rw [e1]
   ·exact nomatch e
  ·rcases ZbD hb with ⟨j,u,rfl,e⟩ | ⟨y,u,rfl,e⟩
   ·exact nomatch e
   ·injection e with e1 _;rw [e1]
 byValue:=fun k v h=>by
  rcases ZbD h with ⟨i,t,rfl,rfl⟩ | ⟨x,t,rfl,rfl⟩ <;> rfl
 pyHash:=fun hv h=>by
  rcases ZbD hv with ⟨i,t,rfl,rfl⟩ | ⟨x,t,rfl,rfl⟩
  ·exact wpAny_pyHash_int h
  ·exact wpAny_pyHash_str h
 eqBool:=fun hu hv h=>by
  rcases ZbD hu with ⟨i,t,rfl,rfl⟩ | ⟨x,t,rfl,rfl⟩
  ·rcases ZbD hv with ⟨j,u,rfl,rfl⟩ | ⟨y,u,rfl,rfl⟩
   ·rw [ZyQ] at h;exact wpAny_eqBool_int h
   ·rw [Zyl] at h;exact SeqAt.EqAt.int_str i t y u _ _ _ _ h
  ·rcases ZbD hv with ⟨j,u,rfl,rfl⟩ | ⟨y,u,rfl,rfl⟩
   ·rw [Zxz] at h;exact SeqAt.EqAt.str_int x t j u _ _ _ _ h
   ·rw [Zzg] at h;exact wpAny_eqBool_str h
 «strs»:=fun k x t v h=>by
  rcases ZbD h with ⟨i,u,rfl,e⟩ | ⟨y,u,rfl,e⟩
  ·exact nomatch e
  ·injection e with e1 _
   subst e1
   cases v <;> rfl
inductive V where
 | non | bl (b:Bool) | int (i:Int) | str (x:Str) | byt (b:Array UInt8) | flt (b:UInt64) | ref (a:Addr) | ty (n:String)
 deriving DecidableEq
def RelV:V→Value→Prop
 | .non,u=>u=Value.none
 | .bl b,u=>u=Value.bool b
 | .int i,u=>∃ t,u=Value.int i t
 | .str x,u=>∃ t,u=Value.str x t
 | .byt b,u=>∃ t,u=Value.bytes b t
 | .flt b,u=>∃ t,u=Value.float b t
 | .ref a,u=>u=Value.ref a
 | .ty n,u=>u=Value.type n
abbrev Vals:List V→List Value→Prop:=Paired RelV
theorem Vals.length {xs:List V} {us:List Value} (r:Vals xs us):xs.length=us.length:=Paired.length r
theorem Vals.get:∀ {xs:List V} {us:List Value} {i:Nat} {x:V},Vals xs us→xs[i]?=some x→∃ u,us[i]?=some u∧RelV x u
 | _,_,_,_,.nil,e=>by simp at e
 | _,_,0,_,.cons r _,e=>by simp at e;subst e;exact ⟨_,rfl,r⟩
 | _,_,i+1,x,.cons _ t,e=>by
  obtain ⟨u,h1,h2⟩:=Vals.get (i:=i) (x:=x) t (by simpa using e)
  exact ⟨u,by simpa using h1,h2⟩
theorem Vals.set {x:V} {u:Value} (r:RelV x u):∀ {xs:List V} {us:List Value} (i:Nat),Vals xs us→Vals (xs.set i x) (us.set i u)
 | _,_,_,.nil=>.nil
 | _,_,0,.cons _ t=>.cons r t
 | _,_,i+1,.cons q t=>.cons q (Vals.set r i t)
theorem Vals.append:∀ {xs ys:List V} {us ws:List Value},Vals xs us→Vals ys ws→Vals (xs++ys) (us++ws)
 | _,_,_,_,.nil,s=>s
 | _,_,_,_,.cons r t,s=>.cons r (Vals.append t s)
theorem Vals.take:∀ {xs:List V} {us:List Value} (n:Nat),Vals xs us→Vals (xs.take n) (us.take n)
 | _,_,0,_=>.nil
 | _,_,_+1,.nil=>.nil
 | _,_,n+1,.cons r t=>.cons r (Vals.take n t)
theorem Vals.drop:∀ {xs:List V} {us:List Value} (n:Nat),Vals xs us→Vals (xs.drop n) (us.drop n)
 | _,_,0,r=>r
 | _,_,_+1,.nil=>.nil
 | _,_,n+1,.cons _ t=>Vals.drop n t
def ZBb:Option V→Option Value→Prop
 | some v,some u=>RelV v u
 | none,none=>True
 | _,_=>False
def KV {κ:Type}:List (κ×V)→List (κ×Value)→Prop:=Paired fun (p:κ×V) (q:κ×Value)=>p.1=q.1∧RelV p.2 q.2
def kV:Key→V
 | .inl i=>.int i
 | .inr x=>.str x
inductive HO where
 | lst (xs:List V)
 | tup (xs:List V)
 | dK (kvs:List (Key×V)) | dT (kvs:List (List Key×V))
 | set (S:Int→Bool) (n:Nat)
 | ins (C dx:Addr) (fs:List (Str×V))
 | own (x:Addr)
 | xd (fs:List (Str×V))
 | met (f x:Addr)
 | rng (lo hi:Int)
 | frz (o:Obj) (u:HO)
 | tbl (ps:Array Value)
 | ext (φ:Heap→Prop)
abbrev Hp:=Addr→Option HO
def upd (H:Hp) (a:Addr) (o:HO):Hp:=fun b=>if b=a then some o else H b
theorem ZbP {H:Hp} {a:Addr} {o:HO}:upd H a o a=some o:=by unfold upd;rw [if_pos rfl]
theorem Za7 {H:Hp} {a b:Addr} {o:HO} (h:b≠a):upd H a o b=H b:=by unfold upd;rw [if_neg h]
theorem ZcT {H:Hp} {a b:Addr} {o:HO} (h:H a=some o) (h':H b=none):a≠b:=by
 intro e;subst e;rw [h] at h';cases h'
section
variable (P:Program) (w:World)
def ObjOk (H:Hp) (h:Heap) (a:Addr):HO→Prop
 | .lst xs=>xs.length≤sizeLine∧∃ (its:List Value) (n:Nat),Vals xs its∧h.get? a=some { cls:=.type "list",data:=.seq its.toArray n }
 | .tup xs=>xs.length≤sizeLine∧∃ its:List Value,Vals xs its∧IsTup h a its.toArray
 | .dK kvs=>kvs.length≤sizeLine∧(a==sysModules)=false∧∃ vs,KV kvs vs∧h.DictOf (ZnM P w) a vs
 | .dT kvs=>kvs.length≤sizeLine∧(a==sysModules)=false∧∃ xs:List (List Key×Addr×Value),
   Paired (fun (p:List Key×V) (q:List Key×Addr×Value)=>p.1=q.1∧H q.2.1=some (.tup (p.1.map kV))∧RelV p.2 q.2.2) kvs xs ∧
   ∃ o es ep,h.get? a=some o∧o.ExactDict∧o.data=.dict es ep∧es.toList=xs.map (entryOfKey (tupleKind (ZnM P w)))∧(xs.map (·.1)).Nodup
 | .set S n=>h.SetOf (intKind P w) a S n
 | .ins C dx fs=>H dx=some (.own a)∧fs.length≤1000∧dx≠a∧h.get? a=some (PySem.W.instObj C dx) ∧
   ∃ mA,h.Ns1 dx mA∧(∀ f,ZBb (fs.lookup f) (mA f))∧PySem.Within mA (fs.map (·.1))
 | .own _=>∃ o,h.get? a=some o
 | .xd fs=>∃ mA,h.Ns1 a mA∧∀ f,ZBb (fs.lookup f) (mA f)
 | .rng lo hi=>∃ t u v,h.get? a=some { cls:=.type "range",data:=.fields #[.int lo t,.int hi u,.int 1 v] }
 | .frz o u=>h.get? a=some o∧ObjOk H h a u
 | .tbl ps=>h.get? a=some { cls:=.none,data:=.fields ps }
 | .met f x=>h.get? a=some (PySem.W.methodObj (.ref f) (.ref x))
 | .ext φ=>φ h∧(∃ o,h.get? a=some o)∧∀ h1 h2:Heap,φ h1→(∀ o,h1.get? a=some o→h2.get? a=some o)→φ h2
def HOk (H:Hp) (h:Heap):Prop:=∀ a o,H a=some o→ObjOk P w H h a o
end
section
variable {P:Program} {w:World} {H H':Hp} {h h':Heap} {a:Addr} {o:HO}
theorem ObjOk.lt (x:ObjOk P w H h a o):a < h.objs.size:=by
 cases o with
 | lst xs=>obtain ⟨_,_,_,_,e⟩:=x;exact Heap.lt_size e
 | tup xs=>obtain ⟨_,_,_,p⟩:=x;exact p.lt
 | dK kvs=>obtain ⟨_,_,_,_,o,_,_,e,_⟩:=x;exact Heap.lt_size e
 | dT kvs=>obtain ⟨_,_,_,_,o,_,_,e,_⟩:=x;exact Heap.lt_size e
 | set S n=>obtain ⟨o,_,_,_,e,_⟩:=x;exact Heap.lt_size e
 | ins C dx fs=>obtain ⟨_,_,_,e,_⟩:=x;exact Heap.lt_size e
 | own y=>obtain ⟨_,e⟩:=x;exact Heap.lt_size e
 | xd fs=>obtain ⟨_,⟨_,_,_,e,_⟩,_⟩:=x;exact Heap.lt_size e
 | rng lo hi=>obtain ⟨_,_,_,e⟩:=x;exact Heap.lt_size e
 | frz ob u=>obtain ⟨e,_⟩:=x;exact Heap.lt_size e
 | tbl ps=>exact Heap.lt_size (show h.get? a=some _ from x)
 | met f y=>exact Heap.lt_size (show h.get? a=some _ from x)
 | ext φ=>obtain ⟨_,⟨_,e⟩,_⟩:=x;exact Heap.lt_size e
theorem Paired.mapP {α β:Type} {F G:α→β→Prop}:∀ {l₁:List α} {l₂:List β},Paired F l₁ l₂→(∀ a b,F a b→G a b)→Paired G l₁ l₂
 | _,_,.nil,_=>.nil
 | _,_,.cons r t,f=>.cons (f _ _ r) (Paired.mapP t f)
theorem ObjOk.stay (x:ObjOk P w H h a o) (k:∀ b u,(b=a∨H b=some (.own a))→h.get? b=some u→h'.get? b=some u)
  (ho:∀ b,H b=some (.own a)→H' b=some (.own a)) (ht:∀ b xs,H b=some (.tup xs)→H' b=some (.tup xs)):ObjOk P w H' h' a o:=by
 induction o with
 | lst xs=>obtain ⟨z,its,n,r,e⟩:=x;exact ⟨z,its,n,r,k _ _ (.inl rfl) e⟩
 | tup xs=>obtain ⟨z,its,r,ob,e,c⟩:=x;exact ⟨z,its,r,ob,k _ _ (.inl rfl) e,c⟩
 | dK kvs=>obtain ⟨z,y,vs,r,ob,es,ep,e,c⟩:=x;exact ⟨z,y,vs,r,ob,es,ep,k _ _ (.inl rfl) e,c⟩
 | dT kvs =>
  obtain ⟨z,y,xs,r,ob,es,ep,e,c⟩:=x
  exact ⟨z,y,xs,Paired.mapP r fun p q z=>⟨z.1,ht _ _ z.2.1,z.2.2⟩,ob,es,ep,k _ _ (.inl rfl) e,c⟩
 | set S n=>obtain ⟨ob,es,ep,t,e,c⟩:=x;exact ⟨ob,es,ep,t,k _ _ (.inl rfl) e,c⟩
 | ins C dx fs =>
  obtain ⟨d,z,ne,e,mA,⟨od,es,ep,e2,c⟩,r⟩:=x
  exact ⟨ho _ d,z,ne,k _ _ (.inl rfl) e,mA,⟨od,es,ep,k _ _ (.inr d) e2,c⟩,r⟩
 | own y=>obtain ⟨ob,e⟩:=x;exact ⟨ob,k _ _ (.inl rfl) e⟩
 | xd fs=>obtain ⟨mA,⟨od,es,ep,e,c⟩,r⟩:=x;exact ⟨mA,⟨od,es,ep,k _ _ (.inl rfl) e,c⟩,r⟩
 | rng lo hi=>obtain ⟨t,u,v,e⟩:=x;exact ⟨t,u,v,k _ _ (.inl rfl) e⟩
 | frz ob u ih=>obtain ⟨e,q⟩:=x;exact ⟨k _ _ (.inl rfl) e,ih q⟩
 | tbl ps =>
  have e:h.get? a=some { cls:=.none,data:=.fields ps }:=x
  show h'.get? a=some { cls:=.none,data:=.fields ps }
  exact k a _ (.inl rfl) e
 | met f y =>
  have e:h.get? a=some (PySem.W.methodObj (.ref f) (.ref y)):=x
  show h'.get? a=some (PySem.W.methodObj (.ref f) (.ref y))
  exact k a _ (.inl rfl) e
 | ext φ=>obtain ⟨p,⟨o,e⟩,st⟩:=x;exact ⟨st _ _ p fun o q=>k _ _ (.inl rfl) q,⟨o,k _ _ (.inl rfl) e⟩,st⟩
theorem HOk.lt (x:HOk P w H h) (e:H a=some o):a < h.objs.size:=(x a o e).lt
theorem HOk.fresh (x:HOk P w H h) (e:h.objs.size≤a):H a=none:=by
 cases q:H a with
 | none=>rfl
 | some u=>exact absurd (Nat.lt_of_lt_of_le (x.lt q) e) (Nat.lt_irrefl _)
theorem HOk.kept (x:HOk P w H h) (k:∀ b u,h.get? b=some u→h'.get? b=some u):HOk P w H h':=fun a o e =>
 (x a o e).stay (fun b u _ q=>k b u q) (fun _ q=>q) fun _ _ q=>q
theorem HOk.laid (x:HOk P w H h) (k:∀ b u,h.get? b=some u→h'.get? b=some u) (hp:h.objs.size≤a) (new:ObjOk P w (upd H a o) h' a o):HOk P w (upd H a o) h':=fun b u e=>by
 have hn:=x.fresh hp
 by_cases hb:b=a
 ·subst hb;rw [ZbP] at e;cases e;exact new
 ·rw [Za7 hb] at e
  exact (x b u e).stay (fun c v _ q=>k c v q) (fun c q=>by rw [Za7 (ZcT q hn)];exact q) fun c xs q=>by rw [Za7 (ZcT q hn)];exact q
end
def Rd (H:Hp) (a:Addr) (u:HO):Prop:=H a=some u∨∃ o,H a=some (.frz o u)
theorem Rd.of {H:Hp} {a:Addr} {u:HO} (h:H a=some u):Rd H a u:=.inl h
theorem Rd.ok {P:Program} {w:World} {H:Hp} {h:Heap} {a:Addr} {u:HO} (r:Rd H a u) (x:HOk P w H h):ObjOk P w H h a u:=by
 rcases r with r | ⟨o,r⟩
 ·exact x a u r
 ·obtain ⟨_,q⟩:=x a _ r
  exact q
def Mut:Option HO→Prop
 | some (.lst _)=>True
 | some (.dK _)=>True
 | some (.dT _)=>True
 | some (.set _ _)=>True
 | some (.ins _ _ _)=>True
 | some (.ext _)=>True
 | _=>False
section
variable {P:Program} {w:World} {H:Hp} {h h':Heap} {x e:Addr} {o':HO}
theorem HOk.write (ok:HOk P w H h) (mu:Mut (H x)) (he:e=x∨H e=some (.own x)) (k:∀ b u,b≠e→h.get? b=some u→h'.get? b=some u) (heo:∃ u,h'.get? e=some u)
  (new:ObjOk P w (upd H x o') h' x o'):HOk P w (upd H x o') h':=fun b u q=>by
 have nown:∀ c y,H c=some (.own y)→c≠x:=fun c y r z=>by subst z;rw [r] at mu;exact mu
 have ntup:∀ c xs,H c=some (.tup xs)→c≠x:=fun c xs r z=>by subst z;rw [r] at mu;exact mu
 by_cases hb:b=x
 ·subst hb;rw [ZbP] at q;cases q;exact new
 ·rw [Za7 hb] at q
  by_cases hbe:b=e
  ·have q':H b=some (.own x):=by
    rcases he with z | z
    ·exact absurd (hbe.trans z) hb
    ·rw [hbe];exact z
   rw [q] at q';cases q'
   obtain ⟨v,hv⟩:=heo
   exact ⟨v,by rw [hbe];exact hv⟩
  ·refine (ok b u q).stay (fun c v hc r=>k c v ?_ r) (fun c r=>by rw [Za7 (nown c b r)];exact r) fun c xs r=>by rw [Za7 (ntup c xs r)];exact r
   rcases hc with rfl | hc
   ·exact hbe
   ·rintro rfl
    rcases he with z | z
    ·exact nown c b hc z
    ·rw [hc] at z;cases z;exact hb rfl
end
structure Un (fs ex:List Addr) (H H':Hp) (h h':Heap):Prop where
 keep:∀ b o,h.get? b=some o→H b=none→b∉fs→b∉ex→h'.get? b=some o
 slot:∀ b o,h.get? b=some o→H b=none→b∈fs→b∉ex→∃ sl,h'.get? b=some { o with slots:=sl }
 free:∀ b o,h.get? b=some o→H b=none→b∉ex→H' b=none
 there:∀ b o,h.get? b=some o→b∉ex→∃ o',h'.get? b=some o'
 tups:∀ b xs,H b=some (.tup xs)→H' b=some (.tup xs)
 frzs:∀ b o u,H b=some (.frz o u)→H' b=some (.frz o u)
 tbls:∀ b ps,H b=some (.tbl ps)→∃ more,H' b=some (.tbl (ps++more))
section
variable {fs fs' ex ex':List Addr} {H H1 H2:Hp} {h h1 h2 h':Heap} {a x e:Addr} {o:HO}
theorem Un.any (u:Un fs ex H H1 h h1) {b:Addr} {ob:Obj} (q:h.get? b=some ob) (n:H b=none) (hx:b∉ex):∃ sl,h1.get? b=some { ob with slots:=sl }:=by
 by_cases hb:b∈fs
 ·exact u.slot b ob q n hb hx
 ·exact ⟨ob.slots,u.keep b ob q n hb hx⟩
theorem Un.trans (a:Un fs ex H H1 h h1) (b:Un fs ex H1 H2 h1 h2):Un fs ex H H2 h h2 where
 keep:=fun c ob q n hc hx=>b.keep c ob (a.keep c ob q n hc hx) (a.free c ob q n hx) hc hx
 slot:=fun c ob q n hc hx=>by
  obtain ⟨sl,e1⟩:=a.slot c ob q n hc hx
  obtain ⟨sl',e2⟩:=b.slot c _ e1 (a.free c ob q n hx) hc hx
  exact ⟨sl',e2⟩
 free:=fun c ob q n hx=>by
  obtain ⟨o',e1⟩:=a.there c ob q hx
  exact b.free c o' e1 (a.free c ob q n hx) hx
 there:=fun c ob q hx=>by
  obtain ⟨o',e1⟩:=a.there c ob q hx
  exact b.there c o' e1 hx
 tups:=fun c xs q=>b.tups c xs (a.tups c xs q)
 frzs:=fun c ob xs q=>b.frzs c ob xs (a.frzs c ob xs q)
 tbls:=fun c ps q=>by
  obtain ⟨m1,e1⟩:=a.tbls c ps q
  obtain ⟨m2,e2⟩:=b.tbls c _ e1
  exact ⟨m1++m2,by rw [e2,Array.append_assoc]⟩
theorem Un.kept (k:∀ b u,h.get? b=some u→h'.get? b=some u):Un fs ex H H h h' :=
 ⟨fun b ob q _ _ _=>k b ob q,fun b ob q _ _ _=>⟨ob.slots,k b ob q⟩,fun _ _ _ n _=>n,fun b ob q _=>⟨ob,k b ob q⟩,fun _ _ q=>q,fun _ _ _ q=>q,fun _ ps q=>⟨#[],by rw [q];simp⟩⟩
theorem Un.refl:Un fs ex H H h h:=Un.kept fun _ _ q=>q
theorem Un.laid (k:∀ b u,h.get? b=some u→h'.get? b=some u) (hp:h.objs.size≤a) (hn:H a=none):Un fs ex H (upd H a o) h h' where
 keep:=fun b u q _ _ _=>k b u q
 slot:=fun b u q _ _ _=>⟨u.slots,k b u q⟩
 free:=fun b u q n _=>by rw [Za7 (Nat.ne_of_lt (Nat.lt_of_lt_of_le (Heap.lt_size q) hp))];exact n
 there:=fun b u q _=>⟨u,k b u q⟩
 tups:=fun b xs q=>by rw [Za7 (ZcT q hn)];exact q
 frzs:=fun b u xs q=>by rw [Za7 (ZcT q hn)];exact q
 tbls:=fun b ps q=>⟨#[],by rw [Za7 (ZcT q hn),q];simp⟩
theorem Un.write (mu:Mut (H x)) (he:e=x∨H e=some (.own x)) (k:∀ b u,b≠e→h.get? b=some u→h'.get? b=some u) (heo:∃ u,h'.get? e=some u):Un fs ex H (upd H x o) h h':=by
 have hx:∀ b,H b=none→b≠x:=fun b n z=>by subst z;rw [n] at mu;exact mu
 have hb:∀ b,H b=none→b≠e:=fun b n z=>by
  subst z
  rcases he with r | r
  ·exact hx b n r
  ·rw [n] at r;cases r
 have hm:∀ b u,H b=some u→¬ Mut (some u)→b≠x:=fun b u q nm z=>by subst z;rw [q] at mu;exact nm mu
 refine ⟨fun b u q n _ _=>k b u (hb b n) q,fun b u q n _ _=>⟨u.slots,k b u (hb b n) q⟩,fun b u q n _=>by rw [Za7 (hx b n)];exact n,fun b u q _=>?_,
  fun b xs q=>by rw [Za7 (hm b _ q fun z=>z)];exact q,fun b u xs q=>by rw [Za7 (hm b _ q fun z=>z)];exact q,fun b ps q=>⟨#[],by rw [Za7 (hm b _ q fun z=>z),q];simp⟩⟩
 by_cases hbe:b=e
 ·subst hbe;exact heo
 ·exact ⟨u,k b u hbe q⟩
theorem Un.mono (u:Un fs ex H H1 h h1) (hs:∀ b∈fs,b∈fs') (hx:∀ b∈ex,b∈ex'):Un fs' ex' H H1 h h1 :=
 ⟨fun b ob q n hb he=>u.keep b ob q n (fun z=>hb (hs b z)) fun z=>he (hx b z),fun _ _ q n _ he=>u.any q n fun z=>he (hx _ z),fun b ob q n he=>u.free b ob q n fun z=>he (hx b z),fun b ob q he=>u.there b ob q fun z=>he (hx b z),u.tups,u.frzs,u.tbls⟩
end
def trk (h:Heap) (H:Hp):List Addr:=(List.range h.objs.size).filter fun a=>(H a).isSome
def Ztn (h:Heap) (H:Hp):Heap:=PySem.W.hideAll h (trk h H)
theorem ZqU (h:Heap) (H:Hp):(Ztn h H).objs.size=h.objs.size:=PySem.W.hideAll_size _ _
theorem Zt2 {h:Heap} {H:Hp} {b:Addr} {o:Obj} (e:h.get? b=some o) (n:H b=none):(Ztn h H).get? b=some o :=
 PySem.W.hideAll_get _ e fun hm=>by
  have q:(H b).isSome=true:=(List.mem_filter.mp hm).2
  rw [n] at q;simp at q
theorem ZwM {h:Heap} {H:Hp} {b:Addr} {o:Obj} (e:(Ztn h H).get? b=some o):h.get? b=some o∧H b=none:=by
 have e':h.get? b=some o:=PySem.W.of_hideAll (trk h H) e
 refine ⟨e',?_⟩
 cases q:H b with
 | none=>rfl
 | some x =>
  have hm:b∈trk h H:=List.mem_filter.mpr ⟨List.mem_range.mpr (Heap.lt_size e'),by simp [q]⟩
  have z:(Ztn h H).get? b=none:=PySem.W.hideAll_none (trk h H) hm
  rw [z] at e;cases e
def Zvd (g h:Heap) (L:Addr):List (Addr×Obj):=(List.range h.objs.size).filterMap fun a=>if a=L∨(g.get? a).isSome=true then none else (h.get? a).map fun o=>(a,o)
def Zbm (g h:Heap) (L d:Addr):List (Addr×Obj):=(Zvd g h L).filter fun p=>decide (p.1≠d)
structure Mod (K:PySem.W.Frag) (mg:Str→Option Value) (base:Heap):Prop where
 kin:K.In base
 glob:base.Ns mainGlobals mg
 blt:∃ mb,base.Ns builtinsNs mb∧∀ x:Str,x≠"__name__"→mb x=bootBuiltins x
 nolimit:base.NoLimit
structure Cx where
 prog:Program
 w:World
 K:PySem.W.Frag
 mg:Str→Option Value
 base:Heap
 A:Around
 N:List Str
 s₀:Shared
 H₀:Hp
 env:Env
 outer:List Env
 stack:List Env
 ex:List Addr
 fn:Str→Bool
 calm:Bool
 pn:List (Addr×Obj)
 xe:Value→Shared→Prop
def frs (l:List Env):List Addr:=l.filterMap (·.frame)
abbrev Cx.fs (X:Cx):List Addr:=frs X.outer
def Vis (sc:Scope) (x:Str):Prop:=sc.names.lookup x=some .local∨sc.names.lookup x=some .cell∨sc.names.lookup x=some .free
def Loc (sc:Scope) (x:Str):Prop:=sc.names.lookup x=some .local∨sc.names.lookup x=some .cell
def ZBD (env:Env) (h:Heap) (m:Str→Option Value) (x:Str) (u:Value):Prop :=
 (env.kindOf x=some .local∧m x=some u)∨((env.kindOf x=some .cell∨env.kindOf x=some .free)∧∃ c,env.cells.lookup x=some c∧h.IsCell c (some u))
structure Cx.Ok (X:Cx):Prop where
 mod:Mod X.K X.mg X.base
 kind:X.env.scope.kind=.function
 glob:X.env.globals=mainGlobals
 blt:X.env.builtins=builtinsNs
 above:X.s₀.heap.objs.size≤X.env.locals
 inj:∀ x y c,X.env.cells.lookup x=some c→X.env.cells.lookup y=some c→x=y
 has:∀ x,(X.env.kindOf x=some .cell∨X.env.kindOf x=some .free)→∃ c,X.env.cells.lookup x=some c
 cab:∀ x c,X.fn x=true→X.env.cells.lookup x=some c→X.s₀.heap.objs.size≤c
 hd:X.calm=true→X.A.handled=none
 frames:X.A.frames=some X.stack
 stk:X.stack=X.outer∨(X.stack=X.env::X.outer∧X.env.frame=some X.env.locals)
 exf:∀ b∈X.ex,b≠X.env.locals∧∀ x c,X.env.cells.lookup x=some c→c≠b
 bs:∀ b o,X.base.get? b=some o→X.s₀.heap.get? b=some o∧X.H₀ b=none
 bsz:X.base.objs.size≤X.s₀.heap.objs.size
 noex:∀ b o,X.base.get? b=some o→b∉X.ex
 exfs:∀ b∈X.ex,b∉X.fs
 funs:X.s₀.heap.FunFrames X.base X.outer
 frf:∀ b∈X.fs,X.H₀ b=none
structure Inv (X:Cx) (pins:List (Addr×Obj)) (σ:List (Option V)) (H:Hp) (s:Shared):Prop where
 ok:X.Ok
 os:s.os=X.s₀.os
 bare:AllBare s.gens
 base:Un X.fs X.ex X.H₀ H X.s₀.heap s.heap
 loc:∃ m,s.heap.Ns X.env.locals m∧∀ (i:Nat) (x:Str) (v:V),X.N[i]?=some x→σ[i]?=some (some v)→Vis X.env.scope x→∃ u,RelV v u∧ZBD X.env s.heap m x u
 cell:∀ x c,X.env.cells.lookup x=some c→∃ v,s.heap.IsCell c v
 free:H X.env.locals=none
 freeC:∀ x c,X.env.cells.lookup x=some c→H c=none
 pin:∀ p∈X.pn++pins,s.heap.get? p.1=some p.2∧H p.1=none∧p.1≠X.env.locals∧p.1∉X.fs∧∀ v,p.2.data≠.cell v
 hok:HOk X.prog X.w H s.heap
 len:σ.length=X.N.length
section
variable {X:Cx} {pins:List (Addr×Obj)} {σ:List (Option V)} {H H':Hp} {s:Shared} {h':Heap}
theorem Cx.Ok.nofr (ok:X.Ok) {b:Addr} {o:Obj} (e:X.base.get? b=some o):b∉X.fs:=fun hb=>by
 have:=(ok.funs.mem hb).1
 rw [e] at this;cases this
theorem Inv.bs (I:Inv X pins σ H s):∀ b o,X.base.get? b=some o→s.heap.get? b=some o∧H b=none:=fun b o e =>
 ⟨I.base.keep b o (I.ok.bs b o e).1 (I.ok.bs b o e).2 (I.ok.nofr e) (I.ok.noex b o e),I.base.free b o (I.ok.bs b o e).1 (I.ok.bs b o e).2 (I.ok.noex b o e)⟩
theorem Inv.bk (I:Inv X pins σ H s):∀ b o,X.base.get? b=some o→s.heap.get? b=some o:=fun b o e=>(I.bs b o e).1
theorem Inv.mod (I:Inv X pins σ H s):Mod X.K X.mg X.base:=I.ok.mod
theorem Inv.kIn (I:Inv X pins σ H s):X.K.In s.heap:=I.ok.mod.kin.keeps I.bk
theorem Inv.nolimit (I:Inv X pins σ H s):s.heap.NoLimit:=I.ok.mod.nolimit.keeps I.bk
theorem Inv.fr (I:Inv X pins σ H s):∃ m,Fr X.base X.env.locals s.heap m :=
 let ⟨m,hn,_⟩:=I.loc
 ⟨m,hn,I.bk,Nat.le_trans I.ok.bsz I.ok.above⟩
theorem Inv.lt (I:Inv X pins σ H s):X.env.locals < s.heap.objs.size:=let ⟨_,hn,_⟩:=I.loc;hn.lt
theorem Inv.sz (I:Inv X pins σ H s):X.s₀.heap.objs.size≤s.heap.objs.size:=Nat.le_trans I.ok.above (Nat.le_of_lt I.lt)
theorem Inv.nofs (I:Inv X pins σ H s) {a:Addr} (h:s.heap.objs.size≤a):a∉X.fs:=fun hb=>by
 obtain ⟨_,o,ho,_⟩:=I.ok.funs.mem hb
 exact absurd (Nat.lt_of_lt_of_le (Heap.lt_size ho) (Nat.le_trans I.sz h)) (Nat.lt_irrefl _)
theorem Inv.cne (I:Inv X pins σ H s):∀ x c,X.env.cells.lookup x=some c→c≠X.env.locals:=fun x c e z=>by
 obtain ⟨v,o,ho,hd⟩:=I.cell x c e
 obtain ⟨m,⟨o',es,ep,ho',hd',_⟩,_⟩:=I.loc
 rw [z,ho'] at ho;cases ho;rw [hd'] at hd;cases hd
theorem Inv.funs (I:Inv X pins σ H s):s.heap.FunFrames X.base X.outer:=by
 have all:∀ (l:List Env),(∀ b∈frs l,b∈X.fs)→X.s₀.heap.FunFrames X.base l→s.heap.FunFrames X.base l:=by
  intro l
  induction l with
  | nil=>intro _ _;trivial
  | cons env r ih =>
   intro hs hl
   obtain ⟨hk,⟨L,o,hf,hn,ho,hd⟩,hr⟩:=hl
   have hL:L∈X.fs:=hs L (by unfold frs;rw [List.filterMap_cons,hf];exact List.mem_cons_self)
   obtain ⟨sl,e⟩:=I.base.slot L o ho (I.ok.frf L hL) hL fun z=>I.ok.exfs L z hL
   exact ⟨hk,⟨L,_,hf,hn,e,hd⟩,ih (fun b hb=>hs b (by unfold frs;rw [List.filterMap_cons,hf];exact List.mem_cons_of_mem _ hb)) hr⟩
 exact all X.outer (fun _ hb=>hb) I.ok.funs
theorem Inv.stack (I:Inv X pins σ H s):s.heap.FunFrames X.base X.stack:=by
 rcases I.ok.stk with e | ⟨e,hf⟩
 ·rw [e];exact I.funs
 ·rw [e]
  obtain ⟨m,hn,_⟩:=I.loc
  refine .cons (by rw [I.ok.kind];decide) hf hn ?_ I.funs
  exact Heap.get?_none_of_le (Nat.le_trans I.ok.bsz I.ok.above)
theorem Inv.stkSub (I:Inv X pins σ H s):∀ b∈frs X.stack,b∈X.env.locals::X.fs:=fun b hb=>by
 rcases I.ok.stk with e | ⟨e,hf⟩
 ·rw [e] at hb;exact List.mem_cons_of_mem _ hb
 ·rw [e] at hb
  unfold frs at hb
  rw [List.filterMap_cons,hf] at hb
  exact hb
theorem Inv.stkFree (I:Inv X pins σ H s):∀ b∈frs X.stack,H b=none:=fun b hb=>by
 rcases List.mem_cons.mp (I.stkSub b hb) with e | hb
 ·rw [e];exact I.free
 ·obtain ⟨_,o,ho,_⟩:=I.ok.funs.mem hb
  exact I.base.free b o ho (I.ok.frf b hb) fun z=>I.ok.exfs b z hb
theorem Inv.step {g':Array GenState} {t':Nat} {d':Drawn} {ch:List Addr} (I:Inv X pins σ H s)
  (hch:∀ b∈ch,(b∈X.ex∨X.s₀.heap.objs.size≤b)∧b≠X.env.locals∧(∀ x c,X.env.cells.lookup x=some c→c≠b)∧∀ p∈X.pn++pins,p.1≠b)
  (keep:∀ b o,b≠X.env.locals→b∉X.fs→b∉ch→s.heap.get? b=some o→H b=none→h'.get? b=some o)
  (slot:∀ b o,b≠X.env.locals→b∈X.fs→b∉ch→s.heap.get? b=some o→H b=none→∃ sl,h'.get? b=some { o with slots:=sl }) (free:∀ b o,b∉ch→s.heap.get? b=some o→H b=none→H' b=none)
  (there:∀ b o,b∉ch→s.heap.get? b=some o→∃ o',h'.get? b=some o')
  (tups:∀ b xs,H b=some (.tup xs)→H' b=some (.tup xs)) (frzs:∀ b o u,H b=some (.frz o u)→H' b=some (.frz o u)) (tbls:∀ b ps,H b=some (.tbl ps)→∃ more,H' b=some (.tbl (ps++more)))
  (ns:∀ m,s.heap.Ns X.env.locals m→h'.Ns X.env.locals m) (hok:HOk X.prog X.w H' h') (hg:AllBare g') :
  Inv X pins σ H' { s with heap:=h',gens:=g',drawn:=d',toks:=t' }:=by
 have neL:∀ b o,X.s₀.heap.get? b=some o→b≠X.env.locals:=fun b o e=>Nat.ne_of_lt (Nat.lt_of_lt_of_le (Heap.lt_size e) I.ok.above)
 have neC:∀ b o,X.s₀.heap.get? b=some o→b∉X.ex→b∉ch:=fun b o e hx hb=>by
  rcases (hch b hb).1 with z | z
  ·exact hx z
  ·exact absurd (Nat.lt_of_lt_of_le (Heap.lt_size e) z) (Nat.lt_irrefl _)
 have cellK:∀ x c,X.env.cells.lookup x=some c→∀ v,s.heap.IsCell c v→h'.IsCell c v:=by
  rintro x c e v ⟨o,ho,hd⟩
  have nch:c∉ch:=fun z=>(hch c z).2.2.1 x c e rfl
  by_cases hc:c∈X.fs
  ·obtain ⟨sl,q⟩:=slot c o (I.cne x c e) hc nch ho (I.freeC x c e)
   exact ⟨_,q,hd⟩
  ·exact ⟨o,keep c o (I.cne x c e) hc nch ho (I.freeC x c e),hd⟩
 refine ⟨I.ok,I.os,hg,⟨fun b o e n hb hx=>?_,fun b o e n hb hx=>?_,fun b o e n hx=>?_,fun b o e hx=>?_,fun b xs e=>tups b xs (I.base.tups b xs e),fun b o xs e=>frzs b o xs (I.base.frzs b o xs e),fun b ps e=>?_⟩,?_,fun x c e=>?_,?_,fun x c e=>?_,fun p hp=>?_,hok,I.len⟩
 ·exact keep b o (neL b o e) hb (neC b o e hx) (I.base.keep b o e n hb hx) (I.base.free b o e n hx)
 ·obtain ⟨sl,e1⟩:=I.base.slot b o e n hb hx
  obtain ⟨sl',e2⟩:=slot b _ (neL b o e) hb (neC b o e hx) e1 (I.base.free b o e n hx)
  exact ⟨sl',e2⟩
 ·obtain ⟨o',e1⟩:=I.base.there b o e hx
  exact free b o' (neC b o e hx) e1 (I.base.free b o e n hx)
 ·obtain ⟨o',e1⟩:=I.base.there b o e hx
  exact there b o' (neC b o e hx) e1
 ·obtain ⟨m1,e1⟩:=I.base.tbls b ps e
  obtain ⟨m2,e2⟩:=tbls b _ e1
  exact ⟨m1++m2,by rw [e2,Array.append_assoc]⟩
 ·obtain ⟨m,hn,hl⟩:=I.loc
  refine ⟨m,ns m hn,fun i x v e1 e2 e3=>?_⟩
  obtain ⟨u,r,l⟩:=hl i x v e1 e2 e3
  refine ⟨u,r,?_⟩
  rcases l with l | ⟨k,c,e,z⟩
  ·exact .inl l
  ·exact .inr ⟨k,c,e,cellK x c e _ z⟩
 ·obtain ⟨v,z⟩:=I.cell x c e
  exact ⟨v,cellK x c e v z⟩
 ·obtain ⟨m,⟨o,_,_,ho,_⟩,_⟩:=I.loc
  exact free _ o (fun z=>(hch _ z).2.1 rfl) ho I.free
 ·obtain ⟨v,o,ho,hd⟩:=I.cell x c e
  exact free c o (fun z=>(hch c z).2.2.1 x c e rfl) ho (I.freeC x c e)
 ·obtain ⟨e,n,ne,nf,d⟩:=I.pin p hp
  have nch:p.1∉ch:=fun z=>(hch p.1 z).2.2.2 p hp rfl
  exact ⟨keep p.1 p.2 ne nf nch e n,free p.1 p.2 nch e n,ne,nf,d⟩
theorem Inv.un {t':Nat} (I:Inv X pins σ H s) (u:Un X.fs [] H H' s.heap h') (hok:HOk X.prog X.w H' h'):Inv X pins σ H' { s with heap:=h',toks:=t' }:=by
 obtain ⟨m,⟨o,es,ep,ho,r⟩,_⟩:=id I.loc
 obtain ⟨sl,hL⟩:=u.any ho I.free (by simp)
 exact I.step (g':=s.gens) (d':=s.drawn) (ch:=[]) (fun _ z=>nomatch z) (fun b o _ hb _ e n=>u.keep b o e n hb (by simp)) (fun b o _ hb _ e n=>u.slot b o e n hb (by simp)) (fun b o _ e n=>u.free b o e n (by simp)) (fun b o _ e=>u.there b o e (by simp)) u.tups u.frzs u.tbls (fun m' hm=>by
  obtain ⟨o',es',ep',ho',r'⟩:=hm
  rw [ho] at ho';cases ho'
  exact ⟨_,es',ep',hL,r'⟩) hok I.bare
theorem Inv.call {g':Array GenState} {t':Nat} {d':Drawn} {ch:List Addr} (I:Inv X pins σ H s) (u:Un (frs X.stack) ch H H' s.heap h') (hok:HOk X.prog X.w H' h') (hg:AllBare g')
  (hch:∀ b∈ch,(b∈X.ex∨X.s₀.heap.objs.size≤b)∧b≠X.env.locals∧(∀ x c,X.env.cells.lookup x=some c→c≠b)∧∀ p∈X.pn++pins,p.1≠b) :
  Inv X pins σ H' { s with heap:=h',gens:=g',drawn:=d',toks:=t' }:=by
 obtain ⟨m,⟨o,es,ep,ho,r⟩,_⟩:=id I.loc
 obtain ⟨sl,hL⟩:=u.any ho I.free fun z=>(hch _ z).2.1 rfl
 exact I.step (ch:=ch) hch (fun b o hL hb hc e n=>u.keep b o e n (fun z=>(List.mem_cons.mp (I.stkSub b z)).elim hL hb) hc) (fun b o _ _ hc e n=>u.any e n hc) (fun b o hc e n=>u.free b o e n hc) (fun b o hc e=>u.there b o e hc) u.tups u.frzs u.tbls (fun m' hm=>by
  obtain ⟨o',es',ep',ho',r'⟩:=hm
  rw [ho] at ho';cases ho'
  exact ⟨_,es',ep',hL,r'⟩) hok hg
theorem Inv.turned {t':Nat} {it:Addr} (I:Inv X pins σ H s) (k:∀ b o,b≠it→s.heap.get? b=some o→h'.get? b=some o) (hn:H it=none) (hL:it≠X.env.locals)
  (h1:it∈X.ex∨X.s₀.heap.objs.size≤it) (h2:∀ x c,X.env.cells.lookup x=some c→c≠it) (h3:∀ p∈X.pn++pins,p.1≠it):Inv X pins σ H { s with heap:=h',toks:=t' }:=by
 have nit:∀ b u,H b=some u→b≠it:=fun b u e z=>by rw [z,hn] at e;cases e
 refine I.step (g':=s.gens) (d':=s.drawn) (ch:=[it]) (fun b hb=>?_) (fun b o _ _ hc e _=>k b o (fun z=>hc (by simp [z])) e) (fun b o _ _ hc e _=>⟨o.slots,k b o (fun z=>hc (by simp [z])) e⟩) (fun _ _ _ _ n=>n)
  (fun b o hc e=>⟨o,k b o (fun z=>hc (by simp [z])) e⟩) (fun _ _ e=>e) (fun _ _ _ e=>e) (fun b ps e=>⟨#[],by rw [e];simp⟩) (fun m hm=>?_) (fun b u e=>?_) I.bare
 ·have e:b=it:=by simpa using hb
  subst e
  exact ⟨h1,hL,h2,h3⟩
 ·obtain ⟨o,es,ep,ho,r⟩:=hm
  exact ⟨o,es,ep,k _ o (Ne.symm hL) ho,r⟩
 ·refine (I.hok b u e).stay (fun c v hc q=>k c v ?_ q) (fun _ q=>q) fun _ _ q=>q
  rcases hc with z | z
  ·rw [z];exact nit b u e
  ·exact nit c _ z
theorem Inv.tok (I:Inv X pins σ H s) (t:Nat):Inv X pins σ H { s with toks:=t }:=I.un (h':=s.heap) (t':=t) Un.refl I.hok
theorem Inv.kept {t':Nat} (I:Inv X pins σ H s) (k:∀ b u,s.heap.get? b=some u→h'.get? b=some u):Inv X pins σ H { s with heap:=h',toks:=t' }:=I.un (Un.kept k) (I.hok.kept k)
theorem Inv.laid {a:Addr} {o:HO} {t':Nat} (I:Inv X pins σ H s) (k:∀ b u,s.heap.get? b=some u→h'.get? b=some u) (hp:s.heap.objs.size≤a) (new:ObjOk X.prog X.w (upd H a o) h' a o) :
  Inv X pins σ (upd H a o) { s with heap:=h',toks:=t' }:=I.un (Un.laid k hp (I.hok.fresh hp)) (I.hok.laid k hp new)
theorem Inv.write {x e:Addr} {o:HO} {t':Nat} (I:Inv X pins σ H s) (mu:Mut (H x)) (he:e=x∨H e=some (.own x)) (k:∀ b u,b≠e→s.heap.get? b=some u→h'.get? b=some u) (heo:∃ u,h'.get? e=some u)
  (new:ObjOk X.prog X.w (upd H x o) h' x o):Inv X pins σ (upd H x o) { s with heap:=h',toks:=t' }:=I.un (Un.write mu he k heo) (I.hok.write mu he k heo new)
theorem Inv.pins_of {pins':List (Addr×Obj)} (I:Inv X pins σ H s) (h:∀ p∈pins',s.heap.get? p.1=some p.2∧H p.1=none∧p.1≠X.env.locals∧p.1∉X.fs∧∀ v,p.2.data≠.cell v):Inv X pins' σ H s :=
 ⟨I.ok,I.os,I.bare,I.base,I.loc,I.cell,I.free,I.freeC,fun p hp=>(List.mem_append.mp hp).elim (fun z=>I.pin p (List.mem_append_left _ z)) (h p),I.hok,I.len⟩
theorem Zo7 {N:List Str} (hN:N.Nodup) {i j:Nat} {x:Str} (a:N[i]?=some x) (b:N[j]?=some x):i=j:=by
 obtain ⟨h1,e1⟩:=List.getElem?_eq_some_iff.mp a
 obtain ⟨h2,e2⟩:=List.getElem?_eq_some_iff.mp b
 exact (List.getElem_inj hN).mp (e1.trans e2.symm)
theorem Zrk {M:Model} {A:Around} {E:Value→Shared→Prop} {i:Nat} {x:Str} {v:V} {u:Value} {Q:Unit→Shared→Prop} (I:Inv X pins σ H s) (hN:X.N.Nodup) (hi:X.N[i]?=some x) (hx:Loc X.env.scope x) (r:RelV v u)
  (h:∀ s',Inv X pins (σ.set i (some v)) H s'→(∃ a,Heap.SameBut a s.heap s'.heap∧(a=X.env.locals∨X.env.cells.lookup x=some a))→Q () s') (hf:X.fn x=true∨X.env.scope.names.lookup x=some .local:=by first | exact .inl rfl | exact .inr rfl | assumption):wpAny M A (storeName X.env x u) Q E s:=by
 obtain ⟨m,hn,hl⟩:=id I.loc
 have hcls:(X.env.scope.kind==.class||(X.env.scope.kind==.module&&X.env.locals != X.env.globals))=false:=by rw [I.ok.kind];rfl
 have hiσ:i < σ.length:=by rw [I.len];exact (List.getElem?_eq_some_iff.mp hi).1
 have cne:=I.cne
 have tracked:∀ {a:Addr} {h':Heap},(∃ o,s.heap.get? a=some o∧H a=none)→Heap.SameBut a s.heap h'→HOk X.prog X.w H h':=fun {a h'} ha hs b ob e=>by
  obtain ⟨_,_,hfree⟩:=ha
  refine (I.hok b ob e).stay (fun c w' hc q=>(hs.2 c ?_).trans q) (fun _ q=>q) fun _ _ q=>q
  rintro rfl
  rcases hc with rfl | hc
  ·rw [hfree] at e;cases e
  ·rw [hfree] at hc;cases hc
 rcases hx with hk | hk
 ·refine wpAny_storeName_local hk hn (fun h' hn' hs=>?_) hcls
  obtain ⟨oL,_,_,hoL,_⟩:=id hn
  refine h _ ⟨I.ok,I.os,I.bare,⟨fun b o e n hb hx=>?_,fun b o e n hb hx=>?_,I.base.free,fun b o e hx=>?_,I.base.tups,I.base.frzs,I.base.tbls⟩,⟨_,hn',fun j y v' e1 e2 e3=>?_⟩,fun y c e=>?_,I.free,I.freeC,fun p hp=>?_,tracked ⟨oL,hoL,I.free⟩ hs,by simpa using I.len⟩ ⟨_,hs,.inl rfl⟩
  ·exact (hs.2 b (Nat.ne_of_lt (Nat.lt_of_lt_of_le (Heap.lt_size e) I.ok.above))).trans (I.base.keep b o e n hb hx)
  ·obtain ⟨sl,e1⟩:=I.base.slot b o e n hb hx
   exact ⟨sl,(hs.2 b (Nat.ne_of_lt (Nat.lt_of_lt_of_le (Heap.lt_size e) I.ok.above))).trans e1⟩
  ·obtain ⟨o',e1⟩:=I.base.there b o e hx
   exact ⟨o',(hs.2 b (Nat.ne_of_lt (Nat.lt_of_lt_of_le (Heap.lt_size e) I.ok.above))).trans e1⟩
  ·by_cases hj:j=i
   ·subst hj
    rw [hi] at e1;cases e1
    rw [List.getElem?_set_self hiσ] at e2
    cases e2
    exact ⟨u,r,.inl ⟨hk,by simp⟩⟩
   ·rw [List.getElem?_set_ne (Ne.symm hj)] at e2
    obtain ⟨u',r',q⟩:=hl j y v' e1 e2 e3
    refine ⟨u',r',?_⟩
    rcases q with ⟨k,e⟩ | ⟨k,c,e,z⟩
    ·refine .inl ⟨k,?_⟩
     have:y≠x:=fun e=>hj (Zo7 hN e1 (e▸hi))
     simp [this,e]
    ·exact .inr ⟨k,c,e,z.sameBut hs (cne y c e)⟩
  ·obtain ⟨w',z⟩:=I.cell y c e
   exact ⟨w',z.sameBut hs (cne y c e)⟩
  ·obtain ⟨e,n,ne,nf,d⟩:=I.pin p hp
   exact ⟨(hs.2 p.1 ne).trans e,n,ne,nf,d⟩
 ·have hfn:X.fn x=true:=by
   rcases hf with z | z
   ·exact z
   ·rw [z] at hk;cases hk
  obtain ⟨c,hc⟩:=I.ok.has x (.inl hk)
  obtain ⟨w',z⟩:=I.cell x c hc
  refine wpAny_storeName_cell I.ok.kind hk hc z (fun h' hc' hs=>?_)
  obtain ⟨oc,hoc,hocd⟩:=id z
  refine h { s with heap:=h' } ⟨I.ok,I.os,I.bare,⟨fun b o e n hb hx=>?_,fun b o e n hb hx=>?_,I.base.free,fun b o e hx=>?_,I.base.tups,I.base.frzs,I.base.tbls⟩,⟨m,hn.sameBut hs (Ne.symm (cne x c hc)),fun j y v' e1 e2 e3=>?_⟩,fun y c' e=>?_,I.free,I.freeC,fun p hp=>?_,tracked ⟨oc,hoc,I.freeC x c hc⟩ hs,by simpa using I.len⟩ ⟨c,hs,.inr hc⟩
  ·exact (hs.2 b (Nat.ne_of_lt (Nat.lt_of_lt_of_le (Heap.lt_size e) (I.ok.cab x c hfn hc)))).trans (I.base.keep b o e n hb hx)
  ·obtain ⟨sl,e1⟩:=I.base.slot b o e n hb hx
   exact ⟨sl,(hs.2 b (Nat.ne_of_lt (Nat.lt_of_lt_of_le (Heap.lt_size e) (I.ok.cab x c hfn hc)))).trans e1⟩
  ·obtain ⟨o',e1⟩:=I.base.there b o e hx
   exact ⟨o',(hs.2 b (Nat.ne_of_lt (Nat.lt_of_lt_of_le (Heap.lt_size e) (I.ok.cab x c hfn hc)))).trans e1⟩
  ·by_cases hj:j=i
   ·subst hj
    rw [hi] at e1;cases e1
    rw [List.getElem?_set_self hiσ] at e2
    cases e2
    exact ⟨u,r,.inr ⟨.inl hk,c,hc,hc'⟩⟩
   ·rw [List.getElem?_set_ne (Ne.symm hj)] at e2
    obtain ⟨u',r',q⟩:=hl j y v' e1 e2 e3
    refine ⟨u',r',?_⟩
    rcases q with q | ⟨k,c',e,z'⟩
    ·exact .inl q
    ·refine .inr ⟨k,c',e,z'.sameBut hs ?_⟩
     rintro rfl
     exact hj (Zo7 hN e1 (I.ok.inj _ _ _ e hc▸hi))
  ·by_cases hcc:c'=c
   ·subst hcc;exact ⟨_,hc'⟩
   ·obtain ⟨w2,z2⟩:=I.cell y c' e
    exact ⟨w2,z2.sameBut hs hcc⟩
  ·obtain ⟨e,n,ne,nf,d⟩:=I.pin p hp
   refine ⟨(hs.2 p.1 ?_).trans e,n,ne,nf,d⟩
   intro q
   rw [q,hoc] at e
   have q':oc=p.2:=Option.some.inj e
   exact d w' (by rw [← q'];exact hocd)
theorem Zi9 {M:Model} {A:Around} {E:Value→Shared→Prop} {i:Nat} {x:Str} {v:V} {u:Value} {Q:Unit→Shared→Prop} (I:Inv X pins σ H s) (hN:X.N.Nodup) (hi:X.N[i]?=some x) (hx:Loc X.env.scope x) (r:RelV v u)
  (h:∀ s',Inv X pins (σ.set i (some v)) H s'→Q () s') (hf:X.fn x=true∨X.env.scope.names.lookup x=some .local:=by first | exact .inl rfl | exact .inr rfl | assumption):wpAny M A (storeName X.env x u) Q E s :=
 Zrk I hN hi hx r (fun s' I' _=>h s' I') hf
theorem Inv.call' {s':Shared} {ch:List Addr} (I:Inv X pins σ H s) (ho:s'.os=s.os) (u:Un (frs X.stack) ch H H' s.heap s'.heap) (hok:HOk X.prog X.w H' s'.heap) (hg:AllBare s'.gens)
  (hch:∀ b∈ch,(b∈X.ex∨X.s₀.heap.objs.size≤b)∧b≠X.env.locals∧(∀ x c,X.env.cells.lookup x=some c→c≠b)∧∀ p∈X.pn++pins,p.1≠b):Inv X pins σ H' s':=by
 obtain ⟨h',g',d',t',o'⟩:=s'
 have e:o'=s.os:=ho
 subst e
 exact I.call (g':=g') (t':=t') (d':=d') u hok hg hch
end
abbrev XK:=Value→Option Addr→Hp→Prop
abbrev St:=List (Option V)
abbrev VK:=V→Hp→Prop
abbrev TE:=St→Hp→VK→Prop
abbrev TT:=St→Hp→(Bool→Hp→Prop)→Prop
abbrev TA:=St→Hp→(List V→Hp→Prop)→Prop
structure Zw6 where
 nx:St→Hp→Prop
 rt:VK
 bk:St→Hp→Prop:=fun _ _=>False
 ct:St→Hp→Prop:=fun _ _=>False
abbrev TS:=Zw6→St→Hp→Prop
def EP (X:Cx) (pins:List (Addr×Obj)) (σ:St) (Q:VK) (u:Value) (s':Shared):Prop:=∃ v H',Inv X pins σ H' s'∧RelV v u∧Q v H'
def TP (X:Cx) (pins:List (Addr×Obj)) (σ:St) (Q:Bool→Hp→Prop) (b:Bool) (s':Shared):Prop:=∃ H',Inv X pins σ H' s'∧Q b H'
def AP (X:Cx) (pins:List (Addr×Obj)) (σ:St) (Q:List V→Hp→Prop) (us:List Value) (s':Shared):Prop:=∃ vs H',Inv X pins σ H' s'∧Vals vs us∧Q vs H'
def SP (X:Cx) (pins:List (Addr×Obj)) (D:Zw6) (f:Flow) (s':Shared):Prop :=
 match f with
 | .next=>∃ σ' H',Inv X pins σ' H' s'∧D.nx σ' H'
 | .brk=>∃ σ' H',Inv X pins σ' H' s'∧D.bk σ' H'
 | .cont=>∃ σ' H',Inv X pins σ' H' s'∧D.ct σ' H'
 | .ret u=>∃ v σ' H',Inv X pins σ' H' s'∧RelV v u∧D.rt v H'
def PE (X:Cx) (e:Expr) (t:TE):Prop :=
 ∀ (pins:List (Addr×Obj)) (s:Shared) (σ:St) (H:Hp) (Q:VK),Inv X pins σ H s→t σ H Q→wpAny (model X.prog X.w) X.A (eval e X.env) (EP X pins σ Q) X.xe s
def PT (X:Cx) (e:Expr) (t:TT):Prop :=
 ∀ (pins:List (Addr×Obj)) (s:Shared) (σ:St) (H:Hp) (Q:Bool→Hp→Prop),Inv X pins σ H s→t σ H Q→wpAny (model X.prog X.w) X.A (isTrue e X.env (eval e X.env)) (TP X pins σ Q) X.xe s
def PW (X:Cx) (e:Expr) (t:TT):Prop :=
 ∀ (whole:Sem Value) (pins:List (Addr×Obj)) (s:Shared) (σ:St) (H:Hp) (Q:Bool→Hp→Prop),Inv X pins σ H s→t σ H Q→wpAny (model X.prog X.w) X.A (isTrue e X.env whole) (TP X pins σ Q) X.xe s
theorem PW.pt {X:Cx} {e:Expr} {t:TT} (h:PW X e t):PT X e t:=h _
def PA (X:Cx) (es:List Expr) (t:TA):Prop :=
 ∀ (pos:Pos) (pins:List (Addr×Obj)) (s:Shared) (σ:St) (H:Hp) (Q:List V→Hp→Prop),Inv X pins σ H s→t σ H Q→wpAny (model X.prog X.w) X.A (spliced (backTo pos (starEach es X.env))) (AP X pins σ Q) X.xe s
def PS (X:Cx) (st:Stmt) (t:TS):Prop :=
 ∀ (pins:List (Addr×Obj)) (s:Shared) (σ:St) (H:Hp) (D:Zw6),Inv X pins σ H s→t D σ H→wpAny (model X.prog X.w) X.A (exec st X.env) (SP X pins D) X.xe s
def PSs (X:Cx) (st:List Stmt) (t:TS):Prop :=
 ∀ (pins:List (Addr×Obj)) (s:Shared) (σ:St) (H:Hp) (D:Zw6),Inv X pins σ H s→t D σ H→wpAny (model X.prog X.w) X.A (execs st X.env) (SP X pins D) X.xe s
theorem thn {α:Type} {t:Sem α} {Q Q':α→Shared→Prop} {M:Model} {A:Around} {E:Value→Shared→Prop} {s:Shared} (h:wpAny M A t Q E s) (hQ:∀ a s,Q a s→Q' a s):wpAny M A t Q' E s:=wpAny_mono h hQ fun _ _ x=>x
section
variable {X:Cx}
theorem bin {a b:Expr} {ta tb:TE} (ha:PE X a ta) (hb:PE X b tb) {pins:List (Addr×Obj)} {s:Shared} {σ:St} {H:Hp} {R:V→V→Hp→Prop} (I:Inv X pins σ H s) (h:ta σ H fun x H1=>tb σ H1 fun y H2=>R x y H2)
  {α:Type} {Q:α→Shared→Prop} {f:Value→Value→Sem α}
  (hf:∀ v u s2 x y H2,Inv X pins σ H2 s2→RelV x v→RelV y u→R x y H2→wpAny (model X.prog X.w) X.A (f v u) Q X.xe s2) :
  wpAny (model X.prog X.w) X.A (eval a X.env) (fun v s₁=>wpAny (model X.prog X.w) X.A (eval b X.env) (fun u s₂=>wpAny (model X.prog X.w) X.A (f v u) Q X.xe s₂) X.xe s₁) X.xe s:=by
 refine thn (ha pins s σ H _ I h) fun v s1 zz1=>?_
 obtain ⟨x,H1,I1,r1,q1⟩:=zz1
 refine thn (hb pins s1 σ H1 _ I1 q1) fun u s2 zz2=>?_
 obtain ⟨y,H2,I2,r2,q2⟩:=zz2
 exact hf v u s2 x y H2 I2 r1 r2 q2
def ZBm (i:Nat):TE:=fun σ H Q=>∃ v,σ[i]?=some (some v)∧Q v H
def tC (v:V):TE:=fun _ H Q=>Q v H
theorem Zxt {i:Nat} {x:Str} {pos:Pos} (hN:X.N[i]?=some x) (hv:Vis X.env.scope x) (hd:(x==("__debug__":Str))=false:=by decide) (hcd:(x==("__classdict__":Str))=false:=by decide):PE X (.Name x pos) (ZBm i):=by
 intro pins s σ H Q I h
 obtain ⟨v,e,h⟩:=h
 obtain ⟨m,hn,hl⟩:=I.loc
 obtain ⟨u,r,l⟩:=hl i x v hN e hv
 have fin:EP X pins σ Q u s:=⟨v,H,I,r,h⟩
 rcases l with ⟨hk,hm⟩ | ⟨hk,c,hc,hcell⟩
 ·exact wpAny_Name (wpAny_loadName_local I.ok.kind hk hn hm fin) hd
 ·rcases hk with hk | hk
  ·exact wpAny_Name (wpAny_loadName_cell I.ok.kind hk hc hcell fin) hd
  ·exact wpAny_Name (wpAny_loadName_free I.ok.kind hk hc hcell fin hcd) hd
theorem ZyG {i j pos}:PE X (.Constant (.int i) j pos) (tC (.int i)):=fun _ _ _ H _ I h=>wpAny_Constant_int ⟨.int i,H,I.tok _,⟨_,rfl⟩,h⟩
theorem ZAH {b j pos}:PE X (.Constant (.bool b) j pos) (tC (.bl b)):=fun _ _ _ H _ I h=>Constant_bool ⟨.bl b,H,I,rfl,h⟩
theorem ZxS {j pos}:PE X (.Constant .none j pos) (tC .non):=fun _ _ _ H _ I h=>Constant_none ⟨.non,H,I,rfl,h⟩
theorem Zym {x j pos}:PE X (.Constant (.str x) j pos) (tC (.str x)):=fun _ _ _ H _ I h=>Calls.Constant_str ⟨.str x,H,I.tok _,⟨_,rfl⟩,h⟩
def Gl (X:Cx) (x:Str):Prop:=X.env.kindOf x=some .globalImplicit
theorem Zjk {E:Value→Shared→Prop} {pins:List (Addr×Obj)} {s:Shared} {σ:St} {H:Hp} {x:Str} {u:Value} {pos:Pos} {Q:Value→Shared→Prop} (I:Inv X pins σ H s) (hg:Gl X x) (hm:X.mg x=some u) (h:Q u s)
  (hd:(x==("__debug__":Str))=false:=by decide):wpAny (model X.prog X.w) X.A (eval (.Name x pos) X.env) Q E s :=
 Calls.Name_function_global I.ok.kind hg (Calls.loadGlobal_global (by rw [I.ok.glob];exact I.mod.glob.keeps I.bk) hm h) hd
theorem Zgi {E:Value→Shared→Prop} {pins:List (Addr×Obj)} {s:Shared} {σ:St} {H:Hp} {x:Str} {u:Value} {pos:Pos} {Q:Value→Shared→Prop} (I:Inv X pins σ H s) (hg:Gl X x) (hm:X.mg x=none) (hv:bootBuiltins x=some u) (h:Q u s)
  (hn:x≠"__name__":=by decide) (hd:(x==("__debug__":Str))=false:=by decide):wpAny (model X.prog X.w) X.A (eval (.Name x pos) X.env) Q E s:=by
 obtain ⟨mb,h1,h2⟩:=I.mod.blt
 exact Calls.Name_function_global I.ok.kind hg (Calls.loadGlobal_builtin (by rw [I.ok.glob];exact I.mod.glob.keeps I.bk) hm (by rw [I.ok.blt];exact h1.keeps I.bk) ((h2 x hn).trans hv) h) hd
theorem ZqY {x:Str} {v:V} {u:Value} {pos:Pos} (hg:Gl X x) (hm:X.mg x=some u) (r:RelV v u) (hd:(x==("__debug__":Str))=false:=by decide):PE X (.Name x pos) (tC v) :=
 fun _ _ _ H _ I h=>Zjk I hg hm ⟨v,H,I,r,h⟩ hd
theorem ZvZ {x:Str} {v:V} {u:Value} {pos:Pos} (hg:Gl X x) (hm:X.mg x=none) (hv:bootBuiltins x=some u) (r:RelV v u) (hn:x≠"__name__":=by decide) (hd:(x==("__debug__":Str))=false:=by decide):PE X (.Name x pos) (tC v) :=
 fun _ _ _ H _ I h=>Zgi I hg hm hv ⟨v,H,I,r,h⟩ hn hd
def t2I (ta tb:TE) (k:Int→Int→Hp→Prop):St→Hp→Prop:=fun σ H=>ta σ H fun x H1=>tb σ H1 fun y H2=>∃ i j,x=.int i∧y=.int j∧k i j H2
def ZBr (ta tb:TE):TE:=fun σ H Q=>t2I ta tb (fun i j H2=>Q (.int (i - j)) H2) σ H
variable {a b:Expr} {ta tb:TE} {pos:Pos}
theorem Zbz (ha:PE X a ta) (hb:PE X b tb):PE X (.BinOp a .Sub b pos) (ZBr ta tb):=by
 intro pins s σ H Q I h
 refine wpAny_BinOp (bin ha hb I h fun v u s2 x y H2 I2 rx ry q=>?_)
 obtain ⟨i,j,rfl,rfl,q⟩:=q
 obtain ⟨t,rfl⟩:=rx
 obtain ⟨t',rfl⟩:=ry
 exact sub_int ⟨.int _,H2,I2.tok _,⟨_,rfl⟩,q⟩
variable {tA tB':TT} {Zbm:List Expr}
def ZBK (t u:TT):TT:=fun σ H Q=>t σ H fun c H1=>if c=true then u σ H1 Q else Q false H1
def tOr (t u:TT):TT:=fun σ H Q=>t σ H fun c H1=>if c=true then Q true H1 else u σ H1 Q
def ZBg (t:TT):TT:=fun σ H Q=>t σ H fun c H1=>Q (!c) H1
theorem ZvM (ha:PT X a tA):PW X (.BoolOp .And [a] pos) tA:=by
 intro wh pins s σ H Q I h
 refine isTrue_and (thn (ha pins s σ H Q I h) fun c s1 e=>?_)
 cases c with
 | true=>exact isTrue_and_nil e
 | false=>exact e
theorem ZyX (ha:PT X a tA):PW X (.BoolOp .Or [a] pos) tA:=by
 intro wh pins s σ H Q I h
 refine isTrue_or (thn (ha pins s σ H Q I h) fun c s1 e=>?_)
 cases c with
 | false=>exact isTrue_or_nil e
 | true=>exact e
theorem Zzd (ha:PT X a tA) (hb:PW X (.BoolOp .And (b::Zbm) pos) tB'):PW X (.BoolOp .And (a::b::Zbm) pos) (ZBK tA tB'):=by
 intro wh pins s σ H Q I h
 refine isTrue_and (thn (ha pins s σ H _ I h) fun c s1 zz7=>?_)
 obtain ⟨H1,I1,q1⟩:=zz7
 cases c with
 | true=>exact hb wh pins s1 σ H1 Q I1 q1
 | false=>exact ⟨H1,I1,q1⟩
theorem Zz4 (ha:PT X a tA) (hb:PW X (.BoolOp .Or (b::Zbm) pos) tB'):PW X (.BoolOp .Or (a::b::Zbm) pos) (tOr tA tB'):=by
 intro wh pins s σ H Q I h
 refine isTrue_or (thn (ha pins s σ H _ I h) fun c s1 zz8=>?_)
 obtain ⟨H1,I1,q1⟩:=zz8
 cases c with
 | true=>exact ⟨H1,I1,q1⟩
 | false=>exact hb wh pins s1 σ H1 Q I1 q1
theorem Zzc (ha:PT X a tA):PT X (.UnaryOp .Not a pos) (ZBg tA):=by
 intro pins s σ H Q I h
 exact isTrue_not (ha pins s σ H (fun c H1=>Q (!c) H1) I h)
def ZzR (ta tb:TE):TE:=fun σ H Q=>ta σ H fun x H1=>∃ c,x=.bl c∧if c=true then tb σ H1 Q else Q (.bl false) H1
def ZBx (ta tb:TE):TE:=fun σ H Q=>ta σ H fun x H1=>∃ c,x=.bl c∧if c=true then Q (.bl true) H1 else tb σ H1 Q
def ZAl (ta:TE):TE:=fun σ H Q=>ta σ H fun x H1=>∃ c,x=.bl c∧Q (.bl (!c)) H1
theorem Zza {op} {t:TE} (h:PE X a t):PE X (.BoolOp op [a] pos) t:=fun pins s σ H Q I hw=>BoolOp_one (h pins s σ H Q I hw)
theorem ZxT (ha:PE X a ta) (hb:PE X (.BoolOp .And (b::Zbm) pos) tb):PE X (.BoolOp .And (a::b::Zbm) pos) (ZzR ta tb):=by
 intro pins s σ H Q I h
 refine BoolOp_and (thn (ha pins s σ H _ I h) fun v s1 zz9=>?_)
 obtain ⟨x,H1,I1,r1,q1⟩:=zz9
 obtain ⟨c,rfl,q1⟩:=q1
 cases r1
 refine wpAny_truthy_bool ?_
 cases c with
 | true=>exact hb pins s1 σ H1 Q I1 q1
 | false=>exact ⟨.bl false,H1,I1,rfl,q1⟩
theorem ZAt (ha:PE X a ta) (hb:PE X (.BoolOp .Or (b::Zbm) pos) tb):PE X (.BoolOp .Or (a::b::Zbm) pos) (ZBx ta tb):=by
 intro pins s σ H Q I h
 refine BoolOp_or (thn (ha pins s σ H _ I h) fun v s1 zz10=>?_)
 obtain ⟨x,H1,I1,r1,q1⟩:=zz10
 obtain ⟨c,rfl,q1⟩:=q1
 cases r1
 refine wpAny_truthy_bool ?_
 cases c with
 | false=>exact hb pins s1 σ H1 Q I1 q1
 | true=>exact ⟨.bl true,H1,I1,rfl,q1⟩
theorem ZyC (ha:PE X a ta):PE X (.UnaryOp .Not a pos) (ZAl ta):=by
 intro pins s σ H Q I h
 refine UnaryOp_ (thn (ha pins s σ H _ I h) fun v s1 zz11=>?_)
 obtain ⟨x,H1,I1,r1,q1⟩:=zz11
 obtain ⟨c,rfl,q1⟩:=q1
 cases r1
 exact not_of (wpAny_truthy_bool ⟨.bl (!c),H1,I1,rfl,q1⟩)
def tIf (t:TT) (ta tb:TE):TE:=fun σ H Q=>t σ H fun c H1=>if c=true then ta σ H1 Q else tb σ H1 Q
theorem Zt4 {c:Expr} (hc:PT X c tA) (ha:PE X a ta) (hb:PE X b tb):PE X (.IfExp c a b pos) (tIf tA ta tb):=by
 intro pins s σ H Q I h
 refine wpAny_IfExp (thn (hc pins s σ H _ I h) fun d s1 zz12=>?_)
 obtain ⟨H1,I1,q1⟩:=zz12
 cases d with
 | true=>exact ha pins s1 σ H1 Q I1 q1
 | false=>exact hb pins s1 σ H1 Q I1 q1
end
def SqL (K:PySem.W.Frag) (H:Hp) (a:Addr) (xs:List V):Prop :=
 Rd H a (.lst xs) ∨
  ∃ (o:Obj) (its:Array Value) (n:Nat),K.lookup a=some o∧o.cls=.type "list"∧o.dict=none∧o.data=.seq its n∧its.size≤sizeLine∧Vals xs its.toList
def SqT (K:PySem.W.Frag) (H:Hp) (a:Addr) (xs:List V):Prop :=
 Rd H a (.tup xs) ∨
  ∃ (o:Obj) (its:Array Value) (n:Nat),K.lookup a=some o∧o.cls=.type "tuple"∧o.data=.seq its n∧its.size≤sizeLine∧Vals xs its.toList
def ZBw:Value→Option V
 | .none=>some .non
 | .bool b=>some (.bl b)
 | .int i _=>some (.int i)
 | .str x _=>some (.str x)
 | .bytes b _=>some (.byt b)
 | .float b _=>some (.flt b)
 | .ref a=>some (.ref a)
 | .type n=>some (.ty n)
 | _=>none
theorem RelV.abs {x:V} {u:Value} (r:RelV x u):ZBw u=some x:=by
 cases x with
 | non=>cases r;rfl
 | bl _=>cases r;rfl
 | int _=>obtain ⟨t,rfl⟩:=r;rfl
 | str _=>obtain ⟨t,rfl⟩:=r;rfl
 | byt _=>obtain ⟨t,rfl⟩:=r;rfl
 | flt _=>obtain ⟨t,rfl⟩:=r;rfl
 | ref _=>cases r;rfl
 | ty _=>cases r;rfl
theorem RelV.inj {x y:V} {u:Value} (r:RelV x u) (q:RelV y u):x=y:=Option.some.inj (r.abs.symm.trans q.abs)
theorem Vals.inj:∀ {xs ys:List V} {us:List Value},Vals xs us→Vals ys us→xs=ys
 | _,_,_,.nil,.nil=>rfl
 | _,_,_,.cons r t,.cons r' t'=>by rw [r.inj r',Vals.inj t t']
section
variable {X:Cx} {pins:List (Addr×Obj)} {σ:St} {H:Hp} {s:Shared} {a:Addr} {xs ys:List V}
theorem SqL.of {K:PySem.W.Frag} (h:H a=some (.lst xs)):SqL K H a xs:=.inl (.inl h)
theorem SqT.of {K:PySem.W.Frag} (h:H a=some (.tup xs)):SqT K H a xs:=.inl (.inl h)
theorem Inv.list (I:Inv X pins σ H s) (h:SqL X.K H a xs):∃ its:List Value,Vals xs its∧PlainL s.heap a its.toArray∧xs.length≤sizeLine:=by
 rcases h with h | ⟨o,its,n,hk,hc,hd,hs,hz,r⟩
 ·obtain ⟨z,its,n,r,e⟩:=h.ok I.hok
  exact ⟨its,r,⟨_,n,e,rfl,rfl,rfl⟩,z⟩
 ·refine ⟨its.toList,r,⟨o,n,I.kIn a o hk,hc,hd,by simpa using hs⟩,?_⟩
  have e:=r.length
  simp only [Array.length_toList] at e
  omega
theorem Inv.tuple (I:Inv X pins σ H s) (h:SqT X.K H a xs):∃ its:List Value,Vals xs its∧IsTup s.heap a its.toArray∧xs.length≤sizeLine:=by
 rcases h with h | ⟨o,its,n,hk,hc,hs,hz,r⟩
 ·obtain ⟨z,its,r,p⟩:=h.ok I.hok
  exact ⟨its,r,p,z⟩
 ·refine ⟨its.toList,r,⟨o,I.kIn a o hk,hc,n,by simpa using hs⟩,?_⟩
  have e:=r.length
  simp only [Array.length_toList] at e
  omega
theorem Inv.list_inj (I:Inv X pins σ H s) (h:SqL X.K H a xs) (h':SqL X.K H a ys):xs=ys:=by
 obtain ⟨its,r,⟨o,n,e,_,_,d⟩,_⟩:=I.list h
 obtain ⟨its',r',⟨o',n',e',_,_,d'⟩,_⟩:=I.list h'
 rw [e] at e';cases e'
 rw [d] at d'
 injection d' with d1 _
 have:its=its':=by simpa using congrArg Array.toList d1
 subst this
 exact r.inj r'
theorem Inv.tuple_inj (I:Inv X pins σ H s) (h:SqT X.K H a xs) (h':SqT X.K H a ys):xs=ys:=by
 obtain ⟨its,r,⟨o,e,_,n,d⟩,_⟩:=I.tuple h
 obtain ⟨its',r',⟨o',e',_,n',d'⟩,_⟩:=I.tuple h'
 rw [e] at e';cases e'
 rw [d] at d'
 injection d' with d1 _
 have:its=its':=by simpa using congrArg Array.toList d1
 subst this
 exact r.inj r'
end
abbrev Cx.wish (X:Cx) (E:Value→Shared→Prop):Cx:={ X with xe:=E }
abbrev Cx.nox (X:Cx):Cx:=X.wish fun _ _=>False
theorem Cx.Ok.wish {X:Cx} (ok:X.Ok) (E:Value→Shared→Prop):(X.wish E).Ok :=
 ⟨ok.mod,ok.kind,ok.glob,ok.blt,ok.above,ok.inj,ok.has,ok.cab,ok.hd,ok.frames,ok.stk,ok.exf,ok.bs,ok.bsz,ok.noex,ok.exfs,ok.funs,ok.frf⟩
theorem Cx.Ok.unwish {X:Cx} {E:Value→Shared→Prop} (ok:(X.wish E).Ok):X.Ok :=
 ⟨ok.mod,ok.kind,ok.glob,ok.blt,ok.above,ok.inj,ok.has,ok.cab,ok.hd,ok.frames,ok.stk,ok.exf,ok.bs,ok.bsz,ok.noex,ok.exfs,ok.funs,ok.frf⟩
section
variable {X:Cx} {pins:List (Addr×Obj)} {σ:St} {H:Hp} {s:Shared} {E:Value→Shared→Prop}
theorem Inv.wish (I:Inv X pins σ H s) (E:Value→Shared→Prop):Inv (X.wish E) pins σ H s:=⟨I.ok.wish E,I.os,I.bare,I.base,I.loc,I.cell,I.free,I.freeC,I.pin,I.hok,I.len⟩
theorem Inv.unwish (I:Inv (X.wish E) pins σ H s):Inv X pins σ H s:=⟨I.ok.unwish,I.os,I.bare,I.base,I.loc,I.cell,I.free,I.freeC,I.pin,I.hok,I.len⟩
theorem SP.unwish {D:Zw6} {f:Flow} {s':Shared} (h:SP (X.wish E) pins D f s'):SP X pins D f s':=by
 cases f with
 | next=>obtain ⟨σ',H',I,q⟩:=h;exact ⟨σ',H',I.unwish,q⟩
 | brk=>obtain ⟨σ',H',I,q⟩:=h;exact ⟨σ',H',I.unwish,q⟩
 | cont=>obtain ⟨σ',H',I,q⟩:=h;exact ⟨σ',H',I.unwish,q⟩
 | ret u=>obtain ⟨v,σ',H',I,r,q⟩:=h;exact ⟨v,σ',H',I.unwish,r,q⟩
theorem PE.nox {e:Expr} {t:TE} (h:PE X.nox e t):PE X e t:=fun pins s σ H Q I hw =>
 wpAny_mono (h pins s σ H Q (I.wish _) hw) ((by rintro _ _ ⟨v,H',I',r,q⟩;exact ⟨v,H',I'.unwish,r,q⟩)) fun _ _ z=>False.elim z
theorem PT.nox {e:Expr} {t:TT} (h:PT X.nox e t):PT X e t:=fun pins s σ H Q I hw =>
 wpAny_mono (h pins s σ H Q (I.wish _) hw) ((by rintro _ _ ⟨H',I',q⟩;exact ⟨H',I'.unwish,q⟩)) fun _ _ z=>False.elim z
theorem PSs.nox {st:List Stmt} {t:TS} (h:PSs X.nox st t):PSs X st t:=fun pins s σ H D I hw =>
 wpAny_mono (h pins s σ H D (I.wish _) hw) (fun _ _ q=>q.unwish) fun _ _ z=>False.elim z
end
section
variable {X:Cx} {st:Stmt} {Zbm:List Stmt} {t u:TS} {e:Expr} {te:TE} {pos:Pos}
def Zz1:TS:=fun D σ H=>D.nx σ H
def ZBh (t u:TS):TS:=fun D σ H=>t { D with nx:=u D } σ H
theorem Zvn:PSs X [] Zz1:=fun _ _ σ H _ I h=>wpAny_execs_nil ⟨σ,H,I,h⟩
theorem ZsL (h1:PS X st t) (h2:PSs X Zbm u):PSs X (st::Zbm) (ZBh t u):=by
 intro pins s σ H D I h
 refine wpAny_execs_cons (thn (h1 pins s σ H { D with nx:=u D } I h) fun f s1 q=>?_)
 cases f with
 | next =>
  obtain ⟨σ',H',I',q⟩:=q
  exact h2 pins s1 σ' H' D I' q
 | ret v=>exact q
 | brk=>exact q
 | cont=>exact q
theorem ZwV (h1:PS X st t):PSs X [st] t:=by
 intro pins s σ H D I h
 refine wpAny_execs_cons (thn (h1 pins s σ H D I h) fun f s1 q=>?_)
 cases f with
 | next=>exact wpAny_execs_nil q
 | ret v=>exact q
 | brk=>exact q
 | cont=>exact q
theorem Inv.quiet {pins:List (Addr×Obj)} {σ:St} {H:Hp} {s:Shared} (I:Inv X pins σ H s):interactive X.env=false:=by simp [interactive,I.ok.kind]
def Zz0 (te:TE):TS:=fun D σ H=>te σ H fun _ H1=>D.nx σ H1
theorem Zwb (he:PE X e te) (hs:swapsWith e none pos.line X.env=pure false:=by rfl):PS X (.Expr e pos) (Zz0 te):=by
 intro pins s σ H D I h
 exact wpAny_Expr_any (thn (he pins s σ H _ I h) (by rintro v s1 ⟨x,H1,I1,r1,q1⟩;exact ⟨σ,H1,I1,q1⟩)) I.quiet hs
def ZBs (te:TE):TS:=fun D σ H=>te σ H D.rt
theorem Zx3 (he:PE X e te):PS X (.Return (some e) pos) (ZBs te):=by
 intro pins s σ H D I h
 exact wpAny_Return_some (thn (he pins s σ H _ I h) (by rintro v s1 ⟨x,H1,I1,r1,q1⟩;exact ⟨x,σ,H1,I1,r1,q1⟩))
def ZBE (c:TT) (t u:TS):TS:=fun D σ H=>c σ H fun b H1=>if b=true then t D σ H1 else u D σ H1
theorem ZAy {c:Expr} {a b:List Stmt} {tc:TT} (hc:PT X c tc) (ha:PSs X a t) (hb:PSs X b u):PS X (.If c a b pos) (ZBE tc t u):=by
 intro pins s σ H D I h
 refine wpAny_If (thn (hc pins s σ H _ I h) fun d s1 zz13=>?_)
 obtain ⟨H1,I1,q1⟩:=zz13
 cases d with
 | true=>exact ha pins s1 σ H1 D I1 q1
 | false=>exact hb pins s1 σ H1 D I1 q1
end
abbrev TG:=V→St→Hp→(St→Hp→Prop)→Prop
abbrev TGs:=List V→St→Hp→(St→Hp→Prop)→Prop
def PG (X:Cx) (target:Expr) (t:TG):Prop :=
 ∀ (pins:List (Addr×Obj)) (s:Shared) (σ:St) (H:Hp) (v:V) (u:Value) (Q:St→Hp→Prop),Inv X pins σ H s→RelV v u→t v σ H Q →
  wpAny (model X.prog X.w) X.A (assign target X.env u) (fun _ s'=>∃ σ' H',Inv X pins σ' H' s'∧Q σ' H') X.xe s
def PGs (X:Cx) (ts:List Expr) (t:TGs):Prop :=
 ∀ (pins:List (Addr×Obj)) (s:Shared) (σ:St) (H:Hp) (vs:List V) (us:List Value) (Q:St→Hp→Prop),Inv X pins σ H s→Vals vs us→t vs σ H Q →
  wpAny (model X.prog X.w) X.A (assignInOrder ((assignEach ts X.env).map (·.2)) us) (fun _ s'=>∃ σ' H',Inv X pins σ' H' s'∧Q σ' H') X.xe s
abbrev ZAh:=V→V→V→Hp→(Hp→Prop)→Prop
def ZA7 (X:Cx) (t:ZAh):Prop :=
 ∀ (pins:List (Addr×Obj)) (s:Shared) (σ:St) (H:Hp) (o i v:V) (ov iv u:Value) (Q:Hp→Prop),Inv X pins σ H s→RelV o ov→RelV i iv→RelV v u→t o i v H Q →
  wpAny (model X.prog X.w) X.A (setItem ov iv u) (fun _ s'=>∃ H',Inv X pins σ H' s'∧Q H') X.xe s
abbrev TIp:=V→V→Hp→VK→Prop
def PIp (X:Cx) (op:Operator) (t:TIp):Prop :=
 ∀ (pins:List (Addr×Obj)) (s:Shared) (σ:St) (H:Hp) (x y:V) (v u:Value) (Q:VK),Inv X pins σ H s→RelV x v→RelV y u→t x y H Q →
  wpAny (model X.prog X.w) X.A (inplaceOp op v u) (EP X pins σ Q) X.xe s
section
variable {X:Cx} {pos:Pos}
def ZgH (i:Nat):TG:=fun v σ H Q=>Q (σ.set i (some v)) H
theorem Zcp {i:Nat} {x:Str} (hN:X.N.Nodup) (hi:X.N[i]?=some x) (hx:Loc X.env.scope x) (hf:X.fn x=true∨X.env.scope.names.lookup x=some .local:=by first | exact .inl rfl | exact .inr rfl | assumption):PG X (.Name x pos) (ZgH i):=by
 intro pins s σ H v u Q I r h
 exact wpAny_assign_Name (Zi9 I hN hi hx r (fun s' I'=>⟨_,H,I',h⟩) hf)
def Zaj:TGs:=fun vs σ H Q=>vs=[]∧Q σ H
def Zaa (t:TG) (u:TGs):TGs:=fun vs σ H Q=>∃ v r,vs=v::r∧t v σ H fun σ' H'=>u r σ' H' Q
theorem ZjC:PGs X [] Zaj:=by
 intro pins s σ H vs us Q I r h
 obtain ⟨e,h⟩:=h
 subst e
 cases r
 exact assignInOrder_nil ⟨σ,H,I,h⟩
theorem Zch {e:Expr} {es:List Expr} {t:TG} {u:TGs} (h1:PG X e t) (h2:PGs X es u)
  (hs:(assignEach (e::es) X.env).map (·.2)=assign e X.env::(assignEach es X.env).map (·.2):=by rfl):PGs X (e::es) (Zaa t u):=by
 intro pins s σ H vs us Q I r h
 obtain ⟨v,vr,e1,h⟩:=h
 subst e1
 cases r with
 | cons r rr =>
  rw [hs]
  refine assignInOrder_cons (thn (h1 pins s σ H _ _ _ I r h) fun _ s1 zz14=>?_)
  obtain ⟨σ1,H1,I1,q1⟩:=zz14
  exact h2 pins s1 σ1 H1 _ _ Q I1 rr q1
def ZaQ (K:PySem.W.Frag) (n:Nat) (t:TGs):TG:=fun v σ H Q=>∃ a xs,v=.ref a∧SqT K H a xs∧xs.length=n∧t xs σ H Q
theorem Znh {es:List Expr} {k:Nat} {t:TGs} {n:Nat} (hc:X.calm=true) (h:PGs X es t)
  (hn:(assignEach es X.env).length=n:=by rfl) (hst:(assignEach es X.env).findIdx? (·.1)=none:=by rfl):PG X (.Tuple es k pos) (ZaQ X.K n t):=by
 intro pins s σ H v u Q I r hw
 obtain ⟨a,xs,e1,hq,hl,hw⟩:=hw
 subst e1
 cases r
 obtain ⟨its,rv,ht,hz⟩:=I.tuple hq
 refine assign_Tuple_tuple (I.ok.hd hc) ht (by simp [hn,← hl,rv.length]) hst fun h' hx=>?_
 have I1:Inv X pins σ H { s with heap:=h' }:=I.kept (t':=s.toks) fun b o e=>hx b o (Nat.ne_of_lt (Heap.lt_size e)) e
 exact h pins _ σ H xs _ Q I1 (by simpa using rv) hw
def ZBA (to ti:TE) (t:ZAh):TG:=fun v σ H Q=>to σ H fun o H1=>ti σ H1 fun i H2=>t o i v H2 fun H3=>Q σ H3
theorem ZyL {o i:Expr} {to ti:TE} {t:ZAh} (ho:PE X o to) (hi:PE X i ti) (hs:ZA7 X t)
  (ha:∀ v,assign (.Subscript o i pos) X.env v=(do
   let ov ← holding [v] (eval o X.env)
   let iv ← holding [v,ov] (eval i X.env)
   standAt pos
   holding [v,ov,iv] (setItem ov iv v)
   release [v,ov,iv] []):=by intro _;rfl):PG X (.Subscript o i pos) (ZBA to ti t):=by
 intro pins s σ H v u Q I r h
 rw [ha]
 refine wpAny_bind (wpAny_holding (thn (ho pins s σ H _ I h) fun ov s1 zz15=>?_))
 obtain ⟨x,H1,I1,r1,q1⟩:=zz15
 refine wpAny_bind (wpAny_holding (thn (hi pins s1 σ H1 _ I1 q1) fun iv s2 zz16=>?_))
 obtain ⟨y,H2,I2,r2,q2⟩:=zz16
 refine wpAny_bind (wpAny_standAt (wpAny_bind (wpAny_holding (thn (hs pins s2 σ H2 x y v ov iv u _ I2 r1 r2 r q2) fun _ s3 zz17=>?_))))
 obtain ⟨H3,I3,q3⟩:=zz17
 exact wpAny_release ⟨σ,H3,I3,q3⟩
def ZAE (te:TE) (g:TG):TS:=fun D σ H=>te σ H fun x H1=>g x σ H1 D.nx
theorem Zup {tg e:Expr} {te:TE} {g:TG} (he:PE X e te) (hg:PG X tg g) (hs:swapsWithSole [tg] e pos.line X.env=pure false:=by rfl) (hw:swappedStores [tg] e X.env=pure none:=by rfl)
  (h1:(assignEach [tg] X.env).map (·.2)=[assign tg X.env]:=by rfl):PS X (.Assign [tg] e pos) (ZAE te g):=by
 intro pins s σ H D I h
 refine wpAny_Assign_stores (thn (he pins s σ H _ I h) fun v s1 zz18=>?_) hs hw
 obtain ⟨x,H1,I1,r1,q1⟩:=zz18
 rw [h1]
 exact thn (hg pins s1 σ H1 x v _ I1 r1 q1) fun _ s2 q=>q
theorem ZyN {i:Nat} {x:Str} {e:Expr} {te:TE} {pos':Pos} (hN:X.N.Nodup) (hi:X.N[i]?=some x) (hx:Loc X.env.scope x) (he:PE X e te) (hs:swapsWith e (some (.Name x pos')) pos.line X.env=pure false:=by rfl) (hf:X.fn x=true∨X.env.scope.names.lookup x=some .local:=by first | exact .inl rfl | exact .inr rfl | assumption) :
  PS X (.Assign [.Name x pos'] e pos) (ZAE te (ZgH i)):=by
 intro pins s σ H D I h
 refine wpAny_Assign_Name (thn (he pins s σ H _ I h) fun v s1 zz19=>?_) hs
 obtain ⟨y,H1,I1,r1,q1⟩:=zz19
 exact Zi9 I1 hN hi hx r1 (fun s2 I2=>⟨_,H1,I2,q1⟩) hf
def ZBq (i:Nat) (te:TE) (ti:TIp):TS:=fun D σ H=>∃ x,σ[i]?=some (some x)∧te σ H fun y H1=>ti x y H1 fun z H2=>D.nx (σ.set i (some z)) H2
theorem Zx0 {i:Nat} {x:Str} {e:Expr} {te:TE} {op:Operator} {ti:TIp} {pos':Pos} (hN:X.N.Nodup) (hi:X.N[i]?=some x) (hx:Loc X.env.scope x) (he:PE X e te) (ho:PIp X op ti) (hf:X.fn x=true∨X.env.scope.names.lookup x=some .local:=by first | exact .inl rfl | exact .inr rfl | assumption) :
  PS X (.AugAssign (.Name x pos') op e pos) (ZBq i te ti):=by
 intro pins s σ H D I h
 obtain ⟨v,e1,h⟩:=h
 obtain ⟨m,hn,hl⟩:=I.loc
 have vis:Vis X.env.scope x:=by rcases hx with k | k;exact .inl k;exact .inr (.inl k)
 obtain ⟨u,r,l⟩:=hl i x v hi e1 vis
 refine wpAny_AugAssign_Name ?_
 have go:wpAny (model X.prog X.w) X.A (eval e X.env) (fun w s₂=>wpAny (model X.prog X.w) X.A (inplaceOp op u w) (fun r s₃=>wpAny (model X.prog X.w) X.A (storeName X.env x r) (fun _=>SP X pins D .next) X.xe s₃) X.xe s₂) X.xe s:=by
  refine thn (he pins s σ H _ I h) fun w s1 zz21=>?_
  obtain ⟨y,H1,I1,r1,q1⟩:=zz21
  refine thn (ho pins s1 σ H1 v y u w _ I1 r r1 q1) fun z s2 zz22=>?_
  obtain ⟨zv,H2,I2,r2,q2⟩:=zz22
  exact Zi9 I2 hN hi hx r2 (fun s3 I3=>⟨_,H2,I3,q2⟩) hf
 rcases l with ⟨hk,hm⟩ | ⟨hk,c,hc,hcell⟩
 ·exact wpAny_loadName_local I.ok.kind hk hn hm go
 ·rcases hk with hk | hk
  ·exact wpAny_loadName_cell I.ok.kind hk hc hcell go
  ·rcases hx with k | k
   ·have:X.env.scope.names.lookup x=some .free:=hk
    rw [k] at this;cases this
   ·have:X.env.scope.names.lookup x=some .free:=hk
    rw [k] at this;cases this
end
section
variable {X:Cx} {pos:Pos}
def ZxQ (c:TT) (tb:TS):TS:=fun D σ H=>∃ W:Nat→St→Hp→Prop,(∃ m,W m σ H)∧∀ m σ H,W m σ H →
 c σ H fun b H1=>if b=true then ∃ N:St→Hp→Prop,(∀ σ' H',N σ' H'→∃ m',m' < m∧W m' σ' H')∧tb { D with nx:=N,ct:=N,bk:=D.nx } σ H1 else D.nx σ H1
theorem ZsY {c:Expr} {body:List Stmt} {tc:TT} {tb:TS} (hp:PassesOwn (model X.prog X.w) X.A X.env X.xe) (hc:PT X c tc) (hb:PSs X body tb):PS X (.While c body [] pos) (ZxQ tc tb):=by
 intro pins s σ H D I h
 obtain ⟨W,⟨m0,w0⟩,turn⟩:=h
 refine wpAny_While (codeAny_whileLoop (fun n s'=>∃ σ' H',Inv X pins σ' H' s'∧W n σ' H') ?_ m0 ⟨σ,H,I,w0⟩)
 rintro n s1 ⟨σ1,H1,I1,w1⟩
 refine wpAny_passesOwn hp (thn (hc pins s1 σ1 H1 _ I1 (turn n σ1 H1 w1)) fun b s2 zz28=>?_)
 obtain ⟨H2,I2,q2⟩:=zz28
 cases b with
 | true =>
  obtain ⟨N,hN,q2⟩:=q2
  rw [if_pos rfl]
  refine wpAny_passesOwn hp (thn (hb pins s2 σ1 H2 _ I2 q2) fun f s3 q3=>?_)
  cases f with
  | next =>
   obtain ⟨σ3,H3,I3,n3⟩:=q3
   obtain ⟨m',hm,w3⟩:=hN σ3 H3 n3
   exact ⟨m',hm,σ3,H3,I3,w3⟩
  | cont =>
   obtain ⟨σ3,H3,I3,n3⟩:=q3
   obtain ⟨m',hm,w3⟩:=hN σ3 H3 n3
   exact ⟨m',hm,σ3,H3,I3,w3⟩
  | brk=>exact q3
  | ret v=>exact q3
 | false =>
  rw [if_neg Bool.false_ne_true]
  exact wpAny_execs_nil ⟨σ1,H2,I2,q2⟩
end
structure It where
 go:Nat→Hp→Prop
 yld:Nat→Hp→V→Hp→Prop
 stop:Nat→Hp→Prop
def ZrS (X:Cx) (pins:List (Addr×Obj)) (H:Hp) (b:Addr):Prop :=
 H b=none∧b≠X.env.locals∧b∉X.fs∧(b∈X.ex∨X.s₀.heap.objs.size≤b)∧(∀ x c,X.env.cells.lookup x=some c→c≠b)∧∀ p∈X.pn++pins,p.1≠b
theorem Inv.fpOk {X:Cx} {pins:List (Addr×Obj)} {σ:St} {H H':Hp} {s:Shared} {b:Addr} (I:Inv X pins σ H s) (hb:s.heap.objs.size≤b) (hn:H' b=none):ZrS X pins H' b:=by
 refine ⟨hn,Nat.ne_of_gt (Nat.lt_of_lt_of_le I.lt hb),I.nofs hb,.inr (Nat.le_trans I.sz hb),fun x c e z=>?_,fun p hp z=>?_⟩
 ·obtain ⟨v,q⟩:=I.cell x c e
  exact absurd (Nat.lt_of_lt_of_le q.lt (by rw [z];exact hb)) (Nat.lt_irrefl _)
 ·exact absurd (Nat.lt_of_lt_of_le (Heap.lt_size (I.pin p hp).1) (by rw [z];exact hb)) (Nat.lt_irrefl _)
structure Ztq (P:Program) (w:World) (K:PySem.W.Frag) (tg:Expr) (J:It) (fp:List Addr) (it:Addr) (tn:Nat→Heap→Prop):Prop where
 mem:it∈fp
 obj:∀ i h,tn i h→∀ b∈fp,∃ o,h.get? b=some o∧∀ v,o.data≠.cell v
 keep:∀ i h h',tn i h→(∀ b∈fp,∀ o,h.get? b=some o→h'.get? b=some o)→tn i h'
 item:∀ (X:Cx),X.prog=P→X.w=w→X.K=K→X.calm=true→∀ (i:Nat) (pins:List (Addr×Obj)) (s:Shared) (σ:St) (H:Hp) (E:Value→Shared→Prop),Inv X pins σ H s→(∀ b∈fp,ZrS X pins H b)→tn i s.heap→J.go i H →
  wpAny (model P w) X.A (pyNext (.ref it)) (fun r s1=>∃ u,r=some u ∧
   wpAny (model P w) X.A (letOwnedTupleGo tg (.ref it) u) (fun _ s2=>∃ x H',Inv X pins σ H' s2∧RelV x u∧J.yld i H x H'∧tn (i+1) s2.heap∧∀ b∈fp,H' b=none) E s1) E s
 done:∀ (X:Cx),X.prog=P→X.w=w→X.K=K→X.calm=true→∀ (i:Nat) (pins:List (Addr×Obj)) (s:Shared) (σ:St) (H:Hp) (E:Value→Shared→Prop),Inv X pins σ H s→(∀ b∈fp,ZrS X pins H b)→tn i s.heap→J.stop i H →
  wpAny (model P w) X.A (pyNext (.ref it)) (fun r s1=>r=none∧Inv X pins σ H s1) E s
 self:∀ (A:Around) (i:Nat) (s:Shared) (Q:Value→Shared→Prop) (E:Value→Shared→Prop),tn i s.heap→Q (.ref it) s→wpAny (model P w) A (pyIter (.ref it)) Q E s
abbrev TI:=St→Hp→(It→Hp→Prop)→Prop
def PIE (X:Cx) (pins:List (Addr×Obj)) (σ:St) (tg:Expr) (R:It→Hp→Prop) (itv:Value) (s2:Shared):Prop :=
 ∃ (it:Addr) (fp:List Addr) (tn:Nat→Heap→Prop) (J:It) (H':Hp),itv=.ref it∧Inv X pins σ H' s2∧Ztq X.prog X.w X.K tg J fp it tn∧tn 0 s2.heap∧(∀ b∈fp,ZrS X pins H' b)∧R J H'
def PI (X:Cx) (tg iter:Expr) (wi:TI):Prop :=
 ∀ (pins:List (Addr×Obj)) (s:Shared) (σ:St) (H:Hp) (R:It→Hp→Prop),Inv X pins σ H s→wi σ H R →
  wpAny (model X.prog X.w) X.A (eval iter X.env) (fun v s1=>wpAny (model X.prog X.w) X.A (pyIter v) (PIE X pins σ tg R) X.xe s1) X.xe s
theorem ZxX {M:Model} {A:Around} {E:Value→Shared→Prop} {s:Shared} {tg:Expr} {it:Addr} {u:Value} {o:Obj} {n:String} {vs:Array Value} {Q:Unit→Shared→Prop} (ho:s.heap.get? it=some o) (hc:o.cls=.type n) (hd:o.data=.fields vs)
  (hn:["enumerate","zip","dict_itemiterator","dict_reverseitemiterator","odict_iterator","itertools.zip_longest","itertools.pairwise"].contains n=false) (hQ:Q () s):wpAny M A (letOwnedTupleGo tg (.ref it) u) Q E s:=by
 unfold letOwnedTupleGo
 cases tg <;> first
  | exact wpAny_pure hQ
  | (cases u <;> first
    | exact wpAny_pure hQ
    | (refine wpAny_bind (wpAny_load ho ?_)
       rw [hc,hd]
       show wpAny M A (if (["enumerate","zip","dict_itemiterator","dict_reverseitemiterator","odict_iterator","itertools.zip_longest","itertools.pairwise"].contains n&&vs[0]?==some (rawInt _))=true then _ else _) Q E s
       rw [if_neg (by intro h;rw [hn,Bool.false_and] at h;cases h)]
       exact wpAny_pure hQ))
def Itl (K:PySem.W.Frag) (a:Addr):It :=
 ⟨fun i H=>∃ xs x,SqL K H a xs∧xs[i]?=some x,fun i H x H'=>H'=H∧∀ xs,SqL K H a xs→xs[i]?=some x,fun i H=>∃ xs,SqL K H a xs∧xs.length≤i⟩
def Itt (K:PySem.W.Frag) (a:Addr):It :=
 ⟨fun i H=>∃ xs x,SqT K H a xs∧xs[i]?=some x,fun i H x H'=>H'=H∧∀ xs,SqT K H a xs→xs[i]?=some x,fun i H=>∃ xs,SqT K H a xs∧xs.length≤i⟩
def Itr (lo:Int) (n:Nat):It:=⟨fun i _=>i < n,fun i H x H'=>H'=H∧x=.int (lo+i),fun i _=>n≤i⟩
theorem Znk {P:Program} {w:World} {K:PySem.W.Frag} {tg:Expr} (a it:Addr):Ztq P w K tg (Itl K a) [it] it (fun i h=>h.IsListIter it a i) where
 mem:=by simp
 obj:=fun i h st b hb=>by
  have e:b=it:=by simpa using hb
  subst e
  obtain ⟨o,e,c,d⟩:=st
  exact ⟨o,e,fun v z=>by rw [d] at z;cases z⟩
 keep:=fun i h h' st k=>st.at fun o e=>k it (by simp) o e
 item:=by
  walk_at "pc"
  subst hP hw hK
  obtain ⟨xs,x,hq,hx⟩:=hg
  obtain ⟨its,rv,p,hz⟩:=I.list hq
  obtain ⟨u,hu,ru⟩:=rv.get hx
  walk_at "pv"
  refine wpAny_pyNext_list_item st p.isList (x:=u) (by simpa using hu) fun h' st' sb=>?_
  have I1:Inv X pins σ H { s with heap:=h' }:=I.turned (t':=s.toks) (fun b o hb e=>(sb.2 b hb).trans e) f0 f1 f3 f4 f5
  obtain ⟨o,e,c,d⟩:=id st'
  exact ⟨u,rfl,ZxX (s:={ s with heap:=h' }) e c d (by decide) ⟨x,H,I1,ru,⟨rfl,fun ys hy=>by rw [I.list_inj hy hq];exact hx⟩,st',fun b hb=>(hf b hb).1⟩⟩
 done:=by
  walk_at "pc"
  subst hP hw hK
  obtain ⟨xs,hq,hx⟩:=hg
  obtain ⟨its,rv,p,hz⟩:=I.list hq
  walk_at "pv"
  have hl:=rv.length
  exact wpAny_pyNext_list_end (I.ok.hd hc) st p.isList (by simp;omega) fun h' eb=>⟨rfl,I.turned (t':=s.toks) (fun b o hb e=>eb b o hb e) f0 f1 f3 f4 f5⟩
 self:=fun _ _ _ _ _ st h=>wpAny_pyIter_listiter st h
theorem ZkS {P:Program} {w:World} {K:PySem.W.Frag} {tg:Expr} (a it:Addr):Ztq P w K tg (Itt K a) [it] it (fun i h=>h.IsTupleIter it a i) where
 mem:=by simp
 obj:=fun i h st b hb=>by
  have e:b=it:=by simpa using hb
  subst e
  obtain ⟨o,e,c,d⟩:=st
  exact ⟨o,e,fun v z=>by rw [d] at z;cases z⟩
 keep:=fun i h h' st k=>st.at fun o e=>k it (by simp) o e
 item:=by
  walk_at "pc"
  subst hP hw hK
  obtain ⟨xs,x,hq,hx⟩:=hg
  obtain ⟨its,rv,p,hz⟩:=I.tuple hq
  obtain ⟨u,hu,ru⟩:=rv.get hx
  walk_at "pv"
  refine wpAny_pyNext_tuple_item st (show s.heap.IsTuple a its.toArray from p) (x:=u) (by simpa using hu) fun h' st' sb=>?_
  have I1:Inv X pins σ H { s with heap:=h' }:=I.turned (t':=s.toks) (fun b o hb e=>(sb.2 b hb).trans e) f0 f1 f3 f4 f5
  obtain ⟨o,e,c,d⟩:=id st'
  exact ⟨u,rfl,ZxX (s:={ s with heap:=h' }) e c d (by decide) ⟨x,H,I1,ru,⟨rfl,fun ys hy=>by rw [I.tuple_inj hy hq];exact hx⟩,st',fun b hb=>(hf b hb).1⟩⟩
 done:=by
  walk_at "pc"
  subst hP hw hK
  obtain ⟨xs,hq,hx⟩:=hg
  obtain ⟨its,rv,p,hz⟩:=I.tuple hq
  walk_at "pv"
  have hl:=rv.length
  exact wpAny_pyNext_tuple_end (I.ok.hd hc) st (show s.heap.IsTuple a its.toArray from p) (by simp;omega) fun h' eb=>⟨rfl,I.turned (t':=s.toks) (fun b o hb e=>eb b o hb e) f0 f1 f3 f4 f5⟩
 self:=fun _ _ _ _ _ st h=>wpAny_pyIter_tupleiter st h
section
variable {X:Cx} {tg:Expr}
def ZBI (wi:TI) (g:TG) (tb:TS):TS:=fun D σ H=>wi σ H fun J H1=>∃ W:Nat→Nat→St→Hp→Prop,(∃ m,W 0 m σ H1)∧∀ i m σ H,W i m σ H →
 (J.stop i H∧D.nx σ H)∨(J.go i H∧∃ N:St→Hp→Prop,(∀ σ' H',N σ' H'→∃ m',m' < m∧W (i+1) m' σ' H')∧∀ x H',J.yld i H x H'→g x σ H' fun σ2 H2=>tb { D with nx:=N,ct:=N,bk:=D.nx } σ2 H2)
def ZkL (fp:List Addr) (h:Heap):List (Addr×Obj):=fp.filterMap fun b=>(h.get? b).map fun o=>(b,o)
theorem Zel {fp:List Addr} {h:Heap} {b:Addr} {o:Obj} (hb:b∈fp) (e:h.get? b=some o):(b,o)∈ZkL fp h:=List.mem_filterMap.mpr ⟨b,hb,by rw [e];rfl⟩
theorem ZrH {fp:List Addr} {h:Heap} {p:Addr×Obj} (hp:p∈ZkL fp h):p.1∈fp∧h.get? p.1=some p.2:=by
 obtain ⟨b,hb,e⟩:=List.mem_filterMap.mp hp
 cases q:h.get? b with
 | none=>rw [q] at e;cases e
 | some o =>
  rw [q] at e
  have e':(b,o)=p:=Option.some.inj e
  subst e'
  exact ⟨hb,q⟩
theorem Inv.pinned {pins:List (Addr×Obj)} {σ:St} {H:Hp} {s:Shared} {fp:List Addr} (I:Inv X pins σ H s) (hf:∀ b∈fp,ZrS X pins H b) (ho:∀ b∈fp,∃ o,s.heap.get? b=some o∧∀ v,o.data≠.cell v):Inv X (pins++ZkL fp s.heap) σ H s :=
 I.pins_of fun p hp=>(List.mem_append.mp hp).elim (fun z=>I.pin p (List.mem_append_right _ z)) fun z=>by
  obtain ⟨hb,e⟩:=ZrH z
  obtain ⟨f0,f1,f2,_⟩:=hf p.1 hb
  obtain ⟨o,e',d⟩:=ho p.1 hb
  rw [e] at e';cases e'
  exact ⟨e,f0,f1,f2,d⟩
theorem Inv.unpinned {pins pl:List (Addr×Obj)} {σ:St} {H:Hp} {s:Shared} (I:Inv X (pins++pl) σ H s):Inv X pins σ H s:=I.pins_of fun p hp=>I.pin p (List.mem_append_right _ (List.mem_append_left _ hp))
theorem ZxM {iter:Expr} {body:List Stmt} {wi:TI} {g:TG} {tb:TS} {pos:Pos} (hp:PassesOwn (model X.prog X.w) X.A X.env X.xe) (hc:X.calm=true) (hi:PI X tg iter wi) (hg:PG X tg g) (hb:PSs X body tb)
  (hs:∀ x,foldedSetIterable iter X.env x=pure x:=by intro _;rfl):PS X (.For tg iter body [] pos) (ZBI wi g tb):=by
 intro pins s σ H D I h
 refine wpAny_For (thn (hi pins s σ H _ I h) fun v s1 h1=>thn h1 fun itv s2 h2=>?_) hs
 obtain ⟨it,fp,tn,J,H2,e,I2,T,st2,f2,W,⟨m0,w0⟩,turn⟩:=h2
 subst e
 have stat:∀ {H':Hp},(∀ b∈fp,H' b=none)→∀ b∈fp,ZrS X pins H' b:=fun hn b hb=>⟨hn b hb,(f2 b hb).2⟩
 refine codeAny_forLoop_any (fun n s'=>∃ i σ' H',Inv X pins σ' H' s'∧tn i s'.heap∧(∀ b∈fp,H' b=none)∧W i n σ' H') ?_ m0 ⟨0,σ,H2,I2,st2,fun b hb=>(f2 b hb).1,w0⟩
 rintro n s3 ⟨i,σ3,H3,I3,st3,fr3,w3⟩
 rcases turn i n σ3 H3 w3 with ⟨stop,qn⟩ | ⟨go,N,hN,step⟩
 ·refine wpAny_passesOwn hp (thn (T.done X rfl rfl rfl hc i pins s3 σ3 H3 X.xe I3 (stat fr3) st3 stop) fun r s4 zz33=>?_)
  obtain ⟨hr,I4⟩:=zz33
  subst hr
  exact wpAny_execs_nil ⟨σ3,H3,I4,qn⟩
 ·refine wpAny_passesOwn hp (thn (T.item X rfl rfl rfl hc i pins s3 σ3 H3 X.xe I3 (stat fr3) st3 go) fun r s4 zz34=>?_)
  obtain ⟨u,hr,h4⟩:=zz34
  subst hr
  refine wpAny_passesOwn hp (thn h4 fun _ s5 zz35=>?_)
  obtain ⟨x,H5,I5,r5,y5,st5,fr5⟩:=zz35
  have I5':=I5.pinned (stat fr5) (T.obj _ _ st5)
  refine wpAny_passesOwn hp (thn (hg _ s5 σ3 H5 x u _ I5' r5 (step x H5 y5)) fun _ s6 zz36=>?_)
  obtain ⟨σ6,H6,I6,q6⟩:=zz36
  refine wpAny_passesOwn hp (thn (hb _ s6 σ6 H6 _ I6 q6) fun f s7 q7=>?_)
  have again:∀ {σ7:St} {H7:Hp},Inv X (pins++ZkL fp s5.heap) σ7 H7 s7→N σ7 H7→∃ m,m < n∧∃ i σ' H',Inv X pins σ' H' s7∧tn i s7.heap∧(∀ b∈fp,H' b=none)∧W i m σ' H':=fun {σ7 H7} I7 n7=>by
   obtain ⟨m',hm,w7⟩:=hN σ7 H7 n7
   refine ⟨m',hm,i+1,σ7,H7,I7.unpinned,T.keep _ _ _ st5 fun b hb o e=>(I7.pin (b,o) (List.mem_append_right _ (List.mem_append_right _ (Zel hb e)))).1,fun b hb=>?_,w7⟩
   obtain ⟨o,e,d⟩:=T.obj _ _ st5 b hb
   exact (I7.pin (b,o) (List.mem_append_right _ (List.mem_append_right _ (Zel hb e)))).2.1
  cases f with
  | next=>obtain ⟨σ7,H7,I7,n7⟩:=q7;exact again I7 n7
  | cont=>obtain ⟨σ7,H7,I7,n7⟩:=q7;exact again I7 n7
  | brk=>obtain ⟨σ7,H7,I7,q7⟩:=q7;exact ⟨σ7,H7,I7.unpinned,q7⟩
  | ret v=>obtain ⟨x7,σ7,H7,I7,r7,q7⟩:=q7;exact ⟨x7,σ7,H7,I7.unpinned,r7,q7⟩
end
abbrev R2:=V→V→Hp→VK→Prop
def OpR (X:Cx) (f:Value→Value→Sem Value) (r:R2):Prop :=
 ∀ (pins:List (Addr×Obj)) (s:Shared) (σ:St) (H:Hp) (x y:V) (v u:Value) (Q:VK),Inv X pins σ H s→RelV x v→RelV y u→r x y H Q →
  wpAny (model X.prog X.w) X.A (f v u) (EP X pins σ Q) X.xe s
def CallR (X:Cx) (f:Value) (r:List V→Hp→VK→Prop):Prop :=
 ∀ (pins:List (Addr×Obj)) (s:Shared) (σ:St) (H:Hp) (xs:List V) (us:List Value) (Q:VK),Inv X pins σ H s→Vals xs us→r xs H Q →
  wpAny (model X.prog X.w) X.A (call f us) (EP X pins σ Q) X.xe s
def ZBC (X:Cx) (r:V→Hp→(Bool→Hp→Prop)→Prop):Prop :=
 ∀ (pins:List (Addr×Obj)) (s:Shared) (σ:St) (H:Hp) (x:V) (v:Value) (Q:Bool→Hp→Prop),Inv X pins σ H s→RelV x v→r x H Q →
  wpAny (model X.prog X.w) X.A (truthy v) (TP X pins σ Q) X.xe s
def tOp (r:R2) (ta tb:TE):TE:=fun σ H Q=>ta σ H fun x H1=>tb σ H1 fun y H2=>r x y H2 Q
def rI (C:Int→Int→Prop) (g:Int→Int→V):R2:=fun x y H Q=>∃ i j,x=.int i∧y=.int j∧C i j∧Q (g i j) H
def rI0 (g:Int→Int→V):R2:=fun x y H Q=>∃ i j,x=.int i∧y=.int j∧Q (g i j) H
section
variable {X:Cx} {a b c:Expr} {ta tb tc:TE} {pos:Pos}
theorem ZzG (ha:PE X a ta) (hb:PE X b tb) {pins:List (Addr×Obj)} {s:Shared} {σ:St} {H:Hp} {R:V→V→Hp→Prop} (I:Inv X pins σ H s)
  (h:ta σ H fun x H1=>tb σ H1 fun y H2=>R x y H2) {Q:Value→Shared→Prop} {f:Value→Value→Sem Value}
  (hf:∀ v u s2 x y H2,Inv X pins σ H2 s2→RelV x v→RelV y u→R x y H2→wpAny (model X.prog X.w) X.A (f v u) Q X.xe s2) :
  wpAny (model X.prog X.w) X.A (eval a X.env) (fun v s₁=>wpAny (model X.prog X.w) X.A (eval b X.env) (fun u s₂=>wpAny (model X.prog X.w) X.A (f v u) Q X.xe s₂) X.xe s₁) X.xe s:=by
 refine thn (ha pins s σ H _ I h) fun v s1 zz37=>?_
 obtain ⟨x,H1,I1,r1,q1⟩:=zz37
 refine thn (hb pins s1 σ H1 _ I1 q1) fun u s2 zz38=>?_
 obtain ⟨y,H2,I2,r2,q2⟩:=zz38
 exact hf v u s2 x y H2 I2 r1 r2 q2
theorem ZAF {op:Operator} {r:R2} (ho:OpR X (binaryOp op) r) (ha:PE X a ta) (hb:PE X b tb):PE X (.BinOp a op b pos) (tOp r ta tb):=by
 intro pins s σ H Q I h
 exact wpAny_BinOp (ZzG ha hb I h fun v u s2 x y H2 I2 rx ry q=>ho pins s2 σ H2 x y v u Q I2 rx ry q)
theorem opI {f:Value→Value→Sem Value} {C:Int→Int→Prop} {g:Int→Int→Int}
  (rule:∀ (i j:Int) (t u:Tok) (s:Shared) (Q:Value→Shared→Prop) (E:Value→Shared→Prop),C i j→Q (.int (g i j) s.toks) { s with toks:=s.toks+1 }→wpAny (model X.prog X.w) X.A (f (.int i t) (.int j u)) Q E s) :
  OpR X f (rI C fun i j=>.int (g i j)):=by
 walk_at "pb"
 obtain ⟨i,j,rfl,rfl,hc,q⟩:=h
 obtain ⟨t,rfl⟩:=rx
 obtain ⟨t',rfl⟩:=ry
 exact rule i j t t' s _ _ hc ⟨.int (g i j),H,I.tok _,⟨_,rfl⟩,q⟩
theorem ZA4 {f:Value→Value→Sem Value} {g:Int→Int→Int}
  (rule:∀ (i j:Int) (t u:Tok) (s:Shared) (Q:Value→Shared→Prop) (E:Value→Shared→Prop),Q (.int (g i j) s.toks) { s with toks:=s.toks+1 }→wpAny (model X.prog X.w) X.A (f (.int i t) (.int j u)) Q E s) :
  OpR X f (rI0 fun i j=>.int (g i j)):=by
 walk_at "pb"
 obtain ⟨i,j,rfl,rfl,q⟩:=h
 obtain ⟨t,rfl⟩:=rx
 obtain ⟨t',rfl⟩:=ry
 exact rule i j t t' s _ _ ⟨.int (g i j),H,I.tok _,⟨_,rfl⟩,q⟩
theorem Zzu {f:Value→Value→Sem Value} {g:Int→Int→Bool}
  (rule:∀ (i j:Int) (t u:Tok) (s:Shared) (Q:Value→Shared→Prop) (E:Value→Shared→Prop),Q (.bool (g i j)) s→wpAny (model X.prog X.w) X.A (f (.int i t) (.int j u)) Q E s) :
  OpR X f (rI0 fun i j=>.bl (g i j)):=by
 walk_at "pb"
 obtain ⟨i,j,rfl,rfl,q⟩:=h
 obtain ⟨t,rfl⟩:=rx
 obtain ⟨t',rfl⟩:=ry
 exact rule i j t t' s _ _ ⟨.bl (g i j),H,I,rfl,q⟩
def ZzD (i j:Int):Prop:=0 < j∧j < 1073741824
def Zyr (i j:Int):Prop:=0≤j∧j≤1000000∧i.natAbs < 2 ^ 64
def CMul (i j:Int):Prop:=(-(2 ^ 64) < i∧i < 2 ^ 64)∨(-(2 ^ 64) < j∧j < 2 ^ 64)
theorem CMul.ok {i j:Int} (h:CMul i j):IntMulOk i j:=by
 rcases h with ⟨h1,h2⟩ | ⟨h1,h2⟩
 ·exact .of_left (intBits_le_64 h1 h2)
 ·exact .of_right (intBits_le_64 h1 h2)
theorem Zxg:OpR X (binaryOp .Add) (rI0 fun i j=>.int (i+j)):=ZA4 fun _ _ _ _ _ _ _ q=>add_int q
theorem Zyp:OpR X (binaryOp .Mult) (rI CMul fun i j=>.int (i*j)):=opI fun _ _ _ _ _ _ _ hc q=>mul_int q hc.ok
theorem Zwu:OpR X (binaryOp .FloorDiv) (rI ZzD fun i j=>.int (i / j)):=opI fun i j _ _ _ _ _ hc q=>by
 have h1:(0:Int) < j:=hc.1
 have h2:j < 1073741824:=hc.2
 exact floordiv_int (by omega) (by rw [Int.fdiv_eq_ediv_of_nonneg i (by omega)];exact q) (.inl (PyProof.noPylong_small (by omega)))
theorem Zya:OpR X (binaryOp .Mod) (rI (fun _ j=>0 < j) fun i j=>.int (i % j)):=opI fun i j _ _ _ _ _ hc q=>by
 have h1:(0:Int) < j:=hc
 exact mod_int' (by omega) (by rw [Int.fmod_eq_emod_of_nonneg i (by omega)];exact q)
theorem Zzm:OpR X (binaryOp .Pow) (rI Zyr fun i j=>.int (i ^ j.toNat)):=opI fun _ _ _ _ _ _ _ hc q=>pow_int_small hc.1 hc.2.1 hc.2.2 q
theorem ZvJ:OpR X (inplaceOp .Add) (rI0 fun i j=>.int (i+j)):=ZA4 fun _ _ _ _ _ _ _ q=>iadd_int q
end
def Zwn:V→V→Bool
 | .non,.non=>true | .non,.int _=>true | .int _,.non=>true | .non,.bl _=>true | .bl _,.non=>true | .non,.str _=>true | .str _,.non=>true
 | .int _,.int _=>true | .bl _,.bl _=>true | .str _,.str _=>true | .byt _,.byt _=>true
 | .int _,.str _=>true | .str _,.int _=>true | .bl _,.str _=>true | .str _,.bl _=>true
 | _,_=>false
def rEq:R2:=fun x y H Q=>Zwn x y=true∧Q (.bl (decide (x=y))) H
def rNe:R2:=fun x y H Q=>Zwn x y=true∧Q (.bl (!decide (x=y))) H
theorem Zoj {i j:Int}:decide (V.int i=V.int j)=(i==j):=by
 rw [Bool.eq_iff_iff]
 simp
theorem ZqT {i j:Bool}:decide (V.bl i=V.bl j)=(i==j):=by
 rw [Bool.eq_iff_iff]
 simp
theorem Zof {i j:Str}:decide (V.str i=V.str j)=(i==j):=by
 rw [Bool.eq_iff_iff]
 simp
theorem ZqG {i j:Array UInt8}:decide (V.byt i=V.byt j)=(i.toList==j.toList):=by
 rw [Bool.eq_iff_iff]
 cases i
 cases j
 simp
section
variable {X:Cx} {a b c:Expr} {ta tb tc:TE} {pos:Pos}
theorem Za8 {pins:List (Addr×Obj)} {σ:St} {H:Hp} {s:Shared} {Q:VK} {k k':Bool} (I:Inv X pins σ H s) (q:Q (.bl k) H) (e:k=k'):EP X pins σ Q (.bool k') s:=by
 subst e
 exact ⟨.bl k,H,I,rfl,q⟩
theorem ZzH:OpR X (compareOp .Eq) rEq:=by
 walk_at "pb"
 obtain ⟨hs,q⟩:=h
 cases x with
 | non =>
  cases rx
  cases y with
  | non=>cases ry;exact PySem.EqNone.eq_none_none (Za8 I q (by simp))
  | bl j=>cases ry;exact PySem.EqNone.eq_none_bool (Za8 I q (by simp))
  | int j=>obtain ⟨t',rfl⟩:=ry;exact PySem.EqNone.eq_none_int (Za8 I q (by simp))
  | str j=>obtain ⟨t',rfl⟩:=ry;exact PySem.EqNone.eq_none_str (Za8 I q (by simp))
  | _=>exact absurd (show false=true from hs) Bool.false_ne_true
 | bl i =>
  cases rx
  cases y with
  | non=>cases ry;exact PySem.EqNone.eq_bool_none (Za8 I q (by simp))
  | bl j=>cases ry;exact eq_bool (Za8 I q ZqT)
  | str j=>obtain ⟨t',rfl⟩:=ry;exact PySem.EqMixed.eq_bool_str (Za8 I q (by simp))
  | _=>exact absurd (show false=true from hs) Bool.false_ne_true
 | int i =>
  obtain ⟨t,rfl⟩:=rx
  cases y with
  | non=>cases ry;exact PySem.EqNone.eq_int_none (Za8 I q (by simp))
  | int j=>obtain ⟨t',rfl⟩:=ry;exact eq_int (Za8 I q Zoj)
  | str j=>obtain ⟨t',rfl⟩:=ry;exact PySem.EqMixed.eq_int_str (Za8 I q (by simp))
  | _=>exact absurd (show false=true from hs) Bool.false_ne_true
 | str i =>
  obtain ⟨t,rfl⟩:=rx
  cases y with
  | non=>cases ry;exact PySem.EqNone.eq_str_none (Za8 I q (by simp))
  | bl j=>cases ry;exact PySem.EqMixed.eq_str_bool (Za8 I q (by simp))
  | int j=>obtain ⟨t',rfl⟩:=ry;exact PySem.EqMixed.eq_str_int (Za8 I q (by simp))
  | str j=>obtain ⟨t',rfl⟩:=ry;exact eq_str (Za8 I q Zof)
  | _=>exact absurd (show false=true from hs) Bool.false_ne_true
 | byt i =>
  obtain ⟨t,rfl⟩:=rx
  cases y with
  | byt j=>obtain ⟨t',rfl⟩:=ry;exact PySem.W.eq_bytes (Za8 I q ZqG)
  | _=>exact absurd (show false=true from hs) Bool.false_ne_true
 | _=>cases y <;> exact absurd (show false=true from hs) Bool.false_ne_true
theorem ZzM:OpR X (compareOp .NotEq) rNe:=by
 walk_at "pb"
 obtain ⟨hs,q⟩:=h
 cases x with
 | non =>
  cases rx
  cases y with
  | non=>cases ry;exact PySem.EqNone.ne_none_none (Za8 I q (by simp))
  | bl j=>cases ry;exact PySem.EqNone.ne_none_bool (Za8 I q (by simp))
  | int j=>obtain ⟨t',rfl⟩:=ry;exact PySem.EqNone.ne_none_int (Za8 I q (by simp))
  | str j=>obtain ⟨t',rfl⟩:=ry;exact PySem.EqNone.ne_none_str (Za8 I q (by simp))
  | _=>exact absurd (show false=true from hs) Bool.false_ne_true
 | bl i =>
  cases rx
  cases y with
  | non=>cases ry;exact PySem.EqNone.ne_bool_none (Za8 I q (by simp))
  | bl j=>cases ry;exact ne_bool (Za8 I q (congrArg not ZqT))
  | str j=>obtain ⟨t',rfl⟩:=ry;exact PySem.EqMixed.ne_bool_str (Za8 I q (by simp))
  | _=>exact absurd (show false=true from hs) Bool.false_ne_true
 | int i =>
  obtain ⟨t,rfl⟩:=rx
  cases y with
  | non=>cases ry;exact PySem.EqNone.ne_int_none (Za8 I q (by simp))
  | int j=>obtain ⟨t',rfl⟩:=ry;exact ne_int (Za8 I q (congrArg not Zoj))
  | str j=>obtain ⟨t',rfl⟩:=ry;exact PySem.EqMixed.ne_int_str (Za8 I q (by simp))
  | _=>exact absurd (show false=true from hs) Bool.false_ne_true
 | str i =>
  obtain ⟨t,rfl⟩:=rx
  cases y with
  | non=>cases ry;exact PySem.EqNone.ne_str_none (Za8 I q (by simp))
  | bl j=>cases ry;exact PySem.EqMixed.ne_str_bool (Za8 I q (by simp))
  | int j=>obtain ⟨t',rfl⟩:=ry;exact PySem.EqMixed.ne_str_int (Za8 I q (by simp))
  | str j=>obtain ⟨t',rfl⟩:=ry;exact ne_str (Za8 I q (congrArg not Zof))
  | _=>exact absurd (show false=true from hs) Bool.false_ne_true
 | byt i =>
  obtain ⟨t,rfl⟩:=rx
  cases y with
  | byt j=>obtain ⟨t',rfl⟩:=ry;exact PySem.W.ne_bytes (Za8 I q (congrArg not ZqG))
  | _=>exact absurd (show false=true from hs) Bool.false_ne_true
 | _=>cases y <;> exact absurd (show false=true from hs) Bool.false_ne_true
theorem ZzL:OpR X (compareOp .Lt) (rI0 fun i j=>.bl (decide (i < j))):=Zzu fun _ _ _ _ _ _ _ q=>lt_int q
theorem ZzZ:OpR X (compareOp .LtE) (rI0 fun i j=>.bl (decide (i≤j))):=Zzu fun _ _ _ _ _ _ _ q=>le_int q
theorem ZzT:OpR X (compareOp .Gt) (rI0 fun i j=>.bl (decide (j < i))):=Zzu fun _ _ _ _ _ _ _ q=>gt_int q
theorem ZAD:OpR X (compareOp .GtE) (rI0 fun i j=>.bl (decide (j≤i))):=Zzu fun _ _ _ _ _ _ _ q=>ge_int q
theorem ZrC:OpR X (compareOp .Lt) (fun x y H Q=>∃ i j,x=.str i∧y=.str j∧Q (.bl (decide (i.cps.toList < j.cps.toList))) H):=by
 walk_at "pb"
 obtain ⟨i,j,rfl,rfl,q⟩:=h
 obtain ⟨t,rfl⟩:=rx
 obtain ⟨t',rfl⟩:=ry
 exact lt_str (Za8 I q rfl)
theorem Zzo:OpR X (compareOp .Is) (fun x y H Q=>y=.non∧Q (.bl (decide (x=.non))) H):=by
 walk_at "pb"
 obtain ⟨rfl,q⟩:=h
 cases ry
 refine is_none_gen (Za8 I q ?_)
 cases x <;> first
  | (cases rx;rfl)
  | (obtain ⟨t,rfl⟩:=rx;rfl)
theorem Zvj:OpR X (compareOp .IsNot) (fun x y H Q=>y=.non∧Q (.bl (!decide (x=.non))) H):=by
 walk_at "pb"
 obtain ⟨rfl,q⟩:=h
 cases ry
 refine isnot_none_gen (Za8 I q ?_)
 cases x <;> first
  | (cases rx;rfl)
  | (obtain ⟨t,rfl⟩:=rx;rfl)
theorem OpR.or {f:Value→Value→Sem Value} {r r':R2} (h:OpR X f r) (h':OpR X f r'):OpR X f (fun x y H Q=>r x y H Q∨r' x y H Q):=by
 intro pins s σ H x y v u Q I rx ry q
 rcases q with q | q
 ·exact h pins s σ H x y v u Q I rx ry q
 ·exact h' pins s σ H x y v u Q I rx ry q
theorem ZAX (b:Expr) {op:CmpOp} (h:op≠.In:=by decide) (h2:op≠.NotIn:=by decide):behindInMarks op b=false:=by
 have e1:(op==CmpOp.In)=false:=by cases op <;> first | rfl | exact absurd rfl h
 have e2:(op==CmpOp.NotIn)=false:=by cases op <;> first | rfl | exact absurd rfl h2
 cases b <;> simp [behindInMarks,e1,e2]
theorem Zvw {op:CmpOp} {r:R2} (ho:OpR X (compareOp op) r) (ha:PE X a ta) (hb:PE X b tb) (hm:behindInMarks op b=false):PE X (.Compare a [op] [b] pos) (tOp r ta tb):=by
 intro pins s σ H Q I h
 exact wpAny_Compare1 (ZzG ha hb I h fun v u s2 x y H2 I2 rx ry q=>ho pins s2 σ H2 x y v u Q I2 rx ry q) hm
def ZyP (t:TE):TT:=fun σ H Q=>t σ H fun x H'=>∃ k,x=.bl k∧Q k H'
theorem ZvL {op:CmpOp} {r:R2} (ho:OpR X (compareOp op) r) (ha:PE X a ta) (hb:PE X b tb) (hm:behindInMarks op b=false):PT X (.Compare a [op] [b] pos) (ZyP (tOp r ta tb)):=by
 intro pins s σ H Q I h
 refine wpAny_isTrue_Compare1 (thn (ha pins s σ H _ I h) fun v s1 ⟨x,H1,I1,r1,q1⟩=>thn (hb pins s1 σ H1 _ I1 q1) fun u s2 ⟨y,H2,I2,r2,q2⟩ =>
  thn (ho pins s2 σ H2 x y v u _ I2 r1 r2 q2) fun c s3 ⟨z,H3,I3,r3,k,e,q3⟩=>?_) hm
 subst e
 cases r3
 exact wpAny_truthy_bool ⟨H3,I3,q3⟩
def Zqx (r r':R2) (ta tb tc:TE):TE:=fun σ H Q=>ta σ H fun x H1=>tb σ H1 fun y H2=>r x y H2 fun z H3=>∃ k,z=.bl k ∧
 (if k=true then tc σ H3 fun w' H4=>r' y w' H4 Q else Q (.bl false) H3)
theorem Zty {op op':CmpOp} {r r':R2} (ho:OpR X (compareOp op) r) (ho':OpR X (compareOp op') r') (ha:PE X a ta) (hb:PE X b tb) (hc:PE X c tc)
  (hm:lastMarks [op,op'] [b,c]=false:=by with_unfolding_all rfl):PE X (.Compare a [op,op'] [b,c] pos) (Zqx r r' ta tb tc):=by
 intro pins s σ H Q I h
 refine Compare_chain (thn (ha pins s σ H _ I h) fun v s1 ⟨x,H1,I1,r1,q1⟩=>chain_link (thn (hb pins s1 σ H1 _ I1 q1) fun u s2 ⟨y,H2,I2,r2,q2⟩ =>
  thn (ho pins s2 σ H2 x y v u _ I2 r1 r2 q2) fun d s3 ⟨z,H3,I3,r3,k,e,q3⟩=>?_)) hm
 subst e
 cases r3
 refine wpAny_truthy_bool ?_
 cases k with
 | false=>exact ite_ff ⟨.bl false,H3,I3,rfl,q3⟩
 | true=>exact ite_tt (chain_last (thn (hc pins s3 σ H3 _ I3 q3) (by rintro w' s4 ⟨z',H4,I4,r4,q4⟩;exact ho' pins s4 σ H4 y z' u w' Q I4 r2 r4 q4)))
theorem Ztg {op op':CmpOp} {r r':R2} (ho:OpR X (compareOp op) r) (ho':OpR X (compareOp op') r') (ha:PE X a ta) (hb:PE X b tb) (hc:PE X c tc)
  (hm:lastMarks [op,op'] [b,c]=false:=by with_unfolding_all rfl):PT X (.Compare a [op,op'] [b,c] pos) (ZyP (Zqx r r' ta tb tc)):=by
 intro pins s σ H Q I h
 refine isTrue_chain (thn (ha pins s σ H _ I h) fun v s1 ⟨x,H1,I1,r1,q1⟩=>test_link (thn (hb pins s1 σ H1 _ I1 q1) fun u s2 ⟨y,H2,I2,r2,q2⟩ =>
  thn (ho pins s2 σ H2 x y v u _ I2 r1 r2 q2) fun d s3 ⟨z,H3,I3,r3,k,e,q3⟩=>?_)) hm
 subst e
 cases r3
 refine wpAny_truthy_bool ?_
 cases k with
 | false =>
  obtain ⟨k',e',q'⟩:=q3
  cases e'
  exact ite_ff ⟨H3,I3,q'⟩
 | true =>
  refine ite_tt (test_last (thn (hc pins s3 σ H3 _ I3 q3) fun w' s4 ⟨z',H4,I4,r4,q4⟩=>thn (ho' pins s4 σ H4 y z' u w' _ I4 r2 r4 q4) fun d' s5 ⟨z2,H5,I5,r5,k2,e2,q5⟩=>?_))
  subst e2
  cases r5
  exact wpAny_truthy_bool ⟨H5,I5,q5⟩
def ZAu (K:PySem.W.Frag) (x:V) (H:Hp) (k:Bool):Prop :=
 match x with
 | .non=>k=false
 | .bl b=>k=b
 | .int i=>k=(i != 0)
 | .str y=>y.length≤sizeLine∧k=((y.length:Int) != 0)
 | .byt y=>y.size≤sizeLine∧k=((y.size:Int) != 0)
 | .ref p=>(∃ xs,SqL K H p xs∧k=!xs.isEmpty)∨(∃ xs,SqT K H p xs∧k=!xs.isEmpty)∨∃ kvs,H p=some (.dK kvs)∧k=!kvs.isEmpty
 | _=>False
theorem Zpy {κ:Type} {kvs:List (κ×V)} {vs:List (κ×Value)} (r:KV kvs vs):(!vs.isEmpty)=!kvs.isEmpty:=by
 cases r <;> rfl
theorem ZkK {xs:List V} {its:List Value} (r:Vals xs its):(!its.toArray.isEmpty)=!xs.isEmpty:=by
 cases r <;> simp
theorem ZkP:(sizeLine:Nat) < 2 ^ 63:=by rw [sizeLine_eq];decide
theorem Zxm:ZBC X (fun x H Q=>∃ k,ZAu X.K x H k∧Q k H):=by
 intro pins s σ H x v Q I rx h
 obtain ⟨k,e,q⟩:=h
 have hl:=ZkP
 have hs:sizeLine=16777216:=sizeLine_eq
 cases x with
 | non =>
  cases rx
  have e':k=false:=e
  subst e'
  exact truthy_none ⟨H,I,q⟩
 | bl b =>
  cases rx
  have e':k=b:=e
  subst e'
  exact wpAny_truthy_bool ⟨H,I,q⟩
 | int i =>
  obtain ⟨t,rfl⟩:=rx
  have e':k=(i != 0):=e
  subst e'
  exact PySem.P.truthy_int ⟨H,I,q⟩
 | str y =>
  obtain ⟨t,rfl⟩:=rx
  obtain ⟨hy,e'⟩:y.length≤sizeLine∧k=((y.length:Int) != 0):=e
  subst e'
  exact PySem.P.truthy_str (by omega) ⟨H,I.tok _,q⟩
 | byt y =>
  obtain ⟨t,rfl⟩:=rx
  obtain ⟨hy,e'⟩:y.size≤sizeLine∧k=((y.size:Int) != 0):=e
  subst e'
  exact PySem.W.truthy_bytes (by omega) ⟨H,I.tok _,q⟩
 | ref p =>
  cases rx
  have e':(∃ xs,SqL X.K H p xs∧k=!xs.isEmpty)∨(∃ xs,SqT X.K H p xs∧k=!xs.isEmpty)∨∃ kvs,H p=some (.dK kvs)∧k=!kvs.isEmpty:=e
  rcases e' with ⟨xs,hx,e'⟩ | ⟨xs,hx,e'⟩ | ⟨kvs,hx,e'⟩
  ·subst e'
   obtain ⟨its,r,pl,hz⟩:=I.list hx
   have hlen:=r.length
   exact wpAny_truthy_list pl.isList (by simp only [List.size_toArray];omega) ⟨H,I.tok _,by rw [ZkK r];exact q⟩
  ·subst e'
   obtain ⟨its,r,pl,hz⟩:=I.tuple hx
   have hlen:=r.length
   exact truthy_tuple pl (by simp only [List.size_toArray];omega) ⟨H,I.tok _,by rw [ZkK r];exact q⟩
  ·subst e'
   obtain ⟨hz,hS,vs,r,m⟩:kvs.length≤sizeLine∧(p==sysModules)=false∧∃ vs,KV kvs vs∧s.heap.DictOf (ZnM X.prog X.w) p vs:=I.hok p _ hx
   have hlen:kvs.length=vs.length:=Paired.length r
   exact wpAny_truthy_dict hS m (by omega) ⟨H,I.tok _,by rw [Zpy r];exact q⟩
 | _=>exact (show False from e).elim
theorem Zto (ha:PE X a ta) (he:∀ whole,isTrue a X.env whole=(do let v ← whole;standAt a.pos;holding [v] (truthy v))) :
  PT X a (fun σ H Q=>ta σ H fun x H'=>∃ k,ZAu X.K x H' k∧Q k H'):=by
 intro pins s σ H Q I h
 exact isTrue_plain (thn (ha pins s σ H _ I h) (by rintro v s1 ⟨x,H1,I1,r1,q1⟩;exact Zxm pins s1 σ H1 x v Q I1 r1 q1)) (he _)
theorem Zp7:OpR X (binaryOp .Add) (fun x y H Q=>∃ i j,x=.str i∧y=.str j∧i.length+j.length≤sizeLine∧Q (.str (i++j)) H):=by
 walk_at "pb"
 obtain ⟨i,j,rfl,rfl,hz,q⟩:=h
 obtain ⟨t,rfl⟩:=rx
 obtain ⟨t',rfl⟩:=ry
 exact add_str (fun t' tk=>⟨.str (i++j),H,I.tok _,⟨_,rfl⟩,q⟩) hz
theorem ZnQ:OpR X (inplaceOp .Add) (fun x y H Q=>∃ i j,x=.str i∧y=.str j∧i.length+j.length≤sizeLine∧Q (.str (i++j)) H):=by
 walk_at "pb"
 obtain ⟨i,j,rfl,rfl,hz,q⟩:=h
 obtain ⟨t,rfl⟩:=rx
 obtain ⟨t',rfl⟩:=ry
 exact iadd_str (fun t' tk=>⟨.str (i++j),H,I.tok _,⟨_,rfl⟩,q⟩) hz
theorem Zoi {x:V} {us:List Value} (r:Vals [x] us):∃ u,us=[u]∧RelV x u:=by
 cases r with
 | cons r1 r2=>cases r2;exact ⟨_,rfl,r1⟩
theorem Zvx {x y:V} {us:List Value} (r:Vals [x,y] us):∃ u w',us=[u,w']∧RelV x u∧RelV y w':=by
 cases r with
 | cons r1 r2 =>
  cases r2 with
  | cons r3 r4=>cases r4;exact ⟨_,_,rfl,r1,r3⟩
theorem Zr4:CallR X (.type "int") (fun xs H Q=>(∃ i,xs=[.int i]∧Q (.int i) H)∨∃ k,xs=[.bl k]∧Q (.int (if k then 1 else 0)) H):=by
 intro pins s σ H xs us Q I r h
 rcases h with ⟨i,rfl,q⟩ | ⟨k,rfl,q⟩
 ·obtain ⟨u,rfl,t,rfl⟩:=Zoi r
  exact call_int_int ⟨.int i,H,I,⟨_,rfl⟩,q⟩
 ·obtain ⟨u,rfl,r1⟩:=Zoi r
  cases r1
  exact call_int_bool ⟨.int (if k then 1 else 0),H,I.tok _,⟨_,rfl⟩,q⟩
def ZA0 (K:PySem.W.Frag) (x:V) (H:Hp) (n:Nat):Prop :=
 match x with
 | .str y=>y.length≤sizeLine∧n=y.length
 | .byt y=>y.size≤sizeLine∧n=y.size
 | .ref p=>(∃ xs,SqL K H p xs∧n=xs.length)∨∃ xs,SqT K H p xs∧n=xs.length
 | _=>False
theorem Ztt:CallR X (.builtin "len") (fun xs H Q=>∃ x n,xs=[x]∧ZA0 X.K x H n∧Q (.int n) H):=by
 intro pins s σ H xs us Q I r h
 obtain ⟨x,n,rfl,e,q⟩:=h
 obtain ⟨u,rfl,rx⟩:=Zoi r
 have hl:=ZkP
 have hs:sizeLine=16777216:=sizeLine_eq
 cases x with
 | str y =>
  obtain ⟨t,rfl⟩:=rx
  obtain ⟨hy,e'⟩:y.length≤sizeLine∧n=y.length:=e
  subst e'
  exact len_str (by omega) ⟨.int _,H,I.tok _,⟨_,rfl⟩,q⟩
 | byt y =>
  obtain ⟨t,rfl⟩:=rx
  obtain ⟨hy,e'⟩:y.size≤sizeLine∧n=y.size:=e
  subst e'
  exact PySem.W.len_bytes (by omega) ⟨.int _,H,I.tok _,⟨_,rfl⟩,q⟩
 | ref p =>
  cases rx
  have e':(∃ xs,SqL X.K H p xs∧n=xs.length)∨∃ xs,SqT X.K H p xs∧n=xs.length:=e
  rcases e' with ⟨xs,hx,e'⟩ | ⟨xs,hx,e'⟩
  ·subst e'
   obtain ⟨its,r',pl,hz⟩:=I.list hx
   have hlen:=r'.length
   exact Calls.call_len_list pl.isList (by simp only [List.size_toArray];omega) ⟨.int xs.length,H,I.tok _,⟨_,by simp only [List.size_toArray];rw [hlen]⟩,q⟩
  ·subst e'
   obtain ⟨its,r',pl,hz⟩:=I.tuple hx
   have hlen:=r'.length
   exact len_tuple pl (by simp only [List.size_toArray];omega) ⟨.int xs.length,H,I.tok _,⟨_,by simp only [List.size_toArray];rw [hlen]⟩,q⟩
 | _=>exact (show False from e).elim
end
section
variable {prog:Program} {w:World} {A:Around} {E:Value→Shared→Prop} {s:Shared} {K:PySem.W.Frag} {x dx C f:Addr} {mA:Str→Option Value} {name:Str} {v:Value}
end
section
variable {P:Program} {w:World} {H H':Hp} {h h':Heap} {a C dx:Addr} {fs fs':List (Str×V)}
end
structure Cls (K:PySem.W.Frag) (C:Addr):Prop where
 pg:PySem.W.plainGet K C Str.empty=true
 hd:PySem.W.hasDictIn K C=true
 po:PySem.W.plainOver K C=true
 sa:PySem.W.findIn K (.ref C) "__setattr__"=some (some (.builtin "object.__setattr__"))
theorem Cls.get {K:PySem.W.Frag} {C:Addr} (c:Cls K C) (f:Str):PySem.W.plainGet K C f=true:=c.pg
structure ZBy (K:PySem.W.Frag) (C:Addr) (m:Str) (f:Addr):Prop where
 at_:PySem.W.findIn K (.ref C) m=some (some (.ref f))
 fn:PySem.W.isFn K (.ref f)=true
 kp:PySem.W.keepIn K (.ref f)=true
section
variable {X:Cx} {pins:List (Addr×Obj)} {σ:St} {H:Hp} {s:Shared} {a C dx:Addr} {fs:List (Str×V)} {f:Str} {v:V} {A:Around} {E:Value→Shared→Prop}
theorem Inv.made (I:Inv X pins σ H s):Inv X pins σ (upd (upd H s.heap.objs.size (.own (s.heap.objs.size+1))) (s.heap.objs.size+1) (.ins C s.heap.objs.size []))
  { s with heap:=(s.heap.push PySem.W.emptyDict).push (PySem.W.instObj C s.heap.objs.size) }:=by
 have e1:(s.heap.push PySem.W.emptyDict).get? s.heap.objs.size=some PySem.W.emptyDict:=Heap.get?_push_size s.heap rfl
 have e2:((s.heap.push PySem.W.emptyDict).push (PySem.W.instObj C s.heap.objs.size)).get? (s.heap.objs.size+1)=some (PySem.W.instObj C s.heap.objs.size):=by
  have:=Heap.get?_push_size (s.heap.push PySem.W.emptyDict) (o:=PySem.W.instObj C s.heap.objs.size) rfl
  rwa [Heap.size_push] at this
 have e3:(s.heap.push PySem.W.emptyDict).Ns s.heap.objs.size (fun _=>none):=⟨PySem.W.emptyDict,#[],_,e1,rfl,(fun e he=>absurd he (by simp)),fun _=>rfl⟩
 have I1:=I.laid (a:=s.heap.objs.size) (o:=.own (s.heap.objs.size+1)) (h':=s.heap.push PySem.W.emptyDict) (t':=s.toks) (fun b u q=>Heap.get?_push_of_some _ q) (Nat.le_refl _) ⟨_,e1⟩
 refine I1.laid (a:=s.heap.objs.size+1) (o:=.ins C s.heap.objs.size []) (t':=s.toks) (fun b u q=>Heap.get?_push_of_some _ q) (Nat.le_of_eq (Heap.size_push _ _)) ?_
 have ne:s.heap.objs.size≠s.heap.objs.size+1:=Nat.ne_of_lt (Nat.lt_succ_self _)
 refine ⟨by rw [Za7 ne,ZbP],Nat.zero_le _,ne,e2,fun _=>none,(Heap.Ns1.of_empty e3).at fun o q=>Heap.get?_push_of_some _ q,fun _=>True.intro,fun y hy=>absurd rfl hy⟩
end
section
variable {X:Cx} {o e value:Expr} {f:Str} {pos pos' tpos:Pos} {ta tv:TE}
def ZgF:V→V→Hp→VK→Prop:=fun x y H Q=>∃ i j,x=.int i∧y=.int j∧Q (.int (i+j)) H
end
section
variable {X:Cx} {pins:List (Addr×Obj)} {σ:St} {H:Hp} {s:Shared} {A:Around} {E:Value→Shared→Prop} {Q:Value→Shared→Prop} {c:Value} {b:Bool}
end
structure Room (k:Nat) (A:Around):Prop where
 hd:A.handled=none
 dp:A.depth+3*k+5 < recursionLimit
 un:A.units+16*k+200 < cLine
theorem Room.mono {j k:Nat} {A:Around} (r:Room k A) (h:j≤k):Room j A:=⟨r.hd,by have:=r.dp;omega,by have:=r.un;omega⟩
theorem Room.deeper {k:Nat} {A:Around} (r:Room (k+1) A) (env:Env):Room k (A.deeper env) :=
 ⟨r.hd,by have:=r.dp;show A.depth+1+3*k+5 < _;omega,by have:=r.un;show A.units+3+16*k+200 < _;omega⟩
theorem Room.in1 {k:Nat} {A:Around} (r:Room (k+1) A):Room k A.in1 :=
 ⟨r.hd,by have:=r.dp;show A.depth+3*k+5 < _;omega,by have:=r.un;show A.units+1+16*k+200 < _;omega⟩
theorem Room.depth {k:Nat} {A:Around} (r:Room k A):A.depth < recursionLimit:=by have:=r.dp;omega
theorem Room.units {k:Nat} {A:Around} (r:Room k A):A.units+64 < cLine:=by have:=r.un;omega
def ZzQ:TA:=fun _ H Q=>Q [] H
def ZtN (ta:TE) (tr:TA):TA:=fun σ H Q=>ta σ H fun x H1=>tr σ H1 fun xs H2=>Q (x::xs) H2
section
variable {X:Cx} {e:Expr} {es:List Expr} {te:TE} {t:TA} {pos:Pos}
theorem Zrp:PA X [] ZzQ:=fun _ _ _ _ H Q I h=>Calls.spliced_nil ⟨[],H,I,.nil,h⟩
theorem ZlW (ha:PE X e te) (hr:PA X es t) (hs:starEach (e::es) X.env=(false,eval e X.env)::starEach es X.env:=by rfl):PA X (e::es) (ZtN te t):=by
 intro pos pins s σ H Q I h
 rw [hs]
 show wpAny _ _ (spliced ((false,eval e X.env)::backTo pos (starEach es X.env))) _ _ s
 refine Calls.spliced_cons (thn (ha pins s σ H _ I h) fun u s1 zz43=>?_)
 obtain ⟨x,H1,I1,r1,q1⟩:=zz43
 exact thn (hr pos pins s1 σ H1 _ I1 q1) (by rintro us s2 ⟨xs,H2,I2,r2,q2⟩;exact ⟨x::xs,H2,I2,.cons r1 r2,q2⟩)
def ZBn (t:TA):TE:=fun σ H Q=>t σ H fun xs H1=>xs.length≤sizeLine∧∀ p,H1 p=none→Q (.ref p) (upd H1 p (.tup xs))
def ZBo (t:TA):TE:=fun σ H Q=>t σ H fun xs H1=>xs.length≤sizeLine∧∀ p,H1 p=none→Q (.ref p) (upd H1 p (.lst xs))
theorem ZyF {x1} (h:PA X es t):PE X (.Tuple es x1 pos) (ZBn t):=by
 intro pins s σ H Q I hq
 refine wpAny_Tuple_spliced (thn (h pos pins s σ H _ I hq) fun us s1 ⟨xs,H1,I1,r,z,q⟩=>⟨by rw [← r.length];exact z,?_⟩)
 have hf:H1 s1.heap.objs.size=none:=I1.hok.fresh (Nat.le_refl _)
 refine ⟨.ref s1.heap.objs.size,upd H1 s1.heap.objs.size (.tup xs),I1.laid (t':=s1.toks) (fun b u e=>Heap.get?_push_of_some _ e) (Nat.le_refl _) ?_,rfl,q _ hf⟩
 exact ⟨z,us,r,⟨_,Heap.get?_push_size _ rfl,rfl,_,rfl⟩⟩
theorem Zxe (h:PA X es t):PE X (.List es pos) (ZBo t):=by
 intro pins s σ H Q I hq
 refine wpAny_List_spliced (thn (h pos pins s σ H _ I hq) fun us s1 ⟨xs,H1,I1,r,z,q⟩=>⟨by rw [← r.length];exact z,?_⟩)
 have hf:H1 s1.heap.objs.size=none:=I1.hok.fresh (Nat.le_refl _)
 refine ⟨.ref s1.heap.objs.size,upd H1 s1.heap.objs.size (.lst xs),I1.laid (t':=s1.toks) (fun b u e=>Heap.get?_push_of_some _ e) (Nat.le_refl _) ?_,rfl,q _ hf⟩
 exact ⟨z,us,0,r,Heap.get?_push_size _ rfl⟩
end
abbrev Sp:=List V→Hp→VK→XK→Prop
abbrev CXT:=List Env→Hp→Shared→XK→Value→Shared→Prop
structure Env0 (P:Program) (w:World) (K:PySem.W.Frag) (mg:Str→Option Value) (base:Heap) (A:Around) (outer:List Env) (s:Shared) (H:Hp):Prop where
 frames:A.frames=some outer
 mod:Mod K mg base
 bs:∀ b o,base.get? b=some o→s.heap.get? b=some o∧H b=none
 bsz:base.objs.size≤s.heap.objs.size
 funs:s.heap.FunFrames base outer
 frf:∀ b∈frs outer,H b=none
 hok:HOk P w H s.heap
 bare:AllBare s.gens
def CE (outer:List Env) (P:Program) (w:World) (H:Hp) (s:Shared) (Q:VK) (u:Value) (s':Shared):Prop :=
 ∃ v H',s'.os=s.os∧AllBare s'.gens∧Un (frs outer) [] H H' s.heap s'.heap∧HOk P w H' s'.heap∧RelV v u∧Q v H'
def CR (CX:CXT) (outer:List Env) (P:Program) (w:World) (H:Hp) (s:Shared) (Q:VK) (E:XK) (r:Result) (s':Shared):Prop :=
 match r with
 | .ok (.ret u)=>CE outer P w H s Q u s'
 | .ok _=>False
 | .error e=>CX outer H s E e s'
structure FnOk (P:Program) (w:World) (K:PySem.W.Frag) (mg:Str→Option Value) (base:Heap) (CX:CXT) (k:Nat) (f:Addr) (fd:FuncData) (ps:List Str) (sp:Sp):Prop where
 len:∀ vs H Q E,sp vs H Q E→vs.length=ps.length
 run:∀ (A:Around) (outer:List Env) (s:Shared) (H:Hp) (args:Args) (us:List Value) (vs:List V) (Q:VK) (E:XK),Room k A→Env0 P w K mg base A outer s H→BindsTo s fd args (ps.zip us)→Vals vs us→sp vs H Q E →
  codeAny (model P w) A (.call (.ref f) args) (CR CX outer P w H s Q E) s
theorem FnOk.mono {P:Program} {w:World} {K:PySem.W.Frag} {mg:Str→Option Value} {base:Heap} {CX:CXT} {j k:Nat} {f:Addr} {fd:FuncData} {ps:List Str} {sp:Sp} (F:FnOk P w K mg base CX j f fd ps sp) (h:j≤k) :
  FnOk P w K mg base CX k f fd ps sp:=⟨F.len,fun A outer s H args us vs Q E hr=>F.run A outer s H args us vs Q E (hr.mono h)⟩
theorem FnOk.imp {P:Program} {w:World} {K:PySem.W.Frag} {mg:Str→Option Value} {base:Heap} {CX:CXT} {k:Nat} {f:Addr} {fd:FuncData} {ps:List Str} {sp sp':Sp} (F:FnOk P w K mg base CX k f fd ps sp)
  (h:∀ vs H Q E,sp' vs H Q E→sp vs H Q E):FnOk P w K mg base CX k f fd ps sp' :=
 ⟨fun vs H Q E q=>F.len vs H Q E (h _ _ _ _ q),fun A outer s H args us vs Q E hr he hb hv hs=>F.run A outer s H args us vs Q E hr he hb hv (h _ _ _ _ hs)⟩
theorem Env0.in1 {P:Program} {w:World} {K:PySem.W.Frag} {mg:Str→Option Value} {base:Heap} {A:Around} {outer:List Env} {s:Shared} {H:Hp} (e:Env0 P w K mg base A outer s H) :
  Env0 P w K mg base A.in1 outer s H:=⟨e.frames,e.mod,e.bs,e.bsz,e.funs,e.frf,e.hok,e.bare⟩
section
variable {X:Cx} {pins:List (Addr×Obj)} {σ:St} {H:Hp} {s s':Shared}
theorem Inv.env0 (I:Inv X pins σ H s):Env0 X.prog X.w X.K X.mg X.base X.A X.stack s H :=
 ⟨I.ok.frames,I.ok.mod,I.bs,Nat.le_trans I.ok.bsz I.sz,I.stack,I.stkFree,I.hok,I.bare⟩
theorem Inv.after {Q:VK} {u:Value} (I:Inv X pins σ H s) (h:CE X.stack X.prog X.w H s Q u s'):EP X pins σ Q u s':=by
 obtain ⟨v,H',os,bare,un,hok,r,q⟩:=h
 obtain ⟨hh,g,d,t,os'⟩:=s'
 obtain rfl:os'=s.os:=os
 exact ⟨v,H',I.call (h':=hh) (g':=g) (d':=d) (t':=t) (ch:=[]) un hok bare (fun b z=>absurd z (by simp)),r,q⟩
end
def Binds (K:PySem.W.Frag) (fd:FuncData) (ps:List Str) (ds:List Value):Prop :=
 ∀ (s:Shared) (us:List Value),K.In s.heap→(us++ds).length=ps.length→BindsTo s fd ⟨us,[]⟩ (ps.zip (us++ds))
theorem Binds.all {K:PySem.W.Frag} {fd:FuncData} {ps:List Str} (h:∀ us:List Value,us.length=ps.length→bindArgs fd ⟨us,[]⟩=pure (ps.zip us)):Binds K fd ps []:=fun s us _ hl=>by
 rw [List.append_nil] at hl ⊢
 exact .of_eq (h us hl)
def Zxn (CX:CXT) (X:Cx) (E:XK):Prop:=∀ (pins:List (Addr×Obj)) (σ:St) (H:Hp) (s:Shared) (e:Value) (s':Shared),Inv X pins σ H s→CX X.stack H s E e s'→X.xe e s'
section
variable {X:Cx} {CX:CXT} {k:Nat} {f C:Addr} {fd:FuncData} {ps:List Str} {sp:Sp} {dvs:List V} {ds:List Value} {E:XK} {x m:Str} {p pos apos:Pos} {e o:Expr} {es:List Expr} {ta:TE} {t:TA}
end
section
variable {X:Cx} {CX:CXT} {k:Nat} {f C:Addr} {fd:FuncData} {ps ks:List Str} {sp:Sp} {E:XK} {x m:Str} {p pos apos kpos:Pos} {e o:Expr} {es:List Expr} {kws:List Keyword} {te ta:TE} {t tk:TA} {nm:Option Str}
variable {g:List Value→List Value→List Value} {gV:List V→List V→List V}
end
structure Zau (N P:List Str) (sc:Scope):Prop where
 kind:sc.kind=.function
 co:sc.isCoroutine=false
 gen:sc.isGenerator=false
 nd:N.Nodup
 pre:N.take P.length=P
 par:∀ x∈P,sc.names.lookup x=some .local∨sc.names.lookup x=some .cell
 nofree:∀ y∈sc.names,y.2≠.free
theorem ZmN {kindOf:Str→Option NameKind} {x:Str}:∀ {binds:List (Str×Value)} {m:Str→Option Value},(∀ v,(x,v)∉binds)→bindL kindOf binds m x=m x
 | [],_,_=>rfl
 | (n,v)::r,m,h=>by
  unfold bindL
  rw [ZmN fun w hw=>h w (List.mem_cons_of_mem _ hw)]
  split
  ·have:x≠n:=by rintro rfl;exact h v List.mem_cons_self
   simp [this]
  ·rfl
theorem ZmI {kindOf:Str→Option NameKind} {x:Str}:∀ {binds:List (Str×Value)} {m:Str→Option Value},(∀ v,(x,v)∉binds)→bindC kindOf binds m x=m x
 | [],_,_=>rfl
 | (n,v)::r,m,h=>by
  unfold bindC
  rw [ZmI fun w hw=>h w (List.mem_cons_of_mem _ hw)]
  split
  ·rfl
  ·have:x≠n:=by rintro rfl;exact h v List.mem_cons_self
   simp [this]
theorem Znc {kindOf:Str→Option NameKind} {x:Str} {v:Value}:∀ {P:List Str} {vs:List Value} {i:Nat} {m:Str→Option Value},P.Nodup→P[i]?=some x→vs[i]?=some v→kindOf x=some .local →
  bindL kindOf (P.zip vs) m x=some v
 | [],_,_,_,_,h,_,_=>by simp at h
 | _::_,[],_,_,_,_,h,_=>by simp at h
 | p::P,w::vs,0,m,nd,h1,h2,hk=>by
  simp at h1 h2;subst h1;subst h2
  show bindL kindOf ((p,w)::P.zip vs) m p=_
  unfold bindL
  rw [ZmN fun v hv=>(List.nodup_cons.mp nd).1 (List.of_mem_zip hv).1,if_pos hk]
  simp
 | p::P,w::vs,i+1,m,nd,h1,h2,hk=>by
  show bindL kindOf ((p,w)::P.zip vs) m x=_
  unfold bindL
  exact Znc (i:=i) (List.nodup_cons.mp nd).2 (by simpa using h1) (by simpa using h2) hk
theorem ZmK {kindOf:Str→Option NameKind} {x:Str} {v:Value}:∀ {P:List Str} {vs:List Value} {i:Nat} {m:Str→Option Value},P.Nodup→P[i]?=some x→vs[i]?=some v→kindOf x≠some .local →
  bindC kindOf (P.zip vs) m x=some v
 | [],_,_,_,_,h,_,_=>by simp at h
 | _::_,[],_,_,_,_,h,_=>by simp at h
 | p::P,w::vs,0,m,nd,h1,h2,hk=>by
  simp at h1 h2;subst h1;subst h2
  show bindC kindOf ((p,w)::P.zip vs) m p=_
  unfold bindC
  rw [ZmI fun v hv=>(List.nodup_cons.mp nd).1 (List.of_mem_zip hv).1,if_neg hk]
  simp
 | p::P,w::vs,i+1,m,nd,h1,h2,hk=>by
  show bindC kindOf ((p,w)::P.zip vs) m x=_
  unfold bindC
  exact ZmK (i:=i) (List.nodup_cons.mp nd).2 (by simpa using h1) (by simpa using h2) hk
def Zjs (N:List Str) (vs:List V):St:=vs.map some++List.replicate (N.length - vs.length) none
def Zi0 (CX:CXT) (P:Program) (w:World) (K:PySem.W.Frag) (mg:Str→Option Value) (base:Heap) (N:List Str) (qual:Str) (scope:Scope) (f:Addr) (cd:Value) (A:Around) (outer:List Env) (s:Shared) (H:Hp) (E:XK):Cx where
 prog:=P
 w:=w
 K:=K
 mg:=mg
 base:=base
 A:=A.deeper (envOfC qual scope s.heap.objs.size f cd)
 N:=N
 s₀:=s
 H₀:=H
 env:=envOfC qual scope s.heap.objs.size f cd
 outer:=outer
 stack:=envOfC qual scope s.heap.objs.size f cd::outer
 ex:=[]
 calm:=true
 fn:=fun _=>true
 pn:=[]
 xe:=fun e s'=>wpAny (model P w) (A.deeper (envOfC qual scope s.heap.objs.size f cd)) (leaving (envOfC qual scope s.heap.objs.size f cd) e) (fun _ s''=>CX outer H s E e s'') (fun e' s''=>CX outer H s E e' s'') s'
theorem ZlT {sc:Scope} {n:Nat} {x:Str} (h:sc.names.lookup x=some .cell):∃ c,(cellsFrom n sc.names []).lookup x=some c:=by
 have q:=PySem.W.cellsFrom_some sc.names n [] (.inl h)
 exact Option.isSome_iff_exists.mp q
theorem Zse {CX:CXT} {P:Program} {w:World} {K:PySem.W.Frag} {mg:Str→Option Value} {base:Heap} {N ps:List Str} {qual:Str} {scope:Scope} {f:Addr} {cd:Value} {A:Around} {outer:List Env} {s s1:Shared} {H:Hp} {E:XK} {us:List Value} {vs:List V}
  (S:Zau N ps scope) (hd:A.handled=none) (e0:Env0 P w K mg base A outer s H) (hl:vs.length=ps.length) (r:Vals vs us)
  (x:InCallC s s.heap.objs.size (bindL (envOfC qual scope s.heap.objs.size f cd).kindOf (ps.zip us) fun _=>none) (cellsFrom (s.heap.objs.size+1) scope.names []) (bindC (envOfC qual scope s.heap.objs.size f cd).kindOf (ps.zip us) fun _=>none) s1) :
  Inv (Zi0 CX P w K mg base N qual scope f cd A outer s H E) [] (Zjs N vs) H s1:=by
 have hpl:ps.length≤N.length:=by have:=congrArg List.length S.pre;rw [List.length_take] at this;omega
 obtain ⟨h1,tk,rfl,hk⟩:=x.done
 have noA:∀ b:Addr,b∉(Zi0 CX P w K mg base N qual scope f cd A outer s H E).ex:=fun b z=>absurd (show b∈([]:List Addr) from z) (by simp)
 refine ⟨⟨e0.mod,S.kind,rfl,rfl,Nat.le_refl _,fun y z c h1 h2=>?_,fun y hy=>?_,fun y c _ h=>?_,fun _=>hd,Around.frames_deeper e0.frames,.inr ⟨rfl,rfl⟩,fun b z=>absurd z (noA b),e0.bs,e0.bsz,fun b _ _=>noA b,fun b z=>absurd z (noA b),e0.funs,e0.frf⟩,
  rfl,e0.bare,Un.kept hk,⟨_,x.toInCall.ns,fun i y v h1 h2 h3=>?_⟩,fun y c h=>⟨_,x.cell y c h⟩,e0.hok.fresh (Nat.le_refl _),fun y c h=>?_,fun p hp=>absurd (show p∈([]:List (Addr×Obj)) from hp) (by simp),e0.hok.kept hk,?_⟩
 ·exact name_of_addr x.apart (PySem.mem_of_lookup h1) (PySem.mem_of_lookup h2)
 ·have hy:scope.names.lookup y=some .cell∨scope.names.lookup y=some .free:=hy
  rcases hy with hy | hy
  ·exact ZlT hy
  ·exact absurd rfl (S.nofree _ (PySem.mem_of_lookup hy))
 ·exact Nat.le_of_lt (x.above y c (PySem.mem_of_lookup h))
 ·have hi:i < vs.length:=by
   unfold Zjs at h2
   by_cases hi:i < vs.length
   ·exact hi
   ·rw [List.getElem?_append_right (by simpa using hi)] at h2
    rw [List.getElem?_replicate] at h2
    split at h2 <;> cases h2
  have ha:vs[i]?=some v:=by
   unfold Zjs at h2
   rw [List.getElem?_append_left (by simpa using hi),List.getElem?_map] at h2
   cases e:vs[i]? with
   | none=>rw [e] at h2;cases h2
   | some a=>rw [e] at h2;cases h2;rfl
  obtain ⟨u,hu,rv⟩:=r.get ha
  have hp:ps[i]?=some y:=by
   rw [← S.pre,List.getElem?_take_of_lt (by omega)];exact h1
  have ndP:ps.Nodup:=by rw [← S.pre];exact S.nd.sublist (List.take_sublist _ _)
  refine ⟨u,rv,?_⟩
  rcases S.par y (List.mem_of_getElem? hp) with k | k
  ·exact .inl ⟨k,Znc ndP hp hu k⟩
  ·obtain ⟨c,e⟩:=ZlT (n:=s.heap.objs.size+1) k
   refine .inr ⟨.inl k,c,e,?_⟩
   have q:=x.cell y c e
   rw [ZmK ndP hp hu (by show scope.names.lookup y≠_;rw [k];decide)] at q
   exact q
 ·exact e0.hok.fresh (Nat.le_of_lt (x.above y c (PySem.mem_of_lookup h)))
 ·unfold Zjs
  show _=N.length
  rw [List.length_append,List.length_map,List.length_replicate]
  omega
theorem ZtO {CX:CXT} {P:Program} {w:World} {K:PySem.W.Frag} {mg:Str→Option Value} {base:Heap} {k:Nat} {f:Addr} {name qual:Str} {params:Arguments} {body:List Stmt} {scope:Scope} {dV kV doc pm cdv ct oc:Value} {an od:Option Addr}
  {osl:Array (Option Value)} {N ps:List Str} {sp:Sp} (lk:K.lookup f=some ⟨oc,od,.func (PySem.W.fnOf name qual params body scope dV kV doc pm an cdv ct),osl⟩) (hcd:PySem.W.codeIn K cdv qual=true) (S:Zau N ps scope)
  (len:∀ vs H Q E,sp vs H Q E→vs.length=ps.length)
  (hbody:∀ (A:Around) (outer:List Env) (s:Shared) (H:Hp) (vs:List V) (Q:VK) (E:XK),Room k (A.deeper (envOfC qual scope s.heap.objs.size f cdv))→sp vs H Q E →
   ∃ t,PSs (Zi0 CX P w K mg base N qual scope f cdv A outer s H E) body t∧t { nx:=fun _ H'=>Q .non H',rt:=Q } (Zjs N vs) H) :
  FnOk P w K mg base CX (k+1) f (PySem.W.fnOf name qual params body scope dV kV doc pm an cdv ct) ps sp:=by
 refine ⟨len,fun A outer s H args us vs Q E hr e0 hb r hsp=>?_⟩
 have hl:=len _ _ _ _ hsp
 have KX:K.In s.heap:=e0.mod.kin.keeps fun b o e=>(e0.bs b o e).1
 have lim:s.heap.NoLimit:=e0.mod.nolimit.keeps fun b o e=>(e0.bs b o e).1
 have hkind:∀ y∈ps.zip us,scope.names.lookup y.1=some .local∨(scope.names.lookup y.1=some .cell∧((cellsFrom (s.heap.objs.size+1) scope.names []).lookup y.1).isSome=true):=by
  rintro ⟨n,v⟩ hy
  rcases S.par n (List.of_mem_zip hy).1 with q | q
  ·exact .inl q
  ·exact .inr ⟨q,PySem.W.cellsFrom_some _ _ _ (.inl q)⟩
 refine codeAny_call_function hr.depth (KX _ _ lk) rfl S.co S.gen rfl (PySem.W.codeRec_of KX hcd) (hb _ _ _ _ ?_)
 refine wpAny_newFunctionEnv_cells S.kind hkind fun env he s1 x=>?_
 subst he
 refine ⟨lim.keeps x.toInCall.keep,codeAny_func ?_⟩
 obtain ⟨t,ht,hq⟩:=hbody A outer s H vs Q E (hr.deeper _) hsp
 have I:Inv (Zi0 CX P w K mg base N qual scope f cdv A outer s H E) [] (Zjs N vs) H s1:=Zse S hr.hd e0 hl r x
 refine wpAny_mono (ht [] s1 (Zjs N vs) H _ I hq) (fun fl s' hs=>?_) fun e s' hs=>hs
 have fin:∀ {σ':St} {H':Hp} {v:V} {u:Value},Inv (Zi0 CX P w K mg base N qual scope f cdv A outer s H E) [] σ' H' s'→RelV v u→Q v H'→CE outer P w H s Q u s' :=
  fun {σ' H' v u} J rv q=>⟨v,H',J.os,J.bare,J.base,J.hok,rv,q⟩
 cases fl with
 | ret u =>
  obtain ⟨v,σ',H',J,rv,q⟩:=hs
  exact fin J rv q
 | next =>
  obtain ⟨σ',H',J,q⟩:=hs
  exact fin (v:=V.non) (u:=Value.none) J rfl q
 | brk =>
  obtain ⟨_,_,_,q⟩:=hs
  exact False.elim q
 | cont =>
  obtain ⟨_,_,_,q⟩:=hs
  exact False.elim q
section
variable {X:Cx} {x:Str} {p pos:Pos} {e:Expr} {es:List Expr} {t:TA} {id T:String} {r:List V→Hp→VK→Prop}
def tCB (r:List V→Hp→VK→Prop) (t:TA):TE:=fun σ H Q=>t σ H fun vs H1=>r vs H1 Q
theorem ZsB (hc:CallR X (.builtin id) r) (hg:Gl X x) (hm:X.mg x=none) (hv:bootBuiltins x=some (.builtin id)) (ha:PA X (e::es) t) (hn:x≠"__name__":=by decide) (hdb:(x==("__debug__":Str))=false:=by decide)
  (he:starEach (e::es) X.env=(false,eval e X.env)::starEach es X.env:=by rfl) (hpl:(backTo pos (starEach es X.env)).any (·.1)=false:=by rfl):PE X (.Call (.Name x p) (e::es) [] pos) (tCB r t):=by
 intro pins s σ H Q I h
 refine wpAny_Call_Name_kw (Zgi I hg hm hv ?_ hn hdb)
 exact PyProof.Rows.callWith_builtin1 (thn (ha pos pins s σ H _ I h) (by rintro us s1 ⟨vs,H1,I1,r1,q1⟩;exact hc pins s1 σ H1 vs us Q I1 r1 q1)) he hpl
theorem Zr1 (hc:CallR X (.type T) r) (hg:Gl X x) (hm:X.mg x=none) (hv:bootBuiltins x=some (.type T)) (ha:PA X (e::es) t) (hn:x≠"__name__":=by decide) (hdb:(x==("__debug__":Str))=false:=by decide)
  (he:starEach (e::es) X.env=(false,eval e X.env)::starEach es X.env:=by rfl) (hpl:(backTo pos (starEach es X.env)).any (·.1)=false:=by rfl):PE X (.Call (.Name x p) (e::es) [] pos) (tCB r t):=by
 intro pins s σ H Q I h
 refine wpAny_Call_Name_kw (Zgi I hg hm hv ?_ hn hdb)
 exact PyProof.Rows.callWith_type1 (thn (ha pos pins s σ H _ I h) (by rintro us s1 ⟨vs,H1,I1,r1,q1⟩;exact hc pins s1 σ H1 vs us Q I1 r1 q1)) he hpl
end
end L2
namespace HT
open PySem PyProof.Rows
section
open PySem.SeqAt
open PySem.AutoSeq1 (wpAny_loadPart')
open PySem.MeetsSeq PySem.MeetsSeq2 PySem.MeetsSeq3
end
section
variable {prog:Program} {w:World} {A:Around} {E:Value→Shared→Prop} {s:Shared}
theorem cat_tup {t b:Addr} {vs ws:List Value} {Q:Value→Shared→Prop} (ht:IsTup s.heap t vs.toArray) (hb:IsTup s.heap b ws.toArray) (hv:vs≠[])
  (h1:ws=[]→Q (.ref t) s) (h2:ws≠[]→Q (.ref s.heap.objs.size) { s with heap:=s.heap.push { cls:=.type "tuple",data:=.seq (vs++ws).toArray } })
  (hsz:vs.length+ws.length≤sizeLine):wpAny (model prog w) A (binaryOp .Add (.ref t) (.ref b)) Q E s:=by
 obtain ⟨⟨cls,dd,data,sl⟩,ho,hc,n,hd⟩:=id ht
 obtain ⟨⟨cls2,dd2,data2,sl2⟩,ho2,hc2,n2,hd2⟩:=id hb
 simp only at hc hd hc2 hd2
 subst hc hd hc2 hd2
 have e:vs.toArray++ws.toArray=(vs++ws).toArray:=by simp
 by_cases hw:ws=[]
 ·exact concat_meets ⟨_,ho,rfl⟩ ⟨_,ho2,rfl⟩ noFill_tuple_add seq_tuple_add PySem.F.slot_tuple_add PySem.F.entry_tuple_add (PySem.F.args_tuple_add_2 _ _)
   (tuple_addW1 t b vs.toArray ws.toArray n n2 dd dd2 sl sl2 (by simpa using hv) (by simp [hw])) ⟨ho,ho2,h1 hw⟩
 ·refine concat_meets ⟨_,ho,rfl⟩ ⟨_,ho2,rfl⟩ noFill_tuple_add seq_tuple_add PySem.F.slot_tuple_add PySem.F.entry_tuple_add (PySem.F.args_tuple_add_2 _ _)
   (tuple_addW2 t b vs.toArray ws.toArray n n2 dd dd2 sl sl2 (by simpa using hv) (by simpa using hw) (by rw [List.size_toArray,List.size_toArray];exact hsz)) ⟨ho,ho2,?_⟩
  rw [e]
  exact h2 hw
def sIx (n d:Nat):Option Int→Nat
 | none=>d
 | some v=>if v < 0 then (v+(n:Int)).toNat else min v.toNat n
theorem sIx_none (n d:Nat):sIx n d none=d:=rfl
theorem sIx_nat (n d k:Nat):sIx n d (some (k:Int))=min k n:=by
 show (if (k:Int) < 0 then ((k:Int)+(n:Int)).toNat else min (k:Int).toNat n)=min k n
 rw [if_neg (by omega),Int.toNat_natCast]
theorem ZxP (n d:Nat) (hd:d≤n) (o:Option Int):sIx n d o≤n:=by
 cases o with
 | none=>exact hd
 | some v =>
  show (if v < 0 then (v+(n:Int)).toNat else min v.toNat n)≤n
  by_cases hv:v < 0
  ·rw [if_pos hv];omega
  ·rw [if_neg hv];exact Nat.min_le_right _ _
theorem Zro (v:Int) (n d:Nat):(if v < 0 then max (v+(n:Int)) 0 else min v (n:Int))=((sIx n d (some v):Nat):Int):=by
 show (if v < 0 then max (v+(n:Int)) 0 else min v (n:Int))=(((if v < 0 then (v+(n:Int)).toNat else min v.toNat n):Nat):Int)
 by_cases hv:v < 0
 ·simp only [if_pos hv];omega
 ·simp only [if_neg hv];omega
theorem ZpN (lo hi:Option Int) (n:Nat):Builtin.Slice.sliceAdjust lo hi 1 (n:Int)=(((sIx n 0 lo:Nat):Int),((sIx n n hi:Nat):Int)):=by
 have h1:¬ ((1:Int) < 0):=by omega
 unfold Builtin.Slice.sliceAdjust
 simp only [h1,if_false]
 refine Prod.ext ?_ ?_
 ·cases lo with
  | none=>rfl
  | some v=>exact Zro v n 0
 ·cases hi with
  | none=>rfl
  | some v=>exact Zro v n n
theorem Zpx (i j:Nat):Builtin.Slice.slicePlaces (i:Int) (j:Int) 1=j - i:=by
 unfold Builtin.Slice.slicePlaces
 have h1:(1:Int) > 0:=by omega
 simp only [h1,if_true,Int.ediv_one]
 split <;> omega
theorem Zlp {v:Value} {o:Option Int} {Q:Option Int→Shared→Prop} (p:IsPart v o) (h:Q o s):wpAny (model prog w) A (Builtin.Slice.slicePartIndex v) Q E s:=by
 cases p with
 | none=>exact slicePart_none h
 | int i t=>exact slicePart_int h
theorem ZeT {sl:Addr} {vl vu:Value} {lo hi:Option Int} {n:Nat} {Q:Int×Int×Nat→Shared→Prop} (hs:s.heap.IsSliceOf sl vl vu .none) (pl:IsPart vl lo) (pu:IsPart vu hi)
  (h:Q (((sIx n 0 lo:Nat):Int),1,sIx n n hi - sIx n 0 lo) s):wpAny (model prog w) A (Builtin.Slice.sliceApplied (.ref sl) (pure (n:Int))) Q E s:=by
 obtain ⟨os,hos,hcs,hds⟩:=id hs
 unfold Builtin.Slice.sliceApplied Builtin.Slice.sliceFields
 refine wpAny_bind (wpAny_bind (wpAny_field hos hds (x:=vl) rfl (wpAny_bind (wpAny_field hos hds (x:=vu) rfl (wpAny_bind (wpAny_field hos hds (x:=.none) rfl (wpAny_pure ?_)))))))
 refine wpAny_bind (slicePart_none ?_)
 show wpAny _ _ (if ((1:Int)==0)=true then _ else _) _ _ s
 rw [if_neg (by decide)]
 refine wpAny_bind (Zlp pl (wpAny_bind (Zlp pu (wpAny_bind (wpAny_pure ?_)))))
 show wpAny _ _ (match Builtin.Slice.sliceAdjust lo hi 1 (n:Int) with | (lo,hi)=>pure (lo,(1:Int),Builtin.Slice.slicePlaces lo hi 1)) _ _ s
 rw [ZpN lo hi n]
 show wpAny _ _ (pure (((sIx n 0 lo:Nat):Int),(1:Int),Builtin.Slice.slicePlaces ((sIx n 0 lo:Nat):Int) ((sIx n n hi:Nat):Int) 1)) _ _ s
 rw [Zpx]
 exact wpAny_pure h
theorem Ztb (xs:Array Value) (i k:Nat):((List.range k).filterMap fun (m:Nat)=>xs[((i:Int)+(m:Int)*1).toNat]?).toArray=((xs.toList.drop i).take k).toArray:=by
 have e:(fun (m:Nat)=>xs[((i:Int)+(m:Int)*1).toNat]?)=fun m=>xs[i+m]?:=by
  funext m
  have:((i:Int)+(m:Int)*1).toNat=i+m:=by omega
  rw [this]
 rw [e]
 have:=pick_run xs i k
 rw [List.filterMap_map] at this
 have e2:((fun x=>xs[x]?)∘fun x=>i+x)=fun m=>xs[i+m]?:=rfl
 rw [e2] at this
 rw [this]
theorem getItem_tuple_cut {t sl:Addr} {items:Array Value} {vl vu:Value} {lo hi:Option Int} {Q:Value→Shared→Prop} (ht:IsTup s.heap t items) (hs:s.heap.IsSliceOf sl vl vu .none) (pl:IsPart vl lo) (pu:IsPart vu hi)
  (hw:¬ (sIx items.size 0 lo=0∧sIx items.size items.size hi=items.size))
  (h:Q (.ref s.heap.objs.size) { s with heap:=s.heap.push { cls:=.type "tuple",data:=.seq ((items.toList.drop (sIx items.size 0 lo)).take (sIx items.size items.size hi - sIx items.size 0 lo)).toArray } })
  (hsz:items.size≤sizeLine):wpAny (model prog w) A (getItem (.ref t) (.ref sl)) Q E s:=by
 have htake:sizeOk (.seq ((items.toList.drop (sIx items.size 0 lo)).take (sIx items.size items.size hi - sIx items.size 0 lo)).toArray):=by
  show ((items.toList.drop (sIx items.size 0 lo)).take (sIx items.size items.size hi - sIx items.size 0 lo)).toArray.size≤sizeLine
  rw [List.size_toArray,List.length_take,List.length_drop,Array.length_toList]
  omega
 have hj:sIx items.size items.size hi≤items.size:=ZxP _ _ (Nat.le_refl _) hi
 obtain ⟨os,hos,hcs,hds⟩:=id hs
 have hTs:s.TypeIs (.ref sl) "slice":=⟨os,hos,hcs⟩
 unfold getItem
 try with_reducible refine wpAny_holding ?_
 first | refine wpAny_bind (wpAny_pure ?_) | skip
 refine wpAny_bind (wpAny_sequenceKey ht.typeIs (by decide) ?_)
 refine wpAny_bind (wpAny_callSpecial?_slot (name:=Str.ofString "__getitem__") ht.typeIs PyProof.Rows.slot_tuple_getitem
  (wpAny_call_entry PyProof.Rows.slot_tuple_getitem ht.typeIs entry_tuple_getitem ?_ (args_tuple_getitem _ _)))
 show wpAny _ _ (Builtin.Tuple.tupleItemsOf (.ref t) >>= _) _ _ s
 refine wpAny_bind (tupleItemsOf_ ht ?_)
 refine wpAny_bind (wpAny_typeOf hTs ?_)
 rw [if_pos (by decide)]
 refine wpAny_bind (ZeT hs pl pu ?_)
 have hno:¬ ((((sIx items.size 0 lo:Nat):Int)==0&&(1:Int)==1&&(sIx items.size items.size hi - sIx items.size 0 lo)==items.size)=true):=by
  intro q
  rw [Bool.and_eq_true,Bool.and_eq_true] at q
  have q1:((sIx items.size 0 lo:Nat):Int)=0:=eq_of_beq q.1.1
  have q2:sIx items.size items.size hi - sIx items.size 0 lo=items.size:=eq_of_beq q.2
  exact hw ⟨by omega,by omega⟩
 show wpAny _ _ (if (((sIx items.size 0 lo:Nat):Int)==0&&(1:Int)==1&&(sIx items.size items.size hi - sIx items.size 0 lo)==items.size)=true then _ else _) _ _ s
 rw [if_neg hno,Ztb]
 first
  | exact wpAny_bind (m:=Builtin.Tuple.tupleExact _) (wpAny_newObj_type (wpAny_pure ⟨_,rfl,wpAny_pure h⟩) htake)
  | exact wpAny_bind (m:=Builtin.Tuple.tupleExact _) (wpAny_newObj_type (wpAny_bind (wpAny_pure (wpAny_pure ⟨_,rfl,wpAny_pure h⟩))) htake)
  | exact wpAny_bind (wpAny_bind (m:=Builtin.Tuple.tupleExact _) (wpAny_newObj_type (wpAny_pure (wpAny_pure ⟨_,rfl,wpAny_pure h⟩)) htake))
  | exact wpAny_bind (wpAny_bind (m:=Builtin.Tuple.tupleExact _) (wpAny_newObj_type (wpAny_pure ⟨_,rfl,wpAny_pure h⟩) htake))
end
end HT
namespace L2
open PySem PySem.Spec PyProof.Rows
abbrev TO:=St→Hp→(Option Int→Hp→Prop)→Prop
def PO (X:Cx) (e:Option Expr) (t:TO):Prop :=
 ∀ (pins:List (Addr×Obj)) (s:Shared) (σ:St) (H:Hp) (Q:Option Int→Hp→Prop),Inv X pins σ H s→t σ H Q →
  wpAny (model X.prog X.w) X.A (evalPart e X.env) (fun u s'=>∃ o H',Inv X pins σ H' s'∧IsPart u o∧Q o H') X.xe s
def Zwv:TO:=fun _ H Q=>Q none H
def ZAS (t:TE):TO:=fun σ H Q=>t σ H fun x H1=>∃ i,x=.int i∧Q (some i) H1
section
variable {X:Cx} {e:Expr} {te:TE} {lo hi:Option Expr} {tl th:TO} {pos p2:Pos}
theorem Zv1:PO X none Zwv:=by
 intro pins s σ H Q I h
 rw [evalPart_none]
 exact wpAny_pure ⟨none,H,I,.none,h⟩
theorem ZvB (h:PE X e te):PO X (some e) (ZAS te):=by
 intro pins s σ H Q I hw
 rw [evalPart_some]
 refine thn (h pins s σ H _ I hw) fun u s1 zz48=>?_
 obtain ⟨x,H1,I1,r1,q1⟩:=zz48
 obtain ⟨i,rfl,q⟩:=q1
 obtain ⟨t,rfl⟩:=r1
 exact ⟨some i,H1,I1,.int i t,q⟩
def SlR (X:Cx) (r:V→Option Int→Option Int→Hp→VK→Prop):Prop :=
 ∀ (pins:List (Addr×Obj)) (s:Shared) (σ:St) (H:Hp) (x:V) (v vl vu:Value) (lo hi:Option Int) (sl:Addr) (Q:VK),Inv X pins σ H s→RelV x v→s.heap.IsSliceOf sl vl vu .none→IsPart vl lo→IsPart vu hi→r x lo hi H Q →
  ∃ T id,typeLookup (.type T) "__getitem__"=pure (some (.builtin id))∧s.TypeIs v T∧wpAny (model X.prog X.w) X.A (getItem v (.ref sl)) (EP X pins σ Q) X.xe s
theorem SlR.or {r r':V→Option Int→Option Int→Hp→VK→Prop} (h:SlR X r) (h':SlR X r'):SlR X (fun x lo hi H Q=>r x lo hi H Q∨r' x lo hi H Q):=by
 intro pins s σ H x v vl vu lo hi sl Q I rx hs pl pu q
 rcases q with q | q
 ·exact h pins s σ H x v vl vu lo hi sl Q I rx hs pl pu q
 ·exact h' pins s σ H x v vl vu lo hi sl Q I rx hs pl pu q
def tSl (r:V→Option Int→Option Int→Hp→VK→Prop) (te:TE) (tl th:TO):TE:=fun σ H Q=>te σ H fun x H1=>tl σ H1 fun l H2=>th σ H2 fun u H3=>r x l u H3 Q
theorem ZoL {r:V→Option Int→Option Int→Hp→VK→Prop} (hr:SlR X r) (he:PE X e te) (hl:PO X lo tl) (hu:PO X hi th):PE X (.Subscript e (.Slice lo hi none p2) pos) (tSl r te tl th):=by
 intro pins s σ H Q I h
 refine Subscript_ (thn (he pins s σ H _ I h) fun v s1 zz49=>?_)
 obtain ⟨x,H1,I1,r1,q1⟩:=zz49
 refine wpAny_Slice (thn (hl pins s1 σ H1 _ I1 q1) fun vl s2 ⟨l,H2,I2,pl,q2⟩=>thn (hu pins s2 σ H2 _ I2 q2) fun vu s3 ⟨u,H3,I3,pu,q3⟩=>?_)
 rw [evalPart_none]
 refine wpAny_pure ?_
 have I4:Inv X pins σ H3 { s3 with heap:=s3.heap.push { cls:=.type "slice",data:=.fields #[vl,vu,.none] } }:=I3.kept (t':=s3.toks) fun b ob q=>Heap.get?_push_of_some _ q
 obtain ⟨T,id,hT,ht,hg⟩:=hr pins { s3 with heap:=s3.heap.push { cls:=.type "slice",data:=.fields #[vl,vu,.none] } } σ H3 x v vl vu l u s3.heap.objs.size Q I4 r1 (Heap.IsSliceOf.new ..) pl pu q3
 show wpAny (model X.prog X.w) X.A (subscriptTail e (.Slice lo hi none p2) v (.ref s3.heap.objs.size)) (EP X pins σ Q) X.xe { s3 with heap:=s3.heap.push { cls:=.type "slice",data:=.fields #[vl,vu,.none] } }
 exact tail_any (ops:=[.ref s3.heap.objs.size,v]) ht hT hg (by with_unfolding_all rfl)
def Zul (xs:List V) (lo hi:Option Int):List V:=(xs.drop (HT.sIx xs.length 0 lo)).take (HT.sIx xs.length xs.length hi - HT.sIx xs.length 0 lo)
theorem Zkd (xs:List V) (lo hi:Option Int):(Zul xs lo hi).length≤xs.length:=by
 unfold Zul
 rw [List.length_take,List.length_drop]
 omega
def Zz8 (K:PySem.W.Frag):V→Option Int→Option Int→Hp→VK→Prop:=fun x lo hi H Q=>∃ a xs,x=.ref a∧SqT K H a xs ∧
 ¬ (HT.sIx xs.length 0 lo=0∧HT.sIx xs.length xs.length hi=xs.length)∧∀ p,H p=none→Q (.ref p) (upd H p (.tup (Zul xs lo hi)))
theorem Zuq:SlR X (Zz8 X.K):=by
 intro pins s σ H x v vl vu lo hi sl Q I rx hs pl pu h
 obtain ⟨a,xs,rfl,hx,hw,q⟩:=h
 cases rx
 obtain ⟨its,r,ht,hz⟩:=I.tuple hx
 have hlen:its.toArray.size=xs.length:=by rw [List.size_toArray];exact r.length.symm
 refine ⟨"tuple",_,PyProof.Rows.slot_tuple_getitem.lookup,ht.typeIs,?_⟩
 refine HT.getItem_tuple_cut ht hs pl pu (by rw [hlen];exact hw) ?_ (by rw [hlen];exact hz)
 rw [hlen]
 refine ⟨.ref s.heap.objs.size,_,I.laid (t':=s.toks) (o:=.tup (Zul xs lo hi)) (fun b ob q=>Heap.get?_push_of_some _ q) (Nat.le_refl _) ?_,rfl,q _ (I.hok.fresh (Nat.le_refl _))⟩
 exact ⟨Nat.le_trans (Zkd xs lo hi) hz,_,(r.drop (HT.sIx xs.length 0 lo)).take (HT.sIx xs.length xs.length hi - HT.sIx xs.length 0 lo),IsTup.new _ _⟩
def ZwY (K:PySem.W.Frag):R2:=fun x y H Q=>∃ a b xs ys,x=.ref a∧y=.ref b∧SqT K H a xs∧SqT K H b ys∧xs≠[]∧xs.length+ys.length≤sizeLine ∧
 (ys=[]→Q (.ref a) H)∧(ys≠[]→∀ p,H p=none→Q (.ref p) (upd H p (.tup (xs++ys))))
theorem Vals.nil_iff {xs:List V} {us:List Value} (r:Vals xs us):us=[]↔xs=[]:=by
 cases r with
 | nil=>simp
 | cons _ _=>simp
theorem Zvo:OpR X (binaryOp .Add) (ZwY X.K):=by
 walk_at "pb"
 obtain ⟨a,b,xs,ys,rfl,rfl,ha,hb,hx,hz,q1,q2⟩:=h
 cases rx
 cases ry
 obtain ⟨its,r1,p1,_⟩:=I.tuple ha
 obtain ⟨its2,r2,p2,_⟩:=I.tuple hb
 refine HT.cat_tup p1 p2 (fun z=>hx (r1.nil_iff.mp z)) (fun z=>⟨.ref a,H,I,rfl,q1 (r2.nil_iff.mp z)⟩) (fun z=>?_) (by rw [← r1.length,← r2.length];exact hz)
 refine ⟨.ref s.heap.objs.size,_,I.laid (t':=s.toks) (o:=.tup (xs++ys)) (fun b ob q=>Heap.get?_push_of_some _ q) (Nat.le_refl _) ?_,rfl,q2 (fun w=>z (r2.nil_iff.mpr w)) _ (I.hok.fresh (Nat.le_refl _))⟩
 exact ⟨by rw [List.length_append];exact hz,_,r1.append r2,IsTup.new _ _⟩
end
def ixN (n:Nat) (i:Int):Option Nat:=if 0≤i then (if i < n then some i.toNat else none) else if -(n:Int)≤i then some (i+n).toNat else none
def atI {α:Type} (xs:List α) (i:Int):Option α:=(ixN xs.length i).bind fun j=>xs[j]?
theorem ZqJ {n:Nat} {i:Int} {j:Nat} (h:ixN n i=some j):seqIndex? i n=some j∧j < n∧-(n:Int)≤i∧i < n:=by
 unfold ixN at h
 by_cases h0:0≤i
 ·rw [if_pos h0] at h
  by_cases h1:i < n
  ·rw [if_pos h1] at h
   have e:i.toNat=j:=Option.some.inj h
   exact ⟨by rw [seqIndex_of h0 h1,e],by omega,by omega,h1⟩
  ·rw [if_neg h1] at h;cases h
 ·rw [if_neg h0] at h
  by_cases h1:-(n:Int)≤i
  ·rw [if_pos h1] at h
   have e:(i+n).toNat=j:=Option.some.inj h
   exact ⟨by rw [seqIndex_neg (by omega) h1,e],by omega,h1,by omega⟩
  ·rw [if_neg h1] at h;cases h
theorem Zn1 {α:Type} {xs:List α} {i:Int} {v:α} (h:atI xs i=some v):∃ j,seqIndex? i xs.length=some j∧xs[j]?=some v∧j < xs.length∧-(xs.length:Int)≤i∧i < xs.length:=by
 unfold atI at h
 cases e:ixN xs.length i with
 | none=>rw [e] at h;cases h
 | some j =>
  rw [e] at h
  obtain ⟨h1,h2,h3,h4⟩:=ZqJ e
  exact ⟨j,h1,h,h2,h3,h4⟩
theorem ZlV {α:Type} {xs:List α} {j:Nat} {v:α} (h:xs[j]?=some v):atI xs (j:Int)=some v:=by
 have hj:j < xs.length:=(List.getElem?_eq_some_iff.mp h).1
 have e:ixN xs.length (j:Int)=some j:=by
  unfold ixN
  rw [if_pos (by omega),if_pos (by omega)];simp
 unfold atI;rw [e];exact h
def ZlE (b:Expr):Prop:=∀ o i,subscripted b false o i=operate [o,i] (getItem o i)
def IxR (X:Cx) (r:R2):Prop :=
 ∀ (value slice:Expr) (pins:List (Addr×Obj)) (s:Shared) (σ:St) (H:Hp) (x y:V) (v u:Value) (Q:VK),Inv X pins σ H s→RelV x v→RelV y u→r x y H Q →
  subscripted slice false v u=operate [v,u] (getItem v u)→wpAny (model X.prog X.w) X.A (subscriptTail value slice v u) (EP X pins σ Q) X.xe s
def MtR (X:Cx) (id:String) (r:V→List V→Hp→VK→Prop):Prop :=
 ∀ (pins:List (Addr×Obj)) (s:Shared) (σ:St) (H:Hp) (x:V) (xs:List V) (v:Value) (us:List Value) (Q:VK),Inv X pins σ H s→RelV x v→Vals xs us→r x xs H Q →
  wpAny (model X.prog X.w) X.A (call (.builtin id) (v::us)) (EP X pins σ Q) X.xe s
section
variable {X:Cx} {a b:Expr} {ta tb:TE} {pos:Pos}
theorem IxR.or {r r':R2} (h:IxR X r) (h':IxR X r'):IxR X (fun x y H Q=>r x y H Q∨r' x y H Q):=by
 intro value slice pins s σ H x y v u Q I rx ry q hs
 rcases q with q | q
 ·exact h value slice pins s σ H x y v u Q I rx ry q hs
 ·exact h' value slice pins s σ H x y v u Q I rx ry q hs
theorem MtR.or {id:String} {r r':V→List V→Hp→VK→Prop} (h:MtR X id r) (h':MtR X id r'):MtR X id (fun x xs H Q=>r x xs H Q∨r' x xs H Q):=by
 intro pins s σ H x xs v us Q I rx rs q
 rcases q with q | q
 ·exact h pins s σ H x xs v us Q I rx rs q
 ·exact h' pins s σ H x xs v us Q I rx rs q
theorem ZAr {r:R2} (hr:IxR X r) (ha:PE X a ta) (hb:PE X b tb) (hs:ZlE b):PE X (.Subscript a b pos) (tOp r ta tb):=by
 intro pins s σ H Q I h
 exact Subscript_ (ZzG ha hb I h fun v u s2 x y H2 I2 rx ry q=>hr a b pins s2 σ H2 x y v u Q I2 rx ry q (hs _ _))
def ZAj (K:PySem.W.Frag):R2:=fun x y H Q=>∃ p xs i v,x=.ref p∧y=.int i∧SqL K H p xs∧atI xs i=some v∧Q v H
def ZAq (K:PySem.W.Frag):R2:=fun x y H Q=>∃ p xs i v,x=.ref p∧y=.int i∧SqT K H p xs∧atI xs i=some v∧Q v H
def ZAc:R2:=fun x y H Q=>∃ z i c,x=.str z∧y=.int i∧z.length≤sizeLine∧atI z.cps.toList i=some c∧Q (.str ⟨#[c]⟩) H
theorem Zv9:IxR X (ZAj X.K):=by
 intro value slice pins s σ H x y v u Q I rx ry h hs
 obtain ⟨p,xs,i,z,rfl,rfl,hq,he,q⟩:=h
 cases rx
 obtain ⟨t,rfl⟩:=ry
 obtain ⟨its,r,pl,hz⟩:=I.list hq
 obtain ⟨j,h1,h2,h3,h4,h5⟩:=Zn1 he
 obtain ⟨w,ew,rw'⟩:=r.get h2
 have hl:=r.length
 have hn:=ZkP
 have fin:EP X pins σ Q w s:=⟨z,H,I,rw',q⟩
 by_cases h0:0≤i
 ·have hj:i.toNat=j:=by
   rw [seqIndex_of h0 h5] at h1
   exact Option.some.inj h1
  exact item_listR pl.isList h0 (by omega) (by rw [hj];simpa using ew) fin hs
 ·have hj:(i+(its.toArray.size:Int)).toNat=j:=by
   rw [seqIndex_neg (by omega) h4] at h1
   rw [List.size_toArray,← hl]
   exact Option.some.inj h1
  exact subscriptTail_builtinR (x:=w) pl.isList.typeIs slot_list_getitem.lookup
   (wpAny_getItem_list_neg (Q:=fun r s'=>r=w∧EP X pins σ Q r s') pl.isList (by omega) (by rw [List.size_toArray] <;> omega) (by omega) (by rw [hj];simpa using ew) ⟨rfl,fin⟩) hs
theorem Zxb:IxR X (ZAq X.K):=by
 intro value slice pins s σ H x y v u Q I rx ry h hs
 obtain ⟨p,xs,i,z,rfl,rfl,hq,he,q⟩:=h
 cases rx
 obtain ⟨t,rfl⟩:=ry
 obtain ⟨its,r,pl,hz⟩:=I.tuple hq
 obtain ⟨j,h1,h2,h3,h4,h5⟩:=Zn1 he
 obtain ⟨w,ew,rw'⟩:=r.get h2
 have hl:=r.length
 have hn:=ZkP
 have fin:EP X pins σ Q w s:=⟨z,H,I,rw',q⟩
 exact subscriptTail_builtinR (x:=w) pl.typeIs slot_tuple_getitem.lookup
  (getItem_tuple (j:=j) (Q:=fun r s'=>r=w∧EP X pins σ Q r s') pl (by omega) (by omega) (by rw [List.size_toArray,← hl];exact h1) (by simpa using ew) ⟨rfl,fin⟩) hs
theorem Zyf:IxR X ZAc:=by
 intro value slice pins s σ H x y v u Q I rx ry h hs
 obtain ⟨z,i,c,rfl,rfl,hz,he,q⟩:=h
 obtain ⟨t,rfl⟩:=rx
 obtain ⟨t',rfl⟩:=ry
 obtain ⟨j,h1,h2,h3,h4,h5⟩:=Zn1 he
 have hl:z.cps.toList.length=z.length:=by simp [Str.length]
 rw [hl] at h1 h4 h5
 have hn:=ZkP
 exact tail_any (typeIs_str s z t) slot_str_getitem.lookup (getItem_str (c:=c) (by
  have e1:decide (i < -(2 ^ 63:Int))=false:=decide_eq_false (by omega)
  have e2:decide (i≥2 ^ 63)=false:=decide_eq_false (by omega)
  rw [e1,e2,Bool.or_false]) (by rw [h1];simpa using h2) ⟨.str ⟨#[c]⟩,H,I.tok _,⟨_,rfl⟩,q⟩) hs
theorem ZpS (its:List Value) (n j:Nat) (u:Value):Obj.mapSeq (·.setIfInBounds j u) { cls:=.type "list",data:=.seq its.toArray n }={ cls:=.type "list",data:=.seq (its.set j u).toArray n }:=by
 simp [Obj.mapSeq]
theorem Inv.lst {pins:List (Addr×Obj)} {σ:St} {H:Hp} {s:Shared} {p:Addr} {xs:List V} (I:Inv X pins σ H s) (h:H p=some (.lst xs)) :
  ∃ (its:List Value) (n:Nat),Vals xs its∧s.heap.get? p=some { cls:=.type "list",data:=.seq its.toArray n }∧xs.length≤sizeLine:=by
 obtain ⟨z,its,n,r,e⟩:=I.hok p _ h
 exact ⟨its,n,r,e,z⟩
theorem Inv.lstUpd {pins:List (Addr×Obj)} {σ:St} {H:Hp} {s:Shared} {p:Addr} {xs ys:List V} {its its':List Value} {n n':Nat} {f:Obj→Obj} (I:Inv X pins σ H s) (h:H p=some (.lst xs))
  (ho:s.heap.get? p=some { cls:=.type "list",data:=.seq its.toArray n }) (hf:f { cls:=.type "list",data:=.seq its.toArray n }={ cls:=.type "list",data:=.seq its'.toArray n' }) (r:Vals ys its') (hz:ys.length≤sizeLine) (t:Nat) :
  Inv X pins σ (upd H p (.lst ys)) { s with heap:=s.heap.update p f,toks:=t }:=by
 have e:(s.heap.update p f).get? p=some { cls:=.type "list",data:=.seq its'.toArray n' }:=by
  rw [Heap.get?_update_self f ho (by rw [hf] <;> rfl),hf]
 refine I.write (x:=p) (e:=p) (by rw [h];trivial) (.inl rfl) (fun b u hb q=>(Heap.get?_update_other _ _ (Ne.symm hb)).trans q) ⟨_,e⟩ ?_
 exact ⟨hz,its',n',r,e⟩
def Zxa:V→V→V→Hp→(Hp→Prop)→Prop:=fun o i v H Q=>∃ p xs k j,o=.ref p∧i=.int k∧H p=some (.lst xs)∧ixN xs.length k=some j∧Q (upd H p (.lst (xs.set j v)))
theorem Zue:ZA7 X Zxa:=by
 intro pins s σ H o i v ov iv u Q I ro ri rv h
 obtain ⟨p,xs,k,j,rfl,rfl,hp,hj,q⟩:=h
 cases ro
 obtain ⟨t,rfl⟩:=ri
 obtain ⟨its,n,r,ho,hz⟩:=I.lst hp
 obtain ⟨h1,h2,h3,h4⟩:=ZqJ hj
 have hl:=r.length
 have hn:=ZkP
 have I':Inv X pins σ (upd H p (.lst (xs.set j v))) { s with heap:=s.heap.update p (Obj.mapSeq (·.setIfInBounds j u)) } :=
  I.lstUpd hp ho (ZpS its n j u) (r.set rv j) (by rw [List.length_set];exact hz) s.toks
 by_cases h0:0≤k
 ·have hk:k.toNat=j:=by
   rw [seqIndex_of h0 h4] at h1
   exact Option.some.inj h1
  exact PySem.W.ki_setAt ho h0 (by omega) (by rw [List.size_toArray,← hl];exact h4) (by rw [hk];exact ⟨_,I',q⟩)
 ·have hk:(k+(its.toArray.size:Int)).toNat=j:=by
   rw [seqIndex_neg (by omega) h3] at h1
   rw [List.size_toArray,← hl]
   exact Option.some.inj h1
  exact PySem.W.ki_setBack ho (by omega) (by rw [List.size_toArray,← hl];exact h3) (by omega) (by rw [hk];exact ⟨_,I',q⟩)
theorem Zns (lo hi:Option Int) (n:Nat):(sliceBounds lo hi none n).1=((HT.sIx n 0 lo:Nat):Int)∧(sliceBounds lo hi none n).2.1=((HT.sIx n n hi:Nat):Int)∧(sliceBounds lo hi none n).2.2=1:=by
 refine ⟨?_,?_,rfl⟩
 ·cases lo with
  | none=>simp [sliceBounds,HT.sIx]
  | some i =>
   simp only [sliceBounds,HT.sIx,Option.getD_none,show (1:Int) > 0 by decide,if_true]
   by_cases h:i < 0
   ·simp only [h,if_true] <;> omega
   ·simp only [h,if_false] <;> omega
 ·cases hi with
  | none=>simp [sliceBounds,HT.sIx]
  | some i =>
   simp only [sliceBounds,HT.sIx,Option.getD_none,show (1:Int) > 0 by decide,if_true]
   by_cases h:i < 0
   ·simp only [h,if_true] <;> omega
   ·simp only [h,if_false] <;> omega
theorem ZlS (its:List Value) (lo hi:Option Int):slicePick its.toArray lo hi none=((its.drop (HT.sIx its.length 0 lo)).take (HT.sIx its.length its.length hi - HT.sIx its.length 0 lo)).toArray:=by
 obtain ⟨h1,h2,h3⟩:=Zns lo hi its.toArray.size
 unfold slicePick
 rw [h1,h2,h3]
 simp only [sliceRange_one,pick_run,List.size_toArray] <;> rfl
def ZAQ (K:PySem.W.Frag):V→Option Int→Option Int→Hp→VK→Prop:=fun x lo hi H Q=>∃ a xs,x=.ref a∧SqL K H a xs∧∀ p,H p=none→Q (.ref p) (upd H p (.lst (Zul xs lo hi)))
theorem Zr5:SlR X (ZAQ X.K):=by
 intro pins s σ H x v vl vu lo hi sl Q I rx hs pl pu h
 obtain ⟨a,xs,rfl,hx,q⟩:=h
 cases rx
 obtain ⟨its,r,ht,hz⟩:=I.list hx
 have hlen:=r.length
 refine ⟨"list",_,slot_list_getitem.lookup,ht.isList.typeIs,?_⟩
 refine wpAny_getItem_list_slice ht.isList hs pl pu .none (by simp) ?_ (by rw [List.size_toArray] <;> omega)
 rw [ZlS,← hlen]
 refine ⟨.ref s.heap.objs.size,_,I.laid (t':=s.toks) (o:=.lst (Zul xs lo hi)) (fun b ob q=>Heap.get?_push_of_some _ q) (Nat.le_refl _) ?_,rfl,q _ (I.hok.fresh (Nat.le_refl _))⟩
 exact ⟨Nat.le_trans (Zkd xs lo hi) hz,_,0,(r.drop (HT.sIx xs.length 0 lo)).take (HT.sIx xs.length xs.length hi - HT.sIx xs.length 0 lo),Heap.get?_push_size _ rfl⟩
def Zkz:V→Bool
 | .non=>true
 | .bl _=>true
 | .int _=>true
 | .str _=>true
 | _=>false
def eqV:V→V→Bool
 | .non,.non=>true
 | .bl a,.bl b=>a==b
 | .bl a,.int b=>(if a then 1 else 0)==b
 | .int a,.bl b=>a==(if b then 1 else 0)
 | .int a,.int b=>a==b
 | .str a,.str b=>a==b
 | _,_=>false
theorem Zmp {A:Around} {s:Shared} {y x:V} {u v:Value} (ry:RelV y u) (rx:RelV x v) (fy:Zkz y=true) (fx:Zkz x=true):SeqAt.EqAt A s u v (eqV y x):=by
 cases y with
 | non =>
  cases ry
  cases x with
  | non=>cases rx;exact SeqAt.EqAt.same _
  | bl b=>cases rx;exact SeqAt.EqAt.none_bool b
  | int b=>obtain ⟨t,rfl⟩:=rx;exact SeqAt.EqAt.none_int b t
  | str b=>obtain ⟨t,rfl⟩:=rx;exact SeqAt.EqAt.none_str b t
  | _=>exact absurd (show false=true from fx) Bool.false_ne_true
 | bl a =>
  cases ry
  cases x with
  | non=>cases rx;exact SeqAt.EqAt.bool_none a
  | bl b=>cases rx;exact SeqAt.EqAt.bool_bool a b
  | int b=>obtain ⟨t,rfl⟩:=rx;exact SeqAt.EqAt.bool_int a b t
  | str b=>obtain ⟨t,rfl⟩:=rx;exact SeqAt.EqAt.bool_str a b t
  | _=>exact absurd (show false=true from fx) Bool.false_ne_true
 | int a =>
  obtain ⟨t',rfl⟩:=ry
  cases x with
  | non=>cases rx;exact SeqAt.EqAt.int_none a t'
  | bl b=>cases rx;exact SeqAt.EqAt.int_bool a t' b
  | int b=>obtain ⟨t,rfl⟩:=rx;exact SeqAt.EqAt.int_int a t' b t
  | str b=>obtain ⟨t,rfl⟩:=rx;exact SeqAt.EqAt.int_str a t' b t
  | _=>exact absurd (show false=true from fx) Bool.false_ne_true
 | str a =>
  obtain ⟨t',rfl⟩:=ry
  cases x with
  | non=>cases rx;exact SeqAt.EqAt.str_none a t'
  | bl b=>cases rx;exact SeqAt.EqAt.str_bool a t' b
  | int b=>obtain ⟨t,rfl⟩:=rx;exact SeqAt.EqAt.str_int a t' b t
  | str b=>obtain ⟨t,rfl⟩:=rx;exact SeqAt.EqAt.str_str a t' b t
  | _=>exact absurd (show false=true from fx) Bool.false_ne_true
 | _=>exact absurd (show false=true from fy) Bool.false_ne_true
def eqU (x:V) (u:Value):Bool:=match u with
 | .none=>eqV .non x
 | .bool b=>eqV (.bl b) x
 | .int i _=>eqV (.int i) x
 | .str z _=>eqV (.str z) x
 | _=>false
theorem Zut {x y:V} {u:Value} (r:RelV y u) (f:Zkz y=true):eqU x u=eqV y x:=by
 cases y with
 | non=>cases r;rfl
 | bl b=>cases r;rfl
 | int i=>obtain ⟨t,rfl⟩:=r;rfl
 | str z=>obtain ⟨t,rfl⟩:=r;rfl
 | _=>exact absurd (show false=true from f) Bool.false_ne_true
theorem ZnP {x:V}:∀ {xs:List V} {us:List Value},Vals xs us→xs.all Zkz=true→us.any (eqU x)=xs.any fun y=>eqV y x
 | _,_,.nil,_=>rfl
 | y::xs,u::us,.cons r t,f=>by
  rw [List.all_cons,Bool.and_eq_true] at f
  rw [List.any_cons,List.any_cons,Zut r f.1,ZnP t f.2]
theorem Zlz {A:Around} {s:Shared} {x:V} {v:Value} (rx:RelV x v) (fx:Zkz x=true):∀ {xs:List V} {us:List Value},Vals xs us→xs.all Zkz=true→∀ u∈us,SeqAt.EqAt A s u v (eqU x u)
 | _,_,.nil,_=>fun u hu=>by cases hu
 | y::xs,u::us,.cons r t,f=>fun u' hu=>by
  rw [List.all_cons,Bool.and_eq_true] at f
  rcases List.mem_cons.mp hu with rfl | hu
  ·rw [Zut r f.1];exact Zmp r rx f.1 fx
  ·exact Zlz rx fx t f.2 u' hu
def inV (x:V) (xs:List V):Bool:=xs.any fun y=>eqV y x
def rIn (K:PySem.W.Frag) (neg:Bool):R2:=fun x y H Q=>∃ p xs,y=.ref p∧(SqL K H p xs∨SqT K H p xs)∧Zkz x=true∧xs.all Zkz=true∧Q (.bl (if neg then !inV x xs else inV x xs)) H
theorem ZrM:OpR X (compareOp .In) (rIn X.K false):=by
 walk_at "pb"
 obtain ⟨p,xs,rfl,hq,fx,fs,q⟩:=h
 cases ry
 rcases hq with hq | hq
 ·obtain ⟨its,r,pl,hz⟩:=I.list hq
  refine SeqAt.in_listAt (eqU x) pl.isList (fun w hw=>Zlz rx fx r fs w (by simpa using hw)) ⟨.bl _,H,I,rfl,?_⟩
  rw [show its.toArray.any (eqU x)=its.any (eqU x) by simp,ZnP r fs]
  exact q
 ·obtain ⟨its,r,pl,hz⟩:=I.tuple hq
  refine SeqAt.in_tupleAt (eqU x) pl (fun w hw=>Zlz rx fx r fs w (by simpa using hw)) ⟨.bl _,H,I,rfl,?_⟩
  rw [show its.toArray.any (eqU x)=its.any (eqU x) by simp,ZnP r fs]
  exact q
theorem CallR.or {f:Value} {r r':List V→Hp→VK→Prop} (h:CallR X f r) (h':CallR X f r'):CallR X f (fun xs H Q=>r xs H Q∨r' xs H Q):=by
 intro pins s σ H xs us Q I rs q
 rcases q with q | q
 ·exact h pins s σ H xs us Q I rs q
 ·exact h' pins s σ H xs us Q I rs q
theorem ZmP:CallR X (.type "list") (fun xs H Q=>∃ p ys,xs=[.ref p]∧(SqL X.K H p ys∨SqT X.K H p ys)∧∀ l,H l=none→Q (.ref l) (upd H l (.lst ys))):=by
 intro pins s σ H xs us Q I r h
 obtain ⟨p,ys,rfl,hq,q⟩:=h
 obtain ⟨u,rfl,rx⟩:=Zoi r
 cases rx
 have fin:∀ (its:List Value),Vals ys its→ys.length≤sizeLine→∀ (h':Heap) (c':Nat),(∀ b o',s.heap.get? b=some o'→h'.get? b=some o') →
   h'.get? s.heap.objs.size=some { cls:=.type "list",dict:=none,data:=.seq its.toArray c',slots:=#[] }→EP X pins σ Q (.ref s.heap.objs.size) { s with heap:=h' }:=fun its r' hz h' c' kp e =>
  ⟨.ref s.heap.objs.size,_,I.laid (t':=s.toks) kp (Nat.le_refl _) (show ObjOk X.prog X.w _ h' _ (.lst ys) from ⟨hz,its,c',r',e⟩),rfl,q _ (I.hok.fresh (Nat.le_refl _))⟩
 rcases hq with hq | hq
 ·obtain ⟨its,r',pl,hz⟩:=I.list hq
  have hlen:=r'.length
  obtain ⟨o,ho,hc,n,hd⟩:=pl.isList
  exact call_list_seq p (.inl rfl) ho hc hd (fun h' c' kp e=>fin its r' hz h' c' kp e) (by simp only [List.size_toArray] <;> omega)
 ·obtain ⟨its,r',pl,hz⟩:=I.tuple hq
  have hlen:=r'.length
  obtain ⟨o,ho,hc,n,hd⟩:=pl
  exact call_list_seq p (.inr rfl) ho hc hd (fun h' c' kp e=>fin its r' hz h' c' kp e) (by simp only [List.size_toArray] <;> omega)
theorem ZlH:CallR X (.type "tuple") (fun xs H Q=>∃ p ys,xs=[.ref p]∧((SqL X.K H p ys∧∀ l,H l=none→Q (.ref l) (upd H l (.tup ys)))∨(SqT X.K H p ys∧Q (.ref p) H))):=by
 intro pins s σ H xs us Q I r h
 obtain ⟨p,ys,rfl,h⟩:=h
 obtain ⟨u,rfl,rx⟩:=Zoi r
 cases rx
 rcases h with ⟨hq,q⟩ | ⟨hq,q⟩
 ·obtain ⟨its,r',pl,hz⟩:=I.list hq
  have hlen:=r'.length
  refine call_tuple_list pl.isList (fun h' kp=>?_) (by simp only [List.size_toArray] <;> omega)
  have I1:Inv X pins σ H { s with heap:=h' }:=I.kept (t':=s.toks) kp
  have I2:Inv X pins σ (upd H h'.objs.size (.tup ys)) { s with heap:=h'.push { cls:=.type "tuple",data:=.seq its.toArray } } :=
   I1.laid (t':=s.toks) (fun b o e=>Heap.get?_push_of_some _ e) (Nat.le_refl _) (show ObjOk X.prog X.w _ _ _ (.tup ys) from ⟨hz,its,r',IsTup.new _ _⟩)
  exact ⟨.ref h'.objs.size,_,I2,rfl,q _ (I1.hok.fresh (Nat.le_refl _))⟩
 ·obtain ⟨its,r',pl,hz⟩:=I.tuple hq
  exact call_tuple_same pl ⟨.ref p,H,I,rfl,q⟩
def tyV (K:PySem.W.Frag) (T:String) (x:V) (H:Hp):Prop:=match x with
 | .str _=>T="str"
 | .int _=>T="int"
 | .ref p=>(T="list"∧∃ xs,SqL K H p xs)∨(T="tuple"∧∃ o,K.lookup p=some o∧o.cls=.type "tuple"∧o.dict=none) ∨
   (T="dict"∧((∃ kvs,H p=some (.dK kvs))∨∃ kvs,H p=some (.dT kvs)))∨(T="set"∧∃ S n,H p=some (.set S n))
 | _=>False
theorem Zy7 {pins:List (Addr×Obj)} {σ:St} {H:Hp} {s:Shared} {T:String} {x:V} {v:Value} (I:Inv X pins σ H s) (r:RelV x v) (ty:tyV X.K T x H) :
  s.TypeIs v T∧∀ a,v=.ref a→∃ ob,s.heap.get? a=some ob∧ob.dict=none:=by
 cases x with
 | str z =>
  obtain ⟨t,rfl⟩:=r
  cases (show T="str" from ty)
  exact ⟨typeIs_str s z t,fun _ e=>nomatch e⟩
 | int i =>
  obtain ⟨t,rfl⟩:=r
  cases (show T="int" from ty)
  exact ⟨typeIs_int s i t,fun _ e=>nomatch e⟩
 | ref p =>
  cases r
  rcases ty with ⟨rfl,xs,hq⟩ | ⟨rfl,o,hk,hc,hd⟩ | ⟨rfl,hk⟩ | ⟨rfl,S,n,hk⟩
  ·obtain ⟨its,_,pl,_⟩:=I.list hq
   refine ⟨pl.isList.typeIs,fun a e=>?_⟩
   cases e
   obtain ⟨o,n,e,c,hd,_⟩:=pl
   exact ⟨o,e,hd⟩
  ·refine ⟨⟨o,I.kIn p o hk,hc⟩,fun a e=>?_⟩
   cases e
   exact ⟨o,I.kIn _ o hk,hd⟩
  ·have z:∃ o,s.heap.get? p=some o∧o.ExactDict:=by
    rcases hk with ⟨kvs,hk⟩ | ⟨kvs,hk⟩
    ·obtain ⟨_,_,_,_,o,_,_,e,ex,_⟩:=I.hok p _ hk
     exact ⟨o,e,ex⟩
    ·obtain ⟨_,_,_,_,o,_,_,e,ex,_⟩:=I.hok p _ hk
     exact ⟨o,e,ex⟩
   obtain ⟨o,e,ex⟩:=z
   refine ⟨⟨o,e,ex.1⟩,fun a e2=>?_⟩
   cases e2
   exact ⟨o,e,ex.2.1⟩
  ·obtain ⟨o,_,_,_,e,ex,_⟩:=I.hok p _ hk
   refine ⟨⟨o,e,ex.1⟩,fun a e2=>?_⟩
   cases e2
   exact ⟨o,e,ex.2.1⟩
 | _=>exact False.elim ty
def tBM (K:PySem.W.Frag) (T:String) (r:V→List V→Hp→VK→Prop) (to:TE) (t:TA):TE:=fun σ H Q=>to σ H fun x H1=>tyV K T x H1∧t σ H1 fun xs H2=>r x xs H2 Q
variable {o e:Expr} {es:List Expr} {to:TE} {t:TA} {name:Str} {apos cpos:Pos} {T id:String} {r:V→List V→Hp→VK→Prop}
theorem ZAx (pa:PlainAttrs T) (slot:Slot T name id) (hty:typeOf (.builtin id)=pure (.type "method_descriptor")) (hm:MtR X id r) (ho:PE X o to) (ha:PA X (e::es) t)
  (hbase:attributeBase o name X.env (eval o X.env)=eval o X.env:=by rfl)
  (hfew:((backTo cpos (starEach (e::es) X.env)).all (fun x=>!x.1)&&(backToKw cpos (keywordEach [] X.env)).all (fun x=>x.1.isSome)
   && decide ((e::es).length+([]:List Keyword).length+(if ([]:List Keyword).isEmpty then 0 else 1) < 30))=true:=by rfl)
  (hline:(apos.endLine==cpos.line)=true:=by rfl) (hs:starEach (e::es) X.env=(false,eval e X.env)::starEach es X.env:=by rfl) (hplain:(backTo cpos (starEach es X.env)).any (·.1)=false:=by rfl) :
  PE X (.Call (.Attribute o name apos) (e::es) [] cpos) (tBM X.K T r to t):=by
 intro pins s σ H Q I h
 refine wpAny_Call_method_late hbase hfew hline rfl (thn (ho pins s σ H _ I h) fun v s1 zz51=>?_)
 obtain ⟨x,H1,I1,r1,ty,q1⟩:=zz51
 obtain ⟨h1,h2⟩:=Zy7 I1 r1 ty
 refine ⟨T,id,pa,slot,hty,h1,h2,?_⟩
 have hA:=ha cpos pins s1 σ H1 _ I1 q1
 rw [hs] at hA ⊢
 refine Calls.callWith_builtin (by show (false||(backTo cpos (starEach es X.env)).any (·.1))=false;rw [hplain] <;> rfl) (Calls.evalArgs_plain ?_)
 exact thn hA (by rintro us s2 ⟨vs,H2,I2,r2,q2⟩;exact hm pins s2 σ H2 x vs v us Q I2 r1 r2 q2)
end
def MtM (X:Cx) (id:String) (r:V→List V→Hp→VK→Prop):Prop :=
 ∀ (pins:List (Addr×Obj)) (s:Shared) (σ:St) (H:Hp) (x:V) (xs:List V) (v:Value) (us:List Value) (Q:VK),Inv X pins σ H s→RelV x v→Vals xs us→r x xs H Q →
  wpAny (model X.prog X.w) X.A (call (.builtin id) (v::us)) (EP X pins σ Q) X.xe s
theorem Vals.one:∀ {x:V} {us:List Value},Vals [x] us→∃ u,us=[u]∧RelV x u
 | _,_,.cons r .nil=>⟨_,rfl,r⟩
theorem Vals.two:∀ {x y:V} {us:List Value},Vals [x,y] us→∃ u v,us=[u,v]∧RelV x u∧RelV y v
 | _,_,_,.cons r (.cons q .nil)=>⟨_,_,rfl,r,q⟩
theorem Vals.zero:∀ {us:List Value},Vals [] us→us=[]
 | _,.nil=>rfl
theorem Vals.eraseIdx:∀ {xs:List V} {us:List Value} (i:Nat),Vals xs us→Vals (xs.eraseIdx i) (us.eraseIdx i)
 | _,_,_,.nil=>.nil
 | _,_,0,.cons _ t=>t
 | _,_,i+1,.cons r t=>.cons r (Vals.eraseIdx i t)
section
variable {X:Cx} {pins:List (Addr×Obj)} {σ:St} {H:Hp} {s:Shared} {l b:Addr} {xs ys zs:List V}
theorem Inv.lset {its its':List Value} {n:Nat} {f:Array Value→Array Value} {t':Nat} (I:Inv X pins σ H s) (hH:H l=some (.lst xs))
  (e:s.heap.get? l=some { cls:=.type "list",data:=.seq its.toArray n }) (hf:f its.toArray=its'.toArray) (hv:Vals ys its') (hz:ys.length≤sizeLine) :
  Inv X pins σ (upd H l (.lst ys)) { s with heap:=s.heap.update l (Obj.mapSeq f),toks:=t' }:=by
 have q:=PySem.IsL.update e f
 rw [hf] at q
 refine I.write (x:=l) (e:=l) (by rw [hH];exact trivial) (.inl rfl) (fun b' u hb hu=>(Heap.get?_update_other s.heap (Obj.mapSeq f) (Ne.symm hb)).trans hu) ⟨_,q⟩ ?_
 exact ⟨hz,its',_,hv,q⟩
theorem Inv.lnew {its:List Value} {t':Nat} (I:Inv X pins σ H s) (hv:Vals ys its) (hz:ys.length≤sizeLine) :
  Inv X pins σ (upd H s.heap.objs.size (.lst ys)) { s with heap:=s.heap.push { cls:=.type "list",data:=.seq its.toArray },toks:=t' } :=
 I.laid (fun _ _ q=>Heap.get?_push_of_some _ q) (Nat.le_refl _) ⟨hz,its,0,hv,Heap.get?_push_size _ rfl⟩
theorem Inv.fresh (I:Inv X pins σ H s):H s.heap.objs.size=none:=I.hok.fresh (Nat.le_refl _)
theorem Inv.lstM (I:Inv X pins σ H s) (hH:H l=some (.lst xs)):xs.length≤sizeLine∧∃ (its:List Value) (n:Nat),Vals xs its∧xs.length=its.length∧s.heap.get? l=some { cls:=.type "list",data:=.seq its.toArray n }:=by
 obtain ⟨z,its,n,r,e⟩:=I.hok l _ hH
 exact ⟨z,its,n,r,r.length,e⟩
theorem Ztx {n:Nat} (h:n≤sizeLine):Builtin.List.listTooLong n=false:=by
 unfold Builtin.List.listTooLong
 exact decide_eq_false (by omega)
end
section
variable {X:Cx}
def ZwO:V→List V→Hp→VK→Prop:=fun x vs H Q=>∃ l xs y,x=.ref l∧vs=[y]∧H l=some (.lst xs)∧xs.length < sizeLine∧Q .non (upd H l (.lst (xs++[y])))
theorem Zsi:MtM X "list.append" ZwO:=by
 intro pins s σ H x vs v us Q I rx rv h
 obtain ⟨l,xs,y,rfl,rfl,hH,hz,q⟩:=h
 cases rx
 obtain ⟨u,rfl,ru⟩:=rv.one
 obtain ⟨z,its,n,r,hl,e⟩:=I.lstM hH
 refine call_meets F.slot_list_append ⟨_,e,rfl⟩ F.entry_list_append (F.args_list_append_2 _ _) (PySem.list_append l its.toArray n u (by rw [List.size_toArray];omega)) ⟨e,?_⟩
 refine ⟨.non,_,I.lset (its':=its++[u]) hH e (by simp) (r.append (.cons ru .nil)) ?_,rfl,q⟩
 rw [List.length_append,List.length_singleton]
 omega
def Zvs:V→List V→Hp→VK→Prop:=fun x vs H Q=>∃ l b xs zs,x=.ref l∧vs=[.ref b]∧H l=some (.lst xs)∧H b=some (.lst zs)∧xs.length+zs.length≤sizeLine∧Q .non (upd H l (.lst (xs++zs)))
theorem Zsn:MtM X "list.extend" Zvs:=by
 intro pins s σ H x vs v us Q I rx rv h
 obtain ⟨l,b,xs,zs,rfl,rfl,hH,hB,hz,q⟩:=h
 cases rx
 obtain ⟨u,rfl,ru⟩:=rv.one
 cases ru
 obtain ⟨z,its,n,r,hl,e⟩:=I.lstM hH
 obtain ⟨z2,its2,n2,r2,hl2,e2⟩:=I.lstM hB
 have hsz:its.toArray.size+its2.toArray.size≤sizeLine:=by rw [List.size_toArray,List.size_toArray];omega
 have hlong:¬ (!its.toArray.isEmpty&&Builtin.List.listTooLong (its.toArray.size+its2.toArray.size))=true:=by
  rw [Ztx hsz,Bool.and_false]
  exact Bool.false_ne_true
 refine call_meets F.slot_list_extend ⟨_,e,rfl⟩ F.entry_list_extend (F.args_list_extend_2 _ _)
  (AutoSeq1.list_extend_list_list_0 l its.toArray n b its2.toArray n2 hlong (by rw [List.size_toArray];omega) (by omega)) ⟨e,e2,?_⟩
 refine ⟨.non,_,I.lset (its':=its++its2) hH e (by simp) (r.append r2) ?_,rfl,q⟩
 rw [List.length_append]
 omega
def Zzf:R2:=fun x y H Q=>∃ l b xs zs,x=.ref l∧y=.ref b∧H l=some (.lst xs)∧H b=some (.lst zs)∧xs.length+zs.length≤sizeLine∧∀ p,H p=none→Q (.ref p) (upd H p (.lst (xs++zs)))
theorem Zys:OpR X (binaryOp .Add) Zzf:=by
 walk_at "pb"
 obtain ⟨l,b,xs,zs,rfl,rfl,hH,hB,hz,q⟩:=h
 cases rx
 cases ry
 obtain ⟨z,its,n,r,hl,e⟩:=I.lstM hH
 obtain ⟨z2,its2,n2,r2,hl2,e2⟩:=I.lstM hB
 refine PySem.P.add_list e e2 ?_ (by rw [List.size_toArray,List.size_toArray];omega)
 have ea:its.toArray++its2.toArray=(its++its2).toArray:=by simp
 rw [ea]
 exact ⟨.ref _,_,I.lnew (t':=s.toks) (r.append r2) (by rw [List.length_append];omega),rfl,q _ I.fresh⟩
end
section
variable {prog:Program} {w:World} {A:Around} {E:Value→Shared→Prop} {s:Shared}
end
section
variable {X:Cx}
end
end L2
namespace Att
open PySem PySem.W PySem.Calls PyProof.Rows
theorem Zj6 {P:Params} {h:Heap}:∀ (ns:List Int) (vs:List Value),WellAll P h vs (ns.map WData.int)→IntsAre vs ns:=by
 intro ns
 induction ns with
 | nil =>
  intro vs w
  rw [List.map_nil] at w
  cases w
  exact .nil
 | cons n ns ih =>
  intro vs w
  rw [List.map_cons] at w
  cases w with
  | cons a b =>
   cases a
   exact .cons _ _ (ih _ b)
theorem Zsf {l:OpenLaw} {n:Nat} (hn:l.most=some n) {P:Params} {h:Heap} {args:List WData} {vals:List Value}
  (hpre:l.row.toRowW.claim.pre args=true) (hwl:WellAll P h vals args) :
  ∃ a vs ns,vals=[Value.ref a]∧args=[WData.list (ns.map WData.int)]∧h.get? a=some { cls:=.type "list",data:=.seq vs.toArray }∧IntsAre vs ns∧ns.length≤n:=by
 have hsh:WShape.hasAll [] args [.list .int]=true:=(pre_splitW hpre).1
 have hc:l.pre.holds [] { args:=args }=true:=(pre_splitW hpre).2
 obtain ⟨d,r,rfl,h1,h2⟩:=hasAllW_cons hsh
 obtain rfl:=hasAllW_nil h2
 obtain ⟨xs,rfl,h3⟩:=hasW_list h1
 obtain ⟨ns,rfl⟩:=items_int h3
 have hlen:ns.length≤n:=by
  unfold OpenLaw.pre at hc
  have h4:(WTm.not (.lt (.lit (.int (n:Int))) (.len (.arg 0)))).holds [] { args:=[.list (ns.map .int)] }=true:=by
   have h4:=(holds_andW hc).1
   rw [hn] at h4
   exact h4
  have h5:=condW_of h4 (w_not (w_lt w_lit (w_len_list (w_arg rfl))))
  rw [List.length_map] at h5
  refine Nat.le_of_not_lt fun q=>?_
  have q':(n:Int) < ((ns.length:Nat):Int):=by omega
  first
   | (rw [decide_eq_true q'] at h5;exact absurd h5 (by decide))
   | (simp at h5;omega)
 cases hwl with
 | cons w1 w2 =>
  cases w2
  cases w1 with
  | list ho hall=>exact ⟨_,_,ns,rfl,rfl,ho,Zj6 ns _ hall,hlen⟩
theorem Zra (l:OpenLaw) (args:List WData):l.row.toRowW.claim.post args (.bool true) args=true :=
 postW_of (r:=l.row.toRowW) (X:=(true==true))
  (show WShape.has [] (.bool true) .bool=true by first | rfl | decide | simp [WShape.has,WShape.arms,WShape.armsAll])
  (show (WTm.eq .res (.lit (.bool true))).value [] { args:=args,res:=some (.bool true),after:=args }=some (.bool (true==true)) from w_eq_bool (w_res rfl) w_lit) rfl
theorem attach_call {l:OpenLaw} {n:Nat} {q:Program} {loose:List Str} {XP:(Str→Option Value)→Heap→Prop} {YP:World→Heap→Prop} {d:DefRec}
  (hn:l.most=some n) (hdf:d.params.defaults=[])
  (call:∀ (w:World) (s₀ s₁:Shared) (mg mb:Str→Option Value) (fa:Addr) (o:Obj) (pm cd doc:Value) (a:Addr) (vs:List Value) (ns:List Int),
   Ground q loose [] XP w s₀ mg mb s₁.heap→YP w s₁.heap →
   s₁.heap.get? fa=some o→o.data=.func (docDef d.name d.params d.body d.scope pm cd doc)→s₁.heap.CodeRec cd d.name→mg d.name=some (.ref fa) →
   s₁.heap.get? a=some { cls:=.type "list",data:=.seq vs.toArray }→IntsAre vs ns→ns.length≤n→s₁.gens=#[] →
   codeAny (model l.prog w) callerA (.call (.ref fa) ⟨[.ref a],[]⟩) (fun r s'=>r=.ok (.ret (.bool true))∧OldK s₁.heap s'.heap∧s'.os=s₁.os∧AllBare s'.gens) s₁) :
  WalkO q loose XP YP l.row.toRowW d [] (fun f vs=>PySem.call f vs):=by
 intro w s₀ s₁ mg mb G Y fa o pm cd doc dV kV ho hd hcd hD hmg hg args vals as hpre hlay hrd hwl hlo
 obtain rfl:dV=.none:=Dflts.none hD hdf
 obtain rfl:kV=.none:=Dflts.noKw hD
 obtain ⟨a,vs,ns,rfl,rfl,hobj,hints,hlen⟩:=Zsf hn hpre hwl
 refine enter_call (codeAny_mono (call w s₀ s₁ mg mb fa o pm cd doc a vs ns G Y ho (fd_plain hd) hcd hmg hobj hints hlen hg) fun r s' hq=>?_)
 obtain ⟨rfl,h2,h3,h4⟩:=hq
 exact ⟨.inl ⟨.bool true,.bool true,[],rfl,fun _=>rfl,.bool true,Zra l _,fun _=>⟨List.Pairwise.nil,fun _ hm=>(nomatch hm)⟩⟩,h2,h3,h4⟩
section
variable {prog:Program} {w:World} {A:Around} {E:Value→Shared→Prop} {s:Shared} {K:Frag}
end
end Att
namespace L2
open PySem PySem.Spec PyProof.Rows
theorem ZmF:∀ {vs:List Value} {ns:List Int},IntsAre vs ns→Vals (ns.map V.int) vs
 | _,_,.nil=>.nil
 | _,_,.cons n t h=>.cons ⟨t,rfl⟩ (ZmF h)
def ZzE (H:Hp):Prop:=∀ b,H b=none∨∃ o xs,H b=some (.frz o (.lst xs))
theorem Ztd {P:Program} {w:World} {K:PySem.W.Frag} {mg mb:Str→Option Value} {CX:CXT} {k:Nat} {fa a:Addr} {fd:FuncData} {x:Str} {sp:Sp} {s₁:Shared} {vs:List Value} {ns:List Int}
  (KX:K.In s₁.heap) (hns:s₁.heap.Ns mainGlobals mg) (hb:s₁.heap.Ns builtinsNs mb) (hbb:∀ x:Str,x≠"__name__"→mb x=bootBuiltins x) (hlim:s₁.heap.NoLimit) (hg:s₁.gens=#[])
  (ha:s₁.heap.get? a=some { cls:=.type "list",data:=.seq vs.toArray }) (hi:IntsAre vs ns) (hl:ns.length≤sizeLine) (hr:Room k callerA)
  (F:∀ base:Heap,K.In base→base.Ns mainGlobals mg→FnOk P w K mg base CX k fa fd [x] sp) (hbind:∀ (s:Shared) (u:Value),BindsTo s fd ⟨[u],[]⟩ [(x,u)])
  (hsp:∀ H:Hp,ZzE H→SqL K H a (ns.map V.int)→sp [.ref a] H (fun v _=>v=.bl true) fun _ _ _=>False)
  (hCX:∀ H e s',CX [] H s₁ (fun _ _ _=>False) e s'→False) :
  codeAny (model P w) callerA (.call (.ref fa) ⟨[.ref a],[]⟩) (fun r s'=>r=.ok (.ret (.bool true))∧OldK s₁.heap s'.heap∧s'.os=s₁.os∧AllBare s'.gens) s₁:=by
 have rv:=ZmF hi
 have lenV:=hi.length
 have core:∀ H:Hp,ZzE H→SqL K H a (ns.map V.int)→HOk P w H s₁.heap→(∀ b,H b≠none→b=a)→(H a≠none→K.lookup a=none) →
   codeAny (model P w) callerA (.call (.ref fa) ⟨[.ref a],[]⟩) (fun r s'=>r=.ok (.ret (.bool true))∧OldK s₁.heap s'.heap∧s'.os=s₁.os∧AllBare s'.gens) s₁:=by
  intro H hO hS hok hA hK
  have base_of:∀ {b:Addr} {o:Obj},s₁.heap.get? b=some o→H b=none→(Ztn s₁.heap H).get? b=some o:=fun e n=>Zt2 e n
  have noA:∀ {b:Addr} {o:Obj} {es:Array DictEntry} {ep:Nat},s₁.heap.get? b=some o→o.data=.dict es ep→H b=none:=fun {b o es ep} e d=>by
   cases q:H b with
   | none=>rfl
   | some u =>
    have e':b=a:=hA b (by rw [q];simp)
    subst e'
    rw [ha] at e;cases e
    have d':Data.seq vs.toArray _=Data.dict es ep:=d
    cases d'
  have nsK:∀ {b:Addr} {m:Str→Option Value},s₁.heap.Ns b m→(Ztn s₁.heap H).Ns b m:=fun {b m} ⟨o,es,ep,e,d,r⟩=>⟨o,es,ep,base_of e (noA e d),d,r⟩
  have hKb:K.In (Ztn s₁.heap H):=fun b o e=>base_of (KX b o e) (by
   cases q:H b with
   | none=>rfl
   | some u =>
    have e':b=a:=hA b (by rw [q];simp)
    subst e'
    rw [hK (by rw [q];simp)] at e;cases e)
  have hM:Mod K mg (Ztn s₁.heap H):=⟨hKb,nsK hns,⟨mb,nsK hb,hbb⟩,let ⟨mc,h1,h2⟩:=hlim;⟨mc,nsK h1,h2⟩⟩
  have e0:Env0 P w K mg (Ztn s₁.heap H) callerA [] s₁ H:=⟨rfl,hM,fun b o e=>ZwM e,Nat.le_of_eq (ZqU _ _),trivial,fun b hb=>absurd (show b∈([]:List Addr) from hb) (by simp),hok,.of_eq hg⟩
  refine codeAny_mono ((F _ hKb (nsK hns)).run callerA [] s₁ H ⟨[.ref a],[]⟩ [.ref a] [.ref a] _ _ hr e0 (hbind s₁ (.ref a)) (.cons rfl .nil) (hsp H hO hS)) fun r s' h=>?_
  cases r with
  | error e=>exact (hCX H e s' h).elim
  | ok fl =>
   cases fl with
   | next=>exact False.elim h
   | brk=>exact False.elim h
   | cont=>exact False.elim h
   | ret u =>
    obtain ⟨v,H',os,bare,un,hok',r',q⟩:=h
    have q':v=.bl true:=q
    subst q'
    obtain rfl:u=Value.bool true:=r'
    refine ⟨rfl,OldK.of_keep fun b o e=>?_,os,bare⟩
    cases q:H b with
    | none=>exact un.keep b o e q (by intro z;exact absurd (show b∈([]:List Addr) from z) (by simp)) (by simp)
    | some u =>
     rcases hO b with z | ⟨ob,xs,z⟩
     ·rw [q] at z;cases z
     ·have z2:=un.frzs b ob _ z
      obtain ⟨e1,_⟩:=hok b _ z
      obtain ⟨e2,_⟩:=hok' b _ z2
      rw [e] at e1;cases e1
      exact e2
 cases hk:K.lookup a with
 | some o =>
  have e:=KX a o hk
  rw [ha] at e
  cases e
  refine core (fun _=>none) (fun _=>.inl rfl) (.inr ⟨_,vs.toArray,_,hk,rfl,rfl,rfl,by rw [List.size_toArray,lenV];exact hl,by simpa using rv⟩) (fun b u z=>by have z':(none:Option HO)=some u:=z;cases z') (fun b z=>absurd rfl z) fun z=>absurd rfl z
 | none =>
  refine core (fun b=>if b=a then some (.frz { cls:=.type "list",data:=.seq vs.toArray } (.lst (ns.map V.int))) else none) (fun b=>?_) (.inl (.inr ⟨{ cls:=.type "list",data:=.seq vs.toArray },if_pos rfl⟩)) (fun b u z=>?_) (fun b z=>?_) fun _=>hk
  ·by_cases hb:b=a
   ·exact .inr ⟨_,_,if_pos hb⟩
   ·exact .inl (if_neg hb)
  ·by_cases hb:b=a
   ·have z':=(if_pos hb).symm.trans z
    cases z'
    subst hb
    exact ⟨ha,by rw [List.length_map];exact hl,vs,_,rv,ha⟩
   ·have z':=(if_neg hb).symm.trans z
    cases z'
  ·by_cases hb:b=a
   ·exact hb
   ·exact absurd (if_neg hb) z
abbrev KOf {K:PySem.W.Frag} {h:Heap} (_:K.In h):PySem.W.Frag:=K
theorem ZvW {l:PySem.W.OpenLaw} {n k:Nat} {q:Program} {loose:List Str} {XP:(Str→Option Value)→Heap→Prop} {YP:World→Heap→Prop} {d:DefRec} {K:Params→PySem.W.Frag} {CX:World→CXT} {sp:World→Sp} {x:Str}
  (hn:l.most=some n) (hn2:n≤sizeLine) (hdf:d.params.defaults=[]) (hr:Room k callerA)
  (hY:∀ (w:World) (h:Heap),YP w h→(K w.params).In h)
  (F:∀ (w:World) (mg:Str→Option Value) (fa:Addr) (h:Heap),(K w.params).In h→h.Ns mainGlobals mg→mg d.name=some (.ref fa) →
   ∃ fd:FuncData,(∀ (s:Shared) (u:Value),BindsTo s fd ⟨[u],[]⟩ [(x,u)]) ∧
    ∀ base:Heap,(K w.params).In base→base.Ns mainGlobals mg→FnOk l.prog w (K w.params) mg base (CX w) k fa fd [x] (sp w))
  (hsp:∀ (w:World) (H:Hp) (a:Addr) (ns:List Int),ns.length≤n→ZzE H→SqL (K w.params) H a (ns.map V.int)→sp w [.ref a] H (fun v _=>v=.bl true) fun _ _ _=>False)
  (hCX:∀ (w:World) (H:Hp) (s:Shared) (e:Value) (s':Shared),CX w [] H s (fun _ _ _=>False) e s'→False) :
  PySem.W.WalkO q loose XP YP l.row.toRowW d [] (fun f vs=>PySem.call f vs):=by
 refine Att.attach_call hn hdf fun w s₀ s₁ mg mb fa o pm cd doc a vs ns G Y ho hd hcd hmg hobj hints hlen hg=>?_
 have KX:=hY w _ Y
 obtain ⟨fd,hb,hF⟩:=F w mg fa _ KX G.T.g hmg
 exact Ztd KX G.T.g G.T.b G.T.builtins G.T.nolimit hg hobj hints (Nat.le_trans hlen hn2) hr hF hb (fun H hO hS=>hsp w H a ns hlen hO hS) fun H e s'=>hCX w H s₁ e s'
abbrev CX0:CXT:=fun _ _ _ _ _ _=>False
structure Fun (K:PySem.W.Frag) (x qual:Str) (st:Stmt) (f:Addr) (fd:FuncData):Prop where
 ex:∃ (oc:Value) (od:Option Addr) (kV doc pm:Value) (an:Option Addr) (cdv ct:Value) (osl:Array (Option Value)),
  fd=PySem.W.fnOf x qual (ZgL st) (Zcr st) (Zag st) .none kV doc pm an cdv ct∧K.lookup f=some ⟨oc,od,.func fd,osl⟩∧PySem.W.codeIn K cdv qual=true
 kp:PySem.W.keepIn K (.ref f)=true
section
variable {P:Program} {w:World} {K:PySem.W.Frag} {mg:Str→Option Value} {base:Heap}
theorem Fun.ok {x qual:Str} {st:Stmt} {f:Addr} {fd:FuncData} {N ps:List Str} {k:Nat} {sp:Sp} (F:Fun K x qual st f fd) (S:Zau N ps (Zag st)) (len:∀ vs H Q E,sp vs H Q E→vs.length=ps.length)
  (hbody:∀ (cdv:Value) (A:Around) (outer:List Env) (s:Shared) (H:Hp) (vs:List V) (Q:VK) (E:XK),Room k (A.deeper (envOfC qual (Zag st) s.heap.objs.size f cdv))→sp vs H Q E →
   ∃ t,PSs (Zi0 CX0 P w K mg base N qual (Zag st) f cdv A outer s H E).nox (Zcr st) t∧t { nx:=fun _ H'=>Q .non H',rt:=Q } (Zjs N vs) H):FnOk P w K mg base CX0 (k+1) f fd ps sp:=by
 walk_at "ps"
 refine ZtO lk hcd S len fun A outer s H vs Q E hr hsp=>?_
 obtain ⟨t,h,q⟩:=hbody cdv A outer s H vs Q E hr hsp
 exact ⟨t,h.nox,q⟩
theorem Fun.binds {x qual:Str} {st:Stmt} {f:Addr} {fd:FuncData} {ps:List Str} (F:Fun K x qual st f fd)
  (h:∀ (kV doc pm:Value) (an:Option Addr) (cdv ct:Value) (us:List Value),us.length=ps.length→bindArgs (PySem.W.fnOf x qual (ZgL st) (Zcr st) (Zag st) .none kV doc pm an cdv ct) ⟨us,[]⟩=pure (ps.zip us)):Binds K fd ps []:=by
 walk_at "ps"
 exact .all (h kV doc pm an cdv ct)
theorem ZuR {x qual:Str} {st:Stmt} {f:Addr} {oc:Value} {od an:Option Addr} {osl:Array (Option Value)} {kV doc pm cdv ct:Value} (l:K.lookup f=some ⟨oc,od,.func (PySem.W.fnOf x qual (ZgL st) (Zcr st) (Zag st) .none kV doc pm an cdv ct),osl⟩)
  (c:PySem.W.codeIn K cdv qual=true) (k:PySem.W.keepIn K (.ref f)=true):Fun K x qual st f (PySem.W.fnOf x qual (ZgL st) (Zcr st) (Zag st) .none kV doc pm an cdv ct):=⟨⟨oc,od,kV,doc,pm,an,cdv,ct,osl,rfl,l,c⟩,k⟩
end
section
variable {X:Cx}
end
theorem ZAv {c A B:Prop} [Decidable c] (h1:c→A) (h2:¬ c→B):if c then A else B:=by
 by_cases h:c
 ·rw [if_pos h]
  exact h1 h
 ·rw [if_neg h]
  exact h2 h
def Same (H H':Hp):Prop:=∀ b o,H b=some o→H' b=some o
theorem Same.refl (H:Hp):Same H H:=fun _ _ h=>h
theorem Same.trans {H H1 H2:Hp} (a:Same H H1) (b:Same H1 H2):Same H H2:=fun c o h=>b c o (a c o h)
theorem Same.free {H H':Hp} (e:Same H H') {l:Addr} (h:H' l=Option.none):H l=Option.none:=by
 cases q:H l with
 | none=>rfl
 | some o =>
  rw [e l o q] at h
  cases h
theorem Same.seq {K:PySem.W.Frag} {H H':Hp} {a:Addr} {xs:List V} (e:Same H H') (h:SqL K H a xs):SqL K H' a xs:=by
 rcases h with (h | ⟨o,h⟩) | h
 ·exact .inl (.inl (e _ _ h))
 ·exact .inl (.inr ⟨o,e _ _ h⟩)
 ·exact .inr h
section
variable {prog:Program} {w:World} {A:Around} {R:Result→Shared→Prop} {s:Shared}
theorem ZgI {elt target iter:Expr} {ifs:List Expr} {scope:Scope} {pos:Pos} {it acc:Value} {env:Env} {E':Value→Shared→Prop} (I:Nat→Shared→Prop)
  (hE:∀ e s',E' e s'→notedBy (model prog w) A env (fun e s'=>R (.error e) s') e s')
  (turn:∀ n s,I n s→wpAny (model prog w) A (pyNext it) (fun r s₁=>match r with
   | none=>R (.ok .next) s₁
   | some v=>wpAny (model prog w) A (letOwnedTupleGo target it v) (fun _ s₁'=>wpAny (model prog w) A (assign target env v) (fun _ s₂ =>
     wpAny (model prog w) A (forIn ifs true fun c r=>if r=true then do let ok ← isTrue c env (eval c env);pure (ForInStep.yield ok) else pure (ForInStep.yield r)) (fun ok s₃ =>
      if ok=true then wpAny (model prog w) A (eval elt env) (fun x s₄ =>
       wpAny (model prog w) A (call (.builtin "list.append") [acc,x]) (fun _ s₅=>∃ m,m < n∧I m s₅) E' s₄) E' s₃
      else ∃ m,m < n∧I m s₃) E' s₂) E' s₁') E' s₁) E' s)
  (n:Nat) (h:I n s) :
  codeAny (model prog w) A (.compLoop (.ListComp elt [⟨target,iter,ifs,0⟩] scope pos) 0 it acc env) R s:=by
 refine codeAny_loop rfl I (fun n s hI=>?_) n h
 show wpAny _ A ((compTurn (.ListComp elt [⟨target,iter,ifs,0⟩] scope pos) 0 it acc env).onRaise (fun x=>do noteFrame x env;theTreesLotGoes x)) _ _ s
 refine wpAny_noted ?_
 rw [compTurn_list]
 refine wpAny_bind (wpAny_standAt (wpAny_bind (wpAny_mono (turn n s hI) (fun r s₁ h₁=>?_) hE)))
 cases r with
 | none=>exact wpAny_pure h₁
 | some v =>
  refine wpAny_bind (wpAny_mono h₁ (fun _ s₁' h₁'=>?_) hE)
  refine wpAny_bind (wpAny_mono h₁' (fun _ s₂ h₂=>wpAny_bind (wpAny_mono h₂ (fun ok s₃ h₃=>?_) hE)) hE)
  cases ok with
  | false=>exact wpAny_pure ⟨rfl,h₃⟩
  | true =>
   exact wpAny_bind (wpAny_bind (wpAny_mono h₃ (fun x s₄ h₄=>wpAny_bind (wpAny_mono h₄ (fun _ s₅ h₅=>wpAny_pure (wpAny_pure ⟨rfl,h₅⟩)) hE)) hE))
end
def PF (X:Cx) (ifs:List Expr) (t:TT):Prop :=
 ∀ (pins:List (Addr×Obj)) (s:Shared) (σ:St) (H:Hp) (Q:Bool→Hp→Prop),Inv X pins σ H s→t σ H Q →
  wpAny (model X.prog X.w) X.A (forIn ifs true fun c r=>if r=true then do let ok ← isTrue c X.env (eval c X.env);pure (ForInStep.yield ok) else pure (ForInStep.yield r)) (TP X pins σ Q) X.xe s
def ZBi:TT:=fun _ H Q=>Q true H
theorem Zxy {X:Cx}:PF X [] ZBi:=fun _ _ _ H _ I h=>wpAny_tests_nil ⟨H,I,h⟩
theorem Zzi {X:Cx} {c:Expr} {t:TT} (hc:PT X c t):PF X [c] t:=fun pins s σ H Q I h=>wpAny_tests_one (hc pins s σ H Q I h)
noncomputable def cxB (X:Cx) (Nc:List Str) (scope:Scope) (cl:List (Str×Addr)) (C:Addr) (fp:List Addr) (s:Shared) (H:Hp):Cx :=
 { X with N:=Nc,s₀:=s,H₀:=H,env:=compEnvC scope cl C X.env,outer:=X.stack,ex:=fp,fn:=fun _=>false,pn:=[],xe:=fun _ _=>False }
structure Blk (X:Cx) (Nc:List Str) (scope:Scope) (cl:List (Str×Addr)) (cap:St→St):Prop where
 clos:closureFor scope X.env=pure cl
 kind:scope.kind=.function
 names:∀ x∈scope.names,x.2=.local→scope.names.lookup x.1=some .local
 nocell:∀ y∈scope.names,y.2≠.cell
 sub:∀ y c,cl.lookup y=some c→X.env.cells.lookup y=some c
 has:∀ y,((relabel scope X.env).names.lookup y=some .cell∨(relabel scope X.env).names.lookup y=some .free)→∃ c,cl.lookup y=some c
 take:∀ (σ:St) (i:Nat) (y:Str) (v:V),Nc[i]?=some y→(cap σ)[i]?=some (some v)→Vis (relabel scope X.env) y →
  ((relabel scope X.env).names.lookup y=some .cell∨(relabel scope X.env).names.lookup y=some .free)∧Vis X.env.scope y∧X.env.scope.names.lookup y≠some .local∧∃ j:Nat,X.N[j]?=some y∧σ[j]?=some (some v)
 len:∀ σ:St,(cap σ).length=Nc.length
theorem Zky {scope:Scope} {env:Env} (h:∀ y∈scope.names,y.2≠.free):relabel scope env=scope:=by
 unfold relabel
 rw [map_eq_self (l:=scope.names) (fun x hx=>by
  obtain ⟨n,k⟩:=x
  have:(k==NameKind.free)=false:=by simpa using h _ hx
  simp [this])]
theorem ZgS {names:List (Str×NameKind)} {x:Str} {k:NameKind} (h:names.lookup x=some k):(x,k)∈names:=PySem.mem_of_lookup h
theorem ZuA {X:Cx} {Nc:List Str} {scope:Scope} (kind:scope.kind=.function) (all:∀ y∈scope.names,y.2≠.free∧y.2≠.cell) (names:∀ x∈scope.names,x.2=.local→scope.names.lookup x.1=some .local) :
  Blk X Nc scope [] (fun _=>List.replicate Nc.length none) where
 clos:=closureFor_none fun x hx=>(all x hx).1
 kind:=kind
 names:=names
 nocell:=fun y hy=>(all y hy).2
 sub:=fun y c h=>by cases h
 has:=fun y h=>by
  rw [Zky fun z hz=>(all z hz).1] at h
  rcases h with h | h
  ·exact absurd rfl (all _ (ZgS h)).2
  ·exact absurd rfl (all _ (ZgS h)).1
 take:=fun σ i y v h1 h2 h3=>by
  rw [List.getElem?_replicate] at h2
  split at h2 <;> cases h2
 len:=fun σ=>List.length_replicate ..
def cOk (cap:St→St) (g:TG) (tt:TT) (te:TE) (K:List V→Hp→Prop) (σ:St) (J:It) (H1:Hp):Prop :=
 ∃ W:Nat→Nat→St→Hp→List V→Prop,(∃ m,W 0 m (cap σ) H1 [])∧∀ i m σ' H' ys,W i m σ' H' ys →
  (J.stop i H'∧K ys H') ∨
  (J.go i H'∧ys.length < sizeLine∧∃ N:St→Hp→List V→Prop,(∀ σ2 H2 ys2,N σ2 H2 ys2→∃ m',m' < m∧W (i+1) m' σ2 H2 ys2) ∧
   ∀ x H2,J.yld i H' x H2→g x σ' H2 fun σ3 H3=>tt σ3 H3 fun b H4=>if b=true then te σ3 H4 fun y H5=>N σ3 H5 (ys++[y]) else N σ3 H4 ys)
def Zt5 (wi:TI) (cap:St→St) (g:TG) (tt:TT) (te:TE):TE:=fun σ H Q=>wi σ H fun J H1=>cOk cap g tt te (fun ys H'=>∀ a,H' a=none→Q (.ref a) (upd H' a (.lst ys))) σ J H1
section
variable {X:Cx} {elt tg iter:Expr} {ifs:List Expr} {scope:Scope} {pos:Pos} {g:TG} {tt:TT} {te:TE} {Nc:List Str} {cap:St→St} {cl:List (Str×Addr)}
theorem Zlm (hc:X.calm=true) (B:Blk X Nc scope cl cap) (hg:∀ C fp s H,PG (cxB X Nc scope cl C fp s H) tg g) (ht:∀ C fp s H,PF (cxB X Nc scope cl C fp s H) ifs tt) (he:∀ C fp s H,PE (cxB X Nc scope cl C fp s H) elt te)
  {pins:List (Addr×Obj)} {σ:St} {H2:Hp} {s2:Shared} {E:Value→Shared→Prop} {RR:Value→Addr→Result→Shared→Prop} {J:It} {fp:List Addr} {it:Addr} {tn:Nat→Heap→Prop} {K:List V→Hp→Prop}
  (I2:Inv X pins σ H2 s2) (T:Ztq X.prog X.w X.K tg J fp it tn) (st2:tn 0 s2.heap) (f2:∀ b∈fp,ZrS X pins H2 b) (w2:cOk cap g tt te K σ J H2)
  (fin:∀ (D C:Addr) (s':Shared) (H':Hp) (ys:List V) (oC:Obj),H' D=none→K ys H'→Inv X pins σ (upd H' D (.lst ys)) s'→ZrS X pins (upd H' D (.lst ys)) C→s'.heap.get? C=some oC→(∀ v,oC.data≠.cell v)→(∃ m,s'.heap.Ns C m)→RR (.ref D) C (.ok .next) s') :
  wpAny (model X.prog X.w) X.A (newList []) (fun acc s₃=>wpAny (model X.prog X.w) X.A (newFunctionEnv scope X.env.globals cl [] X.env.qual none .none (some X.env)) (fun cenv s₄ =>
   codeAny (model X.prog X.w) X.A (.compStart (.ListComp elt [⟨tg,iter,ifs,0⟩] scope pos) 0 (.ref it) acc { cenv with scope:=relabel scope X.env }) (RR acc cenv.locals) s₄) E s₃) E s2:=by
 refine wpAny_newObj_type (wpAny_newFunctionEnv B.nocell (by intro y hy;simp at hy) (fun h₁ hns₁ hsb₁=>?_) B.kind)
 dsimp only at hns₁ hsb₁ ⊢
 generalize hP2:s2.heap.push { cls:=.type "list",dict:=none,data:=.seq ([]:List Value).toArray }=P2 at hns₁ hsb₁ ⊢
 generalize hDD:s2.heap.objs.size=D at hns₁ hsb₁ ⊢
 have hCs:P2.objs.size=D+1:=by rw [← hP2,Heap.size_push,hDD]
 generalize hCC:P2.objs.size=C at hns₁ hsb₁ hCs ⊢
 have hDC:D≠C:=Nat.ne_of_lt (by rw [hCs];exact Nat.lt_succ_self _)
 have ltC:∀ b:Addr,b < D→b≠C:=fun b h=>Nat.ne_of_lt (by rw [hCs];exact Nat.lt_succ_of_lt h)
 have leC:D≤C:=by rw [hCs];exact Nat.le_succ _
 have old:∀ b o,s2.heap.get? b=some o→h₁.get? b=some o:=fun b o e=>by
  have hb:=Heap.lt_size e
  rw [hDD] at hb
  refine hsb₁.extBut b o (ltC b hb) (Heap.get?_push_of_some _ ?_)
  rw [← hP2]
  exact Heap.get?_push_of_some _ e
 have hacc:h₁.get? D=some { cls:=.type "list",data:=.seq #[] }:=by
  refine hsb₁.extBut D _ hDC (Heap.get?_push_of_some _ ?_)
  rw [← hP2,← hDD]
  exact Heap.get?_push_size _ rfl
 have lt2:∀ b o,s2.heap.get? b=some o→b < D:=fun b o e=>by rw [← hDD];exact Heap.lt_size e
 have fplt:∀ b∈fp,b < D:=fun b hb=>by
  obtain ⟨o,e,_⟩:=T.obj _ _ st2 b hb
  exact lt2 b o e
 have celt:∀ x c,X.env.cells.lookup x=some c→c < D:=fun x c e=>by
  obtain ⟨v,z⟩:=I2.cell x c e
  rw [← hDD]
  exact z.lt
 have pinlt:∀ p∈X.pn++pins,p.1 < D:=fun p hp=>lt2 _ _ (I2.pin p hp).1
 have fstk:∀ b∈fp,b∉frs X.stack:=fun b hb z=>(List.mem_cons.mp (I2.stkSub b z)).elim (f2 b hb).2.1 (f2 b hb).2.2.1
 have hDn:H2 D=none:=I2.hok.fresh (by rw [hDD];exact Nat.le_refl _)
 have hCn:H2 C=none:=I2.hok.fresh (by rw [hDD];exact leC)
 have sz0:X.s₀.heap.objs.size≤D:=by rw [← hDD];exact I2.sz
 let Xc:=cxB X Nc scope cl C fp s2 H2
 have okc:Xc.Ok:=by
  refine ⟨I2.ok.mod,?_,I2.ok.glob,I2.ok.blt,?_,fun x y c h1 h2=>I2.ok.inj x y c (B.sub x c h1) (B.sub y c h2),fun x hx=>B.has x hx,(fun x c h=>by cases h),I2.ok.hd,I2.ok.frames,.inl rfl,?_,I2.bs,Nat.le_trans I2.ok.bsz I2.sz,?_,fstk,I2.stack,I2.stkFree⟩
  ·exact B.kind
  ·show s2.heap.objs.size≤C
   rw [hDD];exact leC
  ·intro b hb
   refine ⟨?_,fun x c e=>?_⟩
   ·exact ltC b (fplt b hb)
   ·exact (f2 b hb).2.2.2.2.1 x c (B.sub x c e)
  ·intro b o e hb
   rcases (f2 b hb).2.2.2.1 with z | z
   ·exact I2.ok.noex b o e z
   ·exact absurd (Nat.lt_of_lt_of_le (Heap.lt_size (I2.ok.bs b o e).1) z) (Nat.lt_irrefl _)
 have I0:∀ tk,Inv Xc (X.pn++pins) (cap σ) H2 { s2 with heap:=h₁,toks:=tk }:=fun tk=>by
  refine ⟨okc,rfl,I2.bare,Un.kept old,⟨_,hns₁,fun i y v h1 h2 h3=>?_⟩,fun x c e=>?_,hCn,fun x c e=>I2.freeC x c (B.sub x c e),fun p hp=>?_,I2.hok.kept old,B.len σ⟩
  ·obtain ⟨k1,k2,k3,j,k4,k5⟩:=B.take σ i y v h1 h2 h3
   obtain ⟨m,hn,hl⟩:=I2.loc
   obtain ⟨u,r,l⟩:=hl j y v k4 k5 k2
   refine ⟨u,r,.inr ⟨k1,?_⟩⟩
   rcases l with ⟨l,_⟩ | ⟨_,c,e,z⟩
   ·exact absurd l k3
   ·obtain ⟨c',e'⟩:=B.has y k1
    have:=B.sub y c' e'
    rw [e] at this;cases this
    obtain ⟨oc,ec,dc⟩:=z
    exact ⟨c,e',oc,old _ _ ec,dc⟩
  ·obtain ⟨v,oc,ec,dc⟩:=I2.cell x c (B.sub x c e)
   exact ⟨v,oc,old _ _ ec,dc⟩
  ·have hp':p∈X.pn++pins:=by simpa [Xc,cxB] using hp
   obtain ⟨e,n,ne,nf,d⟩:=I2.pin p hp'
   exact ⟨old _ _ e,n,ltC _ (pinlt p hp'),fun z=>(List.mem_cons.mp (I2.stkSub _ z)).elim ne nf,d⟩
 have fpc:∀ {H':Hp} {o:Obj},(∀ b∈fp,H' b=none)→∀ b∈fp,ZrS Xc ((X.pn++pins)++[(D,o)]) H' b:=fun {H' o} hn b hb=>by
  refine ⟨hn b hb,ltC b (fplt b hb),fstk b hb,.inl hb,fun x c e=>(f2 b hb).2.2.2.2.1 x c (B.sub x c e),fun p hp=>?_⟩
  ·have hp':p∈X.pn++pins∨p=(D,o):=by
    rcases List.mem_append.mp hp with z | z
    ·cases z
    ·rcases List.mem_append.mp z with z | z
     ·exact .inl z
     ·exact .inr (List.mem_singleton.mp z)
   rcases hp' with z | z
   ·exact (f2 b hb).2.2.2.2.2 p z
   ·subst z
    exact Nat.ne_of_gt (fplt b hb)
 obtain ⟨W,⟨m0,w0⟩,turn⟩:=w2
 have loop:∀ tk,codeAny (model X.prog X.w) X.A (.compLoop (.ListComp elt [⟨tg,iter,ifs,0⟩] scope pos) 0 (.ref it) (.ref D) Xc.env) (RR (.ref D) C) { s2 with heap:=h₁,toks:=tk }:=by
  intro tk
  refine ZgI (E':=fun _ _=>False)
   (fun n s'=>∃ (i:Nat) (σ':St) (H':Hp) (ys:List V) (its:List Value) (k:Nat),Inv Xc (X.pn++pins) σ' H' s'∧tn i s'.heap∧(∀ b∈fp,H' b=none)∧H' D=none∧s'.heap.get? D=some { cls:=.type "list",data:=.seq its.toArray k } ∧
    Vals ys its∧ys.length≤sizeLine∧W i n σ' H' ys) (fun _ _ z=>z.elim) ?_ m0
   ⟨0,cap σ,H2,[],[],0,I0 tk,T.keep _ _ _ st2 fun b _ o e=>old b o e,fun b hb=>(f2 b hb).1,hDn,hacc,.nil,Nat.zero_le _,w0⟩
  rintro n s3 ⟨i,σ3,H3,ys,its,k,I3,st3,fr3,hD3,o3,rv3,hz3,w3⟩
  have I3':Inv Xc ((X.pn++pins)++[(D,{ cls:=.type "list",data:=.seq its.toArray k })]) σ3 H3 s3:=I3.pins_of fun p hp=>by
   have hp':p∈X.pn++pins∨p=(D,{ cls:=.type "list",data:=.seq its.toArray k }):=by
    rcases List.mem_append.mp hp with z | z
    ·exact .inl z
    ·exact .inr (List.mem_singleton.mp z)
   rcases hp' with z | z
   ·exact I3.pin p (by simpa [Xc,cxB] using z)
   ·subst z
    refine ⟨o3,hD3,hDC,fun z=>?_,(fun v z=>by cases z)⟩
    ·obtain ⟨_,o,ho,_⟩:=I2.stack.mem z
     exact absurd (lt2 _ _ ho) (Nat.lt_irrefl _)
  rcases turn i n σ3 H3 ys w3 with ⟨stop,qn⟩ | ⟨go,hlt,N,hN,step⟩
  ·refine thn (T.done Xc rfl rfl rfl hc i _ s3 σ3 H3 _ I3' (fpc fr3) st3 stop) fun r s4 zz1=>?_
   obtain ⟨hr,I4⟩:=zz1
   subst hr
   have pD:=I4.pin (D,{ cls:=.type "list",data:=.seq its.toArray k }) (by simp)
   obtain ⟨m4,hn4,_⟩:=I4.loc
   obtain ⟨oC,es,ep,eC,dC,rC⟩:=id hn4
   have hD4:H3 D=none:=hD3
   have hC4:H3 C=none:=I4.free
   have hupd:∀ b u,H3 b=some u→upd H3 D (.lst ys) b=some u:=fun b u e=>by rw [Za7 (ZcT e hD4)];exact e
   have un:Un (frs X.stack) fp H2 (upd H3 D (.lst ys)) s2.heap s4.heap:=by
    have u:=I4.base
    refine ⟨u.keep,u.slot,fun b o e n hx=>?_,u.there,fun b xs e=>hupd _ _ (u.tups b xs e),fun b o v e=>hupd _ _ (u.frzs b o v e),fun b ps e=>?_⟩
    ·rw [Za7 (Nat.ne_of_lt (lt2 b o e))]
     exact u.free b o e n hx
    ·obtain ⟨more,q⟩:=u.tbls b ps e
     exact ⟨more,hupd _ _ q⟩
   have hok:HOk X.prog X.w (upd H3 D (.lst ys)) s4.heap:=fun b u e=>by
    by_cases hb:b=D
    ·subst hb
     rw [ZbP] at e;cases e
     exact ⟨hz3,its,k,rv3,pD.1⟩
    ·rw [Za7 hb] at e
     exact (I4.hok b u e).stay (fun _ _ _ q=>q) (fun c q=>hupd _ _ q) fun c xs q=>hupd _ _ q
   have I5:Inv X pins σ (upd H3 D (.lst ys)) s4:=I2.call' (ch:=fp) I4.os un hok I4.bare fun b hb=>⟨(f2 b hb).2.2.2.1,(f2 b hb).2.1,(f2 b hb).2.2.2.2.1,(f2 b hb).2.2.2.2.2⟩
   refine fin D C s4 H3 ys oC hD4 qn I5 ⟨?_,?_,fun z=>?_,.inr (Nat.le_trans sz0 leC),fun x c e=>?_,fun p hp=>?_⟩ eC (fun v z=>by rw [dC] at z;cases z) ⟨m4,hn4⟩
   ·rw [Za7 (Ne.symm hDC)];exact hC4
   ·have:=I2.lt
    rw [hDD] at this
    exact Ne.symm (ltC _ this)
   ·exact I2.nofs (a:=C) (by rw [hDD];exact leC) z
   ·exact ltC _ (celt x c e)
   ·exact ltC _ (pinlt p hp)
  ·refine thn (T.item Xc rfl rfl rfl hc i _ s3 σ3 H3 _ I3' (fpc fr3) st3 go) fun r s4 zz2=>?_
   obtain ⟨u,hr,h4⟩:=zz2
   subst hr
   refine thn h4 fun _ s5 zz3=>?_
   obtain ⟨x,H5,I5,r5,y5,st5,fr5⟩:=zz3
   have I5':=I5.pinned (fpc fr5) (T.obj _ _ st5)
   refine thn (hg C fp s2 H2 _ s5 σ3 H5 x u _ I5' r5 (step x H5 y5)) fun _ s6 zz4=>?_
   obtain ⟨σ6,H6,I6,q6⟩:=zz4
   refine thn (ht C fp s2 H2 _ s6 σ6 H6 _ I6 q6) fun ok s7 zz5=>?_
   obtain ⟨H7,I7,q7⟩:=zz5
   have again:∀ {σ8:St} {H8:Hp} {s8:Shared},Inv Xc (((X.pn++pins)++[(D,{ cls:=.type "list",data:=.seq its.toArray k })])++ZkL fp s5.heap) σ8 H8 s8 →
     tn (i+1) s8.heap∧(∀ b∈fp,H8 b=none)∧s8.heap.get? D=some { cls:=.type "list",data:=.seq its.toArray k }∧H8 D=none:=fun {σ8 H8 s8} I8=>by
    refine ⟨T.keep _ _ _ st5 fun b hb o e=>(I8.pin (b,o) (List.mem_append_right _ (List.mem_append_right _ (Zel hb e)))).1,fun b hb=>?_,?_⟩
    ·obtain ⟨o,e,d⟩:=T.obj _ _ st5 b hb
     exact (I8.pin (b,o) (List.mem_append_right _ (List.mem_append_right _ (Zel hb e)))).2.1
    ·have:=I8.pin (D,{ cls:=.type "list",data:=.seq its.toArray k }) (by simp)
     exact ⟨this.1,this.2.1⟩
   cases ok with
   | false =>
    rw [if_neg Bool.false_ne_true] at q7 ⊢
    obtain ⟨m',hm,w7⟩:=hN _ _ _ q7
    obtain ⟨t7,f7,o7,d7⟩:=again I7
    exact ⟨m',hm,i+1,σ6,H7,ys,its,k,I7.unpinned.unpinned,t7,f7,d7,o7,rv3,hz3,w7⟩
   | true =>
    rw [if_pos rfl] at q7 ⊢
    refine thn (he C fp s2 H2 _ s7 σ6 H7 _ I7 q7) fun y s8 zz6=>?_
    obtain ⟨yv,H8,I8,r8,q8⟩:=zz6
    obtain ⟨m',hm,w8⟩:=hN _ _ _ q8
    obtain ⟨t8,f8,o8,d8⟩:=again I8
    have hlen:=rv3.length
    refine wpAny_list_append_plain (s:=s8) (items:=its.toArray) ⟨k,o8⟩ (fun h9 zz7 sb9=>?_) (by rw [List.size_toArray];omega)
    obtain ⟨k9,l9⟩:=zz7
    have I9:Inv Xc (X.pn++pins) σ6 H8 { s8 with heap:=h9 }:=by
     refine I8.unpinned.unpinned.turned (t':=s8.toks) (fun b o hb e=>(sb9.2 b hb).trans e) d8 ?_ (.inr ?_) (fun x c e=>?_) fun p hp=>?_
     ·exact hDC
     ·show s2.heap.objs.size≤D
      rw [hDD];exact Nat.le_refl _
     ·exact Nat.ne_of_lt (celt x c (B.sub x c e))
     ·exact Nat.ne_of_lt (pinlt p (by simpa [Xc,cxB] using hp))
    refine ⟨m',hm,i+1,σ6,H8,ys++[yv],its++[y],k9,I9,?_,f8,d8,?_,rv3.append (.cons r8 .nil),?_,w8⟩
    ·refine T.keep _ _ _ t8 fun b hb o e=>?_
     exact (sb9.2 b (Nat.ne_of_lt (fplt b hb))).trans e
    ·rw [l9]
     simp
    ·rw [List.length_append,List.length_singleton]
     omega
 have env_eq:Xc.env=compEnvC scope cl C X.env:=rfl
 exact codeAny_compStart_list (loop _) (T.self _ 0 _ _ _ (T.keep _ _ _ st2 fun b _ o e=>old b o e) (loop _))
theorem Zq2 {wi:TI} (hc:X.calm=true) (hi:PI X tg iter wi) (B:Blk X Nc scope cl cap) (hg:∀ C fp s H,PG (cxB X Nc scope cl C fp s H) tg g) (ht:∀ C fp s H,PF (cxB X Nc scope cl C fp s H) ifs tt) (he:∀ C fp s H,PE (cxB X Nc scope cl C fp s H) elt te)
  (hs:∀ x,foldedSetIterable iter X.env x=pure x:=by intro _;rfl):PE X (.ListComp elt [⟨tg,iter,ifs,0⟩] scope pos) (Zt5 wi cap g tt te):=by
 intro pins s σ H Q I h
 rw [eval_ListComp]
 refine wpAny_comprehension_free (use:=none) rfl hs B.clos B.kind B.names (thn (hi pins s σ H _ I h) fun v s1 h1=>thn h1 fun itv s2 h2=>?_)
 obtain ⟨it,fp,tn,J,H2,e,I2,T,st2,f2,w2⟩:=h2
 subst e
 refine Zlm (RR:=fun acc C=>compPost (model X.prog X.w) X.A X.xe none (EP X pins σ Q) acc C) hc B hg ht he I2 T st2 f2 w2 ?_
 intro D C s' H' ys oC hD q I' F eC dC ⟨m,hn⟩
 obtain ⟨f0,f1,_,f3,f4,f5⟩:=F
 exact ⟨m,hn,fun h' sb=>⟨.ref D,_,I'.turned (t':=s'.toks) (fun b o hb e=>(sb.2 b hb).trans e) f0 f1 f3 f4 f5,rfl,q D hD⟩⟩
theorem ZpO {wi:TI} {i:Nat} {x:Str} {pos' spos:Pos} (hN:X.N.Nodup) (hix:X.N[i]?=some x) (hx:X.env.scope.names.lookup x=some .local) (hsw:swapsWith (.ListComp elt [⟨tg,iter,ifs,0⟩] scope pos) (some (.Name x pos')) spos.line X.env=pure true)
  (hc:X.calm=true) (hi:PI X tg iter wi) (B:Blk X Nc scope cl cap) (hg:∀ C fp s H,PG (cxB X Nc scope cl C fp s H) tg g) (ht:∀ C fp s H,PF (cxB X Nc scope cl C fp s H) ifs tt) (he:∀ C fp s H,PE (cxB X Nc scope cl C fp s H) elt te)
  (hs:∀ x,foldedSetIterable iter X.env x=pure x:=by intro _;rfl):PS X (.Assign [.Name x pos'] (.ListComp elt [⟨tg,iter,ifs,0⟩] scope pos) spos) (ZAE (Zt5 wi cap g tt te) (ZgH i)):=by
 intro pins s σ H D0 I h
 rw [exec_Assign_Name_used _ _ _ _ hsw]
 refine wpAny_bind (wpAny_standAt (wpAny_bind ?_))
 show wpAny _ X.A (do let _ ← comprehension (.ListComp elt [⟨tg,iter,ifs,0⟩] scope pos) scope X.env _ (newList []) false (eval iter X.env) (some (assign (.Name x pos') X.env))) _ _ s
 refine wpAny_bind (wpAny_mono (wpAny_comprehension_free (use:=some (assign (.Name x pos') X.env)) (Q:=fun _ s'=>SP X pins D0 .next s') rfl hs B.clos B.kind B.names
  (thn (hi pins s σ H _ I h) fun v s1 h1=>thn h1 fun itv s2 h2=>?_)) (fun _ s' hq=>wpAny_pure (wpAny_pure hq)) fun _ _ e=>e)
 obtain ⟨it,fp,tn,J,H2,e,I2,T,st2,f2,w2⟩:=h2
 subst e
 refine Zlm (RR:=fun acc C=>compPost (model X.prog X.w) X.A X.xe (some (assign (.Name x pos') X.env)) (fun _ s'=>SP X pins D0 .next s') acc C) hc B hg ht he I2 T st2 f2 w2 ?_
 intro D C s' H' ys oC hD q I' F eC dC ⟨m,hn⟩
 obtain ⟨f0,f1,f2',f3,f4,f5⟩:=F
 have Ip:Inv X (pins++ZkL [C] s'.heap) σ (upd H' D (.lst ys)) s':=I'.pinned (fp:=[C]) (fun b hb=>by
  have e:b=C:=by simpa using hb
  subst e
  exact ⟨f0,f1,f2',f3,f4,f5⟩) fun b hb=>by
   have e:b=C:=by simpa using hb
   subst e
   exact ⟨oC,eC,dC⟩
 show wpAny _ X.A (assign (.Name x pos') X.env (.ref D)) _ _ _
 refine wpAny_assign_Name (Zi9 Ip hN hix (.inl hx) (v:=.ref D) rfl (fun s3 I3=>?_) (.inr hx))
 have pC:=I3.pin (C,oC) (List.mem_append_right _ (List.mem_append_right _ (Zel (by simp) eC)))
 obtain ⟨oC',es,ep,eC',dC',rC'⟩:=hn
 rw [eC] at eC';cases eC'
 refine ⟨m,⟨oC,es,ep,pC.1,dC',rC'⟩,fun h' sb=>⟨_,_,I3.unpinned.turned (t':=s3.toks) (fun b o hb e=>(sb.2 b hb).trans e) f0 f1 f3 f4 f5,q D hD⟩⟩
end
theorem ObjOk.at {P:Program} {w:World} {H:Hp} {h:Heap} {a:Addr} {o:HO} (x:ObjOk P w H h a o):∃ u,h.get? a=some u:=by
 cases o with
 | lst xs=>obtain ⟨_,_,_,_,e⟩:=x;exact ⟨_,e⟩
 | tup xs=>obtain ⟨_,_,_,ob,e,_⟩:=x;exact ⟨_,e⟩
 | dK kvs=>obtain ⟨_,_,_,_,o,_,_,e,_⟩:=x;exact ⟨_,e⟩
 | dT kvs=>obtain ⟨_,_,_,_,o,_,_,e,_⟩:=x;exact ⟨_,e⟩
 | set S n=>obtain ⟨o,_,_,_,e,_⟩:=x;exact ⟨_,e⟩
 | ins C dx fs=>obtain ⟨_,_,_,e,_⟩:=x;exact ⟨_,e⟩
 | own y=>obtain ⟨_,e⟩:=x;exact ⟨_,e⟩
 | xd fs=>obtain ⟨_,⟨_,_,_,e,_⟩,_⟩:=x;exact ⟨_,e⟩
 | rng lo hi=>obtain ⟨_,_,_,e⟩:=x;exact ⟨_,e⟩
 | frz ob u=>obtain ⟨e,_⟩:=x;exact ⟨_,e⟩
 | tbl ps=>exact ⟨_,(show h.get? a=some _ from x)⟩
 | met f y=>exact ⟨_,(show h.get? a=some _ from x)⟩
 | ext φ=>obtain ⟨_,⟨_,e⟩,_⟩:=x;exact ⟨_,e⟩
structure Fly (P:Program) (w:World) (outer:List Env) (H0:Hp) (s0:Shared) (H':Hp) (e C:Addr) (s':Shared):Prop where
 os:s'.os=s0.os
 bare:AllBare s'.gens
 un:Un (frs outer) [] H0 H' s0.heap s'.heap
 hok:HOk P w H' s'.heap
 fly:∃ (B:Heap) (a0:Value),Heap.FlyingW B outer e (.ref C) a0 s'.heap∧∀ b,b∉frs outer→((∃ o,s0.heap.get? b=some o)∨H' b≠none)→∃ o,B.get? b=some o
 new:s0.heap.get? e=none
 free:H' e=none
def CXe (P:Program) (w:World):CXT:=fun outer H0 s0 E ev s'=>∃ (e C:Addr) (H':Hp),ev=.ref e∧Fly P w outer H0 s0 H' e C s'∧E (.ref C) none H'
theorem Zxo {P:Program} {w:World} {outer:List Env} {H0 H':Hp} {h0 h1 h' B:Heap} (un:Un (frs outer) [] H0 H' h0 h1) (hok:HOk P w H' h1) (frees:∀ b∈frs outer,H' b=none)
  (ff:∀ b∈frs outer,∃ o,h1.get? b=some o∧∀ vs,o.data≠.fields vs) (s1:B.StaysIn h1) (cov:∀ b,b∉frs outer→((∃ o,h0.get? b=some o)∨H' b≠none)→∃ o,B.get? b=some o)
  (st:B.StaysIn h') (up:h1.UpToSlots h'):Un (frs outer) [] H0 H' h0 h'∧HOk P w H' h':=by
 have exact_:∀ b o,b∉frs outer→((∃ o,h0.get? b=some o)∨H' b≠none)→h1.get? b=some o→h'.get? b=some o:=fun b o hb hor e=>by
  obtain ⟨o',hB⟩:=cov b hb hor
  have:=s1 b o' hB
  rw [e] at this;cases this
  exact st b _ hB
 refine ⟨⟨fun b o q n hb hx=>exact_ b o hb (.inl ⟨o,q⟩) (un.keep b o q n hb hx),fun b o q n hb hx=>?_,un.free,fun b o q hx=>?_,un.tups,un.frzs,un.tbls⟩,fun a o e=>?_⟩
 ·obtain ⟨sl,e1⟩:=un.slot b o q n hb hx
  obtain ⟨o2,e2,d2⟩:=ff b hb
  rw [e1] at e2;cases e2
  obtain ⟨sl',e3⟩:=up b _ e1 d2
  exact ⟨sl',e3⟩
 ·obtain ⟨o',e1⟩:=un.there b o q hx
  by_cases hb:b∈frs outer
  ·obtain ⟨o2,e2,d2⟩:=ff b hb
   obtain ⟨sl',e3⟩:=up b _ e2 d2
   exact ⟨_,e3⟩
  ·exact ⟨o',exact_ b o' hb (.inl ⟨o,q⟩) e1⟩
 ·refine (hok a o e).stay (fun b u hb q=>?_) (fun _ q=>q) fun _ _ q=>q
  have hn:H' b≠none:=by
   rcases hb with rfl | hb
   ·rw [e];simp
   ·rw [hb];simp
  exact exact_ b u (fun z=>hn (frees b z)) (.inr hn) q
section
variable {X:Cx} {pins:List (Addr×Obj)} {σ:St} {H H':Hp} {s s':Shared} {e C:Addr}
theorem Fly.inv (I:Inv X pins σ H s) (F:Fly X.prog X.w X.stack H s H' e C s') {B h':Heap} {a0:Value} (fl:Heap.FlyingW B X.stack e (.ref C) a0 s'.heap)
  (cov:∀ b,b∉frs X.stack→((∃ o,s.heap.get? b=some o)∨H' b≠none)→∃ o,B.get? b=some o) (st:B.StaysIn h') (up:s'.heap.UpToSlots h'):Inv X pins σ H' { s' with heap:=h' }:=by
 have frees:∀ b∈frs X.stack,H' b=none:=fun b hb=>by
  obtain ⟨_,o,ho,_⟩:=I.stack.mem hb
  exact F.un.free b o ho (I.stkFree b hb) (by simp)
 obtain ⟨u,k⟩:=Zxo F.un F.hok frees (fun b hb=>(fl.2.2.1.mem hb).2) fl.1 cov st up
 exact I.call' (s':={ s' with heap:=h' }) (ch:=[]) F.os u k F.bare (fun b z=>absurd z (by simp))
end
theorem ZAs {P:Program} {w:World} {K:PySem.W.Frag} {mg:Str→Option Value} {base:Heap} {N:List Str} {qual:Str} {scope:Scope} {f:Addr} {cd:Value} {A:Around} {outer:List Env} {s:Shared} {H:Hp} {E:XK} :
  Zxn (CXe P w) (Zi0 (CXe P w) P w K mg base N qual scope f cd A outer s H E) E:=by
 intro pins σ Hc sc ev s' I ⟨e,C,H',ee,F,q⟩
 subst ee
 obtain ⟨B,a0,fl,cov⟩:=F.fly
 show wpAny _ _ (leaving _ (.ref e)) _ _ s'
 refine wpAny_leaves_onW I.ok.frames rfl fl fun h' fl' up=>?_
 have I':=F.inv I fl cov fl'.1 up
 refine ⟨e,C,H',rfl,⟨I'.os,I'.bare,I'.base,I'.hok,⟨B,a0,fl',fun b hb hor=>?_⟩,?_,F.free⟩,q⟩
 ·have hne:b∉frs (Zi0 (CXe P w) P w K mg base N qual scope f cd A outer s H E).stack:=fun z=>by
   rcases List.mem_cons.mp (I'.stkSub b z) with e1 | e1
   ·rcases hor with ⟨o,ho⟩ | hn
    ·have h1:=Heap.lt_size ho
     have h2:=I.ok.above
     rw [e1] at h1
     exact absurd (Nat.lt_of_lt_of_le h1 h2) (Nat.lt_irrefl _)
    ·rw [e1] at hn;exact hn I'.free
   ·exact hb e1
  refine cov b hne ?_
  rcases hor with ⟨o,ho⟩ | hn
  ·exact .inl (I.base.there b o ho (by intro z;cases z))
  ·exact .inr hn
 ·cases z:s.heap.get? e with
  | none=>rfl
  | some o =>
   obtain ⟨o',e1⟩:=I.base.there e o z (by intro z;cases z)
   rw [F.new] at e1;cases e1
theorem ZAA {P:Program} {w:World} {K:PySem.W.Frag} {mg:Str→Option Value} {base:Heap} {N:List Str} {qual:Str} {scope:Scope} {f:Addr} {cd:Value} {A:Around} {outer:List Env} {s:Shared} {H:Hp} {E:XK}
  {pins:List (Addr×Obj)} {σ:St} {Hc:Hp} {sc:Shared} {h1:Heap} {e C:Addr} {vs:List Value} (I:Inv (Zi0 (CXe P w) P w K mg base N qual scope f cd A outer s H E) pins σ Hc sc) (hx:Heap.MadeExcOf sc.heap h1 e (.ref C) vs) (q:E (.ref C) none Hc) :
  (Zi0 (CXe P w) P w K mg base N qual scope f cd A outer s H E).xe (.ref e) { sc with heap:=h1 }:=by
 have hin:∀ env∈(Zi0 (CXe P w) P w K mg base N qual scope f cd A outer s H E).stack,∀ b,env.frame=some b→b∈frs (Zi0 (CXe P w) P w K mg base N qual scope f cd A outer s H E).stack:=fun env he b hb=>List.mem_filterMap.mpr ⟨env,he,hb⟩
 show wpAny _ _ (leaving _ (.ref e)) _ _ _
 refine wpAny_leaves_madeW (base:=PySem.W.hideAll sc.heap (frs (Zi0 (CXe P w) P w K mg base N qual scope f cd A outer s H E).stack)) I.ok.frames rfl (fun b o z=>PySem.W.of_hideAll _ z) (PySem.W.funFrames_hide I.stack hin) hx fun h' t fl htup hnew up=>?_
 have cov:∀ b,b∉frs (Zi0 (CXe P w) P w K mg base N qual scope f cd A outer s H E).stack→((∃ o,sc.heap.get? b=some o)∨Hc b≠none)→∃ o,(PySem.W.hideAll sc.heap (frs (Zi0 (CXe P w) P w K mg base N qual scope f cd A outer s H E).stack)).get? b=some o:=fun b hb hor=>by
  have:∃ o,sc.heap.get? b=some o:=by
   rcases hor with z | z
   ·exact z
   ·cases e1:Hc b with
    | none=>exact absurd e1 z
    | some o=>exact (I.hok b o e1).at
  obtain ⟨o,ho⟩:=this
  exact ⟨o,PySem.W.hideAll_get _ ho hb⟩
 obtain ⟨u,k⟩:=Zxo (P:=P) (w:=w) (Un.kept hx.keeps) (I.hok.kept hx.keeps) I.stkFree (fun b hb=>by
  obtain ⟨_,o,ho,d⟩:=I.stack.mem hb
  exact ⟨o,hx.keeps _ _ ho,d⟩) (fun b o z=>hx.keeps _ _ (PySem.W.of_hideAll _ z)) cov fl.1 up
 have I':=I.call' (s':={ sc with heap:=h' }) (ch:=[]) rfl u k I.bare (fun b z=>absurd z (by simp))
 have en:Hc e=none:=by
  cases z:Hc e with
  | none=>rfl
  | some o =>
   obtain ⟨o',e1⟩:=(I.hok e o z).at
   rw [hx.new] at e1;cases e1
 refine ⟨e,C,Hc,rfl,⟨I'.os,I'.bare,I'.base,I'.hok,⟨_,_,fl,fun b hb hor=>?_⟩,?_,en⟩,q⟩
 ·have hne:b∉frs (Zi0 (CXe P w) P w K mg base N qual scope f cd A outer s H E).stack:=fun z=>by
   rcases List.mem_cons.mp (I'.stkSub b z) with e1 | e1
   ·rcases hor with ⟨o,ho⟩ | hn
    ·have h1:=Heap.lt_size ho
     have h2:=I.ok.above
     rw [e1] at h1
     exact absurd (Nat.lt_of_lt_of_le h1 h2) (Nat.lt_irrefl _)
    ·rw [e1] at hn;exact hn I'.free
   ·exact hb e1
  refine cov b hne ?_
  rcases hor with ⟨o,ho⟩ | hn
  ·exact .inl (I.base.there b o ho (by intro z;cases z))
  ·exact .inr hn
 ·cases z:s.heap.get? e with
  | none=>rfl
  | some o =>
   obtain ⟨o',e1⟩:=I.base.there e o z (by intro z;cases z)
   rw [hx.new] at e1;cases e1
theorem ZwK {K:PySem.W.Frag} {h:Heap} {C:Addr} {bmB:List Value} {newId:String} (X:K.In h) (q:PySem.W.excIn K C bmB newId=true) :
  ∃ bm N nm q bs hdct sn sub ab col dd k0 k1 k2 k3 k5 mN,h.get? C=some (excClassObj nm q C N bs bm hdct sn sub ab col dd k0 k1 k2 k3 k5 newId)∧h.Ns N mN∧mN "__init__"=none∧OwnTail h bmB bm:=by
 unfold PySem.W.excIn at q
 split at q
 ·rename_i dd cd sl ho
  split at q
  ·rename_i C' bm k0 k1 k2 k3 n k5 hm hs
   simp only [Bool.and_eq_true,beq_iff_eq,Bool.not_eq_true'] at q
   obtain ⟨⟨⟨⟨⟨rfl,rfl⟩,hdel⟩,ht⟩,hok⟩,hni⟩:=q
   obtain ⟨nm,bs,mro,ns,qn,hd,sn,sub,ab,col,del⟩:=cd
   dsimp only at hm hdel hok hni
   subst hm hdel
   have hsl:sl=#[k0,k1,k2,k3,some (.builtin n),k5]:=by
    obtain ⟨l⟩:=sl
    simp only at hs
    rw [hs]
   subst hsl
   exact ⟨bm,ns,nm,qn,bs,hd,sn,sub,ab,col,dd,k0,k1,k2,k3,k5,_,X _ _ ho,.of_isNs (PySem.W.isNs_of_in X hok),PySem.W.nsMap_none_of_in X hok hni,PySem.W.tail_of_in X ht⟩
  ·cases q
 ·cases q
def ZxW (C:Addr) (E:XK) (t:TA):TS:=fun _ σ H=>t σ H fun vs H1=>vs.length≤sizeLine∧E (.ref C) none H1
section
variable {P:Program} {w:World} {K:PySem.W.Frag} {mg:Str→Option Value} {base:Heap} {N:List Str} {qual:Str} {scope:Scope} {f:Addr} {cd:Value} {A:Around} {outer:List Env} {s:Shared} {H:Hp} {E:XK}
theorem ZtZ {x:Str} {C:Addr} {B newId initId:String} {bm:List Value} {np cpos pos:Pos} {e₀:Expr} {Zbm:List Expr} {t:TA}
  (hg:Gl (Zi0 (CXe P w) P w K mg base N qual scope f cd A outer s H E) x) (hm:mg x=some (.ref C)) (q:PySem.W.excIn K C bm newId=true) (FB:ExcBaseFacts B newId initId bm)
  (ha:PA (Zi0 (CXe P w) P w K mg base N qual scope f cd A outer s H E) (e₀::Zbm) t)
  (he:starEach (e₀::Zbm) (Zi0 (CXe P w) P w K mg base N qual scope f cd A outer s H E).env=(false,eval e₀ (Zi0 (CXe P w) P w K mg base N qual scope f cd A outer s H E).env)::starEach Zbm (Zi0 (CXe P w) P w K mg base N qual scope f cd A outer s H E).env:=by rfl)
  (hplain:(backTo cpos (starEach Zbm (Zi0 (CXe P w) P w K mg base N qual scope f cd A outer s H E).env)).any (·.1)=false:=by rfl) (hd:(x==("__debug__":Str))=false:=by decide) :
  PS (Zi0 (CXe P w) P w K mg base N qual scope f cd A outer s H E) (.Raise (some (.Call (.Name x np) (e₀::Zbm) [] cpos)) none pos) (ZxW C E t):=by
 intro pins sc σ Hc D I h
 obtain ⟨tl,N',nm,q',bs,hdct,sn,sub,ab,col,dd,k0,k1,k2,k3,k5,mN,hC,hN,hni,T⟩:=ZwK I.ok.mod.kin q
 refine wpAny_Raise_call_subT (C:=C) (nm:=nm) (q:=q') (N:=N') (bs:=bs) (bm:=tl) (hdct:=hdct) (sn:=sn) (sub:=sub) (ab:=ab) (col:=col) (dd:=dd) (k0:=k0) (k1:=k1) (k2:=k2) (k3:=k3) (k5:=k5)
  FB (mN:=mN) (T.hasType FB.hasBase) (I.ok.hd rfl) (by rw [he];show (false||(backTo cpos (starEach Zbm _)).any (·.1))=false;rw [hplain];rfl) hni (Zjk I hg hm ⟨rfl,?_⟩ hd)
 have ha':=ha cpos pins sc σ Hc _ I h
 rw [he] at ha' ⊢
 refine Calls.evalArgs_plain (thn ha' fun us s1 zz1=>?_)
 obtain ⟨vs,H1,I1,r1,z1,q1⟩:=zz1
 exact ⟨rfl,by have:=r1.length;show us.length≤_;omega,I1.bk _ _ hC,hN.keeps I1.bk,T.keeps I1.bk,fun h' e hm'=>ZAA I1 hm' q1⟩
end
theorem Zms {K:PySem.W.Frag} {M:Model} {A:Around} {E:Value→Shared→Prop} {s:Shared} {e C D:Addr} {oe:Obj} {b:Bool} {Q:Bool→Shared→Prop} (X:K.In s.heap) (he:s.heap.get? e=some oe) (hcls:oe.cls=.ref C)
  (hD:PySem.W.typeIn K (.ref D)=some (.type "type")) (hT:(PySem.W.clsIn K D).isSome=true) (hB:PySem.W.subIn K (.ref D) (.type "BaseException")=some true) (hs:PySem.W.subIn K (.ref C) (.ref D)=some b) (h:Q b s) :
  wpAny M A (excMatches (.ref e) (.ref D)) Q E s:=by
 obtain ⟨hp,g,d,t,os⟩:=s
 have L1:PySem.W.Looks M hp (isInstance (.ref D) (.type "tuple")) false:=(PySem.W.looks_typeIn X hD).andThen (PySem.W.Looks.of_pure tc_notTuple)
 have L2:PySem.W.Looks M hp (isType (.ref D)) true:=by
  unfold PySem.W.clsIn at hT
  split at hT
  ·rename_i c' d' cd' sl' ho
   intro A' Q' E' s' k q
   unfold isType loadHead
   exact wpAny_bind (wpAny_loadPart (k _ _ (X _ _ ho)) (wpAny_pure q))
  ·cases hT
 have L3:PySem.W.Looks M hp (isExcClass (.ref D)) true:=by
  unfold isExcClass
  refine L2.andThen ?_
  rw [if_pos rfl]
  exact PySem.W.looks_subIn X hB
 have L4:PySem.W.Looks M hp (typeOf (.ref e)) (.ref C):=by
  rw [← hcls]
  exact (PySem.W.Looks.ld he).andThen .now
 have L5:=PySem.W.looks_subIn (M:=M) X hs
 unfold excMatches
 refine wpAny_bind (L1.at ?_)
 rw [if_neg Bool.false_ne_true]
 show wpAny M A (forIn [Value.ref D] PUnit.unit _ >>= _) Q E _
 rw [List.forIn_cons]
 refine wpAny_bind (wpAny_bind (wpAny_bind (L3.at ?_)))
 rw [if_neg (by decide)]
 refine wpAny_pure ?_
 refine wpAny_pure ?_
 refine wpAny_bind (L4.at ?_)
 rw [List.forIn_cons]
 refine wpAny_bind (wpAny_bind (wpAny_bind (L5.at ?_)))
 cases b with
 | true =>
  rw [if_pos rfl]
  exact wpAny_pure (wpAny_pure (wpAny_pure h))
 | false =>
  rw [if_neg Bool.false_ne_true]
  exact wpAny_pure (wpAny_pure (wpAny_pure h))
theorem Inv.track {X:Cx} {pins:List (Addr×Obj)} {σ:St} {H:Hp} {s:Shared} {e:Addr} {o:HO} (I:Inv X pins σ H s) (hn:H e=none) (hL:e≠X.env.locals) (hc:∀ x c,X.env.cells.lookup x=some c→c≠e) (hp:∀ p∈X.pn++pins,p.1≠e)
  (h0:X.s₀.heap.get? e=none) (ok:ObjOk X.prog X.w (upd H e o) s.heap e o):Inv X pins σ (upd H e o) s:=by
 have hupd:∀ b u,H b=some u→upd H e o b=some u:=fun b u z=>by rw [Za7 (ZcT z hn)];exact z
 refine ⟨I.ok,I.os,I.bare,⟨I.base.keep,I.base.slot,fun b ob z n hx=>?_,I.base.there,fun b xs z=>hupd _ _ (I.base.tups b xs z),fun b ob u z=>hupd _ _ (I.base.frzs b ob u z),fun b ps z=>?_⟩,I.loc,I.cell,?_,fun x c z=>?_,fun p z=>?_,fun b u z=>?_,I.len⟩
 ·rw [Za7 (fun q=>by rw [q,h0] at z;cases z)]
  exact I.base.free b ob z n hx
 ·obtain ⟨more,q⟩:=I.base.tbls b ps z
  exact ⟨more,hupd _ _ q⟩
 ·rw [Za7 (Ne.symm hL)];exact I.free
 ·rw [Za7 (hc x c z)];exact I.freeC x c z
 ·obtain ⟨q1,q2,q3⟩:=I.pin p z
  exact ⟨q1,by rw [Za7 (hp p z)];exact q2,q3⟩
 ·by_cases hb:b=e
  ·subst hb
   rw [ZbP] at z;cases z
   exact ok
  ·rw [Za7 hb] at z
   exact (I.hok b u z).stay (fun _ _ _ q=>q) (fun c q=>hupd _ _ q) fun c xs q=>hupd _ _ q
def cxH (X:Cx) (e:Addr):Cx:={ X with A:=X.A.mark (some (.ref e)),calm:=false,xe:=fun _ _=>False }
theorem Inv.toH {X:Cx} {pins:List (Addr×Obj)} {σ:St} {H:Hp} {s:Shared} {e:Addr} (I:Inv X pins σ H s):Inv (cxH X e) pins σ H s :=
 ⟨⟨I.ok.mod,I.ok.kind,I.ok.glob,I.ok.blt,I.ok.above,I.ok.inj,I.ok.has,I.ok.cab,(fun z=>by cases z),I.ok.frames,I.ok.stk,I.ok.exf,I.ok.bs,I.ok.bsz,I.ok.noex,I.ok.exfs,I.ok.funs,I.ok.frf⟩,I.os,I.bare,I.base,I.loc,I.cell,I.free,I.freeC,I.pin,I.hok,I.len⟩
theorem Inv.ofH {X:Cx} {pins:List (Addr×Obj)} {σ:St} {H:Hp} {s:Shared} {e:Addr} (ok:X.Ok) (I:Inv (cxH X e) pins σ H s):Inv X pins σ H s :=
 ⟨ok,I.os,I.bare,I.base,I.loc,I.cell,I.free,I.freeC,I.pin,I.hok,I.len⟩
def cxT (X:Cx) (pn:List (Addr×Obj)) (xe:Value→Shared→Prop):Cx:={ X with pn:=pn,xe:=xe }
theorem Inv.toT {X:Cx} {pins:List (Addr×Obj)} {σ:St} {H:Hp} {s:Shared} {xe:Value→Shared→Prop} (I:Inv X pins σ H s):Inv (cxT X (X.pn++pins) xe) [] σ H s :=
 ⟨⟨I.ok.mod,I.ok.kind,I.ok.glob,I.ok.blt,I.ok.above,I.ok.inj,I.ok.has,I.ok.cab,I.ok.hd,I.ok.frames,I.ok.stk,I.ok.exf,I.ok.bs,I.ok.bsz,I.ok.noex,I.ok.exfs,I.ok.funs,I.ok.frf⟩,I.os,I.bare,I.base,I.loc,I.cell,I.free,I.freeC,(fun p hp=>I.pin p (by simpa [cxT] using hp)),I.hok,I.len⟩
theorem Inv.ofT {X:Cx} {pins pins':List (Addr×Obj)} {σ:St} {H:Hp} {s:Shared} {xe:Value→Shared→Prop} (ok:X.Ok) (I:Inv (cxT X (X.pn++pins) xe) pins' σ H s):Inv X pins σ H s :=
 ⟨ok,I.os,I.bare,I.base,I.loc,I.cell,I.free,I.freeC,(fun p hp=>I.pin p (List.mem_append_left _ hp)),I.hok,I.len⟩
def ZAR (e C:Addr):Heap→Prop:=fun h=>∃ ox,h.get? e=some ox∧ox.cls=.ref C
def ZjM (CX:CXT) (X:Cx) (Eσ:St→XK):Prop:=∀ (pins:List (Addr×Obj)) (σ:St) (H:Hp) (s:Shared) (e:Value) (s':Shared),Inv X pins σ H s→CX X.stack H s (Eσ σ) e s'→X.xe e s'
def Zus (sp:Sp) (dvs:List V) (Eσ:St→XK) (t:TA):TE:=fun σ H Q=>t σ H fun vs H1=>sp (vs++dvs) H1 Q (Eσ σ)
section
variable {X:Cx} {CX:CXT} {k:Nat} {f:Addr} {fd:FuncData} {ps:List Str} {sp:Sp} {dvs:List V} {ds:List Value} {Eσ:St→XK} {x:Str} {p pos:Pos} {e:Expr} {es:List Expr} {t:TA}
theorem ZsJ (F:FnOk X.prog X.w X.K X.mg X.base CX k f fd ps sp) (hr:Room k X.A) (hg:Gl X x) (hm:X.mg x=some (.ref f)) (hk:PySem.W.keepIn X.K (.ref f)=true) (hb:Binds X.K fd ps ds) (hd:Vals dvs ds) (hx:ZjM CX X Eσ)
  (ha:PA X (e::es) t) (hdb:(x==("__debug__":Str))=false:=by decide) (he:starEach (e::es) X.env=(false,eval e X.env)::starEach es X.env:=by rfl) (hpl:(backTo pos (starEach es X.env)).any (·.1)=false:=by rfl) :
  PE X (.Call (.Name x p) (e::es) [] pos) (Zus sp dvs Eσ t):=by
 intro pins s σ H Q I h
 refine wpAny_Call_Name_kw (Zjk I hg hm ?_ hdb)
 refine PySem.W.callWith_K (h₀:=X.base) I.ok.mod.kin hk (thn (ha pos pins s σ H _ I h) fun us s1 ⟨vs,H1,I1,r,q⟩=>⟨I1.kIn,?_⟩) he hpl
 have r2:Vals (vs++dvs) (us++ds):=r.append hd
 have hl:(us++ds).length=ps.length:=by rw [← r2.length];exact F.len _ _ _ _ q
 refine wpAny_call (codeAny_mono (F.run X.A X.stack s1 H1 ⟨us,[]⟩ (us++ds) (vs++dvs) Q (Eσ σ) hr I1.env0 (hb s1 us I1.kIn hl) r2 q) fun r s' hq=>?_)
 cases r with
 | error e=>exact hx pins σ H1 s1 e s' I1 hq
 | ok fl =>
  cases fl with
  | ret u=>exact I1.after hq
  | next=>exact False.elim hq
  | brk=>exact False.elim hq
  | cont=>exact False.elim hq
end
section
variable {X:Cx} {k:Nat} {f:Addr} {fd:FuncData} {ps:List Str} {sp:Sp} {x:Str} {p pos:Pos} {e:Expr} {es:List Expr} {t:TA}
end
end L2
namespace L3
open PySem PySem.Spec PyProof.Rows L2
abbrev St:=L2.St
inductive W where
 | non | bl (b:Bool) | int (i:Int) | str (x:Str) | tup (xs:List W) | rol (xs:List W) | ref (a:Addr)
inductive HW where
 | lst (xs:List W) | exc (C:Addr) | ins (C:Addr) (fs:List (Str×W)) | dct (kvs:List (Key×W))
abbrev Sw:=List (Option W)
abbrev Hw:=Addr→Option HW
def put (H:Hw) (a:Addr) (o:HW):Hw:=fun b=>if b=a then some o else H b
theorem Zad {H:Hw} {a:Addr} {o:HW}:put H a o a=some o:=by unfold put;rw [if_pos rfl]
theorem Zao {H:Hw} {a b:Addr} {o:HW} (h:b≠a):put H a o b=H b:=by unfold put;rw [if_neg h]
section
variable (K:PySem.W.Frag)
def RoL (H:Hp) (a:Addr) (xs:List V):Prop:=(∃ o,H a=some (.frz o (.lst xs))) ∨
 ∃ (o:Obj) (its:Array Value) (n:Nat),K.lookup a=some o∧o.cls=.type "list"∧o.dict=none∧o.data=.seq its n∧its.size≤sizeLine∧Vals xs its.toList
theorem RoL.sq {K:PySem.W.Frag} {H:Hp} {a:Addr} {xs:List V} (h:RoL K H a xs):SqL K H a xs:=by
 rcases h with ⟨o,h⟩ | h
 ·exact .inl (.inr ⟨o,h⟩)
 ·exact .inr h
mutual
inductive Tr (H:Hp):V→W→Prop where
 | non:Tr H .non .non
 | bl (b:Bool):Tr H (.bl b) (.bl b)
 | int (i:Int):Tr H (.int i) (.int i)
 | str (x:Str):Tr H (.str x) (.str x)
 | tup {a:Addr} {vs:List V} {ws:List W}:SqT K H a vs→TrL H vs ws→Tr H (.ref a) (.tup ws)
 | rol {a:Addr} {vs:List V} {ws:List W}:RoL K H a vs→TrL H vs ws→Tr H (.ref a) (.rol ws)
 | ref (a:Addr):Tr H (.ref a) (.ref a)
inductive TrL (H:Hp):List V→List W→Prop where
 | nil:TrL H [] []
 | cons {v:V} {w:W} {vs:List V} {ws:List W}:Tr H v w→TrL H vs ws→TrL H (v::vs) (w::ws)
end
inductive TrP {α:Type} (H:Hp):List (α×V)→List (α×W)→Prop where
 | nil:TrP H [] []
 | cons {f:α} {v:V} {w:W} {vs:List (α×V)} {ws:List (α×W)}:Tr K H v w→TrP H vs ws→TrP H ((f,v)::vs) ((f,w)::ws)
structure Mono (H H':Hp):Prop where
 tup:∀ a vs,SqT K H a vs→SqT K H' a vs
 rol:∀ a vs,RoL K H a vs→RoL K H' a vs
def RelO2 (H:Hp) (a:Addr):HW→Prop
 | .lst ws=>∃ vs,H a=some (.lst vs)∧TrL K H vs ws
 | .exc C=>H a=some (.ext (ZAR a C))
 | .ins C ws=>∃ dx vs,H a=some (.ins C dx vs)∧TrP K H vs ws
 | .dct ws=>∃ vs,H a=some (.dK vs)∧TrP K H vs ws
def RelH (H:Hp) (G:Hw):Prop:=∀ a o,G a=some o→RelO2 K H a o
structure TrSt (H:Hp) (σ:St) (ω:Sw):Prop where
 len:σ.length=ω.length
 get:∀ (i:Nat) (w:W),ω[i]?=some (some w)→∃ v,σ[i]?=some (some v)∧Tr K H v w
end
variable {K:PySem.W.Frag} {H H' H2:Hp}
theorem Mono.refl:Mono K H H:=⟨fun _ _ h=>h,fun _ _ h=>h⟩
theorem Mono.trans (m:Mono K H H') (m':Mono K H' H2):Mono K H H2:=⟨fun a vs h=>m'.tup a vs (m.tup a vs h),fun a vs h=>m'.rol a vs (m.rol a vs h)⟩
mutual
theorem Tr.mono (m:Mono K H H') {v:V} {w:W} (t:Tr K H v w):Tr K H' v w:=by
 cases t with
 | non=>exact .non
 | bl b=>exact .bl b
 | int i=>exact .int i
 | str x=>exact .str x
 | tup h l=>exact .tup (m.tup _ _ h) (TrL.mono m l)
 | rol h l=>exact .rol (m.rol _ _ h) (TrL.mono m l)
 | ref a=>exact .ref a
theorem TrL.mono (m:Mono K H H') {vs:List V} {ws:List W} (t:TrL K H vs ws):TrL K H' vs ws:=by
 cases t with
 | nil=>exact .nil
 | cons h l=>exact .cons (Tr.mono m h) (TrL.mono m l)
end
theorem TrP.mono {α:Type} (m:Mono K H H'):∀ {vs:List (α×V)} {ws:List (α×W)},TrP K H vs ws→TrP K H' vs ws
 | _,_,.nil=>.nil
 | _,_,.cons r t=>.cons (r.mono m) (TrP.mono m t)
theorem RelO2.mono (m:Mono K H H') {a:Addr} (e:H' a=H a):∀ {o:HW},RelO2 K H a o→RelO2 K H' a o
 | .lst ws,⟨vs,z,t⟩=>⟨vs,e.trans z,t.mono m⟩
 | .exc C,z=>(e.trans z:H' a=_)
 | .ins C ws,⟨dx,vs,z,t⟩=>⟨dx,vs,e.trans z,t.mono m⟩
 | .dct ws,⟨vs,z,t⟩=>⟨vs,e.trans z,t.mono m⟩
theorem RelO2.some {a:Addr}:∀ {o:HW},RelO2 K H a o→H a≠none
 | .lst ws,⟨vs,z,t⟩,q=>by rw [q] at z;cases z
 | .exc C,z,q=>by rw [show H a=_ from z] at q;cases q
 | .ins C ws,⟨dx,vs,z,t⟩,q=>by rw [q] at z;cases z
 | .dct ws,⟨vs,z,t⟩,q=>by rw [q] at z;cases z
theorem TrSt.mono {σ:St} {ω:Sw} (m:Mono K H H') (t:TrSt K H σ ω):TrSt K H' σ ω:=⟨t.len,fun i w e=>let ⟨v,e',r⟩:=t.get i w e;⟨v,e',r.mono m⟩⟩
theorem TrSt.set {σ:St} {ω:Sw} {v:V} {w:W} (t:TrSt K H σ ω) (i:Nat) (r:Tr K H v w):TrSt K H (σ.set i (some v)) (ω.set i (some w)):=by
 refine ⟨by simp [t.len],fun j u e=>?_⟩
 by_cases h:i=j
 ·subst h
  by_cases hl:i < ω.length
  ·rw [List.getElem?_set_self hl] at e
   cases e
   exact ⟨v,List.getElem?_set_self (by rw [t.len];exact hl),r⟩
  ·rw [List.getElem?_eq_none (by simp;omega)] at e;cases e
 ·rw [List.getElem?_set_ne h] at e
  obtain ⟨v',e',r'⟩:=t.get j u e
  exact ⟨v',by rw [List.getElem?_set_ne h];exact e',r'⟩
theorem TrL.length:∀ {vs:List V} {ws:List W},TrL K H vs ws→vs.length=ws.length
 | _,_,.nil=>rfl
 | _,_,.cons _ t=>congrArg (·+1) t.length
theorem TrL.get:∀ {vs:List V} {ws:List W} {i:Nat} {w:W},TrL K H vs ws→ws[i]?=some w→∃ v,vs[i]?=some v∧Tr K H v w
 | _,_,_,_,.nil,e=>by simp at e
 | _,_,0,_,.cons r _,e=>by simp at e;subst e;exact ⟨_,rfl,r⟩
 | _,_,i+1,w,.cons _ t,e=>by
  obtain ⟨v,h1,h2⟩:=TrL.get (i:=i) (w:=w) t (by simpa using e)
  exact ⟨v,by simpa using h1,h2⟩
theorem TrL.get':∀ {vs:List V} {ws:List W} {i:Nat} {v:V},TrL K H vs ws→vs[i]?=some v→∃ w,ws[i]?=some w∧Tr K H v w
 | _,_,_,_,.nil,e=>by simp at e
 | _,_,0,_,.cons r _,e=>by simp at e;subst e;exact ⟨_,rfl,r⟩
 | _,_,i+1,v,.cons _ t,e=>by
  obtain ⟨w,h1,h2⟩:=TrL.get' (i:=i) (v:=v) t (by simpa using e)
  exact ⟨w,by simpa using h1,h2⟩
theorem TrL.append:∀ {vs vs':List V} {ws ws':List W},TrL K H vs ws→TrL K H vs' ws'→TrL K H (vs++vs') (ws++ws')
 | _,_,_,_,.nil,s=>s
 | _,_,_,_,.cons r t,s=>.cons r (t.append s)
theorem TrL.set {v:V} {w:W} (r:Tr K H v w):∀ {vs:List V} {ws:List W} (i:Nat),TrL K H vs ws→TrL K H (vs.set i v) (ws.set i w)
 | _,_,_,.nil=>.nil
 | _,_,0,.cons _ t=>.cons r t
 | _,_,i+1,.cons q t=>.cons q (TrL.set r i t)
theorem TrL.take:∀ {vs:List V} {ws:List W} (n:Nat),TrL K H vs ws→TrL K H (vs.take n) (ws.take n)
 | _,_,0,_=>.nil
 | _,_,_+1,.nil=>.nil
 | _,_,n+1,.cons r t=>.cons r (TrL.take n t)
theorem TrL.drop:∀ {vs:List V} {ws:List W} (n:Nat),TrL K H vs ws→TrL K H (vs.drop n) (ws.drop n)
 | _,_,0,r=>r
 | _,_,_+1,.nil=>.nil
 | _,_,n+1,.cons _ t=>TrL.drop n t
theorem ZnL {a b:Addr} {vs:List V} {o:HO} (h:SqT K H a vs) (hb:∀ xs,H b≠some (.tup xs)) (hf:∀ ob xs,H b≠some (.frz ob (.tup xs))):SqT K (upd H b o) a vs:=by
 rcases h with (h | ⟨ob,h⟩) | h
 ·exact .inl (.inl (by rw [Za7 (fun e=>hb _ (e▸h))];exact h))
 ·exact .inl (.inr ⟨ob,by rw [Za7 (fun e=>hf _ _ (e▸h))];exact h⟩)
 ·exact .inr h
theorem Zop {a b:Addr} {vs:List V} {o:HO} (h:RoL K H a vs) (hf:∀ ob u,H b≠some (.frz ob u)):RoL K (upd H b o) a vs:=by
 rcases h with ⟨ob,h⟩ | h
 ·exact .inl ⟨ob,by rw [Za7 (fun e=>hf _ _ (e▸h))];exact h⟩
 ·exact .inr h
theorem Mono.new {p:Addr} (hp:H p=none) (o:HO):Mono K H (upd H p o) :=
 ⟨fun a vs h=>ZnL h (fun xs e=>by rw [hp] at e;cases e) (fun ob xs e=>by rw [hp] at e;cases e),fun a vs h=>Zop h (fun ob xs e=>by rw [hp] at e;cases e)⟩
theorem Mono.lst {p:Addr} {xs:List V} (hp:H p=some (.lst xs)) (o:HO):Mono K H (upd H p o) :=
 ⟨fun a vs h=>ZnL h (fun xs e=>by rw [hp] at e;cases e) (fun ob xs e=>by rw [hp] at e;cases e),fun a vs h=>Zop h (fun ob xs e=>by rw [hp] at e;cases e)⟩
theorem Mono.was {p:Addr} {o':HO} (hp:H p=some o') (o:HO) (h1:∀ xs,o'≠.tup xs) (h2:∀ ob u,o'≠.frz ob u):Mono K H (upd H p o) :=
 ⟨fun a vs h=>ZnL h (fun xs e=>by rw [hp] at e;exact h1 _ (Option.some.inj e)) (fun ob xs e=>by rw [hp] at e;exact h2 _ _ (Option.some.inj e)),fun a vs h=>Zop h (fun ob xs e=>by rw [hp] at e;exact h2 _ _ (Option.some.inj e))⟩
theorem RelH.no {G:Hw} {p:Addr} (r:RelH K H G) (hp:H p=none):G p=none:=by
 cases e:G p with
 | none=>rfl
 | some o=>exact absurd hp (r p o e).some
theorem RelH.mono0 {G:Hw} {p:Addr} {o:HO} (r:RelH K H G) (hp:H p=none):RelH K (upd H p o) G:=fun a u e =>
 have q:=r a u e
 q.mono (Mono.new hp o) (Za7 (by rintro rfl;exact q.some hp))
theorem RelH.laid {G:Hw} {p:Addr} {o:HO} {u:HW} (r:RelH K H G) (m:Mono K H (upd H p o)) (t:RelO2 K (upd H p o) p u):RelH K (upd H p o) (put G p u):=fun a u' e=>by
 by_cases h:a=p
 ·subst h
  rw [Zad] at e;cases e
  exact t
 ·rw [Zao h] at e
  exact (r a _ e).mono m (Za7 h)
theorem RelH.new {G:Hw} {p:Addr} {vs:List V} {ws:List W} (r:RelH K H G) (hp:H p=none) (t:TrL K H vs ws):RelH K (upd H p (.lst vs)) (put G p (.lst ws)) :=
 r.laid (Mono.new hp _) ⟨vs,ZbP,t.mono (Mono.new hp _)⟩
theorem RelH.chg {G:Hw} {p:Addr} {xs vs:List V} {ws:List W} (r:RelH K H G) (hp:H p=some (.lst xs)) (t:TrL K H vs ws):RelH K (upd H p (.lst vs)) (put G p (.lst ws)) :=
 r.laid (Mono.lst hp _) ⟨vs,ZbP,t.mono (Mono.lst hp _)⟩
abbrev Kw:=W→Hw→Prop
abbrev GE:=Sw→Hw→Kw→Prop
abbrev GT:=Sw→Hw→(Bool→Hw→Prop)→Prop
abbrev GA:=Sw→Hw→(List W→Hw→Prop)→Prop
structure Ew where
 nx:Sw→Hw→Prop
 rt:Kw
 bk:Sw→Hw→Prop
 ct:Sw→Hw→Prop
abbrev GS:=Ew→Sw→Hw→Prop
abbrev GG:=W→Sw→Hw→(Sw→Hw→Prop)→Prop
def GE.M (g:GE):Prop:=∀ ω G (Q Q':Kw),(∀ w G',Q w G'→Q' w G')→g ω G Q→g ω G Q'
def GT.M (g:GT):Prop:=∀ ω G (Q Q':Bool→Hw→Prop),(∀ w G',Q w G'→Q' w G')→g ω G Q→g ω G Q'
def GA.M (g:GA):Prop:=∀ ω G (Q Q':List W→Hw→Prop),(∀ w G',Q w G'→Q' w G')→g ω G Q→g ω G Q'
def GS.M (g:GS):Prop:=∀ ω G (D D':Ew),(∀ a b,D.nx a b→D'.nx a b)→(∀ a b,D.rt a b→D'.rt a b)→(∀ a b,D.bk a b→D'.bk a b)→(∀ a b,D.ct a b→D'.ct a b)→g D ω G→g D' ω G
def GG.M (g:GG):Prop:=∀ w ω G (Q Q':Sw→Hw→Prop),(∀ a b,Q a b→Q' a b)→g w ω G Q→g w ω G Q'
def dn (K:PySem.W.Frag) (H:Hp) (Q:VK):Kw:=fun w G=>∀ v H',Mono K H H'→Tr K H' v w→RelH K H' G→Q v H'
def dnT (K:PySem.W.Frag) (H:Hp) (Q:Bool→Hp→Prop):Bool→Hw→Prop:=fun b G=>∀ H',Mono K H H'→RelH K H' G→Q b H'
def dnA (K:PySem.W.Frag) (H:Hp) (Q:List V→Hp→Prop):List W→Hw→Prop:=fun ws G=>∀ vs H',Mono K H H'→TrL K H' vs ws→RelH K H' G→Q vs H'
def dnS (K:PySem.W.Frag) (H:Hp) (Q:St→Hp→Prop):Sw→Hw→Prop:=fun ω G=>∀ σ H',Mono K H H'→TrSt K H' σ ω→RelH K H' G→Q σ H'
def dnD (K:PySem.W.Frag) (H:Hp) (D:Zw6):Ew:=⟨dnS K H D.nx,dn K H D.rt,dnS K H D.bk,dnS K H D.ct⟩
theorem ZcU {Q:VK} (m:Mono K H H') {w:W} {G:Hw} (q:dn K H Q w G):dn K H' Q w G:=fun v H2 m2 t r=>q v H2 (m.trans m2) t r
theorem Zov {Q:Bool→Hp→Prop} (m:Mono K H H') {w:Bool} {G:Hw} (q:dnT K H Q w G):dnT K H' Q w G:=fun H2 m2 r=>q H2 (m.trans m2) r
theorem ZtR {Q:St→Hp→Prop} (m:Mono K H H') {w:Sw} {G:Hw} (q:dnS K H Q w G):dnS K H' Q w G:=fun v H2 m2 t r=>q v H2 (m.trans m2) t r
def up (K:PySem.W.Frag) (g:GE):TE:=fun σ H Q=>∃ ω G,TrSt K H σ ω∧RelH K H G∧g ω G (dn K H Q)
def upT (K:PySem.W.Frag) (g:GT):TT:=fun σ H Q=>∃ ω G,TrSt K H σ ω∧RelH K H G∧g ω G (dnT K H Q)
def upA (K:PySem.W.Frag) (g:GA):TA:=fun σ H Q=>∃ ω G,TrSt K H σ ω∧RelH K H G∧g ω G (dnA K H Q)
def upS (K:PySem.W.Frag) (B:Hp) (g:GS):TS:=fun D σ H=>∃ ω G,TrSt K H σ ω∧RelH K H G∧Mono K B H∧g (dnD K B D) ω G
theorem Zbz {X:Cx} {e:Expr} {t t':TE} (h:PE X e t) (i:∀ σ H Q,t' σ H Q→t σ H Q):PE X e t':=fun pins s σ H Q I q=>h pins s σ H Q I (i σ H Q q)
theorem ZoT {X:Cx} {e:Expr} {t t':TT} (h:PT X e t) (i:∀ σ H Q,t' σ H Q→t σ H Q):PT X e t':=fun pins s σ H Q I q=>h pins s σ H Q I (i σ H Q q)
theorem Zvb {X:Cx} {e:List Expr} {t t':TA} (h:PA X e t) (i:∀ σ H Q,t' σ H Q→t σ H Q):PA X e t':=fun pos pins s σ H Q I q=>h pos pins s σ H Q I (i σ H Q q)
theorem Zfk {X:Cx} {e:Stmt} {t t':TS} (h:PS X e t) (i:∀ D σ H,t' D σ H→t D σ H):PS X e t':=fun pins s σ H D I q=>h pins s σ H D I (i D σ H q)
theorem ZnG {X:Cx} {e:List Stmt} {t t':TS} (h:PSs X e t) (i:∀ D σ H,t' D σ H→t D σ H):PSs X e t':=fun pins s σ H D I q=>h pins s σ H D I (i D σ H q)
section
variable {X:Cx} {a b c e:Expr} {es:List Expr} {pos:Pos} {ga gb gc:GE} {gt:GT} {gs:GA}
abbrev PEw (X:Cx) (e:Expr) (g:GE):Prop:=PE X e (up X.K g)
abbrev PTw (X:Cx) (e:Expr) (g:GT):Prop:=PT X e (upT X.K g)
abbrev PAw (X:Cx) (es:List Expr) (g:GA):Prop:=PA X es (upA X.K g)
abbrev PSw (X:Cx) (P:Hp→Prop) (st:Stmt) (g:GS):Prop:=∀ B,P B→PS X st (upS X.K B g)
abbrev ZsI (X:Cx) (P:Hp→Prop) (st:List Stmt) (g:GS):Prop:=∀ B,P B→PSs X st (upS X.K B g)
abbrev ZBa:Hp→Prop:=fun _=>True
abbrev atB (X:Cx):Hp→Prop:=fun B=>B=X.H₀
def gC (w:W):GE:=fun _ G Q=>Q w G
def Zab (i:Nat):GE:=fun ω G Q=>match ω[i]? with | some (some w)=>Q w G | _=>False
theorem Zw9 {w:W}:GE.M (gC w):=fun _ _ _ _ h q=>h _ _ q
theorem ZxV {i:Nat}:GE.M (Zab i):=fun ω G Q Q' h q=>by
 have z:Zab i ω G Q=(match ω[i]? with | some (some w)=>Q w G | _=>False):=rfl
 have z':Zab i ω G Q'=(match ω[i]? with | some (some w)=>Q' w G | _=>False):=rfl
 rw [z] at q
 rw [z']
 cases e:ω[i]? with
 | none=>rw [e] at q;exact q
 | some o =>
  cases o with
  | none=>rw [e] at q;exact q
  | some w=>rw [e] at q;exact h _ _ q
theorem ZxR {i:Nat} {x:Str} (hN:X.N[i]?=some x) (hv:Vis X.env.scope x) (hd:(x==("__debug__":Str))=false) (hcd:(x==("__classdict__":Str))=false):PEw X (.Name x pos) (Zab i) :=
 Zbz (Zxt hN hv hd hcd) <| by
  rintro σ H Q ⟨ω,G,ts,r,q⟩
  unfold Zab at q
  split at q
  ·rename_i w z
   obtain ⟨v,e,t⟩:=ts.get i w z
   exact ⟨v,e,q v H .refl t r⟩
  ·exact q.elim
theorem Zxp {i:Int} {j}:PEw X (.Constant (.int i) j pos) (gC (.int i)):=Zbz ZyG (by rintro σ H Q ⟨ω,G,ts,r,q⟩;exact q _ H .refl (.int i) r)
theorem Zz5 {i:Bool} {j}:PEw X (.Constant (.bool i) j pos) (gC (.bl i)):=Zbz ZAH (by rintro σ H Q ⟨ω,G,ts,r,q⟩;exact q _ H .refl (.bl i) r)
theorem ZyH {j}:PEw X (.Constant .none j pos) (gC .non):=Zbz ZxS (by rintro σ H Q ⟨ω,G,ts,r,q⟩;exact q _ H .refl .non r)
theorem ZxZ {i:Str} {j}:PEw X (.Constant (.str i) j pos) (gC (.str i)):=Zbz Zym (by rintro σ H Q ⟨ω,G,ts,r,q⟩;exact q _ H .refl (.str i) r)
theorem Zqf {x:Str} {v:V} {w:W} {u:Value} (hg:Gl X x) (hm:X.mg x=some u) (rv:RelV v u) (t:∀ H,Tr X.K H v w) (hd:(x==("__debug__":Str))=false):PEw X (.Name x pos) (gC w) :=
 Zbz (ZqY hg hm rv hd) (by rintro σ H Q ⟨ω,G,ts,r,q⟩;exact q _ H .refl (t H) r)
abbrev RW2:=W→W→Hw→Kw→Prop
def RW2.M (r:RW2):Prop:=∀ x y G (Q Q':Kw),(∀ w G',Q w G'→Q' w G')→r x y G Q→r x y G Q'
def Zai (r:RW2) (ga gb:GE):GE:=fun ω G Q=>ga ω G fun x G1=>gb ω G1 fun y G2=>r x y G2 Q
theorem Ze3 {r:RW2} (mr:r.M) (ma:ga.M) (mb:gb.M):GE.M (Zai r ga gb):=fun ω G Q Q' h q=>ma _ _ _ _ (fun x G1 q1=>mb _ _ _ _ (fun y G2 q2=>mr _ _ _ _ _ h q2) q1) q
theorem ZoK {r:RW2} {r2:R2} (mr:r.M) (ma:ga.M) (mb:gb.M)
  (hr:∀ (x y:W) (v u:V) (G:Hw) (H:Hp) (Q:VK),Tr K H v x→Tr K H u y→RelH K H G→r x y G (dn K H Q)→r2 v u H Q) (σ:St) (H:Hp) (Q:VK) (h:up K (Zai r ga gb) σ H Q):tOp r2 (up K ga) (up K gb) σ H Q:=by
 obtain ⟨ω,G,ts,rh,q⟩:=h
 refine ⟨ω,G,ts,rh,ma _ _ _ _ (fun x G1 q1 v H1 m1 tx r1=>?_) q⟩
 refine ⟨ω,G1,ts.mono m1,r1,mb _ _ _ _ (fun y G2 q2 u H2 m2 ty r2'=>?_) q1⟩
 exact hr x y v u G2 H2 Q (tx.mono m2) ty r2' (mr _ _ _ _ _ (fun w G' z=>ZcU (m1.trans m2) z) q2)
theorem ZjZ {op:Operator} {r:RW2} {r2:R2} (ho:OpR X (binaryOp op) r2) (mr:r.M) (ma:ga.M) (mb:gb.M) (hr:∀ (x y:W) (v u:V) (G:Hw) (H:Hp) (Q:VK),Tr X.K H v x→Tr X.K H u y→RelH X.K H G→r x y G (dn X.K H Q)→r2 v u H Q)
  (ha:PEw X a ga) (hb:PEw X b gb):PEw X (.BinOp a op b pos) (Zai r ga gb):=Zbz (ZAF ho ha hb) (ZoK mr ma mb hr)
theorem Zze {op:CmpOp} {r:RW2} {r2:R2} (ho:OpR X (compareOp op) r2) (mr:r.M) (ma:ga.M) (mb:gb.M) (hr:∀ (x y:W) (v u:V) (G:Hw) (H:Hp) (Q:VK),Tr X.K H v x→Tr X.K H u y→RelH X.K H G→r x y G (dn X.K H Q)→r2 v u H Q)
  (ha:PEw X a ga) (hb:PEw X b gb) (hm:behindInMarks op b=false):PEw X (.Compare a [op] [b] pos) (Zai r ga gb):=Zbz (Zvw ho ha hb hm) (ZoK mr ma mb hr)
theorem ZAK {r:RW2} {r2:R2} (ho:IxR X r2) (mr:r.M) (ma:ga.M) (mb:gb.M) (hr:∀ (x y:W) (v u:V) (G:Hw) (H:Hp) (Q:VK),Tr X.K H v x→Tr X.K H u y→RelH X.K H G→r x y G (dn X.K H Q)→r2 v u H Q)
  (ha:PEw X a ga) (hb:PEw X b gb) (hs:ZlE b):PEw X (.Subscript a b pos) (Zai r ga gb):=Zbz (ZAr ho ha hb hs) (ZoK mr ma mb hr)
end
abbrev Xw:=Sw→Addr→Hw→Prop
abbrev XF:Xw:=fun _ _ _=>False
def upX (K:PySem.W.Frag) (ex:Xw):St→XK:=fun σ Cv _ H'=>∃ C ω G,Cv=.ref C∧TrSt K H' σ ω∧RelH K H' G∧ex ω C G
abbrev Zmq (X:Cx) (ex:Xw):Prop:=ZjM (CXe X.prog X.w) X (upX X.K ex)
theorem Un.mono' {fs exs:List Addr} {h h':Heap} (u:Un fs exs H H' h h'):Mono K H H':=by
 refine ⟨fun a vs q=>?_,fun a vs q=>?_⟩
 ·rcases q with (q | ⟨o,q⟩) | q
  ·exact .inl (.inl (u.tups a vs q))
  ·exact .inl (.inr ⟨o,u.frzs a o _ q⟩)
  ·exact .inr q
 ·rcases q with ⟨o,q⟩ | q
  ·exact .inl ⟨o,u.frzs a o _ q⟩
  ·exact .inr q
abbrev Spw:=List W→Hw→Kw→(Addr→Hw→Prop)→Prop
def dnX (K:PySem.W.Frag) (H:Hp) (E:XK):Addr→Hw→Prop:=fun C G'=>∀ H',Mono K H H'→RelH K H' G'→E (.ref C) none H'
def Zvh (K:PySem.W.Frag) (sp:Spw):Sp:=fun vs H Q E=>∃ ws G,TrL K H vs ws∧RelH K H G∧sp ws G (dn K H Q) (dnX K H E)
def Spw.M (sp:Spw):Prop:=∀ ws G (Q Q':Kw) (E E':Addr→Hw→Prop),(∀ w G',Q w G'→Q' w G')→(∀ w G',E w G'→E' w G')→sp ws G Q E→sp ws G Q' E'
structure Df (P:Program) (w:World) (K:PySem.W.Frag) (mg:Str→Option Value) (base:Heap) (x:Str) (k n:Nat) (sp:Spw):Prop where
 ex:∃ (f:Addr) (fd:FuncData) (ps:List Str),mg x=some (.ref f)∧PySem.W.keepIn K (.ref f)=true∧Binds K fd ps []∧ps.length=n∧FnOk P w K mg base (CXe P w) k f fd ps (Zvh K sp)
 mono:sp.M
section
variable {X:Cx} {e:Expr} {es:List Expr} {pos p:Pos} {ga gb:GE} {gs:GA} {ex:Xw}
def Zaj:GA:=fun _ G Q=>Q [] G
def Zaa (g:GE) (gs:GA):GA:=fun ω G Q=>g ω G fun x G1=>gs ω G1 fun xs G2=>Q (x::xs) G2
theorem ZyY:GA.M Zaj:=fun _ _ _ _ h q=>h _ _ q
theorem ZvD (ma:ga.M) (ms:gs.M):GA.M (Zaa ga gs):=fun ω G Q Q' h q=>ma _ _ _ _ (fun x G1 q1=>ms _ _ _ _ (fun xs G2 q2=>h _ _ q2) q1) q
theorem ZyI:PAw X [] Zaj:=Zvb Zrp (by rintro σ H Q ⟨ω,G,ts,r,q⟩;exact q [] H .refl .nil r)
theorem ZvY (ma:ga.M) (ms:gs.M) (ha:PEw X e ga) (hs:PAw X es gs) (hst:starEach (e::es) X.env=(false,eval e X.env)::starEach es X.env:=by rfl):PAw X (e::es) (Zaa ga gs) :=
 Zvb (ZlW ha hs hst) (by rintro σ H Q ⟨ω,G,ts,r,q⟩;exact ⟨ω,G,ts,r,ma _ _ _ _ (fun x G1 q1 v H1 m1 tx r1=>⟨ω,G1,ts.mono m1,r1,ms _ _ _ _ (fun xs G2 q2 vs H2 m2 txs r2=>q2 _ H2 (m1.trans m2) (.cons (tx.mono m2) txs) r2) q1⟩) q⟩)
def Zae (sp:Spw) (ex:Xw) (gs:GA):GE:=fun ω G Q=>gs ω G fun ws G1=>sp ws G1 Q (ex ω)
theorem Zvp {sp:Spw} (m:sp.M) (ms:gs.M):GE.M (Zae sp ex gs):=fun ω G Q Q' h q=>ms _ _ _ _ (fun ws G1 q1=>m _ _ _ _ _ _ h (fun _ _ z=>z) q1) q
theorem Zwq {x:Str} {k n:Nat} {sp:Spw} (D:Df X.prog X.w X.K X.mg X.base x k n sp) (hr:Room k X.A) (hg:Gl X x) (hp:Zmq X ex) (ms:gs.M) (ha:PAw X (e::es) gs)
  (hdb:(x==("__debug__":Str))=false:=by decide) (he:starEach (e::es) X.env=(false,eval e X.env)::starEach es X.env:=by rfl) (hpl:(backTo pos (starEach es X.env)).any (·.1)=false:=by rfl) :
  PEw X (.Call (.Name x p) (e::es) [] pos) (Zae sp ex gs):=by
 obtain ⟨f,fd,ps,hm,hk,hb,_,F⟩:=D.ex
 refine Zbz (ZsJ F hr hg hm hk hb .nil hp ha hdb he hpl) fun σ H Q zz1=>?_
 obtain ⟨ω,G,ts,r,q⟩:=zz1
 refine ⟨ω,G,ts,r,ms _ _ _ _ (fun ws G1 q1 vs H1 m1 tvs r1=>?_) q⟩
 refine ⟨ws,G1,by rw [List.append_nil];exact tvs,r1,D.mono _ _ _ _ _ _ (fun w G' z=>ZcU m1 z) (fun C G' z H2 m2 r2=>?_) q1⟩
 exact ⟨C,ω,G',rfl,(ts.mono m1).mono m2,r2,z⟩
end
def Zbw (N:List Str) (ws:List W):Sw:=ws.map some++List.replicate (N.length - ws.length) none
theorem ZhS {N:List Str} {vs:List V} {ws:List W} (t:TrL K H vs ws):TrSt K H (L2.Zjs N vs) (Zbw N ws):=by
 have hl:=t.length
 refine ⟨by simp [L2.Zjs,Zbw,hl],fun i w e=>?_⟩
 unfold Zbw at e
 by_cases hi:i < ws.length
 ·rw [List.getElem?_append_left (by simpa using hi),List.getElem?_map] at e
  cases z:ws[i]? with
  | none=>rw [z] at e;cases e
  | some w' =>
   rw [z] at e
   cases e
   obtain ⟨v,e1,r⟩:=t.get z
   exact ⟨v,by unfold L2.Zjs;rw [List.getElem?_append_left (by simp;omega),List.getElem?_map,e1];rfl,r⟩
 ·rw [List.getElem?_append_right (by simpa using hi),List.getElem?_replicate] at e
  split at e <;> cases e
def Sub (G G':Hw):Prop:=∀ a o,G a=some o→G' a=some o
theorem Sub.refl {G:Hw}:Sub G G:=fun _ _ h=>h
theorem Sub.trans {G G1 G2:Hw} (a:Sub G G1) (b:Sub G1 G2):Sub G G2:=fun c o h=>b c o (a c o h)
theorem Sub.put {G G':Hw} {a:Addr} {o:HW} (h:Sub G G') (hn:G a=none):Sub G (put G' a o):=fun c u z=>by
 rw [Zao (fun e=>by rw [e,hn] at z;cases z)]
 exact h c u z
theorem Sub.put2 {G G':Hw} {a:Addr} {o:HW} (h:Sub G G'):Sub (L3.put G a o) (L3.put G' a o):=fun c u z=>by
 by_cases e:c=a
 ·subst e;rw [Zad] at z ⊢;exact z
 ·rw [Zao e] at z ⊢;exact h c u z
theorem RelH.sub {G G':Hw} (r:RelH K H G') (s:Sub G G'):RelH K H G:=fun a o e=>r a o (s a o e)
def Kw.C (Q:Kw):Prop:=∀ w G G',Sub G G'→Q w G→Q w G'
def Xc (E:Addr→Hw→Prop):Prop:=∀ w G G',Sub G G'→E w G→E w G'
theorem Zz2 {Q:VK}:Kw.C (dn K H Q):=fun w G G' s q v H2 m t r=>q v H2 m t (r.sub s)
theorem ZAa {E:XK}:Xc (dnX K H E):=fun w G G' s q H2 m r=>q H2 m (r.sub s)
def ZaE (Q:Kw):Ew:=⟨fun _ G=>Q .non G,Q,fun _ _=>False,fun _ _=>False⟩
section
variable {P:Program} {w:World} {mg:Str→Option Value} {base:Heap}
abbrev cxW (P:Program) (w:World) (K:PySem.W.Frag) (mg:Str→Option Value) (base:Heap) (N:List Str) (qual:Str) (scope:Scope) (f:Addr) (cd:Value) (A:Around) (outer:List Env) (s:Shared) (H:Hp) (E:XK):Cx :=
 Zi0 (CXe P w) P w K mg base N qual scope f cd A outer s H E
theorem ZjK {N:List Str} {qual:Str} {scope:Scope} {f:Addr} {cd:Value} {A:Around} {outer:List Env} {s:Shared} {H:Hp} {E:XK}:Zmq (cxW P w K mg base N qual scope f cd A outer s H E) (fun _=>dnX K H E):=by
 intro pins σ Hc sc ev s' I ⟨e,C,H',ee,F,C',ω,G,eC,ts,r,q⟩
 cases eC
 refine ZAs pins σ Hc sc ev s' I ⟨e,C,H',ee,F,q H' ?_ r⟩
 exact (Un.mono' I.base).trans (Un.mono' F.un)
end
section
variable {X:Cx} {a b c e:Expr} {st:Stmt} {sts sts':List Stmt} {pos pos':Pos} {ga gb gc:GE} {gt gu:GT} {g1 g2:GS} {ex:Xw} {P:Hp→Prop}
def Zam:GS:=fun D ω G=>D.nx ω G
def Zat (g1 g2:GS):GS:=fun D ω G=>g1 { D with nx:=g2 D } ω G
theorem Zv7:GS.M Zam:=fun _ _ _ _ h _ _ _ q=>h _ _ q
theorem Zy6 (m1:g1.M) (m2:g2.M):GS.M (Zat g1 g2):=fun ω G D D' h1 h2 h3 h4 q=>m1 _ _ { D with nx:=g2 D } _ (fun _ _ z=>m2 _ _ _ _ h1 h2 h3 h4 z) h2 h3 h4 q
theorem Zvv:ZsI X P [] Zam:=fun B hB=>ZnG Zvn (by rintro D σ H ⟨ω,G,ts,r,mb,q⟩;exact q σ H mb ts r)
theorem Ztf (m1:g1.M) (m2:g2.M) (h1:PSw X P st g1) (h2:ZsI X P sts g2):ZsI X P (st::sts) (Zat g1 g2):=fun B hB =>
 ZnG (ZsL (h1 B hB) (h2 B hB)) (by rintro D σ H ⟨ω,G,ts,r,mb,q⟩;exact ⟨ω,G,ts,r,mb,m1 _ _ { dnD X.K B D with nx:=g2 (dnD X.K B D) } _ (fun ω' G' z σ' H' m ts' r'=>⟨ω',G',ts',r',m,z⟩) (fun _ _ z=>z) (fun _ _ z=>z) (fun _ _ z=>z) q⟩)
theorem Zvl (h1:PSw X P st g1):ZsI X P [st] g1:=fun B hB=>ZnG (ZwV (h1 B hB)) fun D σ H z=>z
def Za9 (i:Nat) (ga:GE):GS:=fun D ω G=>ga ω G fun w G1=>D.nx (ω.set i (some w)) G1
theorem Zum {i:Nat} (ma:ga.M):GS.M (Za9 i ga):=fun ω G D D' h _ _ _ q=>ma _ _ _ _ (fun _ _ z=>h _ _ z) q
theorem Zyw {i:Nat} {x:Str} (hN:X.N.Nodup) (hi:X.N[i]?=some x) (hx:Loc X.env.scope x) (ma:ga.M) (ha:PEw X e ga) (hs:swapsWith e (some (.Name x pos')) pos.line X.env=pure false) (hf:X.fn x=true∨X.env.scope.names.lookup x=some .local) :
  PSw X P (.Assign [.Name x pos'] e pos) (Za9 i ga):=fun B hB =>
 Zfk (ZyN hN hi hx ha hs hf) (by rintro D σ H ⟨ω,G,ts,r,mb,q⟩;exact ⟨ω,G,ts,r,ma _ _ _ _ (fun w G1 z v H1 m t r1=>z _ H1 (mb.trans m) ((ts.mono m).set i t) r1) q⟩)
def Zay (ga:GE):GS:=fun D ω G=>ga ω G D.rt
theorem Zxq (ma:ga.M):GS.M (Zay ga):=fun ω G D D' _ h _ _ q=>ma _ _ _ _ (fun _ _ z=>h _ _ z) q
theorem Zy3 (ma:ga.M) (ha:PEw X e ga):PSw X P (.Return (some e) pos) (Zay ga):=fun B hB=>Zfk (Zx3 ha) (by rintro D σ H ⟨ω,G,ts,r,mb,q⟩;exact ⟨ω,G,ts,r,ma _ _ _ _ (fun w G1 z v H1 m t r1=>z v H1 (mb.trans m) t r1) q⟩)
def Zbs (ga:GE):GS:=fun D ω G=>ga ω G fun _ G1=>D.nx ω G1
theorem Zvf (ma:ga.M):GS.M (Zbs ga):=fun ω G D D' h _ _ _ q=>ma _ _ _ _ (fun _ _ z=>h _ _ z) q
theorem ZvO (ma:ga.M) (ha:PEw X e ga) (hs:swapsWith e none pos.line X.env=pure false):PSw X P (.Expr e pos) (Zbs ga):=fun B hB =>
 Zfk (Zwb ha hs) (by rintro D σ H ⟨ω,G,ts,r,mb,q⟩;exact ⟨ω,G,ts,r,ma _ _ _ _ (fun w G1 z v H1 m t r1=>z _ H1 (mb.trans m) (ts.mono m) r1) q⟩)
def gIf (gt:GT) (g1 g2:GS):GS:=fun D ω G=>gt ω G fun b G1=>if b=true then g1 D ω G1 else g2 D ω G1
theorem ZAG (mt:gt.M) (m1:g1.M) (m2:g2.M):GS.M (gIf gt g1 g2):=fun ω G D D' h1 h2 h3 h4 q=>mt _ _ _ _ (fun b G1 z=>by
 cases b with
 | true=>exact m1 _ _ _ _ h1 h2 h3 h4 z
 | false=>exact m2 _ _ _ _ h1 h2 h3 h4 z) q
theorem ZAk (mt:gt.M) (m1:g1.M) (m2:g2.M) (hc:PTw X c gt) (h1:ZsI X P sts g1) (h2:ZsI X P sts' g2):PSw X P (.If c sts sts' pos) (gIf gt g1 g2):=fun B hB =>
 Zfk (ZAy hc (h1 B hB) (h2 B hB)) fun D σ H ⟨ω,G,ts,r,mb,q⟩=>⟨ω,G,ts,r,mt _ _ _ _ (fun b G1 z H1 m r1=>by
  cases b with
  | true=>exact ⟨ω,G1,ts.mono m,r1,mb.trans m,z⟩
  | false=>exact ⟨ω,G1,ts.mono m,r1,mb.trans m,z⟩) q⟩
def gTB (g:GE):GT:=fun ω G Q=>g ω G fun w G1=>match w with | .bl b=>Q b G1 | _=>False
theorem Zxf (m:ga.M):GT.M (gTB ga):=fun ω G Q Q' h q=>m _ _ _ _ (fun w G1 z=>by
 cases w <;> first | exact h _ _ z | exact z) q
theorem ZnR {v:V} {b:Bool} (t:Tr K H v (.bl b)):v=.bl b:=by cases t;rfl
theorem ZyM {v:V} {b:Int} (t:Tr K H v (.int b)):v=.int b:=by cases t;rfl
theorem ZuT {v:V} {b:Str} (t:Tr K H v (.str b)):v=.str b:=by cases t;rfl
theorem Zxu (m:ga.M) {f:Bool→Hp→Prop} {σ:St} (h:upT K (gTB ga) σ H f):up K ga σ H (fun x H1=>∃ k,x=.bl k∧f k H1):=by
 obtain ⟨ω,G,ts,r,q⟩:=h
 refine ⟨ω,G,ts,r,m _ _ _ _ (fun w G1 z v H1 m1 t r1=>?_) q⟩
 cases w with
 | bl b=>exact ⟨b,ZnR t,z H1 m1 r1⟩
 | _=>exact z.elim
theorem Zy1 {op:CmpOp} {r:RW2} {r2:R2} (ho:OpR X (compareOp op) r2) (mr:r.M) (ma:ga.M) (mb:gb.M) (hr:∀ (x y:W) (v u:V) (G:Hw) (H:Hp) (Q:VK),Tr X.K H v x→Tr X.K H u y→RelH X.K H G→r x y G (dn X.K H Q)→r2 v u H Q)
  (ha:PEw X a ga) (hb:PEw X b gb) (hm:behindInMarks op b=false):PTw X (.Compare a [op] [b] pos) (gTB (Zai r ga gb)) :=
 ZoT (ZvL ho ha hb hm) fun σ H Q z=>ZoK mr ma mb hr σ H _ (Zxu (Ze3 mr ma mb) z)
def Ze0 (w:W) (G:Hw):Option Bool:=match w with
 | .non=>some false
 | .bl b=>some b
 | .int i=>some (i != 0)
 | .tup xs=>some (!xs.isEmpty)
 | .rol xs=>some (!xs.isEmpty)
 | .ref a=>match G a with | some (.lst xs)=>some (!xs.isEmpty) | _=>none
 | .str _=>none
def Zdi (g:GE):GT:=fun ω G Q=>g ω G fun w G1=>match Ze0 w G1 with | some b=>Q b G1 | none=>False
theorem ZyO (m:ga.M):GT.M (Zdi ga):=fun ω G Q Q' h q=>m _ _ _ _ (fun w G1 z=>by
 cases e:Ze0 w G1 with
 | none=>rw [e] at z;exact z
 | some b=>rw [e] at z;exact h _ _ z) q
theorem ZhZ:∀ {vs:List V} {ws:List W},TrL K H vs ws→vs.isEmpty=ws.isEmpty
 | _,_,.nil=>rfl
 | _,_,.cons _ _=>rfl
theorem Zwg {v:V} {w:W} {G:Hw} {b:Bool} (t:Tr K H v w) (r:RelH K H G) (e:Ze0 w G=some b):ZAu K v H b:=by
 cases t with
 | non=>cases e;rfl
 | bl c=>cases e;rfl
 | int i=>cases e;rfl
 | str x=>cases e
 | tup h l=>cases e;exact .inr (.inl ⟨_,h,by rw [ZhZ l]⟩)
 | rol h l=>cases e;exact .inl ⟨_,h.sq,by rw [ZhZ l]⟩
 | ref a =>
  unfold Ze0 at e
  dsimp only at e
  cases z:G a with
  | none=>rw [z] at e;cases e
  | some o =>
   rw [z] at e
   cases o with
   | exc C=>cases e
   | ins C fs=>cases e
   | dct kvs=>cases e
   | lst xs =>
    cases e
    obtain ⟨vs,e1,l⟩:=r a _ z
    exact .inl ⟨vs,SqL.of e1,by rw [ZhZ l]⟩
theorem Zyk (ma:ga.M) (ha:PEw X e ga) (he:∀ whole,isTrue e X.env whole=(do let v ← whole;standAt e.pos;holding [v] (truthy v)):=by intro _;rfl):PTw X e (Zdi ga) :=
 ZoT (Zto ha he) fun σ H Q ⟨ω,G,ts,r,q⟩=>⟨ω,G,ts,r,ma _ _ _ _ (fun w G1 z v H1 m t r1=>by
  cases e1:Ze0 w G1 with
  | none=>rw [e1] at z;exact z.elim
  | some b=>rw [e1] at z;exact ⟨b,Zwg t r1 e1,z H1 m r1⟩) q⟩
def gNt (g:GT):GT:=fun ω G Q=>g ω G fun b G1=>Q (!b) G1
theorem ZAB (m:gt.M):GT.M (gNt gt):=fun ω G Q Q' h q=>m _ _ _ _ (fun w G1 z=>h _ _ z) q
theorem ZyT (ha:PTw X a gt):PTw X (.UnaryOp .Not a pos) (gNt gt):=ZoT (Zzc ha) fun σ H Q z=>z
abbrev PWw (X:Cx) (e:Expr) (g:GT):Prop:=PW X e (upT X.K g)
theorem Zo8 {e:Expr} {t t':TT} (h:PW X e t) (i:∀ σ H Q,t' σ H Q→t σ H Q):PW X e t':=fun wh pins s σ H Q I q=>h wh pins s σ H Q I (i σ H Q q)
def ZeU (g1 g2:GT):GT:=fun ω G Q=>g1 ω G fun b G1=>if b=true then g2 ω G1 Q else Q false G1
def gOr (g1 g2:GT):GT:=fun ω G Q=>g1 ω G fun b G1=>if b=true then Q true G1 else g2 ω G1 Q
theorem Zyd (m1:gt.M) (m2:gu.M):GT.M (ZeU gt gu):=fun ω G Q Q' h q=>m1 _ _ _ _ (fun b G1 z=>by
 cases b with
 | true=>exact m2 _ _ _ _ h z
 | false=>exact h _ _ z) q
theorem ZAC (m1:gt.M) (m2:gu.M):GT.M (gOr gt gu):=fun ω G Q Q' h q=>m1 _ _ _ _ (fun b G1 z=>by
 cases b with
 | true=>exact h _ _ z
 | false=>exact m2 _ _ _ _ h z) q
variable {Zbm:List Expr}
theorem ZwJ (ha:PTw X a gt):PWw X (.BoolOp .And [a] pos) gt:=Zo8 (ZvM ha) fun σ H Q z=>z
theorem ZxN (ha:PTw X a gt):PWw X (.BoolOp .Or [a] pos) gt:=Zo8 (ZyX ha) fun σ H Q z=>z
theorem ZxO (m1:gt.M) (m2:gu.M) (ha:PTw X a gt) (hb:PWw X (.BoolOp .And (b::Zbm) pos) gu):PWw X (.BoolOp .And (a::b::Zbm) pos) (ZeU gt gu) :=
 Zo8 (Zzd ha hb) fun σ H Q ⟨ω,G,ts,r,q⟩=>⟨ω,G,ts,r,m1 _ _ _ _ (fun b G1 z H1 m r1=>by
  cases b with
  | true=>exact ⟨ω,G1,ts.mono m,r1,m2 _ _ _ _ (fun _ _ z=>Zov m z) z⟩
  | false=>exact z H1 m r1) q⟩
theorem ZAO (m1:gt.M) (m2:gu.M) (ha:PTw X a gt) (hb:PWw X (.BoolOp .Or (b::Zbm) pos) gu):PWw X (.BoolOp .Or (a::b::Zbm) pos) (gOr gt gu) :=
 Zo8 (Zz4 ha hb) fun σ H Q ⟨ω,G,ts,r,q⟩=>⟨ω,G,ts,r,m1 _ _ _ _ (fun b G1 z H1 m r1=>by
  cases b with
  | true=>exact z H1 m r1
  | false=>exact ⟨ω,G1,ts.mono m,r1,m2 _ _ _ _ (fun _ _ z=>Zov m z) z⟩) q⟩
theorem Zws {op:BoolOp} {vs:List Expr} (h:PWw X (.BoolOp op vs pos) gt):PTw X (.BoolOp op vs pos) gt:=PW.pt h
def Zdj (ga gb:GE):GE:=fun ω G Q=>ga ω G fun x G1=>match x with | .bl c=>if c=true then gb ω G1 Q else Q (.bl false) G1 | _=>False
def ZiJ (ga gb:GE):GE:=fun ω G Q=>ga ω G fun x G1=>match x with | .bl c=>if c=true then Q (.bl true) G1 else gb ω G1 Q | _=>False
def Zdo (ga:GE):GE:=fun ω G Q=>ga ω G fun x G1=>match x with | .bl c=>Q (.bl (!c)) G1 | _=>False
def ZhG (gt:GT) (ga gb:GE):GE:=fun ω G Q=>gt ω G fun c G1=>if c=true then ga ω G1 Q else gb ω G1 Q
theorem Zve (ma:ga.M) (mb:gb.M):GE.M (Zdj ga gb):=fun ω G Q Q' h q=>ma _ _ _ _ (fun x G1 z=>by
 cases x with
 | bl c =>
  cases c with
  | true=>exact mb _ _ _ _ h z
  | false=>exact h _ _ z
 | _=>exact z) q
theorem Zx6 (ma:ga.M) (mb:gb.M):GE.M (ZiJ ga gb):=fun ω G Q Q' h q=>ma _ _ _ _ (fun x G1 z=>by
 cases x with
 | bl c =>
  cases c with
  | true=>exact h _ _ z
  | false=>exact mb _ _ _ _ h z
 | _=>exact z) q
theorem Zvz (ma:ga.M):GE.M (Zdo ga):=fun ω G Q Q' h q=>ma _ _ _ _ (fun x G1 z=>by
 cases x with
 | bl c=>exact h _ _ z
 | _=>exact z) q
theorem ZxY (mt:gt.M) (ma:ga.M) (mb:gb.M):GE.M (ZhG gt ga gb):=fun ω G Q Q' h q=>mt _ _ _ _ (fun c G1 z=>by
 cases c with
 | true=>exact ma _ _ _ _ h z
 | false=>exact mb _ _ _ _ h z) q
theorem Zx1 {op:BoolOp} (h:PEw X a ga):PEw X (.BoolOp op [a] pos) ga:=Zza h
theorem ZxD (ma:ga.M) (mb:gb.M) (ha:PEw X a ga) (hb:PEw X (.BoolOp .And (b::Zbm) pos) gb):PEw X (.BoolOp .And (a::b::Zbm) pos) (Zdj ga gb) :=
 Zbz (ZxT ha hb) fun σ H Q ⟨ω,G,ts,r,q⟩=>⟨ω,G,ts,r,ma _ _ _ _ (fun x G1 z v H1 m t r1=>by
  cases x with
  | bl c =>
   refine ⟨c,ZnR t,?_⟩
   cases c with
   | true=>exact ⟨ω,G1,ts.mono m,r1,mb _ _ _ _ (fun _ _ z=>ZcU m z) z⟩
   | false=>exact z _ H1 m (.bl false) r1
  | _=>exact z.elim) q⟩
theorem ZAM (ma:ga.M) (mb:gb.M) (ha:PEw X a ga) (hb:PEw X (.BoolOp .Or (b::Zbm) pos) gb):PEw X (.BoolOp .Or (a::b::Zbm) pos) (ZiJ ga gb) :=
 Zbz (ZAt ha hb) fun σ H Q ⟨ω,G,ts,r,q⟩=>⟨ω,G,ts,r,ma _ _ _ _ (fun x G1 z v H1 m t r1=>by
  cases x with
  | bl c =>
   refine ⟨c,ZnR t,?_⟩
   cases c with
   | true=>exact z _ H1 m (.bl true) r1
   | false=>exact ⟨ω,G1,ts.mono m,r1,mb _ _ _ _ (fun _ _ z=>ZcU m z) z⟩
  | _=>exact z.elim) q⟩
theorem Zzq (ma:ga.M) (ha:PEw X a ga):PEw X (.UnaryOp .Not a pos) (Zdo ga) :=
 Zbz (ZyC ha) fun σ H Q ⟨ω,G,ts,r,q⟩=>⟨ω,G,ts,r,ma _ _ _ _ (fun x G1 z v H1 m t r1=>by
  cases x with
  | bl c=>exact ⟨c,ZnR t,z _ H1 m (.bl _) r1⟩
  | _=>exact z.elim) q⟩
theorem Zyi (mt:gt.M) (ma:ga.M) (mb:gb.M) (hc:PTw X c gt) (ha:PEw X a ga) (hb:PEw X b gb):PEw X (.IfExp c a b pos) (ZhG gt ga gb) :=
 Zbz (Zt4 hc ha hb) fun σ H Q ⟨ω,G,ts,r,q⟩=>⟨ω,G,ts,r,mt _ _ _ _ (fun c G1 z H1 m r1=>by
  cases c with
  | true=>exact ⟨ω,G1,ts.mono m,r1,ma _ _ _ _ (fun _ _ z=>ZcU m z) z⟩
  | false=>exact ⟨ω,G1,ts.mono m,r1,mb _ _ _ _ (fun _ _ z=>ZcU m z) z⟩) q⟩
variable {es:List Expr} {gs:GA}
def ZaQ (gs:GA):GE:=fun ω G Q=>gs ω G fun ws G1=>ws.length≤sizeLine∧Q (.tup ws) G1
def Zdb (gs:GA):GE:=fun ω G Q=>gs ω G fun ws G1=>ws.length≤sizeLine∧∀ p,G1 p=none→Q (.ref p) (put G1 p (.lst ws))
theorem Zyj (m:gs.M):GE.M (ZaQ gs):=fun ω G Q Q' h q=>m _ _ _ _ (fun ws G1 z=>⟨z.1,h _ _ z.2⟩) q
theorem Zx4 (m:gs.M):GE.M (Zdb gs):=fun ω G Q Q' h q=>m _ _ _ _ (fun ws G1 z=>⟨z.1,fun p hp=>h _ _ (z.2 p hp)⟩) q
theorem Zxv {x1} (m:gs.M) (h:PAw X es gs):PEw X (.Tuple es x1 pos) (ZaQ gs) :=
 Zbz (ZyF h) fun σ H Q ⟨ω,G,ts,r,q⟩=>⟨ω,G,ts,r,m _ _ _ _ (fun ws G1 z vs H1 m1 t r1=>⟨by rw [t.length];exact z.1,fun p hp =>
  z.2 _ _ (m1.trans (Mono.new hp _)) (.tup (SqT.of ZbP) (t.mono (Mono.new hp _))) (r1.mono0 hp)⟩) q⟩
theorem ZxJ (m:gs.M) (h:PAw X es gs):PEw X (.List es pos) (Zdb gs) :=
 Zbz (Zxe h) fun σ H Q ⟨ω,G,ts,r,q⟩=>⟨ω,G,ts,r,m _ _ _ _ (fun ws G1 z vs H1 m1 t r1=>⟨by rw [t.length];exact z.1,fun p hp =>
  z.2 p (r1.no hp) _ _ (m1.trans (Mono.new hp _)) (.ref p) (r1.new hp t)⟩) q⟩
end
def Zjw (z:Str):List V:=z.cps.toList.map fun c=>V.str ⟨#[c]⟩
def Itk (xs:List V):It:=⟨fun i _=>i < xs.length,fun i H x H'=>H'=H∧xs[i]?=some x,fun i _=>xs.length≤i⟩
theorem ZpA {P:Program} {w:World} {tg:Expr} (ht:∀ it u,letOwnedTupleGo tg it u=pure ()) (it:Addr) (z:Str) (t:Tok):Ztq P w K tg (Itk (Zjw z)) [it] it (fun i h=>h.IsStrIter it "str_ascii_iterator" z t i) where
 mem:=by simp
 obj:=fun i h st b hb=>by
  have e:b=it:=by simpa using hb
  subst e
  obtain ⟨o,e,c,d⟩:=st
  exact ⟨o,e,fun v z=>by rw [d] at z;cases z⟩
 keep:=fun i h h' st k=>by
  obtain ⟨o,e,c,d⟩:=st
  exact ⟨o,k it (by simp) o e,c,d⟩
 item:=by
  walk_at "pc"
  subst hP hw hK
  walk_at "pv"
  have W:=Walks.strAscii (prog:=X.prog) (w:=X.w) (I.ok.hd hc) it z t
  have hi:i < z.cps.size:=by simpa [Zjw,Itk] using hg
  refine W.item i s _ _ hi st fun v h' tk hv st' kk=>?_
  obtain ⟨c,t',hc',rfl⟩:=hv
  have I1:Inv X pins σ H { s with heap:=h',toks:=tk }:=I.turned (fun b o hb e=>kk b o (by simpa using hb) e) f0 f1 f3 f4 f5
  exact ⟨_,rfl,wpAny_of_eq (ht _ _) ⟨.str ⟨#[c]⟩,H,I1,⟨_,rfl⟩,⟨rfl,by simp [Zjw,hc']⟩,st',fun b hb=>(hf b hb).1⟩⟩
 done:=by
  walk_at "pc"
  subst hP hw hK
  walk_at "pv"
  have hi:z.cps.size≤i:=by simpa [Zjw,Itk] using hg
  exact wpAny_pyNext_ascii_end (I.ok.hd hc) st (by simp [hi]) fun h' eb=>⟨rfl,I.turned (t':=s.toks) (fun b o hb e=>eb b o hb e) f0 f1 f3 f4 f5⟩
 self:=fun A i s Q E st h=>wpAny_pyIter_striter_ascii st h
theorem ZrX {P:Program} {w:World} {tg:Expr} (ht:∀ it u,letOwnedTupleGo tg it u=pure ()) (it:Addr) (z:Str) (t:Tok):Ztq P w K tg (Itk (Zjw z)) [it] it (fun i h=>h.IsStrIter it "str_iterator" z t i) where
 mem:=by simp
 obj:=fun i h st b hb=>by
  have e:b=it:=by simpa using hb
  subst e
  obtain ⟨o,e,c,d⟩:=st
  exact ⟨o,e,fun v z=>by rw [d] at z;cases z⟩
 keep:=fun i h h' st k=>by
  obtain ⟨o,e,c,d⟩:=st
  exact ⟨o,k it (by simp) o e,c,d⟩
 item:=by
  walk_at "pc"
  subst hP hw hK
  walk_at "pv"
  have W:=Walks.strWide (prog:=X.prog) (w:=X.w) (I.ok.hd hc) it z t
  have hi:i < z.cps.size:=by simpa [Zjw,Itk] using hg
  refine W.item i s _ _ hi st fun v h' tk hv st' kk=>?_
  obtain ⟨c,t',hc',rfl⟩:=hv
  have I1:Inv X pins σ H { s with heap:=h',toks:=tk }:=I.turned (fun b o hb e=>kk b o (by simpa using hb) e) f0 f1 f3 f4 f5
  exact ⟨_,rfl,wpAny_of_eq (ht _ _) ⟨.str ⟨#[c]⟩,H,I1,⟨_,rfl⟩,⟨rfl,by simp [Zjw,hc']⟩,st',fun b hb=>(hf b hb).1⟩⟩
 done:=by
  walk_at "pc"
  subst hP hw hK
  walk_at "pv"
  have hi:z.cps.size≤i:=by simpa [Zjw,Itk] using hg
  exact wpAny_pyNext_wide_end (I.ok.hd hc) st (by simp [hi]) fun h' eb=>⟨rfl,I.turned (t':=s.toks) (fun b o hb e=>eb b o hb e) f0 f1 f3 f4 f5⟩
 self:=fun A i s Q E st h=>wpAny_pyIter_striter_wide st h
def ZBp (K:PySem.W.Frag) (tl:TE):TI:=fun σ H R=>tl σ H fun x H1=>(∃ a,x=.ref a∧(∃ xs,SqL K H1 a xs)∧R (Itl K a) H1)∨(∃ a,x=.ref a∧(∃ xs,SqT K H1 a xs)∧R (Itt K a) H1)∨(∃ z,x=.str z∧R (Itk (Zjw z)) H1)
theorem Zzp {X:Cx} {tg l:Expr} {tl:TE} (ht:∀ it u,letOwnedTupleGo tg it u=pure ()) (hl:PE X l tl):PI X tg l (ZBp X.K tl):=by
 intro pins s σ H R I h
 refine thn (hl pins s σ H _ I h) fun v s1 zz1=>?_
 obtain ⟨x,H1,I1,r1,q1⟩:=zz1
 rcases q1 with ⟨a,e,⟨xs,hq⟩,q⟩ | ⟨a,e,⟨xs,hq⟩,q⟩ | ⟨z,e,q⟩
 ·subst e
  cases r1
  obtain ⟨its,rv,p,hz⟩:=I1.list hq
  refine wpAny_pyIter_list p.isList ?_
  walk_at "ph"
  have e:b=s1.heap.objs.size:=by simpa using hb
  subst e
  walk_at "pz"
 ·subst e
  cases r1
  obtain ⟨its,rv,p,hz⟩:=I1.tuple hq
  refine wpAny_pyIter_tuple (show s1.heap.IsTuple a its.toArray from p) ?_
  walk_at "pi"
  have e:b=s1.heap.objs.size:=by simpa using hb
  subst e
  walk_at "pz"
 ·subst e
  obtain ⟨t,rfl⟩:=r1
  have fp:∀ b∈[s1.heap.objs.size],ZrS X pins H1 b:=fun b hb=>by
   have e:b=s1.heap.objs.size:=by simpa using hb
   subst e
   walk_at "pz"
  cases ha:z.cps.all (· < 128)
  ·exact wpAny_pyIter_wide ha ⟨s1.heap.objs.size,[s1.heap.objs.size],_,_,H1,rfl,I1.kept (t':=s1.toks) fun b o e=>Heap.get?_push_of_some _ e,ZrX ht _ z t,⟨_,Heap.get?_push_size _ rfl,rfl,rfl⟩,fp,q⟩
  ·exact wpAny_pyIter_ascii ha ⟨s1.heap.objs.size,[s1.heap.objs.size],_,_,H1,rfl,I1.kept (t':=s1.toks) fun b o e=>Heap.get?_push_of_some _ e,ZpA ht _ z t,⟨_,Heap.get?_push_size _ rfl,rfl,rfl⟩,fp,q⟩
abbrev GI:=Sw→Hw→(List W→(Hw→Prop)→Hw→Prop)→Prop
def GI.M (g:GI):Prop:=∀ ω G (R R':List W→(Hw→Prop)→Hw→Prop),(∀ ws gd G',R ws gd G'→R' ws gd G')→g ω G R→g ω G R'
def Zj8 (z:Str):List W:=z.cps.toList.map fun c=>W.str ⟨#[c]⟩
theorem Zri {z:Str}:TrL K H (Zjw z) (Zj8 z):=by
 unfold Zjw Zj8
 generalize z.cps.toList=l
 induction l with
 | nil=>exact .nil
 | cons c l ih=>exact .cons (.str _) ih
def yes:Hw→Prop:=fun _=>True
def holds (a:Addr) (ws:List W):Hw→Prop:=fun G=>G a=some (.lst ws)
def Zbl (ga:GE):GI:=fun ω G R=>ga ω G fun w G1=>match w with
 | .tup ws=>R ws yes G1
 | .rol ws=>R ws yes G1
 | .str z=>R (Zj8 z) yes G1
 | .ref a=>match G1 a with | some (.lst ws)=>R ws (holds a ws) G1 | _=>False
 | _=>False
theorem ZvS {ga:GE} (m:ga.M):GI.M (Zbl ga):=fun ω G R R' h q=>m _ _ _ _ (fun w G1 z=>by
 cases w with
 | tup ws=>exact h _ _ _ z
 | rol ws=>exact h _ _ _ z
 | str x=>exact h _ _ _ z
 | ref a =>
  dsimp only at z ⊢
  cases e:G1 a with
  | none=>rw [e] at z;exact z
  | some o =>
   rw [e] at z
   cases o with
   | lst ws=>exact h _ _ _ z
   | exc C=>exact z
   | ins C fs=>exact z
   | dct kvs=>exact z
 | _=>exact z) q
structure Zw5 (K:PySem.W.Frag) (H1:Hp) (J:It) (ws:List W) (gd:Hw→Prop):Prop where
 go:∀ (i:Nat) (H:Hp) (G:Hw),Mono K H1 H→RelH K H G→gd G→i < ws.length→J.go i H
 yld:∀ (i:Nat) (H:Hp) (G:Hw) (x:V) (H':Hp),Mono K H1 H→RelH K H G→gd G→J.yld i H x H'→i < ws.length→Mono K H H'∧RelH K H' G∧∃ w,ws[i]?=some w∧Tr K H' x w
 stop:∀ (H:Hp) (G:Hw),Mono K H1 H→RelH K H G→gd G→J.stop ws.length H
theorem Zlx {H H':Hp} {G:Hw} {x:V} {ws:List W} {i:Nat} (r:RelH K H G) (e:H'=H) (h:∃ w,ws[i]?=some w∧Tr K H x w):Mono K H H'∧RelH K H' G∧∃ w,ws[i]?=some w∧Tr K H' x w:=by
 subst e;exact ⟨.refl,r,h⟩
theorem ZiY {a:Addr} {ws:List W} {gd:Hw→Prop} {H1:Hp} (h:∀ H G,Mono K H1 H→RelH K H G→gd G→∃ vs,SqL K H a vs∧TrL K H vs ws):Zw5 K H1 (Itl K a) ws gd where
 go:=fun i H G m r g hi=>by
  obtain ⟨vs,q,t⟩:=h H G m r g
  have hl:=t.length
  exact ⟨vs,vs[i]'(by omega),q,by simp⟩
 yld:=fun i H G x H' m r g y hi=>by
  obtain ⟨vs,q,t⟩:=h H G m r g
  obtain ⟨w,e,tw⟩:=t.get' (y.2 vs q)
  exact Zlx r y.1 ⟨w,e,tw⟩
 stop:=fun H G m r g=>by
  obtain ⟨vs,q,t⟩:=h H G m r g
  exact ⟨vs,q,Nat.le_of_eq t.length⟩
theorem Zo1 {a:Addr} {vs:List V} {ws:List W} {gd:Hw→Prop} {H1:Hp} (q:SqT K H1 a vs) (t:TrL K H1 vs ws):Zw5 K H1 (Itt K a) ws gd where
 go:=fun i H G m r g hi=>by
  have hl:=t.length
  exact ⟨vs,vs[i]'(by omega),m.tup _ _ q,by simp⟩
 yld:=fun i H G x H' m r g y hi=>by
  obtain ⟨w,e,tw⟩:=(t.mono m).get' (y.2 vs (m.tup _ _ q))
  exact Zlx r y.1 ⟨w,e,tw⟩
 stop:=fun H G m r g=>⟨vs,m.tup _ _ q,Nat.le_of_eq t.length⟩
theorem Zp3 {vs:List V} {ws:List W} {gd:Hw→Prop} {H1:Hp} (t:TrL K H1 vs ws):Zw5 K H1 (Itk vs) ws gd where
 go:=fun i H G m r g hi=>by show i < vs.length;rw [t.length];exact hi
 yld:=fun i H G x H' m r g y hi=>by
  obtain ⟨w,e,tw⟩:=(t.mono m).get' y.2
  exact Zlx r y.1 ⟨w,e,tw⟩
 stop:=fun H G m r g=>by show vs.length≤ws.length;exact Nat.le_of_eq t.length
def PIw (X:Cx) (tg l:Expr) (gi:GI):Prop:=∃ wi:TI,PI X tg l wi∧∀ (σ:St) (H:Hp) (ω:Sw) (G:Hw) (R:List W→(Hw→Prop)→Hw→Prop) (R0:It→Hp→Prop),TrSt X.K H σ ω→RelH X.K H G→gi ω G R →
 (∀ ws gd G1 H1 J,R ws gd G1→Mono X.K H H1→RelH X.K H1 G1→gd G1→Zw5 X.K H1 J ws gd→R0 J H1)→wi σ H R0
theorem Zyv {X:Cx} {tg l:Expr} {ga:GE} (ht:∀ it u,letOwnedTupleGo tg it u=pure ()) (ma:ga.M) (hl:PEw X l ga):PIw X tg l (Zbl ga):=by
 refine ⟨_,Zzp ht hl,fun σ H ω G R R0 ts r q k=>⟨ω,G,ts,r,ma _ _ _ _ (fun w G1 z v H1 m t r1=>?_) q⟩⟩
 cases t with
 | tup h l=>exact .inr (.inl ⟨_,rfl,⟨_,h⟩,k _ _ _ H1 _ z m r1 trivial (Zo1 h l)⟩)
 | rol h l=>exact .inl ⟨_,rfl,⟨_,h.sq⟩,k _ _ _ H1 _ z m r1 trivial (ZiY fun H2 G2 m2 _ _=>⟨_,(m2.rol _ _ h).sq,l.mono m2⟩)⟩
 | str x=>exact .inr (.inr ⟨x,rfl,k _ _ _ H1 _ z m r1 trivial (Zp3 Zri)⟩)
 | ref a =>
  dsimp only at z
  cases e:G1 a with
  | none=>rw [e] at z;exact z.elim
  | some o =>
   rw [e] at z
   cases o with
   | exc C=>exact z.elim
   | ins C fs=>exact z.elim
   | dct kvs=>exact z.elim
   | lst ws =>
    obtain ⟨vs,e1,t1⟩:=r1 a _ e
    exact .inl ⟨a,rfl,⟨vs,SqL.of e1⟩,k _ _ _ H1 _ z m r1 e (ZiY fun H2 G2 m2 r2 g2=>let ⟨vs,e2,t2⟩:=r2 a _ g2;⟨vs,SqL.of e2,t2⟩)⟩
 | non=>exact z.elim
 | bl b=>exact z.elim
 | int i=>exact z.elim
structure TgW (X:Cx) (tg:Expr) (gg:GG):Prop where
 ex:∃ g:TG,PG X tg g∧∀ (x:V) (w:W) (σ:St) (ω:Sw) (H:Hp) (G:Hw) (Q:St→Hp→Prop),Tr X.K H x w→TrSt X.K H σ ω→RelH X.K H G→gg w ω G (dnS X.K H Q)→g x σ H Q
 mono:gg.M
def gNm (i:Nat):GG:=fun w ω G Q=>Q (ω.set i (some w)) G
theorem Zbu {X:Cx} {x:Str} {p:Pos} {i:Nat} (hN:X.N.Nodup) (hi:X.N[i]?=some x) (hx:Loc X.env.scope x) (hf:X.fn x=true∨X.env.scope.names.lookup x=some .local):TgW X (.Name x p) (gNm i) where
 ex:=⟨_,Zcp hN hi hx hf,fun x w σ ω H G Q t ts r q=>q _ H .refl (ts.set i t) r⟩
 mono:=fun _ _ _ _ _ h q=>h _ _ q
def ZjU (i j:Nat):GG:=fun w ω G Q=>match w with | .tup [a,b]=>Q ((ω.set i (some a)).set j (some b)) G | _=>False
theorem ZfU {X:Cx} {x y:Str} {p p' pos:Pos} {k i j:Nat} (hc:X.calm=true) (hN:X.N.Nodup) (hi:X.N[i]?=some x) (hx:Loc X.env.scope x) (hf:X.fn x=true∨X.env.scope.names.lookup x=some .local)
  (hj:X.N[j]?=some y) (hy:Loc X.env.scope y) (hfy:X.fn y=true∨X.env.scope.names.lookup y=some .local):TgW X (.Tuple [.Name x p,.Name y p'] k pos) (ZjU i j) where
 ex:=⟨_,Znh hc (Zch (Zcp hN hi hx hf) (Zch (Zcp hN hj hy hfy) ZjC)),fun v w σ ω H G Q t ts r q=>by
  unfold ZjU at q
  split at q
  ·rename_i a b
   cases t with
   | tup h l =>
    cases l with
    | cons ta l =>
     cases l with
     | cons tb l =>
      cases l
      exact ⟨_,_,rfl,h,rfl,_,_,rfl,_,_,rfl,rfl,q _ H .refl ((ts.set i ta).set j tb) r⟩
  ·exact q.elim⟩
 mono:=fun w ω G Q Q' h q=>by
  unfold ZjU at q ⊢
  split
  ·exact h _ _ q
  ·rename_i z
   split at q
   ·exact (z _ _ rfl).elim
   ·exact q
def Zeh (gd:Hw→Prop) (gg:GG) (gb:GS) (D:Ew):List W→Sw→Hw→Prop
 | [],ω,G=>gd G∧D.nx ω G
 | x::xs,ω,G=>gd G∧gg x ω G fun ω1 G1=>gb { nx:=Zeh gd gg gb D xs,rt:=D.rt,bk:=D.nx,ct:=Zeh gd gg gb D xs } ω1 G1
def ZfH (gi:GI) (gg:GG) (gb:GS):GS:=fun D ω G=>gi ω G fun ws gd G1=>Zeh gd gg gb D ws ω G1
theorem Zoh {gd:Hw→Prop} {gg:GG} {gb:GS} (mg:gg.M) (mb:gb.M) {D D':Ew} (h1:∀ a b,D.nx a b→D'.nx a b) (h2:∀ a b,D.rt a b→D'.rt a b):∀ (ws:List W) (ω:Sw) (G:Hw),Zeh gd gg gb D ws ω G→Zeh gd gg gb D' ws ω G
 | [],ω,G,q=>⟨q.1,h1 _ _ q.2⟩
 | x::xs,ω,G,q=>⟨q.1,mg _ _ _ _ _ (fun ω1 G1 z=>mb _ _ { nx:=Zeh gd gg gb D xs,rt:=D.rt,bk:=D.nx,ct:=Zeh gd gg gb D xs } _ (fun a b y=>Zoh mg mb h1 h2 xs a b y) h2 h1 (fun a b y=>Zoh mg mb h1 h2 xs a b y) z) q.2⟩
theorem ZxC {gi:GI} {gg:GG} {gb:GS} (mi:gi.M) (mg:gg.M) (mb:gb.M):GS.M (ZfH gi gg gb):=fun ω G D D' h1 h2 h3 h4 q=>mi _ _ _ _ (fun ws gd G1 z=>Zoh mg mb h1 h2 ws ω G1 z) q
theorem ZtE {gd:Hw→Prop} {gg:GG} {gb:GS} {D:Ew} {ws:List W} {ω:Sw} {G:Hw} (q:Zeh gd gg gb D ws ω G):gd G:=by
 cases ws with
 | nil=>exact q.1
 | cons w ws=>exact q.1
theorem Zxw {X:Cx} {P:Hp→Prop} {tg iter:Expr} {body:List Stmt} {pos:Pos} {gi:GI} {gg:GG} {gb:GS} (hp:PassesOwn (model X.prog X.w) X.A X.env X.xe) (hc:X.calm=true) (mi:gi.M) (mb:gb.M) (hi:PIw X tg iter gi) (hg:TgW X tg gg) (hb:ZsI X ZBa body gb)
  (hs:∀ x,foldedSetIterable iter X.env x=pure x:=by intro _;rfl):PSw X P (.For tg iter body [] pos) (ZfH gi gg gb):=by
 intro B hB
 obtain ⟨wi,hwi,hi⟩:=hi
 obtain ⟨g,hpg,hgg⟩:=hg.ex
 have mg:=hg.mono
 have hb':PSs X body (fun D σ H=>∃ B',upS X.K B' gb D σ H):=(by rintro pins s σ H D I ⟨B',z⟩;exact hb B' trivial pins s σ H D I z)
 refine Zfk (ZxM hp hc hwi hpg hb' hs) fun D σ H zz2=>?_
 obtain ⟨ω,G,ts,r,mb0,q⟩:=zz2
 refine hi σ H ω G _ _ ts r q fun ws gd G1 H1 J z m1 r1 hgd wk=>?_
 have mb1:=mb0.trans m1
 refine ⟨fun i m σ' H'=>m=ws.length - i∧i≤ws.length∧Mono X.K H1 H'∧∃ ω' G',TrSt X.K H' σ' ω'∧RelH X.K H' G'∧Zeh gd gg gb (dnD X.K B D) (ws.drop i) ω' G',⟨ws.length,by simp,Nat.zero_le _,.refl,ω,G1,ts.mono m1,r1,by simpa using z⟩,?_⟩
 rintro i m σ' H' ⟨rfl,hle,mm,ω',G',ts',r',q'⟩
 have hgd':=ZtE q'
 by_cases hlt:i < ws.length
 ·refine .inr ⟨wk.go i H' G' mm r' hgd' hlt,fun σ2 H2=>Mono X.K H1 H2∧∃ ω2 G2,TrSt X.K H2 σ2 ω2∧RelH X.K H2 G2∧Zeh gd gg gb (dnD X.K B D) (ws.drop (i+1)) ω2 G2,
   (by rintro σ2 H2 ⟨y1,y2⟩;exact ⟨ws.length - (i+1),by omega,rfl,hlt,y1,y2⟩),fun x H2 y=>?_⟩
  obtain ⟨my,ry,w,ew,tw⟩:=wk.yld i H' G' x H2 mm r' hgd' y hlt
  have mm:=mm.trans my
  have ed:ws.drop i=w::ws.drop (i+1):=by
   obtain ⟨h',e'⟩:=List.getElem?_eq_some_iff.mp ew
   rw [← e'];exact List.drop_eq_getElem_cons h'
  rw [ed] at q'
  refine hgg x w σ' ω' _ G' _ tw (ts'.mono my) ry (mg _ _ _ _ _ (fun ω1 G1' z1 σ1 H3 m3 ts3 r3=>?_) q'.2)
  exact ⟨H1,ω1,G1',ts3,r3,mm.trans m3,mb _ _ _ _ (fun a b y σ4 H4 m4 ts4 r4=>⟨m4,a,b,ts4,r4,y⟩) (fun a b y=>ZcU mb1 y) (fun a b y=>ZtR mb1 y) (fun a b y σ4 H4 m4 ts4 r4=>⟨m4,a,b,ts4,r4,y⟩) z1⟩
 ·have e:i=ws.length:=by omega
  subst e
  rw [List.drop_length] at q'
  exact .inl ⟨wk.stop H' G' mm r' hgd',q'.2 σ' H' (mb1.trans mm) ts' r'⟩
def ZbR (gd:Hw→Prop) (gg:GG) (gt:GT) (ge:GE) (R:List W→Hw→Prop):List W→Sw→Hw→List W→Prop
 | [],_,G,ys=>gd G∧R ys G
 | x::xs,ω,G,ys=>gd G∧ys.length < sizeLine∧gg x ω G fun ω1 G1=>gt ω1 G1 fun b G2=>if b=true then ge ω1 G2 fun y G3=>ZbR gd gg gt ge R xs ω1 G3 (ys++[y]) else ZbR gd gg gt ge R xs ω1 G2 ys
def Zcy (gi:GI) (n:Nat) (gg:GG) (gt:GT) (ge:GE):GE:=fun ω G Q=>gi ω G fun ws gd G1=>ZbR gd gg gt ge (fun ys G2=>∀ p,G2 p=none→Q (.ref p) (put G2 p (.lst ys))) ws (List.replicate n none) G1 []
theorem ZiZ {gd:Hw→Prop} {gg:GG} {gt:GT} {ge:GE} (mg:gg.M) (mt:gt.M) (me:ge.M) {R R':List W→Hw→Prop} (h:∀ a b,R a b→R' a b):∀ (ws:List W) (ω:Sw) (G:Hw) (ys:List W),ZbR gd gg gt ge R ws ω G ys→ZbR gd gg gt ge R' ws ω G ys
 | [],ω,G,ys,q=>⟨q.1,h _ _ q.2⟩
 | x::xs,ω,G,ys,q=>⟨q.1,q.2.1,mg _ _ _ _ _ (fun ω1 G1 z=>mt _ _ _ _ (fun b G2 z2=>by
   cases b with
   | true=>exact me _ _ _ _ (fun y G3 z3=>ZiZ mg mt me h xs ω1 G3 _ z3) z2
   | false=>exact ZiZ mg mt me h xs ω1 G2 _ z2) z) q.2.2⟩
theorem ZvE {gi:GI} {n:Nat} {gg:GG} {gt:GT} {ge:GE} (mi:gi.M) (mg:gg.M) (mt:gt.M) (me:ge.M):GE.M (Zcy gi n gg gt ge):=fun ω G Q Q' h q =>
 mi _ _ _ _ (fun ws gd G1 z=>ZiZ mg mt me (fun ys G2 z p hp=>h _ _ (z p hp)) _ _ _ _ z) q
theorem Zm1 {gd:Hw→Prop} {gg:GG} {gt:GT} {ge:GE} {R:List W→Hw→Prop} {ws:List W} {ω:Sw} {G:Hw} {ys:List W} (q:ZbR gd gg gt ge R ws ω G ys):gd G:=by
 cases ws with
 | nil=>exact q.1
 | cons w ws=>exact q.1
def Zhg:GT:=fun _ G Q=>Q true G
theorem ZxG:GT.M Zhg:=fun _ _ _ _ h q=>h _ _ q
abbrev PFw (X:Cx) (ifs:List Expr) (g:GT):Prop:=PF X ifs (upT X.K g)
theorem ZxI {X:Cx}:PFw X [] Zhg:=(by rintro pins s σ H Q I ⟨ω,G,ts,r,q⟩;exact Zxy pins s σ H Q I (q H .refl r))
theorem ZxL {X:Cx} {c:Expr} {g:GT} (h:PTw X c g):PFw X [c] g:=Zzi h
theorem Zqz {n:Nat} {σ:St} (h:σ=List.replicate n none):TrSt K H σ (List.replicate n none):=by
 subst h
 refine ⟨by simp,fun i w e=>?_⟩
 rw [List.getElem?_replicate] at e
 split at e <;> cases e
theorem Zvq {X:Cx} {Nc:List Str} {gi:GI} {gg:GG} {gt:GT} {ge:GE} {wi:TI} {g:TG} (hwi:∀ (σ:St) (H:Hp) (ω:Sw) (G:Hw) (R:List W→(Hw→Prop)→Hw→Prop) (R0:It→Hp→Prop),TrSt X.K H σ ω→RelH X.K H G→gi ω G R →
   (∀ ws gd G1 H1 J,R ws gd G1→Mono X.K H H1→RelH X.K H1 G1→gd G1→Zw5 X.K H1 J ws gd→R0 J H1)→wi σ H R0)
  (hgg:∀ (x:V) (w:W) (σ:St) (ω:Sw) (H:Hp) (G:Hw) (Q:St→Hp→Prop),Tr X.K H x w→TrSt X.K H σ ω→RelH X.K H G→gg w ω G (dnS X.K H Q)→g x σ H Q) (mg:gg.M) (mt:gt.M) (me:ge.M) (σ:St) (H:Hp) (Q:VK) (h:up X.K (Zcy gi Nc.length gg gt ge) σ H Q) :
  Zt5 wi (fun _=>List.replicate Nc.length none) g (upT X.K gt) (up X.K ge) σ H Q:=by
 obtain ⟨ω,G,ts,r,q⟩:=h
 refine hwi σ H ω G _ _ ts r q fun ws gd G1 H1 J z m1 r1 hgd wk=>?_
 refine ⟨fun i m σ' H' vs=>m=ws.length - i∧i≤ws.length∧Mono X.K H1 H'∧∃ ω' G' ys,TrSt X.K H' σ' ω'∧RelH X.K H' G'∧TrL X.K H' vs ys∧ZbR gd gg gt ge (fun ys G2=>∀ p,G2 p=none→dn X.K H Q (.ref p) (put G2 p (.lst ys))) (ws.drop i) ω' G' ys,
  ⟨ws.length,by simp,Nat.zero_le _,.refl,_,G1,[],Zqz rfl,r1,.nil,by simpa using z⟩,?_⟩
 rintro i m σ' H' vs ⟨rfl,hle,mm,ω',G',ys,ts',r',tv,q'⟩
 have hgd':=Zm1 q'
 by_cases hlt:i < ws.length
 ·have hw:∃ w,ws[i]?=some w:=⟨ws[i],by simp [hlt]⟩
  obtain ⟨w0,ew0⟩:=hw
  have ed:ws.drop i=w0::ws.drop (i+1):=by
   obtain ⟨h',e'⟩:=List.getElem?_eq_some_iff.mp ew0
   rw [← e'];exact List.drop_eq_getElem_cons h'
  rw [ed] at q'
  refine .inr ⟨wk.go i H' G' mm r' hgd' hlt,by rw [tv.length];exact q'.2.1,fun σ2 H2 vs2=>Mono X.K H1 H2∧∃ ω2 G2 ys2,TrSt X.K H2 σ2 ω2∧RelH X.K H2 G2∧TrL X.K H2 vs2 ys2∧ZbR gd gg gt ge (fun ys G2=>∀ p,G2 p=none→dn X.K H Q (.ref p) (put G2 p (.lst ys))) (ws.drop (i+1)) ω2 G2 ys2,
   (by rintro σ2 H2 vs2 ⟨y1,y2⟩;exact ⟨ws.length - (i+1),by omega,rfl,hlt,y1,y2⟩),fun x H2 y=>?_⟩
  obtain ⟨my,ry,w,ew,tw⟩:=wk.yld i H' G' x H2 mm r' hgd' y hlt
  have mm:=mm.trans my
  have tv:=tv.mono my
  rw [ew0] at ew;cases ew
  refine hgg x _ σ' ω' _ G' _ tw (ts'.mono my) ry (mg _ _ _ _ _ (fun ω1 G1' z1 σ1 H3 m3 ts3 r3=>?_) q'.2.2)
  refine ⟨ω1,G1',ts3,r3,mt _ _ _ _ (fun b G4 z4 H4 m4 r4=>?_) z1⟩
  cases b with
  | true=>exact ⟨ω1,G4,ts3.mono m4,r4,me _ _ _ _ (fun y5 G5 z5 v5 H5 m5 t5 r5=>⟨((mm.trans m3).trans m4).trans m5,ω1,G5,_,(ts3.mono m4).mono m5,r5,(((tv.mono m3).mono m4).mono m5).append (.cons t5 .nil),z5⟩) z4⟩
  | false=>exact ⟨(mm.trans m3).trans m4,ω1,G4,_,ts3.mono m4,r4,(tv.mono m3).mono m4,z4⟩
 ·have e:i=ws.length:=by omega
  subst e
  rw [List.drop_length] at q'
  exact .inl ⟨wk.stop H' G' mm r' hgd',fun p hp=>q'.2 p (r'.no hp) _ _ ((m1.trans mm).trans (Mono.new hp _)) (.ref p) (r'.new hp tv)⟩
structure TgU (X:Cx) (Nc:List Str) (scope:Scope) (tg:Expr) (gg:GG):Prop where
 ex:∃ g:TG,(∀ C fp s H,PG (cxB X Nc scope [] C fp s H) tg g)∧∀ (x:V) (w:W) (σ:St) (ω:Sw) (H:Hp) (G:Hw) (Q:St→Hp→Prop),Tr X.K H x w→TrSt X.K H σ ω→RelH X.K H G→gg w ω G (dnS X.K H Q)→g x σ H Q
 mono:gg.M
theorem Zhr {X:Cx} {Nc:List Str} {scope:Scope} {x:Str} {p:Pos} {i:Nat} (hN:Nc.Nodup) (hi:Nc[i]?=some x) (hx:scope.names.lookup x=some .local):TgU X Nc scope (.Name x p) (gNm i) where
 ex:=⟨ZgH i,fun C fp s H=>Zcp (X:=cxB X Nc scope [] C fp s H) hN hi (.inl (lookup_relabel_local hx)) (.inr (lookup_relabel_local hx)),fun x w σ ω H G Q t ts r q=>q _ H .refl (ts.set i t) r⟩
 mono:=fun _ _ _ _ _ h q=>h _ _ q
theorem ZuK {i j:Nat}:GG.M (ZjU i j):=fun w ω G Q Q' h q=>by
 unfold ZjU at q ⊢
 split
 ·exact h _ _ q
 ·rename_i z
  split at q
  ·exact (z _ _ rfl).elim
  ·exact q
theorem ZnY {X:Cx} {Nc:List Str} {scope:Scope} {x y:Str} {p p' pos:Pos} {k i j:Nat} (hc:X.calm=true) (hN:Nc.Nodup) (hi:Nc[i]?=some x) (hx:scope.names.lookup x=some .local) (hj:Nc[j]?=some y) (hy:scope.names.lookup y=some .local) :
  TgU X Nc scope (.Tuple [.Name x p,.Name y p'] k pos) (ZjU i j) where
 ex:=⟨L2.ZaQ X.K 2 (L2.Zaa (ZgH i) (L2.Zaa (ZgH j) L2.Zaj)),fun C fp s H=>Znh (X:=cxB X Nc scope [] C fp s H) hc (Zch (Zcp hN hi (.inl (lookup_relabel_local hx)) (.inr (lookup_relabel_local hx))) (Zch (Zcp hN hj (.inl (lookup_relabel_local hy)) (.inr (lookup_relabel_local hy))) ZjC)),
  fun v w σ ω H G Q t ts r q=>by
   unfold ZjU at q
   split at q
   ·rename_i a b
    cases t with
    | tup h l =>
     cases l with
     | cons ta l =>
      cases l with
      | cons tb l =>
       cases l
       exact ⟨_,_,rfl,h,rfl,_,_,rfl,_,_,rfl,rfl,q _ H .refl ((ts.set i ta).set j tb) r⟩
   ·exact q.elim⟩
 mono:=ZuK
theorem Zwm {X:Cx} {elt tg iter:Expr} {ifs:List Expr} {scope:Scope} {pos:Pos} {Nc:List Str} {gi:GI} {gg:GG} {gt:GT} {ge:GE} (hc:X.calm=true) (hi:PIw X tg iter gi) (B:Blk X Nc scope [] (fun _=>List.replicate Nc.length none))
  (hu:TgU X Nc scope tg gg) (mt:gt.M) (ht:∀ C fp s H,PFw (cxB X Nc scope [] C fp s H) ifs gt) (me:ge.M) (he:∀ C fp s H,PEw (cxB X Nc scope [] C fp s H) elt ge) (hs:∀ x,foldedSetIterable iter X.env x=pure x) :
  PEw X (.ListComp elt [⟨tg,iter,ifs,0⟩] scope pos) (Zcy gi Nc.length gg gt ge):=by
 obtain ⟨wi,hwi,hi⟩:=hi
 obtain ⟨g,hpg,hgg⟩:=hu.ex
 exact Zbz (Zq2 hc hwi B hpg ht he hs) (Zvq hi hgg hu.mono mt me)
def ZcR (C:Int→Int→Prop) (f:Int→Int→Int):RW2:=fun x y G Q=>match x,y with
 | .int i,.int j=>C i j∧Q (.int (f i j)) G
 | _,_=>False
theorem Zgk {C:Int→Int→Prop} {f:Int→Int→Int}:RW2.M (ZcR C f):=fun x y G Q Q' h q=>by
 cases x <;> cases y <;> first | exact q | exact ⟨q.1,h _ _ q.2⟩
theorem ZjV {C:Int→Int→Prop} {f:Int→Int→Int} (x y:W) (v u:V) (G:Hw) (H:Hp) (Q:VK) (tx:Tr K H v x) (ty:Tr K H u y) (r:RelH K H G) (q:ZcR C f x y G (dn K H Q)):rI C (fun i j=>.int (f i j)) v u H Q:=by
 cases tx <;> first | exact q.elim | (cases ty <;> first | exact q.elim | exact ⟨_,_,rfl,rfl,q.1,q.2 _ H .refl (.int _) r⟩)
def ZgF:RW2:=fun x y G Q=>match x,y with
 | .int i,.int j=>Q (.int (i+j)) G
 | .str a,.str b=>a.length+b.length≤sizeLine∧Q (.str (a++b)) G
 | .ref a,.ref b=>(match G a,G b with
  | some (.lst xs),some (.lst ys)=>xs.length+ys.length≤sizeLine∧∀ p,G p=none→Q (.ref p) (put G p (.lst (xs++ys)))
  | _,_=>False)
 | _,_=>False
theorem Zrw:RW2.M ZgF:=fun x y G Q Q' h q=>by
 cases x <;> cases y <;> first | exact q | exact h _ _ q | exact ⟨q.1,h _ _ q.2⟩ | skip
 rename_i a b
 unfold ZgF at q ⊢
 dsimp only at q ⊢
 cases ea:G a with
 | none=>rw [ea] at q;exact q
 | some oa =>
  cases eb:G b with
  | none=>rw [ea,eb] at q;cases oa <;> exact q
  | some ob =>
   rw [ea,eb] at q
   cases oa <;> cases ob <;> first | exact q | exact ⟨q.1,fun p hp=>h _ _ (q.2 p hp)⟩
theorem ZqQ {X:Cx}:OpR X (binaryOp .Add) (fun x y H Q=>(rI0 fun i j=>.int (i+j)) x y H Q∨(∃ i j,x=.str i∧y=.str j∧i.length+j.length≤sizeLine∧Q (.str (i++j)) H)∨Zzf x y H Q):=OpR.or Zxg (OpR.or Zp7 Zys)
theorem Zru (x y:W) (v u:V) (G:Hw) (H:Hp) (Q:VK) (tx:Tr K H v x) (ty:Tr K H u y) (r:RelH K H G) (q:ZgF x y G (dn K H Q)) :
  (rI0 fun i j=>.int (i+j)) v u H Q∨(∃ i j,v=.str i∧u=.str j∧i.length+j.length≤sizeLine∧Q (.str (i++j)) H)∨Zzf v u H Q:=by
 cases tx with
 | int i=>cases ty <;> first | exact q.elim | exact .inl ⟨_,_,rfl,rfl,q _ H .refl (.int _) r⟩
 | str i=>cases ty <;> first | exact q.elim | exact .inr (.inl ⟨_,_,rfl,rfl,q.1,q.2 _ H .refl (.str _) r⟩)
 | ref a =>
  cases ty <;> try exact q.elim
  rename_i b
  unfold ZgF at q
  dsimp only at q
  cases ea:G a with
  | none=>rw [ea] at q;exact q.elim
  | some oa =>
   cases eb:G b with
   | none=>rw [ea,eb] at q;cases oa <;> exact q.elim
   | some ob =>
    rw [ea,eb] at q
    cases oa <;> cases ob <;> try exact q.elim
    obtain ⟨vs,e1,t1⟩:=r a _ ea
    obtain ⟨us,e2,t2⟩:=r b _ eb
    exact .inr (.inr ⟨a,b,vs,us,rfl,rfl,e1,e2,by rw [t1.length,t2.length];exact q.1,fun p hp=>q.2 p (r.no hp) _ _ (Mono.new hp _) (.ref p) (r.new hp (t1.append t2))⟩)
 | _=>exact q.elim
def Zhe (f:Int→Int→Bool):RW2:=fun x y G Q=>match x,y with
 | .int i,.int j=>Q (.bl (f i j)) G
 | _,_=>False
theorem ZuV {f:Int→Int→Bool}:RW2.M (Zhe f):=fun x y G Q Q' h q=>by
 cases x <;> cases y <;> first | exact q | exact h _ _ q
theorem Zsj {f:Int→Int→Bool} (x y:W) (v u:V) (G:Hw) (H:Hp) (Q:VK) (tx:Tr K H v x) (ty:Tr K H u y) (r:RelH K H G) (q:Zhe f x y G (dn K H Q)):rI0 (fun i j=>.bl (f i j)) v u H Q:=by
 cases tx <;> first | exact q.elim | (cases ty <;> first | exact q.elim | exact ⟨_,_,rfl,rfl,q _ H .refl (.bl _) r⟩)
def opt (o:Option W) (f:W→Prop):Prop:=match o with | some w=>f w | none=>False
theorem Zv0 {o:Option W} {f f':W→Prop} (h:∀ w,f w→f' w) (q:opt o f):opt o f':=by
 cases o with
 | none=>exact q
 | some w=>exact h _ q
theorem Zfs {o:Option W} {f:W→Prop} (q:opt o f):∃ w,o=some w∧f w:=by
 cases o with
 | none=>exact q.elim
 | some w=>exact ⟨w,rfl,q⟩
def Zak (f:W→W→Hw→Option W):RW2:=fun x y G Q=>opt (f x y G) fun w=>Q w G
theorem ZhE {f:W→W→Hw→Option W}:RW2.M (Zak f):=fun x y G Q Q' h q=>Zv0 (fun w z=>h _ _ z) q
def ixW (x y:W) (G:Hw):Option W:=match x,y with
 | .tup xs,.int i=>atI xs i
 | .rol xs,.int i=>atI xs i
 | .ref a,.int i=>(match G a with | some (.lst xs)=>atI xs i | _=>none)
 | .str z,.int i=>if z.length≤sizeLine then (atI z.cps.toList i).map fun c=>.str ⟨#[c]⟩ else none
 | _,_=>none
theorem Zqr {vs:List V} {ws:List W} {i:Int} {w:W} (t:TrL K H vs ws) (e:atI ws i=some w):∃ v,atI vs i=some v∧Tr K H v w:=by
 unfold atI at e ⊢
 rw [t.length]
 cases z:ixN ws.length i with
 | none=>rw [z] at e;cases e
 | some j =>
  rw [z] at e
  exact t.get e
theorem ZBv {X:Cx}:IxR X (fun x y H Q=>ZAj X.K x y H Q∨ZAq X.K x y H Q∨ZAc x y H Q):=IxR.or Zv9 (IxR.or Zxb Zyf)
theorem Zxr (x y:W) (v u:V) (G:Hw) (H:Hp) (Q:VK) (tx:Tr K H v x) (ty:Tr K H u y) (r:RelH K H G) (q:Zak ixW x y G (dn K H Q)):ZAj K v u H Q∨ZAq K v u H Q∨ZAc v u H Q:=by
 obtain ⟨w,e,q'⟩:=Zfs q
 cases ty with
 | int i =>
  cases tx with
  | tup h l =>
   obtain ⟨v',e',t'⟩:=Zqr l e
   exact .inr (.inl ⟨_,_,_,_,rfl,rfl,h,e',q' _ H .refl t' r⟩)
  | rol h l =>
   obtain ⟨v',e',t'⟩:=Zqr l e
   exact .inl ⟨_,_,_,_,rfl,rfl,h.sq,e',q' _ H .refl t' r⟩
  | str z =>
   unfold ixW at e;dsimp only at e
   split at e
   ·rename_i hz
    cases e1:atI z.cps.toList i with
    | none=>rw [e1] at e;cases e
    | some c =>
     rw [e1] at e;cases e
     exact .inr (.inr ⟨z,i,c,rfl,rfl,hz,e1,q' _ H .refl (.str _) r⟩)
   ·cases e
  | ref a =>
   unfold ixW at e;dsimp only at e
   cases eG:G a with
   | none=>rw [eG] at e;cases e
   | some o =>
    rw [eG] at e
    cases o with
    | exc C=>cases e
    | ins C fs=>cases e
    | dct kvs=>cases e
    | lst ws =>
     obtain ⟨vs,e1,l⟩:=r a _ eG
     obtain ⟨v',e',t'⟩:=Zqr l e
     exact .inl ⟨_,_,_,_,rfl,rfl,SqL.of e1,e',q' _ H .refl t' r⟩
  | _=>cases e
 | _=>cases x <;> cases e
structure Em (X:Cx) (e:Expr) (g:GE):Prop where
 p:PEw X e g
 m:g.M
structure Tm (X:Cx) (e:Expr) (g:GT):Prop where
 p:PTw X e g
 m:g.M
structure Wm (X:Cx) (e:Expr) (g:GT):Prop where
 p:PWw X e g
 m:g.M
structure Am (X:Cx) (es:List Expr) (g:GA):Prop where
 p:PAw X es g
 m:g.M
structure Sm (X:Cx) (P:Hp→Prop) (s:Stmt) (g:GS):Prop where
 p:PSw X P s g
 m:g.M
structure Ssm (X:Cx) (P:Hp→Prop) (s:List Stmt) (g:GS):Prop where
 p:ZsI X P s g
 m:g.M
structure Im (X:Cx) (tg l:Expr) (g:GI):Prop where
 p:PIw X tg l g
 m:g.M
def place (N:List Str) (x:Str):Option Nat:=N.findIdx? (·==x)
theorem ZsX {N:List Str} {x:Str} {i:Nat} (h:place N x=some i):N[i]?=some x:=by
 unfold place at h
 obtain ⟨hi,e,_⟩:=List.findIdx?_eq_some_iff_getElem.mp h
 rw [List.getElem?_eq_getElem hi,eq_of_beq e]
def ZzB (sc:Scope) (x:Str):Bool:=match sc.names.lookup x with | some .local=>true | some .cell=>true | some .free=>true | _=>false
theorem Zpo {sc:Scope} {x:Str} (h:ZzB sc x=true):Vis sc x:=by
 unfold ZzB at h
 split at h <;> first | (rename_i e;exact .inl e) | (rename_i e;exact .inr (.inl e)) | (rename_i e;exact .inr (.inr e)) | cases h
def Znr (sc:Scope) (x:Str):Bool:=match sc.names.lookup x with | some .local=>true | _=>false
theorem Zhx {sc:Scope} {x:Str} (h:Znr sc x=true):sc.names.lookup x=some .local:=by
 unfold Znr at h
 split at h
 ·rename_i e;exact e
 ·cases h
section
variable {X:Cx} {a b c e f:Expr} {es Zbm:List Expr} {st:Stmt} {sts sts':List Stmt} {pos pos' p:Pos} {ga gb gc:GE} {gt gu:GT} {gs:GA} {g1 g2:GS} {ex:Xw} {P:Hp→Prop}
theorem Zf2 {i:Int} {j}:Em X (.Constant (.int i) j pos) (gC (.int i)):=⟨Zxp,Zw9⟩
theorem Zkq {i:Bool} {j}:Em X (.Constant (.bool i) j pos) (gC (.bl i)):=⟨Zz5,Zw9⟩
theorem Zgz {j}:Em X (.Constant .none j pos) (gC .non):=⟨ZyH,Zw9⟩
theorem Zfb {i:Str} {j}:Em X (.Constant (.str i) j pos) (gC (.str i)):=⟨ZxZ,Zw9⟩
theorem Zgr (ha:Em X a ga) (hb:Em X b gb):Em X (.BinOp a .Add b pos) (Zai ZgF ga gb):=⟨ZjZ ZqQ Zrw ha.m hb.m Zru ha.p hb.p,Ze3 Zrw ha.m hb.m⟩
theorem Zf6 (ha:Em X a ga) (hb:Em X b gb):Em X (.BinOp a .Sub b pos) (Zai (ZcR (fun _ _=>True) fun i j=>i - j) ga gb) :=
 ⟨ZjZ (r2:=rI (fun _ _=>True) fun i j=>.int (i - j)) (opI fun _ _ _ _ _ _ _ _ q=>sub_int q) Zgk ha.m hb.m ZjV ha.p hb.p,Ze3 Zgk ha.m hb.m⟩
theorem Zf9 (ha:Em X a ga) (hb:Em X b gb):Em X (.BinOp a .Mult b pos) (Zai (ZcR CMul fun i j=>i*j) ga gb):=⟨ZjZ Zyp Zgk ha.m hb.m ZjV ha.p hb.p,Ze3 Zgk ha.m hb.m⟩
theorem Zed (ha:Em X a ga) (hb:Em X b gb):Em X (.BinOp a .FloorDiv b pos) (Zai (ZcR ZzD fun i j=>i / j) ga gb):=⟨ZjZ Zwu Zgk ha.m hb.m ZjV ha.p hb.p,Ze3 Zgk ha.m hb.m⟩
theorem Zf8 (ha:Em X a ga) (hb:Em X b gb):Em X (.BinOp a .Mod b pos) (Zai (ZcR (fun _ j=>0 < j) fun i j=>i % j) ga gb):=⟨ZjZ Zya Zgk ha.m hb.m ZjV ha.p hb.p,Ze3 Zgk ha.m hb.m⟩
theorem Zgs (ha:Em X a ga) (hb:Em X b gb):Em X (.BinOp a .Pow b pos) (Zai (ZcR Zyr fun i j=>i ^ j.toNat) ga gb):=⟨ZjZ Zzm Zgk ha.m hb.m ZjV ha.p hb.p,Ze3 Zgk ha.m hb.m⟩
theorem Zkk (hs:ZlE b) (ha:Em X a ga) (hb:Em X b gb):Em X (.Subscript a b pos) (Zai (Zak ixW) ga gb):=⟨ZAK ZBv ZhE ha.m hb.m Zxr ha.p hb.p hs,Ze3 ZhE ha.m hb.m⟩
theorem Zfn {k} (h:Am X es gs):Em X (.Tuple es k pos) (ZaQ gs):=⟨Zxv h.m h.p,Zyj h.m⟩
theorem ZgB (h:Am X es gs):Em X (.List es pos) (Zdb gs):=⟨ZxJ h.m h.p,Zx4 h.m⟩
theorem Ze1 {op:BoolOp} (h:Em X a ga):Em X (.BoolOp op [a] pos) ga:=⟨Zx1 h.p,h.m⟩
theorem Zfg (ha:Em X a ga) (hb:Em X (.BoolOp .And (b::Zbm) pos) gb):Em X (.BoolOp .And (a::b::Zbm) pos) (Zdj ga gb):=⟨ZxD ha.m hb.m ha.p hb.p,Zve ha.m hb.m⟩
theorem Zkt (ha:Em X a ga) (hb:Em X (.BoolOp .Or (b::Zbm) pos) gb):Em X (.BoolOp .Or (a::b::Zbm) pos) (ZiJ ga gb):=⟨ZAM ha.m hb.m ha.p hb.p,Zx6 ha.m hb.m⟩
theorem Zf5 (ha:Em X a ga):Em X (.UnaryOp .Not a pos) (Zdo ga):=⟨Zzq ha.m ha.p,Zvz ha.m⟩
theorem Zga (hc:Tm X c gt) (ha:Em X a ga) (hb:Em X b gb):Em X (.IfExp c a b pos) (ZhG gt ga gb):=⟨Zyi hc.m ha.m hb.m hc.p ha.p hb.p,ZxY hc.m ha.m hb.m⟩
theorem Zb9:Am X [] Zaj:=⟨ZyI,ZyY⟩
theorem ZaU (hst:starEach (e::es) X.env=(false,eval e X.env)::starEach es X.env) (ha:Em X e ga) (hs:Am X es gs):Am X (e::es) (Zaa ga gs):=⟨ZvY ha.m hs.m ha.p hs.p hst,ZvD ha.m hs.m⟩
theorem Zca {x:Str} {k n:Nat} {sp:Spw} (D:Df X.prog X.w X.K X.mg X.base x k n sp) (hr:Room k X.A) (hg:Gl X x) (hp:Zmq X ex) (hdb:(x==("__debug__":Str))=false) (he:starEach (e::es) X.env=(false,eval e X.env)::starEach es X.env) (hpl:(backTo pos (starEach es X.env)).any (·.1)=false)
  (ha:Am X (e::es) gs):Em X (.Call (.Name x p) (e::es) [] pos) (Zae sp ex gs):=⟨Zwq D hr hg hp ha.m ha.p hdb he hpl,Zvp D.mono ha.m⟩
theorem ZeV (he:∀ whole,isTrue e X.env whole=(do let v ← whole;standAt e.pos;holding [v] (truthy v))) (ha:Em X e ga):Tm X e (Zdi ga):=⟨Zyk ha.m ha.p he,ZyO ha.m⟩
theorem ZeZ (ha:Tm X a gt):Tm X (.UnaryOp .Not a pos) (gNt gt):=⟨ZyT ha.p,ZAB ha.m⟩
theorem Zd0 {op:BoolOp} {vs:List Expr} (h:Wm X (.BoolOp op vs pos) gt):Tm X (.BoolOp op vs pos) gt:=⟨Zws h.p,h.m⟩
theorem Zd3 (h:Tm X a gt):Wm X (.BoolOp .And [a] pos) gt:=⟨ZwJ h.p,h.m⟩
theorem Zgg (h:Tm X a gt):Wm X (.BoolOp .Or [a] pos) gt:=⟨ZxN h.p,h.m⟩
theorem Zgy (ha:Tm X a gt) (hb:Wm X (.BoolOp .And (b::Zbm) pos) gu):Wm X (.BoolOp .And (a::b::Zbm) pos) (ZeU gt gu):=⟨ZxO ha.m hb.m ha.p hb.p,Zyd ha.m hb.m⟩
theorem Zkr (ha:Tm X a gt) (hb:Wm X (.BoolOp .Or (b::Zbm) pos) gu):Wm X (.BoolOp .Or (a::b::Zbm) pos) (gOr gt gu):=⟨ZAO ha.m hb.m ha.p hb.p,ZAC ha.m hb.m⟩
theorem ZcM:Ssm X P [] Zam:=⟨Zvv,Zv7⟩
theorem Za4 (h:Sm X P st g1):Ssm X P [st] g1:=⟨Zvl h.p,h.m⟩
theorem Zaq (h1:Sm X P st g1) (h2:Ssm X P sts g2):Ssm X P (st::sts) (Zat g1 g2):=⟨Ztf h1.m h2.m h1.p h2.p,Zy6 h1.m h2.m⟩
theorem Zce (ha:Em X e ga):Sm X P (.Return (some e) pos) (Zay ga):=⟨Zy3 ha.m ha.p,Zxq ha.m⟩
theorem ZcW (hs:swapsWith e none pos.line X.env=pure false) (ha:Em X e ga):Sm X P (.Expr e pos) (Zbs ga):=⟨ZvO ha.m ha.p hs,Zvf ha.m⟩
theorem Zhv (hc:Tm X c gt) (h1:Ssm X P sts g1) (h2:Ssm X P sts' g2):Sm X P (.If c sts sts' pos) (gIf gt g1 g2):=⟨ZAk hc.m h1.m h2.m hc.p h1.p h2.p,ZAG hc.m h1.m h2.m⟩
theorem Zf0 {tg l:Expr} (ht:∀ it u,letOwnedTupleGo tg it u=pure ()) (hl:Em X l ga):Im X tg l (Zbl ga):=⟨Zyv ht hl.m hl.p,ZvS hl.m⟩
theorem ZeS {tg iter:Expr} {gi:GI} {gg:GG} {gb:GS} (hp:PassesOwn (model X.prog X.w) X.A X.env X.xe) (hc:X.calm=true) (hs:∀ x,foldedSetIterable iter X.env x=pure x) (hi:Im X tg iter gi) (hg:TgW X tg gg) (hb:Ssm X ZBa sts gb):Sm X P (.For tg iter sts [] pos) (ZfH gi gg gb) :=
 ⟨Zxw hp hc hi.m hb.m hi.p hg hb.p hs,ZxC hi.m hg.mono hb.m⟩
end
theorem Zq5 {bs:List Bool} {its:List Value} (r:Vals (bs.map V.bl) its) {i:Nat} {v:Value} (e:its.toArray[i]?=some v):v=.bool (bs.getD i false):=by
 have e':its[i]?=some v:=by simpa using e
 have hl:=r.length
 rw [List.length_map] at hl
 have hi:i < its.length:=(List.getElem?_eq_some_iff.mp e').1
 have hb:bs[i]?=some (bs[i]'(by omega)):=List.getElem?_eq_getElem _
 obtain ⟨u,e1,r1⟩:=r.get (i:=i) (x:=.bl (bs[i]'(by omega))) (by rw [List.getElem?_map,hb];rfl)
 rw [e'] at e1;cases e1
 rw [List.getD_eq_getElem?_getD,hb]
 exact r1
theorem Zsd {bs:List Bool}:(List.range bs.length).all (fun i=>bs.getD i false)=bs.all id:=by
 rw [Bool.eq_iff_iff]
 simp only [List.all_eq_true,List.mem_range,id]
 constructor
 ·intro h b hb
  obtain ⟨i,hi,e⟩:=List.mem_iff_getElem.mp hb
  have:=h i hi
  rw [List.getD_eq_getElem?_getD,List.getElem?_eq_getElem hi] at this
  rw [← e];exact this
 ·intro h i hi
  rw [List.getD_eq_getElem?_getD,List.getElem?_eq_getElem hi]
  exact h _ (List.getElem_mem hi)
section
variable {X:Cx}
theorem Zq1 (hc:X.calm=true):CallR X (.builtin "all") (fun xs H Q=>∃ (p:Addr) (bs:List Bool),xs=[.ref p]∧SqL X.K H p (bs.map V.bl)∧Q (.bl (bs.all id)) H):=by
 intro pins s σ H xs us Q I r h
 obtain ⟨p,bs,rfl,hq,q⟩:=h
 obtain ⟨u,rfl,rx⟩:=Zoi r
 cases rx
 obtain ⟨its,r',pl,hz⟩:=I.list hq
 have hl:=r'.length
 rw [List.length_map] at hl
 obtain ⟨o,n,e,_⟩:=id pl
 refine call_all_walk (wpAny_pyIter_list pl.isList ⟨s.heap.objs.size,_,_,_,_,_,fun i=>bs.getD i false,rfl,Walks.list (A:=X.A.in1) (I.ok.hd hc) _ p (Nat.ne_of_lt (Heap.lt_size e)) its.toArray,
  ⟨⟨_,Heap.get?_push_size _ rfl,rfl,rfl⟩,pl.isList.push _⟩,fun i v s Q E hp hq=>by rw [Zq5 r' hp];exact wpAny_truthy_bool hq,fun h' tk k=>?_⟩)
 refine ⟨.bl (bs.all id),H,I.kept (t':=tk) fun b o e=>k b o (by simpa using Nat.ne_of_lt (Heap.lt_size e)) (Heap.get?_push_of_some _ e),?_,q⟩
 show Value.bool _=_
 rw [List.size_toArray,← hl,Zsd]
end
abbrev RWc:=List W→Hw→Kw→Prop
def RWc.M (r:RWc):Prop:=∀ ws G (Q Q':Kw),(∀ w G',Q w G'→Q' w G')→r ws G Q→r ws G Q'
def gB (r:RWc) (gs:GA):GE:=fun ω G Q=>gs ω G fun ws G1=>r ws G1 Q
theorem ZA8 {r:RWc} {gs:GA} (mr:r.M) (ms:gs.M):GE.M (gB r gs):=fun ω G Q Q' h q=>ms _ _ _ _ (fun ws G1 z=>mr _ _ _ _ h z) q
theorem ZAZ {r:RWc} {r1:List V→Hp→VK→Prop} {gs:GA} (mr:r.M) (ms:gs.M) (hr:∀ ws vs G H Q,TrL K H vs ws→RelH K H G→r ws G (dn K H Q)→r1 vs H Q) (σ:St) (H:Hp) (Q:VK) (h:up K (gB r gs) σ H Q):tCB r1 (upA K gs) σ H Q:=by
 obtain ⟨ω,G,ts,rh,q⟩:=h
 exact ⟨ω,G,ts,rh,ms _ _ _ _ (fun ws G1 z vs H1 m t r1'=>hr ws vs G1 H1 Q t r1' (mr _ _ _ _ (fun w G' y=>ZcU m y) z)) q⟩
section
variable {X:Cx} {x:Str} {p pos:Pos} {e:Expr} {es:List Expr} {gs:GA} {r:RWc} {r1:List V→Hp→VK→Prop} {id T:String}
theorem ZyU (hc:CallR X (.builtin id) r1) (mr:r.M) (hr:∀ ws vs G H Q,TrL X.K H vs ws→RelH X.K H G→r ws G (dn X.K H Q)→r1 vs H Q) (hg:Gl X x) (hm:X.mg x=none) (hv:bootBuiltins x=some (.builtin id)) (hn:x≠"__name__") (hdb:(x==("__debug__":Str))=false)
  (he:starEach (e::es) X.env=(false,eval e X.env)::starEach es X.env) (hpl:(backTo pos (starEach es X.env)).any (·.1)=false) (ha:Am X (e::es) gs):Em X (.Call (.Name x p) (e::es) [] pos) (gB r gs) :=
 ⟨Zbz (ZsB hc hg hm hv ha.p hn hdb he hpl) (ZAZ mr ha.m hr),ZA8 mr ha.m⟩
theorem Zx2 (hc:CallR X (.type T) r1) (mr:r.M) (hr:∀ ws vs G H Q,TrL X.K H vs ws→RelH X.K H G→r ws G (dn X.K H Q)→r1 vs H Q) (hg:Gl X x) (hm:X.mg x=none) (hv:bootBuiltins x=some (.type T)) (hn:x≠"__name__") (hdb:(x==("__debug__":Str))=false)
  (he:starEach (e::es) X.env=(false,eval e X.env)::starEach es X.env) (hpl:(backTo pos (starEach es X.env)).any (·.1)=false) (ha:Am X (e::es) gs):Em X (.Call (.Name x p) (e::es) [] pos) (gB r gs) :=
 ⟨Zbz (Zr1 hc hg hm hv ha.p hn hdb he hpl) (ZAZ mr ha.m hr),ZA8 mr ha.m⟩
end
def rF (f:List W→Hw→Option W):RWc:=fun ws G Q=>opt (f ws G) fun w=>Q w G
theorem Zzr {f:List W→Hw→Option W}:RWc.M (rF f):=fun ws G Q Q' h q=>Zv0 (fun w z=>h _ _ z) q
def ZnT:List W→Option (List Bool)
 | []=>some []
 | .bl b::r=>(ZnT r).map (b::·)
 | _=>none
theorem ZoI:∀ {ws:List W} {bs:List Bool} {vs:List V},ZnT ws=some bs→TrL K H vs ws→vs=bs.map V.bl
 | [],bs,vs,e,t=>by cases e;cases t;rfl
 | w::ws,bs,vs,e,t=>by
  cases t with
  | cons tw t =>
   cases w with
   | bl b =>
    unfold ZnT at e
    cases z:ZnT ws with
    | none=>rw [z] at e;cases e
    | some bs' =>
     rw [z] at e;cases e
     rw [ZnR tw,ZoI z t];rfl
   | _=>cases e
def Zmg (G:Hw) (w:W):Option (List W):=match w with
 | .ref a=>(match G a with | some (.lst xs)=>some xs | _=>none)
 | _=>none
theorem Zhp {G:Hw} {w:W} {xs:List W} {v:V} (r:RelH K H G) (t:Tr K H v w) (e:Zmg G w=some xs):∃ a vs,v=.ref a∧w=.ref a∧G a=some (.lst xs)∧H a=some (.lst vs)∧TrL K H vs xs:=by
 cases t with
 | ref a =>
  unfold Zmg at e;dsimp only at e
  cases z:G a with
  | none=>rw [z] at e;cases e
  | some o =>
   rw [z] at e
   cases o with
   | lst ys=>cases e;obtain ⟨vs,e1,t1⟩:=r a _ z;exact ⟨a,vs,rfl,rfl,z,e1,t1⟩
   | exc C=>cases e
   | ins C fs=>cases e
   | dct kvs=>cases e
 | _=>cases e
def ZhH (ws:List W) (G:Hw):Option W:=match ws with | [w]=>(Zmg G w).bind fun xs=>(ZnT xs).map fun bs=>.bl (bs.all id) | _=>none
theorem ZvR (ws:List W) (vs:List V) (G:Hw) (H:Hp) (Q:VK) (t:TrL K H vs ws) (r:RelH K H G) (q:rF ZhH ws G (dn K H Q)):∃ (p:Addr) (bs:List Bool),vs=[.ref p]∧SqL K H p (bs.map V.bl)∧Q (.bl (bs.all id)) H:=by
 obtain ⟨w,e,q'⟩:=Zfs q
 unfold ZhH at e
 split at e
 ·rename_i w0
  cases t with
  | cons tw t =>
   cases t
   obtain ⟨xs,e1,e2⟩:=Option.bind_eq_some_iff.mp e
   obtain ⟨bs,e3,e4⟩:=Option.map_eq_some_iff.mp e2
   obtain ⟨a,us,rfl,rfl,_,e5,t5⟩:=Zhp r tw e1
   subst e4
   have:=ZoI e3 t5
   subst this
   exact ⟨a,bs,rfl,SqL.of e5,q' _ H .refl (.bl _) r⟩
 ·cases e
def Zkp (w:W) (G:Hw):Option W:=match w with
 | .tup xs=>some (.int xs.length)
 | .rol xs=>some (.int xs.length)
 | .str z=>if z.length≤sizeLine then some (.int z.length) else none
 | .ref a=>(match G a with | some (.lst xs)=>some (.int xs.length) | _=>none)
 | _=>none
def Zhd (ws:List W) (G:Hw):Option W:=match ws with | [w]=>Zkp w G | _=>none
theorem Zwo (ws:List W) (vs:List V) (G:Hw) (H:Hp) (Q:VK) (t:TrL K H vs ws) (r:RelH K H G) (q:rF Zhd ws G (dn K H Q)):∃ x n,vs=[x]∧ZA0 K x H n∧Q (.int n) H:=by
 obtain ⟨w,e,q'⟩:=Zfs q
 unfold Zhd at e
 split at e
 ·cases t with
  | cons tw t =>
   cases t
   cases tw with
   | tup h l=>cases e;exact ⟨_,_,rfl,.inr ⟨_,h,rfl⟩,by rw [l.length];exact q' _ H .refl (.int _) r⟩
   | rol h l=>cases e;exact ⟨_,_,rfl,.inl ⟨_,h.sq,rfl⟩,by rw [l.length];exact q' _ H .refl (.int _) r⟩
   | str z =>
    unfold Zkp at e;dsimp only at e
    split at e
    ·rename_i hz;cases e;exact ⟨_,_,rfl,⟨hz,rfl⟩,q' _ H .refl (.int _) r⟩
    ·cases e
   | ref a =>
    unfold Zkp at e;dsimp only at e
    cases z:G a with
    | none=>rw [z] at e;cases e
    | some o =>
     rw [z] at e
     cases o with
     | exc C=>cases e
     | ins C fs=>cases e
     | dct kvs=>cases e
     | lst xs =>
      cases e
      obtain ⟨us,e1,t1⟩:=r a _ z
      exact ⟨_,_,rfl,.inl ⟨_,SqL.of e1,rfl⟩,by rw [t1.length];exact q' _ H .refl (.int _) r⟩
   | _=>cases e
 ·cases e
mutual
def eqD:W→W→Option Bool
 | .tup xs,.tup ys=>ZjQ xs ys
 | .non,.non=>some true
 | .bl a,.bl b=>some (a==b)
 | .bl a,.int b=>some ((if a then 1 else 0)==b)
 | .int a,.bl b=>some (a==(if b then 1 else 0))
 | .int a,.int b=>some (a==b)
 | .str a,.str b=>some (a==b)
 | .non,.int _=>some false
 | .int _,.non=>some false
 | .int _,.str _=>some false
 | .str _,.int _=>some false
 | .bl _,.str _=>some false
 | .str _,.bl _=>some false
 | .non,.str _=>some false
 | .str _,.non=>some false
 | .non,.bl _=>some false
 | .bl _,.non=>some false
 | .tup _,.str _=>some false
 | .str _,.tup _=>some false
 | .tup _,.bl _=>some false
 | .bl _,.tup _=>some false
 | _,_=>none
def ZjQ:List W→List W→Option Bool
 | [],[]=>some true
 | [],_::_=>some false
 | _::_,[]=>some false
 | x::xs,y::ys=>match eqD x y,ZjQ xs ys with
  | some a,some b=>some (a&&b)
  | _,_=>none
end
mutual
def dpW:W→Nat
 | .tup xs=>dpL xs+1
 | _=>0
def dpL:List W→Nat
 | []=>0
 | x::xs=>max (dpW x) (dpL xs)
end
def ZqD:W→Option V
 | .non=>some .non
 | .bl b=>some (.bl b)
 | .int i=>some (.int i)
 | .str x=>some (.str x)
 | _=>none
theorem ZoY {v:V} {w:W} {f:V} (t:Tr K H v w) (e:ZqD w=some f):v=f∧Zkz v=true:=by
 cases t <;> first | cases e;exact ⟨rfl,rfl⟩ | cases e
theorem ZiV:∀ {xs ys:List W} {b:Bool},ZjQ xs ys=some b→∃ e:Nat→Bool,(∀ (i:Nat) x y,xs[i]?=some x→ys[i]?=some y→eqD x y=some (e i))∧b=((List.range (min xs.length ys.length)).all e&&xs.length==ys.length)
 | [],[],b,h=>by
  cases (show some true=some b from h)
  exact ⟨fun _=>true,fun i x y h1 h2=>by simp at h1,by simp⟩
 | [],_::_,b,h=>by
  cases (show some false=some b from h)
  exact ⟨fun _=>true,fun i x y h1 h2=>by simp at h1,by simp⟩
 | _::_,[],b,h=>by
  cases (show some false=some b from h)
  exact ⟨fun _=>true,fun i x y h1 h2=>by simp at h2,by simp⟩
 | x::xs,y::ys,b,h=>by
  have h':(match eqD x y,ZjQ xs ys with | some a,some b=>some (a&&b) | _,_=>none)=some b:=by rw [← h];rfl
  cases e1:eqD x y with
  | none=>rw [e1] at h';cases h'
  | some a =>
   cases e2:ZjQ xs ys with
   | none=>rw [e1,e2] at h';cases h'
   | some c =>
    rw [e1,e2] at h'
    cases h'
    obtain ⟨f,hf,hc⟩:=ZiV e2
    refine ⟨fun i=>match i with | 0=>a | j+1=>f j,fun i x' y' h1 h2=>?_,?_⟩
    ·cases i with
     | zero=>simp at h1 h2;subst h1;subst h2;exact e1
     | succ j=>exact hf j x' y' (by simpa using h1) (by simpa using h2)
    ·have em:min (x::xs).length (y::ys).length=min xs.length ys.length+1:=by simp only [List.length_cons];omega
     rw [em,List.range_succ_eq_map,List.all_cons,List.all_map,hc]
     have e5:((x::xs).length==(y::ys).length)=(xs.length==ys.length):=by simp
     rw [e5,Bool.and_assoc]
     rfl
theorem Zo4:∀ (xs:List W),(∀ x∈xs,eqD x x=some true∨eqD x x=none)→ZjQ xs xs=some true∨ZjQ xs xs=none
 | [],_=>.inl rfl
 | x::xs,h=>by
  have e:ZjQ (x::xs) (x::xs)=(match eqD x x,ZjQ xs xs with | some a,some b=>some (a&&b) | _,_=>none):=rfl
  rw [e]
  rcases h x List.mem_cons_self with h1 | h1
  ·rcases Zo4 xs (fun y hy=>h y (List.mem_cons_of_mem _ hy)) with h2 | h2
   ·rw [h1,h2];exact .inl rfl
   ·rw [h1,h2];exact .inr rfl
  ·rw [h1];exact .inr rfl
theorem ZqW:∀ (x:W),eqD x x=some true∨eqD x x=none
 | .non=>.inl rfl
 | .bl b=>.inl (by show some (b==b)=_;simp)
 | .int b=>.inl (by show some (b==b)=_;simp)
 | .str b=>.inl (by show some (b==b)=_;simp)
 | .tup xs=>Zo4 xs (fun x _=>ZqW x)
 | .rol _=>.inr rfl
 | .ref _=>.inr rfl
theorem ZgG:∀ {xs:List W} {x:W},x∈xs→dpW x≤dpL xs
 | y::xs,x,h=>by
  have e:dpL (y::xs)=max (dpW y) (dpL xs):=rfl
  rw [e]
  rcases List.mem_cons.mp h with rfl | h
  ·exact Nat.le_max_left ..
  ·exact Nat.le_trans (ZgG h) (Nat.le_max_right ..)
theorem ZpI:∀ (ws:List W) (ys:List W) (vs:List V),(∀ (v:V) (w y:W),w∈ws→Tr K H v w→Tr K H v y→eqD w y≠none→w=y)→TrL K H vs ws→TrL K H vs ys→ZjQ ws ys≠none→ws=ys:=by
 intro ws
 induction ws with
 | nil =>
  intro ys vs _ l l' _
  cases l
  cases l'
  rfl
 | cons w ws ih =>
  intro ys vs h l l' ne
  cases l with
  | cons t l =>
   cases l' with
   | @cons _ y _ ys t' l' =>
    have e:ZjQ (w::ws) (y::ys)=(match eqD w y,ZjQ ws ys with | some a,some b=>some (a&&b) | _,_=>none):=rfl
    have h1:eqD w y≠none:=fun z=>ne (by rw [e,z])
    have h2:ZjQ ws ys≠none:=fun z=>ne (by rw [e,z];cases eqD w y <;> rfl)
    rw [h _ w y List.mem_cons_self t t' h1,ih ys _ (fun v w y hm=>h v w y (List.mem_cons_of_mem _ hm)) l l' h2]
theorem Zxx {X:Cx} {pins:List (Addr×Obj)} {σ:St} {H:Hp} {s:Shared} (I:Inv X pins σ H s) (n:Nat):∀ (v:V) (w y:W),dpW w < n→Tr X.K H v w→Tr X.K H v y→eqD w y≠none→w=y:=by
 induction n with
 | zero=>intro v w y h;exact absurd h (Nat.not_lt_zero _)
 | succ n ih =>
  intro v w y h tw ty ne
  cases tw with
  | tup hq l =>
   rename_i a vs ws
   generalize hv:V.ref a=vr at ty
   cases ty with
   | tup hq' l' =>
    cases hv
    have e:=I.tuple_inj hq hq'
    subst e
    have hd2:dpL ws+1 < n+1:=h
    rw [ZpI ws _ _ (fun v w y hm=>ih v w y (by have:=ZgG hm;omega)) l l' ne]
   | rol _ _=>exact absurd rfl ne
   | ref _=>exact absurd rfl ne
   | non=>cases hv
   | bl _=>cases hv
   | int _=>cases hv
   | str _=>cases hv
  | rol _ _=>exact absurd (by cases y <;> rfl) ne
  | ref _=>exact absurd (by cases y <;> rfl) ne
  | non=>cases ty;rfl
  | bl _=>cases ty;rfl
  | int _=>cases ty;rfl
  | str _=>cases ty;rfl
theorem Zod {X:Cx} {pins:List (Addr×Obj)} {σ:St} {H:Hp} {s:Shared} (I:Inv X pins σ H s) (n:Nat):∀ (w y:W) (v u:V) (vv uu:Value) (b:Bool) (A:Around),dpW w < n→Tr X.K H v w→Tr X.K H u y→RelV v vv→RelV u uu→eqD w y=some b→A.units+n < cLine→SeqAt.EqAt A s vv uu b:=by
 induction n with
 | zero=>intro w _ _ _ _ _ _ _ h;exact absurd h (Nat.not_lt_zero _)
 | succ n ih =>
  intro w y v u vv uu b A h tw ty rv ru e hu
  cases tw with
  | tup hq l =>
   cases ty with
   | tup hq' l' =>
    rename_i a vs ws a' us ys
    cases rv
    cases ru
    by_cases haa:a=a'
    ·subst haa
     have ew:=Zxx I (dpW (.tup ws)+1) _ _ _ (Nat.lt_succ_self _) (.tup hq l) (.tup hq' l') (by rw [e];simp)
     cases ew
     rcases ZqW (.tup ws) with z | z
     ·rw [e] at z;cases z;exact SeqAt.EqAt.same _
     ·rw [e] at z;cases z
    ·obtain ⟨its,r1,p1,_⟩:=I.tuple hq
     obtain ⟨its',r2,p2,_⟩:=I.tuple hq'
     obtain ⟨f,hf,hb⟩:=ZiV (show ZjQ ws ys=some b from e)
     have l1:=r1.length
     have l2:=r2.length
     have l3:=l.length
     have l4:=l'.length
     refine SeqAt.EqAt.of_refs haa ?_
     have key:=SeqAt.RcAt.tuples (A:=A) (s:=s) (e:=f) (show s.heap.IsTuple a its.toArray from p1) (show s.heap.IsTuple a' its'.toArray from p2) (by omega) (fun j h1 h2=>?_)
     ·rw [hb]
      walk_at "pw"
      walk_at "pu"
      rw [e1,e2] at key
      exact key
     ·have j1:j < ws.length:=by rw [List.size_toArray] at h1;omega
      have j2:j < ys.length:=by rw [List.size_toArray] at h2;omega
      obtain ⟨v1,g1,t1⟩:=l.get (List.getElem?_eq_getElem j1)
      obtain ⟨v2,g2,t2⟩:=l'.get (List.getElem?_eq_getElem j2)
      obtain ⟨u1,g3,rr1⟩:=r1.get g1
      obtain ⟨u2,g4,rr2⟩:=r2.get g2
      have eu1:its.toArray[j]=u1:=by
       have z:its[j]?=some its[j]:=List.getElem?_eq_getElem (by omega)
       rw [g3] at z
       have z':=Option.some.inj z
       rw [z'];simp
      have eu2:its'.toArray[j]=u2:=by
       have z:its'[j]?=some its'[j]:=List.getElem?_eq_getElem (by omega)
       rw [g4] at z
       have z':=Option.some.inj z
       rw [z'];simp
      rw [eu1,eu2]
      have hd:dpW (ws[j])≤dpL ws:=ZgG (List.getElem_mem j1)
      have hd2:dpL ws+1 < n+1:=h
      exact ih _ _ _ _ _ _ _ A.in1 (by omega) t1 t2 rr1 rr2 (hf j _ _ (List.getElem?_eq_getElem j1) (List.getElem?_eq_getElem j2)) (by show A.units+1+n < cLine;omega)
   | str _ =>
    cases e;cases rv;obtain ⟨t,rfl⟩:=ru
    obtain ⟨its,r1,p1,_⟩:=I.tuple hq
    exact SeqAt.EqAt.tuple_str (A:=A) _ _ p1 (by omega)
   | bl _ =>
    cases e;cases rv;cases ru
    obtain ⟨its,r1,p1,_⟩:=I.tuple hq
    exact SeqAt.EqAt.tuple_bool _ p1 (by omega)
   | _=>cases e
  | non=>cases ty <;> cases e <;> exact Zmp rv ru rfl rfl
  | bl c =>
   cases ty with
   | tup hq l =>
    cases e;cases rv;cases ru
    obtain ⟨its,r1,p1,_⟩:=I.tuple hq
    exact SeqAt.EqAt.bool_tuple _ p1 (by omega)
   | _=>cases e <;> exact Zmp rv ru rfl rfl
  | int c=>cases ty <;> cases e <;> exact Zmp rv ru rfl rfl
  | str c =>
   cases ty with
   | tup hq l =>
    cases e;cases ru;obtain ⟨t,rfl⟩:=rv
    obtain ⟨its,r1,p1,_⟩:=I.tuple hq
    exact SeqAt.EqAt.str_tuple (A:=A) _ _ p1 (by omega)
   | _=>cases e <;> exact Zmp rv ru rfl rfl
  | rol _ _=>cases y <;> cases e
  | ref _=>cases y <;> cases e
def rSq (K:PySem.W.Frag) (neg:Bool):R2:=fun v u H Q=>∃ (a b:Addr) (vs us:List V) (ws ys:List W) (c:Bool),v=.ref a∧u=.ref b∧((SqT K H a vs∧SqT K H b us)∨(SqL K H a vs∧SqL K H b us))∧TrL K H vs ws∧TrL K H us ys∧dpL ws < 90∧ZjQ ws ys=some c∧Q (.bl (c != neg)) H
section
variable {X:Cx} {pins:List (Addr×Obj)} {σ:St} {H:Hp} {s:Shared}
theorem Zjd (I:Inv X pins σ H s) {A:Around} {vs us:List V} {ws ys:List W} {its its':List Value} (r1:Vals vs its) (r2:Vals us its') (t1:TrL X.K H vs ws) (t2:TrL X.K H us ys) (hd:dpL ws < 90) (hu:A.units+100 < cLine) {f:Nat→Bool}
  (hf:∀ (i:Nat) x y,ws[i]?=some x→ys[i]?=some y→eqD x y=some (f i)) (j:Nat) (h1:j < its.toArray.size) (h2:j < its'.toArray.size):SeqAt.EqAt A.in1 s its.toArray[j] its'.toArray[j] (f j):=by
 have l1:=r1.length
 have l2:=r2.length
 have l3:=t1.length
 have l4:=t2.length
 have j1:j < ws.length:=by rw [List.size_toArray] at h1;omega
 have j2:j < ys.length:=by rw [List.size_toArray] at h2;omega
 obtain ⟨v1,g1,t1'⟩:=t1.get (List.getElem?_eq_getElem j1)
 obtain ⟨v2,g2,t2'⟩:=t2.get (List.getElem?_eq_getElem j2)
 obtain ⟨u1,g3,rr1⟩:=r1.get g1
 obtain ⟨u2,g4,rr2⟩:=r2.get g2
 have eu1:its.toArray[j]=u1:=by
  have z:its[j]?=some its[j]:=List.getElem?_eq_getElem (by omega)
  rw [g3] at z
  rw [Option.some.inj z];simp
 have eu2:its'.toArray[j]=u2:=by
  have z:its'[j]?=some its'[j]:=List.getElem?_eq_getElem (by omega)
  rw [g4] at z
  rw [Option.some.inj z];simp
 rw [eu1,eu2]
 exact Zod I 99 _ _ _ _ _ _ _ A.in1 (by have:=ZgG (List.getElem_mem j1);omega) t1' t2' rr1 rr2 (hf j _ _ (List.getElem?_eq_getElem j1) (List.getElem?_eq_getElem j2)) (by show A.units+1+99 < cLine;omega)
end
theorem Ztm {X:Cx} (hu:X.A.units+100 < cLine):OpR X (compareOp .Eq) (rSq X.K false):=by
 walk_at "pb"
 obtain ⟨a,b,vs,us,ws,ys,c,rfl,rfl,hq,t1,t2,hd,e,q⟩:=h
 cases rx
 cases ry
 obtain ⟨f,hf,hb⟩:=ZiV e
 have l3:=t1.length
 have l4:=t2.length
 have fin:∀ d:Bool,d=c→EP X pins σ Q (.bool d) s:=fun d hd=>by subst hd;exact ⟨.bl d,H,I,rfl,by simpa using q⟩
 rcases hq with ⟨h1,h2⟩ | ⟨h1,h2⟩
 ·obtain ⟨its,r1,p1,_⟩:=I.tuple h1
  obtain ⟨its',r2,p2,_⟩:=I.tuple h2
  have l1:=r1.length
  have l2:=r2.length
  refine SeqAt.eq_tupleAt (e:=f) (show s.heap.IsTuple a its.toArray from p1) (show s.heap.IsTuple b its'.toArray from p2) (by omega) (Zjd I r1 r2 t1 t2 hd hu hf) (fin _ ?_)
  walk_at "pw"
  walk_at "pu"
  rw [e1,e2,hb]
 ·obtain ⟨its,r1,p1,_⟩:=I.list h1
  obtain ⟨its',r2,p2,_⟩:=I.list h2
  have l1:=r1.length
  have l2:=r2.length
  walk_at "pw"
  walk_at "pu"
  by_cases hl:ws.length=ys.length
  ·refine SeqAt.eq_listAt (e:=f) p1.isList p2.isList (by omega) (by omega) (Zjd I r1 r2 t1 t2 hd hu hf) (fin _ ?_)
   rw [e1,hb,hl];simp
  ·refine SeqAt.eq_list_lengthsAt p1.isList p2.isList (by rw [e1,e2];simpa using hl) (by omega) (fin _ ?_)
   rw [hb];simp [hl]
theorem Ztc {X:Cx} (hu:X.A.units+100 < cLine):OpR X (compareOp .NotEq) (rSq X.K true):=by
 walk_at "pb"
 obtain ⟨a,b,vs,us,ws,ys,c,rfl,rfl,hq,t1,t2,hd,e,q⟩:=h
 cases rx
 cases ry
 obtain ⟨f,hf,hb⟩:=ZiV e
 have l3:=t1.length
 have l4:=t2.length
 have fin:∀ d:Bool,d=!c→EP X pins σ Q (.bool d) s:=fun d hd=>by subst hd;exact ⟨.bl _,H,I,rfl,by simpa using q⟩
 rcases hq with ⟨h1,h2⟩ | ⟨h1,h2⟩
 ·obtain ⟨its,r1,p1,_⟩:=I.tuple h1
  obtain ⟨its',r2,p2,_⟩:=I.tuple h2
  have l1:=r1.length
  have l2:=r2.length
  refine SeqAt.RcNeAt.tuples (e:=f) (show s.heap.IsTuple a its.toArray from p1) (show s.heap.IsTuple b its'.toArray from p2) (by omega) (Zjd I r1 r2 t1 t2 hd hu hf) _ _ _ _ (fin _ ?_)
  walk_at "pw"
  walk_at "pu"
  rw [e1,e2,hb]
 ·obtain ⟨its,r1,p1,_⟩:=I.list h1
  obtain ⟨its',r2,p2,_⟩:=I.list h2
  have l1:=r1.length
  have l2:=r2.length
  walk_at "pw"
  walk_at "pu"
  by_cases hl:ws.length=ys.length
  ·refine SeqAt.RcNeAt.lists (e:=f) p1.isList p2.isList (by omega) (by omega) (Zjd I r1 r2 t1 t2 hd hu hf) _ _ _ _ (fin _ ?_)
   rw [e1,hb,hl];simp
  ·refine SeqAt.RcNeAt.lists_lengths p1.isList p2.isList (by rw [e1,e2];simpa using hl) (by omega) _ _ _ _ (fin _ ?_)
   rw [hb];simp [hl]
def eqW (x y:W) (G:Hw):Option Bool:=match x,y with
 | .tup xs,.tup ys=>if dpL xs < 90 then ZjQ xs ys else none
 | .ref a,.ref b=>(match G a,G b with
  | some (.lst xs),some (.lst ys)=>if dpL xs < 90 then ZjQ xs ys else none
  | _,_=>none)
 | .int a,.int b=>some (a==b)
 | .bl a,.bl b=>some (a==b)
 | .str a,.str b=>some (a==b)
 | .non,.non=>some true
 | .int _,.non=>some false
 | .non,.int _=>some false
 | .int _,.str _=>some false
 | .str _,.int _=>some false
 | .bl _,.str _=>some false
 | .str _,.bl _=>some false
 | .non,.str _=>some false
 | .str _,.non=>some false
 | .non,.bl _=>some false
 | .bl _,.non=>some false
 | _,_=>none
def eqF (neg:Bool) (x y:W) (G:Hw):Option W:=(eqW x y G).map fun c=>.bl (c != neg)
theorem ZzU (c:Bool):(c != true)=!c:=by cases c <;> rfl
theorem Zuv (neg:Bool) (x y:W) (v u:V) (G:Hw) (H:Hp) (Q:VK) (tx:Tr K H v x) (ty:Tr K H u y) (r:RelH K H G) (q:Zak (eqF neg) x y G (dn K H Q)):(Zwn v u=true∧Q (.bl (decide (v=u) != neg)) H)∨rSq K neg v u H Q:=by
 obtain ⟨w,e,q'⟩:=Zfs q
 obtain ⟨c,e1,e2⟩:=Option.map_eq_some_iff.mp e
 subst e2
 have qq:=q' (.bl (c != neg)) H .refl (.bl _) r
 have sc:∀ {i j:V},decide (i=j)=c→Zwn i j=true→(Zwn i j=true∧Q (.bl (decide (i=j) != neg)) H)∨rSq K neg i j H Q:=fun {i j} h1 h2=>.inl ⟨h2,by rw [h1];exact qq⟩
 cases tx with
 | tup hq l =>
  cases ty with
  | tup hq' l' =>
   unfold eqW at e1;dsimp only at e1
   split at e1
   ·rename_i hd
    exact .inr ⟨_,_,_,_,_,_,c,rfl,rfl,.inl ⟨hq,hq'⟩,l,l',hd,e1,qq⟩
   ·cases e1
  | _=>cases e1
 | ref a =>
  cases ty with
  | ref b =>
   unfold eqW at e1;dsimp only at e1
   cases ea:G a with
   | none=>rw [ea] at e1;cases e1
   | some oa =>
    cases eb:G b with
    | none=>rw [ea,eb] at e1;cases oa <;> cases e1
    | some ob =>
     rw [ea,eb] at e1
     cases oa <;> cases ob <;> try cases e1
     dsimp only at e1
     split at e1
     ·rename_i hd
      obtain ⟨vs,z1,t1⟩:=r a _ ea
      obtain ⟨us,z2,t2⟩:=r b _ eb
      exact .inr ⟨_,_,_,_,_,_,c,rfl,rfl,.inr ⟨SqL.of z1,SqL.of z2⟩,t1,t2,hd,e1,qq⟩
     ·cases e1
  | _=>cases e1
 | rol _ _=>cases y <;> cases e1
 | non=>cases ty <;> cases e1 <;> exact sc (by simp) rfl
 | bl b=>cases ty <;> cases e1 <;> exact sc (by first | exact ZqT | simp) rfl
 | int b=>cases ty <;> cases e1 <;> exact sc (by first | exact Zoj | simp) rfl
 | str b=>cases ty <;> cases e1 <;> exact sc (by first | exact Zof | simp) rfl
theorem Zyc {X:Cx} (hu:X.A.units+100 < cLine):OpR X (compareOp .Eq) (fun x y H Q=>(Zwn x y=true∧Q (.bl (decide (x=y) != false)) H)∨rSq X.K false x y H Q):=by
 walk_at "pb"
 rcases h with ⟨h1,h2⟩ | h
 ·exact ZzH pins s σ H x y v u Q I rx ry ⟨h1,by simpa using h2⟩
 ·exact Ztm hu pins s σ H x y v u Q I rx ry h
theorem Zx5 {X:Cx} (hu:X.A.units+100 < cLine):OpR X (compareOp .NotEq) (fun x y H Q=>(Zwn x y=true∧Q (.bl (decide (x=y) != true)) H)∨rSq X.K true x y H Q):=by
 walk_at "pb"
 rcases h with ⟨h1,h2⟩ | h
 ·exact ZzM pins s σ H x y v u Q I rx ry ⟨h1,by rw [← ZzU];exact h2⟩
 ·exact Ztc hu pins s σ H x y v u Q I rx ry h
section
variable {X:Cx} {a b c e:Expr} {es Zbm:List Expr} {pos pos' p:Pos} {ga gb gc:GE} {gt gu:GT} {gs:GA}
def Zn8 (G:Hw) (w:W):Option (List W):=match w with
 | .tup xs=>some xs
 | .rol xs=>some xs
 | .ref a=>(match G a with | some (.lst xs)=>some xs | _=>none)
 | _=>none
theorem ZlK {G:Hw} {w:W} {xs:List W} {v:V} (r:RelH K H G) (t:Tr K H v w) (e:Zn8 G w=some xs):∃ a vs,v=.ref a∧(SqL K H a vs∨SqT K H a vs)∧TrL K H vs xs:=by
 cases t with
 | tup h l=>cases e;exact ⟨_,_,rfl,.inr h,l⟩
 | rol h l=>cases e;exact ⟨_,_,rfl,.inl h.sq,l⟩
 | ref a =>
  unfold Zn8 at e;dsimp only at e
  cases z:G a with
  | none=>rw [z] at e;cases e
  | some o =>
   rw [z] at e
   cases o with
   | lst ys=>cases e;obtain ⟨vs,e1,t1⟩:=r a _ z;exact ⟨a,vs,rfl,.inl (SqL.of e1),t1⟩
   | exc C=>cases e
   | ins C fs=>cases e
   | dct kvs=>cases e
 | _=>cases e
def ZnU:List W→Option (List V)
 | []=>some []
 | w::ws=>(ZqD w).bind fun v=>(ZnU ws).map (v::·)
theorem Zpr:∀ {ws:List W} {vs us:List V},ZnU ws=some us→TrL K H vs ws→vs=us∧vs.all Zkz=true
 | [],vs,us,e,t=>by cases e;cases t;exact ⟨rfl,rfl⟩
 | w::ws,vs,us,e,t=>by
  cases t with
  | cons tw t =>
   obtain ⟨f,e1,e2⟩:=Option.bind_eq_some_iff.mp (show (ZqD w).bind (fun v=>(ZnU ws).map (v::·))=some us from e)
   obtain ⟨fs,e3,e4⟩:=Option.map_eq_some_iff.mp e2
   obtain ⟨h1,h2⟩:=ZoY tw e1
   obtain ⟨h3,h4⟩:=Zpr e3 t
   subst e4
   exact ⟨by rw [h1,h3],by rw [List.all_cons,h2,h4];rfl⟩
def inF (neg:Bool) (x y:W) (G:Hw):Option W:=(ZqD x).bind fun v=>(Zn8 G y).bind fun xs=>(ZnU xs).map fun us=>.bl (if neg then !inV v us else inV v us)
theorem Zyu (neg:Bool) (x y:W) (v u:V) (G:Hw) (H:Hp) (Q:VK) (tx:Tr K H v x) (ty:Tr K H u y) (r:RelH K H G) (q:Zak (inF neg) x y G (dn K H Q)):rIn K neg v u H Q:=by
 obtain ⟨w,e,q'⟩:=Zfs q
 obtain ⟨f,e1,e2⟩:=Option.bind_eq_some_iff.mp e
 obtain ⟨xs,e3,e4⟩:=Option.bind_eq_some_iff.mp e2
 obtain ⟨us,e5,e6⟩:=Option.map_eq_some_iff.mp e4
 subst e6
 obtain ⟨h1,h2⟩:=ZoY tx e1
 obtain ⟨a,vs,rfl,hq,t⟩:=ZlK r ty e3
 obtain ⟨h3,h4⟩:=Zpr e5 t
 subst h1;subst h3
 exact ⟨a,vs,rfl,hq,h2,h4,q' _ H .refl (.bl _) r⟩
end
section
variable {X:Cx} {P:Hp→Prop} {a b c e o i:Expr} {sts:List Stmt} {pos pos':Pos} {ga gb gc gv go gi:GE} {gt:GT} {g:GS} {gs:GA}
def ZoO (gt:GT) (g:GS):GS:=fun D ω G=>∃ W:Nat→Sw→Hw→Prop,(∃ m,W m ω G)∧∀ m ω G,W m ω G →
 gt ω G fun b G1=>if b=true then g { nx:=fun ω' G'=>∃ m',m' < m∧W m' ω' G',rt:=D.rt,bk:=D.nx,ct:=fun ω' G'=>∃ m',m' < m∧W m' ω' G' } ω G1 else D.nx ω G1
theorem Zt7 (mt:gt.M) (mb:g.M):GS.M (ZoO gt g):=fun ω G D D' h1 h2 h3 h4 ⟨W,w0,turn⟩=>⟨W,w0,fun m ω G w=>mt _ _ _ _ (fun b G1 z=>by
 cases b with
 | true=>exact mb _ _ { nx:=fun ω' G'=>∃ m',m' < m∧W m' ω' G',rt:=D.rt,bk:=D.nx,ct:=fun ω' G'=>∃ m',m' < m∧W m' ω' G' } _ (fun _ _ y=>y) h2 h1 (fun _ _ y=>y) z
 | false=>exact h1 _ _ z) (turn m ω G w)⟩
theorem Zt3 (hp:PassesOwn (model X.prog X.w) X.A X.env X.xe) (mt:gt.M) (mb:g.M) (hc:PTw X c gt) (hb:ZsI X P sts g):PSw X P (.While c sts [] pos) (ZoO gt g):=fun B hB =>
 Zfk (ZsY hp hc (hb B hB)) <| by
  rintro D σ H ⟨ω,G,ts,r,mb0,W,⟨m0,w0⟩,turn⟩
  refine ⟨fun m σ' H'=>Mono X.K B H'∧∃ ω' G',TrSt X.K H' σ' ω'∧RelH X.K H' G'∧W m ω' G',⟨m0,mb0,ω,G,ts,r,w0⟩,?_⟩
  rintro m σ' H' ⟨mm,ω',G',ts',r',w'⟩
  refine ⟨ω',G',ts',r',mt _ _ _ _ (fun b G1 z H1 m1 r1=>?_) (turn m ω' G' w')⟩
  cases b with
  | true =>
   rw [if_pos rfl]
   refine ⟨fun σ2 H2=>∃ m',m' < m∧Mono X.K B H2∧∃ ω2 G2,TrSt X.K H2 σ2 ω2∧RelH X.K H2 G2∧W m' ω2 G2,(by rintro σ2 H2 ⟨m',h1,h2⟩;exact ⟨m',h1,h2⟩),ω',G1,ts'.mono m1,r1,mm.trans m1,?_⟩
   exact mb _ _ { nx:=fun ω' G'=>∃ m',m' < m∧W m' ω' G',rt:=(dnD X.K B D).rt,bk:=(dnD X.K B D).nx,ct:=fun ω' G'=>∃ m',m' < m∧W m' ω' G' } _
    ((by rintro a b ⟨m',h1,h2⟩ σ2 H2 m2 ts2 r2;exact ⟨m',h1,m2,a,b,ts2,r2,h2⟩)) (fun a b y=>y) (fun a b y=>y) ((by rintro a b ⟨m',h1,h2⟩ σ2 H2 m2 ts2 r2;exact ⟨m',h1,m2,a,b,ts2,r2,h2⟩)) z
  | false =>
   rw [if_neg Bool.false_ne_true]
   exact z σ' H1 (mm.trans m1) (ts'.mono m1) r1
theorem ZcD (hp:PassesOwn (model X.prog X.w) X.A X.env X.xe) (hc:Tm X c gt) (hb:Ssm X P sts g):Sm X P (.While c sts [] pos) (ZoO gt g):=⟨Zt3 hp hc.m hb.m hc.p hb.p,Zt7 hc.m hb.m⟩
def Zwt (ω:Sw) (i:Nat):Option W:=match ω[i]? with | some (some w)=>some w | _=>none
theorem ZwE {σ:St} {ω:Sw} {n:Nat} {w:W} (ts:TrSt K H σ ω) (e:Zwt ω n=some w):∃ v,σ[n]?=some (some v)∧Tr K H v w:=by
 unfold Zwt at e
 split at e
 ·rename_i u z
  cases e
  exact ts.get n _ z
 ·cases e
def ZkA (n:Nat) (r:RW2) (ga:GE):GS:=fun D ω G=>opt (Zwt ω n) fun x=>ga ω G fun y G1=>r x y G1 fun z G2=>D.nx (ω.set n (some z)) G2
theorem ZyJ {n:Nat} {r:RW2} (mr:r.M) (ma:ga.M):GS.M (ZkA n r ga):=fun ω G D D' h1 _ _ _ q=>Zv0 (fun x q=>ma _ _ _ _ (fun y G1 z=>mr _ _ _ _ _ (fun w G2 z2=>h1 _ _ z2) z) q) q
theorem Zyh {op:Operator} {r:RW2} {r2:R2} {n:Nat} {x:Str} (ho:OpR X (inplaceOp op) r2) (mr:r.M) (hr:∀ (x y:W) (v u:V) (G:Hw) (H:Hp) (Q:VK),Tr X.K H v x→Tr X.K H u y→RelH X.K H G→r x y G (dn X.K H Q)→r2 v u H Q)
  (hN:X.N.Nodup) (hi:X.N[n]?=some x) (hx:Loc X.env.scope x) (hf:X.fn x=true∨X.env.scope.names.lookup x=some .local) (ma:ga.M) (ha:PEw X e ga):PSw X P (.AugAssign (.Name x pos') op e pos) (ZkA n r ga):=fun B hB =>
 Zfk (Zx0 hN hi hx ha (fun pins s σ H x y v u Q I r1 r2 h=>ho pins s σ H x y v u Q I r1 r2 h) hf) <| by
  rintro D σ H ⟨ω,G,ts,rh,mb,q⟩
  obtain ⟨w,e1,q⟩:=Zfs q
  obtain ⟨v,e2,t⟩:=ZwE ts e1
  refine ⟨v,e2,ω,G,ts,rh,ma _ _ _ _ (fun y G1 z u H1 m tu r1=>?_) q⟩
  exact hr w y v u G1 H1 _ (t.mono m) tu r1 (mr _ _ _ _ _ (fun w2 G2 z2 v2 H2 m2 t2 r2=>z2 _ H2 ((mb.trans m).trans m2) (((ts.mono m).mono m2).set n t2) r2) z)
def Zeb:RW2:=fun x y G Q=>match x,y with
 | .int i,.int j=>Q (.int (i+j)) G
 | .str a,.str b=>a.length+b.length≤sizeLine∧Q (.str (a++b)) G
 | _,_=>False
theorem Zrr:RW2.M Zeb:=fun x y G Q Q' h q=>by
 cases x <;> cases y <;> first | exact q | exact h _ _ q | exact ⟨q.1,h _ _ q.2⟩
theorem Ztp (x y:W) (v u:V) (G:Hw) (H:Hp) (Q:VK) (tx:Tr K H v x) (ty:Tr K H u y) (r:RelH K H G) (q:Zeb x y G (dn K H Q)) :
  (rI0 fun i j=>.int (i+j)) v u H Q∨(∃ i j,v=.str i∧u=.str j∧i.length+j.length≤sizeLine∧Q (.str (i++j)) H):=by
 cases tx with
 | int i=>cases ty <;> first | exact q.elim | exact .inl ⟨_,_,rfl,rfl,q _ H .refl (.int _) r⟩
 | str i=>cases ty <;> first | exact q.elim | exact .inr ⟨_,_,rfl,rfl,q.1,q.2 _ H .refl (.str _) r⟩
 | _=>exact q.elim
def Zkh (o k v:W) (G:Hw) (Q:Hw→Prop):Prop:=match o,k with
 | .ref a,.int j=>(match G a with
  | some (.lst xs)=>(match ixN xs.length j with | some n=>Q (put G a (.lst (xs.set n v))) | none=>False)
  | _=>False)
 | _,_=>False
theorem Zpv {o k v:W} {G:Hw} {Q:Hw→Prop} (q:Zkh o k v G Q):∃ a j xs n,o=.ref a∧k=.int j∧G a=some (.lst xs)∧ixN xs.length j=some n∧Q (put G a (.lst (xs.set n v))):=by
 unfold Zkh at q
 split at q
 ·split at q
  ·rename_i xs e
   split at q
   ·rename_i n e2;exact ⟨_,_,xs,n,rfl,rfl,e,e2,q⟩
   ·exact q.elim
  ·exact q.elim
 ·exact q.elim
theorem Zl9 {v:W} {G:Hw} {Q:Hw→Prop} {a:Addr} {j:Int} {xs:List W} {n:Nat} (e:G a=some (.lst xs)) (e2:ixN xs.length j=some n) (q:Q (put G a (.lst (xs.set n v)))):Zkh (.ref a) (.int j) v G Q:=by
 unfold Zkh
 dsimp only
 rw [e]
 dsimp only
 rw [e2]
 exact q
theorem Zwk {o k v:W} {G:Hw} {Q Q':Hw→Prop} (h:∀ G,Q G→Q' G) (q:Zkh o k v G Q):Zkh o k v G Q':=by
 obtain ⟨a,j,xs,n,rfl,rfl,e,e2,q⟩:=Zpv q
 exact Zl9 e e2 (h _ q)
theorem ZtB {o k v:W} {x y u:V} {G:Hw} {Pq:Hw→Prop} {R:Hp→Prop} (tx:Tr K H x v) (ty:Tr K H y o) (tu:Tr K H u k) (r:RelH K H G) (q:Zkh o k v G Pq) (f:∀ G4 H4,Mono K H H4→RelH K H4 G4→Pq G4→R H4):Zxa y u x H R:=by
 obtain ⟨a,j,xs,n,rfl,rfl,e,e2,q⟩:=Zpv q
 cases ty
 cases tu
 obtain ⟨vs,e3,t⟩:=r a _ e
 exact ⟨a,vs,j,n,rfl,rfl,e3,by rw [t.length];exact e2,f _ _ (Mono.lst e3 _) (r.chg e3 (TrL.set tx n t)) q⟩
def ZdN (gv go gi:GE):GS:=fun D ω G=>gv ω G fun v G1=>go ω G1 fun o G2=>gi ω G2 fun k G3=>Zkh o k v G3 fun G4=>D.nx ω G4
theorem ZtC (mv:gv.M) (mo:go.M) (mi:gi.M):GS.M (ZdN gv go gi):=fun ω G D D' h1 _ _ _ q =>
 mv _ _ _ _ (fun v G1 z=>mo _ _ _ _ (fun o G2 z=>mi _ _ _ _ (fun k G3 z=>Zwk (fun G4 z=>h1 _ _ z) z) z) z) q
theorem Zc5 (ha:∀ v,assign (.Subscript o i pos') X.env v=(do
   let ov ← holding [v] (eval o X.env)
   let iv ← holding [v,ov] (eval i X.env)
   standAt pos'
   holding [v,ov,iv] (setItem ov iv v)
   release [v,ov,iv] [])) (hs:swapsWithSole [.Subscript o i pos'] e pos.line X.env=pure false) (hw:swappedStores [.Subscript o i pos'] e X.env=pure none)
  (h1:(assignEach [.Subscript o i pos'] X.env).map (·.2)=[assign (.Subscript o i pos') X.env]) (hv:Em X e gv) (ho:Em X o go) (hi:Em X i gi):Sm X P (.Assign [.Subscript o i pos'] e pos) (ZdN gv go gi) :=
 ⟨fun B hB=>Zfk (Zup hv.p (ZyL ho.p hi.p Zue ha) hs hw h1) fun D σ H ⟨ω,G,ts,r,mb,q⟩=>⟨ω,G,ts,r,hv.m _ _ _ _ (fun v G1 z x H1 m1 tx r1 =>
  ⟨ω,G1,ts.mono m1,r1,ho.m _ _ _ _ (fun ow G2 z2 y H2 m2 ty r2 =>
   ⟨ω,G2,(ts.mono m1).mono m2,r2,hi.m _ _ _ _ (fun k G3 z3 u H3 m3 tu r3 =>
    ZtB ((tx.mono m2).mono m3) (ty.mono m3) tu r3 z3 (fun G4 H4 m4 r4 q4=>q4 σ H4 ((((mb.trans m1).trans m2).trans m3).trans m4) ((((ts.mono m1).mono m2).mono m3).mono m4) r4)) z2⟩) z⟩) q⟩,ZtC hv.m ho.m hi.m⟩
abbrev GO:=Sw→Hw→(Option Int→Hw→Prop)→Prop
def GO.M (g:GO):Prop:=∀ ω G (Q Q':Option Int→Hw→Prop),(∀ w G',Q w G'→Q' w G')→g ω G Q→g ω G Q'
def dnO (K:PySem.W.Frag) (H:Hp) (Q:Option Int→Hp→Prop):Option Int→Hw→Prop:=fun b G=>∀ H',Mono K H H'→RelH K H' G→Q b H'
def upO (K:PySem.W.Frag) (g:GO):TO:=fun σ H Q=>∃ ω G,TrSt K H σ ω∧RelH K H G∧g ω G (dnO K H Q)
structure Om (X:Cx) (e:Option Expr) (g:GO):Prop where
 p:PO X e (upO X.K g)
 m:g.M
def ZaO:GO:=fun _ G Q=>Q none G
def Zco (ga:GE):GO:=fun ω G Q=>ga ω G fun w G1=>match w with | .int j=>Q (some j) G1 | _=>False
theorem Zee:Om X none ZaO:=⟨(by rintro pins s σ H Q I ⟨ω,G,ts,r,q⟩;exact Zv1 pins s σ H Q I (q H .refl r)),fun _ _ _ _ h q=>h _ _ q⟩
theorem Zd4 (h:Em X e ga):Om X (some e) (Zco ga):=⟨fun pins s σ H Q I ⟨ω,G,ts,r,q⟩=>ZvB h.p pins s σ H Q I ⟨ω,G,ts,r,h.m _ _ _ _ (fun w G1 z v H1 m t r1=>by
  cases w with
  | int j=>exact ⟨j,ZyM t,z H1 m r1⟩
  | _=>exact z.elim) q⟩,fun ω G Q Q' hh q=>h.m _ _ _ _ (fun w G1 z=>by cases w <;> first | exact hh _ _ z | exact z) q⟩
def Zoz {α:Type} (xs:List α) (lo hi:Option Int):List α:=(xs.drop (HT.sIx xs.length 0 lo)).take (HT.sIx xs.length xs.length hi - HT.sIx xs.length 0 lo)
def slW (w:W) (lo hi:Option Int) (G:Hw) (Q:Kw):Prop:=match w with
 | .tup xs=>¬ (HT.sIx xs.length 0 lo=0∧HT.sIx xs.length xs.length hi=xs.length)∧Q (.tup (Zoz xs lo hi)) G
 | .rol xs=>∀ p,G p=none→Q (.ref p) (put G p (.lst (Zoz xs lo hi)))
 | .ref a=>(match G a with | some (.lst xs)=>∀ p,G p=none→Q (.ref p) (put G p (.lst (Zoz xs lo hi))) | _=>False)
 | _=>False
theorem ZsW {w:W} {lo hi:Option Int} {G:Hw} {Q Q':Kw} (h:∀ w G',Q w G'→Q' w G') (q:slW w lo hi G Q):slW w lo hi G Q':=by
 cases w with
 | tup xs=>exact ⟨q.1,h _ _ q.2⟩
 | rol xs=>exact fun p hp=>h _ _ (q p hp)
 | ref a =>
  unfold slW at q ⊢
  dsimp only at q ⊢
  cases e:G a with
  | none=>rw [e] at q;exact q.elim
  | some ob =>
   rw [e] at q
   cases ob with
   | lst xs=>exact fun p hp=>h _ _ (q p hp)
   | exc C=>exact q.elim
   | ins C fs=>exact q.elim
   | dct kvs=>exact q.elim
 | _=>exact q.elim
theorem TrL.cut {vs:List V} {ws:List W} (t:TrL K H vs ws) (lo hi:Option Int):TrL K H (Zul vs lo hi) (Zoz ws lo hi):=by
 unfold Zul Zoz
 rw [t.length]
 exact (t.drop _).take _
theorem Zpt {w:W} {v:V} {lo hi:Option Int} {G:Hw} {Q:VK} (t:Tr K H v w) (r:RelH K H G) (q:slW w lo hi G (dn K H Q)):Zz8 K v lo hi H Q∨ZAQ K v lo hi H Q:=by
 cases t with
 | tup h l =>
  refine .inl ⟨_,_,rfl,h,by rw [l.length];exact q.1,fun p hp=>?_⟩
  exact q.2 _ _ (Mono.new hp _) (.tup (SqT.of ZbP) ((l.cut lo hi).mono (Mono.new hp _))) (r.mono0 hp)
 | rol h l=>exact .inr ⟨_,_,rfl,h.sq,fun p hp=>q p (r.no hp) _ _ (Mono.new hp _) (.ref p) (r.new hp (l.cut lo hi))⟩
 | ref a =>
  unfold slW at q
  dsimp only at q
  cases e:G a with
  | none=>rw [e] at q;exact q.elim
  | some ob =>
   rw [e] at q
   cases ob with
   | lst xs =>
    obtain ⟨vs,e1,l⟩:=r a _ e
    exact .inr ⟨_,_,rfl,SqL.of e1,fun p hp=>q p (r.no hp) _ _ (Mono.new hp _) (.ref p) (r.new hp (l.cut lo hi))⟩
   | exc C=>exact q.elim
   | ins C fs=>exact q.elim
   | dct kvs=>exact q.elim
 | _=>exact q.elim
def gSl (ga:GE) (gl gh:GO):GE:=fun ω G Q=>ga ω G fun w G1=>gl ω G1 fun lo G2=>gh ω G2 fun hi G3=>slW w lo hi G3 Q
theorem Zkv {lo hi:Option Expr} {gl gh:GO} {p2:Pos} (ha:Em X e ga) (hl:Om X lo gl) (hh:Om X hi gh):Em X (.Subscript e (.Slice lo hi none p2) pos) (gSl ga gl gh) :=
 ⟨Zbz (ZoL (SlR.or Zuq Zr5) ha.p hl.p hh.p) fun σ H Q ⟨ω,G,ts,r,q⟩=>⟨ω,G,ts,r,ha.m _ _ _ _ (fun w G1 z v H1 m1 t r1=>⟨ω,G1,ts.mono m1,r1,hl.m _ _ _ _ (fun l G2 z2 H2 m2 r2 =>
   ⟨ω,G2,(ts.mono m1).mono m2,r2,hh.m _ _ _ _ (fun h G3 z3 H3 m3 r3=>Zpt ((t.mono m2).mono m3) r3 (ZsW (fun w G' z=>ZcU ((m1.trans m2).trans m3) z) z3)) z2⟩) z⟩) q⟩,
  fun ω G Q Q' h q=>ha.m _ _ _ _ (fun w G1 z=>hl.m _ _ _ _ (fun l G2 z2=>hh.m _ _ _ _ (fun u G3 z3=>ZsW h z3) z2) z) q⟩
end
abbrev UpW (K:PySem.W.Frag) (r:RW2) (r2:R2):Prop:=∀ (x y:W) (v u:V) (G:Hw) (H:Hp) (Q:VK),Tr K H v x→Tr K H u y→RelH K H G→r x y G (dn K H Q)→r2 v u H Q
structure Cop (X:Cx) (op:CmpOp) (r:RW2):Prop where
 ex:∃ r2,OpR X (compareOp op) r2∧UpW X.K r r2
 m:r.M
def ZaY (a b:Str):Bool:=decide (a.cps.toList < b.cps.toList)
def Zfy (f:Int→Int→Bool) (g:Str→Str→Bool):RW2:=fun x y G Q=>match x,y with
 | .int i,.int j=>Q (.bl (f i j)) G
 | .str i,.str j=>Q (.bl (g i j)) G
 | _,_=>False
theorem ZuI {f:Int→Int→Bool} {g:Str→Str→Bool}:RW2.M (Zfy f g):=fun x y G Q Q' h q=>by
 cases x <;> cases y <;> first | exact q | exact h _ _ q
theorem ZrT {f:Int→Int→Bool} {g:Str→Str→Bool}:UpW K (Zfy f g) (fun x y H Q=>rI0 (fun i j=>.bl (f i j)) x y H Q∨∃ i j,x=.str i∧y=.str j∧Q (.bl (g i j)) H):=fun x y v u G H Q tx ty r q=>by
 cases tx with
 | int i=>cases ty <;> first | exact q.elim | exact .inl ⟨_,_,rfl,rfl,q _ H .refl (.bl _) r⟩
 | str i=>cases ty <;> first | exact q.elim | exact .inr ⟨_,_,rfl,rfl,q _ H .refl (.bl _) r⟩
 | _=>exact q.elim
theorem Zq6 {X:Cx}:OpR X (compareOp .LtE) (fun x y H Q=>∃ i j,x=.str i∧y=.str j∧Q (.bl (!ZaY j i)) H):=by
 walk_at "pb"
 obtain ⟨i,j,rfl,rfl,q⟩:=h
 obtain ⟨t,rfl⟩:=rx
 obtain ⟨t',rfl⟩:=ry
 exact PySem.P.le_str ⟨.bl _,H,I,rfl,q⟩
theorem Zgv {X:Cx}:Cop X .Lt (Zfy (fun i j=>decide (i < j)) ZaY):=⟨⟨_,OpR.or ZzL ZrC,ZrT⟩,ZuI⟩
theorem Zge {X:Cx}:Cop X .LtE (Zfy (fun i j=>decide (i≤j)) (fun a b=>!ZaY b a)):=⟨⟨_,OpR.or ZzZ Zq6,ZrT⟩,ZuI⟩
theorem Zgu {X:Cx}:Cop X .Gt (Zhe fun i j=>decide (j < i)):=⟨⟨_,ZzT,Zsj⟩,ZuV⟩
theorem Zf7 {X:Cx}:Cop X .GtE (Zhe fun i j=>decide (j≤i)):=⟨⟨_,ZAD,Zsj⟩,ZuV⟩
theorem Zgf {X:Cx} (hu:X.A.units+100 < cLine):Cop X .Eq (Zak (eqF false)):=⟨⟨_,Zyc hu,Zuv false⟩,ZhE⟩
theorem Zgl {X:Cx} (hu:X.A.units+100 < cLine):Cop X .NotEq (Zak (eqF true)):=⟨⟨_,Zx5 hu,Zuv true⟩,ZhE⟩
theorem ZfY {X:Cx}:Cop X .In (Zak (inF false)):=⟨⟨_,ZrM,Zyu false⟩,ZhE⟩
section
variable {X:Cx} {op op':CmpOp} {r r':RW2} {a b c e:Expr} {es:List Expr} {pos:Pos} {ga gb gc:GE}
theorem ZgC (C:Cop X op r) (hm:behindInMarks op b=false) (ha:Em X a ga) (hb:Em X b gb):Em X (.Compare a [op] [b] pos) (Zai r ga gb) :=
 let ⟨_,h1,h2⟩:=C.ex
 ⟨Zze h1 C.m ha.m hb.m h2 ha.p hb.p hm,Ze3 C.m ha.m hb.m⟩
theorem Zgj (C:Cop X op r) (hm:behindInMarks op b=false) (ha:Em X a ga) (hb:Em X b gb):Tm X (.Compare a [op] [b] pos) (gTB (Zai r ga gb)) :=
 let ⟨_,h1,h2⟩:=C.ex
 ⟨Zy1 h1 C.m ha.m hb.m h2 ha.p hb.p hm,Zxf (Ze3 C.m ha.m hb.m)⟩
def ZbS (r r':RW2) (ga gb gc:GE):GE:=fun ω G Q=>ga ω G fun x G1=>gb ω G1 fun y G2=>r x y G2 fun z G3=>match z with
 | .bl k=>if k=true then gc ω G3 fun w G4=>r' y w G4 Q else Q (.bl false) G3
 | _=>False
theorem ZlP (mr:r.M) (mr':r'.M) (ma:ga.M) (mb:gb.M) (mc:gc.M):GE.M (ZbS r r' ga gb gc):=fun ω G Q Q' h q =>
 ma _ _ _ _ (fun x G1 z=>mb _ _ _ _ (fun y G2 z=>mr _ _ _ _ _ (fun z1 G3 z=>by
  cases z1 with
  | bl k =>
   cases k with
   | true=>exact mc _ _ _ _ (fun w G4 z=>mr' _ _ _ _ _ h z) z
   | false=>exact h _ _ z
  | _=>exact z) z) z) q
theorem Zpm {r2 r2':R2} (u:UpW K r r2) (u':UpW K r' r2') (mr:r.M) (mr':r'.M) (ma:ga.M) (mb:gb.M) (mc:gc.M) (σ:St) (H:Hp) (Q:VK) (h:up K (ZbS r r' ga gb gc) σ H Q):Zqx r2 r2' (up K ga) (up K gb) (up K gc) σ H Q:=by
 obtain ⟨ω,G,ts,rh,q⟩:=h
 refine ⟨ω,G,ts,rh,ma _ _ _ _ (fun x G1 z1 v H1 m1 tx r1=>⟨ω,G1,ts.mono m1,r1,mb _ _ _ _ (fun y G2 z2 v2 H2 m2 ty r2=>?_) z1⟩) q⟩
 refine u x y v v2 G2 H2 _ (tx.mono m2) ty r2 (mr _ _ _ _ _ (fun k G3 z3 v3 H3 m3 tk r3=>?_) z2)
 cases k with
 | bl k =>
  refine ⟨k,ZnR tk,?_⟩
  cases k with
  | true =>
   rw [if_pos rfl]
   refine ⟨ω,G3,((ts.mono m1).mono m2).mono m3,r3,mc _ _ _ _ (fun w G4 z4 v4 H4 m4 tw r4=>?_) z3⟩
   exact u' y w v2 v4 G4 H4 Q ((ty.mono m3).mono m4) tw r4 (mr' _ _ _ _ _ (fun w5 G5 z5=>ZcU (((m1.trans m2).trans m3).trans m4) z5) z4)
  | false =>
   rw [if_neg Bool.false_ne_true]
   exact z3 _ H3 ((m1.trans m2).trans m3) (.bl false) r3
 | _=>exact z3.elim
theorem Zdd (C:Cop X op r) (C':Cop X op' r') (hm:lastMarks [op,op'] [b,c]=false) (ha:Em X a ga) (hb:Em X b gb) (hc:Em X c gc):Em X (.Compare a [op,op'] [b,c] pos) (ZbS r r' ga gb gc) :=
 let ⟨_,h1,h2⟩:=C.ex
 let ⟨_,h3,h4⟩:=C'.ex
 ⟨Zbz (Zty h1 h3 ha.p hb.p hc.p hm) (Zpm h2 h4 C.m C'.m ha.m hb.m hc.m),ZlP C.m C'.m ha.m hb.m hc.m⟩
theorem Zc0 (C:Cop X op r) (C':Cop X op' r') (hm:lastMarks [op,op'] [b,c]=false) (ha:Em X a ga) (hb:Em X b gb) (hc:Em X c gc):Tm X (.Compare a [op,op'] [b,c] pos) (gTB (ZbS r r' ga gb gc)) :=
 let ⟨_,h1,h2⟩:=C.ex
 let ⟨_,h3,h4⟩:=C'.ex
 ⟨ZoT (Ztg h1 h3 ha.p hb.p hc.p hm) fun σ H Q z=>Zpm h2 h4 C.m C'.m ha.m hb.m hc.m σ H _ (Zxu (ZlP C.m C'.m ha.m hb.m hc.m) z),Zxf (ZlP C.m C'.m ha.m hb.m hc.m)⟩
end
abbrev UpC (K:PySem.W.Frag) (r:RWc) (r1:List V→Hp→VK→Prop):Prop:=∀ ws vs G H Q,TrL K H vs ws→RelH K H G→r ws G (dn K H Q)→r1 vs H Q
structure Blt (X:Cx) (f:Value) (r:RWc):Prop where
 ex:∃ r1,CallR X f r1∧UpC X.K r r1
 m:r.M
section
variable {X:Cx} {x:Str} {p pos:Pos} {e:Expr} {es:List Expr} {gs:GA} {r:RWc} {id T:String}
theorem ZbN (hv:bootBuiltins x=some (.builtin id)) (B:Blt X (.builtin id) r) (hg:Gl X x) (hm:X.mg x=none) (hn:x≠"__name__") (hdb:(x==("__debug__":Str))=false)
  (he:starEach (e::es) X.env=(false,eval e X.env)::starEach es X.env) (hpl:(backTo pos (starEach es X.env)).any (·.1)=false) (ha:Am X (e::es) gs):Em X (.Call (.Name x p) (e::es) [] pos) (gB r gs) :=
 let ⟨_,h1,h2⟩:=B.ex
 ZyU h1 B.m h2 hg hm hv hn hdb he hpl ha
theorem Zcc (hv:bootBuiltins x=some (.type T)) (B:Blt X (.type T) r) (hg:Gl X x) (hm:X.mg x=none) (hn:x≠"__name__") (hdb:(x==("__debug__":Str))=false)
  (he:starEach (e::es) X.env=(false,eval e X.env)::starEach es X.env) (hpl:(backTo pos (starEach es X.env)).any (·.1)=false) (ha:Am X (e::es) gs):Em X (.Call (.Name x p) (e::es) [] pos) (gB r gs) :=
 let ⟨_,h1,h2⟩:=B.ex
 Zx2 h1 B.m h2 hg hm hv hn hdb he hpl ha
end
theorem ZdG {X:Cx}:Blt X (.builtin "len") (rF Zhd):=⟨⟨_,Ztt,Zwo⟩,Zzr⟩
theorem Zcb {X:Cx} (hc:X.calm=true):Blt X (.builtin "all") (rF ZhH):=⟨⟨_,Zq1 hc,ZvR⟩,Zzr⟩
def ZpZ:RWc:=fun ws G Q=>match ws with
 | [w]=>(match Zn8 G w with | some xs=>∀ p,G p=none→Q (.ref p) (put G p (.lst xs)) | none=>False)
 | _=>False
theorem ZwN:RWc.M ZpZ:=fun ws G Q Q' h q=>by
 unfold ZpZ at q ⊢
 split at q
 ·split at q
  ·exact fun p hp=>h _ _ (q p hp)
  ·exact q.elim
 ·exact q.elim
theorem Zth:UpC K ZpZ (fun xs H Q=>∃ p ys,xs=[.ref p]∧(SqL K H p ys∨SqT K H p ys)∧∀ l,H l=none→Q (.ref l) (upd H l (.lst ys))):=fun ws vs G H Q t r q=>by
 unfold ZpZ at q
 split at q
 ·rename_i w0
  split at q
  ·rename_i xs e
   cases t with
   | cons tw t =>
    cases t
    obtain ⟨a,us,rfl,hq,l⟩:=ZlK r tw e
    exact ⟨a,us,rfl,hq,fun p hp=>q p (r.no hp) _ _ (Mono.new hp _) (.ref p) (r.new hp l)⟩
  ·exact q.elim
 ·exact q.elim
theorem Zda {X:Cx}:Blt X (.type "list") ZpZ:=⟨⟨_,ZmP,Zth⟩,ZwN⟩
def ZhY (ws:List W) (G:Hw):Option W:=match ws with | [w]=>(Zn8 G w).map W.tup | _=>none
theorem Zw0:UpC K (rF ZhY) (fun xs H Q=>∃ p ys,xs=[.ref p]∧((SqL K H p ys∧∀ l,H l=none→Q (.ref l) (upd H l (.tup ys)))∨(SqT K H p ys∧Q (.ref p) H))):=fun ws vs G H Q t r q=>by
 obtain ⟨w,e,q'⟩:=Zfs q
 unfold ZhY at e
 split at e
 ·obtain ⟨xs,e1,e2⟩:=Option.map_eq_some_iff.mp e
  subst e2
  cases t with
  | cons tw t =>
   cases t
   obtain ⟨a,us,rfl,hq,l⟩:=ZlK r tw e1
   rcases hq with hq | hq
   ·exact ⟨a,us,rfl,.inl ⟨hq,fun p hp=>q' _ _ (Mono.new hp _) (.tup (SqT.of ZbP) (l.mono (Mono.new hp _))) (r.mono0 hp)⟩⟩
   ·exact ⟨a,us,rfl,.inr ⟨hq,q' _ H .refl (.tup hq l) r⟩⟩
 ·cases e
theorem Zby {X:Cx}:Blt X (.type "tuple") (rF ZhY):=⟨⟨_,ZlH,Zw0⟩,Zzr⟩
def Zq3 (ws:List W) (_:Hw):Option W:=match ws with | [.int i]=>some (.int i) | [.bl k]=>some (.int (if k then 1 else 0)) | _=>none
theorem Zwr:UpC K (rF Zq3) (fun xs H Q=>(∃ i,xs=[.int i]∧Q (.int i) H)∨∃ k,xs=[.bl k]∧Q (.int (if k then 1 else 0)) H):=fun ws vs G H Q t r q=>by
 obtain ⟨w,e,q'⟩:=Zfs q
 unfold Zq3 at e
 split at e
 ·cases e
  cases t with
  | cons tw t=>cases t;cases tw;exact .inl ⟨_,rfl,q' _ H .refl (.int _) r⟩
 ·cases e
  cases t with
  | cons tw t=>cases t;cases tw;exact .inr ⟨_,rfl,q' _ H .refl (.int _) r⟩
 ·cases e
theorem Zd7 {X:Cx}:Blt X (.type "int") (rF Zq3):=⟨⟨_,Zr4,Zwr⟩,Zzr⟩
structure Mth (X:Cx) (T:String) (name:Str) (id:String) (pre:W→Hw→Prop) (r:W→List W→Hw→Kw→Prop):Prop where
 pa:PlainAttrs T
 slot:Slot T name id
 ty:typeOf (.builtin id)=pure (.type "method_descriptor")
 ex:∃ r2,MtR X id r2∧∀ (o:W) (ws:List W) (v:V) (vs:List V) (G:Hw) (H:Hp) (Q:VK),Tr X.K H v o→TrL X.K H vs ws→RelH X.K H G→r o ws G (dn X.K H Q)→r2 v vs H Q
 pr:∀ (o:W) (v:V) (G:Hw) (H:Hp),Tr X.K H v o→RelH X.K H G→pre o G→tyV X.K T v H
 m:∀ o ws G (Q Q':Kw),(∀ w G',Q w G'→Q' w G')→r o ws G Q→r o ws G Q'
def gMt (pre:W→Hw→Prop) (r:W→List W→Hw→Kw→Prop) (go:GE) (gs:GA):GE:=fun ω G Q=>go ω G fun o G1=>pre o G1∧gs ω G1 fun ws G2=>r o ws G2 Q
section
variable {X:Cx} {o e:Expr} {es:List Expr} {go:GE} {gs:GA} {name:Str} {apos cpos:Pos} {T id:String} {pre:W→Hw→Prop} {r:W→List W→Hw→Kw→Prop}
theorem Zbb (M:Mth X T name id pre r) (hbase:attributeBase o name X.env (eval o X.env)=eval o X.env)
  (hfew:((backTo cpos (starEach (e::es) X.env)).all (fun x=>!x.1)&&(backToKw cpos (keywordEach [] X.env)).all (fun x=>x.1.isSome)&&decide ((e::es).length+([]:List Keyword).length+(if ([]:List Keyword).isEmpty then 0 else 1) < 30))=true)
  (hline:(apos.endLine==cpos.line)=true) (hs:starEach (e::es) X.env=(false,eval e X.env)::starEach es X.env) (hplain:(backTo cpos (starEach es X.env)).any (·.1)=false) (ho:Em X o go) (ha:Am X (e::es) gs) :
  Em X (.Call (.Attribute o name apos) (e::es) [] cpos) (gMt pre r go gs) :=
 let ⟨_,h1,h2⟩:=M.ex
 ⟨Zbz (ZAx M.pa M.slot M.ty h1 ho.p ha.p hbase hfew hline hs hplain) fun σ H Q ⟨ω,G,ts,rh,q⟩=>⟨ω,G,ts,rh,ho.m _ _ _ _ (fun ow G1 z v H1 m1 tv r1=>⟨M.pr ow v G1 H1 tv r1 z.1,
   ω,G1,ts.mono m1,r1,ha.m _ _ _ _ (fun ws G2 z2 vs H2 m2 tvs r2=>h2 ow ws v vs G2 H2 Q (tv.mono m2) tvs r2 (M.m _ _ _ _ _ (fun w G' y=>ZcU (m1.trans m2) y) z2)) z.2⟩) q⟩,
  fun ω G Q Q' h q=>ho.m _ _ _ _ (fun ow G1 z=>⟨z.1,ha.m _ _ _ _ (fun ws G2 z2=>M.m _ _ _ _ _ h z2) z.2⟩) q⟩
end
def ZhP (o:W) (G:Hw):Prop:=∃ xs,Zmg G o=some xs
theorem Zot {o:W} {v:V} {G:Hw} (t:Tr K H v o) (r:RelH K H G) (h:ZhP o G):tyV K "list" v H:=by
 obtain ⟨xs,e⟩:=h
 obtain ⟨a,vs,rfl,_,_,e1,_⟩:=Zhp r t e
 exact .inl ⟨rfl,_,SqL.of e1⟩
def Zur (o:W) (G:Hw) (f:List W→Option (List W)) (Q:Kw):Prop:=match o with
 | .ref a=>(match G a with | some (.lst xs)=>(match f xs with | some ys=>Q .non (put G a (.lst ys)) | none=>False) | _=>False)
 | _=>False
theorem Zoc {o:W} {G:Hw} {f:List W→Option (List W)} {Q:Kw} (q:Zur o G f Q):∃ a xs ys,o=.ref a∧G a=some (.lst xs)∧f xs=some ys∧Q .non (put G a (.lst ys)):=by
 unfold Zur at q
 split at q
 ·split at q
  ·rename_i xs e
   split at q
   ·rename_i ys e2;exact ⟨_,xs,ys,rfl,e,e2,q⟩
   ·exact q.elim
  ·exact q.elim
 ·exact q.elim
theorem Zn3 {G:Hw} {f:List W→Option (List W)} {Q:Kw} {a:Addr} {xs ys:List W} (e:G a=some (.lst xs)) (e2:f xs=some ys) (q:Q .non (put G a (.lst ys))):Zur (.ref a) G f Q:=by
 unfold Zur
 dsimp only
 rw [e]
 dsimp only
 rw [e2]
 exact q
theorem ZuL {o:W} {G:Hw} {f:List W→Option (List W)} {Q Q':Kw} (h:∀ w G',Q w G'→Q' w G') (q:Zur o G f Q):Zur o G f Q':=by
 obtain ⟨a,xs,ys,rfl,e,e2,q⟩:=Zoc q
 exact Zn3 e e2 (h _ _ q)
def Zsz (o:W) (ws:List W) (G:Hw) (Q:Kw):Prop:=match ws with
 | [y]=>Zur o G (fun xs=>if xs.length < sizeLine then some (xs++[y]) else none) Q
 | _=>False
theorem ZbM {X:Cx}:Mth X "list" "append" "list.append" ZhP Zsz where
 pa:=PySem.F.plainAttrs_list
 slot:=PySem.F.slot_list_append
 ty:=PySem.F.type_list_append
 ex:=⟨_,Zsi,fun o ws v vs G H Q tv tvs r q=>by
  unfold Zsz at q
  split at q
  ·obtain ⟨a,xs,ys,rfl,e,e2,q⟩:=Zoc q
   split at e2
   ·rename_i hlen
    cases e2
    cases tv
    cases tvs with
    | cons ty t =>
     cases t
     obtain ⟨us,e1,l⟩:=r a _ e
     exact ⟨a,us,_,rfl,rfl,e1,by rw [l.length];exact hlen,q _ _ (Mono.lst e1 _) .non (r.chg e1 (l.append (.cons ty .nil)))⟩
   ·cases e2
  ·exact q.elim⟩
 pr:=fun o v G H t r h=>Zot t r h
 m:=fun o ws G Q Q' h q=>by
  unfold Zsz at q ⊢
  split at q
  ·exact ZuL h q
  ·exact q.elim
def ZsF (o:W) (ws:List W) (G:Hw) (Q:Kw):Prop:=match ws with
 | [y]=>Zur o G (fun xs=>(Zmg G y).bind fun zs=>if xs.length+zs.length≤sizeLine then some (xs++zs) else none) Q
 | _=>False
theorem Zbr {X:Cx}:Mth X "list" "extend" "list.extend" ZhP ZsF where
 pa:=PySem.F.plainAttrs_list
 slot:=PySem.F.slot_list_extend
 ty:=PySem.F.type_list_extend
 ex:=⟨_,Zsn,fun o ws v vs G H Q tv tvs r q=>by
  unfold ZsF at q
  split at q
  ·obtain ⟨a,xs,ys,rfl,e,e2,q⟩:=Zoc q
   obtain ⟨zs,e3,e4⟩:=Option.bind_eq_some_iff.mp e2
   split at e4
   ·rename_i hlen
    cases e4
    cases tv
    cases tvs with
    | cons ty t =>
     cases t
     obtain ⟨us,e1,l⟩:=r a _ e
     obtain ⟨b,ws',rfl,_,_,e5,l5⟩:=Zhp r ty e3
     exact ⟨a,b,us,ws',rfl,rfl,e1,e5,by rw [l.length,l5.length];exact hlen,q _ _ (Mono.lst e1 _) .non (r.chg e1 (l.append l5))⟩
   ·cases e4
  ·exact q.elim⟩
 pr:=fun o v G H t r h=>Zot t r h
 m:=fun o ws G Q Q' h q=>by
  unfold ZsF at q ⊢
  split at q
  ·exact ZuL h q
  ·exact q.elim
def ZqE (C:Addr) (E:Addr→Hw→Prop) (gs:GA):GS:=fun _ ω G=>gs ω G fun ws G1=>ws.length≤sizeLine∧E C G1
section
variable {P:Program} {w:World} {mg:Str→Option Value} {base:Heap} {N:List Str} {qual:Str} {scope:Scope} {f:Addr} {cd:Value} {A:Around} {outer:List Env} {s:Shared} {E:XK} {Pb:Hp→Prop}
theorem ZtS {x:Str} {C:Addr} {B newId initId:String} {bm:List Value} {np cpos pos:Pos} {e₀:Expr} {Zbm:List Expr} {gs:GA} (hm:mg x=some (.ref C)) (q:PySem.W.excIn K C bm newId=true) (FB:ExcBaseFacts B newId initId bm)
  (hg:Gl (cxW P w K mg base N qual scope f cd A outer s H E) x)
  (he:starEach (e₀::Zbm) (cxW P w K mg base N qual scope f cd A outer s H E).env=(false,eval e₀ (cxW P w K mg base N qual scope f cd A outer s H E).env)::starEach Zbm (cxW P w K mg base N qual scope f cd A outer s H E).env)
  (hplain:(backTo cpos (starEach Zbm (cxW P w K mg base N qual scope f cd A outer s H E).env)).any (·.1)=false) (hd:(x==("__debug__":Str))=false) (ha:Am (cxW P w K mg base N qual scope f cd A outer s H E) (e₀::Zbm) gs) :
  Sm (cxW P w K mg base N qual scope f cd A outer s H E) Pb (.Raise (some (.Call (.Name x np) (e₀::Zbm) [] cpos)) none pos) (ZqE C (dnX K H E) gs):=by
 refine ⟨fun B0 hB0 pins sc σ Hc D I h=>?_,fun ω G D D' _ _ _ _ q=>q⟩
 obtain ⟨ω,G,ts,r,mb,q'⟩:=h
 exact ZtZ hg hm q FB ha.p he hplain hd pins sc σ Hc D I ⟨ω,G,ts,r,ha.m _ _ _ _ (fun ws G1 z vs H1 m1 t r1=>⟨by rw [t.length];exact z.1,z.2 H1 ((Un.mono' I.base).trans m1) r1⟩) q'⟩
end
structure ZzP (D D':Ew):Prop where
 nx:∀ a b,D.nx a b→D'.nx a b
 rt:∀ a b,D.rt a b→D'.rt a b
 bk:∀ a b,D.bk a b→D'.bk a b
 ct:∀ a b,D.ct a b→D'.ct a b
theorem GS.M.le {g:GS} (m:g.M) {D D':Ew} (h:ZzP D D') {ω:Sw} {G:Hw} (q:g D ω G):g D' ω G:=m ω G D D' h.nx h.rt h.bk h.ct q
section
variable {X:Cx} {e:Expr} {es:List Expr} {pos p:Pos} {gs:GA}
end
def tyN (w:W) (G:Hw):Option String:=match w with
 | .non=>some "NoneType"
 | .bl _=>some "bool"
 | .int _=>some "int"
 | .str _=>some "str"
 | .tup _=>some "tuple"
 | .rol _=>some "list"
 | .ref a=>(match G a with | some (.lst _)=>some "list" | _=>none)
def Zsq (n T:String):Bool:=n==T||(n=="bool"&&T=="int")
theorem ZgE {n T:String} (hn:n∈["NoneType","bool","int","str","tuple","list"]) (hT:T∈["tuple","list","str","int","bool","dict"]):PySem.W.kitOne K (.type n) (.type T)=some (Zsq n T):=by
 simp only [List.mem_cons,List.not_mem_nil,or_false] at hn hT
 rcases hn with rfl | rfl | rfl | rfl | rfl | rfl <;> rcases hT with rfl | rfl | rfl | rfl | rfl | rfl <;> kernel_rfl
def Zdr (T:String) (ge:GE):GE:=fun ω G Q=>ge ω G fun w G1=>match tyN w G1 with | some n=>Q (.bl (Zsq n T)) G1 | none=>False
theorem ZvU {T:String} {ge:GE} (m:ge.M):GE.M (Zdr T ge):=fun ω G Q Q' h q=>m _ _ _ _ (fun w G1 z=>by
 cases e:tyN w G1 with
 | none=>rw [e] at z;exact z
 | some n=>rw [e] at z;exact h _ _ z) q
theorem ZyK {X:Cx} {pins:List (Addr×Obj)} {σ:St} {s:Shared} {v:V} {u:Value} {w:W} {G:Hw} {n T:String} {Q:Value→Shared→Prop} {E:Value→Shared→Prop} (I:Inv X pins σ H s) (rv:RelV v u) (t:Tr X.K H v w) (r:RelH X.K H G) (e:tyN w G=some n)
  (hT:T∈["tuple","list","str","int","bool","dict"]) (h:∀ tk,Q (.bool (Zsq n T)) { s with toks:=tk }):wpAny (model X.prog X.w) X.A (call (.builtin "isinstance") [u,.type T]) Q E s:=by
 cases t with
 | non=>cases e;cases (show u=Value.none from rv);exact PySem.W.kia_one PySem.W.kitx_none I.kIn True.intro (ZgE (by simp) hT) (fun z=>nomatch z) h
 | bl y=>cases e;cases (show u=Value.bool y from rv);exact PySem.W.kia_one PySem.W.kitx_bool I.kIn True.intro (ZgE (by simp) hT) (fun z=>nomatch z) h
 | int i=>cases e;obtain ⟨t,rfl⟩:=rv;exact PySem.W.kia_one PySem.W.kitx_int I.kIn True.intro (ZgE (by simp) hT) (fun z=>nomatch z) h
 | str y=>cases e;obtain ⟨t,rfl⟩:=rv;exact PySem.W.kia_one PySem.W.kitx_str I.kIn True.intro (ZgE (by simp) hT) (fun z=>nomatch z) h
 | tup hq l =>
  cases e
  cases rv
  obtain ⟨its,_,p,_⟩:=I.tuple hq
  obtain ⟨o,h1,h2,_⟩:=p
  exact PySem.W.kia_one PySem.W.kitx_tuple I.kIn ⟨o,h1,h2⟩ (ZgE (by simp) hT) (fun z=>nomatch z) h
 | rol hq l =>
  cases e
  cases rv
  obtain ⟨its,_,p,_⟩:=I.list hq.sq
  obtain ⟨o,h1,h2,_⟩:=p.isList
  exact PySem.W.kia_one PySem.W.kitx_list I.kIn ⟨o,h1,h2⟩ (ZgE (by simp) hT) (fun z=>nomatch z) h
 | ref a =>
  unfold tyN at e
  dsimp only at e
  cases ea:G a with
  | none=>rw [ea] at e;cases e
  | some o =>
   rw [ea] at e
   cases o with
   | exc C=>cases e
   | ins C fs=>cases e
   | dct kvs=>cases e
   | lst xs =>
    cases e
    cases rv
    obtain ⟨vs,e1,_⟩:=r a _ ea
    obtain ⟨its,_,p,_⟩:=I.list (SqL.of e1)
    obtain ⟨o,h1,h2,_⟩:=p.isList
    exact PySem.W.kia_one PySem.W.kitx_list I.kIn ⟨o,h1,h2⟩ (ZgE (by simp) hT) (fun z=>nomatch z) h
theorem Zs9:bootBuiltins "isinstance"=some (.builtin "isinstance"):=by decide +kernel
section
variable {X:Cx} {e:Expr} {p pc pos:Pos} {ge:GE}
theorem Zaw {c:Str} {T:String} (hT:T∈["tuple","list","str","int","bool","dict"]) (hv:bootBuiltins c=some (.type T)) (hmc:X.mg c=none) (hmi:X.mg "isinstance"=none) (hgi:Gl X "isinstance") (hgc:Gl X c) (hn:c≠"__name__") (hd:(c==("__debug__":Str))=false)
  (he:starEach [e,.Name c pc] X.env=[(false,eval e X.env),(false,eval (.Name c pc) X.env)]) (he2:starEach [.Name c pc] X.env=[(false,eval (.Name c pc) X.env)]) (h:Em X e ge):Em X (.Call (.Name "isinstance" p) [e,.Name c pc] [] pos) (Zdr T ge):=by
 refine ⟨fun pins s σ H Q I zz3=>?_,ZvU h.m⟩
 obtain ⟨ω,G,ts,r,q⟩:=zz3
 have pa:PA X [e,.Name c pc] (ZtN (up X.K ge) (ZtN (tC (.ty T)) ZzQ)):=ZlW h.p (ZlW (ZvZ hgc hmc hv rfl hn hd) Zrp (by rw [he2];rfl)) (by rw [he,he2])
 refine wpAny_Call_Name_kw (Zgi I hgi hmi Zs9 ?_ (by decide) (by decide))
 refine PyProof.Rows.callWith_builtin1 (thn (pa pos pins s σ H (fun vs H1=>∃ v w G1 n,vs=[v,.ty T]∧Tr X.K H1 v w∧RelH X.K H1 G1∧tyN w G1=some n∧Q (.bl (Zsq n T)) H1) I ?_) fun us s1 ⟨vs,H1,I1,r1,v,w,G1,n,e1,tv,rr,ey,qq⟩=>?_) (by rw [he,he2]) (by rw [he2];rfl)
 ·refine ⟨ω,G,ts,r,h.m _ _ _ _ (fun w G1 z v H1 m t r1=>?_) q⟩
  cases ey:tyN w G1 with
  | none=>rw [ey] at z;exact z.elim
  | some n=>rw [ey] at z;exact ⟨v,w,G1,n,rfl,t,r1,ey,z _ H1 m (.bl _) r1⟩
 ·subst e1
  obtain ⟨u,u2,rfl,rv,rt⟩:=Zvx r1
  cases rt
  exact ZyK I1 rv tv rr ey hT fun tk=>⟨.bl _,H1,I1.tok tk,rfl,qq⟩
end
structure ZBk (K:PySem.W.Frag) (C:Addr):Prop where
 ga:PySem.W.findIn K (.ref C) "__getattribute__"=some (some (.builtin "BaseException.__getattribute__"))
 gh:PySem.W.findIn K (.ref C) "__getattr__"=some none
 cl:(PySem.W.clsIn K C).isSome=true
 fc:PySem.W.findIn K (.ref C) "__class__"=some (some (.builtin "object.__class__"))
 sp:PySem.W.specialIn K (.builtin "object.__class__") "__get__"=some (some (.builtin "getset_descriptor.__get__"))
 tk:PySem.W.takesIn K (.builtin "object.__class__")=some true
 mr:PySem.W.mroIn K C (.type "object")=some true
 mb:PySem.W.mroIn K C (.type "BaseException")=some true
end L3
namespace L3
open PySem PySem.W PySem.Spec PySem.Calls PyProof.Rows PySem.Builtin PySem.Builtin.ObjectAttr PySem.Builtin.Getset_descriptor
section
variable {prog:Program} {w:World} {A:Around} {E:Value→Shared→Prop} {s:Shared} {K:Frag} {x C:Addr} {name:Str}
end
end L3
namespace L3
open PySem PySem.Spec PyProof.Rows L2
variable {K:PySem.W.Frag} {H H' H2:Hp}
def ZBL (K:PySem.W.Frag) (cv:Value) (ge:GE):GE:=fun ω G Q=>ge ω G fun w G1=>match w with
 | .ref a=>(match G1 a with | some (.exc C)=>∃ b,ZBk K C∧PySem.W.kitOne K (.ref C) cv=some b∧Q (.bl b) G1 | _=>False)
 | _=>False
section
variable {X:Cx} {e:Expr} {p pc pos:Pos} {ge:GE}
end
def ZoE (gs:GA):GI:=fun ω G R=>gs ω G fun ws G1=>match ws with
 | [.int j]=>-(2 ^ 62)≤j∧j < 2 ^ 62∧R ((List.range j.toNat).map fun i:Nat=>W.int i) yes G1
 | _=>False
theorem Inv.turneds {X:Cx} {pins:List (Addr×Obj)} {σ:St} {s:Shared} {h':Heap} {t':Nat} {fp:List Addr} (I:Inv X pins σ H s) (hf:∀ b∈fp,ZrS X pins H b) (k:∀ b o,b∉fp→s.heap.get? b=some o→h'.get? b=some o):Inv X pins σ H { s with heap:=h',toks:=t' }:=by
 have nit:∀ b u,H b=some u→b∉fp:=fun b u e z=>by rw [(hf b z).1] at e;cases e
 refine I.step (g':=s.gens) (d':=s.drawn) (ch:=fp) (fun b hb=>⟨(hf b hb).2.2.2.1,(hf b hb).2.1,(hf b hb).2.2.2.2.1,(hf b hb).2.2.2.2.2⟩) (fun b o _ _ hc e _=>k b o hc e) (fun b o _ _ hc e _=>⟨o.slots,k b o hc e⟩) (fun _ _ _ _ n=>n)
  (fun b o hc e=>⟨o,k b o hc e⟩) (fun _ _ e=>e) (fun _ _ _ e=>e) (fun b ps e=>⟨#[],by rw [e];simp⟩) (fun m hm=>?_) (fun b u e=>?_) I.bare
 ·obtain ⟨o,es,ep,ho,r⟩:=hm
  exact ⟨o,es,ep,k _ o (fun z=>(hf _ z).2.1 rfl) ho,r⟩
 ·refine (I.hok b u e).stay (fun c v hc q=>k c v ?_ q) (fun _ q=>q) fun _ _ q=>q
  rcases hc with z | z
  ·rw [z];exact nit b u e
  ·exact nit c _ z
def Itz (K:PySem.W.Frag) (l1 l2:Addr):It :=
 ⟨fun i H=>∃ xs ys,SqL K H l1 xs∧SqL K H l2 ys∧i < xs.length∧i < ys.length,
  fun i H v H'=>∃ T x y,H T=none∧v=.ref T∧H'=upd H T (.tup [x,y])∧∀ xs ys,SqL K H l1 xs→SqL K H l2 ys→xs[i]?=some x∧ys[i]?=some y,
  fun i H=>∃ xs ys,SqL K H l1 xs∧SqL K H l2 ys∧i=min xs.length ys.length⟩
theorem ZsR {P:Program} {w:World} {elts:List Expr} {k:Nat} {tpos:Pos} {z TI TO i1 i2 l1 l2:Addr} (D:ZipApart z TI TO i1 i2 l1 l2) :
  Ztq P w K (.Tuple elts k tpos) (Itz K l1 l2) [z,TI,TO,i1,i2] z (fun i h=>IsZip h z TI TO .none∧IsPair h TI (.ref i1) (.ref i2)∧(∃ a b,IsPair h TO a b)∧h.IsListIter i1 l1 i∧h.IsListIter i2 l2 i) where
 mem:=by simp
 obj:=fun i h st b hb=>by
  obtain ⟨hz,hTI,⟨a,c,hTO⟩,⟨o1,e1,_,d1⟩,⟨o2,e2,_,d2⟩⟩:=st
  walk_at "pm"
  rcases hb with rfl | rfl | rfl | rfl | rfl
  ·exact ⟨_,hz,fun v z=>by cases z⟩
  ·exact ⟨_,hTI,fun v z=>by cases z⟩
  ·exact ⟨_,hTO,fun v z=>by cases z⟩
  ·exact ⟨o1,e1,fun v z=>by rw [d1] at z;cases z⟩
  ·exact ⟨o2,e2,fun v z=>by rw [d2] at z;cases z⟩
 keep:=fun i h h' st kk=>by
  obtain ⟨hz,hTI,⟨a,c,hTO⟩,h1,h2⟩:=st
  exact ⟨kk z (by simp) _ hz,kk TI (by simp) _ hTI,⟨a,c,kk TO (by simp) _ hTO⟩,h1.at fun o e=>kk i1 (by simp) o e,h2.at fun o e=>kk i2 (by simp) o e⟩
 item:=by
  walk_at "pc"
  subst hP hw hK
  obtain ⟨xs,ys,hx,hy,hix,hiy⟩:=hg
  obtain ⟨its1,r1,pl1,z1⟩:=I.list hx
  obtain ⟨its2,r2,pl2,z2⟩:=I.list hy
  have n1:=r1.length
  have n2:=r2.length
  obtain ⟨hz,hTI,hTO,h1,h2⟩:=st
  have Wk:=WalksT.zip2 (prog:=X.prog) (w:=X.w) (A:=X.A) (I.ok.hd hc) z TI TO i1 i2 l1 l2 D its1.toArray its2.toArray
  refine Wk.item i s _ _ (by simp only [List.size_toArray];omega) ⟨hz,hTI,hTO,h1,h2,pl1.isList,pl2.isList⟩ fun T vals h' tk hPt hT hTup hMid hk=>⟨.ref T,rfl,?_⟩
  refine Wk.go elts k tpos i T _ _ _ hMid fun h2' st2 hk2=>?_
  obtain ⟨v1,v2,g1,g2,rfl⟩:=hPt
  have g1':its1[i]?=some v1:=by simpa using g1
  have g2':its2[i]?=some v2:=by simpa using g2
  have gx:xs[i]?=some xs[i]:=List.getElem?_eq_getElem hix
  have gy:ys[i]?=some ys[i]:=List.getElem?_eq_getElem hiy
  obtain ⟨u1,q1,rv1⟩:=r1.get gx
  obtain ⟨u2,q2,rv2⟩:=r2.get gy
  rw [g1'] at q1;cases q1
  rw [g2'] at q2;cases q2
  have hw1:∀ b,b∉[z,TI,TO,i1,i2]→b∉[z,TO,i1,i2]:=fun b hb hc=>hb (by
   simp only [List.mem_cons,List.not_mem_nil,or_false] at hc ⊢
   rcases hc with h | h | h | h <;> simp [h])
  have I1:Inv X pins σ H { s with heap:=h2',toks:=tk }:=Inv.turneds I hf fun b o hb e=>hk2 b o (hw1 b hb) (hk b o (hw1 b hb) e)
  have hTn:H T=none:=I.hok.fresh hT
  have hTup2:IsTup h2' T #[v1,v2]:=by
   obtain ⟨o,e,c,m,d⟩:=hTup
   exact ⟨o,hk2 _ _ (Wk.apart _ _ _ hMid) e,c,m,d⟩
  have lt:∀ {b:Addr} {o:Obj},s.heap.get? b=some o→b≠T:=fun e q=>absurd (Nat.lt_of_lt_of_le (Heap.lt_size e) hT) (by rw [q];exact Nat.lt_irrefl _)
  have I2:Inv X pins σ (upd H T (.tup [xs[i],ys[i]])) { s with heap:=h2',toks:=tk }:=by
   refine I1.track hTn ?_ (fun x c e=>?_) (fun p hp=>?_) ?_ ⟨by show 2≤sizeLine;decide,[v1,v2],.cons rv1 (.cons rv2 .nil),hTup2⟩
   ·obtain ⟨m,⟨o,es,ep,ho,_⟩,_⟩:=I.loc
    exact Ne.symm (lt ho)
   ·obtain ⟨v,o,ho,_⟩:=I.cell x c e
    exact lt ho
   ·exact lt (I.pin p hp).1
   ·cases e:X.s₀.heap.get? T with
    | none=>rfl
    | some o=>exact absurd (Nat.lt_of_lt_of_le (Heap.lt_size e) (Nat.le_trans I.sz hT)) (Nat.lt_irrefl _)
  refine ⟨.ref T,_,I2,rfl,⟨T,_,_,hTn,rfl,rfl,fun xs' ys' hx' hy'=>?_⟩,⟨st2.1,st2.2.1,st2.2.2.1,st2.2.2.2.1,st2.2.2.2.2.1⟩,fun b hb=>?_⟩
  ·rw [I.list_inj hx' hx,I.list_inj hy' hy];exact ⟨gx,gy⟩
  ·have hb':=(hf b hb).1
   have:b≠T:=by
    obtain ⟨o,e,_⟩:∃ o,s.heap.get? b=some o∧True:=by
     obtain ⟨a,c,hTO'⟩:=hTO
     obtain ⟨o1,e1,_⟩:=h1
     obtain ⟨o2,e2,_⟩:=h2
     walk_at "pm"
     rcases hb with rfl | rfl | rfl | rfl | rfl
     ·exact ⟨_,hz,trivial⟩
     ·exact ⟨_,hTI,trivial⟩
     ·exact ⟨_,hTO',trivial⟩
     ·exact ⟨_,e1,trivial⟩
     ·exact ⟨_,e2,trivial⟩
    exact lt e
   rw [Za7 this];exact hb'
 done:=by
  walk_at "pc"
  subst hP hw hK
  obtain ⟨xs,ys,hx,hy,hi⟩:=hg
  obtain ⟨its1,r1,pl1,z1⟩:=I.list hx
  obtain ⟨its2,r2,pl2,z2⟩:=I.list hy
  have n1:=r1.length
  have n2:=r2.length
  obtain ⟨hz,hTI,hTO,h1,h2⟩:=st
  have Wk:=WalksT.zip2 (prog:=X.prog) (w:=X.w) (A:=X.A) (I.ok.hd hc) z TI TO i1 i2 l1 l2 D its1.toArray its2.toArray
  have hi':i=min its1.toArray.size its2.toArray.size:=by simp only [List.size_toArray];omega
  subst hi'
  refine Wk.done s _ _ ⟨hz,hTI,hTO,h1,h2,pl1.isList,pl2.isList⟩ fun h' tk hk=>⟨rfl,Inv.turneds I hf fun b o hb e=>hk b o (fun hc=>hb ?_) e⟩
  simp only [List.mem_cons,List.not_mem_nil,or_false] at hc ⊢
  rcases hc with h | h | h | h <;> simp [h]
 self:=fun A i s Q E st h=>wpAny_pyIter_zip st.1 h
def ZBf (K:PySem.W.Frag) (ta:TA):TI:=fun σ H R=>ta σ H fun vs H1=>∃ a b xs ys,vs=[.ref a,.ref b]∧SqL K H1 a xs∧SqL K H1 b ys∧R (Itz K a b) H1
theorem ZxF {X:Cx} {a b:Expr} {ta:TA} {p pos tpos:Pos} {elts:List Expr} {k:Nat} (hg:Gl X "zip") (hm:X.mg "zip"=none) (ha:PA X [a,b] ta) (hs:starEach [a,b] X.env=[(false,eval a X.env),(false,eval b X.env)]) (hs2:starEach [b] X.env=[(false,eval b X.env)]) :
  PI X (.Tuple elts k tpos) (.Call (.Name "zip" p) [a,b] [] pos) (ZBf X.K ta):=by
 intro pins s σ H R I h
 refine Call_ (Zgi I hg hm boot_zip (PyProof.Rows.callWith_type1 (thn (ha pos pins s σ H _ I h) fun us s1 zz2=>?_) (by rw [hs,hs2]) (by rw [hs2];rfl)))
 obtain ⟨vs,H1,I1,r1,q1⟩:=zz2
 obtain ⟨l1,l2,xs,ys,e,hx,hy,q⟩:=q1
 subst e
 obtain ⟨u,u2,rfl,ru,ru2⟩:=Zvx r1
 cases ru
 cases ru2
 obtain ⟨its1,_,pl1,_⟩:=I1.list hx
 obtain ⟨its2,_,pl2,_⟩:=I1.list hy
 have a1:l1 < s1.heap.objs.size:=by obtain ⟨_,e,_⟩:=pl1.isList;exact Heap.lt_size e
 have a2:l2 < s1.heap.objs.size:=by obtain ⟨_,e,_⟩:=pl2.isList;exact Heap.lt_size e
 refine call_zip_2 pl1.isList pl2.isList fun h' hz hTI hTO hi1 hi2 hsz hk=>wpAny_pyIter_zip hz ?_
 refine ⟨_,_,_,_,H1,rfl,I1.kept (t':=s1.toks) hk,ZsR (zipApart_new a1 a2),⟨hz,hTI,⟨_,_,hTO⟩,hi1,hi2⟩,fun b hb=>?_,q⟩
 have hge:s1.heap.objs.size≤b:=by
  walk_at "pm"
  rcases hb with rfl | rfl | rfl | rfl | rfl
  ·exact Nat.le_add_right _ 4
  ·exact Nat.le_add_right _ 2
  ·exact Nat.le_add_right _ 3
  ·exact Nat.le_refl _
  ·exact Nat.le_add_right _ 1
 exact I1.fpOk hge (I1.hok.fresh hge)
def rdL (G:Hw) (w:W):Option (List W):=match w with
 | .rol xs=>some xs
 | .ref a=>(match G a with | some (.lst xs)=>some xs | _=>none)
 | _=>none
theorem Zhc {G:Hw} {w:W} {xs:List W} {v:V} (r:RelH K H G) (t:Tr K H v w) (e:rdL G w=some xs):∃ a vs,v=.ref a∧SqL K H a vs∧TrL K H vs xs:=by
 cases t with
 | rol h l=>cases e;exact ⟨_,_,rfl,h.sq,l⟩
 | ref a =>
  unfold rdL at e;dsimp only at e
  cases z:G a with
  | none=>rw [z] at e;cases e
  | some o =>
   rw [z] at e
   cases o with
   | lst ys=>cases e;obtain ⟨vs,e1,t1⟩:=r a _ z;exact ⟨a,vs,rfl,SqL.of e1,t1⟩
   | exc C=>cases e
   | ins C fs=>cases e
   | dct kvs=>cases e
 | _=>cases e
def Zne:List W→List W→List W
 | x::xs,y::ys=>.tup [x,y]::Zne xs ys
 | _,_=>[]
theorem ZhC:∀ (xs ys:List W),(Zne xs ys).length=min xs.length ys.length
 | [],_=>by simp [Zne]
 | _::_,[]=>by simp [Zne]
 | _::xs,_::ys=>by simp only [Zne,List.length_cons,ZhC xs ys];omega
theorem ZlC:∀ (xs ys:List W) (i:Nat) {x y:W},xs[i]?=some x→ys[i]?=some y→(Zne xs ys)[i]?=some (.tup [x,y])
 | [],_,_,_,_,h,_=>by simp at h
 | _::_,[],_,_,_,_,h=>by simp at h
 | a::xs,b::ys,0,x,y,h,h'=>by simp at h h';subst h;subst h';rfl
 | a::xs,b::ys,i+1,x,y,h,h'=>by
  have:=ZlC xs ys i (x:=x) (y:=y) (by simpa using h) (by simpa using h')
  simpa [Zne] using this
def Zku (gs:GA):GI:=fun ω G R=>gs ω G fun ws G1=>match ws with
 | [x,y]=>(match rdL G1 x,rdL G1 y with
  | some xs,some ys=>R (Zne xs ys) (fun G=>rdL G x=some xs∧rdL G y=some ys) G1
  | _,_=>False)
 | _=>False
theorem ZqF {gs:GA} {R:List W→(Hw→Prop)→Hw→Prop} {ws:List W} {G1:Hw} (z:match ws with
 | [x,y]=>(match rdL G1 x,rdL G1 y with
  | some xs,some ys=>R (Zne xs ys) (fun G=>rdL G x=some xs∧rdL G y=some ys) G1
  | _,_=>False)
 | _=>False):∃ x y xs ys,ws=[x,y]∧rdL G1 x=some xs∧rdL G1 y=some ys∧R (Zne xs ys) (fun G=>rdL G x=some xs∧rdL G y=some ys) G1:=by
 split at z
 ·rename_i x y
  split at z
  ·rename_i xs ys e1 e2;exact ⟨x,y,xs,ys,rfl,e1,e2,z⟩
  ·exact z.elim
 ·exact z.elim
theorem Zyn {gs:GA} (m:gs.M):GI.M (Zku gs):=fun ω G R R' h q=>m _ _ _ _ (fun ws G1 z=>by
 obtain ⟨x,y,xs,ys,rfl,e1,e2,z⟩:=ZqF (gs:=gs) z
 dsimp only
 rw [e1,e2]
 exact h _ _ _ z) q
theorem ZuD {X:Cx} {a b:Expr} {p pos tpos:Pos} {elts:List Expr} {k:Nat} {gs:GA} (hm:X.mg "zip"=none) (hg:Gl X "zip") (hs:starEach [a,b] X.env=[(false,eval a X.env),(false,eval b X.env)]) (hs2:starEach [b] X.env=[(false,eval b X.env)]) (ha:Am X [a,b] gs) :
  Im X (.Tuple elts k tpos) (.Call (.Name "zip" p) [a,b] [] pos) (Zku gs):=by
 refine ⟨⟨_,ZxF hg hm ha.p hs hs2,fun σ H ω G R R0 ts r q kk=>⟨ω,G,ts,r,ha.m _ _ _ _ (fun ws G1 z vs H1 m t r1=>?_) q⟩⟩,Zyn ha.m⟩
 obtain ⟨x,y,xs,ys,rfl,e1,e2,z⟩:=ZqF (gs:=gs) z
 cases t with
 | cons tx t =>
  cases t with
  | cons ty t =>
   cases t
   obtain ⟨a1,us1,rfl,hq1,l1⟩:=Zhc r1 tx e1
   obtain ⟨a2,us2,rfl,hq2,l2⟩:=Zhc r1 ty e2
   refine ⟨a1,a2,us1,us2,rfl,hq1,hq2,kk _ _ _ H1 _ z m r1 ⟨e1,e2⟩ ⟨fun i H3 G3 m3 r3 g3 hi=>?_,fun i H3 G3 v H4 m3 r3 g3 y3 hi=>?_,fun H3 G3 m3 r3 g3=>?_⟩⟩
   ·obtain ⟨b1,vs1,e3,h3,t3⟩:=Zhc r3 (tx.mono m3) g3.1
    obtain ⟨b2,vs2,e4,h4,t4⟩:=Zhc r3 (ty.mono m3) g3.2
    cases e3;cases e4
    rw [ZhC] at hi
    exact ⟨vs1,vs2,h3,h4,by rw [t3.length];omega,by rw [t4.length];omega⟩
   ·obtain ⟨b1,vs1,e3,h3,t3⟩:=Zhc r3 (tx.mono m3) g3.1
    obtain ⟨b2,vs2,e4,h4,t4⟩:=Zhc r3 (ty.mono m3) g3.2
    cases e3;cases e4
    obtain ⟨T,v1,v2,hT,rfl,rfl,hv⟩:=y3
    obtain ⟨g1,g2⟩:=hv _ _ h3 h4
    obtain ⟨w1,q1,tw1⟩:=t3.get' g1
    obtain ⟨w2,q2,tw2⟩:=t4.get' g2
    have mn:Mono X.K H3 (upd H3 T (.tup [v1,v2])):=Mono.new hT _
    exact ⟨mn,r3.mono0 hT,_,ZlC _ _ i q1 q2,.tup (SqT.of ZbP) (.cons (tw1.mono mn) (.cons (tw2.mono mn) .nil))⟩
   ·obtain ⟨b1,vs1,e3,h3,t3⟩:=Zhc r3 (tx.mono m3) g3.1
    obtain ⟨b2,vs2,e4,h4,t4⟩:=Zhc r3 (ty.mono m3) g3.2
    cases e3;cases e4
    exact ⟨vs1,vs2,h3,h4,by rw [ZhC,t3.length,t4.length]⟩
theorem Zfm:bootBuiltins "len"=some (.builtin "len"):=by decide +kernel
theorem Zdl:bootBuiltins "all"=some (.builtin "all"):=by decide +kernel
theorem Zbq:bootBuiltins "list"=some (.type "list"):=by decide +kernel
theorem ZaR:bootBuiltins "tuple"=some (.type "tuple"):=by decide +kernel
theorem Zcx:bootBuiltins "int"=some (.type "int"):=by decide +kernel
theorem Zgc:bootBuiltins "str"=some (.type "str"):=by decide +kernel
theorem Zec:bootBuiltins "bool"=some (.type "bool"):=by decide +kernel
section
variable {X:Cx} {P:Hp→Prop} {a b c e:Expr} {es:List Expr} {pos pos' p:Pos} {ga gb ge:GE} {gt:GT}
theorem Zsp {x:Str} {i:Nat} (hi:X.N[i]?=some x) (hv:ZzB X.env.scope x=true) (hd:(x==("__debug__":Str))=false) (hc:(x==("__classdict__":Str))=false):Em X (.Name x pos) (Zab i):=⟨ZxR hi (Zpo hv) hd hc,ZxV⟩
theorem Zr8 {x:Str} {i:Nat} (hN:X.N.Nodup) (hi:X.N[i]?=some x) (hx:Znr X.env.scope x=true) (hs:swapsWith e (some (.Name x pos')) pos.line X.env=pure false) (ha:Em X e ga):Sm X P (.Assign [.Name x pos'] e pos) (Za9 i ga) :=
 ⟨Zyw hN hi (.inl (Zhx hx)) ha.m ha.p hs (.inr (Zhx hx)),Zum ha.m⟩
theorem Zsr {n:Nat} {x:Str} (hN:X.N.Nodup) (hi:X.N[n]?=some x) (hx:Znr X.env.scope x=true) (ha:Em X e ga):Sm X P (.AugAssign (.Name x pos') .Add e pos) (ZkA n Zeb ga) :=
 ⟨Zyh (OpR.or ZvJ ZnQ) Zrr Ztp hN hi (.inl (Zhx hx)) (.inr (Zhx hx)) ha.m ha.p,ZyJ Zrr ha.m⟩
def Glb (K:PySem.W.Frag) (mg:Str→Option Value) (x:Str) (w:W):Prop:=∃ v u,mg x=some u∧RelV v u∧∀ H,Tr K H v w
theorem Zav {x:Str} {w:W} (h:Glb X.K X.mg x w) (hg:Gl X x) (hd:(x==("__debug__":Str))=false):Em X (.Name x pos) (gC w) :=
 let ⟨_,_,h1,h2,h3⟩:=h
 ⟨Zqf hg h1 h2 h3 hd,Zw9⟩
structure Fm (X:Cx) (ifs:List Expr) (g:GT):Prop where
 p:PFw X ifs g
 m:g.M
theorem Zb0:Fm X [] Zhg:=⟨ZxI,ZxG⟩
theorem Zgh (h:Tm X c gt):Fm X [c] gt:=⟨ZxL h.p,h.m⟩
theorem Zfr {elt tg iter:Expr} {ifs:List Expr} {scope:Scope} {Nc:List Str} {gi:GI} {gg:GG} (hc:X.calm=true) (B:Blk X Nc scope [] (fun _=>List.replicate Nc.length none)) (hs:∀ x,foldedSetIterable iter X.env x=pure x) (hi:Im X tg iter gi)
  (hu:TgU X Nc scope tg gg) (ht:∀ C fp s H,Fm (cxB X Nc scope [] C fp s H) ifs gt) (he:∀ C fp s H,Em (cxB X Nc scope [] C fp s H) elt ge):Em X (.ListComp elt [⟨tg,iter,ifs,0⟩] scope pos) (Zcy gi Nc.length gg gt ge) :=
 have mt:gt.M:=(ht 0 [] X.s₀ X.H₀).m
 have me:ge.M:=(he 0 [] X.s₀ X.H₀).m
 ⟨Zwm hc hi.p B hu mt (fun C fp s H=>(ht C fp s H).p) me (fun C fp s H=>(he C fp s H).p) hs,ZvE hi.m hu.mono mt me⟩
theorem ZhA:Zmq X (fun _ _ _=>False):=(by rintro pins σ H s ev s' I ⟨e,C,H',ee,F,C',ω,G,eC,ts,r,q⟩;exact q.elim)
theorem Zg2 {k:Nat} {A:Around} (hr:Room k A):A.units+100 < cLine:=by have:=hr.un;omega
end
def Zn0:List (Str×Int)→Str→W
 | [],_=>.non
 | (x,i)::D,z=>if z=x then .int i else Zn0 D z
def ZAo (mg:Str→Option Value) (base:Heap) (x:Str) (D:List (Str×Int)):Prop:=∃ d,mg x=some (.ref d)∧KTD.TextTab base d (D.map fun p=>(p.1,KTD.Dat.flat (.int p.2)))
theorem ZkY:∀ {D:List (Str×Int)} {z:Str} {d:KTD.Dat},KTD.datumAt z (D.map fun p=>(p.1,KTD.Dat.flat (.int p.2)))=some d→∃ i,d=.flat (.int i)∧Zn0 D z=.int i
 | [],_,_,h=>by cases h
 | (x,i)::D,z,d,h=>by
  have h':(if decide (z=x)=true then some (KTD.Dat.flat (.int i)) else KTD.datumAt z (D.map fun p=>(p.1,KTD.Dat.flat (.int p.2))))=some d:=h
  unfold Zn0
  by_cases hx:z=x
  ·rw [if_pos (decide_eq_true hx)] at h'
   cases h'
   exact ⟨i,rfl,if_pos hx⟩
  ·rw [if_neg (by simpa using hx)] at h'
   rw [if_neg hx]
   exact ZkY h'
theorem ZkQ:∀ {D:List (Str×Int)} {z:Str},KTD.datumAt z (D.map fun p=>(p.1,KTD.Dat.flat (.int p.2)))=none→Zn0 D z=.non
 | [],_,_=>rfl
 | (x,i)::D,z,h=>by
  have h':(if decide (z=x)=true then some (KTD.Dat.flat (.int i)) else KTD.datumAt z (D.map fun p=>(p.1,KTD.Dat.flat (.int p.2))))=none:=h
  unfold Zn0
  by_cases hx:z=x
  ·rw [if_pos (decide_eq_true hx)] at h';cases h'
  ·rw [if_neg (by simpa using hx)] at h'
   rw [if_neg hx]
   exact ZkQ h'
def Zh1 (D:List (Str×Int)) (gk:GE):GE:=fun ω G Q=>gk ω G fun w G1=>match w with | .str z=>Q (Zn0 D z) G1 | _=>False
theorem Zcd {X:Cx} {x:Str} {D:List (Str×Int)} {e:Expr} {p0 apos cpos:Pos} {gk:GE} (h:ZAo X.mg X.base x D) (hg:Gl X x) (hd:(x==("__debug__":Str))=false) (hbase:attributeBase (.Name x p0) "get" X.env (eval (.Name x p0) X.env)=eval (.Name x p0) X.env)
  (hfew:((backTo cpos (starEach [e] X.env)).all (fun x=>!x.1)&&(backToKw cpos (keywordEach [] X.env)).all (fun x=>x.1.isSome)&&decide ([e].length+([]:List Keyword).length+(if ([]:List Keyword).isEmpty then 0 else 1) < 30))=true)
  (hline:(apos.endLine==cpos.line)=true) (hs:starEach [e] X.env=(false,eval e X.env)::starEach [] X.env) (hplain:(backTo cpos (starEach [] X.env)).any (·.1)=false) (hk:Em X e gk) :
  Em X (.Call (.Attribute (.Name x p0) "get" apos) [e] [] cpos) (Zh1 D gk):=by
 refine ⟨fun pins s σ H Q I ⟨ω,G,ts,r,q⟩=>?_,fun ω G Q Q' hh q=>hk.m _ _ _ _ (fun w G1 z=>by cases w <;> first | exact hh _ _ z | exact z) q⟩
 obtain ⟨d,hm,T⟩:=h
 have here:KTD.Here X.base s.heap d (D.map fun p=>(p.1,KTD.Dat.flat (.int p.2))):=⟨T,I.bk⟩
 refine wpAny_Call_method_late hbase hfew hline rfl (Zjk I hg hm ⟨"dict","dict.get",PySem.F.plainAttrs_dict,PySem.F.slot_dict_get,PySem.F.type_dict_get,here.typeIs,here.noDict,?_⟩ hd)
 have pa:PA X [e] (ZtN (up X.K gk) ZzQ):=ZlW hk.p Zrp hs
 have hA:=pa cpos pins s σ H (fun vs H1=>∃ z,vs=[.str z]∧∀ v,Tr X.K H1 v (Zn0 D z)→Q v H1) I ⟨ω,G,ts,r,hk.m _ _ _ _ (fun w G1 z v H1 m t r1=>by
  cases w with
  | str y=>exact ⟨y,by rw [ZuT t],fun v tv=>z v H1 m tv r1⟩
  | _=>exact z.elim) q⟩
 rw [hs] at hA ⊢
 refine Calls.callWith_builtin (by show (false||(backTo cpos (starEach [] X.env)).any (·.1))=false;rw [hplain] <;> rfl) (Calls.evalArgs_plain ?_)
 refine thn hA fun us s2 zz1=>?_
 obtain ⟨vs,H2,I2,r2,z,e1,q2⟩:=zz1
 subst e1
 obtain ⟨u,rfl,ru⟩:=Zoi r2
 obtain ⟨t,rfl⟩:=ru
 have here2:KTD.Here X.base s2.heap d (D.map fun p=>(p.1,KTD.Dat.flat (.int p.2))):=⟨T,I2.bk⟩
 refine call_meetsIn PySem.F.slot_dict_get here2.typeIs PySem.F.entry_dict_get (PySem.F.args_dict_get_2 _ _) (KTD.meets_get1 (h₀:=X.base) (D:=D.map fun p=>(p.1,KTD.Dat.flat (.int p.2)))) ⟨here2,fun dd v ha hv=>?_,fun hn=>?_⟩
 ·obtain ⟨i,rfl,e2⟩:=ZkY ha
  obtain ⟨t2,rfl⟩:=PyProof.V.Flat.int_inv hv
  exact ⟨.int i,H2,I2.tok _,⟨_,rfl⟩,q2 _ (by rw [e2];exact .int i)⟩
 ·exact ⟨.non,H2,I2.tok _,rfl,q2 _ (by rw [ZkQ hn];exact .non)⟩
def Fn (K:PySem.W.Frag) (mg:Str→Option Value) (st:Stmt) (x:Str) (ps:List Str):Prop:=∃ f fd,mg x=some (.ref f)∧Fun K x x st f fd∧Binds K fd ps []
section
variable {P:Program} {w:World} {mg:Str→Option Value} {base:Heap}
theorem Df.le {x:Str} {j k n:Nat} {sp:Spw} (D:Df P w K mg base x j n sp) (h:j≤k):Df P w K mg base x k n sp :=
 ⟨let ⟨f,fd,ps,h1,h2,h3,h4,F⟩:=D.ex;⟨f,fd,ps,h1,h2,h3,h4,F.mono h⟩,D.mono⟩
theorem mk0 {x:Str} {st:Stmt} {N ps:List Str} {k n:Nat} {sp:Spw} {g:GS} (Fx:Fn K mg st x ps) (hn:ps.length=n) (S:Zau N ps (Zag st)) (spm:sp.M) (len:∀ ws G Q E,sp ws G Q E→ws.length=n)
  (hg:∀ {f:Addr} {cdv:Value} {A:Around} {outer:List Env} {s:Shared} {H:Hp} {E:XK},Room k (A.deeper (envOfC x (Zag st) s.heap.objs.size f cdv))→Ssm (cxW P w K mg base N x (Zag st) f cdv A outer s H E).nox (fun B=>B=H) (Zcr st) g)
  (ok:∀ ws G (Q:Kw) (E:Addr→Hw→Prop),Kw.C Q→sp ws G Q E→g (ZaE Q) (Zbw N ws) G):Df P w K mg base x (k+1) n sp:=by
 obtain ⟨f,fd,h1,F,h3⟩:=Fx
 refine ⟨⟨f,fd,ps,h1,F.kp,h3,hn,?_⟩,spm⟩
 walk_at "ps"
 refine ZtO lk hcd S ((by rintro vs H Q E ⟨ws,G,t,r,q⟩;rw [t.length,hn];exact len ws G _ _ q)) fun A outer s H vs Q E hr hsp=>?_
 obtain ⟨ws,G,t,r,q⟩:=hsp
 have D:=hg (cdv:=cdv) (outer:=outer) (H:=H) (E:=E) hr
 refine ⟨_,(D.p H rfl).nox,Zbw N ws,G,ZhS t,r,.refl,?_⟩
 exact D.m _ _ (ZaE (dn K H Q)) _ (fun a b z σ H2 m ts r2=>z _ H2 m Tr.non r2) (fun a b z=>z) (fun a b z=>z.elim) (fun a b z=>z.elim) (ok ws G _ _ Zz2 q)
theorem mkX {x:Str} {st:Stmt} {N ps:List Str} {k n:Nat} {sp:Spw} {g:(Addr→Hw→Prop)→GS} (Fx:Fn K mg st x ps) (hn:ps.length=n) (S:Zau N ps (Zag st)) (spm:sp.M) (len:∀ ws G Q E,sp ws G Q E→ws.length=n)
  (hg:∀ {f:Addr} {cdv:Value} {A:Around} {outer:List Env} {s:Shared} {H:Hp} {E:XK},Room k (A.deeper (envOfC x (Zag st) s.heap.objs.size f cdv))→Ssm (cxW P w K mg base N x (Zag st) f cdv A outer s H E) (fun B=>B=H) (Zcr st) (g (dnX K H E)))
  (ok:∀ ws G (Q:Kw) (E:Addr→Hw→Prop),Kw.C Q→Xc E→sp ws G Q E→g E (ZaE Q) (Zbw N ws) G):Df P w K mg base x (k+1) n sp:=by
 obtain ⟨f,fd,h1,F,h3⟩:=Fx
 refine ⟨⟨f,fd,ps,h1,F.kp,h3,hn,?_⟩,spm⟩
 walk_at "ps"
 refine ZtO lk hcd S ((by rintro vs H Q E ⟨ws,G,t,r,q⟩;rw [t.length,hn];exact len ws G _ _ q)) fun A outer s H vs Q E hr hsp=>?_
 obtain ⟨ws,G,t,r,q⟩:=hsp
 have D:=hg (cdv:=cdv) (outer:=outer) (H:=H) (E:=E) hr
 refine ⟨_,D.p H rfl,Zbw N ws,G,ZhS t,r,.refl,?_⟩
 exact D.m _ _ (ZaE (dn K H Q)) _ (fun a b z σ H2 m ts r2=>z _ H2 m Tr.non r2) (fun a b z=>z) (fun a b z=>z.elim) (fun a b z=>z.elim) (ok ws G _ _ Zz2 ZAa q)
end
end L3
namespace L3
open PySem PySem.Spec PyProof.Rows L2
def ZhN {α:Type} (n:Nat) (js:List Nat) (l:List (Option α)):List (Option α):=List.replicate n none++js.map fun j=>(l[j]?).getD none
theorem Zly {α:Type} {n:Nat} {js:List Nat} {l:List (Option α)}:(ZhN n js l).length=n+js.length:=by simp [ZhN]
theorem Zo5 {α:Type} {n i:Nat} {js:List Nat} {l:List (Option α)} {v:α} (h:(ZhN n js l)[i]?=some (some v)):∃ m j,i=n+m∧js[m]?=some j∧l[j]?=some (some v):=by
 unfold ZhN at h
 by_cases hi:i < n
 ·rw [List.getElem?_append_left (by simpa using hi),List.getElem?_replicate] at h
  split at h <;> cases h
 ·rw [List.getElem?_append_right (by simpa using Nat.le_of_not_lt hi),List.length_replicate,List.getElem?_map] at h
  cases hj:js[i - n]? with
  | none=>rw [hj] at h;cases h
  | some j =>
   rw [hj] at h
   refine ⟨i - n,j,by omega,hj,?_⟩
   have h':(l[j]?).getD none=some v:=Option.some.inj h
   cases e:l[j]? with
   | none=>rw [e] at h';cases h'
   | some o=>rw [e] at h';exact congrArg some h'
theorem ZtT {α:Type} {n m j:Nat} {js:List Nat} {l:List (Option α)} {v:α} (h1:js[m]?=some j) (h2:l[j]?=some (some v)):(ZhN n js l)[n+m]?=some (some v):=by
 unfold ZhN
 rw [List.getElem?_append_right (by simp),List.length_replicate,List.getElem?_map]
 have:n+m - n=m:=by omega
 rw [this,h1]
 show some ((l[j]?).getD none)=_
 rw [h2];rfl
theorem TrSt.cap {K:PySem.W.Frag} {H:Hp} {σ:St} {ω:Sw} (t:TrSt K H σ ω) (n:Nat) (js:List Nat):TrSt K H (ZhN n js σ) (ZhN n js ω):=by
 refine ⟨by rw [Zly,Zly],fun i w e=>?_⟩
 obtain ⟨m,j,rfl,h1,h2⟩:=Zo5 e
 obtain ⟨v,h3,r⟩:=t.get j w h2
 exact ⟨v,ZtT h1 h3,r⟩
def Zlw (env:Env):List (Str×NameKind)→List (Str×Addr)→List (Str×Addr)
 | [],cs=>cs
 | (n,k)::r,cs=>Zlw env r (if k=.free then (n,(env.cells.lookup n).getD 0)::cs else cs)
theorem ZoB {env:Env}:∀ (l:List (Str×NameKind)) (cs:List (Str×Addr)),(∀ y∈l,y.2=.free→∃ c,env.cells.lookup y.1=some c) →
  (forIn l cs fun (x:Str×NameKind) r=>if (x.2==NameKind.free)=true then do let c ← cellOf env x.1;pure (ForInStep.yield ((x.1,c)::r)) else pure (ForInStep.yield r):Sem (List (Str×Addr)))=pure (Zlw env l cs)
 | [],cs,_=>by simp [Zlw]
 | (n,k)::r,cs,h=>by
  have ih:=fun cs=>ZoB r cs fun y hy=>h y (List.mem_cons_of_mem _ hy)
  rw [List.forIn_cons]
  by_cases hk:k=.free
  ·obtain ⟨c,hc⟩:=h (n,k) List.mem_cons_self hk
   subst hk
   have e:cellOf env n=pure c:=by unfold cellOf;rw [hc]
   simp only [beq_self_eq_true,if_true,e,pure_bind,Zlw,hc,Option.getD_some]
   exact ih _
  ·have:(k==NameKind.free)=false:=by simpa using hk
   simp only [this,Bool.false_eq_true,if_false,pure_bind,Zlw,hk]
   exact ih _
theorem Zmr {env:Env} {y:Str} {c:Addr}:∀ (l:List (Str×NameKind)) (cs:List (Str×Addr)),(Zlw env l cs).lookup y=some c→cs.lookup y=some c∨((y,NameKind.free)∈l∧c=(env.cells.lookup y).getD 0)
 | [],cs,h=>.inl h
 | (n,k)::r,cs,h=>by
  rcases Zmr r _ h with q | ⟨q1,q2⟩
  ·split at q
   ·rename_i hk
    subst hk
    rw [List.lookup_cons] at q
    split at q
    ·rename_i e
     have e':y=n:=beq_iff_eq.mp e
     subst e'
     exact .inr ⟨List.mem_cons_self,(Option.some.inj q).symm⟩
    ·exact .inl q
   ·exact .inl q
  ·exact .inr ⟨List.mem_cons_of_mem _ q1,q2⟩
theorem Zk8 {env:Env} {y:Str}:∀ (l:List (Str×NameKind)) (cs:List (Str×Addr)),(∃ c,cs.lookup y=some c)→∃ c,(Zlw env l cs).lookup y=some c
 | [],cs,h=>h
 | (n,k)::r,cs,h=>Zk8 r _ (by
  split
  ·rw [List.lookup_cons]
   split
   ·exact ⟨_,rfl⟩
   ·exact h
  ·exact h)
theorem ZmB {env:Env} {y:Str}:∀ (l:List (Str×NameKind)) (cs:List (Str×Addr)),(y,NameKind.free)∈l→∃ c,(Zlw env l cs).lookup y=some c
 | [],cs,h=>by cases h
 | (n,k)::r,cs,h=>by
  rcases List.mem_cons.mp h with h | h
  ·cases h
   refine Zk8 r _ ⟨(env.cells.lookup y).getD 0,?_⟩
   rw [if_pos rfl,List.lookup_cons,beq_self_eq_true]
  ·exact ZmB r _ h
theorem ZjJ {scope:Scope} {env:Env} {y:Str} {k:NameKind} (nocell:∀ z∈scope.names,z.2≠.cell) (h:(relabel scope env).names.lookup y=some k) (hk:k=.cell∨k=.free):(y,NameKind.free)∈scope.names:=by
 have m:=ZgS h
 unfold relabel at m
 obtain ⟨⟨n,k0⟩,hm,e⟩:=List.mem_map.mp m
 dsimp only at e
 split at e
 ·rename_i hc
  cases e
  simp only [Bool.and_eq_true,beq_iff_eq] at hc
  rw [hc.1.1] at hm
  exact hm
 ·cases e
  rcases hk with rfl | rfl
  ·exact absurd rfl (nocell _ hm)
  ·exact hm
theorem ZdL {env:Env} (hf:env.scope.kind=.function):∀ {names:List (Str×NameKind)} {x:Str},names.lookup x=some .free→env.kindOf x=some .cell →
  (names.map fun (n,k)=>if (k==NameKind.free&&env.scope.kind==.function&&env.kindOf n==some .cell) then (n,NameKind.cell) else (n,k)).lookup x=some .cell
 | [],_,h,_=>by cases h
 | (n,k)::r,x,h,hk=>by
  rw [List.lookup_cons] at h
  rw [List.map_cons]
  split at h
  ·rename_i e
   have e':x=n:=beq_iff_eq.mp e
   subst e'
   cases h
   have c:(NameKind.free==NameKind.free&&env.scope.kind==ScopeKind.function&&env.kindOf x==some NameKind.cell)=true:=by rw [hf,hk];rfl
   dsimp only
   rw [if_pos c,List.lookup_cons,beq_self_eq_true]
  ·rename_i e
   have ih:=ZdL hf (names:=r) h hk
   rw [List.lookup_cons]
   have e2:(x==(if (k==NameKind.free&&env.scope.kind==ScopeKind.function&&env.kindOf n==some NameKind.cell)=true then (n,NameKind.cell) else (n,k)).1)=false:=by
    split <;> exact e
   dsimp only at e2 ⊢
   split
   ·rename_i e3;rw [e2] at e3;cases e3
   ·exact ih
theorem Zvc {X:Cx} {own fr:List Str} {js:List Nat} {scope scX:Scope} {n:Nat} (kind:scope.kind=.function) (names:∀ x∈scope.names,x.2=.local→scope.names.lookup x.1=some .local) (nocell:∀ y∈scope.names,y.2≠.cell)
  (hf:∀ y∈scope.names,y.2=.free→y.1∈fr) (hk:∀ y∈fr,scope.names.lookup y=some .free) (hsc:X.env.scope=scX) (hkx:scX.kind=.function) (hce:X.env.cells=cellsFrom n scX.names []) (hx:∀ y∈fr,scX.names.lookup y=some .cell)
  (hj:js.map (fun j=>X.N[j]?)=fr.map some):Blk X (own++fr) scope (Zlw X.env scope.names []) (ZhN own.length js):=by
 have cel:∀ y∈fr,∃ c,X.env.cells.lookup y=some c:=fun y hy=>by
  rw [hce]
  exact ZlT (hx y hy)
 have frl:js.length=fr.length:=by have:=congrArg List.length hj;simpa using this
 refine ⟨?_,kind,names,nocell,fun y c h=>?_,fun y h=>?_,fun σ i y v h1 h2 h3=>?_,fun σ=>by rw [Zly,List.length_append,frl]⟩
 ·have:=ZoB (env:=X.env) scope.names [] fun y hy hy2=>cel _ (hf y hy hy2)
  unfold closureFor
  simp only [bind_pure]
  exact this
 ·rcases Zmr _ _ h with q | ⟨q1,q2⟩
  ·cases q
  ·obtain ⟨c',e⟩:=cel y (hf _ q1 rfl)
   rw [e] at q2 ⊢
   exact congrArg some q2.symm
 ·refine ZmB _ _ ?_
  rcases h with h | h
  ·exact ZjJ nocell h (.inl rfl)
  ·exact ZjJ nocell h (.inr rfl)
 ·obtain ⟨m,j,rfl,e1,e2⟩:=Zo5 h2
  rw [List.getElem?_append_right (by omega)] at h1
  have:own.length+m - own.length=m:=by omega
  rw [this] at h1
  have hy:y∈fr:=List.mem_of_getElem? h1
  have q:=congrArg (fun l=>l[m]?) hj
  simp only [List.getElem?_map,e1,h1,Option.map_some] at q
  have l1:X.env.scope.names.lookup y=some .cell:=by rw [hsc];exact hx y hy
  refine ⟨.inl (ZdL (by rw [hsc];exact hkx) (hk y hy) l1),.inr (.inl l1),(by rw [l1];intro z;cases z),j,Option.some.inj q,e2⟩
def Zbj (gi:GI) (n:Nat) (js:List Nat) (gg:GG) (gt:GT) (ge:GE):GE:=fun ω G Q=>gi ω G fun ws gd G1=>ZbR gd gg gt ge (fun ys G2=>∀ p,G2 p=none→Q (.ref p) (put G2 p (.lst ys))) ws (ZhN n js ω) G1 []
theorem ZlX {gi:GI} {n:Nat} {js:List Nat} {gg:GG} {gt:GT} {ge:GE} (mi:gi.M) (mg:gg.M) (mt:gt.M) (me:ge.M):GE.M (Zbj gi n js gg gt ge):=fun ω G Q Q' h q =>
 mi _ _ _ _ (fun ws gd G1 z=>ZiZ mg mt me (fun ys G2 z p hp=>h _ _ (z p hp)) _ _ _ _ z) q
theorem ZoX {X:Cx} {n:Nat} {js:List Nat} {gi:GI} {gg:GG} {gt:GT} {ge:GE} {wi:TI} {g:TG} (hwi:∀ (σ:St) (H:Hp) (ω:Sw) (G:Hw) (R:List W→(Hw→Prop)→Hw→Prop) (R0:It→Hp→Prop),TrSt X.K H σ ω→RelH X.K H G→gi ω G R →
   (∀ ws gd G1 H1 J,R ws gd G1→Mono X.K H H1→RelH X.K H1 G1→gd G1→Zw5 X.K H1 J ws gd→R0 J H1)→wi σ H R0)
  (hgg:∀ (x:V) (w:W) (σ:St) (ω:Sw) (H:Hp) (G:Hw) (Q:St→Hp→Prop),Tr X.K H x w→TrSt X.K H σ ω→RelH X.K H G→gg w ω G (dnS X.K H Q)→g x σ H Q) (mg:gg.M) (mt:gt.M) (me:ge.M) (σ:St) (H:Hp) (Q:VK) (h:up X.K (Zbj gi n js gg gt ge) σ H Q) :
  Zt5 wi (ZhN n js) g (upT X.K gt) (up X.K ge) σ H Q:=by
 obtain ⟨ω,G,ts,r,q⟩:=h
 refine hwi σ H ω G _ _ ts r q fun ws gd G1 H1 J z m1 r1 hgd wk=>?_
 refine ⟨fun i m σ' H' vs=>m=ws.length - i∧i≤ws.length∧Mono X.K H1 H'∧∃ ω' G' ys,TrSt X.K H' σ' ω'∧RelH X.K H' G'∧TrL X.K H' vs ys∧ZbR gd gg gt ge (fun ys G2=>∀ p,G2 p=none→dn X.K H Q (.ref p) (put G2 p (.lst ys))) (ws.drop i) ω' G' ys,
  ⟨ws.length,by simp,Nat.zero_le _,.refl,_,G1,[],(ts.mono m1).cap n js,r1,.nil,by simpa using z⟩,?_⟩
 rintro i m σ' H' vs ⟨rfl,hle,mm,ω',G',ys,ts',r',tv,q'⟩
 have hgd':=Zm1 q'
 by_cases hlt:i < ws.length
 ·have hw:∃ w,ws[i]?=some w:=⟨ws[i],by simp [hlt]⟩
  obtain ⟨w0,ew0⟩:=hw
  have ed:ws.drop i=w0::ws.drop (i+1):=by
   obtain ⟨h',e'⟩:=List.getElem?_eq_some_iff.mp ew0
   rw [← e'];exact List.drop_eq_getElem_cons h'
  rw [ed] at q'
  refine .inr ⟨wk.go i H' G' mm r' hgd' hlt,by rw [tv.length];exact q'.2.1,fun σ2 H2 vs2=>Mono X.K H1 H2∧∃ ω2 G2 ys2,TrSt X.K H2 σ2 ω2∧RelH X.K H2 G2∧TrL X.K H2 vs2 ys2∧ZbR gd gg gt ge (fun ys G2=>∀ p,G2 p=none→dn X.K H Q (.ref p) (put G2 p (.lst ys))) (ws.drop (i+1)) ω2 G2 ys2,
   (by rintro σ2 H2 vs2 ⟨y1,y2⟩;exact ⟨ws.length - (i+1),by omega,rfl,hlt,y1,y2⟩),fun x H2 y=>?_⟩
  obtain ⟨my,ry,w,ew,tw⟩:=wk.yld i H' G' x H2 mm r' hgd' y hlt
  have mm:=mm.trans my
  have tv:=tv.mono my
  rw [ew0] at ew;cases ew
  refine hgg x _ σ' ω' _ G' _ tw (ts'.mono my) ry (mg _ _ _ _ _ (fun ω1 G1' z1 σ1 H3 m3 ts3 r3=>?_) q'.2.2)
  refine ⟨ω1,G1',ts3,r3,mt _ _ _ _ (fun b G4 z4 H4 m4 r4=>?_) z1⟩
  cases b with
  | true=>exact ⟨ω1,G4,ts3.mono m4,r4,me _ _ _ _ (fun y5 G5 z5 v5 H5 m5 t5 r5=>⟨((mm.trans m3).trans m4).trans m5,ω1,G5,_,(ts3.mono m4).mono m5,r5,(((tv.mono m3).mono m4).mono m5).append (.cons t5 .nil),z5⟩) z4⟩
  | false=>exact ⟨(mm.trans m3).trans m4,ω1,G4,_,ts3.mono m4,r4,(tv.mono m3).mono m4,z4⟩
 ·have e:i=ws.length:=by omega
  subst e
  rw [List.drop_length] at q'
  exact .inl ⟨wk.stop H' G' mm r' hgd',fun p hp=>q'.2 p (r'.no hp) _ _ ((m1.trans mm).trans (Mono.new hp _)) (.ref p) (r'.new hp tv)⟩
structure TgC (X:Cx) (Nc:List Str) (scope:Scope) (cl:List (Str×Addr)) (tg:Expr) (gg:GG):Prop where
 ex:∃ g:TG,(∀ C fp s H,PG (cxB X Nc scope cl C fp s H) tg g)∧∀ (x:V) (w:W) (σ:St) (ω:Sw) (H:Hp) (G:Hw) (Q:St→Hp→Prop),Tr X.K H x w→TrSt X.K H σ ω→RelH X.K H G→gg w ω G (dnS X.K H Q)→g x σ H Q
 mono:gg.M
theorem Zhf {X:Cx} {Nc:List Str} {scope:Scope} {cl:List (Str×Addr)} {x:Str} {p:Pos} {i:Nat} (hN:Nc.Nodup) (hi:Nc[i]?=some x) (hx:scope.names.lookup x=some .local):TgC X Nc scope cl (.Name x p) (gNm i) where
 ex:=⟨ZgH i,fun C fp s H=>Zcp (X:=cxB X Nc scope cl C fp s H) hN hi (.inl (lookup_relabel_local hx)) (.inr (lookup_relabel_local hx)),fun x w σ ω H G Q t ts r q=>q _ H .refl (ts.set i t) r⟩
 mono:=fun _ _ _ _ _ h q=>h _ _ q
theorem Zvu {X:Cx} {Nc:List Str} {scope:Scope} {cl:List (Str×Addr)} {x y:Str} {p p' pos:Pos} {k i j:Nat} (hc:X.calm=true) (hN:Nc.Nodup) (hi:Nc[i]?=some x) (hx:scope.names.lookup x=some .local) (hj:Nc[j]?=some y) (hy:scope.names.lookup y=some .local) :
  TgC X Nc scope cl (.Tuple [.Name x p,.Name y p'] k pos) (ZjU i j) where
 ex:=⟨L2.ZaQ X.K 2 (L2.Zaa (ZgH i) (L2.Zaa (ZgH j) L2.Zaj)),fun C fp s H=>Znh (X:=cxB X Nc scope cl C fp s H) hc (Zch (Zcp hN hi (.inl (lookup_relabel_local hx)) (.inr (lookup_relabel_local hx))) (Zch (Zcp hN hj (.inl (lookup_relabel_local hy)) (.inr (lookup_relabel_local hy))) ZjC)),
  fun v w σ ω H G Q t ts r q=>by
   unfold ZjU at q
   split at q
   ·rename_i a b
    cases t with
    | tup h l =>
     cases l with
     | cons ta l =>
      cases l with
      | cons tb l =>
       cases l
       exact ⟨_,_,rfl,h,rfl,_,_,rfl,_,_,rfl,rfl,q _ H .refl ((ts.set i ta).set j tb) r⟩
   ·exact q.elim⟩
 mono:=ZuK
def ZnB (i j k:Nat):GG:=fun w ω G Q=>match w with
 | .tup [a,b,c]=>Q (((ω.set i (some a)).set j (some b)).set k (some c)) G
 | _=>False
theorem Zu5 {i j k:Nat}:GG.M (ZnB i j k):=fun w ω G Q Q' h q=>by
 unfold ZnB at q ⊢
 split
 ·exact h _ _ q
 ·rename_i z
  split at q
  ·exact (z _ _ _ rfl).elim
  ·exact q
theorem ZuY {K:PySem.W.Frag} {i j k:Nat} (v:V) (w:W) (σ:St) (ω:Sw) (H:Hp) (G:Hw) (Q:St→Hp→Prop) (t:Tr K H v w) (ts:TrSt K H σ ω) (r:RelH K H G) (q:ZnB i j k w ω G (dnS K H Q)) :
  L2.ZaQ K 3 (L2.Zaa (ZgH i) (L2.Zaa (ZgH j) (L2.Zaa (ZgH k) L2.Zaj))) v σ H Q:=by
 unfold ZnB at q
 split at q
 ·cases t with
  | tup h l =>
   cases l with
   | cons ta l =>
    cases l with
    | cons tb l =>
     cases l with
     | cons tc l =>
      cases l
      exact ⟨_,_,rfl,h,rfl,_,_,rfl,_,_,rfl,_,_,rfl,rfl,q _ H .refl (((ts.set i ta).set j tb).set k tc) r⟩
 ·exact q.elim
theorem Zqt {X:Cx} {Nc:List Str} {scope:Scope} {cl:List (Str×Addr)} {x y z:Str} {p p' p2 pos:Pos} {n i j k:Nat} (hc:X.calm=true) (hN:Nc.Nodup) (hi:Nc[i]?=some x) (hx:scope.names.lookup x=some .local) (hj:Nc[j]?=some y) (hy:scope.names.lookup y=some .local) (hk:Nc[k]?=some z) (hz:scope.names.lookup z=some .local) :
  TgC X Nc scope cl (.Tuple [.Name x p,.Name y p',.Name z p2] n pos) (ZnB i j k) where
 ex:=⟨L2.ZaQ X.K 3 (L2.Zaa (ZgH i) (L2.Zaa (ZgH j) (L2.Zaa (ZgH k) L2.Zaj))),fun C fp s H=>Znh (X:=cxB X Nc scope cl C fp s H) hc (Zch (Zcp hN hi (.inl (lookup_relabel_local hx)) (.inr (lookup_relabel_local hx))) (Zch (Zcp hN hj (.inl (lookup_relabel_local hy)) (.inr (lookup_relabel_local hy))) (Zch (Zcp hN hk (.inl (lookup_relabel_local hz)) (.inr (lookup_relabel_local hz))) ZjC))),
  ZuY⟩
 mono:=Zu5
section
variable {X:Cx} {P:Hp→Prop} {e:Expr} {pos pos':Pos} {ga ge:GE} {gt:GT}
theorem Zi7 {elt tg iter:Expr} {ifs:List Expr} {scope:Scope} {Nc:List Str} {n:Nat} {js:List Nat} {cl:List (Str×Addr)} {gi:GI} {gg:GG} (hc:X.calm=true) (B:Blk X Nc scope cl (ZhN n js)) (hs:∀ x,foldedSetIterable iter X.env x=pure x) (hi:Im X tg iter gi)
  (hu:TgC X Nc scope cl tg gg) (ht:∀ C fp s H,Fm (cxB X Nc scope cl C fp s H) ifs gt) (he:∀ C fp s H,Em (cxB X Nc scope cl C fp s H) elt ge):Em X (.ListComp elt [⟨tg,iter,ifs,0⟩] scope pos) (Zbj gi n js gg gt ge):=by
 have mt:gt.M:=(ht 0 [] X.s₀ X.H₀).m
 have me:ge.M:=(he 0 [] X.s₀ X.H₀).m
 refine ⟨?_,ZlX hi.m hu.mono mt me⟩
 obtain ⟨wi,hwi,hi⟩:=hi.p
 obtain ⟨g,hpg,hgg⟩:=hu.ex
 exact Zbz (Zq2 hc hwi B hpg (fun C fp s H=>(ht C fp s H).p) (fun C fp s H=>(he C fp s H).p) hs) (ZoX hi hgg hu.mono mt me)
end
theorem Zc1 {X:Cx} {x y z:Str} {p p' p2 pos:Pos} {n i j k:Nat} (hc:X.calm=true) (hN:X.N.Nodup) (hi:X.N[i]?=some x) (hx:Loc X.env.scope x) (hf:X.fn x=true∨X.env.scope.names.lookup x=some .local)
  (hj:X.N[j]?=some y) (hy:Loc X.env.scope y) (hfy:X.fn y=true∨X.env.scope.names.lookup y=some .local) (hk:X.N[k]?=some z) (hz:Loc X.env.scope z) (hfz:X.fn z=true∨X.env.scope.names.lookup z=some .local) :
  TgW X (.Tuple [.Name x p,.Name y p',.Name z p2] n pos) (ZnB i j k) where
 ex:=⟨_,Znh hc (Zch (Zcp hN hi hx hf) (Zch (Zcp hN hj hy hfy) (Zch (Zcp hN hk hz hfz) ZjC))),ZuY⟩
 mono:=Zu5
section
variable {prog:Program} {w:World} {A:Around} {E:Value→Shared→Prop} {s:Shared}
theorem ZtI {t b:Addr} {ws:List Value} {Q:Value→Shared→Prop} (ht:IsTup s.heap t #[]) (hb:IsTup s.heap b ws.toArray) (h1:Q (.ref b) s):wpAny (model prog w) A (binaryOp .Add (.ref t) (.ref b)) Q E s:=by
 obtain ⟨⟨cls,dd,data,sl⟩,ho,hc,n,hd⟩:=id ht
 obtain ⟨⟨cls2,dd2,data2,sl2⟩,ho2,hc2,n2,hd2⟩:=id hb
 simp only at hc hd hc2 hd2
 subst hc hd hc2 hd2
 exact concat_meets ⟨_,ho,rfl⟩ ⟨_,ho2,rfl⟩ noFill_tuple_add seq_tuple_add PySem.F.slot_tuple_add PySem.F.entry_tuple_add (PySem.F.args_tuple_add_2 _ _) (tuple_addW0 t b #[] ws.toArray n n2 dd dd2 sl sl2 rfl) ⟨ho,ho2,h1⟩
end
def Zsl (K:PySem.W.Frag):R2:=fun x y H Q=>∃ a b ys,x=.ref a∧y=.ref b∧SqT K H a []∧SqT K H b ys∧Q (.ref b) H
theorem ZsZ {X:Cx}:OpR X (binaryOp .Add) (Zsl X.K):=by
 walk_at "pb"
 obtain ⟨a,b,ys,rfl,rfl,ha,hb,q⟩:=h
 cases rx
 cases ry
 obtain ⟨its,r1,p1,_⟩:=I.tuple ha
 obtain ⟨its2,r2,p2,_⟩:=I.tuple hb
 cases r1
 exact ZtI p1 p2 ⟨.ref b,H,I,rfl,q⟩
def ZgY:RW2:=fun x y G Q=>match x,y with
 | .tup xs,.tup ys=>xs.length+ys.length≤sizeLine∧Q (.tup (xs++ys)) G
 | x,y=>ZgF x y G Q
theorem Zbk {xs ys:List W} {G:Hw} {Q:Kw}:ZgY (.tup xs) (.tup ys) G Q=(xs.length+ys.length≤sizeLine∧Q (.tup (xs++ys)) G):=rfl
theorem Zlv {x y:W} {G:Hw} {Q:Kw} (hb:¬((∃ xs,x=.tup xs)∧∃ ys,y=.tup ys)):ZgY x y G Q=ZgF x y G Q:=by
 cases x <;> cases y <;> first | rfl | exact absurd ⟨⟨_,rfl⟩,⟨_,rfl⟩⟩ hb
theorem ZqR:RW2.M ZgY:=fun x y G Q Q' h q=>by
 by_cases hb:(∃ xs,x=.tup xs)∧∃ ys,y=.tup ys
 ·obtain ⟨⟨xs,rfl⟩,⟨ys,rfl⟩⟩:=hb
  exact ⟨q.1,h _ _ q.2⟩
 ·rw [Zlv hb] at q ⊢
  exact Zrw _ _ _ _ _ h q
theorem Zv5 {X:Cx}:OpR X (binaryOp .Add) (fun x y H Q=>((rI0 fun i j=>.int (i+j)) x y H Q∨(∃ i j,x=.str i∧y=.str j∧i.length+j.length≤sizeLine∧Q (.str (i++j)) H)∨Zzf x y H Q)∨Zsl X.K x y H Q∨ZwY X.K x y H Q):=OpR.or ZqQ (OpR.or ZsZ Zvo)
theorem ZtW {K:PySem.W.Frag} (x y:W) (v u:V) (G:Hw) (H:Hp) (Q:VK) (tx:Tr K H v x) (ty:Tr K H u y) (r:RelH K H G) (q:ZgY x y G (dn K H Q)) :
  ((rI0 fun i j=>.int (i+j)) v u H Q∨(∃ i j,v=.str i∧u=.str j∧i.length+j.length≤sizeLine∧Q (.str (i++j)) H)∨Zzf v u H Q)∨Zsl K v u H Q∨ZwY K v u H Q:=by
 by_cases hb:(∃ xs,x=.tup xs)∧∃ ys,y=.tup ys
 ·obtain ⟨⟨xs,rfl⟩,⟨ys,rfl⟩⟩:=hb
  rw [Zbk] at q
  cases tx with
  | tup sa la =>
   cases ty with
   | tup sb lb =>
    rename_i a vs b us
    cases la with
    | nil=>exact .inr (.inl ⟨a,b,us,rfl,rfl,sa,sb,by simpa using q.2 _ H .refl (.tup sb lb) r⟩)
    | cons t1 la =>
     refine .inr (.inr ⟨a,b,_,us,rfl,rfl,sa,sb,by simp,?_,fun e=>?_,fun e p hp=>?_⟩)
     ·rw [(TrL.cons t1 la).length,lb.length];exact q.1
     ·subst e
      cases lb
      have:=q.2 (.ref a) H .refl (by simpa using Tr.tup sa (.cons t1 la)) r
      exact this
     ·exact q.2 _ _ (Mono.new hp _) (.tup (SqT.of ZbP) (((TrL.cons t1 la).append lb).mono (Mono.new hp _))) (r.mono0 hp)
 ·refine .inl (Zru x y v u G H Q tx ty r ?_)
  rwa [Zlv hb] at q
theorem ZdD {X:Cx} {a b:Expr} {ga gb:GE} {pos:Pos} (ha:Em X a ga) (hb:Em X b gb):Em X (.BinOp a .Add b pos) (Zai ZgY ga gb):=⟨ZjZ Zv5 ZqR ha.m hb.m ZtW ha.p hb.p,Ze3 ZqR ha.m hb.m⟩
end L3
namespace L3
open PySem PySem.Spec PyProof.Rows L2
variable {K:PySem.W.Frag} {H H' H2:Hp}
theorem TrP.lookup {α:Type} [BEq α]:∀ {vs:List (α×V)} {ws:List (α×W)} {f:α} {w:W},TrP K H vs ws→ws.lookup f=some w→∃ v,vs.lookup f=some v∧Tr K H v w
 | _,_,_,_,.nil,e=>by cases e
 | _,_,f,w,.cons (f:=g) r t,e=>by
  rw [List.lookup_cons] at e ⊢
  cases hb:f==g with
  | true=>rw [hb] at e;cases e;exact ⟨_,rfl,r⟩
  | false=>rw [hb] at e;exact t.lookup e
theorem TrP.length {α:Type}:∀ {vs:List (α×V)} {ws:List (α×W)},TrP K H vs ws→vs.length=ws.length
 | _,_,.nil=>rfl
 | _,_,.cons _ t=>congrArg (·+1) t.length
section
variable {X:Cx} {P:Hp→Prop} {o e value:Expr} {es:List Expr} {f m:Str} {C:Addr} {pos pos' tpos apos p:Pos} {ga gv:GE} {gs:GA} {ex:Xw}
theorem Mono.ins {p C dx:Addr} {xs:List (Str×V)} (hp:H p=some (.ins C dx xs)) (o:HO):Mono K H (upd H p o):=Mono.was hp _ (fun _ z=>by cases z) (fun _ _ z=>by cases z)
structure DfM (P:Program) (w:World) (K:PySem.W.Frag) (mg:Str→Option Value) (base:Heap) (C:Addr) (m:Str) (k n:Nat) (sp:Spw):Prop where
 ex:∃ (f:Addr) (fd:FuncData) (ps:List Str),ZBy K C m f∧Binds K fd ps []∧ps.length=n∧FnOk P w K mg base (CXe P w) k f fd ps (Zvh K sp)
 mono:sp.M
end
section
variable {X:Cx} {P:Hp→Prop} {o e value:Expr} {es:List Expr} {f m:Str} {C:Addr} {pos pos' tpos apos p:Pos} {ga gv:GE} {gs:GA} {ex:Xw}
end
section
variable {P:Program} {w:World} {mg:Str→Option Value} {base:Heap} {C:Addr}
theorem DfM.le {m:Str} {j k n:Nat} {sp:Spw} (D:DfM P w K mg base C m j n sp) (h:j≤k):DfM P w K mg base C m k n sp :=
 ⟨let ⟨f,fd,ps,h1,h2,h3,F⟩:=D.ex;⟨f,fd,ps,h1,h2,h3,F.mono h⟩,D.mono⟩
end
def isStr (o:W) (_:Hw):Prop:=∃ x,o=.str x
end L3
namespace HT
open PySem PySem.Spec PyProof.Rows
section
variable {prog:Program} {w:World} {A:Around} {E:Value→Shared→Prop} {s:Shared}
theorem getItem_tuple_whole {t sl:Addr} {items:Array Value} {vl vu:Value} {lo hi:Option Int} {Q:Value→Shared→Prop} (ht:IsTup s.heap t items) (hs:s.heap.IsSliceOf sl vl vu .none) (pl:IsPart vl lo) (pu:IsPart vu hi)
  (hw:sIx items.size 0 lo=0∧sIx items.size items.size hi=items.size) (h:Q (.ref t) s):wpAny (model prog w) A (getItem (.ref t) (.ref sl)) Q E s:=by
 obtain ⟨os,hos,hcs,hds⟩:=id hs
 have hTs:s.TypeIs (.ref sl) "slice":=⟨os,hos,hcs⟩
 unfold getItem
 try with_reducible refine wpAny_holding ?_
 first | refine wpAny_bind (wpAny_pure ?_) | skip
 refine wpAny_bind (wpAny_sequenceKey ht.typeIs (by decide) ?_)
 refine wpAny_bind (wpAny_callSpecial?_slot (name:=Str.ofString "__getitem__") ht.typeIs PyProof.Rows.slot_tuple_getitem
  (wpAny_call_entry PyProof.Rows.slot_tuple_getitem ht.typeIs entry_tuple_getitem ?_ (args_tuple_getitem _ _)))
 show wpAny _ _ (Builtin.Tuple.tupleItemsOf (.ref t) >>= _) _ _ s
 refine wpAny_bind (tupleItemsOf_ ht ?_)
 refine wpAny_bind (wpAny_typeOf hTs ?_)
 rw [if_pos (by decide)]
 refine wpAny_bind (ZeT hs pl pu ?_)
 have hyes:(((sIx items.size 0 lo:Nat):Int)==0&&(1:Int)==1&&(sIx items.size items.size hi - sIx items.size 0 lo)==items.size)=true:=by
  rw [hw.1,hw.2]
  simp
 show wpAny _ _ (if (((sIx items.size 0 lo:Nat):Int)==0&&(1:Int)==1&&(sIx items.size items.size hi - sIx items.size 0 lo)==items.size)=true then _ else _) _ _ s
 rw [if_pos hyes]
 have hT:=ht.typeIs
 unfold Builtin.Tuple.tupleIsExact
 repeat (any_goals (first | assumption | wp_step))
 exact ⟨_,rfl,wpAny_pure h⟩
end
end HT
namespace L3
open PySem PySem.Spec PyProof.Rows L2
variable {K:PySem.W.Frag} {H H' H2:Hp}
def ZA1 (K:PySem.W.Frag):V→Option Int→Option Int→Hp→VK→Prop:=fun x lo hi H Q=>∃ a xs,x=.ref a∧SqT K H a xs∧(HT.sIx xs.length 0 lo=0∧HT.sIx xs.length xs.length hi=xs.length)∧Q (.ref a) H
theorem ZvN {X:Cx}:SlR X (ZA1 X.K):=by
 intro pins s σ H x v vl vu lo hi sl Q I rx hs pl pu h
 obtain ⟨a,xs,rfl,hx,hw,q⟩:=h
 cases rx
 obtain ⟨its,r,ht,hz⟩:=I.tuple hx
 have hlen:its.toArray.size=xs.length:=by rw [List.size_toArray];exact r.length.symm
 refine ⟨"tuple",_,PyProof.Rows.slot_tuple_getitem.lookup,ht.typeIs,?_⟩
 exact HT.getItem_tuple_whole ht hs pl pu (by rw [hlen];exact hw) ⟨.ref a,H,I,rfl,q⟩
def ZAY:V→Option Int→Option Int→Hp→VK→Prop:=fun x lo hi H Q=>∃ z,x=.str z∧z.length≤sizeLine∧Q (.str (Txt.slice z lo hi)) H
theorem Zyy {X:Cx}:SlR X ZAY:=by
 intro pins s σ H x v vl vu lo hi sl Q I rx hs pl pu h
 obtain ⟨z,rfl,hz,q⟩:=h
 obtain ⟨t,rfl⟩:=rx
 obtain ⟨os,hos,hcs,hds⟩:=id hs
 refine ⟨"str",_,F.slot_str_getitem.lookup,typeIs_str _ _ _,?_⟩
 have fin:∀ t' k,EP X pins σ Q (.str (Txt.slice z lo hi) t') { s with toks:=k }:=fun t' k=>⟨.str _,H,I.tok k,⟨t',rfl⟩,q⟩
 cases pl with
 | none =>
  cases pu with
  | none=>exact wpAny_getItem_str_slice (l:=none) (u:=none) (st:=none) ⟨os,hos,hcs,hds⟩ rfl (post_val_or_str ⟨Nat.le_trans (Txt.slice_le z _ _) hz,fin⟩)
  | int j u=>exact wpAny_getItem_str_slice (l:=none) (u:=some (j,u)) (st:=none) ⟨os,hos,hcs,hds⟩ rfl (post_val_or_str ⟨Nat.le_trans (Txt.slice_le z _ _) hz,fin⟩)
 | int i u =>
  cases pu with
  | none=>exact wpAny_getItem_str_slice (l:=some (i,u)) (u:=none) (st:=none) ⟨os,hos,hcs,hds⟩ rfl (post_val_or_str ⟨Nat.le_trans (Txt.slice_le z _ _) hz,fin⟩)
  | int j u2=>exact wpAny_getItem_str_slice (l:=some (i,u)) (u:=some (j,u2)) (st:=none) ⟨os,hos,hcs,hds⟩ rfl (post_val_or_str ⟨Nat.le_trans (Txt.slice_le z _ _) hz,fin⟩)
def slA (w:W) (lo hi:Option Int) (G:Hw) (Q:Kw):Prop:=match w with
 | .tup xs=>Q (.tup (Zoz xs lo hi)) G
 | .str z=>z.length≤sizeLine∧Q (.str (Txt.slice z lo hi)) G
 | w=>slW w lo hi G Q
theorem ZxK {w:W} {lo hi:Option Int} {G:Hw} {Q Q':Kw} (h:∀ w G',Q w G'→Q' w G') (q:slA w lo hi G Q):slA w lo hi G Q':=by
 cases w with
 | tup xs=>exact h _ _ q
 | str z=>exact ⟨q.1,h _ _ q.2⟩
 | non=>exact False.elim q
 | bl b=>exact False.elim q
 | int i=>exact False.elim q
 | rol xs=>exact ZsW (w:=.rol xs) (lo:=lo) (hi:=hi) (G:=G) h q
 | ref a=>exact ZsW (w:=.ref a) (lo:=lo) (hi:=hi) (G:=G) h q
theorem Zy5 {w:W} {v:V} {lo hi:Option Int} {G:Hw} {Q:VK} (t:Tr K H v w) (r:RelH K H G) (q:slA w lo hi G (dn K H Q)):((Zz8 K v lo hi H Q∨ZAQ K v lo hi H Q)∨ZA1 K v lo hi H Q)∨ZAY v lo hi H Q:=by
 cases t with
 | tup h l =>
  rename_i a vs ws
  by_cases hw:HT.sIx ws.length 0 lo=0∧HT.sIx ws.length ws.length hi=ws.length
  ·refine .inl (.inr ⟨a,vs,rfl,h,by rw [l.length];exact hw,?_⟩)
   refine q _ H .refl ?_ r
   have e:Zoz ws lo hi=ws:=by unfold Zoz;rw [hw.1,hw.2];simp
   rw [e]
   exact .tup h l
  ·exact .inl (.inl (Zpt (.tup h l) r ⟨hw,q⟩))
 | str z=>exact .inr ⟨z,rfl,q.1,q.2 _ H .refl (.str _) r⟩
 | non=>exact False.elim q
 | bl b=>exact False.elim q
 | int i=>exact False.elim q
 | rol h l=>exact .inl (.inl (Zpt (.rol h l) r q))
 | ref a=>exact .inl (.inl (Zpt (.ref a) r q))
section
variable {X:Cx} {a b e:Expr} {ga gb:GE} {pos:Pos}
def Zji (ga:GE) (gl gh:GO):GE:=fun ω G Q=>ga ω G fun w G1=>gl ω G1 fun lo G2=>gh ω G2 fun hi G3=>slA w lo hi G3 Q
theorem Zgm {lo hi:Option Expr} {gl gh:GO} {p2:Pos} (ha:Em X e ga) (hl:Om X lo gl) (hh:Om X hi gh):Em X (.Subscript e (.Slice lo hi none p2) pos) (Zji ga gl gh) :=
 ⟨Zbz (ZoL (SlR.or (SlR.or (SlR.or Zuq Zr5) ZvN) Zyy) ha.p hl.p hh.p) fun σ H Q ⟨ω,G,ts,r,q⟩=>⟨ω,G,ts,r,ha.m _ _ _ _ (fun w G1 z v H1 m1 t r1=>⟨ω,G1,ts.mono m1,r1,hl.m _ _ _ _ (fun l G2 z2 H2 m2 r2 =>
   ⟨ω,G2,(ts.mono m1).mono m2,r2,hh.m _ _ _ _ (fun h G3 z3 H3 m3 r3=>Zy5 ((t.mono m2).mono m3) r3 (ZxK (fun w G' z=>ZcU ((m1.trans m2).trans m3) z) z3)) z2⟩) z⟩) q⟩,
  fun ω G Q Q' h q=>ha.m _ _ _ _ (fun w G1 z=>hl.m _ _ _ _ (fun l G2 z2=>hh.m _ _ _ _ (fun u G3 z3=>ZxK h z3) z2) z) q⟩
end
theorem StrsAre.len:∀ {vs:List Value} {ys:List Str},StrsAre vs ys→vs.length=ys.length
 | _,_,.nil=>rfl
 | _,_,.cons _ _ r=>congrArg (·+1) (StrsAre.len r)
section
variable {prog:Program} {w:World} {A:Around} {E:Value→Shared→Prop} {s:Shared}
end
def ZyV:RW2:=fun x y G Q=>match x,y with
 | .int i,.int j=>CMul i j∧Q (.int (i*j)) G
 | .str x,.int n=>MulOk x n∧Q (.str (Txt.mul x n)) G
 | .ref a,.int k=>(match G a with
  | some (.lst xs)=>-(2 ^ 63)≤k∧k < 2 ^ 63∧xs.length*k.toNat≤sizeLine∧∀ p,G p=none→Q (.ref p) (put G p (.lst (List.replicate k.toNat xs).flatten))
  | _=>False)
 | _,_=>False
def ZBB (K:PySem.W.Frag) (tl:TE):TI:=fun σ H R=>tl σ H fun x H1=>(∃ a,x=.ref a∧(∃ xs,SqL K H1 a xs)∧R (Itl K a) H1)∨(∃ a,x=.ref a∧(∃ xs,SqT K H1 a xs)∧R (Itt K a) H1)
theorem ZxA {X:Cx} {tg l:Expr} {tl:TE} (hl:PE X l tl):PI X tg l (ZBB X.K tl):=by
 intro pins s σ H R I h
 refine thn (hl pins s σ H _ I h) fun v s1 zz1=>?_
 obtain ⟨x,H1,I1,r1,q1⟩:=zz1
 rcases q1 with ⟨a,e,⟨xs,hq⟩,q⟩ | ⟨a,e,⟨xs,hq⟩,q⟩
 ·subst e
  cases r1
  obtain ⟨its,rv,p,hz⟩:=I1.list hq
  refine wpAny_pyIter_list p.isList ?_
  walk_at "ph"
  have e:b=s1.heap.objs.size:=by simpa using hb
  subst e
  walk_at "pz"
 ·subst e
  cases r1
  obtain ⟨its,rv,p,hz⟩:=I1.tuple hq
  refine wpAny_pyIter_tuple (show s1.heap.IsTuple a its.toArray from p) ?_
  walk_at "pi"
  have e:b=s1.heap.objs.size:=by simpa using hb
  subst e
  walk_at "pz"
def Zdm (ga:GE):GI:=fun ω G R=>ga ω G fun w G1=>match w with
 | .tup ws=>R ws yes G1
 | .rol ws=>R ws yes G1
 | .ref a=>match G1 a with | some (.lst ws)=>R ws (holds a ws) G1 | _=>False
 | _=>False
theorem Zts {ga:GE} (m:ga.M):GI.M (Zdm ga):=fun ω G R R' h q=>m _ _ _ _ (fun w G1 z=>by
 cases w with
 | tup ws=>exact h _ _ _ z
 | rol ws=>exact h _ _ _ z
 | ref a =>
  dsimp only at z ⊢
  cases e:G1 a with
  | none=>rw [e] at z;exact z
  | some o =>
   rw [e] at z
   cases o <;> first | exact h _ _ _ z | exact z
 | _=>exact z) q
theorem ZfW {X:Cx} {tg l:Expr} {ga:GE} (hl:Em X l ga):Im X tg l (Zdm ga):=by
 refine ⟨⟨_,ZxA hl.p,fun σ H ω G R R0 ts r q k=>⟨ω,G,ts,r,hl.m _ _ _ _ (fun w G1 z v H1 m t r1=>?_) q⟩⟩,Zts hl.m⟩
 cases t with
 | tup h l=>exact .inr ⟨_,rfl,⟨_,h⟩,k _ _ _ H1 _ z m r1 trivial (Zo1 h l)⟩
 | rol h l=>exact .inl ⟨_,rfl,⟨_,h.sq⟩,k _ _ _ H1 _ z m r1 trivial (ZiY fun H2 G2 m2 _ _=>⟨_,(m2.rol _ _ h).sq,l.mono m2⟩)⟩
 | ref a =>
  dsimp only at z
  cases e:G1 a with
  | none=>rw [e] at z;exact z.elim
  | some o =>
   rw [e] at z
   cases o with
   | lst ws =>
    obtain ⟨vs,e1,t1⟩:=r1 a _ e
    exact .inl ⟨a,rfl,⟨vs,SqL.of e1⟩,k _ _ _ H1 _ z m r1 e (ZiY fun H2 G2 m2 r2 g2=>let ⟨vs,e2,t2⟩:=r2 a _ g2;⟨vs,SqL.of e2,t2⟩)⟩
   | _=>exact z.elim
 | _=>exact z.elim
theorem ZlF {X:Cx} {P:Hp→Prop} {elt tg iter:Expr} {ifs:List Expr} {scope:Scope} {pos pos' spos:Pos} {i:Nat} {x:Str} {Nc:List Str} {n:Nat} {js:List Nat} {cl:List (Str×Addr)} {gi:GI} {gg:GG} {gt:GT} {ge:GE} (hN:X.N.Nodup) (hix:X.N[i]?=some x) (hx:Znr X.env.scope x=true)
  (hsw:swapsWith (.ListComp elt [⟨tg,iter,ifs,0⟩] scope pos) (some (.Name x pos')) spos.line X.env=pure true) (hc:X.calm=true) (B:Blk X Nc scope cl (ZhN n js)) (hs:∀ x,foldedSetIterable iter X.env x=pure x) (hi:Im X tg iter gi)
  (hu:TgC X Nc scope cl tg gg) (ht:∀ C fp s H,Fm (cxB X Nc scope cl C fp s H) ifs gt) (he:∀ C fp s H,Em (cxB X Nc scope cl C fp s H) elt ge) :
  Sm X P (.Assign [.Name x pos'] (.ListComp elt [⟨tg,iter,ifs,0⟩] scope pos) spos) (Za9 i (Zbj gi n js gg gt ge)):=by
 have mt:gt.M:=(ht 0 [] X.s₀ X.H₀).m
 have me:ge.M:=(he 0 [] X.s₀ X.H₀).m
 refine ⟨fun B0 hB=>?_,Zum (ZlX hi.m hu.mono mt me)⟩
 obtain ⟨wi,hwi,hi'⟩:=hi.p
 obtain ⟨g,hpg,hgg⟩:=hu.ex
 refine Zfk (ZpO (tt:=upT X.K gt) (te:=up X.K ge) hN hix (Zhx hx) hsw hc hwi B hpg (fun C fp s H=>(ht C fp s H).p) (fun C fp s H=>(he C fp s H).p) hs) fun D σ H zz2=>?_
 obtain ⟨ω,G,ts,r,mb,q⟩:=zz2
 refine ZoX hi' hgg hu.mono mt me σ H _ ⟨ω,G,ts,r,ZlX hi.m hu.mono mt me _ _ _ _ (fun w G1 z v H1 m t r1=>?_) q⟩
 exact z _ H1 (mb.trans m) ((ts.mono m).set i t) r1
section
variable {X:Cx} {CX:CXT} {k:Nat} {f:Addr} {fd:FuncData} {ps:List Str} {sp:Sp} {Eσ:St→XK} {x:Str} {p pos:Pos} {e:Expr} {es:List Expr} {t:TA}
theorem Zyb {E:Value→Shared→Prop} {pins:List (Addr×Obj)} {s:Shared} {σ:St} {H:Hp} {i:Nat} {x:Str} {v:V} {pos:Pos} {Q:Value→Shared→Prop} (I:Inv X pins σ H s) (hN:X.N[i]?=some x) (hv:Vis X.env.scope x) (e:σ[i]?=some (some v)) (hd:(x==("__debug__":Str))=false) (hcd:(x==("__classdict__":Str))=false)
  (fin:∀ u,RelV v u→Q u s):wpAny (model X.prog X.w) X.A (eval (.Name x pos) X.env) Q E s:=by
 obtain ⟨m,hn,hl⟩:=I.loc
 obtain ⟨u,r,l⟩:=hl i x v hN e hv
 rcases l with ⟨hk,hm⟩ | ⟨hk,c,hc,hcell⟩
 ·exact wpAny_Name (wpAny_loadName_local I.ok.kind hk hn hm (fin u r)) hd
 ·rcases hk with hk | hk
  ·exact wpAny_Name (wpAny_loadName_cell I.ok.kind hk hc hcell (fin u r)) hd
  ·exact wpAny_Name (wpAny_loadName_free I.ok.kind hk hc hcell (fin u r) hcd) hd
theorem Ztu {i:Nat} (F:FnOk X.prog X.w X.K X.mg X.base CX k f fd ps sp) (hr:Room k X.A) (hN:X.N[i]?=some x) (hv:Vis X.env.scope x) (hk:PySem.W.keepIn X.K (.ref f)=true) (hb:Binds X.K fd ps []) (hx:ZjM CX X Eσ)
  (ha:PA X (e::es) t) (hdb:(x==("__debug__":Str))=false) (hcd:(x==("__classdict__":Str))=false) (he:starEach (e::es) X.env=(false,eval e X.env)::starEach es X.env) (hpl:(backTo pos (starEach es X.env)).any (·.1)=false) :
  PE X (.Call (.Name x p) (e::es) [] pos) (fun σ H Q=>σ[i]?=some (some (.ref f))∧Zus sp [] Eσ t σ H Q):=by
 intro pins s σ H Q I ⟨hi,h⟩
 refine wpAny_Call_Name_kw (Zyb I hN hv hi hdb hcd fun u hu=>?_)
 cases hu
 refine PySem.W.callWith_K (h₀:=X.base) I.ok.mod.kin hk (thn (ha pos pins s σ H _ I h) fun us s1 ⟨vs,H1,I1,r,q⟩=>⟨I1.kIn,?_⟩) he hpl
 have r2:Vals (vs++[]) (us++[]):=r.append .nil
 have hl:(us++[]).length=ps.length:=by rw [← r2.length];exact F.len _ _ _ _ q
 refine wpAny_call (codeAny_mono (F.run X.A X.stack s1 H1 ⟨us,[]⟩ (us++[]) (vs++[]) Q (Eσ σ) hr I1.env0 (hb s1 us I1.kIn hl) r2 q) fun r s' hq=>?_)
 cases r with
 | error e=>exact hx pins σ H1 s1 e s' I1 hq
 | ok fl =>
  cases fl with
  | ret u=>exact I1.after hq
  | next=>exact False.elim hq
  | brk=>exact False.elim hq
  | cont=>exact False.elim hq
end
def fAt (mg:Str→Option Value) (x:Str):Addr:=match mg x with | some (.ref f)=>f | _=>0
theorem Zu8 {mg:Str→Option Value} {x:Str} {f:Addr} (h:mg x=some (.ref f)):fAt mg x=f:=by unfold fAt;rw [h]
section
variable {X:Cx} {e:Expr} {es:List Expr} {pos p:Pos} {ga gb:GE} {gs:GA} {ex:Xw}
def ZiA (i:Nat) (f:Addr) (sp:Spw) (ex:Xw) (gs:GA):GE:=fun ω G Q=>ω[i]?=some (some (.ref f))∧gs ω G fun ws G1=>sp ws G1 Q (ex ω)
theorem Zug {i:Nat} {f:Addr} {sp:Spw} (m:sp.M) (ms:gs.M):GE.M (ZiA i f sp ex gs):=fun ω G Q Q' h q=>⟨q.1,ms _ _ _ _ (fun ws G1 q1=>m _ _ _ _ _ _ h (fun _ _ z=>z) q1) q.2⟩
theorem Zt1 {i:Nat} {x y:Str} {k n:Nat} {sp:Spw} (D:Df X.prog X.w X.K X.mg X.base y k n sp) (hr:Room k X.A) (hN:X.N[i]?=some x) (hv:Vis X.env.scope x) (hp:Zmq X ex) (ms:gs.M) (ha:PAw X (e::es) gs)
  (hdb:(x==("__debug__":Str))=false) (hcd:(x==("__classdict__":Str))=false) (he:starEach (e::es) X.env=(false,eval e X.env)::starEach es X.env) (hpl:(backTo pos (starEach es X.env)).any (·.1)=false) :
  PEw X (.Call (.Name x p) (e::es) [] pos) (ZiA i (fAt X.mg y) sp ex gs):=by
 obtain ⟨f,fd,ps,hm,hk,hb,_,F⟩:=D.ex
 rw [Zu8 hm]
 refine Zbz (Ztu F hr hN hv hk hb hp ha hdb hcd he hpl) fun σ H Q zz1=>?_
 obtain ⟨ω,G,ts,r,q0,q⟩:=zz1
 obtain ⟨v,ev,tv⟩:=ts.get i _ q0
 cases tv
 refine ⟨ev,ω,G,ts,r,ms _ _ _ _ (fun ws G1 q1 vs H1 m1 tvs r1=>?_) q⟩
 refine ⟨ws,G1,by rw [List.append_nil];exact tvs,r1,D.mono _ _ _ _ _ _ (fun w G' z=>ZcU m1 z) (fun C G' z H2 m2 r2=>?_) q1⟩
 exact ⟨C,ω,G',rfl,(ts.mono m1).mono m2,r2,z⟩
theorem Zps {i:Nat} {x y:Str} {k n:Nat} {sp:Spw} (D:Df X.prog X.w X.K X.mg X.base y k n sp) (hr:Room k X.A) (hi:place X.N x=some i) (hv:ZzB X.env.scope x=true) (hp:Zmq X ex) (hdb:(x==("__debug__":Str))=false) (hcd:(x==("__classdict__":Str))=false) (he:starEach (e::es) X.env=(false,eval e X.env)::starEach es X.env) (hpl:(backTo pos (starEach es X.env)).any (·.1)=false)
  (ha:Am X (e::es) gs):Em X (.Call (.Name x p) (e::es) [] pos) (ZiA i (fAt X.mg y) sp ex gs):=⟨Zt1 D hr (ZsX hi) (Zpo hv) hp ha.m ha.p hdb hcd he hpl,Zug D.mono ha.m⟩
theorem ZyD {x:Str} {k n:Nat} {sp:Spw} (D:Df X.prog X.w X.K X.mg X.base x k n sp) (hg:Gl X x) (hd:(x==("__debug__":Str))=false):Em X (.Name x pos) (gC (.ref (fAt X.mg x))):=by
 obtain ⟨f,fd,ps,hm,hk,hb,_,F⟩:=D.ex
 rw [Zu8 hm]
 exact ⟨Zqf (v:=.ref f) hg hm rfl (fun H=>.ref f) hd,Zw9⟩
end
end L3
namespace L3
open PySem PySem.Spec PyProof.Rows L2
namespace Tb
def hop (M:Nat):Nat→Nat→Nat
 | 0,i=>i
 | n+1,i=>hop M n ((i*5+1) % M)
def cover (M:Nat):Bool:=(List.range M).all fun i=>(List.range M).all fun j=>(List.range M).any fun n=>hop M n i==j
theorem cover8:cover 8=true:=by decide +kernel
theorem cover16:cover 16=true:=by decide +kernel
theorem cover32:cover 32=true:=by decide +kernel
theorem cover64:cover 64=true:=by decide +kernel
theorem Zud {M i j:Nat} (h:cover M=true) (hi:i < M) (hj:j < M):∃ n,n < M∧hop M n i=j:=by
 unfold cover at h
 have h1:=List.all_eq_true.mp h i (List.mem_range.mpr hi)
 have h2:=List.all_eq_true.mp h1 j (List.mem_range.mpr hj)
 obtain ⟨n,hn,e⟩:=List.any_eq_true.mp h2
 exact ⟨n,List.mem_range.mp hn,by simpa using e⟩
theorem Znm {mask:Nat} {owner:Array (Option Nat)} {fuel i p:Nat} (h:SetTable.layClean.free mask owner (fuel+1) i p=none) :
  (owner.getD i (some 0)).isSome=true∧SetTable.layClean.free mask owner fuel ((i*5+1+p / 32) % (mask+1)) (p / 32)=none:=by
 unfold SetTable.layClean.free at h
 have hr:0 < SetTable.runEnd mask i+1 - i:=by unfold SetTable.runEnd;split <;> omega
 cases hf:(List.range (SetTable.runEnd mask i+1 - i)).find? fun k=>(owner.getD (i+k) (some 0)).isNone with
 | some k=>rw [hf] at h;cases h
 | none =>
  rw [hf] at h
  refine ⟨?_,h⟩
  have hz:=List.find?_eq_none.mp hf 0 (List.mem_range.mpr hr)
  rw [Nat.add_zero] at hz
  cases hg:owner.getD i (some 0) with
  | some b=>rfl
  | none=>rw [hg] at hz;exact absurd rfl hz
theorem ZmH {mask:Nat} {owner:Array (Option Nat)}:∀ (n fuel i:Nat),SetTable.layClean.free mask owner (n+fuel) i 0=none→∀ m,m < n→(owner.getD (hop (mask+1) m i) (some 0)).isSome=true
 | 0,fuel,i,h,m,hm=>by omega
 | n+1,fuel,i,h,m,hm=>by
  rw [show n+1+fuel=(n+fuel)+1 by omega] at h
  obtain ⟨h1,h2⟩:=Znm h
  simp only [Nat.zero_div,Nat.add_zero] at h2
  cases m with
  | zero=>exact h1
  | succ m=>exact ZmH n fuel _ h2 m (by omega)
theorem Zmn {mask:Nat} {owner:Array (Option Nat)}:∀ (n fuel i p:Nat),SetTable.layClean.free mask owner (n+fuel) i p=none→i < mask+1→∃ i',i' < mask+1∧SetTable.layClean.free mask owner fuel i' (p / 32 ^ n)=none
 | 0,fuel,i,p,h,hi=>⟨i,hi,by rw [Nat.zero_add] at h;simpa using h⟩
 | n+1,fuel,i,p,h,hi=>by
  rw [show n+1+fuel=(n+fuel)+1 by omega] at h
  obtain ⟨_,h2⟩:=Znm h
  obtain ⟨i',hi',h3⟩:=Zmn n fuel _ _ h2 (Nat.mod_lt _ (by omega))
  refine ⟨i',hi',?_⟩
  rw [Nat.div_div_eq_div_mul,show 32*32 ^ n=32 ^ (n+1) by rw [Nat.pow_succ,Nat.mul_comm]] at h3
  exact h3
theorem ZwX {mask:Nat} {owner:Array (Option Nat)} {i p:Nat} (hc:cover (mask+1)=true) (hi:i < mask+1) (hp:p < 2 ^ 64) (he:∃ j,j < mask+1∧owner.getD j (some 0)=none):(SetTable.layClean.free mask owner (SetTable.turns mask) i p).isSome=true:=by
 cases h:SetTable.layClean.free mask owner (SetTable.turns mask) i p with
 | some j=>rfl
 | none =>
  exfalso
  rw [show SetTable.turns mask=13+((mask+1)+1) by unfold SetTable.turns;omega] at h
  obtain ⟨i',hi',h2⟩:=Zmn 13 _ i p h hi
  rw [Nat.div_eq_of_lt (Nat.lt_of_lt_of_le hp (by decide))] at h2
  have h3:=ZmH (mask+1) 1 i' h2
  obtain ⟨j,hj,e⟩:=he
  obtain ⟨n,hn,en⟩:=Zud hc hi' hj
  have:=h3 n hn
  rw [en,e] at this
  cases this
theorem ZqZ {mask:Nat} {owner:Array (Option Nat)} (hs:owner.size=mask+1):∀ (fuel i p j:Nat),SetTable.layClean.free mask owner fuel i p=some j→i < mask+1→j < mask+1∧owner.getD j (some 0)=none
 | 0,i,p,j,h,hi=>by unfold SetTable.layClean.free at h;cases h
 | fuel+1,i,p,j,h,hi=>by
  unfold SetTable.layClean.free at h
  cases hf:(List.range (SetTable.runEnd mask i+1 - i)).find? fun k=>(owner.getD (i+k) (some 0)).isNone with
  | none =>
   rw [hf] at h
   exact ZqZ hs fuel _ _ j h (Nat.mod_lt _ (by omega))
  | some k =>
   rw [hf] at h
   cases h
   have h1:=List.find?_some hf
   have h2:owner.getD (i+k) (some 0)=none:=by simpa using h1
   refine ⟨?_,h2⟩
   refine Nat.lt_of_not_le fun hge=>?_
   rw [Array.getD_eq_getD_getElem?,Array.getElem?_eq_none (by omega)] at h2
   cases h2
theorem Zl1 {α:Type} (x:α):∀ {l:List (Option α)} {j:Nat},l[j]?=some none→((l.set j (some x)).filterMap id).Perm (x::l.filterMap id)
 | [],j,h=>by simp at h
 | a::l,0,h=>by
  simp only [List.getElem?_cons_zero,Option.some.injEq] at h
  subst h
  exact List.Perm.refl _
 | a::l,j+1,h=>by
  simp only [List.getElem?_cons_succ] at h
  rw [List.set_cons_succ]
  cases a with
  | none=>exact Zl1 x h
  | some b =>
   show (b::(l.set j (some x)).filterMap id).Perm (x::b::l.filterMap id)
   exact ((Zl1 x h).cons b).trans (List.Perm.swap x b _)
theorem Znd:∀ {l:List (Option Nat)},(l.filterMap id).length < l.length→∃ j,j < l.length∧l[j]?=some none
 | [],h=>by simp at h
 | none::l,h=>⟨0,by simp,rfl⟩
 | some a::l,h=>by
  have h':(l.filterMap id).length+1 < l.length+1:=h
  obtain ⟨j,hj,e⟩:=Znd (l:=l) (by omega)
  exact ⟨j+1,by simp;omega,by simpa using e⟩
structure Lay (M k:Nat) (owner:Array (Option Nat)):Prop where
 sz:owner.size=M
 pm:(owner.toList.filterMap id).Perm (List.range k)
theorem ZsH {mask k:Nat} {owner:Array (Option Nat)} (hc:cover (mask+1)=true) (L:Lay (mask+1) k owner) (hk:k < mask+1) (h:Int) :
  ∃ j,SetTable.layClean.free mask owner (SetTable.turns mask) (SetTable.bits h % (mask+1)) (SetTable.bits h)=some j∧Lay (mask+1) (k+1) (owner.setIfInBounds j (some k)):=by
 have hb:SetTable.bits h < 2 ^ 64:=by
  unfold SetTable.bits
  have:=Int.emod_lt_of_pos h (show (0:Int) < 2 ^ 64 by decide)
  have:=Int.emod_nonneg h (show (2 ^ 64:Int)≠0 by decide)
  omega
 have hl:(owner.toList.filterMap id).length=k:=by rw [L.pm.length_eq,List.length_range]
 obtain ⟨j,hj,e⟩:=Znd (l:=owner.toList) (by rw [hl,Array.length_toList,L.sz];exact hk)
 have hj':j < mask+1:=by rw [Array.length_toList,L.sz] at hj;exact hj
 have hi:SetTable.bits h % (mask+1) < mask+1:=Nat.mod_lt _ (by omega)
 have hs:=ZwX (owner:=owner) (i:=SetTable.bits h % (mask+1)) hc hi hb ⟨j,hj',by
  rw [Array.getD_eq_getD_getElem?]
  rw [Array.getElem?_toList] at e
  rw [e];rfl⟩
 obtain ⟨j2,e2⟩:=Option.isSome_iff_exists.mp hs
 obtain ⟨h1,h2⟩:=ZqZ L.sz _ _ _ _ e2 hi
 refine ⟨j2,e2,⟨by rw [Array.size_setIfInBounds];exact L.sz,?_⟩⟩
 have h3:owner.toList[j2]?=some none:=by
  rw [Array.getElem?_toList]
  rw [Array.getD_eq_getD_getElem?] at h2
  have h4:j2 < owner.size:=by rw [L.sz];exact h1
  rw [Array.getElem?_eq_getElem h4] at h2 ⊢
  exact congrArg some h2
 rw [Array.toList_setIfInBounds]
 refine (Zl1 k h3).trans ?_
 rw [List.range_succ]
 exact ((L.pm.cons k).trans (List.perm_append_singleton k _).symm)
theorem Zq4 {mask:Nat} (hc:cover (mask+1)=true):∀ (hs:List Int) (k:Nat) (owner:Array (Option Nat)),Lay (mask+1) k owner→k+hs.length≤mask+1 →
  ∃ o',(hs.foldl (fun (acc:Option (Array (Option Nat)×Nat)) h=>do
   let (owner,k) ← acc
   let j ← SetTable.layClean.free mask owner (SetTable.turns mask) (SetTable.bits h % (mask+1)) (SetTable.bits h)
   pure (owner.setIfInBounds j (some k),k+1)) (some (owner,k)))=some (o',k+hs.length)∧Lay (mask+1) (k+hs.length) o'
 | [],k,owner,L,_=>⟨owner,rfl,L⟩
 | h::hs,k,owner,L,hk=>by
  simp only [List.length_cons] at hk
  obtain ⟨j,e,L2⟩:=ZsH hc L (by omega) h
  obtain ⟨o',e2,L3'⟩:=Zq4 hc hs (k+1) _ L2 (by omega)
  refine ⟨o',?_,by rw [List.length_cons,show k+(hs.length+1)=k+1+hs.length by omega];exact L3'⟩
  rw [List.foldl_cons]
  show hs.foldl _ (some (owner,k) >>= fun x=>_)=_
  rw [Option.bind_eq_bind,Option.bind_some]
  dsimp only
  rw [e]
  rw [Option.bind_eq_bind,Option.bind_some]
  rw [List.length_cons,show k+(hs.length+1)=k+1+hs.length by omega]
  exact e2
theorem ZvI (M:Nat):Lay M 0 (Array.replicate M none):=⟨by simp,by simp⟩
theorem Zs2 {mask:Nat} (hc:cover (mask+1)=true) (hs:Array Int) (hn:hs.size≤mask+1):∃ o',SetTable.layClean mask hs=some o'∧Lay (mask+1) hs.size o':=by
 obtain ⟨o',e,L⟩:=Zq4 hc hs.toList 0 _ (ZvI (mask+1)) (by simpa using hn)
 refine ⟨o',?_,by simpa using L⟩
 unfold SetTable.layClean
 rw [← Array.foldl_toList]
 rw [e];rfl
theorem ZoG {M:Nat} {owner:Array (Option Nat)} (h:owner.size=M):(((List.range M).filterMap fun j=>(owner.getD j none).map (j,·)).map (·.2))=owner.toList.filterMap id:=by
 have e:owner.toList=(List.range M).map fun j=>owner.getD j none:=by
  apply List.ext_getElem?
  intro i
  rw [List.getElem?_map,Array.getElem?_toList]
  by_cases hi:i < M
  ·have h2:i < owner.size:=by omega
   rw [List.getElem?_range hi,Array.getElem?_eq_getElem h2,Option.map_some,Array.getD_eq_getD_getElem?,Array.getElem?_eq_getElem h2];rfl
  ·rw [Array.getElem?_eq_none (by omega),List.getElem?_eq_none (by simp;omega)];rfl
 rw [e,List.filterMap_map,List.map_filterMap]
 congr 1
 funext j
 show Option.map (·.2) (Option.map (j,·) (owner.getD j none))=owner.getD j none
 cases owner.getD j none <;> rfl
theorem Zuf {M:Nat} {owner:Array (Option Nat)} (h:owner.size=M):((List.range M).filterMap fun j=>(owner.getD j none).map (j,·)).length=(owner.toList.filterMap id).length:=by
 rw [← ZoG h,List.length_map]
theorem laid_ok {mask:Nat} (hc:cover (mask+1)=true) (f m:Nat) (l p:Bool) (hs:Array Int) (hn:hs.size≤mask+1) :
  ∃ t order,SetTable.laid mask f m l p hs=some (t,order)∧order.toList.Perm (List.range hs.size)∧t.mask=mask∧t.place.size=hs.size∧t.dummies=#[]∧t.led=l∧t.plain=p:=by
 obtain ⟨o',e,L⟩:=Zs2 hc hs hn
 unfold SetTable.laid
 rw [e]
 refine ⟨_,_,rfl,?_,rfl,?_,rfl,rfl,rfl⟩
 ·rw [List.toList_toArray,ZoG L.sz];exact L.pm
 ·rw [List.size_toArray,List.length_map,Zuf L.sz,L.pm.length_eq,List.length_range]
theorem order_perm {α:Type} (es:Array α) (order:Array Nat) (h:order.toList.Perm (List.range es.size)):(order.filterMap (es[·]?)).toList.Perm es.toList:=by
 rw [Array.toList_filterMap]
 refine (h.filterMap _).trans ?_
 rw [show (List.range es.size).filterMap (fun x=>es[x]?)=es.toList from ?_]
 have:∀ (l:List α),(List.range l.length).filterMap (fun x=>l[x]?)=l:=fun l=>by
  induction l with
  | nil=>rfl
  | cons a l ih =>
   rw [List.length_cons,List.range_succ_eq_map,List.filterMap_cons]
   simp only [List.getElem?_cons_zero,List.filterMap_map]
   congr 1
 have h2:=this es.toList
 rw [Array.length_toList] at h2
 simpa only [Array.getElem?_toList] using h2
end Tb
def bt (w:World):Bool:=w.params.followText "set-order"
structure Tab (w:World) (es:Array (Int×Value)) (t:SetTable) (ks:List Str):Prop where
 el:∀ e∈es.toList,∃ x u,e=(hashStr w x,Value.str x u)
 pm:(es.toList.map fun e=>strOf e.2).Perm ks
 nd:ks.Nodup
 ft:t.fits es.size=true
 ld:bt w=false→t.led=true
 pl:t.plain=true→ks=[]
def SS (w:World) (h:Heap) (a:Addr) (ks:List Str):Prop:=∃ o es ep t,h.get? a=some o∧o.ExactSet∧o.data=.set es ep t∧Tab w es t ks
namespace Tab
variable {w:World} {es es':Array (Int×Value)} {t t':SetTable} {ks ks':List Str}
theorem len (T:Tab w es t ks):es.size=ks.length:=by
 have:=T.pm.length_eq
 rw [List.length_map,Array.length_toList] at this
 exact this
theorem elems (prog:Program) (T:Tab w es t ks):ElemsOf (strKind prog w) es.toList:=fun e he=>by
 obtain ⟨x,u,rfl⟩:=T.el e he
 exact ⟨⟨x,by show Value.isStrOf x (.str x u)=true;simp [Value.isStrOf],rfl⟩,rfl⟩
theorem perm (T:Tab w es t ks) (p:es'.toList.Perm es.toList) (f:t'.fits es'.size=true) (l:bt w=false→t'.led=true) (q:t'.plain=true→ks=[]):Tab w es' t' ks :=
 ⟨fun e he=>T.el e (p.mem_iff.mp he),(p.map _).trans T.pm,T.nd,f,l,q⟩
theorem mem (T:Tab w es t ks) (k:Str):k∈ks↔∃ e∈es.toList,Value.isStrOf k e.2=true:=by
 rw [← T.pm.mem_iff,List.mem_map]
 constructor
 ·rintro ⟨e,he,rfl⟩
  obtain ⟨x,u,rfl⟩:=T.el e he
  exact ⟨_,he,by show Value.isStrOf x (.str x u)=true;simp [Value.isStrOf]⟩
 ·rintro ⟨e,he,h⟩
  obtain ⟨x,u,rfl⟩:=T.el e he
  refine ⟨_,he,?_⟩
  obtain ⟨t,e2⟩:=Value.isStrOf_shape h
  injection e2
end Tab
theorem ZnH (t:SetTable) (n:Nat):(t.orStandIn n).led=t.led:=by
 unfold SetTable.orStandIn
 split <;> rfl
theorem Zwp (t:SetTable) (es:Array (Int×Value)) (h:Int) (x:Value):(layNew t es h x).2.1.led=t.led:=by
 unfold layNew
 split
 ·exact ZnH _ _
 ·rfl
theorem Zrb (t:SetTable) (es:Array (Int×Value)) (n:Nat):(relayAll t es n).2.1.led=t.led∧((relayAll t es n).2.1.plain=true→t.plain=true):=by
 unfold relayAll
 split
 ·rename_i t' order e
  dsimp only
  split
  ·unfold SetTable.relaid SetTable.laid at e
   simp only [Option.bind_eq_bind,Option.bind_eq_some_iff] at e
   obtain ⟨o,_,e⟩:=e
   cases e
   exact ⟨rfl,id⟩
  ·exact ⟨rfl,fun h=>by cases h⟩
 ·exact ⟨rfl,fun h=>by cases h⟩
section
variable {prog:Program} {w:World} {A:Around} {E:Value→Shared→Prop} {s:Shared}
theorem ZfG {h:Heap} {a:Addr} {o:Obj} {es es':Array (Int×Value)} {ep:Nat} {t t':SetTable} {ks:List Str} (ho:h.get? a=some o) (hx:o.ExactSet) (hd:o.data=.set es ep t) (T:Tab w es' t' ks) :
  (h.update a (Obj.putSet es' t')).get? a=some { o with data:=.set es' (ep+1) t' }∧SS w (h.update a (Obj.putSet es' t')) a ks:=by
 have hg:(h.update a (Obj.putSet es' t')).get? a=some { o with data:=.set es' (ep+1) t' }:=by
  have hz:=Heap.get?_update_self (Obj.putSet es' t') ho (by rw [putSet_of es' t' hd];rfl)
  rw [putSet_of es' t' hd] at hz
  exact hz
 exact ⟨hg,_,es',ep+1,t',hg,hx,rfl,T⟩
theorem Zv6 {es es1:Array (Int×Value)} {t t1:SetTable} {ks:List Str} {k:Str} {u:Tok} (T:Tab w es t ks) (hk:k∉ks) (p:es1.toList.Perm (es.toList++[(hashStr w k,Value.str k u)])) (f:t1.fits es1.size=true) (l:t1.led=t.led) (q:t1.plain=false):Tab w es1 t1 (k::ks):=by
 refine ⟨fun e he=>?_,?_,List.nodup_cons.mpr ⟨hk,T.nd⟩,f,fun h=>by rw [l];exact T.ld h,fun h=>by rw [q] at h;cases h⟩
 ·rcases List.mem_append.mp (p.mem_iff.mp he) with he | he
  ·exact T.el e he
  ·exact ⟨k,u,List.mem_singleton.mp he⟩
 ·refine (p.map _).trans ?_
  rw [List.map_append]
  exact (List.perm_append_singleton k _).trans (T.pm.cons k)
theorem ZuX {a:Addr} {ks:List Str} {k:Str} {u:Tok} {Q:Bool→Shared→Prop} (hS:SS w s.heap a ks) (hn:ks.length+1 < scanBound)
  (h:∀ h' b,Heap.SameBut a s.heap h'→SS w h' a (if k∈ks then ks else k::ks)→Q b { s with heap:=h' }):wpAny (model prog w) A (setAddHashed a (.str k u) (hashStr w k)) Q E s:=by
 obtain ⟨o,es,ep,t,ho,hx,hd,T⟩:=hS
 have hel:=T.elems prog
 have hkey:(strKind prog w).is k (.str k u)=true:=by show Value.isStrOf k (.str k u)=true;simp [Value.isStrOf]
 have hsc:(Value.str k u).scannable=true:=rfl
 have hsz:=T.len
 have hb:es.size < scanBound:=by omega
 unfold setAddHashed setAddHashedIn
 refine wpAny_holding (wpAny_bind (wpAny_setState_of ho hd T.ft ?_))
 dsimp only
 rw [byScan_of hsc hb hel,if_pos rfl]
 refine wpAny_bind ?_
 unfold setAddByScan
 refine wpAny_bind (wpAny_rule ?_)
 refine wpAny_bind (wpAny_setScan_of (knd:=strKind prog w) hkey ho hd T.ft hel ?_)
 have hgave:∀ (b:Bool) {s₁:Shared} {Q':Unit→Shared→Prop},Q' () s₁→wpAny (model prog w) A (match b with | true=>rule "set.scan.the-table-gave-way" | false=>pure ()) Q' E s₁:=fun b s₁ Q' z=>by
  cases b
  ·exact wpAny_pure z
  ·exact wpAny_rule z
 cases hr:List.findIdx? (fun e=>(strKind prog w).is k e.2) es.toList with
 | some j =>
  obtain ⟨hj,hpj,_⟩:=List.findIdx?_eq_some_iff_getElem.mp hr
  have hin:k∈ks:=(T.mem k).mpr ⟨_,List.getElem_mem hj,hpj⟩
  have hz:=h s.heap false (Heap.SameBut.refl a s.heap) (by rw [if_pos hin];exact ⟨o,es,ep,t,ho,hx,hd,T⟩)
  exact wpAny_pure (wpAny_pure hz)
 | none =>
  have hout:k∉ks:=fun hin=>by
   obtain ⟨e,he,hp⟩:=(T.mem k).mp hin
   have hz:=List.findIdx?_eq_none_iff.mp hr e he
   exact Bool.noConfusion (hz.symm.trans hp)
  have hperm:=layNew_perm t es (hashStr w k) (.str k u)
  have hfits:=layNew_fits t es (hashStr w k) (.str k u)
  have hled:=Zwp t es (hashStr w k) (.str k u)
  rw [if_neg hout] at h
  dsimp only
  show wpAny (model prog w) A _ _ E s
  have hhash:(strKind prog w).hash k=hashStr w k:=rfl
  revert hperm hfits hled
  generalize layNew t es (hashStr w k) (.str k u)=L
  obtain ⟨es1,t1,dm,gv⟩:=L
  intro hperm hfits hled
  dsimp only at hperm hfits hled ⊢
  rw [Array.toList_push] at hperm
  refine wpAny_bind (hgave _ ?_)
  have hz1:es1.size=es.size+1:=by rw [← Array.length_toList,hperm.length_eq,List.length_append,Array.length_toList];rfl
  have fin:∀ t2:SetTable,t2.fits es1.size=true→t2.led=t.led→t2.plain=false→wpAny (model prog w) A (do
    storeSet a es1 t2
    if (!dm&&t2.tooFull)=true then do
      (match (relayAll t2 es1 (SetTable.grown es1.size)).2.2 with | true=>rule "set.scan.the-table-gave-way" | false=>pure ())
      storeSet a (relayAll t2 es1 (SetTable.grown es1.size)).1 (relayAll t2 es1 (SetTable.grown es1.size)).2.1
      pure (some true)
     else pure (some true)) (fun r s'=>wpAny (model prog w) A (match r with | some added=>pure added | none=>setAddHashedIn a (.str k u) (hashStr w k) 99999) Q E s') E s:=fun t2 f2 l2 p2=>by
   have T2:Tab w es1 t2 (k::ks):=Zv6 T hout hperm f2 l2 p2
   refine wpAny_bind (wpAny_storeSet_of ho hd ?_ (fits_of_scanBound (by omega)))
   obtain ⟨ho1,hS1⟩:=ZfG ho hx hd T2
   have b1:=Heap.SameBut.update s.heap a (Obj.putSet es1 t2)
   split
   ·have hp:=relayAll_perm t2 es1 (SetTable.grown es1.size)
    have hf:=relayAll_fits t2 es1 (SetTable.grown es1.size)
    have hg:=Zrb t2 es1 (SetTable.grown es1.size)
    have T3:=T2.perm hp hf (fun z=>by rw [hg.1,l2];exact T.ld z) (fun z=>by rw [hg.2 z] at p2;cases p2)
    refine wpAny_bind (hgave _ ?_)
    refine wpAny_bind (wpAny_storeSet_of ho1 rfl ?_ (fits_of_scanBound (by rw [T3.len,← T2.len];omega)))
    obtain ⟨_,hS2⟩:=ZfG ho1 hx rfl T3
    exact wpAny_pure (wpAny_pure (h _ _ (b1.trans (Heap.SameBut.update _ a _)) hS2))
   ·exact wpAny_pure (wpAny_pure (h _ _ b1 hS1))
  split
  ·refine wpAny_bind ?_
   rw [hashByValue_scannable 8 hsc]
   refine wpAny_pure ?_
   exact fin _ (SetTable.fits_plain_off hfits) hled rfl
  ·rename_i hpl
   refine wpAny_bind (wpAny_pure ?_)
   exact fin _ hfits hled (by simpa using hpl)
end
section
variable {prog:Program} {w:World} {A:Around} {E:Value→Shared→Prop} {s:Shared}
theorem SS.kept {h h':Heap} {a:Addr} {ks:List Str} (S:SS w h a ks) (k:∀ o,h.get? a=some o→h'.get? a=some o):SS w h' a ks:=by
 obtain ⟨o,es,ep,t,ho,r⟩:=S
 exact ⟨o,es,ep,t,k o ho,r⟩
theorem SS.nd {h:Heap} {a:Addr} {ks:List Str} (S:SS w h a ks):ks.Nodup:=by
 obtain ⟨o,es,ep,t,ho,_,_,T⟩:=S
 exact T.nd
theorem Zo9 {h:Heap} {a:Addr} (led:Bool) (hl:bt w=false→led=true) (ho:h.get? a=some { cls:=.type "set",dict:=none,data:=.set #[] 0 (.fresh 0 0 led) }):SS w h a [] :=
 ⟨_,#[],0,_,ho,⟨rfl,rfl,rfl⟩,rfl,⟨fun e he=>by simp at he,List.Perm.refl _,List.nodup_nil,rfl,hl,fun _=>rfl⟩⟩
theorem ZvH {R:Result→Shared→Prop} {I:Addr} {fp wr:List Addr} {G:Array GenState→Array GenState→Prop} {n:Nat} {P:Nat→Value→Prop} {St:Nat→Shared→Prop} (W:WalksS prog w A.in1 I fp wr G n P St) {S:Addr} (hSf:S∉fp)
  {val:Nat→Str} (hval:∀ i v,P i v→∃ t,v=.str (val i) t):∀ (k i:Nat) (s:Shared) (ks:List Str),n - i=k→i≤n→St i s→SS w s.heap S ks→ks.length+k < scanBound →
   (∀ s' ks',Moved (S::wr) G s s'→SS w s'.heap S ks'→(∀ x,x∈ks'↔x∈ks∨∃ j,i≤j∧j < n∧val j=x)→R (.ok (.ret .none)) s') →
   codeAny (model prog w) A (.builtin "set.update.loop" ⟨[.ref S,.ref I],[]⟩) R s:=by
 have hSw:S∉wr:=fun z=>hSf (W.sub _ z)
 have hsub:∀ b∈wr,b∈S::wr:=fun b z=>List.mem_cons_of_mem _ z
 intro k
 induction k with
 | zero =>
  intro i s ks hk hi hst hS _ hR
  obtain rfl:i=n:=by omega
  refine codeAny_builtin PyProof.Rows.F.entry_set_update_loop ?_
  rw [Around.under_plainId PyProof.Rows.F.plain_set_update_loop _]
  refine wpAny_bind (m:=pyNext (.ref I)) (W.done s _ _ hst fun s' hm=>?_)
  refine wpAny_pure (hR s' ks (hm.mono hsub) (hS.kept fun o e=>hm.heap S o hSw e) fun x=>⟨.inl,?_⟩)
  rintro (h | ⟨j,h1,h2,_⟩)
  ·exact h
  ·omega
 | succ k ih =>
  intro i s ks hk hi hst hS hn hR
  have hlt:i < n:=by omega
  refine codeAny_builtin PyProof.Rows.F.entry_set_update_loop ?_
  rw [Around.under_plainId PyProof.Rows.F.plain_set_update_loop _]
  refine wpAny_bind (m:=pyNext (.ref I)) (W.item i s _ _ hlt hst fun v s1 hP hst1 hm=>?_)
  obtain ⟨t,rfl⟩:=hval i v hP
  have hS1:SS w s1.heap S ks:=hS.kept fun o e=>hm.heap S o hSw e
  refine wpAny_bind (m:=holding [Value.str (val i) t] (setAdd S (.str (val i) t))) (wpAny_holding ?_)
  unfold setAdd
  refine wpAny_holding (wpAny_bind ((strKind prog w).pyHash (k:=val i) (by show Value.isStrOf (val i) (.str (val i) t)=true;simp [Value.isStrOf]) ?_))
  refine ZuX (s:={ s1 with toks:=s1.toks+1 }) hS1 (by omega) fun h' b hsb hS2=>?_
  refine wpAny_pure ⟨plainId_quiet PyProof.Rows.F.plain_set_update_loop _,ih (i+1) _ _ (by omega) hlt (W.frame _ s1 _ _ hst1 (Nat.le_succ _) fun c hc o e=>?_) hS2 ?_ fun s2 ks' hm2 hS3 hx=>?_⟩
  ·rw [hsb.2 c fun z:c=S=>hSf (by rw [← z];exact hc)];exact e
  ·split
   ·omega
   ·rw [List.length_cons];omega
  ·refine hR s2 ks' (Moved.trans W.gtrans ((hm.mono hsub).then_heap (Nat.le_succ _) fun c o hc e=>?_) hm2) hS3 fun x=>(hx x).trans ?_
   ·rw [hsb.2 c fun z:c=S=>hc (by rw [z];exact List.mem_cons_self)];exact e
   ·have hmem:x∈(if val i∈ks then ks else val i::ks)↔x∈ks∨val i=x:=by
     split
     ·rename_i hin
      exact ⟨.inl,fun z=>z.elim id fun e=>e▸hin⟩
     ·rw [List.mem_cons]
      exact ⟨fun z=>z.elim (fun e=>.inr e.symm) .inl,fun z=>z.elim .inr fun e=>.inl e.symm⟩
    rw [hmem]
    constructor
    ·rintro ((h | h) | ⟨j,h1,h2,h3⟩)
     ·exact .inl h
     ·exact .inr ⟨i,Nat.le_refl _,hlt,h⟩
     ·exact .inr ⟨j,by omega,h2,h3⟩
    ·rintro (h | ⟨j,h1,h2,h3⟩)
     ·exact .inl (.inl h)
     ·by_cases e:j=i
      ·subst e;exact .inl (.inr h3)
      ·exact .inr ⟨j,by omega,h2,h3⟩
end
abbrev Zbg (led:Bool):Obj:={ cls:=.type "set",dict:=none,data:=.set #[] 0 (.fresh 0 0 led) }
section
variable {prog:Program} {w:World} {A:Around} {E:Value→Shared→Prop} {s:Shared}
theorem Zwa {Q:Value→Shared→Prop} (h:∀ led:Bool,(bt w=false→led=true)→Q (.ref s.heap.objs.size) { s with heap:=s.heap.push (Zbg led) }):wpAny (model prog w) A (newSet (.type "set")) Q E s:=by
 unfold newSet setsByText
 walk_at "pa"
 simp only [newObj]
 refine wpAny_bind (wpAny_alloc (wpAny_pure (h _ fun z=>?_)))
 show (!(bt w))=true
 rw [z];rfl
theorem Zuh (a:Value) {Q:Value→Shared→Prop} (h:∀ led:Bool,(bt w=false→led=true)→Q (.ref s.heap.objs.size) { s with heap:=s.heap.push (Zbg led) }) :
  codeAny (model prog w) A (.call (.builtin "set.__new__") ⟨[.type "set",a],[]⟩) (wants Q E) s:=by
 refine codeAny_of_tree (?_:wpAny _ A.in1 (do checkBuiltinCall "set.__new__" ⟨[.type "set",a],[]⟩;again (.builtin "set.__new__" ⟨[.type "set",a],[]⟩)) _ _ s)
 refine wpAny_bind (wpAny_of_eq (PySem.F.newCall_set_1 a) (wpAny_pure ⟨plainId_quiet PySem.F.plain_set_new _,codeAny_builtin PySem.F.entry_set_new ?_⟩))
 rw [Around.under_plainId PySem.F.plain_set_new _];unfold Builtin.«set.__new__» Builtin.Frozenset.newClass
 have hq:=sub_set_self
 obtain ⟨hp,g,d,tk,os⟩:=s
 dsimp only
 wp_walk
 refine wpAny_askSetting (wpAny_pure ?_)
 simp only [newObj]
 refine wpAny_bind (wpAny_alloc (wpAny_pure (wpAny_pure (h _ fun z=>?_))))
 show (!(bt w))=true
 rw [z];rfl
theorem ZrV:∀ {vs:List Value} {xs:List Str},StrsAre vs xs→∀ (i:Nat) (v:Value),vs[i]?=some v→∃ t,v=.str (xs.getD i (Str.ofString "")) t
 | _,_,.nil,i,v,h=>by simp at h
 | _,_,.cons x t r,0,v,h=>⟨t,by simp at h;exact h.symm⟩
 | _,_,.cons x t r,i+1,v,h=>ZrV r i v (by simpa using h)
set_option maxHeartbeats 3200000 in
theorem ZoP {l:Addr} {items:Array Value} {xs:List Str} {Q:Value→Shared→Prop} (hh:A.handled=none) (hl:s.heap.IsList l items) (hi:StrsAre items.toList xs) (hb:items.size < scanBound)
  (h:∀ (h':Heap) (tk:Nat) (ks:List Str),SS w h' s.heap.objs.size ks→(∀ x,x∈ks↔x∈xs)→(∀ b o,b < s.heap.objs.size→s.heap.get? b=some o→h'.get? b=some o)→Q (.ref s.heap.objs.size) { s with heap:=h',toks:=tk }) :
  wpAny (model prog w) A (call (.type "set") [.ref l]) Q E s:=by
 obtain ⟨c,tl,hmro⟩:=PySem.F.called_set.mro
 have hmade:=PySem.F.called_set.made
 have hsub:=PySem.F.called_set.sub
 refine wpAny_call (codeAny_of_tree (?_:wpAny _ _ (callAny (.type "set") _) _ _ _))
 refine wpAny_pure ⟨Code.quiet_builtin _ (by decide +kernel),codeAny_builtin PySem.F.entry_type_call ?_⟩
 rw [Around.under_plain (weight_type_call_type "set" [.ref l] []) rfl]
 have h1:=PySem.F.called_set.notType
 have h2:=PySem.F.called_set.canCreate
 have hct:=PySem.F.typeCall_set_1 (.ref l)
 (repeat (any_goals (first | assumption | wp_step)))
 refine codeAny_mono (Zuh (.ref l) (E:=E) (Q:=fun obj s₁=>∃ led:Bool,(bt w=false→led=true)∧obj=.ref s.heap.objs.size∧s₁={ s with heap:=s.heap.push (Zbg led) }) fun led z=>⟨led,z,rfl,rfl⟩) fun r s₁ hr=>?_
 match r,hr with
 | .error e,hr=>exact hr
 | .ok .next,hr=>exact hr.elim
 | .ok .brk,hr=>exact hr.elim
 | .ok .cont,hr=>exact hr.elim
 | .ok (.ret obj),hr =>
  obtain ⟨led,hled,rfl,rfl⟩:=hr
  have hS:(s.heap.push (Zbg led)).get? s.heap.objs.size=some (Zbg led):=Heap.get?_push_size _ rfl
  have hT:Shared.TypeIs { s with heap:=s.heap.push (Zbg led) } (.ref s.heap.objs.size) "set":=⟨_,hS,rfl⟩
  have hli:=PySem.F.called_set.init.lookup
  have hbi:=PySem.F.called_set.init.bind (.ref s.heap.objs.size)
  (repeat (any_goals (first | assumption | wp_step)))
  refine codeAny_mono (codeAny_call_builtin (R:=wants (fun r s₂=>r=.none∧∃ h' tk ks,s₂={ s with heap:=h',toks:=tk }∧SS w h' s.heap.objs.size ks∧(∀ x,x∈ks↔x∈xs)∧(∀ b o,b < s.heap.objs.size→s.heap.get? b=some o→h'.get? b=some o)) E) PySem.F.called_set.init.plain PySem.F.entry_set_init (check_set_init_1 hT ?_)) fun r₂ s₂ hr₂=>?_
  ·obtain ⟨ol,hol,hcl,nl,hdl⟩:=hl
   obtain ⟨ocls,odict,odata,oslots⟩:=ol
   simp only at hcl hdl
   subst hcl hdl
   have hol':(s.heap.push (Zbg led)).get? l=some { cls:=.type "list",dict:=odict,data:=.seq items nl,slots:=oslots }:=Heap.get?_push_of_some _ hol
   have hs1:=PySem.F.sub_list_set
   have hs2:=PySem.F.sub_list_frozenset
   have hne:(Value.type "list"==Value.type "dict")=false:=by decide
   have hl1:(s.heap.push (Zbg led)).IsList l items:=⟨_,hol',rfl,nl,rfl⟩
   unfold Builtin.«set.__init__» noKeywords Builtin.Frozenset.updateFrom
   generalize hPI:pyIter=PI
   wp_walk
   subst hPI
   refine wpAny_pyIter_list hl1 (wpAny_bind (wpAny_runValue ?_))
   have hlS:l < s.heap.objs.size:=Heap.lt_size hol
   have hneI:l≠(s.heap.push (Zbg led)).objs.size:=by rw [Heap.size_push];exact Nat.ne_of_lt (Nat.lt_succ_of_lt hlS)
   have hSf:s.heap.objs.size∉[(s.heap.push (Zbg led)).objs.size,l]:=by
    rw [Heap.size_push]
    simp only [List.mem_cons,List.not_mem_nil,or_false,not_or]
    exact ⟨Nat.ne_of_lt (Nat.lt_succ_self _),Nat.ne_of_gt hlS⟩
   have hval:∀ (i:Nat) (v:Value),items[i]?=some v→∃ t,v=.str (xs.getD i (Str.ofString "")) t:=fun i v hv=>ZrV hi i v (by rw [Array.getElem?_toList];exact hv)
   have hxl:items.size=xs.length:=by rw [← Array.length_toList];exact hi.length
   refine ZvH ((Walks.list (by simp [hh]) _ l hneI items).toS) hSf hval (items.size - 0) 0 _ [] (by omega) (Nat.zero_le _) ⟨⟨_,Heap.get?_push_size _ rfl,rfl,rfl⟩,hl1.push _⟩ ?_ (by simp only [List.length_nil];omega) ?_
   ·exact Zo9 led hled (Heap.get?_push_of_some _ hS)
   ·intro s' ks hm hS' hx
    obtain ⟨h',g',d',tk',os'⟩:=s'
    obtain rfl:g'=s.gens:=hm.gens
    obtain rfl:d'=s.drawn:=hm.drawn
    obtain rfl:os'=s.os:=hm.os
    refine wpAny_pure (wpAny_pure ⟨rfl,h',tk',ks,rfl,hS',fun x=>(hx x).trans ?_,fun b o hb e=>?_⟩)
    ·constructor
     ·rintro (z | ⟨j,_,hj,e⟩)
      ·cases z
      ·rw [← e]
       rw [List.getD_eq_getElem?_getD,List.getElem?_eq_getElem (by omega)]
       exact List.getElem_mem _
     ·intro hx
      obtain ⟨j,hj,e⟩:=List.getElem_of_mem hx
      refine .inr ⟨j,Nat.zero_le _,by omega,?_⟩
      rw [List.getD_eq_getElem?_getD,List.getElem?_eq_getElem hj]
      exact e
    ·refine hm.heap b o ?_ (Heap.get?_push_of_some _ (Heap.get?_push_of_some _ e))
     simp only [List.mem_cons,List.not_mem_nil,or_false,not_or]
     rw [Heap.size_push]
     exact ⟨Nat.ne_of_lt hb,Nat.ne_of_lt (Nat.lt_succ_of_lt hb)⟩
  ·match r₂,hr₂ with
   | .error e,hr₂=>exact hr₂
   | .ok .next,hr₂=>exact hr₂.elim
   | .ok .brk,hr₂=>exact hr₂.elim
   | .ok .cont,hr₂=>exact hr₂.elim
   | .ok (.ret r),hr₂ =>
    obtain ⟨rfl,h',tk,ks,rfl,hS',hx,hk'⟩:=hr₂
    (repeat (any_goals (first | assumption | wp_step)))
    exact h _ _ _ hS' hx hk'
end
theorem Zs8 {n:Nat} (h:n < 64):(SetTable.sizeAbove n=8∨SetTable.sizeAbove n=16∨SetTable.sizeAbove n=32∨SetTable.sizeAbove n=64)∧n < SetTable.sizeAbove n:=by
 have:∀ m:Fin 64,(SetTable.sizeAbove m.1=8∨SetTable.sizeAbove m.1=16∨SetTable.sizeAbove m.1=32∨SetTable.sizeAbove m.1=64)∧m.1 < SetTable.sizeAbove m.1:=by decide +kernel
 exact this ⟨n,h⟩
theorem Zka {n:Nat} (h:n < 64):Tb.cover (SetTable.sizeAbove n - 1+1)=true∧n < SetTable.sizeAbove n∧SetTable.sizeAbove n≤64:=by
 obtain ⟨h1,h2⟩:=Zs8 h
 rcases h1 with e | e | e | e <;> rw [e] at h2 ⊢
 ·exact ⟨Tb.cover8,h2,by decide⟩
 ·exact ⟨Tb.cover16,h2,by decide⟩
 ·exact ⟨Tb.cover32,h2,by decide⟩
 ·exact ⟨Tb.cover64,h2,by decide⟩
theorem ZrQ {t:SetTable} {n:Nat} (h1:t.place.size=n) (h2:t.dummies=#[]) (h3:n≤t.mask):t.fits n=true:=by
 unfold SetTable.fits SetTable.fill
 rw [h2,h1]
 simp
 exact h3
section
variable {prog:Program} {w:World} {A:Around} {E:Value→Shared→Prop} {s:Shared}
theorem Zpj {es:Array (Int×Value)} {t:SetTable} {ks:List Str} (T:Tab w es t ks) {mask f m:Nat} {l p:Bool} (hc:Tb.cover (mask+1)=true) (hn:ks.length≤mask) (hl:bt w=false→l=true) (hp:p=true→ks=[]) :
  ∃ t' order,SetTable.laid mask f m l p (es.map (·.1))=some (t',order)∧(order.filterMap (es[·]?)).size=es.size∧Tab w (order.filterMap (es[·]?)) t' ks:=by
 have hz:=T.len
 obtain ⟨t',order,e,hpm,e1,e2,e3,e4,e5⟩:=Tb.laid_ok hc f m l p (es.map (·.1)) (by rw [Array.size_map];omega)
 rw [Array.size_map] at hpm e2
 have hq:=Tb.order_perm es order hpm
 have hsz:(order.filterMap (es[·]?)).size=es.size:=by rw [← Array.length_toList,hq.length_eq,Array.length_toList]
 refine ⟨t',order,e,hsz,T.perm hq ?_ (fun z=>by rw [e4];exact hl z) fun z=>hp (by rw [← e5];exact z)⟩
 rw [hsz]
 exact ZrQ e2 e3 (by rw [e1];omega)
theorem ZsN {a:Addr} {ks:List Str} {n:Nat} {Q:Unit→Shared→Prop} (hS:SS w s.heap a ks) (hn:n < 64) (hk:ks.length≤n)
  (h:∀ h',Heap.SameBut a s.heap h'→SS w h' a ks→Q () { s with heap:=h' }):wpAny (model prog w) A (setRelay a n) Q E s:=by
 obtain ⟨o,es,ep,t,ho,hx,hd,T⟩:=hS
 obtain ⟨hc,h1,h2⟩:=Zka hn
 have hz:=T.len
 unfold setRelay
 walk_at "pC"
 dsimp only
 rw [if_neg (by have:(64:Nat)≤sizeLine:=by decide
                omega)]
 obtain ⟨t',order,e,hsz,T'⟩:=Zpj (f:=t.finger) (m:=t.movedTo (SetTable.sizeAbove n - 1)) (l:=t.led) (p:=t.plain) T hc (by omega) T.ld T.pl
 refine wpAny_bind ?_
 unfold SetTable.relaid
 rw [e]
 show wpAny (model prog w) A (if ((order.filterMap (es[·]?)).size != es.size)=true then _ else pure (order.filterMap (es[·]?),t')) _ E s
 rw [if_neg (by rw [hsz];simp)]
 refine wpAny_pure (wpAny_storeSet_of ho hd ?_ (fits_of_scanBound (by rw [hsz];unfold scanBound;omega)))
 exact h _ (Heap.SameBut.update s.heap a _) (ZfG ho hx hd T').2
theorem Zwf {a:Addr} {ks:List Str} {n:Nat} {Q:Unit→Shared→Prop} (hS:SS w s.heap a ks) (hn:ks.length+n < 32)
  (h:∀ h',Heap.SameBut a s.heap h'→SS w h' a ks→Q () { s with heap:=h' }):wpAny (model prog w) A (setRoomFor a n) Q E s:=by
 have hS':=hS
 obtain ⟨o,es,ep,t,ho,hx,hd,T⟩:=hS
 have hz:=T.len
 unfold setRoomFor
 walk_at "pC"
 have hp:t.place.size=es.size:=by
  have:=T.ft
  unfold SetTable.fits at this
  simp only [Bool.and_eq_true,beq_iff_eq] at this
  exact this.1
 dsimp only
 unfold SetTable.roomFor
 split
 ·rename_i v e
  split at e
  ·cases e
   exact ZsN hS' (by omega) (by omega) h
  ·cases e
 ·exact wpAny_pure (h s.heap (Heap.SameBut.refl a s.heap) hS')
end
theorem Zib {α:Type}:∀ (l:List α) (i:Nat) (h:i < l.length),(l[i]::l.eraseIdx i).Perm l
 | a::l,0,h=>List.Perm.refl _
 | a::l,i+1,h=>by
  have h':i < l.length:=Nat.lt_of_succ_lt_succ h
  exact (List.Perm.swap a (l[i]'h') (l.eraseIdx i)).trans ((Zib l i h').cons a)
theorem ZqH {α:Type} (next:Nat→Nat):∀ (n k:Nat) (left:List α) (out:Array α),left.length=n→(pickOrder.go next n k left out).toList.Perm (out.toList++left)
 | 0,k,left,out,h=>by
  obtain rfl:=List.length_eq_zero_iff.mp h
  rw [List.append_nil]
  exact List.Perm.refl _
 | n+1,k,left,out,h=>by
  have hlt:next k % left.length < left.length:=Nat.mod_lt _ (by omega)
  unfold pickOrder.go
  rw [List.getElem?_eq_getElem hlt]
  dsimp only
  refine (ZqH next n (k+1) _ _ (by rw [List.length_eraseIdx_of_lt hlt];omega)).trans ?_
  rw [Array.toList_push,List.append_assoc]
  refine List.Perm.append_left _ ?_
  exact Zib left _ hlt
theorem Zmw {α:Type} (next:Nat→Nat) (xs:Array α):(pickOrder next xs).toList.Perm xs.toList:=by
 have:=ZqH next xs.size 0 xs.toList #[] (by simp)
 unfold pickOrder
 simpa using this
section
variable {prog:Program} {w:World} {A:Around} {E:Value→Shared→Prop} {s:Shared}
theorem ZlI {Q:Option Bool×Unit→Shared→Prop} {f:Int×Value→Option Bool×Unit→Sem (ForInStep (Option Bool×Unit))} (hf:∀ e,(∃ x u,e=(hashStr w x,Value.str x u))→f e (none,())=pure (ForInStep.yield (none,()))) :
  ∀ (l:List (Int×Value)),(∀ e∈l,∃ x u,e=(hashStr w x,Value.str x u))→Q (none,()) s→wpAny (model prog w) A (forIn l (none,()) f) Q E s
 | [],_,q=>wpAny_pure q
 | e::l,h,q=>by
  rw [List.forIn_cons,hf e (h e List.mem_cons_self)]
  exact wpAny_bind (wpAny_pure (ZlI hf l (fun x hx=>h x (List.mem_cons_of_mem _ hx)) q))
theorem ZtQ {a b:Addr} {ka kb:List Str} {Q:Bool→Shared→Prop} (ha:SS w s.heap a ka) (hb:SS w s.heap b kb) (q:Q true s):wpAny (model prog w) A (setsQuiet [a,b]) Q E s:=by
 obtain ⟨oa,ea,pa,ta,ho,hx,hd,T⟩:=ha
 obtain ⟨ob,eb,pb,tb,ho2,hx2,hd2,T2⟩:=hb
 have hyield:∀ e:Int×Value,(∃ x u,e=(hashStr w x,Value.str x u))→True:=fun _ _=>trivial
 unfold setsQuiet
 refine wpAny_bind ?_
 rw [List.forIn_cons]
 refine wpAny_bind (wpAny_bind (wpAny_setEntries_of ho hd T.ft ?_))
 rw [← Array.forIn_toList]
 refine wpAny_bind (ZlI (w:=w) (fun e he=>?_) ea.toList T.el (wpAny_pure ?_))
 ·obtain ⟨x,u,rfl⟩:=he;rfl
 dsimp only
 rw [List.forIn_cons]
 refine wpAny_bind (wpAny_bind (wpAny_setEntries_of ho2 hd2 T2.ft ?_))
 rw [← Array.forIn_toList]
 refine wpAny_bind (ZlI (w:=w) (fun e he=>?_) eb.toList T2.el (wpAny_pure ?_))
 ·obtain ⟨x,u,rfl⟩:=he;rfl
 dsimp only
 rw [List.forIn_nil]
 exact wpAny_pure (wpAny_pure q)
theorem Zwj {o f:Addr} {ko ks:List Str} {ob:Obj} {es:Array (Int×Value)} {ep:Nat} {t:SetTable} {Q:Array (Int×Value)→Shared→Prop} (ho:s.heap.get? o=some ob) (hx:ob.ExactSet) (hd:ob.data=.set es ep t) (T:Tab w es t ko) (hf:SS w s.heap f ks) (hk:ks.length < scanBound)
  (h:∀ h' l,Heap.SameBut f s.heap h'→SS w h' f ks→l.toList.Perm es.toList→Q l { s with heap:=h' }):wpAny (model prog w) A (setWalkUnseen o [f] (some f)) Q E s:=by
 have hz:=T.len
 have hall:bt w=true∨es.size≤1→wpAny (model prog w) A (setWalk o) Q E s:=fun hw=>by
  unfold setWalk
  walk_at "pC"
  dsimp only
  unfold setsByText
  walk_at "pa"
  show wpAny (model prog w) A (if bt w=true then _ else _) Q E s
  by_cases hb:bt w=true
  ·rw [if_pos hb]
   exact wpAny_bind (wpAny_askSetting (wpAny_pure (h s.heap _ (Heap.SameBut.refl _ _) hf (Zmw _ _))))
  ·rw [if_neg hb]
   have h1:es.size≤1:=hw.resolve_left hb
   show wpAny (model prog w) A (if (!t.plain&&decide (es.size > 1))=true then _ else _) Q E s
   rw [if_neg (by have:¬ es.size > 1:=by omega
                  simp [this])]
   refine wpAny_bind ?_
   show wpAny (model prog w) A (if (!t.led&&decide (es.size > 1))=true then _ else pure ()) _ E s
   rw [if_neg (by have:¬ es.size > 1:=by omega
                  simp [this])]
   exact wpAny_pure (wpAny_pure (h s.heap _ (Heap.SameBut.refl _ _) hf (List.Perm.refl _)))
 unfold setWalkUnseen
 walk_at "pC"
 dsimp only
 unfold setsByText
 walk_at "pa"
 show wpAny (model prog w) A (if (bt w||t.led&&t.plain||decide (es.size≤1))=true then _ else _) Q E s
 by_cases hc:(bt w||t.led&&t.plain||decide (es.size≤1))=true
 ·rw [if_pos hc]
  refine hall ?_
  simp only [Bool.or_eq_true,Bool.and_eq_true,decide_eq_true_eq] at hc
  rcases hc with (hc | hc) | hc
  ·exact .inl hc
  ·have:=T.pl hc.2
   subst this
   exact .inr (by rw [hz];decide)
  ·exact .inr hc
 ·rw [if_neg hc]
  simp only [Bool.or_eq_true,Bool.and_eq_true,decide_eq_true_eq,not_or] at hc
  have hb:bt w=false:=by simpa using hc.1.1
  refine wpAny_bind (ZtQ ⟨ob,es,ep,t,ho,hx,hd,T⟩ hf ?_)
  rw [if_neg (by decide)]
  refine wpAny_bind (wpAny_rule ?_)
  have hf':=hf
  obtain ⟨of,ef,pf,tf,hof,hxf,hdf,Tf⟩:=hf
  refine wpAny_bind (wpAny_setState_of hof hdf Tf.ft ?_)
  dsimp only
  split
  ·refine wpAny_bind (wpAny_storeSet_of hof hdf ?_ ?_)
   ·refine wpAny_pure (h _ _ (Heap.SameBut.update s.heap f _) (ZfG hof hxf hdf (Tf.perm (List.Perm.refl _) ?_ (fun _=>?_) fun z=>?_)).2 (List.Perm.refl _))
    ·cases tf;exact Tf.ft
    ·show (tf.led&&t.led)=true
     rw [Tf.ld hb,T.ld hb];rfl
    ·refine Tf.pl ?_
     have z':(tf.plain&&t.plain)=true:=z
     simp only [Bool.and_eq_true] at z'
     exact z'.1
   ·exact fits_of_scanBound (by rw [Tf.len];exact hk)
  ·exact wpAny_pure (h _ _ (Heap.SameBut.refl _ _) hf' (List.Perm.refl _))
theorem ZqX {a o:Addr} {ob:Obj} {es:Array (Int×Value)} {ep:Nat} {t:SetTable} (hne:o≠a) (hd:ob.data=.set es ep t) (hf:t.fits es.size=true) {each:Sem Unit} (he:∀ (s':Shared) (Q':Unit→Shared→Prop),s'.heap.get? o=some ob→Q' () s'→wpAny (model prog w) A each Q' E s') {f:Int×Value→PUnit→Sem (ForInStep PUnit)}
  (hbody:∀ x u,f (hashStr w x,Value.str x u) PUnit.unit=(do let _ ← holding [Value.str x u] (setAddHashed a (Value.str x u) (hashStr w x));each;let r ← setState o;if (r.2.1 != ep)=true then (do unsupported "set.changed-during-merge";pure (ForInStep.yield PUnit.unit)) else pure (ForInStep.yield PUnit.unit))) :
  ∀ (l:List (Int×Value)) (s:Shared) (ks:List Str) (Q:PUnit→Shared→Prop),(∀ e∈l,∃ x u,e=(hashStr w x,Value.str x u))→s.heap.get? o=some ob→SS w s.heap a ks→ks.length+l.length < scanBound →
   (∀ h' ks',Heap.SameBut a s.heap h'→SS w h' a ks'→(∀ x,x∈ks'↔x∈ks∨x∈l.map fun e=>strOf e.2)→Q PUnit.unit { s with heap:=h' })→wpAny (model prog w) A (forIn l PUnit.unit f) Q E s
 | [],s,ks,Q,_,_,hS,_,h=>wpAny_pure (h s.heap ks (Heap.SameBut.refl _ _) hS fun x=>⟨.inl,fun z=>z.elim id fun z=>by cases z⟩)
 | e::l,s,ks,Q,hel,ho,hS,hn,h=>by
  obtain ⟨x,u,rfl⟩:=hel e List.mem_cons_self
  simp only [List.length_cons] at hn
  rw [List.forIn_cons,hbody x u]
  refine wpAny_bind (wpAny_bind (wpAny_holding (ZuX hS (by omega) fun h1 b hsb hS1=>?_)))
  have ho1:h1.get? o=some ob:=by rw [hsb.2 o hne];exact ho
  refine wpAny_bind (he _ _ ho1 (wpAny_bind (wpAny_setState_of ho1 hd hf ?_)))
  rw [if_neg (by simp)]
  refine wpAny_pure (ZqX hne hd hf he hbody l _ _ Q (fun y hy=>hel y (List.mem_cons_of_mem _ hy)) ho1 hS1 (by split <;> (try rw [List.length_cons]) <;> omega) fun h2 ks' hsb2 hS2 hx=>?_)
  refine h h2 ks' (hsb.trans hsb2) hS2 fun y=>(hx y).trans ?_
  rw [List.map_cons,List.mem_cons]
  show _↔y∈ks∨y=x∨_
  have hm:y∈(if x∈ks then ks else x::ks)↔y∈ks∨y=x:=by
   split
   ·rename_i hin
    exact ⟨.inl,fun z=>z.elim id fun e=>e▸hin⟩
   ·rw [List.mem_cons]
    exact ⟨fun z=>z.elim .inr .inl,fun z=>z.elim .inr .inl⟩
  rw [hm,or_assoc]
end
section
variable {prog:Program} {w:World} {A:Around} {E:Value→Shared→Prop} {s:Shared}
structure Bare (led:Bool) (n:Nat) (t:SetTable):Prop where
 pl:t.place=#[]
 dm:t.dummies=#[]
 cv:Tb.cover (t.mask+1)=true
 rm:n≤t.mask
 ld:t.led=led
theorem Bare.fits {led:Bool} {n:Nat} {t:SetTable} (B:Bare led n t):t.fits 0=true:=ZrQ (by rw [B.pl];rfl) B.dm (Nat.zero_le _)
theorem Zq8 {a:Addr} {led:Bool} {n:Nat} {Q:Unit→Shared→Prop} (ha:s.heap.get? a=some (Zbg led)) (hn:n < 16)
  (h:∀ h' ep t,Heap.SameBut a s.heap h'→h'.get? a=some { Zbg led with data:=.set #[] ep t }→Bare led n t→Q () { s with heap:=h' }):wpAny (model prog w) A (setRoomFor a n) Q E s:=by
 unfold setRoomFor
 refine wpAny_bind (wpAny_setState_of ha rfl rfl ?_)
 show wpAny (model prog w) A (match (if (0+n)*5≥7*3 then some ((0+n)*2) else none) with | some v=>setRelay a v | _=>pure ()) Q E s
 by_cases hc:(0+n)*5≥7*3
 ·rw [if_pos hc]
  obtain ⟨hcv,h1,h2⟩:=Zka (n:=(0+n)*2) (by omega)
  dsimp only
  unfold setRelay
  refine wpAny_bind (wpAny_setState_of ha rfl rfl ?_)
  dsimp only
  rw [if_neg (by have:(64:Nat)≤sizeLine:=by decide
                 omega)]
  obtain ⟨t',order,e,hpm,e1,e2,e3,e4,e5⟩:=Tb.laid_ok hcv (SetTable.fresh 0 0 led).finger ((SetTable.fresh 0 0 led).movedTo (SetTable.sizeAbove ((0+n)*2) - 1)) (SetTable.fresh 0 0 led).led (SetTable.fresh 0 0 led).plain (Array.map (·.1) (#[]:Array (Int×Value))) (by simp)
  refine wpAny_bind ?_
  unfold SetTable.relaid
  rw [e]
  have hord:order=#[]:=by
   have:=hpm.length_eq
   simp at this
   exact this
  subst hord
  show wpAny (model prog w) A (pure ((#[]:Array Nat).filterMap ((#[]:Array (Int×Value))[·]?),t')) _ E s
  refine wpAny_pure (wpAny_storeSet_of ha rfl ?_ (Nat.zero_le _))
  refine h _ 1 t' (Heap.SameBut.update s.heap a _) ?_ ⟨?_,e3,by rw [e1];exact hcv,by rw [e1];omega,e4⟩
  ·have hz:=Heap.get?_update_self (Obj.putSet #[] t') ha (by rw [putSet_of #[] t' rfl];rfl)
   rw [putSet_of #[] t' rfl] at hz
   exact hz
  ·exact Array.eq_empty_of_size_eq_zero (by rw [e2];simp)
 ·rw [if_neg hc]
  exact wpAny_pure (h s.heap 0 _ (Heap.SameBut.refl _ _) ha ⟨rfl,rfl,Tb.cover8,by show n≤7;omega,rfl⟩)
theorem ZkH {a o:Addr} {led:Bool} {ko:List Str} {each:Sem Unit} {Q:Unit→Shared→Prop} (hne:o≠a) (ha:s.heap.get? a=some (Zbg led)) (hl:bt w=false→led=true) (hS:SS w s.heap o ko) (hn:ko.length < 16)
  (h:∀ h',Heap.SameBut a s.heap h'→SS w h' a ko→(ko=[]→h'.get? a=some (Zbg led))→Q () { s with heap:=h' }):wpAny (model prog w) A (setMerge a o each) Q E s:=by
 obtain ⟨ob,es,ep,t,ho,hx,hd,T⟩:=hS
 have hz:=T.len
 unfold setMerge
 rw [if_neg (by simp only [beq_iff_eq];exact fun z=>hne z.symm)]
 walk_at "pC"
 dsimp only
 by_cases hem:es.isEmpty=true
 ·rw [if_pos hem]
  have:ko=[]:=by
   rw [Array.isEmpty_iff] at hem
   subst hem
   exact List.length_eq_zero_iff.mp hz.symm
  subst this
  exact wpAny_pure (h s.heap (Heap.SameBut.refl _ _) (Zo9 led hl ha) fun _=>ha)
 ·rw [if_neg hem]
  have hko:ko≠[]:=fun z=>by
   subst z
   exact hem (by rw [Array.isEmpty_iff];exact Array.eq_empty_of_size_eq_zero hz)
  refine wpAny_bind (Zq8 ha (by omega) fun h1 ep1 t1 hsb ha1 B=>?_)
  refine wpAny_bind (wpAny_setState_of ha1 rfl B.fits ?_)
  dsimp only
  have hld:bt w=false→(t1.led&&t.led)=true:=fun z=>by rw [B.ld,hl z,T.ld z];rfl
  have hpl:(t1.plain&&t.plain)=true→ko=[]:=fun z=>by
   simp only [Bool.and_eq_true] at z
   exact T.pl z.2
  have hfill:(t1.fill != 0)=false:=by unfold SetTable.fill;rw [B.pl,B.dm];rfl
  unfold SetTable.road
  rw [hfill]
  simp only [Bool.false_eq_true,if_false]
  by_cases hr:(t1.mask==t.mask&&t.dummies.isEmpty)=true
  ·rw [if_pos hr]
   dsimp only
   refine wpAny_storeSet_of ha1 rfl ?_ (fits_of_scanBound (by unfold scanBound;omega))
   refine h _ (hsb.trans (Heap.SameBut.update h1 a _)) (ZfG ha1 ⟨rfl,rfl,rfl⟩ rfl (T.perm (List.Perm.refl _) ?_ hld hpl)).2 fun z=>absurd z hko
   have:=T.ft
   cases t
   exact this
  ·rw [if_neg hr]
   dsimp only
   obtain ⟨t',order,e,hsz,T'⟩:=Zpj (f:=t1.finger) (m:=t1.moves) T B.cv (by have:=B.rm;omega) hld hpl
   refine wpAny_bind ?_
   rw [e]
   show wpAny (model prog w) A (if ((order.filterMap (es[·]?)).size != es.size)=true then _ else pure (order.filterMap (es[·]?),t')) _ E _
   rw [if_neg (by rw [hsz];simp)]
   refine wpAny_pure (wpAny_storeSet_of ha1 rfl ?_ (fits_of_scanBound (by rw [hsz];unfold scanBound;omega)))
   exact h _ (hsb.trans (Heap.SameBut.update h1 a _)) (ZfG ha1 ⟨rfl,rfl,rfl⟩ rfl T').2 fun z=>absurd z hko
theorem ZpC {a o:Addr} {ks ko:List Str} {each:Sem Unit} {Q:Unit→Shared→Prop} (hne:o≠a) (hk:ks≠[]) (hA:SS w s.heap a ks) (hS:SS w s.heap o ko) (hn:ks.length+ko.length < 32)
  (he:∀ ob,s.heap.get? o=some ob→∀ (s':Shared) (Q':Unit→Shared→Prop),s'.heap.get? o=some ob→Q' () s'→wpAny (model prog w) A each Q' E s')
  (h:∀ h' ks',Heap.SameBut a s.heap h'→SS w h' a ks'→(∀ x,x∈ks'↔x∈ks∨x∈ko)→Q () { s with heap:=h' }):wpAny (model prog w) A (setMerge a o each) Q E s:=by
 obtain ⟨ob,es,ep,t,ho,hx,hd,T⟩:=hS
 have hz:=T.len
 have he:=he ob ho
 unfold setMerge
 rw [if_neg (by simp only [beq_iff_eq];exact fun z=>hne z.symm)]
 walk_at "pC"
 dsimp only
 by_cases hem:es.isEmpty=true
 ·rw [if_pos hem]
  have:ko=[]:=by
   rw [Array.isEmpty_iff] at hem
   subst hem
   exact List.length_eq_zero_iff.mp hz.symm
  subst this
  exact wpAny_pure (h s.heap ks (Heap.SameBut.refl _ _) hA fun x=>⟨.inl,fun z=>z.elim id fun z=>by cases z⟩)
 ·rw [if_neg hem]
  refine wpAny_bind (Zwf hA (by omega) fun h1 hsb hA1=>?_)
  have hA1':=hA1
  obtain ⟨oa,ea,pa,ta,hoa,hxa,hda,Ta⟩:=hA1
  refine wpAny_bind (wpAny_setState_of hoa hda Ta.ft ?_)
  dsimp only
  have hfill:(ta.fill != 0)=true:=by
   have hp:=Ta.ft
   unfold SetTable.fits at hp
   simp only [Bool.and_eq_true,beq_iff_eq] at hp
   have hl:=Ta.len
   have:ks.length≠0:=fun z=>hk (List.length_eq_zero_iff.mp z)
   unfold SetTable.fill
   simp only [bne_iff_ne,ne_eq]
   omega
  unfold SetTable.road
  rw [hfill]
  simp only [if_true]
  have ho1:h1.get? o=some ob:=by rw [hsb.2 o hne];exact ho
  refine wpAny_bind (Zwj ho1 hx hd T hA1' (by unfold scanBound;omega) fun h2 l hsb2 hA2 hp=>?_)
  have ho2:h2.get? o=some ob:=by rw [hsb2.2 o hne];exact ho1
  rw [← Array.forIn_toList]
  refine wpAny_bind (ZqX hne hd T.ft he (fun x u=>rfl) l.toList _ ks _ (fun e hm=>T.el e (hp.mem_iff.mp hm)) ho2 hA2 ?_ fun h3 ks' hsb3 hA3 hx=>?_)
  ·have hl:l.toList.length=es.size:=hp.length_eq.trans Array.length_toList
   rw [hl];unfold scanBound;omega
  ·refine wpAny_pure (h h3 ks' ((hsb.trans hsb2).trans hsb3) hA3 fun x=>(hx x).trans ?_)
   rw [((hp.map _).trans T.pm).mem_iff]
end
theorem ZtF:entryFor table "set.__or__"=some Builtin.«frozenset.__or__»:=entryFor_alias (id':="frozenset.__or__") (by kernel_rfl) rfl (by decide +kernel) (by kernel_rfl)
section
variable {prog:Program} {w:World} {A:Around} {E:Value→Shared→Prop} {s:Shared}
theorem SS.ty {a:Addr} {ks:List Str} (S:SS w s.heap a ks):s.TypeIs (.ref a) "set":=by
 obtain ⟨o,es,ep,t,ho,hx,_⟩:=S
 exact ⟨o,ho,hx.1⟩
theorem ZnS {a:Addr} {Q:Bool→Shared→Prop} (hT:s.TypeIs (.ref a) "set") (q:Q true s):wpAny (model prog w) A (Builtin.Frozenset.isAnySet (.ref a)) Q E s:=by
 unfold Builtin.Frozenset.isAnySet
 refine wpAny_bind (wpAny_isInstance hT sub_set_self ?_)
 exact wpAny_pure q
theorem SS.new {a:Addr} {ks:List Str} (S:SS w s.heap a ks) (o:Obj):SS w (s.heap.push o) a ks:=S.kept fun _ e=>Heap.get?_push_of_some _ e
theorem SS.lt {a:Addr} {ks:List Str} (S:SS w s.heap a ks):a < s.heap.objs.size:=by
 obtain ⟨o,es,ep,t,ho,_⟩:=S
 exact Heap.lt_size ho
theorem SS.same {h h':Heap} {a b:Addr} {ks:List Str} (S:SS w h a ks) (hne:a≠b) (hsb:Heap.SameBut b h h'):SS w h' a ks:=S.kept fun o e=>by rw [hsb.2 a hne];exact e
theorem ZzI {a b:Addr} {ka kb:List Str} {Q:Value→Shared→Prop} (hab:a≠b) (ha:SS w s.heap a ka) (hb:SS w s.heap b kb) (hna:ka.length < 16) (hnb:kb.length < 16)
  (h:∀ h' ks,SS w h' s.heap.objs.size ks→(∀ x,x∈ks↔x∈ka∨x∈kb)→(∀ c o,c < s.heap.objs.size→s.heap.get? c=some o→h'.get? c=some o)→Q (.ref s.heap.objs.size) { s with heap:=h' }) :
  wpAny (model prog w) A (binaryOp .BitOr (.ref a) (.ref b)) Q E s:=by
 refine wpAny_binaryOp_same (op:=.BitOr) (T:="set") ha.ty hb.ty PySem.F.fills_set_or PySem.F.slot_set_or (wpAny_call_entry PySem.F.slot_set_or ha.ty ZtF ?_ (PySem.F.args_set_or_2 _ _))
 unfold Builtin.«frozenset.__or__»
 refine wpAny_bind (m:=Builtin.Frozenset.slot1 "__or__" ⟨[.ref a,.ref b],[]⟩) ?_
 unfold Builtin.Frozenset.slot1
 refine wpAny_bind (wpAny_pure (a:=(Value.ref a,[Value.ref b])) ?_)
 refine wpAny_pure ?_
 refine wpAny_bind (m:=(Builtin.Frozenset.isAnySet (.ref a) <&&> Builtin.Frozenset.isAnySet (.ref b))) ?_
 refine wpAny_bind (ZnS ha.ty (ZnS hb.ty ?_))
 rw [if_neg (by decide)]
 refine wpAny_bind (m:=Builtin.Frozenset.addrOf (.ref a)) (wpAny_pure ?_)
 refine wpAny_bind ?_
 refine wpAny_bind (m:=Builtin.Frozenset.copyOf a) ?_
 unfold Builtin.Frozenset.copyOf Builtin.Frozenset.baseOf
 refine wpAny_bind (wpAny_bind (wpAny_isInstance ha.ty sub_set_self (wpAny_pure ?_)))
 rw [if_pos rfl]
 refine wpAny_bind (Zwa fun led hled=>?_)
 refine wpAny_bind (wpAny_pure ?_)
 have hne:∀ {c:Addr},c < s.heap.objs.size→c≠s.heap.objs.size:=fun z=>Nat.ne_of_lt z
 have hfr:(s.heap.push (Zbg led)).get? s.heap.objs.size=some (Zbg led):=Heap.get?_push_size _ rfl
 refine wpAny_bind (ZkH (s:={ s with heap:=s.heap.push (Zbg led) }) (hne ha.lt) hfr hled (ha.new _) hna fun h1 hsb hS1 hnil=>?_)
 refine wpAny_pure ?_
 show wpAny (model prog w) A.in1 (if (Value.ref b != Value.ref a)=true then _ else _) _ E _
 rw [if_pos (by simp only [bne_iff_ne,ne_eq,Value.ref.injEq];exact fun z=>hab z.symm)]
 refine wpAny_bind (m:=Builtin.Frozenset.addrOf _) (wpAny_pure ?_)
 have hb1:SS w h1 b kb:=(hb.new (Zbg led)).same (hne hb.lt) hsb
 have hT1:Shared.TypeIs { s with heap:=h1 } (.ref b) "set":=SS.ty (s:={ s with heap:=h1 }) hb1
 have keep:∀ h2,Heap.SameBut s.heap.objs.size h1 h2→∀ c o,c < s.heap.objs.size→s.heap.get? c=some o→h2.get? c=some o:=fun h2 hsb2 c o hc e=>by
  rw [hsb2.2 c (hne hc),hsb.2 c (hne hc)]
  exact Heap.get?_push_of_some _ e
 refine wpAny_bind (wpAny_holding ?_)
 unfold Builtin.Frozenset.updateFrom
 refine wpAny_bind (ZnS hT1 ?_)
 rw [if_pos rfl]
 refine wpAny_bind (m:=Builtin.Frozenset.addrOf (.ref b)) (wpAny_pure ?_)
 unfold Builtin.Frozenset.merge
 have hb1':=hb1
 obtain ⟨ob,es,ep,t,ho,hx,hd,T⟩:=hb1
 refine wpAny_bind (wpAny_setEpoch_of ho hd T.ft ?_)
 have fin:∀ h2 ks,Heap.SameBut s.heap.objs.size h1 h2→SS w h2 s.heap.objs.size ks→(∀ x,x∈ks↔x∈ka∨x∈kb)→Q (.ref s.heap.objs.size) { s with heap:=h2 }:=fun h2 ks hsb2 hS2 hx=>h h2 ks hS2 hx (keep h2 hsb2)
 by_cases hk:ka=[]
 ·subst hk
  refine ZkH (s:={ s with heap:=h1 }) (hne hb.lt) (hnil rfl) hled hb1' hnb fun h2 hsb2 hS2 _=>?_
  refine wpAny_pure (wpAny_pure ⟨_,rfl,by simp,fin h2 kb hsb2 hS2 fun x=>⟨.inr,fun z=>z.elim (fun z=>by cases z) id⟩⟩)
 ·refine ZpC (s:={ s with heap:=h1 }) (hne hb.lt) hk hS1 hb1' (by omega) (fun ob' ho' s' Q' ho2 q'=>?_) fun h2 ks hsb2 hS2 hx=>?_
  ·have e:ob'=ob:=by
    have:=ho'.symm.trans ho
    exact Option.some.inj this
   subst e
   unfold Builtin.Frozenset.unchanged
   refine wpAny_bind (wpAny_setEpoch_of ho2 hd T.ft ?_)
   rw [if_neg (by simp)]
   exact wpAny_pure q'
  ·exact wpAny_pure (wpAny_pure ⟨_,rfl,by simp,fin h2 ks hsb2 hS2 hx⟩)
end
theorem ZgZ:Slot "set_iterator" "__next__" "set_iterator.__next__":=.of (owner:="set_iterator") (n:="__next__") (by rw [typeLookup_type,builtinLookup_eq_fast];kernel_rfl) (by decide +kernel) (by decide +kernel) (by decide +kernel) (by first | exact .inl (by decide +kernel) | exact .inr (by decide +kernel)) (by rw [isSubtype_type];kernel_rfl)
theorem Zrg:Slot "set" "__iter__" "set.__iter__":=.of (owner:="set") (n:="__iter__") (by rw [typeLookup_type,builtinLookup_eq_fast];kernel_rfl) (by decide +kernel) (by decide +kernel) (by decide +kernel) (by first | exact .inl (by decide +kernel) | exact .inr (by decide +kernel)) (by rw [isSubtype_type];kernel_rfl)
theorem Zpu:entryFor table "set_iterator.__next__"=some Builtin.«set_iterator.__next__»:=entryFor_of_fast (by kernel_rfl)
theorem ZtP:entryFor table "set.__iter__"=some Builtin.«frozenset.__iter__»:=entryFor_alias (id':="frozenset.__iter__") (by kernel_rfl) rfl (by decide +kernel) (by kernel_rfl)
theorem Zql (a:Value):argsOk "set_iterator.__next__" ⟨[a],[]⟩:=by unfold argsOk;kernel_rfl
theorem ZwR (a:Value):argsOk "set.__iter__" ⟨[a],[]⟩:=by unfold argsOk;kernel_rfl
section
variable {prog:Program} {w:World} {A:Around} {E:Value→Shared→Prop} {s:Shared}
theorem ZAg {src:Source} {n:Nat} {Q:Nat→Shared→Prop} (hn:n≠0) (h:∀ i d,i < n→Q i { s with drawn:=d }):wpAny (model prog w) A (choose src n) Q E s :=
 fun _ _ _=>⟨hn,h _ _ (Nat.mod_lt _ (Nat.pos_of_ne_zero hn))⟩
theorem Zrh {α:Type}:∀ (n:Nat) (xs:List α) (s:Shared) (Q:List α→Shared→Prop),xs.length=n→(∀ ys d,ys.Perm xs→Q ys { s with drawn:=d })→wpAny (model prog w) A (drawOrder n xs) Q E s
 | 0,xs,s,Q,h,q=>by
  obtain rfl:=List.length_eq_zero_iff.mp h
  exact wpAny_pure (q [] s.drawn (List.Perm.refl _))
 | n+1,[],s,Q,h,q=>by cases h
 | n+1,x::xs,s,Q,h,q=>by
  unfold drawOrder
  refine wpAny_bind (ZAg (by simp) fun i d hi=>?_)
  rw [List.getElem?_eq_getElem hi]
  dsimp only
  refine wpAny_bind (Zrh n _ _ _ (by rw [List.length_eraseIdx_of_lt hi];simpa using h) fun ys d' hp=>?_)
  exact wpAny_pure (q _ d' ((hp.cons _).trans (Zib _ i hi)))
abbrev Itr (first:Value) (i:Nat) (a:Addr) (n ep:Nat):Obj:={ cls:=.type "set_iterator",data:=.fields #[first,.int i 0,.ref a,.int n 0,.int ep 0] }
inductive Md (w:World) (a T:Addr) (es:Array (Int×Value)) (ep:Nat) (t:SetTable) (l:List (Int×Value)) (h:Heap):Value→Nat→Prop where
 | drawn {ps:List Nat} {oT:Obj} {c i:Nat}:h.get? T=some oT→oT.data=.seq (ps.map fun p:Nat=>rawInt p).toArray c→ps.length=l.length→(∀ (j p:Nat),ps[j]?=some p→∃ e,es[p]?=some e∧l[j]?=some e)→Md w a T es ep t l h (.ref T) i
 | text {k i:Nat}:bt w=true→l=(pickOrder (w.params.setOrder a ep) es).toList→Md w a T es ep t l h (.int k 0) i
 | few {k i:Nat}:bt w=false→t.led=true→es.size≤1→l=es.toList→(i=0→k=0)→(∀ j:Nat,i=1→t.place[0]?=some j→k=j+1)→Md w a T es ep t l h (.int k 0) i
structure Wk (w:World) (it a T:Addr) (ob:Obj) (es:Array (Int×Value)) (ep:Nat) (t:SetTable) (l:List (Int×Value)) (i:Nat) (h:Heap):Prop where
 st:∃ first,h.get? it=some (Itr first i a es.size ep)∧Md w a T es ep t l h first i
 ob:h.get? a=some ob
theorem Md.at {w:World} {a T:Addr} {es:Array (Int×Value)} {ep:Nat} {t:SetTable} {l:List (Int×Value)} {h h':Heap} {v:Value} {i:Nat} (M:Md w a T es ep t l h v i) (k:∀ o,h.get? T=some o→h'.get? T=some o):Md w a T es ep t l h' v i:=by
 cases M with
 | drawn h1 h2 h3 h4=>exact .drawn (k _ h1) h2 h3 h4
 | text h1 h2=>exact .text h1 h2
 | few h1 h2 h3 h4 h5 h6=>exact .few h1 h2 h3 h4 h5 h6
theorem Zqg {h:Heap} {it a:Addr} {first:Value} {i n ep:Nat} (e:h.get? it=some (Itr first i a n ep)) (j:Nat):(h.update it (Obj.mapFields (·.setIfInBounds 1 (rawInt j)))).get? it=some (Itr first j a n ep):=by
 have hz:=Heap.get?_update_self (Obj.mapFields (·.setIfInBounds 1 (rawInt j))) e (Obj.isFreed_of_fields (Obj.data_mapFields rfl _))
 rw [hz];rfl
theorem ZiQ {h:Heap} {it a:Addr} {first:Value} {i n ep:Nat} (e:h.get? it=some (Itr first i a n ep)) (v:Value):(h.update it (Obj.mapFields (·.setIfInBounds 0 v))).get? it=some (Itr v i a n ep):=by
 have hz:=Heap.get?_update_self (Obj.mapFields (·.setIfInBounds 0 v)) e (Obj.isFreed_of_fields (Obj.data_mapFields rfl _))
 rw [hz];rfl
end
section
variable {prog:Program} {w:World} {A:Around} {E:Value→Shared→Prop} {s:Shared}
theorem Zm4 (j k:Nat):SetTable.below #[j] k=if j < k then 1 else 0:=by
 show SetTable.below.go #[j] k 1 0 1=_
 unfold SetTable.below.go
 simp only [Nat.zero_lt_one,if_true]
 show (if j < k then SetTable.below.go #[j] k 0 1 1 else SetTable.below.go #[j] k 0 0 0)=_
 rfl
theorem ZiU {α:Type} {xs:Array α} (h:xs.size≤1):xs=#[]∨∃ x,xs=#[x]:=by
 obtain ⟨l⟩:=xs
 match l,h with
 | [],_=>exact .inl rfl
 | [x],_=>exact .inr ⟨x,rfl⟩
theorem ZrY {it a T:Addr} {ob:Obj} {es:Array (Int×Value)} {ep:Nat} {t:SetTable} {ks:List Str} {l:List (Int×Value)} {i:Nat} {e:Int×Value} {Q:Option Value→Shared→Prop} (hx:ob.ExactSet) (hd:ob.data=.set es ep t) (Tb:Tab w es t ks) (hia:a≠it) (hiT:T≠it) (S:Wk w it a T ob es ep t l i s.heap) (hl:l[i]?=some e)
  (hQ:∀ h',Wk w it a T ob es ep t l (i+1) h'→Heap.SameBut it s.heap h'→Q (some e.2) { s with heap:=h' }):wpAny (model prog w) A (pyNext (.ref it)) Q E s:=by
 obtain ⟨⟨first,hi,M⟩,ho⟩:=S
 have hT:s.TypeIs (.ref it) "set_iterator":=⟨_,hi,rfl⟩
 unfold pyNext
 refine wpAny_bind (wpAny_attempt (wpAny_callSpecial?_slot (name:=Str.ofString "__next__") hT ZgZ (wpAny_call_entry ZgZ hT Zpu ?_ (Zql _))))
 unfold Builtin.«set_iterator.__next__»
 refine wpAny_bind (wpAny_pure (a:=(Value.ref it,([]:List Value))) ?_)
 refine wpAny_bind (wpAny_fieldsOf hi rfl ?_)
 dsimp only
 refine wpAny_bind (wpAny_setEntries_of ho hd Tb.ft ?_)
 rw [if_neg (by simp)]
 have two:∀ (v:Value),Md w a T es ep t l s.heap v (i+1)→Q (some e.2) { s with heap:=(s.heap.update it (Obj.mapFields (·.setIfInBounds 0 v))).update it (Obj.mapFields (·.setIfInBounds 1 (rawInt (i+1)))) }:=fun v M'=>by
  have sb:=(Heap.SameBut.update s.heap it (Obj.mapFields (·.setIfInBounds 0 v))).trans (Heap.SameBut.update _ it (Obj.mapFields (·.setIfInBounds 1 (rawInt (i+1)))))
  refine hQ _ ⟨⟨v,Zqg (ZiQ hi v) (i+1),M'.at fun o z=>by rw [sb.2 T hiT];exact z⟩,by rw [sb.2 a hia];exact ho⟩ sb
 cases M with
 | drawn h1 h2 h3 h4 =>
  rename_i ps oT c
  obtain ⟨p,hp⟩:∃ p,ps[i]?=some p:=by
   obtain ⟨hlt,_⟩:=List.getElem?_eq_some_iff.mp hl
   exact ⟨_,List.getElem?_eq_getElem (by omega)⟩
  obtain ⟨e',he,hl'⟩:=h4 i p hp
  obtain rfl:e'=e:=Option.some.inj (hl'.symm.trans hl)
  dsimp only
  refine wpAny_bind (wpAny_seqItems h1 h2 ?_)
  dsimp only
  have hq:(ps.map fun p:Nat=>rawInt p).toArray[(Int.ofNat i).toNat]?=some (rawInt p):=by
   simp [hp]
  have hq':(ps.map fun p:Nat=>rawInt p).toArray[((i:Int)).toNat]?=some (.int (p:Int) 0):=hq
  rw [hq']
  dsimp only
  refine wpAny_bind ?_
  unfold setNextDrawn
  walk_at "pB"
  dsimp only
  rw [if_neg (by simp)]
  rw [show ((p:Int)).toNat=p from Int.toNat_natCast p,he]
  dsimp only
  refine wpAny_pure (wpAny_bind (wpAny_setField hi rfl (by simp) (wpAny_pure ⟨_,rfl,wpAny_pure ?_⟩)))
  have sb:=Heap.SameBut.update s.heap it (Obj.mapFields (·.setIfInBounds 1 (rawInt (i+1))))
  exact hQ _ ⟨⟨_,Zqg hi (i+1),.drawn (by rw [sb.2 T hiT];exact h1) h2 h3 h4⟩,by rw [sb.2 a hia];exact ho⟩ sb
 | text h1 h2 =>
  rename_i k
  dsimp only
  refine wpAny_bind ?_
  unfold setNext
  walk_at "pB"
  dsimp only
  unfold setsByText
  walk_at "pa"
  walk_at "pn"
  rw [if_pos h1,if_neg (by simp)]
  unfold setWalk
  refine wpAny_bind (wpAny_bind (wpAny_setState_of ho hd Tb.ft ?_))
  dsimp only
  unfold setsByText
  walk_at "pa"
  walk_at "pn"
  rw [if_pos h1]
  refine wpAny_bind (wpAny_askSetting (wpAny_pure ?_))
  subst h2
  rw [Array.getElem?_toList] at hl
  show wpAny (model prog w) _ (pure (((pickOrder (w.params.setOrder a ep) es)[((i:Int)).toNat]?).map _)) _ _ s
  rw [show ((i:Int)).toNat=i from Int.toNat_natCast i,hl]
  refine wpAny_pure ?_
  dsimp only [Option.map_some]
  walk_at "pF"
  refine wpAny_bind (wpAny_setField (ZiQ hi _) rfl (by simp) (wpAny_pure ⟨_,rfl,wpAny_pure ?_⟩))
  exact two _ (.text h1 rfl)
 | few h1 h2 h3 h4 h5 h6 =>
  rename_i k
  subst h4
  rw [Array.getElem?_toList] at hl
  have hft:=Tb.ft
  rcases ZiU h3 with z | ⟨x,z⟩
  ·rw [z] at hl;simp at hl
  ·rw [z] at hl
   have hi0:i=0:=by
    obtain ⟨hlt,_⟩:=Array.getElem?_eq_some_iff.mp hl
    simpa using hlt
   subst hi0
   obtain rfl:x=e:=by simpa using hl
   obtain rfl:=h5 rfl
   have hps:t.place.size=1:=by
    unfold SetTable.fits at hft
    rw [z] at hft
    simp only [Bool.and_eq_true,beq_iff_eq] at hft
    exact hft.1
   obtain ⟨j,hj⟩:∃ j,t.place=#[j]:=by
    rcases ZiU (by omega:t.place.size≤1) with q | q
    ·rw [q] at hps;cases hps
    ·exact q
   dsimp only
   refine wpAny_bind ?_
   unfold setNext
   walk_at "pB"
   dsimp only
   unfold setsByText
   walk_at "pa"
   walk_at "pn"
   rw [if_neg (by rw [h1];decide)]
   show wpAny (model prog w) _ (if (!t.plain&&decide (es.size > 1))=true then _ else _) _ _ s
   rw [if_neg (by have:¬ es.size > 1:=by omega
                  simp [this])]
   refine wpAny_bind ?_
   show wpAny (model prog w) _ (if (!t.led&&!es.isEmpty)=true then _ else pure ()) _ _ s
   rw [if_neg (by rw [h2];simp)]
   refine wpAny_pure ?_
   show wpAny (model prog w) _ (pure (match es[SetTable.below t.place 0]?,t.place[SetTable.below t.place 0]? with | some (_,x),some j=>some (x,j+1) | _,_=>none)) _ _ s
   rw [hj,Zm4,if_neg (by omega),z]
   refine wpAny_pure ?_
   walk_at "pF"
   refine wpAny_bind (wpAny_setField (ZiQ hi _) rfl (by simp) (wpAny_pure ⟨_,rfl,wpAny_pure ?_⟩))
   refine two _ (.few (k:=j+1) h1 h2 h3 rfl (fun q=>by cases q) fun j' _ q=>?_)
   rw [hj] at q
   have:j=j':=by simpa using q
   omega
end
section
variable {prog:Program} {w:World} {A:Around} {E:Value→Shared→Prop} {s:Shared}
theorem Zn4 {it:Addr} {h0 h1:Heap} {R:Fin→Shared→Prop} {Q:Option Value→Shared→Prop} (hh:A.handled=none) (x:Heap.ExtBut it h0 h1) (hQ:∀ h',Heap.ExtBut it h0 h'→Q none { s with heap:=h' }) :
  wpAny (model prog w) A.in1 (do let e ← newExc (.type "StopIteration") [];raiseNew e) R (fun e s'=>wpAny (model prog w) A (do let b ← isInstance e (.type "StopIteration");if b=true then pure none else throw e) Q E s') { s with heap:=h1 }:=by
 refine wpAny_bind ?_
 simp only [newExc,newTuple]
 refine wpAny_bind (wpAny_newObj_type ?_ (by size_fits))
 refine wpAny_bind (m:=firstArgMember _ _) (wpAny_of_eq (a:=Value.none) (by first | rfl | (simp only [firstArgMember];rfl)) (wpAny_newObj_type ?_ (by size_fits)))
 simp only [raiseNew]
 refine wpAny_bind (wpAny_handled ?_)
 rw [show A.in1.handled=none from hh]
 refine wpAny_bind (wpAny_pure (wpAny_throw ?_));refine wpAny_bind (wpAny_isInstance (T:="StopIteration") (b:=true) ⟨_,Heap.get?_push_size _ rfl,rfl⟩ isSubtype_stop ?_)
 exact wpAny_pure (hQ _ ((x.push _).push _))
theorem Zrs {it a T:Addr} {ob:Obj} {es:Array (Int×Value)} {ep:Nat} {t:SetTable} {ks:List Str} {l:List (Int×Value)} {i:Nat} {Q:Option Value→Shared→Prop} (hh:A.handled=none) (hx:ob.ExactSet) (hd:ob.data=.set es ep t) (Tb:Tab w es t ks) (S:Wk w it a T ob es ep t l i s.heap) (hl:l.length=i) (hes:es.size=i)
  (hQ:∀ h',Heap.ExtBut it s.heap h'→Q none { s with heap:=h' }):wpAny (model prog w) A (pyNext (.ref it)) Q E s:=by
 obtain ⟨⟨first,hi,M⟩,ho⟩:=S
 have hT:s.TypeIs (.ref it) "set_iterator":=⟨_,hi,rfl⟩
 unfold pyNext
 refine wpAny_bind (wpAny_attempt (wpAny_callSpecial?_slot (name:=Str.ofString "__next__") hT ZgZ (wpAny_call_entry ZgZ hT Zpu ?_ (Zql _))))
 unfold Builtin.«set_iterator.__next__»
 refine wpAny_bind (wpAny_pure (a:=(Value.ref it,([]:List Value))) ?_)
 refine wpAny_bind (wpAny_fieldsOf hi rfl ?_)
 dsimp only
 refine wpAny_bind (wpAny_setEntries_of ho hd Tb.ft ?_)
 rw [if_neg (by simp)]
 have e1:((i:Int)).toNat=i:=Int.toNat_natCast i
 cases M with
 | drawn h1 h2 h3 h4 =>
  rename_i ps oT c
  dsimp only
  refine wpAny_bind (wpAny_seqItems h1 h2 ?_)
  dsimp only
  have hq:(ps.map fun p:Nat=>rawInt p).toArray[((i:Int)).toNat]?=none:=by
   rw [e1];simp;omega
  rw [hq]
  dsimp only
  walk_at "pF"
  refine wpAny_bind (wpAny_setField (ZiQ hi _) rfl (by simp) ?_)
  exact Zn4 hh ((Heap.SameBut.update s.heap it (Obj.mapFields (·.setIfInBounds 0 (rawInt 0)))).trans (Heap.SameBut.update _ it _)).extBut hQ
 | text h1 h2 =>
  rename_i k
  dsimp only
  refine wpAny_bind ?_
  unfold setNext
  walk_at "pB"
  dsimp only
  unfold setsByText
  walk_at "pa"
  walk_at "pn"
  rw [if_pos h1,if_neg (by simp)]
  unfold setWalk
  refine wpAny_bind (wpAny_bind (wpAny_setState_of ho hd Tb.ft ?_))
  dsimp only
  unfold setsByText
  walk_at "pa"
  walk_at "pn"
  rw [if_pos h1]
  refine wpAny_bind (wpAny_askSetting (wpAny_pure ?_))
  show wpAny (model prog w) _ (pure (((pickOrder (w.params.setOrder a ep) es)[((i:Int)).toNat]?).map _)) _ _ s
  have hn:(pickOrder (w.params.setOrder a ep) es)[i]?=none:=by
   rw [← Array.getElem?_toList,← h2]
   exact List.getElem?_eq_none (by omega)
  rw [e1,hn]
  refine wpAny_pure ?_
  dsimp only [Option.map_none]
  walk_at "pF"
  exact Zn4 hh (Heap.SameBut.update s.heap it _).extBut hQ
 | few h1 h2 h3 h4 h5 h6 =>
  rename_i k
  have hft:=Tb.ft
  have hnone:es[SetTable.below t.place k]?=none:=by
   refine Array.getElem?_eq_none ?_
   rcases ZiU h3 with z | ⟨x,z⟩
   ·rw [z];exact Nat.zero_le _
   ·have hps:t.place.size=1:=by
     unfold SetTable.fits at hft
     rw [z] at hft
     simp only [Bool.and_eq_true,beq_iff_eq] at hft
     exact hft.1
    obtain ⟨j,hj⟩:∃ j,t.place=#[j]:=by
     rcases ZiU (by omega:t.place.size≤1) with q | q
     ·rw [q] at hps;cases hps
     ·exact q
    have hi1:i=1:=by rw [← hes,z];rfl
    have:=h6 j hi1 (by rw [hj];rfl)
    rw [hj,this,Zm4,if_pos (by omega),z]
    exact Nat.le_refl _
  dsimp only
  refine wpAny_bind ?_
  unfold setNext
  walk_at "pB"
  dsimp only
  unfold setsByText
  walk_at "pa"
  walk_at "pn"
  rw [if_neg (by rw [h1];decide)]
  show wpAny (model prog w) _ (if (!t.plain&&decide (es.size > 1))=true then _ else _) _ _ s
  rw [if_neg (by have:¬ es.size > 1:=by omega
                 simp [this])]
  refine wpAny_bind ?_
  show wpAny (model prog w) _ (if (!t.led&&!es.isEmpty)=true then _ else pure ()) _ _ s
  rw [if_neg (by rw [h2];simp)]
  refine wpAny_pure ?_
  show wpAny (model prog w) _ (pure (match es[SetTable.below t.place ((k:Int)).toNat]?,t.place[SetTable.below t.place ((k:Int)).toNat]? with | some (_,x),some j=>some (x,j+1) | _,_=>none)) _ _ s
  rw [show ((k:Int)).toNat=k from Int.toNat_natCast k,hnone]
  refine wpAny_pure ?_
  walk_at "pF"
  exact Zn4 hh (Heap.SameBut.update s.heap it _).extBut hQ
theorem Zrz:Slot "set_iterator" "__iter__" "set_iterator.__iter__":=.of (owner:="set_iterator") (n:="__iter__") (by rw [typeLookup_type,builtinLookup_eq_fast];kernel_rfl) (by decide +kernel) (by decide +kernel) (by decide +kernel) (by first | exact .inl (by decide +kernel) | exact .inr (by decide +kernel)) (by rw [isSubtype_type];kernel_rfl)
theorem Zs4:entryFor table "set_iterator.__iter__"=some Builtin.«dict_keyiterator.__iter__»:=entryFor_alias (id':="dict_keyiterator.__iter__") (by kernel_rfl) rfl (by decide +kernel) (by kernel_rfl)
theorem ZvP (a:Value):argsOk "set_iterator.__iter__" ⟨[a],[]⟩:=by unfold argsOk;kernel_rfl
theorem ZqO {it a T:Addr} {ob:Obj} {es:Array (Int×Value)} {ep:Nat} {t:SetTable} {ks:List Str} {l:List (Int×Value)} (hh:A.handled=none) (hx:ob.ExactSet) (hd:ob.data=.set es ep t) (Tb:Tab w es t ks) (hia:a≠it) (hiT:T≠it) (hl:l.length=es.size) :
  Walks prog w A it [it,a,T] [it] es.size (fun i v=>∃ e,l[i]?=some e∧v=e.2) (fun i h=>Wk w it a T ob es ep t l i h) where
 sub:=fun b hb=>by simp at hb;simp [hb]
 frame:=fun _ _ _ st hk=>by
  obtain ⟨⟨first,hi,M⟩,ho⟩:=st
  exact ⟨⟨first,hk it (by simp) _ hi,M.at fun o e=>hk T (by simp) o e⟩,hk a (by simp) _ ho⟩
 item:=fun i s Q E hi st hQ=>by
  obtain ⟨e,he⟩:∃ e,l[i]?=some e:=⟨_,List.getElem?_eq_getElem (by omega)⟩
  refine ZrY hx hd Tb hia hiT st he fun h' W hs'=>?_
  exact hQ _ h' s.toks ⟨e,he,rfl⟩ W (fun b o hb z=>hs'.extBut b o (fun h=>hb (by simp [h])) z)
 done:=fun s Q E st hQ=>Zrs hh hx hd Tb st hl rfl fun h' he'=>hQ h' s.toks fun b o hb e=>he' b o (fun h=>hb (by simp [h])) e
 self:=fun _ s Q E st hQ=>by
  obtain ⟨⟨first,hi,M⟩,ho⟩:=st
  have hT:s.TypeIs (.ref it) "set_iterator":=⟨_,hi,rfl⟩
  refine wpAny_pyIter_slot hT Zrz (wpAny_call_entry Zrz hT Zs4 (wpAny_pure ⟨_,rfl,"set_iterator",_,hT,ZgZ.lookup,hQ⟩) (ZvP _))
end
theorem Zun {α:Type} {es:Array α}:∀ {ys:List Nat},(∀ p∈ys,p < es.size)→(ys.filterMap (es[·]?)).length=ys.length∧∀ (j p:Nat),ys[j]?=some p→∃ e,es[p]?=some e∧(ys.filterMap (es[·]?))[j]?=some e
 | [],_=>⟨rfl,fun j p h=>by simp at h⟩
 | y::ys,h=>by
  have hy:es[y]?=some (es[y]'(h y List.mem_cons_self)):=Array.getElem?_eq_getElem _
  obtain ⟨h1,h2⟩:=Zun (ys:=ys) fun p hp=>h p (List.mem_cons_of_mem _ hp)
  rw [List.filterMap_cons,hy]
  refine ⟨by simp [h1],fun j p hj=>?_⟩
  cases j with
  | zero =>
   simp only [List.getElem?_cons_zero,Option.some.injEq] at hj
   subst hj
   exact ⟨_,hy,rfl⟩
  | succ j =>
   simp only [List.getElem?_cons_succ] at hj ⊢
   exact h2 j p hj
section
variable {prog:Program} {w:World} {A:Around} {E:Value→Shared→Prop} {s:Shared}
theorem Ztv {a:Addr} {ob:Obj} {es:Array (Int×Value)} {ep:Nat} {t:SetTable} {ks:List Str} {Q:Value→Shared→Prop} (ho:s.heap.get? a=some ob) (hx:ob.ExactSet) (hd:ob.data=.set es ep t) (Tb:Tab w es t ks) (hn:ks.length < scanBound)
  (h:∀ it T l h' d,s.heap.objs.size≤it→T≠it→(T=a∨s.heap.objs.size≤T)→(∀ c o,s.heap.get? c=some o→h'.get? c=some o)→Wk w it a T ob es ep t l 0 h'→l.Perm es.toList→T < h'.objs.size→it < h'.objs.size→Q (.ref it) { s with heap:=h',drawn:=d }):wpAny (model prog w) A (pyIter (.ref a)) Q E s:=by
 have hT:s.TypeIs (.ref a) "set":=⟨ob,ho,hx.1⟩
 have hlt:a < s.heap.objs.size:=Heap.lt_size ho
 have hz:=Tb.len
 refine wpAny_pyIter_slot hT Zrg (wpAny_call_entry Zrg hT ZtP ?_ (ZwR _))
 unfold Builtin.«frozenset.__iter__»
 refine wpAny_bind (m:=Builtin.Frozenset.slot0 "__iter__" ⟨[.ref a],[]⟩) (wpAny_pure (a:=a) ?_)
 refine wpAny_bind (m:=Builtin.Frozenset.sizeOf a) (wpAny_bind (wpAny_setEntries_of ho hd Tb.ft (wpAny_pure ?_)))
 refine wpAny_bind ?_
 unfold setDrawn
 walk_at "pB"
 dsimp only
 unfold setsByText
 walk_at "pa"
 show wpAny (model prog w) _ (pure (!(bt w)&&(!t.plain&&decide (es.size > 1)))) _ _ s
 refine wpAny_pure ?_
 by_cases hc:(!(bt w)&&(!t.plain&&decide (es.size > 1)))=true
 ·rw [if_pos hc]
  refine wpAny_bind (Zrh es.size (List.range es.size) s _ (List.length_range) fun ys d hp=>?_)
  have hyl:ys.length=es.size:=by rw [hp.length_eq,List.length_range]
  refine wpAny_bind (wpAny_newTuple (items:=ys.map fun i:Nat=>rawInt i) ?_ (by rw [List.length_map,hyl,hz];exact fits_of_scanBound hn))
  refine wpAny_bind (wpAny_setEpoch_of (s:={ s with heap:=s.heap.push _,drawn:=d }) (Heap.get?_push_of_some _ ho) hd Tb.ft ?_)
  simp only [newFields]
  refine wpAny_bind (wpAny_newObj_type ?_ (by show (5:Nat)≤sizeLine+2;decide))
  refine wpAny_pure ⟨_,rfl,"set_iterator",_,⟨_,Heap.get?_push_size _ rfl,rfl⟩,ZgZ.lookup,?_⟩
  obtain ⟨hpl,hpj⟩:=Zun (es:=es) (ys:=ys) fun p z=>List.mem_range.mp (hp.mem_iff.mp z)
  have hperm:(ys.filterMap (es[·]?)).Perm es.toList:=by
   have hz2:=L3.Tb.order_perm es ys.toArray (by simpa using hp)
   simpa using hz2
  refine h _ s.heap.objs.size (ys.filterMap (es[·]?)) _ d ?_ ?_ (.inr (Nat.le_refl _)) (fun c o e=>Heap.get?_push_of_some _ (Heap.get?_push_of_some _ e)) ⟨⟨_,Heap.get?_push_size _ rfl,.drawn (Heap.get?_push_of_some _ (Heap.get?_push_size _ rfl)) rfl hpl.symm hpj⟩,Heap.get?_push_of_some _ (Heap.get?_push_of_some _ ho)⟩ hperm ?_ ?_
  ·rw [Heap.size_push];exact Nat.le_succ _
  ·rw [Heap.size_push];exact Nat.ne_of_lt (Nat.lt_succ_self _)
  ·rw [Heap.size_push,Heap.size_push];exact Nat.lt_succ_of_lt (Nat.lt_succ_self _)
  ·simp only [Heap.size_push];exact Nat.lt_succ_self _
 ·rw [if_neg hc]
  refine wpAny_bind (wpAny_pure ?_)
  refine wpAny_bind (wpAny_setEpoch_of ho hd Tb.ft ?_)
  simp only [newFields]
  refine wpAny_bind (wpAny_newObj_type ?_ (by show (5:Nat)≤sizeLine+2;decide))
  refine wpAny_pure ⟨_,rfl,"set_iterator",_,⟨_,Heap.get?_push_size _ rfl,rfl⟩,ZgZ.lookup,?_⟩
  have fin:∀ l,l.Perm es.toList→Md w a a es ep t l (s.heap.push (Itr (rawInt 0) 0 a es.size ep)) (rawInt 0) 0→Q (.ref s.heap.objs.size) { s with heap:=s.heap.push (Itr (rawInt 0) 0 a es.size ep) }:=fun l hp M =>
   h _ a l _ s.drawn (Nat.le_refl _) (Nat.ne_of_lt hlt) (.inl rfl) (fun c o e=>Heap.get?_push_of_some _ e) ⟨⟨_,Heap.get?_push_size _ rfl,M⟩,Heap.get?_push_of_some _ ho⟩ hp (by rw [Heap.size_push];exact Nat.lt_succ_of_lt hlt) (by rw [Heap.size_push];exact Nat.lt_succ_self _)
  by_cases hb:bt w=true
  ·exact fin _ (Zmw _ _) (.text (k:=0) hb rfl)
  ·have hb':bt w=false:=by simpa using hb
   have h1:es.size≤1:=by
    rw [hb'] at hc
    simp only [Bool.not_false,Bool.true_and,Bool.and_eq_true,decide_eq_true_eq,not_and] at hc
    cases hpl:t.plain with
    | true=>have:=Tb.pl hpl;subst this;rw [hz];decide
    | false=>have:=hc (by rw [hpl];rfl);omega
   exact fin es.toList (List.Perm.refl _) (.few (k:=0) hb' (Tb.ld hb') h1 rfl (fun _=>rfl) fun j z=>by cases z)
end
theorem ZsK:Slot "set" "__len__" "set.__len__":=.of (owner:="set") (n:="__len__") (by rw [typeLookup_type,builtinLookup_eq_fast];kernel_rfl) (by decide +kernel) (by decide +kernel) (by decide +kernel) (by first | exact .inl (by decide +kernel) | exact .inr (by decide +kernel)) (by rw [isSubtype_type];kernel_rfl)
section
variable {prog:Program} {w:World} {A:Around} {E:Value→Shared→Prop} {s:Shared}
theorem Zt8 {a:Addr} {Q:Bool→Shared→Prop} (hT:s.TypeIs (.ref a) "set") (q:Q false s):wpAny (model prog w) A (Builtin.List.listLengthHint (.ref a)) Q E s:=by
 unfold Builtin.List.listLengthHint
 refine wpAny_bind (wpAny_specialOf hT ZsK.lookup ?_)
 have hs:splitId "set.__len__"=some ("set","__len__"):=by kernel_rfl
 dsimp only
 rw [hs]
 dsimp only
 refine wpAny_bind (wpAny_isInstance hT sub_set_self ?_)
 rw [if_neg (by decide)]
 show wpAny (model prog w) A (if _=true then _ else _) Q E s
 rw [if_pos (by decide +kernel)]
 refine wpAny_bind (wpAny_typeOf hT ?_)
 exact wpAny_pure q
theorem Zn7 {a:Addr} {ks:List Str} {Q:List Value→Shared→Prop} (hh:A.handled=none) (hS:SS w s.heap a ks) (hn:ks.length < scanBound)
  (h:∀ (s':Shared) (vs:List Value) (xs:List Str),StrsAre vs xs→xs.Perm ks→(∀ c o,c < s.heap.objs.size→s.heap.get? c=some o→s'.heap.get? c=some o)→s'.gens=s.gens→s'.os=s.os→s.heap.objs.size≤s'.heap.objs.size→Q vs s'):wpAny (model prog w) A (collect (.ref a)) Q E s:=by
 have hS':=hS
 obtain ⟨ob,es,ep,t,ho,hx,hd,T⟩:=hS
 have hz:=T.len
 have hlt:a < s.heap.objs.size:=Heap.lt_size ho
 unfold collect
 refine wpAny_bind (wpAny_runValue (codeAny_builtin PySem.F.entry_proto_collect ?_));rw [Around.under_plainId PySem.F.plain_proto_collect _]
 refine wpAny_bind (m:=newList []) (wpAny_newList ?_ (Nat.zero_le _))
 refine wpAny_pure ⟨plainId_quiet PySem.F.plain_list_iadd _,codeAny_builtin PySem.F.entry_list_iadd ?_⟩;rw [Around.under_plainId PySem.F.plain_list_iadd _]
 have hne:s.heap.objs.size≠a:=Ne.symm (Nat.ne_of_lt hlt)
 have ho1:(s.heap.push (seqObj "list" #[] 0)).get? a=some ob:=Heap.get?_push_of_some _ ho
 have hT1:Shared.TypeIs { s with heap:=s.heap.push (seqObj "list" #[] 0) } (.ref a) "set":=⟨ob,ho1,hx.1⟩
 refine (?_:wpAny (model prog w) A.in1 (Builtin.List.listExtendWith (.ref s.heap.objs.size) (.ref a) (.ref s.heap.objs.size)) _ _ { s with heap:=s.heap.push (seqObj "list" #[] 0) })
 unfold Builtin.List.listExtendWith
 refine wpAny_bind (wpAny_typeOf hT1 ?_)
 have c1:Builtin.List.listSameRef (.ref s.heap.objs.size) (.ref a)=false:=by simp [Builtin.List.listSameRef,hne]
 have c2:(Value.type "set"==Value.type "list")=false:=by decide
 have c3:(Value.type "set"==Value.type "tuple")=false:=by decide
 simp only [c1,c2,c3,Bool.or_false,Bool.false_eq_true,if_false]
 refine wpAny_bind (Ztv ho1 hx hd T hn fun it Tp l h' d hit hTit hTa keep W hp hTl hil=>?_)
 obtain ⟨⟨first,hi,M⟩,hob⟩:=id W
 have hT2:Shared.TypeIs { s with heap:=h',drawn:=d } (.ref a) "set":=⟨ob,hob,hx.1⟩
 refine wpAny_bind (wpAny_holding (Zt8 hT2 ?_))
 refine (?_:wpAny (model prog w) A.in1 (rule "list.extend.makes-room" >>= fun _=>Builtin.List.listTouch (.ref s.heap.objs.size) >>= fun _=>again (.builtin "list.extend.loop" ⟨[.ref s.heap.objs.size,.ref it,.ref s.heap.objs.size],[]⟩)) _ _ { s with heap:=h',drawn:=d })
 refine wpAny_bind (wpAny_rule ?_)
 have hS0:h'.get? s.heap.objs.size=some (seqObj "list" #[] 0):=keep _ _ (Heap.get?_push_size _ rfl)
 refine wpAny_bind (m:=Builtin.List.listTouch (.ref s.heap.objs.size)) (wpAny_bind (m:=updateSeq s.heap.objs.size (·.push .none)) (wpAny_updateSeq (s:={ s with heap:=h',drawn:=d }) hS0 rfl ?_))
 have hS2:=Heap.get?_update_self (Obj.mapSeq (·.push Value.none)) hS0 rfl
 refine (?_:wpAny (model prog w) A.in1 (updateSeq s.heap.objs.size (·.pop)) _ _ _)
 refine wpAny_updateSeq hS2 rfl ?_
 have hS3:=Heap.get?_update_self (Obj.mapSeq (·.pop)) hS2 rfl
 have hit0:s.heap.objs.size < it:=by rw [Heap.size_push] at hit;exact hit
 have hTs:s.heap.objs.size≠Tp:=by
  rcases hTa with e | e
  ·rw [e];exact hne
  ·rw [Heap.size_push] at e;exact Nat.ne_of_lt e
 have hSf:s.heap.objs.size∉[it,a,Tp]:=by
  simp only [List.mem_cons,List.not_mem_nil,or_false,not_or]
  exact ⟨Nat.ne_of_lt hit0,hne,hTs⟩
 have hai:a≠it:=Nat.ne_of_lt (Nat.lt_trans hlt hit0)
 have hll:l.length=es.size:=by rw [hp.length_eq,Array.length_toList]
 have WS:=(ZqO (prog:=prog) (w:=w) (A:=A.in1) (by simp [hh]) hx hd T hai hTit hll).toS
 have oth:∀ b o,b≠s.heap.objs.size→h'.get? b=some o→((h'.update s.heap.objs.size (Obj.mapSeq (·.push Value.none))).update s.heap.objs.size (Obj.mapSeq (·.pop))).get? b=some o :=
  fun b o hb e=>(Heap.get?_update_other _ _ (Ne.symm hb)).trans ((Heap.get?_update_other _ _ (Ne.symm hb)).trans e)
 refine wpAny_pure ⟨plainId_quiet PySem.F.plain_extend_loop _,codeAny_extend_loopS WS (fits_of_scanBound (by rw [hz];exact hn)) _ hSf _ es.size 0 _ _ _ rfl (Nat.zero_le _)
  ⟨⟨first,oth _ _ (Ne.symm (Nat.ne_of_lt hit0)) hi,M.at fun o e=>oth _ _ (Ne.symm hTs) e⟩,oth _ _ (Ne.symm hne) hob⟩ hS3 (ItemsOf.nil _) fun s' acc c hm hS' hacc=>?_⟩
 refine wpAny_bind (m:=load s.heap.objs.size) (wpAny_load hS' (wpAny_pure ?_))
 have hvs:acc.toList=l.map (·.2):=by
  apply List.ext_getElem?
  intro i
  rw [List.getElem?_map,Array.getElem?_toList]
  by_cases hi':i < acc.size
  ·obtain ⟨e,he,hv⟩:=hacc.2 i _ (Array.getElem?_eq_getElem hi')
   rw [Array.getElem?_eq_getElem hi',he,hv];rfl
  ·rw [Array.getElem?_eq_none (by omega),List.getElem?_eq_none (by rw [hll,← hacc.1];omega)];rfl
 have hall:∀ v∈l.map (·.2),∃ x t,v=Value.str x t:=fun v hv=>by
  obtain ⟨e,he,rfl⟩:=List.mem_map.mp hv
  obtain ⟨x,u,rfl⟩:=T.el e (hp.mem_iff.mp he)
  exact ⟨x,u,rfl⟩
 refine h s' acc.toList ((l.map (·.2)).map strOf) (by rw [hvs];exact strsAre_map _ hall) ?_ (fun b o hb e=>?_) hm.gens hm.os ?_
 ·rw [List.map_map]
  exact ((hp.map _).trans T.pm)
 ·refine hm.heap b o ?_ (oth b o (Nat.ne_of_lt hb) (keep b o (Heap.get?_push_of_some _ e)))
  simp only [List.mem_cons,List.not_mem_nil,or_false,not_or]
  exact ⟨Nat.ne_of_lt hb,Nat.ne_of_lt (Nat.lt_trans hb hit0)⟩
 ·exact Nat.le_of_lt (Heap.lt_size hS')
theorem Zp5 {a:Addr} {ks:List Str} {Q:Value→Shared→Prop} (hh:A.handled=none) (hS:SS w s.heap a ks) (hn:ks.length < 64)
  (h:∀ (s':Shared) (p:Addr) (vs:List Value) (xs:List Str) (e:Nat),s.heap.objs.size≤p→s'.heap.get? p=some (seqObj "list" vs.toArray e)→StrsAre vs xs→xs.Perm ks→sortedS xs=true→(∀ c o,c < s.heap.objs.size→s.heap.get? c=some o→s'.heap.get? c=some o)→s'.gens=s.gens→s'.os=s.os→Q (.ref p) s') :
  wpAny (model prog w) A (call (.builtin "sorted") [.ref a]) Q E s:=by
 refine Calls.call_function_entry kind_sorted plain_sorted entry_sorted (args_sorted1 _) ?_;unfold Builtin.«sorted»
 refine wpAny_bind (m:=checkCount "sorted" 1 1 _) (wpAny_pure ?_)
 refine wpAny_bind (Zn7 (by simp [hh]) hS (by unfold scanBound;omega) fun s1 vs xs hv hp keep hg hos hsz=>?_)
 have hvl:vs.length < 64:=by rw [hv.length,hp.length_eq];exact hn
 refine wpAny_bind (wpAny_newList ?_ (by have:(64:Nat)≤sizeLine:=by decide
                                         omega))
 have hoL:(s1.heap.push (seqObj "list" vs.toArray 0)).get? s1.heap.objs.size=some (seqObj "list" vs.toArray 0):=Heap.get?_push_size _ rfl
 refine wpAny_bind (wpAny_holding (wpAny_call_entry slot_list_sort ⟨_,hoL,rfl⟩ entry_list_sort (list_sort_treeK (s:={ s1 with heap:=s1.heap.push (seqObj "list" vs.toArray 0) }) strKind_oneLt hoL hv.keysOf (fun v1 v2 r e=>keyKind_strs (by rw [← e];exact hv)) hvl fun st' a1 a2=>⟨_,rfl,?_⟩) (args_list_sort _)))
 obtain ⟨xs',hv',hp',hs'⟩:=sorted_out_str hv a1 a2
 obtain ⟨e,he⟩:=sortedHeap_at (n:=0) (vs:=vs) (out:=(arrOf st').map (·.2)) hoL
 refine wpAny_pure ⟨_,rfl,h _ _ ((arrOf st').map (·.2)).toList xs' e hsz (by rw [Array.toArray_toList];exact he) hv' (hp'.trans hp) hs' (fun c o hc z=>?_) hg hos⟩
 rw [sortedHeap_old (Nat.ne_of_lt (Nat.lt_of_lt_of_le hc hsz)) (by rw [Heap.size_push];exact Nat.lt_succ_of_lt (Nat.lt_of_lt_of_le hc hsz))]
 exact Heap.get?_push_of_some _ (keep c o hc z)
end
end L3
namespace L3
open PySem PySem.Spec PyProof.Rows L2
variable {K:PySem.W.Frag} {H H' H2:Hp}
theorem Zjt:∀ {xs:List Str} {its:List Value},Vals (xs.map V.str) its→StrsAre its xs
 | [],_,.nil=>.nil
 | x::xs,_,.cons r rs=>by
  obtain ⟨t,rfl⟩:=r
  exact .cons x t (Zjt rs)
theorem Zmm:∀ {xs:List Str} {its:List Value},StrsAre its xs→Vals (xs.map V.str) its
 | [],_,.nil=>.nil
 | x::xs,_,.cons _ t rs=>.cons ⟨t,rfl⟩ (Zmm rs)
theorem Zey {α:Type} [BEq α] [LawfulBEq α]:∀ {ks xs:List α},ks.Nodup→(∀ x∈ks,x∈xs)→ks.length≤xs.length
 | [],xs,_,_=>Nat.zero_le _
 | k::ks,xs,hn,h=>by
  have hk:=List.nodup_cons.mp hn
  have hin:k∈xs:=h k List.mem_cons_self
  have h1:=Zey (xs:=xs.erase k) hk.2 fun x hx=>(List.mem_erase_of_ne (fun e=>hk.1 (by rw [← e];exact hx))).mpr (h x (List.mem_cons_of_mem _ hx))
  rw [List.length_erase_of_mem hin] at h1
  have:0 < xs.length:=List.length_pos_of_mem hin
  rw [List.length_cons];omega
section
variable {X:Cx} {e eb:Expr} {p1 p2 p3 q1 q2 q3 qb:Pos} {ta tb:TE}
theorem ZnO {A:Around} {E:Value→Shared→Prop} {s:Shared} {pos:Pos} {Q:List Value→Shared→Prop} (hs:starEach [e] X.env=(false,eval e X.env)::starEach [] X.env) (h:wpAny (model X.prog X.w) A (eval e X.env) (fun v s1=>Q [v] s1) E s):wpAny (model X.prog X.w) A (spliced (backTo pos (starEach [e] X.env))) Q E s:=by
 rw [hs]
 refine Calls.spliced_cons (wpAny_mono h (fun v s1 q=>?_) fun _ _ z=>z)
 exact Calls.spliced_nil q
def ZxE (K:PySem.W.Frag) (ta tb:TE):TE:=fun σ H Q=>ta σ H fun x H1=>∃ (p:Addr) (xs:List Str),x=.ref p∧SqL K H1 p (xs.map V.str)∧xs.length < 16∧tb σ H1 fun y H2=>∃ (q:Addr) (ys:List Str),y=.ref q∧SqL K H2 q (ys.map V.str)∧ys.length < 16 ∧
 ∀ (zs:List Str) (r:Addr),zs.Nodup→sortedS zs=true→(∀ x,x∈zs↔x∈xs∨x∈ys)→H2 r=none→Q (.ref r) (upd H2 r (.lst (zs.map V.str)))
theorem ZsU (hc:X.calm=true) (n1:X.mg "sorted"=none) (n2:X.mg "set"=none) (g1:Gl X "sorted") (g2:Gl X "set") (h1:starEach [e] X.env=(false,eval e X.env)::starEach [] X.env) (h2:starEach [eb] X.env=(false,eval eb X.env)::starEach [] X.env)
  (h3:starEach [.BinOp (.Call (.Name "set" p1) [e] [] q1) .BitOr (.Call (.Name "set" p2) [eb] [] q2) qb] X.env=(false,eval (.BinOp (.Call (.Name "set" p1) [e] [] q1) .BitOr (.Call (.Name "set" p2) [eb] [] q2) qb) X.env)::starEach [] X.env) (ha:PE X e ta) (hb:PE X eb tb) :
  PE X (.Call (.Name "sorted" p3) [.BinOp (.Call (.Name "set" p1) [e] [] q1) .BitOr (.Call (.Name "set" p2) [eb] [] q2) qb] [] q3) (ZxE X.K ta tb):=by
 intro pins s σ H Q I h
 have bS:bootBuiltins "sorted"=some (.builtin "sorted"):=by decide +kernel
 have bT:bootBuiltins "set"=some (.type "set"):=by decide +kernel
 have hh:X.A.handled=none:=I.ok.hd hc
 refine wpAny_Call_Name_kw (Zgi I g1 n1 bS ?_)
 refine PyProof.Rows.callWith_builtin1 (ZnO h3 ?_) h3 rfl
 refine wpAny_BinOp ?_
 refine wpAny_Call_Name_kw (Zgi I g2 n2 bT ?_)
 refine PyProof.Rows.callWith_type1 (ZnO h1 ?_) h1 rfl
 refine thn (ha pins s σ H _ I h) fun v s1 zz1=>?_
 obtain ⟨x,H1,I1,r1,p,xs,ex,hq,hn,q1⟩:=zz1
 subst ex
 cases r1
 obtain ⟨its,rv,pl,hz⟩:=I1.list hq
 have hil:its.length=xs.length:=by have:=rv.length;rw [List.length_map] at this;exact this.symm
 refine ZoP hh pl.isList (by simpa using Zjt rv) (by rw [List.size_toArray,hil];unfold scanBound;omega) fun h' tk ka hA hxa keep=>?_
 have hA':=hA
 obtain ⟨oa,esA,epA,tA,hoA,hxA,hdA,TA⟩:=hA
 have I2:Inv X pins σ H1 { s1 with heap:=h',toks:=tk }:=I1.kept fun b u z=>keep b u (Heap.lt_size z) z
 have I3:Inv X (pins++[(s1.heap.objs.size,oa)]) σ H1 { s1 with heap:=h',toks:=tk }:=I2.pins_of fun p hp=>by
  rcases List.mem_append.mp hp with hp | hp
  ·exact I2.pin p (List.mem_append_right _ hp)
  ·have e:=List.mem_singleton.mp hp
   subst e
   exact ⟨hoA,I1.hok.fresh (Nat.le_refl _),Ne.symm (Nat.ne_of_lt I1.lt),I1.nofs (Nat.le_refl _),fun v z=>by rw [hdA] at z;cases z⟩
 refine wpAny_Call_Name_kw (Zgi I3 g2 n2 bT ?_)
 refine PyProof.Rows.callWith_type1 (ZnO h2 ?_) h2 rfl
 refine thn (hb _ _ σ H1 _ I3 q1) fun v2 s2 zz2=>?_
 obtain ⟨y,H2,I4,r2,q,ys,ey,hq2,hn2,q2⟩:=zz2
 subst ey
 cases r2
 have hoA2:s2.heap.get? s1.heap.objs.size=some oa:=(I4.pin (s1.heap.objs.size,oa) (List.mem_append_right _ (List.mem_append_right _ (List.mem_singleton.mpr rfl)))).1
 have I5:Inv X pins σ H2 s2:=I4.unpinned
 obtain ⟨its2,rv2,pl2,hz2⟩:=I5.list hq2
 have hil2:its2.length=ys.length:=by have:=rv2.length;rw [List.length_map] at this;exact this.symm
 refine ZoP hh pl2.isList (by simpa using Zjt rv2) (by rw [List.size_toArray,hil2];unfold scanBound;omega) fun h'' tk2 kb hB hxb keep2=>?_
 have hA2:SS X.w h'' s1.heap.objs.size ka:=⟨oa,esA,epA,tA,keep2 _ _ (Heap.lt_size hoA2) hoA2,hxA,hdA,TA⟩
 have lka:ka.length < 16:=Nat.lt_of_le_of_lt (Zey hA'.nd fun x hx=>(hxa x).mp hx) hn
 have lkb:kb.length < 16:=Nat.lt_of_le_of_lt (Zey hB.nd fun x hx=>(hxb x).mp hx) hn2
 refine ZzI (s:={ s2 with heap:=h'',toks:=tk2 }) (Nat.ne_of_lt (Heap.lt_size hoA2)) hA2 hB lka lkb fun h3 kc hC hxc keep3=>?_
 have lkc:kc.length < 64:=by
  have:=Zey (xs:=ka++kb) hC.nd fun x hx=>List.mem_append.mpr ((hxc x).mp hx)
  rw [List.length_append] at this
  omega
 refine Zp5 hh hC lkc fun s' r vs zs en hr hget hv hp hs keep4 hg hos=>?_
 have z1:s2.heap.objs.size < h''.objs.size:=SS.lt (s:={ s2 with heap:=h'' }) hB
 have z2:h''.objs.size < h3.objs.size:=SS.lt (s:={ s2 with heap:=h3 }) hC
 have hr2:s2.heap.objs.size≤r:=Nat.le_of_lt (Nat.lt_of_lt_of_le (Nat.lt_trans z1 z2) hr)
 have kall:∀ b u,s2.heap.get? b=some u→s'.heap.get? b=some u:=fun b u z=>by
  have y1:=keep2 b u (Heap.lt_size z) z
  have y2:=keep3 b u (Heap.lt_size y1) y1
  exact keep4 b u (Heap.lt_size y2) y2
 have hzl:zs.length≤sizeLine:=by
  have:(64:Nat)≤sizeLine:=by decide
  rw [hp.length_eq];omega
 have J:Inv X pins σ (upd H2 r (.lst (zs.map V.str))) { s2 with heap:=s'.heap,toks:=s'.toks }:=I5.laid (t':=s'.toks) kall hr2 (show ObjOk X.prog X.w _ s'.heap r (.lst (zs.map V.str)) from ⟨by rw [List.length_map];exact hzl,vs,en,Zmm hv,hget⟩)
 refine ⟨.ref r,_,⟨J.ok,by rw [hos];exact J.os,by rw [hg];exact J.bare,J.base,J.loc,J.cell,J.free,J.freeC,J.pin,J.hok,J.len⟩,rfl,q2 zs r (hp.nodup_iff.mpr hC.nd) hs (fun x=>?_) (I5.hok.fresh hr2)⟩
 rw [hp.mem_iff,hxc,hxa,hxb]
def Zet (ga gb:GE):GE:=fun ω G Q=>ga ω G fun x G1=>∃ xs:List Str,Zmg G1 x=some (xs.map W.str)∧xs.length < 16∧gb ω G1 fun y G2=>∃ ys:List Str,Zmg G2 y=some (ys.map W.str)∧ys.length < 16 ∧
 ∀ (zs:List Str) (p:Addr),zs.Nodup→sortedS zs=true→(∀ x,x∈zs↔x∈xs∨x∈ys)→G2 p=none→Q (.ref p) (put G2 p (.lst (zs.map W.str)))
theorem Zt0 {ga gb:GE} (ma:ga.M) (mb:gb.M):GE.M (Zet ga gb):=fun ω G Q Q' h q=>ma _ _ _ _ ((by rintro x G1 ⟨xs,h1,h2,q1⟩;exact ⟨xs,h1,h2,mb _ _ _ _ ((by rintro y G2 ⟨ys,h3,h4,q2⟩;exact ⟨ys,h3,h4,fun zs p a b c d=>h _ _ (q2 zs p a b c d)⟩)) q1⟩)) q
theorem Zok:∀ {xs:List Str} {vs:List V},TrL K H vs (xs.map W.str)→vs=xs.map V.str
 | [],_,.nil=>rfl
 | x::xs,_,.cons t ts=>by
  cases t
  rw [Zok ts];rfl
theorem Zre:∀ (xs:List Str),TrL K H (xs.map V.str) (xs.map W.str)
 | []=>.nil
 | x::xs=>.cons (.str x) (Zre xs)
theorem Zc2 {ga gb:GE} (hc:X.calm=true) (n1:X.mg "sorted"=none) (n2:X.mg "set"=none) (g1:Gl X "sorted") (g2:Gl X "set") (h1:starEach [e] X.env=(false,eval e X.env)::starEach [] X.env) (h2:starEach [eb] X.env=(false,eval eb X.env)::starEach [] X.env)
  (h3:starEach [.BinOp (.Call (.Name "set" p1) [e] [] q1) .BitOr (.Call (.Name "set" p2) [eb] [] q2) qb] X.env=(false,eval (.BinOp (.Call (.Name "set" p1) [e] [] q1) .BitOr (.Call (.Name "set" p2) [eb] [] q2) qb) X.env)::starEach [] X.env) (ha:Em X e ga) (hb:Em X eb gb) :
  Em X (.Call (.Name "sorted" p3) [.BinOp (.Call (.Name "set" p1) [e] [] q1) .BitOr (.Call (.Name "set" p2) [eb] [] q2) qb] [] q3) (Zet ga gb):=by
 refine ⟨Zbz (ZsU hc n1 n2 g1 g2 h1 h2 h3 ha.p hb.p) fun σ H Q zz3=>?_,Zt0 ha.m hb.m⟩
 obtain ⟨ω,G,ts,rh,q⟩:=zz3
 refine ⟨ω,G,ts,rh,ha.m _ _ _ _ (fun x G1 zz4 v H1 m1 tx r1=>?_) q⟩
 obtain ⟨xs,hx,hn,q1⟩:=zz4
 obtain ⟨a,vs,rfl,rfl,hG,hH,tv⟩:=Zhp r1 tx hx
 obtain rfl:=Zok tv
 refine ⟨a,xs,rfl,.inl (.inl hH),hn,ω,G1,ts.mono m1,r1,hb.m _ _ _ _ (fun y G2 zz5 u H2 m2 ty r2=>?_) q1⟩
 obtain ⟨ys,hy,hn2,q2⟩:=zz5
 obtain ⟨b,us,rfl,rfl,hG2,hH2,tu⟩:=Zhp r2 ty hy
 obtain rfl:=Zok tu
 refine ⟨b,ys,rfl,.inl (.inl hH2),hn2,fun zs r z1 z2 z3 z4=>?_⟩
 exact q2 zs r z1 z2 z3 (r2.no z4) _ _ (m1.trans (m2.trans (Mono.new z4 _))) (.ref r) (r2.new z4 (Zre zs))
end
end L3
namespace L3
open PySem PySem.Spec PyProof.Rows L2
section
variable {prog:Program} {w:World} {A:Around} {E:Value→Shared→Prop} {s:Shared}
theorem Zie {it l:Addr} {i:Nat} {xs:Array Value} {x:Value} {Q:Value→Shared→Prop} (u:s.heap.IsTupleIter it l i) (v:s.heap.IsTuple l xs) (hx:xs[i]?=some x) (hQ:∀ h',h'.IsTupleIter it l (i+1)→Heap.SameBut it s.heap h'→Q x { s with heap:=h' }) :
  wpAny (model prog w) A (Builtin.SmallTypes.nextOf (.ref it)) Q E s:=by
 obtain ⟨oi,ei,ci,di⟩:=id u
 obtain ⟨ol,el,_,nl,dl⟩:=v
 unfold Builtin.SmallTypes.nextOf
 refine wpAny_bind (wpAny_callSpecial?_slot (name:=Str.ofString "__next__") u.typeIs PySem.F.slot_tuple_iterator_next (wpAny_call_entry PySem.F.slot_tuple_iterator_next u.typeIs PySem.F.entry_tuple_iterator_next ?_ (PySem.F.args_tuple_iterator_next_1 _)))
 refine wpAny_bind (m:=field (.ref it) 0) (wpAny_field ei di (x:=.ref l) rfl ?_)
 show wpAny (model prog w) _ (if (Value.ref l==Value.none)=true then _ else _) _ E s
 rw [if_neg (show ¬ ((Value.ref l==Value.none)=true) from Bool.false_ne_true)];refine wpAny_bind (m:=field (.ref it) 1) (wpAny_field ei di (x:=.int i 0) rfl ?_)
 refine wpAny_bind (m:=seqItems? (.ref l)) (wpAny_seqItems el dl ?_)
 simp only [Int.toNat_natCast];rw [hx]
 refine wpAny_bind (wpAny_setField ei di (by simp) (wpAny_pure ⟨x,rfl,wpAny_pure (hQ _ ⟨_,Heap.get?_update_self _ ei (Obj.isFreed_of_fields (Obj.data_mapFields di _)),(Obj.cls_mapFields ..).trans ci,?_⟩ (Heap.SameBut.update ..))⟩))
 rw [Obj.data_mapFields di];simp [rawInt]
theorem Zrd {it l:Addr} {i:Nat} {xs:Array Value} {Q:Value→Shared→Prop} (hh:A.handled=none) (u:s.heap.IsTupleIter it l i) (v:s.heap.IsTuple l xs) (hx:xs[i]?=none)
  (hE:∀ h' e,Heap.ExtBut it s.heap h'→(∃ o,h'.get? e=some o∧o.cls=.type "StopIteration")→E (.ref e) { s with heap:=h' }):wpAny (model prog w) A (Builtin.SmallTypes.nextOf (.ref it)) Q E s:=by
 obtain ⟨oi,ei,ci,di⟩:=id u
 obtain ⟨ol,el,_,nl,dl⟩:=v
 unfold Builtin.SmallTypes.nextOf
 refine wpAny_bind (wpAny_callSpecial?_slot (name:=Str.ofString "__next__") u.typeIs PySem.F.slot_tuple_iterator_next (wpAny_call_entry PySem.F.slot_tuple_iterator_next u.typeIs PySem.F.entry_tuple_iterator_next ?_ (PySem.F.args_tuple_iterator_next_1 _)))
 refine wpAny_bind (m:=field (.ref it) 0) (wpAny_field ei di (x:=.ref l) rfl ?_)
 show wpAny (model prog w) _ (if (Value.ref l==Value.none)=true then _ else _) _ E s
 rw [if_neg (show ¬ ((Value.ref l==Value.none)=true) from Bool.false_ne_true)];refine wpAny_bind (m:=field (.ref it) 1) (wpAny_field ei di (x:=.int i 0) rfl ?_)
 refine wpAny_bind (m:=seqItems? (.ref l)) (wpAny_seqItems el dl ?_)
 simp only [Int.toNat_natCast];rw [hx]
 refine wpAny_bind (wpAny_rule (wpAny_bind (wpAny_setField ei di (by simp) ?_)));refine wpAny_bind (m:=newExc (.type "StopIteration") []) ?_
 simp only [newExc,newTuple]
 refine wpAny_bind (wpAny_newObj_type ?_ (by size_fits));refine wpAny_bind (m:=firstArgMember _ _) (wpAny_of_eq (a:=Value.none) (by first | rfl | (simp only [firstArgMember];rfl)) (wpAny_newObj_type ?_ (by size_fits)))
 simp only [raiseNew]
 refine wpAny_bind (wpAny_handled ?_);rw [show A.in1.handled=none from hh]
 refine wpAny_bind (wpAny_pure (wpAny_throw ?_))
 exact hE _ _ (((Heap.SameBut.update ..).extBut.push _).push _) ⟨_,Heap.get?_push_size _ rfl,rfl⟩
theorem ZwA {z TI TO i1 i2 l1 l2:Addr} {k1 k2:Nat} {xs ys:Array Value} {x y a b:Value} {Q:Value→Shared→Prop} (D:ZipApart z TI TO i1 i2 l1 l2) (hz:IsZip s.heap z TI TO .none) (hTI:IsPair s.heap TI (.ref i1) (.ref i2)) (hTO:IsPair s.heap TO a b)
  (u1:s.heap.IsTupleIter i1 l1 k1) (u2:s.heap.IsTupleIter i2 l2 k2) (v1:s.heap.IsTuple l1 xs) (v2:s.heap.IsTuple l2 ys) (hx:xs[k1]?=some x) (hy:ys[k2]?=some y)
  (hQ:∀ h',IsZip h' z TI TO (rawInt s.heap.objs.size)→IsPair h' TO x y→h'.IsTupleIter i1 l1 (k1+1)→h'.IsTupleIter i2 l2 (k2+1)→IsPair h' s.heap.objs.size x y→(∀ c o,c≠z→c≠TO→c≠i1→c≠i2→s.heap.get? c=some o→h'.get? c=some o)→Q (.ref s.heap.objs.size) { s with heap:=h' }) :
  wpAny (model prog w) A (Builtin.«zip.__next__» ⟨[.ref z],[]⟩) (fun fin s'=>∃ v,fin=.done (.ret v)∧Q v s') E s:=by
 refine wpAny_bind (m:=field (.ref z) 2) (wpAny_field hz rfl (x:=.bool false) rfl ?_)
 refine wpAny_bind (m:=field (.ref z) 3) (wpAny_field hz rfl (x:=.ref TI) rfl (wpAny_bind (m:=seqItems? (.ref TI)) (wpAny_seqItems hTI rfl ?_)))
 refine wpAny_bind (m:=Builtin.SmallTypes.ownedTupleIsFree (.ref z)) ?_
 unfold Builtin.SmallTypes.ownedTupleIsFree
 refine wpAny_bind (m:=field (.ref z) 0) (wpAny_field hz rfl (x:=.none) rfl (wpAny_pure ?_));simp only [if_true]
 refine wpAny_bind (wpAny_rule (wpAny_bind (wpAny_field hz rfl (x:=.ref TO) rfl (wpAny_bind (wpAny_setField_rec hz (by simp) fun h₁ hz₁ hs₁=>?_)))))
 replace hz₁:IsZip h₁ z TI TO .ellipsis:=hz₁
 refine wpAny_bind ?_
 walk_at "px"
 refine wpAny_bind (wpAny_bind (wpAny_onRaise ?_));refine wpAny_bind (m:=Builtin.SmallTypes.nextOf (.ref i1)) ?_
 refine Zie (u1.extBut hs₁.extBut D.i1z) (v1.extBut hs₁.extBut D.l1z) hx fun h₂ w1 hs₂=>wpAny_pure ?_
 have hTO₂:IsPair h₂ TO a b:=hs₂.extBut _ _ D.TOi1 (hs₁.extBut _ _ D.TOz hTO)
 refine wpAny_bind (wpAny_seqItems hTO₂ rfl (wpAny_bind (wpAny_updateSeq_pair hTO₂ fun h₃ hTO₃ hs₃=>?_)))
 replace hTO₃:IsPair h₃ TO x b:=hTO₃
 refine wpAny_bind (wpAny_letGo (wpAny_pure ?_));refine wpAny_bind (wpAny_bind (wpAny_onRaise ?_));refine wpAny_bind (m:=Builtin.SmallTypes.nextOf (.ref i2)) ?_
 refine Zie (((u2.extBut hs₁.extBut D.i2z).extBut hs₂.extBut D.i12.symm).extBut hs₃.extBut D.TOi2.symm) (((v2.extBut hs₁.extBut D.l2z).extBut hs₂.extBut D.l2i1).extBut hs₃.extBut D.l2TO) hy fun h₄ w2 hs₄=>wpAny_pure ?_
 have hTO₄:IsPair h₄ TO x b:=hs₄.extBut _ _ D.TOi2 hTO₃
 refine wpAny_bind (wpAny_seqItems hTO₄ rfl (wpAny_bind (wpAny_updateSeq_pair hTO₄ fun h₅ hTO₅ hs₅=>?_)))
 replace hTO₅:IsPair h₅ TO x y:=hTO₅
 refine wpAny_bind (wpAny_letGo (wpAny_pure (wpAny_pure ?_)));refine wpAny_bind (wpAny_seqItems hTO₅ rfl (wpAny_bind (wpAny_newTuple ?_ (by show (2:Nat)≤sizeLine;decide))))
 have hsz:h₅.objs.size=s.heap.objs.size:=by rw [hs₅.1,hs₄.1,hs₃.1,hs₂.1,hs₁.1]
 have hz₅:IsZip h₅ z TI TO .ellipsis:=hs₅.extBut _ _ D.TOz.symm (hs₄.extBut _ _ D.i2z.symm (hs₃.extBut _ _ D.TOz.symm (hs₂.extBut _ _ D.i1z.symm hz₁)))
 have w1':h₅.IsTupleIter i1 l1 (k1+1):=((w1.extBut hs₃.extBut D.TOi1.symm).extBut hs₄.extBut D.i12).extBut hs₅.extBut D.TOi1.symm
 have w2':h₅.IsTupleIter i2 l2 (k2+1):=w2.extBut hs₅.extBut D.TOi2.symm
 refine wpAny_bind (m:=Builtin.SmallTypes.ownedTupleHandOut (.ref z) (.ref h₅.objs.size)) ?_
 unfold Builtin.SmallTypes.ownedTupleHandOut
 have hz₆:IsZip (h₅.push { cls:=.type "tuple",data:=.seq #[x,y] }) z TI TO .ellipsis:=Heap.get?_push_of_some _ hz₅
 refine wpAny_bind (wpAny_setField_rec hz₆ (by simp) fun h₇ hz₇ hs₇=>?_)
 replace hz₇:IsZip h₇ z TI TO (rawInt h₅.objs.size):=hz₇
 refine wpAny_setField_rec hz₇ (by simp) fun h₈ hz₈ hs₈=>?_
 replace hz₈:IsZip h₈ z TI TO (rawInt h₅.objs.size):=hz₈
 have zlt:h₅.objs.size≠z:=Nat.ne_of_gt (Heap.lt_size hz₅)
 have upp:∀ c o,c≠z→h₅.get? c=some o→h₈.get? c=some o:=fun c o c1 e=>hs₈.extBut _ _ c1 (hs₇.extBut _ _ c1 (Heap.get?_push_of_some _ e))
 have hT₈:IsPair h₈ h₅.objs.size x y:=hs₈.extBut _ _ zlt (hs₇.extBut _ _ zlt (Heap.get?_push_size _ rfl))
 rw [hsz] at hz₈ hT₈
 refine wpAny_pure ⟨_,rfl,(?_:Q (.ref h₅.objs.size) _)⟩
 rw [hsz]
 obtain ⟨o1,e1,r1⟩:=w1'
 obtain ⟨o2,e2,r2⟩:=w2'
 exact hQ h₈ hz₈ (upp _ _ D.TOz hTO₅) ⟨o1,upp _ _ D.i1z e1,r1⟩ ⟨o2,upp _ _ D.i2z e2,r2⟩ hT₈ fun c o c1 c2 c3 c4 e=>upp c o c1 (hs₅.extBut _ _ c2 (hs₄.extBut _ _ c4 (hs₃.extBut _ _ c2 (hs₂.extBut _ _ c3 (hs₁.extBut _ _ c1 e)))))
theorem ZyW {z TI TO i1 i2 l1 l2:Addr} {k1 k2:Nat} {xs ys:Array Value} {a b:Value} {Q:Fin→Shared→Prop} (hh:A.handled=none) (D:ZipApart z TI TO i1 i2 l1 l2) (hz:IsZip s.heap z TI TO .none) (hTI:IsPair s.heap TI (.ref i1) (.ref i2)) (hTO:IsPair s.heap TO a b)
  (u1:s.heap.IsTupleIter i1 l1 k1) (u2:s.heap.IsTupleIter i2 l2 k2) (v1:s.heap.IsTuple l1 xs) (v2:s.heap.IsTuple l2 ys) (hend:xs[k1]?=none∨ys[k2]?=none)
  (hE:∀ h' e,(∀ c o,c≠z→c≠TO→c≠i1→c≠i2→s.heap.get? c=some o→h'.get? c=some o)→(∃ o,h'.get? e=some o∧o.cls=.type "StopIteration")→E (.ref e) { s with heap:=h' }):wpAny (model prog w) A (Builtin.«zip.__next__» ⟨[.ref z],[]⟩) Q E s:=by
 refine wpAny_bind (m:=field (.ref z) 2) (wpAny_field hz rfl (x:=.bool false) rfl ?_)
 refine wpAny_bind (m:=field (.ref z) 3) (wpAny_field hz rfl (x:=.ref TI) rfl (wpAny_bind (m:=seqItems? (.ref TI)) (wpAny_seqItems hTI rfl ?_)))
 refine wpAny_bind (m:=Builtin.SmallTypes.ownedTupleIsFree (.ref z)) ?_
 unfold Builtin.SmallTypes.ownedTupleIsFree
 refine wpAny_bind (m:=field (.ref z) 0) (wpAny_field hz rfl (x:=.none) rfl (wpAny_pure ?_));simp only [if_true]
 refine wpAny_bind (wpAny_rule (wpAny_bind (wpAny_field hz rfl (x:=.ref TO) rfl (wpAny_bind (wpAny_setField_rec hz (by simp) fun h₁ hz₁ hs₁=>?_)))))
 replace hz₁:IsZip h₁ z TI TO .ellipsis:=hz₁
 refine wpAny_bind ?_
 walk_at "px"
 refine wpAny_bind (wpAny_bind (wpAny_onRaise ?_));refine wpAny_bind (m:=Builtin.SmallTypes.nextOf (.ref i1)) ?_
 cases hx:xs[k1]? with
 | none =>
  refine Zrd hh (u1.extBut hs₁.extBut D.i1z) (v1.extBut hs₁.extBut D.l1z) hx fun h₂ e hs₂ zz1=>?_
  obtain ⟨oe,hoe,hce⟩:=zz1
  have hz₂:IsZip h₂ z TI TO .ellipsis:=hs₂ _ _ D.i1z.symm hz₁
  have hez:e≠z:=fun q=>by subst q;rw [hz₂] at hoe;cases hoe;simp at hce
  exact wpAny_setField_rec hz₂ (by simp) fun h₃ _ hs₃=>hE h₃ e (fun c o c1 _ c3 _ q=>hs₃.extBut _ _ c1 (hs₂ _ _ c3 (hs₁.extBut _ _ c1 q))) ⟨oe,hs₃.extBut _ _ hez hoe,hce⟩
 | some x =>
  have hy:ys[k2]?=none:=by
   rcases hend with q | q
   ·rw [hx] at q;cases q
   ·exact q
  refine Zie (u1.extBut hs₁.extBut D.i1z) (v1.extBut hs₁.extBut D.l1z) hx fun h₂ w1 hs₂=>wpAny_pure ?_
  have hTO₂:IsPair h₂ TO a b:=hs₂.extBut _ _ D.TOi1 (hs₁.extBut _ _ D.TOz hTO)
  refine wpAny_bind (wpAny_seqItems hTO₂ rfl (wpAny_bind (wpAny_updateSeq_pair hTO₂ fun h₃ hTO₃ hs₃=>?_)))
  refine wpAny_bind (wpAny_letGo (wpAny_pure ?_));refine wpAny_bind (wpAny_bind (wpAny_onRaise ?_));refine wpAny_bind (m:=Builtin.SmallTypes.nextOf (.ref i2)) ?_
  refine Zrd hh (((u2.extBut hs₁.extBut D.i2z).extBut hs₂.extBut D.i12.symm).extBut hs₃.extBut D.TOi2.symm) (((v2.extBut hs₁.extBut D.l2z).extBut hs₂.extBut D.l2i1).extBut hs₃.extBut D.l2TO) hy fun h₄ e hs₄ zz2=>?_
  obtain ⟨oe,hoe,hce⟩:=zz2
  have hz₄:IsZip h₄ z TI TO .ellipsis:=hs₄ _ _ D.i2z.symm (hs₃.extBut _ _ D.TOz.symm (hs₂.extBut _ _ D.i1z.symm hz₁))
  have hez:e≠z:=fun q=>by subst q;rw [hz₄] at hoe;cases hoe;simp at hce
  exact wpAny_setField_rec hz₄ (by simp) fun h₅ _ hs₅=>hE h₅ e (fun c o c1 c2 c3 c4 q=>hs₅.extBut _ _ c1 (hs₄ _ _ c4 (hs₃.extBut _ _ c2 (hs₂.extBut _ _ c3 (hs₁.extBut _ _ c1 q))))) ⟨oe,hs₅.extBut _ _ hez hoe,hce⟩
end
end L3
namespace L3
open PySem PySem.Spec PyProof.Rows L2
variable {K:PySem.W.Frag} {H H' H2:Hp}
section
variable {prog:Program} {w:World} {A:Around} {E:Value→Shared→Prop} {s:Shared}
theorem tat {h h':Heap} {a t:Addr} {i:Nat} (x:h.IsTupleIter a t i) (k:∀ o,h.get? a=some o→h'.get? a=some o):h'.IsTupleIter a t i:=by
 obtain ⟨o,e,r⟩:=x
 exact ⟨o,k o e,r⟩
theorem Zzy {h h':Heap} {a:Addr} {xs:Array Value} (x:h.IsTuple a xs) (k:∀ o,h.get? a=some o→h'.get? a=some o):h'.IsTuple a xs:=by
 obtain ⟨o,e,r⟩:=x
 exact ⟨o,k o e,r⟩
theorem ZkC (hh:A.handled=none) (z TI TO i1 i2 l1 l2:Addr) (D:ZipApart z TI TO i1 i2 l1 l2) (xs ys:Array Value):WalksT prog w A z [z,TI,TO,i1,i2,l1,l2] [z,TO,i1,i2] (min xs.size ys.size) (fun i vals=>∃ x y,xs[i]?=some x∧ys[i]?=some y∧vals=#[x,y])
   (fun i h=>IsZip h z TI TO .none∧IsPair h TI (.ref i1) (.ref i2)∧(∃ a b,IsPair h TO a b)∧h.IsTupleIter i1 l1 i∧h.IsTupleIter i2 l2 i∧h.IsTuple l1 xs∧h.IsTuple l2 ys)
   (fun i T h=>IsZip h z TI TO (rawInt T)∧IsPair h TI (.ref i1) (.ref i2)∧(∃ a b,IsPair h TO a b)∧h.IsTupleIter i1 l1 (i+1)∧h.IsTupleIter i2 l2 (i+1)∧h.IsTuple l1 xs∧h.IsTuple l2 ys∧T≠z∧T≠TO∧T≠i1∧T≠i2) where
 sub:=fun c hc=>by simp at hc ⊢;rcases hc with rfl | rfl | rfl | rfl <;> simp
 frame:=fun i h h' st kk=>by
  obtain ⟨hz,hTI,⟨a,b,hTO⟩,h1,h2,g1,g2⟩:=st
  exact ⟨kk z (by simp) _ hz,kk TI (by simp) _ hTI,⟨a,b,kk TO (by simp) _ hTO⟩,tat h1 fun o e=>kk i1 (by simp) o e,tat h2 fun o e=>kk i2 (by simp) o e,Zzy g1 fun o e=>kk l1 (by simp) o e,Zzy g2 fun o e=>kk l2 (by simp) o e⟩
 item:=fun i s Q E hi st hQ=>by
  obtain ⟨hz,hTI,⟨a,b,hTO⟩,h1,h2,g1,g2⟩:=st
  have ix:i < xs.size:=Nat.lt_of_lt_of_le hi (Nat.min_le_left ..)
  have iy:i < ys.size:=Nat.lt_of_lt_of_le hi (Nat.min_le_right ..)
  have hT:s.TypeIs (.ref z) "zip":=⟨_,hz,rfl⟩
  have lt:∀ {c o},s.heap.get? c=some o→s.heap.objs.size≠c:=fun e=>Nat.ne_of_gt (Heap.lt_size e)
  unfold pyNext
  refine wpAny_bind (wpAny_attempt (wpAny_callSpecial?_slot (name:=Str.ofString "__next__") hT PySem.F.slot_zip_next (wpAny_call_entry PySem.F.slot_zip_next hT PySem.F.entry_zip_next (ZwA D hz hTI hTO h1 h2 g1 g2 (Array.getElem?_eq_getElem ix) (Array.getElem?_eq_getElem iy) fun h' a1 a2 a3 a4 a5 hk=>wpAny_pure ?_) (PySem.F.args_zip_next_1 _))))
  exact hQ s.heap.objs.size #[xs[i],ys[i]] h' s.toks ⟨_,_,Array.getElem?_eq_getElem ix,Array.getElem?_eq_getElem iy,rfl⟩ (Nat.le_refl _) ⟨_,a5,rfl,_,rfl⟩ ⟨a1,hk _ _ D.TIz D.TITO D.TIi1 D.TIi2 hTI,⟨_,_,a2⟩,a3,a4,Zzy g1 fun o e=>hk _ o D.l1z D.l1TO D.l1i1 D.l1i2 e,Zzy g2 fun o e=>hk _ o D.l2z D.l2TO D.l2i1 D.l2i2 e,lt hz,lt hTO,(by obtain ⟨_,e,_⟩:=h1;exact lt e),(by obtain ⟨_,e,_⟩:=h2;exact lt e)⟩ fun c o hc e=>hk c o (fun x=>hc (by simp [x])) (fun x=>hc (by simp [x])) (fun x=>hc (by simp [x])) (fun x=>hc (by simp [x])) e
 go:=fun elts k pos i T s Q E hm hQ=>by
  obtain ⟨hz,hTI,⟨a,b,hTO⟩,h1,h2,g1,g2,_⟩:=hm
  exact wpAny_letOwnedTupleGo_zip hz fun h' hz' hs'=>hQ h' ⟨hz',hs'.extBut _ _ D.TIz hTI,⟨a,b,hs'.extBut _ _ D.TOz hTO⟩,h1.extBut hs'.extBut D.i1z,h2.extBut hs'.extBut D.i2z,g1.extBut hs'.extBut D.l1z,g2.extBut hs'.extBut D.l2z⟩ fun c o hc e=>hs'.extBut _ _ (fun x=>hc (by simp [x])) e
 apart:=fun i T h hm hT=>by
  obtain ⟨_,_,_,_,_,_,_,t1,t2,t3,t4⟩:=hm
  simp at hT
  rcases hT with e | e | e | e
  ·exact t1 e
  ·exact t2 e
  ·exact t3 e
  ·exact t4 e
 done:=fun s Q E st hQ=>by
  obtain ⟨hz,hTI,⟨a,b,hTO⟩,h1,h2,g1,g2⟩:=st
  have hend:xs[min xs.size ys.size]?=none∨ys[min xs.size ys.size]?=none:=by
   rcases Nat.le_total xs.size ys.size with q | q
   ·exact .inl (Array.getElem?_eq_none (by omega))
   ·exact .inr (Array.getElem?_eq_none (by omega))
  have hT:s.TypeIs (.ref z) "zip":=⟨_,hz,rfl⟩
  unfold pyNext
  refine wpAny_bind (wpAny_attempt (wpAny_callSpecial?_slot (name:=Str.ofString "__next__") hT PySem.F.slot_zip_next (wpAny_call_entry PySem.F.slot_zip_next hT PySem.F.entry_zip_next (ZyW hh D hz hTI hTO h1 h2 g1 g2 hend fun h' e hk he=>?_) (PySem.F.args_zip_next_1 _))))
  obtain ⟨o,ho,hc⟩:=he
  exact wpAny_bind (wpAny_isInstance (T:="StopIteration") (b:=true) ⟨o,ho,hc⟩ isSubtype_stop (wpAny_pure (hQ h' s.toks fun c o hc e=>hk c o (fun x=>hc (by simp [x])) (fun x=>hc (by simp [x])) (fun x=>hc (by simp [x])) (fun x=>hc (by simp [x])) e)))
 self:=fun i s Q E st hQ=>wpAny_pyIter_zip st.1 hQ
abbrev zT1 (h:Heap) (l1:Addr):Heap:=h.push { cls:=.type "tuple_iterator",data:=.fields #[.ref l1,.int 0 0] }
abbrev zT2 (h:Heap) (l1 l2:Addr):Heap:=(zT1 h l1).push { cls:=.type "tuple_iterator",data:=.fields #[.ref l2,.int 0 0] }
abbrev zT3 (h:Heap) (l1 l2:Addr):Heap:=(zT2 h l1 l2).push { cls:=.type "tuple",data:=.seq #[.ref h.objs.size,.ref (zT1 h l1).objs.size] }
abbrev zT4 (h:Heap) (l1 l2:Addr):Heap:=(zT3 h l1 l2).push { cls:=.type "tuple",data:=.seq #[.none,.none] }
abbrev zT5 (h:Heap) (l1 l2:Addr):Heap:=(zT4 h l1 l2).push { cls:=.type "zip",data:=.fields #[.none,.bool false,.bool false,.ref (zT2 h l1 l2).objs.size,.ref (zT3 h l1 l2).objs.size] }
theorem ZsG (l1 l2:Addr) (xs ys:Array Value):Meets (Builtin.«zip.__new__» ⟨[.type "zip",.ref l1,.ref l2],[]⟩) (fun _ R s=>s.heap.IsTuple l1 xs∧s.heap.IsTuple l2 ys∧R (.ok (.ret (.ref (zT4 s.heap l1 l2).objs.size))) { s with heap:=zT5 s.heap l1 l2 }) :=
 .of_wp fun prog w A R s h=>by
  obtain ⟨hp,g,d,tk,os⟩:=s
  obtain ⟨u1,u2,h⟩:=h
  have hsub:=sub_zip
  have hL1:Heap.IsTuple (Shared.heap ⟨hp,g,d,tk,os⟩) l1 xs:=u1
  have hL2:Heap.IsTuple (Shared.heap ⟨hp.push { cls:=.type "tuple_iterator",data:=.fields #[.ref l1,.int 0 0] },g,d,tk,os⟩) l2 ys:=Heap.IsTuple.push u2 _
  wp_walk using wpAny_pyIter_tuple hL1,wpAny_pyIter_tuple hL2
  exact ⟨_,rfl,h⟩
theorem Zq0 {l1 l2:Addr} {xs ys:Array Value} {Q:Value→Shared→Prop} (u1:s.heap.IsTuple l1 xs) (u2:s.heap.IsTuple l2 ys)
  (h:∀ h',IsZip h' (s.heap.objs.size+4) (s.heap.objs.size+2) (s.heap.objs.size+3) .none→IsPair h' (s.heap.objs.size+2) (.ref s.heap.objs.size) (.ref (s.heap.objs.size+1))→IsPair h' (s.heap.objs.size+3) .none .none→h'.IsTupleIter s.heap.objs.size l1 0→h'.IsTupleIter (s.heap.objs.size+1) l2 0→h'.objs.size=s.heap.objs.size+5→(∀ c o,s.heap.get? c=some o→h'.get? c=some o)→Q (.ref (s.heap.objs.size+4)) { s with heap:=h' }) :
  wpAny (model prog w) A (call (.type "zip") [.ref l1,.ref l2]) Q E s:=by
 refine callType_new PySem.F.called_zip (by decide) (PySem.F.typeCall_zip_2 _ _) (PySem.F.newCall_zip_2 _ _) (fun obj=>PySem.F.args_object_init_3 obj _ _) PySem.F.entry_zip_new (ZsG l1 l2 xs ys) ⟨u1,u2,?_⟩
 have z1:(zT1 s.heap l1).objs.size=s.heap.objs.size+1:=Heap.size_push ..
 have z2:(zT2 s.heap l1 l2).objs.size=s.heap.objs.size+2:=by rw [Heap.size_push,z1]
 have z3:(zT3 s.heap l1 l2).objs.size=s.heap.objs.size+3:=by rw [Heap.size_push,z2]
 have z4:(zT4 s.heap l1 l2).objs.size=s.heap.objs.size+4:=by rw [Heap.size_push,z3]
 have z5:(zT5 s.heap l1 l2).objs.size=s.heap.objs.size+5:=by rw [Heap.size_push,z4]
 have g5:(zT5 s.heap l1 l2).get? (zT4 s.heap l1 l2).objs.size=some _:=Heap.get?_push_size _ rfl
 have g4:(zT5 s.heap l1 l2).get? (zT3 s.heap l1 l2).objs.size=some _:=Heap.get?_push_of_some _ (Heap.get?_push_size _ rfl)
 have g3:(zT5 s.heap l1 l2).get? (zT2 s.heap l1 l2).objs.size=some _:=Heap.get?_push_of_some _ (Heap.get?_push_of_some _ (Heap.get?_push_size _ rfl))
 have g2:(zT5 s.heap l1 l2).get? (zT1 s.heap l1).objs.size=some _:=Heap.get?_push_of_some _ (Heap.get?_push_of_some _ (Heap.get?_push_of_some _ (Heap.get?_push_size _ rfl)))
 have g1:(zT5 s.heap l1 l2).get? s.heap.objs.size=some _:=Heap.get?_push_of_some _ (Heap.get?_push_of_some _ (Heap.get?_push_of_some _ (Heap.get?_push_of_some _ (Heap.get?_push_size _ rfl))))
 rw [z2,z3,z4] at g5
 rw [z1,z2] at g3
 rw [z3] at g4
 rw [z1] at g2
 rw [z4]
 exact ⟨⟨_,g5,rfl⟩,h _ g5 g3 g4 ⟨_,g1,rfl,rfl⟩ ⟨_,g2,rfl,rfl⟩ z5 fun c o x=>Heap.get?_push_of_some _ (Heap.get?_push_of_some _ (Heap.get?_push_of_some _ (Heap.get?_push_of_some _ (Heap.get?_push_of_some _ x))))⟩
end
def ZA2 (K:PySem.W.Frag) (l1 l2:Addr):It :=
 ⟨fun i H=>∃ xs ys,SqT K H l1 xs∧SqT K H l2 ys∧i < xs.length∧i < ys.length,
  fun i H v H'=>∃ T x y,H T=none∧v=.ref T∧H'=upd H T (.tup [x,y])∧∀ xs ys,SqT K H l1 xs→SqT K H l2 ys→xs[i]?=some x∧ys[i]?=some y,
  fun i H=>∃ xs ys,SqT K H l1 xs∧SqT K H l2 ys∧i=min xs.length ys.length⟩
theorem Zqq {P:Program} {w:World} {elts:List Expr} {k:Nat} {tpos:Pos} {z TI TO i1 i2 l1 l2:Addr} (D:ZipApart z TI TO i1 i2 l1 l2) :
  Ztq P w K (.Tuple elts k tpos) (ZA2 K l1 l2) [z,TI,TO,i1,i2] z (fun i h=>IsZip h z TI TO .none∧IsPair h TI (.ref i1) (.ref i2)∧(∃ a b,IsPair h TO a b)∧h.IsTupleIter i1 l1 i∧h.IsTupleIter i2 l2 i) where
 mem:=by simp
 obj:=fun i h st b hb=>by
  obtain ⟨hz,hTI,⟨a,c,hTO⟩,⟨o1,e1,_,d1⟩,⟨o2,e2,_,d2⟩⟩:=st
  walk_at "pm"
  rcases hb with rfl | rfl | rfl | rfl | rfl
  ·exact ⟨_,hz,fun v z=>by cases z⟩
  ·exact ⟨_,hTI,fun v z=>by cases z⟩
  ·exact ⟨_,hTO,fun v z=>by cases z⟩
  ·exact ⟨o1,e1,fun v z=>by rw [d1] at z;cases z⟩
  ·exact ⟨o2,e2,fun v z=>by rw [d2] at z;cases z⟩
 keep:=fun i h h' st kk=>by
  obtain ⟨hz,hTI,⟨a,c,hTO⟩,h1,h2⟩:=st
  exact ⟨kk z (by simp) _ hz,kk TI (by simp) _ hTI,⟨a,c,kk TO (by simp) _ hTO⟩,h1.at fun o e=>kk i1 (by simp) o e,h2.at fun o e=>kk i2 (by simp) o e⟩
 item:=by
  walk_at "pc"
  subst hP hw hK
  obtain ⟨xs,ys,hx,hy,hix,hiy⟩:=hg
  obtain ⟨its1,r1,pl1,z1⟩:=I.tuple hx
  obtain ⟨its2,r2,pl2,z2⟩:=I.tuple hy
  have n1:=r1.length
  have n2:=r2.length
  obtain ⟨hz,hTI,hTO,h1,h2⟩:=st
  have Wk:=ZkC (prog:=X.prog) (w:=X.w) (A:=X.A) (I.ok.hd hc) z TI TO i1 i2 l1 l2 D its1.toArray its2.toArray
  refine Wk.item i s _ _ (by simp only [List.size_toArray];omega) ⟨hz,hTI,hTO,h1,h2,pl1,pl2⟩ fun T vals h' tk hPt hT hTup hMid hk=>⟨.ref T,rfl,?_⟩
  refine Wk.go elts k tpos i T _ _ _ hMid fun h2' st2 hk2=>?_
  obtain ⟨v1,v2,g1,g2,rfl⟩:=hPt
  have g1':its1[i]?=some v1:=by simpa using g1
  have g2':its2[i]?=some v2:=by simpa using g2
  have gx:xs[i]?=some xs[i]:=List.getElem?_eq_getElem hix
  have gy:ys[i]?=some ys[i]:=List.getElem?_eq_getElem hiy
  obtain ⟨u1,q1,rv1⟩:=r1.get gx
  obtain ⟨u2,q2,rv2⟩:=r2.get gy
  rw [g1'] at q1;cases q1
  rw [g2'] at q2;cases q2
  have hw1:∀ b,b∉[z,TI,TO,i1,i2]→b∉[z,TO,i1,i2]:=fun b hb hc=>hb (by
   simp only [List.mem_cons,List.not_mem_nil,or_false] at hc ⊢
   rcases hc with h | h | h | h <;> simp [h])
  have I1:Inv X pins σ H { s with heap:=h2',toks:=tk }:=Inv.turneds I hf fun b o hb e=>hk2 b o (hw1 b hb) (hk b o (hw1 b hb) e)
  have hTn:H T=none:=I.hok.fresh hT
  have hTup2:IsTup h2' T #[v1,v2]:=by
   obtain ⟨o,e,c,m,d⟩:=hTup
   exact ⟨o,hk2 _ _ (Wk.apart _ _ _ hMid) e,c,m,d⟩
  have lt:∀ {b:Addr} {o:Obj},s.heap.get? b=some o→b≠T:=fun e q=>absurd (Nat.lt_of_lt_of_le (Heap.lt_size e) hT) (by rw [q];exact Nat.lt_irrefl _)
  have I2:Inv X pins σ (upd H T (.tup [xs[i],ys[i]])) { s with heap:=h2',toks:=tk }:=by
   refine I1.track hTn ?_ (fun x c e=>?_) (fun p hp=>?_) ?_ ⟨by show 2≤sizeLine;decide,[v1,v2],.cons rv1 (.cons rv2 .nil),hTup2⟩
   ·obtain ⟨m,⟨o,es,ep,ho,_⟩,_⟩:=I.loc
    exact Ne.symm (lt ho)
   ·obtain ⟨v,o,ho,_⟩:=I.cell x c e
    exact lt ho
   ·exact lt (I.pin p hp).1
   ·cases e:X.s₀.heap.get? T with
    | none=>rfl
    | some o=>exact absurd (Nat.lt_of_lt_of_le (Heap.lt_size e) (Nat.le_trans I.sz hT)) (Nat.lt_irrefl _)
  refine ⟨.ref T,_,I2,rfl,⟨T,_,_,hTn,rfl,rfl,fun xs' ys' hx' hy'=>?_⟩,⟨st2.1,st2.2.1,st2.2.2.1,st2.2.2.2.1,st2.2.2.2.2.1⟩,fun b hb=>?_⟩
  ·rw [I.tuple_inj hx' hx,I.tuple_inj hy' hy];exact ⟨gx,gy⟩
  ·have hb':=(hf b hb).1
   have:b≠T:=by
    obtain ⟨o,e,_⟩:∃ o,s.heap.get? b=some o∧True:=by
     obtain ⟨a,c,hTO'⟩:=hTO
     obtain ⟨o1,e1,_⟩:=h1
     obtain ⟨o2,e2,_⟩:=h2
     walk_at "pm"
     rcases hb with rfl | rfl | rfl | rfl | rfl
     ·exact ⟨_,hz,trivial⟩
     ·exact ⟨_,hTI,trivial⟩
     ·exact ⟨_,hTO',trivial⟩
     ·exact ⟨_,e1,trivial⟩
     ·exact ⟨_,e2,trivial⟩
    exact lt e
   rw [Za7 this];exact hb'
 done:=by
  walk_at "pc"
  subst hP hw hK
  obtain ⟨xs,ys,hx,hy,hi⟩:=hg
  obtain ⟨its1,r1,pl1,z1⟩:=I.tuple hx
  obtain ⟨its2,r2,pl2,z2⟩:=I.tuple hy
  have n1:=r1.length
  have n2:=r2.length
  obtain ⟨hz,hTI,hTO,h1,h2⟩:=st
  have Wk:=ZkC (prog:=X.prog) (w:=X.w) (A:=X.A) (I.ok.hd hc) z TI TO i1 i2 l1 l2 D its1.toArray its2.toArray
  have hi':i=min its1.toArray.size its2.toArray.size:=by simp only [List.size_toArray];omega
  subst hi'
  refine Wk.done s _ _ ⟨hz,hTI,hTO,h1,h2,pl1,pl2⟩ fun h' tk hk=>⟨rfl,Inv.turneds I hf fun b o hb e=>hk b o (fun hc=>hb ?_) e⟩
  simp only [List.mem_cons,List.not_mem_nil,or_false] at hc ⊢
  rcases hc with h | h | h | h <;> simp [h]
 self:=fun A i s Q E st h=>wpAny_pyIter_zip st.1 h
def ZzW (K:PySem.W.Frag) (ta:TA):TI:=fun σ H R=>ta σ H fun vs H1=>∃ a b xs ys,vs=[.ref a,.ref b]∧SqT K H1 a xs∧SqT K H1 b ys∧R (ZA2 K a b) H1
theorem ZvX {X:Cx} {a b:Expr} {ta:TA} {p pos tpos:Pos} {elts:List Expr} {k:Nat} (hg:Gl X "zip") (hm:X.mg "zip"=none) (ha:PA X [a,b] ta) (hs:starEach [a,b] X.env=[(false,eval a X.env),(false,eval b X.env)]) (hs2:starEach [b] X.env=[(false,eval b X.env)]) :
  PI X (.Tuple elts k tpos) (.Call (.Name "zip" p) [a,b] [] pos) (ZzW X.K ta):=by
 intro pins s σ H R I h
 refine Call_ (Zgi I hg hm boot_zip (PyProof.Rows.callWith_type1 (thn (ha pos pins s σ H _ I h) fun us s1 zz1=>?_) (by rw [hs,hs2]) (by rw [hs2];rfl)))
 obtain ⟨vs,H1,I1,r1,q1⟩:=zz1
 obtain ⟨l1,l2,xs,ys,e,hx,hy,q⟩:=q1
 subst e
 obtain ⟨u,u2,rfl,ru,ru2⟩:=Zvx r1
 cases ru
 cases ru2
 obtain ⟨its1,_,pl1,_⟩:=I1.tuple hx
 obtain ⟨its2,_,pl2,_⟩:=I1.tuple hy
 have a1:l1 < s1.heap.objs.size:=by obtain ⟨_,e,_⟩:=pl1;exact Heap.lt_size e
 have a2:l2 < s1.heap.objs.size:=by obtain ⟨_,e,_⟩:=pl2;exact Heap.lt_size e
 refine Zq0 pl1 pl2 fun h' hz hTI hTO hi1 hi2 hsz hk=>wpAny_pyIter_zip hz ?_
 refine ⟨_,_,_,_,H1,rfl,I1.kept (t':=s1.toks) hk,Zqq (zipApart_new a1 a2),⟨hz,hTI,⟨_,_,hTO⟩,hi1,hi2⟩,fun b hb=>?_,q⟩
 have hge:s1.heap.objs.size≤b:=by
  walk_at "pm"
  rcases hb with rfl | rfl | rfl | rfl | rfl
  ·exact Nat.le_add_right _ 4
  ·exact Nat.le_add_right _ 2
  ·exact Nat.le_add_right _ 3
  ·exact Nat.le_refl _
  ·exact Nat.le_add_right _ 1
 exact I1.fpOk hge (I1.hok.fresh hge)
def ZfQ (gs:GA):GI:=fun ω G R=>gs ω G fun ws G1=>∃ xs ys,ws=[.tup xs,.tup ys]∧R (Zne xs ys) yes G1
theorem Zvt {gs:GA} (m:gs.M):GI.M (ZfQ gs):=fun ω G R R' h q=>m _ _ _ _ ((by rintro ws G1 ⟨xs,ys,e,z⟩;exact ⟨xs,ys,e,h _ _ _ z⟩)) q
theorem ZmQ {v:V} {xs:List W} (t:Tr K H v (.tup xs)):∃ a vs,v=.ref a∧SqT K H a vs∧TrL K H vs xs:=by
 cases t with
 | tup h l=>exact ⟨_,_,rfl,h,l⟩
theorem ZqA {X:Cx} {a b:Expr} {p pos tpos:Pos} {elts:List Expr} {k:Nat} {gs:GA} (hm:X.mg "zip"=none) (hg:Gl X "zip") (hs:starEach [a,b] X.env=[(false,eval a X.env),(false,eval b X.env)]) (hs2:starEach [b] X.env=[(false,eval b X.env)]) (ha:Am X [a,b] gs) :
  Im X (.Tuple elts k tpos) (.Call (.Name "zip" p) [a,b] [] pos) (ZfQ gs):=by
 refine ⟨⟨_,ZvX hg hm ha.p hs hs2,fun σ H ω G R R0 ts r q kk=>⟨ω,G,ts,r,ha.m _ _ _ _ (fun ws G1 z vs H1 m t r1=>?_) q⟩⟩,Zvt ha.m⟩
 obtain ⟨xs,ys,rfl,z⟩:=z
 cases t with
 | cons tx t =>
  cases t with
  | cons ty t =>
   cases t
   obtain ⟨a1,us1,rfl,hq1,l1⟩:=ZmQ tx
   obtain ⟨a2,us2,rfl,hq2,l2⟩:=ZmQ ty
   refine ⟨a1,a2,us1,us2,rfl,hq1,hq2,kk _ _ _ H1 _ z m r1 trivial ⟨fun i H3 G3 m3 r3 g3 hi=>?_,fun i H3 G3 v H4 m3 r3 g3 y3 hi=>?_,fun H3 G3 m3 r3 g3=>?_⟩⟩
   ·rw [ZhC] at hi
    exact ⟨us1,us2,m3.tup _ _ hq1,m3.tup _ _ hq2,by rw [l1.length];omega,by rw [l2.length];omega⟩
   ·obtain ⟨T,v1,v2,hT,rfl,rfl,hv⟩:=y3
    obtain ⟨g1,g2⟩:=hv _ _ (m3.tup _ _ hq1) (m3.tup _ _ hq2)
    obtain ⟨w1,q1,tw1⟩:=(l1.mono m3).get' g1
    obtain ⟨w2,q2,tw2⟩:=(l2.mono m3).get' g2
    have mn:Mono X.K H3 (upd H3 T (.tup [v1,v2])):=Mono.new hT _
    exact ⟨mn,r3.mono0 hT,_,ZlC _ _ i q1 q2,.tup (SqT.of ZbP) (.cons (tw1.mono mn) (.cons (tw2.mono mn) .nil))⟩
   ·exact ⟨us1,us2,m3.tup _ _ hq1,m3.tup _ _ hq2,by rw [ZhC,l1.length,l2.length]⟩
end L3
namespace L3
open PySem PySem.Spec PyProof.Rows L2
theorem nA {a b:Nat} (h:a≠b):@Ne Addr a b:=h
abbrev ZnC (h:Heap) (T:Addr) (a b c:Value):Prop:=h.get? T=some { cls:=.type "tuple",data:=.seq #[a,b,c] }
section
variable {prog:Program} {w:World} {A:Around} {E:Value→Shared→Prop} {s:Shared}
theorem ZAm {T:Addr} {a b c x:Value} {k:Nat} {Q:Unit→Shared→Prop} (hT:ZnC s.heap T a b c)
  (h:∀ h',h'.get? T=some { cls:=.type "tuple",data:=.seq ((#[a,b,c]:Array Value).setIfInBounds k x) }→Heap.SameBut T s.heap h'→Q () { s with heap:=h' }) :
  wpAny (model prog w) A (updateSeq T (·.setIfInBounds k x)) Q E s:=by
 refine wpAny_updateSeq hT rfl (h _ ?_ (Heap.SameBut.update ..))
 rw [Heap.get?_update_self _ hT rfl];simp [Obj.mapSeq]
def St3 (n l1 l2 l3:Nat) (f0:Value) (i:Nat) (h:Heap):Prop:=IsZip h (n+5) (n+3) (n+4) f0∧ZnC h (n+3) (.ref n) (.ref (n+1)) (.ref (n+2))∧(∃ a b c,ZnC h (n+4) a b c)∧h.IsListIter n l1 i∧h.IsListIter (n+1) l2 i∧h.IsListIter (n+2) l3 i
end
end L3
namespace L3
open PySem PySem.Spec PyProof.Rows L2
variable {K:PySem.W.Frag} {H H' H2:Hp}
section
variable {prog:Program} {w:World} {A:Around} {E:Value→Shared→Prop} {s:Shared}
theorem St3.at {n l1 l2 l3:Nat} {f0:Value} {i:Nat} {h h':Heap} (st:St3 n l1 l2 l3 f0 i h) (k:∀ (c:Nat) o,n≤c→c≤n+5→h.get? c=some o→h'.get? c=some o):St3 n l1 l2 l3 f0 i h':=by
 obtain ⟨hz,hTI,⟨a,b,c,hTO⟩,u1,u2,u3⟩:=st
 exact ⟨k _ _ (by omega) (by omega) hz,k _ _ (by omega) (by omega) hTI,⟨a,b,c,k _ _ (by omega) (by omega) hTO⟩,u1.at fun o e=>k _ o (by omega) (by omega) e,u2.at fun o e=>k _ o (by omega) (by omega) e,u3.at fun o e=>k _ o (by omega) (by omega) e⟩
theorem tc3 (a b c:Value):checkTypeCall "zip" ⟨[a,b,c],[]⟩=pure ():=by kernel_rfl
theorem nc3 (a b c:Value):checkBuiltinCall "zip.__new__" ⟨[.type "zip",a,b,c],[]⟩=pure ():=by kernel_rfl
theorem oi4 (a b c d:Value):argsOk "object.__init__" ⟨[a,b,c,d],[]⟩:=by
 unfold argsOk
 rw [signature?_of (o:=['t','c','e','j','b','o']) (n:=['_','_','t','i','n','i','_','_']) (id:="object.__init__") (by kernel_rfl) PySem.F.owner_object]
 kernel_rfl
end
theorem in6 {n b:Nat} (h:b∈[n+5,n+3,n+4,n,n+1,n+2]):n≤b∧b≤n+5:=by
 have h':b=n+5∨b=n+3∨b=n+4∨b=n∨b=n+1∨b=n+2:=by simpa using h
 omega
theorem of6 {n b:Nat} (h1:n≤b) (h2:b≤n+5):b∈[n+5,n+3,n+4,n,n+1,n+2]:=by
 have h':b=n+5∨b=n+3∨b=n+4∨b=n∨b=n+1∨b=n+2:=by omega
 simpa using h'
theorem no6 {n b:Nat} (h:b∉[n+5,n+3,n+4,n,n+1,n+2]):b < n∨n+5 < b:=by
 rcases Nat.lt_or_ge b n with z | z
 ·exact .inl z
 ·exact .inr (Nat.lt_of_not_le fun q=>h (of6 z q))
theorem ZAi {a b c:V} {us:List Value} (h:Vals [a,b,c] us):∃ u v w,us=[u,v,w]∧RelV a u∧RelV b v∧RelV c w:=by
 cases h with
 | cons h1 h =>
  cases h with
  | cons h2 h =>
   cases h with
   | cons h3 h=>cases h;exact ⟨_,_,_,rfl,h1,h2,h3⟩
def ZlG:List W→List W→List W→List W
 | x::xs,y::ys,z::zs=>.tup [x,y,z]::ZlG xs ys zs
 | _,_,_=>[]
theorem Zl8:∀ (xs ys zs:List W),ys.length=xs.length→zs.length=xs.length→(ZlG xs ys zs).length=xs.length
 | [],_,_,_,_=>by simp [ZlG]
 | _::xs,y::ys,z::zs,h,h'=>by
  simp only [List.length_cons] at h h'
  simp only [ZlG,List.length_cons,Zl8 xs ys zs (by omega) (by omega)]
 | _::xs,[],_,h,_=>by simp at h
 | _::xs,_::_,[],_,h=>by simp at h
theorem Zpl:∀ (xs ys zs:List W) (i:Nat) {x y z:W},xs[i]?=some x→ys[i]?=some y→zs[i]?=some z→(ZlG xs ys zs)[i]?=some (.tup [x,y,z])
 | [],_,_,_,_,_,_,h,_,_=>by simp at h
 | _::_,[],_,_,_,_,_,_,h,_=>by simp at h
 | _::_,_::_,[],_,_,_,_,_,_,h=>by simp at h
 | a::xs,b::ys,c::zs,0,x,y,z,h,h',h''=>by simp at h h' h'';subst h;subst h';subst h'';rfl
 | a::xs,b::ys,c::zs,i+1,x,y,z,h,h',h''=>by
  have:=Zpl xs ys zs i (x:=x) (y:=y) (z:=z) (by simpa using h) (by simpa using h') (by simpa using h'')
  simpa [ZlG] using this
def ZtL (x:W):List W→Option Bool
 | []=>some false
 | w::ws=>if dpW w < 90 then (match eqD w x,ZtL x ws with | some a,some b=>some (a||b) | _,_=>none) else none
theorem Zoq {x:W}:∀ {ws:List W} {b:Bool},ZtL x ws=some b→∃ e:Nat→Bool,(∀ (j:Nat) w,ws[j]?=some w→eqD w x=some (e j)∧dpW w < 90)∧(b=true↔∃ j,j < ws.length∧e j=true)
 | [],b,h=>by
  cases h
  exact ⟨fun _=>false,fun j w e=>by simp at e,by simp⟩
 | w::ws,b,h=>by
  unfold ZtL at h
  split at h
  ·rename_i hd
   split at h
   ·rename_i c d e1 e2
    cases h
    obtain ⟨e,h1,h2⟩:=Zoq e2
    refine ⟨fun j=>match j with | 0=>c | j+1=>e j,fun j u hu=>?_,?_⟩
    ·cases j with
     | zero=>simp only [List.getElem?_cons_zero,Option.some.injEq] at hu;subst hu;exact ⟨e1,hd⟩
     | succ j=>exact h1 j u (by simpa using hu)
    ·rw [Bool.or_eq_true,h2]
     constructor
     ·rintro (z | ⟨j,hj,z⟩)
      ·exact ⟨0,by simp,z⟩
      ·exact ⟨j+1,by simpa using hj,z⟩
     ·rintro ⟨j,hj,z⟩
      cases j with
      | zero=>exact .inl z
      | succ j=>exact .inr ⟨j,by simpa using hj,z⟩
   ·cases h
  ·cases h
def inT (x y:W) (G:Hw):Option W:=(rdL G y).bind fun ws=>(ZtL x ws).map .bl
def ZAU (K:PySem.W.Frag):R2:=fun v u H Q=>∃ p vs ws x b,u=.ref p∧SqL K H p vs∧TrL K H vs ws∧Tr K H v x∧ZtL x ws=some b∧Q (.bl b) H
open Classical in
theorem Zxj {X:Cx} (hu:X.A.units+100 < cLine):OpR X (compareOp .In) (ZAU X.K):=by
 walk_at "pb"
 obtain ⟨p,vs,ws,xw,b,rfl,hq,tl,tx,e,q⟩:=h
 cases ry
 obtain ⟨its,r,pl,hz⟩:=I.list hq
 obtain ⟨f,hf,hb⟩:=Zoq e
 have l1:=r.length
 have l2:=tl.length
 have at':∀ (i:Nat) (z:Value),its[i]?=some z→SeqAt.EqAt X.A.in1 s z v (f i):=fun i z hi=>by
  have hlt:i < its.length:=by
   rcases Nat.lt_or_ge i its.length with h | h
   ·exact h
   ·rw [List.getElem?_eq_none h] at hi;cases hi
  have gv:vs[i]?=some (vs[i]'(by omega)):=List.getElem?_eq_getElem _
  obtain ⟨z',g',rz⟩:=r.get gv
  rw [hi] at g';cases g'
  obtain ⟨w,gw,tw⟩:=tl.get' gv
  obtain ⟨h1,h2⟩:=hf i w gw
  exact Zod I 99 _ _ _ _ _ _ _ X.A.in1 (by omega) tw tx rz rx h1 (by show X.A.units+1+99 < cLine;omega)
 refine SeqAt.in_listAt (fun z=>decide (∃ i,its[i]?=some z∧f i=true)) pl.isList (fun z hz'=>?_) ⟨.bl b,H,I,?_,q⟩
 ·have hm:z∈its:=by simpa using hz'
  obtain ⟨i,hi,rfl⟩:=List.getElem_of_mem hm
  have gi:its[i]?=some its[i]:=List.getElem?_eq_getElem hi
  by_cases h:∃ j,its[j]?=some its[i]∧f j=true
  ·obtain ⟨j,g,hj⟩:=h
   have:=at' j _ g
   rw [hj] at this
   rw [decide_eq_true ⟨j,g,hj⟩];exact this
  ·have:=at' i _ gi
   rw [decide_eq_false h]
   cases hfi:f i with
   | false=>rw [hfi] at this;exact this
   | true=>exact absurd ⟨i,gi,hfi⟩ h
 ·show RelV (.bl b) (.bool _)
  have:(its.toArray.any fun z=>decide (∃ i,its[i]?=some z∧f i=true))=b:=by
   rw [Bool.eq_iff_iff,hb]
   simp only [List.any_toArray,List.any_eq_true,decide_eq_true_eq]
   constructor
   ·rintro ⟨z,hz',i,hi,hfi⟩
    refine ⟨i,?_,hfi⟩
    rcases Nat.lt_or_ge i its.length with h | h
    ·omega
    ·rw [List.getElem?_eq_none h] at hi;cases hi
   ·rintro ⟨j,hj,hfj⟩
    have hj':j < its.length:=by omega
    exact ⟨its[j],List.getElem_mem hj',j,List.getElem?_eq_getElem hj',hfj⟩
  rw [this];rfl
theorem Zyg (x y:W) (v u:V) (G:Hw) (H:Hp) (Q:VK) (tx:Tr K H v x) (ty:Tr K H u y) (r:RelH K H G) (q:Zak inT x y G (dn K H Q)):ZAU K v u H Q:=by
 obtain ⟨w,e,q'⟩:=Zfs q
 obtain ⟨ws,e1,e2⟩:=Option.bind_eq_some_iff.mp e
 obtain ⟨b,e3,e4⟩:=Option.map_eq_some_iff.mp e2
 subst e4
 obtain ⟨a,vs,rfl,hq,t⟩:=Zhc r ty e1
 exact ⟨a,vs,ws,x,b,rfl,hq,t,tx,e3,q' _ H .refl (.bl _) r⟩
theorem Zd1 {X:Cx} (hu:X.A.units+100 < cLine):Cop X .In (Zak inT):=⟨⟨_,Zxj hu,Zyg⟩,ZhE⟩
def Zp2 (w:W):Bool:=match w with | .non=>true | _=>false
def isF (neg:Bool) (x y:W) (_:Hw):Option W:=match y with | .non=>some (.bl (Zp2 x != neg)) | _=>none
theorem Zqw {v:V} {x:W} (t:Tr K H v x):decide (v=.non)=Zp2 x:=by cases t <;> rfl
theorem ZtA {u:V} (t:Tr K H u .non):u=.non:=by cases t;rfl
theorem ZuE (neg:Bool) (x y:W) (v u:V) (G:Hw) (H:Hp) (Q:VK) (tx:Tr K H v x) (ty:Tr K H u y) (r:RelH K H G) (q:Zak (isF neg) x y G (dn K H Q)):u=.non∧Q (.bl (Zp2 x != neg)) H:=by
 obtain ⟨w,e,q'⟩:=Zfs q
 cases y with
 | non=>cases e;exact ⟨ZtA ty,q' _ H .refl (.bl _) r⟩
 | _=>cases e
theorem ZfX {X:Cx}:Cop X .Is (Zak (isF false)):=⟨⟨_,Zzo,fun x y v u G H Q tx ty r q=>by
 obtain ⟨h1,h2⟩:=ZuE false x y v u G H Q tx ty r q
 refine ⟨h1,?_⟩
 rw [Zqw tx];simpa using h2⟩,ZhE⟩
theorem Zd5 {X:Cx}:Cop X .IsNot (Zak (isF true)):=⟨⟨_,Zvj,fun x y v u G H Q tx ty r q=>by
 obtain ⟨h1,h2⟩:=ZuE true x y v u G H Q tx ty r q
 refine ⟨h1,?_⟩
 rw [Zqw tx];simpa using h2⟩,ZhE⟩
section
variable {prog:Program} {w:World} {A:Around} {E:Value→Shared→Prop} {s:Shared}
def St3T (n l1 l2 l3:Nat) (f0:Value) (i:Nat) (h:Heap):Prop:=IsZip h (n+5) (n+3) (n+4) f0∧ZnC h (n+3) (.ref n) (.ref (n+1)) (.ref (n+2))∧(∃ a b c,ZnC h (n+4) a b c)∧h.IsTupleIter n l1 i∧h.IsTupleIter (n+1) l2 i∧h.IsTupleIter (n+2) l3 i
theorem Zta {n l1 l2 l3:Nat} {k:Nat} {xs ys vs:Array Value} {x y v:Value} {Q:Value→Shared→Prop} (a1:l1 < n) (a2:l2 < n) (a3:l3 < n) (st:St3T n l1 l2 l3 .none k s.heap) (v1:s.heap.IsTuple l1 xs) (v2:s.heap.IsTuple l2 ys) (v3:s.heap.IsTuple l3 vs)
  (hx:xs[k]?=some x) (hy:ys[k]?=some y) (hv:vs[k]?=some v)
  (hQ:∀ h',St3T n l1 l2 l3 (rawInt s.heap.objs.size) (k+1) h'→ZnC h' s.heap.objs.size x y v→(∀ (c:Nat) o,c < n∨n+5 < c→s.heap.get? c=some o→h'.get? c=some o)→Q (.ref s.heap.objs.size) { s with heap:=h' }) :
  wpAny (model prog w) A (Builtin.«zip.__next__» ⟨[.ref (n+5)],[]⟩) (fun fin s'=>∃ v,fin=.done (.ret v)∧Q v s') E s:=by
 obtain ⟨hz,hTI,⟨a,b,c,hTO⟩,u1,u2,u3⟩:=st
 refine wpAny_bind (m:=field (.ref (n+5)) 2) (wpAny_field hz rfl (x:=.bool false) rfl ?_)
 refine wpAny_bind (m:=field (.ref (n+5)) 3) (wpAny_field hz rfl (x:=.ref (n+3)) rfl (wpAny_bind (m:=seqItems? (.ref (n+3))) (wpAny_seqItems hTI rfl ?_)))
 refine wpAny_bind (m:=Builtin.SmallTypes.ownedTupleIsFree (.ref (n+5))) ?_
 unfold Builtin.SmallTypes.ownedTupleIsFree
 refine wpAny_bind (m:=field (.ref (n+5)) 0) (wpAny_field hz rfl (x:=.none) rfl (wpAny_pure ?_));simp only [if_true]
 refine wpAny_bind (wpAny_rule (wpAny_bind (wpAny_field hz rfl (x:=.ref (n+4)) rfl (wpAny_bind (wpAny_setField_rec hz (by simp) fun h₁ hz₁ hs₁=>?_)))))
 replace hz₁:IsZip h₁ (n+5) (n+3) (n+4) .ellipsis:=hz₁
 refine wpAny_bind ?_
 walk_at "px"
 have e1:=hs₁.extBut
 refine wpAny_bind (wpAny_bind (wpAny_onRaise ?_));refine wpAny_bind (m:=Builtin.SmallTypes.nextOf (.ref n)) ?_
 refine Zie (u1.extBut e1 (nA (by omega))) (v1.extBut e1 (nA (by omega))) hx fun h₂ w1 hs₂=>wpAny_pure ?_
 have e2:=hs₂.extBut
 have t2:ZnC h₂ (n+4) a b c:=e2 _ _ (nA (by omega)) (e1 _ _ (nA (by omega)) hTO)
 refine wpAny_bind (wpAny_seqItems t2 rfl (wpAny_bind (ZAm t2 fun h₃ t3 hs₃=>?_)))
 replace t3:ZnC h₃ (n+4) x b c:=t3
 have e3:=hs₃.extBut
 refine wpAny_bind (wpAny_letGo (wpAny_pure ?_));refine wpAny_bind (wpAny_bind (wpAny_onRaise ?_));refine wpAny_bind (m:=Builtin.SmallTypes.nextOf (.ref (n+1))) ?_
 refine Zie (((u2.extBut e1 (nA (by omega))).extBut e2 (nA (by omega))).extBut e3 (nA (by omega))) (((v2.extBut e1 (nA (by omega))).extBut e2 (nA (by omega))).extBut e3 (nA (by omega))) hy fun h₄ w2 hs₄=>wpAny_pure ?_
 have e4:=hs₄.extBut
 have t4:ZnC h₄ (n+4) x b c:=e4 _ _ (nA (by omega)) t3
 refine wpAny_bind (wpAny_seqItems t4 rfl (wpAny_bind (ZAm t4 fun h₅ t5 hs₅=>?_)))
 replace t5:ZnC h₅ (n+4) x y c:=t5
 have e5:=hs₅.extBut
 refine wpAny_bind (wpAny_letGo (wpAny_pure ?_));refine wpAny_bind (wpAny_bind (wpAny_onRaise ?_));refine wpAny_bind (m:=Builtin.SmallTypes.nextOf (.ref (n+2))) ?_
 refine Zie (((((u3.extBut e1 (nA (by omega))).extBut e2 (nA (by omega))).extBut e3 (nA (by omega))).extBut e4 (nA (by omega))).extBut e5 (nA (by omega))) (((((v3.extBut e1 (nA (by omega))).extBut e2 (nA (by omega))).extBut e3 (nA (by omega))).extBut e4 (nA (by omega))).extBut e5 (nA (by omega))) hv fun h₆ w3 hs₆=>wpAny_pure ?_
 have e6:=hs₆.extBut
 have t6:ZnC h₆ (n+4) x y c:=e6 _ _ (nA (by omega)) t5
 refine wpAny_bind (wpAny_seqItems t6 rfl (wpAny_bind (ZAm t6 fun h₇ t7 hs₇=>?_)))
 replace t7:ZnC h₇ (n+4) x y v:=t7
 have e7:=hs₇.extBut
 refine wpAny_bind (wpAny_letGo (wpAny_pure (wpAny_pure ?_)));refine wpAny_bind (wpAny_seqItems t7 rfl (wpAny_bind (wpAny_newTuple ?_ (by show (3:Nat)≤sizeLine;decide))))
 have hsz:h₇.objs.size=s.heap.objs.size:=by rw [hs₇.1,hs₆.1,hs₅.1,hs₄.1,hs₃.1,hs₂.1,hs₁.1]
 have up:∀ (c:Nat) o,c < n∨n+5 < c∨c=n+3→s.heap.get? c=some o→h₇.get? c=some o:=fun c o hc e=>e7 _ _ (nA (by omega)) (e6 _ _ (nA (by omega)) (e5 _ _ (nA (by omega)) (e4 _ _ (nA (by omega)) (e3 _ _ (nA (by omega)) (e2 _ _ (nA (by omega)) (e1 _ _ (nA (by omega)) e))))))
 have z7:IsZip h₇ (n+5) (n+3) (n+4) .ellipsis:=e7 _ _ (nA (by omega)) (e6 _ _ (nA (by omega)) (e5 _ _ (nA (by omega)) (e4 _ _ (nA (by omega)) (e3 _ _ (nA (by omega)) (e2 _ _ (nA (by omega)) hz₁)))))
 have y1:h₇.IsTupleIter n l1 (k+1):=((((w1.extBut e3 (nA (by omega))).extBut e4 (nA (by omega))).extBut e5 (nA (by omega))).extBut e6 (nA (by omega))).extBut e7 (nA (by omega))
 have y2:h₇.IsTupleIter (n+1) l2 (k+1):=((w2.extBut e5 (nA (by omega))).extBut e6 (nA (by omega))).extBut e7 (nA (by omega))
 have y3:h₇.IsTupleIter (n+2) l3 (k+1):=w3.extBut e7 (nA (by omega))
 refine wpAny_bind (m:=Builtin.SmallTypes.ownedTupleHandOut (.ref (n+5)) (.ref h₇.objs.size)) ?_
 unfold Builtin.SmallTypes.ownedTupleHandOut
 have z8:IsZip (h₇.push { cls:=.type "tuple",data:=.seq #[x,y,v] }) (n+5) (n+3) (n+4) .ellipsis:=Heap.get?_push_of_some _ z7
 refine wpAny_bind (wpAny_setField_rec z8 (by simp) fun h₉ z9 hs₉=>?_)
 replace z9:IsZip h₉ (n+5) (n+3) (n+4) (rawInt h₇.objs.size):=z9
 refine wpAny_setField_rec z9 (by simp) fun k₁ zk hk₁=>?_
 replace zk:IsZip k₁ (n+5) (n+3) (n+4) (rawInt h₇.objs.size):=zk
 have zlt:n+5 < h₇.objs.size:=Heap.lt_size z7
 have upp:∀ c o,c≠n+5→h₇.get? c=some o→k₁.get? c=some o:=fun c o c1 e=>hk₁.extBut _ _ c1 (hs₉.extBut _ _ c1 (Heap.get?_push_of_some _ e))
 have hT:ZnC k₁ h₇.objs.size x y v:=hk₁.extBut _ _ (nA (by omega)) (hs₉.extBut _ _ (nA (by omega)) (Heap.get?_push_size _ rfl))
 rw [hsz] at zk hT
 refine wpAny_pure ⟨_,rfl,(?_:Q (.ref h₇.objs.size) _)⟩
 rw [hsz]
 exact hQ k₁ ⟨zk,upp _ _ (nA (by omega)) (up _ _ (.inr (.inr rfl)) hTI),⟨_,_,_,upp _ _ (nA (by omega)) t7⟩,tat y1 fun o e=>upp _ o (nA (by omega)) e,tat y2 fun o e=>upp _ o (nA (by omega)) e,tat y3 fun o e=>upp _ o (nA (by omega)) e⟩ hT fun c o hc e=>upp c o (nA (by omega)) (up c o (by omega) e)
theorem ZwD {n l1 l2 l3:Nat} {k:Nat} {xs:Array Value} {Q:Fin→Shared→Prop} (hh:A.handled=none) (a1:l1 < n) (st:St3T n l1 l2 l3 .none k s.heap) (v1:s.heap.IsTuple l1 xs) (hx:xs[k]?=none)
  (hE:∀ h' e,(∀ (c:Nat) o,c < n∨n+5 < c→s.heap.get? c=some o→h'.get? c=some o)→(∃ o,h'.get? e=some o∧o.cls=.type "StopIteration")→E (.ref e) { s with heap:=h' }):wpAny (model prog w) A (Builtin.«zip.__next__» ⟨[.ref (n+5)],[]⟩) Q E s:=by
 obtain ⟨hz,hTI,⟨a,b,c,hTO⟩,u1,u2,u3⟩:=st
 refine wpAny_bind (m:=field (.ref (n+5)) 2) (wpAny_field hz rfl (x:=.bool false) rfl ?_)
 refine wpAny_bind (m:=field (.ref (n+5)) 3) (wpAny_field hz rfl (x:=.ref (n+3)) rfl (wpAny_bind (m:=seqItems? (.ref (n+3))) (wpAny_seqItems hTI rfl ?_)))
 refine wpAny_bind (m:=Builtin.SmallTypes.ownedTupleIsFree (.ref (n+5))) ?_
 unfold Builtin.SmallTypes.ownedTupleIsFree
 refine wpAny_bind (m:=field (.ref (n+5)) 0) (wpAny_field hz rfl (x:=.none) rfl (wpAny_pure ?_));simp only [if_true]
 refine wpAny_bind (wpAny_rule (wpAny_bind (wpAny_field hz rfl (x:=.ref (n+4)) rfl (wpAny_bind (wpAny_setField_rec hz (by simp) fun h₁ hz₁ hs₁=>?_)))))
 replace hz₁:IsZip h₁ (n+5) (n+3) (n+4) .ellipsis:=hz₁
 refine wpAny_bind ?_
 walk_at "px"
 have e1:=hs₁.extBut
 refine wpAny_bind (wpAny_bind (wpAny_onRaise ?_));refine wpAny_bind (m:=Builtin.SmallTypes.nextOf (.ref n)) ?_
 refine Zrd hh (u1.extBut e1 (nA (by omega))) (v1.extBut e1 (nA (by omega))) hx fun h₂ e hs₂ he=>?_
 obtain ⟨oe,hoe,hce⟩:=he
 have hz₂:IsZip h₂ (n+5) (n+3) (n+4) .ellipsis:=hs₂ _ _ (nA (by omega)) hz₁
 have hez:e≠n+5:=fun q=>by subst q;rw [hz₂] at hoe;cases hoe;simp at hce
 exact wpAny_setField_rec hz₂ (by simp) fun h₃ _ hs₃=>hE h₃ e (fun c o c1 q=>hs₃.extBut _ _ (nA (by omega)) (hs₂ _ _ (nA (by omega)) (e1 _ _ (nA (by omega)) q))) ⟨oe,hs₃.extBut _ _ hez hoe,hce⟩
theorem St3T.at {n l1 l2 l3:Nat} {f0:Value} {i:Nat} {h h':Heap} (st:St3T n l1 l2 l3 f0 i h) (k:∀ (c:Nat) o,n≤c→c≤n+5→h.get? c=some o→h'.get? c=some o):St3T n l1 l2 l3 f0 i h':=by
 obtain ⟨hz,hTI,⟨a,b,c,hTO⟩,u1,u2,u3⟩:=st
 exact ⟨k _ _ (by omega) (by omega) hz,k _ _ (by omega) (by omega) hTI,⟨a,b,c,k _ _ (by omega) (by omega) hTO⟩,tat u1 fun o e=>k _ o (by omega) (by omega) e,tat u2 fun o e=>k _ o (by omega) (by omega) e,tat u3 fun o e=>k _ o (by omega) (by omega) e⟩
abbrev ztL (h:Heap) (l:Addr):Heap:=h.push { cls:=.type "tuple_iterator",data:=.fields #[.ref l,.int 0 0] }
abbrev Zyt (h:Heap) (l1 l2 l3:Addr):Heap:=ztL (ztL (ztL h l1) l2) l3
abbrev ZzA (h:Heap) (l1 l2 l3:Addr):Heap:=(Zyt h l1 l2 l3).push { cls:=.type "tuple",data:=.seq #[.ref h.objs.size,.ref (ztL h l1).objs.size,.ref (ztL (ztL h l1) l2).objs.size] }
abbrev Zzx (h:Heap) (l1 l2 l3:Addr):Heap:=(ZzA h l1 l2 l3).push { cls:=.type "tuple",data:=.seq #[.none,.none,.none] }
abbrev Zuz (h:Heap) (l1 l2 l3:Addr):Heap:=(Zzx h l1 l2 l3).push { cls:=.type "zip",data:=.fields #[.none,.bool false,.bool false,.ref (Zyt h l1 l2 l3).objs.size,.ref (ZzA h l1 l2 l3).objs.size] }
theorem Zrf (l1 l2 l3:Addr) (xs ys vs:Array Value):Meets (Builtin.«zip.__new__» ⟨[.type "zip",.ref l1,.ref l2,.ref l3],[]⟩) (fun _ R s=>s.heap.IsTuple l1 xs∧s.heap.IsTuple l2 ys∧s.heap.IsTuple l3 vs∧R (.ok (.ret (.ref (Zzx s.heap l1 l2 l3).objs.size))) { s with heap:=Zuz s.heap l1 l2 l3 }) :=
 .of_wp fun prog w A R s h=>by
  obtain ⟨hp,g,d,tk,os⟩:=s
  obtain ⟨u1,u2,u3,h⟩:=h
  have hsub:=sub_zip
  have hL1:Heap.IsTuple (Shared.heap ⟨hp,g,d,tk,os⟩) l1 xs:=u1
  have hL2:Heap.IsTuple (Shared.heap ⟨hp.push { cls:=.type "tuple_iterator",data:=.fields #[.ref l1,.int 0 0] },g,d,tk,os⟩) l2 ys:=Heap.IsTuple.push u2 _
  have hL3:Heap.IsTuple (Shared.heap ⟨(hp.push { cls:=.type "tuple_iterator",data:=.fields #[.ref l1,.int 0 0] }).push { cls:=.type "tuple_iterator",data:=.fields #[.ref l2,.int 0 0] },g,d,tk,os⟩) l3 vs:=Heap.IsTuple.push (Heap.IsTuple.push u3 _) _
  wp_walk using wpAny_pyIter_tuple hL1,wpAny_pyIter_tuple hL2,wpAny_pyIter_tuple hL3
  exact ⟨_,rfl,h⟩
theorem Zp4 {l1 l2 l3:Addr} {xs ys vs:Array Value} {Q:Value→Shared→Prop} (u1:s.heap.IsTuple l1 xs) (u2:s.heap.IsTuple l2 ys) (u3:s.heap.IsTuple l3 vs)
  (h:∀ h',St3T s.heap.objs.size l1 l2 l3 .none 0 h'→(∀ c o,s.heap.get? c=some o→h'.get? c=some o)→Q (.ref (s.heap.objs.size+5)) { s with heap:=h' }) :
  wpAny (model prog w) A (call (.type "zip") [.ref l1,.ref l2,.ref l3]) Q E s:=by
 refine callType_new PySem.F.called_zip (by decide) (tc3 _ _ _) (nc3 _ _ _) (fun obj=>oi4 obj _ _ _) PySem.F.entry_zip_new (Zrf l1 l2 l3 xs ys vs) ⟨u1,u2,u3,?_⟩
 have q1:(ztL s.heap l1).objs.size=s.heap.objs.size+1:=Heap.size_push ..
 have q2:(ztL (ztL s.heap l1) l2).objs.size=s.heap.objs.size+2:=by rw [Heap.size_push,q1]
 have q3:(Zyt s.heap l1 l2 l3).objs.size=s.heap.objs.size+3:=by rw [Heap.size_push,q2]
 have q4:(ZzA s.heap l1 l2 l3).objs.size=s.heap.objs.size+4:=by rw [Heap.size_push,q3]
 have q5:(Zzx s.heap l1 l2 l3).objs.size=s.heap.objs.size+5:=by rw [Heap.size_push,q4]
 have up:∀ {c:Addr} {o:Obj},(Zyt s.heap l1 l2 l3).get? c=some o→(Zuz s.heap l1 l2 l3).get? c=some o:=fun e=>Heap.get?_push_of_some _ (Heap.get?_push_of_some _ (Heap.get?_push_of_some _ e))
 have g6:(Zuz s.heap l1 l2 l3).get? (Zzx s.heap l1 l2 l3).objs.size=some _:=Heap.get?_push_size _ rfl
 have g5:(Zuz s.heap l1 l2 l3).get? (ZzA s.heap l1 l2 l3).objs.size=some _:=Heap.get?_push_of_some _ (Heap.get?_push_size _ rfl)
 have g4:(Zuz s.heap l1 l2 l3).get? (Zyt s.heap l1 l2 l3).objs.size=some _:=Heap.get?_push_of_some _ (Heap.get?_push_of_some _ (Heap.get?_push_size _ rfl))
 have g3:(Zuz s.heap l1 l2 l3).get? (ztL (ztL s.heap l1) l2).objs.size=some _:=up (Heap.get?_push_size _ rfl)
 have g2:(Zuz s.heap l1 l2 l3).get? (ztL s.heap l1).objs.size=some _:=up (Heap.get?_push_of_some _ (Heap.get?_push_size _ rfl))
 have g1:(Zuz s.heap l1 l2 l3).get? s.heap.objs.size=some _:=up (Heap.get?_push_of_some _ (Heap.get?_push_of_some _ (Heap.get?_push_size _ rfl)))
 rw [q3,q4,q5] at g6
 rw [q1,q2,q3] at g4
 rw [q4] at g5
 rw [q2] at g3
 rw [q1] at g2
 rw [q5]
 exact ⟨⟨_,g6,rfl⟩,h _ ⟨g6,g4,⟨_,_,_,g5⟩,⟨_,g1,rfl,rfl⟩,⟨_,g2,rfl,rfl⟩,⟨_,g3,rfl,rfl⟩⟩ fun c o x=>up (Heap.get?_push_of_some _ (Heap.get?_push_of_some _ (Heap.get?_push_of_some _ x)))⟩
end
def ZBc (K:PySem.W.Frag) (l1 l2 l3:Addr):It :=
 ⟨fun i H=>∃ xs ys vs,SqT K H l1 xs∧SqT K H l2 ys∧SqT K H l3 vs∧ys.length=xs.length∧vs.length=xs.length∧i < xs.length,
  fun i H v H'=>∃ T x y z,H T=none∧v=.ref T∧H'=upd H T (.tup [x,y,z])∧∀ xs ys vs,SqT K H l1 xs→SqT K H l2 ys→SqT K H l3 vs→xs[i]?=some x∧ys[i]?=some y∧vs[i]?=some z,
  fun i H=>∃ xs,SqT K H l1 xs∧i=xs.length⟩
theorem ZpR {P:Program} {w:World} {elts:List Expr} {k:Nat} {tpos:Pos} {n l1 l2 l3:Nat} (a1:l1 < n) (a2:l2 < n) (a3:l3 < n) :
  Ztq P w K (.Tuple elts k tpos) (ZBc K l1 l2 l3) [n+5,n+3,n+4,n,n+1,n+2] (n+5) (St3T n l1 l2 l3 .none) where
 mem:=List.mem_cons_self
 obj:=fun i h st b hb=>by
  obtain ⟨hz,hTI,⟨a,c,d,hTO⟩,⟨o1,e1,_,d1⟩,⟨o2,e2,_,d2⟩,⟨o3,e3,_,d3⟩⟩:=st
  walk_at "pm"
  rcases hb with rfl | rfl | rfl | rfl | rfl | rfl
  ·exact ⟨_,hz,fun v z=>by cases z⟩
  ·exact ⟨_,hTI,fun v z=>by cases z⟩
  ·exact ⟨_,hTO,fun v z=>by cases z⟩
  ·exact ⟨o1,e1,fun v z=>by rw [d1] at z;cases z⟩
  ·exact ⟨o2,e2,fun v z=>by rw [d2] at z;cases z⟩
  ·exact ⟨o3,e3,fun v z=>by rw [d3] at z;cases z⟩
 keep:=fun i h h' st kk=>st.at fun c o c1 c2 e=>kk c (of6 c1 c2) o e
 item:=by
  walk_at "pc"
  subst hP hw hK
  obtain ⟨xs,ys,vs,hx,hy,hv,ly,lv,hi⟩:=hg
  obtain ⟨its1,r1,pl1,z1⟩:=I.tuple hx
  obtain ⟨its2,r2,pl2,z2⟩:=I.tuple hy
  obtain ⟨its3,r3,pl3,z3⟩:=I.tuple hv
  have gx:xs[i]?=some xs[i]:=List.getElem?_eq_getElem hi
  have gy:ys[i]?=some (ys[i]'(by omega)):=List.getElem?_eq_getElem _
  have gv:vs[i]?=some (vs[i]'(by omega)):=List.getElem?_eq_getElem _
  obtain ⟨v1,q1,rv1⟩:=r1.get gx
  obtain ⟨v2,q2,rv2⟩:=r2.get gy
  obtain ⟨v3,q3,rv3⟩:=r3.get gv
  have hT:s.TypeIs (.ref (n+5)) "zip":=⟨_,st.1,rfl⟩
  unfold pyNext
  refine wpAny_bind (wpAny_attempt (wpAny_callSpecial?_slot (name:=Str.ofString "__next__") hT PySem.F.slot_zip_next (wpAny_call_entry PySem.F.slot_zip_next hT PySem.F.entry_zip_next (Zta a1 a2 a3 st pl1 pl2 pl3 (by simpa using q1) (by simpa using q2) (by simpa using q3) fun h' st' hTup hk=>wpAny_pure ⟨.ref s.heap.objs.size,rfl,?_⟩) (PySem.F.args_zip_next_1 _))))
  refine wpAny_letOwnedTupleGo_zip st'.1 fun h2' hz' hs'=>?_
  have e':=hs'.extBut
  have hsz:(n+5:Nat) < s.heap.objs.size:=Heap.lt_size st.1
  have hnT:∀ b:Addr,b∈[n+5,n+3,n+4,n,n+1,n+2]→b≠s.heap.objs.size:=fun b hb=>nA (a:=b) (by have:=in6 (b:=b) hb;omega)
  have st2:St3T n l1 l2 l3 .none (i+1) h2':=by
   obtain ⟨_,hTI,⟨a,c,d,hTO⟩,u1,u2,u3⟩:=st'
   exact ⟨hz',e' _ _ (nA (by omega)) hTI,⟨a,c,d,e' _ _ (nA (by omega)) hTO⟩,u1.extBut e' (nA (by omega)),u2.extBut e' (nA (by omega)),u3.extBut e' (nA (by omega))⟩
  have I1:Inv X pins σ H { s with heap:=h2' }:=Inv.turneds I hf fun b o hb e=>e' _ _ (fun z=>hb (by rw [z];exact List.mem_cons_self)) (hk b o (no6 hb) e)
  have hTn:H s.heap.objs.size=none:=I.hok.fresh (Nat.le_refl _)
  have hTup2:IsTup h2' s.heap.objs.size #[v1,v2,v3]:=⟨_,e' _ _ (nA (by omega)) hTup,rfl,_,rfl⟩
  have lt:∀ {b:Addr} {o:Obj},s.heap.get? b=some o→b≠s.heap.objs.size:=fun e q=>absurd (Heap.lt_size e) (by rw [q];exact Nat.lt_irrefl _)
  have I2:Inv X pins σ (upd H s.heap.objs.size (.tup [xs[i],ys[i]'(by omega),vs[i]'(by omega)])) { s with heap:=h2' }:=by
   refine I1.track hTn ?_ (fun x c e=>?_) (fun p hp=>?_) ?_ ⟨by show 3≤sizeLine;decide,[v1,v2,v3],.cons rv1 (.cons rv2 (.cons rv3 .nil)),hTup2⟩
   ·obtain ⟨m,⟨o,es,ep,ho,_⟩,_⟩:=I.loc
    exact Ne.symm (lt ho)
   ·obtain ⟨v,o,ho,_⟩:=I.cell x c e
    exact lt ho
   ·exact lt (I.pin p hp).1
   ·cases e:X.s₀.heap.get? s.heap.objs.size with
    | none=>rfl
    | some o=>exact absurd (Nat.lt_of_lt_of_le (Heap.lt_size e) I.sz) (Nat.lt_irrefl _)
  refine ⟨.ref s.heap.objs.size,_,I2,rfl,⟨_,_,_,_,hTn,rfl,rfl,fun xs' ys' vs' hx' hy' hv'=>?_⟩,st2,fun b hb=>?_⟩
  ·rw [I.tuple_inj hx' hx,I.tuple_inj hy' hy,I.tuple_inj hv' hv];exact ⟨gx,gy,gv⟩
  ·rw [Za7 (hnT b hb)];exact (hf b hb).1
 done:=by
  walk_at "pc"
  subst hP hw hK
  obtain ⟨xs,hx,hi⟩:=hg
  obtain ⟨its1,r1,pl1,z1⟩:=I.tuple hx
  have n1:=r1.length
  have hT:s.TypeIs (.ref (n+5)) "zip":=⟨_,st.1,rfl⟩
  unfold pyNext
  refine wpAny_bind (wpAny_attempt (wpAny_callSpecial?_slot (name:=Str.ofString "__next__") hT PySem.F.slot_zip_next (wpAny_call_entry PySem.F.slot_zip_next hT PySem.F.entry_zip_next (ZwD (I.ok.hd hc) a1 st pl1 (by simp;omega) fun h' e hk he=>?_) (PySem.F.args_zip_next_1 _))))
  obtain ⟨o,ho,hc'⟩:=he
  exact wpAny_bind (wpAny_isInstance (T:="StopIteration") (b:=true) ⟨o,ho,hc'⟩ isSubtype_stop (wpAny_pure ⟨rfl,Inv.turneds I hf fun b o hb e=>hk b o (no6 hb) e⟩))
 self:=fun A i s Q E st h=>wpAny_pyIter_zip st.1 h
def ZyR (K:PySem.W.Frag) (ta:TA):TI:=fun σ H R=>ta σ H fun vs H1=>∃ a b c xs ys zs,vs=[.ref a,.ref b,.ref c]∧SqT K H1 a xs∧SqT K H1 b ys∧SqT K H1 c zs∧R (ZBc K a b c) H1
theorem Zs7 {X:Cx} {a b c:Expr} {ta:TA} {p pos tpos:Pos} {elts:List Expr} {k:Nat} (hg:Gl X "zip") (hm:X.mg "zip"=none) (ha:PA X [a,b,c] ta) (hs:starEach [a,b,c] X.env=[(false,eval a X.env),(false,eval b X.env),(false,eval c X.env)]) (hs2:starEach [b,c] X.env=[(false,eval b X.env),(false,eval c X.env)]) :
  PI X (.Tuple elts k tpos) (.Call (.Name "zip" p) [a,b,c] [] pos) (ZyR X.K ta):=by
 intro pins s σ H R I h
 refine Call_ (Zgi I hg hm boot_zip (PyProof.Rows.callWith_type1 (thn (ha pos pins s σ H _ I h) fun us s1 zz2=>?_) (by rw [hs,hs2]) (by rw [hs2];rfl)))
 obtain ⟨vs,H1,I1,r1,q1⟩:=zz2
 obtain ⟨l1,l2,l3,xs,ys,zs,e,hx,hy,hz,q⟩:=q1
 subst e
 obtain ⟨u,u2,u3,rfl,ru,ru2,ru3⟩:=ZAi r1
 cases ru
 cases ru2
 cases ru3
 obtain ⟨its1,_,pl1,_⟩:=I1.tuple hx
 obtain ⟨its2,_,pl2,_⟩:=I1.tuple hy
 obtain ⟨its3,_,pl3,_⟩:=I1.tuple hz
 have a1:l1 < s1.heap.objs.size:=by obtain ⟨_,e,_⟩:=pl1;exact Heap.lt_size e
 have a2:l2 < s1.heap.objs.size:=by obtain ⟨_,e,_⟩:=pl2;exact Heap.lt_size e
 have a3:l3 < s1.heap.objs.size:=by obtain ⟨_,e,_⟩:=pl3;exact Heap.lt_size e
 refine Zp4 pl1 pl2 pl3 fun h' st hk=>wpAny_pyIter_zip st.1 ?_
 refine ⟨_,_,_,_,H1,rfl,I1.kept (t':=s1.toks) hk,ZpR a1 a2 a3,st,fun b hb=>?_,q⟩
 have hge:s1.heap.objs.size≤b:=(in6 (b:=b) hb).1
 exact I1.fpOk hge (I1.hok.fresh hge)
def Zny (gs:GA):GI:=fun ω G R=>gs ω G fun ws G1=>∃ xs ys zs,ws=[.tup xs,.tup ys,.tup zs]∧ys.length=xs.length∧zs.length=xs.length∧R (ZlG xs ys zs) yes G1
theorem ZsQ {gs:GA} (m:gs.M):GI.M (Zny gs):=fun ω G R R' h q=>m _ _ _ _ (by rintro ws G1 ⟨xs,ys,zs,e,n1,n2,r⟩;exact ⟨xs,ys,zs,e,n1,n2,h _ _ _ r⟩) q
theorem ZtH {X:Cx} {a b c:Expr} {p pos tpos:Pos} {elts:List Expr} {k:Nat} {gs:GA} (hm:X.mg "zip"=none) (hg:Gl X "zip") (hs:starEach [a,b,c] X.env=[(false,eval a X.env),(false,eval b X.env),(false,eval c X.env)]) (hs2:starEach [b,c] X.env=[(false,eval b X.env),(false,eval c X.env)]) (ha:Am X [a,b,c] gs) :
  Im X (.Tuple elts k tpos) (.Call (.Name "zip" p) [a,b,c] [] pos) (Zny gs):=by
 refine ⟨⟨_,Zs7 hg hm ha.p hs hs2,fun σ H ω G R R0 ts r q kk=>⟨ω,G,ts,r,ha.m _ _ _ _ (fun ws G1 z vs H1 m t r1=>?_) q⟩⟩,ZsQ ha.m⟩
 obtain ⟨xs,ys,zs,rfl,n1,n2,z⟩:=z
 cases t with
 | cons tx t =>
  cases t with
  | cons ty t =>
   cases t with
   | cons tv t =>
    cases t
    obtain ⟨c1,us1,rfl,hq1,l1⟩:=ZmQ tx
    obtain ⟨c2,us2,rfl,hq2,l2⟩:=ZmQ ty
    obtain ⟨c3,us3,rfl,hq3,l3⟩:=ZmQ tv
    refine ⟨c1,c2,c3,us1,us2,us3,rfl,hq1,hq2,hq3,kk _ _ _ H1 _ z m r1 trivial ⟨fun i H3 G3 m3 r3 g3 hi=>?_,fun i H3 G3 u H4 m3 r3 g3 y3 hi=>?_,fun H3 G3 m3 r3 g3=>?_⟩⟩
    ·rw [Zl8 _ _ _ n1 n2] at hi
     exact ⟨us1,us2,us3,m3.tup _ _ hq1,m3.tup _ _ hq2,m3.tup _ _ hq3,by rw [l1.length,l2.length];exact n1,by rw [l1.length,l3.length];exact n2,by rw [l1.length];exact hi⟩
    ·obtain ⟨T,v1,v2,v3,hT,rfl,rfl,hv⟩:=y3
     obtain ⟨g1,g2,g4⟩:=hv _ _ _ (m3.tup _ _ hq1) (m3.tup _ _ hq2) (m3.tup _ _ hq3)
     obtain ⟨w1,q1,tw1⟩:=(l1.mono m3).get' g1
     obtain ⟨w2,q2,tw2⟩:=(l2.mono m3).get' g2
     obtain ⟨w3,q3,tw3⟩:=(l3.mono m3).get' g4
     have mn:Mono X.K H3 (upd H3 T (.tup [v1,v2,v3])):=Mono.new hT _
     exact ⟨mn,r3.mono0 hT,_,Zpl _ _ _ i q1 q2 q3,.tup (SqT.of ZbP) (.cons (tw1.mono mn) (.cons (tw2.mono mn) (.cons (tw3.mono mn) .nil)))⟩
    ·exact ⟨us1,m3.tup _ _ hq1,by rw [Zl8 _ _ _ n1 n2,l1.length]⟩
section
variable {prog:Program} {w:World} {A:Around} {E:Value→Shared→Prop} {s:Shared}
theorem Zxh {δ:Type} {R:δ→Value→Prop} {h₀:Heap} {a:Addr} {D:List (Str×δ)} {k:Str} {tk:Tok} {dd:δ} {Q:Option Value→Shared→Prop} (T:KTD.TabOf R h₀ a D) (hk:∀ b o,h₀.get? b=some o→s.heap.get? b=some o) (hD:KTD.datumAt k D=some dd)
  (h1:∀ v,R dd v→Q (some v) { s with toks:=s.toks+1 }):wpAny (model prog w) A (dictGet a (.str k tk)) Q E s:=by
 obtain ⟨_,o,es,ep,ho,hc,hd,hr⟩:=T
 have ho':=hk _ _ ho
 obtain ⟨v,hv,hR⟩:=hr.find_some hD
 have hq:=h1 v hR
 unfold dictGet
 try with_reducible refine wpAny_holding ?_
 refine wpAny_bind (wpAny_pyHash_str (wpAny_bind (KTD.kt_dictFind_strs (s:={ s with toks:=s.toks+1 }) ho' hd ?_ ?_)))
 ·obtain ⟨l⟩:=es
  simpa using hr.exact
 have hf:findBy (fun k v=>v.isStr k) es k=some v:=by
  obtain ⟨l⟩:=es
  simpa [findBy] using hv
 rw [findBy_of_findIdx?] at hf
 cases hi:es.findIdx? fun e=>e.key.isStr k with
 | none=>rw [hi] at hf;cases hf
 | some i =>
  rw [hi] at hf
  refine wpAny_bind (wpAny_dictEntries (s:={ s with toks:=s.toks+1 }) ho' hd (wpAny_pure ?_))
  have hf':es[i]?.map (·.val)=some v:=hf
  rw [hf'];exact hq
end
def ZAe (K:PySem.W.Frag) (mg:Str→Option Value) (base:Heap) (x:Str) (D:List (Str×List Str)):Prop:=∃ d,mg x=some (.ref d)∧KTD.TabOf (fun ss v=>∃ a,v=.ref a∧∀ H:Hp,SqT K H a (ss.map V.str)) base d D
def Ztl (D:List (Str×List Str)) (gk:GE):GE:=fun ω G Q=>gk ω G fun w G1=>match w with | .str z=>∃ ss,KTD.datumAt z D=some ss∧Q (.tup (ss.map W.str)) G1 | _=>False
theorem Zpa (H:Hp):∀ ss:List Str,TrL K H (ss.map V.str) (ss.map W.str)
 | []=>.nil
 | s::ss=>.cons (.str _) (Zpa H ss)
theorem ZvV {X:Cx} {x:Str} {D:List (Str×List Str)} {e:Expr} {p0 pos:Pos} {gk:GE} (h:ZAe X.K X.mg X.base x D) (hg:Gl X x) (hd:(x==("__debug__":Str))=false) (hs:ZlE e) (hk:Em X e gk) :
  Em X (.Subscript (.Name x p0) e pos) (Ztl D gk):=by
 refine ⟨fun pins s σ H Q I zz=>?_,fun ω G Q Q' hh q=>hk.m _ _ _ _ (fun w G1 z=>by
  cases w with
  | str y=>obtain ⟨ss,h1,h2⟩:=z;exact ⟨ss,h1,hh _ _ h2⟩
  | _=>exact z) q⟩
 obtain ⟨ω,G,ts,r,q⟩:=zz
 obtain ⟨d,hm,T⟩:=h
 refine Subscript_ (ZzG (R:=fun xv yv H2=>xv=.ref d∧∃ z ss,yv=.str z∧KTD.datumAt z D=some ss∧∀ v,Tr X.K H2 v (.tup (ss.map W.str))→Q v H2) (ZqY (v:=.ref d) hg hm rfl hd) hk.p I ?_ fun v u s2 xv yv H2 I2 rx ry q2=>?_)
 ·exact ⟨ω,G,ts,r,hk.m _ _ _ _ (fun w G1 z v H1 m t r1=>by
   cases w with
   | str y=>obtain ⟨ss,h1,h2⟩:=z;exact ⟨rfl,y,ss,ZuT t,h1,fun v tv=>h2 v H1 m tv r1⟩
   | _=>exact z.elim) q⟩
 ·obtain ⟨rfl,z,ss,rfl,hD,q3⟩:=q2
  cases rx
  obtain ⟨t,rfl⟩:=ry
  have hT:s2.TypeIs (.ref d) "dict":=by
   obtain ⟨_,o,_,_,ho,hc,_⟩:=T
   exact ⟨o,I2.bk _ _ ho,hc.1⟩
  refine subscriptTail_builtin hT PySem.F.slot_dict_getitem.lookup ?_ (hs _ _) (fun _=>rfl)
  unfold getItem
  try with_reducible refine wpAny_holding ?_
  refine wpAny_bind (wpAny_sequenceKey hT (by decide) ?_)
  refine wpAny_bind (wpAny_callSpecial?_slot (name:=Str.ofString "__getitem__") hT PySem.F.slot_dict_getitem (wpAny_call_entry PySem.F.slot_dict_getitem hT PySem.F.entry_dict_getitem ?_ (PySem.F.args_dict_getitem_2 _ _)))
  show wpAny _ _ (dictGet d (.str z t) >>= _) _ _ s2
  refine wpAny_bind (Zxh T I2.bk hD ?_)
  rintro v ⟨a,rfl,hq⟩
  exact wpAny_pure ⟨_,rfl,wpAny_pure ⟨.ref a,H2,I2.tok _,rfl,q3 _ (.tup (hq H2) (Zpa H2 ss))⟩⟩
theorem Zwy {h base:Heap} {mg:Str→Option Value} (X:K.In h) (G:h.Ns mainGlobals mg) (B:K.In base) {x:Str} {d:Addr} {o:Obj} {es:Array DictEntry} {ep:Nat} {D:List (Str×List Str)} (e:PySem.W.nsIn K mainGlobals x=some (some (.ref d))) (l:K.lookup d=some o)
  (hd:(d==sysModules)=false) (hx:o.ExactDict) (ho:o.data=.dict es ep) (hr:KTD.Rows (fun ss v=>∃ a,v=.ref a∧∀ H:Hp,SqT K H a (ss.map V.str)) es.toList D):ZAe K mg base x D :=
 ⟨d,PySem.W.mg_of X G e,hd,o,es,ep,B _ _ l,hx,ho,hr⟩
theorem Zqu {e:DictEntry} {x:Str} {t:Tok} {a:Addr} {ts:List (Str×Tok)} {dd:Option Addr} {n:Nat} {sl:Array (Option Value)} {es:List DictEntry} {D:List (Str×List Str)} (h1:e.key=.str x t) (h2:e.val=.ref a) (l:K.lookup a=some ⟨.type "tuple",dd,.seq ((ts.map fun p=>Value.str p.1 p.2).toArray) n,sl⟩) (hz:ts.length≤1000)
  (r:KTD.Rows (fun ss v=>∃ a,v=.ref a∧∀ H:Hp,SqT K H a (ss.map V.str)) es D):KTD.Rows (fun ss v=>∃ a,v=.ref a∧∀ H:Hp,SqT K H a (ss.map V.str)) (e::es) ((x,ts.map (·.1))::D):=by
 refine .cons h1 ⟨a,h2,fun H=>.inr ⟨_,_,n,l,rfl,rfl,?_,?_⟩⟩ r
 ·simp only [List.size_toArray,List.length_map]
  exact Nat.le_trans hz (by decide)
 ·have vs:∀ ts:List (Str×Tok),Vals ((ts.map (·.1)).map V.str) (ts.map fun p=>Value.str p.1 p.2):=fun ts=>by
   induction ts with
   | nil=>exact .nil
   | cons p ts ih=>exact .cons ⟨p.2,rfl⟩ ih
  simpa using vs ts
end L3
namespace L3
open PySem PySem.Spec PyProof.Rows L2
abbrev ZyS (h:Heap) (z TI TO:Addr) (f0:Value) (b:Bool):Prop:=h.get? z=some { cls:=.type "zip",dict:=none,data:=.fields #[f0,.bool b,.bool false,.ref TI,.ref TO],slots:=#[] }
section
variable {prog:Program} {w:World} {A:Around} {E:Value→Shared→Prop} {s:Shared}
def Hd3 (n l1 l2 l3 i:Nat) (h:Heap):Prop:=(∃ (T:Nat) (o:Obj) (b:Bool),ZyS h (n+5) (n+3) (n+4) (rawInt T) b∧h.get? T=some o∧(T < n∨n+5 < T))∧ZnC h (n+3) (.ref n) (.ref (n+1)) (.ref (n+2))∧h.IsListIter n l1 i∧h.IsListIter (n+1) l2 i∧h.IsListIter (n+2) l3 i
def Cm3 (n l1 l2 l3 i:Nat) (h:Heap):Prop:=(i=0∧St3 n l1 l2 l3 .none 0 h)∨Hd3 n l1 l2 l3 i h
theorem Cm3.zip {n l1 l2 l3 i:Nat} {h:Heap} (st:Cm3 n l1 l2 l3 i h):∃ o,h.get? (n+5)=some o∧o.cls=.type "zip":=by
 rcases st with ⟨_,st⟩ | st
 ·exact ⟨_,st.1,rfl⟩
 ·obtain ⟨⟨T,o,b,hz,_⟩,_⟩:=st
  exact ⟨_,hz,rfl⟩
end
section
variable {prog:Program} {w:World} {A:Around} {E:Value→Shared→Prop} {s:Shared}
end
end L3
namespace L3
open PySem PySem.Spec PyProof.Rows L2
variable {K:PySem.W.Frag} {H H' H2:Hp}
section
variable {prog:Program} {w:World} {A:Around} {E:Value→Shared→Prop} {s:Shared}
def St3M (n l1 l2 l3:Nat) (f0:Value) (i:Nat) (h:Heap):Prop:=IsZip h (n+5) (n+3) (n+4) f0∧ZnC h (n+3) (.ref n) (.ref (n+1)) (.ref (n+2))∧(∃ a b c,ZnC h (n+4) a b c)∧h.IsListIter n l1 i∧h.IsTupleIter (n+1) l2 i∧h.IsTupleIter (n+2) l3 i
theorem St3M.at {n l1 l2 l3:Nat} {f0:Value} {i:Nat} {h h':Heap} (st:St3M n l1 l2 l3 f0 i h) (k:∀ (c:Nat) o,n≤c→c≤n+5→h.get? c=some o→h'.get? c=some o):St3M n l1 l2 l3 f0 i h':=by
 obtain ⟨hz,hTI,⟨a,b,c,hTO⟩,u1,u2,u3⟩:=st
 exact ⟨k _ _ (by omega) (by omega) hz,k _ _ (by omega) (by omega) hTI,⟨a,b,c,k _ _ (by omega) (by omega) hTO⟩,u1.at fun o e=>k _ o (by omega) (by omega) e,tat u2 fun o e=>k _ o (by omega) (by omega) e,tat u3 fun o e=>k _ o (by omega) (by omega) e⟩
end
end L3
namespace L3
open PySem PySem.Spec PyProof.Rows L2
section
variable {prog:Program} {w:World} {A:Around} {E:Value→Shared→Prop} {s:Shared}
end
section
variable {prog:Program} {w:World} {A:Around} {E:Value→Shared→Prop} {s:Shared}
end
section
variable {prog:Program} {w:World} {A:Around} {E:Value→Shared→Prop} {s:Shared}
end
section
variable {X:Cx} {e:Expr} {p1 p3 q1 q3:Pos} {ta:TE}
end
end L3
namespace L3
open PySem PySem.Spec PyProof.Rows L2
variable {K:PySem.W.Frag} {H H' H2:Hp}
def Zy4 (x y:W) (_:Hw):Option W:=match y with | .tup ws=>(ZtL x ws).map fun b=>.bl (!b) | _=>none
def Zy9 (K:PySem.W.Frag):R2:=fun v u H Q=>∃ p vs ws x b,u=.ref p∧SqT K H p vs∧TrL K H vs ws∧Tr K H v x∧ZtL x ws=some b∧Q (.bl (!b)) H
open Classical in
theorem ZwB {X:Cx} (hu:X.A.units+100 < cLine):OpR X (compareOp .NotIn) (Zy9 X.K):=by
 walk_at "pb"
 obtain ⟨p,vs,ws,xw,b,rfl,hq,tl,tx,e,q⟩:=h
 cases ry
 obtain ⟨its,r,pl,hz⟩:=I.tuple hq
 obtain ⟨f,hf,hb⟩:=Zoq e
 have l1:=r.length
 have l2:=tl.length
 have at':∀ (i:Nat) (z:Value),its[i]?=some z→SeqAt.EqAt X.A.in1 s z v (f i):=fun i z hi=>by
  have hlt:i < its.length:=by
   rcases Nat.lt_or_ge i its.length with h | h
   ·exact h
   ·rw [List.getElem?_eq_none h] at hi;cases hi
  have gv:vs[i]?=some (vs[i]'(by omega)):=List.getElem?_eq_getElem _
  obtain ⟨z',g',rz⟩:=r.get gv
  rw [hi] at g';cases g'
  obtain ⟨w,gw,tw⟩:=tl.get' gv
  obtain ⟨h1,h2⟩:=hf i w gw
  exact Zod I 99 _ _ _ _ _ _ _ X.A.in1 (by omega) tw tx rz rx h1 (by show X.A.units+1+99 < cLine;omega)
 refine SeqAt.notIn_tupleAt (fun z=>decide (∃ i,its[i]?=some z∧f i=true)) pl (fun z hz'=>?_) ⟨.bl (!b),H,I,?_,q⟩
 ·have hm:z∈its:=by simpa using hz'
  obtain ⟨i,hi,rfl⟩:=List.getElem_of_mem hm
  have gi:its[i]?=some its[i]:=List.getElem?_eq_getElem hi
  by_cases h:∃ j,its[j]?=some its[i]∧f j=true
  ·obtain ⟨j,g,hj⟩:=h
   have:=at' j _ g
   rw [hj] at this
   rw [decide_eq_true ⟨j,g,hj⟩];exact this
  ·have:=at' i _ gi
   rw [decide_eq_false h]
   cases hfi:f i with
   | false=>rw [hfi] at this;exact this
   | true=>exact absurd ⟨i,gi,hfi⟩ h
 ·show RelV (.bl (!b)) (.bool _)
  have:(its.toArray.any fun z=>decide (∃ i,its[i]?=some z∧f i=true))=b:=by
   rw [Bool.eq_iff_iff,hb]
   simp only [List.any_toArray,List.any_eq_true,decide_eq_true_eq]
   constructor
   ·rintro ⟨z,hz',i,hi,hfi⟩
    refine ⟨i,?_,hfi⟩
    rcases Nat.lt_or_ge i its.length with h | h
    ·omega
    ·rw [List.getElem?_eq_none h] at hi;cases hi
   ·rintro ⟨j,hj,hfj⟩
    have hj':j < its.length:=by omega
    exact ⟨its[j],List.getElem_mem hj',j,List.getElem?_eq_getElem hj',hfj⟩
  rw [this];rfl
theorem ZwS (x y:W) (v u:V) (G:Hw) (H:Hp) (Q:VK) (tx:Tr K H v x) (ty:Tr K H u y) (r:RelH K H G) (q:Zak Zy4 x y G (dn K H Q)):Zy9 K v u H Q:=by
 obtain ⟨w,e,q'⟩:=Zfs q
 unfold Zy4 at e
 cases ty <;> first | (cases e;done) | skip
 rename_i a vs ws hq t
 obtain ⟨b,e3,e4⟩:=Option.map_eq_some_iff.mp e
 subst e4
 exact ⟨a,vs,ws,x,b,rfl,hq,t,tx,e3,q' _ H .refl (.bl _) r⟩
theorem Zde {X:Cx} (hu:X.A.units+100 < cLine):Cop X .NotIn (Zak Zy4):=⟨⟨_,ZwB hu,ZwS⟩,ZhE⟩
def Zz6 (gg:GG) (ga:GE):GS:=fun D ω G=>ga ω G fun w G1=>gg w ω G1 D.nx
theorem Zgt {X:Cx} {P:Hp→Prop} {tg e:Expr} {ga:GE} {gg:GG} {pos:Pos} (hs:swapsWithSole [tg] e pos.line X.env=pure false) (hw:swappedStores [tg] e X.env=pure none) (h1:(assignEach [tg] X.env).map (·.2)=[assign tg X.env]) (hg:TgW X tg gg) (ha:Em X e ga) :
  Sm X P (.Assign [tg] e pos) (Zz6 gg ga):=by
 obtain ⟨⟨g,pg,hup⟩,mg⟩:=hg
 refine ⟨fun B hB=>Zfk (Zup ha.p pg hs hw h1) ?_,fun ω G D D' h _ _ _ q=>ha.m _ _ _ _ (fun w G1 z=>mg _ _ _ _ _ h z) q⟩
 rintro D σ H ⟨ω,G,ts,r,mb,q⟩
 exact ⟨ω,G,ts,r,ha.m _ _ _ _ (fun w G1 z v H1 m t r1=>hup v w σ ω H1 G1 _ t (ts.mono m) r1 (mg _ _ _ _ _ (fun ω2 G2 z2 σ2 H2 m2 ts2 r2=>z2 σ2 H2 (mb.trans (m.trans m2)) ts2 r2) z)) q⟩
theorem Ztz {h:Heap} {mg:Str→Option Value} (X:K.In h) (G:h.Ns mainGlobals mg) {x:Str} {d:Addr} {us:List (Addr×List (Str×Tok))} {dd:Option Addr} {n:Nat} {sl:Array (Option Value)} (e:PySem.W.nsIn K mainGlobals x=some (some (.ref d))) (l:K.lookup d=some ⟨.type "tuple",dd,.seq ((us.map fun u=>Value.ref u.1).toArray) n,sl⟩) (hz:us.length≤1000)
  (hu:∀ u∈us,u.2.length≤1000∧∃ dd n sl,K.lookup u.1=some ⟨.type "tuple",dd,.seq ((u.2.map fun p=>Value.str p.1 p.2).toArray) n,sl⟩) :
  Glb K mg x (.tup (us.map fun u=>.tup (u.2.map fun p=>.str p.1))):=by
 have vs:∀ ts:List (Str×Tok),Vals (ts.map fun p=>V.str p.1) (ts.map fun p=>Value.str p.1 p.2):=fun ts=>by
  induction ts with
  | nil=>exact .nil
  | cons p ts ih=>exact .cons ⟨p.2,rfl⟩ ih
 have tr:∀ (H:Hp) (ts:List (Str×Tok)),TrL K H (ts.map fun p=>V.str p.1) (ts.map fun p=>W.str p.1):=fun H ts=>by
  induction ts with
  | nil=>exact .nil
  | cons p ts ih=>exact .cons (.str _) ih
 have vr:∀ us:List (Addr×List (Str×Tok)),Vals (us.map fun u=>V.ref u.1) (us.map fun u=>Value.ref u.1):=fun us=>by
  induction us with
  | nil=>exact .nil
  | cons p ts ih=>exact .cons rfl ih
 have tt:∀ (H:Hp) (us:List (Addr×List (Str×Tok))),(∀ u∈us,u.2.length≤1000∧∃ dd n sl,K.lookup u.1=some ⟨.type "tuple",dd,.seq ((u.2.map fun p=>Value.str p.1 p.2).toArray) n,sl⟩)→TrL K H (us.map fun u=>V.ref u.1) (us.map fun u=>W.tup (u.2.map fun p=>.str p.1)):=fun H us=>by
  induction us with
  | nil=>exact fun _=>.nil
  | cons p ts ih =>
   intro h
   obtain ⟨h1,dd,n,sl,h2⟩:=h p List.mem_cons_self
   refine .cons (.tup (.inr ⟨_,_,n,h2,rfl,rfl,?_,by simpa using vs p.2⟩) (tr H p.2)) (ih fun u hm=>h u (List.mem_cons_of_mem _ hm))
   simp only [List.size_toArray,List.length_map]
   exact Nat.le_trans h1 (by decide)
 refine ⟨.ref d,.ref d,PySem.W.mg_of X G e,rfl,fun H=>.tup (.inr ⟨_,_,n,l,rfl,rfl,?_,by simpa using vr us⟩) (tt H us hu)⟩
 simp only [List.size_toArray,List.length_map]
 exact Nat.le_trans hz (by decide)
section
variable {X:Cx} {e:Expr} {p pc pd pt pos:Pos} {ge:GE}
end
end L3
namespace L3
open PySem PySem.Spec PyProof.Rows L2
def ev {α:Type} (lt:Nat→Nat→Bool) (n:Nat):PySem.W.KasT α→Option α
 | .ret a=>some a
 | .ask i j k=>if i≠j∧i < n∧j < n then ev lt n (k (lt i j)) else none
section
variable {prog:Program} {w:World} {A:Around} {E:Value→Shared→Prop} {s:Shared}
end
end L3
namespace L3
open PySem PySem.Spec PyProof.Rows L2
variable {K:PySem.W.Frag} {H H' H2:Hp}
end L3
namespace L2
open PySem PySem.Spec PyProof.Rows
def ZzV (K:PySem.W.Frag) (D:Addr) (tb:(St→XK)→TS) (th:TS):TS:=fun Dn σ H=>tb (fun σ' Cv _ H'=>∃ C,Cv=.ref C∧PySem.W.subIn K (.ref C) (.ref D)=some true∧th Dn σ' H') Dn σ H
theorem ZwC {X:Cx} {body hbody:List Stmt} {b0:Stmt} {x:Str} {np hpos pos:Pos} {D:Addr} {tb:(St→XK)→TS} {th:TS}
  (frm:X.stack=X.env::X.outer) (frl:X.env.frame=some X.env.locals) (hex:X.ex=[]) (hgx:Gl X x) (hmx:X.mg x=some (.ref D)) (hD:PySem.W.typeIn X.K (.ref D)=some (.type "type")) (hT:(PySem.W.clsIn X.K D).isSome=true) (hB:PySem.W.subIn X.K (.ref D) (.type "BaseException")=some true)
  (hb:∀ (Eσ:St→XK) (pn:List (Addr×Obj)) (xe:Value→Shared→Prop),ZjM (CXe X.prog X.w) (cxT X pn xe) Eσ→PSs (cxT X pn xe) body (tb Eσ)) (hh:∀ e,PSs (cxH X e) (b0::hbody) th) (hdb:(x==("__debug__":Str))=false:=by decide) :
  PS X (.Try body [.ExceptHandler (some (.Name x np)) none (b0::hbody) hpos] [] [] pos) (ZzV X.K D tb th):=by
 intro pins s σ H Dn I h
 refine wpAny_Try_except ?_
 let T:Value→Shared→Prop:=fun ev s₁=>wpAny (model X.prog X.w) X.A (noteFrame ev X.env) (fun _ s₂=>wpAny (model X.prog X.w) X.A (setFlight ev none) (fun _ s₃ =>
  wpAny (model X.prog X.w) X.A (handleBy ev X.env [.ExceptHandler (some (.Name x np)) none (b0::hbody) hpos]) (SP X pins Dn) X.xe s₃) X.xe s₂) X.xe s₁
 have ok:=I.ok
 refine wpAny_mono (hb _ (X.pn++pins) T ?_ [] s σ H Dn I.toT h) (fun f s₁ q=>?_) (fun ev s₁ q=>q)
 ·intro pins' σ' H' s' ev s'' I2 hcx
  obtain ⟨e,C,H2,rfl,F,C',eC,hsub,q⟩:=hcx
  cases eC
  show T (.ref e) s''
  obtain ⟨B,a0,fl,cov⟩:=F.fly
  have fr:X.A.frames=some (X.env::X.outer):=by rw [← frm];exact ok.frames
  have fl':Heap.FlyingW B (X.env::X.outer) e (.ref C) a0 s''.heap:=by rw [← frm];exact fl
  refine wpAny_looks_onW fr frl fl' fun h₄ held₄ up₄=>?_
  refine wpAny_landsW held₄ fun h₅ fl₅ up₅=>?_
  have I5:Inv X pins σ' H2 { s'' with heap:=h₅ }:=Inv.ofT ok (F.inv I2 fl cov fl₅.1 (up₄.trans up₅))
  obtain ⟨ob,hob,hobc⟩:=fl₅.there
  refine wpAny_handleBy_cons (codeAny_handlers_test (Zjk (X:=cxH X e) I5.toH hgx hmx ?_ hdb)) (by intro q;cases q)
  refine Zms I5.kIn hob hobc hD hT hB hsub ?_
  refine codeAny_handlers_suite ?_
  refine lands_againW fl₅ fun h₆ fl₆ up₆=>?_
  have I6:Inv X pins σ' H2 { s'' with heap:=h₆ }:=Inv.ofT ok (F.inv I2 fl cov fl₆.1 ((up₄.trans up₅).trans up₆))
  refine wpAny_mono (hh e pins _ _ _ _ I6.toH q) (fun f s9 q9=>?_) (fun _ _ z=>z.elim)
  cases f with
  | next=>obtain ⟨σ9,H9,I9,q9⟩:=q9;exact ⟨_,_,Inv.ofH ok I9,q9⟩
  | brk=>obtain ⟨σ9,H9,I9,q9⟩:=q9;exact ⟨_,_,Inv.ofH ok I9,q9⟩
  | cont=>obtain ⟨σ9,H9,I9,q9⟩:=q9;exact ⟨_,_,Inv.ofH ok I9,q9⟩
  | ret u=>obtain ⟨v,σ9,H9,I9,r9,q9⟩:=q9;exact ⟨v,_,_,Inv.ofH ok I9,r9,q9⟩
 ·cases f with
  | next=>obtain ⟨σ',H',I',q⟩:=q;exact wpAny_execs_nil ⟨σ',H',Inv.ofT ok I',q⟩
  | brk=>obtain ⟨σ',H',I',q⟩:=q;exact ⟨σ',H',Inv.ofT ok I',q⟩
  | cont=>obtain ⟨σ',H',I',q⟩:=q;exact ⟨σ',H',Inv.ofT ok I',q⟩
  | ret u=>obtain ⟨v,σ',H',I',r,q⟩:=q;exact ⟨v,σ',H',Inv.ofT ok I',r,q⟩
end L2
namespace L3
open PySem PySem.Spec PyProof.Rows L2
def ZvT (K:PySem.W.Frag) (C0:Addr) (gb:Xw→GS) (gh:GS):GS:=fun D ω G=>∃ D0,ZzP D0 D∧gb (fun ω' C G'=>PySem.W.subIn K (.ref C) (.ref C0)=some true∧gh D0 ω' G') D0 ω G
theorem ZvG {X:Cx} {body hbody:List Stmt} {b0:Stmt} {x:Str} {np hpos pos:Pos} {C0:Addr} {gb:Xw→GS} {gh:GS} (hmx:X.mg x=some (.ref C0)) (hD:PySem.W.typeIn X.K (.ref C0)=some (.type "type")) (hT:(PySem.W.clsIn X.K C0).isSome=true) (hB:PySem.W.subIn X.K (.ref C0) (.type "BaseException")=some true)
  (frm:X.stack=X.env::X.outer) (frl:X.env.frame=some X.env.locals) (hex:X.ex=[]) (hgx:Gl X x) (hdb:(x==("__debug__":Str))=false)
  (hb:∀ (ex:Xw) (pn:List (Addr×Obj)) (xe:Value→Shared→Prop),Zmq (cxT X pn xe) ex→Ssm (cxT X pn xe) (atB X) body (gb ex)) (hh:∀ e,Ssm (cxH X e) (atB X) (b0::hbody) gh) :
  Sm X (atB X) (.Try body [.ExceptHandler (some (.Name x np)) none (b0::hbody) hpos] [] [] pos) (ZvT X.K C0 gb gh):=by
 refine ⟨fun B hBB=>?_,(by rintro ω G D D' h1 h2 h3 h4 ⟨D0,le,q⟩;exact ⟨D0,⟨fun a b z=>h1 a b (le.nx a b z),fun a b z=>h2 a b (le.rt a b z),fun a b z=>h3 a b (le.bk a b z),fun a b z=>h4 a b (le.ct a b z)⟩,q⟩)⟩
 have hBB':B=X.H₀:=hBB
 let tb:(St→XK)→TS:=fun Eσ Dn σ H=>∃ (ex:Xw) (D0:Ew) (ω:Sw) (G:Hw),TrSt X.K H σ ω∧RelH X.K H G∧Mono X.K B H ∧
  (∀ σ' C H' ω' G',Mono X.K B H'→TrSt X.K H' σ' ω'→RelH X.K H' G'→ex ω' C G'→Eσ σ' (.ref C) none H')∧ZzP D0 (dnD X.K B Dn)∧gb ex D0 ω G
 have hbody':∀ (Eσ:St→XK) (pn:List (Addr×Obj)) (xe:Value→Shared→Prop),ZjM (CXe X.prog X.w) (cxT X pn xe) Eσ→PSs (cxT X pn xe) body (tb Eσ):=by
  intro Eσ pn xe hp pins s σ H Dn I ⟨ex,D0,ω,G,ts,r,mb,hex',hD0,q⟩
  have pw:Zmq (cxT X pn xe) ex:=by
   intro pins' σ' H1 s1 ev s' I1 ⟨e,C,H',ee,F,C',ω',G',eC,ts',r',q'⟩
   cases eC
   exact hp pins' σ' H1 s1 ev s' I1 ⟨e,C,H',ee,F,hex' σ' C H' ω' G' (by rw [hBB'];exact (Un.mono' I1.base).trans (Un.mono' F.un)) ts' r' q'⟩
  have S:=hb ex pn xe pw
  exact S.p B hBB pins s σ H Dn I ⟨ω,G,ts,r,mb,S.m.le hD0 q⟩
 refine Zfk (ZwC (tb:=tb) (th:=upS X.K B gh) frm frl hex hgx hmx hD hT hB hbody' (fun e=>(hh e).p B hBB) hdb) fun D σ H zz1=>?_
 obtain ⟨ω,G,ts,r,mb,D0,le,q⟩:=zz1
 refine ⟨_,D0,ω,G,ts,r,mb,fun σ' C H' ω' G' m' ts' r' z=>?_,le,q⟩
 exact ⟨C,rfl,z.1,ω',G',ts',r',m',(hh 0).m.le le z.2⟩
section
variable {α:Type} {x y z:α} {xs:List α}
theorem ZcZ:atI (x::xs) 0=some x:=ZlV (j:=0) (xs:=x::xs) rfl
theorem ZbV:atI (x::y::xs) 1=some y:=ZlV (j:=1) (xs:=x::y::xs) rfl
theorem Zcz:atI (x::y::z::xs) 2=some z:=ZlV (j:=2) (xs:=x::y::z::xs) rfl
end
theorem Zac {w:W} {f:W→Prop}:opt (some w) f=f w:=rfl
theorem Za0 {G:Hw} {p:Addr} {o:HW} (h:G p=none):Sub G (put G p o):=Sub.refl.put h
theorem ZcK {G G':Hw} {p:Addr} {o:HW} (s:Sub G G') (h:G' p=none):Sub G (put G' p o):=s.trans (Za0 h)
theorem Zbf {G:Hw} {p:Addr} {o o':HW}:put (put G p o) p o'=put G p o':=by
 funext b;unfold put;split <;> rfl
theorem Zeg {G:Hw} {p:Addr} {xs:List W} (h:G p=some (.lst xs)):Zmg G (.ref p)=some xs:=by unfold Zmg;dsimp only;rw [h]
theorem ZhK {G:Hw} {p:Addr} {xs:List W} (h:G p=some (.lst xs)):Zn8 G (.ref p)=some xs:=by unfold Zn8;dsimp only;rw [h]
theorem Ziq {G:Hw} {p:Addr} {xs:List W} (h:G p=some (.lst xs)):rdL G (.ref p)=some xs:=by unfold rdL;dsimp only;rw [h]
theorem Zes {G:Hw} {p:Addr} {xs:List W} {i:Int} (h:G p=some (.lst xs)):ixW (.ref p) (.int i) G=atI xs i:=by unfold ixW;dsimp only;rw [h]
theorem ZdJ:∀ bs:List Bool,ZnT (bs.map W.bl)=some bs
 | []=>rfl
 | b::bs=>by show (ZnT (bs.map W.bl)).map (b::·)=_;rw [ZdJ bs];rfl
theorem ZkV:∀ bs:List Str,ZnU (bs.map W.str)=some (bs.map V.str)
 | []=>rfl
 | b::bs=>by show (ZqD (.str b)).bind (fun v=>(ZnU (bs.map W.str)).map (v::·))=_;rw [ZkV bs];rfl
theorem Zpc (s:Str):∀ bs:List Str,inV (.str s) (bs.map V.str)=bs.any (·==s)
 | []=>rfl
 | b::bs=>by
  show (eqV (.str b) (.str s)||inV (.str s) (bs.map V.str))=_
  rw [Zpc s bs];rfl
theorem ZpH {gd:Hw→Prop} {ge:GE} {R:List W→Hw→Prop} {f:W→W} {G:Hw} (hgd:gd G):∀ (ws:List W) (o:Option W) (ys:List W),(∀ x∈ws,∀ Q:Kw,Q (f x) G→ge [some x] G Q) →
  ys.length+ws.length≤sizeLine→R (ys++ws.map f) G→ZbR gd (gNm 0) Zhg ge R ws [o] G ys
 | [],o,ys,_,_,r=>⟨hgd,by simpa using r⟩
 | x::ws,o,ys,h,hl,r=>by
  refine ⟨hgd,by simp only [List.length_cons] at hl;omega,?_⟩
  show ge [some x] G fun y G3=>ZbR gd (gNm 0) Zhg ge R ws [some x] G3 (ys++[y])
  refine h x List.mem_cons_self _ (ZpH hgd ws (some x) (ys++[f x]) (fun y hy=>h y (List.mem_cons_of_mem _ hy)) ?_ ?_)
  ·simp only [List.length_append,List.length_cons,List.length_nil] at hl ⊢;omega
  ·simpa [List.append_assoc] using r
theorem ZyA {gd:Hw→Prop} {ge:GE} {R:List W→Hw→Prop} {f:W→W→W} {G:Hw} (hgd:gd G):∀ (ws:List (W×W)) (o o':Option W) (ys:List W),(∀ x∈ws,∀ Q:Kw,Q (f x.1 x.2) G→ge [some x.1,some x.2] G Q) →
  ys.length+ws.length≤sizeLine→R (ys++ws.map fun x=>f x.1 x.2) G→ZbR gd (ZjU 0 1) Zhg ge R (ws.map fun x=>W.tup [x.1,x.2]) [o,o'] G ys
 | [],o,o',ys,_,_,r=>⟨hgd,by simpa using r⟩
 | x::ws,o,o',ys,h,hl,r=>by
  refine ⟨hgd,by simp only [List.length_cons] at hl;omega,?_⟩
  show ge [some x.1,some x.2] G fun y G3=>ZbR gd (ZjU 0 1) Zhg ge R (ws.map fun x=>W.tup [x.1,x.2]) [some x.1,some x.2] G3 (ys++[y])
  refine h x List.mem_cons_self _ (ZyA hgd ws (some x.1) (some x.2) (ys++[f x.1 x.2]) (fun y hy=>h y (List.mem_cons_of_mem _ hy)) ?_ ?_)
  ·simp only [List.length_append,List.length_cons,List.length_nil] at hl ⊢;omega
  ·simpa [List.append_assoc] using r
theorem Zha:∀ (xs ys:List W),Zne xs ys=(xs.zip ys).map fun x=>W.tup [x.1,x.2]
 | [],_=>by simp [Zne]
 | _::_,[]=>by simp [Zne]
 | x::xs,y::ys=>by simp [Zne,Zha xs ys]
def spR {α:Type} (A:α→List W→Hw→Prop) (f:α→W):Spw:=fun ws G Q _=>∃ x,A x ws G∧Q (f x) G
theorem ZbK {α:Type} {A:α→List W→Hw→Prop} {f:α→W}:Spw.M (spR A f):=(by rintro ws G Q Q' E E' h _ ⟨x,h1,q⟩;exact ⟨x,h1,h _ _ q⟩)
def spL {α:Type} (A:α→List W→Hw→Prop) (f:α→List W):Spw:=fun ws G Q _=>∃ x,A x ws G∧∀ p,G p=none→Q (.ref p) (put G p (.lst (f x)))
theorem Zr0 {α:Type} {A:α→List W→Hw→Prop} {f:α→List W}:Spw.M (spL A f):=(by rintro ws G Q Q' E E' h _ ⟨x,h1,q⟩;exact ⟨x,h1,fun p hp=>h _ _ (q p hp)⟩)
theorem Zmc {α:Type} (xs:List α):Zoz xs (some 1) none=xs.drop 1:=by
 have e:HT.sIx xs.length 0 (some 1)=min 1 xs.length:=HT.sIx_nat xs.length 0 1
 unfold Zoz
 rw [e,HT.sIx_none]
 cases xs with
 | nil=>rfl
 | cons x xs =>
  have e1:min 1 (x::xs).length=1:=by simp only [List.length_cons];omega
  rw [e1]
  show (xs.take ((xs.length+1) - 1))=xs
  rw [Nat.add_sub_cancel,List.take_length]
theorem Zfu {α:Type} (x:α) (xs:List α):¬ (HT.sIx (x::xs).length 0 (some 1)=0∧HT.sIx (x::xs).length (x::xs).length none=(x::xs).length):=by
 have e:HT.sIx (x::xs).length 0 (some 1)=min 1 (x::xs).length:=HT.sIx_nat (x::xs).length 0 1
 intro h
 have:=h.1
 rw [e] at this
 simp only [List.length_cons] at this
 omega
theorem Zy8 {G:Hw} {p:Addr} {xs:List W} {lo hi:Option Int} {Q:Kw} (h:G p=some (.lst xs)) (q:∀ p1,G p1=none→Q (.ref p1) (put G p1 (.lst (Zoz xs lo hi)))):slW (.ref p) lo hi G Q:=by
 unfold slW
 dsimp only
 rw [h]
 exact q
theorem ZaP {G:Hw} {p q:Addr} {o:HW} (h:G p=some o) (h':G q=none):p≠q:=by intro e;rw [e,h'] at h;cases h
theorem Zbh {n:Nat} (h:n≤100000):n≤sizeLine:=Nat.le_trans h (by decide)
theorem ZiS {n:Nat} (h:n≤100000):n < sizeLine:=Nat.lt_of_le_of_lt h (by decide)
section
variable {P:Program} {w:World} {K:PySem.W.Frag} {mg:Str→Option Value} {base:Heap}
theorem ok0 {x:Str} {st:Stmt} {f:Addr} {fd:FuncData} {N ps:List Str} {k:Nat} {sp:Spw} {g:GS} (F:Fun K x x st f fd) (S:Zau N ps (Zag st)) (len:∀ ws G Q E,sp ws G Q E→ws.length=ps.length)
  (hg:∀ {f:Addr} {cdv:Value} {A:Around} {outer:List Env} {s:Shared} {H:Hp} {E:XK},Room k (A.deeper (envOfC x (Zag st) s.heap.objs.size f cdv))→Ssm (cxW P w K mg base N x (Zag st) f cdv A outer s H E).nox (fun B=>B=H) (Zcr st) g)
  (ok:∀ ws G (Q:Kw) (E:Addr→Hw→Prop),Kw.C Q→sp ws G Q E→g (ZaE Q) (Zbw N ws) G):FnOk P w K mg base (CXe P w) (k+1) f fd ps (Zvh K sp):=by
 walk_at "ps"
 refine ZtO lk hcd S ((by rintro vs H Q E ⟨ws,G,t,r,q⟩;rw [t.length];exact len ws G _ _ q)) fun A outer s H vs Q E hr hsp=>?_
 obtain ⟨ws,G,t,r,q⟩:=hsp
 have D:=hg (cdv:=cdv) (outer:=outer) (H:=H) (E:=E) hr
 refine ⟨_,(D.p H rfl).nox,Zbw N ws,G,ZhS t,r,.refl,?_⟩
 exact D.m _ _ (ZaE (dn K H Q)) _ (fun a b z σ H2 m ts r2=>z _ H2 m Tr.non r2) (fun a b z=>z) (fun a b z=>z.elim) (fun a b z=>z.elim) (ok ws G _ _ Zz2 q)
end
def Ztw:Spw:=fun ws _ Q _=>∃ ns:List Int,ws=[.rol (ns.map W.int)]∧ns.length≤63∧∀ G',Q (.bl true) G'
theorem Zpk {K:PySem.W.Frag} {H:Hp}:∀ ns:List Int,TrL K H (ns.map V.int) (ns.map W.int)
 | []=>.nil
 | n::ns=>.cons (.int n) (Zpk ns)
theorem Zq9 {K:PySem.W.Frag} {H:Hp} {a:Addr} {ns:List Int} (hl:ns.length≤63) (hO:ZzE H) (hS:SqL K H a (ns.map V.int)):Zvh K Ztw [.ref a] H (fun v _=>v=.bl true) (fun _ _ _=>False):=by
 have ro:RoL K H a (ns.map V.int):=by
  rcases hS with (h | ⟨o,h⟩) | h
  ·rcases hO a with z | ⟨o,xs,z⟩
   ·rw [z] at h;cases h
   ·rw [z] at h;cases h
  ·exact .inl ⟨o,h⟩
  ·exact .inr h
 exact ⟨[.rol (ns.map W.int)],fun _=>none,.cons (.rol ro (Zpk ns)) .nil,(fun a o e=>by cases e),ns,rfl,hl,fun G' v H' m t r=>ZnR t⟩
theorem Zuc {P:Program} {w:World} {H:Hp} {s:Shared} {e:Value} {s':Shared} (h:CXe P w [] H s (fun _ _ _=>False) e s'):False:=by
 obtain ⟨_,_,_,_,_,q⟩:=h
 exact q
section
variable {K:PySem.W.Frag} {h:Heap} {mg:Str→Option Value} (X:K.In h) (G:h.Ns mainGlobals mg)
include X G
theorem ZAb {x:Str} {st:Stmt} {ps:List Str} {f:Addr} {oc:Value} {od an:Option Addr} {osl:Array (Option Value)} {kV doc pm cdv ct:Value} (e1:PySem.W.nsIn K mainGlobals x=some (some (.ref f)))
  (l:K.lookup f=some ⟨oc,od,.func (PySem.W.fnOf x x (ZgL st) (Zcr st) (Zag st) .none kV doc pm an cdv ct),osl⟩) (c:PySem.W.codeIn K cdv x=true) (k:PySem.W.keepIn K (.ref f)=true)
  (b:∀ (kV doc pm:Value) (an:Option Addr) (cdv ct:Value) (us:List Value),us.length=ps.length→bindArgs (PySem.W.fnOf x x (ZgL st) (Zcr st) (Zag st) .none kV doc pm an cdv ct) ⟨us,[]⟩=pure (ps.zip us)):Fn K mg st x ps :=
 ⟨f,_,PySem.W.mg_of X G e1,ZuR l c k,(ZuR l c k).binds b⟩
theorem ZnI {x:Str} {i:Int} {t:Tok} (e:PySem.W.nsIn K mainGlobals x=some (some (.int i t))):Glb K mg x (.int i):=⟨.int i,.int i t,PySem.W.mg_of X G e,⟨t,rfl⟩,fun H=>.int i⟩
theorem ZwU {x:Str} {d:Addr} {ts:List (Str×Tok)} {dd:Option Addr} {n:Nat} {sl:Array (Option Value)} (e:PySem.W.nsIn K mainGlobals x=some (some (.ref d))) (l:K.lookup d=some ⟨.type "tuple",dd,.seq ((ts.map fun p=>Value.str p.1 p.2).toArray) n,sl⟩) (hz:ts.length≤1000) :
  Glb K mg x (.tup (ts.map fun p=>.str p.1)):=by
 have vs:∀ ts:List (Str×Tok),Vals (ts.map fun p=>V.str p.1) (ts.map fun p=>Value.str p.1 p.2):=fun ts=>by
  induction ts with
  | nil=>exact .nil
  | cons p ts ih=>exact .cons ⟨p.2,rfl⟩ ih
 have tr:∀ (H:Hp) (ts:List (Str×Tok)),TrL K H (ts.map fun p=>V.str p.1) (ts.map fun p=>W.str p.1):=fun H ts=>by
  induction ts with
  | nil=>exact .nil
  | cons p ts ih=>exact .cons (.str _) ih
 refine ⟨.ref d,.ref d,PySem.W.mg_of X G e,rfl,fun H=>.tup (.inr ⟨_,_,n,l,rfl,rfl,?_,by simpa using vs ts⟩) (tr H ts)⟩
 simp only [List.size_toArray,List.length_map]
 exact Nat.le_trans hz (by decide)
end
theorem Zzj {K:PySem.W.Frag} {h base:Heap} {mg:Str→Option Value} (X:K.In h) (G:h.Ns mainGlobals mg) (B:K.In base) {x:Str} {d:Addr} {o:Obj} {es:Array DictEntry} {ep:Nat} {D:List (Str×Int)} (e:PySem.W.nsIn K mainGlobals x=some (some (.ref d))) (l:K.lookup d=some o)
  (hd:(d==sysModules)=false) (hx:o.ExactDict) (ho:o.data=.dict es ep) (hr:KTD.Rows (KTD.Dat.At base) es.toList (D.map fun p=>(p.1,KTD.Dat.flat (.int p.2)))):ZAo mg base x D :=
 ⟨d,PySem.W.mg_of X G e,hd,o,es,ep,B _ _ l,hx,ho,hr⟩
theorem ZAf {l:PySem.W.OpenLaw} {q:Program} {loose:List Str} {XP:(Str→Option Value)→Heap→Prop} {YP:World→Heap→Prop} {d:DefRec} {K:Params→PySem.W.Frag} {k:Nat} (hr:Room k callerA) (hn:l.most=some 63) (hdf:d.params.defaults=[])
  (hY:∀ (w:World) (h:Heap),YP w h→(K w.params).In h)
  (F:∀ (w:World) (mg:Str→Option Value) (fa:Addr) (h:Heap),(K w.params).In h→h.Ns mainGlobals mg→mg d.name=some (.ref fa) →
   ∃ fd:FuncData,(∀ (s:Shared) (u:Value),BindsTo s fd ⟨[u],[]⟩ [("script",u)])∧∀ base:Heap,(K w.params).In base→base.Ns mainGlobals mg→FnOk l.prog w (K w.params) mg base (CXe l.prog w) k fa fd ["script"] (Zvh (K w.params) Ztw)) :
  PySem.W.WalkO q loose XP YP l.row.toRowW d [] (fun f vs=>PySem.call f vs) :=
 L2.ZvW (n:=63) (k:=k) (x:="script") (CX:=fun w=>CXe l.prog w) (sp:=fun w=>Zvh (K w.params) Ztw) hn (by decide) hdf hr hY F (fun w H a ns hl hO hS=>Zq9 hl hO hS) fun w H s e s' z=>Zuc z
theorem ln0 {us:List Value} (h:us.length=0):us=[]:=List.length_eq_zero_iff.mp h
theorem ln1 {us:List Value} {n:Nat} (h:us.length=n+1):∃ a r,us=a::r∧r.length=n:=by
 cases us with
 | nil=>cases h
 | cons a r=>exact ⟨a,r,rfl,Nat.succ.inj h⟩
end L3
namespace KJ
open PySem L2 L3
mutual
inductive Kd where
 | any | num | truth
 | to (a b:Kd) | box (a:Kd) | row (fs:Fs) (o:Bool)
inductive Fs where
 | nil | cons (n:Str) (m:Bool) (k:Kd) (r:Fs)
end
def mark (m:Bool):Str:=if m then "must" else "may"
mutual
def Kd.enc:Kd→W
 | .any=>.tup [.str "any"]
 | .num=>.tup [.str "num"]
 | .truth=>.tup [.str "truth"]
 | .to a b=>.tup [.str "to",a.enc,b.enc]
 | .box a=>.tup [.str "box",a.enc]
 | .row fs o=>.tup [.str "row",.tup fs.enc,.bl o]
def Fs.enc:Fs→List W
 | .nil=>[]
 | .cons n m k r=>.tup [.str n,.str (mark m),k.enc]::r.enc
end
def Fs.kinds:Fs→List Kd
 | .nil=>[]
 | .cons _ _ k r=>k::r.kinds
def Fs.names:Fs→List Str
 | .nil=>[]
 | .cons n _ _ r=>n::r.names
def Kd.kids:Kd→List Kd
 | .to a b=>[a,b]
 | .box a=>[a]
 | .row fs _=>fs.kinds
 | _=>[]
mutual
def Kd.cnt:Kd→Nat
 | .to a b=>1+(a.cnt+b.cnt)
 | .box a=>1+a.cnt
 | .row fs _=>1+fs.cnt
 | _=>1
def Fs.cnt:Fs→Nat
 | .nil=>0
 | .cons _ _ k r=>k.cnt+r.cnt
end
mutual
def Kd.dp:Kd→Nat
 | .to a b=>1+max a.dp b.dp
 | .box a=>1+a.dp
 | .row fs _=>1+fs.dp
 | _=>1
def Fs.dp:Fs→Nat
 | .nil=>0
 | .cons _ _ k r=>max k.dp r.dp
end
mutual
def Kd.all:Kd→List Kd
 | .to a b=>.to a b::(a.all++b.all)
 | .box a=>.box a::a.all
 | .row fs o=>.row fs o::fs.all
 | .any=>[.any]
 | .num=>[.num]
 | .truth=>[.truth]
def Fs.all:Fs→List Kd
 | .nil=>[]
 | .cons _ _ k r=>k.all++r.all
end
def ZhF:List Kd→Nat
 | []=>0
 | k::r=>k.cnt+ZhF r
def dpL:List Kd→Nat
 | []=>0
 | k::r=>max k.dp (dpL r)
theorem ZqS:∀ fs:Fs,fs.cnt=ZhF fs.kinds
 | .nil=>rfl
 | .cons _ _ k r=>by show k.cnt+r.cnt=k.cnt+ZhF r.kinds;rw [ZqS r]
theorem Zxi:∀ fs:Fs,fs.dp=dpL fs.kinds
 | .nil=>rfl
 | .cons _ _ k r=>by show max k.dp r.dp=max k.dp (dpL r.kinds);rw [Zxi r]
theorem Zu0:∀ fs:Fs,fs.all=fs.kinds.flatMap Kd.all
 | .nil=>rfl
 | .cons _ _ k r=>by show k.all++r.all=(k::r.kinds).flatMap Kd.all;rw [Zu0 r,List.flatMap_cons]
theorem Zhk (k:Kd):k.cnt=1+ZhF k.kids:=by
 cases k with
 | to a b=>show 1+(a.cnt+b.cnt)=1+(a.cnt+(b.cnt+0));omega
 | box a=>show 1+a.cnt=1+(a.cnt+0);omega
 | row fs o=>show 1+fs.cnt=1+ZhF fs.kinds;rw [ZqS]
 | _=>rfl
theorem ZlR (k:Kd):k.dp=1+dpL k.kids:=by
 cases k with
 | to a b=>show 1+max a.dp b.dp=1+max a.dp (max b.dp 0);omega
 | box a=>show 1+a.dp=1+max a.dp 0;omega
 | row fs o=>show 1+fs.dp=1+dpL fs.kinds;rw [Zxi]
 | _=>rfl
theorem Zo6 (k:Kd):k.all=k::k.kids.flatMap Kd.all:=by
 cases k with
 | to a b=>show Kd.to a b::(a.all++b.all)=Kd.to a b::[a,b].flatMap Kd.all;simp [List.flatMap_cons]
 | box a=>show Kd.box a::a.all=Kd.box a::[a].flatMap Kd.all;simp [List.flatMap_cons]
 | row fs o=>show Kd.row fs o::fs.all=Kd.row fs o::fs.kinds.flatMap Kd.all;rw [Zu0]
 | _=>rfl
theorem ZjH:∀ (l m:List Kd),ZhF (l++m)=ZhF l+ZhF m
 | [],m=>by simp [ZhF]
 | k::l,m=>by show k.cnt+ZhF (l++m)=k.cnt+ZhF l+ZhF m;rw [ZjH l m];omega
theorem ZkO:∀ (l m:List Kd),dpL (l++m)=max (dpL l) (dpL m)
 | [],m=>by simp [dpL]
 | k::l,m=>by show max k.dp (dpL (l++m))=max (max k.dp (dpL l)) (dpL m);rw [ZkO l m];omega
theorem Zic (k:Kd):1≤k.cnt:=by rw [Zhk];omega
theorem ZbX (k:Kd):1≤k.dp:=by rw [ZlR];omega
theorem Zle:∀ l:List Kd,ZhF l=l.length+ZhF (l.flatMap Kd.kids)
 | []=>rfl
 | k::l=>by
  show k.cnt+ZhF l=(l.length+1)+ZhF ((k::l).flatMap Kd.kids)
  rw [List.flatMap_cons,ZjH,Zle l,Zhk k];omega
theorem Znu:∀ l:List Kd,l≠[]→dpL l=1+dpL (l.flatMap Kd.kids)
 | [],h=>absurd rfl h
 | [k],_=>by
  show max k.dp 0=1+dpL ([k].flatMap Kd.kids)
  rw [List.flatMap_cons,List.flatMap_nil,List.append_nil,ZlR];omega
 | k::k'::l,_=>by
  have ih:=Znu (k'::l) (by simp)
  show max k.dp (dpL (k'::l))=1+dpL ((k::k'::l).flatMap Kd.kids)
  rw [List.flatMap_cons,ZkO,ih,ZlR k];omega
theorem ZlY:∀ l:List Kd,l.length≤ZhF l
 | []=>Nat.le_refl _
 | k::l=>by have:=ZlY l;have:=Zic k;show l.length+1≤k.cnt+ZhF l;omega
theorem Zpp:∀ {l:List Kd} {k:Kd},k∈l→k.cnt≤ZhF l
 | k'::l,k,h=>by
  show k.cnt≤k'.cnt+ZhF l
  rcases List.mem_cons.mp h with rfl | h
  ·omega
  ·have:=Zpp h;omega
theorem ZgG:∀ {l:List Kd} {k:Kd},k∈l→k.dp≤dpL l
 | k'::l,k,h=>by
  show k.dp≤max k'.dp (dpL l)
  rcases List.mem_cons.mp h with rfl | h
  ·omega
  ·have:=ZgG h;omega
theorem Zar {k c:Kd} (h:c∈k.kids):c.dp+1≤k.dp:=by rw [ZlR k];have:=ZgG h;omega
theorem ZsT (k:Kd):k.kids.length+1≤k.cnt:=by rw [Zhk k];have:=ZlY k.kids;omega
theorem ZuU:∀ fs:Fs,fs.enc.length=fs.kinds.length
 | .nil=>rfl
 | .cons _ _ k r=>by show r.enc.length+1=r.kinds.length+1;rw [ZuU r]
theorem ZnN:∀ (n:Nat) (k:Kd),k.dp≤n→k.all.length=k.cnt:=by
 intro n
 induction n with
 | zero=>intro k h;have:=ZbX k;omega
 | succ n ih =>
  intro k h
  have key:∀ l:List Kd,(∀ c∈l,c.dp≤n)→(l.flatMap Kd.all).length=ZhF l:=by
   intro l
   induction l with
   | nil=>intro _;rfl
   | cons c l ih2 =>
    intro hl
    rw [List.flatMap_cons,List.length_append,ih c (hl c List.mem_cons_self),ih2 (fun d hd=>hl d (List.mem_cons_of_mem _ hd))];rfl
  rw [Zo6,List.length_cons,key k.kids (fun c hc=>by have:=Zar hc;omega),Zhk];omega
theorem Zor (k:Kd):k.all.length=k.cnt:=ZnN k.dp k (Nat.le_refl _)
def Kd.unk:Kd→Bool
 | .any=>true
 | .row _ o=>o
 | _=>false
def Kd.fb:Kd→Bool
 | .to _ _=>true
 | .box _=>true
 | _=>false
def Kd.known (k:Kd):Bool:=!(k.all.any Kd.unk)
def Kd.data (k:Kd):Bool:=!(k.all.any Kd.fb)
def Kd.hd:Kd→Str
 | .any=>"any"
 | .num=>"num"
 | .truth=>"truth"
 | .to _ _=>"to"
 | .box _=>"box"
 | .row _ _=>"row"
def Kd.own:Kd→List Str
 | .row _ o=>if o then ["row","open"] else ["row"]
 | k=>[k.hd]
def Zg3 (z:Str):Bool:=!ZaY z "a"&&!ZaY "z" z
def Zcw (n:Str):Bool:=decide (1≤n.length)&&decide (n.length≤8)&&n.cps.toList.all fun c=>Zg3 ⟨#[c]⟩
def Zm2:List Str→Bool
 | a::b::r=>ZaY a b&&Zm2 (b::r)
 | _=>true
mutual
def Kd.ok:Kd→Bool
 | .to a b=>a.ok&&b.ok
 | .box a=>a.ok
 | .row fs _=>Zm2 fs.names&&fs.ok
 | _=>true
def Fs.ok:Fs→Bool
 | .nil=>true
 | .cons n _ k r=>Zcw n&&k.ok&&r.ok
end
theorem ZgP:∀ {fs:Fs},fs.ok=true→∀ c∈fs.kinds,c.ok=true
 | .nil,_,c,hc=>by cases hc
 | .cons n m k r,h,c,hc=>by
  have h':(Zcw n&&k.ok&&r.ok)=true:=h
  walk_at "pe"
  rcases List.mem_cons.mp hc with rfl | hc
  ·exact h'.1.2
  ·exact ZgP h'.2 c hc
theorem Zcm {k:Kd} (h:k.ok=true):∀ c∈k.kids,c.ok=true:=by
 intro c hc
 cases k with
 | to a b =>
  have h':(a.ok&&b.ok)=true:=h
  walk_at "pe"
  have hc':c=a∨c=b:=by simpa [Kd.kids] using hc
  rcases hc' with rfl | rfl
  ·exact h'.1
  ·exact h'.2
 | box a=>have hc':c=a:=by simpa [Kd.kids] using hc
          subst hc';exact h
 | row fs o =>
  have h':(Zm2 fs.names&&fs.ok)=true:=h
  walk_at "pe"
  exact ZgP h'.2 c hc
 | _=>cases hc
open PySem PySem.Spec PyProof.Rows L2 L3
abbrev ZcY:Stmt:=top 25
abbrev Ze2:Stmt:=top 26
abbrev ZjA:Stmt:=top 24
abbrev ZhL:Stmt:=top 23
abbrev Zfl:Stmt:=top 22
abbrev Zif:Stmt:=top 21
abbrev Zd9:Stmt:=top 20
abbrev Zea:Stmt:=top 18
abbrev ZdV:Stmt:=top 17
abbrev ZjD:Stmt:=top 16
abbrev Zdf:Stmt:=top 14
abbrev ZhQ:Stmt:=top 19
abbrev Zev:Stmt:=top 9
abbrev ZhT:Stmt:=top 10
abbrev ZhO:Stmt:=top 11
abbrev Zdx:Stmt:=top 12
abbrev ZeO:Stmt:=top 15
abbrev ZdA:Stmt:=top 32
abbrev Zdn:Stmt:=top 31
abbrev Zkb:Stmt:=top 30
abbrev Zfd:Stmt:=top 29
abbrev Zl3:Stmt:=top 33
abbrev ZcF:Stmt:=top 36
abbrev ZdI:Stmt:=top 35
abbrev Zid:Stmt:=top 34
abbrev ZcX:Stmt:=top 48
abbrev Zei:Stmt:=top 47
abbrev Zcl:Stmt:=top 46
abbrev Zjj:Stmt:=top 45
abbrev Zfi:Stmt:=top 44
abbrev Zl5:Stmt:=top 42
abbrev Zef:Stmt:=top 53
abbrev Ze9:Stmt:=top 54
abbrev ZeI:Stmt:=top 55
abbrev Zh7:Stmt:=top 56
abbrev ZgK:Stmt:=top 57
abbrev ZcS:Stmt:=top 58
abbrev Zjb:Stmt:=top 13
abbrev ZcV:Stmt:=top 39
abbrev Zc4:Stmt:=top 38
abbrev Zj5:Stmt:=top 37
abbrev Zcn:Stmt:=top 51
abbrev Zcf:Stmt:=top 50
abbrev ZgJ:Stmt:=top 49
abbrev Zl4:Stmt:=top 43
abbrev ZdK:Stmt:=top 59
abbrev Zfo:Stmt:=top 60
abbrev ZgR:Stmt:=top 61
abbrev ZgU:Stmt:=top 62
abbrev ZpQ:Stmt:=top 63
def Zkc:List (Str×Int):=[("any",1),("num",1),("truth",1),("to",3),("box",2),("row",3)]
def Zg9:List (Str×List Str):=[("any",[]),("num",[]),("truth",[]),("to",["in","out"]),("box",["inside"])]
structure Adr where
 CastError:Addr
 NoKind:Addr
structure Fns (K:PySem.W.Frag) (mg:Str→Option Value):Prop where
 ZhU:Fn K mg ZcY "is_small_letter" ["sign"]
 Zno:Fn K mg Ze2 "names_rise" ["names"]
 ZqP:Fn K mg ZjA "is_name" ["thing"]
 ZpP:Fn K mg ZhL "is_field" ["thing"]
 Zmo:Fn K mg Zfl "are_fields" ["thing"]
 ZpL:Fn K mg Zif "has_form" ["thing"]
 ZkB:Fn K mg Zd9 "kinds_within" ["kind"]
 Zkl:Fn K mg Zea "layer_within" ["layer","things_within"]
 Zm3:Fn K mg ZdV "is_made_of" ["thing","is_formed","things_within","most","deepest"]
 Zry:Fn K mg ZjD "is_kind" ["thing"]
 Zni:Fn K mg Zdf "check_kind" ["thing"]
 ZkF:Fn K mg ZhQ "kinds_in" ["kind"]
 ZpF:Fn K mg Zev "parts_in" ["kind"]
 ZpT:Fn K mg ZhT "entry_of" ["row","name"]
 ZpM:Fn K mg ZhO "names_of" ["row"]
 ZjS:Fn K mg Zdx "names_of_both" ["one","other"]
 ZlN:Fn K mg ZeO "check_kinds" ["one","other"]
 Zj1:Fn K mg ZdA "is_less_entry" ["one","other"]
 Zmi:Fn K mg Zdn "is_less_row" ["one","other"]
 Znz:Fn K mg Zkb "is_less" ["one","other"]
 ZmD:Fn K mg Zfd "knows_less" ["one","other"]
 ZtJ:Fn K mg Zl3 "behind" ["step","path"]
 Zht:Fn K mg ZcF "clash_of_entries" ["one","other"]
 Zjl:Fn K mg ZdI "clash_of_rows" ["one","other"]
 Zlh:Fn K mg Zid "clash_of" ["one","other"]
 ZhX:Fn K mg ZcX "lack_of_entries" ["one","other"]
 Zkn:Fn K mg Zei "lack_of_rows" ["one","other"]
 ZgW:Fn K mg Zcl "lack_of_functions" ["one","other"]
 Zml:Fn K mg Zjj "lack_of" ["one","other"]
 ZmW:Fn K mg Zfi "does_serve" ["one","other"]
 ZsS:Fn K mg Zl5 "serves" ["one","other"]
 Zkf:Fn K mg Zef "_law_cell_at" ["script","k"]
 ZmY:Fn K mg Ze9 "_law_state" ["script","k"]
 Zlu:Fn K mg ZeI "_law_choice" ["state","many"]
 Zlj:Fn K mg Zh7 "_law_row" ["state","deep","plain","known"]
 Zg0:Fn K mg ZgK "_law_kind" ["state","deep","plain","known"]
 ZhJ:Fn K mg ZcS "_law_drawn_kind" ["script","k","plain","known"]
 Zti:Fn K mg Zjb "row_of" ["names","entries","is_open"]
 Zh5:Fn K mg ZcV "join_of_entries" ["one","other"]
 Zkx:Fn K mg Zc4 "join_of_rows" ["one","other"]
 ZmU:Fn K mg Zj5 "join_of" ["one","other"]
 ZgM:Fn K mg Zcn "either_of_entries" ["one","other"]
 ZiM:Fn K mg Zcf "either_of_rows" ["one","other"]
 Zj3:Fn K mg ZgJ "either_of" ["one","other"]
 Zs6:Fn K mg Zl4 "either" ["one","other"]
 ZjO:Fn K mg ZdK "_law_less" ["state","kind"]
 Zio:Fn K mg Zfo "_law_other" ["state","kind"]
 Zn6:Fn K mg ZgR "_law_pair" ["script","k","plain"]
 ZnX:Fn K mg ZgU "_law_fits" ["kind"]
 ZAL:Fn K mg ZpQ "law" ["script"]
structure Bls (mg:Str→Option Value):Prop where
 ZfR:mg "all"=none
 Zf1:mg "bool"=none
 Zez:mg "int"=none
 Zaf:mg "isinstance"=none
 Zj7:mg "len"=none
 Zct:mg "list"=none
 Zkj:mg "set"=none
 Za1:mg "sorted"=none
 Zki:mg "str"=none
 Zbc:mg "tuple"=none
 ZrU:mg "zip"=none
structure Tx (K:PySem.W.Frag) (mg:Str→Option Value) (base:Heap) (a:Adr):Prop extends Fns K mg,Bls mg where
 Zob:mg "CastError"=some (.ref a.CastError)
 Zma:mg "NoKind"=some (.ref a.NoKind)
 ZfI:PySem.W.excIn K a.NoKind [.type "ValueError",.type "Exception",.type "BaseException",.type "object"] "ValueError.__new__"=true
 ZfB:PySem.W.typeIn K (.ref a.NoKind)=some (.type "type")
 ZfA:(PySem.W.clsIn K a.NoKind).isSome=true
 ZfL:PySem.W.subIn K (.ref a.NoKind) (.type "BaseException")=some true
 Zcq:Glb K mg "MARKS" (.tup [(.str "must"),(.str "may")])
 ZaJ:Glb K mg "MOST_DEPTH" (.int 8)
 ZaI:Glb K mg "MOST_KINDS" (.int 40)
 Zaz:Glb K mg "MOST_LETTERS" (.int 8)
 ZbZ:Glb K mg "SERVING" (.tup [(.tup [(.str "none"),(.str "none")]),(.tup [(.str "none"),(.str "may")]),(.tup [(.str "must"),(.str "must")]),(.tup [(.str "must"),(.str "may")]),(.tup [(.str "may"),(.str "may")])])
 ZbW:ZAo mg base "LENGTHS" Zkc
 ZrP:ZAe K mg base "STEPS" Zg9
 Zdw:PySem.W.subIn K (.ref a.NoKind) (.ref a.NoKind)=some true
def Dn (P:Program) (w:World) (K:PySem.W.Frag) (mg:Str→Option Value) (base:Heap) (N:List Str) (x:Str) (st:Stmt) (k:Nat) (g:GS):Prop:=∀ {f:Addr} {cdv:Value} {A:Around} {outer:List Env} {s:Shared} {H:Hp} {E:XK},Room k (A.deeper (envOfC x (Zag st) s.heap.objs.size f cdv))→Ssm (cxW P w K mg base N x (Zag st) f cdv A outer s H E).nox (fun B=>B=H) (Zcr st) g
theorem mk0 {P:Program} {w:World} {K:PySem.W.Frag} {mg:Str→Option Value} {base:Heap} {x:Str} {st:Stmt} {N ps:List Str} {k n:Nat} {sp:Spw} {g:GS} (Fx:Fn K mg st x ps) (hn:ps.length=n) (S:Zau N ps (Zag st)) (spm:sp.M) (len:∀ ws G Q E,sp ws G Q E→ws.length=n) (hg:Dn P w K mg base N x st k g) (ok:∀ ws G (Q:Kw) (E:Addr→Hw→Prop),Kw.C Q→sp ws G Q E→g (ZaE Q) (Zbw N ws) G):Df P w K mg base x (k+1) n sp:=L3.mk0 Fx hn S spm len hg ok
set_option hygiene false in
local macro_rules | `(tactic| walk_at "s") => `(tactic| exact ⟨rfl, rfl, rfl, by decide +kernel, rfl, by decide +kernel, by decide +kernel⟩)
set_option hygiene false in
local macro_rules | `(tactic| walk_at "c") => `(tactic| first | exact Zgf hu | exact Zgl hu | exact ZfY | exact cop_nin | exact Zgu | exact Zgv | exact Zf7 | exact Zge | exact ZfX | exact Zd5 | exact Zd1 hu | exact cop_nInT hu | exact Zde hu | exact cop_isB | exact cop_inN hu)
set_option hygiene false in
local macro_rules | `(tactic| walk_at "b") => `(tactic| first | refine ZbN Zdl (Zcb rfl) rfl T.ZfR (by decide) rfl rfl rfl ?_ | refine Zcc Zcx (Zd7) rfl T.Zez (by decide) rfl rfl rfl ?_ | refine ZbN Zfm (ZdG) rfl T.Zj7 (by decide) rfl rfl rfl ?_ | refine Zcc Zbq (Zda) rfl T.Zct (by decide) rfl rfl rfl ?_ | refine ZbN bt_sorted (blt_sorted) rfl T.Za1 (by decide) rfl rfl rfl ?_ | refine Zcc ZaR (Zby) rfl T.Zbc (by decide) rfl rfl rfl ?_ | refine Zaw (T := "tuple") (by decide) ZaR T.Zbc T.Zaf rfl rfl (by decide) rfl rfl rfl ?_ | refine Zaw (T := "list") (by decide) Zbq T.Zct T.Zaf rfl rfl (by decide) rfl rfl rfl ?_ | refine Zaw (T := "str") (by decide) Zgc T.Zki T.Zaf rfl rfl (by decide) rfl rfl rfl ?_ | refine Zaw (T := "int") (by decide) Zcx T.Zez T.Zaf rfl rfl (by decide) rfl rfl rfl ?_ | refine Zaw (T := "bool") (by decide) Zec T.Zf1 T.Zaf rfl rfl (by decide) rfl rfl rfl ?_ | refine Zc2 rfl T.Za1 T.Zkj rfl rfl rfl rfl rfl ?_ ?_ | refine Zcd T.ZbW rfl rfl rfl rfl rfl rfl rfl ?_ | refine Zbb ZbM rfl rfl rfl rfl rfl ?_ ?_ | refine Zbb Zbr rfl rfl rfl rfl rfl ?_ ?_ | refine Zbb mth_get rfl rfl rfl rfl rfl ?_ ?_ | exact Zav T.Zcq rfl rfl | exact Zav T.ZaJ rfl rfl | exact Zav T.ZaI rfl rfl | exact Zav T.Zaz rfl rfl | exact Zav T.ZbZ rfl rfl)
set_option hygiene false in
local macro_rules | `(tactic| walk_at "v") => `(tactic| (first | (show Am _ _ _; first | exact Zb9 | refine ZaU rfl ?_ ?_) | (show Em _ _ _; first | exact Zsp rfl rfl rfl rfl | exact Zf2 | exact Zfb | refine Zkk (fun _ _ => rfl) ?_ ?_ | refine Zca (by assumption) (hr.mono (by assumption)) rfl ZhA rfl rfl rfl ?_ | refine Zfn ?_ | refine ZgB ?_ | exact Zkq | refine ZgC (by walk_at "c") rfl ?_ ?_ | refine ZdD ?_ ?_ | refine Zf6 ?_ ?_ | refine Zf8 ?_ ?_ | refine Zf9 ?_ ?_ | refine em_mulA ?_ ?_ | refine Zed ?_ ?_ | refine Zgs ?_ ?_ | walk_at "b" | exact Zgz | refine Zga ?_ ?_ ?_ | refine Zfg ?_ ?_ | refine Zkt ?_ ?_ | refine Ze1 ?_ | refine Zf5 ?_ | refine Zgr ?_ ?_ | refine Zgm ?_ ?_ ?_ | refine Zkv ?_ ?_ ?_ | refine Zdd (by walk_at "c") (by walk_at "c") rfl ?_ ?_ ?_) | (show Tm _ _ _; first | refine Zgj (by walk_at "c") rfl ?_ ?_ | refine ZeZ ?_ | refine Zd0 ?_ | refine ZeV (fun _ => rfl) ?_ | refine Zc0 (by walk_at "c") (by walk_at "c") rfl ?_ ?_ ?_) | (show Ssm _ _ _ _; first | refine Zaq ?_ ?_ | exact ZcM | refine Za4 ?_) | (show Sm _ _ _ _; first | refine Zce ?_ | refine Zr8 hN rfl rfl rfl ?_ | refine Zhv ?_ ?_ ?_ | refine ZcW rfl ?_ | refine ZeS PassesOwn.never rfl (fun _ => rfl) ?_ ?_ ?_ | refine ZcD PassesOwn.never ?_ ?_ | refine Zsr hN rfl rfl ?_ | refine Zc5 (fun _ => rfl) rfl rfl rfl ?_ ?_ ?_ | refine Zgt rfl rfl rfl ?_ ?_ | refine sm_sc hN rfl rfl rfl rfl ?_ | exact sm_pass | exact sm_never) | (show Wm _ _ _; first | refine Zgy ?_ ?_ | refine Zkr ?_ ?_ | refine Zd3 ?_ | refine Zgg ?_) | (show Im _ _ _ _; first | refine ZfW ?_ | refine Zf0 (fun _ _ => rfl) ?_ | refine im_range T.n_range rfl rfl ?_) | (show Om _ _ _; first | exact Zee | refine Zd4 ?_) | (show Fm _ _ _; first | exact Zb0 | refine Zgh ?_) | exact Zbu hN rfl (.inl rfl) (.inr rfl) | exact Zc1 rfl hN rfl (.inl rfl) (.inr rfl) rfl (.inl rfl) (.inr rfl) rfl (.inl rfl) (.inr rfl) | exact ZfU rfl hN rfl (.inl rfl) (.inr rfl) rfl (.inl rfl) (.inr rfl) | exact Zbu hN rfl (.inr rfl) (.inl rfl)) <;> walk_at "v")
set_option hygiene false in
local macro_rules | `(tactic| walk_at "z") => `(tactic| (intro f cdv A outer s H E hr; have hu := Zg2 hr; walk_at "v"))
variable {P:Program} {w:World} {K:PySem.W.Frag} {mg:Str→Option Value} {base:Heap} {a:Adr}
abbrev ZeH:List Str:=["sign"]
theorem Zew:Zau ZeH ["sign"] (Zag ZcY):=by walk_at "s"
def Zek:GS:=(Zay (ZbS (Zfy (fun i j=>decide (i≤j)) (fun a b=>!ZaY b a)) (Zfy (fun i j=>decide (i≤j)) (fun a b=>!ZaY b a)) (gC (.str "a")) (Zab 0) (gC (.str "z"))))
theorem ZhW {k:Nat} (T:Tx K mg base a):Dn P w K mg base ZeH "is_small_letter" ZcY k (Zek):=by
 have hN:=Zew.nd
 walk_at "z"
abbrev Ziy:List Str:=["names"]
theorem Zik:Zau Ziy ["names"] (Zag Ze2):=by walk_at "s"
def Zih:GS:=(Zay (gB (rF ZhH) (Zaa (Zcy (Zku (Zaa (Zab 0) (Zaa (gSl (Zab 0) (Zco (gC (.int 1))) ZaO) Zaj))) 2 (ZjU 0 1) Zhg (Zai (Zfy (fun i j=>decide (i < j)) ZaY) (Zab 0) (Zab 1))) Zaj)))
theorem ZmT {k:Nat} (T:Tx K mg base a):Dn P w K mg base Ziy "names_rise" Ze2 k (Zih):=fun {f cdv A outer s H E} hr =>
 have hu:=Zg2 hr
 have hN:=Zik.nd
 (Za4 (Zce (ZbN Zdl (Zcb rfl) rfl T.ZfR (by decide) rfl rfl rfl (ZaU rfl (Zfr (Nc:=["one","other"]) rfl (ZuA rfl (by decide +kernel) (by decide +kernel)) (fun _=>rfl) (ZuD T.ZrU rfl rfl rfl (by walk_at "v")) (ZnY (i:=0) (j:=1) rfl (by decide) rfl rfl rfl rfl) (fun C fp s1 H1=>Zb0) (fun C fp s1 H1=>(by walk_at "v"))) Zb9))))
abbrev Zmk:List Str:=["thing"]
theorem Zm0:Zau Zmk ["thing"] (Zag ZjA):=by walk_at "s"
def Zmt (ZbQ:Spw):GS:=(Zat (gIf (gOr (gNt (Zdi (Zdr "str" (Zab 0)))) (gNt (gTB (ZbS (Zfy (fun i j=>decide (i≤j)) (fun a b=>!ZaY b a)) (Zfy (fun i j=>decide (i≤j)) (fun a b=>!ZaY b a)) (gC (.int 1)) (gB (rF Zhd) (Zaa (Zab 0) Zaj)) (gC (.int 8)))))) (Zay (gC (.bl false))) Zam) (Zay (gB (rF ZhH) (Zaa (Zcy (Zbl (Zab 0)) 1 (gNm 0) Zhg (Zae ZbQ XF (Zaa (Zab 0) Zaj))) Zaj))))
theorem Zsa {k:Nat} (T:Tx K mg base a) {Zb4:Nat} {ZbQ:Spw} (ZpU:Df P w K mg base "is_small_letter" Zb4 1 ZbQ) (ZpD:Zb4≤k):Dn P w K mg base Zmk "is_name" ZjA k (Zmt ZbQ):=fun {f cdv A outer s H E} hr =>
 have hu:=Zg2 hr
 have hN:=Zm0.nd
 (Zaq (by walk_at "v") (Za4 (Zce (ZbN Zdl (Zcb rfl) rfl T.ZfR (by decide) rfl rfl rfl (ZaU rfl (Zfr (Nc:=["sign"]) rfl (ZuA rfl (by decide +kernel) (by decide +kernel)) (fun _=>rfl) (by walk_at "v") (Zhr (i:=0) (by decide) rfl rfl) (fun C fp s1 H1=>Zb0) (fun C fp s1 H1=>(by walk_at "v"))) Zb9)))))
abbrev Zld:List Str:=["thing"]
theorem Zk7:Zau Zld ["thing"] (Zag ZhL):=by walk_at "s"
def ZkW (ZfF:Spw):GS:=(Zat (gIf (gOr (gNt (Zdi (Zdr "tuple" (Zab 0)))) (gTB (Zai (Zak (eqF true)) (gB (rF Zhd) (Zaa (Zab 0) Zaj)) (gC (.int 3))))) (Zay (gC (.bl false))) Zam) (Zay (Zdj (Zae ZfF XF (Zaa (Zai (Zak ixW) (Zab 0) (gC (.int 0))) Zaj)) (Zai (Zak (inF false)) (Zai (Zak ixW) (Zab 0) (gC (.int 1))) (gC (.tup [(.str "must"),(.str "may")]))))))
theorem Zqb {k:Nat} (T:Tx K mg base a) {Zhu:Nat} {ZfF:Spw} (Zzl:Df P w K mg base "is_name" Zhu 1 ZfF) (Zzk:Zhu≤k):Dn P w K mg base Zld "is_field" ZhL k (ZkW ZfF):=by
 have hN:=Zk7.nd
 walk_at "z"
abbrev Zij:List Str:=["thing"]
theorem Zit:Zau Zij ["thing"] (Zag Zfl):=by walk_at "s"
def Ziu (ZeP:Spw) (Zdq:Spw):GS:=(Zat (gIf (gNt (Zdi (Zdr "tuple" (Zab 0)))) (Zay (gC (.bl false))) Zam) (Zay (Zdj (gB (rF ZhH) (Zaa (Zcy (Zbl (Zab 0)) 1 (gNm 0) Zhg (Zae ZeP XF (Zaa (Zab 0) Zaj))) Zaj)) (Zae Zdq XF (Zaa (Zcy (Zbl (Zab 0)) 1 (gNm 0) Zhg (Zai (Zak ixW) (Zab 0) (gC (.int 0)))) Zaj)))))
theorem Znp {k:Nat} (T:Tx K mg base a) {ZfC:Nat} {ZeP:Spw} (Zw2:Df P w K mg base "is_field" ZfC 1 ZeP) (Zw7:ZfC≤k) {ZdZ:Nat} {Zdq:Spw} (Zm9:Df P w K mg base "names_rise" ZdZ 1 Zdq) (Zmv:ZdZ≤k):Dn P w K mg base Zij "are_fields" Zfl k (Ziu ZeP Zdq):=fun {f cdv A outer s H E} hr =>
 have hu:=Zg2 hr
 have hN:=Zit.nd
 (Zaq (by walk_at "v") (Za4 (Zce (Zfg (ZbN Zdl (Zcb rfl) rfl T.ZfR (by decide) rfl rfl rfl (ZaU rfl (Zfr (Nc:=["part"]) rfl (ZuA rfl (by decide +kernel) (by decide +kernel)) (fun _=>rfl) (by walk_at "v") (Zhr (i:=0) (by decide) rfl rfl) (fun C fp s1 H1=>Zb0) (fun C fp s1 H1=>(by walk_at "v"))) Zb9)) (Ze1 (Zca Zm9 (hr.mono Zmv) rfl ZhA rfl rfl rfl (ZaU rfl (Zfr (Nc:=["part"]) rfl (ZuA rfl (by decide +kernel) (by decide +kernel)) (fun _=>rfl) (by walk_at "v") (Zhr (i:=0) (by decide) rfl rfl) (fun C fp s1 H1=>Zb0) (fun C fp s1 H1=>(by walk_at "v"))) Zb9)))))))
local macro_rules | `(tactic| walk_at "rd") => `(tactic| ((try dsimp only [Zat,gIf,Zay,Za9,Zbs,Zam,Zab,gC,Zai,gTB,Zdi,gNt,ZeU,gOr,Zdj,ZiJ,Zdo,ZhG,L3.ZaQ,Zdb,L3.Zaa,L3.Zaj,Zae,gB,rF,Zak,Zdr,gMt,ZkA,ZbS,Zfy,Zhe,ZcR,L3.ZgF,Zeb,gSl,Zco,ZaO,Zcy,Zbl,Zku,ZaE,Zbw,List.map_cons,List.map_nil,List.length_cons,List.length_nil,List.cons_append,List.nil_append,List.getElem?_cons_zero,List.getElem?_cons_succ,List.set_cons_zero,List.set_cons_succ,List.replicate,Ze0,tyN,Zac,ZcZ,ZbV,Zcz,ixW,eqF,eqW,Zhd,Zkp,ZhH,List.getElem?_nil]); (try simp only [Zat,gIf,Zay,Za9,Zbs,Zam,Zab,gC,Zai,gTB,Zdi,gNt,ZeU,gOr,Zdj,ZiJ,Zdo,ZhG,L3.ZaQ,Zdb,L3.Zaa,L3.Zaj,Zae,gB,rF,Zak,Zdr,gMt,ZkA,ZbS,Zfy,Zhe,ZcR,L3.ZgF,Zeb,gSl,Zco,ZaO,Zcy,Zbl,Zku,ZaE,Zbw,List.map_cons,List.map_nil,List.length_cons,List.length_nil,List.cons_append,List.nil_append,List.getElem?_cons_zero,List.getElem?_cons_succ,List.set_cons_zero,List.set_cons_succ,List.replicate,Ze0,tyN,Zac,ZcZ,ZbV,Zcz,ixW,eqF,eqW,Zhd,Zkp,ZhH,List.getElem?_nil])))
abbrev Ztr:Spw:=spR (fun (z:Str) ws _=>ws=[.str z]) fun z=>.bl (Zg3 z)
theorem Zb4 (T:Tx K mg base a):Df P w K mg base "is_small_letter" 1 1 Ztr:=by
 refine mk0 T.ZhU rfl Zew ZbK ((by rintro ws G Q E ⟨z,e,_⟩;rw [e];rfl)) (ZhW T) fun ws G Q E hC q=>?_
 obtain ⟨z,rfl,q⟩:=q
 unfold Zek
 walk_at "rd"
 dsimp only at q
 unfold Zg3 at q
 refine ZAv (fun h=>?_) (fun h=>?_)
 ·rw [h] at q;simpa using q
 ·rw [Bool.eq_false_iff.mpr h] at q;simpa using q
theorem Zpf:∀ ns:List Str,Zm2 ns=((ns.zip (ns.drop 1)).map fun x=>ZaY x.1 x.2).all id
 | []=>rfl
 | [_]=>rfl
 | a::b::r=>by
  show (ZaY a b&&Zm2 (b::r))=_
  rw [Zpf (b::r)];rfl
abbrev ZxU:Spw:=spR (fun (ns:List Str) ws G=>∃ p,ws=[.ref p]∧G p=some (.lst (ns.map W.str))∧ns.length≤1000) fun ns=>.bl (Zm2 ns)
def ltW (x y:W):W:=match x,y with | .str a,.str b=>.bl (ZaY a b) | _,_=>.non
theorem ZdZ (T:Tx K mg base a):Df P w K mg base "names_rise" 1 1 ZxU:=by
 refine mk0 T.Zno rfl Zik ZbK ((by rintro ws G Q E ⟨ns,⟨p,e,_⟩,_⟩;rw [e];rfl)) (ZmT T) fun ws G Q E hC q=>?_
 obtain ⟨ns,⟨p,rfl,hp,hl⟩,q⟩:=q
 unfold Zih
 walk_at "rd"
 refine Zy8 hp fun p1 h1=>?_
 have hne:=ZaP hp h1
 have e1:rdL (put G p1 (.lst (Zoz (ns.map W.str) (some 1) none))) (.ref p)=some (ns.map W.str):=Ziq (by rw [Zao hne];exact hp)
 have e2:rdL (put G p1 (.lst (Zoz (ns.map W.str) (some 1) none))) (.ref p1)=some (Zoz (ns.map W.str) (some 1) none):=Ziq Zad
 simp only [e1,e2]
 rw [Zmc,← List.map_drop,Zha,List.zip_map,List.map_map]
 have e3:((fun x:W×W=>W.tup [x.1,x.2])∘Prod.map W.str W.str)=(fun x:W×W=>W.tup [x.1,x.2])∘fun x:Str×Str=>(W.str x.1,W.str x.2):=rfl
 rw [e3,← List.map_map]
 refine ZyA (f:=ltW) ⟨by rw [Zmc,← List.map_drop] at e1;exact e1,by rw [Zmc,← List.map_drop] at e2;exact e2⟩ _ none none [] (fun x hx Q' q'=>?_) ?_ ?_
 ·obtain ⟨y,hy,rfl⟩:=List.mem_map.mp hx
  exact q'
 ·rw [List.length_map,List.length_zip]
  exact Zbh (by simp only [List.length_nil];omega)
 ·intro p2 h2
  rw [List.map_map]
  have e4:((fun x:W×W=>ltW x.1 x.2)∘fun x:Str×Str=>(W.str x.1,W.str x.2))=W.bl∘fun x:Str×Str=>ZaY x.1 x.2:=rfl
  rw [e4,← List.map_map,List.nil_append]
  walk_at "pA"
  rw [← Zpf]
  exact hC _ _ _ (ZcK (Za0 h1) h2) q
abbrev Zyo:Spw:=spR (fun (z:Str) ws _=>ws=[.str z]∧z.length≤100000) fun z=>.bl (Zcw z)
def ZA6 (x:W):W:=match x with | .str z=>.bl (Zg3 z) | _=>.non
theorem Zhu (T:Tx K mg base a):Df P w K mg base "is_name" 2 1 Zyo:=by
 refine mk0 T.ZqP rfl Zm0 ZbK ((by rintro ws G Q E ⟨z,⟨e,_⟩,_⟩;rw [e];rfl)) (Zsa T (Zb4 T) (Nat.le_refl _)) fun ws G Q E hC q=>?_
 obtain ⟨z,⟨rfl,hz⟩,q⟩:=q
 unfold Zmt
 walk_at "rd"
 have hz':z.length≤sizeLine:=Zbh hz
 have b1:Zsq "str" "str"=true:=by decide
 simp only [b1,hz',if_true,Zac,Bool.not_true,Bool.false_eq_true,if_false]
 unfold Zcw at q
 by_cases h1:1≤z.length
 ·by_cases h8:z.length≤8
  ·have d1:(1:Int)≤(z.length:Int):=by omega
   have d8:(z.length:Int)≤8:=by omega
   simp only [d1,d8,decide_true,if_true,Bool.not_true,Bool.false_eq_true,if_false]
   refine ZpH (f:=ZA6) trivial (Zj8 z) none [] (fun x hx Q' q'=>?_) ?_ ?_
   ·obtain ⟨c,hc,rfl⟩:=List.mem_map.mp hx
    exact ⟨_,rfl,q'⟩
   ·rw [Zj8,List.length_map]
    exact Zbh (by show 0+z.cps.toList.length≤100000;rw [Nat.zero_add];simpa [Str.length] using hz)
   ·intro p hp
    have e5:(Zj8 z).map ZA6=(z.cps.toList.map fun c=>Zg3 ⟨#[c]⟩).map W.bl:=by
     unfold Zj8;rw [List.map_map,List.map_map];rfl
    rw [List.nil_append,e5]
    walk_at "pA"
    rw [List.all_map]
    simp only [h1,h8,decide_true,Bool.true_and] at q
    exact hC _ _ _ (Za0 hp) q
  ·have d1:(1:Int)≤(z.length:Int):=by omega
   have d8:¬ (z.length:Int)≤8:=by omega
   simp only [h1,h8,decide_true,decide_false,Bool.true_and,Bool.false_and] at q
   simp only [d1,d8,decide_true,decide_false,if_true,Bool.not_false,Bool.false_eq_true,if_false]
   exact q
 ·have d1:¬ (1:Int)≤(z.length:Int):=by omega
  simp only [h1,decide_false,Bool.false_and] at q
  simp only [d1,decide_false,if_true,Bool.not_false,Bool.false_eq_true,if_false]
  exact q
abbrev Zlg:List Str:=["thing"]
theorem Zk5:Zau Zlg ["thing"] (Zag Zif):=by walk_at "s"
def ZkR (Zdp:Spw):GS:=(Zat (gIf (gOr (gNt (Zdi (Zdr "tuple" (Zab 0)))) (gOr (gTB (Zai (Zak (eqF false)) (gB (rF Zhd) (Zaa (Zab 0) Zaj)) (gC (.int 0)))) (gNt (Zdi (Zdr "str" (Zai (Zak ixW) (Zab 0) (gC (.int 0)))))))) (Zay (gC (.bl false))) Zam) (Zat (gIf (gTB (Zai (Zak (eqF true)) (gB (rF Zhd) (Zaa (Zab 0) Zaj)) (Zh1 Zkc (Zai (Zak ixW) (Zab 0) (gC (.int 0)))))) (Zay (gC (.bl false))) Zam) (Zay (ZiJ (Zai (Zak (eqF true)) (Zai (Zak ixW) (Zab 0) (gC (.int 0))) (gC (.str "row"))) (Zdj (Zae Zdp XF (Zaa (Zai (Zak ixW) (Zab 0) (gC (.int 1))) Zaj)) (Zdr "bool" (Zai (Zak ixW) (Zab 0) (gC (.int 2)))))))))
theorem ZpJ {k:Nat} (T:Tx K mg base a) {ZdP:Nat} {Zdp:Spw} (ZuQ:Df P w K mg base "are_fields" ZdP 1 Zdp) (ZuO:ZdP≤k):Dn P w K mg base Zlg "has_form" Zif k (ZkR Zdp):=by
 have hN:=Zk5.nd
 walk_at "z"
abbrev Zgo:List Str:=["kind"]
theorem Zgb:Zau Zgo ["kind"] (Zag Zd9):=by walk_at "s"
def Zgn:GS:=(Zat (gIf (gTB (Zai (Zak (eqF false)) (Zai (Zak ixW) (Zab 0) (gC (.int 0))) (gC (.str "row")))) (Zay (Zcy (Zbl (Zai (Zak ixW) (Zab 0) (gC (.int 1)))) 1 (gNm 0) Zhg (Zai (Zak ixW) (Zab 0) (gC (.int 2))))) Zam) (Zay (gB (ZpZ) (Zaa (gSl (Zab 0) (Zco (gC (.int 1))) ZaO) Zaj))))
theorem Zkg {k:Nat} (T:Tx K mg base a):Dn P w K mg base Zgo "kinds_within" Zd9 k (Zgn):=fun {f cdv A outer s H E} hr =>
 have hu:=Zg2 hr
 have hN:=Zgb.nd
 (Zaq (Zhv (by walk_at "v") (Za4 (Zce (Zfr (Nc:=["field"]) rfl (ZuA rfl (by decide +kernel) (by decide +kernel)) (fun _=>rfl) (by walk_at "v") (Zhr (i:=0) (by decide) rfl rfl) (fun C fp s1 H1=>Zb0) (fun C fp s1 H1=>(by walk_at "v"))))) ZcM) (by walk_at "v"))
abbrev ZfT:List Str:=["layer","things_within","found","thing"]
theorem ZfS:Zau ZfT ["layer","things_within"] (Zag Zea):=by walk_at "s"
def Zgd (mg:Str→Option Value) (ZaB:Spw):GS:=(Zat (Za9 2 (Zdb Zaj)) (Zat (ZfH (Zbl (Zab 0)) (gNm 3) (Zbs (gMt ZhP ZsF (Zab 2) (Zaa (ZiA 1 (fAt mg "kinds_within") ZaB XF (Zaa (Zab 3) Zaj)) Zaj)))) (Zay (Zab 2))))
theorem Zkm {k:Nat} (T:Tx K mg base a) {ZaK:Nat} {ZaB:Spw} (Zc3:Df P w K mg base "kinds_within" ZaK 1 ZaB) (Zd8:ZaK≤k):Dn P w K mg base ZfT "layer_within" Zea k (Zgd mg ZaB):=fun {f cdv A outer s H E} hr =>
 have hu:=Zg2 hr
 have hN:=ZfS.nd
 (Zaq (by walk_at "v") (Zaq (ZeS PassesOwn.never rfl (fun _=>rfl) (by walk_at "v") (by walk_at "v") (Za4 (ZcW rfl (Zbb Zbr rfl rfl rfl rfl rfl (by walk_at "v") (ZaU rfl (Zps (i:=1) Zc3 (hr.mono Zd8) rfl rfl ZhA rfl rfl rfl rfl (by walk_at "v")) Zb9))))) (by walk_at "v")))
abbrev Zir:List Str:=["thing","is_formed","things_within","most","deepest","layer","count","depth"]
theorem Zim:Zau Zir ["thing","is_formed","things_within","most","deepest"] (Zag ZdV):=by walk_at "s"
def Ziz (mg:Str→Option Value) (Zb3:Spw) (ZcG:Spw):GS:=(Zat (Za9 5 (Zdb (Zaa (Zab 0) Zaj))) (Zat (Za9 6 (gC (.int 0))) (Zat (Za9 7 (gC (.int 0))) (Zat (ZoO (gTB (Zai (Zhe fun i j=>decide (j < i)) (gB (rF Zhd) (Zaa (Zab 5) Zaj)) (gC (.int 0)))) (Zat (ZkA 6 Zeb (gB (rF Zhd) (Zaa (Zab 5) Zaj))) (Zat (ZkA 7 Zeb (gC (.int 1))) (Zat (gIf (gOr (gTB (Zai (Zhe fun i j=>decide (j < i)) (Zab 6) (Zab 3))) (gTB (Zai (Zhe fun i j=>decide (j < i)) (Zab 7) (Zab 4)))) (Zay (gC (.bl false))) Zam) (Zat (gIf (gNt (Zdi (gB (rF ZhH) (Zaa (Zbj (Zbl (Zab 5)) 1 [1] (gNm 0) Zhg (ZiA 1 (fAt mg "has_form") Zb3 XF (Zaa (Zab 0) Zaj))) Zaj)))) (Zay (gC (.bl false))) Zam) (Za9 5 (Zae ZcG XF (Zaa (Zab 5) (Zaa (Zab 2) Zaj))))))))) (Zay (gC (.bl true)))))))
theorem ZmM {k:Nat} (T:Tx K mg base a) {Zcs:Nat} {Zb3:Spw} (Zh3:Df P w K mg base "has_form" Zcs 1 Zb3) (Zlb:Zcs≤k) {Zdc:Nat} {ZcG:Spw} (Zsu:Df P w K mg base "layer_within" Zdc 2 ZcG) (Zsw:Zdc≤k):Dn P w K mg base Zir "is_made_of" ZdV k (Ziz mg Zb3 ZcG):=fun {f cdv A outer s H E} hr =>
 have hu:=Zg2 hr
 have hN:=Zim.nd
 (Zaq (by walk_at "v") (Zaq (by walk_at "v") (Zaq (by walk_at "v") (Zaq (ZcD PassesOwn.never (by walk_at "v") (Zaq (by walk_at "v") (Zaq (by walk_at "v") (Zaq (by walk_at "v") (Zaq (Zhv (ZeZ (ZeV (fun _=>rfl) (ZbN Zdl (Zcb rfl) rfl T.ZfR (by decide) rfl rfl rfl (ZaU rfl (Zi7 rfl (Zvc (own:=["part"]) (fr:=["is_formed"]) (js:=[1]) (scX:=Zag ZdV) (n:=s.heap.objs.size+1) rfl (by decide +kernel) (by decide +kernel) (by decide +kernel) (by decide +kernel) rfl rfl rfl (by decide +kernel) rfl) (fun _=>rfl) (by walk_at "v") (Zhf (i:=0) (by decide) rfl rfl) (fun C fp s1 H1=>Zb0) (fun C fp s1 H1=>(Zps (i:=1) Zh3 (hr.mono Zlb) rfl rfl ZhA rfl rfl rfl rfl (by walk_at "v")))) Zb9)))) (by walk_at "v") ZcM) (by walk_at "v")))))) (by walk_at "v")))))
abbrev ZmA:List Str:=["thing"]
theorem Zmz:Zau ZmA ["thing"] (Zag ZjD):=by walk_at "s"
def Znn (mg:Str→Option Value) (Zb3:Spw) (ZaB:Spw) (Zdu:Spw):GS:=(Zay (Zae Zdu XF (Zaa (Zab 0) (Zaa (gC (.ref (fAt mg "has_form"))) (Zaa (gC (.ref (fAt mg "kinds_within"))) (Zaa (gC (.int 40)) (Zaa (gC (.int 8)) Zaj)))))))
theorem ZrL {k:Nat} (T:Tx K mg base a) {Zcs:Nat} {Zb3:Spw} (Zh3:Df P w K mg base "has_form" Zcs 1 Zb3) (Zlb:Zcs≤k) {ZaK:Nat} {ZaB:Spw} (Zc3:Df P w K mg base "kinds_within" ZaK 1 ZaB) (Zd8:ZaK≤k) {ZdY:Nat} {Zdu:Spw} (Zmx:Df P w K mg base "is_made_of" ZdY 5 Zdu) (ZmL:ZdY≤k):Dn P w K mg base ZmA "is_kind" ZjD k (Znn mg Zb3 ZaB Zdu):=fun {f cdv A outer s H E} hr =>
 have hu:=Zg2 hr
 have hN:=Zmz.nd
 (Za4 (Zce (Zca Zmx (hr.mono ZmL) rfl ZhA rfl rfl rfl (ZaU rfl (by walk_at "v") (ZaU rfl (ZyD Zh3 rfl rfl) (ZaU rfl (ZyD Zc3 rfl rfl) (by walk_at "v")))))))
abbrev ZiK:List Str:=["thing"]
theorem ZiF:Zau ZiK ["thing"] (Zag Zdf):=by walk_at "s"
def Ze8 (K:PySem.W.Frag) (a:Adr) (ZfP:Spw) (E:Addr→Hw→Prop):GS:=(gIf (gNt (Zdi (Zae ZfP (fun _=>E) (Zaa (Zab 0) Zaj)))) (ZqE a.NoKind E (Zaa (gC (.str "this is no kind")) Zaj)) Zam)
theorem Zm8 {k:Nat} (T:Tx K mg base a) {Zhh:Nat} {ZfP:Spw} (Zr6:Df P w K mg base "is_kind" Zhh 1 ZfP) (ZrO:Zhh≤k) {f:Addr} {cdv:Value} {A:Around} {outer:List Env} {s:Shared} {H:Hp} {E:XK} (hr:Room k (A.deeper (envOfC "check_kind" (Zag Zdf) s.heap.objs.size f cdv))):Ssm (cxW P w K mg base ZiK "check_kind" (Zag Zdf) f cdv A outer s H E) (fun B=>B=H) (Zcr Zdf) (Ze8 K a ZfP (dnX K H E)) :=
 have hu:=Zg2 hr
 have hN:=ZiF.nd
 (Za4 (Zhv (ZeZ (ZeV (fun _=>rfl) (Zca Zr6 (hr.mono ZrO) rfl ZjK rfl rfl rfl (by walk_at "v")))) (Za4 (ZtS T.Zma T.ZfI PySem.F.excBase_ValueError rfl rfl rfl rfl (by walk_at "v"))) ZcM))
abbrev ZkG:List Str:=["kind","found","inner"]
theorem ZkJ:Zau ZkG ["kind"] (Zag ZhQ):=by walk_at "s"
def Zln (ZaB:Spw) (ZbG:Spw):GS:=(Zat (Za9 1 (Zdb (Zaa (Zab 0) Zaj))) (Zat (ZfH (Zbl (Zae ZaB XF (Zaa (Zab 0) Zaj))) (gNm 2) (Zbs (gMt ZhP ZsF (Zab 1) (Zaa (Zae ZbG XF (Zaa (Zab 2) Zaj)) Zaj)))) (Zay (Zab 1))))
theorem Zqc {k:Nat} (T:Tx K mg base a) {ZaK:Nat} {ZaB:Spw} (Zc3:Df P w K mg base "kinds_within" ZaK 1 ZaB) (Zd8:ZaK≤k) {Zcu:Nat} {ZbG:Spw} (Zk3:Df P w K mg base "kinds_in" Zcu 1 ZbG) (Zlf:Zcu≤k):Dn P w K mg base ZkG "kinds_in" ZhQ k (Zln ZaB ZbG):=by
 have hN:=ZkJ.nd
 walk_at "z"
abbrev ZkU:List Str:=["kind"]
theorem Zk4:Zau ZkU ["kind"] (Zag Zev):=by walk_at "s"
def Zh2 (ZaX:Spw) (ZbG:Spw) (E:Addr→Hw→Prop):GS:=(Zat (Zbs (Zae ZaX (fun _=>E) (Zaa (Zab 0) Zaj))) (Zay (gB (rF Zhd) (Zaa (Zae ZbG (fun _=>E) (Zaa (Zab 0) Zaj)) Zaj))))
theorem Zp9 {k:Nat} (T:Tx K mg base a) {ZbA:Nat} {ZaX:Spw} (Zin:Df P w K mg base "check_kind" ZbA 1 ZaX) (Ziw:ZbA≤k) {Zcu:Nat} {ZbG:Spw} (Zk3:Df P w K mg base "kinds_in" Zcu 1 ZbG) (Zlf:Zcu≤k) {f:Addr} {cdv:Value} {A:Around} {outer:List Env} {s:Shared} {H:Hp} {E:XK} (hr:Room k (A.deeper (envOfC "parts_in" (Zag Zev) s.heap.objs.size f cdv))):Ssm (cxW P w K mg base ZkU "parts_in" (Zag Zev) f cdv A outer s H E) (fun B=>B=H) (Zcr Zev) (Zh2 ZaX ZbG (dnX K H E)) :=
 have hu:=Zg2 hr
 have hN:=Zk4.nd
 (Zaq (ZcW rfl (Zca Zin (hr.mono Ziw) rfl ZjK rfl rfl rfl (by walk_at "v"))) (Za4 (Zce (ZbN Zfm (ZdG) rfl T.Zj7 (by decide) rfl rfl rfl (ZaU rfl (Zca Zk3 (hr.mono Zlf) rfl ZjK rfl rfl rfl (by walk_at "v")) Zb9)))))
local macro_rules | `(tactic| walk_at "rd") => `(tactic| ((try dsimp only [Zat,gIf,Zay,Za9,Zbs,Zam,Zab,gC,Zai,gTB,Zdi,gNt,ZeU,gOr,Zdj,ZiJ,Zdo,ZhG,L3.ZaQ,Zdb,L3.Zaa,L3.Zaj,Zae,gB,rF,Zak,Zdr,gMt,ZkA,Zwt,ZbS,Zfy,Zhe,ZcR,L3.ZgF,Zeb,gSl,Zco,ZaO,Zcy,Zbl,Zku,ZoE,ZfH,Zh1,ZdN,ZaE,Zbw,List.map_cons,List.map_nil,List.length_cons,List.length_nil,List.cons_append,List.nil_append,List.getElem?_cons_zero,List.getElem?_cons_succ,List.set_cons_zero,List.set_cons_succ,List.replicate,Ze0,tyN,Zac,ZcZ,ZbV,Zcz,ixW,eqF,eqW,Zhd,Zkp,ZhH,ZhY,Zq3,List.getElem?_nil]); (try simp only [Zat,gIf,Zay,Za9,Zbs,Zam,Zab,gC,Zai,gTB,Zdi,gNt,ZeU,gOr,Zdj,ZiJ,Zdo,ZhG,L3.ZaQ,Zdb,L3.Zaa,L3.Zaj,Zae,gB,rF,Zak,Zdr,gMt,ZkA,Zwt,ZbS,Zfy,Zhe,ZcR,L3.ZgF,Zeb,gSl,Zco,ZaO,Zcy,Zbl,Zku,ZoE,ZfH,Zh1,ZdN,ZaE,Zbw,List.map_cons,List.map_nil,List.length_cons,List.length_nil,List.cons_append,List.nil_append,List.getElem?_cons_zero,List.getElem?_cons_succ,List.set_cons_zero,List.set_cons_succ,List.replicate,Ze0,tyN,Zac,ZcZ,ZbV,Zcz,ixW,eqF,eqW,Zhd,Zkp,ZhH,ZhY,Zq3,List.getElem?_nil])))
abbrev ZwF:Spw:=spR (fun (x:Str×Bool×W) ws _=>ws=[.tup [.str x.1,.str (mark x.2.1),x.2.2]]∧Zcw x.1=true) fun _=>.bl true
theorem ZpG {n:Str} (h:Zcw n=true):n.length≤8:=by
 unfold Zcw at h
 simp only [Bool.and_eq_true,decide_eq_true_eq] at h
 exact h.1.2
theorem ZwL (b:Bool) (G:Hw):inF false (.str (mark b)) (.tup [.str "must",.str "may"]) G=some (.bl true):=by cases b <;> kernel_rfl
theorem ZfC (T:Tx K mg base a):Df P w K mg base "is_field" 3 1 ZwF:=by
 refine mk0 T.ZpP rfl Zk7 ZbK ((by rintro ws G Q E ⟨x,⟨e,_⟩,_⟩;rw [e];rfl)) (Zqb T (Zhu T) (Nat.le_refl _)) fun ws G Q E hC q=>?_
 obtain ⟨⟨n,b,k⟩,⟨rfl,hn⟩,q⟩:=q
 have hl:n.length≤8:=ZpG hn
 dsimp only at q hn
 unfold ZkW
 walk_at "rd"
 have b1:Zsq "tuple" "tuple"=true:=by decide
 simp only [b1,Bool.not_true,Bool.false_eq_true,if_false]
 refine ⟨n,⟨rfl,by omega⟩,?_⟩
 dsimp only
 rw [hn]
 simp only [if_true,ZwL,Zac]
 exact q
theorem ZvK (k:Kd):∃ xs,k.enc=.tup (.str k.hd::xs):=by cases k <;> exact ⟨_,rfl⟩
abbrev ZtK:Spw:=spR (fun (fs:Fs) ws _=>ws=[.tup fs.enc]∧fs.ok=true∧Zm2 fs.names=true∧fs.cnt≤1000) fun _=>.bl true
def ZoW (x:W):W:=match x with | .tup (n::_)=>n | _=>.non
theorem Zrt:∀ {fs:Fs} {x:W},fs.ok=true→x∈fs.enc→∃ n b k,x=.tup [.str n,.str (mark b),k]∧Zcw n=true
 | .nil,x,_,h=>by cases h
 | .cons n m k r,x,ho,h=>by
  have h':(Zcw n&&k.ok&&r.ok)=true:=ho
  walk_at "pe"
  rcases List.mem_cons.mp h with rfl | h
  ·exact ⟨n,m,k.enc,rfl,h'.1.1⟩
  ·exact Zrt h'.2 h
theorem Zj0:∀ fs:Fs,fs.enc.map ZoW=fs.names.map W.str
 | .nil=>rfl
 | .cons n m k r=>by show W.str n::r.enc.map ZoW=W.str n::r.names.map W.str;rw [Zj0 r]
theorem Zfj:∀ fs:Fs,fs.names.length=fs.enc.length
 | .nil=>rfl
 | .cons n m k r=>by show r.names.length+1=r.enc.length+1;rw [Zfj r]
theorem ZkX (fs:Fs):fs.enc.length≤fs.cnt:=by rw [ZuU,ZqS];exact ZlY _
theorem ZdP (T:Tx K mg base a):Df P w K mg base "are_fields" 4 1 ZtK:=by
 refine mk0 T.Zmo rfl Zit ZbK ((by rintro ws G Q E ⟨x,⟨e,_⟩,_⟩;rw [e];rfl)) (Znp T (ZfC T) (Nat.le_refl _) (ZdZ T) (by omega)) fun ws G Q E hC q=>?_
 obtain ⟨fs,⟨rfl,ho,hr,hc⟩,q⟩:=q
 have hl:=ZkX fs
 unfold Ziu
 walk_at "rd"
 have b1:Zsq "tuple" "tuple"=true:=by decide
 simp only [b1,Bool.not_true,Bool.false_eq_true,if_false]
 refine ZpH (f:=fun _=>.bl true) trivial fs.enc none [] (fun x hx Q' q'=>?_) (by simp only [List.length_nil];exact Zbh (by omega)) ?_
 ·obtain ⟨n,b,k,rfl,hn⟩:=Zrt ho hx
  exact ⟨⟨n,b,k⟩,⟨rfl,hn⟩,q'⟩
 ·intro p hp
  rw [List.nil_append,show (fun _:W=>W.bl true)=W.bl∘(fun _=>true) from rfl,← List.map_map]
  walk_at "pA"
  have hall:(fs.enc.map fun _=>true).all id=true:=by simp
  rw [hall]
  simp only [if_true]
  refine ZpH (f:=ZoW) trivial fs.enc none [] (fun x hx Q' q'=>?_) (by simp only [List.length_nil];exact Zbh (by omega)) ?_
  ·obtain ⟨n,b,k,rfl,hn⟩:=Zrt ho hx
   show Zai (Zak ixW) (Zab 0) (gC (.int 0)) [some (W.tup [.str n,.str (mark b),k])] _ Q'
   walk_at "rd"
   exact q'
  ·intro p2 hp2
   rw [List.nil_append,Zj0]
   refine ⟨fs.names,⟨p2,rfl,Zad,by rw [Zfj];omega⟩,?_⟩
   dsimp only
   rw [hr]
   exact hC _ _ _ (ZcK (Za0 hp) hp2) q
abbrev Zzh:Spw:=spR (fun (k:Kd) ws _=>ws=[k.enc]∧k.ok=true∧k.cnt≤1000) fun _=>.bl true
theorem Zcs (T:Tx K mg base a):Df P w K mg base "has_form" 5 1 Zzh:=by
 refine mk0 T.ZpL rfl Zk5 ZbK ((by rintro ws G Q E ⟨x,⟨e,_⟩,_⟩;rw [e];rfl)) (ZpJ T (ZdP T) (Nat.le_refl _)) fun ws G Q E hC q=>?_
 obtain ⟨k,⟨rfl,ho,hc⟩,q⟩:=q
 have b1:Zsq "tuple" "tuple"=true:=by decide
 have b2:Zsq "bool" "bool"=true:=by decide
 have b3:Zsq "str" "str"=true:=by decide
 unfold ZkR
 cases k with
 | any =>
  simp only [Kd.enc];walk_at "rd"
  walk_at "pt"
  exact q
 | num =>
  simp only [Kd.enc];walk_at "rd"
  walk_at "pt"
  exact q
 | truth =>
  simp only [Kd.enc];walk_at "rd"
  walk_at "pt"
  exact q
 | to x y =>
  simp only [Kd.enc];walk_at "rd"
  walk_at "pt"
  exact q
 | box x =>
  simp only [Kd.enc];walk_at "rd"
  walk_at "pt"
  exact q
 | row fs o =>
  have h':(Zm2 fs.names&&fs.ok)=true:=ho
  walk_at "pe"
  have hc':1+fs.cnt≤1000:=hc
  simp only [Kd.enc];walk_at "rd"
  walk_at "pt"
  refine ⟨fs,⟨rfl,h'.2,h'.1,by omega⟩,?_⟩
  simp only [if_true,b2]
  exact q
def ZnW (x:W):W:=match x with | .tup [_,_,k]=>k | _=>.non
theorem ZoN:∀ fs:Fs,fs.enc.map ZnW=fs.kinds.map Kd.enc
 | .nil=>rfl
 | .cons n m k r=>by show k.enc::r.enc.map ZnW=k.enc::r.kinds.map Kd.enc;rw [ZoN r]
theorem ZnV:∀ {fs:Fs} {x:W},x∈fs.enc→∃ n b k,x=.tup [.str n,.str (mark b),k]
 | .nil,x,h=>by cases h
 | .cons n m k r,x,h=>by
  rcases List.mem_cons.mp h with rfl | h
  ·exact ⟨n,m,k.enc,rfl⟩
  ·exact ZnV h
abbrev Zpg:Spw:=spL (fun (k:Kd) ws _=>ws=[k.enc]∧k.cnt≤20000) fun k=>k.kids.map Kd.enc
theorem ZaK (T:Tx K mg base a):Df P w K mg base "kinds_within" 1 1 Zpg:=by
 refine mk0 T.ZkB rfl Zgb Zr0 ((by rintro ws G Q E ⟨x,⟨e,_⟩,_⟩;rw [e];rfl)) (Zkg T) fun ws G Q E hC q=>?_
 obtain ⟨k,⟨rfl,hc⟩,q⟩:=q
 unfold Zgn
 cases k with
 | row fs o =>
  have hc':1+fs.cnt≤20000:=hc
  have hl:=ZkX fs
  simp only [Kd.enc];walk_at "rd"
  refine ZpH (f:=ZnW) trivial fs.enc none [] (fun x hx Q' q'=>?_) (by simp only [List.length_nil];exact Zbh (by omega)) ?_
  ·obtain ⟨n,b,k,rfl⟩:=ZnV hx
   show Zai (Zak ixW) (Zab 0) (gC (.int 2)) [some (W.tup [.str n,.str (mark b),k])] _ Q'
   walk_at "rd"
   exact q'
  ·rw [List.nil_append,ZoN]
   exact q
 | any=>simp only [Kd.enc];walk_at "rd";exact ⟨Zfu _ _,q⟩
 | num=>simp only [Kd.enc];walk_at "rd";exact ⟨Zfu _ _,q⟩
 | truth=>simp only [Kd.enc];walk_at "rd";exact ⟨Zfu _ _,q⟩
 | to x y=>simp only [Kd.enc];walk_at "rd";exact ⟨Zfu _ _,q⟩
 | box x=>simp only [Kd.enc];walk_at "rd";exact ⟨Zfu _ _,q⟩
theorem ZuG {G:Hw} {p r:Addr} {xs zs:List W} {Q:Kw} (hp:G p=some (.lst xs)) (hr:G r=some (.lst zs)) (hl:xs.length+zs.length≤sizeLine) (q:Q .non (put G p (.lst (xs++zs)))):ZsF (.ref p) [.ref r] G Q:=by
 unfold ZsF
 refine Zn3 hp ?_ q
 rw [Zeg hr,Option.bind_some,if_pos hl]
theorem Zhz {G:Hw} {p:Addr} {xs:List W} (h:G p=some (.lst xs)):ZhP (.ref p) G:=⟨xs,Zeg h⟩
abbrev ZAT (n:Nat):Spw:=spL (fun (k:Kd) ws _=>ws=[k.enc]∧k.dp≤n∧k.cnt≤10000) fun k=>k.all.map Kd.enc
local macro_rules | `(tactic| walk_at "rd") => `(tactic| ((try dsimp only [Zat,gIf,Zay,Za9,Zbs,Zam,Zab,gC,Zai,gTB,Zdi,gNt,ZeU,gOr,Zdj,ZiJ,Zdo,ZhG,L3.ZaQ,Zdb,L3.Zaa,L3.Zaj,Zae,gB,rF,Zak,Zdr,gMt,ZkA,Zwt,ZbS,Zfy,Zhe,ZcR,L3.ZgF,Zeb,gSl,Zco,ZaO,Zcy,Zbl,Zku,ZoE,ZfH,Zh1,ZdN,ZiA,Zbj,ZhN,ZaE,Zbw,List.map_cons,List.map_nil,List.length_cons,List.length_nil,List.cons_append,List.nil_append,List.getElem?_cons_zero,List.getElem?_cons_succ,List.set_cons_zero,List.set_cons_succ,List.replicate,Ze0,tyN,Zac,ZcZ,ZbV,Zcz,ixW,eqF,eqW,Zhd,Zkp,ZhH,ZhY,Zq3,List.getElem?_nil]); (try simp only [Zat,gIf,Zay,Za9,Zbs,Zam,Zab,gC,Zai,gTB,Zdi,gNt,ZeU,gOr,Zdj,ZiJ,Zdo,ZhG,L3.ZaQ,Zdb,L3.Zaa,L3.Zaj,Zae,gB,rF,Zak,Zdr,gMt,ZkA,Zwt,ZbS,Zfy,Zhe,ZcR,L3.ZgF,Zeb,gSl,Zco,ZaO,Zcy,Zbl,Zku,ZoE,ZfH,Zh1,ZdN,ZiA,Zbj,ZhN,ZaE,Zbw,List.map_cons,List.map_nil,List.length_cons,List.length_nil,List.cons_append,List.nil_append,List.getElem?_cons_zero,List.getElem?_cons_succ,List.set_cons_zero,List.set_cons_succ,List.replicate,Ze0,tyN,Zac,ZcZ,ZbV,Zcz,ixW,eqF,eqW,Zhd,Zkp,ZhH,ZhY,Zq3,List.getElem?_nil])))
abbrev Zwl (mg:Str→Option Value):Spw:=spL (fun (l:List Kd) ws G=>∃ p,ws=[.ref p,.ref (fAt mg "kinds_within")]∧G p=some (.lst (l.map Kd.enc))∧ZhF l≤10000) fun l=>(l.flatMap Kd.kids).map Kd.enc
theorem Zpi {D:Ew} {p q0 fw:Addr} {items:List W}:∀ (l:List Kd) (o:Option W) (k0:W) (G:Hw) (acc:List W),acc.length+ZhF l≤20000→p≠q0→G p=some (.lst acc)→G q0=some (.lst items) →
  (∀ ω G',(∃ o',ω=[some k0,some (.ref fw),some (.ref p),o'])→G' p=some (.lst (acc++(l.flatMap Kd.kids).map Kd.enc))→(∀ b,b≠p→∀ u,G b=some u→G' b=some u)→D.nx ω G') →
  Zeh (holds q0 items) (gNm 3) (Zbs (gMt ZhP ZsF (Zab 2) (L3.Zaa (ZiA 1 fw Zpg XF (L3.Zaa (Zab 3) L3.Zaj)) L3.Zaj))) D (l.map Kd.enc) [some k0,some (.ref fw),some (.ref p),o] G
 | [],o,k0,G,acc,_,hne,hp,hq,fin=>⟨hq,fin _ G ⟨o,rfl⟩ (by simpa using hp) fun _ _ _ h=>h⟩
 | c::l,o,k0,G,acc,hl,hne,hp,hq,fin=>by
  have hll:acc.length+(c.cnt+ZhF l)≤20000:=hl
  have hk:=ZsT c
  refine ⟨hq,?_⟩
  show Zbs _ _ [some k0,some (.ref fw),some (.ref p),some c.enc] G
  walk_at "rd"
  refine ⟨Zhz hp,trivial,c,⟨rfl,by omega⟩,fun r hr=>?_⟩
  have hpr:=ZaP hp hr
  have hqr:=ZaP hq hr
  refine ZuG (by rw [Zao hpr];exact hp) Zad (by rw [List.length_map];exact Zbh (by omega)) ?_
  refine Zpi l (some c.enc) k0 _ (acc++c.kids.map Kd.enc) (by rw [List.length_append,List.length_map];omega) hne Zad ?_ ?_
  ·rw [Zao (Ne.symm hne),Zao hqr];exact hq
  ·intro ω G' hω h1 h2
   refine fin ω G' hω (by rw [h1,List.flatMap_cons,List.map_append,List.append_assoc]) fun b hb u hu=>h2 b hb u ?_
   rw [Zao hb,Zao (ZaP hu hr)];exact hu
theorem Zdc (T:Tx K mg base a):Df P w K mg base "layer_within" 2 2 (Zwl mg):=by
 refine mk0 T.Zkl rfl ZfS Zr0 ((by rintro ws G Q E ⟨x,⟨p,e,_⟩,_⟩;rw [e];rfl)) (Zkm T (ZaK T) (by omega)) fun ws G Q E hC q=>?_
 obtain ⟨l,⟨q0,rfl,hq,hl⟩,q⟩:=q
 unfold Zgd
 walk_at "rd"
 refine ⟨by decide,fun p hp=>?_⟩
 have hne:p≠q0:=Ne.symm (ZaP hq hp)
 have hq':put G p (.lst []) q0=some (.lst (l.map Kd.enc)):=by rw [Zao (Ne.symm hne)];exact hq
 simp only [hq']
 refine Zpi l none (.ref q0) _ [] (by simp only [List.length_nil];omega) hne Zad hq' ?_
 intro ω G' hω h1 h2
 obtain ⟨o',rfl⟩:=hω
 simp only [List.getElem?_cons_zero,List.getElem?_cons_succ]
 rw [List.nil_append] at h1
 have hs:Sub (put G p (.lst ((l.flatMap Kd.kids).map Kd.enc))) G':=fun b u hu=>by
  by_cases hb:b=p
  ·subst hb
   rw [Zad] at hu;cases hu
   exact h1
  ·rw [Zao hb] at hu
   exact h2 b hb u (by rw [Zao hb];exact hu)
 exact hC _ _ _ hs (q p hp)
theorem Zrl {α:Type} {enc f:α→W} {gd:Hw→Prop} {ge:GE} {R:List W→Hw→Prop} {G:Hw} {cst:Sw} (hgd:gd G):∀ (l:List α) (o:Option W) (ys:List W),(∀ x∈l,∀ Q:Kw,Q (f x) G→ge (some (enc x)::cst) G Q) →
  ys.length+l.length≤sizeLine→R (ys++l.map f) G→ZbR gd (gNm 0) Zhg ge R (l.map enc) (o::cst) G ys
 | [],o,ys,_,_,r=>⟨hgd,by simpa using r⟩
 | x::l,o,ys,h,hl,r=>by
  refine ⟨hgd,by simp only [List.length_cons] at hl;omega,?_⟩
  show ge (some (enc x)::cst) G fun y G3=>ZbR gd (gNm 0) Zhg ge R (l.map enc) (some (enc x)::cst) G3 (ys++[y])
  refine h x List.mem_cons_self _ (Zrl hgd l (some (enc x)) (ys++[f x]) (fun y hy=>h y (List.mem_cons_of_mem _ hy)) ?_ ?_)
  ·simp only [List.length_append,List.length_cons,List.length_nil] at hl ⊢;omega
  ·simpa [List.append_assoc] using r
def Zi1 (k:Kd):Bool:=decide (k.cnt≤40∧k.dp≤8)
abbrev Zyq (mg:Str→Option Value):Spw:=spR (fun (k:Kd) ws _=>ws=[k.enc,.ref (fAt mg "has_form"),.ref (fAt mg "kinds_within"),.int 40,.int 8]∧k.ok=true∧k.cnt≤1000) fun k=>.bl (Zi1 k)
theorem ZdY (T:Tx K mg base a):Df P w K mg base "is_made_of" 6 5 (Zyq mg):=by
 refine mk0 T.Zm3 rfl Zim ZbK ((by rintro ws G Q E ⟨x,⟨e,_⟩,_⟩;rw [e];rfl)) (ZmM T (Zcs T) (Nat.le_refl _) (Zdc T) (by omega)) fun ws G Q E hC q=>?_
 obtain ⟨k,⟨rfl,ho,hc⟩,q⟩:=q
 unfold Ziz
 walk_at "rd"
 refine ⟨by decide,fun p hp=>?_⟩
 refine ⟨fun m ω G'=>∃ (l:List Kd) (p:Addr) (c d:Nat),ω=[some k.enc,some (.ref (fAt mg "has_form")),some (.ref (fAt mg "kinds_within")),some (.int 40),some (.int 8),some (.ref p),some (.int c),some (.int d)]∧G' p=some (.lst (l.map Kd.enc))∧Sub G G'∧c+ZhF l=k.cnt∧d+dpL l=k.dp∧(∀ x∈l,x.ok=true)∧c≤40∧d≤8∧m=9 - d,⟨9,[k],p,0,0,rfl,Zad,Za0 hp,?_,?_,?_,by omega,by omega,rfl⟩,?_⟩
 ·show 0+(k.cnt+0)=k.cnt;omega
 ·show 0+max k.dp 0=k.dp;omega
 ·intro x hx;rw [List.mem_singleton.mp hx];exact ho
 rintro m ω G1 ⟨l,p,c,d,rfl,hl,hs,e1,e2,hok,h40,h8,rfl⟩
 have hlen:(l.map Kd.enc).length=l.length:=List.length_map _
 walk_at "rd"
 simp only [hl,Zac,hlen]
 cases l with
 | nil =>
  have d0:¬ ((0:Int) < ((([]:List Kd).length:Nat):Int)):=by simp
  simp only [d0,decide_false,Bool.false_eq_true,if_false]
  have hg:Zi1 k=true:=by
   unfold Zi1
   have z1:c+0=k.cnt:=e1
   have z2:d+0=k.dp:=e2
   simp only [decide_eq_true_eq]
   omega
  dsimp only at q
  rw [hg] at q
  exact hC _ _ _ hs q
 | cons x l =>
  have hx1:=Zle (x::l)
  have hx2:=Znu (x::l) (by simp)
  have d0:(0:Int) < (((x::l).length:Nat):Int):=by simp only [List.length_cons];omega
  simp only [d0,decide_true,if_true,hl,Zac,hlen]
  have b40:decide ((40:Int) < (c:Int)+(((x::l).length:Nat):Int))=decide (40 < c+(x::l).length):=by
   rw [decide_eq_decide];omega
  have b8:decide ((8:Int) < (d:Int)+1)=decide (8 < d+1):=by
   rw [decide_eq_decide];omega
  rw [b40,b8]
  by_cases g40:40 < c+(x::l).length
  ·have hg:Zi1 k=false:=by
    unfold Zi1
    simp only [decide_eq_false_iff_not]
    omega
   dsimp only at q
   rw [hg] at q
   simp only [g40,decide_true,if_true]
   exact hC _ _ _ hs q
  ·by_cases g8:8 < d+1
   ·have hg:Zi1 k=false:=by
     unfold Zi1
     simp only [decide_eq_false_iff_not]
     omega
    dsimp only at q
    rw [hg] at q
    simp only [g40,g8,decide_true,decide_false,if_true,Bool.false_eq_true,if_false]
    exact hC _ _ _ hs q
   ·simp only [g40,g8,decide_false,Bool.false_eq_true,if_false]
    refine Zrl (f:=fun _=>.bl true) (cst:=[some (.ref (fAt mg "has_form"))]) hl (x::l) none [] (fun z hz Q' q'=>?_) (by exact Zbh (by simp only [List.length_nil];omega)) ?_
    ·have hz2:=Zpp hz
     exact ⟨rfl,z,⟨rfl,hok z hz,by omega⟩,q'⟩
    ·intro p1 hp1
     rw [List.nil_append,show (fun _:Kd=>W.bl true)=W.bl∘(fun _=>true) from rfl,← List.map_map]
     walk_at "pA"
     have hall:((x::l).map fun _=>true).all id=true:=by simp
     rw [hall]
     simp only [Bool.not_true,Bool.false_eq_true,if_false]
     refine ⟨x::l,⟨p,rfl,by rw [Zao (ZaP hl hp1)];exact hl,by omega⟩,fun p2 hp2=>?_⟩
     refine ⟨9 - (d+1),by omega,(x::l).flatMap Kd.kids,p2,c+(x::l).length,d+1,?_,Zad,?_,by omega,by omega,?_,by omega,by omega,rfl⟩
     ·simp only [Int.natCast_add,Int.natCast_one]
     ·exact ZcK (ZcK hs hp1) hp2
     ·intro y hy
      obtain ⟨z,hz,hy⟩:=List.mem_flatMap.mp hy
      exact Zcm (hok z hz) y hy
abbrev ZuM:Spw:=spR (fun (k:Kd) ws _=>ws=[k.enc]∧k.ok=true∧k.cnt≤1000) fun k=>.bl (Zi1 k)
theorem Zhh (T:Tx K mg base a):Df P w K mg base "is_kind" 7 1 ZuM:=by
 refine mk0 T.Zry rfl Zmz ZbK ((by rintro ws G Q E ⟨x,⟨e,_⟩,_⟩;rw [e];rfl)) (ZrL T (Zcs T) (by omega) (ZaK T) (by omega) (ZdY T) (Nat.le_refl _)) fun ws G Q E hC q=>?_
 obtain ⟨k,⟨rfl,ho,hc⟩,q⟩:=q
 unfold Znn
 walk_at "rd"
 exact ⟨k,⟨rfl,ho,hc⟩,q⟩
def spG (C:Addr) (f:Kd→W):Spw:=fun ws G Q E=>∃ k:Kd,(ws=[k.enc]∧k.ok=true∧k.cnt≤1000)∧(Zi1 k=true→Q (f k) G)∧(Zi1 k=false→E C G)
theorem ZxB {C:Addr} {f:Kd→W}:Spw.M (spG C f):=fun ws G Q Q' E E' h h' ⟨k,h1,q1,q2⟩=>⟨k,h1,fun z=>h _ _ (q1 z),fun z=>h' _ _ (q2 z)⟩
theorem ZrG {C:Addr} {f:Kd→W}:∀ ws G Q E,spG C f ws G Q E→ws.length=1:=fun ws G Q E ⟨k,⟨e,_⟩,_⟩=>by rw [e];rfl
theorem ZbA (T:Tx K mg base a):Df P w K mg base "check_kind" 8 1 (spG a.NoKind fun _=>.non):=by
 refine mkX T.Zni rfl ZiF ZxB ZrG (g:=fun E=>Ze8 K a ZuM E) (Zm8 T (Zhh T) (Nat.le_refl _)) fun ws G Q E hC hX q=>?_
 obtain ⟨k,⟨rfl,ho,hc⟩,q1,q2⟩:=q
 unfold Ze8
 walk_at "rd"
 refine ⟨k,⟨rfl,ho,hc⟩,?_⟩
 dsimp only
 cases hg:Zi1 k with
 | true =>
  simp only [Bool.not_true,Bool.false_eq_true,if_false]
  exact q1 hg
 | false =>
  simp only [Bool.not_false,if_true]
  unfold ZqE
  walk_at "rd"
  exact ⟨by decide,q2 hg⟩
abbrev Zgp:List Str:=["script","k"]
theorem Zf3:Zau Zgp ["script","k"] (Zag Zef):=by walk_at "s"
def Zgx:GS:=(Zat (gIf (gTB (Zai (Zfy (fun i j=>decide (i < j)) ZaY) (Zab 1) (gB (rF Zhd) (Zaa (Zab 0) Zaj)))) (Zay (Zai (Zak ixW) (Zab 0) (Zab 1))) Zam) (Zay (gC (.int 0))))
theorem Zks {k:Nat} (T:Tx K mg base a):Dn P w K mg base Zgp "_law_cell_at" Zef k (Zgx):=by
 have hN:=Zf3.nd
 walk_at "z"
abbrev ZiC:List Str:=["script","k","cell"]
theorem Zis:Zau ZiC ["script","k"] (Zag Ze9):=by walk_at "s"
def ZiL (ZcJ:Spw):GS:=(Zat (Za9 2 (Zae ZcJ XF (Zaa (Zab 0) (Zaa (Zab 1) Zaj)))) (Zat (gIf (gTB (Zai (Zhe fun i j=>decide (j≤i)) (Zab 2) (Zai (ZcR Zyr fun i j=>i ^ j.toNat) (gC (.int 10)) (gC (.int 18))))) (Zay (Zdb (Zaa (Zai (ZcR (fun _ _=>True) fun i j=>i - j) (Zab 2) (Zai (ZcR Zyr fun i j=>i ^ j.toNat) (gC (.int 10)) (gC (.int 18)))) (Zaa (gC (.bl true)) Zaj)))) Zam) (Zay (Zdb (Zaa (Zai (ZcR (fun _ j=>0 < j) fun i j=>i % j) (Zab 2) (gC (.int 2147483647))) (Zaa (gC (.bl false)) Zaj))))))
theorem Znw {k:Nat} (T:Tx K mg base a) {Zc9:Nat} {ZcJ:Spw} (Zsv:Df P w K mg base "_law_cell_at" Zc9 2 ZcJ) (Zss:Zc9≤k):Dn P w K mg base ZiC "_law_state" Ze9 k (ZiL ZcJ):=by
 have hN:=Zis.nd
 walk_at "z"
abbrev Zhj:List Str:=["state","many","mixed","found"]
theorem Zg7:Zau Zhj ["state","many"] (Zag ZeI):=by walk_at "s"
def Zho:GS:=(Zat (gIf (Zdi (Zai (Zak ixW) (Zab 0) (gC (.int 1)))) (Zat (Za9 3 (Zai (ZcR (fun _ j=>0 < j) fun i j=>i % j) (Zai (Zak ixW) (Zab 0) (gC (.int 0))) (Zab 1))) (Zat (ZdN (Zai (ZcR ZzD fun i j=>i / j) (Zai (Zak ixW) (Zab 0) (gC (.int 0))) (Zab 1)) (Zab 0) (gC (.int 0))) (Zay (Zab 3)))) Zam) (Zat (ZdN (Zai (ZcR (fun _ j=>0 < j) fun i j=>i % j) (Zai (ZgF) (Zai (ZcR CMul fun i j=>i*j) (Zai (Zak ixW) (Zab 0) (gC (.int 0))) (gC (.int 48271))) (gC (.int 29))) (gC (.int 2147483647))) (Zab 0) (gC (.int 0))) (Zat (Za9 2 (Zai (ZcR (fun _ j=>0 < j) fun i j=>i % j) (Zai (ZgF) (Zai (ZgF) (Zai (ZcR CMul fun i j=>i*j) (Zai (Zak ixW) (Zab 0) (gC (.int 0))) (Zai (Zak ixW) (Zab 0) (gC (.int 0)))) (Zai (ZcR CMul fun i j=>i*j) (gC (.int 39373)) (Zai (Zak ixW) (Zab 0) (gC (.int 0))))) (gC (.int 7))) (gC (.int 2147483629)))) (Zat (Za9 2 (Zai (ZcR (fun _ j=>0 < j) fun i j=>i % j) (Zai (ZgF) (Zai (ZcR CMul fun i j=>i*j) (Zab 2) (Zab 2)) (Zai (ZcR CMul fun i j=>i*j) (gC (.int 16807)) (Zab 2))) (gC (.int 2147483587)))) (Zay (Zai (ZcR (fun _ j=>0 < j) fun i j=>i % j) (Zai (ZcR ZzD fun i j=>i / j) (Zab 2) (gC (.int 8))) (Zab 1)))))))
theorem ZlA {k:Nat} (T:Tx K mg base a):Dn P w K mg base Zhj "_law_choice" ZeI k (Zho):=by
 have hN:=Zg7.nd
 walk_at "z"
abbrev Zll:List Str:=["state","deep","plain","known","fields","some","name","mark"]
theorem ZkZ:Zau Zll ["state","deep","plain","known"] (Zag Zh7):=by walk_at "s"
def ZkT (Zah:Spw) (ZaF:Spw):GS:=(Zat (Za9 4 (Zdb Zaj)) (Zat (Za9 5 (Zdb (Zaa (Zdb (Zaa (gC (.str "a")) (Zaa (gC (.str "ab")) (Zaa (gC (.str "b")) (Zaa (gC (.str "cab")) (Zaa (gC (.str "zzzzzzzz")) Zaj)))))) (Zaa (Zdb (Zaa (gC (.str "any")) (Zaa (gC (.str "in")) (Zaa (gC (.str "inside")) (Zaa (gC (.str "num")) (Zaa (gC (.str "out")) Zaj)))))) Zaj)))) (Zat (Zbs (gMt ZhP Zsz (Zab 5) (Zaa (Zdb (Zaa (gC (.str "aa")) (Zaa (gC (.str "new")) (Zaa (gC (.str "other")) (Zaa (gC (.str "x")) (Zaa (gC (.str "zz")) Zaj)))))) Zaj))) (Zat (ZfH (Zbl (Zai (Zak ixW) (Zab 5) (Zai (Zak ixW) (Zdb (Zaa (gC (.int 0)) (Zaa (gC (.int 0)) (Zaa (gC (.int 1)) (Zaa (gC (.int 2)) Zaj))))) (Zae Zah XF (Zaa (Zab 0) (Zaa (gC (.int 4)) Zaj)))))) (gNm 6) (gIf (ZeU (gTB (Zai (Zak (eqF false)) (Zae Zah XF (Zaa (Zab 0) (Zaa (gC (.int 2)) Zaj))) (gC (.int 1)))) (gTB (Zai (Zhe fun i j=>decide (j < i)) (Zai (Zak ixW) (Zab 0) (gC (.int 2))) (gC (.int 0))))) (Zat (Za9 7 (Zai (Zak ixW) (Zdb (Zaa (gC (.str "must")) (Zaa (gC (.str "may")) Zaj))) (Zae Zah XF (Zaa (Zab 0) (Zaa (gC (.int 2)) Zaj))))) (Zbs (gMt ZhP Zsz (Zab 4) (Zaa (ZaQ (Zaa (Zab 6) (Zaa (Zab 7) (Zaa (Zae ZaF XF (Zaa (Zab 0) (Zaa (Zai (ZcR (fun _ _=>True) fun i j=>i - j) (Zab 1) (gC (.int 1))) (Zaa (Zab 2) (Zaa (Zab 3) Zaj))))) Zaj)))) Zaj)))) Zam)) (Zay (ZaQ (Zaa (gC (.str "row")) (Zaa (gB (rF ZhY) (Zaa (Zab 4) Zaj)) (Zaa (Zdj (Zai (Zak (eqF false)) (Zae Zah XF (Zaa (Zab 0) (Zaa (gC (.int 2)) Zaj))) (gC (.int 1))) (Zdo (Zab 3))) Zaj)))))))))
theorem ZpW {k:Nat} (T:Tx K mg base a) {Zan:Nat} {Zah:Spw} (ZcL:Df P w K mg base "_law_choice" Zan 2 Zah) (ZcE:Zan≤k) {Za6:Nat} {ZaF:Spw} (Zj4:Df P w K mg base "_law_kind" Za6 4 ZaF) (Zjy:Za6≤k):Dn P w K mg base Zll "_law_row" Zh7 k (ZkT Zah ZaF):=by
 have hN:=ZkZ.nd
 walk_at "z"
abbrev Zg1:List Str:=["state","deep","plain","known","pick","some"]
theorem ZgT:Zau Zg1 ["state","deep","plain","known"] (Zag ZgK):=by walk_at "s"
def ZgX (Zah:Spw) (ZaF:Spw) (ZeL:Spw):GS:=(Zat (ZdN (Zai (ZcR (fun _ _=>True) fun i j=>i - j) (Zai (Zak ixW) (Zab 0) (gC (.int 2))) (gC (.int 1))) (Zab 0) (gC (.int 2))) (Zat (Za9 4 (Zae Zah XF (Zaa (Zab 0) (Zaa (gC (.int 8)) Zaj)))) (Zat (gIf (gOr (gTB (Zai (Zfy (fun i j=>decide (i < j)) ZaY) (Zab 1) (gC (.int 2)))) (gOr (gTB (Zai (Zfy (fun i j=>decide (i < j)) ZaY) (Zai (Zak ixW) (Zab 0) (gC (.int 2))) (gC (.int 2)))) (gTB (Zai (Zfy (fun i j=>decide (i < j)) ZaY) (Zab 4) (gC (.int 2)))))) (Zat (Za9 5 (Zdb (Zaa (ZaQ (Zaa (gC (.str "num")) Zaj)) (Zaa (ZaQ (Zaa (gC (.str "truth")) Zaj)) (Zaa (ZaQ (Zaa (gC (.str "any")) Zaj)) Zaj))))) (Zay (Zai (Zak ixW) (Zab 5) (Zae Zah XF (Zaa (Zab 0) (Zaa (Zai (ZcR (fun _ _=>True) fun i j=>i - j) (gC (.int 3)) (gB (rF Zq3) (Zaa (Zab 3) Zaj))) Zaj)))))) Zam) (Zat (gIf (ZeU (gTB (Zai (Zfy (fun i j=>decide (i < j)) ZaY) (Zab 4) (gC (.int 4)))) (gNt (Zdi (Zab 2)))) (Zay (ZaQ (Zaa (gC (.str "to")) (Zaa (Zae ZaF XF (Zaa (Zab 0) (Zaa (Zai (ZcR (fun _ _=>True) fun i j=>i - j) (Zab 1) (gC (.int 1))) (Zaa (Zab 2) (Zaa (Zab 3) Zaj))))) (Zaa (Zae ZaF XF (Zaa (Zab 0) (Zaa (Zai (ZcR (fun _ _=>True) fun i j=>i - j) (Zab 1) (gC (.int 1))) (Zaa (Zab 2) (Zaa (Zab 3) Zaj))))) Zaj))))) Zam) (Zat (gIf (ZeU (gTB (Zai (Zak (eqF false)) (Zab 4) (gC (.int 4)))) (gNt (Zdi (Zab 2)))) (Zay (ZaQ (Zaa (gC (.str "box")) (Zaa (Zae ZaF XF (Zaa (Zab 0) (Zaa (Zai (ZcR (fun _ _=>True) fun i j=>i - j) (Zab 1) (gC (.int 1))) (Zaa (Zab 2) (Zaa (Zab 3) Zaj))))) Zaj)))) Zam) (Zay (Zae ZeL XF (Zaa (Zab 0) (Zaa (Zab 1) (Zaa (Zab 2) (Zaa (Zab 3) Zaj)))))))))))
theorem ZjN {k:Nat} (T:Tx K mg base a) {Zan:Nat} {Zah:Spw} (ZcL:Df P w K mg base "_law_choice" Zan 2 Zah) (ZcE:Zan≤k) {Za6:Nat} {ZaF:Spw} (Zj4:Df P w K mg base "_law_kind" Za6 4 ZaF) (Zjy:Za6≤k) {ZfD:Nat} {ZeL:Spw} (Zw1:Df P w K mg base "_law_row" ZfD 4 ZeL) (Zw8:ZfD≤k):Dn P w K mg base Zg1 "_law_kind" ZgK k (ZgX Zah ZaF ZeL):=by
 have hN:=ZgT.nd
 walk_at "z"
abbrev Zex:List Str:=["script","k","plain","known","state","deep"]
theorem Zep:Zau Zex ["script","k","plain","known"] (Zag ZcS):=by walk_at "s"
def ZeF (ZaG:Spw) (Zah:Spw) (ZaF:Spw):GS:=(Zat (Za9 4 (Zai (ZgY) (Zae ZaG XF (Zaa (Zab 0) (Zaa (Zab 1) Zaj))) (Zdb (Zaa (gC (.int 9)) Zaj)))) (Zat (Za9 5 (gC (.int 3))) (Zat (gIf (gTB (Zai (Zak (eqF false)) (Zae Zah XF (Zaa (Zab 4) (Zaa (gC (.int 6)) Zaj))) (gC (.int 1)))) (Zat (ZdN (gC (.int 30)) (Zab 4) (gC (.int 2))) (Za9 5 (gC (.int 8)))) Zam) (Zay (Zae ZaF XF (Zaa (Zab 4) (Zaa (Zab 5) (Zaa (Zab 2) (Zaa (Zab 3) Zaj)))))))))
theorem Zh6 {k:Nat} (T:Tx K mg base a) {ZaT:Nat} {ZaG:Spw} (Zil:Df P w K mg base "_law_state" ZaT 2 ZaG) (Zig:ZaT≤k) {Zan:Nat} {Zah:Spw} (ZcL:Df P w K mg base "_law_choice" Zan 2 Zah) (ZcE:Zan≤k) {Za6:Nat} {ZaF:Spw} (Zj4:Df P w K mg base "_law_kind" Za6 4 ZaF) (Zjy:Za6≤k):Dn P w K mg base Zex "_law_drawn_kind" ZcS k (ZeF ZaG Zah ZaF):=by
 have hN:=Zep.nd
 walk_at "z"
local macro_rules | `(tactic| walk_at "rd") => `(tactic| ((try dsimp only [Zji,Zbj,Zdm,ZfQ,Zet,Zbk,ZhN,Zat,gIf,Zay,Za9,Zbs,Zam,Zab,gC,Zai,gTB,Zdi,gNt,ZeU,gOr,Zdj,ZiJ,Zdo,ZhG,L3.ZaQ,Zdb,L3.Zaa,L3.Zaj,Zae,gB,rF,Zak,Zdr,gMt,ZkA,ZbS,Zfy,Zhe,ZcR,L3.ZgF,Zeb,gSl,Zco,ZaO,Zcy,Zbl,Zku,ZfH,ZaE,Zbw,List.map_cons,List.map_nil,List.length_cons,List.length_nil,List.cons_append,List.nil_append,List.getElem?_cons_zero,List.getElem?_cons_succ,List.set_cons_zero,List.set_cons_succ,List.replicate,Ze0,tyN,Zac,ZcZ,ZbV,Zcz,ixW,eqF,eqW,Zhd,Zkp,ZhH,List.getElem?_nil]); (try simp only [Zji,Zbj,Zdm,ZfQ,Zet,Zbk,ZhN,Zat,gIf,Zay,Za9,Zbs,Zam,Zab,gC,Zai,gTB,Zdi,gNt,ZeU,gOr,Zdj,ZiJ,Zdo,ZhG,L3.ZaQ,Zdb,L3.Zaa,L3.Zaj,Zae,gB,rF,Zak,Zdr,gMt,ZkA,ZbS,Zfy,Zhe,ZcR,L3.ZgF,Zeb,gSl,Zco,ZaO,Zcy,Zbl,Zku,ZfH,ZaE,Zbw,List.map_cons,List.map_nil,List.length_cons,List.length_nil,List.cons_append,List.nil_append,List.getElem?_cons_zero,List.getElem?_cons_succ,List.set_cons_zero,List.set_cons_succ,List.replicate,Ze0,tyN,Zac,ZcZ,ZbV,Zcz,ixW,eqF,eqW,Zhd,Zkp,ZhH,List.getElem?_nil])))
theorem Zs3 {ns:List Int} {k:Int} (h0:0≤k) (h:k < (ns.length:Int)):∃ v:Int,atI (ns.map W.int) k=some (.int v):=by
 have hk:k.toNat < ns.length:=by omega
 have ek:k=((k.toNat:Nat):Int):=by omega
 refine ⟨ns[k.toNat],?_⟩
 have q:atI (ns.map W.int) ((k.toNat:Nat):Int)=some (.int ns[k.toNat]):=ZlV (by rw [List.getElem?_map,List.getElem?_eq_getElem hk] <;> rfl)
 rw [← ek] at q
 exact q
def Zu3:Spw:=fun ws G Q _=>∃ (ns:List Int) (k:Int),ws=[.rol (ns.map W.int),.int k]∧0≤k∧∀ v:Int,Q (.int v) G
theorem ZsD:Spw.M Zu3:=(by rintro ws G Q Q' E E' h _ ⟨ns,k,h1,h2,q⟩;exact ⟨ns,k,h1,h2,fun v=>h _ _ (q v)⟩)
theorem Zc9 (T:Tx K mg base a):Df P w K mg base "_law_cell_at" 1 2 Zu3:=by
 refine mk0 T.Zkf rfl Zf3 ZsD ((by rintro ws G Q E ⟨ns,k,e,_⟩;rw [e];rfl)) (Zks T) fun ws G Q E hC q=>?_
 obtain ⟨ns,k,rfl,h0,q⟩:=q
 unfold Zgx
 show Zat _ _ (ZaE Q) [some (.rol (ns.map W.int)),some (.int k)] G
 by_cases hk:k < ((ns.map W.int).length:Int)
 ·obtain ⟨v,e⟩:=Zs3 h0 (by simpa using hk)
  simp only [Zat,gIf,gTB,Zai,Zfy,gB,rF,Zhd,Zkp,L3.Zaa,L3.Zaj,Zab,List.getElem?_cons_zero,List.getElem?_cons_succ,Zac,hk,decide_true,if_true,Zak,ixW,e,Zay]
  exact q v
 ·simp only [Zat,gIf,gTB,Zai,Zfy,gB,rF,Zhd,Zkp,L3.Zaa,L3.Zaj,Zab,List.getElem?_cons_zero,List.getElem?_cons_succ,Zac,hk,decide_false,Bool.false_eq_true,if_false,Zam,Zay,gC]
  exact q 0
def ZqM:Spw:=fun ws G Q _=>∃ (ns:List Int) (k:Int),ws=[.rol (ns.map W.int),.int k]∧0≤k∧∀ p (x:Int) (b:Bool),G p=none→Q (.ref p) (put G p (.lst [.int x,.bl b]))
theorem ZrJ:Spw.M ZqM:=(by rintro ws G Q Q' E E' h _ ⟨ns,k,h1,h2,q⟩;exact ⟨ns,k,h1,h2,fun p x y hp=>h _ _ (q p x y hp)⟩)
theorem ZuW:Zyr 10 18:=⟨by decide,by decide,by decide⟩
theorem ZaT (T:Tx K mg base a):Df P w K mg base "_law_state" 2 2 ZqM:=by
 refine mk0 (k:=1) T.ZmY rfl Zis ZrJ ((by rintro ws G Q E ⟨ns,k,e,_⟩;rw [e];rfl)) (Znw T (Zc9 T) (Nat.le_refl _)) fun ws G Q E hC q=>?_
 obtain ⟨ns,k,rfl,h0,q⟩:=q
 unfold ZiL
 show Zat _ _ (ZaE Q) [some (.rol (ns.map W.int)),some (.int k),none] G
 refine ⟨ns,k,rfl,h0,fun v=>?_⟩
 walk_at "rd"
 refine ⟨ZuW,?_⟩
 refine ZAv (fun h=>?_) (fun h=>?_)
 ·exact ⟨ZuW,trivial,by decide,fun p hp=>q p _ _ hp⟩
 ·exact ⟨by decide,by decide,fun p hp=>q p _ _ hp⟩
def ZeR:Spw:=fun ws G Q _=>∃ (s:Addr) (m x:Int) (b:Bool) (l:List W),ws=[.ref s,.int m]∧0 < m∧m < 1073741824∧G s=some (.lst (.int x::.bl b::l))∧∀ r x':Int,0≤r→r < m→Q (.int r) (put G s (.lst (.int x'::.bl b::l)))
theorem ZsP:Spw.M ZeR:=(by rintro ws G Q Q' E E' h _ ⟨s,m,x,b,l,h1,h2,h3,h4,q⟩;exact ⟨s,m,x,b,l,h1,h2,h3,h4,fun r x' z1 z2=>h _ _ (q r x' z1 z2)⟩)
theorem ZzK (n:Nat):ixN (n+1) 0=some 0:=by unfold ixN;rw [if_pos (Int.le_refl 0),if_pos (by omega)];rfl
theorem ZAJ (n:Nat):ixN (n+3) 2=some 2:=by unfold ixN;rw [if_pos (by decide),if_pos (by omega)];rfl
theorem Zrn {G:Hw} {s:Addr} {x v:W} {l:List W} {Q:Hw→Prop} (h:G s=some (.lst (x::l))) (q:Q (put G s (.lst (v::l)))):Zkh (.ref s) (.int 0) v G Q:=Zl9 h (ZzK l.length) q
theorem Zqs {G:Hw} {s:Addr} {x y z v:W} {Q:Hw→Prop} (h:G s=some (.lst [x,y,z])) (q:Q (put G s (.lst [x,y,v]))):Zkh (.ref s) (.int 2) v G Q:=Zl9 h (ZAJ 0) q
theorem ix0 {G:Hw} {s:Addr} {x:W} {l:List W} (h:G s=some (.lst (x::l))):ixW (.ref s) (.int 0) G=some x:=by rw [Zes h];exact ZcZ
theorem ix1 {G:Hw} {s:Addr} {x y:W} {l:List W} (h:G s=some (.lst (x::y::l))):ixW (.ref s) (.int 1) G=some y:=by rw [Zes h];exact ZbV
theorem ix2 {G:Hw} {s:Addr} {x y z:W} {l:List W} (h:G s=some (.lst (x::y::z::l))):ixW (.ref s) (.int 2) G=some z:=by rw [Zes h];exact Zcz
theorem ZrK {x m:Int} (h0:0≤x) (h1:x < m) (hm:m≤2147483647):-(2 ^ 64) < x∧x < 2 ^ 64:=by
 have:(2:Int) ^ 64=18446744073709551616:=by decide
 rw [this];omega
theorem Zan (T:Tx K mg base a):Df P w K mg base "_law_choice" 1 2 ZeR:=by
 refine mk0 T.Zlu rfl Zg7 ZsP ((by rintro ws G Q E ⟨s,m,x,b,l,e,_⟩;rw [e];rfl)) (ZlA T) fun ws G Q E hC q=>?_
 obtain ⟨s,m,x,b,l,rfl,hm0,hm1,hs,q⟩:=q
 unfold Zho
 show Zat (gIf _ _ Zam) _ (ZaE Q) [some (.ref s),some (.int m),none,none] G
 simp only [Zat,gIf,Zdi,Zai,Zak,Zab,gC,List.getElem?_cons_zero,List.getElem?_cons_succ,ix1 hs,Zac,Ze0]
 cases b with
 | true =>
  simp only [if_true,Zat,Za9,ZdN,Zai,ZcR,Zak,Zab,gC,Zay,ZaE,List.getElem?_cons_zero,List.getElem?_cons_succ,List.set_cons_zero,List.set_cons_succ,ix0 hs,Zac]
  refine ⟨hm0,?_⟩
  refine ⟨⟨hm0,hm1⟩,?_⟩
  refine Zrn hs ?_
  exact q _ _ (Int.emod_nonneg _ (by omega)) (Int.emod_lt_of_pos _ hm0)
 | false =>
  simp only [Bool.false_eq_true,if_false,Zam,Zat,ZdN,Zai,ZcR,Zak,gC,Zab,List.getElem?_cons_zero,List.getElem?_cons_succ,ix0 hs,Zac,ZyV,ZgY,L3.ZgF]
  refine ⟨.inr ⟨by decide,by decide⟩,by decide,?_⟩
  refine Zrn hs ?_
  generalize hx2:(x*48271+29) % 2147483647=x2
  have b0:0≤x2:=by rw [← hx2];exact Int.emod_nonneg _ (by decide)
  have b1:x2 < 2147483647:=by rw [← hx2];exact Int.emod_lt_of_pos _ (by decide)
  have h2:put G s (.lst (.int x2::.bl false::l)) s=some (.lst (.int x2::.bl false::l)):=Zad
  simp only [Za9,Zai,ZcR,Zak,gC,Zab,List.getElem?_cons_zero,List.getElem?_cons_succ,List.set_cons_zero,List.set_cons_succ,ix0 h2,Zac,Zay,ZaE,ZyV,ZgY,L3.ZgF]
  refine ⟨.inl (ZrK b0 b1 (by decide)),.inl ⟨by decide,by decide⟩,by decide,?_⟩
  generalize hx3:(x2*x2+39373*x2+7) % 2147483629=x3
  have c0:0≤x3:=by rw [← hx3];exact Int.emod_nonneg _ (by decide)
  have c1:x3 < 2147483629:=by rw [← hx3];exact Int.emod_lt_of_pos _ (by decide)
  refine ⟨.inl (ZrK c0 c1 (by decide)),.inl ⟨by decide,by decide⟩,(show (0:Int) < 2147483587 by decide),?_⟩
  refine ⟨⟨by decide,by decide⟩,hm0,?_⟩
  exact q _ _ (Int.emod_nonneg _ (by omega)) (Int.emod_lt_of_pos _ hm0)
theorem ZlL {x:Str} {st:Stmt} {ps:List Str} {k:Nat} {sp:Spw} (Fx:Fn K mg st x ps) (m:sp.M) (no:∀ ws G Q E,¬ sp ws G Q E):Df P w K mg base x k ps.length sp:=by
 obtain ⟨f,fd,h1,F,h3⟩:=Fx
 exact ⟨⟨f,fd,_,h1,F.kp,h3,rfl,⟨(by rintro vs H Q E ⟨ws,G,t,r,q⟩;exact absurd q (no _ _ _ _)),(by rintro A outer s H args us vs Q E _ _ _ _ ⟨ws,G,t,r,q⟩;exact absurd q (no _ _ _ _))⟩⟩,m⟩
def ZAN:Spw:=fun _ _ _ _=>False
theorem Zux:Spw.M ZAN:=fun _ _ _ _ _ _ _ _ q=>q
theorem ZrR {G:Hw} {p:Addr} {xs:List W} {y:W} {Q:Kw} (hp:G p=some (.lst xs)) (hl:xs.length < sizeLine) (q:Q .non (put G p (.lst (xs++[y])))):Zsz (.ref p) [y] G Q:=by
 unfold Zsz
 refine Zn3 hp ?_ q
 rw [if_pos hl]
mutual
def Kd.thr:Kd→Bool
 | .to a b=>a.thr&&b.thr
 | .box a=>a.thr
 | .row fs _=>decide (fs.names.length≤5)&&fs.thr
 | _=>true
def Fs.thr:Fs→Bool
 | .nil=>true
 | .cons _ _ k r=>k.thr&&r.thr
end
def wf (k:Kd):Prop:=k.ok=true∧k.thr=true
def ZcP (x:Str×Bool×Kd):W:=.tup [.str x.1,.str (mark x.2.1),x.2.2.enc]
def ofL:List (Str×Bool×Kd)→Fs
 | []=>.nil
 | x::l=>.cons x.1 x.2.1 x.2.2 (ofL l)
theorem Ze7:∀ l,(ofL l).enc=l.map ZcP
 | []=>rfl
 | x::l=>by show ZcP x::(ofL l).enc=ZcP x::l.map ZcP;rw [Ze7 l]
theorem ZbL:∀ l,(ofL l).names=l.map (·.1)
 | []=>rfl
 | x::l=>by show x.1::(ofL l).names=x.1::l.map (·.1);rw [ZbL l]
theorem Znb {n:Nat}:∀ l:List (Str×Bool×Kd),(∀ y∈l,y.2.2.dp≤n)→(ofL l).dp≤n
 | [],_=>Nat.zero_le _
 | x::l,h=>by
  have h1:=h x List.mem_cons_self
  have h2:=Znb l fun y hy=>h y (List.mem_cons_of_mem _ hy)
  show max x.2.2.dp (ofL l).dp≤n;omega
theorem ZuP:∀ l:List (Str×Bool×Kd),(∀ y∈l,Zcw y.1=true∧wf y.2.2)→(ofL l).ok=true∧(ofL l).thr=true
 | [],_=>⟨rfl,rfl⟩
 | x::l,h=>by
  obtain ⟨h1,h2,h3⟩:=h x List.mem_cons_self
  obtain ⟨i1,i2⟩:=ZuP l fun y hy=>h y (List.mem_cons_of_mem _ hy)
  constructor
  ·show (Zcw x.1&&x.2.2.ok&&(ofL l).ok)=true
   rw [h1,h2,i1];rfl
  ·show (x.2.2.thr&&(ofL l).thr)=true
   rw [h3,i2];rfl
theorem Zsg:∀ (l l2:List (Str×Bool×Kd)),(ofL (l++l2)).cnt=(ofL l).cnt+(ofL l2).cnt
 | [],l2=>by show (ofL l2).cnt=0+(ofL l2).cnt;omega
 | x::l,l2=>by show x.2.2.cnt+(ofL (l++l2)).cnt=x.2.2.cnt+(ofL l).cnt+(ofL l2).cnt;rw [Zsg l l2];omega
theorem ZnK:∀ {ns:List Str},ns.Pairwise (fun x y=>ZaY x y=true)→Zm2 ns=true
 | [],_=>rfl
 | [_],_=>rfl
 | x::y::r,h=>by
  show (ZaY x y&&Zm2 (y::r))=true
  cases h with
  | cons h1 h2=>rw [h1 y List.mem_cons_self,ZnK h2];rfl
theorem ZuC {l:List (Str×Bool×Kd)} {o:Bool} (h1:(l.map (·.1)).Pairwise (fun x y=>ZaY x y=true)) (h2:l.length≤5) (h3:∀ y∈l,Zcw y.1=true∧wf y.2.2):wf (.row (ofL l) o):=by
 obtain ⟨i1,i2⟩:=ZuP l h3
 constructor
 ·show (Zm2 (ofL l).names&&(ofL l).ok)=true
  rw [ZbL,ZnK h1,i1];rfl
 ·show (decide ((ofL l).names.length≤5)&&(ofL l).thr)=true
  rw [ZbL,List.length_map,decide_eq_true h2,i2];rfl
theorem Zwd {x y:Kd} (hx:wf x) (hy:wf y):wf (.to x y):=⟨by show (x.ok&&y.ok)=true;rw [hx.1,hy.1];rfl,by show (x.thr&&y.thr)=true;rw [hx.2,hy.2];rfl⟩
theorem ZrN {x:Kd} (hx:wf x):wf (.box x):=⟨hx.1,hx.2⟩
def gk (d c:Int) (k:Kd):Prop:=wf k∧(k.dp:Int)≤d∧(k.cnt:Int)≤max c 1+(d - 1)∧(c≤2→k.cnt=1)
def Zl7 (n:Nat):Spw:=fun ws G Q _=>∃ (s:Addr) (x d c:Int) (b pl kn:Bool),ws=[.ref s,.int d,.bl pl,.bl kn]∧1≤d∧d≤(n:Int)+1∧G s=some (.lst [.int x,.bl b,.int c])∧∀ (k:Kd) (x':Int),gk d c k→Q k.enc (put G s (.lst [.int x',.bl b,.int (c - k.cnt)]))
theorem ZrW {n:Nat}:Spw.M (Zl7 n):=(by rintro ws G Q Q' E E' h _ ⟨s,x,d,c,b,pl,kn,h1,h2,h3,h4,q⟩;exact ⟨s,x,d,c,b,pl,kn,h1,h2,h3,h4,fun k x' g=>h _ _ (q k x' g)⟩)
def Zv2 (n:Nat):Spw:=fun ws G Q _=>∃ (s:Addr) (x d c:Int) (b pl kn:Bool),ws=[.ref s,.int d,.bl pl,.bl kn]∧2≤d∧d≤(n:Int)+2∧2≤c∧G s=some (.lst [.int x,.bl b,.int c])∧∀ (k:Kd) (x':Int),wf k→(k.dp:Int)≤d→1≤k.cnt→(k.cnt:Int)≤c+d - 1→Q k.enc (put G s (.lst [.int x',.bl b,.int (c+1 - k.cnt)]))
theorem Zvr {n:Nat}:Spw.M (Zv2 n):=(by rintro ws G Q Q' E E' h _ ⟨s,x,d,c,b,pl,kn,h1,h2,h3,h4,h5,q⟩;exact ⟨s,x,d,c,b,pl,kn,h1,h2,h3,h4,h5,fun k x' g1 g2 g3 g4=>h _ _ (q k x' g1 g2 g3 g4)⟩)
def Ztj (xs:List Str):Prop:=xs.Pairwise (fun x y=>ZaY x y=true)∧(∀ x∈xs,Zcw x=true)∧xs.length≤5
abbrev gRB (sp:Spw):GS:=(gIf (ZeU (gTB (Zai (Zak (eqF false)) (Zae ZeR XF (L3.Zaa (Zab 0) (L3.Zaa (gC (.int 2)) L3.Zaj))) (gC (.int 1)))) (gTB (Zai (Zhe fun i j=>decide (j < i)) (Zai (Zak ixW) (Zab 0) (gC (.int 2))) (gC (.int 0))))) (Zat (Za9 7 (Zai (Zak ixW) (Zdb (L3.Zaa (gC (.str "must")) (L3.Zaa (gC (.str "may")) L3.Zaj))) (Zae ZeR XF (L3.Zaa (Zab 0) (L3.Zaa (gC (.int 2)) L3.Zaj))))) (Zbs (gMt ZhP Zsz (Zab 4) (L3.Zaa (L3.ZaQ (L3.Zaa (Zab 6) (L3.Zaa (Zab 7) (L3.Zaa (Zae sp XF (L3.Zaa (Zab 0) (L3.Zaa (Zai (ZcR (fun _ _=>True) fun i j=>i - j) (Zab 1) (gC (.int 1))) (L3.Zaa (Zab 2) (L3.Zaa (Zab 3) L3.Zaj))))) L3.Zaj)))) L3.Zaj)))) Zam)
theorem Zqm {r:Int} (h0:0≤r) (h2:r < 2):∃ b:Bool,atI [W.str "must",W.str "may"] r=some (.str (mark b)):=by
 have:r=0∨r=1:=by omega
 rcases this with e | e
 ·exact ⟨true,by rw [e];exact ZcZ⟩
 ·exact ⟨false,by rw [e];exact ZbV⟩
theorem ZlO {n:Nat} {D:Ew} {s p q0:Addr} {d c:Int} {b pl kn:Bool} {items:List W} {w5:Option W} (hd1:2≤d) (hd2:d≤(n:Int)+2) (hc:2≤c):∀ (xs:List Str) (o6 o7:Option W) (G:Hw) (l:List (Str×Bool×Kd)) (x c0:Int),G s=some (.lst [.int x,.bl b,.int c0])→G p=some (.lst (l.map ZcP))→G q0=some (.lst items)→p≠s→q0≠s→q0≠p→l.length+xs.length≤100→c0=c - (ofL l).cnt→((ofL l).cnt:Int)≤c+d - 2 →
  (∀ ω G' l2 x',(∃ u v,ω=[some (.ref s),some (.int d),some (.bl pl),some (.bl kn),some (.ref p),w5,u,v])→G' s=some (.lst [.int x',.bl b,.int (c - (ofL (l++l2)).cnt)])→((ofL (l++l2)).cnt:Int)≤c+d - 2→G' p=some (.lst ((l++l2).map ZcP))→(∀ b,b≠s→b≠p→∀ u,G b=some u→G' b=some u)→(l2.map (·.1)).Sublist xs→(∀ z∈l2,wf z.2.2∧(z.2.2.dp:Int)≤d - 1)→D.nx ω G') →
  Zeh (holds q0 items) (gNm 6) (gRB (Zl7 n)) D (xs.map W.str) [some (.ref s),some (.int d),some (.bl pl),some (.bl kn),some (.ref p),w5,o6,o7] G
 | [],o6,o7,G,l,x,c0,hs,hp,hq,_,_,_,_,e0,e1,fin=>⟨hq,fin _ G [] x ⟨o6,o7,rfl⟩ (by rw [List.append_nil,← e0];exact hs) (by rw [List.append_nil];exact e1) (by rw [List.append_nil];exact hp) (fun b _ _ u h=>h) (.refl _) (by intro z hz;cases hz)⟩
 | nm::xs,o6,o7,G,l,x,c0,hs,hp,hq,nps,nqs,nqp,hl,e0,e1,fin=>by
  refine ⟨hq,?_⟩
  show gRB (Zl7 n) _ [some (.ref s),some (.int d),some (.bl pl),some (.bl kn),some (.ref p),w5,some (.str nm),o7] G
  have hlx:l.length+(xs.length+1)≤100:=hl
  simp only [gIf,ZeU,gTB,Zai,Zae,L3.Zaa,L3.Zaj,Zab,gC,Zak,List.getElem?_cons_zero,List.getElem?_cons_succ]
  refine ⟨s,2,x,b,[.int c0],rfl,by decide,by decide,hs,fun r x1 r0 r1=>?_⟩
  have g1s:put G s (.lst [.int x1,.bl b,.int c0]) s=some (.lst [.int x1,.bl b,.int c0]):=Zad
  have g1p:put G s (.lst [.int x1,.bl b,.int c0]) p=some (.lst (l.map ZcP)):=by rw [Zao nps];exact hp
  have g1q:put G s (.lst [.int x1,.bl b,.int c0]) q0=some (.lst items):=by rw [Zao nqs];exact hq
  have skip:∀ o7,Zeh (holds q0 items) (gNm 6) (gRB (Zl7 n)) D (xs.map W.str) [some (.ref s),some (.int d),some (.bl pl),some (.bl kn),some (.ref p),w5,some (.str nm),o7] (put G s (.lst [.int x1,.bl b,.int c0])):=fun o7=>by
   refine ZlO hd1 hd2 hc xs _ _ _ l x1 c0 g1s g1p g1q nps nqs nqp (by omega) e0 e1 ?_
   intro ω G' l2 x' hω f1 f1' f2 f3 f4 f5
   exact fin ω G' l2 x' hω f1 f1' f2 (fun c c1 c2 u hu=>f3 c c1 c2 u (by rw [Zao c1];exact hu)) (f4.cons nm) f5
  show opt (eqF false (.int r) (.int 1) (put G s (.lst [.int x1,.bl b,.int c0]))) _
  rw [show eqF false (.int r) (.int 1) (put G s (.lst [.int x1,.bl b,.int c0]))=some (.bl (r==1)) by unfold eqF eqW;show some (W.bl ((r==1) != false))=_;cases (r==1) <;> rfl,Zac]
  dsimp only
  cases (r==1) with
  | false=>exact skip _
  | true =>
   rw [if_pos rfl,ix2 g1s,Zac]
   show if decide (0 < c0)=true then _ else _
   by_cases h0:0 < c0
   ·rw [if_pos (decide_eq_true h0)]
    simp only [Zat,Za9,Zai,Zdb,Zae,L3.Zaa,L3.Zaj,Zab,gC,Zak,List.getElem?_cons_zero,List.getElem?_cons_succ]
    refine ⟨(show 2≤sizeLine by decide),fun p2 hp2=>?_⟩
    have n2:s≠p2:=ZaP g1s hp2
    have n3:p≠p2:=ZaP g1p hp2
    have n4:q0≠p2:=ZaP g1q hp2
    refine ⟨s,2,x1,b,[.int c0],rfl,by decide,by decide,by rw [Zao n2];exact g1s,fun r2 x2 r20 r21=>?_⟩
    obtain ⟨m,em⟩:=Zqm r20 r21
    have fm:ixW (.ref p2) (.int r2) (put (put (put G s (.lst [.int x1,.bl b,.int c0])) p2 (.lst [.str "must",.str "may"])) s (.lst [.int x2,.bl b,.int c0]))=some (.str (mark m)):=by
     rw [Zes (by rw [Zao (Ne.symm n2)];exact Zad)];exact em
    rw [fm,Zac]
    simp only [Zbs,gMt,L3.ZaQ,Zai,Zae,ZcR,L3.Zaa,L3.Zaj,Zab,gC,List.set_cons_zero,List.set_cons_succ,List.getElem?_cons_zero,List.getElem?_cons_succ]
    have g3p:put (put (put G s (.lst [.int x1,.bl b,.int c0])) p2 (.lst [.str "must",.str "may"])) s (.lst [.int x2,.bl b,.int c0]) p=some (.lst (l.map ZcP)):=by rw [Zao nps,Zao n3];exact g1p
    refine ⟨Zhz g3p,trivial,s,x2,d - 1,c0,b,pl,kn,rfl,by omega,by omega,Zad,fun k x3 hk=>?_⟩
    refine ⟨(show 3≤sizeLine by decide),?_⟩
    refine ZrR (by rw [Zao nps];exact g3p) (by rw [List.length_map];exact ZiS (by omega)) ?_
    have ee:l.map ZcP++[W.tup [.str nm,.str (mark m),k.enc]]=(l++[(nm,m,k)]).map ZcP:=by rw [List.map_append];rfl
    rw [ee]
    have ec:(ofL (l++[(nm,m,k)])).cnt=(ofL l).cnt+k.cnt:=by rw [Zsg];rfl
    have hk3:=hk.2.2.1
    refine ZlO hd1 hd2 hc xs _ _ _ (l++[(nm,m,k)]) x3 (c0 - k.cnt) (by rw [Zao (Ne.symm nps)];exact Zad) Zad ?_ nps nqs nqp (by rw [List.length_append];simp only [List.length_cons,List.length_nil];omega) (by rw [ec];omega) (by rw [ec];omega) ?_
    ·rw [Zao nqp,Zao nqs,Zao nqs,Zao n4];exact g1q
    ·intro ω G' l2 x' hω f1 f1' f2 f3 f4 f5
     rw [List.append_assoc] at f1 f1' f2
     refine fin ω G' ((nm,m,k)::l2) x' hω f1 f1' f2 (fun c c1 c2 u hu=>f3 c c1 c2 u ?_) (f4.cons_cons nm) ?_
     ·have hc:put G s (.lst [.int x1,.bl b,.int c0]) c=some u:=by rw [Zao c1];exact hu
      rw [Zao c2,Zao c1,Zao c1,Zao (ZaP hc hp2)];exact hc
     ·intro z hz
      rcases List.mem_cons.mp hz with rfl | hz
      ·exact ⟨hk.1,hk.2.1⟩
      ·exact f5 z hz
   ·rw [if_neg (by simpa using h0)]
    exact skip _
theorem Zx9 {G G':Hw} {s p:Addr} {S:HW} (hp:G p=none) (h:∀ b,b≠s→b≠p→∀ u,G b=some u→G' b=some u) (hs:G' s=some S):Sub (put G s S) G':=fun b u hu=>by
 by_cases hb:b=s
 ·subst hb;rw [Zad] at hu;rw [hs];exact hu
 ·rw [Zao hb] at hu
  exact h b hb (fun e=>by subst e;rw [hp] at hu;cases hu) u hu
abbrev LA:List Str:=["a","ab","b","cab","zzzzzzzz"]
abbrev LB':List Str:=["any","in","inside","num","out"]
abbrev LC':List Str:=["aa","new","other","x","zz"]
theorem Zu6:Ztj LA:=⟨by decide +kernel,by decide +kernel,by decide⟩
theorem ZyZ:Ztj LB':=⟨by decide +kernel,by decide +kernel,by decide⟩
theorem Zyx:Ztj LC':=⟨by decide +kernel,by decide +kernel,by decide⟩
abbrev gRT (sp:Spw):GS:=Zat (ZfH (Zbl (Zai (Zak ixW) (Zab 5) (Zai (Zak ixW) (Zdb (L3.Zaa (gC (.int 0)) (L3.Zaa (gC (.int 0)) (L3.Zaa (gC (.int 1)) (L3.Zaa (gC (.int 2)) L3.Zaj))))) (Zae ZeR XF (L3.Zaa (Zab 0) (L3.Zaa (gC (.int 4)) L3.Zaj)))))) (gNm 6) (gRB sp)) (Zay (L3.ZaQ (L3.Zaa (gC (.str "row")) (L3.Zaa (gB (rF ZhY) (L3.Zaa (Zab 4) L3.Zaj)) (L3.Zaa (Zdj (Zai (Zak (eqF false)) (Zae ZeR XF (L3.Zaa (Zab 0) (L3.Zaa (gC (.int 2)) L3.Zaj))) (gC (.int 1))) (Zdo (Zab 3))) L3.Zaj)))))
theorem Zz7 {n:Nat} {G:Hw} {Q:Kw} {s p p3 p1 p2 p4:Addr} {x d c:Int} {b pl kn:Bool} (hC:Kw.C Q) (hd1:2≤d) (hd2:d≤(n:Int)+2) (hc:2≤c) (hs:G s=some (.lst [.int x,.bl b,.int c])) (hp:G p=some (.lst [])) (nps:p≠s)
  (h3:G p3=some (.lst [.ref p1,.ref p2,.ref p4])) (h1:G p1=some (.lst (LA.map W.str))) (h2:G p2=some (.lst (LB'.map W.str))) (h4:G p4=some (.lst (LC'.map W.str)))
  (q:∀ (k:Kd) (x':Int) G',wf k→(k.dp:Int)≤d→1≤k.cnt→(k.cnt:Int)≤c+d - 1→G' s=some (.lst [.int x',.bl b,.int (c+1 - k.cnt)])→(∀ b,b≠s→b≠p→∀ u,G b=some u→G' b=some u)→Q k.enc G') :
  gRT (Zl7 n) (ZaE Q) [some (.ref s),some (.int d),some (.bl pl),some (.bl kn),some (.ref p),some (.ref p3),none,none] G:=by
 unfold gRT
 simp only [Zat,ZfH,Zbl,Zai,Zdb,Zae,L3.Zaa,L3.Zaj,Zab,gC,Zak,List.getElem?_cons_zero,List.getElem?_cons_succ]
 refine ⟨(show 4≤sizeLine by decide),fun p5 e5=>?_⟩
 have nsl:∀ {r:Addr} {L:List W},G r=some (.lst L)→L.length≠3→r≠s:=fun h hne e=>by
  subst e;rw [hs] at h;cases h;exact hne rfl
 have n5:s≠p5:=ZaP hs e5
 refine ⟨s,4,x,b,[.int c],rfl,by decide,by decide,by rw [Zao n5];exact hs,fun r x1 r0 r1=>?_⟩
 have keep:∀ a,a≠s→∀ u,G a=some u→put (put G p5 (.lst [.int 0,.int 0,.int 1,.int 2])) s (.lst [.int x1,.bl b,.int c]) a=some u:=fun a ha u hu=>by
  rw [Zao ha,Zao (ZaP hu e5)];exact hu
 have f5:put (put G p5 (.lst [.int 0,.int 0,.int 1,.int 2])) s (.lst [.int x1,.bl b,.int c]) p5=some (.lst [.int 0,.int 0,.int 1,.int 2]):=by rw [Zao (Ne.symm n5)];exact Zad
 have fs:put (put G p5 (.lst [.int 0,.int 0,.int 1,.int 2])) s (.lst [.int x1,.bl b,.int c]) s=some (.lst [.int x1,.bl b,.int c]):=Zad
 have n3:p3≠s:=fun e=>by
  subst e;rw [hs] at h3
  have:=HW.lst.inj (Option.some.inj h3)
  cases this
 generalize put (put G p5 (.lst [.int 0,.int 0,.int 1,.int 2])) s (.lst [.int x1,.bl b,.int c])=G1 at keep f5 fs ⊢
 have pick:∃ (pn:Addr) (L:List Str),Ztj L∧(∃ j:Int,atI [W.int 0,.int 0,.int 1,.int 2] r=some (.int j)∧atI [W.ref p1,.ref p2,.ref p4] j=some (.ref pn))∧G pn=some (.lst (L.map W.str))∧L.length≠3∧L≠[]:=by
  have:r=0∨r=1∨r=2∨r=3:=by omega
  rcases this with rfl | rfl | rfl | rfl
  ·exact ⟨p1,LA,Zu6,⟨0,rfl,rfl⟩,h1,by decide,by decide⟩
  ·exact ⟨p1,LA,Zu6,⟨0,rfl,rfl⟩,h1,by decide,by decide⟩
  ·exact ⟨p2,LB',ZyZ,⟨1,rfl,rfl⟩,h2,by decide,by decide⟩
  ·exact ⟨p4,LC',Zyx,⟨2,rfl,rfl⟩,h4,by decide,by decide⟩
 obtain ⟨pn,L,gL,⟨j,ej1,ej2⟩,hn,hl3,hl0⟩:=pick
 show opt (ixW (.ref p5) (.int r) G1) _
 rw [Zes f5,ej1,Zac,Zes (keep p3 n3 _ h3),ej2,Zac]
 have npn:pn≠s:=nsl hn (by rw [List.length_map];exact hl3)
 have npp:pn≠p:=fun e=>by
  subst e;rw [hp] at hn
  have:=HW.lst.inj (Option.some.inj hn)
  cases L with
  | nil=>exact hl0 rfl
  | cons y L=>cases this
 simp only [keep pn npn _ hn]
 refine ZlO (n:=n) (c:=c) hd1 hd2 hc L none none G1 [] x1 c fs (keep p nps _ hp) (keep pn npn _ hn) nps npn npp (by have:=gL.2.2;simp only [List.length_nil];omega) (by show c=c - ((0:Nat):Int);omega) (by show ((0:Nat):Int)≤c+d - 2;omega) ?_
 intro ω G' l2 x' hω f1 f1' f2 f3 f4 f5'
 obtain ⟨u,v,rfl⟩:=hω
 rw [List.nil_append] at f1 f1' f2
 simp only [Zay,L3.ZaQ,gB,Zdj,Zdo,Zai,Zae,L3.Zaa,L3.Zaj,Zab,gC,Zak,rF,List.getElem?_cons_zero,List.getElem?_cons_succ]
 rw [show ZhY [.ref p] G'=some (.tup (l2.map ZcP)) by unfold ZhY;dsimp only;rw [ZhK f2];rfl,Zac]
 refine ⟨s,2,x',b,[.int (c - (ofL l2).cnt)],rfl,by decide,by decide,f1,fun r2 x2 _ _=>?_⟩
 have done:∀ o:Bool,3≤sizeLine∧Q (.tup [.str "row",.tup (l2.map ZcP),.bl o]) (put G' s (.lst [.int x2,.bl b,.int (c - (ofL l2).cnt)])):=fun o=>by
  refine ⟨by decide,?_⟩
  have hl5:l2.length≤5:=by have h1:=f4.length_le;rw [List.length_map] at h1;have:=gL.2.2;omega
  have wk:wf (.row (ofL l2) o):=ZuC (gL.1.sublist f4) hl5 fun y hy=>⟨gL.2.1 _ (f4.subset (List.mem_map_of_mem hy)),(f5' y hy).1⟩
  have ek:(Kd.row (ofL l2) o).cnt=1+(ofL l2).cnt:=rfl
  have hdp:(ofL l2).dp≤(d - 1).toNat:=Znb l2 fun y hy=>by have:=(f5' y hy).2;omega
  have ed:(Kd.row (ofL l2) o).dp=1+(ofL l2).dp:=rfl
  have:=q (.row (ofL l2) o) x2 (put G' s (.lst [.int x2,.bl b,.int (c - (ofL l2).cnt)])) wk (by rw [ed];omega) (by rw [ek];omega) (by rw [ek];omega) (by rw [Zad,ek,show c+1 - ((1+(ofL l2).cnt:Nat):Int)=c - (ofL l2).cnt by omega]) fun a h1 h2 u hu=>by
   rw [Zao h1];exact f3 a h1 h2 u (keep a h1 u hu)
  rw [show (Kd.row (ofL l2) o).enc=.tup [.str "row",.tup (l2.map ZcP),.bl o] by rw [← Ze7];rfl] at this
  exact this
 show opt (eqF false (.int r2) (.int 1) (put G' s (.lst [.int x2,.bl b,.int (c - (ofL l2).cnt)]))) _
 rw [show eqF false (.int r2) (.int 1) (put G' s (.lst [.int x2,.bl b,.int (c - (ofL l2).cnt)]))=some (.bl (r2==1)) by unfold eqF eqW;show some (W.bl ((r2==1) != false))=_;cases (r2==1) <;> rfl,Zac]
 dsimp only
 cases (r2==1) with
 | false=>exact done false
 | true=>rw [if_pos rfl];exact done (!kn)
theorem ZfD (T:Tx K mg base a) {m n:Nat} (hm:1≤m) (D:Df P w K mg base "_law_kind" m 4 (Zl7 n)):Df P w K mg base "_law_row" (m+1) 4 (Zv2 n):=by
 refine mk0 (k:=m) T.Zlj rfl ZkZ Zvr ((by rintro ws G Q E ⟨s,x,d,c,b,pl,kn,e,_⟩;rw [e];rfl)) (ZpW T (Zan T) hm D (Nat.le_refl _)) fun ws G Q E hC q=>?_
 obtain ⟨s,x,d,c,b,pl,kn,rfl,hd1,hd2,hc,hs,q⟩:=q
 unfold ZkT
 show Zat (Za9 4 (Zdb L3.Zaj)) _ (ZaE Q) [some (.ref s),some (.int d),some (.bl pl),some (.bl kn),none,none,none,none] G
 simp only [Zat,Za9,Zdb,L3.Zaa,L3.Zaj,gC,List.set_cons_zero,List.set_cons_succ]
 refine ⟨(show 0≤sizeLine by decide),fun p ep=>⟨(show 5≤sizeLine by decide),fun p1 e1=>⟨(show 5≤sizeLine by decide),fun p2 e2=>⟨(show 2≤sizeLine by decide),fun p3 e3=>?_⟩⟩⟩⟩
 have nps:p≠s:=Ne.symm (ZaP hs ep)
 have s0:Sub G (put G p (.lst [])):=Za0 ep
 have fp:put G p (.lst []) p=some (.lst []):=Zad
 generalize put G p (.lst [])=G0 at *
 have s1:Sub G0 (put G0 p1 (.lst [.str "a",.str "ab",.str "b",.str "cab",.str "zzzzzzzz"])):=Za0 e1
 have f1:put G0 p1 (.lst [.str "a",.str "ab",.str "b",.str "cab",.str "zzzzzzzz"]) p1=some (.lst (LA.map W.str)):=Zad
 generalize put G0 p1 (.lst [.str "a",.str "ab",.str "b",.str "cab",.str "zzzzzzzz"])=G1 at *
 have s2:Sub G1 (put G1 p2 (.lst [.str "any",.str "in",.str "inside",.str "num",.str "out"])):=Za0 e2
 have f2:put G1 p2 (.lst [.str "any",.str "in",.str "inside",.str "num",.str "out"]) p2=some (.lst (LB'.map W.str)):=Zad
 generalize put G1 p2 (.lst [.str "any",.str "in",.str "inside",.str "num",.str "out"])=G2 at *
 have s3:Sub G2 (put G2 p3 (.lst [.ref p1,.ref p2])):=Za0 e3
 have f3:put G2 p3 (.lst [.ref p1,.ref p2]) p3=some (.lst [.ref p1,.ref p2]):=Zad
 have e3':=e3
 generalize put G2 p3 (.lst [.ref p1,.ref p2])=G3 at s3 f3 ⊢
 simp only [Zbs,gMt,Zab,L3.Zaa,L3.Zaj,Zdb,gC,List.getElem?_cons_zero,List.getElem?_cons_succ]
 refine ⟨Zhz f3,(show 5≤sizeLine by decide),fun p4 e4=>?_⟩
 have s4:Sub G3 (put G3 p4 (.lst [.str "aa",.str "new",.str "other",.str "x",.str "zz"])):=Za0 e4
 have f4:put G3 p4 (.lst [.str "aa",.str "new",.str "other",.str "x",.str "zz"]) p4=some (.lst (LC'.map W.str)):=Zad
 generalize put G3 p4 (.lst [.str "aa",.str "new",.str "other",.str "x",.str "zz"])=G4 at s4 f4 ⊢
 refine ZrR (s4 _ _ f3) (show 2 < sizeLine by decide) ?_
 have S2:Sub G G2:=(s0.trans s1).trans s2
 have n3:∀ {r:Addr} {o:HW},G2 r=some o→r≠p3:=fun h=>ZaP h e3'
 have keep:∀ r o,G2 r=some o→put G4 p3 (.lst ([.ref p1,.ref p2]++[.ref p4])) r=some o:=fun r o h=>by rw [Zao (n3 h)];exact s4 _ _ (s3 _ _ h)
 have n43:p4≠p3:=fun e=>by subst e;rw [f3] at e4;cases e4
 refine Zz7 (x:=x) hC hd1 hd2 hc (keep _ _ (S2 _ _ hs)) (keep _ _ (s2 _ _ (s1 _ _ fp))) nps Zad (keep _ _ (s2 _ _ f1)) (keep _ _ f2) (by rw [Zao n43];exact f4) fun k x' G' w1 w2 w3 w4 hG hk=>?_
 refine hC _ _ _ (Zx9 ep (fun r h1 h2 u hu=>hk r h1 h2 u (keep _ _ (S2 _ _ hu))) hG) (q k x' w1 w2 w3 w4)
theorem Zvm {r:Int} (h0:0≤r) (h6:r < 3):∃ k:Kd,(k=.any∨k=.num∨k=.truth)∧atI [W.tup [.str "num"],W.tup [.str "truth"],W.tup [.str "any"]] r=some k.enc:=by
 have:r=0∨r=1∨r=2:=by omega
 rcases this with e | e | e
 ·exact ⟨.num,.inr (.inl rfl),by rw [e];exact ZcZ⟩
 ·exact ⟨.truth,.inr (.inr rfl),by rw [e];exact ZbV⟩
 ·exact ⟨.any,.inl rfl,by rw [e];exact Zcz⟩
theorem ZrZ {k:Kd} (h:k=.any∨k=.num∨k=.truth):wf k∧k.dp=1∧k.cnt=1:=by rcases h with rfl | rfl | rfl <;> exact ⟨⟨rfl,rfl⟩,rfl,rfl⟩
abbrev gLf:GS:=(Zat (Za9 5 (Zdb (L3.Zaa (L3.ZaQ (L3.Zaa (gC (.str "num")) L3.Zaj)) (L3.Zaa (L3.ZaQ (L3.Zaa (gC (.str "truth")) L3.Zaj)) (L3.Zaa (L3.ZaQ (L3.Zaa (gC (.str "any")) L3.Zaj)) L3.Zaj))))) (Zay (Zai (Zak ixW) (Zab 5) (Zae ZeR XF (L3.Zaa (Zab 0) (L3.Zaa (Zai (ZcR (fun _ _=>True) fun i j=>i - j) (gC (.int 3)) (gB (rF Zq3) (L3.Zaa (Zab 3) L3.Zaj))) L3.Zaj))))))
theorem ZAP {G:Hw} {Q:Kw} {D:Ew} (hD:D.rt=Q) {s:Addr} {x c:Int} {b kn:Bool} {w1 w2 w4:Option W} (hC:Kw.C Q) (hs:G s=some (.lst [.int x,.bl b,.int c])) (q:∀ (k:Kd) (x':Int),(k=.any∨k=.num∨k=.truth)→Q k.enc (put G s (.lst [.int x',.bl b,.int c]))) :
  gLf D [some (.ref s),w1,w2,some (.bl kn),w4,none] G:=by
 unfold gLf
 simp only [Zat,Za9,Zay,Zdb,L3.ZaQ,Zai,Zae,gB,rF,L3.Zaa,L3.Zaj,Zab,gC,Zak,ZcR,List.set_cons_zero,List.set_cons_succ,List.getElem?_cons_zero,List.getElem?_cons_succ]
 refine ⟨by decide,by decide,by decide,by decide,fun p hp=>?_⟩
 have ei:Zq3 [.bl kn] (put G p (.lst [.tup [.str "num"],.tup [.str "truth"],.tup [.str "any"]]))=some (.int (if kn then 1 else 0)):=by cases kn <;> rfl
 rw [ei,Zac]
 have n:s≠p:=ZaP hs hp
 refine ⟨trivial,s,_,x,b,[.int c],rfl,by cases kn <;> decide,by cases kn <;> decide,by rw [Zao n];exact hs,fun r x1 r0 r1=>?_⟩
 have r3:r < 3:=by cases kn with | true=>have:r < 3 - 1:=r1;omega | false=>have:r < 3 - 0:=r1;omega
 obtain ⟨k,hk,ek⟩:=Zvm r0 r3
 show opt (ixW (.ref p) (.int r) _) _
 rw [Zes (by rw [Zao (Ne.symm n)];exact Zad),ek,Zac,hD]
 refine hC _ _ _ (fun a o h=>?_) (q k x1 hk)
 by_cases ha:a=s
 ·subst ha;rw [Zad] at h ⊢;exact h
 ·rw [Zao ha] at h ⊢;rw [Zao (ZaP h hp)];exact h
theorem Zwc {d c:Int} {k:Kd} (hd:1≤d) (h:k=.any∨k=.num∨k=.truth):gk d c k:=by
 obtain ⟨w,e1,e2⟩:=ZrZ h
 exact ⟨w,by omega,by omega,fun _=>e2⟩
theorem Zrm {n:Nat} {spK spR':Spw} {ws:List W} {G:Hw} {Q:Kw} {E:Addr→Hw→Prop} (hC:Kw.C Q) (q:Zl7 n ws G Q E) (hK:n=0∨∃ m,n=m+1∧spK=Zl7 m∧spR'=Zv2 m):ZgX ZeR spK spR' (ZaE Q) (Zbw Zg1 ws) G:=by
 obtain ⟨s,x,d,c,b,pl,kn,rfl,hd1,hd2,hs,q⟩:=q
 unfold ZgX
 show Zat (ZdN _ _ _) _ (ZaE Q) [some (.ref s),some (.int d),some (.bl pl),some (.bl kn),none,none] G
 simp only [Zat,ZdN,Zai,ZcR,Zak,Zab,gC,List.getElem?_cons_zero,List.getElem?_cons_succ,ix2 hs,Zac]
 refine ⟨trivial,Zqs hs ?_⟩
 have h1:put G s (.lst [.int x,.bl b,.int (c - 1)]) s=some (.lst [.int x,.bl b,.int (c - 1)]):=Zad
 simp only [Za9,Zae,L3.Zaa,L3.Zaj,Zab,gC,List.getElem?_cons_zero,List.getElem?_cons_succ]
 refine ⟨s,8,x,b,[.int (c - 1)],rfl,by decide,by decide,h1,fun r x1 r0 r8=>?_⟩
 rw [Zbf]
 have h2:put G s (.lst [.int x1,.bl b,.int (c - 1)]) s=some (.lst [.int x1,.bl b,.int (c - 1)]):=Zad
 walk_at "pg"
 have leaf:gLf { ZaE Q with nx:=(fun _ _=>False) } [some (.ref s),some (.int d),some (.bl pl),some (.bl kn),some (.int r),none] (put G s (.lst [.int x1,.bl b,.int (c - 1)])):=by
  refine ZAP (Q:=Q) rfl hC h2 fun k x2 hk=>?_
  rw [Zbf]
  have:=q k x2 (Zwc hd1 hk)
  rw [(ZrZ hk).2.2] at this
  exact this
 have gif:∀ {t:GT} {Zbm:GS} {b':Bool},(∀ R:Bool→Hw→Prop,R b' (put G s (.lst [.int x1,.bl b,.int (c - 1)]))→t [some (.ref s),some (.int d),some (.bl pl),some (.bl kn),some (.int r),none] (put G s (.lst [.int x1,.bl b,.int (c - 1)])) R)→(b'=false→Zbm (ZaE Q) [some (.ref s),some (.int d),some (.bl pl),some (.bl kn),some (.int r),none] (put G s (.lst [.int x1,.bl b,.int (c - 1)]))) →
   Zat (gIf t gLf Zam) Zbm (ZaE Q) [some (.ref s),some (.int d),some (.bl pl),some (.bl kn),some (.int r),none] (put G s (.lst [.int x1,.bl b,.int (c - 1)])):=by
  intro t Zbm b' ht hr
  refine ht _ ?_
  cases b' with
  | true=>exact leaf
  | false=>exact hr rfl
 refine gif (b':=decide (d < 2)||decide (c - 1 < 2)||decide (r < 2)) (fun R hR=>?_) fun hb=>?_
 ·simp only [gOr,gTB,Zai,Zfy,Zak,Zab,gC,List.getElem?_cons_zero,List.getElem?_cons_succ]
  by_cases z1:d < 2
  ·simp only [z1,decide_true,if_true,Bool.true_or] at hR ⊢;exact hR
  ·simp only [z1,decide_false,Bool.false_eq_true,if_false,Bool.false_or] at hR ⊢
   rw [ix2 h2,Zac]
   dsimp only
   by_cases z2:c - 1 < 2
   ·simp only [z2,decide_true,if_true,Bool.true_or] at hR ⊢;exact hR
   ·simp only [z2,decide_false,Bool.false_eq_true,if_false,Bool.false_or] at hR ⊢
    exact hR
 ·simp only [Bool.or_eq_false_iff,decide_eq_false_iff_not,Int.not_lt] at hb
  obtain ⟨⟨b1,b2⟩,b3⟩:=hb
  rcases hK with rfl | ⟨m,rfl,rfl,rfl⟩
  ·exact absurd hd2 (by omega)
  have two:∀ {t:GT} {B Zbm:GS} (b':Bool),(∀ R:Bool→Hw→Prop,R b' (put G s (.lst [.int x1,.bl b,.int (c - 1)]))→t [some (.ref s),some (.int d),some (.bl pl),some (.bl kn),some (.int r),none] (put G s (.lst [.int x1,.bl b,.int (c - 1)])) R)→B { ZaE Q with nx:=Zbm (ZaE Q) } [some (.ref s),some (.int d),some (.bl pl),some (.bl kn),some (.int r),none] (put G s (.lst [.int x1,.bl b,.int (c - 1)]))→Zbm (ZaE Q) [some (.ref s),some (.int d),some (.bl pl),some (.bl kn),some (.int r),none] (put G s (.lst [.int x1,.bl b,.int (c - 1)])) →
    Zat (gIf t B Zam) Zbm (ZaE Q) [some (.ref s),some (.int d),some (.bl pl),some (.bl kn),some (.int r),none] (put G s (.lst [.int x1,.bl b,.int (c - 1)])):=by
   intro t B Zbm b' ht h1 h2
   refine ht _ ?_
   cases b' with
   | true=>exact h1
   | false=>exact h2
  refine two (decide (r < 4)&&!pl) (fun R hR=>?_) ?_ ?_
  ·simp only [ZeU,gTB,gNt,Zdi,Zai,Zfy,Zab,gC,List.getElem?_cons_zero,List.getElem?_cons_succ]
   by_cases z:r < 4
   ·simp only [z,decide_true,if_true,Bool.true_and,Ze0] at hR ⊢;exact hR
   ·simp only [z,decide_false,Bool.false_eq_true,if_false,Bool.false_and] at hR ⊢;exact hR
  ·simp only [Zay,L3.ZaQ,Zae,Zai,ZcR,L3.Zaa,L3.Zaj,Zab,gC,List.getElem?_cons_zero,List.getElem?_cons_succ]
   refine ⟨trivial,s,x1,d - 1,c - 1,b,pl,kn,rfl,by omega,by omega,h2,fun k1 x2 g1=>?_⟩
   refine ⟨trivial,s,x2,d - 1,c - 1 - k1.cnt,b,pl,kn,rfl,by omega,by omega,Zad,fun k2 x3 g2=>⟨(show 3≤sizeLine by decide),?_⟩⟩
   rw [Zbf,Zbf]
   have ek:(Kd.to k1 k2).cnt=1+(k1.cnt+k2.cnt):=rfl
   have ed:(Kd.to k1 k2).dp=1+max k1.dp k2.dp:=rfl
   obtain ⟨u1,u2,u3,u4⟩:=g1
   obtain ⟨v1,v2,v3,v4⟩:=g2
   have:=q (.to k1 k2) x3 ⟨Zwd u1 v1,by rw [ed];omega,by rw [ek];by_cases z:c - 1 - (k1.cnt:Int)≤2 <;> omega,fun z=>absurd z (by omega)⟩
   rw [ek] at this
   rw [show c - 1 - (k1.cnt:Int) - k2.cnt=c - ((1+(k1.cnt+k2.cnt):Nat):Int) by omega]
   exact this
  ·refine two ((r==4)&&!pl) (fun R hR=>?_) ?_ ?_
   ·simp only [ZeU,gTB,gNt,Zdi,Zai,Zak,Zab,gC,List.getElem?_cons_zero,List.getElem?_cons_succ]
    show opt (eqF false (.int r) (.int 4) (put G s (.lst [.int x1,.bl b,.int (c - 1)]))) _
    rw [show eqF false (.int r) (.int 4) (put G s (.lst [.int x1,.bl b,.int (c - 1)]))=some (.bl (r==4)) by unfold eqF eqW;show some (W.bl ((r==4) != false))=_;cases (r==4) <;> rfl,Zac]
    dsimp only
    cases hz:(r==4) with
    | true=>rw [hz] at hR;simp only [if_true,Bool.true_and,Ze0] at hR ⊢;exact hR
    | false=>rw [hz] at hR;simp only [Bool.false_eq_true,if_false,Bool.false_and] at hR ⊢;exact hR
   ·simp only [Zay,L3.ZaQ,Zae,Zai,ZcR,L3.Zaa,L3.Zaj,Zab,gC,List.getElem?_cons_zero,List.getElem?_cons_succ]
    refine ⟨trivial,s,x1,d - 1,c - 1,b,pl,kn,rfl,by omega,by omega,h2,fun k1 x2 g1=>⟨(show 2≤sizeLine by decide),?_⟩⟩
    rw [Zbf]
    have ek:(Kd.box k1).cnt=1+k1.cnt:=rfl
    have ed:(Kd.box k1).dp=1+k1.dp:=rfl
    obtain ⟨u1,u2,u3,u4⟩:=g1
    have:=q (.box k1) x2 ⟨ZrN u1,by rw [ed];omega,by rw [ek];omega,fun z=>absurd z (by omega)⟩
    rw [ek] at this
    rw [show c - 1 - (k1.cnt:Int)=c - ((1+k1.cnt:Nat):Int) by omega]
    exact this
   ·simp only [Zay,Zae,L3.Zaa,L3.Zaj,Zab,List.getElem?_cons_zero,List.getElem?_cons_succ]
    refine ⟨s,x1,d,c - 1,b,pl,kn,rfl,by omega,by omega,by omega,h2,fun k x2 w1 w2 w3 w4=>?_⟩
    rw [Zbf]
    have:=q k x2 ⟨w1,w2,by omega,fun z=>absurd z (by omega)⟩
    rw [show c - 1+1 - (k.cnt:Int)=c - k.cnt by omega]
    exact this
theorem Za6 (T:Tx K mg base a):∀ n:Nat,Df P w K mg base "_law_kind" (2*n+2) 4 (Zl7 n)
 | 0=>mk0 (k:=1) T.Zg0 rfl ZgT ZrW ((by rintro ws G Q E ⟨s,x,d,c,b,pl,kn,e,_⟩;rw [e];rfl)) (ZjN T (Zan T) (Nat.le_refl _) (ZlL (sp:=ZAN) (k:=0) T.Zg0 Zux fun _ _ _ _ h=>h) (by omega) (ZlL (sp:=ZAN) (k:=0) T.Zlj Zux fun _ _ _ _ h=>h) (by omega)) fun ws G Q E hC q=>Zrm hC q (.inl rfl)
 | n+1=>mk0 (k:=2*n+3) T.Zg0 rfl ZgT ZrW ((by rintro ws G Q E ⟨s,x,d,c,b,pl,kn,e,_⟩;rw [e];rfl)) (ZjN T (Zan T) (by omega) (Za6 T n) (by omega) (ZfD T (by omega) (Za6 T n)) (by omega)) fun ws G Q E hC q=>Zrm hC q (.inr ⟨n,rfl,rfl,rfl⟩)
def kd8 (k:Kd):Prop:=wf k∧k.cnt≤40∧k.dp≤8
def ZA9:Spw:=fun ws G Q _=>∃ (ns:List Int) (i:Int) (pl kn:Bool),ws=[.rol (ns.map W.int),.int i,.bl pl,.bl kn]∧0≤i∧∀ k:Kd,kd8 k→Q k.enc G
theorem Zzb:Spw.M ZA9:=(by rintro ws G Q Q' E E' h _ ⟨ns,i,pl,kn,h1,h2,q⟩;exact ⟨ns,i,pl,kn,h1,h2,fun k g=>h _ _ (q k g)⟩)
theorem Zer {G:Hw} {p:Addr} {o:HW} (h:G p=none) {G1:Hw} (s:Sub G G1):Sub G (put G1 p o):=fun a u hu=>by rw [Zao (ZaP hu h)];exact s _ _ hu
theorem Zb5 (T:Tx K mg base a):Df P w K mg base "_law_drawn_kind" 17 4 ZA9:=by
 refine mk0 (k:=16) T.ZhJ rfl Zep Zzb ((by rintro ws G Q E ⟨ns,i,pl,kn,e,_⟩;rw [e];rfl)) (Zh6 T (ZaT T) (by omega) (Zan T) (by omega) (Za6 T 7) (by omega)) fun ws G Q E hC q=>?_
 obtain ⟨ns,i,pl,kn,rfl,h0,q⟩:=q
 unfold ZeF
 show Zat (Za9 4 _) _ (ZaE Q) [some (.rol (ns.map W.int)),some (.int i),some (.bl pl),some (.bl kn),none,none] G
 simp only [Zat,Za9,Zai,Zae,Zdb,L3.Zaa,L3.Zaj,Zab,gC,List.getElem?_cons_zero,List.getElem?_cons_succ]
 refine ⟨ns,i,rfl,h0,fun p x b hp=>⟨(show 1≤sizeLine by decide),fun p1 e1=>?_⟩⟩
 have s0:Sub G (put G p (.lst [.int x,.bl b])):=Za0 hp
 have f0:put G p (.lst [.int x,.bl b]) p=some (.lst [.int x,.bl b]):=Zad
 generalize put G p (.lst [.int x,.bl b])=G0 at s0 f0 e1 ⊢
 have s1:Sub G0 (put G0 p1 (.lst [.int 9])):=Za0 e1
 have f1:put G0 p1 (.lst [.int 9]) p1=some (.lst [.int 9]):=Zad
 generalize put G0 p1 (.lst [.int 9])=G1 at s1 f1 ⊢
 rw [Zlv (by rintro ⟨⟨_,h⟩,_⟩;cases h)]
 unfold L3.ZgF
 simp only [s1 _ _ f0,f1]
 refine ⟨(show 3≤sizeLine by decide),fun s es=>?_⟩
 have S:Sub G G1:=s0.trans s1
 have hsG:G s=none:=by
  cases z:G s with
  | none=>rfl
  | some u=>rw [S _ _ z] at es;cases es
 have hs:put G1 s (.lst ([.int x,.bl b]++[.int 9])) s=some (.lst [.int x,.bl b,.int 9]):=Zad
 have S2:Sub G (put G1 s (.lst ([.int x,.bl b]++[.int 9]))):=Zer hsG S
 generalize put G1 s (.lst ([.int x,.bl b]++[.int 9]))=G2 at hs S2 ⊢
 simp only [List.set_cons_zero,List.set_cons_succ,gIf,gTB,Zai,Zae,Zak,L3.Zaa,L3.Zaj,Zab,gC,List.getElem?_cons_zero,List.getElem?_cons_succ]
 refine ⟨s,6,x,b,[.int 9],rfl,by decide,by decide,hs,fun r x1 r0 r1=>?_⟩
 have h3:put G2 s (.lst [.int x1,.bl b,.int 9]) s=some (.lst [.int x1,.bl b,.int 9]):=Zad
 show opt (eqF false (.int r) (.int 1) (put G2 s (.lst [.int x1,.bl b,.int 9]))) _
 rw [show eqF false (.int r) (.int 1) (put G2 s (.lst [.int x1,.bl b,.int 9]))=some (.bl (r==1)) by unfold eqF eqW;show some (W.bl ((r==1) != false))=_;cases (r==1) <;> rfl,Zac]
 dsimp only
 cases (r==1) with
 | false =>
  simp only [Bool.false_eq_true,if_false,Zam,Zay,Zae,L3.Zaa,L3.Zaj,Zab,List.getElem?_cons_zero,List.getElem?_cons_succ]
  refine ⟨s,x1,3,9,b,pl,kn,rfl,by decide,by decide,h3,fun k x2 g=>?_⟩
  obtain ⟨u1,u2,u3,_⟩:=g
  exact hC _ _ _ (Zer hsG (Zer hsG S2)) (q k ⟨u1,by omega,by omega⟩)
 | true =>
  simp only [if_true,Zat,ZdN,Za9,Zab,gC,List.getElem?_cons_zero,List.getElem?_cons_succ]
  refine Zqs h3 ?_
  simp only [List.set_cons_zero,List.set_cons_succ,Zay,Zae,L3.Zaa,L3.Zaj,Zab,List.getElem?_cons_zero,List.getElem?_cons_succ]
  refine ⟨s,x1,8,30,b,pl,kn,rfl,by decide,by decide,Zad,fun k x2 g=>?_⟩
  obtain ⟨u1,u2,u3,_⟩:=g
  exact hC _ _ _ (Zer hsG (Zer hsG (Zer hsG S2))) (q k ⟨u1,by omega,by omega⟩)
def Fs.find:Fs→Str→Option (Bool×Kd)
 | .nil,_=>none
 | .cons n m k r,x=>if n=x then some (m,k) else r.find x
inductive En where
 | free | nope | told (m:Bool) (k:Kd)
def En.enc:En→W
 | .free=>.tup [.str "free"]
 | .nope=>.tup [.str "none"]
 | .told m k=>.tup [.str (mark m),k.enc]
def ent (fs:Fs) (o:Bool) (x:Str):En:=match fs.find x with | some (m,k)=>.told m k | none=>if o then .free else .nope
def Zeq (f:Kd→Kd→Bool):En→En→Bool
 | .free,_=>true
 | .nope,.nope=>true
 | .told m k,.told m' k'=>m==m'&&f k k'
 | _,_=>false
def Zbn:Nat→Kd→Kd→Bool
 | 0,_,_=>false
 | _+1,.any,_=>true
 | _+1,.num,.num=>true
 | _+1,.truth,.truth=>true
 | n+1,.to a b,.to c d=>Zbn n a c&&Zbn n b d
 | n+1,.box a,.box b=>Zbn n a b
 | n+1,.row fs o,.row gs p=>!(p&&!o)&&(fs.names++gs.names).all fun x=>Zeq (Zbn n) (ent fs o x) (ent gs p x)
 | _+1,_,_=>false
theorem Zcg:∀ {fs:Fs} {x:Str} {m:Bool} {k:Kd},fs.find x=some (m,k)→k∈fs.kinds∧x∈fs.names
 | .nil,x,m,k,h=>by cases h
 | .cons n m' k' r,x,m,k,h=>by
  unfold Fs.find at h
  split at h
  ·rename_i e
   cases h
   subst e
   exact ⟨List.mem_cons_self,List.mem_cons_self⟩
  ·obtain ⟨h1,h2⟩:=Zcg h
   exact ⟨List.mem_cons_of_mem _ h1,List.mem_cons_of_mem _ h2⟩
theorem find_some:∀ {fs:Fs} {x:Str},x∈fs.names→∃ m k,fs.find x=some (m,k)
 | .nil,x,h=>by cases h
 | .cons n m' k' r,x,h=>by
  unfold Fs.find
  split
  ·exact ⟨m',k',rfl⟩
  ·rename_i e
   rcases List.mem_cons.mp h with z | z
   ·exact absurd z.symm e
   ·exact find_some z
theorem Znt (a:Str):ZaY a a=false:=by
 unfold ZaY
 exact decide_eq_false (List.lt_irrefl _)
theorem ZsV {a b c:Str} (h1:ZaY a b=true) (h2:ZaY b c=true):ZaY a c=true:=by
 unfold ZaY at h1 h2 ⊢
 exact decide_eq_true (List.lt_trans (of_decide_eq_true h1) (of_decide_eq_true h2))
theorem ZoZ:∀ {ns:List Str},Zm2 ns=true→ns.Pairwise (fun x y=>ZaY x y=true)
 | [],_=>.nil
 | [_],_=>.cons (fun _ h=>by cases h) .nil
 | x::y::r,h=>by
  have h':(ZaY x y&&Zm2 (y::r))=true:=h
  walk_at "pe"
  have ih:=ZoZ h'.2
  refine .cons (fun z hz=>?_) ih
  rcases List.mem_cons.mp hz with rfl | hz
  ·exact h'.1
  ·exact ZsV h'.1 ((List.pairwise_cons.mp ih).1 z hz)
theorem Zi2:∀ {xs ys:List Str},xs.Pairwise (fun x y=>ZaY x y=true)→ys.Pairwise (fun x y=>ZaY x y=true)→(∀ x,x∈xs↔x∈ys)→xs=ys
 | [],[],_,_,_=>rfl
 | [],y::ys,_,_,h=>by cases (h y).mpr List.mem_cons_self
 | x::xs,[],_,_,h=>by cases (h x).mp List.mem_cons_self
 | x::xs,y::ys,hx,hy,h=>by
  obtain ⟨a1,a2⟩:=List.pairwise_cons.mp hx
  obtain ⟨b1,b2⟩:=List.pairwise_cons.mp hy
  have e:x=y:=by
   rcases List.mem_cons.mp ((h x).mp List.mem_cons_self) with e | e
   ·exact e
   ·rcases List.mem_cons.mp ((h y).mpr List.mem_cons_self) with e' | e'
    ·exact e'.symm
    ·have:=ZsV (a1 y e') (b1 x e)
     rw [Znt] at this
     cases this
  subst e
  congr 1
  refine Zi2 a2 b2 fun z=>⟨fun hz=>?_,fun hz=>?_⟩
  ·rcases List.mem_cons.mp ((h z).mp (List.mem_cons_of_mem _ hz)) with e | e
   ·subst e;have:=a1 _ hz;rw [Znt] at this;cases this
   ·exact e
  ·rcases List.mem_cons.mp ((h z).mpr (List.mem_cons_of_mem _ hz)) with e | e
   ·subst e;have:=b1 _ hz;rw [Znt] at this;cases this
   ·exact e
theorem ZqL {fs:Fs} {o:Bool} (h:(Kd.row fs o).ok=true):fs.names.Pairwise (fun x y=>ZaY x y=true)∧∀ c∈fs.kinds,c.ok=true:=by
 have h':(Zm2 fs.names&&fs.ok)=true:=h
 walk_at "pe"
 exact ⟨ZoZ h'.1,ZgP h'.2⟩
theorem Zhn {fs:Fs} {o:Bool} {x:Str} (h:x∈fs.names):∃ m k,ent fs o x=.told m k∧fs.find x=some (m,k):=by
 obtain ⟨m,k,e⟩:=find_some h
 exact ⟨m,k,by unfold ent;rw [e],e⟩
theorem Zvg {fs:Fs} {x:Str} (h:x∉fs.names):fs.find x=none:=by
 cases e:fs.find x with
 | none=>rfl
 | some p=>exact absurd (Zcg (m:=p.1) (k:=p.2) e).2 h
theorem ZeW {fs:Fs} {o:Bool} {x:Str} (h:x∉fs.names):ent fs o x=if o then .free else .nope:=by
 unfold ent;rw [Zvg h]
theorem ZlM {n:Nat} {fs gs:Fs} {o p:Bool} (h:Zbn (n+1) (.row fs o) (.row gs p)=true):(p=true→o=true)∧∀ x,x∈fs.names∨x∈gs.names→Zeq (Zbn n) (ent fs o x) (ent gs p x)=true:=by
 have h':(!(p&&!o)&&(fs.names++gs.names).all fun x=>Zeq (Zbn n) (ent fs o x) (ent gs p x))=true:=h
 simp only [Bool.and_eq_true,List.all_eq_true,List.mem_append] at h'
 refine ⟨fun z=>?_,h'.2⟩
 subst z
 cases o with
 | true=>rfl
 | false=>exact absurd h'.1 (by decide)
theorem ZhD {n:Nat} {fs gs:Fs} {o p:Bool} (h1:p=true→o=true) (h2:∀ x,x∈fs.names∨x∈gs.names→Zeq (Zbn n) (ent fs o x) (ent gs p x)=true):Zbn (n+1) (.row fs o) (.row gs p)=true:=by
 show (!(p&&!o)&&(fs.names++gs.names).all fun x=>Zeq (Zbn n) (ent fs o x) (ent gs p x))=true
 simp only [Bool.and_eq_true,List.all_eq_true,List.mem_append]
 refine ⟨?_,h2⟩
 cases p with
 | false=>rfl
 | true=>rw [h1 rfl];rfl
abbrev Zlq:List Str:=["row","name","field"]
theorem ZkI:Zau Zlq ["row","name"] (Zag ZhT):=by walk_at "s"
def ZkD:GS:=(Zat (ZfH (Zbl (Zai (Zak ixW) (Zab 0) (gC (.int 1)))) (gNm 2) (gIf (gTB (Zai (Zak (eqF false)) (Zai (Zak ixW) (Zab 2) (gC (.int 0))) (Zab 1))) (Zay (ZaQ (Zaa (Zai (Zak ixW) (Zab 2) (gC (.int 1))) (Zaa (Zai (Zak ixW) (Zab 2) (gC (.int 2))) Zaj)))) Zam)) (Zay (ZhG (Zdi (Zai (Zak ixW) (Zab 0) (gC (.int 2)))) (ZaQ (Zaa (gC (.str "free")) Zaj)) (ZaQ (Zaa (gC (.str "none")) Zaj)))))
theorem ZpB {k:Nat} (T:Tx K mg base a):Dn P w K mg base Zlq "entry_of" ZhT k (ZkD):=by
 have hN:=ZkI.nd
 walk_at "z"
abbrev ZkM:List Str:=["row"]
theorem Zk1:Zau ZkM ["row"] (Zag ZhO):=by walk_at "s"
def Zk0:GS:=(Zay (Zcy (Zbl (Zai (Zak ixW) (Zab 0) (gC (.int 1)))) 1 (gNm 0) Zhg (Zai (Zak ixW) (Zab 0) (gC (.int 0)))))
theorem ZpY {k:Nat} (T:Tx K mg base a):Dn P w K mg base ZkM "names_of" ZhO k (Zk0):=fun {f cdv A outer s H E} hr =>
 have hu:=Zg2 hr
 have hN:=Zk1.nd
 (Za4 (Zce (Zfr (Nc:=["field"]) rfl (ZuA rfl (by decide +kernel) (by decide +kernel)) (fun _=>rfl) (by walk_at "v") (Zhr (i:=0) (by decide) rfl rfl) (fun C fp s1 H1=>Zb0) (fun C fp s1 H1=>(by walk_at "v")))))
abbrev Zfa:List Str:=["one","other"]
theorem Ze5:Zau Zfa ["one","other"] (Zag Zdx):=by walk_at "s"
def Zfq (Zdz:Spw):GS:=(Zay (Zet (Zae Zdz XF (Zaa (Zab 0) Zaj)) (Zae Zdz XF (Zaa (Zab 1) Zaj))))
theorem Zjo {k:Nat} (T:Tx K mg base a) {ZfN:Nat} {Zdz:Spw} (Zw3:Df P w K mg base "names_of" ZfN 1 Zdz) (Zw4:ZfN≤k):Dn P w K mg base Zfa "names_of_both" Zdx k (Zfq Zdz):=by
 have hN:=Ze5.nd
 walk_at "z"
abbrev Zhm:List Str:=["one","other"]
theorem ZhB:Zau Zhm ["one","other"] (Zag ZeO):=by walk_at "s"
def Zhy (ZaX:Spw):GS:=(Zat (Zbs (Zae ZaX XF (Zaa (Zab 0) Zaj))) (Zbs (Zae ZaX XF (Zaa (Zab 1) Zaj))))
theorem Zl6 {k:Nat} (T:Tx K mg base a) {ZbA:Nat} {ZaX:Spw} (Zin:Df P w K mg base "check_kind" ZbA 1 ZaX) (Ziw:ZbA≤k):Dn P w K mg base Zhm "check_kinds" ZeO k (Zhy ZaX):=by
 have hN:=ZhB.nd
 walk_at "z"
local macro_rules | `(tactic| walk_at "rd") => `(tactic| ((try dsimp only [Zji,Zbj,Zdm,ZfQ,Zet,Zbk,ZhN,Zat,gIf,Zay,Za9,Zbs,Zam,Zab,gC,Zai,gTB,Zdi,gNt,ZeU,gOr,Zdj,ZiJ,Zdo,ZhG,L3.ZaQ,Zdb,L3.Zaa,L3.Zaj,Zae,gB,rF,Zak,Zdr,gMt,ZkA,ZbS,Zfy,Zhe,ZcR,L3.ZgF,Zeb,gSl,Zco,ZaO,Zcy,Zbl,Zku,ZfH,ZaE,Zbw,List.map_cons,List.map_nil,List.length_cons,List.length_nil,List.cons_append,List.nil_append,List.getElem?_cons_zero,List.getElem?_cons_succ,List.set_cons_zero,List.set_cons_succ,List.replicate,Ze0,tyN,Zac,ZcZ,ZbV,Zcz,ixW,eqF,eqW,Zhd,Zkp,ZhH,List.getElem?_nil]); (try simp only [Zji,Zbj,Zdm,ZfQ,Zet,Zbk,ZhN,Zat,gIf,Zay,Za9,Zbs,Zam,Zab,gC,Zai,gTB,Zdi,gNt,ZeU,gOr,Zdj,ZiJ,Zdo,ZhG,L3.ZaQ,Zdb,L3.Zaa,L3.Zaj,Zae,gB,rF,Zak,Zdr,gMt,ZkA,ZbS,Zfy,Zhe,ZcR,L3.ZgF,Zeb,gSl,Zco,ZaO,Zcy,Zbl,Zku,ZfH,ZaE,Zbw,List.map_cons,List.map_nil,List.length_cons,List.length_nil,List.cons_append,List.nil_append,List.getElem?_cons_zero,List.getElem?_cons_succ,List.set_cons_zero,List.set_cons_succ,List.replicate,Ze0,tyN,Zac,ZcZ,ZbV,Zcz,ixW,eqF,eqW,Zhd,Zkp,ZhH,List.getElem?_nil])))
theorem Zbv (k:Kd) (G:Hw):ixW k.enc (.int 0) G=some (.str k.hd):=by
 obtain ⟨xs,e⟩:=ZvK k
 rw [e];exact ZcZ
abbrev Zj9:Spw:=spR (fun (x:Fs×Bool×Str) ws _=>ws=[(Kd.row x.1 x.2.1).enc,.str x.2.2]) fun x=>(ent x.1 x.2.1 x.2.2).enc
theorem Zla {D:Ew} {G:Hw} {x:Str} {row:W}:∀ (fs:Fs) (o':Option W),(∀ m k,fs.find x=some (m,k)→D.rt (.tup [.str (mark m),k.enc]) G)→(fs.find x=none→∀ o'',D.nx [some row,some (.str x),o''] G) →
  Zeh yes (gNm 2) (gIf (gTB (Zai (Zak (eqF false)) (Zai (Zak ixW) (Zab 2) (gC (.int 0))) (Zab 1))) (Zay (L3.ZaQ (L3.Zaa (Zai (Zak ixW) (Zab 2) (gC (.int 1))) (L3.Zaa (Zai (Zak ixW) (Zab 2) (gC (.int 2))) L3.Zaj)))) Zam) D fs.enc [some row,some (.str x),o'] G
 | .nil,o',_,h=>⟨trivial,h rfl o'⟩
 | .cons n m k r,o',h1,h2=>by
  refine ⟨trivial,?_⟩
  show gIf _ _ Zam _ [some row,some (.str x),some (.tup [.str n,.str (mark m),k.enc])] G
  walk_at "rd"
  simp only [Option.map_some,Zac]
  by_cases hx:n=x
  ·subst hx
   simp only [beq_self_eq_true,bne_iff_ne,ne_eq,Bool.true_eq_false,not_false_eq_true,if_true]
   exact ⟨by decide,h1 _ _ (by unfold Fs.find;rw [if_pos rfl])⟩
  ·have e:(n==x)=false:=by simpa using hx
   simp only [e,bne_self_eq_false,Bool.false_eq_true,if_false]
   refine Zla r _ (fun m' k' hv=>h1 m' k' ?_) (fun hn=>h2 ?_)
   ·unfold Fs.find;rw [if_neg hx];exact hv
   ·unfold Fs.find;rw [if_neg hx];exact hn
theorem ZaH (T:Tx K mg base a):Df P w K mg base "entry_of" 1 2 Zj9:=by
 refine mk0 T.ZpT rfl ZkI ZbK (fun ws G Q E ⟨x,e,_⟩=>by rw [e];rfl) (ZpB T) fun ws G Q E hC q=>?_
 obtain ⟨⟨fs,o,x⟩,rfl,q⟩:=q
 dsimp only at q
 unfold ZkD
 simp only [Kd.enc]
 walk_at "rd"
 refine Zla fs none (fun m k hv=>?_) (fun hn o''=>?_)
 ·unfold ent at q;rw [hv] at q;exact q
 ·unfold ent at q;rw [hn] at q
  simp only [List.getElem?_cons_zero,List.getElem?_cons_succ,Zcz,Zac]
  cases o with
  | true=>exact ⟨by decide,q⟩
  | false=>exact ⟨by decide,q⟩
abbrev ZwW:Spw:=spL (fun (x:Fs×Bool) ws _=>ws=[(Kd.row x.1 x.2).enc]∧x.1.names.length≤100) fun x=>x.1.names.map W.str
theorem ZfN (T:Tx K mg base a):Df P w K mg base "names_of" 1 1 ZwW:=by
 refine mk0 T.ZpM rfl Zk1 Zr0 (fun ws G Q E ⟨x,⟨e,_⟩,_⟩=>by rw [e];rfl) (ZpY T) fun ws G Q E hC q=>?_
 obtain ⟨⟨fs,o⟩,⟨rfl,hl⟩,q⟩:=q
 have hl':fs.enc.length≤100:=by rw [← Zfj];exact hl
 unfold Zk0
 simp only [Kd.enc]
 walk_at "rd"
 refine ZpH (f:=ZoW) trivial fs.enc none [] (fun x hx Q' q'=>?_) (by simp only [List.length_nil];exact Zbh (by omega)) ?_
 ·obtain ⟨n,b,k,rfl⟩:=ZnV hx
  show Zai (Zak ixW) (Zab 0) (gC (.int 0)) [some (W.tup [.str n,.str (mark b),k])] _ Q'
  walk_at "rd"
  exact q'
 ·rw [List.nil_append,Zj0]
  exact q
def Zq7:Spw:=fun ws G Q _=>∃ (fs gs:Fs) (o p:Bool),ws=[(Kd.row fs o).enc,(Kd.row gs p).enc]∧fs.names.length < 16∧gs.names.length < 16∧∀ (zs:List Str) (r:Addr),zs.Nodup→sortedS zs=true→(∀ x,x∈zs↔x∈fs.names∨x∈gs.names)→G r=none→Q (.ref r) (put G r (.lst (zs.map W.str)))
theorem Zs0:Spw.M Zq7:=fun ws G Q Q' E E' h _ ⟨fs,gs,o,p,h1,h2,h3,q⟩=>⟨fs,gs,o,p,h1,h2,h3,fun zs r a b c d=>h _ _ (q zs r a b c d)⟩
theorem Zap (T:Tx K mg base a):Df P w K mg base "names_of_both" 2 2 Zq7:=by
 refine mk0 T.ZjS rfl Ze5 Zs0 (fun ws G Q E ⟨_,_,_,_,e,_⟩=>by rw [e];rfl) (Zjo T (ZfN T) (Nat.le_refl _)) fun ws G Q E hC q=>?_
 obtain ⟨fs,gs,o,p,rfl,h1,h2,q⟩:=q
 unfold Zfq
 walk_at "rd"
 refine ⟨(fs,o),⟨rfl,by dsimp only;omega⟩,fun p1 hp1=>?_⟩
 refine ⟨fs.names,Zeg Zad,h1,(gs,p),⟨rfl,by dsimp only;omega⟩,fun p2 hp2=>?_⟩
 refine ⟨gs.names,Zeg Zad,h2,fun zs r z1 z2 z3 z4=>?_⟩
 have hr2:r≠p2:=fun e=>by subst e;rw [Zad] at z4;cases z4
 rw [Zao hr2] at z4
 have hr1:r≠p1:=fun e=>by subst e;rw [Zad] at z4;cases z4
 rw [Zao hr1] at z4
 exact hC _ _ _ ((ZcK (Za0 hp1) hp2).put2) (q zs r z1 z2 z3 z4)
theorem ZaN (T:Tx K mg base a):Df P w K mg base "check_kinds" 9 2 (spR (fun (x:Kd×Kd) ws _=>ws=[x.1.enc,x.2.enc]∧(x.1.ok=true∧Zi1 x.1=true)∧(x.2.ok=true∧Zi1 x.2=true)) fun _=>.non):=by
 refine mk0 T.ZlN rfl ZhB ZbK (fun ws G Q E ⟨x,⟨e,_⟩,_⟩=>by rw [e];rfl) (Zl6 T (ZbA T) (Nat.le_refl _)) fun ws G Q E hC q=>?_
 obtain ⟨⟨k,l⟩,⟨rfl,h1,h2⟩,q⟩:=q
 dsimp only at h1 h2
 have g1:k.cnt≤40∧k.dp≤8:=of_decide_eq_true (by have:=h1.2;unfold Zi1 at this;exact this)
 have g2:l.cnt≤40∧l.dp≤8:=of_decide_eq_true (by have:=h2.2;unfold Zi1 at this;exact this)
 unfold Zhy
 walk_at "rd"
 exact ⟨k,⟨rfl,h1.1,by omega⟩,fun _=>⟨l,⟨rfl,h2.1,by omega⟩,fun _=>q,fun z=>by rw [h2.2] at z;cases z⟩,fun z=>by rw [h1.2] at z;cases z⟩
theorem Zva:∀ {fs:Fs},fs.thr=true→∀ c∈fs.kinds,c.thr=true
 | .nil,_,c,hc=>by cases hc
 | .cons n m k r,h,c,hc=>by
  have h':(k.thr&&r.thr)=true:=h
  walk_at "pe"
  rcases List.mem_cons.mp hc with rfl | hc
  ·exact h'.1
  ·exact Zva h'.2 c hc
theorem Zax {k c:Kd} (h:wf k) (hc:c∈k.kids):wf c:=by
 refine ⟨Zcm h.1 c hc,?_⟩
 have ht:=h.2
 cases k with
 | to x y =>
  have h':(x.thr&&y.thr)=true:=ht
  walk_at "pe"
  walk_at "pD"
  rcases hc with rfl | rfl
  ·exact h'.1
  ·exact h'.2
 | box x =>
  walk_at "pD"
  subst hc;exact ht
 | row fs o =>
  have h':(decide (fs.names.length≤5)&&fs.thr)=true:=ht
  walk_at "pe"
  exact Zva h'.2 c hc
 | any=>simp [Kd.kids] at hc
 | num=>simp [Kd.kids] at hc
 | truth=>simp [Kd.kids] at hc
theorem ZiP {fs:Fs} {o:Bool} (h:wf (.row fs o)):fs.names.length < 16:=by
 have h':(decide (fs.names.length≤5)&&fs.thr)=true:=h.2
 simp only [Bool.and_eq_true,decide_eq_true_eq] at h'
 omega
theorem Zvk {m m':Bool} (h:m≠m'):(mark m==mark m')=false:=by
 cases m <;> cases m' <;> first | exact absurd rfl h | decide
mutual
def Kd.ten:Kd→Bool
 | .to a b=>a.ten&&b.ten
 | .box a=>a.ten
 | .row fs _=>decide (fs.names.length≤10)&&fs.ten
 | _=>true
def Fs.ten:Fs→Bool
 | .nil=>true
 | .cons _ _ k r=>k.ten&&r.ten
end
mutual
theorem ZgO:∀ {k:Kd},k.thr=true→k.ten=true
 | .any,_=>rfl
 | .num,_=>rfl
 | .truth,_=>rfl
 | .to a b,h=>by
  have h':(a.thr&&b.thr)=true:=h
  walk_at "pe"
  show (a.ten&&b.ten)=true
  rw [ZgO h'.1,ZgO h'.2];rfl
 | .box a,h=>ZgO (k:=a) h
 | .row fs o,h=>by
  have h':(decide (fs.names.length≤5)&&fs.thr)=true:=h
  simp only [Bool.and_eq_true,decide_eq_true_eq] at h'
  show (decide (fs.names.length≤10)&&fs.ten)=true
  rw [decide_eq_true (by omega),Zou h'.2];rfl
theorem Zou:∀ {fs:Fs},fs.thr=true→fs.ten=true
 | .nil,_=>rfl
 | .cons _ _ k r,h=>by
  have h':(k.thr&&r.thr)=true:=h
  walk_at "pe"
  show (k.ten&&r.ten)=true
  rw [ZgO h'.1,Zou h'.2];rfl
end
def wt (k:Kd):Prop:=k.ok=true∧k.ten=true
def kt8 (k:Kd):Prop:=wt k∧k.cnt≤40∧k.dp≤8
theorem Zu7:∀ {fs:Fs},fs.ten=true→∀ c∈fs.kinds,c.ten=true
 | .nil,_,c,hc=>by cases hc
 | .cons n m k r,h,c,hc=>by
  have h':(k.ten&&r.ten)=true:=h
  walk_at "pe"
  rcases List.mem_cons.mp hc with rfl | hc
  ·exact h'.1
  ·exact Zu7 h'.2 c hc
theorem Zba {k c:Kd} (h:wt k) (hc:c∈k.kids):wt c:=by
 refine ⟨Zcm h.1 c hc,?_⟩
 have ht:=h.2
 cases k with
 | to x y =>
  have h':(x.ten&&y.ten)=true:=ht
  walk_at "pe"
  walk_at "pD"
  rcases hc with rfl | rfl
  ·exact h'.1
  ·exact h'.2
 | box x =>
  walk_at "pD"
  subst hc;exact ht
 | row fs o =>
  have h':(decide (fs.names.length≤10)&&fs.ten)=true:=ht
  walk_at "pe"
  exact Zu7 h'.2 c hc
 | any=>simp [Kd.kids] at hc
 | num=>simp [Kd.kids] at hc
 | truth=>simp [Kd.kids] at hc
theorem ZdQ {fs:Fs} {o:Bool} (h:wt (.row fs o)):fs.names.length < 16:=by
 have h':(decide (fs.names.length≤10)&&fs.ten)=true:=h.2
 simp only [Bool.and_eq_true,decide_eq_true_eq] at h'
 omega
abbrev Zff:List Str:=["one","other"]
theorem Ze6:Zau Zff ["one","other"] (Zag ZdA):=by walk_at "s"
def Zfh (Za2:Spw):GS:=(Zat (gIf (gTB (Zai (Zak (eqF false)) (Zai (Zak ixW) (Zab 0) (gC (.int 0))) (gC (.str "free")))) (Zay (gC (.bl true))) Zam) (Zat (gIf (gTB (Zai (Zak (eqF true)) (Zai (Zak ixW) (Zab 0) (gC (.int 0))) (Zai (Zak ixW) (Zab 1) (gC (.int 0))))) (Zay (gC (.bl false))) Zam) (Zay (ZiJ (Zai (Zak (eqF false)) (Zai (Zak ixW) (Zab 0) (gC (.int 0))) (gC (.str "none"))) (Zae Za2 XF (Zaa (Zai (Zak ixW) (Zab 0) (gC (.int 1))) (Zaa (Zai (Zak ixW) (Zab 1) (gC (.int 1))) Zaj)))))))
theorem ZjF {k:Nat} (T:Tx K mg base a) {Zb1:Nat} {Za2:Spw} (Zmy:Df P w K mg base "is_less" Zb1 2 Za2) (Znq:Zb1≤k):Dn P w K mg base Zff "is_less_entry" ZdA k (Zfh Za2):=by
 have hN:=Ze6.nd
 walk_at "z"
abbrev Zg6:List Str:=["one","other","names"]
theorem Zhs:Zau Zg6 ["one","other"] (Zag Zdn):=by walk_at "s"
def Zhi (Zal:Spw) (Zas:Spw) (Zci:Spw):GS:=(Zat (gIf (ZeU (Zdi (Zai (Zak ixW) (Zab 1) (gC (.int 2)))) (gNt (Zdi (Zai (Zak ixW) (Zab 0) (gC (.int 2)))))) (Zay (gC (.bl false))) Zam) (Zat (Za9 2 (Zae Zal XF (Zaa (Zab 0) (Zaa (Zab 1) Zaj)))) (Zay (gB (rF ZhH) (Zaa (Zbj (Zbl (Zab 2)) 1 [0,1] (gNm 0) Zhg (Zae Zci XF (Zaa (Zae Zas XF (Zaa (Zab 1) (Zaa (Zab 0) Zaj))) (Zaa (Zae Zas XF (Zaa (Zab 2) (Zaa (Zab 0) Zaj))) Zaj)))) Zaj)))))
theorem Zmf {k:Nat} (T:Tx K mg base a) {Zap:Nat} {Zal:Spw} (ZcA:Df P w K mg base "names_of_both" Zap 2 Zal) (ZcI:Zap≤k) {ZaH:Nat} {Zas:Spw} (ZfK:Df P w K mg base "entry_of" ZaH 2 Zas) (Zfx:ZaH≤k) {ZcQ:Nat} {Zci:Spw} (ZqK:Df P w K mg base "is_less_entry" ZcQ 2 Zci) (Zsc:ZcQ≤k):Dn P w K mg base Zg6 "is_less_row" Zdn k (Zhi Zal Zas Zci):=fun {f cdv A outer s H E} hr =>
 have hu:=Zg2 hr
 have hN:=Zhs.nd
 (Zaq (by walk_at "v") (Zaq (by walk_at "v") (Za4 (Zce (ZbN Zdl (Zcb rfl) rfl T.ZfR (by decide) rfl rfl rfl (ZaU rfl (Zi7 rfl (Zvc (own:=["name"]) (fr:=["one","other"]) (js:=[0,1]) (scX:=Zag Zdn) (n:=s.heap.objs.size+1) rfl (by decide +kernel) (by decide +kernel) (by decide +kernel) (by decide +kernel) rfl rfl rfl (by decide +kernel) rfl) (fun _=>rfl) (by walk_at "v") (Zhf (i:=0) (by decide) rfl rfl) (fun C fp s1 H1=>Zb0) (fun C fp s1 H1=>(by walk_at "v"))) Zb9))))))
abbrev ZmR:List Str:=["one","other"]
theorem ZmJ:Zau ZmR ["one","other"] (Zag Zkb):=by walk_at "s"
def Zmj (Zc8:Spw) (Za2:Spw):GS:=(Zat (gIf (gTB (Zai (Zak (eqF false)) (Zai (Zak ixW) (Zab 0) (gC (.int 0))) (gC (.str "any")))) (Zay (gC (.bl true))) Zam) (Zat (gIf (gTB (Zai (Zak (eqF true)) (Zai (Zak ixW) (Zab 0) (gC (.int 0))) (Zai (Zak ixW) (Zab 1) (gC (.int 0))))) (Zay (gC (.bl false))) Zam) (Zat (gIf (gTB (Zai (Zak (eqF false)) (Zai (Zak ixW) (Zab 0) (gC (.int 0))) (gC (.str "row")))) (Zay (Zae Zc8 XF (Zaa (Zab 0) (Zaa (Zab 1) Zaj)))) Zam) (Zay (gB (rF ZhH) (Zaa (Zcy (ZfQ (Zaa (Zji (Zab 0) (Zco (gC (.int 1))) ZaO) (Zaa (Zji (Zab 1) (Zco (gC (.int 1))) ZaO) Zaj))) 2 (ZjU 0 1) Zhg (Zae Za2 XF (Zaa (Zab 0) (Zaa (Zab 1) Zaj)))) Zaj))))))
theorem Zr3 {k:Nat} (T:Tx K mg base a) {Zdv:Nat} {Zc8:Spw} (Zub:Df P w K mg base "is_less_row" Zdv 2 Zc8) (ZsM:Zdv≤k) {Zb1:Nat} {Za2:Spw} (Zmy:Df P w K mg base "is_less" Zb1 2 Za2) (Znq:Zb1≤k):Dn P w K mg base ZmR "is_less" Zkb k (Zmj Zc8 Za2):=fun {f cdv A outer s H E} hr =>
 have hu:=Zg2 hr
 have hN:=ZmJ.nd
 (Zaq (by walk_at "v") (Zaq (by walk_at "v") (Zaq (by walk_at "v") (Za4 (Zce (ZbN Zdl (Zcb rfl) rfl T.ZfR (by decide) rfl rfl rfl (ZaU rfl (Zfr (Nc:=["left","right"]) rfl (ZuA rfl (by decide +kernel) (by decide +kernel)) (fun _=>rfl) (ZqA T.ZrU rfl rfl rfl (by walk_at "v")) (ZnY (i:=0) (j:=1) rfl (by decide) rfl rfl rfl rfl) (fun C fp s1 H1=>Zb0) (fun C fp s1 H1=>(by walk_at "v"))) Zb9)))))))
abbrev Ziv:List Str:=["one","other"]
theorem ZiH:Zau Ziv ["one","other"] (Zag Zfd):=by walk_at "s"
def Zii (ZaC:Spw) (Za2:Spw):GS:=(Zat (Zbs (Zae ZaC XF (Zaa (Zab 0) (Zaa (Zab 1) Zaj)))) (Zay (Zae Za2 XF (Zaa (Zab 0) (Zaa (Zab 1) Zaj)))))
theorem ZmS {k:Nat} (T:Tx K mg base a) {ZaN:Nat} {ZaC:Spw} (Zhq:Df P w K mg base "check_kinds" ZaN 2 ZaC) (Zg4:ZaN≤k) {Zb1:Nat} {Za2:Spw} (Zmy:Df P w K mg base "is_less" Zb1 2 Za2) (Znq:Zb1≤k):Dn P w K mg base Ziv "knows_less" Zfd k (Zii ZaC Za2):=by
 have hN:=ZiH.nd
 walk_at "z"
local macro_rules | `(tactic| walk_at "rd") => `(tactic| ((try dsimp only [Zji,Zbj,Zdm,ZfQ,Zet,Zbk,ZhN,Zat,gIf,Zay,Za9,Zbs,Zam,Zab,gC,Zai,gTB,Zdi,gNt,ZeU,gOr,Zdj,ZiJ,Zdo,ZhG,L3.ZaQ,Zdb,L3.Zaa,L3.Zaj,Zae,gB,rF,Zak,Zdr,gMt,ZkA,ZbS,Zfy,Zhe,ZcR,L3.ZgF,Zeb,gSl,Zco,ZaO,Zcy,Zbl,Zku,ZfH,ZaE,Zbw,List.map_cons,List.map_nil,List.length_cons,List.length_nil,List.cons_append,List.nil_append,List.getElem?_cons_zero,List.getElem?_cons_succ,List.set_cons_zero,List.set_cons_succ,List.replicate,Ze0,tyN,Zac,ZcZ,ZbV,Zcz,ixW,eqF,eqW,Zhd,Zkp,ZhH,List.getElem?_nil]); (try simp only [Zji,Zbj,Zdm,ZfQ,Zet,Zbk,ZhN,Zat,gIf,Zay,Za9,Zbs,Zam,Zab,gC,Zai,gTB,Zdi,gNt,ZeU,gOr,Zdj,ZiJ,Zdo,ZhG,L3.ZaQ,Zdb,L3.Zaa,L3.Zaj,Zae,gB,rF,Zak,Zdr,gMt,ZkA,ZbS,Zfy,Zhe,ZcR,L3.ZgF,Zeb,gSl,Zco,ZaO,Zcy,Zbl,Zku,ZfH,ZaE,Zbw,List.map_cons,List.map_nil,List.length_cons,List.length_nil,List.cons_append,List.nil_append,List.getElem?_cons_zero,List.getElem?_cons_succ,List.set_cons_zero,List.set_cons_succ,List.replicate,Ze0,tyN,Zac,ZcZ,ZbV,Zcz,ixW,eqF,eqW,Zhd,Zkp,ZhH,List.getElem?_nil])))
abbrev Zsk (n:Nat):Spw:=spR (fun (x:Kd×Kd) ws _=>ws=[x.1.enc,x.2.enc]∧wt x.1∧wt x.2∧x.1.dp≤n) fun x=>.bl (Zbn n x.1 x.2)
abbrev ZAd (n:Nat):Spw:=spR (fun (x:En×En) ws _=>ws=[x.1.enc,x.2.enc]∧∀ m k m' k',x.1=.told m k→x.2=.told m' k'→wt k∧wt k'∧k.dp≤n) fun x=>.bl (Zeq (Zbn n) x.1 x.2)
theorem ZcQ (T:Tx K mg base a) {j n:Nat} (D:Df P w K mg base "is_less" j 2 (Zsk n)):Df P w K mg base "is_less_entry" (j+1) 2 (ZAd n):=by
 refine mk0 T.Zj1 rfl Ze6 ZbK (fun ws G Q E ⟨x,⟨e,_⟩,_⟩=>by rw [e];rfl) (ZjF T D (Nat.le_refl _)) fun ws G Q E hC q=>?_
 obtain ⟨⟨x,y⟩,⟨rfl,h⟩,q⟩:=q
 dsimp only at h q
 unfold Zfh
 cases x with
 | free =>
  simp only [En.enc];walk_at "rd"
  exact q
 | nope =>
  cases y with
  | free=>simp only [En.enc];walk_at "rd";exact q
  | nope=>simp only [En.enc];walk_at "rd";exact q
  | told m k=>cases m <;> (simp only [En.enc,mark];walk_at "rd";exact q)
 | told m k =>
  cases y with
  | free=>cases m <;> (simp only [En.enc,mark];walk_at "rd";exact q)
  | nope=>cases m <;> (simp only [En.enc,mark];walk_at "rd";exact q)
  | told m' k' =>
   by_cases hm:m=m'
   ·subst hm
    obtain ⟨w1,w2,hd⟩:=h m k m k' rfl rfl
    have e:Zeq (Zbn n) (.told m k) (.told m k')=Zbn n k k':=by show (m==m&&Zbn n k k')=_;simp
    rw [e] at q
    cases m <;> (simp only [En.enc,mark];walk_at "rd";exact ⟨(k,k'),⟨rfl,w1,w2,hd⟩,q⟩)
   ·have e:Zeq (Zbn n) (.told m k) (.told m' k')=false:=by show (m==m'&&Zbn n k k')=false;simp [hm]
    rw [e] at q
    cases m <;> cases m' <;> first | exact absurd rfl hm | (simp only [En.enc,mark];walk_at "rd";exact q)
theorem Zbt {fs:Fs} {o:Bool} {x:Str} {m:Bool} {k:Kd} (e:ent fs o x=.told m k):k∈fs.kinds:=by
 unfold ent at e
 cases q:fs.find x with
 | none=>rw [q] at e;cases o <;> cases e
 | some p=>rw [q] at e;cases e;exact (Zcg q).1
theorem ZsA {α:Type} {xs ys:List α} (f:α→Bool) (h:∀ x,x∈xs↔x∈ys):xs.all f=ys.all f:=by
 rw [Bool.eq_iff_iff,List.all_eq_true,List.all_eq_true]
 exact ⟨fun z x hx=>z x ((h x).mpr hx),fun z x hx=>z x ((h x).mp hx)⟩
abbrev ZBJ (n:Nat):Spw:=spR (fun (x:Fs×Bool×Fs×Bool) ws _=>ws=[(Kd.row x.1 x.2.1).enc,(Kd.row x.2.2.1 x.2.2.2).enc]∧wt (.row x.1 x.2.1)∧wt (.row x.2.2.1 x.2.2.2)∧(Kd.row x.1 x.2.1).dp≤n+1) fun x=>.bl (Zbn (n+1) (.row x.1 x.2.1) (.row x.2.2.1 x.2.2.2))
theorem Zdv (T:Tx K mg base a) {j n:Nat} (hj:2≤j) (D:Df P w K mg base "is_less_entry" j 2 (ZAd n)):Df P w K mg base "is_less_row" (j+1) 2 (ZBJ n):=by
 refine mk0 T.Zmi rfl Zhs ZbK (fun ws G Q E ⟨x,⟨e,_⟩,_⟩=>by rw [e];rfl) (Zmf T (Zap T) hj (ZaH T) (by omega) D (Nat.le_refl _)) fun ws G Q E hC q=>?_
 obtain ⟨⟨fs,o,gs,p⟩,⟨rfl,w1,w2,hd⟩,q⟩:=q
 dsimp only at w1 w2 hd q
 have fin:(p=true→o=true)→(Zat (Za9 2 (Zae Zq7 XF (L3.Zaa (Zab 0) (L3.Zaa (Zab 1) L3.Zaj)))) (Zay (gB (rF ZhH) (L3.Zaa (Zbj (Zbl (Zab 2)) 1 [0,1] (gNm 0) Zhg (Zae (ZAd n) XF (L3.Zaa (Zae Zj9 XF (L3.Zaa (Zab 1) (L3.Zaa (Zab 0) L3.Zaj))) (L3.Zaa (Zae Zj9 XF (L3.Zaa (Zab 2) (L3.Zaa (Zab 0) L3.Zaj))) L3.Zaj)))) L3.Zaj)))) (ZaE Q) [some (Kd.row fs o).enc,some (Kd.row gs p).enc,none] G:=fun hop=>by
  walk_at "rd"
  refine ⟨fs,gs,o,p,rfl,ZdQ w1,ZdQ w2,fun zs r z1 z2 z3 z4=>?_⟩
  simp only [Zad]
  have hzl:zs.length≤100:=by
   have:=Zey (xs:=fs.names++gs.names) z1 fun x hx=>List.mem_append.mpr ((z3 x).mp hx)
   have h1:=ZdQ w1
   have h2:=ZdQ w2
   rw [List.length_append] at this
   omega
  refine Zrl (enc:=W.str) (f:=fun x=>.bl (Zeq (Zbn n) (ent fs o x) (ent gs p x))) (cst:=[some (Kd.row fs o).enc,some (Kd.row gs p).enc]) Zad zs none [] (fun x hx Q' q'=>?_) (by simp only [List.length_nil];exact Zbh (by omega)) ?_
  ·show Zae _ _ _ [some (.str x),some (Kd.row fs o).enc,some (Kd.row gs p).enc] _ Q'
   walk_at "rd"
   refine ⟨(fs,o,x),rfl,(gs,p,x),rfl,(ent fs o x,ent gs p x),⟨rfl,fun m k m' k' e1 e2=>?_⟩,q'⟩
   have k1:=Zbt e1
   have k2:=Zbt e2
   have hk:=Zar (k:=.row fs o) (c:=k) k1
   exact ⟨Zba w1 k1,Zba w2 k2,by omega⟩
  ·intro p1 hp1
   rw [List.nil_append,show (fun x=>W.bl (Zeq (Zbn n) (ent fs o x) (ent gs p x)))=W.bl∘(fun x=>Zeq (Zbn n) (ent fs o x) (ent gs p x)) from rfl,← List.map_map]
   walk_at "pA"
   have e:Zbn (n+1) (.row fs o) (.row gs p)=zs.all fun x=>Zeq (Zbn n) (ent fs o x) (ent gs p x):=by
    show (!(p&&!o)&&(fs.names++gs.names).all fun x=>Zeq (Zbn n) (ent fs o x) (ent gs p x))=_
    rw [ZsA _ (ys:=zs) fun x=>by rw [z3];exact List.mem_append]
    cases p with
    | false=>simp
    | true=>rw [hop rfl];simp
   rw [List.all_map]
   rw [e] at q
   exact hC _ _ _ (ZcK (Za0 z4) hp1) q
 unfold Zhi
 show Zat (gIf _ _ Zam) _ (ZaE Q) [some (Kd.row fs o).enc,some (Kd.row gs p).enc,none] G
 cases p with
 | false =>
  have z:=fin (fun h=>by cases h)
  simp only [Zat,gIf,ZeU,Zdi,Zai,Zak,Zab,gC,List.getElem?_cons_zero,List.getElem?_cons_succ,Kd.enc,ixW,Zcz,Zac,Ze0,Zam,Bool.false_eq_true,if_false] at z ⊢
  exact z
 | true =>
  cases o with
  | true =>
   have z:=fin (fun _=>rfl)
   simp only [Zat,gIf,ZeU,Zdi,gNt,Zai,Zak,Zab,gC,List.getElem?_cons_zero,List.getElem?_cons_succ,Kd.enc,ixW,Zcz,Zac,Ze0,Zam,Bool.not_true,Bool.false_eq_true,if_true,if_false] at z ⊢
   exact z
  | false =>
   simp only [Zat,gIf,ZeU,Zdi,gNt,Zai,Zak,Zab,gC,List.getElem?_cons_zero,List.getElem?_cons_succ,Kd.enc,ixW,Zcz,Zac,Ze0,Zam,Bool.not_false,if_true,Zay,ZaE]
   exact q
theorem Zs5 {k l:Kd} (h:k.hd≠l.hd) (hk:k≠.any) (n:Nat):Zbn (n+1) k l=false:=by
 cases k <;> cases l <;> first | rfl | exact absurd rfl h | exact absurd rfl hk
theorem ZyB {k:Kd} (h:k≠.any):(k.hd=="any")=false:=by
 cases k <;> first | exact absurd rfl h | (simp only [Kd.hd];decide)
theorem Zqk {α:Type} {e1 e2 f:α→W} {gd:Hw→Prop} {ge:GE} {R:List W→Hw→Prop} {G:Hw} (hgd:gd G):∀ (l:List α) (o o':Option W) (ys:List W),(∀ x∈l,∀ Q:Kw,Q (f x) G→ge [some (e1 x),some (e2 x)] G Q) →
  ys.length+l.length≤sizeLine→R (ys++l.map f) G→ZbR gd (ZjU 0 1) Zhg ge R (l.map fun x=>W.tup [e1 x,e2 x]) [o,o'] G ys
 | [],o,o',ys,_,_,r=>⟨hgd,by simpa using r⟩
 | x::l,o,o',ys,h,hl,r=>by
  refine ⟨hgd,by simp only [List.length_cons] at hl;omega,?_⟩
  show ge [some (e1 x),some (e2 x)] G fun y G3=>ZbR gd (ZjU 0 1) Zhg ge R (l.map fun x=>W.tup [e1 x,e2 x]) [some (e1 x),some (e2 x)] G3 (ys++[y])
  refine h x List.mem_cons_self _ (Zqk hgd l _ _ (ys++[f x]) (fun y hy=>h y (List.mem_cons_of_mem _ hy)) ?_ ?_)
  ·simp only [List.length_append,List.length_cons,List.length_nil] at hl ⊢;omega
  ·simpa [List.append_assoc] using r
theorem Zi3 {n:Nat} {G:Hw} {Q:Kw} {xs ys:List Kd} (hC:Kw.C Q) (hl:xs.length+ys.length≤100) (hx:∀ p∈xs.zip ys,wt p.1∧wt p.2∧p.1.dp≤n) (q:Q (.bl ((xs.zip ys).all fun p=>Zbn n p.1 p.2)) G) :
  ZbR yes (ZjU 0 1) Zhg (Zae (Zsk n) XF (L3.Zaa (Zab 0) (L3.Zaa (Zab 1) L3.Zaj))) (fun zs G2=>∀ p,G2 p=none→opt (ZhH [.ref p] (put G2 p (.lst zs))) fun v=>Q v (put G2 p (.lst zs))) (Zne (xs.map Kd.enc) (ys.map Kd.enc)) [none,none] G []:=by
 rw [Zha,List.zip_map,List.map_map]
 have e3:((fun x:W×W=>W.tup [x.1,x.2])∘Prod.map Kd.enc Kd.enc)=fun x:Kd×Kd=>W.tup [x.1.enc,x.2.enc]:=rfl
 rw [e3]
 refine Zqk (e1:=fun x:Kd×Kd=>x.1.enc) (e2:=fun x=>x.2.enc) (f:=fun p=>.bl (Zbn n p.1 p.2)) trivial (xs.zip ys) none none [] (fun x hx' Q' q'=>?_) (by have:=List.length_zip (l₁:=xs) (l₂:=ys);simp only [List.length_nil];exact Zbh (by omega)) fun p hp=>?_
 ·show Zae _ _ _ [some x.1.enc,some x.2.enc] G Q'
  walk_at "rd"
  exact ⟨x,⟨rfl,hx x hx'⟩,q'⟩
 rw [List.nil_append,show (fun p:Kd×Kd=>W.bl (Zbn n p.1 p.2))=W.bl∘(fun p:Kd×Kd=>Zbn n p.1 p.2) from rfl,← List.map_map]
 simp only [ZhH,Zeg Zad,Option.bind_some,ZdJ,Option.map_some,Zac]
 rw [List.all_map]
 exact hC _ _ _ (Za0 hp) q
theorem Zb1 (T:Tx K mg base a):∀ n:Nat,Df P w K mg base "is_less" (3*n+2) 2 (Zsk n)
 | 0=>ZlL T.Znz ZbK fun ws G Q E ⟨x,⟨_,_,_,h⟩,_⟩=>by have:=ZbX x.1;omega
 | n+1=>by
  have D:=Zb1 T n
  have DE:=ZcQ T D
  have DR:=Zdv T (by omega) DE
  refine mk0 (k:=3*n+4) T.Znz rfl ZmJ ZbK (fun ws G Q E ⟨x,⟨e,_⟩,_⟩=>by rw [e];rfl) (Zr3 T DR (Nat.le_refl _) D (by omega)) fun ws G Q E hC q=>?_
  obtain ⟨⟨k,l⟩,⟨rfl,w1,w2,hd⟩,q⟩:=q
  dsimp only at w1 w2 hd q
  unfold Zmj
  by_cases ha:k=.any
  ·subst ha
   simp only [Kd.enc];walk_at "rd"
   exact q
  ·have h1:=ZyB ha
   show Zat (gIf _ _ Zam) _ (ZaE Q) [some k.enc,some l.enc] G
   by_cases hh:k.hd=l.hd
   ·have h2:(k.hd==l.hd)=true:=by simp [hh]
    simp only [Zat,gIf,gTB,Zai,Zak,Zab,gC,List.getElem?_cons_zero,List.getElem?_cons_succ,Zbv,Zac,eqF,eqW,h1,h2,Option.map_some,Zam,show (false != false)=false from rfl,show (true != true)=false from rfl,Bool.false_eq_true,if_false]
    cases k <;> cases l <;> first | exact absurd hh (by simp only [Kd.hd];decide) | exact absurd rfl ha | skip
    ·simp only [Kd.hd];walk_at "rd";simp only [Kd.enc,slA,Zmc,List.drop_succ_cons,List.drop_zero]
     exact ⟨[],[],rfl,Zi3 (xs:=[]) (ys:=[]) hC (by decide) (fun p hp=>by cases hp) q⟩
    ·simp only [Kd.hd];walk_at "rd";simp only [Kd.enc,slA,Zmc,List.drop_succ_cons,List.drop_zero]
     exact ⟨[],[],rfl,Zi3 (xs:=[]) (ys:=[]) hC (by decide) (fun p hp=>by cases hp) q⟩
    ·rename_i a1 a2 b1 b2
     walk_at "po"
     walk_at "pp"
     simp only [Kd.hd];walk_at "rd";simp only [Kd.enc,slA,Zmc,List.drop_succ_cons,List.drop_zero]
     refine ⟨[a1.enc,a2.enc],[b1.enc,b2.enc],rfl,Zi3 (xs:=[a1,a2]) (ys:=[b1,b2]) hC (by simp) (fun p hp=>?_) ?_⟩
     ·simp only [List.zip_cons_cons,List.zip_nil_right,List.mem_cons,List.not_mem_nil,or_false] at hp
      rcases hp with rfl | rfl
      ·exact ⟨Zba w1 (by simp [Kd.kids]),Zba w2 (by simp [Kd.kids]),by dsimp only;omega⟩
      ·walk_at "pq"
     ·have e:Zbn (n+1) (.to a1 a2) (.to b1 b2)=(([a1,a2].zip [b1,b2]).all fun p=>Zbn n p.1 p.2):=by
       show (Zbn n a1 b1&&Zbn n a2 b2)=_
       simp
      rw [e] at q;exact q
    ·rename_i a1 b1
     walk_at "pr"
     simp only [Kd.hd];walk_at "rd";simp only [Kd.enc,slA,Zmc,List.drop_succ_cons,List.drop_zero]
     refine ⟨[a1.enc],[b1.enc],rfl,Zi3 (xs:=[a1]) (ys:=[b1]) hC (by simp) (fun p hp=>?_) ?_⟩
     ·simp only [List.zip_cons_cons,List.zip_nil_right,List.mem_cons,List.not_mem_nil,or_false] at hp
      subst hp
      walk_at "pq"
     ·have e:Zbn (n+1) (.box a1) (.box b1)=(([a1].zip [b1]).all fun p=>Zbn n p.1 p.2):=by
       show Zbn n a1 b1=_
       simp
      rw [e] at q;exact q
    ·rename_i fs o gs p
     simp only [Kd.hd];walk_at "rd"
     exact ⟨(fs,o,gs,p),⟨rfl,w1,w2,hd⟩,q⟩
   ·have h2:(k.hd==l.hd)=false:=by simp [hh]
    simp only [Zat,gIf,gTB,Zai,Zak,Zab,gC,List.getElem?_cons_zero,List.getElem?_cons_succ,Zbv,Zac,eqF,eqW,h1,h2,Option.map_some,Zam,show (false != false)=false from rfl,show (false != true)=true from rfl,Bool.false_eq_true,if_false,if_true,Zay,ZaE]
    rw [Zs5 hh ha n] at q
    exact q
theorem Zi6 {k:Kd} (h:kt8 k):Zi1 k=true:=decide_eq_true h.2
abbrev Zr2:Spw:=spR (fun (x:Kd×Kd) ws _=>ws=[x.1.enc,x.2.enc]∧kt8 x.1∧kt8 x.2) fun x=>.bl (Zbn 8 x.1 x.2)
theorem ZdX (T:Tx K mg base a):Df P w K mg base "knows_less" 27 2 Zr2:=by
 refine mk0 (k:=26) T.ZmD rfl ZiH ZbK (fun ws G Q E ⟨x,⟨e,_⟩,_⟩=>by rw [e];rfl) (ZmS T (ZaN T) (by omega) (Zb1 T 8) (by omega)) fun ws G Q E hC q=>?_
 obtain ⟨⟨k,l⟩,⟨rfl,h1,h2⟩,q⟩:=q
 dsimp only at h1 h2 q
 unfold Zii
 walk_at "rd"
 exact ⟨(k,l),⟨rfl,⟨h1.1.1,Zi6 h1⟩,⟨h2.1.1,Zi6 h2⟩⟩,(k,l),⟨rfl,h1.1,h2.1,h1.2.2⟩,q⟩
theorem ZlQ {m m':Bool} (h:mark m=mark m'):m=m':=by
 by_cases e:m=m'
 ·exact e
 ·have:=Zvk e;rw [h] at this;simp at this
theorem Zox {k:Kd} (h:kd8 k):Zi1 k=true:=decide_eq_true h.2
theorem ZrE {k:Kd} (h:kd8 k):kt8 k:=⟨⟨h.1.1,ZgO h.1.2⟩,h.2⟩
theorem Zuu {x y:Str} (h:ZaY x y=false) (hne:x≠y):ZaY y x=true:=by
 unfold ZaY at h ⊢
 refine decide_eq_true ?_
 have h1:y.cps.toList≤x.cps.toList:=of_decide_eq_false h
 rcases List.le_iff_lt_or_eq.mp h1 with z | z
 ·exact z
 ·exact absurd (by cases x;cases y;congr 1;exact (Array.toList_inj.mp z).symm) hne
theorem Zzn:∀ (p:Str) (r:List Str),risingS p r=true→(p::r).Nodup→(p::r).Pairwise (fun x y=>ZaY x y=true)
 | p,[],_,_=>.cons (fun _ h=>by cases h) .nil
 | p,x::r,h,hn=>by
  have h':(!ltCps x.cps.toList p.cps.toList&&risingS x r)=true:=h
  simp only [Bool.and_eq_true,Bool.not_eq_true'] at h'
  obtain ⟨n1,n2⟩:=List.nodup_cons.mp hn
  have ih:=Zzn x r h'.2 n2
  have hpx:ZaY p x=true:=Zuu (by rw [← h'.1,ltCps_eq];rfl) fun e=>n1 (by rw [e];exact List.mem_cons_self)
  refine .cons (fun z hz=>?_) ih
  rcases List.mem_cons.mp hz with rfl | hz
  ·exact hpx
  ·exact ZsV hpx ((List.pairwise_cons.mp ih).1 z hz)
open Classical in
noncomputable def ZhI (fs gs:Fs):List Str:=if h:∃ zs:List Str,zs.Pairwise (fun x y=>ZaY x y=true)∧∀ x,x∈zs↔x∈fs.names∨x∈gs.names then choose h else []
theorem ZlD {fs gs:Fs} {zs:List Str} (z1:zs.Nodup) (z2:sortedS zs=true) (z3:∀ x,x∈zs↔x∈fs.names∨x∈gs.names):zs=ZhI fs gs:=by
 have hp:zs.Pairwise (fun x y=>ZaY x y=true):=by
  cases zs with
  | nil=>exact .nil
  | cons x r=>exact Zzn x r z2 z1
 have h:∃ zs:List Str,zs.Pairwise (fun x y=>ZaY x y=true)∧∀ x,x∈zs↔x∈fs.names∨x∈gs.names:=⟨zs,hp,z3⟩
 unfold ZhI
 rw [dif_pos h]
 have:=Classical.choose_spec h
 exact Zi2 hp this.1 fun x=>by rw [z3,this.2]
def ZiO:List (Str×Option (List Str))→Option (List Str)
 | []=>none
 | (x,some p)::_=>some (x::p)
 | (_,none)::r=>ZiO r
def clE (f:Kd→Kd→Option (List Str)):En→En→Option (List Str)
 | .free,_=>none
 | _,.free=>none
 | .nope,.nope=>none
 | .told m k,.told m' k'=>if m=m' then f k k' else some []
 | _,_=>some []
noncomputable def cl:Nat→Kd→Kd→Option (List Str)
 | 0,_,_=>none
 | _+1,.any,_=>none
 | _+1,_,.any=>none
 | _+1,.num,.num=>none
 | _+1,.truth,.truth=>none
 | n+1,.to a b,.to c d=>ZiO [("in",cl n a c),("out",cl n b d)]
 | n+1,.box a,.box b=>ZiO [("inside",cl n a b)]
 | n+1,.row fs o,.row gs p=>ZiO ((ZhI fs gs).map fun x=>(x,clE (cl n) (ent fs o x) (ent gs p x)))
 | _+1,_,_=>some []
def pW:Option (List Str)→W
 | none=>.non
 | some l=>.tup (l.map W.str)
theorem ZeQ {n:Nat}:∀ {us:List (Str×Option (List Str))} {p:List Str},(∀ u∈us,∀ q,u.2=some q→q.length≤n)→ZiO us=some p→p.length≤n+1
 | (x,some q)::_,p,h,e=>by
  cases e
  have:=h _ List.mem_cons_self q rfl
  simp only [List.length_cons];omega
 | (_,none)::r,p,h,e=>ZeQ (us:=r) (fun u hu=>h u (List.mem_cons_of_mem _ hu)) e
theorem Zqv {n:Nat} {f:Kd→Kd→Option (List Str)} (h:∀ k l p,f k l=some p→p.length≤n) {e e':En} {p:List Str} (hp:clE f e e'=some p):p.length≤n:=by
 cases e <;> cases e' <;> first | (cases hp;done) | (cases hp;exact Nat.zero_le _) | skip
 rename_i m k m' k'
 have hp':(if m=m' then f k k' else some [])=some p:=hp
 by_cases z:m=m'
 ·rw [if_pos z] at hp';exact h _ _ _ hp'
 ·rw [if_neg z] at hp';cases hp';exact Nat.zero_le _
theorem ZiB:∀ (n:Nat) (k l:Kd) (p:List Str),cl n k l=some p→p.length≤n
 | 0,_,_,p,h=>by cases h
 | n+1,k,l,p,h=>by
  cases k <;> cases l <;> first | (cases h;done) | (cases h;exact Nat.zero_le _) | skip
  ·refine ZeQ (fun u hu q hq=>?_) h
   walk_at "pd"
   rcases hu with rfl | rfl
   ·exact ZiB n _ _ _ hq
   ·exact ZiB n _ _ _ hq
  ·refine ZeQ (fun u hu q hq=>?_) h
   walk_at "pd"
   subst hu
   exact ZiB n _ _ _ hq
  ·refine ZeQ (fun u hu q hq=>?_) h
   obtain ⟨x,_,rfl⟩:=List.mem_map.mp hu
   exact Zqv (ZiB n) hq
abbrev ZoJ:List Str:=["step","path"]
theorem ZoQ:Zau ZoJ ["step","path"] (Zag Zl3):=by walk_at "s"
def Zpq:GS:=(Zay (ZhG (gTB (Zai (Zak (isF false)) (Zab 1) (gC .non))) (gC .non) (Zai (ZgY) (ZaQ (Zaa (Zab 0) Zaj)) (Zab 1))))
theorem ZtV {k:Nat} (T:Tx K mg base a):Dn P w K mg base ZoJ "behind" Zl3 k (Zpq):=by
 have hN:=ZoQ.nd
 walk_at "z"
abbrev ZdW:List Str:=["one","other"]
theorem ZdT:Zau ZdW ["one","other"] (Zag ZcF):=by walk_at "s"
def ZdS (ZaS:Spw):GS:=(Zat (gIf (gTB (Zai (Zak (inF false)) (gC (.str "free")) (ZaQ (Zaa (Zai (Zak ixW) (Zab 0) (gC (.int 0))) (Zaa (Zai (Zak ixW) (Zab 1) (gC (.int 0))) Zaj))))) (Zay (gC .non)) Zam) (Zat (gIf (gTB (Zai (Zak (eqF true)) (Zai (Zak ixW) (Zab 0) (gC (.int 0))) (Zai (Zak ixW) (Zab 1) (gC (.int 0))))) (Zay (ZaQ Zaj)) Zam) (Zay (ZhG (gTB (Zai (Zak (eqF false)) (Zai (Zak ixW) (Zab 0) (gC (.int 0))) (gC (.str "none")))) (gC .non) (Zae ZaS XF (Zaa (Zai (Zak ixW) (Zab 0) (gC (.int 1))) (Zaa (Zai (Zak ixW) (Zab 1) (gC (.int 1))) Zaj)))))))
theorem Zhb {k:Nat} (T:Tx K mg base a) {Zbx:Nat} {ZaS:Spw} (ZkE:Df P w K mg base "clash_of" Zbx 2 ZaS) (Zk2:Zbx≤k):Dn P w K mg base ZdW "clash_of_entries" ZcF k (ZdS ZaS):=by
 have hN:=ZdT.nd
 walk_at "z"
abbrev Zfp:List Str:=["one","other","name","found"]
theorem Zfe:Zau Zfp ["one","other"] (Zag ZdI):=by walk_at "s"
def Zft (Zal:Spw) (Zas:Spw) (ZbE:Spw) (ZaD:Spw):GS:=(Zat (ZfH (Zbl (Zae Zal XF (Zaa (Zab 0) (Zaa (Zab 1) Zaj)))) (gNm 2) (Zat (Za9 3 (Zae ZbE XF (Zaa (Zae Zas XF (Zaa (Zab 0) (Zaa (Zab 2) Zaj))) (Zaa (Zae Zas XF (Zaa (Zab 1) (Zaa (Zab 2) Zaj))) Zaj)))) (gIf (gTB (Zai (Zak (isF true)) (Zab 3) (gC .non))) (Zay (Zae ZaD XF (Zaa (Zab 2) (Zaa (Zab 3) Zaj)))) Zam))) (Zay (gC .non)))
theorem Zjz {k:Nat} (T:Tx K mg base a) {Zap:Nat} {Zal:Spw} (ZcA:Df P w K mg base "names_of_both" Zap 2 Zal) (ZcI:Zap≤k) {ZaH:Nat} {Zas:Spw} (ZfK:Df P w K mg base "entry_of" ZaH 2 Zas) (Zfx:ZaH≤k) {ZbU:Nat} {ZbE:Spw} (ZoS:Df P w K mg base "clash_of_entries" ZbU 2 ZbE) (ZoV:ZbU≤k) {Za3:Nat} {ZaD:Spw} (ZiX:Df P w K mg base "behind" Za3 2 ZaD) (ZiW:Za3≤k):Dn P w K mg base Zfp "clash_of_rows" ZdI k (Zft Zal Zas ZbE ZaD):=by
 have hN:=Zfe.nd
 walk_at "z"
abbrev Zk9:List Str:=["one","other","step","left","right","found"]
theorem Zli:Zau Zk9 ["one","other"] (Zag Zid):=by walk_at "s"
def ZkN (Zcj:Spw) (ZaS:Spw) (ZaD:Spw):GS:=(Zat (gIf (gTB (Zai (Zak (inF false)) (gC (.str "any")) (ZaQ (Zaa (Zai (Zak ixW) (Zab 0) (gC (.int 0))) (Zaa (Zai (Zak ixW) (Zab 1) (gC (.int 0))) Zaj))))) (Zay (gC .non)) Zam) (Zat (gIf (gTB (Zai (Zak (eqF true)) (Zai (Zak ixW) (Zab 0) (gC (.int 0))) (Zai (Zak ixW) (Zab 1) (gC (.int 0))))) (Zay (ZaQ Zaj)) Zam) (Zat (gIf (gTB (Zai (Zak (eqF false)) (Zai (Zak ixW) (Zab 0) (gC (.int 0))) (gC (.str "row")))) (Zay (Zae Zcj XF (Zaa (Zab 0) (Zaa (Zab 1) Zaj)))) Zam) (Zat (ZfH (Zny (Zaa (Ztl Zg9 (Zai (Zak ixW) (Zab 0) (gC (.int 0)))) (Zaa (Zji (Zab 0) (Zco (gC (.int 1))) ZaO) (Zaa (Zji (Zab 1) (Zco (gC (.int 1))) ZaO) Zaj)))) (ZnB 2 3 4) (Zat (Za9 5 (Zae ZaS XF (Zaa (Zab 3) (Zaa (Zab 4) Zaj)))) (gIf (gTB (Zai (Zak (isF true)) (Zab 5) (gC .non))) (Zay (Zae ZaD XF (Zaa (Zab 2) (Zaa (Zab 5) Zaj)))) Zam))) (Zay (gC .non))))))
theorem ZpX {k:Nat} (T:Tx K mg base a) {ZcB:Nat} {Zcj:Spw} (Zrc:Df P w K mg base "clash_of_rows" ZcB 2 Zcj) (Zrv:ZcB≤k) {Zbx:Nat} {ZaS:Spw} (ZkE:Df P w K mg base "clash_of" Zbx 2 ZaS) (Zk2:Zbx≤k) {Za3:Nat} {ZaD:Spw} (ZiX:Df P w K mg base "behind" Za3 2 ZaD) (ZiW:Za3≤k):Dn P w K mg base Zk9 "clash_of" Zid k (ZkN Zcj ZaS ZaD):=fun {f cdv A outer s H E} hr =>
 have hu:=Zg2 hr
 have hN:=Zli.nd
 (Zaq (by walk_at "v") (Zaq (by walk_at "v") (Zaq (by walk_at "v") (Zaq (ZeS PassesOwn.never rfl (fun _=>rfl) (ZtH T.ZrU rfl rfl rfl (ZaU rfl (ZvV T.ZrP rfl rfl (fun _ _=>rfl) (by walk_at "v")) (by walk_at "v"))) (by walk_at "v") (by walk_at "v")) (by walk_at "v")))))
def En.hd:En→Str
 | .free=>"free"
 | .nope=>"none"
 | .told m _=>mark m
theorem ZdH (e:En) (G:Hw):ixW e.enc (.int 0) G=some (.str e.hd):=by cases e <;> exact ZcZ
theorem ZfJ {x y:W} {s t:Str} {e:GE} {Zbm:GS} {D:Ew} {ω:Sw} {G:Hw} (h0:ω[0]?=some (some x)) (h1:ω[1]?=some (some y)) (e0:ixW x (.int 0) G=some (.str s)) (e1:ixW y (.int 0) G=some (.str t)) (h:if s=t then Zbm D ω G else e ω G D.rt) :
  Zat (gIf (gTB (Zai (Zak (eqF true)) (Zai (Zak ixW) (Zab 0) (gC (.int 0))) (Zai (Zak ixW) (Zab 1) (gC (.int 0))))) (Zay e) Zam) Zbm D ω G:=by
 simp only [Zat,gIf,gTB,Zai,Zak,Zab,h0,h1,gC,Zay,Zam]
 rw [e0,Zac,e1,Zac]
 simp only [eqF,eqW,Option.map_some,Zac]
 by_cases z:s=t
 ·rw [if_pos z] at h
  have:(s==t)=true:=by simp [z]
  walk_at "py"
  exact h
 ·rw [if_neg z] at h
  have:(s==t)=false:=by simp [z]
  simp only [this,show (false != true)=true from rfl,if_true]
  exact h
theorem ZbC (m:Bool):mark m≠"free"∧mark m≠"none"∧(("free":Str)≠"none"):=by cases m <;> decide +kernel
theorem Zg8 {k:Kd} {e:GE} {Zbm:GS} {D:Ew} {ω:Sw} {G:Hw} (h1:ω[0]?=some (some k.enc)) (h:if k.hd="row" then e ω G D.rt else Zbm D ω G) :
  Zat (gIf (gTB (Zai (Zak (eqF false)) (Zai (Zak ixW) (Zab 0) (gC (.int 0))) (gC (.str "row")))) (Zay e) Zam) Zbm D ω G:=by
 simp only [Zat,gIf,gTB,Zai,Zak,Zab,h1,gC,Zay,Zam]
 rw [Zbv]
 simp only [Zac,eqF,eqW,Option.map_some]
 by_cases z:k.hd="row"
 ·rw [if_pos z] at h
  simp only [z,beq_self_eq_true,show (true != false)=true from rfl,if_true]
  exact h
 ·rw [if_neg z] at h
  have:(k.hd=="row")=false:=by simpa using z
  walk_at "py"
  exact h
theorem Zf4 {k:Kd} (h:k.hd="row"):∃ fs o,k=.row fs o:=by
 cases k <;> first | exact ⟨_,_,rfl⟩ | exact absurd h (by simp only [Kd.hd];decide)
theorem Zg5 {x y:W} {s a b:Str} {e:GE} {Zbm:GS} {D:Ew} {ω:Sw} {G:Hw} (h0:ω[0]?=some (some x)) (h1:ω[1]?=some (some y)) (e0:ixW x (.int 0) G=some (.str a)) (e1:ixW y (.int 0) G=some (.str b)) (h:if a=s∨b=s then e ω G D.rt else Zbm D ω G) :
  Zat (gIf (gTB (Zai (Zak (inF false)) (gC (.str s)) (L3.ZaQ (L3.Zaa (Zai (Zak ixW) (Zab 0) (gC (.int 0))) (L3.Zaa (Zai (Zak ixW) (Zab 1) (gC (.int 0))) L3.Zaj))))) (Zay e) Zam) Zbm D ω G:=by
 simp only [Zat,gIf,gTB,Zai,Zak,Zab,h0,h1,gC,Zay,Zam,L3.ZaQ,L3.Zaa,L3.Zaj]
 rw [e0,Zac,e1,Zac]
 refine ⟨(show 2≤sizeLine by decide),?_⟩
 have ei:inF false (.str s) (.tup [.str a,.str b]) G=some (.bl ([a,b].any (·==s))):=by
  unfold inF
  show (ZnU ([a,b].map W.str)).map (fun us=>W.bl (if false=true then !inV (.str s) us else inV (.str s) us))=_
  rw [ZkV]
  show some (W.bl (inV (.str s) ([a,b].map V.str)))=_
  rw [Zpc]
 rw [ei,Zac]
 by_cases z:a=s∨b=s
 ·rw [if_pos z] at h
  have:[a,b].any (·==s)=true:=by simpa using z
  rw [this];exact h
 ·rw [if_neg z] at h
  have:[a,b].any (·==s)=false:=by
   rw [List.any_eq_false]
   intro c hc
   simp only [List.mem_cons,List.not_mem_nil,or_false] at hc
   rcases hc with rfl | rfl
   ·simpa using fun q=>z (.inl q)
   ·simpa using fun q=>z (.inr q)
  rw [this];exact h
abbrev Zi5:Spw:=spR (fun (x:Str×Option (List Str)) ws _=>ws=[.str x.1,pW x.2]∧∀ p,x.2=some p→p.length≤100) fun x=>pW (x.2.map (x.1::·))
theorem Za3 (T:Tx K mg base a):Df P w K mg base "behind" 1 2 Zi5:=by
 refine mk0 T.ZtJ rfl ZoQ ZbK (fun ws G Q E ⟨x,⟨e,_⟩,_⟩=>by rw [e];rfl) (ZtV T) fun ws G Q E hC q=>?_
 obtain ⟨⟨s,c⟩,⟨rfl,hl⟩,q⟩:=q
 dsimp only at hl q
 unfold Zpq
 show Zay _ (ZaE Q) [some (.str s),some (pW c)] G
 cases c with
 | none=>exact q
 | some p =>
  simp only [Zay,ZhG,gTB,Zai,Zak,Zab,gC,pW,List.getElem?_cons_zero,List.getElem?_cons_succ,isF,Zp2,Zac,show (false != false)=false from rfl,Bool.false_eq_true,if_false,L3.ZaQ,L3.Zaa,L3.Zaj,ZaE]
  refine ⟨(show 1≤sizeLine by decide),?_⟩
  rw [Zbk]
  have:=hl p rfl
  exact ⟨by simp only [List.length_cons,List.length_nil,List.length_map];exact Zbh (by omega),q⟩
abbrev Zke (n:Nat):Spw:=spR (fun (x:Kd×Kd) ws _=>ws=[x.1.enc,x.2.enc]∧wt x.1∧wt x.2∧x.1.dp≤n) fun x=>pW (cl n x.1 x.2)
abbrev Zzw (n:Nat):Spw:=spR (fun (x:En×En) ws _=>ws=[x.1.enc,x.2.enc]∧∀ m k m' k',x.1=.told m k→x.2=.told m' k'→wt k∧wt k'∧k.dp≤n) fun x=>pW (clE (cl n) x.1 x.2)
theorem Zje {f:Kd→Kd→Option (List Str)} {e e':En} (hf:e.hd="free"∨e'.hd="free"):clE f e e'=none:=by
 cases e with
 | free=>rfl
 | nope =>
  cases e' with
  | free=>rfl
  | nope=>rfl
  | told m k=>exact absurd (hf.resolve_left (by decide)) (ZbC m).1
 | told m k =>
  cases e' with
  | free=>rfl
  | nope=>exact absurd (hf.resolve_right (by decide)) (ZbC m).1
  | told m' k'=>exact absurd hf (fun z=>z.elim (ZbC m).1 (ZbC m').1)
theorem Zye {f:Kd→Kd→Option (List Str)} {e e':En} (hf:¬ (e.hd="free"∨e'.hd="free")) (z:¬ e.hd=e'.hd):clE f e e'=some []:=by
 cases e with
 | free=>exact absurd (.inl rfl) hf
 | nope =>
  cases e' with
  | free=>exact absurd (.inr rfl) hf
  | nope=>exact absurd rfl z
  | told m k=>rfl
 | told m k =>
  cases e' with
  | free=>exact absurd (.inr rfl) hf
  | nope=>rfl
  | told m' k' =>
   have:m≠m':=fun q=>z (by rw [q];rfl)
   show (if m=m' then f k k' else some [])=some []
   rw [if_neg this]
theorem ZvC {e e':En} (hf:¬ (e.hd="free"∨e'.hd="free")) (z:e.hd=e'.hd):(e=.nope∧e'=.nope)∨∃ m k k',e=.told m k∧e'=.told m k':=by
 cases e with
 | free=>exact absurd (.inl rfl) hf
 | nope =>
  cases e' with
  | free=>exact absurd (.inr rfl) hf
  | nope=>exact .inl ⟨rfl,rfl⟩
  | told m k=>exact absurd z.symm (ZbC m).2.1
 | told m k =>
  obtain ⟨n1,n2,_⟩:=ZbC m
  cases e' with
  | free=>exact absurd z n1
  | nope=>exact absurd z n2
  | told m' k'=>obtain rfl:=ZlQ z;exact .inr ⟨m,k,k',rfl,rfl⟩
theorem ZoD {f:Kd→Kd→Option (List Str)} {m:Bool} {k k':Kd}:clE f (.told m k) (.told m k')=f k k':=by show (if m=m then f k k' else some [])=_;rw [if_pos rfl]
theorem ZbU (T:Tx K mg base a) {j n:Nat} (D:Df P w K mg base "clash_of" j 2 (Zke n)):Df P w K mg base "clash_of_entries" (j+1) 2 (Zzw n):=by
 refine mk0 T.Zht rfl ZdT ZbK (fun ws G Q E ⟨x,⟨e,_⟩,_⟩=>by rw [e];rfl) (Zhb T D (Nat.le_refl _)) fun ws G Q E hC q=>?_
 obtain ⟨⟨e,e'⟩,⟨rfl,h⟩,q⟩:=q
 dsimp only at h q
 unfold ZdS
 show Zat (gIf _ _ Zam) _ (ZaE Q) [some e.enc,some e'.enc] G
 refine Zg5 rfl rfl (ZdH e G) (ZdH e' G) ?_
 by_cases hf:e.hd="free"∨e'.hd="free"
 ·rw [if_pos hf]
  rw [Zje hf] at q
  exact q
 ·rw [if_neg hf]
  refine ZfJ rfl rfl (ZdH e G) (ZdH e' G) ?_
  by_cases z:e.hd=e'.hd
  ·rw [if_pos z]
   rcases ZvC hf z with ⟨rfl,rfl⟩ | ⟨m,k,k',rfl,rfl⟩
   ·exact q
   ·obtain ⟨w1,w2,hd⟩:=h m k m k' rfl rfl
    have hm:(mark m=="none")=false:=by simpa using (ZbC m).2.1
    rw [ZoD] at q
    simp only [Zay,ZhG,gTB,Zai,Zak,Zab,gC,En.enc,List.getElem?_cons_zero,List.getElem?_cons_succ,ixW,ZcZ,ZbV,Zac,eqF,eqW,hm,Option.map_some,bne_self_eq_false,Bool.false_eq_true,if_false,Zae,L3.Zaa,L3.Zaj,ZaE]
    exact ⟨(k,k'),⟨rfl,w1,w2,hd⟩,q⟩
  ·rw [if_neg z]
   rw [Zye hf z] at q
   exact ⟨by decide,q⟩
theorem Zoy {α:Type} (f g h:α→W):∀ xs:List α,ZlG (xs.map f) (xs.map g) (xs.map h)=xs.map fun x=>W.tup [f x,g x,h x]
 | []=>rfl
 | x::xs=>by show _::ZlG (xs.map f) (xs.map g) (xs.map h)=_;rw [Zoy f g h xs];rfl
theorem Zia {i j:Nat} {ge:GE} {D:Ew} {ω:Sw} {G:Hw} {c:Option (List Str)} {s:Str} (hj:ω[j]?=some (some (.str s))) (hij:j≠i) (hi:i < ω.length) (hn:∀ p,c=some p→p.length≤100) (hg:∀ Q:Kw,Q (pW c) G→ge ω G Q) (h1:c=none→D.nx (ω.set i (some .non)) G) (h2:∀ p,c=some p→D.rt (pW (some (s::p))) G) :
  Zat (Za9 i ge) (gIf (gTB (Zai (Zak (isF true)) (Zab i) (gC .non))) (Zay (Zae Zi5 XF (L3.Zaa (Zab j) (L3.Zaa (Zab i) L3.Zaj)))) Zam) D ω G:=by
 refine hg _ ?_
 have gi:∀ r:W,(ω.set i (some r))[i]?=some (some r):=fun r=>by rw [List.getElem?_set_self hi]
 have gj:∀ r:W,(ω.set i (some r))[j]?=some (some (.str s)):=fun r=>by rw [List.getElem?_set_ne (Ne.symm hij)];exact hj
 simp only [gIf,gTB,Zai,Zak,Zab,gi,gj,gC,isF,Zac,Zay,Zae,L3.Zaa,L3.Zaj,Zam]
 cases c with
 | none=>exact h1 rfl
 | some p =>
  have hl:=hn p rfl
  simp only [pW,Zp2,show (false != true)=true from rfl,if_true]
  exact ⟨(s,some p),⟨rfl,fun p' e=>by cases e;exact hl⟩,h2 p rfl⟩
abbrev gCR (sp:Spw):GS:=Zat (Za9 3 (Zae sp XF (L3.Zaa (Zae Zj9 XF (L3.Zaa (Zab 0) (L3.Zaa (Zab 2) L3.Zaj))) (L3.Zaa (Zae Zj9 XF (L3.Zaa (Zab 1) (L3.Zaa (Zab 2) L3.Zaj))) L3.Zaj)))) (gIf (gTB (Zai (Zak (isF true)) (Zab 3) (gC .non))) (Zay (Zae Zi5 XF (L3.Zaa (Zab 2) (L3.Zaa (Zab 3) L3.Zaj)))) Zam)
theorem Zqi {n:Nat} {D:Ew} {gd:Hw→Prop} {G:Hw} {fs gs:Fs} {o p:Bool} (hgd:gd G) (hn:n≤100) (hs:∀ x m k m' k',ent fs o x=.told m k→ent gs p x=.told m' k'→wt k∧wt k'∧k.dp≤n):∀ (xs:List Str) (o2 o3:Option W),
  (∀ q,ZiO (xs.map fun x=>(x,clE (cl n) (ent fs o x) (ent gs p x)))=some q→D.rt (pW (some q)) G)→(ZiO (xs.map fun x=>(x,clE (cl n) (ent fs o x) (ent gs p x)))=none→∀ o2 o3,D.nx [some (Kd.row fs o).enc,some (Kd.row gs p).enc,o2,o3] G) →
  Zeh gd (gNm 2) (gCR (Zzw n)) D (xs.map W.str) [some (Kd.row fs o).enc,some (Kd.row gs p).enc,o2,o3] G
 | [],o2,o3,_,h=>⟨hgd,h rfl o2 o3⟩
 | x::xs,o2,o3,hb,h=>by
  refine ⟨hgd,?_⟩
  show gCR (Zzw n) _ [some (Kd.row fs o).enc,some (Kd.row gs p).enc,some (.str x),o3] G
  refine Zia (i:=3) (j:=2) (c:=clE (cl n) (ent fs o x) (ent gs p x)) (s:=x) rfl (by decide) (by simp) (fun q e=>Nat.le_trans (Zqv (ZiB n) e) hn) (fun Q hQ=>?_) (fun e=>?_) (fun q e=>?_)
  ·simp only [Zae,L3.Zaa,L3.Zaj,Zab,List.getElem?_cons_zero,List.getElem?_cons_succ]
   exact ⟨(fs,o,x),rfl,(gs,p,x),rfl,(ent fs o x,ent gs p x),⟨rfl,hs x⟩,hQ⟩
  ·refine Zqi hgd hn hs xs _ _ (fun q z=>hb q ?_) (fun z=>h ?_)
   ·rw [List.map_cons,e];exact z
   ·rw [List.map_cons,e];exact z
  ·exact hb _ (by rw [List.map_cons,e];rfl)
abbrev ZBd (n:Nat):Spw:=spR (fun (x:Fs×Bool×Fs×Bool) ws _=>ws=[(Kd.row x.1 x.2.1).enc,(Kd.row x.2.2.1 x.2.2.2).enc]∧wt (.row x.1 x.2.1)∧wt (.row x.2.2.1 x.2.2.2)∧(Kd.row x.1 x.2.1).dp≤n+1) fun x=>pW (cl (n+1) (.row x.1 x.2.1) (.row x.2.2.1 x.2.2.2))
theorem ZcB (T:Tx K mg base a) {j n:Nat} (hj:2≤j) (hn:n≤90) (D:Df P w K mg base "clash_of_entries" j 2 (Zzw n)):Df P w K mg base "clash_of_rows" (j+1) 2 (ZBd n):=by
 refine mk0 T.Zjl rfl Zfe ZbK (fun ws G Q E ⟨x,⟨e,_⟩,_⟩=>by rw [e];rfl) (Zjz T (Zap T) hj (ZaH T) (by omega) D (Nat.le_refl _) (Za3 T) (by omega)) fun ws G Q E hC q=>?_
 obtain ⟨⟨fs,o,gs,p⟩,⟨rfl,w1,w2,hd⟩,q⟩:=q
 dsimp only at w1 w2 hd q
 unfold Zft
 show Zat (ZfH _ _ _) _ (ZaE Q) [some (Kd.row fs o).enc,some (Kd.row gs p).enc,none,none] G
 simp only [Zat,ZfH,Zbl,Zae,Zab,L3.Zaa,L3.Zaj,List.getElem?_cons_zero,List.getElem?_cons_succ]
 refine ⟨fs,gs,o,p,rfl,ZdQ w1,ZdQ w2,fun zs r z1 z2 z3 z4=>?_⟩
 have hz:=ZlD z1 z2 z3
 simp only [Zad]
 have hs:∀ x m k m' k',ent fs o x=.told m k→ent gs p x=.told m' k'→wt k∧wt k'∧k.dp≤n:=fun x m k m' k' u1 u2=>by
  have h1:=Zbt u1
  have h2:=Zbt u2
  have hk:=Zar (k:=.row fs o) (c:=k) h1
  exact ⟨Zba w1 h1,Zba w2 h2,by omega⟩
 have q':Q (pW (ZiO (zs.map fun x=>(x,clE (cl n) (ent fs o x) (ent gs p x))))) G:=by rw [hz];exact q
 refine Zqi (gd:=fun G'=>G' r=some (.lst (zs.map W.str))) Zad (by omega) hs zs none none (fun u z=>?_) (fun z o2 o3=>?_)
 ·rw [z] at q'
  exact hC _ _ _ (Za0 z4) q'
 ·rw [z] at q'
  exact hC _ _ _ (Za0 z4) q'
abbrev gCK (sp:Spw):GS:=Zat (Za9 5 (Zae sp XF (L3.Zaa (Zab 3) (L3.Zaa (Zab 4) L3.Zaj)))) (gIf (gTB (Zai (Zak (isF true)) (Zab 5) (gC .non))) (Zay (Zae Zi5 XF (L3.Zaa (Zab 2) (L3.Zaa (Zab 5) L3.Zaj)))) Zam)
theorem ZrF {n:Nat} {D:Ew} {G:Hw} {w0 w1:Option W} (hn:n≤100):∀ (xs:List (Str×Kd×Kd)) (o2 o3 o4 o5:Option W),(∀ u∈xs,wt u.2.1∧wt u.2.2∧u.2.1.dp≤n) →
  (∀ q,ZiO (xs.map fun u=>(u.1,cl n u.2.1 u.2.2))=some q→D.rt (pW (some q)) G)→(ZiO (xs.map fun u=>(u.1,cl n u.2.1 u.2.2))=none→∀ o2 o3 o4 o5,D.nx [w0,w1,o2,o3,o4,o5] G) →
  Zeh yes (ZnB 2 3 4) (gCK (Zke n)) D (xs.map fun u=>W.tup [.str u.1,u.2.1.enc,u.2.2.enc]) [w0,w1,o2,o3,o4,o5] G
 | [],o2,o3,o4,o5,_,_,h=>⟨trivial,h rfl o2 o3 o4 o5⟩
 | u::xs,o2,o3,o4,o5,hs,hb,h=>by
  refine ⟨trivial,?_⟩
  show gCK (Zke n) _ [w0,w1,some (.str u.1),some u.2.1.enc,some u.2.2.enc,o5] G
  obtain ⟨h1,h2,h3⟩:=hs u List.mem_cons_self
  refine Zia (i:=5) (j:=2) (c:=cl n u.2.1 u.2.2) (s:=u.1) rfl (by decide) (by simp) (fun q e=>Nat.le_trans (ZiB n _ _ _ e) hn) (fun Q hQ=>?_) (fun e=>?_) (fun q e=>?_)
  ·simp only [Zae,L3.Zaa,L3.Zaj,Zab,List.getElem?_cons_zero,List.getElem?_cons_succ]
   exact ⟨(u.2.1,u.2.2),⟨rfl,h1,h2,h3⟩,hQ⟩
  ·refine ZrF hn xs _ _ _ _ (fun v hv=>hs v (List.mem_cons_of_mem _ hv)) (fun q z=>hb q ?_) (fun z=>h ?_)
   ·rw [List.map_cons,e];exact z
   ·rw [List.map_cons,e];exact z
  ·exact hb _ (by rw [List.map_cons,e];rfl)
abbrev gCT (sp:Spw):GS:=Zat (ZfH (Zny (L3.Zaa (Ztl Zg9 (Zai (Zak ixW) (Zab 0) (gC (.int 0)))) (L3.Zaa (Zji (Zab 0) (Zco (gC (.int 1))) ZaO) (L3.Zaa (Zji (Zab 1) (Zco (gC (.int 1))) ZaO) L3.Zaj)))) (ZnB 2 3 4) (gCK sp)) (Zay (gC .non))
theorem ZsE {n:Nat} {k l:Kd} {s t:Str} {G:Hw} {Q:Kw} (us:List (Str×Kd×Kd)) (hn:n≤100) (e0:k.enc=.tup (.str s::us.map fun u=>u.2.1.enc)) (e1:l.enc=.tup (.str t::us.map fun u=>u.2.2.enc)) (hT:KTD.datumAt s Zg9=some (us.map (·.1))) (hs:∀ u∈us,wt u.2.1∧wt u.2.2∧u.2.1.dp≤n)
  (he:ZiO (us.map fun u=>(u.1,cl n u.2.1 u.2.2))=cl (n+1) k l) (q:Q (pW (cl (n+1) k l)) G):gCT (Zke n) (ZaE Q) [some k.enc,some l.enc,none,none,none,none] G:=by
 unfold gCT
 rw [e0,e1]
 simp only [Zat,ZfH,Zny,Ztl,L3.Zaa,L3.Zaj,Zai,Zab,gC,Zak,ixW,List.getElem?_cons_zero,List.getElem?_cons_succ,ZcZ,Zac,Zji,Zco,ZaO,slA,Zmc,List.drop_succ_cons,List.drop_zero]
 refine ⟨_,hT,_,_,_,rfl,by simp,by simp,?_⟩
 rw [List.map_map]
 have ez:=Zoy (fun u:Str×Kd×Kd=>W.str u.1) (fun u=>u.2.1.enc) (fun u=>u.2.2.enc) us
 rw [show ((W.str∘fun x:Str×Kd×Kd=>x.1))=fun u:Str×Kd×Kd=>W.str u.1 from rfl,ez]
 rw [← he] at q
 refine ZrF hn us none none none none hs (fun u z=>?_) (fun z o2 o3 o4 o5=>?_)
 ·rw [z] at q
  exact q
 ·rw [z] at q
  exact q
theorem Zfc {k:Kd} (h:k.hd="any"):k=.any:=by
 cases k <;> first | rfl | exact absurd h (by simp only [Kd.hd];decide)
theorem Zqh {n:Nat} {k l:Kd} (h:k.hd="any"∨l.hd="any"):cl (n+1) k l=none:=by
 rcases h with h | h
 ·rw [Zfc h];rfl
 ·rw [Zfc h];cases k <;> rfl
theorem Zxk {n:Nat} {k l:Kd} (h:k.hd≠l.hd) (hk:k≠.any) (hl:l≠.any):cl (n+1) k l=some []:=by
 cases k <;> cases l <;> first | rfl | exact absurd rfl h | exact absurd rfl hk | exact absurd rfl hl
theorem Zbx (T:Tx K mg base a):∀ n:Nat,n≤80→Df P w K mg base "clash_of" (3*n+2) 2 (Zke n)
 | 0,_=>ZlL T.Zlh ZbK fun ws G Q E ⟨x,⟨_,_,_,h⟩,_⟩=>by have:=ZbX x.1;omega
 | n+1,hn=>by
  have D:=Zbx T n (by omega)
  have DE:=ZbU T D
  have DR:=ZcB T (by omega) (by omega) DE
  refine mk0 (k:=3*n+4) T.Zlh rfl Zli ZbK (fun ws G Q E ⟨x,⟨e,_⟩,_⟩=>by rw [e];rfl) (ZpX T DR (Nat.le_refl _) D (by omega) (Za3 T) (by omega)) fun ws G Q E hC q=>?_
  obtain ⟨⟨k,l⟩,⟨rfl,w1,w2,hd⟩,q⟩:=q
  dsimp only at w1 w2 hd q
  unfold ZkN
  show Zat (gIf _ _ Zam) _ (ZaE Q) [some k.enc,some l.enc,none,none,none,none] G
  refine Zg5 rfl rfl (Zbv k G) (Zbv l G) ?_
  by_cases ha:k.hd="any"∨l.hd="any"
  ·rw [if_pos ha]
   rw [Zqh ha] at q
   exact q
  ·rw [if_neg ha]
   refine ZfJ rfl rfl (Zbv k G) (Zbv l G) ?_
   by_cases hh:k.hd=l.hd
   ·rw [if_pos hh]
    refine Zg8 (k:=k) rfl ?_
    by_cases hr:k.hd="row"
    ·rw [if_pos hr]
     obtain ⟨fs,o,rfl⟩:=Zf4 hr
     obtain ⟨gs,p,rfl⟩:=Zf4 (hh▸hr)
     exact ⟨(fs,o,gs,p),⟨rfl,w1,w2,hd⟩,q⟩
    ·rw [if_neg hr]
     cases k <;> cases l <;> first | exact absurd hh (by simp only [Kd.hd];decide) | exact absurd rfl hr | exact absurd (.inl rfl) ha | skip
     ·exact ZsE (s:="num") (t:="num") [] (by omega) rfl rfl rfl (fun u hu=>by cases hu) rfl q
     ·exact ZsE (s:="truth") (t:="truth") [] (by omega) rfl rfl rfl (fun u hu=>by cases hu) rfl q
     ·rename_i a1 a2 b1 b2
      walk_at "po"
      walk_at "pp"
      refine ZsE (s:="to") (t:="to") [("in",a1,b1),("out",a2,b2)] (by omega) rfl rfl rfl (fun u hu=>?_) rfl q
      walk_at "pd"
      rcases hu with rfl | rfl
      ·exact ⟨Zba w1 (by simp [Kd.kids]),Zba w2 (by simp [Kd.kids]),by dsimp only;omega⟩
      ·walk_at "pq"
     ·rename_i a1 b1
      walk_at "pr"
      refine ZsE (s:="box") (t:="box") [("inside",a1,b1)] (by omega) rfl rfl rfl (fun u hu=>?_) rfl q
      walk_at "pd"
      subst hu
      walk_at "pq"
   ·rw [if_neg hh]
    rw [Zxk hh (fun z=>ha (.inl (by rw [z];rfl))) (fun z=>ha (.inr (by rw [z];rfl)))] at q
    exact ⟨by decide,q⟩
abbrev Zej:List Str:=["one","other"]
theorem ZeG:Zau Zej ["one","other"] (Zag ZcX):=by walk_at "s"
def ZeA (ZaV:Spw):GS:=(Zat (gIf (gTB (Zai (Zak (inF false)) (gC (.str "free")) (ZaQ (Zaa (Zai (Zak ixW) (Zab 0) (gC (.int 0))) (Zaa (Zai (Zak ixW) (Zab 1) (gC (.int 0))) Zaj))))) (Zay (gC .non)) Zam) (Zat (gIf (gTB (Zai (Zak Zy4) (ZaQ (Zaa (Zai (Zak ixW) (Zab 0) (gC (.int 0))) (Zaa (Zai (Zak ixW) (Zab 1) (gC (.int 0))) Zaj))) (gC (.tup [(.tup [(.str "none"),(.str "none")]),(.tup [(.str "none"),(.str "may")]),(.tup [(.str "must"),(.str "must")]),(.tup [(.str "must"),(.str "may")]),(.tup [(.str "may"),(.str "may")])])))) (Zay (ZaQ Zaj)) Zam) (Zay (ZhG (gTB (Zai (Zak (eqF false)) (Zai (Zak ixW) (Zab 0) (gC (.int 0))) (gC (.str "none")))) (gC .non) (Zae ZaV XF (Zaa (Zai (Zak ixW) (Zab 0) (gC (.int 1))) (Zaa (Zai (Zak ixW) (Zab 1) (gC (.int 1))) Zaj)))))))
theorem ZhR {k:Nat} (T:Tx K mg base a) {ZbY:Nat} {ZaV:Spw} (Zm7:Df P w K mg base "lack_of" ZbY 2 ZaV) (Zm5:ZbY≤k):Dn P w K mg base Zej "lack_of_entries" ZcX k (ZeA ZaV):=by
 have hN:=ZeG.nd
 walk_at "z"
abbrev ZfV:List Str:=["one","other","name","found"]
theorem Zgq:Zau ZfV ["one","other"] (Zag Zei):=by walk_at "s"
def ZgA (Zal:Spw) (Zas:Spw) (ZbT:Spw) (ZaD:Spw):GS:=(Zat (ZfH (Zbl (Zae Zal XF (Zaa (Zab 0) (Zaa (Zab 1) Zaj)))) (gNm 2) (Zat (Za9 3 (Zae ZbT XF (Zaa (Zae Zas XF (Zaa (Zab 0) (Zaa (Zab 2) Zaj))) (Zaa (Zae Zas XF (Zaa (Zab 1) (Zaa (Zab 2) Zaj))) Zaj)))) (gIf (gTB (Zai (Zak (isF true)) (Zab 3) (gC .non))) (Zay (Zae ZaD XF (Zaa (Zab 2) (Zaa (Zab 3) Zaj)))) Zam))) (Zay (gC .non)))
theorem Zko {k:Nat} (T:Tx K mg base a) {Zap:Nat} {Zal:Spw} (ZcA:Df P w K mg base "names_of_both" Zap 2 Zal) (ZcI:Zap≤k) {ZaH:Nat} {Zas:Spw} (ZfK:Df P w K mg base "entry_of" ZaH 2 Zas) (Zfx:ZaH≤k) {Zb7:Nat} {ZbT:Spw} (Zp0:Df P w K mg base "lack_of_entries" Zb7 2 ZbT) (Zpw:Zb7≤k) {Za3:Nat} {ZaD:Spw} (ZiX:Df P w K mg base "behind" Za3 2 ZaD) (ZiW:Za3≤k):Dn P w K mg base ZfV "lack_of_rows" Zei k (ZgA Zal Zas ZbT ZaD):=by
 have hN:=Zgq.nd
 walk_at "z"
abbrev ZdC:List Str:=["one","other","found"]
theorem Zdy:Zau ZdC ["one","other"] (Zag Zcl):=by walk_at "s"
def ZdB (ZaV:Spw) (ZaD:Spw):GS:=(Zat (Za9 2 (Zae ZaD XF (Zaa (gC (.str "in")) (Zaa (Zae ZaV XF (Zaa (Zai (Zak ixW) (Zab 1) (gC (.int 1))) (Zaa (Zai (Zak ixW) (Zab 0) (gC (.int 1))) Zaj))) Zaj)))) (Zat (gIf (gTB (Zai (Zak (isF true)) (Zab 2) (gC .non))) (Zay (Zab 2)) Zam) (Zay (Zae ZaD XF (Zaa (gC (.str "out")) (Zaa (Zae ZaV XF (Zaa (Zai (Zak ixW) (Zab 0) (gC (.int 2))) (Zaa (Zai (Zak ixW) (Zab 1) (gC (.int 2))) Zaj))) Zaj))))))
theorem ZgV {k:Nat} (T:Tx K mg base a) {ZbY:Nat} {ZaV:Spw} (Zm7:Df P w K mg base "lack_of" ZbY 2 ZaV) (Zm5:ZbY≤k) {Za3:Nat} {ZaD:Spw} (ZiX:Df P w K mg base "behind" Za3 2 ZaD) (ZiW:Za3≤k):Dn P w K mg base ZdC "lack_of_functions" Zcl k (ZdB ZaV ZaD):=by
 have hN:=Zdy.nd
 walk_at "z"
abbrev Znx:List Str:=["one","other"]
theorem Zm6:Zau Znx ["one","other"] (Zag Zjj):=by walk_at "s"
def Zna (Zbo:Spw) (ZaS:Spw) (ZaD:Spw) (ZcN:Spw):GS:=(Zat (gIf (gTB (Zai (Zak (inF false)) (gC (.str "any")) (ZaQ (Zaa (Zai (Zak ixW) (Zab 0) (gC (.int 0))) (Zaa (Zai (Zak ixW) (Zab 1) (gC (.int 0))) Zaj))))) (Zay (gC .non)) Zam) (Zat (gIf (gTB (Zai (Zak (eqF true)) (Zai (Zak ixW) (Zab 0) (gC (.int 0))) (Zai (Zak ixW) (Zab 1) (gC (.int 0))))) (Zay (ZaQ Zaj)) Zam) (Zat (gIf (gTB (Zai (Zak (eqF false)) (Zai (Zak ixW) (Zab 0) (gC (.int 0))) (gC (.str "to")))) (Zay (Zae Zbo XF (Zaa (Zab 0) (Zaa (Zab 1) Zaj)))) Zam) (Zat (gIf (gTB (Zai (Zak (eqF false)) (Zai (Zak ixW) (Zab 0) (gC (.int 0))) (gC (.str "box")))) (Zay (Zae ZaD XF (Zaa (gC (.str "inside")) (Zaa (Zae ZaS XF (Zaa (Zai (Zak ixW) (Zab 0) (gC (.int 1))) (Zaa (Zai (Zak ixW) (Zab 1) (gC (.int 1))) Zaj))) Zaj)))) Zam) (Zat (gIf (gTB (Zai (Zak (eqF false)) (Zai (Zak ixW) (Zab 0) (gC (.int 0))) (gC (.str "row")))) (Zay (Zae ZcN XF (Zaa (Zab 0) (Zaa (Zab 1) Zaj)))) Zam) (Zay (gC .non)))))))
theorem Zqn {k:Nat} (T:Tx K mg base a) {ZbI:Nat} {Zbo:Spw} (Zoe:Df P w K mg base "lack_of_functions" ZbI 2 Zbo) (Zom:ZbI≤k) {Zbx:Nat} {ZaS:Spw} (ZkE:Df P w K mg base "clash_of" Zbx 2 ZaS) (Zk2:Zbx≤k) {Za3:Nat} {ZaD:Spw} (ZiX:Df P w K mg base "behind" Za3 2 ZaD) (ZiW:Za3≤k) {Zc7:Nat} {ZcN:Spw} (Zsx:Df P w K mg base "lack_of_rows" Zc7 2 ZcN) (Zsy:Zc7≤k):Dn P w K mg base Znx "lack_of" Zjj k (Zna Zbo ZaS ZaD ZcN):=by
 have hN:=Zm6.nd
 walk_at "z"
abbrev ZiE:List Str:=["one","other"]
theorem Zix:Zau ZiE ["one","other"] (Zag Zfi):=by walk_at "s"
def ZiD (ZaV:Spw):GS:=(Zay (Zai (Zak (isF false)) (Zae ZaV XF (Zaa (Zab 0) (Zaa (Zab 1) Zaj))) (gC .non)))
theorem Znl {k:Nat} (T:Tx K mg base a) {ZbY:Nat} {ZaV:Spw} (Zm7:Df P w K mg base "lack_of" ZbY 2 ZaV) (Zm5:ZbY≤k):Dn P w K mg base ZiE "does_serve" Zfi k (ZiD ZaV):=by
 have hN:=Zix.nd
 walk_at "z"
abbrev ZoF:List Str:=["one","other"]
theorem Zo3:Zau ZoF ["one","other"] (Zag Zl5):=by walk_at "s"
def Zpe (ZaC:Spw) (Zds:Spw):GS:=(Zat (Zbs (Zae ZaC XF (Zaa (Zab 0) (Zaa (Zab 1) Zaj)))) (Zay (Zae Zds XF (Zaa (Zab 0) (Zaa (Zab 1) Zaj)))))
theorem Zui {k:Nat} (T:Tx K mg base a) {ZaN:Nat} {ZaC:Spw} (Zhq:Df P w K mg base "check_kinds" ZaN 2 ZaC) (Zg4:ZaN≤k) {ZdO:Nat} {Zds:Spw} (Zu1:Df P w K mg base "does_serve" ZdO 2 Zds) (Zu2:ZdO≤k):Dn P w K mg base ZoF "serves" Zl5 k (Zpe ZaC Zds):=by
 have hN:=Zo3.nd
 walk_at "z"
def lkE (f:Kd→Kd→Option (List Str)):En→En→Option (List Str)
 | .free,_=>none
 | _,.free=>none
 | .nope,.nope=>none
 | .nope,.told m _=>if m then some [] else none
 | .told m k,.told m' k'=>if m'&&!m then some [] else f k k'
 | .told _ _,.nope=>some []
noncomputable def lk:Nat→Kd→Kd→Option (List Str)
 | 0,_,_=>none
 | _+1,.any,_=>none
 | _+1,_,.any=>none
 | _+1,.num,.num=>none
 | _+1,.truth,.truth=>none
 | n+1,.to a b,.to c d=>ZiO [("in",lk n c a),("out",lk n b d)]
 | n+1,.box a,.box b=>ZiO [("inside",cl n a b)]
 | n+1,.row fs o,.row gs p=>ZiO ((ZhI fs gs).map fun x=>(x,lkE (lk n) (ent fs o x) (ent gs p x)))
 | _+1,_,_=>some []
theorem ZqI {n:Nat} {f:Kd→Kd→Option (List Str)} (h:∀ k l p,f k l=some p→p.length≤n) {e e':En} {p:List Str} (hp:lkE f e e'=some p):p.length≤n:=by
 cases e <;> cases e' <;> first | (cases hp;done) | (cases hp;exact Nat.zero_le _) | skip
 ·rename_i m k
  cases m with
  | true=>cases hp;exact Nat.zero_le _
  | false=>cases hp
 ·rename_i m k m' k'
  have hp':(if (m'&&!m)=true then some [] else f k k')=some p:=hp
  by_cases z:(m'&&!m)=true
  ·rw [if_pos z] at hp';cases hp';exact Nat.zero_le _
  ·rw [if_neg z] at hp';exact h _ _ _ hp'
theorem Zlc:∀ (n:Nat) (k l:Kd) (p:List Str),lk n k l=some p→p.length≤n
 | 0,_,_,p,h=>by cases h
 | n+1,k,l,p,h=>by
  cases k <;> cases l <;> first | (cases h;done) | (cases h;exact Nat.zero_le _) | skip
  ·refine ZeQ (fun u hu q hq=>?_) h
   walk_at "pd"
   rcases hu with rfl | rfl
   ·exact Zlc n _ _ _ hq
   ·exact Zlc n _ _ _ hq
  ·refine ZeQ (fun u hu q hq=>?_) h
   walk_at "pd"
   subst hu
   exact ZiB n _ _ _ hq
  ·refine ZeQ (fun u hu q hq=>?_) h
   obtain ⟨x,_,rfl⟩:=List.mem_map.mp hu
   exact ZqI (Zlc n) hq
abbrev ZzN (n:Nat):Spw:=spR (fun (x:Kd×Kd) ws _=>ws=[x.1.enc,x.2.enc]∧wt x.1∧wt x.2∧x.1.dp≤n∧x.2.dp≤n) fun x=>pW (lk n x.1 x.2)
abbrev Zte (n:Nat):Spw:=spR (fun (x:En×En) ws _=>ws=[x.1.enc,x.2.enc]∧∀ m k m' k',x.1=.told m k→x.2=.told m' k'→wt k∧wt k'∧k.dp≤n∧k'.dp≤n) fun x=>pW (lkE (lk n) x.1 x.2)
theorem ZeM {f:Kd→Kd→Option (List Str)} {e e':En} (hf:e.hd="free"∨e'.hd="free"):lkE f e e'=none:=by
 cases e with
 | free=>rfl
 | nope =>
  cases e' with
  | free=>rfl
  | nope=>rfl
  | told m k=>exact absurd (hf.resolve_left (by decide)) (ZbC m).1
 | told m k =>
  cases e' with
  | free=>rfl
  | nope=>exact absurd (hf.resolve_right (by decide)) (ZbC m).1
  | told m' k'=>exact absurd hf (fun z=>z.elim (ZbC m).1 (ZbC m').1)
abbrev gSv:W:=.tup [(.tup [(.str "none"),(.str "none")]),(.tup [(.str "none"),(.str "may")]),(.tup [(.str "must"),(.str "must")]),(.tup [(.str "must"),(.str "may")]),(.tup [(.str "may"),(.str "may")])]
def svM:En→En→Bool
 | .nope,.nope=>true
 | .nope,.told m _=>!m
 | .told m _,.told m' _=>!(m'&&!m)
 | _,_=>false
theorem ZzJ {e e':En} (hf:¬ (e.hd="free"∨e'.hd="free")) (G:Hw):Zy4 (.tup [.str e.hd,.str e'.hd]) gSv G=some (.bl (!svM e e')):=by
 cases e with
 | free=>exact absurd (.inl rfl) hf
 | nope =>
  cases e' with
  | free=>exact absurd (.inr rfl) hf
  | nope=>rfl
  | told m k=>cases m <;> rfl
 | told m k =>
  cases e' with
  | free=>exact absurd (.inr rfl) hf
  | nope=>cases m <;> rfl
  | told m' k'=>cases m <;> cases m' <;> rfl
theorem Zy0 {f:Kd→Kd→Option (List Str)} {e e':En} (hf:¬ (e.hd="free"∨e'.hd="free")) (z:svM e e'=false):lkE f e e'=some []:=by
 cases e with
 | free=>exact absurd (.inl rfl) hf
 | nope =>
  cases e' with
  | free=>exact absurd (.inr rfl) hf
  | nope=>cases z
  | told m k=>cases m with | true=>rfl | false=>cases z
 | told m k =>
  cases e' with
  | free=>exact absurd (.inr rfl) hf
  | nope=>rfl
  | told m' k' =>
   have:(m'&&!m)=true:=by cases m <;> cases m' <;> first | rfl | cases z
   show (if (m'&&!m)=true then some [] else f k k')=_
   rw [if_pos this]
theorem Zb7 (T:Tx K mg base a) {j n:Nat} (D:Df P w K mg base "lack_of" j 2 (ZzN n)):Df P w K mg base "lack_of_entries" (j+1) 2 (Zte n):=by
 refine mk0 T.ZhX rfl ZeG ZbK (fun ws G Q E ⟨x,⟨e,_⟩,_⟩=>by rw [e];rfl) (ZhR T D (Nat.le_refl _)) fun ws G Q E hC q=>?_
 obtain ⟨⟨e,e'⟩,⟨rfl,h⟩,q⟩:=q
 dsimp only at h q
 unfold ZeA
 show Zat (gIf _ _ Zam) _ (ZaE Q) [some e.enc,some e'.enc] G
 refine Zg5 rfl rfl (ZdH e G) (ZdH e' G) ?_
 by_cases hf:e.hd="free"∨e'.hd="free"
 ·rw [if_pos hf]
  rw [ZeM hf] at q
  exact q
 ·rw [if_neg hf]
  simp only [Zat,gIf,gTB,Zai,Zak,Zab,gC,Zay,Zam,L3.ZaQ,L3.Zaa,L3.Zaj,List.getElem?_cons_zero,List.getElem?_cons_succ]
  rw [ZdH,Zac,ZdH,Zac]
  refine ⟨(show 2≤sizeLine by decide),?_⟩
  rw [ZzJ hf,Zac]
  dsimp only
  cases hz:svM e e' with
  | false =>
   rw [Zy0 hf hz] at q
   exact ⟨by decide,q⟩
  | true =>
   simp only [Bool.not_true,Bool.false_eq_true,if_false]
   simp only [ZhG,gTB,Zai,Zak,Zab,gC,List.getElem?_cons_zero,List.getElem?_cons_succ]
   rw [ZdH,Zac]
   simp only [eqF,eqW,Option.map_some,Zac]
   cases e with
   | free=>exact absurd (.inl rfl) hf
   | nope =>
    have e2:lkE (lk n) .nope e'=none:=by
     cases e' with
     | free=>rfl
     | nope=>rfl
     | told m k=>cases m with | true=>cases hz | false=>rfl
    rw [e2] at q
    exact q
   | told m k =>
    cases e' with
    | free=>exact absurd (.inr rfl) hf
    | nope=>cases hz
    | told m' k' =>
     obtain ⟨w1,w2,h1,h2⟩:=h m k m' k' rfl rfl
     have hm:(mark m=="none")=false:=by simpa using (ZbC m).2.1
     have e2:lkE (lk n) (.told m k) (.told m' k')=lk n k k':=by
      have:¬ (m'&&!m)=true:=by
       intro z
       have:svM (.told m k) (.told m' k')=!(m'&&!m):=rfl
       rw [this,z] at hz;cases hz
      show (if (m'&&!m)=true then some [] else lk n k k')=_
      rw [if_neg this]
     rw [e2] at q
     simp only [En.hd,hm,bne_self_eq_false,Bool.false_eq_true,if_false,Zae,L3.Zaa,L3.Zaj,Zai,Zak,Zab,gC,En.enc,List.getElem?_cons_zero,List.getElem?_cons_succ,ixW,ZbV,Zac]
     exact ⟨(k,k'),⟨rfl,w1,w2,h1,h2⟩,q⟩
theorem ZrI {n:Nat} {D:Ew} {gd:Hw→Prop} {G:Hw} {fs gs:Fs} {o p:Bool} (hgd:gd G) (hn:n≤100) (hs:∀ x m k m' k',ent fs o x=.told m k→ent gs p x=.told m' k'→wt k∧wt k'∧k.dp≤n∧k'.dp≤n):∀ (xs:List Str) (o2 o3:Option W),
  (∀ q,ZiO (xs.map fun x=>(x,lkE (lk n) (ent fs o x) (ent gs p x)))=some q→D.rt (pW (some q)) G)→(ZiO (xs.map fun x=>(x,lkE (lk n) (ent fs o x) (ent gs p x)))=none→∀ o2 o3,D.nx [some (Kd.row fs o).enc,some (Kd.row gs p).enc,o2,o3] G) →
  Zeh gd (gNm 2) (gCR (Zte n)) D (xs.map W.str) [some (Kd.row fs o).enc,some (Kd.row gs p).enc,o2,o3] G
 | [],o2,o3,_,h=>⟨hgd,h rfl o2 o3⟩
 | x::xs,o2,o3,hb,h=>by
  refine ⟨hgd,?_⟩
  show gCR (Zte n) _ [some (Kd.row fs o).enc,some (Kd.row gs p).enc,some (.str x),o3] G
  refine Zia (i:=3) (j:=2) (c:=lkE (lk n) (ent fs o x) (ent gs p x)) (s:=x) rfl (by decide) (by simp) (fun q e=>Nat.le_trans (ZqI (Zlc n) e) hn) (fun Q hQ=>?_) (fun e=>?_) (fun q e=>?_)
  ·simp only [Zae,L3.Zaa,L3.Zaj,Zab,List.getElem?_cons_zero,List.getElem?_cons_succ]
   exact ⟨(fs,o,x),rfl,(gs,p,x),rfl,(ent fs o x,ent gs p x),⟨rfl,hs x⟩,hQ⟩
  ·refine ZrI hgd hn hs xs _ _ (fun q z=>hb q ?_) (fun z=>h ?_)
   ·rw [List.map_cons,e];exact z
   ·rw [List.map_cons,e];exact z
  ·exact hb _ (by rw [List.map_cons,e];rfl)
abbrev ZAw (n:Nat):Spw:=spR (fun (x:Fs×Bool×Fs×Bool) ws _=>ws=[(Kd.row x.1 x.2.1).enc,(Kd.row x.2.2.1 x.2.2.2).enc]∧wt (.row x.1 x.2.1)∧wt (.row x.2.2.1 x.2.2.2)∧(Kd.row x.1 x.2.1).dp≤n+1∧(Kd.row x.2.2.1 x.2.2.2).dp≤n+1) fun x=>pW (lk (n+1) (.row x.1 x.2.1) (.row x.2.2.1 x.2.2.2))
theorem Zc7 (T:Tx K mg base a) {j n:Nat} (hj:2≤j) (hn:n≤90) (D:Df P w K mg base "lack_of_entries" j 2 (Zte n)):Df P w K mg base "lack_of_rows" (j+1) 2 (ZAw n):=by
 refine mk0 T.Zkn rfl Zgq ZbK (fun ws G Q E ⟨x,⟨e,_⟩,_⟩=>by rw [e];rfl) (Zko T (Zap T) hj (ZaH T) (by omega) D (Nat.le_refl _) (Za3 T) (by omega)) fun ws G Q E hC q=>?_
 obtain ⟨⟨fs,o,gs,p⟩,⟨rfl,w1,w2,hd,hd'⟩,q⟩:=q
 dsimp only at w1 w2 hd hd' q
 unfold ZgA
 show Zat (ZfH _ _ _) _ (ZaE Q) [some (Kd.row fs o).enc,some (Kd.row gs p).enc,none,none] G
 simp only [Zat,ZfH,Zbl,Zae,Zab,L3.Zaa,L3.Zaj,List.getElem?_cons_zero,List.getElem?_cons_succ]
 refine ⟨fs,gs,o,p,rfl,ZdQ w1,ZdQ w2,fun zs r z1 z2 z3 z4=>?_⟩
 have hz:=ZlD z1 z2 z3
 simp only [Zad]
 have hs:∀ x m k m' k',ent fs o x=.told m k→ent gs p x=.told m' k'→wt k∧wt k'∧k.dp≤n∧k'.dp≤n:=fun x m k m' k' u1 u2=>by
  have h1:=Zbt u1
  have h2:=Zbt u2
  have hk:=Zar (k:=.row fs o) (c:=k) h1
  have hk':=Zar (k:=.row gs p) (c:=k') h2
  exact ⟨Zba w1 h1,Zba w2 h2,by omega,by omega⟩
 have q':Q (pW (ZiO (zs.map fun x=>(x,lkE (lk n) (ent fs o x) (ent gs p x))))) G:=by rw [hz];exact q
 refine ZrI (gd:=fun G'=>G' r=some (.lst (zs.map W.str))) Zad (by omega) hs zs none none (fun u z=>?_) (fun z o2 o3=>?_)
 ·rw [z] at q'
  exact hC _ _ _ (Za0 z4) q'
 ·rw [z] at q'
  exact hC _ _ _ (Za0 z4) q'
abbrev ZzO (n:Nat):Spw:=spR (fun (x:Kd×Kd×Kd×Kd) ws _=>ws=[(Kd.to x.1 x.2.1).enc,(Kd.to x.2.2.1 x.2.2.2).enc]∧(wt x.1∧wt x.2.1∧wt x.2.2.1∧wt x.2.2.2)∧x.1.dp≤n∧x.2.1.dp≤n∧x.2.2.1.dp≤n∧x.2.2.2.dp≤n) fun x=>pW (ZiO [("in",lk n x.2.2.1 x.1),("out",lk n x.2.1 x.2.2.2)])
theorem ZbI (T:Tx K mg base a) {j n:Nat} (hj:1≤j) (hn:n≤90) (D:Df P w K mg base "lack_of" j 2 (ZzN n)):Df P w K mg base "lack_of_functions" (j+1) 2 (ZzO n):=by
 refine mk0 T.ZgW rfl Zdy ZbK (fun ws G Q E ⟨x,⟨e,_⟩,_⟩=>by rw [e];rfl) (ZgV T D (Nat.le_refl _) (Za3 T) hj) fun ws G Q E hC q=>?_
 obtain ⟨⟨a1,b1,c1,d1⟩,⟨rfl,⟨w1,w2,w3,w4⟩,h1,h2,h3,h4⟩,q⟩:=q
 dsimp only at w1 w2 w3 w4 h1 h2 h3 h4 q
 unfold ZdB
 show Zat (Za9 2 _) _ (ZaE Q) [some (Kd.to a1 b1).enc,some (Kd.to c1 d1).enc,none] G
 simp only [Zat,Za9,Zae,L3.Zaa,L3.Zaj,Zai,Zak,Zab,gC,Kd.enc,List.getElem?_cons_zero,List.getElem?_cons_succ,ixW,ZbV,Zac]
 refine ⟨(c1,a1),⟨rfl,w3,w1,h3,h1⟩,("in",lk n c1 a1),⟨rfl,fun p e=>Nat.le_trans (Zlc n _ _ _ e) (by omega)⟩,?_⟩
 simp only [List.set_cons_zero,List.set_cons_succ,gIf,gTB,Zai,Zak,Zab,gC,List.getElem?_cons_zero,List.getElem?_cons_succ,isF,Zac]
 cases e1:lk n c1 a1 with
 | some p =>
  rw [e1] at q
  exact q
 | none =>
  rw [e1] at q
  simp only [Option.map_none,pW,Zp2,show (true != true)=false from rfl,Bool.false_eq_true,if_false,Zam,Zay,Zae,L3.Zaa,L3.Zaj,Zai,Zak,Zab,gC,List.getElem?_cons_zero,List.getElem?_cons_succ,ixW,Zcz,Zac]
  refine ⟨(b1,d1),⟨rfl,w2,w4,h2,h4⟩,("out",lk n b1 d1),⟨rfl,fun p e=>Nat.le_trans (Zlc n _ _ _ e) (by omega)⟩,?_⟩
  dsimp only
  cases e2:lk n b1 d1 with
  | none=>rw [e2] at q;exact q
  | some p=>rw [e2] at q;exact q
theorem ZoC {n:Nat} {k l:Kd} (h:k.hd="any"∨l.hd="any"):lk (n+1) k l=none:=by
 rcases h with h | h
 ·rw [Zfc h];rfl
 ·rw [Zfc h];cases k <;> rfl
theorem ZyE {n:Nat} {k l:Kd} (h:k.hd≠l.hd) (hk:k≠.any) (hl:l≠.any):lk (n+1) k l=some []:=by
 cases k <;> cases l <;> first | rfl | exact absurd rfl h | exact absurd rfl hk | exact absurd rfl hl
theorem Zjc {k:Kd} {t:Str} {e:GE} {Zbm:GS} {D:Ew} {ω:Sw} {G:Hw} (h1:ω[0]?=some (some k.enc)) (h:if k.hd=t then e ω G D.rt else Zbm D ω G) :
  Zat (gIf (gTB (Zai (Zak (eqF false)) (Zai (Zak ixW) (Zab 0) (gC (.int 0))) (gC (.str t)))) (Zay e) Zam) Zbm D ω G:=by
 simp only [Zat,gIf,gTB,Zai,Zak,Zab,h1,gC,Zay,Zam]
 rw [Zbv]
 simp only [Zac,eqF,eqW,Option.map_some]
 by_cases z:k.hd=t
 ·rw [if_pos z] at h
  simp only [z,beq_self_eq_true,show (true != false)=true from rfl,if_true]
  exact h
 ·rw [if_neg z] at h
  have:(k.hd==t)=false:=by simpa using z
  walk_at "py"
  exact h
theorem ZbY (T:Tx K mg base a):∀ n:Nat,n≤80→Df P w K mg base "lack_of" (3*n+2) 2 (ZzN n)
 | 0,_=>ZlL T.Zml ZbK fun ws G Q E ⟨x,⟨_,_,_,h,_⟩,_⟩=>by have:=ZbX x.1;omega
 | n+1,hn=>by
  have D:=ZbY T n (by omega)
  have DE:=Zb7 T D
  have DR:=Zc7 T (by omega) (by omega) DE
  refine mk0 (k:=3*n+4) T.Zml rfl Zm6 ZbK (fun ws G Q E ⟨x,⟨e,_⟩,_⟩=>by rw [e];rfl) (Zqn T (ZbI T (by omega) (by omega) D) (by omega) (Zbx T n (by omega)) (by omega) (Za3 T) (by omega) DR (Nat.le_refl _)) fun ws G Q E hC q=>?_
  obtain ⟨⟨k,l⟩,⟨rfl,w1,w2,hd,hd'⟩,q⟩:=q
  dsimp only at w1 w2 hd hd' q
  unfold Zna
  show Zat (gIf _ _ Zam) _ (ZaE Q) [some k.enc,some l.enc] G
  refine Zg5 rfl rfl (Zbv k G) (Zbv l G) ?_
  by_cases ha:k.hd="any"∨l.hd="any"
  ·rw [if_pos ha]
   rw [ZoC ha] at q
   exact q
  ·rw [if_neg ha]
   refine ZfJ rfl rfl (Zbv k G) (Zbv l G) ?_
   by_cases hh:k.hd=l.hd
   ·rw [if_pos hh]
    refine Zjc (k:=k) rfl ?_
    by_cases ht:k.hd="to"
    ·rw [if_pos ht]
     cases k <;> cases l <;> first | exact absurd ht (by simp only [Kd.hd];decide) | exact absurd hh (by simp only [Kd.hd];decide) | skip
     rename_i a1 a2 b1 b2
     walk_at "po"
     walk_at "pp"
     have d3:=Zar (k:=.to b1 b2) (c:=b1) (by simp [Kd.kids])
     have d4:=Zar (k:=.to b1 b2) (c:=b2) (by simp [Kd.kids])
     exact ⟨(a1,a2,b1,b2),⟨rfl,⟨Zba w1 (by simp [Kd.kids]),Zba w1 (by simp [Kd.kids]),Zba w2 (by simp [Kd.kids]),Zba w2 (by simp [Kd.kids])⟩,by dsimp only;omega,by dsimp only;omega,by dsimp only;omega,by dsimp only;omega⟩,q⟩
    ·rw [if_neg ht]
     refine Zjc (k:=k) rfl ?_
     by_cases hb:k.hd="box"
     ·rw [if_pos hb]
      cases k <;> cases l <;> first | exact absurd hb (by simp only [Kd.hd];decide) | exact absurd hh (by simp only [Kd.hd];decide) | skip
      rename_i a1 b1
      walk_at "pr"
      simp only [Zae,L3.Zaa,L3.Zaj,Zai,Zak,Zab,gC,Kd.enc,List.getElem?_cons_zero,List.getElem?_cons_succ,ixW,ZbV,Zac]
      refine ⟨(a1,b1),⟨rfl,Zba w1 (by simp [Kd.kids]),Zba w2 (by simp [Kd.kids]),by dsimp only;omega⟩,("inside",cl n a1 b1),⟨rfl,fun p e=>Nat.le_trans (ZiB n _ _ _ e) (by omega)⟩,?_⟩
      have e0:lk (n+1) (.box a1) (.box b1)=ZiO [("inside",cl n a1 b1)]:=rfl
      rw [e0] at q
      dsimp only
      cases e1:cl n a1 b1 with
      | none=>rw [e1] at q;exact q
      | some p=>rw [e1] at q;exact q
     ·rw [if_neg hb]
      refine Zg8 (k:=k) rfl ?_
      by_cases hr:k.hd="row"
      ·rw [if_pos hr]
       obtain ⟨fs,o,rfl⟩:=Zf4 hr
       obtain ⟨gs,p,rfl⟩:=Zf4 (hh▸hr)
       exact ⟨(fs,o,gs,p),⟨rfl,w1,w2,hd,hd'⟩,q⟩
      ·rw [if_neg hr]
       cases k <;> cases l <;> first | exact absurd hh (by simp only [Kd.hd];decide) | exact absurd rfl hr | exact absurd rfl hb | exact absurd rfl ht | exact q
   ·rw [if_neg hh]
    rw [ZyE hh (fun z=>ha (.inl (by rw [z];rfl))) (fun z=>ha (.inr (by rw [z];rfl)))] at q
    exact ⟨by decide,q⟩
noncomputable def sv (k l:Kd):Bool:=(lk 8 k l).isNone
abbrev ZzF:Spw:=spR (fun (x:Kd×Kd) ws _=>ws=[x.1.enc,x.2.enc]∧kt8 x.1∧kt8 x.2) fun x=>.bl (sv x.1 x.2)
theorem ZdO (T:Tx K mg base a):Df P w K mg base "does_serve" 27 2 ZzF:=by
 refine mk0 T.ZmW rfl Zix ZbK (fun ws G Q E ⟨x,⟨e,_⟩,_⟩=>by rw [e];rfl) (Znl T (ZbY T 8 (by omega)) (Nat.le_refl _)) fun ws G Q E hC q=>?_
 obtain ⟨⟨k,l⟩,⟨rfl,h1,h2⟩,q⟩:=q
 dsimp only at h1 h2 q
 unfold ZiD
 show Zay _ (ZaE Q) [some k.enc,some l.enc] G
 simp only [Zay,Zae,L3.Zaa,L3.Zaj,Zai,Zak,Zab,gC,List.getElem?_cons_zero,List.getElem?_cons_succ]
 refine ⟨(k,l),⟨rfl,h1.1,h2.1,h1.2.2,h2.2.2⟩,?_⟩
 dsimp only
 unfold sv at q
 cases e:lk 8 k l with
 | none=>rw [e] at q;exact q
 | some p=>rw [e] at q;exact q
theorem ZiT (T:Tx K mg base a):Df P w K mg base "serves" 28 2 ZzF:=by
 refine mk0 T.ZsS rfl Zo3 ZbK (fun ws G Q E ⟨x,⟨e,_⟩,_⟩=>by rw [e];rfl) (Zui T (ZaN T) (by omega) (ZdO T) (Nat.le_refl _)) fun ws G Q E hC q=>?_
 obtain ⟨⟨k,l⟩,⟨rfl,h1,h2⟩,q⟩:=q
 dsimp only at h1 h2 q
 unfold Zpe
 walk_at "rd"
 exact ⟨(k,l),⟨rfl,⟨h1.1.1,Zi6 h1⟩,⟨h2.1.1,Zi6 h2⟩⟩,(k,l),⟨rfl,h1,h2⟩,q⟩
theorem Zhw:∀ {us:List (Str×Option (List Str))},ZiO us=none↔∀ u∈us,u.2=none
 | []=>⟨fun _ u hu=>(by cases hu),fun _=>rfl⟩
 | (x,some p)::us=>⟨fun h=>(by cases h),fun h=>(by have:=h _ List.mem_cons_self;cases this)⟩
 | (x,none)::us=>by
  show ZiO us=none↔_
  rw [Zhw (us:=us)]
  exact ⟨fun h u hu=>by
   rcases List.mem_cons.mp hu with rfl | hu
   ·rfl
   ·exact h u hu,fun h u hu=>h u (List.mem_cons_of_mem _ hu)⟩
theorem Zuj (x:Str):∀ zs:List Str,zs.Pairwise (fun x y=>ZaY x y=true)→∃ ys:List Str,ys.Pairwise (fun x y=>ZaY x y=true)∧∀ y,y∈ys↔y=x∨y∈zs
 | [],_=>⟨[x],.cons (fun _ h=>by cases h) .nil,fun y=>by simp⟩
 | z::zs,h=>by
  obtain ⟨h1,h2⟩:=List.pairwise_cons.mp h
  by_cases e:x=z
  ·exact ⟨z::zs,h,fun y=>by subst e;simp⟩
  ·cases hl:ZaY x z with
   | true =>
    refine ⟨x::z::zs,.cons (fun y hy=>?_) h,fun y=>by simp⟩
    rcases List.mem_cons.mp hy with rfl | hy
    ·exact hl
    ·exact ZsV hl (h1 y hy)
   | false =>
    obtain ⟨ys,p,m⟩:=Zuj x zs h2
    refine ⟨z::ys,.cons (fun y hy=>?_) p,fun y=>?_⟩
    ·rcases (m y).mp hy with rfl | hy
     ·exact Zuu hl e
     ·exact h1 y hy
    ·rw [List.mem_cons,m,List.mem_cons]
     constructor
     ·rintro (z | z | z)
      ·exact .inr (.inl z)
      ·exact .inl z
      ·exact .inr (.inr z)
     ·rintro (z | z | z)
      ·exact .inr (.inl z)
      ·exact .inl z
      ·exact .inr (.inr z)
theorem Zuo:∀ xs:List Str,∃ ys:List Str,ys.Pairwise (fun x y=>ZaY x y=true)∧∀ y,y∈ys↔y∈xs
 | []=>⟨[],.nil,fun _=>Iff.rfl⟩
 | x::xs=>by
  obtain ⟨ys,p,m⟩:=Zuo xs
  obtain ⟨zs,p',m'⟩:=Zuj x ys p
  exact ⟨zs,p',fun y=>by rw [m',m,List.mem_cons]⟩
theorem ZbJ {fs gs:Fs} {x:Str}:x∈ZhI fs gs↔x∈fs.names∨x∈gs.names:=by
 obtain ⟨ys,p,m⟩:=Zuo (fs.names++gs.names)
 have h:∃ zs:List Str,zs.Pairwise (fun x y=>ZaY x y=true)∧∀ x,x∈zs↔x∈fs.names∨x∈gs.names:=⟨ys,p,fun x=>by rw [m,List.mem_append]⟩
 unfold ZhI
 rw [dif_pos h]
 exact (Classical.choose_spec h).2 x
theorem Zr9 {n:Nat} {fs gs:Fs} {o p:Bool}:cl (n+1) (.row fs o) (.row gs p)=none↔∀ x,clE (cl n) (ent fs o x) (ent gs p x)=none:=by
 show ZiO ((ZhI fs gs).map fun x=>(x,clE (cl n) (ent fs o x) (ent gs p x)))=none↔_
 rw [Zhw]
 constructor
 ·intro h x
  by_cases hx:x∈fs.names∨x∈gs.names
  ·exact h (x,_) (List.mem_map.mpr ⟨x,ZbJ.mpr hx,rfl⟩)
  ·rw [ZeW (fun z=>hx (.inl z)),ZeW (fun z=>hx (.inr z))]
   cases o <;> cases p <;> rfl
 ·intro h u hu
  obtain ⟨x,_,rfl⟩:=List.mem_map.mp hu
  exact h x
theorem Zpd {n:Nat} {fs gs:Fs} {o p:Bool}:lk (n+1) (.row fs o) (.row gs p)=none↔∀ x,lkE (lk n) (ent fs o x) (ent gs p x)=none:=by
 show ZiO ((ZhI fs gs).map fun x=>(x,lkE (lk n) (ent fs o x) (ent gs p x)))=none↔_
 rw [Zhw]
 constructor
 ·intro h x
  by_cases hx:x∈fs.names∨x∈gs.names
  ·exact h (x,_) (List.mem_map.mpr ⟨x,ZbJ.mpr hx,rfl⟩)
  ·rw [ZeW (fun z=>hx (.inl z)),ZeW (fun z=>hx (.inr z))]
   cases o <;> cases p <;> rfl
 ·intro h u hu
  obtain ⟨x,_,rfl⟩:=List.mem_map.mp hu
  exact h x
theorem ZfM {n:Nat} {fs gs:Fs} {o p:Bool} (h:Zbn (n+1) (.row fs o) (.row gs p)=true) (x:Str):Zeq (Zbn n) (ent fs o x) (ent gs p x)=true:=by
 obtain ⟨h1,h2⟩:=ZlM h
 by_cases hx:x∈fs.names∨x∈gs.names
 ·exact h2 x hx
 ·rw [ZeW (fun z=>hx (.inl z)),ZeW (fun z=>hx (.inr z))]
  cases o with
  | true=>rfl
  | false =>
   cases p with
   | true=>cases h1 rfl
   | false=>rfl
theorem Zh9 {n:Nat} {k' k:Kd} (h:Zbn (n+1) k' k=true) (ha:k'≠.any):k'.hd=k.hd:=by
 cases k' <;> cases k <;> first | rfl | exact absurd rfl ha | cases h
theorem Zbd {n:Nat} {e' e:En} (h:Zeq (Zbn n) e' e=true):e'=.free∨(e'=.nope∧e=.nope)∨∃ m k' k,e'=.told m k'∧e=.told m k∧Zbn n k' k=true:=by
 cases e' with
 | free=>exact .inl rfl
 | nope =>
  cases e with
  | nope=>exact .inr (.inl ⟨rfl,rfl⟩)
  | free=>cases h
  | told m k=>cases h
 | told m k' =>
  cases e with
  | free=>cases h
  | nope=>cases h
  | told m2 k =>
   have h':(m==m2&&Zbn n k' k)=true:=h
   walk_at "pe"
   obtain rfl:=eq_of_beq h'.1
   exact .inr (.inr ⟨m,k',k,rfl,rfl,h'.2⟩)
theorem Zua {n:Nat} (ih:∀ k' k l' l,Zbn n k' k=true→Zbn n l' l=true→cl n k l=none→cl n k' l'=none) {e' e f' f:En} (h1:Zeq (Zbn n) e' e=true) (h2:Zeq (Zbn n) f' f=true) (h:clE (cl n) e f=none):clE (cl n) e' f'=none:=by
 rcases Zbd h1 with rfl | ⟨rfl,rfl⟩ | ⟨m,k',k,rfl,rfl,hk⟩
 ·exact Zje (.inl rfl)
 ·walk_at "pE"
  ·exact Zje (.inr rfl)
  ·rfl
  ·cases h
 ·walk_at "pE"
  ·exact Zje (.inr rfl)
  ·cases h
  ·have h':(if m=m2 then cl n k l else some [])=none:=h
   show (if m=m2 then cl n k' l' else some [])=none
   by_cases z:m=m2
   ·rw [if_pos z] at h' ⊢;exact ih _ _ _ _ hk hl h'
   ·rw [if_neg z] at h';cases h'
theorem ZtM {n:Nat} (ih:∀ k' k l' l,Zbn n k' k=true→Zbn n l' l=true→lk n k l=none→lk n k' l'=none) {e' e f' f:En} (h1:Zeq (Zbn n) e' e=true) (h2:Zeq (Zbn n) f' f=true) (h:lkE (lk n) e f=none):lkE (lk n) e' f'=none:=by
 rcases Zbd h1 with rfl | ⟨rfl,rfl⟩ | ⟨m,k',k,rfl,rfl,hk⟩
 ·exact ZeM (.inl rfl)
 ·walk_at "pE"
  ·exact ZeM (.inr rfl)
  ·rfl
  ·exact h
 ·walk_at "pE"
  ·exact ZeM (.inr rfl)
  ·cases h
  ·have h':(if (m2&&!m)=true then some [] else lk n k l)=none:=h
   show (if (m2&&!m)=true then some [] else lk n k' l')=none
   by_cases z:(m2&&!m)=true
   ·rw [if_pos z] at h';cases h'
   ·rw [if_neg z] at h' ⊢;exact ih _ _ _ _ hk hl h'
theorem ZwQ {x y:Str} {a b:Option (List Str)}:ZiO [(x,a),(y,b)]=none↔a=none∧b=none:=by
 rw [Zhw]
 exact ⟨fun h=>⟨h (x,a) List.mem_cons_self,h (y,b) (List.mem_cons_of_mem _ List.mem_cons_self)⟩,fun h u hu=>by
  walk_at "pd"
  rcases hu with rfl | rfl
  ·exact h.1
  ·exact h.2⟩
theorem ZnF {x:Str} {a:Option (List Str)}:ZiO [(x,a)]=none↔a=none:=by
 rw [Zhw]
 exact ⟨fun h=>h (x,a) List.mem_cons_self,fun h u hu=>by
  walk_at "pd"
  subst hu;exact h⟩
theorem ZhM {n:Nat} {a b c d:Kd} (h:Zbn (n+1) (.to a b) (.to c d)=true):Zbn n a c=true∧Zbn n b d=true:=by
 have h':(Zbn n a c&&Zbn n b d)=true:=h
 simpa only [Bool.and_eq_true] using h'
theorem Zh4:∀ (n:Nat) (k' k l' l:Kd),Zbn n k' k=true→Zbn n l' l=true→cl n k l=none→cl n k' l'=none
 | 0,_,_,_,_,_,_,_=>rfl
 | n+1,k',k,l',l,h1,h2,h=>by
  by_cases a1:k'=.any
  ·exact Zqh (.inl (by rw [a1];rfl))
  by_cases a2:l'=.any
  ·exact Zqh (.inr (by rw [a2];rfl))
  have e1:=Zh9 h1 a1
  have e2:=Zh9 h2 a2
  have b1:k≠.any:=fun z=>a1 (Zfc (by rw [e1,z];rfl))
  have b2:l≠.any:=fun z=>a2 (Zfc (by rw [e2,z];rfl))
  have e3:k.hd=l.hd:=Classical.byContradiction fun z=>by rw [Zxk z b1 b2] at h;cases h
  cases k' <;> cases k <;> first | exact absurd e1 (by simp only [Kd.hd];decide) | exact absurd rfl a1 | skip
  all_goals (cases l <;> first | exact absurd e3 (by simp only [Kd.hd];decide) | skip)
  all_goals (cases l' <;> first | exact absurd e2 (by simp only [Kd.hd];decide) | exact absurd rfl a2 | skip)
  ·rfl
  ·rfl
  ·obtain ⟨u1,u2⟩:=ZhM h1
   obtain ⟨v1,v2⟩:=ZhM h2
   obtain ⟨z1,z2⟩:=ZwQ.mp h
   exact ZwQ.mpr ⟨Zh4 n _ _ _ _ u1 v1 z1,Zh4 n _ _ _ _ u2 v2 z2⟩
  ·exact ZnF.mpr (Zh4 n _ _ _ _ h1 h2 (ZnF.mp h))
  ·exact Zr9.mpr fun x=>Zua (Zh4 n) (ZfM h1 x) (ZfM h2 x) (Zr9.mp h x)
theorem Zls:∀ (n:Nat) (k' k l' l:Kd),Zbn n k' k=true→Zbn n l' l=true→lk n k l=none→lk n k' l'=none
 | 0,_,_,_,_,_,_,_=>rfl
 | n+1,k',k,l',l,h1,h2,h=>by
  by_cases a1:k'=.any
  ·exact ZoC (.inl (by rw [a1];rfl))
  by_cases a2:l'=.any
  ·exact ZoC (.inr (by rw [a2];rfl))
  have e1:=Zh9 h1 a1
  have e2:=Zh9 h2 a2
  have b1:k≠.any:=fun z=>a1 (Zfc (by rw [e1,z];rfl))
  have b2:l≠.any:=fun z=>a2 (Zfc (by rw [e2,z];rfl))
  have e3:k.hd=l.hd:=Classical.byContradiction fun z=>by rw [ZyE z b1 b2] at h;cases h
  cases k' <;> cases k <;> first | exact absurd e1 (by simp only [Kd.hd];decide) | exact absurd rfl a1 | skip
  all_goals (cases l <;> first | exact absurd e3 (by simp only [Kd.hd];decide) | skip)
  all_goals (cases l' <;> first | exact absurd e2 (by simp only [Kd.hd];decide) | exact absurd rfl a2 | skip)
  ·rfl
  ·rfl
  ·obtain ⟨u1,u2⟩:=ZhM h1
   obtain ⟨v1,v2⟩:=ZhM h2
   obtain ⟨z1,z2⟩:=ZwQ.mp h
   exact ZwQ.mpr ⟨Zls n _ _ _ _ v1 u1 z1,Zls n _ _ _ _ u2 v2 z2⟩
  ·exact ZnF.mpr (Zh4 n _ _ _ _ h1 h2 (ZnF.mp h))
  ·exact Zpd.mpr fun x=>ZtM (Zls n) (ZfM h1 x) (ZfM h2 x) (Zpd.mp h x)
theorem Zh0:∀ (n:Nat) (k:Kd),cl n k k=none
 | 0,_=>rfl
 | n+1,k=>by
  cases k with
  | any=>rfl
  | num=>rfl
  | truth=>rfl
  | to a b=>exact ZwQ.mpr ⟨Zh0 n a,Zh0 n b⟩
  | box a=>exact ZnF.mpr (Zh0 n a)
  | row fs o =>
   refine Zr9.mpr fun x=>?_
   cases ent fs o x with
   | free=>rfl
   | nope=>rfl
   | told m k=>rw [ZoD];exact Zh0 n k
theorem Zju:∀ (n:Nat) (k:Kd),lk n k k=none
 | 0,_=>rfl
 | n+1,k=>by
  cases k with
  | any=>rfl
  | num=>rfl
  | truth=>rfl
  | to a b=>exact ZwQ.mpr ⟨Zju n a,Zju n b⟩
  | box a=>exact ZnF.mpr (Zh0 n a)
  | row fs o =>
   refine Zpd.mpr fun x=>?_
   cases ent fs o x with
   | free=>rfl
   | nope=>rfl
   | told m k =>
    show (if (m&&!m)=true then some [] else lk n k k)=none
    rw [if_neg (by cases m <;> decide)];exact Zju n k
theorem Zdh:∀ (n:Nat) (k:Kd),k.dp≤n→Zbn n k k=true
 | 0,k,h=>by have:=ZbX k;omega
 | n+1,k,h=>by
  cases k with
  | any=>rfl
  | num=>rfl
  | truth=>rfl
  | to a b =>
   have h1:=Zar (k:=.to a b) (c:=a) (by simp [Kd.kids])
   have h2:=Zar (k:=.to a b) (c:=b) (by simp [Kd.kids])
   show (Zbn n a a&&Zbn n b b)=true
   rw [Zdh n a (by omega),Zdh n b (by omega)];rfl
  | box a =>
   have h1:=Zar (k:=.box a) (c:=a) (by simp [Kd.kids])
   exact Zdh n a (by omega)
  | row fs o =>
   refine ZhD (fun z=>z) fun x _=>?_
   cases e:ent fs o x with
   | free=>rfl
   | nope=>rfl
   | told m k =>
    have h1:=Zar (k:=.row fs o) (c:=k) (Zbt e)
    show (m==m&&Zbn n k k)=true
    rw [Zdh n k (by omega)];simp
theorem ZuJ {k l:Kd}:sv k l=true↔lk 8 k l=none:=by
 unfold sv
 cases lk 8 k l <;> simp
abbrev Zjp:List Str:=["state","kind","way","fields"]
theorem ZgQ:Zau Zjp ["state","kind"] (Zag ZdK):=by walk_at "s"
def Zj2 (Zah:Spw) (ZaA:Spw):GS:=(Zat (Za9 2 (Zae Zah XF (Zaa (Zab 0) (Zaa (gC (.int 6)) Zaj)))) (Zat (gIf (gTB (Zai (Zak (eqF false)) (Zab 2) (gC (.int 0)))) (Zay (ZaQ (Zaa (gC (.str "any")) Zaj))) Zam) (Zat (gIf (gTB (Zai (Zak (eqF false)) (Zai (Zak ixW) (Zab 1) (gC (.int 0))) (gC (.str "to")))) (Zay (ZaQ (Zaa (gC (.str "to")) (Zaa (Zae ZaA XF (Zaa (Zab 0) (Zaa (Zai (Zak ixW) (Zab 1) (gC (.int 1))) Zaj))) (Zaa (Zae ZaA XF (Zaa (Zab 0) (Zaa (Zai (Zak ixW) (Zab 1) (gC (.int 2))) Zaj))) Zaj))))) Zam) (Zat (gIf (gTB (Zai (Zak (eqF false)) (Zai (Zak ixW) (Zab 1) (gC (.int 0))) (gC (.str "box")))) (Zay (ZaQ (Zaa (gC (.str "box")) (Zaa (Zae ZaA XF (Zaa (Zab 0) (Zaa (Zai (Zak ixW) (Zab 1) (gC (.int 1))) Zaj))) Zaj)))) Zam) (Zat (gIf (gTB (Zai (Zak (eqF true)) (Zai (Zak ixW) (Zab 1) (gC (.int 0))) (gC (.str "row")))) (Zay (Zab 1)) Zam) (Zat (Za9 3 (gB (rF ZhY) (Zaa (Zbj (Zdm (Zai (Zak ixW) (Zab 1) (gC (.int 1)))) 3 [0] (ZnB 0 1 2) Zhg (ZaQ (Zaa (Zab 0) (Zaa (Zab 1) (Zaa (Zae ZaA XF (Zaa (Zab 3) (Zaa (Zab 2) Zaj))) Zaj))))) Zaj))) (Zat (gIf (gTB (Zai (Zak (eqF false)) (Zab 2) (gC (.int 1)))) (Zay (ZaQ (Zaa (gC (.str "row")) (Zaa (gB (rF ZhY) (Zaa (Zbj (Zbl (Zab 3)) 1 [0] (gNm 0) (gTB (Zai (Zak (eqF false)) (Zae Zah XF (Zaa (Zab 1) (Zaa (gC (.int 2)) Zaj))) (gC (.int 1)))) (Zab 0)) Zaj)) (Zaa (gC (.bl true)) Zaj))))) Zam) (Zay (ZaQ (Zaa (gC (.str "row")) (Zaa (Zab 3) (Zaa (Zai (Zak ixW) (Zab 1) (gC (.int 2))) Zaj))))))))))))
theorem ZnZ {k:Nat} (T:Tx K mg base a) {Zan:Nat} {Zah:Spw} (ZcL:Df P w K mg base "_law_choice" Zan 2 Zah) (ZcE:Zan≤k) {Za5:Nat} {ZaA:Spw} (Zjn:Df P w K mg base "_law_less" Za5 2 ZaA) (ZjB:Za5≤k):Dn P w K mg base Zjp "_law_less" ZdK k (Zj2 Zah ZaA):=fun {f cdv A outer s H E} hr =>
 have hu:=Zg2 hr
 have hN:=ZgQ.nd
 (Zaq (by walk_at "v") (Zaq (by walk_at "v") (Zaq (by walk_at "v") (Zaq (by walk_at "v") (Zaq (by walk_at "v") (Zaq (Zr8 (i:=3) ZgQ.nd rfl rfl rfl (Zcc ZaR (Zby) rfl T.Zbc (by decide) rfl rfl rfl (ZaU rfl (Zi7 rfl (Zvc (own:=["name","mark","inner"]) (fr:=["state"]) (js:=[0]) (scX:=Zag ZdK) (n:=s.heap.objs.size+1) rfl (by decide +kernel) (by decide +kernel) (by decide +kernel) (by decide +kernel) rfl rfl rfl (by decide +kernel) rfl) (fun _=>rfl) (by walk_at "v") (Zqt (i:=0) (j:=1) (k:=2) rfl (by decide) rfl rfl rfl rfl rfl rfl) (fun C fp s1 H1=>Zb0) (fun C fp s1 H1=>(by walk_at "v"))) Zb9))) (Zaq (Zhv (by walk_at "v") (Za4 (Zce (Zfn (ZaU rfl Zfb (ZaU rfl (Zcc ZaR (Zby) rfl T.Zbc (by decide) rfl rfl rfl (ZaU rfl (Zi7 rfl (Zvc (own:=["field"]) (fr:=["state"]) (js:=[0]) (scX:=Zag ZdK) (n:=s.heap.objs.size+1) rfl (by decide +kernel) (by decide +kernel) (by decide +kernel) (by decide +kernel) rfl rfl rfl (by decide +kernel) rfl) (fun _=>rfl) (by walk_at "v") (Zhf (i:=0) (by decide) rfl rfl) (fun C fp s1 H1=>(by walk_at "v")) (fun C fp s1 H1=>(by walk_at "v"))) Zb9)) (by walk_at "v")))))) ZcM) (by walk_at "v"))))))))
abbrev ZiG:List Str:=["state","kind","way","fields","name","mark","inner"]
theorem Zip:Zau ZiG ["state","kind"] (Zag Zfo):=by walk_at "s"
def ZiI (Zah:Spw) (ZaL:Spw):GS:=(Zat (Za9 2 (Zae Zah XF (Zaa (Zab 0) (Zaa (gC (.int 9)) Zaj)))) (Zat (gIf (gTB (Zai (Zak (eqF false)) (Zab 2) (gC (.int 0)))) (Zay (Zai (Zak ixW) (Zdb (Zaa (ZaQ (Zaa (gC (.str "num")) Zaj)) (Zaa (ZaQ (Zaa (gC (.str "truth")) Zaj)) (Zaa (ZaQ (Zaa (gC (.str "any")) Zaj)) (Zaa (ZaQ (Zaa (gC (.str "row")) (Zaa (ZaQ Zaj) (Zaa (gC (.bl true)) Zaj)))) Zaj))))) (Zae Zah XF (Zaa (Zab 0) (Zaa (gC (.int 4)) Zaj))))) Zam) (Zat (gIf (gTB (Zai (Zak (eqF false)) (Zai (Zak ixW) (Zab 1) (gC (.int 0))) (gC (.str "to")))) (Zay (ZaQ (Zaa (gC (.str "to")) (Zaa (Zae ZaL XF (Zaa (Zab 0) (Zaa (Zai (Zak ixW) (Zab 1) (gC (.int 1))) Zaj))) (Zaa (Zae ZaL XF (Zaa (Zab 0) (Zaa (Zai (Zak ixW) (Zab 1) (gC (.int 2))) Zaj))) Zaj))))) Zam) (Zat (gIf (gTB (Zai (Zak (eqF false)) (Zai (Zak ixW) (Zab 1) (gC (.int 0))) (gC (.str "box")))) (Zay (ZaQ (Zaa (gC (.str "box")) (Zaa (Zae ZaL XF (Zaa (Zab 0) (Zaa (Zai (Zak ixW) (Zab 1) (gC (.int 1))) Zaj))) Zaj)))) Zam) (Zat (gIf (gTB (Zai (Zak (eqF true)) (Zai (Zak ixW) (Zab 1) (gC (.int 0))) (gC (.str "row")))) (Zay (Zab 1)) Zam) (Zat (Za9 3 (Zdb Zaj)) (Zat (ZfH (Zdm (Zai (Zak ixW) (Zab 1) (gC (.int 1)))) (ZnB 4 5 6) (Zat (gIf (gTB (Zai (Zak (eqF false)) (Zae Zah XF (Zaa (Zab 0) (Zaa (gC (.int 8)) Zaj))) (gC (.int 1)))) (Za9 5 (Zai (Zak ixW) (Zdb (Zaa (gC (.str "must")) (Zaa (gC (.str "may")) Zaj))) (Zae Zah XF (Zaa (Zab 0) (Zaa (gC (.int 2)) Zaj))))) Zam) (gIf (gTB (Zai (Zhe fun i j=>decide (j < i)) (Zae Zah XF (Zaa (Zab 0) (Zaa (gC (.int 8)) Zaj))) (gC (.int 0)))) (Zbs (gMt ZhP Zsz (Zab 3) (Zaa (ZaQ (Zaa (Zab 4) (Zaa (Zab 5) (Zaa (Zae ZaL XF (Zaa (Zab 0) (Zaa (Zab 6) Zaj))) Zaj)))) Zaj))) Zam))) (Zay (ZaQ (Zaa (gC (.str "row")) (Zaa (gB (rF ZhY) (Zaa (Zab 3) Zaj)) (Zaa (Zai (Zak ixW) (Zdb (Zaa (Zai (Zak ixW) (Zab 1) (gC (.int 2))) (Zaa (Zdo (Zai (Zak ixW) (Zab 1) (gC (.int 2)))) Zaj))) (gB (rF Zq3) (Zaa (Zai (Zak (eqF false)) (Zab 2) (gC (.int 1))) Zaj))) Zaj))))))))))))
theorem ZmC {k:Nat} (T:Tx K mg base a) {Zan:Nat} {Zah:Spw} (ZcL:Df P w K mg base "_law_choice" Zan 2 Zah) (ZcE:Zan≤k) {ZbB:Nat} {ZaL:Spw} (ZmE:Df P w K mg base "_law_other" ZbB 2 ZaL) (ZmX:ZbB≤k):Dn P w K mg base ZiG "_law_other" Zfo k (ZiI Zah ZaL):=by
 have hN:=Zip.nd
 walk_at "z"
abbrev ZjG:List Str:=["script","k","plain","one","state","way"]
theorem ZjY:Zau ZjG ["script","k","plain"] (Zag ZgR):=by walk_at "s"
def ZjR (Zbi:Spw) (ZaG:Spw) (Zah:Spw) (ZaA:Spw) (ZaL:Spw):GS:=(Zat (Za9 3 (Zae Zbi XF (Zaa (Zab 0) (Zaa (Zab 1) (Zaa (Zab 2) (Zaa (gC (.bl false)) Zaj)))))) (Zat (Za9 4 (Zae ZaG XF (Zaa (Zab 0) (Zaa (Zai (ZgY) (Zab 1) (gC (.int 1))) Zaj)))) (Zat (Za9 5 (Zae Zah XF (Zaa (Zab 4) (Zaa (gC (.int 6)) Zaj)))) (Zat (gIf (gTB (Zai (Zak (eqF false)) (Zab 5) (gC (.int 0)))) (Zay (ZaQ (Zaa (Zab 3) (Zaa (Zae Zbi XF (Zaa (Zab 0) (Zaa (Zai (ZgY) (Zab 1) (gC (.int 2))) (Zaa (Zab 2) (Zaa (gC (.bl false)) Zaj))))) Zaj)))) Zam) (Zat (gIf (gTB (Zai (Zak (eqF false)) (Zab 5) (gC (.int 1)))) (Zay (ZaQ (Zaa (Zab 3) (Zaa (Zae ZaA XF (Zaa (Zab 4) (Zaa (Zab 3) Zaj))) Zaj)))) Zam) (Zat (gIf (gTB (Zai (Zak (eqF false)) (Zab 5) (gC (.int 2)))) (Zay (ZaQ (Zaa (Zae ZaA XF (Zaa (Zab 4) (Zaa (Zab 3) Zaj))) (Zaa (Zab 3) Zaj)))) Zam) (Zay (Zai (Zak ixW) (Zdb (Zaa (ZaQ (Zaa (Zab 3) (Zaa (Zae ZaL XF (Zaa (Zab 4) (Zaa (Zab 3) Zaj))) Zaj))) (Zaa (ZaQ (Zaa (Zae ZaL XF (Zaa (Zab 4) (Zaa (Zab 3) Zaj))) (Zaa (Zab 3) Zaj))) Zaj))) (Zai (ZcR (fun _ j=>0 < j) fun i j=>i % j) (Zab 5) (gC (.int 2)))))))))))
theorem Zon {k:Nat} (T:Tx K mg base a) {Zb5:Nat} {Zbi:Spw} (Zpz:Df P w K mg base "_law_drawn_kind" Zb5 4 Zbi) (ZpV:Zb5≤k) {ZaT:Nat} {ZaG:Spw} (Zil:Df P w K mg base "_law_state" ZaT 2 ZaG) (Zig:ZaT≤k) {Zan:Nat} {Zah:Spw} (ZcL:Df P w K mg base "_law_choice" Zan 2 Zah) (ZcE:Zan≤k) {Za5:Nat} {ZaA:Spw} (Zjn:Df P w K mg base "_law_less" Za5 2 ZaA) (ZjB:Za5≤k) {ZbB:Nat} {ZaL:Spw} (ZmE:Df P w K mg base "_law_other" ZbB 2 ZaL) (ZmX:ZbB≤k):Dn P w K mg base ZjG "_law_pair" ZgR k (ZjR Zbi ZaG Zah ZaA ZaL):=by
 have hN:=ZjY.nd
 walk_at "z"
theorem Zo0 {G:Hw} {s:Addr} {o:HW} (h:G s=some o):put G s o=G:=by
 funext a
 by_cases ha:a=s
 ·subst ha;rw [Zad,h]
 ·rw [Zao ha]
theorem Zfz {i:Nat} {r j:Int} {e:GE} {Zbm:GS} {D:Ew} {ω:Sw} {G:Hw} (h1:ω[i]?=some (some (.int r))) (h:if r=j then e ω G D.rt else Zbm D ω G) :
  Zat (gIf (gTB (Zai (Zak (eqF false)) (Zab i) (gC (.int j)))) (Zay e) Zam) Zbm D ω G:=by
 simp only [Zat,gIf,gTB,Zai,Zak,Zab,h1,gC,eqF,eqW,Option.map_some,Zac,Zay,Zam]
 by_cases z:r=j
 ·rw [if_pos z] at h
  rw [show (r==j)=true by simp [z]]
  exact h
 ·rw [if_neg z] at h
  rw [show (r==j)=false by simp [z]]
  exact h
theorem Zja {k:Kd} {t:Str} {e:GE} {Zbm:GS} {D:Ew} {ω:Sw} {G:Hw} (h1:ω[1]?=some (some k.enc)) (h:if k.hd=t then e ω G D.rt else Zbm D ω G) :
  Zat (gIf (gTB (Zai (Zak (eqF false)) (Zai (Zak ixW) (Zab 1) (gC (.int 0))) (gC (.str t)))) (Zay e) Zam) Zbm D ω G:=by
 simp only [Zat,gIf,gTB,Zai,Zak,Zab,h1,gC,Zay,Zam]
 rw [Zbv]
 simp only [Zac,eqF,eqW,Option.map_some]
 by_cases z:k.hd=t
 ·rw [if_pos z] at h
  simp only [z,beq_self_eq_true,show (true != false)=true from rfl,if_true]
  exact h
 ·rw [if_neg z] at h
  have:(k.hd==t)=false:=by simpa using z
  walk_at "py"
  exact h
theorem Zph {k:Kd} {t:Str} {e:GE} {Zbm:GS} {D:Ew} {ω:Sw} {G:Hw} (h1:ω[1]?=some (some k.enc)) (h:if k.hd=t then Zbm D ω G else e ω G D.rt) :
  Zat (gIf (gTB (Zai (Zak (eqF true)) (Zai (Zak ixW) (Zab 1) (gC (.int 0))) (gC (.str t)))) (Zay e) Zam) Zbm D ω G:=by
 simp only [Zat,gIf,gTB,Zai,Zak,Zab,h1,gC,Zay,Zam]
 rw [Zbv]
 simp only [Zac,eqF,eqW,Option.map_some]
 by_cases z:k.hd=t
 ·rw [if_pos z] at h
  simp only [z,beq_self_eq_true,bne_self_eq_false,Bool.false_eq_true,if_false]
  exact h
 ·rw [if_neg z] at h
  have:(k.hd==t)=false:=by simpa using z
  simp only [this,show (false != true)=true from rfl,if_true]
  exact h
abbrev S2 (x:Int) (b:Bool) (r:List W):HW:=.lst (.int x::.bl b::r)
def Fs.toL:Fs→List (Str×Bool×Kd)
 | .nil=>[]
 | .cons n m k r=>(n,m,k)::r.toL
theorem ZjE:∀ fs:Fs,ofL fs.toL=fs
 | .nil=>rfl
 | .cons n m k r=>by show Fs.cons n m k (ofL r.toL)=_;rw [ZjE r]
theorem Zmb:∀ {l:List (Str×Bool×Kd)} {x:Str} {m:Bool} {k:Kd},(l.map (·.1)).Pairwise (fun x y=>ZaY x y=true)→(x,m,k)∈l→(ofL l).find x=some (m,k)
 | (n,m',k')::l,x,m,k,hp,h=>by
  have hp':(n::l.map (·.1)).Pairwise (fun x y=>ZaY x y=true):=hp
  obtain ⟨a1,a2⟩:=List.pairwise_cons.mp hp'
  show (if n=x then some (m',k') else (ofL l).find x)=some (m,k)
  rcases List.mem_cons.mp h with e | h
  ·cases e;rw [if_pos rfl]
  ·rw [if_neg (fun e=>by subst e;have:=a1 _ (List.mem_map.mpr ⟨_,h,rfl⟩);rw [Znt] at this;cases this)]
   exact Zmb a2 h
theorem ZmZ:∀ {l:List (Str×Bool×Kd)} {x:Str} {m:Bool} {k:Kd},(ofL l).find x=some (m,k)→(x,m,k)∈l
 | (n,m',k')::l,x,m,k,h=>by
  have h':(if n=x then some (m',k') else (ofL l).find x)=some (m,k):=h
  by_cases e:n=x
  ·rw [if_pos e] at h';cases h';subst e;exact List.mem_cons_self
  ·rw [if_neg e] at h';exact List.mem_cons_of_mem _ (ZmZ h')
theorem ZmO {l:List (Str×Bool×Kd)} {o:Bool} (h:wf (.row (ofL l) o)):(l.map (·.1)).Pairwise (fun x y=>ZaY x y=true)∧l.length≤5∧∀ y∈l,Zcw y.1=true∧wf y.2.2:=by
 obtain ⟨h1,h2⟩:=h
 have p:=(ZqL h1).1
 rw [ZbL] at p
 have h2':(decide ((ofL l).names.length≤5)&&(ofL l).thr)=true:=h2
 simp only [Bool.and_eq_true,decide_eq_true_eq] at h2'
 have h1':(Zm2 (ofL l).names&&(ofL l).ok)=true:=h1
 simp only [Bool.and_eq_true] at h1'
 refine ⟨p,by have:=h2'.1;rw [ZbL,List.length_map] at this;exact this,?_⟩
 have go:∀ l:List (Str×Bool×Kd),(ofL l).ok=true→(ofL l).thr=true→∀ y∈l,Zcw y.1=true∧wf y.2.2:=by
  intro l
  induction l with
  | nil=>intro _ _ y hy;cases hy
  | cons z l ih =>
   intro g1 g2 y hy
   have g1':(Zcw z.1&&z.2.2.ok&&(ofL l).ok)=true:=g1
   have g2':(z.2.2.thr&&(ofL l).thr)=true:=g2
   simp only [Bool.and_eq_true] at g1' g2'
   rcases List.mem_cons.mp hy with rfl | hy
   ·exact ⟨g1'.1.1,g1'.1.2,g2'.1⟩
   ·exact ih g1'.2 g2'.2 y hy
 exact go l h1'.2 h2'.2
theorem ZrA {l:List (Str×Bool×Kd)}:∀ y∈l,y.2.2.dp≤(ofL l).dp:=by
 induction l with
 | nil=>intro y hy;cases hy
 | cons z l ih =>
  intro y hy
  show _≤max z.2.2.dp (ofL l).dp
  rcases List.mem_cons.mp hy with rfl | hy
  ·exact Nat.le_max_left _ _
  ·exact Nat.le_trans (ih y hy) (Nat.le_max_right _ _)
inductive Al (R:Bool→Kd→Bool→Kd→Prop):List (Str×Bool×Kd)→List (Str×Bool×Kd)→Prop
 | nil:Al R [] []
 | cons {x:Str} {m' m:Bool} {k' k:Kd} {l' l:List (Str×Bool×Kd)} (h:R m' k' m k) (t:Al R l' l):Al R ((x,m',k')::l') ((x,m,k)::l)
 | drop {y:Str×Bool×Kd} {l' l:List (Str×Bool×Kd)} (t:Al R l' l):Al R l' (y::l)
theorem Al.names {R} {l' l:List (Str×Bool×Kd)} (h:Al R l' l):(l'.map (·.1)).Sublist (l.map (·.1)):=by
 induction h with
 | nil=>exact .slnil
 | cons _ _ ih=>exact ih.cons_cons _
 | drop _ ih=>exact ih.cons _
theorem Al.mem {R} {l' l:List (Str×Bool×Kd)} (h:Al R l' l):∀ y∈l',∃ m k,(y.1,m,k)∈l∧R y.2.1 y.2.2 m k:=by
 induction h with
 | nil=>intro y hy;cases hy
 | cons h _ ih =>
  intro y hy
  rcases List.mem_cons.mp hy with rfl | hy
  ·exact ⟨_,_,List.mem_cons_self,h⟩
  ·obtain ⟨m,k,h1,h2⟩:=ih y hy
   exact ⟨m,k,List.mem_cons_of_mem _ h1,h2⟩
 | drop _ ih =>
  intro y hy
  obtain ⟨m,k,h1,h2⟩:=ih y hy
  exact ⟨m,k,List.mem_cons_of_mem _ h1,h2⟩
def sml (k' k:Kd):Prop:=wf k'∧k'.dp≤k.dp∧k'.cnt≤k.cnt
theorem Al.cnt {R:Bool→Kd→Bool→Kd→Prop} (hR:∀ m' k' m k,R m' k' m k→sml k' k) {l' l:List (Str×Bool×Kd)} (h:Al R l' l):(ofL l').cnt≤(ofL l).cnt:=by
 induction h with
 | nil=>exact Nat.le_refl _
 | cons h _ ih=>have:=(hR _ _ _ _ h).2.2;show _+_≤_+_;dsimp only;omega
 | drop _ ih=>show _≤_+_;omega
theorem Al.sml {R:Bool→Kd→Bool→Kd→Prop} (hR:∀ m' k' m k,R m' k' m k→sml k' k) {l' l:List (Str×Bool×Kd)} (h:Al R l' l) {o o':Bool} (hw:wf (.row (ofL l) o)):sml (.row (ofL l') o') (.row (ofL l) o):=by
 obtain ⟨p,h5,hy⟩:=ZmO hw
 refine ⟨ZuC (p.sublist h.names) (by have:=h.names.length_le;rw [List.length_map,List.length_map] at this;omega) fun y hm=>?_,?_,?_⟩
 ·obtain ⟨m,k,h1,h2⟩:=h.mem y hm
  exact ⟨(hy _ h1).1,(hR _ _ _ _ h2).1⟩
 ·show 1+(ofL l').dp≤1+(ofL l).dp
  have:=Znb (n:=(ofL l).dp) l' fun y hm=>by
   obtain ⟨m,k,h1,h2⟩:=h.mem y hm
   exact Nat.le_trans (hR _ _ _ _ h2).2.1 (ZrA (l:=l) _ h1)
  omega
 ·show 1+(ofL l').cnt≤1+(ofL l).cnt
  have:=h.cnt hR
  omega
def lsK (n:Nat) (k' k:Kd):Prop:=sml k' k∧Zbn n k' k=true
abbrev lsR (n:Nat):Bool→Kd→Bool→Kd→Prop:=fun m' k' m k=>m'=m∧lsK n k' k
theorem ZuH {n:Nat} {l' l:List (Str×Bool×Kd)} {o o':Bool} (h:Al (lsR n) l' l) (hw:wf (.row (ofL l) o)) (ho:o'=true∨(o'=o∧l'.map (·.1)=l.map (·.1))):lsK (n+1) (.row (ofL l') o') (.row (ofL l) o):=by
 have sm:=h.sml (o:=o) (o':=o') (fun _ _ _ _ z=>z.2.1) hw
 obtain ⟨p,h5,hy⟩:=ZmO hw
 refine ⟨sm,ZhD (fun z=>?_) fun x hx=>?_⟩
 ·rcases ho with ho | ho
  ·exact ho
  ·rw [ho.1];exact z
 ·by_cases hm:x∈(ofL l').names
  ·obtain ⟨m,k,e1,e2⟩:=Zhn (o:=o') hm
   obtain ⟨m2,k2,h1,h2⟩:=h.mem _ (ZmZ e2)
   dsimp only at h1 h2
   have e3:ent (ofL l) o x=.told m2 k2:=by unfold ent;rw [Zmb p h1]
   rw [e1,e3]
   show (m==m2&&Zbn n k k2)=true
   rw [h2.1,h2.2.2];simp
  ·rw [ZeW hm]
   rcases ho with ho | ho
   ·rw [ho];rfl
   ·have:x∉(ofL l).names:=by rw [ZbL,← ho.2,← ZbL];exact hm
    rw [ZeW this,ho.1]
    cases o <;> rfl
def Zz3 (n:Nat):Spw:=fun ws G Q _=>∃ (s:Addr) (x:Int) (b:Bool) (r:List W) (k:Kd),ws=[.ref s,k.enc]∧wf k∧k.dp≤n∧G s=some (S2 x b r)∧∀ (k':Kd) (x':Int),lsK n k' k→Q k'.enc (put G s (S2 x' b r))
theorem Zu4 {n:Nat}:Spw.M (Zz3 n):=(by rintro ws G Q Q' E E' h _ ⟨s,x,b,r,k,h1,h2,h3,h4,q⟩;exact ⟨s,x,b,r,k,h1,h2,h3,h4,fun k' x' z=>h _ _ (q k' x' z)⟩)
theorem ZqC {n:Nat} {s:Addr} {b:Bool} {r:List W} {R:List W→Hw→Prop}:∀ (l:List (Str×Bool×Kd)) (o0 o1 o2:Option W) (G:Hw) (x:Int) (ac:List (Str×Bool×Kd)),(∀ y∈l,wf y.2.2∧y.2.2.dp≤n)→ac.length+l.length≤100→G s=some (S2 x b r) →
  (∀ (l':List (Str×Bool×Kd)) (x':Int),Al (lsR n) l' l→l'.map (·.1)=l.map (·.1)→R ((ac++l').map ZcP) (put G s (S2 x' b r))) →
  ZbR yes (ZnB 0 1 2) Zhg (L3.ZaQ (L3.Zaa (Zab 0) (L3.Zaa (Zab 1) (L3.Zaa (Zae (Zz3 n) XF (L3.Zaa (Zab 3) (L3.Zaa (Zab 2) L3.Zaj))) L3.Zaj)))) R (l.map ZcP) [o0,o1,o2,some (.ref s)] G (ac.map ZcP)
 | [],o0,o1,o2,G,x,ac,_,_,hs,h=>⟨trivial,by have:=h [] x .nil rfl;rw [List.append_nil,Zo0 hs] at this;exact this⟩
 | y::l,o0,o1,o2,G,x,ac,hl,ha,hs,h=>by
  simp only [List.length_cons] at ha
  refine ⟨trivial,by rw [List.length_map];exact ZiS (by omega),?_⟩
  simp only [ZcP,ZnB,Zhg,if_true,List.set_cons_zero,List.set_cons_succ,L3.ZaQ,Zae,L3.Zaa,L3.Zaj,Zab,List.getElem?_cons_zero,List.getElem?_cons_succ]
  obtain ⟨w1,d1⟩:=hl y List.mem_cons_self
  refine ⟨s,x,b,r,y.2.2,rfl,w1,d1,hs,fun k' x1 hk=>⟨(show 3≤sizeLine by decide),?_⟩⟩
  have ee:ac.map ZcP++[W.tup [.str y.1,.str (mark y.2.1),k'.enc]]=(ac++[(y.1,y.2.1,k')]).map ZcP:=by rw [List.map_append];rfl
  rw [ee]
  refine ZqC l _ _ _ _ x1 (ac++[(y.1,y.2.1,k')]) (fun z hz=>hl z (List.mem_cons_of_mem _ hz)) (by rw [List.length_append];simp only [List.length_cons,List.length_nil];omega) Zad fun l' x' h1 h2=>?_
  rw [Zbf,List.append_assoc]
  exact h ((y.1,y.2.1,k')::l') x' (.cons ⟨rfl,hk⟩ h1) (by rw [List.map_cons,List.map_cons,h2])
theorem Zn2 {s:Addr} {b:Bool} {r:List W} {R:List W→Hw→Prop}:∀ (l:List (Str×Bool×Kd)) (o:Option W) (G:Hw) (x:Int) (ac:List (Str×Bool×Kd)),ac.length+l.length≤100→G s=some (S2 x b r) →
  (∀ (l':List (Str×Bool×Kd)) (x':Int),l'.Sublist l→R ((ac++l').map ZcP) (put G s (S2 x' b r))) →
  ZbR yes (gNm 0) (gTB (Zai (Zak (eqF false)) (Zae ZeR XF (L3.Zaa (Zab 1) (L3.Zaa (gC (.int 2)) L3.Zaj))) (gC (.int 1)))) (Zab 0) R (l.map ZcP) [o,some (.ref s)] G (ac.map ZcP)
 | [],o,G,x,ac,_,hs,h=>⟨trivial,by have:=h [] x .slnil;rw [List.append_nil,Zo0 hs] at this;exact this⟩
 | y::l,o,G,x,ac,ha,hs,h=>by
  simp only [List.length_cons] at ha
  refine ⟨trivial,by rw [List.length_map];exact ZiS (by omega),?_⟩
  show gTB _ [some (ZcP y),some (.ref s)] G _
  simp only [gTB,Zai,Zae,L3.Zaa,L3.Zaj,Zab,gC,Zak,List.getElem?_cons_zero,List.getElem?_cons_succ]
  refine ⟨s,2,x,b,r,rfl,by decide,by decide,hs,fun i x1 _ _=>?_⟩
  show opt (eqF false (.int i) (.int 1) (put G s (.lst (.int x1::.bl b::r)))) _
  walk_at "pk"
  dsimp only
  cases (i==1) with
  | false =>
   rw [if_neg (by decide)]
   refine Zn2 l _ _ x1 ac (by omega) Zad fun l' x' h1=>?_
   rw [Zbf]
   exact h l' x' (h1.cons y)
  | true =>
   rw [if_pos rfl]
   have ee:ac.map ZcP++[ZcP y]=(ac++[y]).map ZcP:=by rw [List.map_append];rfl
   show ZbR _ _ _ _ R (l.map ZcP) [some (ZcP y),some (.ref s)] _ (ac.map ZcP++[ZcP y])
   rw [ee]
   refine Zn2 l _ _ x1 (ac++[y]) (by rw [List.length_append];simp only [List.length_cons,List.length_nil];omega) Zad fun l' x' h1=>?_
   rw [Zbf,List.append_assoc]
   exact h (y::l') x' (h1.cons_cons y)
theorem Al.sub {R} {l2 l1 l:List (Str×Bool×Kd)} (h:Al R l1 l):l2.Sublist l1→Al R l2 l:=by
 induction h generalizing l2 with
 | nil=>intro s;cases s;exact .nil
 | cons hr t ih =>
  intro s
  cases s with
  | cons _ s=>exact .drop (ih s)
  | cons_cons _ s=>exact .cons hr (ih s)
 | drop t ih=>intro s;exact .drop (ih s)
theorem Zv8 {k:Kd}:sml .any k:=⟨⟨rfl,rfl⟩,ZbX k,Zic k⟩
theorem Za5 (T:Tx K mg base a):∀ n:Nat,Df P w K mg base "_law_less" (n+1) 2 (Zz3 n)
 | 0=>ZlL T.ZjO Zu4 fun ws G Q E ⟨s,x,b,r,k,_,_,h,_⟩=>by have:=ZbX k;omega
 | n+1=>by
  have D:=Za5 T n
  refine mk0 (k:=n+1) T.ZjO rfl ZgQ Zu4 (fun ws G Q E ⟨s,x,b,r,k,e,_⟩=>by rw [e];rfl) (ZnZ T (Zan T) (by omega) D (Nat.le_refl _)) fun ws G Q E hC q=>?_
  obtain ⟨s,x,b,r,k,rfl,w1,hd,hs,q⟩:=q
  unfold Zj2
  show Zat (Za9 2 _) _ (ZaE Q) [some (.ref s),some k.enc,none,none] G
  refine ⟨s,6,x,b,r,rfl,by decide,by decide,hs,fun i x1 _ _=>?_⟩
  walk_at "pg"
  have h1:put G s (S2 x1 b r) s=some (S2 x1 b r):=Zad
  refine Zfz rfl ?_
  by_cases z0:i=0
  ·rw [if_pos z0]
   exact ⟨(show 1≤sizeLine by decide),q .any x1 ⟨Zv8,rfl⟩⟩
  rw [if_neg z0]
  refine Zja rfl ?_
  by_cases ht:k.hd="to"
  ·rw [if_pos ht]
   cases k <;> first | exact absurd ht (by simp only [Kd.hd];decide) | skip
   rename_i a1 a2
   walk_at "po"
   walk_at "pp"
   walk_at "pj"
   walk_at "pf"
   rw [Zbf,Zbf]
   obtain ⟨⟨u1,u2,u3⟩,u4⟩:=g1
   obtain ⟨⟨v1,v2,v3⟩,v4⟩:=g2
   refine q (.to k1 k2) x3 ⟨⟨Zwd u1 v1,?_,?_⟩,?_⟩
   ·show 1+max k1.dp k2.dp≤1+max a1.dp a2.dp;omega
   ·show 1+(k1.cnt+k2.cnt)≤1+(a1.cnt+a2.cnt);omega
   ·show (Zbn n k1 a1&&Zbn n k2 a2)=true;rw [u4,v4];rfl
  rw [if_neg ht]
  refine Zja rfl ?_
  by_cases hb:k.hd="box"
  ·rw [if_pos hb]
   cases k <;> first | exact absurd hb (by simp only [Kd.hd];decide) | skip
   rename_i a1
   walk_at "pr"
   walk_at "pl"
   refine ⟨s,x1,b,r,a1,rfl,Zax w1 (by simp [Kd.kids]),by omega,h1,fun k1 x2 g1=>⟨(show 2≤sizeLine by decide),?_⟩⟩
   rw [Zbf]
   obtain ⟨⟨u1,u2,u3⟩,u4⟩:=g1
   refine q (.box k1) x2 ⟨⟨ZrN u1,?_,?_⟩,u4⟩
   ·show 1+k1.dp≤1+a1.dp;omega
   ·show 1+k1.cnt≤1+a1.cnt;omega
  rw [if_neg hb]
  refine Zph rfl ?_
  by_cases hr:k.hd="row"
  ·rw [if_pos hr]
   obtain ⟨fs,o,rfl⟩:=Zf4 hr
   obtain ⟨l,rfl⟩:∃ l,fs=ofL l:=⟨fs.toL,(ZjE fs).symm⟩
   obtain ⟨p5,l5,hy⟩:=ZmO w1
   have el:(Kd.row (ofL l) o).enc=.tup [.str "row",.tup (l.map ZcP),.bl o]:=by rw [← Ze7];rfl
   rw [el]
   simp only [Zat,Za9,gB,Zbj,Zdm,Zai,Zak,Zab,gC,L3.Zaa,L3.Zaj,List.getElem?_cons_zero,List.getElem?_cons_succ,ixW,ZbV,Zac]
   refine ZqC (n:=n) l none none none _ x1 [] (fun y hm=>⟨(hy y hm).2,?_⟩) (by simp only [List.length_nil];omega) h1 fun l' x2 A en=>?_
   ·have e1:=ZrA (l:=l) y hm
    have e2:1+(ofL l).dp≤n+1:=hd
    omega
   ·rw [Zbf,List.nil_append]
    intro p1 hp1
    have n1:s≠p1:=ZaP Zad hp1
    show opt (ZhY [.ref p1] _) _
    rw [show ZhY [.ref p1] (put (put G s (S2 x2 b r)) p1 (.lst (l'.map ZcP)))=some (.tup (l'.map ZcP)) by unfold ZhY;dsimp only;rw [ZhK Zad];rfl,Zac]
    have s1:Sub (put G s (S2 x2 b r)) (put (put G s (S2 x2 b r)) p1 (.lst (l'.map ZcP))):=Za0 hp1
    have h2:put (put G s (S2 x2 b r)) p1 (.lst (l'.map ZcP)) s=some (S2 x2 b r):=s1 _ _ Zad
    generalize put (put G s (S2 x2 b r)) p1 (.lst (l'.map ZcP))=G1 at s1 h2 ⊢
    show Zat (gIf _ _ Zam) _ (ZaE Q) [some (.ref s),some (.tup [.str "row",.tup (l.map ZcP),.bl o]),some (.int i),some (.tup (l'.map ZcP))] G1
    have hl':l'.length=l.length:=by have:=congrArg List.length en;simpa using this
    refine Zfz rfl ?_
    by_cases z1:i=1
    ·rw [if_pos z1]
     simp only [L3.ZaQ,gB,Zbj,Zbl,Zab,gC,L3.Zaa,L3.Zaj,List.getElem?_cons_zero,List.getElem?_cons_succ]
     refine Zn2 l' none G1 x2 [] (by simp only [List.length_nil];omega) h2 fun l2 x3 hsub=>?_
     rw [List.nil_append]
     intro p2 hp2
     show opt (ZhY [.ref p2] _) _
     rw [show ZhY [.ref p2] (put (put G1 s (S2 x3 b r)) p2 (.lst (l2.map ZcP)))=some (.tup (l2.map ZcP)) by unfold ZhY;dsimp only;rw [ZhK Zad];rfl,Zac]
     refine ⟨(show 3≤sizeLine by decide),?_⟩
     have:=q (.row (ofL l2) true) x3 (ZuH (A.sub hsub) w1 (.inl rfl))
     rw [show (Kd.row (ofL l2) true).enc=.tup [.str "row",.tup (l2.map ZcP),.bl true] by rw [← Ze7];rfl] at this
     refine hC _ _ _ (ZcK (fun a u hu=>?_) hp2) this
     by_cases ha:a=s
     ·subst ha;rw [Zad] at hu ⊢;exact hu
     ·rw [Zao ha] at hu ⊢;exact s1 _ _ (by rw [Zao ha];exact hu)
    ·rw [if_neg z1]
     simp only [Zay,L3.ZaQ,Zai,Zak,Zab,gC,L3.Zaa,L3.Zaj,List.getElem?_cons_zero,List.getElem?_cons_succ,ixW,Zcz,Zac]
     refine ⟨(show 3≤sizeLine by decide),?_⟩
     have:=q (.row (ofL l') o) x2 (ZuH A w1 (.inr ⟨rfl,en⟩))
     rw [show (Kd.row (ofL l') o).enc=.tup [.str "row",.tup (l'.map ZcP),.bl o] by rw [← Ze7];rfl] at this
     exact hC _ _ _ s1 this
  ·rw [if_neg hr]
   exact q k x1 ⟨⟨w1,Nat.le_refl _,Nat.le_refl _⟩,Zdh _ _ hd⟩
def ZvA (n:Nat):Spw:=fun ws G Q _=>∃ (s:Addr) (x:Int) (b:Bool) (r:List W) (k:Kd),ws=[.ref s,k.enc]∧wf k∧k.dp≤n∧G s=some (S2 x b r)∧∀ (k':Kd) (x':Int),sml k' k→Q k'.enc (put G s (S2 x' b r))
theorem Zuw {n:Nat}:Spw.M (ZvA n):=(by rintro ws G Q Q' E E' h _ ⟨s,x,b,r,k,h1,h2,h3,h4,q⟩;exact ⟨s,x,b,r,k,h1,h2,h3,h4,fun k' x' z=>h _ _ (q k' x' z)⟩)
abbrev otR:Bool→Kd→Bool→Kd→Prop:=fun _ k' _ k=>sml k' k
abbrev gOA (sp:Spw):GS:=gIf (gTB (Zai (Zhe fun i j=>decide (j < i)) (Zae ZeR XF (L3.Zaa (Zab 0) (L3.Zaa (gC (.int 8)) L3.Zaj))) (gC (.int 0)))) (Zbs (gMt ZhP Zsz (Zab 3) (L3.Zaa (L3.ZaQ (L3.Zaa (Zab 4) (L3.Zaa (Zab 5) (L3.Zaa (Zae sp XF (L3.Zaa (Zab 0) (L3.Zaa (Zab 6) L3.Zaj))) L3.Zaj)))) L3.Zaj))) Zam
abbrev gOB (sp:Spw):GS:=Zat (gIf (gTB (Zai (Zak (eqF false)) (Zae ZeR XF (L3.Zaa (Zab 0) (L3.Zaa (gC (.int 8)) L3.Zaj))) (gC (.int 1)))) (Za9 5 (Zai (Zak ixW) (Zdb (L3.Zaa (gC (.str "must")) (L3.Zaa (gC (.str "may")) L3.Zaj))) (Zae ZeR XF (L3.Zaa (Zab 0) (L3.Zaa (gC (.int 2)) L3.Zaj))))) Zam) (gOA sp)
theorem ZnD {n:Nat} {D:Ew} {s p:Addr} {b:Bool} {r:List W} {w1 w2:Option W} (nps:p≠s):∀ (l dn:List (Str×Bool×Kd)) (o4 o5 o6:Option W) (G:Hw) (x:Int),(∀ y∈l,wf y.2.2∧y.2.2.dp≤n)→dn.length+l.length≤100→G s=some (S2 x b r)→G p=some (.lst (dn.map ZcP)) →
  (∀ ω G' l2 x',(∃ u v t,ω=[some (.ref s),w1,w2,some (.ref p),u,v,t])→G' s=some (S2 x' b r)→G' p=some (.lst ((dn++l2).map ZcP))→(∀ c,c≠s→c≠p→∀ u,G c=some u→G' c=some u)→Al otR l2 l→D.nx ω G') →
  Zeh yes (ZnB 4 5 6) (gOB (ZvA n)) D (l.map ZcP) [some (.ref s),w1,w2,some (.ref p),o4,o5,o6] G
 | [],dn,o4,o5,o6,G,x,_,_,hs,hp,fin=>⟨trivial,fin _ G [] x ⟨o4,o5,o6,rfl⟩ hs (by rw [List.append_nil];exact hp) (fun b _ _ u h=>h) .nil⟩
 | u::l,dn,o4,o5,o6,G,x,hg,hl,hs,hp,fin=>by
  rw [List.length_cons] at hl
  have app:∀ (mk:Bool) (G1:Hw) (x:Int),G1 s=some (S2 x b r)→G1 p=some (.lst (dn.map ZcP))→(∀ c,c≠s→c≠p→∀ u,G c=some u→G1 c=some u) →
    gOA (ZvA n) { nx:=Zeh yes (ZnB 4 5 6) (gOB (ZvA n)) D (l.map ZcP),rt:=D.rt,bk:=D.nx,ct:=Zeh yes (ZnB 4 5 6) (gOB (ZvA n)) D (l.map ZcP) } [some (.ref s),w1,w2,some (.ref p),some (.str u.1),some (.str (mark mk)),some u.2.2.enc] G1:=by
   intro mk G1 x hs hp hk
   obtain ⟨g1,g2⟩:=hg u List.mem_cons_self
   simp only [gIf,gTB,Zai,Zae,Zhe,Zab,gC,List.getElem?_cons_zero,List.getElem?_cons_succ,Zbs,gMt,L3.Zaa,L3.Zaj,L3.ZaQ,Zam]
   refine ⟨s,8,x,b,r,rfl,by decide,by decide,hs,fun i x1 _ _=>?_⟩
   have h1s:put G1 s (S2 x1 b r) s=some (S2 x1 b r):=Zad
   have h1p:put G1 s (S2 x1 b r) p=some (.lst (dn.map ZcP)):=by rw [Zao nps];exact hp
   refine ZAv (fun h=>?_) (fun h=>?_)
   ·refine ⟨Zhz h1p,s,x1,b,r,u.2.2,rfl,g1,g2,h1s,fun k' x2 hk'=>⟨(show 3≤sizeLine by decide),?_⟩⟩
    rw [Zbf]
    refine ZrR (by rw [Zao nps];exact hp) (by rw [List.length_map];exact ZiS (by omega)) ?_
    have ee:dn.map ZcP++[W.tup [.str u.1,.str (mark mk),k'.enc]]=(dn++[(u.1,mk,k')]).map ZcP:=by rw [List.map_append];rfl
    rw [ee]
    refine ZnD nps l (dn++[(u.1,mk,k')]) _ _ _ _ x2 (fun v hv=>hg v (List.mem_cons_of_mem _ hv)) (by rw [List.length_append];simp only [List.length_cons,List.length_nil];omega) (by rw [Zao (Ne.symm nps)];exact Zad) Zad fun ω G' l2 x' hω f1 f2 f3 L=>?_
    exact fin ω G' ((u.1,mk,k')::l2) x' hω f1 (by rw [f2,List.append_assoc];rfl) (fun c b1 b2 v hv=>f3 c b1 b2 v (by rw [Zao b2,Zao b1];exact hk c b1 b2 v hv)) (.cons hk' L)
   ·refine ZnD nps l dn _ _ _ _ x1 (fun v hv=>hg v (List.mem_cons_of_mem _ hv)) (by omega) h1s h1p fun ω G' l2 x' hω f1 f2 f3 L=>?_
    exact fin ω G' l2 x' hω f1 f2 (fun c b1 b2 v hv=>f3 c b1 b2 v (by rw [Zao b1];exact hk c b1 b2 v hv)) (.drop L)
  refine ⟨trivial,?_⟩
  show gOB (ZvA n) _ [some (.ref s),w1,w2,some (.ref p),some (.str u.1),some (.str (mark u.2.1)),some u.2.2.enc] G
  unfold gOB
  simp only [Zat,gIf,gTB,Zai,Zae,Zak,Zab,gC,List.getElem?_cons_zero,List.getElem?_cons_succ,Za9,Zdb,L3.Zaa,L3.Zaj,Zam]
  refine ⟨s,8,x,b,r,rfl,by decide,by decide,hs,fun i x1 _ _=>?_⟩
  have h1s:put G s (S2 x1 b r) s=some (S2 x1 b r):=Zad
  have h1p:put G s (S2 x1 b r) p=some (.lst (dn.map ZcP)):=by rw [Zao nps];exact hp
  show opt (eqF false (.int i) (.int 1) (put G s (.lst (.int x1::.bl b::r)))) _
  walk_at "pk"
  dsimp only
  cases (i==1) with
  | false =>
   rw [if_neg (by decide)]
   exact app u.2.1 _ x1 h1s h1p fun c c1 c2 v hv=>by rw [Zao c1];exact hv
  | true =>
   rw [if_pos rfl]
   refine ⟨(show 2≤sizeLine by decide),fun p2 hp2=>?_⟩
   have n2:s≠p2:=ZaP h1s hp2
   have n3:p≠p2:=ZaP h1p hp2
   refine ⟨s,2,x1,b,r,rfl,by decide,by decide,by rw [Zao n2];exact h1s,fun j x2 j0 j1=>?_⟩
   obtain ⟨m,em⟩:=Zqm j0 j1
   show opt (ixW (.ref p2) (.int j) _) _
   rw [Zes (by rw [Zao (Ne.symm n2)];exact Zad),em,Zac]
   refine app m _ x2 Zad (by rw [Zao nps,Zao n3];exact h1p) fun c c1 c2 v hv=>?_
   have hc:put G s (S2 x1 b r) c=some v:=by rw [Zao c1];exact hv
   rw [Zao c1,Zao (ZaP hc hp2)];exact hc
theorem Zy2 {i:Int} (h0:0≤i) (h4:i < 4):∃ k':Kd,(∀ k:Kd,sml k' k)∧atI [W.tup [.str "num"],W.tup [.str "truth"],W.tup [.str "any"],W.tup [.str "row",.tup [],.bl true]] i=some k'.enc:=by
 have:i=0∨i=1∨i=2∨i=3:=by omega
 rcases this with rfl | rfl | rfl | rfl
 ·exact ⟨.num,fun k=>⟨⟨rfl,rfl⟩,ZbX k,Zic k⟩,rfl⟩
 ·exact ⟨.truth,fun k=>⟨⟨rfl,rfl⟩,ZbX k,Zic k⟩,rfl⟩
 ·exact ⟨.any,fun k=>⟨⟨rfl,rfl⟩,ZbX k,Zic k⟩,rfl⟩
 ·exact ⟨.row .nil true,fun k=>⟨⟨rfl,rfl⟩,ZbX k,Zic k⟩,rfl⟩
theorem ZbB (T:Tx K mg base a):∀ n:Nat,Df P w K mg base "_law_other" (n+1) 2 (ZvA n)
 | 0=>ZlL T.Zio Zuw fun ws G Q E ⟨s,x,b,r,k,_,_,h,_⟩=>by have:=ZbX k;omega
 | n+1=>by
  have D:=ZbB T n
  refine mk0 (k:=n+1) T.Zio rfl Zip Zuw (fun ws G Q E ⟨s,x,b,r,k,e,_⟩=>by rw [e];rfl) (ZmC T (Zan T) (by omega) D (Nat.le_refl _)) fun ws G Q E hC q=>?_
  obtain ⟨s,x,b,r,k,rfl,w1,hd,hs,q⟩:=q
  unfold ZiI
  show Zat (Za9 2 _) _ (ZaE Q) [some (.ref s),some k.enc,none,none,none,none,none] G
  refine ⟨s,9,x,b,r,rfl,by decide,by decide,hs,fun i x1 _ _=>?_⟩
  walk_at "pg"
  have h1:put G s (S2 x1 b r) s=some (S2 x1 b r):=Zad
  refine Zfz rfl ?_
  by_cases z0:i=0
  ·rw [if_pos z0]
   simp only [Zai,Zdb,Zae,Zak,Zab,gC,L3.ZaQ,L3.Zaa,L3.Zaj,List.getElem?_cons_zero,List.getElem?_cons_succ]
   refine ⟨by decide,by decide,by decide,by decide,by decide,by decide,fun p hp=>?_⟩
   have n1:s≠p:=ZaP h1 hp
   refine ⟨s,4,x1,b,r,rfl,by decide,by decide,by rw [Zao n1];exact h1,fun j x2 j0 j1=>?_⟩
   obtain ⟨k',hk,ek⟩:=Zy2 j0 j1
   show opt (ixW (.ref p) (.int j) _) _
   rw [Zes (by rw [Zao (Ne.symm n1)];exact Zad),ek,Zac]
   refine hC _ _ _ (fun c u hu=>?_) (q k' x2 (hk k))
   by_cases hc:c=s
   ·subst hc;rw [Zad] at hu ⊢;exact hu
   ·rw [Zao hc] at hu ⊢
    have:put G s (S2 x1 b r) c=some u:=by rw [Zao hc];exact hu
    rw [Zao (ZaP this hp)];exact this
  rw [if_neg z0]
  refine Zja rfl ?_
  by_cases ht:k.hd="to"
  ·rw [if_pos ht]
   cases k <;> first | exact absurd ht (by simp only [Kd.hd];decide) | skip
   rename_i a1 a2
   walk_at "po"
   walk_at "pp"
   walk_at "pj"
   walk_at "pf"
   rw [Zbf,Zbf]
   obtain ⟨u1,u2,u3⟩:=g1
   obtain ⟨v1,v2,v3⟩:=g2
   refine q (.to k1 k2) x3 ⟨Zwd u1 v1,?_,?_⟩
   ·show 1+max k1.dp k2.dp≤1+max a1.dp a2.dp;omega
   ·show 1+(k1.cnt+k2.cnt)≤1+(a1.cnt+a2.cnt);omega
  rw [if_neg ht]
  refine Zja rfl ?_
  by_cases hb:k.hd="box"
  ·rw [if_pos hb]
   cases k <;> first | exact absurd hb (by simp only [Kd.hd];decide) | skip
   rename_i a1
   walk_at "pr"
   walk_at "pl"
   refine ⟨s,x1,b,r,a1,rfl,Zax w1 (by simp [Kd.kids]),by omega,h1,fun k1 x2 g1=>⟨(show 2≤sizeLine by decide),?_⟩⟩
   rw [Zbf]
   obtain ⟨u1,u2,u3⟩:=g1
   refine q (.box k1) x2 ⟨ZrN u1,?_,?_⟩
   ·show 1+k1.dp≤1+a1.dp;omega
   ·show 1+k1.cnt≤1+a1.cnt;omega
  rw [if_neg hb]
  refine Zph rfl ?_
  by_cases hr:k.hd="row"
  ·rw [if_pos hr]
   obtain ⟨fs,o,rfl⟩:=Zf4 hr
   obtain ⟨l,rfl⟩:∃ l,fs=ofL l:=⟨fs.toL,(ZjE fs).symm⟩
   obtain ⟨p5,l5,hy⟩:=ZmO w1
   have el:(Kd.row (ofL l) o).enc=.tup [.str "row",.tup (l.map ZcP),.bl o]:=by rw [← Ze7];rfl
   rw [el]
   simp only [Zat,Za9,Zdb,L3.Zaj,List.set_cons_zero,List.set_cons_succ]
   refine ⟨(show 0≤sizeLine by decide),fun p hp=>?_⟩
   have nps:p≠s:=Ne.symm (ZaP h1 hp)
   simp only [ZfH,Zdm,Zai,Zak,Zab,gC,List.getElem?_cons_zero,List.getElem?_cons_succ,ixW,ZbV,Zac]
   refine ZnD (n:=n) nps l [] none none none _ x1 (fun y hm=>⟨(hy y hm).2,?_⟩) (by simp only [List.length_nil];omega) (by rw [Zao (Ne.symm nps)];exact h1) Zad fun ω G' l2 x2 hω f1 f2 f3 L=>?_
   ·have e1:=ZrA (l:=l) y hm
    have e2:1+(ofL l).dp≤n+1:=hd
    omega
   ·obtain ⟨u,v,t,rfl⟩:=hω
    rw [List.nil_append] at f2
    simp only [Zay,L3.ZaQ,gB,rF,Zdb,Zdo,Zai,Zak,Zab,gC,L3.Zaa,L3.Zaj,List.getElem?_cons_zero,List.getElem?_cons_succ,ixW,Zcz,Zac]
    rw [show ZhY [.ref p] G'=some (.tup (l2.map ZcP)) by unfold ZhY;dsimp only;rw [ZhK f2];rfl,Zac]
    refine ⟨(show 2≤sizeLine by decide),fun p2 hp2=>?_⟩
    show opt (eqF false (.int i) (.int 1) (put G' p2 (.lst [.bl o,.bl (!o)]))) _
    rw [show eqF false (.int i) (.int 1) (put G' p2 (.lst [.bl o,.bl (!o)]))=some (.bl (i==1)) by unfold eqF eqW;show some (W.bl ((i==1) != false))=_;cases (i==1) <;> rfl,Zac]
    have done:∀ o':Bool,3≤sizeLine∧Q (.tup [.str "row",.tup (l2.map ZcP),.bl o']) (put G' p2 (.lst [.bl o,.bl (!o)])):=fun o'=>by
     refine ⟨by decide,?_⟩
     have:=q (.row (ofL l2) o') x2 (L.sml (fun _ _ _ _ z=>z) w1)
     rw [show (Kd.row (ofL l2) o').enc=.tup [.str "row",.tup (l2.map ZcP),.bl o'] by rw [← Ze7];rfl] at this
     refine hC _ _ _ (ZcK (fun c u hu=>?_) hp2) this
     by_cases hc:c=s
     ·subst hc;rw [Zad] at hu;rw [f1];exact hu
     ·rw [Zao hc] at hu
      have h3:put G s (S2 x1 b r) c=some u:=by rw [Zao hc];exact hu
      refine f3 c hc (fun z=>?_) u (by rw [Zao (ZaP h3 hp)];exact h3)
      subst z;rw [h3] at hp;cases hp
    cases (i==1) with
    | false =>
     show opt (ixW (.ref p2) (.int 0) _) _
     rw [Zes Zad,ZcZ,Zac]
     exact done o
    | true =>
     show opt (ixW (.ref p2) (.int 1) _) _
     rw [Zes Zad,ZbV,Zac]
     exact done (!o)
  ·rw [if_neg hr]
   exact q k x1 ⟨w1,Nat.le_refl _,Nat.le_refl _⟩
def ZA5:Spw:=fun ws G Q _=>∃ (ns:List Int) (i:Int) (pl:Bool),ws=[.rol (ns.map W.int),.int i,.bl pl]∧0≤i∧∀ k l:Kd,kd8 k→kd8 l→Q (.tup [k.enc,l.enc]) G
theorem ZxH:Spw.M ZA5:=(by rintro ws G Q Q' E E' h _ ⟨ns,i,pl,h1,h2,q⟩;exact ⟨ns,i,pl,h1,h2,fun k l g1 g2=>h _ _ (q k l g1 g2)⟩)
theorem Zx8 {k' k:Kd} (h:sml k' k) (hk:kd8 k):kd8 k':=⟨h.1,Nat.le_trans h.2.2 hk.2.1,Nat.le_trans h.2.1 hk.2.2⟩
theorem ZeK (T:Tx K mg base a):Df P w K mg base "_law_pair" 18 3 ZA5:=by
 refine mk0 (k:=17) T.Zn6 rfl ZjY ZxH (fun ws G Q E ⟨ns,i,pl,e,_⟩=>by rw [e];rfl) (Zon T (Zb5 T) (by omega) (ZaT T) (by omega) (Zan T) (by omega) (Za5 T 8) (by omega) (ZbB T 8) (by omega)) fun ws G Q E hC q=>?_
 obtain ⟨ns,i,pl,rfl,h0,q⟩:=q
 unfold ZjR
 show Zat (Za9 3 _) _ (ZaE Q) [some (.rol (ns.map W.int)),some (.int i),some (.bl pl),none,none,none] G
 refine ⟨ns,i,pl,false,rfl,h0,fun k hk=>?_⟩
 walk_at "pg"
 show Zat (Za9 4 _) _ (ZaE Q) [some (.rol (ns.map W.int)),some (.int i),some (.bl pl),some k.enc,none,none] G
 refine ⟨ns,i+1,rfl,by omega,fun s x b hs=>?_⟩
 walk_at "pg"
 show Zat (Za9 5 _) _ (ZaE Q) [some (.rol (ns.map W.int)),some (.int i),some (.bl pl),some k.enc,some (.ref s),none] _
 refine ⟨s,6,x,b,[],rfl,by decide,by decide,Zad,fun j x1 j0 j6=>?_⟩
 rw [Zbf]
 walk_at "pg"
 have sub:∀ o,Sub G (put G s o):=fun o=>Za0 hs
 have h1:put G s (S2 x1 b []) s=some (S2 x1 b []):=Zad
 refine Zfz rfl ?_
 by_cases z0:j=0
 ·rw [if_pos z0]
  refine ⟨ns,i+2,pl,false,rfl,by omega,fun l hl=>⟨(show 2≤sizeLine by decide),?_⟩⟩
  exact hC _ _ _ (sub _) (q k l hk hl)
 rw [if_neg z0]
 refine Zfz rfl ?_
 by_cases z1:j=1
 ·rw [if_pos z1]
  refine ⟨s,x1,b,[],k,rfl,hk.1,hk.2.2,h1,fun k' x2 g=>⟨(show 2≤sizeLine by decide),?_⟩⟩
  rw [Zbf]
  exact hC _ _ _ (sub _) (q k k' hk (Zx8 g.1 hk))
 rw [if_neg z1]
 refine Zfz rfl ?_
 by_cases z2:j=2
 ·rw [if_pos z2]
  refine ⟨s,x1,b,[],k,rfl,hk.1,hk.2.2,h1,fun k' x2 g=>⟨(show 2≤sizeLine by decide),?_⟩⟩
  rw [Zbf]
  exact hC _ _ _ (sub _) (q k' k (Zx8 g.1 hk) hk)
 rw [if_neg z2]
 simp only [Zay,Zai,Zdb,Zae,L3.ZaQ,Zak,ZcR,Zab,gC,L3.Zaa,L3.Zaj,List.getElem?_cons_zero,List.getElem?_cons_succ]
 refine ⟨s,x1,b,[],k,rfl,hk.1,hk.2.2,h1,fun k1 x2 g1=>⟨(show 2≤sizeLine by decide),?_⟩⟩
 refine ⟨s,x2,b,[],k,rfl,hk.1,hk.2.2,Zad,fun k2 x3 g2=>⟨(show 2≤sizeLine by decide),(show 2≤sizeLine by decide),fun p hp=>⟨by decide,?_⟩⟩⟩
 rw [Zbf,Zbf] at hp ⊢
 have jj:j % 2=0∨j % 2=1:=by omega
 have S:=ZcK (sub (S2 x3 b [])) (o:=.lst [.tup [k.enc,k1.enc],.tup [k2.enc,k.enc]]) hp
 show opt (ixW (.ref p) (.int (j % 2)) _) _
 rcases jj with e | e
 ·rw [e,Zes Zad,ZcZ,Zac]
  exact hC _ _ _ S (q k k1 hk (Zx8 g1 hk))
 ·rw [e,Zes Zad,ZbV,Zac]
  exact hC _ _ _ S (q k2 k (Zx8 g2 hk) hk)
mutual
def plW:W→Bool
 | .str _=>true
 | .bl _=>true
 | .tup xs=>plL xs
 | _=>false
def plL:List W→Bool
 | []=>true
 | x::xs=>plW x&&plL xs
end
theorem ZoU {x:W} {xs:List W} (h:plL (x::xs)=true):plW x=true∧plL xs=true:=Bool.and_eq_true_iff.mp h
theorem ZtG {x y:W} {xs ys:List W} {a b:Bool} (h1:eqD x y=some a) (h2:ZjQ xs ys=some b):ZjQ (x::xs) (y::ys)=some (a&&b):=by
 show (match eqD x y,ZjQ xs ys with | some a,some b=>some (a&&b) | _,_=>none)=_
 rw [h1,h2]
mutual
theorem plD:∀ (x y:W),plW x=true→plW y=true→∃ b,eqD x y=some b∧(b=true↔x=y)
 | .str s,.str t,_,_=>⟨s==t,rfl,by simp⟩
 | .str s,.bl t,_,_=>⟨false,rfl,by simp⟩
 | .str s,.tup t,_,_=>⟨false,rfl,by simp⟩
 | .bl s,.str t,_,_=>⟨false,rfl,by simp⟩
 | .bl s,.bl t,_,_=>⟨s==t,rfl,by simp⟩
 | .bl s,.tup t,_,_=>⟨false,rfl,by simp⟩
 | .tup s,.str t,_,_=>⟨false,rfl,by simp⟩
 | .tup s,.bl t,_,_=>⟨false,rfl,by simp⟩
 | .tup s,.tup t,h,h'=>by
  obtain ⟨b,e,i⟩:=ZAW s t h h'
  exact ⟨b,e,by rw [i];simp⟩
 | .str _,.non,_,h=>by cases h
 | .str _,.int _,_,h=>by cases h
 | .str _,.rol _,_,h=>by cases h
 | .str _,.ref _,_,h=>by cases h
 | .bl _,.non,_,h=>by cases h
 | .bl _,.int _,_,h=>by cases h
 | .bl _,.rol _,_,h=>by cases h
 | .bl _,.ref _,_,h=>by cases h
 | .tup _,.non,_,h=>by cases h
 | .tup _,.int _,_,h=>by cases h
 | .tup _,.rol _,_,h=>by cases h
 | .tup _,.ref _,_,h=>by cases h
 | .non,_,h,_=>by cases h
 | .int _,_,h,_=>by cases h
 | .rol _,_,h,_=>by cases h
 | .ref _,_,h,_=>by cases h
theorem ZAW:∀ (xs ys:List W),plL xs=true→plL ys=true→∃ b,ZjQ xs ys=some b∧(b=true↔xs=ys)
 | [],[],_,_=>⟨true,rfl,by simp⟩
 | [],_::_,_,_=>⟨false,rfl,by simp⟩
 | _::_,[],_,_=>⟨false,rfl,by simp⟩
 | x::xs,y::ys,h,h'=>by
  obtain ⟨h1,h2⟩:=ZoU h
  obtain ⟨h3,h4⟩:=ZoU h'
  obtain ⟨b,e,i⟩:=plD x y h1 h3
  obtain ⟨c,e',i'⟩:=ZAW xs ys h2 h4
  exact ⟨b&&c,ZtG e e',by rw [Bool.and_eq_true,i,i',List.cons.injEq]⟩
end
mutual
theorem Zlo:∀ k:Kd,plW k.enc=true
 | .any=>rfl
 | .num=>rfl
 | .truth=>rfl
 | .to x y=>by
  have h1:=Zlo x
  have h2:=Zlo y
  show (true&&(plW x.enc&&(plW y.enc&&true)))=true
  rw [h1,h2];rfl
 | .box x=>by
  have h1:=Zlo x
  show (true&&(plW x.enc&&true))=true
  rw [h1];rfl
 | .row fs o=>by
  have h1:=Zqy fs
  show (true&&(plL fs.enc&&(true&&true)))=true
  rw [h1];rfl
theorem Zqy:∀ fs:Fs,plL fs.enc=true
 | .nil=>rfl
 | .cons n m k r=>by
  have h1:=Zlo k
  have h2:=Zqy r
  show ((true&&(true&&(plW k.enc&&true)))&&plL r.enc)=true
  rw [h1,h2];rfl
end
theorem Zlk {k l:Kd} (h:k.enc=l.enc):k.hd=l.hd:=by
 have h1:=Zbv k (fun _=>none)
 rw [h,Zbv] at h1
 exact (W.str.inj (Option.some.inj h1)).symm
mutual
theorem Zl2:∀ {k l:Kd},k.enc=l.enc→k=l
 | .any,l,h=>by
  cases l with
  | any=>rfl
  | _=>have:=Zlk h;simp only [Kd.hd] at this;exact absurd this (by decide)
 | .num,l,h=>by
  cases l with
  | num=>rfl
  | _=>have:=Zlk h;simp only [Kd.hd] at this;exact absurd this (by decide)
 | .truth,l,h=>by
  cases l with
  | truth=>rfl
  | _=>have:=Zlk h;simp only [Kd.hd] at this;exact absurd this (by decide)
 | .to x y,l,h=>by
  cases l with
  | to x' y' =>
   have h':W.tup [.str "to",x.enc,y.enc]=W.tup [.str "to",x'.enc,y'.enc]:=h
   injection h' with h'
   injection h' with _ h'
   injection h' with h1 h'
   injection h' with h2 _
   rw [Zl2 h1,Zl2 h2]
  | _=>have:=Zlk h;simp only [Kd.hd] at this;exact absurd this (by decide)
 | .box x,l,h=>by
  cases l with
  | box x' =>
   have h':W.tup [.str "box",x.enc]=W.tup [.str "box",x'.enc]:=h
   injection h' with h'
   injection h' with _ h'
   injection h' with h1 h'
   rw [Zl2 h1]
  | _=>have:=Zlk h;simp only [Kd.hd] at this;exact absurd this (by decide)
 | .row fs o,l,h=>by
  cases l with
  | row gs p =>
   have h':W.tup [.str "row",.tup fs.enc,.bl o]=W.tup [.str "row",.tup gs.enc,.bl p]:=h
   injection h' with h'
   injection h' with _ h'
   injection h' with h1 h'
   injection h' with h2 _
   injection h1 with h1
   injection h2 with h2
   rw [Zpn h1,h2]
  | _=>have:=Zlk h;simp only [Kd.hd] at this;exact absurd this (by decide)
theorem Zpn:∀ {fs gs:Fs},fs.enc=gs.enc→fs=gs
 | .nil,gs,h=>by
  cases gs with
  | nil=>rfl
  | cons n m k r=>exact absurd (show ([]:List W)=_::_ from h) (by simp)
 | .cons n m k r,gs,h=>by
  cases gs with
  | nil=>exact absurd (show _::_=([]:List W) from h) (by simp)
  | cons n' m' k' r' =>
   have h':W.tup [.str n,.str (mark m),k.enc]::r.enc=W.tup [.str n',.str (mark m'),k'.enc]::r'.enc:=h
   injection h' with h1 h2
   injection h1 with h1
   injection h1 with a1 h1
   injection h1 with a2 h1
   injection h1 with a3 _
   injection a1 with a1
   injection a2 with a2
   rw [a1,ZlQ a2,Zl2 a3,Zpn h2]
end
mutual
theorem Zjq:∀ k:Kd,dpW k.enc≤3*k.dp
 | .any=>by show 1≤3*1;omega
 | .num=>by show 1≤3*1;omega
 | .truth=>by show 1≤3*1;omega
 | .to x y=>by have:=Zjq x;have:=Zjq y;show max 0 (max (dpW x.enc) (max (dpW y.enc) 0))+1≤3*(1+max x.dp y.dp);omega
 | .box x=>by have:=Zjq x;show max 0 (max (dpW x.enc) 0)+1≤3*(1+x.dp);omega
 | .row fs o=>by have:=Zqj fs;show max 0 (max (L3.dpL fs.enc+1) (max 0 0))+1≤3*(1+fs.dp);omega
theorem Zqj:∀ fs:Fs,L3.dpL fs.enc≤3*fs.dp+1
 | .nil=>Nat.zero_le _
 | .cons n m k r=>by
  have:=Zjq k
  have:=Zqj r
  show max (max 0 (max 0 (max (dpW k.enc) 0))+1) (L3.dpL r.enc)≤3*max k.dp r.dp+1;omega
end
theorem ZoA {i:Nat} {x:W} {c s:Str} {e:GE} {Zbm:GS} {D:Ew} {ω:Sw} {G:Hw} (h1:ω[i]?=some (some x)) (e0:ixW x (.int 0) G=some (.str c)) (h:if c=s then e ω G D.rt else Zbm D ω G) :
  Zat (gIf (gTB (Zai (Zak (eqF false)) (Zai (Zak ixW) (Zab i) (gC (.int 0))) (gC (.str s)))) (Zay e) Zam) Zbm D ω G:=by
 simp only [Zat,gIf,gTB,Zai,Zak,Zab,h1,gC,Zay,Zam]
 rw [e0]
 simp only [Zac,eqF,eqW,Option.map_some]
 by_cases z:c=s
 ·rw [if_pos z] at h
  have:(c==s)=true:=by simp [z]
  simp only [this,show (true != false)=true from rfl,if_true]
  exact h
 ·rw [if_neg z] at h
  have:(c==s)=false:=by simpa using z
  walk_at "py"
  exact h
theorem Zd6 (fs gs:Fs):(ZhI fs gs).Pairwise (fun x y=>ZaY x y=true):=by
 unfold ZhI
 by_cases h:∃ zs:List Str,zs.Pairwise (fun x y=>ZaY x y=true)∧∀ x,x∈zs↔x∈fs.names∨x∈gs.names
 ·rw [dif_pos h];exact (Classical.choose_spec h).1
 ·rw [dif_neg h];exact .nil
theorem ZjW (fs gs:Fs):ZhI fs gs=ZhI gs fs:=Zi2 (Zd6 fs gs) (Zd6 gs fs) fun x=>by rw [ZbJ,ZbJ];exact Or.comm
theorem ZfE {xs:List Str} (h:xs.Pairwise (fun x y=>ZaY x y=true)):xs.Nodup:=h.imp fun z e=>by subst e;rw [Znt] at z;cases z
theorem Zng {fs:Fs} {o:Bool} (h:wf (.row fs o)):fs.names.length≤5:=by
 have h':(decide (fs.names.length≤5)&&fs.thr)=true:=h.2
 simp only [Bool.and_eq_true,decide_eq_true_eq] at h'
 exact h'.1
theorem ZiR {fs gs:Fs} {o p:Bool} (w1:wf (.row fs o)) (w2:wf (.row gs p)):(ZhI fs gs).length≤10:=by
 have:=Zey (ZfE (Zd6 fs gs)) (xs:=fs.names++gs.names) fun x hx=>List.mem_append.mpr (ZbJ.mp hx)
 rw [List.length_append] at this
 have h1:=Zng w1
 have h2:=Zng w2
 omega
theorem Zjh {fs:Fs} {o:Bool} (w:wf (.row fs o)):ZhI fs fs=fs.names:=Zi2 (Zd6 fs fs) (ZqL w.1).1 fun x=>by rw [ZbJ,or_self]
theorem ZcC {fs:Fs} {o:Bool} {x:Str} {m:Bool} {k:Kd}:ent fs o x=.told m k↔fs.find x=some (m,k):=by
 unfold ent
 cases e:fs.find x with
 | none=>cases o <;> simp
 | some u=>obtain ⟨m',k'⟩:=u;simp
def jE (f:Kd→Kd→Kd):En→En→Option (Bool×Kd)
 | .told m k,.told m' k'=>if m=m' then some (m,f k k') else none
 | _,_=>none
def jF (f:Kd→Kd→Kd) (fs gs:Fs) (o p:Bool) (x:Str):Option (Str×Bool×Kd):=(jE f (ent fs o x) (ent gs p x)).map fun u=>(x,u.1,u.2)
noncomputable def jL (f:Kd→Kd→Kd) (fs gs:Fs) (o p:Bool):List (Str×Bool×Kd):=(ZhI fs gs).filterMap (jF f fs gs o p)
noncomputable def jN (f:Kd→Kd→Kd) (fs gs:Fs) (o p:Bool):Bool:=(ZhI fs gs).any fun x=>(jE f (ent fs o x) (ent gs p x)).isNone
noncomputable def ZaZ:Nat→Kd→Kd→Kd
 | 0,_,_=>.any
 | _+1,.num,.num=>.num
 | _+1,.truth,.truth=>.truth
 | n+1,.to a b,.to c d=>.to (ZaZ n a c) (ZaZ n b d)
 | n+1,.box a,.box b=>.box (ZaZ n a b)
 | n+1,.row fs o,.row gs p=>.row (ofL (jL (ZaZ n) fs gs o p)) (o||p||jN (ZaZ n) fs gs o p)
 | _+1,_,_=>.any
def eE (f:Kd→Kd→Kd):En→En→Option (Bool×Kd)
 | .told m k,.told m' k'=>some (m&&m',f k k')
 | .nope,.told _ k=>some (false,k)
 | .told _ k,.nope=>some (false,k)
 | _,_=>none
def eF (f:Kd→Kd→Kd) (fs gs:Fs) (o p:Bool) (x:Str):Option (Str×Bool×Kd):=(eE f (ent fs o x) (ent gs p x)).map fun u=>(x,u.1,u.2)
noncomputable def eL (f:Kd→Kd→Kd) (fs gs:Fs) (o p:Bool):List (Str×Bool×Kd):=(ZhI fs gs).filterMap (eF f fs gs o p)
noncomputable def ZbH:Nat→Kd→Kd→Kd
 | 0,_,_=>.any
 | _+1,.num,.num=>.num
 | _+1,.truth,.truth=>.truth
 | n+1,.to a b,.to c d=>.to (ZaZ n a c) (ZbH n b d)
 | n+1,.box a,.box b=>.box (ZaZ n a b)
 | n+1,.row fs o,.row gs p=>.row (ofL (eL (ZbH n) fs gs o p)) (o||p)
 | _+1,_,_=>.any
theorem Zjm {f:Kd→Kd→Kd} {e e':En} {m:Bool} {j:Kd} (h:jE f e e'=some (m,j)):∃ k k',e=.told m k∧e'=.told m k'∧j=f k k':=by
 cases e <;> cases e' <;> first | (cases h;done) | skip
 rename_i m1 k m2 k'
 have h':(if m1=m2 then some (m1,f k k') else none)=some (m,j):=h
 split at h'
 ·rename_i e;subst e;cases h';exact ⟨k,k',rfl,rfl,rfl⟩
 ·cases h'
theorem ZnJ {f:Kd→Kd→Kd} {m:Bool} {k k':Kd}:jE f (.told m k) (.told m k')=some (m,f k k'):=if_pos rfl
theorem ZuZ {f:Kd→Kd→Kd} {fs gs:Fs} {o p:Bool} {u:Str×Bool×Kd} (h:u∈jL f fs gs o p):∃ k k',ent fs o u.1=.told u.2.1 k∧ent gs p u.1=.told u.2.1 k'∧u.2.2=f k k':=by
 obtain ⟨x,hx,e⟩:=List.mem_filterMap.mp h
 unfold jF at e
 obtain ⟨⟨m,j⟩,e1,e2⟩:=Option.map_eq_some_iff.mp e
 cases e2
 exact Zjm e1
theorem ZlU {f:Kd→Kd→Kd} {e e':En} {m:Bool} {j:Kd} (h:eE f e e'=some (m,j)):(∃ m' ,e=.told m' j∨e'=.told m' j)∨∃ m1 k m2 k',e=.told m1 k∧e'=.told m2 k'∧j=f k k':=by
 cases e <;> cases e' <;> first | (cases h;done) | skip
 ·rename_i m' k;cases h;exact .inl ⟨m',.inr rfl⟩
 ·rename_i m' k;cases h;exact .inl ⟨m',.inl rfl⟩
 ·rename_i m1 k m2 k';cases h;exact .inr ⟨m1,k,m2,k',rfl,rfl,rfl⟩
theorem ZuN {f:Kd→Kd→Kd} {fs gs:Fs} {o p:Bool} {u:Str×Bool×Kd} (h:u∈eL f fs gs o p):(∃ m,ent fs o u.1=.told m u.2.2∨ent gs p u.1=.told m u.2.2)∨∃ m1 k m2 k',ent fs o u.1=.told m1 k∧ent gs p u.1=.told m2 k'∧u.2.2=f k k':=by
 obtain ⟨x,hx,e⟩:=List.mem_filterMap.mp h
 unfold eF at e
 obtain ⟨⟨m,j⟩,e1,e2⟩:=Option.map_eq_some_iff.mp e
 cases e2
 exact ZlU e1
theorem Znv {fs:Fs} {k:Kd} (h:k∈fs.kinds):k.dp≤fs.dp:=by
 have:=Zar (k:=.row fs true) (c:=k) h
 have e:(Kd.row fs true).dp=1+fs.dp:=rfl
 omega
theorem ZgD:∀ (m:Nat) (a b:Kd),(ZaZ m a b).dp≤a.dp
 | 0,a,b=>ZbX a
 | m+1,a,b=>by
  cases a <;> cases b <;> first | exact ZbX _ | skip
  ·rename_i a1 a2 b1 b2
   have h1:=ZgD m a1 b1
   have h2:=ZgD m a2 b2
   show 1+max (ZaZ m a1 b1).dp (ZaZ m a2 b2).dp≤1+max a1.dp a2.dp;omega
  ·rename_i a1 b1
   have h1:=ZgD m a1 b1
   show 1+(ZaZ m a1 b1).dp≤1+a1.dp;omega
  ·rename_i fs o gs p
   have:(ofL (jL (ZaZ m) fs gs o p)).dp≤fs.dp:=Znb _ fun y hy=>by
    obtain ⟨k,k',e1,e2,e3⟩:=ZuZ hy
    rw [e3]
    exact Nat.le_trans (ZgD m k k') (Znv (Zcg (ZcC.mp e1)).1)
   show 1+(ofL (jL (ZaZ m) fs gs o p)).dp≤1+fs.dp;omega
theorem ZlB:∀ (m:Nat) (a b:Kd),(ZbH m a b).dp≤max a.dp b.dp
 | 0,a,b=>Nat.le_trans (ZbX a) (Nat.le_max_left _ _)
 | m+1,a,b=>by
  cases a <;> cases b <;> first | exact Nat.le_trans (ZbX _) (Nat.le_max_left _ _) | skip
  ·rename_i a1 a2 b1 b2
   have h1:=ZgD m a1 b1
   have h2:=ZlB m a2 b2
   show 1+max (ZaZ m a1 b1).dp (ZbH m a2 b2).dp≤max (1+max a1.dp a2.dp) (1+max b1.dp b2.dp);omega
  ·rename_i a1 b1
   have h1:=ZgD m a1 b1
   show 1+(ZaZ m a1 b1).dp≤max (1+a1.dp) (1+b1.dp);omega
  ·rename_i fs o gs p
   have:(ofL (eL (ZbH m) fs gs o p)).dp≤max fs.dp gs.dp:=Znb _ fun y hy=>by
    rcases ZuN hy with ⟨m',e | e⟩ | ⟨m1,k,m2,k',e1,e2,e3⟩
    ·have:=Znv (Zcg (ZcC.mp e)).1;omega
    ·have:=Znv (Zcg (ZcC.mp e)).1;omega
    ·have h1:=Znv (Zcg (ZcC.mp e1)).1
     have h2:=Znv (Zcg (ZcC.mp e2)).1
     have h3:=ZlB m k k'
     rw [e3];omega
   show 1+(ofL (eL (ZbH m) fs gs o p)).dp≤max (1+fs.dp) (1+gs.dp);omega
theorem Zvi {f:Kd→Kd→Kd} (hf:∀ a b,f a b=f b a) (e e':En):jE f e e'=jE f e' e:=by
 cases e <;> cases e' <;> first | rfl | skip
 rename_i m k m' k'
 show (if m=m' then some (m,f k k') else none)=if m'=m then some (m',f k' k) else none
 by_cases h:m=m'
 ·subst h;rw [hf]
 ·rw [if_neg h,if_neg (fun z=>h z.symm)]
theorem ZwI {f:Kd→Kd→Kd} (hf:∀ a b,f a b=f b a) (e e':En):eE f e e'=eE f e' e:=by
 cases e <;> cases e' <;> first | rfl | skip
 rename_i m k m' k'
 show some (m&&m',f k k')=some (m'&&m,f k' k)
 rw [hf,Bool.and_comm]
theorem ZeD:∀ (m:Nat) (a b:Kd),ZaZ m a b=ZaZ m b a
 | 0,_,_=>rfl
 | m+1,a,b=>by
  cases a <;> cases b <;> first | rfl | skip
  ·rename_i a1 a2 b1 b2
   show Kd.to (ZaZ m a1 b1) (ZaZ m a2 b2)=Kd.to (ZaZ m b1 a1) (ZaZ m b2 a2)
   rw [ZeD m a1,ZeD m a2]
  ·rename_i a1 b1
   show Kd.box (ZaZ m a1 b1)=Kd.box (ZaZ m b1 a1)
   rw [ZeD m a1]
  ·rename_i fs o gs p
   have h:∀ x,jE (ZaZ m) (ent fs o x) (ent gs p x)=jE (ZaZ m) (ent gs p x) (ent fs o x):=fun x=>Zvi (ZeD m) _ _
   show Kd.row (ofL (jL (ZaZ m) fs gs o p)) (o||p||jN (ZaZ m) fs gs o p)=Kd.row (ofL (jL (ZaZ m) gs fs p o)) (p||o||jN (ZaZ m) gs fs p o)
   have e1:jL (ZaZ m) fs gs o p=jL (ZaZ m) gs fs p o:=by
    unfold jL
    rw [ZjW];congr 1;funext x;unfold jF;rw [h]
   have e2:jN (ZaZ m) fs gs o p=jN (ZaZ m) gs fs p o:=by
    unfold jN
    rw [ZjW];congr 1;funext x;rw [h]
   rw [e1,e2,Bool.or_comm o p]
theorem Zhl:∀ (m:Nat) (a b:Kd),ZbH m a b=ZbH m b a
 | 0,_,_=>rfl
 | m+1,a,b=>by
  cases a <;> cases b <;> first | rfl | skip
  ·rename_i a1 a2 b1 b2
   show Kd.to (ZaZ m a1 b1) (ZbH m a2 b2)=Kd.to (ZaZ m b1 a1) (ZbH m b2 a2)
   rw [ZeD m a1,Zhl m a2]
  ·rename_i a1 b1
   show Kd.box (ZaZ m a1 b1)=Kd.box (ZaZ m b1 a1)
   rw [ZeD m a1]
  ·rename_i fs o gs p
   have h:∀ x,eE (ZbH m) (ent fs o x) (ent gs p x)=eE (ZbH m) (ent gs p x) (ent fs o x):=fun x=>ZwI (Zhl m) _ _
   show Kd.row (ofL (eL (ZbH m) fs gs o p)) (o||p)=Kd.row (ofL (eL (ZbH m) gs fs p o)) (p||o)
   have e1:eL (ZbH m) fs gs o p=eL (ZbH m) gs fs p o:=by
    unfold eL
    rw [ZjW];congr 1;funext x;unfold eF;rw [h]
   rw [e1,Bool.or_comm o p]
theorem Zog {F:Str→Option (Str×Bool×Kd)}:∀ l:List (Str×Bool×Kd),(∀ y∈l,F y.1=some y)→(l.map (·.1)).filterMap F=l
 | [],_=>rfl
 | y::l,h=>by
  rw [List.map_cons,List.filterMap_cons_some (h y List.mem_cons_self),Zog l fun z hz=>h z (List.mem_cons_of_mem _ hz)]
theorem ZuB {l:List (Str×Bool×Kd)} {o:Bool} (w:wf (.row (ofL l) o)) {y:Str×Bool×Kd} (hy:y∈l):ent (ofL l) o y.1=.told y.2.1 y.2.2:=ZcC.mpr (Zmb (ZmO w).1 hy)
theorem Zen:∀ (m:Nat) {a:Kd},wf a→a.dp≤m→ZaZ m a a=a
 | 0,a,_,h=>by have:=ZbX a;omega
 | m+1,a,w,h=>by
  cases a with
  | any=>rfl
  | num=>rfl
  | truth=>rfl
  | to x y =>
   have h1:=Zar (k:=.to x y) (c:=x) (by simp [Kd.kids])
   have h2:=Zar (k:=.to x y) (c:=y) (by simp [Kd.kids])
   show Kd.to (ZaZ m x x) (ZaZ m y y)=_
   rw [Zen m (Zax w (by simp [Kd.kids])) (by omega),Zen m (Zax w (by simp [Kd.kids])) (by omega)]
  | box x =>
   have h1:=Zar (k:=.box x) (c:=x) (by simp [Kd.kids])
   show Kd.box (ZaZ m x x)=_
   rw [Zen m (Zax w (by simp [Kd.kids])) (by omega)]
  | row fs o =>
   obtain ⟨l,rfl⟩:∃ l,fs=ofL l:=⟨fs.toL,(ZjE fs).symm⟩
   have hs:∀ y∈l,jE (ZaZ m) (ent (ofL l) o y.1) (ent (ofL l) o y.1)=some (y.2.1,y.2.2):=fun y hy=>by
    have e:=ZuB w hy
    have hk:=Zbt e
    have hd:=Zar (k:=.row (ofL l) o) hk
    rw [e,ZnJ,Zen m (Zax w hk) (by omega)]
   have hL:jL (ZaZ m) (ofL l) (ofL l) o o=l:=by
    unfold jL
    rw [Zjh w,ZbL]
    exact Zog l fun y hy=>by unfold jF;rw [hs y hy];rfl
   have hN:jN (ZaZ m) (ofL l) (ofL l) o o=false:=by
    unfold jN
    rw [Zjh w,ZbL,List.any_eq_false]
    intro x hx
    obtain ⟨y,hy,rfl⟩:=List.mem_map.mp hx
    rw [hs y hy];exact Bool.false_ne_true
   show Kd.row (ofL (jL (ZaZ m) (ofL l) (ofL l) o o)) (o||o||jN (ZaZ m) (ofL l) (ofL l) o o)=_
   rw [hL,hN,Bool.or_self,Bool.or_false]
theorem ZjP:∀ (m:Nat) {a:Kd},wf a→a.dp≤m→ZbH m a a=a
 | 0,a,_,h=>by have:=ZbX a;omega
 | m+1,a,w,h=>by
  cases a with
  | any=>rfl
  | num=>rfl
  | truth=>rfl
  | to x y =>
   have h1:=Zar (k:=.to x y) (c:=x) (by simp [Kd.kids])
   have h2:=Zar (k:=.to x y) (c:=y) (by simp [Kd.kids])
   show Kd.to (ZaZ m x x) (ZbH m y y)=_
   rw [Zen m (Zax w (by simp [Kd.kids])) (by omega),ZjP m (Zax w (by simp [Kd.kids])) (by omega)]
  | box x =>
   have h1:=Zar (k:=.box x) (c:=x) (by simp [Kd.kids])
   show Kd.box (ZaZ m x x)=_
   rw [Zen m (Zax w (by simp [Kd.kids])) (by omega)]
  | row fs o =>
   obtain ⟨l,rfl⟩:∃ l,fs=ofL l:=⟨fs.toL,(ZjE fs).symm⟩
   have hL:eL (ZbH m) (ofL l) (ofL l) o o=l:=by
    unfold eL
    rw [Zjh w,ZbL]
    refine Zog l fun y hy=>?_
    have e:=ZuB w hy
    have hk:=Zbt e
    have hd:=Zar (k:=.row (ofL l) o) hk
    unfold eF
    rw [e]
    show some (y.1,y.2.1&&y.2.1,ZbH m y.2.2 y.2.2)=_
    rw [ZjP m (Zax w hk) (by omega),Bool.and_self]
   show Kd.row (ofL (eL (ZbH m) (ofL l) (ofL l) o o)) (o||o)=_
   rw [hL,Bool.or_self]
theorem Zsh:∀ l:List (Str×Bool×Kd),(∀ y∈l,y.2.2.ten=true)→(ofL l).ten=true
 | [],_=>rfl
 | y::l,h=>by
  show (y.2.2.ten&&(ofL l).ten)=true
  rw [h y List.mem_cons_self,Zsh l fun z hz=>h z (List.mem_cons_of_mem _ hz)];rfl
theorem Zqo {l:List (Str×Bool×Kd)} {o:Bool} (h:l.length≤10) (h2:∀ y∈l,y.2.2.ten=true):(Kd.row (ofL l) o).ten=true:=by
 show (decide ((ofL l).names.length≤10)&&(ofL l).ten)=true
 rw [ZbL,List.length_map,decide_eq_true h,Zsh l h2];rfl
theorem Zfv:∀ (m:Nat) {a b:Kd},wf a→wf b→(ZaZ m a b).ten=true
 | 0,a,b,_,_=>rfl
 | m+1,a,b,wa,wb=>by
  cases a <;> cases b <;> first | rfl | skip
  ·rename_i a1 a2 b1 b2
   show ((ZaZ m a1 b1).ten&&(ZaZ m a2 b2).ten)=true
   rw [Zfv m (Zax wa (by simp [Kd.kids])) (Zax wb (by simp [Kd.kids])),Zfv m (Zax wa (by simp [Kd.kids])) (Zax wb (by simp [Kd.kids]))];rfl
  ·exact Zfv m (Zax wa (by simp [Kd.kids])) (Zax wb (by simp [Kd.kids]))
  ·rename_i fs o gs p
   refine Zqo (Nat.le_trans (List.length_filterMap_le _ _) (ZiR wa wb)) fun y hy=>?_
   obtain ⟨k,k',e1,e2,e3⟩:=ZuZ hy
   rw [e3]
   exact Zfv m (Zax wa (Zbt e1)) (Zax wb (Zbt e2))
theorem Zmh:∀ (m:Nat) {a b:Kd},wf a→wf b→(ZbH m a b).ten=true
 | 0,a,b,_,_=>rfl
 | m+1,a,b,wa,wb=>by
  cases a <;> cases b <;> first | rfl | skip
  ·rename_i a1 a2 b1 b2
   show ((ZaZ m a1 b1).ten&&(ZbH m a2 b2).ten)=true
   rw [Zfv m (Zax wa (by simp [Kd.kids])) (Zax wb (by simp [Kd.kids])),Zmh m (Zax wa (by simp [Kd.kids])) (Zax wb (by simp [Kd.kids]))];rfl
  ·exact Zfv m (Zax wa (by simp [Kd.kids])) (Zax wb (by simp [Kd.kids]))
  ·rename_i fs o gs p
   refine Zqo (Nat.le_trans (List.length_filterMap_le _ _) (ZiR wa wb)) fun y hy=>?_
   rcases ZuN hy with ⟨m',e | e⟩ | ⟨m1,k,m2,k',e1,e2,e3⟩
   ·exact ZgO (Zax (k:=.row fs o) wa (Zbt e)).2
   ·exact ZgO (Zax (k:=.row gs p) wb (Zbt e)).2
   ·rw [e3];exact Zmh m (Zax wa (Zbt e1)) (Zax wb (Zbt e2))
abbrev ZoR:List Str:=["names","entries","is_open","fields"]
theorem Zl0:Zau ZoR ["names","entries","is_open"] (Zag Zjb):=by walk_at "s"
def Zo2:GS:=(Zat (Za9 3 (Zbj (Zku (Zaa (Zab 0) (Zaa (Zab 1) Zaj))) 2 [] (ZjU 0 1) (gTB (Zai (Zak (eqF true)) (Zab 1) (ZaQ (Zaa (gC (.str "free")) Zaj)))) (Zai (ZgY) (ZaQ (Zaa (Zab 0) Zaj)) (Zab 1)))) (Zay (ZaQ (Zaa (gC (.str "row")) (Zaa (gB (rF ZhY) (Zaa (Zab 3) Zaj)) (Zaa (Zab 2) Zaj))))))
theorem ZtD {k:Nat} (T:Tx K mg base a):Dn P w K mg base ZoR "row_of" Zjb k (Zo2):=fun {f cdv A outer s H E} hr =>
 have hu:=Zg2 hr
 have hN:=Zl0.nd
 (Zaq (ZlF (i:=3) Zl0.nd rfl rfl rfl rfl (Zvc (own:=["name","entry"]) (fr:=[]) (js:=[]) (scX:=Zag Zjb) (n:=s.heap.objs.size+1) rfl (by decide +kernel) (by decide +kernel) (by decide +kernel) (by decide +kernel) rfl rfl rfl (by decide +kernel) rfl) (fun _=>rfl) (ZuD T.ZrU rfl rfl rfl (by walk_at "v")) (Zvu (i:=0) (j:=1) rfl (by decide) rfl rfl rfl rfl) (fun C fp s1 H1=>(by walk_at "v")) (fun C fp s1 H1=>(by walk_at "v"))) (by walk_at "v"))
abbrev Zem:List Str:=["one","other"]
theorem Zeo:Zau Zem ["one","other"] (Zag ZcV):=by walk_at "s"
def Zeu (ZaW:Spw):GS:=(Zat (gIf (gTB (Zai (Zak (eqF true)) (Zai (Zak ixW) (Zab 0) (gC (.int 0))) (Zai (Zak ixW) (Zab 1) (gC (.int 0))))) (Zay (ZaQ (Zaa (gC (.str "free")) Zaj))) Zam) (Zay (ZaQ (Zaa (Zai (Zak ixW) (Zab 0) (gC (.int 0))) (Zaa (Zae ZaW XF (Zaa (Zai (Zak ixW) (Zab 0) (gC (.int 1))) (Zaa (Zai (Zak ixW) (Zab 1) (gC (.int 1))) Zaj))) Zaj)))))
theorem Zh8 {k:Nat} (T:Tx K mg base a) {Zb2:Nat} {ZaW:Spw} (Znf:Df P w K mg base "join_of" Zb2 2 ZaW) (ZmG:Zb2≤k):Dn P w K mg base Zem "join_of_entries" ZcV k (Zeu ZaW):=by
 have hN:=Zeo.nd
 walk_at "z"
abbrev ZfZ:List Str:=["one","other","names","entries"]
theorem Zd2:Zau ZfZ ["one","other"] (Zag Zc4):=by walk_at "s"
def Zgw (Zal:Spw) (Zas:Spw) (ZbO:Spw) (ZcO:Spw):GS:=(Zat (Za9 2 (Zae Zal XF (Zaa (Zab 0) (Zaa (Zab 1) Zaj)))) (Zat (Za9 3 (Zbj (Zbl (Zab 2)) 1 [0,1] (gNm 0) Zhg (Zae ZbO XF (Zaa (Zae Zas XF (Zaa (Zab 1) (Zaa (Zab 0) Zaj))) (Zaa (Zae Zas XF (Zaa (Zab 2) (Zaa (Zab 0) Zaj))) Zaj))))) (Zay (Zae ZcO XF (Zaa (Zab 2) (Zaa (Zab 3) (Zaa (ZiJ (Zai (Zak ixW) (Zab 0) (gC (.int 2))) (ZiJ (Zai (Zak ixW) (Zab 1) (gC (.int 2))) (Zai (Zak inT) (ZaQ (Zaa (gC (.str "free")) Zaj)) (Zab 3)))) Zaj)))))))
theorem Zkw {k:Nat} (T:Tx K mg base a) {Zap:Nat} {Zal:Spw} (ZcA:Df P w K mg base "names_of_both" Zap 2 Zal) (ZcI:Zap≤k) {ZaH:Nat} {Zas:Spw} (ZfK:Df P w K mg base "entry_of" ZaH 2 Zas) (Zfx:ZaH≤k) {Zb6:Nat} {ZbO:Spw} (Zp1:Df P w K mg base "join_of_entries" Zb6 2 ZbO) (ZpE:Zb6≤k) {ZdR:Nat} {ZcO:Spw} (ZtU:Df P w K mg base "row_of" ZdR 3 ZcO) (Zt9:ZdR≤k):Dn P w K mg base ZfZ "join_of_rows" Zc4 k (Zgw Zal Zas ZbO ZcO):=fun {f cdv A outer s H E} hr =>
 have hu:=Zg2 hr
 have hN:=Zd2.nd
 (Zaq (by walk_at "v") (Zaq (ZlF (i:=3) Zd2.nd rfl rfl rfl rfl (Zvc (own:=["name"]) (fr:=["one","other"]) (js:=[0,1]) (scX:=Zag Zc4) (n:=s.heap.objs.size+1) rfl (by decide +kernel) (by decide +kernel) (by decide +kernel) (by decide +kernel) rfl rfl rfl (by decide +kernel) rfl) (fun _=>rfl) (by walk_at "v") (Zhf (i:=0) (by decide) rfl rfl) (fun C fp s1 H1=>Zb0) (fun C fp s1 H1=>(by walk_at "v"))) (by walk_at "v")))
abbrev Zmu:List Str:=["one","other"]
theorem ZnA:Zau Zmu ["one","other"] (Zag Zj5):=by walk_at "s"
def Znj (ZcH:Spw) (ZaW:Spw):GS:=(Zat (gIf (gTB (Zai (Zak (eqF true)) (Zai (Zak ixW) (Zab 0) (gC (.int 0))) (Zai (Zak ixW) (Zab 1) (gC (.int 0))))) (Zay (ZaQ (Zaa (gC (.str "any")) Zaj))) Zam) (Zat (gIf (gTB (Zai (Zak (eqF false)) (Zai (Zak ixW) (Zab 0) (gC (.int 0))) (gC (.str "row")))) (Zay (Zae ZcH XF (Zaa (Zab 0) (Zaa (Zab 1) Zaj)))) Zam) (Zay (Zai (ZgY) (ZaQ (Zaa (Zai (Zak ixW) (Zab 0) (gC (.int 0))) Zaj)) (gB (rF ZhY) (Zaa (Zcy (ZfQ (Zaa (Zji (Zab 0) (Zco (gC (.int 1))) ZaO) (Zaa (Zji (Zab 1) (Zco (gC (.int 1))) ZaO) Zaj))) 2 (ZjU 0 1) Zhg (Zae ZaW XF (Zaa (Zab 0) (Zaa (Zab 1) Zaj)))) Zaj))))))
theorem Zsm {k:Nat} (T:Tx K mg base a) {Zc6:Nat} {ZcH:Spw} (Zst:Df P w K mg base "join_of_rows" Zc6 2 ZcH) (Zso:Zc6≤k) {Zb2:Nat} {ZaW:Spw} (Znf:Df P w K mg base "join_of" Zb2 2 ZaW) (ZmG:Zb2≤k):Dn P w K mg base Zmu "join_of" Zj5 k (Znj ZcH ZaW):=fun {f cdv A outer s H E} hr =>
 have hu:=Zg2 hr
 have hN:=ZnA.nd
 (Zaq (by walk_at "v") (Zaq (by walk_at "v") (Za4 (Zce (ZdD (by walk_at "v") (Zcc ZaR (Zby) rfl T.Zbc (by decide) rfl rfl rfl (ZaU rfl (Zfr (Nc:=["left","right"]) rfl (ZuA rfl (by decide +kernel) (by decide +kernel)) (fun _=>rfl) (ZqA T.ZrU rfl rfl rfl (by walk_at "v")) (ZnY (i:=0) (j:=1) rfl (by decide) rfl rfl rfl rfl) (fun C fp s1 H1=>Zb0) (fun C fp s1 H1=>(by walk_at "v"))) Zb9)))))))
abbrev ZdM:List Str:=["one","other","mark"]
theorem ZdF:Zau ZdM ["one","other"] (Zag Zcn):=by walk_at "s"
def ZdE (ZaM:Spw):GS:=(Zat (gIf (gTB (Zai (Zak (inF false)) (gC (.str "free")) (ZaQ (Zaa (Zai (Zak ixW) (Zab 0) (gC (.int 0))) (Zaa (Zai (Zak ixW) (Zab 1) (gC (.int 0))) Zaj))))) (Zay (ZaQ (Zaa (gC (.str "free")) Zaj))) Zam) (Zat (gIf (gTB (Zai (Zak (eqF false)) (Zai (Zak ixW) (Zab 0) (gC (.int 0))) (gC (.str "none")))) (Zay (ZaQ (Zaa (gC (.str "may")) (Zaa (Zai (Zak ixW) (Zab 1) (gC (.int 1))) Zaj)))) Zam) (Zat (gIf (gTB (Zai (Zak (eqF false)) (Zai (Zak ixW) (Zab 1) (gC (.int 0))) (gC (.str "none")))) (Zay (ZaQ (Zaa (gC (.str "may")) (Zaa (Zai (Zak ixW) (Zab 0) (gC (.int 1))) Zaj)))) Zam) (Zat (Za9 2 (ZhG (gTB (ZbS (Zak (eqF false)) (Zak (eqF false)) (Zai (Zak ixW) (Zab 0) (gC (.int 0))) (Zai (Zak ixW) (Zab 1) (gC (.int 0))) (gC (.str "must")))) (gC (.str "must")) (gC (.str "may")))) (Zay (ZaQ (Zaa (Zab 2) (Zaa (Zae ZaM XF (Zaa (Zai (Zak ixW) (Zab 0) (gC (.int 1))) (Zaa (Zai (Zak ixW) (Zab 1) (gC (.int 1))) Zaj))) Zaj))))))))
theorem ZgN {k:Nat} (T:Tx K mg base a) {Zbe:Nat} {ZaM:Spw} (Zjf:Df P w K mg base "either_of" Zbe 2 ZaM) (Zjv:Zbe≤k):Dn P w K mg base ZdM "either_of_entries" Zcn k (ZdE ZaM):=by
 have hN:=ZdF.nd
 walk_at "z"
abbrev ZeY:List Str:=["one","other","names","entries"]
theorem Zdk:Zau ZeY ["one","other"] (Zag Zcf):=by walk_at "s"
def ZeX (Zal:Spw) (Zas:Spw) (Zbp:Spw) (ZcO:Spw):GS:=(Zat (Za9 2 (Zae Zal XF (Zaa (Zab 0) (Zaa (Zab 1) Zaj)))) (Zat (Za9 3 (Zbj (Zbl (Zab 2)) 1 [0,1] (gNm 0) Zhg (Zae Zbp XF (Zaa (Zae Zas XF (Zaa (Zab 1) (Zaa (Zab 0) Zaj))) (Zaa (Zae Zas XF (Zaa (Zab 2) (Zaa (Zab 0) Zaj))) Zaj))))) (Zay (Zae ZcO XF (Zaa (Zab 2) (Zaa (Zab 3) (Zaa (ZiJ (Zai (Zak ixW) (Zab 0) (gC (.int 2))) (Zai (Zak ixW) (Zab 1) (gC (.int 2)))) Zaj)))))))
theorem ZiN {k:Nat} (T:Tx K mg base a) {Zap:Nat} {Zal:Spw} (ZcA:Df P w K mg base "names_of_both" Zap 2 Zal) (ZcI:Zap≤k) {ZaH:Nat} {Zas:Spw} (ZfK:Df P w K mg base "entry_of" ZaH 2 Zas) (Zfx:ZaH≤k) {ZbF:Nat} {Zbp:Spw} (Zoa:Df P w K mg base "either_of_entries" ZbF 2 Zbp) (Zn9:ZbF≤k) {ZdR:Nat} {ZcO:Spw} (ZtU:Df P w K mg base "row_of" ZdR 3 ZcO) (Zt9:ZdR≤k):Dn P w K mg base ZeY "either_of_rows" Zcf k (ZeX Zal Zas Zbp ZcO):=fun {f cdv A outer s H E} hr =>
 have hu:=Zg2 hr
 have hN:=Zdk.nd
 (Zaq (by walk_at "v") (Zaq (ZlF (i:=3) Zdk.nd rfl rfl rfl rfl (Zvc (own:=["name"]) (fr:=["one","other"]) (js:=[0,1]) (scX:=Zag Zcf) (n:=s.heap.objs.size+1) rfl (by decide +kernel) (by decide +kernel) (by decide +kernel) (by decide +kernel) rfl rfl rfl (by decide +kernel) rfl) (fun _=>rfl) (by walk_at "v") (Zhf (i:=0) (by decide) rfl rfl) (fun C fp s1 H1=>Zb0) (fun C fp s1 H1=>(by walk_at "v"))) (by walk_at "v")))
abbrev ZjI:List Str:=["one","other"]
theorem Zjg:Zau ZjI ["one","other"] (Zag ZgJ):=by walk_at "s"
def Zjr (ZaW:Spw) (ZaM:Spw) (Zb8:Spw):GS:=(Zat (gIf (gTB (Zai (Zak (eqF true)) (Zai (Zak ixW) (Zab 0) (gC (.int 0))) (Zai (Zak ixW) (Zab 1) (gC (.int 0))))) (Zay (ZaQ (Zaa (gC (.str "any")) Zaj))) Zam) (Zat (gIf (gTB (Zai (Zak (eqF false)) (Zai (Zak ixW) (Zab 0) (gC (.int 0))) (gC (.str "to")))) (Zay (ZaQ (Zaa (gC (.str "to")) (Zaa (Zae ZaW XF (Zaa (Zai (Zak ixW) (Zab 0) (gC (.int 1))) (Zaa (Zai (Zak ixW) (Zab 1) (gC (.int 1))) Zaj))) (Zaa (Zae ZaM XF (Zaa (Zai (Zak ixW) (Zab 0) (gC (.int 2))) (Zaa (Zai (Zak ixW) (Zab 1) (gC (.int 2))) Zaj))) Zaj))))) Zam) (Zat (gIf (gTB (Zai (Zak (eqF false)) (Zai (Zak ixW) (Zab 0) (gC (.int 0))) (gC (.str "box")))) (Zay (ZaQ (Zaa (gC (.str "box")) (Zaa (Zae ZaW XF (Zaa (Zai (Zak ixW) (Zab 0) (gC (.int 1))) (Zaa (Zai (Zak ixW) (Zab 1) (gC (.int 1))) Zaj))) Zaj)))) Zam) (Zat (gIf (gTB (Zai (Zak (eqF false)) (Zai (Zak ixW) (Zab 0) (gC (.int 0))) (gC (.str "row")))) (Zay (Zae Zb8 XF (Zaa (Zab 0) (Zaa (Zab 1) Zaj)))) Zam) (Zay (Zab 0))))))
theorem Zol {k:Nat} (T:Tx K mg base a) {Zb2:Nat} {ZaW:Spw} (Znf:Df P w K mg base "join_of" Zb2 2 ZaW) (ZmG:Zb2≤k) {Zbe:Nat} {ZaM:Spw} (Zjf:Df P w K mg base "either_of" Zbe 2 ZaM) (Zjv:Zbe≤k) {Zck:Nat} {Zb8:Spw} (Zqe:Df P w K mg base "either_of_rows" Zck 2 Zb8) (Zqd:Zck≤k):Dn P w K mg base ZjI "either_of" ZgJ k (Zjr ZaW ZaM Zb8):=by
 have hN:=Zjg.nd
 walk_at "z"
abbrev Zow:List Str:=["one","other"]
theorem ZoM:Zau Zow ["one","other"] (Zag Zl4):=by walk_at "s"
def Zpb (ZaC:Spw) (ZaM:Spw):GS:=(Zat (Zbs (Zae ZaC XF (Zaa (Zab 0) (Zaa (Zab 1) Zaj)))) (Zay (Zae ZaM XF (Zaa (Zab 0) (Zaa (Zab 1) Zaj)))))
theorem Ztk {k:Nat} (T:Tx K mg base a) {ZaN:Nat} {ZaC:Spw} (Zhq:Df P w K mg base "check_kinds" ZaN 2 ZaC) (Zg4:ZaN≤k) {Zbe:Nat} {ZaM:Spw} (Zjf:Df P w K mg base "either_of" Zbe 2 ZaM) (Zjv:Zbe≤k):Dn P w K mg base Zow "either" Zl4 k (Zpb ZaC ZaM):=by
 have hN:=ZoM.nd
 walk_at "z"
def enJ:Option (Bool×Kd)→En
 | some u=>.told u.1 u.2
 | none=>.free
def Zqa (us:List (Str×Option (Bool×Kd))):List (Str×Bool×Kd):=us.filterMap fun u=>u.2.map fun v=>(u.1,v.1,v.2)
theorem ZwG {m:Bool} {k:Kd} (hd:k.dp≤20) (G:Hw):eqW (.tup [.str (mark m),k.enc]) (.tup [.str "free"]) G=some false:=by
 have h:=Zjq k
 show (if max 0 (max (dpW k.enc) 0) < 90 then ZjQ [.str (mark m),k.enc] [.str "free"] else none)=_
 rw [if_pos (by omega)]
 show (match some (mark m=="free"),some false with | some a,some b=>some (a&&b) | _,_=>none)=some false
 simp
theorem ZqN (G:Hw):eqW (.tup [.str "free"]) (.tup [.str "free"]) G=some true:=by
 show some (("free":Str)=="free"&&true)=some true
 simp
theorem ZlZ {gd:Hw→Prop} {R:List W→Hw→Prop} {G:Hw} (hgd:gd G):∀ (us:List (Str×Option (Bool×Kd))) (o o':Option W) (ys:List W),(∀ u∈us,∀ m k,u.2=some (m,k)→k.dp≤20) →
  ys.length+us.length≤sizeLine→R (ys++(Zqa us).map ZcP) G→ZbR gd (ZjU 0 1) (gTB (Zai (Zak (eqF true)) (Zab 1) (L3.ZaQ (L3.Zaa (gC (.str "free")) L3.Zaj)))) (Zai ZgY (L3.ZaQ (L3.Zaa (Zab 0) L3.Zaj)) (Zab 1)) R (us.map fun u=>W.tup [.str u.1,(enJ u.2).enc]) [o,o'] G ys
 | [],o,o',ys,_,_,r=>⟨hgd,by simpa [Zqa] using r⟩
 | (x,e)::us,o,o',ys,h,hl,r=>by
  have hl':ys.length+(us.length+1)≤sizeLine:=hl
  refine ⟨hgd,by omega,?_⟩
  simp only [ZjU,List.set_cons_zero,List.set_cons_succ,gTB,Zai,Zab,L3.ZaQ,L3.Zaa,L3.Zaj,gC,Zak,List.getElem?_cons_zero,List.getElem?_cons_succ]
  refine ⟨by decide,?_⟩
  cases e with
  | none =>
   have e1:eqF true (enJ none).enc (.tup [.str "free"]) G=some (.bl false):=by unfold eqF;rw [show (enJ none).enc=.tup [.str "free"] from rfl,ZqN];rfl
   rw [e1]
   simp only [Zac,Bool.false_eq_true,if_false]
   exact ZlZ hgd us _ _ ys (fun u hu=>h u (List.mem_cons_of_mem _ hu)) (by omega) (by simpa [Zqa] using r)
  | some u =>
   obtain ⟨m,k⟩:=u
   have hk:=h (x,some (m,k)) List.mem_cons_self m k rfl
   have e1:eqF true (enJ (some (m,k))).enc (.tup [.str "free"]) G=some (.bl true):=by unfold eqF;rw [show (enJ (some (m,k))).enc=.tup [.str (mark m),k.enc] from rfl,ZwG hk];rfl
   rw [e1]
   simp only [Zac,if_true]
   refine ⟨(show 1≤sizeLine by decide),?_⟩
   rw [show (enJ (some (m,k))).enc=.tup [.str (mark m),k.enc] from rfl,Zbk]
   refine ⟨(show 1+2≤sizeLine by decide),?_⟩
   refine ZlZ hgd us _ _ _ (fun u hu=>h u (List.mem_cons_of_mem _ hu)) (by simp only [List.length_append,List.length_cons,List.length_nil];omega) ?_
   simpa [Zqa,ZcP,List.append_assoc] using r
abbrev Zrq:Spw:=spR (fun (x:List (Str×Option (Bool×Kd))×Addr×Addr×Bool) ws G=>ws=[.ref x.2.1,.ref x.2.2.1,.bl x.2.2.2]∧G x.2.1=some (.lst (x.1.map fun u=>W.str u.1))∧G x.2.2.1=some (.lst (x.1.map fun u=>(enJ u.2).enc))∧x.1.length≤100∧∀ u∈x.1,∀ m k,u.2=some (m,k)→k.dp≤20) fun x=>(Kd.row (ofL (Zqa x.1)) x.2.2.2).enc
theorem Ziq {G:Hw} {p:Addr} {xs:List W} (h:G p=some (.lst xs)):rdL G (.ref p)=some xs:=by unfold rdL;dsimp only;rw [h]
theorem ZdR (T:Tx K mg base a):Df P w K mg base "row_of" 1 3 Zrq:=by
 refine mk0 T.Zti rfl Zl0 ZbK (fun ws G Q E ⟨x,⟨e,_⟩,_⟩=>by rw [e];rfl) (ZtD T) fun ws G Q E hC q=>?_
 obtain ⟨⟨us,p1,p2,b⟩,⟨rfl,h1,h2,hl,hk⟩,q⟩:=q
 dsimp only at h1 h2 hl hk q
 unfold Zo2
 show Zat (Za9 3 _) _ (ZaE Q) [some (.ref p1),some (.ref p2),some (.bl b),none] G
 simp only [Zat,Za9,Zbj,Zku,L3.Zaa,L3.Zaj,Zab,List.getElem?_cons_zero,List.getElem?_cons_succ,Ziq h1,Ziq h2]
 have ez:Zne (us.map fun u=>W.str u.1) (us.map fun u=>(enJ u.2).enc)=us.map fun u=>W.tup [.str u.1,(enJ u.2).enc]:=by
  rw [Zha,List.zip_map',List.map_map];rfl
 rw [ez]
 refine ZlZ (G:=G) ⟨Ziq h1,Ziq h2⟩ us none none [] hk (by simp only [List.length_nil];exact Zbh (by omega)) fun p hp=>?_
 simp only [Zay,L3.ZaQ,L3.Zaa,L3.Zaj,gC,gB,rF,Zab,List.set_cons_zero,List.set_cons_succ,List.getElem?_cons_zero,List.getElem?_cons_succ,ZhY,ZhK Zad,Option.map_some,Zac,ZaE,List.nil_append]
 refine ⟨(show 3≤sizeLine by decide),?_⟩
 have e:(Kd.row (ofL (Zqa us)) b).enc=.tup [.str "row",.tup ((Zqa us).map ZcP),.bl b]:=by rw [← Ze7];rfl
 rw [e] at q
 exact hC _ _ _ (Za0 hp) q
theorem ZzX {e e':En} (h:e.hd≠e'.hd) (f:Kd→Kd→Kd):jE f e e'=none:=by
 cases e <;> cases e' <;> first | rfl | skip
 rename_i m k m' k'
 exact if_neg fun z=>h (by rw [z];rfl)
abbrev ZoH (n:Nat):Spw:=spR (fun (x:Kd×Kd) ws _=>ws=[x.1.enc,x.2.enc]∧wf x.1∧wf x.2∧x.1.dp≤n) fun x=>(ZaZ n x.1 x.2).enc
abbrev ZA3 (n:Nat):Spw:=spR (fun (x:En×En) ws _=>ws=[x.1.enc,x.2.enc]∧(x.1.hd=x.2.hd→∃ m k k',x.1=.told m k∧x.2=.told m k')∧∀ m k m' k',x.1=.told m k→x.2=.told m' k'→wf k∧wf k'∧k.dp≤n) fun x=>(enJ (jE (ZaZ n) x.1 x.2)).enc
theorem Zb6 (T:Tx K mg base a) {j n:Nat} (D:Df P w K mg base "join_of" j 2 (ZoH n)):Df P w K mg base "join_of_entries" (j+1) 2 (ZA3 n):=by
 refine mk0 T.Zh5 rfl Zeo ZbK (fun ws G Q E ⟨x,⟨e,_⟩,_⟩=>by rw [e];rfl) (Zh8 T D (Nat.le_refl _)) fun ws G Q E hC q=>?_
 obtain ⟨⟨x,y⟩,⟨rfl,hs,h⟩,q⟩:=q
 dsimp only at hs h q
 unfold Zeu
 show Zat (gIf _ _ Zam) _ (ZaE Q) [some x.enc,some y.enc] G
 refine ZfJ rfl rfl (ZdH x G) (ZdH y G) ?_
 by_cases z:x.hd=y.hd
 ·rw [if_pos z]
  obtain ⟨m,k,k',rfl,rfl⟩:=hs z
  obtain ⟨w1,w2,hd⟩:=h m k m k' rfl rfl
  rw [ZnJ] at q
  simp only [En.enc]
  walk_at "rd"
  exact ⟨(k,k'),⟨rfl,w1,w2,hd⟩,(show 2≤sizeLine by decide),q⟩
 ·rw [if_neg z]
  rw [ZzX z] at q
  exact ⟨by decide,q⟩
theorem Zt6 (f:Kd→Kd→Kd) (fs gs:Fs) (o p:Bool) (xs:List Str):Zqa (xs.map fun x=>(x,jE f (ent fs o x) (ent gs p x)))=xs.filterMap (jF f fs gs o p):=by
 unfold Zqa
 rw [List.filterMap_map];rfl
theorem ZtX {fs gs:Fs} {o p:Bool} {x:Str} (hx:x∈fs.names∨x∈gs.names) (h:(ent fs o x).hd=(ent gs p x).hd):∃ m k k',ent fs o x=.told m k∧ent gs p x=.told m k':=by
 have key:∀ (fs gs:Fs) (o p:Bool),x∈fs.names→(ent fs o x).hd=(ent gs p x).hd→∃ m k k',ent fs o x=.told m k∧ent gs p x=.told m k':=fun fs gs o p hx h=>by
  obtain ⟨m,k,e,_⟩:=Zhn (o:=o) hx
  rw [e] at h ⊢
  obtain ⟨n1,n2,_⟩:=ZbC m
  cases e':ent gs p x with
  | free=>rw [e'] at h;exact absurd h n1
  | nope=>rw [e'] at h;exact absurd h n2
  | told m' k' =>
   rw [e'] at h
   have:m=m':=ZlQ h
   subst this
   exact ⟨m,k,k',rfl,rfl⟩
 rcases hx with hx | hx
 ·exact key fs gs o p hx h
 ·obtain ⟨m,k,k',e1,e2⟩:=key gs fs p o hx h.symm
  exact ⟨m,k',k,e2,e1⟩
theorem ZqB {G:Hw} {f:Kd→Kd→Kd} {fs gs:Fs} {o p:Bool}:∀ (xs:List Str),(∀ x∈xs,∀ m k,jE f (ent fs o x) (ent gs p x)=some (m,k)→k.dp≤20) →
  ZtL (.tup [.str "free"]) (xs.map fun x=>(enJ (jE f (ent fs o x) (ent gs p x))).enc)=some (xs.any fun x=>(jE f (ent fs o x) (ent gs p x)).isNone)
 | [],_=>rfl
 | x::xs,h=>by
  have ih:=ZqB (G:=G) xs fun y hy=>h y (List.mem_cons_of_mem _ hy)
  rw [List.map_cons,List.any_cons]
  unfold ZtL
  cases e:jE f (ent fs o x) (ent gs p x) with
  | none =>
   have e1:eqD (enJ none).enc (.tup [.str "free"])=some true:=by
    show some (("free":Str)=="free"&&true)=some true
    simp
   rw [if_pos (by decide),e1,ih];rfl
  | some u =>
   obtain ⟨m,k⟩:=u
   have hd:=h x List.mem_cons_self m k e
   have h3:=Zjq k
   have e1:eqD (enJ (some (m,k))).enc (.tup [.str "free"])=some false:=by
    show (match some (mark m=="free"),some false with | some a,some b=>some (a&&b) | _,_=>none)=some false
    simp
   have h4:dpW (enJ (some (m,k))).enc < 90:=by show max 0 (max (dpW k.enc) 0)+1 < 90;omega
   rw [if_pos h4,e1,ih];rfl
abbrev ZBe (n:Nat):Spw:=spR (fun (x:Fs×Bool×Fs×Bool) ws _=>ws=[(Kd.row x.1 x.2.1).enc,(Kd.row x.2.2.1 x.2.2.2).enc]∧wf (.row x.1 x.2.1)∧wf (.row x.2.2.1 x.2.2.2)∧(Kd.row x.1 x.2.1).dp≤n+1) fun x=>(ZaZ (n+1) (.row x.1 x.2.1) (.row x.2.2.1 x.2.2.2)).enc
theorem Zc6 (T:Tx K mg base a) {j n:Nat} (hj:2≤j) (hn:n≤19) (D:Df P w K mg base "join_of_entries" j 2 (ZA3 n)):Df P w K mg base "join_of_rows" (j+1) 2 (ZBe n):=by
 refine mk0 T.Zkx rfl Zd2 ZbK (fun ws G Q E ⟨x,⟨e,_⟩,_⟩=>by rw [e];rfl) (Zkw T (Zap T) hj (ZaH T) (by omega) D (Nat.le_refl _) (ZdR T) (by omega)) fun ws G Q E hC q=>?_
 obtain ⟨⟨fs,o,gs,p⟩,⟨rfl,w1,w2,hd⟩,q⟩:=q
 dsimp only at w1 w2 hd q
 unfold Zgw
 show Zat (Za9 2 _) _ (ZaE Q) [some (Kd.row fs o).enc,some (Kd.row gs p).enc,none,none] G
 simp only [Zat,Za9,Zae,Zab,L3.Zaa,L3.Zaj,List.getElem?_cons_zero,List.getElem?_cons_succ,List.set_cons_zero,List.set_cons_succ]
 refine ⟨fs,gs,o,p,rfl,ZiP w1,ZiP w2,fun zs r z1 z2 z3 z4=>?_⟩
 have hz:=ZlD z1 z2 z3
 have hzl:zs.length≤10:=by rw [hz];exact ZiR w1 w2
 have hkd:∀ x m k,jE (ZaZ n) (ent fs o x) (ent gs p x)=some (m,k)→k.dp≤20:=fun x m k e=>by
  obtain ⟨k1,k2,e1,e2,rfl⟩:=Zjm e
  have h1:k1∈(Kd.row fs o).kids:=(Zcg (ZcC.mp e1)).1
  have h2:k2∈(Kd.row gs p).kids:=(Zcg (ZcC.mp e2)).1
  have:=ZgD n k1 k2
  have:=Zar h1
  omega
 simp only [Zbj,Zbl,Zab,List.getElem?_cons_zero,List.getElem?_cons_succ,ZhN,List.map_cons,List.map_nil,List.replicate,List.cons_append,List.nil_append,Zad]
 refine Zrl (enc:=W.str) (f:=fun x=>(enJ (jE (ZaZ n) (ent fs o x) (ent gs p x))).enc) (cst:=[some (Kd.row fs o).enc,some (Kd.row gs p).enc]) Zad zs none [] (fun x hx Q' q'=>?_) (by simp only [List.length_nil];exact Zbh (by omega)) fun r2 hr2=>?_
 ·show Zae _ _ _ [some (.str x),some (Kd.row fs o).enc,some (Kd.row gs p).enc] _ Q'
  walk_at "rd"
  refine ⟨(fs,o,x),rfl,(gs,p,x),rfl,(ent fs o x,ent gs p x),⟨rfl,ZtX ((z3 x).mp hx),fun m k m' k' e1 e2=>?_⟩,q'⟩
  have k1:=Zbt e1
  have k2:=Zbt e2
  have hk:=Zar (k:=.row fs o) (c:=k) k1
  exact ⟨Zax w1 k1,Zax w2 k2,by omega⟩
 ·rw [List.nil_append]
  have nrr:r≠r2:=ZaP Zad hr2
  have g1:put (put G r (.lst (zs.map W.str))) r2 (.lst (zs.map fun x=>(enJ (jE (ZaZ n) (ent fs o x) (ent gs p x))).enc)) r=some (.lst (zs.map W.str)):=by rw [Zao nrr];exact Zad
  have hsub:Sub G (put (put G r (.lst (zs.map W.str))) r2 (.lst (zs.map fun x=>(enJ (jE (ZaZ n) (ent fs o x) (ent gs p x))).enc))):=ZcK (Za0 z4) hr2
  have fin:∀ b:Bool,b=(o||p||jN (ZaZ n) fs gs o p)→Zrq [.ref r,.ref r2,.bl b] (put (put G r (.lst (zs.map W.str))) r2 (.lst (zs.map fun x=>(enJ (jE (ZaZ n) (ent fs o x) (ent gs p x))).enc))) Q (fun _ _=>False):=fun b hb=>by
   have ep:Zqa (zs.map fun x=>(x,jE (ZaZ n) (ent fs o x) (ent gs p x)))=jL (ZaZ n) fs gs o p:=by rw [Zt6,hz];rfl
   refine ⟨(zs.map fun x=>(x,jE (ZaZ n) (ent fs o x) (ent gs p x)),r,r2,b),⟨rfl,?_,?_,?_,?_⟩,?_⟩
   ·dsimp only;rw [g1,List.map_map];rfl
   ·dsimp only;rw [Zad,List.map_map];rfl
   ·dsimp only;rw [List.length_map];omega
   ·intro u hu m k e
    obtain ⟨x,_,rfl⟩:=List.mem_map.mp hu
    exact hkd x m k e
   ·dsimp only
    rw [ep,hb]
    exact hC _ _ _ hsub q
  have ea:(Kd.row fs o).enc=.tup [.str "row",.tup fs.enc,.bl o]:=rfl
  have eb:(Kd.row gs p).enc=.tup [.str "row",.tup gs.enc,.bl p]:=rfl
  have ei:inT (.tup [.str "free"]) (.ref r2) (put (put G r (.lst (zs.map W.str))) r2 (.lst (zs.map fun x=>(enJ (jE (ZaZ n) (ent fs o x) (ent gs p x))).enc)))=some (.bl (jN (ZaZ n) fs gs o p)):=by
   unfold inT
   rw [Ziq Zad,Option.bind_some,ZqB (G:=G) zs fun x _=>hkd x,Option.map_some]
   unfold jN;rw [hz]
  simp only [Zay,Zae,L3.Zaa,L3.Zaj,Zab,ZiJ,Zai,Zak,gC,L3.ZaQ,ea,eb,ixW,Zcz,List.getElem?_cons_zero,List.getElem?_cons_succ,List.set_cons_zero,List.set_cons_succ,Zac,Ze0,ZaE]
  cases o with
  | true=>exact fin true (by simp)
  | false =>
   cases p with
   | true=>exact fin true (by simp)
   | false =>
    refine ⟨(show 1≤sizeLine by decide),?_⟩
    rw [ei]
    exact fin _ (by simp)
abbrev gJ (sp:Spw):GE:=Zai ZgY (L3.ZaQ (L3.Zaa (Zai (Zak ixW) (Zab 0) (gC (.int 0))) L3.Zaj)) (gB (rF ZhY) (L3.Zaa (Zcy (ZfQ (L3.Zaa (Zji (Zab 0) (Zco (gC (.int 1))) ZaO) (L3.Zaa (Zji (Zab 1) (Zco (gC (.int 1))) ZaO) L3.Zaj))) 2 (ZjU 0 1) Zhg (Zae sp XF (L3.Zaa (Zab 0) (L3.Zaa (Zab 1) L3.Zaj)))) L3.Zaj))
theorem Zqp {n:Nat} {xs ys:List Kd} {s t:Str} {ω:Sw} {G:Hw} {Q:Kw} (h0:ω[0]?=some (some (.tup (.str s::xs.map Kd.enc)))) (h1:ω[1]?=some (some (.tup (.str t::ys.map Kd.enc)))) (hC:Kw.C Q) (hl:xs.length+ys.length≤100) (hx:∀ p∈xs.zip ys,wf p.1∧wf p.2∧p.1.dp≤n)
  (q:Q (.tup (.str s::(xs.zip ys).map fun p=>(ZaZ n p.1 p.2).enc)) G):gJ (ZoH n) ω G Q:=by
 unfold gJ
 simp only [Zai,L3.ZaQ,L3.Zaa,L3.Zaj,Zab,h0,h1,gC,Zak,ixW,ZcZ,Zac,gB,Zcy,ZfQ,Zji,Zco,ZaO,slA,Zmc,List.drop_succ_cons,List.drop_zero]
 refine ⟨(show 1≤sizeLine by decide),_,_,rfl,?_⟩
 rw [Zha,List.zip_map,List.map_map]
 have e3:((fun x:W×W=>W.tup [x.1,x.2])∘Prod.map Kd.enc Kd.enc)=fun x:Kd×Kd=>W.tup [x.1.enc,x.2.enc]:=rfl
 rw [e3]
 have hz:=List.length_zip (l₁:=xs) (l₂:=ys)
 refine Zqk (e1:=fun x:Kd×Kd=>x.1.enc) (e2:=fun x=>x.2.enc) (f:=fun p=>(ZaZ n p.1 p.2).enc) trivial (xs.zip ys) none none [] (fun x hx' Q' q'=>?_) (by simp only [List.length_nil];exact Zbh (by omega)) fun p hp=>?_
 ·show Zae _ _ _ [some x.1.enc,some x.2.enc] G Q'
  walk_at "rd"
  exact ⟨x,⟨rfl,hx x hx'⟩,q'⟩
 rw [List.nil_append]
 simp only [rF,ZhY,ZhK Zad,Option.map_some,Zac]
 rw [Zbk]
 exact ⟨by simp only [List.length_cons,List.length_nil,List.length_map];exact Zbh (by omega),hC _ _ _ (Za0 hp) q⟩
theorem ZwH {k l:Kd} (h:k.hd≠l.hd) (n:Nat):ZaZ (n+1) k l=.any:=by
 cases k <;> cases l <;> first | rfl | exact absurd rfl h
theorem ZzY {n:Nat} {k l:Kd} {ω:Sw} {G:Hw} {Q:Kw} (h0:ω[0]?=some (some k.enc)) (h1:ω[1]?=some (some l.enc)) (hh:k.hd=l.hd) (hr:¬ k.hd="row") (hC:Kw.C Q) (w1:wf k) (w2:wf l) (hd:k.dp≤n+1) (q:Q (ZaZ (n+1) k l).enc G):gJ (ZoH n) ω G Q:=by
 cases k <;> cases l <;> first | exact absurd hh (by simp only [Kd.hd];decide) | exact absurd rfl hr | skip
 ·exact Zqp (xs:=[]) (ys:=[]) (s:="any") (t:="any") h0 h1 hC (by decide) (fun p hp=>by cases hp) q
 ·exact Zqp (xs:=[]) (ys:=[]) (s:="num") (t:="num") h0 h1 hC (by decide) (fun p hp=>by cases hp) q
 ·exact Zqp (xs:=[]) (ys:=[]) (s:="truth") (t:="truth") h0 h1 hC (by decide) (fun p hp=>by cases hp) q
 ·rename_i a1 a2 b1 b2
  walk_at "po"
  walk_at "pp"
  refine Zqp (xs:=[a1,a2]) (ys:=[b1,b2]) (s:="to") (t:="to") h0 h1 hC (by simp) (fun p hp=>?_) q
  simp only [List.zip_cons_cons,List.zip_nil_right,List.mem_cons,List.not_mem_nil,or_false] at hp
  rcases hp with rfl | rfl
  ·exact ⟨Zax w1 (by simp [Kd.kids]),Zax w2 (by simp [Kd.kids]),by dsimp only;omega⟩
  ·exact ⟨Zax w1 (by simp [Kd.kids]),Zax w2 (by simp [Kd.kids]),by dsimp only;omega⟩
 ·rename_i a1 b1
  walk_at "pr"
  refine Zqp (xs:=[a1]) (ys:=[b1]) (s:="box") (t:="box") h0 h1 hC (by simp) (fun p hp=>?_) q
  simp only [List.zip_cons_cons,List.zip_nil_right,List.mem_cons,List.not_mem_nil,or_false] at hp
  subst hp
  exact ⟨Zax w1 (by simp [Kd.kids]),Zax w2 (by simp [Kd.kids]),by dsimp only;omega⟩
theorem Zb2 (T:Tx K mg base a):∀ n:Nat,n≤20→Df P w K mg base "join_of" (3*n+2) 2 (ZoH n)
 | 0,_=>ZlL T.ZmU ZbK fun ws G Q E ⟨x,⟨_,_,_,h⟩,_⟩=>by have:=ZbX x.1;omega
 | n+1,hn=>by
  have D:=Zb2 T n (by omega)
  have DE:=Zb6 T D
  have DR:=Zc6 T (by omega) (by omega) DE
  refine mk0 (k:=3*n+4) T.ZmU rfl ZnA ZbK (fun ws G Q E ⟨x,⟨e,_⟩,_⟩=>by rw [e];rfl) (Zsm T DR (Nat.le_refl _) D (by omega)) fun ws G Q E hC q=>?_
  obtain ⟨⟨k,l⟩,⟨rfl,w1,w2,hd⟩,q⟩:=q
  dsimp only at w1 w2 hd q
  unfold Znj
  show Zat (gIf _ _ Zam) _ (ZaE Q) [some k.enc,some l.enc] G
  refine ZfJ rfl rfl (Zbv k G) (Zbv l G) ?_
  by_cases hh:k.hd=l.hd
  ·rw [if_pos hh]
   refine Zg8 (k:=k) rfl ?_
   by_cases hr:k.hd="row"
   ·rw [if_pos hr]
    obtain ⟨fs,o,rfl⟩:=Zf4 hr
    obtain ⟨gs,p,rfl⟩:=Zf4 (hh▸hr)
    exact ⟨(fs,o,gs,p),⟨rfl,w1,w2,hd⟩,q⟩
   ·rw [if_neg hr]
    exact ZzY rfl rfl hh hr hC w1 w2 hd q
  ·rw [if_neg hh]
   rw [ZwH hh] at q
   exact ⟨by decide,q⟩
theorem Zz9 (m m':Bool):(mark m==mark m')=(m==m'):=by cases m <;> cases m' <;> decide +kernel
theorem Zwh (m:Bool):(mark m=="must")=m:=by cases m <;> decide +kernel
theorem Zwx {f:Kd→Kd→Kd} {e e':En} (hf:e.hd="free"∨e'.hd="free"):eE f e e'=none:=by
 cases e with
 | free=>rfl
 | nope =>
  cases e' with
  | free=>rfl
  | nope=>rfl
  | told m k=>exact absurd (hf.resolve_left (by decide)) (ZbC m).1
 | told m k =>
  cases e' with
  | free=>rfl
  | nope=>exact absurd (hf.resolve_right (by decide)) (ZbC m).1
  | told m' k'=>exact absurd hf (fun z=>z.elim (ZbC m).1 (ZbC m').1)
def tld (e:En):Prop:=∃ m k,e=.told m k
abbrev ZAz (n:Nat):Spw:=spR (fun (x:Kd×Kd) ws _=>ws=[x.1.enc,x.2.enc]∧wf x.1∧wf x.2∧x.1.dp≤n∧x.2.dp≤n) fun x=>(ZbH n x.1 x.2).enc
abbrev ZAV (n:Nat):Spw:=spR (fun (x:En×En) ws _=>ws=[x.1.enc,x.2.enc]∧(tld x.1∨tld x.2)∧∀ m k m' k',x.1=.told m k→x.2=.told m' k'→wf k∧wf k'∧k.dp≤n∧k'.dp≤n) fun x=>(enJ (eE (ZbH n) x.1 x.2)).enc
theorem ZbF (T:Tx K mg base a) {j n:Nat} (D:Df P w K mg base "either_of" j 2 (ZAz n)):Df P w K mg base "either_of_entries" (j+1) 2 (ZAV n):=by
 refine mk0 T.ZgM rfl ZdF ZbK (fun ws G Q E ⟨x,⟨e,_⟩,_⟩=>by rw [e];rfl) (ZgN T D (Nat.le_refl _)) fun ws G Q E hC q=>?_
 obtain ⟨⟨e,e'⟩,⟨rfl,ht,h⟩,q⟩:=q
 dsimp only at ht h q
 unfold ZdE
 show Zat (gIf _ _ Zam) _ (ZaE Q) [some e.enc,some e'.enc,none] G
 refine Zg5 rfl rfl (ZdH e G) (ZdH e' G) ?_
 by_cases hf:e.hd="free"∨e'.hd="free"
 ·rw [if_pos hf]
  rw [Zwx hf] at q
  exact ⟨by decide,q⟩
 ·rw [if_neg hf]
  refine ZoA (i:=0) rfl (ZdH e G) ?_
  cases e with
  | free=>exact absurd (.inl rfl) hf
  | nope =>
   rw [if_pos (show En.nope.hd="none" from rfl)]
   cases e' with
   | free=>exact absurd (.inr rfl) hf
   | nope=>exact absurd ht (by rintro (⟨m,k,z⟩ | ⟨m,k,z⟩) <;> cases z)
   | told m' k' =>
    simp only [L3.ZaQ,L3.Zaa,L3.Zaj,Zai,Zak,Zab,gC,En.enc,List.getElem?_cons_zero,List.getElem?_cons_succ,ixW,ZbV,Zac]
    exact ⟨(show 2≤sizeLine by decide),q⟩
  | told m k =>
   rw [if_neg (show ¬ (En.told m k).hd="none" from (ZbC m).2.1)]
   refine ZoA (i:=1) rfl (ZdH e' G) ?_
   cases e' with
   | free=>exact absurd (.inr rfl) hf
   | nope =>
    rw [if_pos (show En.nope.hd="none" from rfl)]
    simp only [L3.ZaQ,L3.Zaa,L3.Zaj,Zai,Zak,Zab,gC,En.enc,List.getElem?_cons_zero,List.getElem?_cons_succ,ixW,ZbV,Zac]
    exact ⟨(show 2≤sizeLine by decide),q⟩
   | told m' k' =>
    rw [if_neg (show ¬ (En.told m' k').hd="none" from (ZbC m').2.1)]
    obtain ⟨w1,w2,d1,d2⟩:=h m k m' k' rfl rfl
    have q':Q (.tup [.str (mark (m&&m')),(ZbH n k k').enc]) G:=q
    simp only [Zat,Za9,ZhG,gTB,ZbS,Zai,Zak,Zab,gC,En.enc,List.getElem?_cons_zero,List.getElem?_cons_succ,ixW,ZcZ,Zac,eqF,eqW,Option.map_some,Zz9,Zwh]
    have fin:∀ r:Bool,r=(m&&m')→Zay (L3.ZaQ (L3.Zaa (Zab 2) (L3.Zaa (Zae (ZAz n) XF (L3.Zaa (Zai (Zak ixW) (Zab 0) (gC (.int 1))) (L3.Zaa (Zai (Zak ixW) (Zab 1) (gC (.int 1))) L3.Zaj))) L3.Zaj))) (ZaE Q) [some (.tup [.str (mark m),k.enc]),some (.tup [.str (mark m'),k'.enc]),some (.str (mark r))] G:=fun r hr=>by
     subst hr
     simp only [Zay,L3.ZaQ,Zae,L3.Zaa,L3.Zaj,Zai,Zak,Zab,gC,List.getElem?_cons_zero,List.getElem?_cons_succ,ixW,ZbV,Zac]
     exact ⟨(k,k'),⟨rfl,w1,w2,d1,d2⟩,(show 2≤sizeLine by decide),q'⟩
    cases m <;> cases m'
    ·exact fin false rfl
    ·exact fin false rfl
    ·exact fin false rfl
    ·exact fin true rfl
theorem ZsC (f:Kd→Kd→Kd) (fs gs:Fs) (o p:Bool) (xs:List Str):Zqa (xs.map fun x=>(x,eE f (ent fs o x) (ent gs p x)))=xs.filterMap (eF f fs gs o p):=by
 unfold Zqa
 rw [List.filterMap_map];rfl
theorem Zwe {fs gs:Fs} {o p:Bool} {x:Str} (hx:x∈fs.names∨x∈gs.names):tld (ent fs o x)∨tld (ent gs p x):=by
 rcases hx with hx | hx
 ·obtain ⟨m,k,e,_⟩:=Zhn (o:=o) hx
  exact .inl ⟨m,k,e⟩
 ·obtain ⟨m,k,e,_⟩:=Zhn (o:=p) hx
  exact .inr ⟨m,k,e⟩
abbrev ZBt (n:Nat):Spw:=spR (fun (x:Fs×Bool×Fs×Bool) ws _=>ws=[(Kd.row x.1 x.2.1).enc,(Kd.row x.2.2.1 x.2.2.2).enc]∧wf (.row x.1 x.2.1)∧wf (.row x.2.2.1 x.2.2.2)∧(Kd.row x.1 x.2.1).dp≤n+1∧(Kd.row x.2.2.1 x.2.2.2).dp≤n+1) fun x=>(ZbH (n+1) (.row x.1 x.2.1) (.row x.2.2.1 x.2.2.2)).enc
theorem ZzS {n:Nat} {fs gs:Fs} {o p:Bool} (hd:(Kd.row fs o).dp≤n+1) (hd':(Kd.row gs p).dp≤n+1) {x:Str} {m:Bool} {k:Kd} (e:eE (ZbH n) (ent fs o x) (ent gs p x)=some (m,k)):k.dp≤n:=by
 rcases ZlU e with ⟨m',e | e⟩ | ⟨m1,k1,m2,k2,e1,e2,rfl⟩
 ·have:=Zar (k:=.row fs o) (Zbt e);omega
 ·have:=Zar (k:=.row gs p) (Zbt e);omega
 ·have h1:=Zar (k:=.row fs o) (Zbt e1)
  have h2:=Zar (k:=.row gs p) (Zbt e2)
  have h3:=ZlB n k1 k2
  omega
theorem Zck (T:Tx K mg base a) {j n:Nat} (hj:2≤j) (hn:n≤19) (D:Df P w K mg base "either_of_entries" j 2 (ZAV n)):Df P w K mg base "either_of_rows" (j+1) 2 (ZBt n):=by
 refine mk0 T.ZiM rfl Zdk ZbK (fun ws G Q E ⟨x,⟨e,_⟩,_⟩=>by rw [e];rfl) (ZiN T (Zap T) hj (ZaH T) (by omega) D (Nat.le_refl _) (ZdR T) (by omega)) fun ws G Q E hC q=>?_
 obtain ⟨⟨fs,o,gs,p⟩,⟨rfl,w1,w2,hd,hd'⟩,q⟩:=q
 dsimp only at w1 w2 hd hd' q
 unfold ZeX
 show Zat (Za9 2 _) _ (ZaE Q) [some (Kd.row fs o).enc,some (Kd.row gs p).enc,none,none] G
 simp only [Zat,Za9,Zae,Zab,L3.Zaa,L3.Zaj,List.getElem?_cons_zero,List.getElem?_cons_succ,List.set_cons_zero,List.set_cons_succ]
 refine ⟨fs,gs,o,p,rfl,ZiP w1,ZiP w2,fun zs r z1 z2 z3 z4=>?_⟩
 have hz:=ZlD z1 z2 z3
 have hzl:zs.length≤10:=by rw [hz];exact ZiR w1 w2
 simp only [Zbj,Zbl,Zab,List.getElem?_cons_zero,List.getElem?_cons_succ,ZhN,List.map_cons,List.map_nil,List.replicate,List.cons_append,List.nil_append,Zad]
 refine Zrl (enc:=W.str) (f:=fun x=>(enJ (eE (ZbH n) (ent fs o x) (ent gs p x))).enc) (cst:=[some (Kd.row fs o).enc,some (Kd.row gs p).enc]) Zad zs none [] (fun x hx Q' q'=>?_) (by simp only [List.length_nil];exact Zbh (by omega)) fun r2 hr2=>?_
 ·show Zae _ _ _ [some (.str x),some (Kd.row fs o).enc,some (Kd.row gs p).enc] _ Q'
  walk_at "rd"
  refine ⟨(fs,o,x),rfl,(gs,p,x),rfl,(ent fs o x,ent gs p x),⟨rfl,Zwe ((z3 x).mp hx),fun m k m' k' e1 e2=>?_⟩,q'⟩
  have k1:=Zbt e1
  have k2:=Zbt e2
  have hk:=Zar (k:=.row fs o) (c:=k) k1
  have hk':=Zar (k:=.row gs p) (c:=k') k2
  exact ⟨Zax w1 k1,Zax w2 k2,by omega,by omega⟩
 ·rw [List.nil_append]
  have nrr:r≠r2:=ZaP Zad hr2
  have g1:put (put G r (.lst (zs.map W.str))) r2 (.lst (zs.map fun x=>(enJ (eE (ZbH n) (ent fs o x) (ent gs p x))).enc)) r=some (.lst (zs.map W.str)):=by rw [Zao nrr];exact Zad
  have hsub:Sub G (put (put G r (.lst (zs.map W.str))) r2 (.lst (zs.map fun x=>(enJ (eE (ZbH n) (ent fs o x) (ent gs p x))).enc))):=ZcK (Za0 z4) hr2
  have fin:∀ b:Bool,b=(o||p)→Zrq [.ref r,.ref r2,.bl b] (put (put G r (.lst (zs.map W.str))) r2 (.lst (zs.map fun x=>(enJ (eE (ZbH n) (ent fs o x) (ent gs p x))).enc))) Q (fun _ _=>False):=fun b hb=>by
   have ep:Zqa (zs.map fun x=>(x,eE (ZbH n) (ent fs o x) (ent gs p x)))=eL (ZbH n) fs gs o p:=by rw [ZsC,hz];rfl
   refine ⟨(zs.map fun x=>(x,eE (ZbH n) (ent fs o x) (ent gs p x)),r,r2,b),⟨rfl,?_,?_,?_,?_⟩,?_⟩
   ·dsimp only;rw [g1,List.map_map];rfl
   ·dsimp only;rw [Zad,List.map_map];rfl
   ·dsimp only;rw [List.length_map];omega
   ·intro u hu m k e
    obtain ⟨x,_,rfl⟩:=List.mem_map.mp hu
    exact Nat.le_trans (ZzS hd hd' e) (by omega)
   ·dsimp only
    rw [ep,hb]
    exact hC _ _ _ hsub q
  have ea:(Kd.row fs o).enc=.tup [.str "row",.tup fs.enc,.bl o]:=rfl
  have eb:(Kd.row gs p).enc=.tup [.str "row",.tup gs.enc,.bl p]:=rfl
  simp only [Zay,Zae,L3.Zaa,L3.Zaj,Zab,ZiJ,Zai,Zak,gC,ea,eb,ixW,Zcz,List.getElem?_cons_zero,List.getElem?_cons_succ,List.set_cons_zero,List.set_cons_succ,Zac,ZaE]
  cases o with
  | true=>exact fin true (by simp)
  | false =>
   cases p with
   | true=>exact fin true (by simp)
   | false=>exact fin false (by simp)
theorem Zwz {k l:Kd} (h:k.hd≠l.hd) (n:Nat):ZbH (n+1) k l=.any:=by
 cases k <;> cases l <;> first | rfl | exact absurd rfl h
theorem Zbe (T:Tx K mg base a):∀ n:Nat,n≤20→Df P w K mg base "either_of" (3*n+2) 2 (ZAz n)
 | 0,_=>ZlL T.Zj3 ZbK fun ws G Q E ⟨x,⟨_,_,_,h,_⟩,_⟩=>by have:=ZbX x.1;omega
 | n+1,hn=>by
  have D:=Zbe T n (by omega)
  have DE:=ZbF T D
  have DR:=Zck T (by omega) (by omega) DE
  refine mk0 (k:=3*n+4) T.Zj3 rfl Zjg ZbK (fun ws G Q E ⟨x,⟨e,_⟩,_⟩=>by rw [e];rfl) (Zol T (Zb2 T n (by omega)) (by omega) D (by omega) DR (Nat.le_refl _)) fun ws G Q E hC q=>?_
  obtain ⟨⟨k,l⟩,⟨rfl,w1,w2,hd,hd'⟩,q⟩:=q
  dsimp only at w1 w2 hd hd' q
  unfold Zjr
  show Zat (gIf _ _ Zam) _ (ZaE Q) [some k.enc,some l.enc] G
  refine ZfJ rfl rfl (Zbv k G) (Zbv l G) ?_
  by_cases hh:k.hd=l.hd
  ·rw [if_pos hh]
   refine Zjc (k:=k) rfl ?_
   by_cases ht:k.hd="to"
   ·rw [if_pos ht]
    cases k <;> cases l <;> first | exact absurd ht (by simp only [Kd.hd];decide) | exact absurd hh (by simp only [Kd.hd];decide) | skip
    rename_i a1 a2 b1 b2
    walk_at "po"
    walk_at "pp"
    have d4:=Zar (k:=.to b1 b2) (c:=b2) (by simp [Kd.kids])
    walk_at "pj"
    exact ⟨(a1,b1),⟨rfl,Zax w1 (by simp [Kd.kids]),Zax w2 (by simp [Kd.kids]),by dsimp only;omega⟩,(a2,b2),⟨rfl,Zax w1 (by simp [Kd.kids]),Zax w2 (by simp [Kd.kids]),by dsimp only;omega,by dsimp only;omega⟩,(show 3≤sizeLine by decide),q⟩
   ·rw [if_neg ht]
    refine Zjc (k:=k) rfl ?_
    by_cases hb:k.hd="box"
    ·rw [if_pos hb]
     cases k <;> cases l <;> first | exact absurd hb (by simp only [Kd.hd];decide) | exact absurd hh (by simp only [Kd.hd];decide) | skip
     rename_i a1 b1
     walk_at "pr"
     walk_at "pl"
     exact ⟨(a1,b1),⟨rfl,Zax w1 (by simp [Kd.kids]),Zax w2 (by simp [Kd.kids]),by dsimp only;omega⟩,(show 2≤sizeLine by decide),q⟩
    ·rw [if_neg hb]
     refine Zg8 (k:=k) rfl ?_
     by_cases hr:k.hd="row"
     ·rw [if_pos hr]
      obtain ⟨fs,o,rfl⟩:=Zf4 hr
      obtain ⟨gs,p,rfl⟩:=Zf4 (hh▸hr)
      exact ⟨(fs,o,gs,p),⟨rfl,w1,w2,hd,hd'⟩,q⟩
     ·rw [if_neg hr]
      cases k <;> cases l <;> first | exact absurd hh (by simp only [Kd.hd];decide) | exact absurd rfl hr | exact absurd rfl hb | exact absurd rfl ht | exact q
  ·rw [if_neg hh]
   rw [Zwz hh] at q
   exact ⟨by decide,q⟩
abbrev ZBj:Spw:=spR (fun (x:Kd×Kd) ws _=>ws=[x.1.enc,x.2.enc]∧kd8 x.1∧kd8 x.2) fun x=>(ZbH 8 x.1 x.2).enc
theorem Zi8 (T:Tx K mg base a):Df P w K mg base "either" 27 2 ZBj:=by
 refine mk0 T.Zs6 rfl ZoM ZbK (fun ws G Q E ⟨x,⟨e,_⟩,_⟩=>by rw [e];rfl) (Ztk T (ZaN T) (by omega) (Zbe T 8 (by omega)) (Nat.le_refl _)) fun ws G Q E hC q=>?_
 obtain ⟨⟨k,l⟩,⟨rfl,h1,h2⟩,q⟩:=q
 dsimp only at h1 h2 q
 unfold Zpb
 walk_at "rd"
 exact ⟨(k,l),⟨rfl,⟨h1.1.1,Zox h1⟩,⟨h2.1.1,Zox h2⟩⟩,(k,l),⟨rfl,h1.1,h2.1,h1.2.2,h2.2.2⟩,q⟩
abbrev ZjX:List Str:=["kind","good"]
theorem Zjx:Zau ZjX ["kind"] (Zag ZgU):=by walk_at "s"
def ZjT (K:PySem.W.Frag) (a:Adr) (ZeN:Spw):GS:=(Zat (Za9 1 (gC (.bl true))) (Zat (ZvT K a.NoKind (fun ex=>(Zbs (Zae ZeN ex (Zaa (Zab 0) Zaj)))) (Za9 1 (gC (.bl false)))) (Zay (Zab 1))))
theorem Zoo {k:Nat} (T:Tx K mg base a) {ZfO:Nat} {ZeN:Spw} (ZpK:Df P w K mg base "parts_in" ZfO 1 ZeN) (Zp8:ZfO≤k):Dn P w K mg base ZjX "_law_fits" ZgU k (ZjT K a ZeN):=fun {f cdv A outer s H E} hr =>
 have hu:=Zg2 hr
 have hN:=Zjx.nd
 (Zaq (by walk_at "v") (Zaq (ZvG T.Zma T.ZfB T.ZfA T.ZfL rfl rfl rfl rfl rfl (fun ex pn xe hp=>(Za4 (ZcW rfl (Zca ZpK (hr.mono Zp8) rfl hp rfl rfl rfl (by walk_at "v"))))) (fun e=>(by walk_at "v"))) (by walk_at "v")))
abbrev Zyz:List Str:=["script","one","other","state","both","less","wide"]
theorem Zx7:Zau Zyz ["script"] (Zag ZpQ):=by walk_at "s"
def Zxl (ZdU:Spw) (ZaG:Spw) (Zdg:Spw) (Zcv:Spw) (Ze4:Spw) (ZaA:Spw) (Zdt:Spw):GS:=(Zat (Zz6 (ZjU 1 2) (Zae ZdU XF (Zaa (Zab 0) (Zaa (gC (.int 0)) (Zaa (gC (.bl false)) Zaj))))) (Zat (Za9 3 (Zae ZaG XF (Zaa (Zab 0) (Zaa (gC (.int 4)) Zaj)))) (Zat (Za9 4 (Zae Zdg XF (Zaa (Zab 1) (Zaa (Zab 2) Zaj)))) (Zat (gIf (ZeU (Zdi (Zae Zcv XF (Zaa (Zab 4) Zaj))) (gOr (gNt (Zdi (Zae Ze4 XF (Zaa (Zab 1) (Zaa (Zab 4) Zaj))))) (gNt (Zdi (Zae Ze4 XF (Zaa (Zab 2) (Zaa (Zab 4) Zaj))))))) (Zay (gC (.bl false))) Zam) (Zat (Za9 5 (Zae ZaA XF (Zaa (Zab 3) (Zaa (Zab 1) Zaj)))) (Zat (Za9 6 (Zae Zdg XF (Zaa (Zab 5) (Zaa (Zab 2) Zaj)))) (Zat (gIf (ZeU (Zdi (Zae Zcv XF (Zaa (Zab 4) Zaj))) (ZeU (Zdi (Zae Zcv XF (Zaa (Zab 6) Zaj))) (gNt (Zdi (Zae Zdt XF (Zaa (Zab 6) (Zaa (Zab 4) Zaj))))))) (Zay (gC (.bl false))) Zam) (Zat (gIf (gOr (gTB (Zai (Zak (eqF true)) (Zae Zdg XF (Zaa (Zab 1) (Zaa (Zab 1) Zaj))) (Zab 1))) (gTB (Zai (Zak (eqF true)) (Zae Zdg XF (Zaa (Zab 1) (Zaa (ZaQ (Zaa (gC (.str "any")) Zaj)) Zaj))) (ZaQ (Zaa (gC (.str "any")) Zaj))))) (Zay (gC (.bl false))) Zam) (Zay (Zai (Zak (eqF false)) (Zae Zdg XF (Zaa (Zab 2) (Zaa (Zab 1) Zaj))) (Zab 4)))))))))))
theorem ZAp {k:Nat} (T:Tx K mg base a) {ZeK:Nat} {ZdU:Spw} (ZwZ:Df P w K mg base "_law_pair" ZeK 3 ZdU) (ZvQ:ZeK≤k) {ZaT:Nat} {ZaG:Spw} (Zil:Df P w K mg base "_law_state" ZaT 2 ZaG) (Zig:ZaT≤k) {Zi8:Nat} {Zdg:Spw} (Zzz:Df P w K mg base "either" Zi8 2 Zdg) (Zzs:Zi8≤k) {ZeJ:Nat} {Zcv:Spw} (Zvy:Df P w K mg base "_law_fits" ZeJ 1 Zcv) (ZwP:ZeJ≤k) {ZiT:Nat} {Ze4:Spw} (Zzv:Df P w K mg base "serves" ZiT 2 Ze4) (Zzt:ZiT≤k) {Za5:Nat} {ZaA:Spw} (Zjn:Df P w K mg base "_law_less" Za5 2 ZaA) (ZjB:Za5≤k) {ZdX:Nat} {Zdt:Spw} (Zuk:Df P w K mg base "knows_less" ZdX 2 Zdt) (Zuy:ZdX≤k) {f:Addr} {cdv:Value} {A:Around} {outer:List Env} {s:Shared} {H:Hp} {E:XK} (hr:Room k (A.deeper (envOfC "law" (Zag ZpQ) s.heap.objs.size f cdv))):Ssm (cxW P w K mg base Zyz "law" (Zag ZpQ) f cdv A outer s H E).nox (fun B=>B=H) (Zcr ZpQ) (Zxl ZdU ZaG Zdg Zcv Ze4 ZaA Zdt) :=
 have hu:=Zg2 hr
 have hN:=Zx7.nd
 (by walk_at "v")
theorem ZrB {n:Nat} {D:Ew} {p q0:Addr} {items:List W}:∀ (l:List Kd) (o:Option W) (k0:W) (G:Hw) (acc:List W),(∀ c∈l,c.dp≤n)→acc.length+ZhF l≤20000→ZhF l≤10000→p≠q0→G p=some (.lst acc)→G q0=some (.lst items) →
  (∀ ω G',(∃ o',ω=[some k0,some (.ref p),o'])→G' p=some (.lst (acc++(l.flatMap Kd.all).map Kd.enc))→(∀ b,b≠p→∀ u,G b=some u→G' b=some u)→D.nx ω G') →
  Zeh (holds q0 items) (gNm 2) (Zbs (gMt ZhP ZsF (Zab 1) (L3.Zaa (Zae (ZAT n) XF (L3.Zaa (Zab 2) L3.Zaj)) L3.Zaj))) D (l.map Kd.enc) [some k0,some (.ref p),o] G
 | [],o,k0,G,acc,_,_,_,hne,hp,hq,fin=>⟨hq,fin _ G ⟨o,rfl⟩ (by simpa using hp) fun _ _ _ h=>h⟩
 | c::l,o,k0,G,acc,hd,hl,hc,hne,hp,hq,fin=>by
  have hcc:c.cnt+ZhF l≤10000:=hc
  have hll:acc.length+(c.cnt+ZhF l)≤20000:=hl
  refine ⟨hq,?_⟩
  show Zbs _ _ [some k0,some (.ref p),some c.enc] G
  walk_at "rd"
  refine ⟨Zhz hp,c,⟨rfl,hd c List.mem_cons_self,by omega⟩,fun r hr=>?_⟩
  have hpr:=ZaP hp hr
  have hqr:=ZaP hq hr
  refine ZuG (by rw [Zao hpr];exact hp) Zad (by rw [List.length_map,Zor];exact Zbh (by omega)) ?_
  refine ZrB l (some c.enc) k0 _ (acc++c.all.map Kd.enc) (fun d hd'=>hd d (List.mem_cons_of_mem _ hd')) (by rw [List.length_append,List.length_map,Zor];omega) (by omega) hne Zad ?_ ?_
  ·rw [Zao (Ne.symm hne),Zao hqr];exact hq
  ·intro ω G' hω h1 h2
   refine fin ω G' hω (by rw [h1,List.flatMap_cons,List.map_append,List.append_assoc]) fun b hb u hu=>h2 b hb u ?_
   rw [Zao hb,Zao (ZaP hu hr)];exact hu
theorem Zcu (T:Tx K mg base a):∀ n:Nat,Df P w K mg base "kinds_in" (n+1) 1 (ZAT n)
 | 0=>by
  obtain ⟨f,fd,h1,F,h3⟩:=T.ZkF
  refine ⟨⟨f,fd,_,h1,F.kp,h3,rfl,⟨fun vs H Q E ⟨ws,G,t,r,k,⟨_,hd,_⟩,_⟩=>absurd hd (by have:=ZbX k;omega),fun A outer s H args us vs Q E _ _ _ _ ⟨ws,G,t,r,k,⟨_,hd,_⟩,_⟩=>absurd hd (by have:=ZbX k;omega)⟩⟩,Zr0⟩
 | n+1=>by
  refine mk0 T.ZkF rfl ZkJ Zr0 (fun ws G Q E ⟨x,⟨e,_⟩,_⟩=>by rw [e];rfl) (Zqc T (ZaK T) (by omega) (Zcu T n) (Nat.le_refl _)) fun ws G Q E hC q=>?_
  obtain ⟨k,⟨rfl,hd,hc⟩,q⟩:=q
  have hk:=Zhk k
  unfold Zln
  walk_at "rd"
  refine ⟨by decide,fun p hp=>?_⟩
  refine ⟨k,⟨rfl,by omega⟩,fun q0 hq0=>?_⟩
  have hne:p≠q0:=ZaP Zad hq0
  simp only [Zad]
  refine ZrB k.kids none k.enc _ [k.enc] (fun c hc=>by have:=Zar hc;omega) (by simp only [List.length_cons,List.length_nil];omega) (by omega) hne (by rw [Zao hne];exact Zad) Zad ?_
  intro ω G' hω h1 h2
  obtain ⟨o',rfl⟩:=hω
  simp only [List.getElem?_cons_zero,List.getElem?_cons_succ]
  have hs:Sub (put G p (.lst (k.all.map Kd.enc))) G':=fun b u hu=>by
   by_cases hb:b=p
   ·subst hb
    rw [Zad] at hu;cases hu
    rw [h1,Zo6,List.map_cons];rfl
   ·rw [Zao hb] at hu
    refine h2 b hb u ?_
    rw [Zao (fun z=>by subst z;rw [Zao hb] at hq0;rw [hq0] at hu;cases hu),Zao hb];exact hu
  exact hC _ _ _ hs (q p hp)
theorem ZfO (T:Tx K mg base a):Df P w K mg base "parts_in" 10 1 (spG a.NoKind fun k=>.int k.cnt):=by
 refine mkX T.ZpF rfl Zk4 ZxB ZrG (g:=fun E=>Zh2 _ _ E) (Zp9 T (ZbA T) (by omega) (Zcu T 8) (by omega)) fun ws G Q E hC hX q=>?_
 obtain ⟨k,⟨rfl,ho,hc⟩,q1,q2⟩:=q
 unfold Zh2
 walk_at "rd"
 refine ⟨k,⟨rfl,ho,hc⟩,fun hg=>?_,q2⟩
 have hg':k.cnt≤40∧k.dp≤8:=by unfold Zi1 at hg;exact of_decide_eq_true hg
 refine ⟨k,⟨rfl,hg'.2,by omega⟩,fun p hp=>?_⟩
 simp only [Zad,Zac,List.length_map,Zor]
 exact hC _ _ _ (Za0 hp) (q1 hg)
abbrev ZzC:Spw:=spR (fun (k:Kd) ws _=>ws=[k.enc]∧k.ok=true∧k.cnt≤1000) fun k=>.bl (Zi1 k)
theorem ZeJ (T:Tx K mg base a):Df P w K mg base "_law_fits" 11 1 ZzC:=by
 refine mk0 T.ZnX rfl Zjx ZbK (fun ws G Q E ⟨x,⟨e,_⟩,_⟩=>by rw [e];rfl) (Zoo T (ZfO T) (by omega)) fun ws G Q E hC q=>?_
 obtain ⟨k,⟨rfl,ho,hc⟩,q⟩:=q
 dsimp only at q
 unfold ZjT
 show Zat (Za9 1 (gC _)) (Zat (ZvT _ _ _ _) (Zay _)) (ZaE Q) [some k.enc,none] G
 simp only [Zat,Za9,gC,List.set_cons_zero,List.set_cons_succ]
 refine ⟨_,⟨fun _ _ z=>z,fun _ _ z=>z,fun _ _ z=>z,fun _ _ z=>z⟩,?_⟩
 simp only [Zbs,Zae,L3.Zaa,L3.Zaj,Zab,List.getElem?_cons_zero,List.getElem?_cons_succ]
 refine ⟨k,⟨rfl,ho,hc⟩,fun hg=>?_,fun hb=>?_⟩
 ·rw [hg] at q;exact q
 ·rw [hb] at q;exact ⟨T.Zdw,q⟩
def eN:Option (Bool×Kd)→Bool→En
 | some u,_=>.told u.1 u.2
 | none,true=>.free
 | none,false=>.nope
theorem ZqV {F:Str→Option (Bool×Kd)} {x:Str}:∀ zs:List Str,zs.Nodup→(ofL (zs.filterMap fun z=>(F z).map fun u=>(z,u.1,u.2))).find x=if x∈zs then F x else none
 | [],_=>by rw [if_neg (List.not_mem_nil)];rfl
 | z::zs,h=>by
  obtain ⟨h1,h2⟩:=List.nodup_cons.mp h
  have ih:=ZqV (F:=F) (x:=x) zs h2
  cases e:F z with
  | none =>
   rw [List.filterMap_cons_none (by rw [e];rfl),ih]
   by_cases hx:x=z
   ·subst hx;rw [if_neg h1,if_pos List.mem_cons_self,e]
   ·by_cases hz:x∈zs
    ·rw [if_pos hz,if_pos (List.mem_cons_of_mem _ hz)]
    ·rw [if_neg hz,if_neg (fun q=>(List.mem_cons.mp q).elim hx hz)]
  | some u =>
   rw [List.filterMap_cons_some (b:=(z,u.1,u.2)) (by rw [e];rfl)]
   show (if z=x then some (u.1,u.2) else Fs.find _ x)=_
   by_cases hx:z=x
   ·subst hx;rw [if_pos rfl,if_pos List.mem_cons_self,e]
   ·rw [if_neg hx,ih]
    by_cases hz:x∈zs
    ·rw [if_pos hz,if_pos (List.mem_cons_of_mem _ hz)]
    ·rw [if_neg hz,if_neg (fun q=>(List.mem_cons.mp q).elim (fun y=>hx y.symm) hz)]
theorem Zu9 {F:Str→Option (Bool×Kd)} {x:Str} {zs:List Str} (h:zs.Nodup) (o:Bool):ent (ofL (zs.filterMap fun z=>(F z).map fun u=>(z,u.1,u.2))) o x=eN (if x∈zs then F x else none) o:=by
 unfold ent
 rw [ZqV zs h]
 cases (if x∈zs then F x else none) with
 | none=>cases o <;> rfl
 | some u=>rfl
theorem Zr7 {f:Kd→Kd→Kd} {fs gs:Fs} {o p:Bool} {x:Str}:ent (ofL (eL f fs gs o p)) (o||p) x=eN (eE f (ent fs o x) (ent gs p x)) (o||p):=by
 have z:=Zu9 (F:=fun x=>eE f (ent fs o x) (ent gs p x)) (x:=x) (ZfE (Zd6 fs gs)) (o||p)
 refine Eq.trans z ?_
 by_cases hx:x∈ZhI fs gs
 ·rw [if_pos hx]
 ·rw [if_neg hx,ZeW (fun y=>hx (ZbJ.mpr (.inl y))),ZeW (fun y=>hx (ZbJ.mpr (.inr y)))]
  cases o <;> cases p <;> rfl
theorem ZuF {f:Kd→Kd→Kd} {fs gs:Fs} {o p q:Bool} {x:Str}:ent (ofL (jL f fs gs o p)) q x=eN (if x∈ZhI fs gs then jE f (ent fs o x) (ent gs p x) else none) q :=
 Zu9 (F:=fun x=>jE f (ent fs o x) (ent gs p x)) (x:=x) (ZfE (Zd6 fs gs)) q
theorem ZlJ (f:Kd→Kd→Kd) (fs gs:Fs) (o p:Bool) (x:Str):ent (ofL (jL f fs gs o p)) (o||p||jN f fs gs o p) x=.free∨((o||p||jN f fs gs o p)=false∧ent (ofL (jL f fs gs o p)) (o||p||jN f fs gs o p) x=.nope∧ent fs o x=.nope∧ent gs p x=.nope)∨∃ m k k',ent fs o x=.told m k∧ent gs p x=.told m k'∧ent (ofL (jL f fs gs o p)) (o||p||jN f fs gs o p) x=.told m (f k k'):=by
 rw [ZuF]
 by_cases hx:x∈ZhI fs gs
 ·rw [if_pos hx]
  cases e:jE f (ent fs o x) (ent gs p x) with
  | none =>
   have hn:jN f fs gs o p=true:=List.any_eq_true.mpr ⟨x,hx,by rw [e];rfl⟩
   rw [hn,Bool.or_true]
   exact .inl rfl
  | some u =>
   obtain ⟨k,k',e1,e2,e3⟩:=Zjm (m:=u.1) (j:=u.2) e
   exact .inr (.inr ⟨u.1,k,k',e1,e2,by show En.told u.1 u.2=_;rw [e3]⟩)
 ·rw [if_neg hx]
  cases q:(o||p||jN f fs gs o p) with
  | true=>exact .inl rfl
  | false =>
   simp only [Bool.or_eq_false_iff] at q
   refine .inr (.inl ⟨rfl,rfl,?_,?_⟩)
   ·rw [ZeW (fun y=>hx (ZbJ.mpr (.inl y))),q.1.1];rfl
   ·rw [ZeW (fun y=>hx (ZbJ.mpr (.inr y))),q.1.2];rfl
theorem Zwi {f:Kd→Kd→Kd} {fs gs:Fs} {o p q:Bool} {x:Str} {m:Bool} {k k':Kd} (e1:ent fs o x=.told m k) (e2:ent gs p x=.told m k'):ent (ofL (jL f fs gs o p)) q x=.told m (f k k'):=by
 rw [ZuF,if_pos (ZbJ.mpr (.inl (Zcg (ZcC.mp e1)).2)),e1,e2,ZnJ];rfl
theorem ZeB {fs:Fs} {o:Bool} {x:Str} (h:ent fs o x=.free):o=true:=by
 unfold ent at h
 cases e:fs.find x with
 | none=>rw [e] at h;cases o with | true=>rfl | false=>cases h
 | some u=>rw [e] at h;cases h
theorem ZeC:∀ (n:Nat) (a b:Kd),a.dp≤n→Zbn n (ZaZ n a b) a=true
 | 0,a,b,h=>by have:=ZbX a;omega
 | n+1,a,b,h=>by
  cases a <;> cases b <;> first | rfl | skip
  ·rename_i a1 a2 b1 b2
   have h1:=Zar (k:=.to a1 a2) (c:=a1) (by simp [Kd.kids])
   have h2:=Zar (k:=.to a1 a2) (c:=a2) (by simp [Kd.kids])
   show (Zbn n (ZaZ n a1 b1) a1&&Zbn n (ZaZ n a2 b2) a2)=true
   rw [ZeC n a1 b1 (by omega),ZeC n a2 b2 (by omega)];rfl
  ·rename_i a1 b1
   have h1:=Zar (k:=.box a1) (c:=a1) (by simp [Kd.kids])
   exact ZeC n a1 b1 (by omega)
  ·rename_i fs o gs p
   show Zbn (n+1) (.row (ofL (jL (ZaZ n) fs gs o p)) (o||p||jN (ZaZ n) fs gs o p)) (.row fs o)=true
   refine ZhD (fun z=>by rw [z];rfl) fun x _=>?_
   rcases ZlJ (ZaZ n) fs gs o p x with e | ⟨_,e,e1,e2⟩ | ⟨m,k,k',e1,e2,e⟩
   ·rw [e];rfl
   ·rw [e,e1];rfl
   ·have hk:=Zar (k:=.row fs o) (c:=k) (Zbt e1)
    rw [e,e1]
    show (m==m&&Zbn n (ZaZ n k k') k)=true
    rw [ZeC n k k' (by omega)];simp
theorem ZeE:∀ (n:Nat) {a' a:Kd} (b:Kd),Zbn n a' a=true→Zbn n (ZaZ n a' b) (ZaZ n a b)=true
 | 0,_,_,_,h=>by cases h
 | n+1,a',a,b,h=>by
  by_cases a1:a'=.any
  ·subst a1
   have e:ZaZ (n+1) .any b=.any:=by cases b <;> rfl
   rw [e];rfl
  have e1:=Zh9 h a1
  cases a' <;> cases a <;> first | exact absurd e1 (by simp only [Kd.hd];decide) | exact absurd rfl a1 | skip
  all_goals (cases b <;> first | rfl | skip)
  ·obtain ⟨u1,u2⟩:=ZhM h
   exact (Bool.and_eq_true _ _).mpr ⟨ZeE n _ u1,ZeE n _ u2⟩
  ·exact ZeE n _ h
  ·rename_i fs' o' fs o gs p
   obtain ⟨r1,_⟩:=ZlM h
   have ha:=ZfM h
   show Zbn (n+1) (.row (ofL (jL (ZaZ n) fs' gs o' p)) (o'||p||jN (ZaZ n) fs' gs o' p)) (.row (ofL (jL (ZaZ n) fs gs o p)) (o||p||jN (ZaZ n) fs gs o p))=true
   have ho:(o||p||jN (ZaZ n) fs gs o p)=true→(o'||p||jN (ZaZ n) fs' gs o' p)=true:=fun z=>by
    rcases Bool.or_eq_true_iff.mp z with z | z
    ·rcases Bool.or_eq_true_iff.mp z with z | z
     ·rw [r1 z];rfl
     ·rw [z,Bool.or_true];rfl
    ·obtain ⟨x,hx,hj⟩:=List.any_eq_true.mp z
     rcases Zbd (ha x) with e | ⟨e,e2⟩ | ⟨m,k',k,e,e2,hk⟩
     ·rw [ZeB e];rfl
     ·have:jN (ZaZ n) fs' gs o' p=true:=by
       refine List.any_eq_true.mpr ⟨x,?_,by rw [e];rfl⟩
       rcases ZbJ.mp hx with y | y
       ·obtain ⟨m,k,e3,_⟩:=Zhn (o:=o) y
        rw [e2] at e3;cases e3
       ·exact ZbJ.mpr (.inr y)
      rw [this,Bool.or_true]
     ·have:jN (ZaZ n) fs' gs o' p=true:=by
       refine List.any_eq_true.mpr ⟨x,ZbJ.mpr (.inl (Zcg (ZcC.mp e)).2),?_⟩
       rw [e2] at hj;rw [e]
       cases g:ent gs p x with
       | free=>rfl
       | nope=>rfl
       | told m2 l =>
        rw [g] at hj
        have hj':(if m=m2 then some (m,ZaZ n k l) else none).isNone=true:=hj
        show (if m=m2 then some (m,ZaZ n k' l) else none).isNone=true
        by_cases q:m=m2
        ·rw [if_pos q] at hj';cases hj'
        ·rw [if_neg q];rfl
      rw [this,Bool.or_true]
   refine ZhD ho fun x _=>?_
   rcases ZlJ (ZaZ n) fs' gs o' p x with e | ⟨q,e,e1,e2⟩ | ⟨m,k',l,e1,e2,e⟩
   ·rw [e];rfl
   ·rw [e]
    have hf:(o||p||jN (ZaZ n) fs gs o p)=false:=by
     cases z:(o||p||jN (ZaZ n) fs gs o p) with
     | false=>rfl
     | true=>rw [ho z] at q;cases q
    have e0:ent fs o x=.nope:=by
     rcases Zbd (ha x) with z | ⟨_,z⟩ | ⟨m,k',k,z,_⟩
     ·rw [e1] at z;cases z
     ·exact z
     ·rw [e1] at z;cases z
    rcases ZlJ (ZaZ n) fs gs o p x with z | ⟨_,z,_⟩ | ⟨m,k,l,z,_⟩
    ·have:=ZeB z;rw [hf] at this;cases this
    ·rw [z];rfl
    ·rw [e0] at z;cases z
   ·rcases Zbd (ha x) with z | ⟨z,_⟩ | ⟨m',k1,k,z,z2,hk⟩
    ·rw [e1] at z;cases z
    ·rw [e1] at z;cases z
    ·rw [e1] at z;cases z
     rw [e,Zwi z2 e2]
     show (m==m&&Zbn n (ZaZ n k' l) (ZaZ n k l))=true
     rw [ZeE n l hk];simp
theorem Zxd {f:Kd→Kd→Kd} (e:En):eE f e .free=none:=by cases e <;> rfl
theorem ZjL:∀ (n:Nat) {a' a:Kd} (b:Kd),Zbn n a' a=true→b.dp≤n→Zbn n (ZbH n a' b) (ZbH n a b)=true
 | 0,_,_,_,h,_=>by cases h
 | n+1,a',a,b,h,hb=>by
  by_cases a1:a'=.any
  ·subst a1
   have e:ZbH (n+1) .any b=.any:=by cases b <;> rfl
   rw [e];rfl
  have e1:=Zh9 h a1
  cases a' <;> cases a <;> first | exact absurd e1 (by simp only [Kd.hd];decide) | exact absurd rfl a1 | skip
  all_goals (cases b <;> first | rfl | skip)
  ·rename_i b1 b2
   have h2:=Zar (k:=.to b1 b2) (c:=b2) (by simp [Kd.kids])
   obtain ⟨u1,u2⟩:=ZhM h
   exact (Bool.and_eq_true _ _).mpr ⟨ZeE n _ u1,ZjL n _ u2 (by omega)⟩
  ·exact ZeE n _ h
  ·rename_i fs' o' fs o gs p
   obtain ⟨r1,_⟩:=ZlM h
   have ha:=ZfM h
   show Zbn (n+1) (.row (ofL (eL (ZbH n) fs' gs o' p)) (o'||p)) (.row (ofL (eL (ZbH n) fs gs o p)) (o||p))=true
   have ho:(o||p)=true→(o'||p)=true:=fun z=>by
    rcases Bool.or_eq_true_iff.mp z with z | z
    ·rw [r1 z];rfl
    ·rw [z,Bool.or_true]
   refine ZhD ho fun x _=>?_
   rw [Zr7,Zr7]
   cases g:ent gs p x with
   | free=>rw [Zxd,ZeB g,Bool.or_true];rfl
   | nope =>
    rcases Zbd (ha x) with e | ⟨e,e2⟩ | ⟨m,k',k,e,e2,hk⟩
    ·rw [e,ZeB e];rfl
    ·rw [e,e2]
     show Zeq (Zbn n) (eN none (o'||p)) (eN none (o||p))=true
     cases z:(o||p) with
     | true=>rw [ho z];rfl
     | false=>cases (o'||p) <;> rfl
    ·rw [e,e2]
     show (false==false&&Zbn n k' k)=true
     rw [hk];rfl
   | told m2 l =>
    have hl:=Zar (k:=.row gs p) (c:=l) (Zbt g)
    rcases Zbd (ha x) with e | ⟨e,e2⟩ | ⟨m,k',k,e,e2,hk⟩
    ·rw [e,ZeB e];rfl
    ·rw [e,e2]
     show (false==false&&Zbn n l l)=true
     rw [Zdh n l (by omega)];rfl
    ·rw [e,e2]
     show ((m&&m2)==(m&&m2)&&Zbn n (ZbH n k' l) (ZbH n k l))=true
     rw [ZjL n l hk (by omega)];simp
theorem ZtY:∀ (n:Nat) (a b:Kd),a.dp≤n→lk n a (ZbH n a b)=none
 | 0,_,_,_=>rfl
 | n+1,a,b,h=>by
  cases a <;> cases b <;> first | rfl | exact ZoC (.inr rfl) | skip
  ·rename_i a1 a2 b1 b2
   have h1:=Zar (k:=.to a1 a2) (c:=a1) (by simp [Kd.kids])
   have h2:=Zar (k:=.to a1 a2) (c:=a2) (by simp [Kd.kids])
   exact ZwQ.mpr ⟨Zls n _ _ _ _ (ZeC n a1 b1 (by omega)) (Zdh n a1 (by omega)) (Zju n a1),ZtY n a2 b2 (by omega)⟩
  ·rename_i a1 b1
   have h1:=Zar (k:=.box a1) (c:=a1) (by simp [Kd.kids])
   exact ZnF.mpr (Zh4 n _ _ _ _ (Zdh n a1 (by omega)) (ZeC n a1 b1 (by omega)) (Zh0 n a1))
  ·rename_i fs o gs p
   show lk (n+1) (.row fs o) (.row (ofL (eL (ZbH n) fs gs o p)) (o||p))=none
   refine Zpd.mpr fun x=>?_
   rw [Zr7]
   cases g:ent gs p x with
   | free=>rw [Zxd,ZeB g,Bool.or_true];exact ZeM (.inr rfl)
   | nope =>
    cases e:ent fs o x with
    | free=>exact ZeM (.inl rfl)
    | nope =>
     show lkE (lk n) .nope (eN none (o||p))=none
     cases (o||p) <;> rfl
    | told m k =>
     show (if (false&&!m)=true then some [] else lk n k k)=none
     rw [Bool.false_and,if_neg Bool.false_ne_true];exact Zju n k
   | told m2 l =>
    cases e:ent fs o x with
    | free=>exact ZeM (.inl rfl)
    | nope=>rfl
    | told m k =>
     have hk:=Zar (k:=.row fs o) (c:=k) (Zbt e)
     show (if (m&&m2&&!m)=true then some [] else lk n k (ZbH n k l))=none
     rw [if_neg (by cases m <;> cases m2 <;> decide)];exact ZtY n k l (by omega)
def sm (f:Str→Nat):List Str→Nat
 | []=>0
 | x::xs=>f x+sm f xs
def oc:Option (Bool×Kd)→Nat
 | some u=>u.2.cnt
 | none=>0
theorem ZsO {f g:Str→Nat}:∀ zs:List Str,(∀ x∈zs,f x≤g x)→sm f zs≤sm g zs
 | [],_=>Nat.le_refl _
 | x::xs,h=>Nat.add_le_add (h x List.mem_cons_self) (ZsO xs fun y hy=>h y (List.mem_cons_of_mem _ hy))
theorem Zsb {f g:Str→Nat}:∀ zs:List Str,sm (fun x=>f x+g x) zs=sm f zs+sm g zs
 | []=>rfl
 | x::xs=>by
  show f x+g x+sm _ xs=f x+sm f xs+(g x+sm g xs)
  rw [Zsb xs];omega
theorem Zv3 {f:Str→Nat}:∀ zs:List Str,(∀ x∈zs,f x=0)→sm f zs=0
 | [],_=>rfl
 | x::xs,h=>by
  show f x+sm f xs=0
  rw [h x List.mem_cons_self,Zv3 xs fun y hy=>h y (List.mem_cons_of_mem _ hy)]
theorem ZuS {n:Str} {v:Nat}:∀ zs:List Str,zs.Nodup→sm (fun x=>if n=x then v else 0) zs≤v
 | [],_=>Nat.zero_le _
 | z::zs,h=>by
  obtain ⟨h1,h2⟩:=List.nodup_cons.mp h
  show (if n=z then v else 0)+sm (fun x=>if n=x then v else 0) zs≤v
  by_cases e:n=z
  ·rw [if_pos e,Zv3 zs fun x hx=>if_neg fun q=>h1 (by rw [← e,q];exact hx)];omega
  ·rw [if_neg e]
   have:=ZuS (n:=n) (v:=v) zs h2;omega
theorem Zme:∀ (fs:Fs) {zs:List Str},zs.Nodup→sm (fun x=>oc (fs.find x)) zs≤fs.cnt
 | .nil,zs,_=>Nat.le_of_eq (Zv3 (f:=fun x=>oc (Fs.nil.find x)) zs fun _ _=>rfl)
 | .cons n m k r,zs,h=>by
  have h1:sm (fun x=>oc ((Fs.cons n m k r).find x)) zs≤sm (fun x=>(if n=x then k.cnt else 0)+oc (r.find x)) zs:=ZsO zs fun x _=>by
   show oc (if n=x then some (m,k) else r.find x)≤(if n=x then k.cnt else 0)+oc (r.find x)
   by_cases e:n=x
   ·rw [if_pos e,if_pos e];exact Nat.le_add_right _ _
   ·rw [if_neg e,if_neg e];omega
  rw [Zsb] at h1
  have h2:=ZuS (n:=n) (v:=k.cnt) zs h
  have h3:=Zme r h
  show _≤k.cnt+r.cnt;omega
theorem Zos {F:Str→Option (Bool×Kd)}:∀ zs:List Str,(ofL (zs.filterMap fun z=>(F z).map fun u=>(z,u.1,u.2))).cnt=sm (fun z=>oc (F z)) zs
 | []=>rfl
 | z::zs=>by
  show _=oc (F z)+sm _ zs
  cases e:F z with
  | none =>
   rw [List.filterMap_cons_none (by rw [e];rfl),Zos zs]
   show _=0+_;omega
  | some u =>
   rw [List.filterMap_cons_some (b:=(z,u.1,u.2)) (by rw [e];rfl),← Zos zs]
   rfl
theorem Zs1 (k:Kd):1≤k.cnt:=by
 cases k with
 | any=>exact Nat.le_refl _
 | num=>exact Nat.le_refl _
 | truth=>exact Nat.le_refl _
 | to x y=>show 1≤1+(x.cnt+y.cnt);omega
 | box x=>show 1≤1+x.cnt;omega
 | row fs o=>show 1≤1+fs.cnt;omega
theorem ZmV {fs:Fs} {o:Bool} {x:Str} {m:Bool} {k:Kd} (e:ent fs o x=.told m k):oc (fs.find x)=k.cnt:=by rw [ZcC.mp e];rfl
theorem Zfw:∀ (n:Nat) (a b:Kd),(ZaZ n a b).cnt≤a.cnt
 | 0,a,_=>Zs1 a
 | n+1,a,b=>by
  cases a <;> cases b <;> first | exact Zs1 _ | skip
  ·rename_i a1 a2 b1 b2
   have h1:=Zfw n a1 b1
   have h2:=Zfw n a2 b2
   show 1+((ZaZ n a1 b1).cnt+(ZaZ n a2 b2).cnt)≤1+(a1.cnt+a2.cnt);omega
  ·rename_i a1 b1
   have h1:=Zfw n a1 b1
   show 1+(ZaZ n a1 b1).cnt≤1+a1.cnt;omega
  ·rename_i fs o gs p
   have h1:(ofL (jL (ZaZ n) fs gs o p)).cnt=_:=Zos (F:=fun x=>jE (ZaZ n) (ent fs o x) (ent gs p x)) (ZhI fs gs)
   have h2:sm (fun z=>oc (jE (ZaZ n) (ent fs o z) (ent gs p z))) (ZhI fs gs)≤sm (fun x=>oc (fs.find x)) (ZhI fs gs):=ZsO _ fun x _=>by
    cases e:jE (ZaZ n) (ent fs o x) (ent gs p x) with
    | none=>exact Nat.zero_le _
    | some u =>
     obtain ⟨k,k',e1,e2,e3⟩:=Zjm (m:=u.1) (j:=u.2) e
     show u.2.cnt≤_
     rw [ZmV e1,e3];exact Zfw n k k'
   have h3:=Zme fs (ZfE (Zd6 fs gs))
   show 1+(ofL (jL (ZaZ n) fs gs o p)).cnt≤1+fs.cnt
   omega
theorem Zlr:∀ (n:Nat) (a b:Kd),(ZbH n a b).cnt≤a.cnt+b.cnt
 | 0,a,_=>Nat.le_trans (Zs1 a) (Nat.le_add_right _ _)
 | n+1,a,b=>by
  cases a <;> cases b <;> first | exact Nat.le_trans (Zs1 _) (Nat.le_add_right _ _) | skip
  ·rename_i a1 a2 b1 b2
   have h1:=Zfw n a1 b1
   have h2:=Zlr n a2 b2
   show 1+((ZaZ n a1 b1).cnt+(ZbH n a2 b2).cnt)≤1+(a1.cnt+a2.cnt)+(1+(b1.cnt+b2.cnt));omega
  ·rename_i a1 b1
   have h1:=Zfw n a1 b1
   show 1+(ZaZ n a1 b1).cnt≤1+a1.cnt+(1+b1.cnt);omega
  ·rename_i fs o gs p
   have h1:(ofL (eL (ZbH n) fs gs o p)).cnt=_:=Zos (F:=fun x=>eE (ZbH n) (ent fs o x) (ent gs p x)) (ZhI fs gs)
   have h2:sm (fun z=>oc (eE (ZbH n) (ent fs o z) (ent gs p z))) (ZhI fs gs)≤sm (fun x=>oc (fs.find x)+oc (gs.find x)) (ZhI fs gs):=ZsO _ fun x _=>by
    cases e:eE (ZbH n) (ent fs o x) (ent gs p x) with
    | none=>exact Nat.zero_le _
    | some u =>
     show u.2.cnt≤_
     rcases ZlU (m:=u.1) (j:=u.2) e with ⟨m',z | z⟩ | ⟨m1,k,m2,k',z1,z2,z3⟩
     ·rw [ZmV z];exact Nat.le_add_right _ _
     ·rw [ZmV z];exact Nat.le_add_left _ _
     ·rw [ZmV z1,ZmV z2,z3];exact Zlr n k k'
   rw [Zsb] at h2
   have h3:=Zme fs (ZfE (Zd6 fs gs))
   have h4:=Zme gs (ZfE (Zd6 fs gs))
   show 1+(ofL (eL (ZbH n) fs gs o p)).cnt≤1+fs.cnt+(1+gs.cnt)
   omega
theorem Zww:∀ {fs:Fs},fs.ok=true→∀ x∈fs.names,Zcw x=true
 | .nil,_,x,hx=>by cases hx
 | .cons n m k r,h,x,hx=>by
  have h':(Zcw n&&k.ok&&r.ok)=true:=h
  walk_at "pe"
  rcases List.mem_cons.mp hx with rfl | hx
  ·exact h'.1.1
  ·exact Zww h'.2 x hx
theorem ZrD {fs:Fs} {o:Bool} (h:(Kd.row fs o).ok=true):fs.ok=true:=by
 have h':(Zm2 fs.names&&fs.ok)=true:=h
 walk_at "pe"
 exact h'.2
theorem Zrj:∀ l:List (Str×Bool×Kd),(∀ y∈l,Zcw y.1=true∧y.2.2.ok=true)→(ofL l).ok=true
 | [],_=>rfl
 | x::l,h=>by
  obtain ⟨h1,h2⟩:=h x List.mem_cons_self
  have i1:=Zrj l fun y hy=>h y (List.mem_cons_of_mem _ hy)
  show (Zcw x.1&&x.2.2.ok&&(ofL l).ok)=true
  rw [h1,h2,i1];rfl
theorem Zrx {F:Str→Option (Bool×Kd)}:∀ zs:List Str,((zs.filterMap fun z=>(F z).map fun u=>(z,u.1,u.2)).map (·.1)).Sublist zs
 | []=>.slnil
 | z::zs=>by
  cases e:F z with
  | none=>rw [List.filterMap_cons_none (by rw [e];rfl)];exact (Zrx zs).cons _
  | some u=>rw [List.filterMap_cons_some (b:=(z,u.1,u.2)) (by rw [e];rfl),List.map_cons];exact (Zrx zs).cons_cons _
theorem Zxc {F:Str→Option (Bool×Kd)} {fs gs:Fs} {o p q:Bool} (h1:(Kd.row fs o).ok=true) (h2:(Kd.row gs p).ok=true) (h:∀ x m k,F x=some (m,k)→k.ok=true):(Kd.row (ofL ((ZhI fs gs).filterMap fun z=>(F z).map fun u=>(z,u.1,u.2))) q).ok=true:=by
 show (Zm2 (ofL _).names&&(ofL _).ok)=true
 rw [ZbL,ZnK ((Zd6 fs gs).sublist (Zrx _)),Zrj _ fun y hy=>?_]
 ·rfl
 ·obtain ⟨x,hx,e⟩:=List.mem_filterMap.mp hy
  obtain ⟨⟨m,j⟩,e1,e2⟩:=Option.map_eq_some_iff.mp e
  cases e2
  refine ⟨?_,h x m j e1⟩
  rcases ZbJ.mp hx with z | z
  ·exact Zww (ZrD h1) x z
  ·exact Zww (ZrD h2) x z
theorem Zk6 {fs:Fs} {o:Bool} {x:Str} {m:Bool} {k:Kd} (h:(Kd.row fs o).ok=true) (e:ent fs o x=.told m k):k.ok=true:=(ZqL h).2 k (Zbt e)
theorem ZhV:∀ (n:Nat) {a b:Kd},a.ok=true→b.ok=true→(ZaZ n a b).ok=true
 | 0,_,_,_,_=>rfl
 | n+1,a,b,ha,hb=>by
  cases a <;> cases b <;> first | rfl | skip
  ·rename_i a1 a2 b1 b2
   exact (Bool.and_eq_true _ _).mpr ⟨ZhV n (Zcm ha a1 (by simp [Kd.kids])) (Zcm hb b1 (by simp [Kd.kids])),ZhV n (Zcm ha a2 (by simp [Kd.kids])) (Zcm hb b2 (by simp [Kd.kids]))⟩
  ·rename_i a1 b1
   exact ZhV n (Zcm ha a1 (by simp [Kd.kids])) (Zcm hb b1 (by simp [Kd.kids]))
  ·rename_i fs o gs p
   refine Zxc (F:=fun x=>jE (ZaZ n) (ent fs o x) (ent gs p x)) ha hb fun x m k e=>?_
   obtain ⟨k1,k2,e1,e2,e3⟩:=Zjm e
   rw [e3];exact ZhV n (Zk6 ha e1) (Zk6 hb e2)
theorem Zmd:∀ (n:Nat) {a b:Kd},a.ok=true→b.ok=true→(ZbH n a b).ok=true
 | 0,_,_,_,_=>rfl
 | n+1,a,b,ha,hb=>by
  cases a <;> cases b <;> first | rfl | skip
  ·rename_i a1 a2 b1 b2
   exact (Bool.and_eq_true _ _).mpr ⟨ZhV n (Zcm ha a1 (by simp [Kd.kids])) (Zcm hb b1 (by simp [Kd.kids])),Zmd n (Zcm ha a2 (by simp [Kd.kids])) (Zcm hb b2 (by simp [Kd.kids]))⟩
  ·rename_i a1 b1
   exact ZhV n (Zcm ha a1 (by simp [Kd.kids])) (Zcm hb b1 (by simp [Kd.kids]))
  ·rename_i fs o gs p
   refine Zxc (F:=fun x=>eE (ZbH n) (ent fs o x) (ent gs p x)) ha hb fun x m k e=>?_
   rcases ZlU e with ⟨m',z | z⟩ | ⟨m1,k1,m2,k2,z1,z2,z3⟩
   ·exact Zk6 ha z
   ·exact Zk6 hb z
   ·rw [z3];exact Zmd n (Zk6 ha z1) (Zk6 hb z2)
theorem Zv4 {xs ys:List W} (h:L3.dpL xs < 90) (G:Hw):eqW (.tup xs) (.tup ys) G=eqD (.tup xs) (.tup ys):=by
 show (if L3.dpL xs < 90 then ZjQ xs ys else none)=_
 rw [if_pos h,eqD]
theorem ZnE (neg:Bool) {k:Kd} (h:k.dp≤20) (G:Hw):eqF neg k.enc k.enc G=some (.bl (true != neg)):=by
 obtain ⟨b,e,i⟩:=plD k.enc k.enc (Zlo k) (Zlo k)
 obtain rfl:b=true:=i.mpr rfl
 have h':dpW k.enc < 90:=by have:=Zjq k;omega
 obtain ⟨xs,hx⟩:∃ xs,k.enc=.tup xs:=by cases k <;> exact ⟨_,rfl⟩
 rw [hx] at e h' ⊢
 have h2:L3.dpL xs+1 < 90:=h'
 unfold eqF
 rw [Zv4 (by omega),e];rfl
theorem Zi4 {i:Nat} {ge:GE} {Zbm:GS} {D:Ew} {ω:Sw} {G:Hw} (h:ge ω G fun w G1=>Zbm D (ω.set i (some w)) G1):Zat (Za9 i ge) Zbm D ω G:=h
theorem Zlt {k l:Kd} (hk:kd8 k) (hl:kd8 l):(ZbH 8 k l).ok=true∧(ZbH 8 k l).cnt≤1000:=by
 refine ⟨Zmd 8 hk.1.1 hl.1.1,?_⟩
 have:=Zlr 8 k l
 have:=hk.2.1
 have:=hl.2.1
 omega
theorem Zn5 {k l:Kd} (hk:kd8 k) (hl:kd8 l) (hg:Zi1 (ZbH 8 k l)=true):kt8 (ZbH 8 k l):=⟨⟨Zmd 8 hk.1.1 hl.1.1,Zmh 8 hk.1 hl.1⟩,of_decide_eq_true (by unfold Zi1 at hg;exact hg)⟩
abbrev gI1:GS:=gIf (ZeU (Zdi (Zae ZzC XF (L3.Zaa (Zab 4) L3.Zaj))) (gOr (gNt (Zdi (Zae ZzF XF (L3.Zaa (Zab 1) (L3.Zaa (Zab 4) L3.Zaj))))) (gNt (Zdi (Zae ZzF XF (L3.Zaa (Zab 2) (L3.Zaa (Zab 4) L3.Zaj))))))) (Zay (gC (.bl false))) Zam
abbrev gI2:GS:=gIf (ZeU (Zdi (Zae ZzC XF (L3.Zaa (Zab 4) L3.Zaj))) (ZeU (Zdi (Zae ZzC XF (L3.Zaa (Zab 6) L3.Zaj))) (gNt (Zdi (Zae Zr2 XF (L3.Zaa (Zab 6) (L3.Zaa (Zab 4) L3.Zaj))))))) (Zay (gC (.bl false))) Zam
theorem ZwT {k l:Kd} (hk:kd8 k) (hl:kd8 l) {Zbm:GS} {D:Ew} {w0 w3 w5 w6:Option W} {G:Hw} (h:Zbm D [w0,some k.enc,some l.enc,w3,some (ZbH 8 k l).enc,w5,w6] G):Zat gI1 Zbm D [w0,some k.enc,some l.enc,w3,some (ZbH 8 k l).enc,w5,w6] G:=by
 simp only [gI1,Zat,gIf,ZeU,gOr,gNt,Zdi,Zae,Zab,gC,Zay,Zam,L3.Zaa,L3.Zaj,List.getElem?_cons_zero,List.getElem?_cons_succ]
 refine ⟨ZbH 8 k l,⟨rfl,Zlt hk hl⟩,?_⟩
 dsimp only
 cases hg:Zi1 (ZbH 8 k l) with
 | false=>simp only [Ze0,Bool.false_eq_true,if_false];exact h
 | true =>
  have hb:=Zn5 hk hl hg
  simp only [Ze0,if_true]
  refine ⟨(k,ZbH 8 k l),⟨rfl,ZrE hk,hb⟩,?_⟩
  dsimp only
  rw [ZuJ.mpr (ZtY 8 k l hk.2.2)]
  simp only [Ze0,Bool.not_true,Bool.false_eq_true,if_false]
  refine ⟨(l,ZbH 8 k l),⟨rfl,ZrE hl,hb⟩,?_⟩
  dsimp only
  rw [show sv l (ZbH 8 k l)=true by rw [Zhl];exact ZuJ.mpr (ZtY 8 l k hl.2.2)]
  simp only [Ze0,Bool.not_true,Bool.false_eq_true,if_false]
  exact h
theorem ZvF {k k' l:Kd} (hk:kd8 k) (hk':kd8 k') (hl:kd8 l) (hs:Zbn 8 k' k=true) {Zbm:GS} {D:Ew} {w0 w1 w2 w3 w5:Option W} {G:Hw} (h:Zbm D [w0,w1,w2,w3,some (ZbH 8 k l).enc,w5,some (ZbH 8 k' l).enc] G):Zat gI2 Zbm D [w0,w1,w2,w3,some (ZbH 8 k l).enc,w5,some (ZbH 8 k' l).enc] G:=by
 simp only [gI2,Zat,gIf,ZeU,gOr,gNt,Zdi,Zae,Zab,gC,Zay,Zam,L3.Zaa,L3.Zaj,List.getElem?_cons_zero,List.getElem?_cons_succ]
 refine ⟨ZbH 8 k l,⟨rfl,Zlt hk hl⟩,?_⟩
 dsimp only
 cases hg:Zi1 (ZbH 8 k l) with
 | false=>simp only [Ze0,Bool.false_eq_true,if_false];exact h
 | true =>
  simp only [Ze0,if_true]
  refine ⟨ZbH 8 k' l,⟨rfl,Zlt hk' hl⟩,?_⟩
  dsimp only
  cases hg':Zi1 (ZbH 8 k' l) with
  | false=>simp only [Ze0,Bool.false_eq_true,if_false];exact h
  | true =>
   simp only [Ze0,if_true]
   refine ⟨(ZbH 8 k' l,ZbH 8 k l),⟨rfl,Zn5 hk' hl hg',Zn5 hk hl hg⟩,?_⟩
   dsimp only
   rw [ZjL 8 l hs hl.2.2]
   simp only [Ze0,Bool.not_true,Bool.false_eq_true,if_false]
   exact h
theorem ZBH:kd8 .any:=⟨⟨rfl,rfl⟩,by decide,by decide⟩
theorem ZAI (T:Tx K mg base a) {f:Addr} {fd:FuncData} (F:Fun K "law" "law" ZpQ f fd):FnOk P w K mg base (CXe P w) 29 f fd ["script"] (Zvh K Ztw):=by
 refine ok0 F Zx7 (fun ws G Q E ⟨ns,e,_⟩=>by rw [e];rfl) (ZAp (k:=28) T (ZeK T) (by omega) (ZaT T) (by omega) (Zi8 T) (by omega) (ZeJ T) (by omega) (ZiT T) (by omega) (Za5 T 8) (by omega) (ZdX T) (by omega)) fun ws G Q E hC q=>?_
 obtain ⟨ns,rfl,hns,q⟩:=q
 unfold Zxl
 show Zat (Zz6 _ _) _ (ZaE Q) [some (.rol (ns.map W.int)),none,none,none,none,none,none] G
 refine ⟨ns,0,false,rfl,by decide,fun k l hk hl=>?_⟩
 simp only [ZjU,List.set_cons_zero,List.set_cons_succ]
 refine Zi4 ?_
 refine ⟨ns,4,rfl,by decide,fun s x b hs=>?_⟩
 walk_at "pg"
 refine Zi4 ?_
 refine ⟨(k,l),⟨rfl,hk,hl⟩,?_⟩
 walk_at "pg"
 refine ZwT hk hl ?_
 refine Zi4 ?_
 refine ⟨s,x,b,[],k,rfl,hk.1,hk.2.2,Zad,fun k' x1 g1=>?_⟩
 rw [Zbf]
 walk_at "pg"
 have hk':=Zx8 g1.1 hk
 generalize put G s (S2 x1 b [])=G1
 refine Zi4 ?_
 refine ⟨(k',l),⟨rfl,hk',hl⟩,?_⟩
 walk_at "pg"
 refine ZvF hk hk' hl g1.2 ?_
 simp only [Zat,gIf,gOr,gTB,Zai,Zak,Zae,Zab,gC,L3.ZaQ,L3.Zaa,L3.Zaj,List.getElem?_cons_zero,List.getElem?_cons_succ,Zam]
 refine ⟨(k,k),⟨rfl,hk,hk⟩,?_⟩
 dsimp only
 rw [ZjP 8 hk.1 hk.2.2,ZnE true (by have:=hk.2.2;omega),Zac]
 refine ⟨(show 1≤sizeLine by decide),(k,.any),⟨rfl,hk,ZBH⟩,?_⟩
 dsimp only
 have ea:ZbH 8 k .any=.any:=by cases k <;> rfl
 rw [ea]
 refine ⟨(show 1≤sizeLine by decide),?_⟩
 rw [show eqF true Kd.any.enc (.tup [.str "any"]) G1=some (.bl false) from ZnE true (k:=.any) (by decide) G1,Zac]
 simp only [Bool.false_eq_true,if_false,Zay,Zai,Zak,Zae,Zab,L3.Zaa,L3.Zaj,List.getElem?_cons_zero,List.getElem?_cons_succ]
 refine ⟨(l,k),⟨rfl,hl,hk⟩,?_⟩
 dsimp only
 have hd:(ZbH 8 k l).dp≤8:=Nat.le_trans (ZlB 8 k l) (by have:=hk.2.2;have:=hl.2.2;omega)
 rw [Zhl 8 l k,ZnE false (by omega),Zac]
 exact q _
theorem Zp6 {base:Heap} {e:DictEntry} {x:Str} {i:Int} {t u:Tok} {es:List DictEntry} {D:List (Str×KTD.Dat)} (h1:e.key=.str x t) (h2:e.val=.int i u) (r:KTD.Rows (KTD.Dat.At base) es D):KTD.Rows (KTD.Dat.At base) (e::es) ((x,KTD.Dat.flat (.int i))::D) :=
 .cons h1 (by rw [h2];exact PyProof.V.Flat.int i u) r
theorem ZAn {K:PySem.W.Frag} {h:Heap} {mg:Str→Option Value} (X:K.In h) (G:h.Ns mainGlobals mg) (FF:Fns K mg) (NN:Bls mg) {c_CastError c_NoKind:Addr} {z_MARKS:Addr} {w0_MARKS w1_MARKS:Tok} {dd_MARKS:Option Addr} {nn_MARKS:Nat} {sl_MARKS:Array (Option Value)} {w_MOST_DEPTH:Tok} {w_MOST_KINDS:Tok} {w_MOST_LETTERS:Tok} {z_LENGTHS:Addr} {ep_LENGTHS:Nat} {e0_LENGTHS e1_LENGTHS e2_LENGTHS e3_LENGTHS e4_LENGTHS e5_LENGTHS:DictEntry} {a0_LENGTHS b0_LENGTHS:Tok} {a1_LENGTHS b1_LENGTHS:Tok} {a2_LENGTHS b2_LENGTHS:Tok} {a3_LENGTHS b3_LENGTHS:Tok} {a4_LENGTHS b4_LENGTHS:Tok} {a5_LENGTHS b5_LENGTHS:Tok} {z_STEPS:Addr} {ep_STEPS:Nat} {s0:DictEntry} {st0:Tok} {sa0:Addr} {sd0:Option Addr} {sn0:Nat} {sl0:Array (Option Value)} {s1:DictEntry} {st1:Tok} {sa1:Addr} {sd1:Option Addr} {sn1:Nat} {sl1:Array (Option Value)} {s2:DictEntry} {st2:Tok} {sa2:Addr} {sd2:Option Addr} {sn2:Nat} {sl2:Array (Option Value)} {s3:DictEntry} {st3:Tok} {sa3:Addr} {sd3:Option Addr} {sn3:Nat} {sl3:Array (Option Value)} {sw3_0:Tok} {sw3_1:Tok} {s4:DictEntry} {st4:Tok} {sa4:Addr} {sd4:Option Addr} {sn4:Nat} {sl4:Array (Option Value)} {sw4_0:Tok} {z_SERV:Addr} {dd_SERV:Option Addr} {nn_SERV:Nat} {sl_SERV:Array (Option Value)} {rv0:Addr} {rt0 ru0:Tok} {rd0:Option Addr} {rn0:Nat} {rl0:Array (Option Value)} {rv1:Addr} {rt1 ru1:Tok} {rd1:Option Addr} {rn1:Nat} {rl1:Array (Option Value)} {rv2:Addr} {rt2 ru2:Tok} {rd2:Option Addr} {rn2:Nat} {rl2:Array (Option Value)} {rv3:Addr} {rt3 ru3:Tok} {rd3:Option Addr} {rn3:Nat} {rl3:Array (Option Value)} {rv4:Addr} {rt4 ru4:Tok} {rd4:Option Addr} {rn4:Nat} {rl4:Array (Option Value)} {d_NoKind:ClassData}
  (e_CastError:PySem.W.nsIn K mainGlobals "CastError"=some (some (.ref c_CastError)))
  (e_NoKind:PySem.W.nsIn K mainGlobals "NoKind"=some (some (.ref c_NoKind)))
  (Zcq:PySem.W.nsIn K mainGlobals "MARKS"=some (some (.ref z_MARKS)))
  (l_MARKS:K.lookup z_MARKS=some ⟨.type "tuple",dd_MARKS,.seq #[.str "must" w0_MARKS,.str "may" w1_MARKS] nn_MARKS,sl_MARKS⟩)
  (ZaJ:PySem.W.nsIn K mainGlobals "MOST_DEPTH"=some (some (.int 8 w_MOST_DEPTH)))
  (ZaI:PySem.W.nsIn K mainGlobals "MOST_KINDS"=some (some (.int 40 w_MOST_KINDS)))
  (Zaz:PySem.W.nsIn K mainGlobals "MOST_LETTERS"=some (some (.int 8 w_MOST_LETTERS)))
  (v_LENGTHS:PySem.W.nsIn K mainGlobals "LENGTHS"=some (some (.ref z_LENGTHS)))
  (l_LENGTHS:K.lookup z_LENGTHS=some ⟨.type "dict",none,.dict #[e0_LENGTHS,e1_LENGTHS,e2_LENGTHS,e3_LENGTHS,e4_LENGTHS,e5_LENGTHS] ep_LENGTHS,#[]⟩)
  (u_LENGTHS:(z_LENGTHS==sysModules)=false)
  (a0_LENGTHS_:e0_LENGTHS.key=.str "any" a0_LENGTHS)
  (b0_LENGTHS_:e0_LENGTHS.val=.int 1 b0_LENGTHS)
  (a1_LENGTHS_:e1_LENGTHS.key=.str "num" a1_LENGTHS)
  (b1_LENGTHS_:e1_LENGTHS.val=.int 1 b1_LENGTHS)
  (a2_LENGTHS_:e2_LENGTHS.key=.str "truth" a2_LENGTHS)
  (b2_LENGTHS_:e2_LENGTHS.val=.int 1 b2_LENGTHS)
  (a3_LENGTHS_:e3_LENGTHS.key=.str "to" a3_LENGTHS)
  (b3_LENGTHS_:e3_LENGTHS.val=.int 3 b3_LENGTHS)
  (a4_LENGTHS_:e4_LENGTHS.key=.str "box" a4_LENGTHS)
  (b4_LENGTHS_:e4_LENGTHS.val=.int 2 b4_LENGTHS)
  (a5_LENGTHS_:e5_LENGTHS.key=.str "row" a5_LENGTHS)
  (b5_LENGTHS_:e5_LENGTHS.val=.int 3 b5_LENGTHS)
  (v_STEPS:PySem.W.nsIn K mainGlobals "STEPS"=some (some (.ref z_STEPS)))
  (l_STEPS:K.lookup z_STEPS=some ⟨.type "dict",none,.dict #[s0,s1,s2,s3,s4] ep_STEPS,#[]⟩)
  (u_STEPS:(z_STEPS==sysModules)=false)
  (ka0:s0.key=.str "any" st0)
  (kb0:s0.val=.ref sa0)
  (kc0:K.lookup sa0=some ⟨.type "tuple",sd0,.seq #[] sn0,sl0⟩)
  (ka1:s1.key=.str "num" st1)
  (kb1:s1.val=.ref sa1)
  (kc1:K.lookup sa1=some ⟨.type "tuple",sd1,.seq #[] sn1,sl1⟩)
  (ka2:s2.key=.str "truth" st2)
  (kb2:s2.val=.ref sa2)
  (kc2:K.lookup sa2=some ⟨.type "tuple",sd2,.seq #[] sn2,sl2⟩)
  (ka3:s3.key=.str "to" st3)
  (kb3:s3.val=.ref sa3)
  (kc3:K.lookup sa3=some ⟨.type "tuple",sd3,.seq #[.str "in" sw3_0,.str "out" sw3_1] sn3,sl3⟩)
  (ka4:s4.key=.str "box" st4)
  (kb4:s4.val=.ref sa4)
  (kc4:K.lookup sa4=some ⟨.type "tuple",sd4,.seq #[.str "inside" sw4_0] sn4,sl4⟩)
  (v_SERV:PySem.W.nsIn K mainGlobals "SERVING"=some (some (.ref z_SERV)))
  (l_SERV:K.lookup z_SERV=some ⟨.type "tuple",dd_SERV,.seq #[.ref rv0,.ref rv1,.ref rv2,.ref rv3,.ref rv4] nn_SERV,sl_SERV⟩)
  (lv0:K.lookup rv0=some ⟨.type "tuple",rd0,.seq #[.str "none" rt0,.str "none" ru0] rn0,rl0⟩)
  (lv1:K.lookup rv1=some ⟨.type "tuple",rd1,.seq #[.str "none" rt1,.str "may" ru1] rn1,rl1⟩)
  (lv2:K.lookup rv2=some ⟨.type "tuple",rd2,.seq #[.str "must" rt2,.str "must" ru2] rn2,rl2⟩)
  (lv3:K.lookup rv3=some ⟨.type "tuple",rd3,.seq #[.str "must" rt3,.str "may" ru3] rn3,rl3⟩)
  (lv4:K.lookup rv4=some ⟨.type "tuple",rd4,.seq #[.str "may" rt4,.str "may" ru4] rn4,rl4⟩)
  (ZfI:PySem.W.excIn K c_NoKind [.type "ValueError",.type "Exception",.type "BaseException",.type "object"] "ValueError.__new__"=true)
  (ZfA:PySem.W.clsIn K c_NoKind=some d_NoKind)
  (ZfB:PySem.W.typeIn K (.ref c_NoKind)=some (.type "type"))
  (ZfL:PySem.W.subIn K (.ref c_NoKind) (.type "BaseException")=some true)
  (Zdw:PySem.W.subIn K (.ref c_NoKind) (.ref c_NoKind)=some true)
 :
  ∃ a:Adr,∀ base:Heap,K.In base→Tx K mg base a:=by
 refine ⟨⟨c_CastError,c_NoKind⟩,fun base B=>?_⟩
 exact {
  toFns:=FF
  toBls:=NN
  Zob:=PySem.W.mg_of X G e_CastError
  Zma:=PySem.W.mg_of X G e_NoKind
  Zcq:=ZwU X G (ts:=[("must",w0_MARKS),("may",w1_MARKS)]) Zcq l_MARKS (by simp)
  ZaJ:=ZnI X G ZaJ
  ZaI:=ZnI X G ZaI
  Zaz:=ZnI X G Zaz
  ZbW:=Zzj X G B v_LENGTHS l_LENGTHS u_LENGTHS ⟨rfl,rfl,rfl⟩ rfl (Zp6 a0_LENGTHS_ b0_LENGTHS_ (Zp6 a1_LENGTHS_ b1_LENGTHS_ (Zp6 a2_LENGTHS_ b2_LENGTHS_ (Zp6 a3_LENGTHS_ b3_LENGTHS_ (Zp6 a4_LENGTHS_ b4_LENGTHS_ (Zp6 a5_LENGTHS_ b5_LENGTHS_ .nil))))))
  ZrP:=Zwy X G B v_STEPS l_STEPS u_STEPS ⟨rfl,rfl,rfl⟩ rfl (Zqu (ts:=[]) ka0 kb0 kc0 (by simp) (Zqu (ts:=[]) ka1 kb1 kc1 (by simp) (Zqu (ts:=[]) ka2 kb2 kc2 (by simp) (Zqu (ts:=[("in",sw3_0),("out",sw3_1)]) ka3 kb3 kc3 (by simp) (Zqu (ts:=[("inside",sw4_0)]) ka4 kb4 kc4 (by simp) .nil)))))
  ZbZ:=Ztz X G (us:=[(rv0,[("none",rt0),("none",ru0)]),(rv1,[("none",rt1),("may",ru1)]),(rv2,[("must",rt2),("must",ru2)]),(rv3,[("must",rt3),("may",ru3)]),(rv4,[("may",rt4),("may",ru4)])]) v_SERV l_SERV (by simp) (by
   intro u hu
   walk_at "pd"
   rcases hu with rfl | rfl | rfl | rfl | rfl
   ·exact ⟨by simp,_,_,_,lv0⟩
   ·exact ⟨by simp,_,_,_,lv1⟩
   ·exact ⟨by simp,_,_,_,lv2⟩
   ·exact ⟨by simp,_,_,_,lv3⟩
   ·exact ⟨by simp,_,_,_,lv4⟩)
  ZfI:=ZfI
  ZfB:=ZfB
  ZfL:=ZfL
  Zdw:=Zdw
  ZfA:=by rw [ZfA];rfl }
end KJ
open PySem PySem.W PyProof.Rows
set_option hygiene false in
local macro_rules | `(tactic| walk_at "fb") => `(tactic| (intro _ _ _ _ _ _ us hl; first | (obtain rfl := L3.ln0 hl; rfl) | (obtain ⟨_, _, rfl, g0⟩ := L3.ln1 hl; first | (obtain rfl := L3.ln0 g0; rfl) | (obtain ⟨_, _, rfl, g1⟩ := L3.ln1 g0; first | (obtain rfl := L3.ln0 g1; rfl) | (obtain ⟨_, _, rfl, g2⟩ := L3.ln1 g1; first | (obtain rfl := L3.ln0 g2; rfl) | (obtain ⟨_, _, rfl, g3⟩ := L3.ln1 g2; first | (obtain rfl := L3.ln0 g3; rfl) | (obtain ⟨_, _, rfl, g4⟩ := L3.ln1 g3; obtain rfl := L3.ln0 g4; rfl)))))))
set_option hygiene false in
local macro_rules | `(tactic| walk_at "fk") => `(tactic| (dsimp only [L2.KOf]; refine' L3.ZAb KX G ?e ?l ?c ?k ?b; (case e => k_is); (case l => k_is); (case c => k_is); (case k => k_is); (case b => walk_at "fb")))
set_option maxRecDepth 100000 in
set_option maxHeartbeats 0 in
theorem PySem.Challenge.cw_castwright_k29_whole_either_takes_both_holds : PySem.Challenge.rw_castwright_k29_whole_either_takes_both.Holds := by
 show KJ.rwS.Holds
 w_on;o_law
 refine holds_open (r:=KJ.rwS.row) (q:=KJ.vwS) (loose:=["LENGTHS","STEPS"]) (N:=4512)
  (Yf:=(kHook KJ.KF KJ.KL KJ.kfe).obs) (Ya:=(kHook KJ.KF KJ.KL KJ.kfe).val) (YP:=(kHook KJ.KF KJ.KL KJ.kfe).says)
  (Xt:=fun s=>xlAt KJ.vwS [] s&&recOk (RowW.records KJ.rwS.row.toRowW) s)
  (XP:=XL KJ.vwS []) ?hl (kHook KJ.KF KJ.KL KJ.kfe).of (kHook KJ.KF KJ.KL KJ.kfe).keeps ?g1 XL.keeps rfl rfl rfl ?g2 rfl
  ?g3 (by decide +kernel) ?g4 ?hw ?hc
 case g1=>exact fun s e=>xl_of s (Bool.and_eq_true_iff.mp e).1
 case g2=>exact fun s e=>recFacts_of (Bool.and_eq_true_iff.mp e).2
 case g3=>first | assumption | decide +kernel
 case g4=>exact ⟨rfl,rfl,rfl,rfl,rfl,by decide +kernel⟩
 case hw=>w_witness2
 case hl=>exact byRow2 "special-get-raises" KJ.lbf KJ.lbt
 k_fill
 refine L3.ZAf (l:=KJ.rwS) (k:=29) ⟨rfl,by decide,by decide⟩ rfl rfl (fun w h Y=>PySem.W.kIn_of Y) ?F
 case F =>
  intro w mg fa h KX G hmg
  have FF:KJ.Fns (L2.KOf KX) mg:=by constructor <;> walk_at "fk"
  have NN:KJ.Bls mg:=by constructor <;> exact PySem.W.mg_none_of KX G (by k_is)
  have T:∃ a:KJ.Adr,∀ base:Heap,(L2.KOf KX).In base→KJ.Tx (L2.KOf KX) mg base a:=by
   dsimp only [L2.KOf] at *
   refine' KJ.ZAn KX G FF NN ?e_CastError ?e_NoKind ?Zcq ?l_MARKS ?ZaJ ?ZaI ?Zaz ?v_LENGTHS ?l_LENGTHS ?u_LENGTHS ?a0_LENGTHS_ ?b0_LENGTHS_ ?a1_LENGTHS_ ?b1_LENGTHS_ ?a2_LENGTHS_ ?b2_LENGTHS_ ?a3_LENGTHS_ ?b3_LENGTHS_ ?a4_LENGTHS_ ?b4_LENGTHS_ ?a5_LENGTHS_ ?b5_LENGTHS_ ?v_STEPS ?l_STEPS ?u_STEPS ?ka0 ?kb0 ?kc0 ?ka1 ?kb1 ?kc1 ?ka2 ?kb2 ?kc2 ?ka3 ?kb3 ?kc3 ?ka4 ?kb4 ?kc4 ?v_SERV ?l_SERV ?lv0 ?lv1 ?lv2 ?lv3 ?lv4 ?ZfI ?ZfA ?ZfB ?ZfL ?Zdw
   (case e_CastError=>k_is)
   (case e_NoKind=>k_is)
   (case Zcq=>k_is)
   (case l_MARKS=>k_is)
   (case ZaJ=>k_is)
   (case ZaI=>k_is)
   (case Zaz=>k_is)
   (case v_LENGTHS=>k_is)
   (case l_LENGTHS=>k_is)
   (case u_LENGTHS=>decide)
   (case a0_LENGTHS_=>exact rfl)
   (case b0_LENGTHS_=>exact rfl)
   (case a1_LENGTHS_=>exact rfl)
   (case b1_LENGTHS_=>exact rfl)
   (case a2_LENGTHS_=>exact rfl)
   (case b2_LENGTHS_=>exact rfl)
   (case a3_LENGTHS_=>exact rfl)
   (case b3_LENGTHS_=>exact rfl)
   (case a4_LENGTHS_=>exact rfl)
   (case b4_LENGTHS_=>exact rfl)
   (case a5_LENGTHS_=>exact rfl)
   (case b5_LENGTHS_=>exact rfl)
   (case v_STEPS=>k_is)
   (case l_STEPS=>k_is)
   (case u_STEPS=>decide)
   (case ka0=>exact rfl)
   (case kb0=>exact rfl)
   (case kc0=>k_is)
   (case ka1=>exact rfl)
   (case kb1=>exact rfl)
   (case kc1=>k_is)
   (case ka2=>exact rfl)
   (case kb2=>exact rfl)
   (case kc2=>k_is)
   (case ka3=>exact rfl)
   (case kb3=>exact rfl)
   (case kc3=>k_is)
   (case ka4=>exact rfl)
   (case kb4=>exact rfl)
   (case kc4=>k_is)
   (case v_SERV=>k_is)
   (case l_SERV=>k_is)
   (case lv0=>k_is)
   (case lv1=>k_is)
   (case lv2=>k_is)
   (case lv3=>k_is)
   (case lv4=>k_is)
   (case ZfI=>k_exc)
   (case ZfA=>k_is)
   (case ZfB=>k_is)
   (case ZfL=>k_is)
   (case Zdw=>k_is)
  obtain ⟨a,T⟩:=T
  obtain ⟨f,fd,hm,F,_⟩:=FF.ZAL
  have e0:=hmg.symm.trans hm
  cases e0
  walk_at "ps"
  exact ⟨_,fun s u=>.of_eq rfl,fun base kb nb=>KJ.ZAI (T base kb) F⟩
