import PyProof.Rows.All
import Wide.All
import Wide.FinOn
import Lean
import PyProof.EqAt
import PyProof.EqKinds
import PyProof.TupleCall
import PyProof.AttrMissHeap
import KE.KDictOf
import PyProof.SetRoads
import PyProof.CollectWalk
import PyProof.ZipIter
import PyProof.TupleIter
import PyProof.NeKinds
import PyProof.DictStraight
import PyProof.WalksMore
import KE.KDictList
import KE.KSortTup
import KE.KItemsList
import KE.KxBytes
import OpenK.KRaise
import Open.Recs
import OpenK.KDescr
import OpenK.KGet
import OpenK.KMore
import Open.Fast
import OpenK.KWalk
import KE.KTab
import OpenK.KFacts
import KE.KSortAsk
import KE.KFromBytes
import OpenK.KCall
import Open.Claim
import KE.KIsAll
import OpenK.KMake
import OpenK.KLine
import Open.Line
import Open.Head
import Open.Strs
import Open.FastLooks
import OpenK.KOwn
import KE.KItem
import OpenK.Peek
import OpenK.KCls
import Open.FastTabs
import Open.Row
import PySem.Challenge.RW_castwright_k61_values_and_kinds
set_option Elab.async false
set_option linter.all false
set_option maxRecDepth 100000
set_option maxHeartbeats 4000000
set_option hygiene false in
local macro_rules | `(tactic| walk_at "pa")=>`(tactic| (intro pins s σ H x y v u Q I rx ry h))
set_option hygiene false in
local macro_rules | `(tactic| walk_at "pb")=>`(tactic| (refine wpAny_bind (wpAny_bind (wpAny_askSetting (wpAny_pure ?_)))))
set_option hygiene false in
local macro_rules | `(tactic| walk_at "pc")=>`(tactic| (have J:Inv X pins σ (upd H2 r (.lst (zs.map V.str))) { s2 with heap:=s'.heap,toks:=s'.toks }:=I5.laid (t':=s'.toks) kall hr2 (show ObjOk X.prog X.w _ s'.heap r (.lst (zs.map V.str)) from ⟨by rw [List.length_map];exact hzl,vs,en,ZiE hv,hget⟩)))
set_option hygiene false in
local macro_rules | `(tactic| walk_at "pd")=>`(tactic| (simp only [List.mem_cons,List.not_mem_nil,or_false,not_or]))
set_option hygiene false in
local macro_rules | `(tactic| walk_at "pe")=>`(tactic| (refine ⟨.ref r,_,⟨J.ok,by rw [hos];exact J.os,by rw [hg];exact J.bare,J.base,J.loc,J.cell,J.free,J.freeC,J.pin,J.hok,J.len⟩,rfl,q2 zs r (hp.nodup_iff.mpr hC.nd) hs (fun x=>?_) (I5.hok.fresh hr2)⟩))
set_option hygiene false in
local macro_rules | `(tactic| walk_at "pf")=>`(tactic| (simp only [ZcB Zab,Option.bind_some,Zcn,Option.map_some,Zaf]))
set_option hygiene false in
local macro_rules | `(tactic| walk_at "pg")=>`(tactic| (simp only [Bool.and_eq_true] at h'))
set_option hygiene false in
local macro_rules | `(tactic| walk_at "ph")=>`(tactic| (refine ⟨s1.heap.objs.size,[s1.heap.objs.size],_,_,H1,rfl,I1.kept (t':=s1.toks) fun b o e=>Heap.get?_push_of_some _ e,Zla a _,⟨_,Heap.get?_push_size _ rfl,rfl,rfl⟩,fun b hb=>?_,q⟩))
set_option hygiene false in
local macro_rules | `(tactic| walk_at "pi")=>`(tactic| (refine ⟨s1.heap.objs.size,[s1.heap.objs.size],_,_,H1,rfl,I1.kept (t':=s1.toks) fun b o e=>Heap.get?_push_of_some _ e,Zjm a _,⟨_,Heap.get?_push_size _ rfl,rfl,rfl⟩,fun b hb=>?_,q⟩))
set_option hygiene false in
local macro_rules | `(tactic| walk_at "pj")=>`(tactic| (intro X hP hw hK hc i pins s σ H E I hf st hg))
set_option hygiene false in
local macro_rules | `(tactic| walk_at "pk")=>`(tactic| (refine fin ω G' hω (by rw [h1,List.flatMap_cons,List.map_append,List.append_assoc]) fun b hb u hu=>h2 b hb u ?_))
set_option hygiene false in
local macro_rules | `(tactic| walk_at "pl")=>`(tactic| (show wpAny (model prog w) _ (if bt w=true then _ else _) _ _ s))
set_option hygiene false in
local macro_rules | `(tactic| walk_at "pm")=>`(tactic| (simp only [b1,b3,Bool.not_true,Bool.false_eq_true,if_false]))
set_option hygiene false in
local macro_rules | `(tactic| walk_at "pn")=>`(tactic| (have e2:its'.toArray.size=ys.length:=by rw [List.size_toArray];omega))
set_option hygiene false in
local macro_rules | `(tactic| walk_at "po")=>`(tactic| (obtain ⟨f0,f1,f2,f3,f4,f5⟩:=hf it (by simp)))
set_option hygiene false in
local macro_rules | `(tactic| walk_at "pp")=>`(tactic| (have e1:its.toArray.size=ws.length:=by rw [List.size_toArray];omega))
set_option hygiene false in
local macro_rules | `(tactic| walk_at "pq")=>`(tactic| (simp only [List.set_cons_zero,List.set_cons_succ]))
set_option hygiene false in
local macro_rules | `(tactic| walk_at "pr")=>`(tactic| (rcases List.mem_cons.mp h with rfl | h))
set_option hygiene false in
local macro_rules | `(tactic| walk_at "ps")=>`(tactic| (rcases List.mem_cons.mp hy with rfl | hy))
set_option hygiene false in
local macro_rules | `(tactic| walk_at "pt")=>`(tactic| (exact I1.fpOk (Nat.le_refl _) (I1.hok.fresh (Nat.le_refl _))))
set_option hygiene false in
local macro_rules | `(tactic| walk_at "pu")=>`(tactic| (refine wpAny_bind (wpAny_setState_of ho hd Tb.ft ?_)))
set_option hygiene false in
local macro_rules | `(tactic| walk_at "pv")=>`(tactic| (obtain ⟨oc,od,kV,doc,pm,an,cdv,ct,osl,rfl,lk,hcd⟩:=F.ex))
set_option hygiene false in
local macro_rules | `(tactic| walk_at "pw")=>`(tactic| (refine wpAny_bind (wpAny_setState_of ho hd T.ft ?_)))
set_option hygiene false in
local macro_rules | `(tactic| walk_at "px")=>`(tactic| (refine wpAny_bind (wpAny_setField hi rfl (by simp) ?_)))
set_option hygiene false in
local macro_rules | `(tactic| walk_at "py")=>`(tactic| (intro pins s σ H xs us Q I r h))
namespace L2
open PySem PySem.Spec PyProof.Rows
def Zf4 (s:Stmt):Arguments:=match s with
 | .FunctionDef _ a _ _ _ _ _ _ _ _=>a
 | _=>{ posonlyargs:=[],args:=[],vararg:=none,kwonlyargs:=[],kw_defaults:=[],kwarg:=none,defaults:=[] }
def Zc2 (s:Stmt):List Stmt:=match s with
 | .FunctionDef _ _ b _ _ _ _ _ _ _=>b
 | _=>[]
def Zai (s:Stmt):Scope:=match s with
 | .FunctionDef _ _ _ _ _ _ sc _ _ _=>sc
 | _=>{ kind:=.function,names:=[],isGenerator:=false,isCoroutine:=false }
end L2
namespace KO
open PySem PySem.Spec PyProof.Rows L2
 def top (i:Nat):Stmt:=PySem.Challenge.pw_castwright_k61_values_and_kinds.main.body.getD i (.Pass ⟨0,0,0,0⟩)
abbrev pwS:Program:=PySem.Challenge.pw_castwright_k61_values_and_kinds
abbrev rwS:PySem.W.OpenLaw:=PySem.Challenge.rw_castwright_k61_values_and_kinds
def vwS:Program:=PySem.W.view pwS [1,2,3,5,6,7,8,9,10,11,12,13,14,15,16,17,18,19,20,21,22,23,24,26,28,29,30,31,32,33,34,35,36,37,38,39,40,42,43,44,45,46,47,48,49,50,51,52,53,54,55]
abbrev en (P:Params) (k:Str) (t:Tok) (v:Value):DictEntry:=⟨PyData.keyHash P k,.str k t,v⟩
abbrev co (n:Str) (a l g r f e:Nat) (x y:Value) (z t u:Nat):Obj:=.mk (.type "code") Option.none (.fields #[.str n a,.str n (a+1),.str "/claim/cut.py" (a+2),.int l 0,.int g 0,.int 0 0,.int 0 0,.int 3 0,.ref r,.bool Bool.true,.int f 0,.ref e,.none,x,y,.ref z,.int t 0,.int l 0,.str "/claim/cut.py" u]) #[]
abbrev fo (n:Str) (s:Stmt) (q:Str) (t c:Nat):Obj:=.mk (.type "function") Option.none (.func (PySem.W.fnOf n n (Zf4 s) (Zc2 s) (Zai s) .none .none .none (.str q t) Option.none (.ref c) .none)) #[]
def KF:Params→PySem.W.Frag:=fun P =>
 (nat_lit 2,.mk .none Option.none (.dict #[]) #[]) ::
 (nat_lit 3,.mk (.type "dict") Option.none (.dict #[en P "__name__" 165 (.str "law_castwright_k61_values_and_kinds" 473),en P "__doc__" 166 .none,en P "__package__" 167 .none,en P "__loader__" 168 (.builtin "__main__.__loader__#opaque"),en P "__spec__" 169 .none,en P "__annotations__" 170 (.ref 6),en P "__builtins__" 171 (.ref 4),en P "__file__" 173 (.str "/claim/cut.py" 172),en P "__cached__" 174 .none,en P "CastError" 206 (.ref 24),en P "NoKind" 222 (.ref 37),en P "NoValue" 238 (.ref 49),en P "MOST_KINDS" 242 (.int 40 241),en P "MOST_DEPTH" 244 (.int 8 243),en P "MOST_LETTERS" 246 (.int 8 245),en P "MARKS" 249 (.ref 52),en P "LENGTHS" 268 (.ref 53),en P "entry_of" 277 (.ref 60),en P "names_of" 283 (.ref 65),en P "is_data" 289 (.ref 70),en P "check_kind" 296 (.ref 77),en P "is_kind" 303 (.ref 84),en P "is_made_of" 309 (.ref 89),en P "layer_within" 319 (.ref 96),en P "kinds_in" 328 (.ref 103),en P "kinds_within" 334 (.ref 108),en P "has_form" 341 (.ref 115),en P "are_fields" 347 (.ref 120),en P "is_field" 354 (.ref 127),en P "is_name" 360 (.ref 132),en P "is_small_letter" 367 (.ref 139),en P "names_rise" 373 (.ref 144),en P "behind" 383 (.ref 151),en P "MOST_VALUES" 387 (.int 100 386),en P "MOST_VALUE_DEPTH" 389 (.int 10 388),en P "fits" 397 (.ref 158),en P "misfit" 405 (.ref 165),en P "check_data_kind" 412 (.ref 172),en P "check_value" 419 (.ref 179),en P "values_within" 425 (.ref 184),en P "has_value_form" 431 (.ref 189),en P "is_value_field" 438 (.ref 196),en P "head_of" 445 (.ref 203),en P "misfit_of" 453 (.ref 210),en P "misfit_of_row" 463 (.ref 217),en P "misfit_of_field" 472 (.ref 224),en P "_law_cell_at" 482 (.ref 231),en P "_law_state" 491 (.ref 238),en P "_law_choice" 501 (.ref 245),en P "_law_row" 515 (.ref 252),en P "_law_kind" 527 (.ref 259),en P "_law_drawn_kind" 539 (.ref 266),en P "_law_value" 550 (.ref 273),en P "_law_value_of" 562 (.ref 280),en P "_law_turned" 573 (.ref 287),en P "_law_drawn_value" 587 (.ref 294),en P "_law_values" 593 (.ref 299),en P "_law_same" 601 (.ref 306),en P "_law_misfit" 607 (.ref 311),en P "law" 613 (.ref 316)] 60) #[]) ::
 (nat_lit 15,.mk (.type "tuple") Option.none (.seq #[.type "ValueError"]) #[]) ::
 (nat_lit 22,.mk (.type "tuple") Option.none (.seq #[]) #[]) ::
 (nat_lit 23,.mk (.type "dict") Option.none (.dict #[en P "__module__" 196 (.str "castwright.errors" 187),en P "__firstlineno__" 200 (.int 2 199),en P "__static_attributes__" 201 (.ref 22),en P "__weakref__" 203 (.ref 25),en P "__doc__" 204 .none] 3) #[]) ::
 (nat_lit 24,.mk (.type "type") Option.none (.cls (.mk "CastError" [.type "ValueError"] [.ref 24,.type "ValueError",.type "Exception",.type "BaseException",.type "object"] 23 "CastError" Bool.true [] [.ref 37,.ref 49] Bool.false Option.none Bool.false)) #[Option.some (.ref 15),Option.none,Option.some (.str "CastError" 189),Option.some (.str "CastError" 197),Option.some (.builtin "ValueError.__new__"),Option.some (.bool Bool.true)]) ::
 (nat_lit 25,.mk (.type "getset_descriptor") Option.none (.fields #[.str "__weakref__" 202,.ref 24,.builtin "ExceptionGroup.__weakref__",.none]) #[]) ::
 (nat_lit 28,.mk (.type "tuple") Option.none (.seq #[.ref 24]) #[]) ::
 (nat_lit 35,.mk (.type "tuple") Option.none (.seq #[]) #[]) ::
 (nat_lit 36,.mk (.type "dict") Option.none (.dict #[en P "__module__" 214 (.str "castwright.errors" 187),en P "__firstlineno__" 218 (.int 4 217),en P "__static_attributes__" 219 (.ref 35),en P "__doc__" 220 .none] 2) #[]) ::
 (nat_lit 37,.mk (.type "type") Option.none (.cls (.mk "NoKind" [.ref 24] [.ref 37,.ref 24,.type "ValueError",.type "Exception",.type "BaseException",.type "object"] 36 "NoKind" Bool.true [] [] Bool.false Option.none Bool.false)) #[Option.some (.ref 28),Option.none,Option.some (.str "NoKind" 207),Option.some (.str "NoKind" 215),Option.some (.builtin "ValueError.__new__"),Option.some (.bool Bool.true)]) ::
 (nat_lit 40,.mk (.type "tuple") Option.none (.seq #[.ref 24]) #[]) ::
 (nat_lit 47,.mk (.type "tuple") Option.none (.seq #[]) #[]) ::
 (nat_lit 48,.mk (.type "dict") Option.none (.dict #[en P "__module__" 230 (.str "castwright.errors" 187),en P "__firstlineno__" 234 (.int 6 233),en P "__static_attributes__" 235 (.ref 47),en P "__doc__" 236 .none] 2) #[]) ::
 (nat_lit 49,.mk (.type "type") Option.none (.cls (.mk "NoValue" [.ref 24] [.ref 49,.ref 24,.type "ValueError",.type "Exception",.type "BaseException",.type "object"] 48 "NoValue" Bool.true [] [] Bool.false Option.none Bool.false)) #[Option.some (.ref 40),Option.none,Option.some (.str "NoValue" 223),Option.some (.str "NoValue" 231),Option.some (.builtin "ValueError.__new__"),Option.some (.bool Bool.true)]) ::
 (nat_lit 52,.mk (.type "tuple") Option.none (.seq #[.str "must" 247,.str "may" 248]) #[]) ::
 (nat_lit 53,.mk (.type "dict") Option.none (.dict #[en P "any" 250 (.int 1 251),en P "num" 252 (.int 1 253),en P "truth" 254 (.int 1 255),en P "to" 256 (.int 3 257),en P "box" 258 (.int 2 259),en P "row" 260 (.int 3 261)] 6) #[]) ::
 (nat_lit 59,co "entry_of" 269 14 2 54 181 55 (.ref 56) (.ref 57) 58 275 276) ::
 (nat_lit 60,fo "entry_of" (top 10) "castwright.kinds" 239 59) ::
 (nat_lit 64,co "names_of" 278 19 1 61 181 62 .none .none 63 281 282) ::
 (nat_lit 65,fo "names_of" (top 11) "castwright.kinds" 239 64) ::
 (nat_lit 69,co "is_data" 284 21 1 66 181 67 .none .none 68 287 288) ::
 (nat_lit 70,fo "is_data" (top 12) "castwright.kinds" 239 69) ::
 (nat_lit 76,co "check_kind" 290 24 1 71 181 72 (.ref 73) (.ref 74) 75 294 295) ::
 (nat_lit 77,fo "check_kind" (top 13) "castwright.kinds" 239 76) ::
 (nat_lit 83,co "is_kind" 297 27 1 78 181 79 (.ref 80) (.ref 81) 82 301 302) ::
 (nat_lit 84,fo "is_kind" (top 14) "castwright.kinds" 239 83) ::
 (nat_lit 88,co "is_made_of" 304 29 5 85 181 86 .none .none 87 307 308) ::
 (nat_lit 89,fo "is_made_of" (top 15) "castwright.kinds" 239 88) ::
 (nat_lit 95,co "layer_within" 310 42 2 90 181 91 (.ref 92) (.ref 93) 94 317 318) ::
 (nat_lit 96,fo "layer_within" (top 16) "castwright.kinds" 239 95) ::
 (nat_lit 102,co "kinds_in" 320 47 1 97 181 98 (.ref 99) (.ref 100) 101 326 327) ::
 (nat_lit 103,fo "kinds_in" (top 17) "castwright.kinds" 239 102) ::
 (nat_lit 107,co "kinds_within" 329 52 1 104 181 105 .none .none 106 332 333) ::
 (nat_lit 108,fo "kinds_within" (top 18) "castwright.kinds" 239 107) ::
 (nat_lit 114,co "has_form" 335 56 1 109 181 110 (.ref 111) (.ref 112) 113 339 340) ::
 (nat_lit 115,fo "has_form" (top 19) "castwright.kinds" 239 114) ::
 (nat_lit 119,co "are_fields" 342 62 1 116 181 117 .none .none 118 345 346) ::
 (nat_lit 120,fo "are_fields" (top 20) "castwright.kinds" 239 119) ::
 (nat_lit 126,co "is_field" 348 66 1 121 181 122 (.ref 123) (.ref 124) 125 352 353) ::
 (nat_lit 127,fo "is_field" (top 21) "castwright.kinds" 239 126) ::
 (nat_lit 131,co "is_name" 355 70 1 128 181 129 .none .none 130 358 359) ::
 (nat_lit 132,fo "is_name" (top 22) "castwright.kinds" 239 131) ::
 (nat_lit 138,co "is_small_letter" 361 74 1 133 181 134 (.ref 135) (.ref 136) 137 365 366) ::
 (nat_lit 139,fo "is_small_letter" (top 23) "castwright.kinds" 239 138) ::
 (nat_lit 143,co "names_rise" 368 76 1 140 181 141 .none .none 142 371 372) ::
 (nat_lit 144,fo "names_rise" (top 24) "castwright.kinds" 239 143) ::
 (nat_lit 150,co "behind" 376 79 2 145 181 146 (.ref 147) (.ref 148) 149 381 382) ::
 (nat_lit 151,fo "behind" (top 26) "castwright.known" 374 150) ::
 (nat_lit 157,co "fits" 390 84 2 152 181 153 (.ref 154) (.ref 155) 156 395 396) ::
 (nat_lit 158,fo "fits" (top 30) "castwright.data" 384 157) ::
 (nat_lit 164,co "misfit" 398 86 2 159 181 160 (.ref 161) (.ref 162) 163 403 404) ::
 (nat_lit 165,fo "misfit" (top 31) "castwright.data" 384 164) ::
 (nat_lit 171,co "check_data_kind" 406 90 1 166 181 167 (.ref 168) (.ref 169) 170 410 411) ::
 (nat_lit 172,fo "check_data_kind" (top 32) "castwright.data" 384 171) ::
 (nat_lit 178,co "check_value" 413 93 1 173 181 174 (.ref 175) (.ref 176) 177 417 418) ::
 (nat_lit 179,fo "check_value" (top 33) "castwright.data" 384 178) ::
 (nat_lit 183,co "values_within" 420 96 1 180 181 181 .none .none 182 423 424) ::
 (nat_lit 184,fo "values_within" (top 34) "castwright.data" 384 183) ::
 (nat_lit 188,co "has_value_form" 426 98 1 185 181 186 .none .none 187 429 430) ::
 (nat_lit 189,fo "has_value_form" (top 35) "castwright.data" 384 188) ::
 (nat_lit 195,co "is_value_field" 432 104 1 190 181 191 (.ref 192) (.ref 193) 194 436 437) ::
 (nat_lit 196,fo "is_value_field" (top 36) "castwright.data" 384 195) ::
 (nat_lit 202,co "head_of" 439 106 1 197 181 198 (.ref 199) (.ref 200) 201 443 444) ::
 (nat_lit 203,fo "head_of" (top 37) "castwright.data" 384 202) ::
 (nat_lit 209,co "misfit_of" 446 110 2 204 181 205 (.ref 206) (.ref 207) 208 451 452) ::
 (nat_lit 210,fo "misfit_of" (top 38) "castwright.data" 384 209) ::
 (nat_lit 216,co "misfit_of_row" 454 116 2 211 181 212 (.ref 213) (.ref 214) 215 461 462) ::
 (nat_lit 217,fo "misfit_of_row" (top 39) "castwright.data" 384 216) ::
 (nat_lit 223,co "misfit_of_field" 464 122 3 218 181 219 (.ref 220) (.ref 221) 222 470 471) ::
 (nat_lit 224,fo "misfit_of_field" (top 40) "castwright.data" 384 223) ::
 (nat_lit 230,co "_law_cell_at" 475 129 2 225 181 226 (.ref 227) (.ref 228) 229 480 481) ::
 (nat_lit 231,fo "_law_cell_at" (top 42) "law_castwright_k61_values_and_kinds" 473 230) ::
 (nat_lit 237,co "_law_state" 483 133 2 232 181 233 (.ref 234) (.ref 235) 236 489 490) ::
 (nat_lit 238,fo "_law_state" (top 43) "law_castwright_k61_values_and_kinds" 473 237) ::
 (nat_lit 244,co "_law_choice" 492 138 2 239 181 240 (.ref 241) (.ref 242) 243 499 500) ::
 (nat_lit 245,fo "_law_choice" (top 44) "law_castwright_k61_values_and_kinds" 473 244) ::
 (nat_lit 251,co "_law_row" 502 147 4 246 181 247 (.ref 248) (.ref 249) 250 513 514) ::
 (nat_lit 252,fo "_law_row" (top 45) "law_castwright_k61_values_and_kinds" 473 251) ::
 (nat_lit 258,co "_law_kind" 516 156 4 253 181 254 (.ref 255) (.ref 256) 257 525 526) ::
 (nat_lit 259,fo "_law_kind" (top 46) "law_castwright_k61_values_and_kinds" 473 258) ::
 (nat_lit 265,co "_law_drawn_kind" 528 167 4 260 181 261 (.ref 262) (.ref 263) 264 537 538) ::
 (nat_lit 266,fo "_law_drawn_kind" (top 47) "law_castwright_k61_values_and_kinds" 473 265) ::
 (nat_lit 272,co "_law_value" 540 174 2 267 181 268 (.ref 269) (.ref 270) 271 548 549) ::
 (nat_lit 273,fo "_law_value" (top 48) "law_castwright_k61_values_and_kinds" 473 272) ::
 (nat_lit 279,co "_law_value_of" 551 186 2 274 181 275 (.ref 276) (.ref 277) 278 560 561) ::
 (nat_lit 280,fo "_law_value_of" (top 49) "law_castwright_k61_values_and_kinds" 473 279) ::
 (nat_lit 286,co "_law_turned" 563 200 2 281 181 282 (.ref 283) (.ref 284) 285 571 572) ::
 (nat_lit 287,fo "_law_turned" (top 50) "law_castwright_k61_values_and_kinds" 473 286) ::
 (nat_lit 293,co "_law_drawn_value" 574 212 3 288 181 289 (.ref 290) (.ref 291) 292 585 586) ::
 (nat_lit 294,fo "_law_drawn_value" (top 51) "law_castwright_k61_values_and_kinds" 473 293) ::
 (nat_lit 298,co "_law_values" 588 225 1 295 181 296 .none .none 297 591 592) ::
 (nat_lit 299,fo "_law_values" (top 52) "law_castwright_k61_values_and_kinds" 473 298) ::
 (nat_lit 305,co "_law_same" 594 229 2 300 181 301 (.ref 302) (.ref 303) 304 599 600) ::
 (nat_lit 306,fo "_law_same" (top 53) "law_castwright_k61_values_and_kinds" 473 305) ::
 (nat_lit 310,co "_law_misfit" 602 235 2 307 181 308 .none .none 309 605 606) ::
 (nat_lit 311,fo "_law_misfit" (top 54) "law_castwright_k61_values_and_kinds" 473 310) ::
 (nat_lit 315,co "law" 608 256 1 312 181 313 .none .none 314 611 612) ::
 (nat_lit 316,fo "law" (top 55) "law_castwright_k61_values_and_kinds" 473 315) ::
 []
def KL:List Addr:=2::3::15::22::23::24::25::28::35::36::37::40::47::48::49::52::53::59::60::64::65::69::70::76::77::83::84::88::89::95::96::102::103::107::108::114::115::119::120::126::127::131::132::138::139::143::144::150::151::157::158::164::165::171::172::178::179::183::184::188::189::195::196::202::203::209::210::216::217::223::224::230::231::237::238::244::245::251::252::258::259::265::266::272::273::279::280::286::287::293::294::298::299::305::306::310::311::315::316::[]
theorem kfe (P:Params):KL=(KF P).map (·.1):=by kernel_rfl
section
open PySem.W
abbrev OE (w:World):=openEnds treeTable pwS w 4180
abbrev FS (s:Shared):=openSeen vwS ["LENGTHS"] (importedModules pwS.main.body) (fun s=>xlAt vwS [] s&&recOk (RowW.records rwS.row.toRowW) s) true s
abbrev OB (s:Shared):=(kHook KF KL kfe).obs s
abbrev VA (w:World):=(kHook KF KL kfe).val w
abbrev GD:=openGood vwS ["LENGTHS"]
abbrev LB (w:World):Prop:=(OE w).map (fun s=>(FS s,OB s))=some (GD,VA w)
theorem mp2 {α β γ:Type} {o:Option α} {f:α→β×γ} {g:β×γ} (h1:o.map (fun s=>(f s).1)=some g.1) (h2:o.map (fun s=>(f s).2)=some g.2):o.map f=some g:=by
 cases o with
 | none=>cases h1
 | some s=>exact congrArg some (Prod.ext (Option.some.inj h1) (Option.some.inj h2))
theorem ZAr (w:World):(OE (w.withFollow "special-get-raises" false)).map (fun s=>OB s)=some (VA (w.withFollow "special-get-raises" false)):=by kernel_rfl
theorem ZAN (w:World):(OE (w.withFollow "special-get-raises" false)).map (fun s=>FS s)=some (GD):=by kernel_rfl
theorem lbf (w:World):LB (w.withFollow "special-get-raises" false):=mp2 (f:=fun s=>(FS s,OB s)) (g:=(GD,VA (w.withFollow "special-get-raises" false))) (ZAN w) (ZAr w)
theorem ZAn (w:World):(OE (w.withFollow "special-get-raises" true)).map (fun s=>OB s)=some (VA (w.withFollow "special-get-raises" true)):=by kernel_rfl
theorem ZAm (w:World):(OE (w.withFollow "special-get-raises" true)).map (fun s=>FS s)=some (GD):=by kernel_rfl
theorem lbt (w:World):LB (w.withFollow "special-get-raises" true):=mp2 (f:=fun s=>(FS s,OB s)) (g:=(GD,VA (w.withFollow "special-get-raises" true))) (ZAm w) (ZAn w)
end
end KO
namespace L2
open PySem PySem.Spec PyProof.Rows
abbrev Key:=Sum Int Str
def ZkE:Key→Value→Bool
 | .inl k,v=>Value.isInt k v
 | .inr x,v=>Value.isStrOf x v
def ZAO (w:World):Key→Int
 | .inl k=>hashInt k
 | .inr x=>hashStr w x
theorem Zbc:∀ {k:Key} {v:Value},ZkE k v=true→(∃ i t,k=Sum.inl i∧v=Value.int i t)∨(∃ x t,k=Sum.inr x∧v=Value.str x t)
 | .inl i,v,h=>by
  obtain ⟨t,e⟩:=Value.isInt_shape (k:=i) (v:=v) h
  exact .inl ⟨i,t,rfl,e⟩
 | .inr x,v,h=>by
  obtain ⟨t,e⟩:=Value.isStrOf_shape (x:=x) (v:=v) h
  exact .inr ⟨x,t,rfl,e⟩
theorem ZwN (a b:Int):decide ((Sum.inl a:Key)=Sum.inl b)=(a==b):=by
 by_cases e:a=b
 ·subst e;simp
 ·have h:¬ (Sum.inl a:Key)=Sum.inl b:=fun q=>e (Sum.inl.inj q)
  rw [decide_eq_false h]
  exact (beq_eq_false_iff_ne.mpr e).symm
theorem Zx0 (a b:Str):decide ((Sum.inr a:Key)=Sum.inr b)=decide (a=b):=by
 by_cases e:a=b
 ·subst e;simp
 ·have h:¬ (Sum.inr a:Key)=Sum.inr b:=fun q=>e (Sum.inr.inj q)
  rw [decide_eq_false h,decide_eq_false e]
theorem Zxe (a:Int) (b:Str):decide ((Sum.inl a:Key)=Sum.inr b)=false:=decide_eq_false (fun q=>nomatch q)
theorem Zxy (a:Str) (b:Int):decide ((Sum.inr a:Key)=Sum.inl b)=false:=decide_eq_false (fun q=>nomatch q)
def ZaC (prog:Program) (w:World):PySem.KeyKind prog w Key where
 is:=ZkE
 hash:=ZAO w
 inj:=fun v a b ha hb=>by
  rcases Zbc ha with ⟨i,t,rfl,rfl⟩ | ⟨x,t,rfl,rfl⟩
  ·rcases Zbc hb with ⟨j,u,rfl,e⟩ | ⟨y,u,rfl,e⟩
   ·injection e with e1 _;rw [e1]
   ·exact nomatch e
  ·rcases Zbc hb with ⟨j,u,rfl,e⟩ | ⟨y,u,rfl,e⟩
   ·exact nomatch e
   ·injection e with e1 _;rw [e1]
 byValue:=fun k v h=>by
  rcases Zbc h with ⟨i,t,rfl,rfl⟩ | ⟨x,t,rfl,rfl⟩ <;> rfl
 pyHash:=fun hv h=>by
  rcases Zbc hv with ⟨i,t,rfl,rfl⟩ | ⟨x,t,rfl,rfl⟩
  ·exact wpAny_pyHash_int h
  ·exact wpAny_pyHash_str h
 eqBool:=fun hu hv h=>by
  rcases Zbc hu with ⟨i,t,rfl,rfl⟩ | ⟨x,t,rfl,rfl⟩
  ·rcases Zbc hv with ⟨j,u,rfl,rfl⟩ | ⟨y,u,rfl,rfl⟩
   ·rw [ZwN] at h;exact wpAny_eqBool_int h
   ·rw [Zxe] at h;exact SeqAt.EqAt.int_str i t y u _ _ _ _ h
  ·rcases Zbc hv with ⟨j,u,rfl,rfl⟩ | ⟨y,u,rfl,rfl⟩
   ·rw [Zxy] at h;exact SeqAt.EqAt.str_int x t j u _ _ _ _ h
   ·rw [Zx0] at h;exact wpAny_eqBool_str h
 «strs»:=fun k x t v h=>by
  rcases Zbc h with ⟨i,u,rfl,e⟩ | ⟨y,u,rfl,e⟩
  ·exact nomatch e
  ·injection e with e1 _
   subst e1
   cases v <;> rfl
inductive V where
 | non | bl (b:Bool) | int (i:Int) | str (x:Str) | byt (b:Array UInt8) | flt (b:UInt64) | ref (a:Addr) | ty (n:String)
 deriving DecidableEq
def RelV:V→Value→Prop
 | .non,u=>u=Value.none
 | .bl b,u=>u=Value.bool b
 | .int i,u=>∃ t,u=Value.int i t
 | .str x,u=>∃ t,u=Value.str x t
 | .byt b,u=>∃ t,u=Value.bytes b t
 | .flt b,u=>∃ t,u=Value.float b t
 | .ref a,u=>u=Value.ref a
 | .ty n,u=>u=Value.type n
abbrev Vals:List V→List Value→Prop:=Paired RelV
theorem Vals.length {xs:List V} {us:List Value} (r:Vals xs us):xs.length=us.length:=Paired.length r
theorem Vals.get:∀ {xs:List V} {us:List Value} {i:Nat} {x:V},Vals xs us→xs[i]?=some x→∃ u,us[i]?=some u∧RelV x u
 | _,_,_,_,.nil,e=>by simp at e
 | _,_,0,_,.cons r _,e=>by simp at e;subst e;exact ⟨_,rfl,r⟩
 | _,_,i+1,x,.cons _ t,e=>by
  obtain ⟨u,h1,h2⟩:=Vals.get (i:=i) (x:=x) t (by simpa using e)
  exact ⟨u,by simpa using h1,h2⟩
theorem Vals.set {x:V} {u:Value} (r:RelV x u):∀ {xs:List V} {us:List Value} (i:Nat),Vals xs us→Vals (xs.set i x) (us.set i u)
 | _,_,_,.nil=>.nil
 | _,_,0,.cons _ t=>.cons r t
 | _,_,i+1,.cons q t=>.cons q (Vals.set r i t)
theorem Vals.append:∀ {xs ys:List V} {us ws:List Value},Vals xs us→Vals ys ws→Vals (xs++ys) (us++ws)
 | _,_,_,_,.nil,s=>s
 | _,_,_,_,.cons r t,s=>.cons r (Vals.append t s)
theorem Vals.take:∀ {xs:List V} {us:List Value} (n:Nat),Vals xs us→Vals (xs.take n) (us.take n)
 | _,_,0,_=>.nil
 | _,_,_+1,.nil=>.nil
 | _,_,n+1,.cons r t=>.cons r (Vals.take n t)
theorem Vals.drop:∀ {xs:List V} {us:List Value} (n:Nat),Vals xs us→Vals (xs.drop n) (us.drop n)
 | _,_,0,r=>r
 | _,_,_+1,.nil=>.nil
 | _,_,n+1,.cons _ t=>Vals.drop n t
def ZAd:Option V→Option Value→Prop
 | some v,some u=>RelV v u
 | none,none=>True
 | _,_=>False
def KV {κ:Type}:List (κ×V)→List (κ×Value)→Prop:=Paired fun (p:κ×V) (q:κ×Value)=>p.1=q.1∧RelV p.2 q.2
def kV:Key→V
 | .inl i=>.int i
 | .inr x=>.str x
inductive HO where
 | lst (xs:List V)
 | tup (xs:List V)
 | dK (kvs:List (Key×V)) | dT (kvs:List (List Key×V))
 | set (S:Int→Bool) (n:Nat)
 | ins (C dx:Addr) (fs:List (Str×V))
 | own (x:Addr)
 | xd (fs:List (Str×V))
 | met (f x:Addr)
 | rng (lo hi:Int)
 | frz (o:Obj) (u:HO)
 | tbl (ps:Array Value)
 | ext (φ:Heap→Prop)
abbrev Hp:=Addr→Option HO
def upd (H:Hp) (a:Addr) (o:HO):Hp:=fun b=>if b=a then some o else H b
theorem Zbk {H:Hp} {a:Addr} {o:HO}:upd H a o a=some o:=by unfold upd;rw [if_pos rfl]
theorem ZaZ {H:Hp} {a b:Addr} {o:HO} (h:b≠a):upd H a o b=H b:=by unfold upd;rw [if_neg h]
theorem Zcf {H:Hp} {a b:Addr} {o:HO} (h:H a=some o) (h':H b=none):a≠b:=by
 intro e;subst e;rw [h] at h';cases h'
def TupP (h:Heap) (a:Addr) (items:Array Value):Prop:=∃ o,h.get? a=some o∧o.cls=.type "tuple"∧o.dict=none∧∃ n,o.data=.seq items n
theorem TupP.new (h:Heap) (items:Array Value):TupP (h.push { cls:=.type "tuple",data:=.seq items }) h.objs.size items:=⟨_,Heap.get?_push_size _ rfl,rfl,rfl,_,rfl⟩
theorem TupP.up {h:Heap} {a:Addr} {items:Array Value} (x:TupP h a items):IsTup h a items:=let ⟨o,e,c,_,d⟩:=x;⟨o,e,c,d⟩
def NoD (h:Heap) (a:Addr):Prop:=∃ o,h.get? a=some o∧o.dict=none
section
variable (P:Program) (w:World)
def ObjOk (H:Hp) (h:Heap) (a:Addr):HO→Prop
 | .lst xs=>xs.length≤sizeLine∧∃ (its:List Value) (n:Nat),Vals xs its∧h.get? a=some { cls:=.type "list",data:=.seq its.toArray n }
 | .tup xs=>xs.length≤sizeLine∧∃ its:List Value,Vals xs its∧TupP h a its.toArray
 | .dK kvs=>kvs.length≤sizeLine∧(a==sysModules)=false∧∃ vs,KV kvs vs∧h.DictOf (ZaC P w) a vs
 | .dT kvs=>kvs.length≤sizeLine∧(a==sysModules)=false∧∃ xs:List (List Key×Addr×Value),
   Paired (fun (p:List Key×V) (q:List Key×Addr×Value)=>p.1=q.1∧H q.2.1=some (.tup (p.1.map kV))∧RelV p.2 q.2.2) kvs xs ∧
   ∃ o es ep,h.get? a=some o∧o.ExactDict∧o.data=.dict es ep∧es.toList=xs.map (entryOfKey (tupleKind (ZaC P w)))∧(xs.map (·.1)).Nodup
 | .set S n=>h.SetOf (intKind P w) a S n
 | .ins C dx fs=>H dx=some (.own a)∧fs.length≤1000∧dx≠a∧h.get? a=some (PySem.W.instObj C dx) ∧
   ∃ mA,h.Ns1 dx mA∧(∀ f,ZAd (fs.lookup f) (mA f))∧PySem.Within mA (fs.map (·.1))
 | .own _=>∃ o,h.get? a=some o
 | .xd fs=>∃ mA,h.Ns1 a mA∧∀ f,ZAd (fs.lookup f) (mA f)
 | .rng lo hi=>∃ t u v,h.get? a=some { cls:=.type "range",data:=.fields #[.int lo t,.int hi u,.int 1 v] }
 | .frz o u=>h.get? a=some o∧ObjOk H h a u
 | .tbl ps=>h.get? a=some { cls:=.none,data:=.fields ps }
 | .met f x=>h.get? a=some (PySem.W.methodObj (.ref f) (.ref x))
 | .ext φ=>φ h∧(∃ o,h.get? a=some o)∧∀ h1 h2:Heap,φ h1→(∀ o,h1.get? a=some o→h2.get? a=some o)→φ h2
def HOk (H:Hp) (h:Heap):Prop:=∀ a o,H a=some o→ObjOk P w H h a o
end
section
variable {P:Program} {w:World} {H H':Hp} {h h':Heap} {a:Addr} {o:HO}
theorem ObjOk.lt (x:ObjOk P w H h a o):a < h.objs.size:=by
 cases o with
 | lst xs=>obtain ⟨_,_,_,_,e⟩:=x;exact Heap.lt_size e
 | tup xs=>obtain ⟨_,_,_,p⟩:=x;exact p.up.lt
 | dK kvs=>obtain ⟨_,_,_,_,o,_,_,e,_⟩:=x;exact Heap.lt_size e
 | dT kvs=>obtain ⟨_,_,_,_,o,_,_,e,_⟩:=x;exact Heap.lt_size e
 | set S n=>obtain ⟨o,_,_,_,e,_⟩:=x;exact Heap.lt_size e
 | ins C dx fs=>obtain ⟨_,_,_,e,_⟩:=x;exact Heap.lt_size e
 | own y=>obtain ⟨_,e⟩:=x;exact Heap.lt_size e
 | xd fs=>obtain ⟨_,⟨_,_,_,e,_⟩,_⟩:=x;exact Heap.lt_size e
 | rng lo hi=>obtain ⟨_,_,_,e⟩:=x;exact Heap.lt_size e
 | frz ob u=>obtain ⟨e,_⟩:=x;exact Heap.lt_size e
 | tbl ps=>exact Heap.lt_size (show h.get? a=some _ from x)
 | met f y=>exact Heap.lt_size (show h.get? a=some _ from x)
 | ext φ=>obtain ⟨_,⟨_,e⟩,_⟩:=x;exact Heap.lt_size e
theorem Paired.mapP {α β:Type} {F G:α→β→Prop}:∀ {l₁:List α} {l₂:List β},Paired F l₁ l₂→(∀ a b,F a b→G a b)→Paired G l₁ l₂
 | _,_,.nil,_=>.nil
 | _,_,.cons r t,f=>.cons (f _ _ r) (Paired.mapP t f)
theorem ObjOk.stay (x:ObjOk P w H h a o) (k:∀ b u,(b=a∨H b=some (.own a))→h.get? b=some u→h'.get? b=some u)
  (ho:∀ b,H b=some (.own a)→H' b=some (.own a)) (ht:∀ b xs,H b=some (.tup xs)→H' b=some (.tup xs)):ObjOk P w H' h' a o:=by
 induction o with
 | lst xs=>obtain ⟨z,its,n,r,e⟩:=x;exact ⟨z,its,n,r,k _ _ (.inl rfl) e⟩
 | tup xs=>obtain ⟨z,its,r,ob,e,c⟩:=x;exact ⟨z,its,r,ob,k _ _ (.inl rfl) e,c⟩
 | dK kvs=>obtain ⟨z,y,vs,r,ob,es,ep,e,c⟩:=x;exact ⟨z,y,vs,r,ob,es,ep,k _ _ (.inl rfl) e,c⟩
 | dT kvs =>
  obtain ⟨z,y,xs,r,ob,es,ep,e,c⟩:=x
  exact ⟨z,y,xs,Paired.mapP r fun p q z=>⟨z.1,ht _ _ z.2.1,z.2.2⟩,ob,es,ep,k _ _ (.inl rfl) e,c⟩
 | set S n=>obtain ⟨ob,es,ep,t,e,c⟩:=x;exact ⟨ob,es,ep,t,k _ _ (.inl rfl) e,c⟩
 | ins C dx fs =>
  obtain ⟨d,z,ne,e,mA,⟨od,es,ep,e2,c⟩,r⟩:=x
  exact ⟨ho _ d,z,ne,k _ _ (.inl rfl) e,mA,⟨od,es,ep,k _ _ (.inr d) e2,c⟩,r⟩
 | own y=>obtain ⟨ob,e⟩:=x;exact ⟨ob,k _ _ (.inl rfl) e⟩
 | xd fs=>obtain ⟨mA,⟨od,es,ep,e,c⟩,r⟩:=x;exact ⟨mA,⟨od,es,ep,k _ _ (.inl rfl) e,c⟩,r⟩
 | rng lo hi=>obtain ⟨t,u,v,e⟩:=x;exact ⟨t,u,v,k _ _ (.inl rfl) e⟩
 | frz ob u ih=>obtain ⟨e,q⟩:=x;exact ⟨k _ _ (.inl rfl) e,ih q⟩
 | tbl ps =>
  have e:h.get? a=some { cls:=.none,data:=.fields ps }:=x
  show h'.get? a=some { cls:=.none,data:=.fields ps }
  exact k a _ (.inl rfl) e
 | met f y =>
  have e:h.get? a=some (PySem.W.methodObj (.ref f) (.ref y)):=x
  show h'.get? a=some (PySem.W.methodObj (.ref f) (.ref y))
  exact k a _ (.inl rfl) e
 | ext φ=>obtain ⟨p,⟨o,e⟩,st⟩:=x;exact ⟨st _ _ p fun o q=>k _ _ (.inl rfl) q,⟨o,k _ _ (.inl rfl) e⟩,st⟩
theorem HOk.lt (x:HOk P w H h) (e:H a=some o):a < h.objs.size:=(x a o e).lt
theorem HOk.fresh (x:HOk P w H h) (e:h.objs.size≤a):H a=none:=by
 cases q:H a with
 | none=>rfl
 | some u=>exact absurd (Nat.lt_of_lt_of_le (x.lt q) e) (Nat.lt_irrefl _)
theorem HOk.kept (x:HOk P w H h) (k:∀ b u,h.get? b=some u→h'.get? b=some u):HOk P w H h':=fun a o e =>
 (x a o e).stay (fun b u _ q=>k b u q) (fun _ q=>q) fun _ _ q=>q
theorem HOk.laid (x:HOk P w H h) (k:∀ b u,h.get? b=some u→h'.get? b=some u) (hp:h.objs.size≤a) (new:ObjOk P w (upd H a o) h' a o):HOk P w (upd H a o) h':=fun b u e=>by
 have hn:=x.fresh hp
 by_cases hb:b=a
 ·subst hb;rw [Zbk] at e;cases e;exact new
 ·rw [ZaZ hb] at e
  exact (x b u e).stay (fun c v _ q=>k c v q) (fun c q=>by rw [ZaZ (Zcf q hn)];exact q) fun c xs q=>by rw [ZaZ (Zcf q hn)];exact q
end
def Rd (H:Hp) (a:Addr) (u:HO):Prop:=H a=some u∨∃ o,H a=some (.frz o u)
theorem Rd.of {H:Hp} {a:Addr} {u:HO} (h:H a=some u):Rd H a u:=.inl h
theorem Rd.ok {P:Program} {w:World} {H:Hp} {h:Heap} {a:Addr} {u:HO} (r:Rd H a u) (x:HOk P w H h):ObjOk P w H h a u:=by
 rcases r with r | ⟨o,r⟩
 ·exact x a u r
 ·obtain ⟨_,q⟩:=x a _ r
  exact q
def Mut:Option HO→Prop
 | some (.lst _)=>True
 | some (.dK _)=>True
 | some (.dT _)=>True
 | some (.set _ _)=>True
 | some (.ins _ _ _)=>True
 | some (.ext _)=>True
 | _=>False
section
variable {P:Program} {w:World} {H:Hp} {h h':Heap} {x e:Addr} {o':HO}
theorem HOk.write (ok:HOk P w H h) (mu:Mut (H x)) (he:e=x∨H e=some (.own x)) (k:∀ b u,b≠e→h.get? b=some u→h'.get? b=some u) (heo:∃ u,h'.get? e=some u)
  (new:ObjOk P w (upd H x o') h' x o'):HOk P w (upd H x o') h':=fun b u q=>by
 have nown:∀ c y,H c=some (.own y)→c≠x:=fun c y r z=>by subst z;rw [r] at mu;exact mu
 have ntup:∀ c xs,H c=some (.tup xs)→c≠x:=fun c xs r z=>by subst z;rw [r] at mu;exact mu
 by_cases hb:b=x
 ·subst hb;rw [Zbk] at q;cases q;exact new
 ·rw [ZaZ hb] at q
  by_cases hbe:b=e
  ·have q':H b=some (.own x):=by
    rcases he with z | z
    ·exact absurd (hbe.trans z) hb
    ·rw [hbe];exact z
   rw [q] at q';cases q'
   obtain ⟨v,hv⟩:=heo
   exact ⟨v,by rw [hbe];exact hv⟩
  ·refine (ok b u q).stay (fun c v hc r=>k c v ?_ r) (fun c r=>by rw [ZaZ (nown c b r)];exact r) fun c xs r=>by rw [ZaZ (ntup c xs r)];exact r
   rcases hc with rfl | hc
   ·exact hbe
   ·rintro rfl
    rcases he with z | z
    ·exact nown c b hc z
    ·rw [hc] at z;cases z;exact hb rfl
end
structure Un (fs ex:List Addr) (H H':Hp) (h h':Heap):Prop where
 keep:∀ b o,h.get? b=some o→H b=none→b∉fs→b∉ex→h'.get? b=some o
 slot:∀ b o,h.get? b=some o→H b=none→b∈fs→b∉ex→∃ sl,h'.get? b=some { o with slots:=sl }
 free:∀ b o,h.get? b=some o→H b=none→b∉ex→H' b=none
 there:∀ b o,h.get? b=some o→b∉ex→∃ o',h'.get? b=some o'
 tups:∀ b xs,H b=some (.tup xs)→H' b=some (.tup xs)
 frzs:∀ b o u,H b=some (.frz o u)→H' b=some (.frz o u)
 tbls:∀ b ps,H b=some (.tbl ps)→∃ more,H' b=some (.tbl (ps++more))
section
variable {fs fs' ex ex':List Addr} {H H1 H2:Hp} {h h1 h2 h':Heap} {a x e:Addr} {o:HO}
theorem Un.any (u:Un fs ex H H1 h h1) {b:Addr} {ob:Obj} (q:h.get? b=some ob) (n:H b=none) (hx:b∉ex):∃ sl,h1.get? b=some { ob with slots:=sl }:=by
 by_cases hb:b∈fs
 ·exact u.slot b ob q n hb hx
 ·exact ⟨ob.slots,u.keep b ob q n hb hx⟩
theorem Un.trans (a:Un fs ex H H1 h h1) (b:Un fs ex H1 H2 h1 h2):Un fs ex H H2 h h2 where
 keep:=fun c ob q n hc hx=>b.keep c ob (a.keep c ob q n hc hx) (a.free c ob q n hx) hc hx
 slot:=fun c ob q n hc hx=>by
  obtain ⟨sl,e1⟩:=a.slot c ob q n hc hx
  obtain ⟨sl',e2⟩:=b.slot c _ e1 (a.free c ob q n hx) hc hx
  exact ⟨sl',e2⟩
 free:=fun c ob q n hx=>by
  obtain ⟨o',e1⟩:=a.there c ob q hx
  exact b.free c o' e1 (a.free c ob q n hx) hx
 there:=fun c ob q hx=>by
  obtain ⟨o',e1⟩:=a.there c ob q hx
  exact b.there c o' e1 hx
 tups:=fun c xs q=>b.tups c xs (a.tups c xs q)
 frzs:=fun c ob xs q=>b.frzs c ob xs (a.frzs c ob xs q)
 tbls:=fun c ps q=>by
  obtain ⟨m1,e1⟩:=a.tbls c ps q
  obtain ⟨m2,e2⟩:=b.tbls c _ e1
  exact ⟨m1++m2,by rw [e2,Array.append_assoc]⟩
theorem Un.kept (k:∀ b u,h.get? b=some u→h'.get? b=some u):Un fs ex H H h h' :=
 ⟨fun b ob q _ _ _=>k b ob q,fun b ob q _ _ _=>⟨ob.slots,k b ob q⟩,fun _ _ _ n _=>n,fun b ob q _=>⟨ob,k b ob q⟩,fun _ _ q=>q,fun _ _ _ q=>q,fun _ ps q=>⟨#[],by rw [q];simp⟩⟩
theorem Un.refl:Un fs ex H H h h:=Un.kept fun _ _ q=>q
theorem Un.laid (k:∀ b u,h.get? b=some u→h'.get? b=some u) (hp:h.objs.size≤a) (hn:H a=none):Un fs ex H (upd H a o) h h' where
 keep:=fun b u q _ _ _=>k b u q
 slot:=fun b u q _ _ _=>⟨u.slots,k b u q⟩
 free:=fun b u q n _=>by rw [ZaZ (Nat.ne_of_lt (Nat.lt_of_lt_of_le (Heap.lt_size q) hp))];exact n
 there:=fun b u q _=>⟨u,k b u q⟩
 tups:=fun b xs q=>by rw [ZaZ (Zcf q hn)];exact q
 frzs:=fun b u xs q=>by rw [ZaZ (Zcf q hn)];exact q
 tbls:=fun b ps q=>⟨#[],by rw [ZaZ (Zcf q hn),q];simp⟩
theorem Un.write (mu:Mut (H x)) (he:e=x∨H e=some (.own x)) (k:∀ b u,b≠e→h.get? b=some u→h'.get? b=some u) (heo:∃ u,h'.get? e=some u):Un fs ex H (upd H x o) h h':=by
 have hx:∀ b,H b=none→b≠x:=fun b n z=>by subst z;rw [n] at mu;exact mu
 have hb:∀ b,H b=none→b≠e:=fun b n z=>by
  subst z
  rcases he with r | r
  ·exact hx b n r
  ·rw [n] at r;cases r
 have hm:∀ b u,H b=some u→¬ Mut (some u)→b≠x:=fun b u q nm z=>by subst z;rw [q] at mu;exact nm mu
 refine ⟨fun b u q n _ _=>k b u (hb b n) q,fun b u q n _ _=>⟨u.slots,k b u (hb b n) q⟩,fun b u q n _=>by rw [ZaZ (hx b n)];exact n,fun b u q _=>?_,
  fun b xs q=>by rw [ZaZ (hm b _ q fun z=>z)];exact q,fun b u xs q=>by rw [ZaZ (hm b _ q fun z=>z)];exact q,fun b ps q=>⟨#[],by rw [ZaZ (hm b _ q fun z=>z),q];simp⟩⟩
 by_cases hbe:b=e
 ·subst hbe;exact heo
 ·exact ⟨u,k b u hbe q⟩
theorem Un.mono (u:Un fs ex H H1 h h1) (hs:∀ b∈fs,b∈fs') (hx:∀ b∈ex,b∈ex'):Un fs' ex' H H1 h h1 :=
 ⟨fun b ob q n hb he=>u.keep b ob q n (fun z=>hb (hs b z)) fun z=>he (hx b z),fun _ _ q n _ he=>u.any q n fun z=>he (hx _ z),fun b ob q n he=>u.free b ob q n fun z=>he (hx b z),fun b ob q he=>u.there b ob q fun z=>he (hx b z),u.tups,u.frzs,u.tbls⟩
end
def trk (h:Heap) (H:Hp):List Addr:=(List.range h.objs.size).filter fun a=>(H a).isSome
def ZsA (h:Heap) (H:Hp):Heap:=PySem.W.hideAll h (trk h H)
theorem Zpf (h:Heap) (H:Hp):(ZsA h H).objs.size=h.objs.size:=PySem.W.hideAll_size _ _
theorem Zr5 {h:Heap} {H:Hp} {b:Addr} {o:Obj} (e:h.get? b=some o) (n:H b=none):(ZsA h H).get? b=some o :=
 PySem.W.hideAll_get _ e fun hm=>by
  have q:(H b).isSome=true:=(List.mem_filter.mp hm).2
  rw [n] at q;simp at q
theorem Zu4 {h:Heap} {H:Hp} {b:Addr} {o:Obj} (e:(ZsA h H).get? b=some o):h.get? b=some o∧H b=none:=by
 have e':h.get? b=some o:=PySem.W.of_hideAll (trk h H) e
 refine ⟨e',?_⟩
 cases q:H b with
 | none=>rfl
 | some x =>
  have hm:b∈trk h H:=List.mem_filter.mpr ⟨List.mem_range.mpr (Heap.lt_size e'),by simp [q]⟩
  have z:(ZsA h H).get? b=none:=PySem.W.hideAll_none (trk h H) hm
  rw [z] at e;cases e
def ZuG (g h:Heap) (L:Addr):List (Addr×Obj):=(List.range h.objs.size).filterMap fun a=>if a=L∨(g.get? a).isSome=true then none else (h.get? a).map fun o=>(a,o)
def Zdr (g h:Heap) (L d:Addr):List (Addr×Obj):=(ZuG g h L).filter fun p=>decide (p.1≠d)
structure Mod (K:PySem.W.Frag) (mg:Str→Option Value) (base:Heap):Prop where
 kin:K.In base
 glob:base.Ns mainGlobals mg
 blt:∃ mb,base.Ns builtinsNs mb∧∀ x:Str,x≠"__name__"→mb x=bootBuiltins x
 nolimit:base.NoLimit
structure Cx where
 prog:Program
 w:World
 K:PySem.W.Frag
 mg:Str→Option Value
 base:Heap
 A:Around
 N:List Str
 s₀:Shared
 H₀:Hp
 env:Env
 outer:List Env
 stack:List Env
 ex:List Addr
 fn:Str→Bool
 calm:Bool
 pn:List (Addr×Obj)
 xe:Value→Shared→Prop
def frs (l:List Env):List Addr:=l.filterMap (·.frame)
abbrev Cx.fs (X:Cx):List Addr:=frs X.outer
def Vis (sc:Scope) (x:Str):Prop:=sc.names.lookup x=some .local∨sc.names.lookup x=some .cell∨sc.names.lookup x=some .free
def Loc (sc:Scope) (x:Str):Prop:=sc.names.lookup x=some .local∨sc.names.lookup x=some .cell
def ZBb (env:Env) (h:Heap) (m:Str→Option Value) (x:Str) (u:Value):Prop :=
 (env.kindOf x=some .local∧m x=some u)∨((env.kindOf x=some .cell∨env.kindOf x=some .free)∧∃ c,env.cells.lookup x=some c∧h.IsCell c (some u))
structure Cx.Ok (X:Cx):Prop where
 mod:Mod X.K X.mg X.base
 kind:X.env.scope.kind=.function
 glob:X.env.globals=mainGlobals
 blt:X.env.builtins=builtinsNs
 above:X.s₀.heap.objs.size≤X.env.locals
 inj:∀ x y c,X.env.cells.lookup x=some c→X.env.cells.lookup y=some c→x=y
 has:∀ x,(X.env.kindOf x=some .cell∨X.env.kindOf x=some .free)→∃ c,X.env.cells.lookup x=some c
 cab:∀ x c,X.fn x=true→X.env.cells.lookup x=some c→X.s₀.heap.objs.size≤c
 hd:X.calm=true→X.A.handled=none
 frames:X.A.frames=some X.stack
 stk:X.stack=X.outer∨(X.stack=X.env::X.outer∧X.env.frame=some X.env.locals)
 exf:∀ b∈X.ex,b≠X.env.locals∧∀ x c,X.env.cells.lookup x=some c→c≠b
 bs:∀ b o,X.base.get? b=some o→X.s₀.heap.get? b=some o∧X.H₀ b=none
 bsz:X.base.objs.size≤X.s₀.heap.objs.size
 noex:∀ b o,X.base.get? b=some o→b∉X.ex
 exfs:∀ b∈X.ex,b∉X.fs
 funs:X.s₀.heap.FunFrames X.base X.outer
 frf:∀ b∈X.fs,X.H₀ b=none
structure Inv (X:Cx) (pins:List (Addr×Obj)) (σ:List (Option V)) (H:Hp) (s:Shared):Prop where
 ok:X.Ok
 os:s.os=X.s₀.os
 bare:AllBare s.gens
 base:Un X.fs X.ex X.H₀ H X.s₀.heap s.heap
 loc:∃ m,s.heap.Ns X.env.locals m∧∀ (i:Nat) (x:Str) (v:V),X.N[i]?=some x→σ[i]?=some (some v)→Vis X.env.scope x→∃ u,RelV v u∧ZBb X.env s.heap m x u
 cell:∀ x c,X.env.cells.lookup x=some c→∃ v,s.heap.IsCell c v
 free:H X.env.locals=none
 freeC:∀ x c,X.env.cells.lookup x=some c→H c=none
 pin:∀ p∈X.pn++pins,s.heap.get? p.1=some p.2∧H p.1=none∧p.1≠X.env.locals∧p.1∉X.fs∧∀ v,p.2.data≠.cell v
 hok:HOk X.prog X.w H s.heap
 len:σ.length=X.N.length
section
variable {X:Cx} {pins:List (Addr×Obj)} {σ:List (Option V)} {H H':Hp} {s:Shared} {h':Heap}
theorem Cx.Ok.nofr (ok:X.Ok) {b:Addr} {o:Obj} (e:X.base.get? b=some o):b∉X.fs:=fun hb=>by
 have:=(ok.funs.mem hb).1
 rw [e] at this;cases this
theorem Inv.bs (I:Inv X pins σ H s):∀ b o,X.base.get? b=some o→s.heap.get? b=some o∧H b=none:=fun b o e =>
 ⟨I.base.keep b o (I.ok.bs b o e).1 (I.ok.bs b o e).2 (I.ok.nofr e) (I.ok.noex b o e),I.base.free b o (I.ok.bs b o e).1 (I.ok.bs b o e).2 (I.ok.noex b o e)⟩
theorem Inv.bk (I:Inv X pins σ H s):∀ b o,X.base.get? b=some o→s.heap.get? b=some o:=fun b o e=>(I.bs b o e).1
theorem Inv.mod (I:Inv X pins σ H s):Mod X.K X.mg X.base:=I.ok.mod
theorem Inv.kIn (I:Inv X pins σ H s):X.K.In s.heap:=I.ok.mod.kin.keeps I.bk
theorem Inv.nolimit (I:Inv X pins σ H s):s.heap.NoLimit:=I.ok.mod.nolimit.keeps I.bk
theorem Inv.fr (I:Inv X pins σ H s):∃ m,Fr X.base X.env.locals s.heap m :=
 let ⟨m,hn,_⟩:=I.loc
 ⟨m,hn,I.bk,Nat.le_trans I.ok.bsz I.ok.above⟩
theorem Inv.lt (I:Inv X pins σ H s):X.env.locals < s.heap.objs.size:=let ⟨_,hn,_⟩:=I.loc;hn.lt
theorem Inv.sz (I:Inv X pins σ H s):X.s₀.heap.objs.size≤s.heap.objs.size:=Nat.le_trans I.ok.above (Nat.le_of_lt I.lt)
theorem Inv.nofs (I:Inv X pins σ H s) {a:Addr} (h:s.heap.objs.size≤a):a∉X.fs:=fun hb=>by
 obtain ⟨_,o,ho,_⟩:=I.ok.funs.mem hb
 exact absurd (Nat.lt_of_lt_of_le (Heap.lt_size ho) (Nat.le_trans I.sz h)) (Nat.lt_irrefl _)
theorem Inv.cne (I:Inv X pins σ H s):∀ x c,X.env.cells.lookup x=some c→c≠X.env.locals:=fun x c e z=>by
 obtain ⟨v,o,ho,hd⟩:=I.cell x c e
 obtain ⟨m,⟨o',es,ep,ho',hd',_⟩,_⟩:=I.loc
 rw [z,ho'] at ho;cases ho;rw [hd'] at hd;cases hd
theorem Inv.funs (I:Inv X pins σ H s):s.heap.FunFrames X.base X.outer:=by
 have all:∀ (l:List Env),(∀ b∈frs l,b∈X.fs)→X.s₀.heap.FunFrames X.base l→s.heap.FunFrames X.base l:=by
  intro l
  induction l with
  | nil=>intro _ _;trivial
  | cons env r ih =>
   intro hs hl
   obtain ⟨hk,⟨L,o,hf,hn,ho,hd⟩,hr⟩:=hl
   have hL:L∈X.fs:=hs L (by unfold frs;rw [List.filterMap_cons,hf];exact List.mem_cons_self)
   obtain ⟨sl,e⟩:=I.base.slot L o ho (I.ok.frf L hL) hL fun z=>I.ok.exfs L z hL
   exact ⟨hk,⟨L,_,hf,hn,e,hd⟩,ih (fun b hb=>hs b (by unfold frs;rw [List.filterMap_cons,hf];exact List.mem_cons_of_mem _ hb)) hr⟩
 exact all X.outer (fun _ hb=>hb) I.ok.funs
theorem Inv.stack (I:Inv X pins σ H s):s.heap.FunFrames X.base X.stack:=by
 rcases I.ok.stk with e | ⟨e,hf⟩
 ·rw [e];exact I.funs
 ·rw [e]
  obtain ⟨m,hn,_⟩:=I.loc
  refine .cons (by rw [I.ok.kind];decide) hf hn ?_ I.funs
  exact Heap.get?_none_of_le (Nat.le_trans I.ok.bsz I.ok.above)
theorem Inv.stkSub (I:Inv X pins σ H s):∀ b∈frs X.stack,b∈X.env.locals::X.fs:=fun b hb=>by
 rcases I.ok.stk with e | ⟨e,hf⟩
 ·rw [e] at hb;exact List.mem_cons_of_mem _ hb
 ·rw [e] at hb
  unfold frs at hb
  rw [List.filterMap_cons,hf] at hb
  exact hb
theorem Inv.stkFree (I:Inv X pins σ H s):∀ b∈frs X.stack,H b=none:=fun b hb=>by
 rcases List.mem_cons.mp (I.stkSub b hb) with e | hb
 ·rw [e];exact I.free
 ·obtain ⟨_,o,ho,_⟩:=I.ok.funs.mem hb
  exact I.base.free b o ho (I.ok.frf b hb) fun z=>I.ok.exfs b z hb
theorem Inv.step {g':Array GenState} {t':Nat} {d':Drawn} {ch:List Addr} (I:Inv X pins σ H s)
  (hch:∀ b∈ch,(b∈X.ex∨X.s₀.heap.objs.size≤b)∧b≠X.env.locals∧(∀ x c,X.env.cells.lookup x=some c→c≠b)∧∀ p∈X.pn++pins,p.1≠b)
  (keep:∀ b o,b≠X.env.locals→b∉X.fs→b∉ch→s.heap.get? b=some o→H b=none→h'.get? b=some o)
  (slot:∀ b o,b≠X.env.locals→b∈X.fs→b∉ch→s.heap.get? b=some o→H b=none→∃ sl,h'.get? b=some { o with slots:=sl }) (free:∀ b o,b∉ch→s.heap.get? b=some o→H b=none→H' b=none)
  (there:∀ b o,b∉ch→s.heap.get? b=some o→∃ o',h'.get? b=some o')
  (tups:∀ b xs,H b=some (.tup xs)→H' b=some (.tup xs)) (frzs:∀ b o u,H b=some (.frz o u)→H' b=some (.frz o u)) (tbls:∀ b ps,H b=some (.tbl ps)→∃ more,H' b=some (.tbl (ps++more)))
  (ns:∀ m,s.heap.Ns X.env.locals m→h'.Ns X.env.locals m) (hok:HOk X.prog X.w H' h') (hg:AllBare g') :
  Inv X pins σ H' { s with heap:=h',gens:=g',drawn:=d',toks:=t' }:=by
 have neL:∀ b o,X.s₀.heap.get? b=some o→b≠X.env.locals:=fun b o e=>Nat.ne_of_lt (Nat.lt_of_lt_of_le (Heap.lt_size e) I.ok.above)
 have neC:∀ b o,X.s₀.heap.get? b=some o→b∉X.ex→b∉ch:=fun b o e hx hb=>by
  rcases (hch b hb).1 with z | z
  ·exact hx z
  ·exact absurd (Nat.lt_of_lt_of_le (Heap.lt_size e) z) (Nat.lt_irrefl _)
 have cellK:∀ x c,X.env.cells.lookup x=some c→∀ v,s.heap.IsCell c v→h'.IsCell c v:=by
  rintro x c e v ⟨o,ho,hd⟩
  have nch:c∉ch:=fun z=>(hch c z).2.2.1 x c e rfl
  by_cases hc:c∈X.fs
  ·obtain ⟨sl,q⟩:=slot c o (I.cne x c e) hc nch ho (I.freeC x c e)
   exact ⟨_,q,hd⟩
  ·exact ⟨o,keep c o (I.cne x c e) hc nch ho (I.freeC x c e),hd⟩
 refine ⟨I.ok,I.os,hg,⟨fun b o e n hb hx=>?_,fun b o e n hb hx=>?_,fun b o e n hx=>?_,fun b o e hx=>?_,fun b xs e=>tups b xs (I.base.tups b xs e),fun b o xs e=>frzs b o xs (I.base.frzs b o xs e),fun b ps e=>?_⟩,?_,fun x c e=>?_,?_,fun x c e=>?_,fun p hp=>?_,hok,I.len⟩
 ·exact keep b o (neL b o e) hb (neC b o e hx) (I.base.keep b o e n hb hx) (I.base.free b o e n hx)
 ·obtain ⟨sl,e1⟩:=I.base.slot b o e n hb hx
  obtain ⟨sl',e2⟩:=slot b _ (neL b o e) hb (neC b o e hx) e1 (I.base.free b o e n hx)
  exact ⟨sl',e2⟩
 ·obtain ⟨o',e1⟩:=I.base.there b o e hx
  exact free b o' (neC b o e hx) e1 (I.base.free b o e n hx)
 ·obtain ⟨o',e1⟩:=I.base.there b o e hx
  exact there b o' (neC b o e hx) e1
 ·obtain ⟨m1,e1⟩:=I.base.tbls b ps e
  obtain ⟨m2,e2⟩:=tbls b _ e1
  exact ⟨m1++m2,by rw [e2,Array.append_assoc]⟩
 ·obtain ⟨m,hn,hl⟩:=I.loc
  refine ⟨m,ns m hn,fun i x v e1 e2 e3=>?_⟩
  obtain ⟨u,r,l⟩:=hl i x v e1 e2 e3
  refine ⟨u,r,?_⟩
  rcases l with l | ⟨k,c,e,z⟩
  ·exact .inl l
  ·exact .inr ⟨k,c,e,cellK x c e _ z⟩
 ·obtain ⟨v,z⟩:=I.cell x c e
  exact ⟨v,cellK x c e v z⟩
 ·obtain ⟨m,⟨o,_,_,ho,_⟩,_⟩:=I.loc
  exact free _ o (fun z=>(hch _ z).2.1 rfl) ho I.free
 ·obtain ⟨v,o,ho,hd⟩:=I.cell x c e
  exact free c o (fun z=>(hch c z).2.2.1 x c e rfl) ho (I.freeC x c e)
 ·obtain ⟨e,n,ne,nf,d⟩:=I.pin p hp
  have nch:p.1∉ch:=fun z=>(hch p.1 z).2.2.2 p hp rfl
  exact ⟨keep p.1 p.2 ne nf nch e n,free p.1 p.2 nch e n,ne,nf,d⟩
theorem Inv.un {t':Nat} (I:Inv X pins σ H s) (u:Un X.fs [] H H' s.heap h') (hok:HOk X.prog X.w H' h'):Inv X pins σ H' { s with heap:=h',toks:=t' }:=by
 obtain ⟨m,⟨o,es,ep,ho,r⟩,_⟩:=id I.loc
 obtain ⟨sl,hL⟩:=u.any ho I.free (by simp)
 exact I.step (g':=s.gens) (d':=s.drawn) (ch:=[]) (fun _ z=>nomatch z) (fun b o _ hb _ e n=>u.keep b o e n hb (by simp)) (fun b o _ hb _ e n=>u.slot b o e n hb (by simp)) (fun b o _ e n=>u.free b o e n (by simp)) (fun b o _ e=>u.there b o e (by simp)) u.tups u.frzs u.tbls (fun m' hm=>by
  obtain ⟨o',es',ep',ho',r'⟩:=hm
  rw [ho] at ho';cases ho'
  exact ⟨_,es',ep',hL,r'⟩) hok I.bare
theorem Inv.call {g':Array GenState} {t':Nat} {d':Drawn} {ch:List Addr} (I:Inv X pins σ H s) (u:Un (frs X.stack) ch H H' s.heap h') (hok:HOk X.prog X.w H' h') (hg:AllBare g')
  (hch:∀ b∈ch,(b∈X.ex∨X.s₀.heap.objs.size≤b)∧b≠X.env.locals∧(∀ x c,X.env.cells.lookup x=some c→c≠b)∧∀ p∈X.pn++pins,p.1≠b) :
  Inv X pins σ H' { s with heap:=h',gens:=g',drawn:=d',toks:=t' }:=by
 obtain ⟨m,⟨o,es,ep,ho,r⟩,_⟩:=id I.loc
 obtain ⟨sl,hL⟩:=u.any ho I.free fun z=>(hch _ z).2.1 rfl
 exact I.step (ch:=ch) hch (fun b o hL hb hc e n=>u.keep b o e n (fun z=>(List.mem_cons.mp (I.stkSub b z)).elim hL hb) hc) (fun b o _ _ hc e n=>u.any e n hc) (fun b o hc e n=>u.free b o e n hc) (fun b o hc e=>u.there b o e hc) u.tups u.frzs u.tbls (fun m' hm=>by
  obtain ⟨o',es',ep',ho',r'⟩:=hm
  rw [ho] at ho';cases ho'
  exact ⟨_,es',ep',hL,r'⟩) hok hg
theorem Inv.turned {t':Nat} {it:Addr} (I:Inv X pins σ H s) (k:∀ b o,b≠it→s.heap.get? b=some o→h'.get? b=some o) (hn:H it=none) (hL:it≠X.env.locals)
  (h1:it∈X.ex∨X.s₀.heap.objs.size≤it) (h2:∀ x c,X.env.cells.lookup x=some c→c≠it) (h3:∀ p∈X.pn++pins,p.1≠it):Inv X pins σ H { s with heap:=h',toks:=t' }:=by
 have nit:∀ b u,H b=some u→b≠it:=fun b u e z=>by rw [z,hn] at e;cases e
 refine I.step (g':=s.gens) (d':=s.drawn) (ch:=[it]) (fun b hb=>?_) (fun b o _ _ hc e _=>k b o (fun z=>hc (by simp [z])) e) (fun b o _ _ hc e _=>⟨o.slots,k b o (fun z=>hc (by simp [z])) e⟩) (fun _ _ _ _ n=>n)
  (fun b o hc e=>⟨o,k b o (fun z=>hc (by simp [z])) e⟩) (fun _ _ e=>e) (fun _ _ _ e=>e) (fun b ps e=>⟨#[],by rw [e];simp⟩) (fun m hm=>?_) (fun b u e=>?_) I.bare
 ·have e:b=it:=by simpa using hb
  subst e
  exact ⟨h1,hL,h2,h3⟩
 ·obtain ⟨o,es,ep,ho,r⟩:=hm
  exact ⟨o,es,ep,k _ o (Ne.symm hL) ho,r⟩
 ·refine (I.hok b u e).stay (fun c v hc q=>k c v ?_ q) (fun _ q=>q) fun _ _ q=>q
  rcases hc with z | z
  ·rw [z];exact nit b u e
  ·exact nit c _ z
theorem Inv.tok (I:Inv X pins σ H s) (t:Nat):Inv X pins σ H { s with toks:=t }:=I.un (h':=s.heap) (t':=t) Un.refl I.hok
theorem Inv.kept {t':Nat} (I:Inv X pins σ H s) (k:∀ b u,s.heap.get? b=some u→h'.get? b=some u):Inv X pins σ H { s with heap:=h',toks:=t' }:=I.un (Un.kept k) (I.hok.kept k)
theorem Inv.laid {a:Addr} {o:HO} {t':Nat} (I:Inv X pins σ H s) (k:∀ b u,s.heap.get? b=some u→h'.get? b=some u) (hp:s.heap.objs.size≤a) (new:ObjOk X.prog X.w (upd H a o) h' a o) :
  Inv X pins σ (upd H a o) { s with heap:=h',toks:=t' }:=I.un (Un.laid k hp (I.hok.fresh hp)) (I.hok.laid k hp new)
theorem Inv.write {x e:Addr} {o:HO} {t':Nat} (I:Inv X pins σ H s) (mu:Mut (H x)) (he:e=x∨H e=some (.own x)) (k:∀ b u,b≠e→s.heap.get? b=some u→h'.get? b=some u) (heo:∃ u,h'.get? e=some u)
  (new:ObjOk X.prog X.w (upd H x o) h' x o):Inv X pins σ (upd H x o) { s with heap:=h',toks:=t' }:=I.un (Un.write mu he k heo) (I.hok.write mu he k heo new)
theorem Inv.pins_of {pins':List (Addr×Obj)} (I:Inv X pins σ H s) (h:∀ p∈pins',s.heap.get? p.1=some p.2∧H p.1=none∧p.1≠X.env.locals∧p.1∉X.fs∧∀ v,p.2.data≠.cell v):Inv X pins' σ H s :=
 ⟨I.ok,I.os,I.bare,I.base,I.loc,I.cell,I.free,I.freeC,fun p hp=>(List.mem_append.mp hp).elim (fun z=>I.pin p (List.mem_append_left _ z)) (h p),I.hok,I.len⟩
theorem Zm0 {N:List Str} (hN:N.Nodup) {i j:Nat} {x:Str} (a:N[i]?=some x) (b:N[j]?=some x):i=j:=by
 obtain ⟨h1,e1⟩:=List.getElem?_eq_some_iff.mp a
 obtain ⟨h2,e2⟩:=List.getElem?_eq_some_iff.mp b
 exact (List.getElem_inj hN).mp (e1.trans e2.symm)
theorem ZqD {M:Model} {A:Around} {E:Value→Shared→Prop} {i:Nat} {x:Str} {v:V} {u:Value} {Q:Unit→Shared→Prop} (I:Inv X pins σ H s) (hN:X.N.Nodup) (hi:X.N[i]?=some x) (hx:Loc X.env.scope x) (r:RelV v u)
  (h:∀ s',Inv X pins (σ.set i (some v)) H s'→(∃ a,Heap.SameBut a s.heap s'.heap∧(a=X.env.locals∨X.env.cells.lookup x=some a))→Q () s') (hf:X.fn x=true∨X.env.scope.names.lookup x=some .local:=by first | exact .inl rfl | exact .inr rfl | assumption):wpAny M A (storeName X.env x u) Q E s:=by
 obtain ⟨m,hn,hl⟩:=id I.loc
 have hcls:(X.env.scope.kind==.class||(X.env.scope.kind==.module&&X.env.locals != X.env.globals))=false:=by rw [I.ok.kind];rfl
 have hiσ:i < σ.length:=by rw [I.len];exact (List.getElem?_eq_some_iff.mp hi).1
 have cne:=I.cne
 have tracked:∀ {a:Addr} {h':Heap},(∃ o,s.heap.get? a=some o∧H a=none)→Heap.SameBut a s.heap h'→HOk X.prog X.w H h':=fun {a h'} ha hs b ob e=>by
  obtain ⟨_,_,hfree⟩:=ha
  refine (I.hok b ob e).stay (fun c w' hc q=>(hs.2 c ?_).trans q) (fun _ q=>q) fun _ _ q=>q
  rintro rfl
  rcases hc with rfl | hc
  ·rw [hfree] at e;cases e
  ·rw [hfree] at hc;cases hc
 rcases hx with hk | hk
 ·refine wpAny_storeName_local hk hn (fun h' hn' hs=>?_) hcls
  obtain ⟨oL,_,_,hoL,_⟩:=id hn
  refine h _ ⟨I.ok,I.os,I.bare,⟨fun b o e n hb hx=>?_,fun b o e n hb hx=>?_,I.base.free,fun b o e hx=>?_,I.base.tups,I.base.frzs,I.base.tbls⟩,⟨_,hn',fun j y v' e1 e2 e3=>?_⟩,fun y c e=>?_,I.free,I.freeC,fun p hp=>?_,tracked ⟨oL,hoL,I.free⟩ hs,by simpa using I.len⟩ ⟨_,hs,.inl rfl⟩
  ·exact (hs.2 b (Nat.ne_of_lt (Nat.lt_of_lt_of_le (Heap.lt_size e) I.ok.above))).trans (I.base.keep b o e n hb hx)
  ·obtain ⟨sl,e1⟩:=I.base.slot b o e n hb hx
   exact ⟨sl,(hs.2 b (Nat.ne_of_lt (Nat.lt_of_lt_of_le (Heap.lt_size e) I.ok.above))).trans e1⟩
  ·obtain ⟨o',e1⟩:=I.base.there b o e hx
   exact ⟨o',(hs.2 b (Nat.ne_of_lt (Nat.lt_of_lt_of_le (Heap.lt_size e) I.ok.above))).trans e1⟩
  ·by_cases hj:j=i
   ·subst hj
    rw [hi] at e1;cases e1
    rw [List.getElem?_set_self hiσ] at e2
    cases e2
    exact ⟨u,r,.inl ⟨hk,by simp⟩⟩
   ·rw [List.getElem?_set_ne (Ne.symm hj)] at e2
    obtain ⟨u',r',q⟩:=hl j y v' e1 e2 e3
    refine ⟨u',r',?_⟩
    rcases q with ⟨k,e⟩ | ⟨k,c,e,z⟩
    ·refine .inl ⟨k,?_⟩
     have:y≠x:=fun e=>hj (Zm0 hN e1 (e▸hi))
     simp [this,e]
    ·exact .inr ⟨k,c,e,z.sameBut hs (cne y c e)⟩
  ·obtain ⟨w',z⟩:=I.cell y c e
   exact ⟨w',z.sameBut hs (cne y c e)⟩
  ·obtain ⟨e,n,ne,nf,d⟩:=I.pin p hp
   exact ⟨(hs.2 p.1 ne).trans e,n,ne,nf,d⟩
 ·have hfn:X.fn x=true:=by
   rcases hf with z | z
   ·exact z
   ·rw [z] at hk;cases hk
  obtain ⟨c,hc⟩:=I.ok.has x (.inl hk)
  obtain ⟨w',z⟩:=I.cell x c hc
  refine wpAny_storeName_cell I.ok.kind hk hc z (fun h' hc' hs=>?_)
  obtain ⟨oc,hoc,hocd⟩:=id z
  refine h { s with heap:=h' } ⟨I.ok,I.os,I.bare,⟨fun b o e n hb hx=>?_,fun b o e n hb hx=>?_,I.base.free,fun b o e hx=>?_,I.base.tups,I.base.frzs,I.base.tbls⟩,⟨m,hn.sameBut hs (Ne.symm (cne x c hc)),fun j y v' e1 e2 e3=>?_⟩,fun y c' e=>?_,I.free,I.freeC,fun p hp=>?_,tracked ⟨oc,hoc,I.freeC x c hc⟩ hs,by simpa using I.len⟩ ⟨c,hs,.inr hc⟩
  ·exact (hs.2 b (Nat.ne_of_lt (Nat.lt_of_lt_of_le (Heap.lt_size e) (I.ok.cab x c hfn hc)))).trans (I.base.keep b o e n hb hx)
  ·obtain ⟨sl,e1⟩:=I.base.slot b o e n hb hx
   exact ⟨sl,(hs.2 b (Nat.ne_of_lt (Nat.lt_of_lt_of_le (Heap.lt_size e) (I.ok.cab x c hfn hc)))).trans e1⟩
  ·obtain ⟨o',e1⟩:=I.base.there b o e hx
   exact ⟨o',(hs.2 b (Nat.ne_of_lt (Nat.lt_of_lt_of_le (Heap.lt_size e) (I.ok.cab x c hfn hc)))).trans e1⟩
  ·by_cases hj:j=i
   ·subst hj
    rw [hi] at e1;cases e1
    rw [List.getElem?_set_self hiσ] at e2
    cases e2
    exact ⟨u,r,.inr ⟨.inl hk,c,hc,hc'⟩⟩
   ·rw [List.getElem?_set_ne (Ne.symm hj)] at e2
    obtain ⟨u',r',q⟩:=hl j y v' e1 e2 e3
    refine ⟨u',r',?_⟩
    rcases q with q | ⟨k,c',e,z'⟩
    ·exact .inl q
    ·refine .inr ⟨k,c',e,z'.sameBut hs ?_⟩
     rintro rfl
     exact hj (Zm0 hN e1 (I.ok.inj _ _ _ e hc▸hi))
  ·by_cases hcc:c'=c
   ·subst hcc;exact ⟨_,hc'⟩
   ·obtain ⟨w2,z2⟩:=I.cell y c' e
    exact ⟨w2,z2.sameBut hs hcc⟩
  ·obtain ⟨e,n,ne,nf,d⟩:=I.pin p hp
   refine ⟨(hs.2 p.1 ?_).trans e,n,ne,nf,d⟩
   intro q
   rw [q,hoc] at e
   have q':oc=p.2:=Option.some.inj e
   exact d w' (by rw [← q'];exact hocd)
theorem Zks {M:Model} {A:Around} {E:Value→Shared→Prop} {i:Nat} {x:Str} {v:V} {u:Value} {Q:Unit→Shared→Prop} (I:Inv X pins σ H s) (hN:X.N.Nodup) (hi:X.N[i]?=some x) (hx:Loc X.env.scope x) (r:RelV v u)
  (h:∀ s',Inv X pins (σ.set i (some v)) H s'→Q () s') (hf:X.fn x=true∨X.env.scope.names.lookup x=some .local:=by first | exact .inl rfl | exact .inr rfl | assumption):wpAny M A (storeName X.env x u) Q E s :=
 ZqD I hN hi hx r (fun s' I' _=>h s' I') hf
theorem Inv.call' {s':Shared} {ch:List Addr} (I:Inv X pins σ H s) (ho:s'.os=s.os) (u:Un (frs X.stack) ch H H' s.heap s'.heap) (hok:HOk X.prog X.w H' s'.heap) (hg:AllBare s'.gens)
  (hch:∀ b∈ch,(b∈X.ex∨X.s₀.heap.objs.size≤b)∧b≠X.env.locals∧(∀ x c,X.env.cells.lookup x=some c→c≠b)∧∀ p∈X.pn++pins,p.1≠b):Inv X pins σ H' s':=by
 obtain ⟨h',g',d',t',o'⟩:=s'
 have e:o'=s.os:=ho
 subst e
 exact I.call (g':=g') (t':=t') (d':=d') u hok hg hch
end
abbrev XK:=Value→Option Addr→Hp→Prop
abbrev St:=List (Option V)
abbrev VK:=V→Hp→Prop
abbrev TE:=St→Hp→VK→Prop
abbrev TT:=St→Hp→(Bool→Hp→Prop)→Prop
abbrev TA:=St→Hp→(List V→Hp→Prop)→Prop
structure Zv0 where
 nx:St→Hp→Prop
 rt:VK
 bk:St→Hp→Prop:=fun _ _=>False
 ct:St→Hp→Prop:=fun _ _=>False
abbrev TS:=Zv0→St→Hp→Prop
def EP (X:Cx) (pins:List (Addr×Obj)) (σ:St) (Q:VK) (u:Value) (s':Shared):Prop:=∃ v H',Inv X pins σ H' s'∧RelV v u∧Q v H'
def TP (X:Cx) (pins:List (Addr×Obj)) (σ:St) (Q:Bool→Hp→Prop) (b:Bool) (s':Shared):Prop:=∃ H',Inv X pins σ H' s'∧Q b H'
def AP (X:Cx) (pins:List (Addr×Obj)) (σ:St) (Q:List V→Hp→Prop) (us:List Value) (s':Shared):Prop:=∃ vs H',Inv X pins σ H' s'∧Vals vs us∧Q vs H'
def SP (X:Cx) (pins:List (Addr×Obj)) (D:Zv0) (f:Flow) (s':Shared):Prop :=
 match f with
 | .next=>∃ σ' H',Inv X pins σ' H' s'∧D.nx σ' H'
 | .brk=>∃ σ' H',Inv X pins σ' H' s'∧D.bk σ' H'
 | .cont=>∃ σ' H',Inv X pins σ' H' s'∧D.ct σ' H'
 | .ret u=>∃ v σ' H',Inv X pins σ' H' s'∧RelV v u∧D.rt v H'
def PE (X:Cx) (e:Expr) (t:TE):Prop :=
 ∀ (pins:List (Addr×Obj)) (s:Shared) (σ:St) (H:Hp) (Q:VK),Inv X pins σ H s→t σ H Q→wpAny (model X.prog X.w) X.A (eval e X.env) (EP X pins σ Q) X.xe s
def PT (X:Cx) (e:Expr) (t:TT):Prop :=
 ∀ (pins:List (Addr×Obj)) (s:Shared) (σ:St) (H:Hp) (Q:Bool→Hp→Prop),Inv X pins σ H s→t σ H Q→wpAny (model X.prog X.w) X.A (isTrue e X.env (eval e X.env)) (TP X pins σ Q) X.xe s
def PW (X:Cx) (e:Expr) (t:TT):Prop :=
 ∀ (whole:Sem Value) (pins:List (Addr×Obj)) (s:Shared) (σ:St) (H:Hp) (Q:Bool→Hp→Prop),Inv X pins σ H s→t σ H Q→wpAny (model X.prog X.w) X.A (isTrue e X.env whole) (TP X pins σ Q) X.xe s
theorem PW.pt {X:Cx} {e:Expr} {t:TT} (h:PW X e t):PT X e t:=h _
def PA (X:Cx) (es:List Expr) (t:TA):Prop :=
 ∀ (pos:Pos) (pins:List (Addr×Obj)) (s:Shared) (σ:St) (H:Hp) (Q:List V→Hp→Prop),Inv X pins σ H s→t σ H Q→wpAny (model X.prog X.w) X.A (spliced (backTo pos (starEach es X.env))) (AP X pins σ Q) X.xe s
def PS (X:Cx) (st:Stmt) (t:TS):Prop :=
 ∀ (pins:List (Addr×Obj)) (s:Shared) (σ:St) (H:Hp) (D:Zv0),Inv X pins σ H s→t D σ H→wpAny (model X.prog X.w) X.A (exec st X.env) (SP X pins D) X.xe s
def PSs (X:Cx) (st:List Stmt) (t:TS):Prop :=
 ∀ (pins:List (Addr×Obj)) (s:Shared) (σ:St) (H:Hp) (D:Zv0),Inv X pins σ H s→t D σ H→wpAny (model X.prog X.w) X.A (execs st X.env) (SP X pins D) X.xe s
theorem thn {α:Type} {t:Sem α} {Q Q':α→Shared→Prop} {M:Model} {A:Around} {E:Value→Shared→Prop} {s:Shared} (h:wpAny M A t Q E s) (hQ:∀ a s,Q a s→Q' a s):wpAny M A t Q' E s:=wpAny_mono h hQ fun _ _ x=>x
section
variable {X:Cx}
theorem bin {a b:Expr} {ta tb:TE} (ha:PE X a ta) (hb:PE X b tb) {pins:List (Addr×Obj)} {s:Shared} {σ:St} {H:Hp} {R:V→V→Hp→Prop} (I:Inv X pins σ H s) (h:ta σ H fun x H1=>tb σ H1 fun y H2=>R x y H2)
  {α:Type} {Q:α→Shared→Prop} {f:Value→Value→Sem α}
  (hf:∀ v u s2 x y H2,Inv X pins σ H2 s2→RelV x v→RelV y u→R x y H2→wpAny (model X.prog X.w) X.A (f v u) Q X.xe s2) :
  wpAny (model X.prog X.w) X.A (eval a X.env) (fun v s₁=>wpAny (model X.prog X.w) X.A (eval b X.env) (fun u s₂=>wpAny (model X.prog X.w) X.A (f v u) Q X.xe s₂) X.xe s₁) X.xe s:=by
 refine thn (ha pins s σ H _ I h) fun v s1 zz1=>?_
 obtain ⟨x,H1,I1,r1,q1⟩:=zz1
 refine thn (hb pins s1 σ H1 _ I1 q1) fun u s2 zz2=>?_
 obtain ⟨y,H2,I2,r2,q2⟩:=zz2
 exact hf v u s2 x y H2 I2 r1 r2 q2
def ZzU (i:Nat):TE:=fun σ H Q=>∃ v,σ[i]?=some (some v)∧Q v H
def tC (v:V):TE:=fun _ H Q=>Q v H
theorem ZtL {i:Nat} {x:Str} {pos:Pos} (hN:X.N[i]?=some x) (hv:Vis X.env.scope x) (hd:(x==("__debug__":Str))=false:=by decide) (hcd:(x==("__classdict__":Str))=false:=by decide):PE X (.Name x pos) (ZzU i):=by
 intro pins s σ H Q I h
 obtain ⟨v,e,h⟩:=h
 obtain ⟨m,hn,hl⟩:=I.loc
 obtain ⟨u,r,l⟩:=hl i x v hN e hv
 have fin:EP X pins σ Q u s:=⟨v,H,I,r,h⟩
 rcases l with ⟨hk,hm⟩ | ⟨hk,c,hc,hcell⟩
 ·exact wpAny_Name (wpAny_loadName_local I.ok.kind hk hn hm fin) hd
 ·rcases hk with hk | hk
  ·exact wpAny_Name (wpAny_loadName_cell I.ok.kind hk hc hcell fin) hd
  ·exact wpAny_Name (wpAny_loadName_free I.ok.kind hk hc hcell fin hcd) hd
theorem Zx6 {i j pos}:PE X (.Constant (.int i) j pos) (tC (.int i)):=fun _ _ _ H _ I h=>wpAny_Constant_int ⟨.int i,H,I.tok _,⟨_,rfl⟩,h⟩
theorem Zy8 {b j pos}:PE X (.Constant (.bool b) j pos) (tC (.bl b)):=fun _ _ _ H _ I h=>Constant_bool ⟨.bl b,H,I,rfl,h⟩
theorem ZyB {j pos}:PE X (.Constant .none j pos) (tC .non):=fun _ _ _ H _ I h=>Constant_none ⟨.non,H,I,rfl,h⟩
theorem Zwf {x j pos}:PE X (.Constant (.str x) j pos) (tC (.str x)):=fun _ _ _ H _ I h=>Calls.Constant_str ⟨.str x,H,I.tok _,⟨_,rfl⟩,h⟩
def Gl (X:Cx) (x:Str):Prop:=X.env.kindOf x=some .globalImplicit
theorem ZmH {E:Value→Shared→Prop} {pins:List (Addr×Obj)} {s:Shared} {σ:St} {H:Hp} {x:Str} {u:Value} {pos:Pos} {Q:Value→Shared→Prop} (I:Inv X pins σ H s) (hg:Gl X x) (hm:X.mg x=some u) (h:Q u s)
  (hd:(x==("__debug__":Str))=false:=by decide):wpAny (model X.prog X.w) X.A (eval (.Name x pos) X.env) Q E s :=
 Calls.Name_function_global I.ok.kind hg (Calls.loadGlobal_global (by rw [I.ok.glob];exact I.mod.glob.keeps I.bk) hm h) hd
theorem ZeE {E:Value→Shared→Prop} {pins:List (Addr×Obj)} {s:Shared} {σ:St} {H:Hp} {x:Str} {u:Value} {pos:Pos} {Q:Value→Shared→Prop} (I:Inv X pins σ H s) (hg:Gl X x) (hm:X.mg x=none) (hv:bootBuiltins x=some u) (h:Q u s)
  (hn:x≠"__name__":=by decide) (hd:(x==("__debug__":Str))=false:=by decide):wpAny (model X.prog X.w) X.A (eval (.Name x pos) X.env) Q E s:=by
 obtain ⟨mb,h1,h2⟩:=I.mod.blt
 exact Calls.Name_function_global I.ok.kind hg (Calls.loadGlobal_builtin (by rw [I.ok.glob];exact I.mod.glob.keeps I.bk) hm (by rw [I.ok.blt];exact h1.keeps I.bk) ((h2 x hn).trans hv) h) hd
theorem Zvy {x:Str} {v:V} {u:Value} {pos:Pos} (hg:Gl X x) (hm:X.mg x=some u) (r:RelV v u) (hd:(x==("__debug__":Str))=false:=by decide):PE X (.Name x pos) (tC v) :=
 fun _ _ _ H _ I h=>ZmH I hg hm ⟨v,H,I,r,h⟩ hd
theorem ZuS {x:Str} {v:V} {u:Value} {pos:Pos} (hg:Gl X x) (hm:X.mg x=none) (hv:bootBuiltins x=some u) (r:RelV v u) (hn:x≠"__name__":=by decide) (hd:(x==("__debug__":Str))=false:=by decide):PE X (.Name x pos) (tC v) :=
 fun _ _ _ H _ I h=>ZeE I hg hm hv ⟨v,H,I,r,h⟩ hn hd
def t2I (ta tb:TE) (k:Int→Int→Hp→Prop):St→Hp→Prop:=fun σ H=>ta σ H fun x H1=>tb σ H1 fun y H2=>∃ i j,x=.int i∧y=.int j∧k i j H2
def ZAC (ta tb:TE):TE:=fun σ H Q=>t2I ta tb (fun i j H2=>Q (.int (i - j)) H2) σ H
variable {a b:Expr} {ta tb:TE} {pos:Pos}
theorem Zbf (ha:PE X a ta) (hb:PE X b tb):PE X (.BinOp a .Sub b pos) (ZAC ta tb):=by
 intro pins s σ H Q I h
 refine wpAny_BinOp (bin ha hb I h fun v u s2 x y H2 I2 rx ry q=>?_)
 obtain ⟨i,j,rfl,rfl,q⟩:=q
 obtain ⟨t,rfl⟩:=rx
 obtain ⟨t',rfl⟩:=ry
 exact sub_int ⟨.int _,H2,I2.tok _,⟨_,rfl⟩,q⟩
variable {tA tB':TT} {Zdr:List Expr}
def ZAV (t u:TT):TT:=fun σ H Q=>t σ H fun c H1=>if c=true then u σ H1 Q else Q false H1
def tOr (t u:TT):TT:=fun σ H Q=>t σ H fun c H1=>if c=true then Q true H1 else u σ H1 Q
def ZAq (t:TT):TT:=fun σ H Q=>t σ H fun c H1=>Q (!c) H1
theorem Zvm (ha:PT X a tA):PW X (.BoolOp .And [a] pos) tA:=by
 intro wh pins s σ H Q I h
 refine isTrue_and (thn (ha pins s σ H Q I h) fun c s1 e=>?_)
 cases c with
 | true=>exact isTrue_and_nil e
 | false=>exact e
theorem ZyE (ha:PT X a tA):PW X (.BoolOp .Or [a] pos) tA:=by
 intro wh pins s σ H Q I h
 refine isTrue_or (thn (ha pins s σ H Q I h) fun c s1 e=>?_)
 cases c with
 | false=>exact isTrue_or_nil e
 | true=>exact e
theorem Zxo (ha:PT X a tA) (hb:PW X (.BoolOp .And (b::Zdr) pos) tB'):PW X (.BoolOp .And (a::b::Zdr) pos) (ZAV tA tB'):=by
 intro wh pins s σ H Q I h
 refine isTrue_and (thn (ha pins s σ H _ I h) fun c s1 zz7=>?_)
 obtain ⟨H1,I1,q1⟩:=zz7
 cases c with
 | true=>exact hb wh pins s1 σ H1 Q I1 q1
 | false=>exact ⟨H1,I1,q1⟩
theorem Zy7 (ha:PT X a tA) (hb:PW X (.BoolOp .Or (b::Zdr) pos) tB'):PW X (.BoolOp .Or (a::b::Zdr) pos) (tOr tA tB'):=by
 intro wh pins s σ H Q I h
 refine isTrue_or (thn (ha pins s σ H _ I h) fun c s1 zz8=>?_)
 obtain ⟨H1,I1,q1⟩:=zz8
 cases c with
 | true=>exact ⟨H1,I1,q1⟩
 | false=>exact hb wh pins s1 σ H1 Q I1 q1
theorem ZwT (ha:PT X a tA):PT X (.UnaryOp .Not a pos) (ZAq tA):=by
 intro pins s σ H Q I h
 exact isTrue_not (ha pins s σ H (fun c H1=>Q (!c) H1) I h)
def Zzl (ta tb:TE):TE:=fun σ H Q=>ta σ H fun x H1=>∃ c,x=.bl c∧if c=true then tb σ H1 Q else Q (.bl false) H1
def ZA0 (ta tb:TE):TE:=fun σ H Q=>ta σ H fun x H1=>∃ c,x=.bl c∧if c=true then Q (.bl true) H1 else tb σ H1 Q
def Zzz (ta:TE):TE:=fun σ H Q=>ta σ H fun x H1=>∃ c,x=.bl c∧Q (.bl (!c)) H1
theorem Zwn {op} {t:TE} (h:PE X a t):PE X (.BoolOp op [a] pos) t:=fun pins s σ H Q I hw=>BoolOp_one (h pins s σ H Q I hw)
theorem ZyM (ha:PE X a ta) (hb:PE X (.BoolOp .And (b::Zdr) pos) tb):PE X (.BoolOp .And (a::b::Zdr) pos) (Zzl ta tb):=by
 intro pins s σ H Q I h
 refine BoolOp_and (thn (ha pins s σ H _ I h) fun v s1 zz9=>?_)
 obtain ⟨x,H1,I1,r1,q1⟩:=zz9
 obtain ⟨c,rfl,q1⟩:=q1
 cases r1
 refine wpAny_truthy_bool ?_
 cases c with
 | true=>exact hb pins s1 σ H1 Q I1 q1
 | false=>exact ⟨.bl false,H1,I1,rfl,q1⟩
theorem ZyY (ha:PE X a ta) (hb:PE X (.BoolOp .Or (b::Zdr) pos) tb):PE X (.BoolOp .Or (a::b::Zdr) pos) (ZA0 ta tb):=by
 intro pins s σ H Q I h
 refine BoolOp_or (thn (ha pins s σ H _ I h) fun v s1 zz10=>?_)
 obtain ⟨x,H1,I1,r1,q1⟩:=zz10
 obtain ⟨c,rfl,q1⟩:=q1
 cases r1
 refine wpAny_truthy_bool ?_
 cases c with
 | false=>exact hb pins s1 σ H1 Q I1 q1
 | true=>exact ⟨.bl true,H1,I1,rfl,q1⟩
theorem Zxf (ha:PE X a ta):PE X (.UnaryOp .Not a pos) (Zzz ta):=by
 intro pins s σ H Q I h
 refine UnaryOp_ (thn (ha pins s σ H _ I h) fun v s1 zz11=>?_)
 obtain ⟨x,H1,I1,r1,q1⟩:=zz11
 obtain ⟨c,rfl,q1⟩:=q1
 cases r1
 exact not_of (wpAny_truthy_bool ⟨.bl (!c),H1,I1,rfl,q1⟩)
def tIf (t:TT) (ta tb:TE):TE:=fun σ H Q=>t σ H fun c H1=>if c=true then ta σ H1 Q else tb σ H1 Q
theorem Zsd {c:Expr} (hc:PT X c tA) (ha:PE X a ta) (hb:PE X b tb):PE X (.IfExp c a b pos) (tIf tA ta tb):=by
 intro pins s σ H Q I h
 refine wpAny_IfExp (thn (hc pins s σ H _ I h) fun d s1 zz12=>?_)
 obtain ⟨H1,I1,q1⟩:=zz12
 cases d with
 | true=>exact ha pins s1 σ H1 Q I1 q1
 | false=>exact hb pins s1 σ H1 Q I1 q1
end
def SqL (K:PySem.W.Frag) (H:Hp) (a:Addr) (xs:List V):Prop :=
 Rd H a (.lst xs) ∨
  ∃ (o:Obj) (its:Array Value) (n:Nat),K.lookup a=some o∧o.cls=.type "list"∧o.dict=none∧o.data=.seq its n∧its.size≤sizeLine∧Vals xs its.toList
def SqT (K:PySem.W.Frag) (H:Hp) (a:Addr) (xs:List V):Prop :=
 Rd H a (.tup xs) ∨
  ∃ (o:Obj) (its:Array Value) (n:Nat),K.lookup a=some o∧o.cls=.type "tuple"∧o.dict=none∧o.data=.seq its n∧its.size≤sizeLine∧Vals xs its.toList
def ZA2:Value→Option V
 | .none=>some .non
 | .bool b=>some (.bl b)
 | .int i _=>some (.int i)
 | .str x _=>some (.str x)
 | .bytes b _=>some (.byt b)
 | .float b _=>some (.flt b)
 | .ref a=>some (.ref a)
 | .type n=>some (.ty n)
 | _=>none
theorem RelV.abs {x:V} {u:Value} (r:RelV x u):ZA2 u=some x:=by
 cases x with
 | non=>cases r;rfl
 | bl _=>cases r;rfl
 | int _=>obtain ⟨t,rfl⟩:=r;rfl
 | str _=>obtain ⟨t,rfl⟩:=r;rfl
 | byt _=>obtain ⟨t,rfl⟩:=r;rfl
 | flt _=>obtain ⟨t,rfl⟩:=r;rfl
 | ref _=>cases r;rfl
 | ty _=>cases r;rfl
theorem RelV.inj {x y:V} {u:Value} (r:RelV x u) (q:RelV y u):x=y:=Option.some.inj (r.abs.symm.trans q.abs)
theorem Vals.inj:∀ {xs ys:List V} {us:List Value},Vals xs us→Vals ys us→xs=ys
 | _,_,_,.nil,.nil=>rfl
 | _,_,_,.cons r t,.cons r' t'=>by rw [r.inj r',Vals.inj t t']
section
variable {X:Cx} {pins:List (Addr×Obj)} {σ:St} {H:Hp} {s:Shared} {a:Addr} {xs ys:List V}
theorem SqL.of {K:PySem.W.Frag} (h:H a=some (.lst xs)):SqL K H a xs:=.inl (.inl h)
theorem SqT.of {K:PySem.W.Frag} (h:H a=some (.tup xs)):SqT K H a xs:=.inl (.inl h)
theorem Inv.list (I:Inv X pins σ H s) (h:SqL X.K H a xs):∃ its:List Value,Vals xs its∧PlainL s.heap a its.toArray∧xs.length≤sizeLine:=by
 rcases h with h | ⟨o,its,n,hk,hc,hd,hs,hz,r⟩
 ·obtain ⟨z,its,n,r,e⟩:=h.ok I.hok
  exact ⟨its,r,⟨_,n,e,rfl,rfl,rfl⟩,z⟩
 ·refine ⟨its.toList,r,⟨o,n,I.kIn a o hk,hc,hd,by simpa using hs⟩,?_⟩
  have e:=r.length
  simp only [Array.length_toList] at e
  omega
theorem Inv.tupP (I:Inv X pins σ H s) (h:SqT X.K H a xs):∃ its:List Value,Vals xs its∧TupP s.heap a its.toArray∧xs.length≤sizeLine:=by
 rcases h with h | ⟨o,its,n,hk,hc,hd,hs,hz,r⟩
 ·obtain ⟨z,its,r,p⟩:=h.ok I.hok
  exact ⟨its,r,p,z⟩
 ·refine ⟨its.toList,r,⟨o,I.kIn a o hk,hc,hd,n,by simpa using hs⟩,?_⟩
  have e:=r.length
  simp only [Array.length_toList] at e
  omega
theorem Inv.tuple (I:Inv X pins σ H s) (h:SqT X.K H a xs):∃ its:List Value,Vals xs its∧IsTup s.heap a its.toArray∧xs.length≤sizeLine :=
 let ⟨its,r,p,z⟩:=I.tupP h
 ⟨its,r,p.up,z⟩
theorem Inv.list_inj (I:Inv X pins σ H s) (h:SqL X.K H a xs) (h':SqL X.K H a ys):xs=ys:=by
 obtain ⟨its,r,⟨o,n,e,_,_,d⟩,_⟩:=I.list h
 obtain ⟨its',r',⟨o',n',e',_,_,d'⟩,_⟩:=I.list h'
 rw [e] at e';cases e'
 rw [d] at d'
 injection d' with d1 _
 have:its=its':=by simpa using congrArg Array.toList d1
 subst this
 exact r.inj r'
theorem Inv.tuple_inj (I:Inv X pins σ H s) (h:SqT X.K H a xs) (h':SqT X.K H a ys):xs=ys:=by
 obtain ⟨its,r,⟨o,e,_,n,d⟩,_⟩:=I.tuple h
 obtain ⟨its',r',⟨o',e',_,n',d'⟩,_⟩:=I.tuple h'
 rw [e] at e';cases e'
 rw [d] at d'
 injection d' with d1 _
 have:its=its':=by simpa using congrArg Array.toList d1
 subst this
 exact r.inj r'
end
abbrev Cx.wish (X:Cx) (E:Value→Shared→Prop):Cx:={ X with xe:=E }
abbrev Cx.nox (X:Cx):Cx:=X.wish fun _ _=>False
theorem Cx.Ok.wish {X:Cx} (ok:X.Ok) (E:Value→Shared→Prop):(X.wish E).Ok :=
 ⟨ok.mod,ok.kind,ok.glob,ok.blt,ok.above,ok.inj,ok.has,ok.cab,ok.hd,ok.frames,ok.stk,ok.exf,ok.bs,ok.bsz,ok.noex,ok.exfs,ok.funs,ok.frf⟩
theorem Cx.Ok.unwish {X:Cx} {E:Value→Shared→Prop} (ok:(X.wish E).Ok):X.Ok :=
 ⟨ok.mod,ok.kind,ok.glob,ok.blt,ok.above,ok.inj,ok.has,ok.cab,ok.hd,ok.frames,ok.stk,ok.exf,ok.bs,ok.bsz,ok.noex,ok.exfs,ok.funs,ok.frf⟩
section
variable {X:Cx} {pins:List (Addr×Obj)} {σ:St} {H:Hp} {s:Shared} {E:Value→Shared→Prop}
theorem Inv.wish (I:Inv X pins σ H s) (E:Value→Shared→Prop):Inv (X.wish E) pins σ H s:=⟨I.ok.wish E,I.os,I.bare,I.base,I.loc,I.cell,I.free,I.freeC,I.pin,I.hok,I.len⟩
theorem Inv.unwish (I:Inv (X.wish E) pins σ H s):Inv X pins σ H s:=⟨I.ok.unwish,I.os,I.bare,I.base,I.loc,I.cell,I.free,I.freeC,I.pin,I.hok,I.len⟩
theorem SP.unwish {D:Zv0} {f:Flow} {s':Shared} (h:SP (X.wish E) pins D f s'):SP X pins D f s':=by
 cases f with
 | next=>obtain ⟨σ',H',I,q⟩:=h;exact ⟨σ',H',I.unwish,q⟩
 | brk=>obtain ⟨σ',H',I,q⟩:=h;exact ⟨σ',H',I.unwish,q⟩
 | cont=>obtain ⟨σ',H',I,q⟩:=h;exact ⟨σ',H',I.unwish,q⟩
 | ret u=>obtain ⟨v,σ',H',I,r,q⟩:=h;exact ⟨v,σ',H',I.unwish,r,q⟩
theorem PE.nox {e:Expr} {t:TE} (h:PE X.nox e t):PE X e t:=fun pins s σ H Q I hw =>
 wpAny_mono (h pins s σ H Q (I.wish _) hw) ((by rintro _ _ ⟨v,H',I',r,q⟩;exact ⟨v,H',I'.unwish,r,q⟩)) fun _ _ z=>False.elim z
theorem PT.nox {e:Expr} {t:TT} (h:PT X.nox e t):PT X e t:=fun pins s σ H Q I hw =>
 wpAny_mono (h pins s σ H Q (I.wish _) hw) ((by rintro _ _ ⟨H',I',q⟩;exact ⟨H',I'.unwish,q⟩)) fun _ _ z=>False.elim z
theorem PSs.nox {st:List Stmt} {t:TS} (h:PSs X.nox st t):PSs X st t:=fun pins s σ H D I hw =>
 wpAny_mono (h pins s σ H D (I.wish _) hw) (fun _ _ q=>q.unwish) fun _ _ z=>False.elim z
end
section
variable {X:Cx} {st:Stmt} {Zdr:List Stmt} {t u:TS} {e:Expr} {te:TE} {pos:Pos}
def Zzk:TS:=fun D σ H=>D.nx σ H
def ZAH (t u:TS):TS:=fun D σ H=>t { D with nx:=u D } σ H
theorem ZvV:PSs X [] Zzk:=fun _ _ σ H _ I h=>wpAny_execs_nil ⟨σ,H,I,h⟩
theorem Zs3 (h1:PS X st t) (h2:PSs X Zdr u):PSs X (st::Zdr) (ZAH t u):=by
 intro pins s σ H D I h
 refine wpAny_execs_cons (thn (h1 pins s σ H { D with nx:=u D } I h) fun f s1 q=>?_)
 cases f with
 | next =>
  obtain ⟨σ',H',I',q⟩:=q
  exact h2 pins s1 σ' H' D I' q
 | ret v=>exact q
 | brk=>exact q
 | cont=>exact q
theorem Zve (h1:PS X st t):PSs X [st] t:=by
 intro pins s σ H D I h
 refine wpAny_execs_cons (thn (h1 pins s σ H D I h) fun f s1 q=>?_)
 cases f with
 | next=>exact wpAny_execs_nil q
 | ret v=>exact q
 | brk=>exact q
 | cont=>exact q
theorem Inv.quiet {pins:List (Addr×Obj)} {σ:St} {H:Hp} {s:Shared} (I:Inv X pins σ H s):interactive X.env=false:=by simp [interactive,I.ok.kind]
def Zzq (te:TE):TS:=fun D σ H=>te σ H fun _ H1=>D.nx σ H1
theorem ZuA (he:PE X e te) (hs:swapsWith e none pos.line X.env=pure false:=by rfl):PS X (.Expr e pos) (Zzq te):=by
 intro pins s σ H D I h
 exact wpAny_Expr_any (thn (he pins s σ H _ I h) (by rintro v s1 ⟨x,H1,I1,r1,q1⟩;exact ⟨σ,H1,I1,q1⟩)) I.quiet hs
def ZAB (te:TE):TS:=fun D σ H=>te σ H D.rt
theorem Zwp (he:PE X e te):PS X (.Return (some e) pos) (ZAB te):=by
 intro pins s σ H D I h
 exact wpAny_Return_some (thn (he pins s σ H _ I h) (by rintro v s1 ⟨x,H1,I1,r1,q1⟩;exact ⟨x,σ,H1,I1,r1,q1⟩))
def ZAM (c:TT) (t u:TS):TS:=fun D σ H=>c σ H fun b H1=>if b=true then t D σ H1 else u D σ H1
theorem ZzC {c:Expr} {a b:List Stmt} {tc:TT} (hc:PT X c tc) (ha:PSs X a t) (hb:PSs X b u):PS X (.If c a b pos) (ZAM tc t u):=by
 intro pins s σ H D I h
 refine wpAny_If (thn (hc pins s σ H _ I h) fun d s1 zz13=>?_)
 obtain ⟨H1,I1,q1⟩:=zz13
 cases d with
 | true=>exact ha pins s1 σ H1 D I1 q1
 | false=>exact hb pins s1 σ H1 D I1 q1
end
abbrev TG:=V→St→Hp→(St→Hp→Prop)→Prop
abbrev TGs:=List V→St→Hp→(St→Hp→Prop)→Prop
def PG (X:Cx) (target:Expr) (t:TG):Prop :=
 ∀ (pins:List (Addr×Obj)) (s:Shared) (σ:St) (H:Hp) (v:V) (u:Value) (Q:St→Hp→Prop),Inv X pins σ H s→RelV v u→t v σ H Q →
  wpAny (model X.prog X.w) X.A (assign target X.env u) (fun _ s'=>∃ σ' H',Inv X pins σ' H' s'∧Q σ' H') X.xe s
def PGs (X:Cx) (ts:List Expr) (t:TGs):Prop :=
 ∀ (pins:List (Addr×Obj)) (s:Shared) (σ:St) (H:Hp) (vs:List V) (us:List Value) (Q:St→Hp→Prop),Inv X pins σ H s→Vals vs us→t vs σ H Q →
  wpAny (model X.prog X.w) X.A (assignInOrder ((assignEach ts X.env).map (·.2)) us) (fun _ s'=>∃ σ' H',Inv X pins σ' H' s'∧Q σ' H') X.xe s
abbrev ZzL:=V→V→V→Hp→(Hp→Prop)→Prop
def ZzA (X:Cx) (t:ZzL):Prop :=
 ∀ (pins:List (Addr×Obj)) (s:Shared) (σ:St) (H:Hp) (o i v:V) (ov iv u:Value) (Q:Hp→Prop),Inv X pins σ H s→RelV o ov→RelV i iv→RelV v u→t o i v H Q →
  wpAny (model X.prog X.w) X.A (setItem ov iv u) (fun _ s'=>∃ H',Inv X pins σ H' s'∧Q H') X.xe s
abbrev TIp:=V→V→Hp→VK→Prop
def PIp (X:Cx) (op:Operator) (t:TIp):Prop :=
 ∀ (pins:List (Addr×Obj)) (s:Shared) (σ:St) (H:Hp) (x y:V) (v u:Value) (Q:VK),Inv X pins σ H s→RelV x v→RelV y u→t x y H Q →
  wpAny (model X.prog X.w) X.A (inplaceOp op v u) (EP X pins σ Q) X.xe s
section
variable {X:Cx} {pos:Pos}
def ZhE (i:Nat):TG:=fun v σ H Q=>Q (σ.set i (some v)) H
theorem Zcx {i:Nat} {x:Str} (hN:X.N.Nodup) (hi:X.N[i]?=some x) (hx:Loc X.env.scope x) (hf:X.fn x=true∨X.env.scope.names.lookup x=some .local:=by first | exact .inl rfl | exact .inr rfl | assumption):PG X (.Name x pos) (ZhE i):=by
 intro pins s σ H v u Q I r h
 exact wpAny_assign_Name (Zks I hN hi hx r (fun s' I'=>⟨_,H,I',h⟩) hf)
def Zaj:TGs:=fun vs σ H Q=>vs=[]∧Q σ H
def Zaa (t:TG) (u:TGs):TGs:=fun vs σ H Q=>∃ v r,vs=v::r∧t v σ H fun σ' H'=>u r σ' H' Q
theorem Zky:PGs X [] Zaj:=by
 intro pins s σ H vs us Q I r h
 obtain ⟨e,h⟩:=h
 subst e
 cases r
 exact assignInOrder_nil ⟨σ,H,I,h⟩
theorem ZcF {e:Expr} {es:List Expr} {t:TG} {u:TGs} (h1:PG X e t) (h2:PGs X es u)
  (hs:(assignEach (e::es) X.env).map (·.2)=assign e X.env::(assignEach es X.env).map (·.2):=by rfl):PGs X (e::es) (Zaa t u):=by
 intro pins s σ H vs us Q I r h
 obtain ⟨v,vr,e1,h⟩:=h
 subst e1
 cases r with
 | cons r rr =>
  rw [hs]
  refine assignInOrder_cons (thn (h1 pins s σ H _ _ _ I r h) fun _ s1 zz14=>?_)
  obtain ⟨σ1,H1,I1,q1⟩:=zz14
  exact h2 pins s1 σ1 H1 _ _ Q I1 rr q1
def Zbq (K:PySem.W.Frag) (n:Nat) (t:TGs):TG:=fun v σ H Q=>∃ a xs,v=.ref a∧SqT K H a xs∧xs.length=n∧t xs σ H Q
theorem Zm8 {es:List Expr} {k:Nat} {t:TGs} {n:Nat} (hc:X.calm=true) (h:PGs X es t)
  (hn:(assignEach es X.env).length=n:=by rfl) (hst:(assignEach es X.env).findIdx? (·.1)=none:=by rfl):PG X (.Tuple es k pos) (Zbq X.K n t):=by
 intro pins s σ H v u Q I r hw
 obtain ⟨a,xs,e1,hq,hl,hw⟩:=hw
 subst e1
 cases r
 obtain ⟨its,rv,ht,hz⟩:=I.tuple hq
 refine assign_Tuple_tuple (I.ok.hd hc) ht (by simp [hn,← hl,rv.length]) hst fun h' hx=>?_
 have I1:Inv X pins σ H { s with heap:=h' }:=I.kept (t':=s.toks) fun b o e=>hx b o (Nat.ne_of_lt (Heap.lt_size e)) e
 exact h pins _ σ H xs _ Q I1 (by simpa using rv) hw
def ZAw (to ti:TE) (t:ZzL):TG:=fun v σ H Q=>to σ H fun o H1=>ti σ H1 fun i H2=>t o i v H2 fun H3=>Q σ H3
theorem Ztr {o i:Expr} {to ti:TE} {t:ZzL} (ho:PE X o to) (hi:PE X i ti) (hs:ZzA X t)
  (ha:∀ v,assign (.Subscript o i pos) X.env v=(do
   let ov ← holding [v] (eval o X.env)
   let iv ← holding [v,ov] (eval i X.env)
   standAt pos
   holding [v,ov,iv] (setItem ov iv v)
   release [v,ov,iv] []):=by intro _;rfl):PG X (.Subscript o i pos) (ZAw to ti t):=by
 intro pins s σ H v u Q I r h
 rw [ha]
 refine wpAny_bind (wpAny_holding (thn (ho pins s σ H _ I h) fun ov s1 zz15=>?_))
 obtain ⟨x,H1,I1,r1,q1⟩:=zz15
 refine wpAny_bind (wpAny_holding (thn (hi pins s1 σ H1 _ I1 q1) fun iv s2 zz16=>?_))
 obtain ⟨y,H2,I2,r2,q2⟩:=zz16
 refine wpAny_bind (wpAny_standAt (wpAny_bind (wpAny_holding (thn (hs pins s2 σ H2 x y v ov iv u _ I2 r1 r2 r q2) fun _ s3 zz17=>?_))))
 obtain ⟨H3,I3,q3⟩:=zz17
 exact wpAny_release ⟨σ,H3,I3,q3⟩
def ZzV (te:TE) (g:TG):TS:=fun D σ H=>te σ H fun x H1=>g x σ H1 D.nx
theorem Zth {tg e:Expr} {te:TE} {g:TG} (he:PE X e te) (hg:PG X tg g) (hs:swapsWithSole [tg] e pos.line X.env=pure false:=by rfl) (hw:swappedStores [tg] e X.env=pure none:=by rfl)
  (h1:(assignEach [tg] X.env).map (·.2)=[assign tg X.env]:=by rfl):PS X (.Assign [tg] e pos) (ZzV te g):=by
 intro pins s σ H D I h
 refine wpAny_Assign_stores (thn (he pins s σ H _ I h) fun v s1 zz18=>?_) hs hw
 obtain ⟨x,H1,I1,r1,q1⟩:=zz18
 rw [h1]
 exact thn (hg pins s1 σ H1 x v _ I1 r1 q1) fun _ s2 q=>q
theorem Zwj {i:Nat} {x:Str} {e:Expr} {te:TE} {pos':Pos} (hN:X.N.Nodup) (hi:X.N[i]?=some x) (hx:Loc X.env.scope x) (he:PE X e te) (hs:swapsWith e (some (.Name x pos')) pos.line X.env=pure false:=by rfl) (hf:X.fn x=true∨X.env.scope.names.lookup x=some .local:=by first | exact .inl rfl | exact .inr rfl | assumption) :
  PS X (.Assign [.Name x pos'] e pos) (ZzV te (ZhE i)):=by
 intro pins s σ H D I h
 refine wpAny_Assign_Name (thn (he pins s σ H _ I h) fun v s1 zz19=>?_) hs
 obtain ⟨y,H1,I1,r1,q1⟩:=zz19
 exact Zks I1 hN hi hx r1 (fun s2 I2=>⟨_,H1,I2,q1⟩) hf
def ZAD (i:Nat) (te:TE) (ti:TIp):TS:=fun D σ H=>∃ x,σ[i]?=some (some x)∧te σ H fun y H1=>ti x y H1 fun z H2=>D.nx (σ.set i (some z)) H2
theorem ZwO {i:Nat} {x:Str} {e:Expr} {te:TE} {op:Operator} {ti:TIp} {pos':Pos} (hN:X.N.Nodup) (hi:X.N[i]?=some x) (hx:Loc X.env.scope x) (he:PE X e te) (ho:PIp X op ti) (hf:X.fn x=true∨X.env.scope.names.lookup x=some .local:=by first | exact .inl rfl | exact .inr rfl | assumption) :
  PS X (.AugAssign (.Name x pos') op e pos) (ZAD i te ti):=by
 intro pins s σ H D I h
 obtain ⟨v,e1,h⟩:=h
 obtain ⟨m,hn,hl⟩:=I.loc
 have vis:Vis X.env.scope x:=by rcases hx with k | k;exact .inl k;exact .inr (.inl k)
 obtain ⟨u,r,l⟩:=hl i x v hi e1 vis
 refine wpAny_AugAssign_Name ?_
 have go:wpAny (model X.prog X.w) X.A (eval e X.env) (fun w s₂=>wpAny (model X.prog X.w) X.A (inplaceOp op u w) (fun r s₃=>wpAny (model X.prog X.w) X.A (storeName X.env x r) (fun _=>SP X pins D .next) X.xe s₃) X.xe s₂) X.xe s:=by
  refine thn (he pins s σ H _ I h) fun w s1 zz21=>?_
  obtain ⟨y,H1,I1,r1,q1⟩:=zz21
  refine thn (ho pins s1 σ H1 v y u w _ I1 r r1 q1) fun z s2 zz22=>?_
  obtain ⟨zv,H2,I2,r2,q2⟩:=zz22
  exact Zks I2 hN hi hx r2 (fun s3 I3=>⟨_,H2,I3,q2⟩) hf
 rcases l with ⟨hk,hm⟩ | ⟨hk,c,hc,hcell⟩
 ·exact wpAny_loadName_local I.ok.kind hk hn hm go
 ·rcases hk with hk | hk
  ·exact wpAny_loadName_cell I.ok.kind hk hc hcell go
  ·rcases hx with k | k
   ·have:X.env.scope.names.lookup x=some .free:=hk
    rw [k] at this;cases this
   ·have:X.env.scope.names.lookup x=some .free:=hk
    rw [k] at this;cases this
end
section
variable {X:Cx} {pos:Pos}
def Zxu (c:TT) (tb:TS):TS:=fun D σ H=>∃ W:Nat→St→Hp→Prop,(∃ m,W m σ H)∧∀ m σ H,W m σ H →
 c σ H fun b H1=>if b=true then ∃ N:St→Hp→Prop,(∀ σ' H',N σ' H'→∃ m',m' < m∧W m' σ' H')∧tb { D with nx:=N,ct:=N,bk:=D.nx } σ H1 else D.nx σ H1
theorem ZrD {c:Expr} {body:List Stmt} {tc:TT} {tb:TS} (hp:PassesOwn (model X.prog X.w) X.A X.env X.xe) (hc:PT X c tc) (hb:PSs X body tb):PS X (.While c body [] pos) (Zxu tc tb):=by
 intro pins s σ H D I h
 obtain ⟨W,⟨m0,w0⟩,turn⟩:=h
 refine wpAny_While (codeAny_whileLoop (fun n s'=>∃ σ' H',Inv X pins σ' H' s'∧W n σ' H') ?_ m0 ⟨σ,H,I,w0⟩)
 rintro n s1 ⟨σ1,H1,I1,w1⟩
 refine wpAny_passesOwn hp (thn (hc pins s1 σ1 H1 _ I1 (turn n σ1 H1 w1)) fun b s2 zz28=>?_)
 obtain ⟨H2,I2,q2⟩:=zz28
 cases b with
 | true =>
  obtain ⟨N,hN,q2⟩:=q2
  rw [if_pos rfl]
  refine wpAny_passesOwn hp (thn (hb pins s2 σ1 H2 _ I2 q2) fun f s3 q3=>?_)
  cases f with
  | next =>
   obtain ⟨σ3,H3,I3,n3⟩:=q3
   obtain ⟨m',hm,w3⟩:=hN σ3 H3 n3
   exact ⟨m',hm,σ3,H3,I3,w3⟩
  | cont =>
   obtain ⟨σ3,H3,I3,n3⟩:=q3
   obtain ⟨m',hm,w3⟩:=hN σ3 H3 n3
   exact ⟨m',hm,σ3,H3,I3,w3⟩
  | brk=>exact q3
  | ret v=>exact q3
 | false =>
  rw [if_neg Bool.false_ne_true]
  exact wpAny_execs_nil ⟨σ1,H2,I2,q2⟩
end
structure It where
 go:Nat→Hp→Prop
 yld:Nat→Hp→V→Hp→Prop
 stop:Nat→Hp→Prop
def Zpl (X:Cx) (pins:List (Addr×Obj)) (H:Hp) (b:Addr):Prop :=
 H b=none∧b≠X.env.locals∧b∉X.fs∧(b∈X.ex∨X.s₀.heap.objs.size≤b)∧(∀ x c,X.env.cells.lookup x=some c→c≠b)∧∀ p∈X.pn++pins,p.1≠b
theorem Inv.fpOk {X:Cx} {pins:List (Addr×Obj)} {σ:St} {H H':Hp} {s:Shared} {b:Addr} (I:Inv X pins σ H s) (hb:s.heap.objs.size≤b) (hn:H' b=none):Zpl X pins H' b:=by
 refine ⟨hn,Nat.ne_of_gt (Nat.lt_of_lt_of_le I.lt hb),I.nofs hb,.inr (Nat.le_trans I.sz hb),fun x c e z=>?_,fun p hp z=>?_⟩
 ·obtain ⟨v,q⟩:=I.cell x c e
  exact absurd (Nat.lt_of_lt_of_le q.lt (by rw [z];exact hb)) (Nat.lt_irrefl _)
 ·exact absurd (Nat.lt_of_lt_of_le (Heap.lt_size (I.pin p hp).1) (by rw [z];exact hb)) (Nat.lt_irrefl _)
structure ZvN (P:Program) (w:World) (K:PySem.W.Frag) (tg:Expr) (J:It) (fp:List Addr) (it:Addr) (tn:Nat→Heap→Prop):Prop where
 mem:it∈fp
 obj:∀ i h,tn i h→∀ b∈fp,∃ o,h.get? b=some o∧∀ v,o.data≠.cell v
 keep:∀ i h h',tn i h→(∀ b∈fp,∀ o,h.get? b=some o→h'.get? b=some o)→tn i h'
 item:∀ (X:Cx),X.prog=P→X.w=w→X.K=K→X.calm=true→∀ (i:Nat) (pins:List (Addr×Obj)) (s:Shared) (σ:St) (H:Hp) (E:Value→Shared→Prop),Inv X pins σ H s→(∀ b∈fp,Zpl X pins H b)→tn i s.heap→J.go i H →
  wpAny (model P w) X.A (pyNext (.ref it)) (fun r s1=>∃ u,r=some u ∧
   wpAny (model P w) X.A (letOwnedTupleGo tg (.ref it) u) (fun _ s2=>∃ x H',Inv X pins σ H' s2∧RelV x u∧J.yld i H x H'∧tn (i+1) s2.heap∧∀ b∈fp,H' b=none) E s1) E s
 done:∀ (X:Cx),X.prog=P→X.w=w→X.K=K→X.calm=true→∀ (i:Nat) (pins:List (Addr×Obj)) (s:Shared) (σ:St) (H:Hp) (E:Value→Shared→Prop),Inv X pins σ H s→(∀ b∈fp,Zpl X pins H b)→tn i s.heap→J.stop i H →
  wpAny (model P w) X.A (pyNext (.ref it)) (fun r s1=>r=none∧Inv X pins σ H s1) E s
 self:∀ (A:Around) (i:Nat) (s:Shared) (Q:Value→Shared→Prop) (E:Value→Shared→Prop),tn i s.heap→Q (.ref it) s→wpAny (model P w) A (pyIter (.ref it)) Q E s
abbrev TI:=St→Hp→(It→Hp→Prop)→Prop
def PIE (X:Cx) (pins:List (Addr×Obj)) (σ:St) (tg:Expr) (R:It→Hp→Prop) (itv:Value) (s2:Shared):Prop :=
 ∃ (it:Addr) (fp:List Addr) (tn:Nat→Heap→Prop) (J:It) (H':Hp),itv=.ref it∧Inv X pins σ H' s2∧ZvN X.prog X.w X.K tg J fp it tn∧tn 0 s2.heap∧(∀ b∈fp,Zpl X pins H' b)∧R J H'
def PI (X:Cx) (tg iter:Expr) (wi:TI):Prop :=
 ∀ (pins:List (Addr×Obj)) (s:Shared) (σ:St) (H:Hp) (R:It→Hp→Prop),Inv X pins σ H s→wi σ H R →
  wpAny (model X.prog X.w) X.A (eval iter X.env) (fun v s1=>wpAny (model X.prog X.w) X.A (pyIter v) (PIE X pins σ tg R) X.xe s1) X.xe s
theorem Zxk {M:Model} {A:Around} {E:Value→Shared→Prop} {s:Shared} {tg:Expr} {it:Addr} {u:Value} {o:Obj} {n:String} {vs:Array Value} {Q:Unit→Shared→Prop} (ho:s.heap.get? it=some o) (hc:o.cls=.type n) (hd:o.data=.fields vs)
  (hn:["enumerate","zip","dict_itemiterator","dict_reverseitemiterator","odict_iterator","itertools.zip_longest","itertools.pairwise"].contains n=false) (hQ:Q () s):wpAny M A (letOwnedTupleGo tg (.ref it) u) Q E s:=by
 unfold letOwnedTupleGo
 cases tg <;> first
  | exact wpAny_pure hQ
  | (cases u <;> first
    | exact wpAny_pure hQ
    | (refine wpAny_bind (wpAny_load ho ?_)
       rw [hc,hd]
       show wpAny M A (if (["enumerate","zip","dict_itemiterator","dict_reverseitemiterator","odict_iterator","itertools.zip_longest","itertools.pairwise"].contains n&&vs[0]?==some (rawInt _))=true then _ else _) Q E s
       rw [if_neg (by intro h;rw [hn,Bool.false_and] at h;cases h)]
       exact wpAny_pure hQ))
def Itl (K:PySem.W.Frag) (a:Addr):It :=
 ⟨fun i H=>∃ xs x,SqL K H a xs∧xs[i]?=some x,fun i H x H'=>H'=H∧∀ xs,SqL K H a xs→xs[i]?=some x,fun i H=>∃ xs,SqL K H a xs∧xs.length≤i⟩
def Itt (K:PySem.W.Frag) (a:Addr):It :=
 ⟨fun i H=>∃ xs x,SqT K H a xs∧xs[i]?=some x,fun i H x H'=>H'=H∧∀ xs,SqT K H a xs→xs[i]?=some x,fun i H=>∃ xs,SqT K H a xs∧xs.length≤i⟩
def Itr (lo:Int) (n:Nat):It:=⟨fun i _=>i < n,fun i H x H'=>H'=H∧x=.int (lo+i),fun i _=>n≤i⟩
theorem Zla {P:Program} {w:World} {K:PySem.W.Frag} {tg:Expr} (a it:Addr):ZvN P w K tg (Itl K a) [it] it (fun i h=>h.IsListIter it a i) where
 mem:=by simp
 obj:=fun i h st b hb=>by
  have e:b=it:=by simpa using hb
  subst e
  obtain ⟨o,e,c,d⟩:=st
  exact ⟨o,e,fun v z=>by rw [d] at z;cases z⟩
 keep:=fun i h h' st k=>st.at fun o e=>k it (by simp) o e
 item:=by
  walk_at "pj"
  subst hP hw hK
  obtain ⟨xs,x,hq,hx⟩:=hg
  obtain ⟨its,rv,p,hz⟩:=I.list hq
  obtain ⟨u,hu,ru⟩:=rv.get hx
  walk_at "po"
  refine wpAny_pyNext_list_item st p.isList (x:=u) (by simpa using hu) fun h' st' sb=>?_
  have I1:Inv X pins σ H { s with heap:=h' }:=I.turned (t':=s.toks) (fun b o hb e=>(sb.2 b hb).trans e) f0 f1 f3 f4 f5
  obtain ⟨o,e,c,d⟩:=id st'
  exact ⟨u,rfl,Zxk (s:={ s with heap:=h' }) e c d (by decide) ⟨x,H,I1,ru,⟨rfl,fun ys hy=>by rw [I.list_inj hy hq];exact hx⟩,st',fun b hb=>(hf b hb).1⟩⟩
 done:=by
  walk_at "pj"
  subst hP hw hK
  obtain ⟨xs,hq,hx⟩:=hg
  obtain ⟨its,rv,p,hz⟩:=I.list hq
  walk_at "po"
  have hl:=rv.length
  exact wpAny_pyNext_list_end (I.ok.hd hc) st p.isList (by simp;omega) fun h' eb=>⟨rfl,I.turned (t':=s.toks) (fun b o hb e=>eb b o hb e) f0 f1 f3 f4 f5⟩
 self:=fun _ _ _ _ _ st h=>wpAny_pyIter_listiter st h
theorem Zjm {P:Program} {w:World} {K:PySem.W.Frag} {tg:Expr} (a it:Addr):ZvN P w K tg (Itt K a) [it] it (fun i h=>h.IsTupleIter it a i) where
 mem:=by simp
 obj:=fun i h st b hb=>by
  have e:b=it:=by simpa using hb
  subst e
  obtain ⟨o,e,c,d⟩:=st
  exact ⟨o,e,fun v z=>by rw [d] at z;cases z⟩
 keep:=fun i h h' st k=>st.at fun o e=>k it (by simp) o e
 item:=by
  walk_at "pj"
  subst hP hw hK
  obtain ⟨xs,x,hq,hx⟩:=hg
  obtain ⟨its,rv,p,hz⟩:=I.tuple hq
  obtain ⟨u,hu,ru⟩:=rv.get hx
  walk_at "po"
  refine wpAny_pyNext_tuple_item st (show s.heap.IsTuple a its.toArray from p) (x:=u) (by simpa using hu) fun h' st' sb=>?_
  have I1:Inv X pins σ H { s with heap:=h' }:=I.turned (t':=s.toks) (fun b o hb e=>(sb.2 b hb).trans e) f0 f1 f3 f4 f5
  obtain ⟨o,e,c,d⟩:=id st'
  exact ⟨u,rfl,Zxk (s:={ s with heap:=h' }) e c d (by decide) ⟨x,H,I1,ru,⟨rfl,fun ys hy=>by rw [I.tuple_inj hy hq];exact hx⟩,st',fun b hb=>(hf b hb).1⟩⟩
 done:=by
  walk_at "pj"
  subst hP hw hK
  obtain ⟨xs,hq,hx⟩:=hg
  obtain ⟨its,rv,p,hz⟩:=I.tuple hq
  walk_at "po"
  have hl:=rv.length
  exact wpAny_pyNext_tuple_end (I.ok.hd hc) st (show s.heap.IsTuple a its.toArray from p) (by simp;omega) fun h' eb=>⟨rfl,I.turned (t':=s.toks) (fun b o hb e=>eb b o hb e) f0 f1 f3 f4 f5⟩
 self:=fun _ _ _ _ _ st h=>wpAny_pyIter_tupleiter st h
section
variable {X:Cx} {tg:Expr}
def ZA9 (wi:TI) (g:TG) (tb:TS):TS:=fun D σ H=>wi σ H fun J H1=>∃ W:Nat→Nat→St→Hp→Prop,(∃ m,W 0 m σ H1)∧∀ i m σ H,W i m σ H →
 (J.stop i H∧D.nx σ H)∨(J.go i H∧∃ N:St→Hp→Prop,(∀ σ' H',N σ' H'→∃ m',m' < m∧W (i+1) m' σ' H')∧∀ x H',J.yld i H x H'→g x σ H' fun σ2 H2=>tb { D with nx:=N,ct:=N,bk:=D.nx } σ2 H2)
def Zli (fp:List Addr) (h:Heap):List (Addr×Obj):=fp.filterMap fun b=>(h.get? b).map fun o=>(b,o)
theorem Ze7 {fp:List Addr} {h:Heap} {b:Addr} {o:Obj} (hb:b∈fp) (e:h.get? b=some o):(b,o)∈Zli fp h:=List.mem_filterMap.mpr ⟨b,hb,by rw [e];rfl⟩
theorem Zpq {fp:List Addr} {h:Heap} {p:Addr×Obj} (hp:p∈Zli fp h):p.1∈fp∧h.get? p.1=some p.2:=by
 obtain ⟨b,hb,e⟩:=List.mem_filterMap.mp hp
 cases q:h.get? b with
 | none=>rw [q] at e;cases e
 | some o =>
  rw [q] at e
  have e':(b,o)=p:=Option.some.inj e
  subst e'
  exact ⟨hb,q⟩
theorem Inv.pinned {pins:List (Addr×Obj)} {σ:St} {H:Hp} {s:Shared} {fp:List Addr} (I:Inv X pins σ H s) (hf:∀ b∈fp,Zpl X pins H b) (ho:∀ b∈fp,∃ o,s.heap.get? b=some o∧∀ v,o.data≠.cell v):Inv X (pins++Zli fp s.heap) σ H s :=
 I.pins_of fun p hp=>(List.mem_append.mp hp).elim (fun z=>I.pin p (List.mem_append_right _ z)) fun z=>by
  obtain ⟨hb,e⟩:=Zpq z
  obtain ⟨f0,f1,f2,_⟩:=hf p.1 hb
  obtain ⟨o,e',d⟩:=ho p.1 hb
  rw [e] at e';cases e'
  exact ⟨e,f0,f1,f2,d⟩
theorem Inv.unpinned {pins pl:List (Addr×Obj)} {σ:St} {H:Hp} {s:Shared} (I:Inv X (pins++pl) σ H s):Inv X pins σ H s:=I.pins_of fun p hp=>I.pin p (List.mem_append_right _ (List.mem_append_left _ hp))
theorem ZwH {iter:Expr} {body:List Stmt} {wi:TI} {g:TG} {tb:TS} {pos:Pos} (hp:PassesOwn (model X.prog X.w) X.A X.env X.xe) (hc:X.calm=true) (hi:PI X tg iter wi) (hg:PG X tg g) (hb:PSs X body tb)
  (hs:∀ x,foldedSetIterable iter X.env x=pure x:=by intro _;rfl):PS X (.For tg iter body [] pos) (ZA9 wi g tb):=by
 intro pins s σ H D I h
 refine wpAny_For (thn (hi pins s σ H _ I h) fun v s1 h1=>thn h1 fun itv s2 h2=>?_) hs
 obtain ⟨it,fp,tn,J,H2,e,I2,T,st2,f2,W,⟨m0,w0⟩,turn⟩:=h2
 subst e
 have stat:∀ {H':Hp},(∀ b∈fp,H' b=none)→∀ b∈fp,Zpl X pins H' b:=fun hn b hb=>⟨hn b hb,(f2 b hb).2⟩
 refine codeAny_forLoop_any (fun n s'=>∃ i σ' H',Inv X pins σ' H' s'∧tn i s'.heap∧(∀ b∈fp,H' b=none)∧W i n σ' H') ?_ m0 ⟨0,σ,H2,I2,st2,fun b hb=>(f2 b hb).1,w0⟩
 rintro n s3 ⟨i,σ3,H3,I3,st3,fr3,w3⟩
 rcases turn i n σ3 H3 w3 with ⟨stop,qn⟩ | ⟨go,N,hN,step⟩
 ·refine wpAny_passesOwn hp (thn (T.done X rfl rfl rfl hc i pins s3 σ3 H3 X.xe I3 (stat fr3) st3 stop) fun r s4 zz33=>?_)
  obtain ⟨hr,I4⟩:=zz33
  subst hr
  exact wpAny_execs_nil ⟨σ3,H3,I4,qn⟩
 ·refine wpAny_passesOwn hp (thn (T.item X rfl rfl rfl hc i pins s3 σ3 H3 X.xe I3 (stat fr3) st3 go) fun r s4 zz34=>?_)
  obtain ⟨u,hr,h4⟩:=zz34
  subst hr
  refine wpAny_passesOwn hp (thn h4 fun _ s5 zz35=>?_)
  obtain ⟨x,H5,I5,r5,y5,st5,fr5⟩:=zz35
  have I5':=I5.pinned (stat fr5) (T.obj _ _ st5)
  refine wpAny_passesOwn hp (thn (hg _ s5 σ3 H5 x u _ I5' r5 (step x H5 y5)) fun _ s6 zz36=>?_)
  obtain ⟨σ6,H6,I6,q6⟩:=zz36
  refine wpAny_passesOwn hp (thn (hb _ s6 σ6 H6 _ I6 q6) fun f s7 q7=>?_)
  have again:∀ {σ7:St} {H7:Hp},Inv X (pins++Zli fp s5.heap) σ7 H7 s7→N σ7 H7→∃ m,m < n∧∃ i σ' H',Inv X pins σ' H' s7∧tn i s7.heap∧(∀ b∈fp,H' b=none)∧W i m σ' H':=fun {σ7 H7} I7 n7=>by
   obtain ⟨m',hm,w7⟩:=hN σ7 H7 n7
   refine ⟨m',hm,i+1,σ7,H7,I7.unpinned,T.keep _ _ _ st5 fun b hb o e=>(I7.pin (b,o) (List.mem_append_right _ (List.mem_append_right _ (Ze7 hb e)))).1,fun b hb=>?_,w7⟩
   obtain ⟨o,e,d⟩:=T.obj _ _ st5 b hb
   exact (I7.pin (b,o) (List.mem_append_right _ (List.mem_append_right _ (Ze7 hb e)))).2.1
  cases f with
  | next=>obtain ⟨σ7,H7,I7,n7⟩:=q7;exact again I7 n7
  | cont=>obtain ⟨σ7,H7,I7,n7⟩:=q7;exact again I7 n7
  | brk=>obtain ⟨σ7,H7,I7,q7⟩:=q7;exact ⟨σ7,H7,I7.unpinned,q7⟩
  | ret v=>obtain ⟨x7,σ7,H7,I7,r7,q7⟩:=q7;exact ⟨x7,σ7,H7,I7.unpinned,r7,q7⟩
end
abbrev R2:=V→V→Hp→VK→Prop
def OpR (X:Cx) (f:Value→Value→Sem Value) (r:R2):Prop :=
 ∀ (pins:List (Addr×Obj)) (s:Shared) (σ:St) (H:Hp) (x y:V) (v u:Value) (Q:VK),Inv X pins σ H s→RelV x v→RelV y u→r x y H Q →
  wpAny (model X.prog X.w) X.A (f v u) (EP X pins σ Q) X.xe s
def UnR (X:Cx) (f:Value→Sem Value) (r:V→Hp→VK→Prop):Prop :=
 ∀ (pins:List (Addr×Obj)) (s:Shared) (σ:St) (H:Hp) (x:V) (v:Value) (Q:VK),Inv X pins σ H s→RelV x v→r x H Q →
  wpAny (model X.prog X.w) X.A (f v) (EP X pins σ Q) X.xe s
def CallR (X:Cx) (f:Value) (r:List V→Hp→VK→Prop):Prop :=
 ∀ (pins:List (Addr×Obj)) (s:Shared) (σ:St) (H:Hp) (xs:List V) (us:List Value) (Q:VK),Inv X pins σ H s→Vals xs us→r xs H Q →
  wpAny (model X.prog X.w) X.A (call f us) (EP X pins σ Q) X.xe s
def ZAT (X:Cx) (r:V→Hp→(Bool→Hp→Prop)→Prop):Prop :=
 ∀ (pins:List (Addr×Obj)) (s:Shared) (σ:St) (H:Hp) (x:V) (v:Value) (Q:Bool→Hp→Prop),Inv X pins σ H s→RelV x v→r x H Q →
  wpAny (model X.prog X.w) X.A (truthy v) (TP X pins σ Q) X.xe s
def tOp (r:R2) (ta tb:TE):TE:=fun σ H Q=>ta σ H fun x H1=>tb σ H1 fun y H2=>r x y H2 Q
def tUn (r:V→Hp→VK→Prop) (ta:TE):TE:=fun σ H Q=>ta σ H fun x H1=>r x H1 Q
def rI (C:Int→Int→Prop) (g:Int→Int→V):R2:=fun x y H Q=>∃ i j,x=.int i∧y=.int j∧C i j∧Q (g i j) H
def rI0 (g:Int→Int→V):R2:=fun x y H Q=>∃ i j,x=.int i∧y=.int j∧Q (g i j) H
def rU (g:Int→V):V→Hp→VK→Prop:=fun x H Q=>∃ i,x=.int i∧Q (g i) H
section
variable {X:Cx} {a b c:Expr} {ta tb tc:TE} {pos:Pos}
theorem Zy0 (ha:PE X a ta) (hb:PE X b tb) {pins:List (Addr×Obj)} {s:Shared} {σ:St} {H:Hp} {R:V→V→Hp→Prop} (I:Inv X pins σ H s)
  (h:ta σ H fun x H1=>tb σ H1 fun y H2=>R x y H2) {Q:Value→Shared→Prop} {f:Value→Value→Sem Value}
  (hf:∀ v u s2 x y H2,Inv X pins σ H2 s2→RelV x v→RelV y u→R x y H2→wpAny (model X.prog X.w) X.A (f v u) Q X.xe s2) :
  wpAny (model X.prog X.w) X.A (eval a X.env) (fun v s₁=>wpAny (model X.prog X.w) X.A (eval b X.env) (fun u s₂=>wpAny (model X.prog X.w) X.A (f v u) Q X.xe s₂) X.xe s₁) X.xe s:=by
 refine thn (ha pins s σ H _ I h) fun v s1 zz37=>?_
 obtain ⟨x,H1,I1,r1,q1⟩:=zz37
 refine thn (hb pins s1 σ H1 _ I1 q1) fun u s2 zz38=>?_
 obtain ⟨y,H2,I2,r2,q2⟩:=zz38
 exact hf v u s2 x y H2 I2 r1 r2 q2
theorem Zy9 {op:Operator} {r:R2} (ho:OpR X (binaryOp op) r) (ha:PE X a ta) (hb:PE X b tb):PE X (.BinOp a op b pos) (tOp r ta tb):=by
 intro pins s σ H Q I h
 exact wpAny_BinOp (Zy0 ha hb I h fun v u s2 x y H2 I2 rx ry q=>ho pins s2 σ H2 x y v u Q I2 rx ry q)
theorem ZzT {op:UnaryOp} {r:V→Hp→VK→Prop} (ho:UnR X (unaryOp op) r) (ha:PE X a ta):PE X (.UnaryOp op a pos) (tUn r ta):=by
 intro pins s σ H Q I h
 exact UnaryOp_ (thn (ha pins s σ H _ I h) (by rintro v s1 ⟨x,H1,I1,r1,q1⟩;exact ho pins s1 σ H1 x v Q I1 r1 q1))
theorem opI {f:Value→Value→Sem Value} {C:Int→Int→Prop} {g:Int→Int→Int}
  (rule:∀ (i j:Int) (t u:Tok) (s:Shared) (Q:Value→Shared→Prop) (E:Value→Shared→Prop),C i j→Q (.int (g i j) s.toks) { s with toks:=s.toks+1 }→wpAny (model X.prog X.w) X.A (f (.int i t) (.int j u)) Q E s) :
  OpR X f (rI C fun i j=>.int (g i j)):=by
 walk_at "pa"
 obtain ⟨i,j,rfl,rfl,hc,q⟩:=h
 obtain ⟨t,rfl⟩:=rx
 obtain ⟨t',rfl⟩:=ry
 exact rule i j t t' s _ _ hc ⟨.int (g i j),H,I.tok _,⟨_,rfl⟩,q⟩
theorem ZAf {f:Value→Value→Sem Value} {g:Int→Int→Int}
  (rule:∀ (i j:Int) (t u:Tok) (s:Shared) (Q:Value→Shared→Prop) (E:Value→Shared→Prop),Q (.int (g i j) s.toks) { s with toks:=s.toks+1 }→wpAny (model X.prog X.w) X.A (f (.int i t) (.int j u)) Q E s) :
  OpR X f (rI0 fun i j=>.int (g i j)):=by
 walk_at "pa"
 obtain ⟨i,j,rfl,rfl,q⟩:=h
 obtain ⟨t,rfl⟩:=rx
 obtain ⟨t',rfl⟩:=ry
 exact rule i j t t' s _ _ ⟨.int (g i j),H,I.tok _,⟨_,rfl⟩,q⟩
theorem ZyS {f:Value→Value→Sem Value} {g:Int→Int→Bool}
  (rule:∀ (i j:Int) (t u:Tok) (s:Shared) (Q:Value→Shared→Prop) (E:Value→Shared→Prop),Q (.bool (g i j)) s→wpAny (model X.prog X.w) X.A (f (.int i t) (.int j u)) Q E s) :
  OpR X f (rI0 fun i j=>.bl (g i j)):=by
 walk_at "pa"
 obtain ⟨i,j,rfl,rfl,q⟩:=h
 obtain ⟨t,rfl⟩:=rx
 obtain ⟨t',rfl⟩:=ry
 exact rule i j t t' s _ _ ⟨.bl (g i j),H,I,rfl,q⟩
theorem ZAZ {x y:Int} (h0:0 < y) (h:y < 1267650600228229401496703205376):Builtin.divisionGoesByPylong x y=false:=by
 refine PyProof.noPylong_of_log2 ?_
 have h1:y.natAbs≠0:=by omega
 have h2:y.natAbs.log2 < 100:=(Nat.log2_lt h1).mpr (by omega)
 omega
def Zwa (i j:Int):Prop:=0 < j∧j < 1267650600228229401496703205376
def Zvj (i j:Int):Prop:=0≤j∧j≤1000000∧i.natAbs < 2 ^ 64
def CMul (i j:Int):Prop:=(-(2 ^ 64) < i∧i < 2 ^ 64)∨(-(2 ^ 64) < j∧j < 2 ^ 64)
theorem CMul.ok {i j:Int} (h:CMul i j):IntMulOk i j:=by
 rcases h with ⟨h1,h2⟩ | ⟨h1,h2⟩
 ·exact .of_left (intBits_le_64 h1 h2)
 ·exact .of_right (intBits_le_64 h1 h2)
theorem ZxZ:OpR X (binaryOp .Add) (rI0 fun i j=>.int (i+j)):=ZAf fun _ _ _ _ _ _ _ q=>add_int q
theorem Ztd:OpR X (binaryOp .Mult) (rI CMul fun i j=>.int (i*j)):=opI fun _ _ _ _ _ _ _ hc q=>mul_int q hc.ok
theorem Zva:OpR X (binaryOp .FloorDiv) (rI Zwa fun i j=>.int (i / j)):=opI fun i j _ _ _ _ _ hc q=>by
 have h1:(0:Int) < j:=hc.1
 have h2:j < 1267650600228229401496703205376:=hc.2
 exact floordiv_int (by omega) (by rw [Int.fdiv_eq_ediv_of_nonneg i (by omega)];exact q) (.inl (ZAZ h1 h2))
theorem Zw3:OpR X (binaryOp .Mod) (rI (fun _ j=>0 < j) fun i j=>.int (i % j)):=opI fun i j _ _ _ _ _ hc q=>by
 have h1:(0:Int) < j:=hc
 exact mod_int' (by omega) (by rw [Int.fmod_eq_emod_of_nonneg i (by omega)];exact q)
theorem ZwG:OpR X (binaryOp .Pow) (rI Zvj fun i j=>.int (i ^ j.toNat)):=opI fun _ _ _ _ _ _ _ hc q=>pow_int_small hc.1 hc.2.1 hc.2.2 q
theorem Zud:OpR X (inplaceOp .Add) (rI0 fun i j=>.int (i+j)):=ZAf fun _ _ _ _ _ _ _ q=>iadd_int q
theorem unI {f:Value→Sem Value} {g:Int→Int}
  (rule:∀ (i:Int) (t:Tok) (s:Shared) (Q:Value→Shared→Prop) (E:Value→Shared→Prop),Q (.int (g i) s.toks) { s with toks:=s.toks+1 }→wpAny (model X.prog X.w) X.A (f (.int i t)) Q E s) :
  UnR X f (rU fun i=>.int (g i)):=by
 intro pins s σ H x v Q I rx h
 obtain ⟨i,rfl,q⟩:=h
 obtain ⟨t,rfl⟩:=rx
 exact rule i t s _ _ ⟨.int (g i),H,I.tok _,⟨_,rfl⟩,q⟩
theorem Zyw:UnR X (unaryOp .USub) (rU fun i=>.int (-i)):=unI fun _ _ _ _ _ q=>neg_int q
end
def Zvk:V→V→Bool
 | .non,.non=>true | .non,.int _=>true | .int _,.non=>true | .non,.bl _=>true | .bl _,.non=>true | .non,.str _=>true | .str _,.non=>true
 | .int _,.int _=>true | .bl _,.bl _=>true | .str _,.str _=>true | .byt _,.byt _=>true
 | .int _,.str _=>true | .str _,.int _=>true | .bl _,.str _=>true | .str _,.bl _=>true
 | _,_=>false
def rEq:R2:=fun x y H Q=>Zvk x y=true∧Q (.bl (decide (x=y))) H
def rNe:R2:=fun x y H Q=>Zvk x y=true∧Q (.bl (!decide (x=y))) H
theorem Zmn {i j:Int}:decide (V.int i=V.int j)=(i==j):=by
 rw [Bool.eq_iff_iff]
 simp
theorem Zo8 {i j:Bool}:decide (V.bl i=V.bl j)=(i==j):=by
 rw [Bool.eq_iff_iff]
 simp
theorem Zmb {i j:Str}:decide (V.str i=V.str j)=(i==j):=by
 rw [Bool.eq_iff_iff]
 simp
theorem ZqZ {i j:Array UInt8}:decide (V.byt i=V.byt j)=(i.toList==j.toList):=by
 rw [Bool.eq_iff_iff]
 cases i
 cases j
 simp
section
variable {X:Cx} {a b c:Expr} {ta tb tc:TE} {pos:Pos}
theorem Za4 {pins:List (Addr×Obj)} {σ:St} {H:Hp} {s:Shared} {Q:VK} {k k':Bool} (I:Inv X pins σ H s) (q:Q (.bl k) H) (e:k=k'):EP X pins σ Q (.bool k') s:=by
 subst e
 exact ⟨.bl k,H,I,rfl,q⟩
theorem Zzg:OpR X (compareOp .Eq) rEq:=by
 walk_at "pa"
 obtain ⟨hs,q⟩:=h
 cases x with
 | non =>
  cases rx
  cases y with
  | non=>cases ry;exact PySem.EqNone.eq_none_none (Za4 I q (by simp))
  | bl j=>cases ry;exact PySem.EqNone.eq_none_bool (Za4 I q (by simp))
  | int j=>obtain ⟨t',rfl⟩:=ry;exact PySem.EqNone.eq_none_int (Za4 I q (by simp))
  | str j=>obtain ⟨t',rfl⟩:=ry;exact PySem.EqNone.eq_none_str (Za4 I q (by simp))
  | _=>exact absurd (show false=true from hs) Bool.false_ne_true
 | bl i =>
  cases rx
  cases y with
  | non=>cases ry;exact PySem.EqNone.eq_bool_none (Za4 I q (by simp))
  | bl j=>cases ry;exact eq_bool (Za4 I q Zo8)
  | str j=>obtain ⟨t',rfl⟩:=ry;exact PySem.EqMixed.eq_bool_str (Za4 I q (by simp))
  | _=>exact absurd (show false=true from hs) Bool.false_ne_true
 | int i =>
  obtain ⟨t,rfl⟩:=rx
  cases y with
  | non=>cases ry;exact PySem.EqNone.eq_int_none (Za4 I q (by simp))
  | int j=>obtain ⟨t',rfl⟩:=ry;exact eq_int (Za4 I q Zmn)
  | str j=>obtain ⟨t',rfl⟩:=ry;exact PySem.EqMixed.eq_int_str (Za4 I q (by simp))
  | _=>exact absurd (show false=true from hs) Bool.false_ne_true
 | str i =>
  obtain ⟨t,rfl⟩:=rx
  cases y with
  | non=>cases ry;exact PySem.EqNone.eq_str_none (Za4 I q (by simp))
  | bl j=>cases ry;exact PySem.EqMixed.eq_str_bool (Za4 I q (by simp))
  | int j=>obtain ⟨t',rfl⟩:=ry;exact PySem.EqMixed.eq_str_int (Za4 I q (by simp))
  | str j=>obtain ⟨t',rfl⟩:=ry;exact eq_str (Za4 I q Zmb)
  | _=>exact absurd (show false=true from hs) Bool.false_ne_true
 | byt i =>
  obtain ⟨t,rfl⟩:=rx
  cases y with
  | byt j=>obtain ⟨t',rfl⟩:=ry;exact PySem.W.eq_bytes (Za4 I q ZqZ)
  | _=>exact absurd (show false=true from hs) Bool.false_ne_true
 | _=>cases y <;> exact absurd (show false=true from hs) Bool.false_ne_true
theorem Zzs:OpR X (compareOp .NotEq) rNe:=by
 walk_at "pa"
 obtain ⟨hs,q⟩:=h
 cases x with
 | non =>
  cases rx
  cases y with
  | non=>cases ry;exact PySem.EqNone.ne_none_none (Za4 I q (by simp))
  | bl j=>cases ry;exact PySem.EqNone.ne_none_bool (Za4 I q (by simp))
  | int j=>obtain ⟨t',rfl⟩:=ry;exact PySem.EqNone.ne_none_int (Za4 I q (by simp))
  | str j=>obtain ⟨t',rfl⟩:=ry;exact PySem.EqNone.ne_none_str (Za4 I q (by simp))
  | _=>exact absurd (show false=true from hs) Bool.false_ne_true
 | bl i =>
  cases rx
  cases y with
  | non=>cases ry;exact PySem.EqNone.ne_bool_none (Za4 I q (by simp))
  | bl j=>cases ry;exact ne_bool (Za4 I q (congrArg not Zo8))
  | str j=>obtain ⟨t',rfl⟩:=ry;exact PySem.EqMixed.ne_bool_str (Za4 I q (by simp))
  | _=>exact absurd (show false=true from hs) Bool.false_ne_true
 | int i =>
  obtain ⟨t,rfl⟩:=rx
  cases y with
  | non=>cases ry;exact PySem.EqNone.ne_int_none (Za4 I q (by simp))
  | int j=>obtain ⟨t',rfl⟩:=ry;exact ne_int (Za4 I q (congrArg not Zmn))
  | str j=>obtain ⟨t',rfl⟩:=ry;exact PySem.EqMixed.ne_int_str (Za4 I q (by simp))
  | _=>exact absurd (show false=true from hs) Bool.false_ne_true
 | str i =>
  obtain ⟨t,rfl⟩:=rx
  cases y with
  | non=>cases ry;exact PySem.EqNone.ne_str_none (Za4 I q (by simp))
  | bl j=>cases ry;exact PySem.EqMixed.ne_str_bool (Za4 I q (by simp))
  | int j=>obtain ⟨t',rfl⟩:=ry;exact PySem.EqMixed.ne_str_int (Za4 I q (by simp))
  | str j=>obtain ⟨t',rfl⟩:=ry;exact ne_str (Za4 I q (congrArg not Zmb))
  | _=>exact absurd (show false=true from hs) Bool.false_ne_true
 | byt i =>
  obtain ⟨t,rfl⟩:=rx
  cases y with
  | byt j=>obtain ⟨t',rfl⟩:=ry;exact PySem.W.ne_bytes (Za4 I q (congrArg not ZqZ))
  | _=>exact absurd (show false=true from hs) Bool.false_ne_true
 | _=>cases y <;> exact absurd (show false=true from hs) Bool.false_ne_true
theorem Zzo:OpR X (compareOp .Lt) (rI0 fun i j=>.bl (decide (i < j))):=ZyS fun _ _ _ _ _ _ _ q=>lt_int q
theorem Zzm:OpR X (compareOp .LtE) (rI0 fun i j=>.bl (decide (i≤j))):=ZyS fun _ _ _ _ _ _ _ q=>le_int q
theorem Zzp:OpR X (compareOp .Gt) (rI0 fun i j=>.bl (decide (j < i))):=ZyS fun _ _ _ _ _ _ _ q=>gt_int q
theorem Zy2:OpR X (compareOp .GtE) (rI0 fun i j=>.bl (decide (j≤i))):=ZyS fun _ _ _ _ _ _ _ q=>ge_int q
theorem Zpw:OpR X (compareOp .Lt) (fun x y H Q=>∃ i j,x=.str i∧y=.str j∧Q (.bl (decide (i.cps.toList < j.cps.toList))) H):=by
 walk_at "pa"
 obtain ⟨i,j,rfl,rfl,q⟩:=h
 obtain ⟨t,rfl⟩:=rx
 obtain ⟨t',rfl⟩:=ry
 exact lt_str (Za4 I q rfl)
theorem Zwt:OpR X (compareOp .Is) (fun x y H Q=>y=.non∧Q (.bl (decide (x=.non))) H):=by
 walk_at "pa"
 obtain ⟨rfl,q⟩:=h
 cases ry
 refine is_none_gen (Za4 I q ?_)
 cases x <;> first
  | (cases rx;rfl)
  | (obtain ⟨t,rfl⟩:=rx;rfl)
theorem ZvC:OpR X (compareOp .IsNot) (fun x y H Q=>y=.non∧Q (.bl (!decide (x=.non))) H):=by
 walk_at "pa"
 obtain ⟨rfl,q⟩:=h
 cases ry
 refine isnot_none_gen (Za4 I q ?_)
 cases x <;> first
  | (cases rx;rfl)
  | (obtain ⟨t,rfl⟩:=rx;rfl)
theorem OpR.or {f:Value→Value→Sem Value} {r r':R2} (h:OpR X f r) (h':OpR X f r'):OpR X f (fun x y H Q=>r x y H Q∨r' x y H Q):=by
 intro pins s σ H x y v u Q I rx ry q
 rcases q with q | q
 ·exact h pins s σ H x y v u Q I rx ry q
 ·exact h' pins s σ H x y v u Q I rx ry q
theorem ZAl (b:Expr) {op:CmpOp} (h:op≠.In:=by decide) (h2:op≠.NotIn:=by decide):behindInMarks op b=false:=by
 have e1:(op==CmpOp.In)=false:=by cases op <;> first | rfl | exact absurd rfl h
 have e2:(op==CmpOp.NotIn)=false:=by cases op <;> first | rfl | exact absurd rfl h2
 cases b <;> simp [behindInMarks,e1,e2]
theorem ZuF {op:CmpOp} {r:R2} (ho:OpR X (compareOp op) r) (ha:PE X a ta) (hb:PE X b tb) (hm:behindInMarks op b=false):PE X (.Compare a [op] [b] pos) (tOp r ta tb):=by
 intro pins s σ H Q I h
 exact wpAny_Compare1 (Zy0 ha hb I h fun v u s2 x y H2 I2 rx ry q=>ho pins s2 σ H2 x y v u Q I2 rx ry q) hm
def Zxj (t:TE):TT:=fun σ H Q=>t σ H fun x H'=>∃ k,x=.bl k∧Q k H'
theorem Zuv {op:CmpOp} {r:R2} (ho:OpR X (compareOp op) r) (ha:PE X a ta) (hb:PE X b tb) (hm:behindInMarks op b=false):PT X (.Compare a [op] [b] pos) (Zxj (tOp r ta tb)):=by
 intro pins s σ H Q I h
 refine wpAny_isTrue_Compare1 (thn (ha pins s σ H _ I h) fun v s1 ⟨x,H1,I1,r1,q1⟩=>thn (hb pins s1 σ H1 _ I1 q1) fun u s2 ⟨y,H2,I2,r2,q2⟩ =>
  thn (ho pins s2 σ H2 x y v u _ I2 r1 r2 q2) fun c s3 ⟨z,H3,I3,r3,k,e,q3⟩=>?_) hm
 subst e
 cases r3
 exact wpAny_truthy_bool ⟨H3,I3,q3⟩
def Zqp (r r':R2) (ta tb tc:TE):TE:=fun σ H Q=>ta σ H fun x H1=>tb σ H1 fun y H2=>r x y H2 fun z H3=>∃ k,z=.bl k ∧
 (if k=true then tc σ H3 fun w' H4=>r' y w' H4 Q else Q (.bl false) H3)
theorem Zse {op op':CmpOp} {r r':R2} (ho:OpR X (compareOp op) r) (ho':OpR X (compareOp op') r') (ha:PE X a ta) (hb:PE X b tb) (hc:PE X c tc)
  (hm:lastMarks [op,op'] [b,c]=false:=by with_unfolding_all rfl):PE X (.Compare a [op,op'] [b,c] pos) (Zqp r r' ta tb tc):=by
 intro pins s σ H Q I h
 refine Compare_chain (thn (ha pins s σ H _ I h) fun v s1 ⟨x,H1,I1,r1,q1⟩=>chain_link (thn (hb pins s1 σ H1 _ I1 q1) fun u s2 ⟨y,H2,I2,r2,q2⟩ =>
  thn (ho pins s2 σ H2 x y v u _ I2 r1 r2 q2) fun d s3 ⟨z,H3,I3,r3,k,e,q3⟩=>?_)) hm
 subst e
 cases r3
 refine wpAny_truthy_bool ?_
 cases k with
 | false=>exact ite_ff ⟨.bl false,H3,I3,rfl,q3⟩
 | true=>exact ite_tt (chain_last (thn (hc pins s3 σ H3 _ I3 q3) (by rintro w' s4 ⟨z',H4,I4,r4,q4⟩;exact ho' pins s4 σ H4 y z' u w' Q I4 r2 r4 q4)))
theorem ZsC {op op':CmpOp} {r r':R2} (ho:OpR X (compareOp op) r) (ho':OpR X (compareOp op') r') (ha:PE X a ta) (hb:PE X b tb) (hc:PE X c tc)
  (hm:lastMarks [op,op'] [b,c]=false:=by with_unfolding_all rfl):PT X (.Compare a [op,op'] [b,c] pos) (Zxj (Zqp r r' ta tb tc)):=by
 intro pins s σ H Q I h
 refine isTrue_chain (thn (ha pins s σ H _ I h) fun v s1 ⟨x,H1,I1,r1,q1⟩=>test_link (thn (hb pins s1 σ H1 _ I1 q1) fun u s2 ⟨y,H2,I2,r2,q2⟩ =>
  thn (ho pins s2 σ H2 x y v u _ I2 r1 r2 q2) fun d s3 ⟨z,H3,I3,r3,k,e,q3⟩=>?_)) hm
 subst e
 cases r3
 refine wpAny_truthy_bool ?_
 cases k with
 | false =>
  obtain ⟨k',e',q'⟩:=q3
  cases e'
  exact ite_ff ⟨H3,I3,q'⟩
 | true =>
  refine ite_tt (test_last (thn (hc pins s3 σ H3 _ I3 q3) fun w' s4 ⟨z',H4,I4,r4,q4⟩=>thn (ho' pins s4 σ H4 y z' u w' _ I4 r2 r4 q4) fun d' s5 ⟨z2,H5,I5,r5,k2,e2,q5⟩=>?_))
  subst e2
  cases r5
  exact wpAny_truthy_bool ⟨H5,I5,q5⟩
def Zzn (K:PySem.W.Frag) (x:V) (H:Hp) (k:Bool):Prop :=
 match x with
 | .non=>k=false
 | .bl b=>k=b
 | .int i=>k=(i != 0)
 | .str y=>y.length≤sizeLine∧k=((y.length:Int) != 0)
 | .byt y=>y.size≤sizeLine∧k=((y.size:Int) != 0)
 | .ref p=>(∃ xs,SqL K H p xs∧k=!xs.isEmpty)∨(∃ xs,SqT K H p xs∧k=!xs.isEmpty)∨∃ kvs,H p=some (.dK kvs)∧k=!kvs.isEmpty
 | _=>False
theorem Zog {κ:Type} {kvs:List (κ×V)} {vs:List (κ×Value)} (r:KV kvs vs):(!vs.isEmpty)=!kvs.isEmpty:=by
 cases r <;> rfl
theorem Zjz {xs:List V} {its:List Value} (r:Vals xs its):(!its.toArray.isEmpty)=!xs.isEmpty:=by
 cases r <;> simp
theorem ZjC:(sizeLine:Nat) < 2 ^ 63:=by rw [sizeLine_eq];decide
theorem Zyj:ZAT X (fun x H Q=>∃ k,Zzn X.K x H k∧Q k H):=by
 intro pins s σ H x v Q I rx h
 obtain ⟨k,e,q⟩:=h
 have hl:=ZjC
 have hs:sizeLine=16777216:=sizeLine_eq
 cases x with
 | non =>
  cases rx
  have e':k=false:=e
  subst e'
  exact truthy_none ⟨H,I,q⟩
 | bl b =>
  cases rx
  have e':k=b:=e
  subst e'
  exact wpAny_truthy_bool ⟨H,I,q⟩
 | int i =>
  obtain ⟨t,rfl⟩:=rx
  have e':k=(i != 0):=e
  subst e'
  exact PySem.P.truthy_int ⟨H,I,q⟩
 | str y =>
  obtain ⟨t,rfl⟩:=rx
  obtain ⟨hy,e'⟩:y.length≤sizeLine∧k=((y.length:Int) != 0):=e
  subst e'
  exact PySem.P.truthy_str (by omega) ⟨H,I.tok _,q⟩
 | byt y =>
  obtain ⟨t,rfl⟩:=rx
  obtain ⟨hy,e'⟩:y.size≤sizeLine∧k=((y.size:Int) != 0):=e
  subst e'
  exact PySem.W.truthy_bytes (by omega) ⟨H,I.tok _,q⟩
 | ref p =>
  cases rx
  have e':(∃ xs,SqL X.K H p xs∧k=!xs.isEmpty)∨(∃ xs,SqT X.K H p xs∧k=!xs.isEmpty)∨∃ kvs,H p=some (.dK kvs)∧k=!kvs.isEmpty:=e
  rcases e' with ⟨xs,hx,e'⟩ | ⟨xs,hx,e'⟩ | ⟨kvs,hx,e'⟩
  ·subst e'
   obtain ⟨its,r,pl,hz⟩:=I.list hx
   have hlen:=r.length
   exact wpAny_truthy_list pl.isList (by simp only [List.size_toArray];omega) ⟨H,I.tok _,by rw [Zjz r];exact q⟩
  ·subst e'
   obtain ⟨its,r,pl,hz⟩:=I.tuple hx
   have hlen:=r.length
   exact truthy_tuple pl (by simp only [List.size_toArray];omega) ⟨H,I.tok _,by rw [Zjz r];exact q⟩
  ·subst e'
   obtain ⟨hz,hS,vs,r,m⟩:kvs.length≤sizeLine∧(p==sysModules)=false∧∃ vs,KV kvs vs∧s.heap.DictOf (ZaC X.prog X.w) p vs:=I.hok p _ hx
   have hlen:kvs.length=vs.length:=Paired.length r
   exact wpAny_truthy_dict hS m (by omega) ⟨H,I.tok _,by rw [Zog r];exact q⟩
 | _=>exact (show False from e).elim
theorem Zs0 (ha:PE X a ta) (he:∀ whole,isTrue a X.env whole=(do let v ← whole;standAt a.pos;holding [v] (truthy v))) :
  PT X a (fun σ H Q=>ta σ H fun x H'=>∃ k,Zzn X.K x H' k∧Q k H'):=by
 intro pins s σ H Q I h
 exact isTrue_plain (thn (ha pins s σ H _ I h) (by rintro v s1 ⟨x,H1,I1,r1,q1⟩;exact Zyj pins s1 σ H1 x v Q I1 r1 q1)) (he _)
theorem ZoB:OpR X (binaryOp .Add) (fun x y H Q=>∃ i j,x=.str i∧y=.str j∧i.length+j.length≤sizeLine∧Q (.str (i++j)) H):=by
 walk_at "pa"
 obtain ⟨i,j,rfl,rfl,hz,q⟩:=h
 obtain ⟨t,rfl⟩:=rx
 obtain ⟨t',rfl⟩:=ry
 exact add_str (fun t' tk=>⟨.str (i++j),H,I.tok _,⟨_,rfl⟩,q⟩) hz
theorem Zma:OpR X (inplaceOp .Add) (fun x y H Q=>∃ i j,x=.str i∧y=.str j∧i.length+j.length≤sizeLine∧Q (.str (i++j)) H):=by
 walk_at "pa"
 obtain ⟨i,j,rfl,rfl,hz,q⟩:=h
 obtain ⟨t,rfl⟩:=rx
 obtain ⟨t',rfl⟩:=ry
 exact iadd_str (fun t' tk=>⟨.str (i++j),H,I.tok _,⟨_,rfl⟩,q⟩) hz
theorem ZhB {x:V} {us:List Value} (r:Vals [x] us):∃ u,us=[u]∧RelV x u:=by
 cases r with
 | cons r1 r2=>cases r2;exact ⟨_,rfl,r1⟩
theorem Zw9 {x y:V} {us:List Value} (r:Vals [x,y] us):∃ u w',us=[u,w']∧RelV x u∧RelV y w':=by
 cases r with
 | cons r1 r2 =>
  cases r2 with
  | cons r3 r4=>cases r4;exact ⟨_,_,rfl,r1,r3⟩
theorem Zo9:CallR X (.type "int") (fun xs H Q=>(∃ i,xs=[.int i]∧Q (.int i) H)∨∃ k,xs=[.bl k]∧Q (.int (if k then 1 else 0)) H):=by
 walk_at "py"
 rcases h with ⟨i,rfl,q⟩ | ⟨k,rfl,q⟩
 ·obtain ⟨u,rfl,t,rfl⟩:=ZhB r
  exact call_int_int ⟨.int i,H,I,⟨_,rfl⟩,q⟩
 ·obtain ⟨u,rfl,r1⟩:=ZhB r
  cases r1
  exact call_int_bool ⟨.int (if k then 1 else 0),H,I.tok _,⟨_,rfl⟩,q⟩
def Zz3 (K:PySem.W.Frag) (x:V) (H:Hp) (n:Nat):Prop :=
 match x with
 | .str y=>y.length≤sizeLine∧n=y.length
 | .byt y=>y.size≤sizeLine∧n=y.size
 | .ref p=>(∃ xs,SqL K H p xs∧n=xs.length)∨∃ xs,SqT K H p xs∧n=xs.length
 | _=>False
theorem Zs2:CallR X (.builtin "len") (fun xs H Q=>∃ x n,xs=[x]∧Zz3 X.K x H n∧Q (.int n) H):=by
 walk_at "py"
 obtain ⟨x,n,rfl,e,q⟩:=h
 obtain ⟨u,rfl,rx⟩:=ZhB r
 have hl:=ZjC
 have hs:sizeLine=16777216:=sizeLine_eq
 cases x with
 | str y =>
  obtain ⟨t,rfl⟩:=rx
  obtain ⟨hy,e'⟩:y.length≤sizeLine∧n=y.length:=e
  subst e'
  exact len_str (by omega) ⟨.int _,H,I.tok _,⟨_,rfl⟩,q⟩
 | byt y =>
  obtain ⟨t,rfl⟩:=rx
  obtain ⟨hy,e'⟩:y.size≤sizeLine∧n=y.size:=e
  subst e'
  exact PySem.W.len_bytes (by omega) ⟨.int _,H,I.tok _,⟨_,rfl⟩,q⟩
 | ref p =>
  cases rx
  have e':(∃ xs,SqL X.K H p xs∧n=xs.length)∨∃ xs,SqT X.K H p xs∧n=xs.length:=e
  rcases e' with ⟨xs,hx,e'⟩ | ⟨xs,hx,e'⟩
  ·subst e'
   obtain ⟨its,r',pl,hz⟩:=I.list hx
   have hlen:=r'.length
   exact Calls.call_len_list pl.isList (by simp only [List.size_toArray];omega) ⟨.int xs.length,H,I.tok _,⟨_,by simp only [List.size_toArray];rw [hlen]⟩,q⟩
  ·subst e'
   obtain ⟨its,r',pl,hz⟩:=I.tuple hx
   have hlen:=r'.length
   exact len_tuple pl (by simp only [List.size_toArray];omega) ⟨.int xs.length,H,I.tok _,⟨_,by simp only [List.size_toArray];rw [hlen]⟩,q⟩
 | _=>exact (show False from e).elim
end
section
variable {prog:Program} {w:World} {A:Around} {E:Value→Shared→Prop} {s:Shared} {K:PySem.W.Frag} {x dx C f:Addr} {mA:Str→Option Value} {name:Str} {v:Value}
end
section
variable {P:Program} {w:World} {H H':Hp} {h h':Heap} {a C dx:Addr} {fs fs':List (Str×V)}
end
structure Cls (K:PySem.W.Frag) (C:Addr):Prop where
 pg:PySem.W.plainGet K C Str.empty=true
 hd:PySem.W.hasDictIn K C=true
 po:PySem.W.plainOver K C=true
 sa:PySem.W.findIn K (.ref C) "__setattr__"=some (some (.builtin "object.__setattr__"))
theorem Cls.get {K:PySem.W.Frag} {C:Addr} (c:Cls K C) (f:Str):PySem.W.plainGet K C f=true:=c.pg
section
variable {X:Cx} {pins:List (Addr×Obj)} {σ:St} {H:Hp} {s:Shared} {a C dx:Addr} {fs:List (Str×V)} {f:Str} {v:V} {A:Around} {E:Value→Shared→Prop}
theorem Inv.made (I:Inv X pins σ H s):Inv X pins σ (upd (upd H s.heap.objs.size (.own (s.heap.objs.size+1))) (s.heap.objs.size+1) (.ins C s.heap.objs.size []))
  { s with heap:=(s.heap.push PySem.W.emptyDict).push (PySem.W.instObj C s.heap.objs.size) }:=by
 have e1:(s.heap.push PySem.W.emptyDict).get? s.heap.objs.size=some PySem.W.emptyDict:=Heap.get?_push_size s.heap rfl
 have e2:((s.heap.push PySem.W.emptyDict).push (PySem.W.instObj C s.heap.objs.size)).get? (s.heap.objs.size+1)=some (PySem.W.instObj C s.heap.objs.size):=by
  have:=Heap.get?_push_size (s.heap.push PySem.W.emptyDict) (o:=PySem.W.instObj C s.heap.objs.size) rfl
  rwa [Heap.size_push] at this
 have e3:(s.heap.push PySem.W.emptyDict).Ns s.heap.objs.size (fun _=>none):=⟨PySem.W.emptyDict,#[],_,e1,rfl,(fun e he=>absurd he (by simp)),fun _=>rfl⟩
 have I1:=I.laid (a:=s.heap.objs.size) (o:=.own (s.heap.objs.size+1)) (h':=s.heap.push PySem.W.emptyDict) (t':=s.toks) (fun b u q=>Heap.get?_push_of_some _ q) (Nat.le_refl _) ⟨_,e1⟩
 refine I1.laid (a:=s.heap.objs.size+1) (o:=.ins C s.heap.objs.size []) (t':=s.toks) (fun b u q=>Heap.get?_push_of_some _ q) (Nat.le_of_eq (Heap.size_push _ _)) ?_
 have ne:s.heap.objs.size≠s.heap.objs.size+1:=Nat.ne_of_lt (Nat.lt_succ_self _)
 refine ⟨by rw [ZaZ ne,Zbk],Nat.zero_le _,ne,e2,fun _=>none,(Heap.Ns1.of_empty e3).at fun o q=>Heap.get?_push_of_some _ q,fun _=>True.intro,fun y hy=>absurd rfl hy⟩
end
section
variable {X:Cx} {o e value:Expr} {f:Str} {pos pos' tpos:Pos} {ta tv:TE}
def Zfj:V→V→Hp→VK→Prop:=fun x y H Q=>∃ i j,x=.int i∧y=.int j∧Q (.int (i+j)) H
end
section
variable {X:Cx} {pins:List (Addr×Obj)} {σ:St} {H:Hp} {s:Shared} {A:Around} {E:Value→Shared→Prop} {Q:Value→Shared→Prop} {c:Value} {b:Bool}
end
structure Room (k:Nat) (A:Around):Prop where
 hd:A.handled=none
 dp:A.depth+3*k+5 < recursionLimit
 un:A.units+16*k+200 < cLine
theorem Room.mono {j k:Nat} {A:Around} (r:Room k A) (h:j≤k):Room j A:=⟨r.hd,by have:=r.dp;omega,by have:=r.un;omega⟩
theorem Room.deeper {k:Nat} {A:Around} (r:Room (k+1) A) (env:Env):Room k (A.deeper env) :=
 ⟨r.hd,by have:=r.dp;show A.depth+1+3*k+5 < _;omega,by have:=r.un;show A.units+3+16*k+200 < _;omega⟩
theorem Room.in1 {k:Nat} {A:Around} (r:Room (k+1) A):Room k A.in1 :=
 ⟨r.hd,by have:=r.dp;show A.depth+3*k+5 < _;omega,by have:=r.un;show A.units+1+16*k+200 < _;omega⟩
theorem Room.depth {k:Nat} {A:Around} (r:Room k A):A.depth < recursionLimit:=by have:=r.dp;omega
theorem Room.units {k:Nat} {A:Around} (r:Room k A):A.units+64 < cLine:=by have:=r.un;omega
def Zzb:TA:=fun _ H Q=>Q [] H
def ZrI (ta:TE) (tr:TA):TA:=fun σ H Q=>ta σ H fun x H1=>tr σ H1 fun xs H2=>Q (x::xs) H2
section
variable {X:Cx} {e:Expr} {es:List Expr} {te:TE} {t:TA} {pos:Pos}
theorem ZqV:PA X [] Zzb:=fun _ _ _ _ H Q I h=>Calls.spliced_nil ⟨[],H,I,.nil,h⟩
theorem Zki (ha:PE X e te) (hr:PA X es t) (hs:starEach (e::es) X.env=(false,eval e X.env)::starEach es X.env:=by rfl):PA X (e::es) (ZrI te t):=by
 intro pos pins s σ H Q I h
 rw [hs]
 show wpAny _ _ (spliced ((false,eval e X.env)::backTo pos (starEach es X.env))) _ _ s
 refine Calls.spliced_cons (thn (ha pins s σ H _ I h) fun u s1 zz43=>?_)
 obtain ⟨x,H1,I1,r1,q1⟩:=zz43
 exact thn (hr pos pins s1 σ H1 _ I1 q1) (by rintro us s2 ⟨xs,H2,I2,r2,q2⟩;exact ⟨x::xs,H2,I2,.cons r1 r2,q2⟩)
def ZAX (t:TA):TE:=fun σ H Q=>t σ H fun xs H1=>xs.length≤sizeLine∧∀ p,H1 p=none→Q (.ref p) (upd H1 p (.tup xs))
def ZAx (t:TA):TE:=fun σ H Q=>t σ H fun xs H1=>xs.length≤sizeLine∧∀ p,H1 p=none→Q (.ref p) (upd H1 p (.lst xs))
theorem Zya {x1} (h:PA X es t):PE X (.Tuple es x1 pos) (ZAX t):=by
 intro pins s σ H Q I hq
 refine wpAny_Tuple_spliced (thn (h pos pins s σ H _ I hq) fun us s1 ⟨xs,H1,I1,r,z,q⟩=>⟨by rw [← r.length];exact z,?_⟩)
 have hf:H1 s1.heap.objs.size=none:=I1.hok.fresh (Nat.le_refl _)
 refine ⟨.ref s1.heap.objs.size,upd H1 s1.heap.objs.size (.tup xs),I1.laid (t':=s1.toks) (fun b u e=>Heap.get?_push_of_some _ e) (Nat.le_refl _) ?_,rfl,q _ hf⟩
 exact ⟨z,us,r,⟨_,Heap.get?_push_size _ rfl,rfl,rfl,_,rfl⟩⟩
theorem ZxH (h:PA X es t):PE X (.List es pos) (ZAx t):=by
 intro pins s σ H Q I hq
 refine wpAny_List_spliced (thn (h pos pins s σ H _ I hq) fun us s1 ⟨xs,H1,I1,r,z,q⟩=>⟨by rw [← r.length];exact z,?_⟩)
 have hf:H1 s1.heap.objs.size=none:=I1.hok.fresh (Nat.le_refl _)
 refine ⟨.ref s1.heap.objs.size,upd H1 s1.heap.objs.size (.lst xs),I1.laid (t':=s1.toks) (fun b u e=>Heap.get?_push_of_some _ e) (Nat.le_refl _) ?_,rfl,q _ hf⟩
 exact ⟨z,us,0,r,Heap.get?_push_size _ rfl⟩
end
abbrev Sp:=List V→Hp→VK→XK→Prop
abbrev CXT:=List Env→Hp→Shared→XK→Value→Shared→Prop
structure Env0 (P:Program) (w:World) (K:PySem.W.Frag) (mg:Str→Option Value) (base:Heap) (A:Around) (outer:List Env) (s:Shared) (H:Hp):Prop where
 frames:A.frames=some outer
 mod:Mod K mg base
 bs:∀ b o,base.get? b=some o→s.heap.get? b=some o∧H b=none
 bsz:base.objs.size≤s.heap.objs.size
 funs:s.heap.FunFrames base outer
 frf:∀ b∈frs outer,H b=none
 hok:HOk P w H s.heap
 bare:AllBare s.gens
def CE (outer:List Env) (P:Program) (w:World) (H:Hp) (s:Shared) (Q:VK) (u:Value) (s':Shared):Prop :=
 ∃ v H',s'.os=s.os∧AllBare s'.gens∧Un (frs outer) [] H H' s.heap s'.heap∧HOk P w H' s'.heap∧RelV v u∧Q v H'
def CR (CX:CXT) (outer:List Env) (P:Program) (w:World) (H:Hp) (s:Shared) (Q:VK) (E:XK) (r:Result) (s':Shared):Prop :=
 match r with
 | .ok (.ret u)=>CE outer P w H s Q u s'
 | .ok _=>False
 | .error e=>CX outer H s E e s'
structure FnOk (P:Program) (w:World) (K:PySem.W.Frag) (mg:Str→Option Value) (base:Heap) (CX:CXT) (k:Nat) (f:Addr) (fd:FuncData) (ps:List Str) (sp:Sp):Prop where
 len:∀ vs H Q E,sp vs H Q E→vs.length=ps.length
 run:∀ (A:Around) (outer:List Env) (s:Shared) (H:Hp) (args:Args) (us:List Value) (vs:List V) (Q:VK) (E:XK),Room k A→Env0 P w K mg base A outer s H→BindsTo s fd args (ps.zip us)→Vals vs us→sp vs H Q E →
  codeAny (model P w) A (.call (.ref f) args) (CR CX outer P w H s Q E) s
theorem FnOk.mono {P:Program} {w:World} {K:PySem.W.Frag} {mg:Str→Option Value} {base:Heap} {CX:CXT} {j k:Nat} {f:Addr} {fd:FuncData} {ps:List Str} {sp:Sp} (F:FnOk P w K mg base CX j f fd ps sp) (h:j≤k) :
  FnOk P w K mg base CX k f fd ps sp:=⟨F.len,fun A outer s H args us vs Q E hr=>F.run A outer s H args us vs Q E (hr.mono h)⟩
theorem FnOk.imp {P:Program} {w:World} {K:PySem.W.Frag} {mg:Str→Option Value} {base:Heap} {CX:CXT} {k:Nat} {f:Addr} {fd:FuncData} {ps:List Str} {sp sp':Sp} (F:FnOk P w K mg base CX k f fd ps sp)
  (h:∀ vs H Q E,sp' vs H Q E→sp vs H Q E):FnOk P w K mg base CX k f fd ps sp' :=
 ⟨fun vs H Q E q=>F.len vs H Q E (h _ _ _ _ q),fun A outer s H args us vs Q E hr he hb hv hs=>F.run A outer s H args us vs Q E hr he hb hv (h _ _ _ _ hs)⟩
theorem Env0.in1 {P:Program} {w:World} {K:PySem.W.Frag} {mg:Str→Option Value} {base:Heap} {A:Around} {outer:List Env} {s:Shared} {H:Hp} (e:Env0 P w K mg base A outer s H) :
  Env0 P w K mg base A.in1 outer s H:=⟨e.frames,e.mod,e.bs,e.bsz,e.funs,e.frf,e.hok,e.bare⟩
section
variable {X:Cx} {pins:List (Addr×Obj)} {σ:St} {H:Hp} {s s':Shared}
theorem Inv.env0 (I:Inv X pins σ H s):Env0 X.prog X.w X.K X.mg X.base X.A X.stack s H :=
 ⟨I.ok.frames,I.ok.mod,I.bs,Nat.le_trans I.ok.bsz I.sz,I.stack,I.stkFree,I.hok,I.bare⟩
theorem Inv.after {Q:VK} {u:Value} (I:Inv X pins σ H s) (h:CE X.stack X.prog X.w H s Q u s'):EP X pins σ Q u s':=by
 obtain ⟨v,H',os,bare,un,hok,r,q⟩:=h
 obtain ⟨hh,g,d,t,os'⟩:=s'
 obtain rfl:os'=s.os:=os
 exact ⟨v,H',I.call (h':=hh) (g':=g) (d':=d) (t':=t) (ch:=[]) un hok bare (fun b z=>absurd z (by simp)),r,q⟩
end
def Binds (K:PySem.W.Frag) (fd:FuncData) (ps:List Str) (ds:List Value):Prop :=
 ∀ (s:Shared) (us:List Value),K.In s.heap→(us++ds).length=ps.length→BindsTo s fd ⟨us,[]⟩ (ps.zip (us++ds))
theorem Binds.all {K:PySem.W.Frag} {fd:FuncData} {ps:List Str} (h:∀ us:List Value,us.length=ps.length→bindArgs fd ⟨us,[]⟩=pure (ps.zip us)):Binds K fd ps []:=fun s us _ hl=>by
 rw [List.append_nil] at hl ⊢
 exact .of_eq (h us hl)
section
variable {X:Cx} {CX:CXT} {k:Nat} {f C:Addr} {fd:FuncData} {ps:List Str} {sp:Sp} {dvs:List V} {ds:List Value} {E:XK} {x m:Str} {p pos apos:Pos} {e o:Expr} {es:List Expr} {ta:TE} {t:TA}
end
section
variable {X:Cx} {CX:CXT} {k:Nat} {f C:Addr} {fd:FuncData} {ps ks:List Str} {sp:Sp} {E:XK} {x m:Str} {p pos apos kpos:Pos} {e o:Expr} {es:List Expr} {kws:List Keyword} {te ta:TE} {t tk:TA} {nm:Option Str}
variable {g:List Value→List Value→List Value} {gV:List V→List V→List V}
end
structure Zau (N P:List Str) (sc:Scope):Prop where
 kind:sc.kind=.function
 co:sc.isCoroutine=false
 gen:sc.isGenerator=false
 nd:N.Nodup
 pre:N.take P.length=P
 par:∀ x∈P,sc.names.lookup x=some .local∨sc.names.lookup x=some .cell
 nofree:∀ y∈sc.names,y.2≠.free
theorem ZlD {kindOf:Str→Option NameKind} {x:Str}:∀ {binds:List (Str×Value)} {m:Str→Option Value},(∀ v,(x,v)∉binds)→bindL kindOf binds m x=m x
 | [],_,_=>rfl
 | (n,v)::r,m,h=>by
  unfold bindL
  rw [ZlD fun w hw=>h w (List.mem_cons_of_mem _ hw)]
  split
  ·have:x≠n:=by rintro rfl;exact h v List.mem_cons_self
   simp [this]
  ·rfl
theorem ZlS {kindOf:Str→Option NameKind} {x:Str}:∀ {binds:List (Str×Value)} {m:Str→Option Value},(∀ v,(x,v)∉binds)→bindC kindOf binds m x=m x
 | [],_,_=>rfl
 | (n,v)::r,m,h=>by
  unfold bindC
  rw [ZlS fun w hw=>h w (List.mem_cons_of_mem _ hw)]
  split
  ·rfl
  ·have:x≠n:=by rintro rfl;exact h v List.mem_cons_self
   simp [this]
theorem Zk9 {kindOf:Str→Option NameKind} {x:Str} {v:Value}:∀ {P:List Str} {vs:List Value} {i:Nat} {m:Str→Option Value},P.Nodup→P[i]?=some x→vs[i]?=some v→kindOf x=some .local →
  bindL kindOf (P.zip vs) m x=some v
 | [],_,_,_,_,h,_,_=>by simp at h
 | _::_,[],_,_,_,_,h,_=>by simp at h
 | p::P,w::vs,0,m,nd,h1,h2,hk=>by
  simp at h1 h2;subst h1;subst h2
  show bindL kindOf ((p,w)::P.zip vs) m p=_
  unfold bindL
  rw [ZlD fun v hv=>(List.nodup_cons.mp nd).1 (List.of_mem_zip hv).1,if_pos hk]
  simp
 | p::P,w::vs,i+1,m,nd,h1,h2,hk=>by
  show bindL kindOf ((p,w)::P.zip vs) m x=_
  unfold bindL
  exact Zk9 (i:=i) (List.nodup_cons.mp nd).2 (by simpa using h1) (by simpa using h2) hk
theorem Zk4 {kindOf:Str→Option NameKind} {x:Str} {v:Value}:∀ {P:List Str} {vs:List Value} {i:Nat} {m:Str→Option Value},P.Nodup→P[i]?=some x→vs[i]?=some v→kindOf x≠some .local →
  bindC kindOf (P.zip vs) m x=some v
 | [],_,_,_,_,h,_,_=>by simp at h
 | _::_,[],_,_,_,_,h,_=>by simp at h
 | p::P,w::vs,0,m,nd,h1,h2,hk=>by
  simp at h1 h2;subst h1;subst h2
  show bindC kindOf ((p,w)::P.zip vs) m p=_
  unfold bindC
  rw [ZlS fun v hv=>(List.nodup_cons.mp nd).1 (List.of_mem_zip hv).1,if_neg hk]
  simp
 | p::P,w::vs,i+1,m,nd,h1,h2,hk=>by
  show bindC kindOf ((p,w)::P.zip vs) m x=_
  unfold bindC
  exact Zk4 (i:=i) (List.nodup_cons.mp nd).2 (by simpa using h1) (by simpa using h2) hk
def Ziy (N:List Str) (vs:List V):St:=vs.map some++List.replicate (N.length - vs.length) none
def ZvT (CX:CXT) (P:Program) (w:World) (K:PySem.W.Frag) (mg:Str→Option Value) (base:Heap) (N:List Str) (qual:Str) (scope:Scope) (f:Addr) (cd:Value) (A:Around) (outer:List Env) (s:Shared) (H:Hp) (E:XK):Cx where
 prog:=P
 w:=w
 K:=K
 mg:=mg
 base:=base
 A:=A.deeper (envOfC qual scope s.heap.objs.size f cd)
 N:=N
 s₀:=s
 H₀:=H
 env:=envOfC qual scope s.heap.objs.size f cd
 outer:=outer
 stack:=envOfC qual scope s.heap.objs.size f cd::outer
 ex:=[]
 calm:=true
 fn:=fun _=>true
 pn:=[]
 xe:=fun e s'=>wpAny (model P w) (A.deeper (envOfC qual scope s.heap.objs.size f cd)) (leaving (envOfC qual scope s.heap.objs.size f cd) e) (fun _ s''=>CX outer H s E e s'') (fun e' s''=>CX outer H s E e' s'') s'
theorem Zke {sc:Scope} {n:Nat} {x:Str} (h:sc.names.lookup x=some .cell):∃ c,(cellsFrom n sc.names []).lookup x=some c:=by
 have q:=PySem.W.cellsFrom_some sc.names n [] (.inl h)
 exact Option.isSome_iff_exists.mp q
theorem Zp1 {CX:CXT} {P:Program} {w:World} {K:PySem.W.Frag} {mg:Str→Option Value} {base:Heap} {N ps:List Str} {qual:Str} {scope:Scope} {f:Addr} {cd:Value} {A:Around} {outer:List Env} {s s1:Shared} {H:Hp} {E:XK} {us:List Value} {vs:List V}
  (S:Zau N ps scope) (hd:A.handled=none) (e0:Env0 P w K mg base A outer s H) (hl:vs.length=ps.length) (r:Vals vs us)
  (x:InCallC s s.heap.objs.size (bindL (envOfC qual scope s.heap.objs.size f cd).kindOf (ps.zip us) fun _=>none) (cellsFrom (s.heap.objs.size+1) scope.names []) (bindC (envOfC qual scope s.heap.objs.size f cd).kindOf (ps.zip us) fun _=>none) s1) :
  Inv (ZvT CX P w K mg base N qual scope f cd A outer s H E) [] (Ziy N vs) H s1:=by
 have hpl:ps.length≤N.length:=by have:=congrArg List.length S.pre;rw [List.length_take] at this;omega
 obtain ⟨h1,tk,rfl,hk⟩:=x.done
 have noA:∀ b:Addr,b∉(ZvT CX P w K mg base N qual scope f cd A outer s H E).ex:=fun b z=>absurd (show b∈([]:List Addr) from z) (by simp)
 refine ⟨⟨e0.mod,S.kind,rfl,rfl,Nat.le_refl _,fun y z c h1 h2=>?_,fun y hy=>?_,fun y c _ h=>?_,fun _=>hd,Around.frames_deeper e0.frames,.inr ⟨rfl,rfl⟩,fun b z=>absurd z (noA b),e0.bs,e0.bsz,fun b _ _=>noA b,fun b z=>absurd z (noA b),e0.funs,e0.frf⟩,
  rfl,e0.bare,Un.kept hk,⟨_,x.toInCall.ns,fun i y v h1 h2 h3=>?_⟩,fun y c h=>⟨_,x.cell y c h⟩,e0.hok.fresh (Nat.le_refl _),fun y c h=>?_,fun p hp=>absurd (show p∈([]:List (Addr×Obj)) from hp) (by simp),e0.hok.kept hk,?_⟩
 ·exact name_of_addr x.apart (PySem.mem_of_lookup h1) (PySem.mem_of_lookup h2)
 ·have hy:scope.names.lookup y=some .cell∨scope.names.lookup y=some .free:=hy
  rcases hy with hy | hy
  ·exact Zke hy
  ·exact absurd rfl (S.nofree _ (PySem.mem_of_lookup hy))
 ·exact Nat.le_of_lt (x.above y c (PySem.mem_of_lookup h))
 ·have hi:i < vs.length:=by
   unfold Ziy at h2
   by_cases hi:i < vs.length
   ·exact hi
   ·rw [List.getElem?_append_right (by simpa using hi)] at h2
    rw [List.getElem?_replicate] at h2
    split at h2 <;> cases h2
  have ha:vs[i]?=some v:=by
   unfold Ziy at h2
   rw [List.getElem?_append_left (by simpa using hi),List.getElem?_map] at h2
   cases e:vs[i]? with
   | none=>rw [e] at h2;cases h2
   | some a=>rw [e] at h2;cases h2;rfl
  obtain ⟨u,hu,rv⟩:=r.get ha
  have hp:ps[i]?=some y:=by
   rw [← S.pre,List.getElem?_take_of_lt (by omega)];exact h1
  have ndP:ps.Nodup:=by rw [← S.pre];exact S.nd.sublist (List.take_sublist _ _)
  refine ⟨u,rv,?_⟩
  rcases S.par y (List.mem_of_getElem? hp) with k | k
  ·exact .inl ⟨k,Zk9 ndP hp hu k⟩
  ·obtain ⟨c,e⟩:=Zke (n:=s.heap.objs.size+1) k
   refine .inr ⟨.inl k,c,e,?_⟩
   have q:=x.cell y c e
   rw [Zk4 ndP hp hu (by show scope.names.lookup y≠_;rw [k];decide)] at q
   exact q
 ·exact e0.hok.fresh (Nat.le_of_lt (x.above y c (PySem.mem_of_lookup h)))
 ·unfold Ziy
  show _=N.length
  rw [List.length_append,List.length_map,List.length_replicate]
  omega
theorem ZuI {CX:CXT} {P:Program} {w:World} {K:PySem.W.Frag} {mg:Str→Option Value} {base:Heap} {k:Nat} {f:Addr} {name qual:Str} {params:Arguments} {body:List Stmt} {scope:Scope} {dV kV doc pm cdv ct oc:Value} {an od:Option Addr}
  {osl:Array (Option Value)} {N ps:List Str} {sp:Sp} (lk:K.lookup f=some ⟨oc,od,.func (PySem.W.fnOf name qual params body scope dV kV doc pm an cdv ct),osl⟩) (hcd:PySem.W.codeIn K cdv qual=true) (S:Zau N ps scope)
  (len:∀ vs H Q E,sp vs H Q E→vs.length=ps.length)
  (hbody:∀ (A:Around) (outer:List Env) (s:Shared) (H:Hp) (vs:List V) (Q:VK) (E:XK),Room k (A.deeper (envOfC qual scope s.heap.objs.size f cdv))→sp vs H Q E →
   ∃ t,PSs (ZvT CX P w K mg base N qual scope f cdv A outer s H E) body t∧t { nx:=fun _ H'=>Q .non H',rt:=Q } (Ziy N vs) H) :
  FnOk P w K mg base CX (k+1) f (PySem.W.fnOf name qual params body scope dV kV doc pm an cdv ct) ps sp:=by
 refine ⟨len,fun A outer s H args us vs Q E hr e0 hb r hsp=>?_⟩
 have hl:=len _ _ _ _ hsp
 have KX:K.In s.heap:=e0.mod.kin.keeps fun b o e=>(e0.bs b o e).1
 have lim:s.heap.NoLimit:=e0.mod.nolimit.keeps fun b o e=>(e0.bs b o e).1
 have hkind:∀ y∈ps.zip us,scope.names.lookup y.1=some .local∨(scope.names.lookup y.1=some .cell∧((cellsFrom (s.heap.objs.size+1) scope.names []).lookup y.1).isSome=true):=by
  rintro ⟨n,v⟩ hy
  rcases S.par n (List.of_mem_zip hy).1 with q | q
  ·exact .inl q
  ·exact .inr ⟨q,PySem.W.cellsFrom_some _ _ _ (.inl q)⟩
 refine codeAny_call_function hr.depth (KX _ _ lk) rfl S.co S.gen rfl (PySem.W.codeRec_of KX hcd) (hb _ _ _ _ ?_)
 refine wpAny_newFunctionEnv_cells S.kind hkind fun env he s1 x=>?_
 subst he
 refine ⟨lim.keeps x.toInCall.keep,codeAny_func ?_⟩
 obtain ⟨t,ht,hq⟩:=hbody A outer s H vs Q E (hr.deeper _) hsp
 have I:Inv (ZvT CX P w K mg base N qual scope f cdv A outer s H E) [] (Ziy N vs) H s1:=Zp1 S hr.hd e0 hl r x
 refine wpAny_mono (ht [] s1 (Ziy N vs) H _ I hq) (fun fl s' hs=>?_) fun e s' hs=>hs
 have fin:∀ {σ':St} {H':Hp} {v:V} {u:Value},Inv (ZvT CX P w K mg base N qual scope f cdv A outer s H E) [] σ' H' s'→RelV v u→Q v H'→CE outer P w H s Q u s' :=
  fun {σ' H' v u} J rv q=>⟨v,H',J.os,J.bare,J.base,J.hok,rv,q⟩
 cases fl with
 | ret u =>
  obtain ⟨v,σ',H',J,rv,q⟩:=hs
  exact fin J rv q
 | next =>
  obtain ⟨σ',H',J,q⟩:=hs
  exact fin (v:=V.non) (u:=Value.none) J rfl q
 | brk =>
  obtain ⟨_,_,_,q⟩:=hs
  exact False.elim q
 | cont =>
  obtain ⟨_,_,_,q⟩:=hs
  exact False.elim q
section
variable {X:Cx} {x:Str} {p pos:Pos} {e:Expr} {es:List Expr} {t:TA} {id T:String} {r:List V→Hp→VK→Prop}
def tCB (r:List V→Hp→VK→Prop) (t:TA):TE:=fun σ H Q=>t σ H fun vs H1=>r vs H1 Q
theorem Zsj (hc:CallR X (.builtin id) r) (hg:Gl X x) (hm:X.mg x=none) (hv:bootBuiltins x=some (.builtin id)) (ha:PA X (e::es) t) (hn:x≠"__name__":=by decide) (hdb:(x==("__debug__":Str))=false:=by decide)
  (he:starEach (e::es) X.env=(false,eval e X.env)::starEach es X.env:=by rfl) (hpl:(backTo pos (starEach es X.env)).any (·.1)=false:=by rfl):PE X (.Call (.Name x p) (e::es) [] pos) (tCB r t):=by
 intro pins s σ H Q I h
 refine wpAny_Call_Name_kw (ZeE I hg hm hv ?_ hn hdb)
 exact PyProof.Rows.callWith_builtin1 (thn (ha pos pins s σ H _ I h) (by rintro us s1 ⟨vs,H1,I1,r1,q1⟩;exact hc pins s1 σ H1 vs us Q I1 r1 q1)) he hpl
theorem ZpP (hc:CallR X (.type T) r) (hg:Gl X x) (hm:X.mg x=none) (hv:bootBuiltins x=some (.type T)) (ha:PA X (e::es) t) (hn:x≠"__name__":=by decide) (hdb:(x==("__debug__":Str))=false:=by decide)
  (he:starEach (e::es) X.env=(false,eval e X.env)::starEach es X.env:=by rfl) (hpl:(backTo pos (starEach es X.env)).any (·.1)=false:=by rfl):PE X (.Call (.Name x p) (e::es) [] pos) (tCB r t):=by
 intro pins s σ H Q I h
 refine wpAny_Call_Name_kw (ZeE I hg hm hv ?_ hn hdb)
 exact PyProof.Rows.callWith_type1 (thn (ha pos pins s σ H _ I h) (by rintro us s1 ⟨vs,H1,I1,r1,q1⟩;exact hc pins s1 σ H1 vs us Q I1 r1 q1)) he hpl
end
end L2
namespace HT
open PySem PyProof.Rows
section
open PySem.SeqAt
open PySem.AutoSeq1 (wpAny_loadPart')
open PySem.MeetsSeq PySem.MeetsSeq2 PySem.MeetsSeq3
end
section
variable {prog:Program} {w:World} {A:Around} {E:Value→Shared→Prop} {s:Shared}
theorem cat_tup {t b:Addr} {vs ws:List Value} {Q:Value→Shared→Prop} (ht:IsTup s.heap t vs.toArray) (hb:IsTup s.heap b ws.toArray) (hv:vs≠[])
  (h1:ws=[]→Q (.ref t) s) (h2:ws≠[]→Q (.ref s.heap.objs.size) { s with heap:=s.heap.push { cls:=.type "tuple",data:=.seq (vs++ws).toArray } })
  (hsz:vs.length+ws.length≤sizeLine):wpAny (model prog w) A (binaryOp .Add (.ref t) (.ref b)) Q E s:=by
 obtain ⟨⟨cls,dd,data,sl⟩,ho,hc,n,hd⟩:=id ht
 obtain ⟨⟨cls2,dd2,data2,sl2⟩,ho2,hc2,n2,hd2⟩:=id hb
 simp only at hc hd hc2 hd2
 subst hc hd hc2 hd2
 have e:vs.toArray++ws.toArray=(vs++ws).toArray:=by simp
 by_cases hw:ws=[]
 ·exact concat_meets ⟨_,ho,rfl⟩ ⟨_,ho2,rfl⟩ noFill_tuple_add seq_tuple_add PySem.F.slot_tuple_add PySem.F.entry_tuple_add (PySem.F.args_tuple_add_2 _ _)
   (tuple_addW1 t b vs.toArray ws.toArray n n2 dd dd2 sl sl2 (by simpa using hv) (by simp [hw])) ⟨ho,ho2,h1 hw⟩
 ·refine concat_meets ⟨_,ho,rfl⟩ ⟨_,ho2,rfl⟩ noFill_tuple_add seq_tuple_add PySem.F.slot_tuple_add PySem.F.entry_tuple_add (PySem.F.args_tuple_add_2 _ _)
   (tuple_addW2 t b vs.toArray ws.toArray n n2 dd dd2 sl sl2 (by simpa using hv) (by simpa using hw) (by rw [List.size_toArray,List.size_toArray];exact hsz)) ⟨ho,ho2,?_⟩
  rw [e]
  exact h2 hw
def sIx (n d:Nat):Option Int→Nat
 | none=>d
 | some v=>if v < 0 then (v+(n:Int)).toNat else min v.toNat n
theorem sIx_none (n d:Nat):sIx n d none=d:=rfl
theorem sIx_nat (n d k:Nat):sIx n d (some (k:Int))=min k n:=by
 show (if (k:Int) < 0 then ((k:Int)+(n:Int)).toNat else min (k:Int).toNat n)=min k n
 rw [if_neg (by omega),Int.toNat_natCast]
theorem Zxc (n d:Nat) (hd:d≤n) (o:Option Int):sIx n d o≤n:=by
 cases o with
 | none=>exact hd
 | some v =>
  show (if v < 0 then (v+(n:Int)).toNat else min v.toNat n)≤n
  by_cases hv:v < 0
  ·rw [if_pos hv];omega
  ·rw [if_neg hv];exact Nat.min_le_right _ _
theorem Zqt (v:Int) (n d:Nat):(if v < 0 then max (v+(n:Int)) 0 else min v (n:Int))=((sIx n d (some v):Nat):Int):=by
 show (if v < 0 then max (v+(n:Int)) 0 else min v (n:Int))=(((if v < 0 then (v+(n:Int)).toNat else min v.toNat n):Nat):Int)
 by_cases hv:v < 0
 ·simp only [if_pos hv];omega
 ·simp only [if_neg hv];omega
theorem ZoI (lo hi:Option Int) (n:Nat):Builtin.Slice.sliceAdjust lo hi 1 (n:Int)=(((sIx n 0 lo:Nat):Int),((sIx n n hi:Nat):Int)):=by
 have h1:¬ ((1:Int) < 0):=by omega
 unfold Builtin.Slice.sliceAdjust
 simp only [h1,if_false]
 refine Prod.ext ?_ ?_
 ·cases lo with
  | none=>rfl
  | some v=>exact Zqt v n 0
 ·cases hi with
  | none=>rfl
  | some v=>exact Zqt v n n
theorem ZoE (i j:Nat):Builtin.Slice.slicePlaces (i:Int) (j:Int) 1=j - i:=by
 unfold Builtin.Slice.slicePlaces
 have h1:(1:Int) > 0:=by omega
 simp only [h1,if_true,Int.ediv_one]
 split <;> omega
theorem Zjd {v:Value} {o:Option Int} {Q:Option Int→Shared→Prop} (p:IsPart v o) (h:Q o s):wpAny (model prog w) A (Builtin.Slice.slicePartIndex v) Q E s:=by
 cases p with
 | none=>exact slicePart_none h
 | int i t=>exact slicePart_int h
theorem ZhC {sl:Addr} {vl vu:Value} {lo hi:Option Int} {n:Nat} {Q:Int×Int×Nat→Shared→Prop} (hs:s.heap.IsSliceOf sl vl vu .none) (pl:IsPart vl lo) (pu:IsPart vu hi)
  (h:Q (((sIx n 0 lo:Nat):Int),1,sIx n n hi - sIx n 0 lo) s):wpAny (model prog w) A (Builtin.Slice.sliceApplied (.ref sl) (pure (n:Int))) Q E s:=by
 obtain ⟨os,hos,hcs,hds⟩:=id hs
 unfold Builtin.Slice.sliceApplied Builtin.Slice.sliceFields
 refine wpAny_bind (wpAny_bind (wpAny_field hos hds (x:=vl) rfl (wpAny_bind (wpAny_field hos hds (x:=vu) rfl (wpAny_bind (wpAny_field hos hds (x:=.none) rfl (wpAny_pure ?_)))))))
 refine wpAny_bind (slicePart_none ?_)
 show wpAny _ _ (if ((1:Int)==0)=true then _ else _) _ _ s
 rw [if_neg (by decide)]
 refine wpAny_bind (Zjd pl (wpAny_bind (Zjd pu (wpAny_bind (wpAny_pure ?_)))))
 show wpAny _ _ (match Builtin.Slice.sliceAdjust lo hi 1 (n:Int) with | (lo,hi)=>pure (lo,(1:Int),Builtin.Slice.slicePlaces lo hi 1)) _ _ s
 rw [ZoI lo hi n]
 show wpAny _ _ (pure (((sIx n 0 lo:Nat):Int),(1:Int),Builtin.Slice.slicePlaces ((sIx n 0 lo:Nat):Int) ((sIx n n hi:Nat):Int) 1)) _ _ s
 rw [ZoE]
 exact wpAny_pure h
theorem Zs1 (xs:Array Value) (i k:Nat):((List.range k).filterMap fun (m:Nat)=>xs[((i:Int)+(m:Int)*1).toNat]?).toArray=((xs.toList.drop i).take k).toArray:=by
 have e:(fun (m:Nat)=>xs[((i:Int)+(m:Int)*1).toNat]?)=fun m=>xs[i+m]?:=by
  funext m
  have:((i:Int)+(m:Int)*1).toNat=i+m:=by omega
  rw [this]
 rw [e]
 have:=pick_run xs i k
 rw [List.filterMap_map] at this
 have e2:((fun x=>xs[x]?)∘fun x=>i+x)=fun m=>xs[i+m]?:=rfl
 rw [e2] at this
 rw [this]
theorem getItem_tuple_cut {t sl:Addr} {items:Array Value} {vl vu:Value} {lo hi:Option Int} {Q:Value→Shared→Prop} (ht:IsTup s.heap t items) (hs:s.heap.IsSliceOf sl vl vu .none) (pl:IsPart vl lo) (pu:IsPart vu hi)
  (hw:¬ (sIx items.size 0 lo=0∧sIx items.size items.size hi=items.size))
  (h:Q (.ref s.heap.objs.size) { s with heap:=s.heap.push { cls:=.type "tuple",data:=.seq ((items.toList.drop (sIx items.size 0 lo)).take (sIx items.size items.size hi - sIx items.size 0 lo)).toArray } })
  (hsz:items.size≤sizeLine):wpAny (model prog w) A (getItem (.ref t) (.ref sl)) Q E s:=by
 have htake:sizeOk (.seq ((items.toList.drop (sIx items.size 0 lo)).take (sIx items.size items.size hi - sIx items.size 0 lo)).toArray):=by
  show ((items.toList.drop (sIx items.size 0 lo)).take (sIx items.size items.size hi - sIx items.size 0 lo)).toArray.size≤sizeLine
  rw [List.size_toArray,List.length_take,List.length_drop,Array.length_toList]
  omega
 have hj:sIx items.size items.size hi≤items.size:=Zxc _ _ (Nat.le_refl _) hi
 obtain ⟨os,hos,hcs,hds⟩:=id hs
 have hTs:s.TypeIs (.ref sl) "slice":=⟨os,hos,hcs⟩
 unfold getItem
 try with_reducible refine wpAny_holding ?_
 first | refine wpAny_bind (wpAny_pure ?_) | skip
 refine wpAny_bind (wpAny_sequenceKey ht.typeIs (by decide) ?_)
 refine wpAny_bind (wpAny_callSpecial?_slot (name:=Str.ofString "__getitem__") ht.typeIs PyProof.Rows.slot_tuple_getitem
  (wpAny_call_entry PyProof.Rows.slot_tuple_getitem ht.typeIs entry_tuple_getitem ?_ (args_tuple_getitem _ _)))
 show wpAny _ _ (Builtin.Tuple.tupleItemsOf (.ref t) >>= _) _ _ s
 refine wpAny_bind (tupleItemsOf_ ht ?_)
 refine wpAny_bind (wpAny_typeOf hTs ?_)
 rw [if_pos (by decide)]
 refine wpAny_bind (ZhC hs pl pu ?_)
 have hno:¬ ((((sIx items.size 0 lo:Nat):Int)==0&&(1:Int)==1&&(sIx items.size items.size hi - sIx items.size 0 lo)==items.size)=true):=by
  intro q
  rw [Bool.and_eq_true,Bool.and_eq_true] at q
  have q1:((sIx items.size 0 lo:Nat):Int)=0:=eq_of_beq q.1.1
  have q2:sIx items.size items.size hi - sIx items.size 0 lo=items.size:=eq_of_beq q.2
  exact hw ⟨by omega,by omega⟩
 show wpAny _ _ (if (((sIx items.size 0 lo:Nat):Int)==0&&(1:Int)==1&&(sIx items.size items.size hi - sIx items.size 0 lo)==items.size)=true then _ else _) _ _ s
 rw [if_neg hno,Zs1]
 first
  | exact wpAny_bind (m:=Builtin.Tuple.tupleExact _) (wpAny_newObj_type (wpAny_pure ⟨_,rfl,wpAny_pure h⟩) htake)
  | exact wpAny_bind (m:=Builtin.Tuple.tupleExact _) (wpAny_newObj_type (wpAny_bind (wpAny_pure (wpAny_pure ⟨_,rfl,wpAny_pure h⟩))) htake)
  | exact wpAny_bind (wpAny_bind (m:=Builtin.Tuple.tupleExact _) (wpAny_newObj_type (wpAny_pure (wpAny_pure ⟨_,rfl,wpAny_pure h⟩)) htake))
  | exact wpAny_bind (wpAny_bind (m:=Builtin.Tuple.tupleExact _) (wpAny_newObj_type (wpAny_pure ⟨_,rfl,wpAny_pure h⟩) htake))
end
end HT
namespace L2
open PySem PySem.Spec PyProof.Rows
abbrev TO:=St→Hp→(Option Int→Hp→Prop)→Prop
def PO (X:Cx) (e:Option Expr) (t:TO):Prop :=
 ∀ (pins:List (Addr×Obj)) (s:Shared) (σ:St) (H:Hp) (Q:Option Int→Hp→Prop),Inv X pins σ H s→t σ H Q →
  wpAny (model X.prog X.w) X.A (evalPart e X.env) (fun u s'=>∃ o H',Inv X pins σ H' s'∧IsPart u o∧Q o H') X.xe s
def Zu0:TO:=fun _ H Q=>Q none H
def ZzI (t:TE):TO:=fun σ H Q=>t σ H fun x H1=>∃ i,x=.int i∧Q (some i) H1
section
variable {X:Cx} {e:Expr} {te:TE} {lo hi:Option Expr} {tl th:TO} {pos p2:Pos}
theorem Zvx:PO X none Zu0:=by
 intro pins s σ H Q I h
 rw [evalPart_none]
 exact wpAny_pure ⟨none,H,I,.none,h⟩
theorem Zuw (h:PE X e te):PO X (some e) (ZzI te):=by
 intro pins s σ H Q I hw
 rw [evalPart_some]
 refine thn (h pins s σ H _ I hw) fun u s1 zz48=>?_
 obtain ⟨x,H1,I1,r1,q1⟩:=zz48
 obtain ⟨i,rfl,q⟩:=q1
 obtain ⟨t,rfl⟩:=r1
 exact ⟨some i,H1,I1,.int i t,q⟩
def SlR (X:Cx) (r:V→Option Int→Option Int→Hp→VK→Prop):Prop :=
 ∀ (pins:List (Addr×Obj)) (s:Shared) (σ:St) (H:Hp) (x:V) (v vl vu:Value) (lo hi:Option Int) (sl:Addr) (Q:VK),Inv X pins σ H s→RelV x v→s.heap.IsSliceOf sl vl vu .none→IsPart vl lo→IsPart vu hi→r x lo hi H Q →
  ∃ T id,typeLookup (.type T) "__getitem__"=pure (some (.builtin id))∧s.TypeIs v T∧wpAny (model X.prog X.w) X.A (getItem v (.ref sl)) (EP X pins σ Q) X.xe s
theorem SlR.or {r r':V→Option Int→Option Int→Hp→VK→Prop} (h:SlR X r) (h':SlR X r'):SlR X (fun x lo hi H Q=>r x lo hi H Q∨r' x lo hi H Q):=by
 intro pins s σ H x v vl vu lo hi sl Q I rx hs pl pu q
 rcases q with q | q
 ·exact h pins s σ H x v vl vu lo hi sl Q I rx hs pl pu q
 ·exact h' pins s σ H x v vl vu lo hi sl Q I rx hs pl pu q
def tSl (r:V→Option Int→Option Int→Hp→VK→Prop) (te:TE) (tl th:TO):TE:=fun σ H Q=>te σ H fun x H1=>tl σ H1 fun l H2=>th σ H2 fun u H3=>r x l u H3 Q
theorem Zrs {r:V→Option Int→Option Int→Hp→VK→Prop} (hr:SlR X r) (he:PE X e te) (hl:PO X lo tl) (hu:PO X hi th):PE X (.Subscript e (.Slice lo hi none p2) pos) (tSl r te tl th):=by
 intro pins s σ H Q I h
 refine Subscript_ (thn (he pins s σ H _ I h) fun v s1 zz49=>?_)
 obtain ⟨x,H1,I1,r1,q1⟩:=zz49
 refine wpAny_Slice (thn (hl pins s1 σ H1 _ I1 q1) fun vl s2 ⟨l,H2,I2,pl,q2⟩=>thn (hu pins s2 σ H2 _ I2 q2) fun vu s3 ⟨u,H3,I3,pu,q3⟩=>?_)
 rw [evalPart_none]
 refine wpAny_pure ?_
 have I4:Inv X pins σ H3 { s3 with heap:=s3.heap.push { cls:=.type "slice",data:=.fields #[vl,vu,.none] } }:=I3.kept (t':=s3.toks) fun b ob q=>Heap.get?_push_of_some _ q
 obtain ⟨T,id,hT,ht,hg⟩:=hr pins { s3 with heap:=s3.heap.push { cls:=.type "slice",data:=.fields #[vl,vu,.none] } } σ H3 x v vl vu l u s3.heap.objs.size Q I4 r1 (Heap.IsSliceOf.new ..) pl pu q3
 show wpAny (model X.prog X.w) X.A (subscriptTail e (.Slice lo hi none p2) v (.ref s3.heap.objs.size)) (EP X pins σ Q) X.xe { s3 with heap:=s3.heap.push { cls:=.type "slice",data:=.fields #[vl,vu,.none] } }
 exact tail_any (ops:=[.ref s3.heap.objs.size,v]) ht hT hg (by with_unfolding_all rfl)
def Ztu (xs:List V) (lo hi:Option Int):List V:=(xs.drop (HT.sIx xs.length 0 lo)).take (HT.sIx xs.length xs.length hi - HT.sIx xs.length 0 lo)
theorem Zin (xs:List V) (lo hi:Option Int):(Ztu xs lo hi).length≤xs.length:=by
 unfold Ztu
 rw [List.length_take,List.length_drop]
 omega
def Zz7 (K:PySem.W.Frag):V→Option Int→Option Int→Hp→VK→Prop:=fun x lo hi H Q=>∃ a xs,x=.ref a∧SqT K H a xs ∧
 ¬ (HT.sIx xs.length 0 lo=0∧HT.sIx xs.length xs.length hi=xs.length)∧∀ p,H p=none→Q (.ref p) (upd H p (.tup (Ztu xs lo hi)))
theorem ZxP:SlR X (Zz7 X.K):=by
 intro pins s σ H x v vl vu lo hi sl Q I rx hs pl pu h
 obtain ⟨a,xs,rfl,hx,hw,q⟩:=h
 cases rx
 obtain ⟨its,r,ht,hz⟩:=I.tuple hx
 have hlen:its.toArray.size=xs.length:=by rw [List.size_toArray];exact r.length.symm
 refine ⟨"tuple",_,PyProof.Rows.slot_tuple_getitem.lookup,ht.typeIs,?_⟩
 refine HT.getItem_tuple_cut ht hs pl pu (by rw [hlen];exact hw) ?_ (by rw [hlen];exact hz)
 rw [hlen]
 refine ⟨.ref s.heap.objs.size,_,I.laid (t':=s.toks) (o:=.tup (Ztu xs lo hi)) (fun b ob q=>Heap.get?_push_of_some _ q) (Nat.le_refl _) ?_,rfl,q _ (I.hok.fresh (Nat.le_refl _))⟩
 exact ⟨Nat.le_trans (Zin xs lo hi) hz,_,(r.drop (HT.sIx xs.length 0 lo)).take (HT.sIx xs.length xs.length hi - HT.sIx xs.length 0 lo),TupP.new _ _⟩
def ZvD (K:PySem.W.Frag):R2:=fun x y H Q=>∃ a b xs ys,x=.ref a∧y=.ref b∧SqT K H a xs∧SqT K H b ys∧xs≠[]∧xs.length+ys.length≤sizeLine ∧
 (ys=[]→Q (.ref a) H)∧(ys≠[]→∀ p,H p=none→Q (.ref p) (upd H p (.tup (xs++ys))))
theorem Vals.nil_iff {xs:List V} {us:List Value} (r:Vals xs us):us=[]↔xs=[]:=by
 cases r with
 | nil=>simp
 | cons _ _=>simp
theorem ZuJ:OpR X (binaryOp .Add) (ZvD X.K):=by
 walk_at "pa"
 obtain ⟨a,b,xs,ys,rfl,rfl,ha,hb,hx,hz,q1,q2⟩:=h
 cases rx
 cases ry
 obtain ⟨its,r1,p1,_⟩:=I.tuple ha
 obtain ⟨its2,r2,p2,_⟩:=I.tuple hb
 refine HT.cat_tup p1 p2 (fun z=>hx (r1.nil_iff.mp z)) (fun z=>⟨.ref a,H,I,rfl,q1 (r2.nil_iff.mp z)⟩) (fun z=>?_) (by rw [← r1.length,← r2.length];exact hz)
 refine ⟨.ref s.heap.objs.size,_,I.laid (t':=s.toks) (o:=.tup (xs++ys)) (fun b ob q=>Heap.get?_push_of_some _ q) (Nat.le_refl _) ?_,rfl,q2 (fun w=>z (r2.nil_iff.mpr w)) _ (I.hok.fresh (Nat.le_refl _))⟩
 exact ⟨by rw [List.length_append];exact hz,_,r1.append r2,TupP.new _ _⟩
end
def ixN (n:Nat) (i:Int):Option Nat:=if 0≤i then (if i < n then some i.toNat else none) else if -(n:Int)≤i then some (i+n).toNat else none
def atI {α:Type} (xs:List α) (i:Int):Option α:=(ixN xs.length i).bind fun j=>xs[j]?
theorem Zps {n:Nat} {i:Int} {j:Nat} (h:ixN n i=some j):seqIndex? i n=some j∧j < n∧-(n:Int)≤i∧i < n:=by
 unfold ixN at h
 by_cases h0:0≤i
 ·rw [if_pos h0] at h
  by_cases h1:i < n
  ·rw [if_pos h1] at h
   have e:i.toNat=j:=Option.some.inj h
   exact ⟨by rw [seqIndex_of h0 h1,e],by omega,by omega,h1⟩
  ·rw [if_neg h1] at h;cases h
 ·rw [if_neg h0] at h
  by_cases h1:-(n:Int)≤i
  ·rw [if_pos h1] at h
   have e:(i+n).toNat=j:=Option.some.inj h
   exact ⟨by rw [seqIndex_neg (by omega) h1,e],by omega,h1,by omega⟩
  ·rw [if_neg h1] at h;cases h
theorem Zmj {α:Type} {xs:List α} {i:Int} {v:α} (h:atI xs i=some v):∃ j,seqIndex? i xs.length=some j∧xs[j]?=some v∧j < xs.length∧-(xs.length:Int)≤i∧i < xs.length:=by
 unfold atI at h
 cases e:ixN xs.length i with
 | none=>rw [e] at h;cases h
 | some j =>
  rw [e] at h
  obtain ⟨h1,h2,h3,h4⟩:=Zps e
  exact ⟨j,h1,h,h2,h3,h4⟩
theorem Zkv {α:Type} {xs:List α} {j:Nat} {v:α} (h:xs[j]?=some v):atI xs (j:Int)=some v:=by
 have hj:j < xs.length:=(List.getElem?_eq_some_iff.mp h).1
 have e:ixN xs.length (j:Int)=some j:=by
  unfold ixN
  rw [if_pos (by omega),if_pos (by omega)];simp
 unfold atI;rw [e];exact h
def Zkw (b:Expr):Prop:=∀ o i,subscripted b false o i=operate [o,i] (getItem o i)
def IxR (X:Cx) (r:R2):Prop :=
 ∀ (value slice:Expr) (pins:List (Addr×Obj)) (s:Shared) (σ:St) (H:Hp) (x y:V) (v u:Value) (Q:VK),Inv X pins σ H s→RelV x v→RelV y u→r x y H Q →
  subscripted slice false v u=operate [v,u] (getItem v u)→wpAny (model X.prog X.w) X.A (subscriptTail value slice v u) (EP X pins σ Q) X.xe s
def MtR (X:Cx) (id:String) (r:V→List V→Hp→VK→Prop):Prop :=
 ∀ (pins:List (Addr×Obj)) (s:Shared) (σ:St) (H:Hp) (x:V) (xs:List V) (v:Value) (us:List Value) (Q:VK),Inv X pins σ H s→RelV x v→Vals xs us→r x xs H Q →
  wpAny (model X.prog X.w) X.A (call (.builtin id) (v::us)) (EP X pins σ Q) X.xe s
section
variable {X:Cx} {a b:Expr} {ta tb:TE} {pos:Pos}
theorem IxR.or {r r':R2} (h:IxR X r) (h':IxR X r'):IxR X (fun x y H Q=>r x y H Q∨r' x y H Q):=by
 intro value slice pins s σ H x y v u Q I rx ry q hs
 rcases q with q | q
 ·exact h value slice pins s σ H x y v u Q I rx ry q hs
 ·exact h' value slice pins s σ H x y v u Q I rx ry q hs
theorem MtR.or {id:String} {r r':V→List V→Hp→VK→Prop} (h:MtR X id r) (h':MtR X id r'):MtR X id (fun x xs H Q=>r x xs H Q∨r' x xs H Q):=by
 intro pins s σ H x xs v us Q I rx rs q
 rcases q with q | q
 ·exact h pins s σ H x xs v us Q I rx rs q
 ·exact h' pins s σ H x xs v us Q I rx rs q
theorem Zzw {r:R2} (hr:IxR X r) (ha:PE X a ta) (hb:PE X b tb) (hs:Zkw b):PE X (.Subscript a b pos) (tOp r ta tb):=by
 intro pins s σ H Q I h
 exact Subscript_ (Zy0 ha hb I h fun v u s2 x y H2 I2 rx ry q=>hr a b pins s2 σ H2 x y v u Q I2 rx ry q (hs _ _))
def ZzD (K:PySem.W.Frag):R2:=fun x y H Q=>∃ p xs i v,x=.ref p∧y=.int i∧SqL K H p xs∧atI xs i=some v∧Q v H
def Zzj (K:PySem.W.Frag):R2:=fun x y H Q=>∃ p xs i v,x=.ref p∧y=.int i∧SqT K H p xs∧atI xs i=some v∧Q v H
def ZzM:R2:=fun x y H Q=>∃ z i c,x=.str z∧y=.int i∧z.length≤sizeLine∧atI z.cps.toList i=some c∧Q (.str ⟨#[c]⟩) H
theorem Zt8:IxR X (ZzD X.K):=by
 intro value slice pins s σ H x y v u Q I rx ry h hs
 obtain ⟨p,xs,i,z,rfl,rfl,hq,he,q⟩:=h
 cases rx
 obtain ⟨t,rfl⟩:=ry
 obtain ⟨its,r,pl,hz⟩:=I.list hq
 obtain ⟨j,h1,h2,h3,h4,h5⟩:=Zmj he
 obtain ⟨w,ew,rw'⟩:=r.get h2
 have hl:=r.length
 have hn:=ZjC
 have fin:EP X pins σ Q w s:=⟨z,H,I,rw',q⟩
 by_cases h0:0≤i
 ·have hj:i.toNat=j:=by
   rw [seqIndex_of h0 h5] at h1
   exact Option.some.inj h1
  exact item_listR pl.isList h0 (by omega) (by rw [hj];simpa using ew) fin hs
 ·have hj:(i+(its.toArray.size:Int)).toNat=j:=by
   rw [seqIndex_neg (by omega) h4] at h1
   rw [List.size_toArray,← hl]
   exact Option.some.inj h1
  exact subscriptTail_builtinR (x:=w) pl.isList.typeIs slot_list_getitem.lookup
   (wpAny_getItem_list_neg (Q:=fun r s'=>r=w∧EP X pins σ Q r s') pl.isList (by omega) (by rw [List.size_toArray] <;> omega) (by omega) (by rw [hj];simpa using ew) ⟨rfl,fin⟩) hs
theorem ZwU:IxR X (Zzj X.K):=by
 intro value slice pins s σ H x y v u Q I rx ry h hs
 obtain ⟨p,xs,i,z,rfl,rfl,hq,he,q⟩:=h
 cases rx
 obtain ⟨t,rfl⟩:=ry
 obtain ⟨its,r,pl,hz⟩:=I.tuple hq
 obtain ⟨j,h1,h2,h3,h4,h5⟩:=Zmj he
 obtain ⟨w,ew,rw'⟩:=r.get h2
 have hl:=r.length
 have hn:=ZjC
 have fin:EP X pins σ Q w s:=⟨z,H,I,rw',q⟩
 exact subscriptTail_builtinR (x:=w) pl.typeIs slot_tuple_getitem.lookup
  (getItem_tuple (j:=j) (Q:=fun r s'=>r=w∧EP X pins σ Q r s') pl (by omega) (by omega) (by rw [List.size_toArray,← hl];exact h1) (by simpa using ew) ⟨rfl,fin⟩) hs
theorem Zwm:IxR X ZzM:=by
 intro value slice pins s σ H x y v u Q I rx ry h hs
 obtain ⟨z,i,c,rfl,rfl,hz,he,q⟩:=h
 obtain ⟨t,rfl⟩:=rx
 obtain ⟨t',rfl⟩:=ry
 obtain ⟨j,h1,h2,h3,h4,h5⟩:=Zmj he
 have hl:z.cps.toList.length=z.length:=by simp [Str.length]
 rw [hl] at h1 h4 h5
 have hn:=ZjC
 exact tail_any (typeIs_str s z t) slot_str_getitem.lookup (getItem_str (c:=c) (by
  have e1:decide (i < -(2 ^ 63:Int))=false:=decide_eq_false (by omega)
  have e2:decide (i≥2 ^ 63)=false:=decide_eq_false (by omega)
  rw [e1,e2,Bool.or_false]) (by rw [h1];simpa using h2) ⟨.str ⟨#[c]⟩,H,I.tok _,⟨_,rfl⟩,q⟩) hs
theorem Zoq (its:List Value) (n j:Nat) (u:Value):Obj.mapSeq (·.setIfInBounds j u) { cls:=.type "list",data:=.seq its.toArray n }={ cls:=.type "list",data:=.seq (its.set j u).toArray n }:=by
 simp [Obj.mapSeq]
theorem Inv.lst {pins:List (Addr×Obj)} {σ:St} {H:Hp} {s:Shared} {p:Addr} {xs:List V} (I:Inv X pins σ H s) (h:H p=some (.lst xs)) :
  ∃ (its:List Value) (n:Nat),Vals xs its∧s.heap.get? p=some { cls:=.type "list",data:=.seq its.toArray n }∧xs.length≤sizeLine:=by
 obtain ⟨z,its,n,r,e⟩:=I.hok p _ h
 exact ⟨its,n,r,e,z⟩
theorem Inv.lstUpd {pins:List (Addr×Obj)} {σ:St} {H:Hp} {s:Shared} {p:Addr} {xs ys:List V} {its its':List Value} {n n':Nat} {f:Obj→Obj} (I:Inv X pins σ H s) (h:H p=some (.lst xs))
  (ho:s.heap.get? p=some { cls:=.type "list",data:=.seq its.toArray n }) (hf:f { cls:=.type "list",data:=.seq its.toArray n }={ cls:=.type "list",data:=.seq its'.toArray n' }) (r:Vals ys its') (hz:ys.length≤sizeLine) (t:Nat) :
  Inv X pins σ (upd H p (.lst ys)) { s with heap:=s.heap.update p f,toks:=t }:=by
 have e:(s.heap.update p f).get? p=some { cls:=.type "list",data:=.seq its'.toArray n' }:=by
  rw [Heap.get?_update_self f ho (by rw [hf] <;> rfl),hf]
 refine I.write (x:=p) (e:=p) (by rw [h];trivial) (.inl rfl) (fun b u hb q=>(Heap.get?_update_other _ _ (Ne.symm hb)).trans q) ⟨_,e⟩ ?_
 exact ⟨hz,its',n',r,e⟩
def ZwS:V→V→V→Hp→(Hp→Prop)→Prop:=fun o i v H Q=>∃ p xs k j,o=.ref p∧i=.int k∧H p=some (.lst xs)∧ixN xs.length k=some j∧Q (upd H p (.lst (xs.set j v)))
theorem Zsn:ZzA X ZwS:=by
 intro pins s σ H o i v ov iv u Q I ro ri rv h
 obtain ⟨p,xs,k,j,rfl,rfl,hp,hj,q⟩:=h
 cases ro
 obtain ⟨t,rfl⟩:=ri
 obtain ⟨its,n,r,ho,hz⟩:=I.lst hp
 obtain ⟨h1,h2,h3,h4⟩:=Zps hj
 have hl:=r.length
 have hn:=ZjC
 have I':Inv X pins σ (upd H p (.lst (xs.set j v))) { s with heap:=s.heap.update p (Obj.mapSeq (·.setIfInBounds j u)) } :=
  I.lstUpd hp ho (Zoq its n j u) (r.set rv j) (by rw [List.length_set];exact hz) s.toks
 by_cases h0:0≤k
 ·have hk:k.toNat=j:=by
   rw [seqIndex_of h0 h4] at h1
   exact Option.some.inj h1
  exact PySem.W.ki_setAt ho h0 (by omega) (by rw [List.size_toArray,← hl];exact h4) (by rw [hk];exact ⟨_,I',q⟩)
 ·have hk:(k+(its.toArray.size:Int)).toNat=j:=by
   rw [seqIndex_neg (by omega) h3] at h1
   rw [List.size_toArray,← hl]
   exact Option.some.inj h1
  exact PySem.W.ki_setBack ho (by omega) (by rw [List.size_toArray,← hl];exact h3) (by omega) (by rw [hk];exact ⟨_,I',q⟩)
theorem ZlH (lo hi:Option Int) (n:Nat):(sliceBounds lo hi none n).1=((HT.sIx n 0 lo:Nat):Int)∧(sliceBounds lo hi none n).2.1=((HT.sIx n n hi:Nat):Int)∧(sliceBounds lo hi none n).2.2=1:=by
 refine ⟨?_,?_,rfl⟩
 ·cases lo with
  | none=>simp [sliceBounds,HT.sIx]
  | some i =>
   simp only [sliceBounds,HT.sIx,Option.getD_none,show (1:Int) > 0 by decide,if_true]
   by_cases h:i < 0
   ·simp only [h,if_true] <;> omega
   ·simp only [h,if_false] <;> omega
 ·cases hi with
  | none=>simp [sliceBounds,HT.sIx]
  | some i =>
   simp only [sliceBounds,HT.sIx,Option.getD_none,show (1:Int) > 0 by decide,if_true]
   by_cases h:i < 0
   ·simp only [h,if_true] <;> omega
   ·simp only [h,if_false] <;> omega
theorem Zj0 (its:List Value) (lo hi:Option Int):slicePick its.toArray lo hi none=((its.drop (HT.sIx its.length 0 lo)).take (HT.sIx its.length its.length hi - HT.sIx its.length 0 lo)).toArray:=by
 obtain ⟨h1,h2,h3⟩:=ZlH lo hi its.toArray.size
 unfold slicePick
 rw [h1,h2,h3]
 simp only [sliceRange_one,pick_run,List.size_toArray] <;> rfl
def ZzZ (K:PySem.W.Frag):V→Option Int→Option Int→Hp→VK→Prop:=fun x lo hi H Q=>∃ a xs,x=.ref a∧SqL K H a xs∧∀ p,H p=none→Q (.ref p) (upd H p (.lst (Ztu xs lo hi)))
theorem ZvP:SlR X (ZzZ X.K):=by
 intro pins s σ H x v vl vu lo hi sl Q I rx hs pl pu h
 obtain ⟨a,xs,rfl,hx,q⟩:=h
 cases rx
 obtain ⟨its,r,ht,hz⟩:=I.list hx
 have hlen:=r.length
 refine ⟨"list",_,slot_list_getitem.lookup,ht.isList.typeIs,?_⟩
 refine wpAny_getItem_list_slice ht.isList hs pl pu .none (by simp) ?_ (by rw [List.size_toArray] <;> omega)
 rw [Zj0,← hlen]
 refine ⟨.ref s.heap.objs.size,_,I.laid (t':=s.toks) (o:=.lst (Ztu xs lo hi)) (fun b ob q=>Heap.get?_push_of_some _ q) (Nat.le_refl _) ?_,rfl,q _ (I.hok.fresh (Nat.le_refl _))⟩
 exact ⟨Nat.le_trans (Zin xs lo hi) hz,_,0,(r.drop (HT.sIx xs.length 0 lo)).take (HT.sIx xs.length xs.length hi - HT.sIx xs.length 0 lo),Heap.get?_push_size _ rfl⟩
def Zi7:V→Bool
 | .non=>true
 | .bl _=>true
 | .int _=>true
 | .str _=>true
 | _=>false
def eqV:V→V→Bool
 | .non,.non=>true
 | .bl a,.bl b=>a==b
 | .bl a,.int b=>(if a then 1 else 0)==b
 | .int a,.bl b=>a==(if b then 1 else 0)
 | .int a,.int b=>a==b
 | .str a,.str b=>a==b
 | _,_=>false
theorem ZlB {A:Around} {s:Shared} {y x:V} {u v:Value} (ry:RelV y u) (rx:RelV x v) (fy:Zi7 y=true) (fx:Zi7 x=true):SeqAt.EqAt A s u v (eqV y x):=by
 cases y with
 | non =>
  cases ry
  cases x with
  | non=>cases rx;exact SeqAt.EqAt.same _
  | bl b=>cases rx;exact SeqAt.EqAt.none_bool b
  | int b=>obtain ⟨t,rfl⟩:=rx;exact SeqAt.EqAt.none_int b t
  | str b=>obtain ⟨t,rfl⟩:=rx;exact SeqAt.EqAt.none_str b t
  | _=>exact absurd (show false=true from fx) Bool.false_ne_true
 | bl a =>
  cases ry
  cases x with
  | non=>cases rx;exact SeqAt.EqAt.bool_none a
  | bl b=>cases rx;exact SeqAt.EqAt.bool_bool a b
  | int b=>obtain ⟨t,rfl⟩:=rx;exact SeqAt.EqAt.bool_int a b t
  | str b=>obtain ⟨t,rfl⟩:=rx;exact SeqAt.EqAt.bool_str a b t
  | _=>exact absurd (show false=true from fx) Bool.false_ne_true
 | int a =>
  obtain ⟨t',rfl⟩:=ry
  cases x with
  | non=>cases rx;exact SeqAt.EqAt.int_none a t'
  | bl b=>cases rx;exact SeqAt.EqAt.int_bool a t' b
  | int b=>obtain ⟨t,rfl⟩:=rx;exact SeqAt.EqAt.int_int a t' b t
  | str b=>obtain ⟨t,rfl⟩:=rx;exact SeqAt.EqAt.int_str a t' b t
  | _=>exact absurd (show false=true from fx) Bool.false_ne_true
 | str a =>
  obtain ⟨t',rfl⟩:=ry
  cases x with
  | non=>cases rx;exact SeqAt.EqAt.str_none a t'
  | bl b=>cases rx;exact SeqAt.EqAt.str_bool a t' b
  | int b=>obtain ⟨t,rfl⟩:=rx;exact SeqAt.EqAt.str_int a t' b t
  | str b=>obtain ⟨t,rfl⟩:=rx;exact SeqAt.EqAt.str_str a t' b t
  | _=>exact absurd (show false=true from fx) Bool.false_ne_true
 | _=>exact absurd (show false=true from fy) Bool.false_ne_true
def eqU (x:V) (u:Value):Bool:=match u with
 | .none=>eqV .non x
 | .bool b=>eqV (.bl b) x
 | .int i _=>eqV (.int i) x
 | .str z _=>eqV (.str z) x
 | _=>false
theorem Zts {x y:V} {u:Value} (r:RelV y u) (f:Zi7 y=true):eqU x u=eqV y x:=by
 cases y with
 | non=>cases r;rfl
 | bl b=>cases r;rfl
 | int i=>obtain ⟨t,rfl⟩:=r;rfl
 | str z=>obtain ⟨t,rfl⟩:=r;rfl
 | _=>exact absurd (show false=true from f) Bool.false_ne_true
theorem Zmv {x:V}:∀ {xs:List V} {us:List Value},Vals xs us→xs.all Zi7=true→us.any (eqU x)=xs.any fun y=>eqV y x
 | _,_,.nil,_=>rfl
 | y::xs,u::us,.cons r t,f=>by
  rw [List.all_cons,Bool.and_eq_true] at f
  rw [List.any_cons,List.any_cons,Zts r f.1,Zmv t f.2]
theorem Zkg {A:Around} {s:Shared} {x:V} {v:Value} (rx:RelV x v) (fx:Zi7 x=true):∀ {xs:List V} {us:List Value},Vals xs us→xs.all Zi7=true→∀ u∈us,SeqAt.EqAt A s u v (eqU x u)
 | _,_,.nil,_=>fun u hu=>by cases hu
 | y::xs,u::us,.cons r t,f=>fun u' hu=>by
  rw [List.all_cons,Bool.and_eq_true] at f
  rcases List.mem_cons.mp hu with rfl | hu
  ·rw [Zts r f.1];exact ZlB r rx f.1 fx
  ·exact Zkg rx fx t f.2 u' hu
def inV (x:V) (xs:List V):Bool:=xs.any fun y=>eqV y x
def rIn (K:PySem.W.Frag) (neg:Bool):R2:=fun x y H Q=>∃ p xs,y=.ref p∧(SqL K H p xs∨SqT K H p xs)∧Zi7 x=true∧xs.all Zi7=true∧Q (.bl (if neg then !inV x xs else inV x xs)) H
theorem Zqa:OpR X (compareOp .In) (rIn X.K false):=by
 walk_at "pa"
 obtain ⟨p,xs,rfl,hq,fx,fs,q⟩:=h
 cases ry
 rcases hq with hq | hq
 ·obtain ⟨its,r,pl,hz⟩:=I.list hq
  refine SeqAt.in_listAt (eqU x) pl.isList (fun w hw=>Zkg rx fx r fs w (by simpa using hw)) ⟨.bl _,H,I,rfl,?_⟩
  rw [show its.toArray.any (eqU x)=its.any (eqU x) by simp,Zmv r fs]
  exact q
 ·obtain ⟨its,r,pl,hz⟩:=I.tuple hq
  refine SeqAt.in_tupleAt (eqU x) pl (fun w hw=>Zkg rx fx r fs w (by simpa using hw)) ⟨.bl _,H,I,rfl,?_⟩
  rw [show its.toArray.any (eqU x)=its.any (eqU x) by simp,Zmv r fs]
  exact q
theorem CallR.or {f:Value} {r r':List V→Hp→VK→Prop} (h:CallR X f r) (h':CallR X f r'):CallR X f (fun xs H Q=>r xs H Q∨r' xs H Q):=by
 intro pins s σ H xs us Q I rs q
 rcases q with q | q
 ·exact h pins s σ H xs us Q I rs q
 ·exact h' pins s σ H xs us Q I rs q
theorem ZlU:CallR X (.type "list") (fun xs H Q=>∃ p ys,xs=[.ref p]∧(SqL X.K H p ys∨SqT X.K H p ys)∧∀ l,H l=none→Q (.ref l) (upd H l (.lst ys))):=by
 walk_at "py"
 obtain ⟨p,ys,rfl,hq,q⟩:=h
 obtain ⟨u,rfl,rx⟩:=ZhB r
 cases rx
 have fin:∀ (its:List Value),Vals ys its→ys.length≤sizeLine→∀ (h':Heap) (c':Nat),(∀ b o',s.heap.get? b=some o'→h'.get? b=some o') →
   h'.get? s.heap.objs.size=some { cls:=.type "list",dict:=none,data:=.seq its.toArray c',slots:=#[] }→EP X pins σ Q (.ref s.heap.objs.size) { s with heap:=h' }:=fun its r' hz h' c' kp e =>
  ⟨.ref s.heap.objs.size,_,I.laid (t':=s.toks) kp (Nat.le_refl _) (show ObjOk X.prog X.w _ h' _ (.lst ys) from ⟨hz,its,c',r',e⟩),rfl,q _ (I.hok.fresh (Nat.le_refl _))⟩
 rcases hq with hq | hq
 ·obtain ⟨its,r',pl,hz⟩:=I.list hq
  have hlen:=r'.length
  obtain ⟨o,ho,hc,n,hd⟩:=pl.isList
  exact call_list_seq p (.inl rfl) ho hc hd (fun h' c' kp e=>fin its r' hz h' c' kp e) (by simp only [List.size_toArray] <;> omega)
 ·obtain ⟨its,r',pl,hz⟩:=I.tuple hq
  have hlen:=r'.length
  obtain ⟨o,ho,hc,n,hd⟩:=pl
  exact call_list_seq p (.inr rfl) ho hc hd (fun h' c' kp e=>fin its r' hz h' c' kp e) (by simp only [List.size_toArray] <;> omega)
theorem Zkq:CallR X (.type "tuple") (fun xs H Q=>∃ p ys,xs=[.ref p]∧((SqL X.K H p ys∧∀ l,H l=none→Q (.ref l) (upd H l (.tup ys)))∨(SqT X.K H p ys∧Q (.ref p) H))):=by
 walk_at "py"
 obtain ⟨p,ys,rfl,h⟩:=h
 obtain ⟨u,rfl,rx⟩:=ZhB r
 cases rx
 rcases h with ⟨hq,q⟩ | ⟨hq,q⟩
 ·obtain ⟨its,r',pl,hz⟩:=I.list hq
  have hlen:=r'.length
  refine call_tuple_list pl.isList (fun h' kp=>?_) (by simp only [List.size_toArray] <;> omega)
  have I1:Inv X pins σ H { s with heap:=h' }:=I.kept (t':=s.toks) kp
  have I2:Inv X pins σ (upd H h'.objs.size (.tup ys)) { s with heap:=h'.push { cls:=.type "tuple",data:=.seq its.toArray } } :=
   I1.laid (t':=s.toks) (fun b o e=>Heap.get?_push_of_some _ e) (Nat.le_refl _) (show ObjOk X.prog X.w _ _ _ (.tup ys) from ⟨hz,its,r',TupP.new _ _⟩)
  exact ⟨.ref h'.objs.size,_,I2,rfl,q _ (I1.hok.fresh (Nat.le_refl _))⟩
 ·obtain ⟨its,r',pl,hz⟩:=I.tuple hq
  exact call_tuple_same pl ⟨.ref p,H,I,rfl,q⟩
def tyV (K:PySem.W.Frag) (T:String) (x:V) (H:Hp):Prop:=match x with
 | .str _=>T="str"
 | .int _=>T="int"
 | .ref p=>(T="list"∧∃ xs,SqL K H p xs)∨(T="tuple"∧∃ o,K.lookup p=some o∧o.cls=.type "tuple"∧o.dict=none) ∨
   (T="dict"∧((∃ kvs,H p=some (.dK kvs))∨∃ kvs,H p=some (.dT kvs)))∨(T="set"∧∃ S n,H p=some (.set S n))
 | _=>False
theorem ZyG {pins:List (Addr×Obj)} {σ:St} {H:Hp} {s:Shared} {T:String} {x:V} {v:Value} (I:Inv X pins σ H s) (r:RelV x v) (ty:tyV X.K T x H) :
  s.TypeIs v T∧∀ a,v=.ref a→∃ ob,s.heap.get? a=some ob∧ob.dict=none:=by
 cases x with
 | str z =>
  obtain ⟨t,rfl⟩:=r
  cases (show T="str" from ty)
  exact ⟨typeIs_str s z t,fun _ e=>nomatch e⟩
 | int i =>
  obtain ⟨t,rfl⟩:=r
  cases (show T="int" from ty)
  exact ⟨typeIs_int s i t,fun _ e=>nomatch e⟩
 | ref p =>
  cases r
  rcases ty with ⟨rfl,xs,hq⟩ | ⟨rfl,o,hk,hc,hd⟩ | ⟨rfl,hk⟩ | ⟨rfl,S,n,hk⟩
  ·obtain ⟨its,_,pl,_⟩:=I.list hq
   refine ⟨pl.isList.typeIs,fun a e=>?_⟩
   cases e
   obtain ⟨o,n,e,c,hd,_⟩:=pl
   exact ⟨o,e,hd⟩
  ·refine ⟨⟨o,I.kIn p o hk,hc⟩,fun a e=>?_⟩
   cases e
   exact ⟨o,I.kIn _ o hk,hd⟩
  ·have z:∃ o,s.heap.get? p=some o∧o.ExactDict:=by
    rcases hk with ⟨kvs,hk⟩ | ⟨kvs,hk⟩
    ·obtain ⟨_,_,_,_,o,_,_,e,ex,_⟩:=I.hok p _ hk
     exact ⟨o,e,ex⟩
    ·obtain ⟨_,_,_,_,o,_,_,e,ex,_⟩:=I.hok p _ hk
     exact ⟨o,e,ex⟩
   obtain ⟨o,e,ex⟩:=z
   refine ⟨⟨o,e,ex.1⟩,fun a e2=>?_⟩
   cases e2
   exact ⟨o,e,ex.2.1⟩
  ·obtain ⟨o,_,_,_,e,ex,_⟩:=I.hok p _ hk
   refine ⟨⟨o,e,ex.1⟩,fun a e2=>?_⟩
   cases e2
   exact ⟨o,e,ex.2.1⟩
 | _=>exact False.elim ty
def tBM (K:PySem.W.Frag) (T:String) (r:V→List V→Hp→VK→Prop) (to:TE) (t:TA):TE:=fun σ H Q=>to σ H fun x H1=>tyV K T x H1∧t σ H1 fun xs H2=>r x xs H2 Q
variable {o e:Expr} {es:List Expr} {to:TE} {t:TA} {name:Str} {apos cpos:Pos} {T id:String} {r:V→List V→Hp→VK→Prop}
theorem Zy4 (pa:PlainAttrs T) (slot:Slot T name id) (hty:typeOf (.builtin id)=pure (.type "method_descriptor")) (hm:MtR X id r) (ho:PE X o to) (ha:PA X (e::es) t)
  (hbase:attributeBase o name X.env (eval o X.env)=eval o X.env:=by rfl)
  (hfew:((backTo cpos (starEach (e::es) X.env)).all (fun x=>!x.1)&&(backToKw cpos (keywordEach [] X.env)).all (fun x=>x.1.isSome)
   && decide ((e::es).length+([]:List Keyword).length+(if ([]:List Keyword).isEmpty then 0 else 1) < 30))=true:=by rfl)
  (hline:(apos.endLine==cpos.line)=true:=by rfl) (hs:starEach (e::es) X.env=(false,eval e X.env)::starEach es X.env:=by rfl) (hplain:(backTo cpos (starEach es X.env)).any (·.1)=false:=by rfl) :
  PE X (.Call (.Attribute o name apos) (e::es) [] cpos) (tBM X.K T r to t):=by
 intro pins s σ H Q I h
 refine wpAny_Call_method_late hbase hfew hline rfl (thn (ho pins s σ H _ I h) fun v s1 zz51=>?_)
 obtain ⟨x,H1,I1,r1,ty,q1⟩:=zz51
 obtain ⟨h1,h2⟩:=ZyG I1 r1 ty
 refine ⟨T,id,pa,slot,hty,h1,h2,?_⟩
 have hA:=ha cpos pins s1 σ H1 _ I1 q1
 rw [hs] at hA ⊢
 refine Calls.callWith_builtin (by show (false||(backTo cpos (starEach es X.env)).any (·.1))=false;rw [hplain] <;> rfl) (Calls.evalArgs_plain ?_)
 exact thn hA (by rintro us s2 ⟨vs,H2,I2,r2,q2⟩;exact hm pins s2 σ H2 x vs v us Q I2 r1 r2 q2)
end
def MtM (X:Cx) (id:String) (r:V→List V→Hp→VK→Prop):Prop :=
 ∀ (pins:List (Addr×Obj)) (s:Shared) (σ:St) (H:Hp) (x:V) (xs:List V) (v:Value) (us:List Value) (Q:VK),Inv X pins σ H s→RelV x v→Vals xs us→r x xs H Q →
  wpAny (model X.prog X.w) X.A (call (.builtin id) (v::us)) (EP X pins σ Q) X.xe s
theorem Vals.one:∀ {x:V} {us:List Value},Vals [x] us→∃ u,us=[u]∧RelV x u
 | _,_,.cons r .nil=>⟨_,rfl,r⟩
theorem Vals.two:∀ {x y:V} {us:List Value},Vals [x,y] us→∃ u v,us=[u,v]∧RelV x u∧RelV y v
 | _,_,_,.cons r (.cons q .nil)=>⟨_,_,rfl,r,q⟩
theorem Vals.zero:∀ {us:List Value},Vals [] us→us=[]
 | _,.nil=>rfl
theorem Vals.eraseIdx:∀ {xs:List V} {us:List Value} (i:Nat),Vals xs us→Vals (xs.eraseIdx i) (us.eraseIdx i)
 | _,_,_,.nil=>.nil
 | _,_,0,.cons _ t=>t
 | _,_,i+1,.cons r t=>.cons r (Vals.eraseIdx i t)
theorem Vals.rep {xs:List V} {us:List Value} (h:Vals xs us):∀ k:Nat,Vals (List.replicate k xs).flatten (List.replicate k us).flatten
 | 0=>.nil
 | k+1=>by
  rw [List.replicate_succ,List.replicate_succ,List.flatten_cons,List.flatten_cons]
  exact Vals.append h (Vals.rep h k)
theorem ZlL (its:List Value):∀ (k:Nat) (acc:List Value),
  List.foldl (fun x1 x2=>x1++x2) acc.toArray (List.replicate k its.toArray)=(acc++(List.replicate k its).flatten).toArray
 | 0,acc=>by simp
 | k+1,acc=>by
  have e:acc.toArray++its.toArray=(acc++its).toArray:=by simp
  have e2:(acc++its)++(List.replicate k its).flatten=acc++(List.replicate (k+1) its).flatten:=by
   rw [List.replicate_succ,List.flatten_cons,List.append_assoc]
  rw [← e2,← ZlL its k (acc++its),← e,List.replicate_succ,List.foldl_cons]
section
variable {X:Cx} {pins:List (Addr×Obj)} {σ:St} {H:Hp} {s:Shared} {l b:Addr} {xs ys zs:List V}
theorem Inv.lset {its its':List Value} {n:Nat} {f:Array Value→Array Value} {t':Nat} (I:Inv X pins σ H s) (hH:H l=some (.lst xs))
  (e:s.heap.get? l=some { cls:=.type "list",data:=.seq its.toArray n }) (hf:f its.toArray=its'.toArray) (hv:Vals ys its') (hz:ys.length≤sizeLine) :
  Inv X pins σ (upd H l (.lst ys)) { s with heap:=s.heap.update l (Obj.mapSeq f),toks:=t' }:=by
 have q:=PySem.IsL.update e f
 rw [hf] at q
 refine I.write (x:=l) (e:=l) (by rw [hH];exact trivial) (.inl rfl) (fun b' u hb hu=>(Heap.get?_update_other s.heap (Obj.mapSeq f) (Ne.symm hb)).trans hu) ⟨_,q⟩ ?_
 exact ⟨hz,its',_,hv,q⟩
theorem Inv.lnew {its:List Value} {t':Nat} (I:Inv X pins σ H s) (hv:Vals ys its) (hz:ys.length≤sizeLine) :
  Inv X pins σ (upd H s.heap.objs.size (.lst ys)) { s with heap:=s.heap.push { cls:=.type "list",data:=.seq its.toArray },toks:=t' } :=
 I.laid (fun _ _ q=>Heap.get?_push_of_some _ q) (Nat.le_refl _) ⟨hz,its,0,hv,Heap.get?_push_size _ rfl⟩
theorem Inv.fresh (I:Inv X pins σ H s):H s.heap.objs.size=none:=I.hok.fresh (Nat.le_refl _)
theorem Inv.lstM (I:Inv X pins σ H s) (hH:H l=some (.lst xs)):xs.length≤sizeLine∧∃ (its:List Value) (n:Nat),Vals xs its∧xs.length=its.length∧s.heap.get? l=some { cls:=.type "list",data:=.seq its.toArray n }:=by
 obtain ⟨z,its,n,r,e⟩:=I.hok l _ hH
 exact ⟨z,its,n,r,r.length,e⟩
theorem Znn {n:Nat} (h:n≤sizeLine):Builtin.List.listTooLong n=false:=by
 unfold Builtin.List.listTooLong
 exact decide_eq_false (by omega)
end
section
variable {X:Cx}
def ZvF:V→List V→Hp→VK→Prop:=fun x vs H Q=>∃ l xs y,x=.ref l∧vs=[y]∧H l=some (.lst xs)∧xs.length < sizeLine∧Q .non (upd H l (.lst (xs++[y])))
theorem Zp0:MtM X "list.append" ZvF:=by
 intro pins s σ H x vs v us Q I rx rv h
 obtain ⟨l,xs,y,rfl,rfl,hH,hz,q⟩:=h
 cases rx
 obtain ⟨u,rfl,ru⟩:=rv.one
 obtain ⟨z,its,n,r,hl,e⟩:=I.lstM hH
 refine call_meets F.slot_list_append ⟨_,e,rfl⟩ F.entry_list_append (F.args_list_append_2 _ _) (PySem.list_append l its.toArray n u (by rw [List.size_toArray];omega)) ⟨e,?_⟩
 refine ⟨.non,_,I.lset (its':=its++[u]) hH e (by simp) (r.append (.cons ru .nil)) ?_,rfl,q⟩
 rw [List.length_append,List.length_singleton]
 omega
def Zvq:V→List V→Hp→VK→Prop:=fun x vs H Q=>∃ l b xs zs,x=.ref l∧vs=[.ref b]∧H l=some (.lst xs)∧H b=some (.lst zs)∧xs.length+zs.length≤sizeLine∧Q .non (upd H l (.lst (xs++zs)))
theorem ZqX:MtM X "list.extend" Zvq:=by
 intro pins s σ H x vs v us Q I rx rv h
 obtain ⟨l,b,xs,zs,rfl,rfl,hH,hB,hz,q⟩:=h
 cases rx
 obtain ⟨u,rfl,ru⟩:=rv.one
 cases ru
 obtain ⟨z,its,n,r,hl,e⟩:=I.lstM hH
 obtain ⟨z2,its2,n2,r2,hl2,e2⟩:=I.lstM hB
 have hsz:its.toArray.size+its2.toArray.size≤sizeLine:=by rw [List.size_toArray,List.size_toArray];omega
 have hlong:¬ (!its.toArray.isEmpty&&Builtin.List.listTooLong (its.toArray.size+its2.toArray.size))=true:=by
  rw [Znn hsz,Bool.and_false]
  exact Bool.false_ne_true
 refine call_meets F.slot_list_extend ⟨_,e,rfl⟩ F.entry_list_extend (F.args_list_extend_2 _ _)
  (AutoSeq1.list_extend_list_list_0 l its.toArray n b its2.toArray n2 hlong (by rw [List.size_toArray];omega) (by omega)) ⟨e,e2,?_⟩
 refine ⟨.non,_,I.lset (its':=its++its2) hH e (by simp) (r.append r2) ?_,rfl,q⟩
 rw [List.length_append]
 omega
def Zx3:R2:=fun x y H Q=>∃ l b xs zs,x=.ref l∧y=.ref b∧H l=some (.lst xs)∧H b=some (.lst zs)∧xs.length+zs.length≤sizeLine∧∀ p,H p=none→Q (.ref p) (upd H p (.lst (xs++zs)))
theorem Zyq:OpR X (binaryOp .Add) Zx3:=by
 walk_at "pa"
 obtain ⟨l,b,xs,zs,rfl,rfl,hH,hB,hz,q⟩:=h
 cases rx
 cases ry
 obtain ⟨z,its,n,r,hl,e⟩:=I.lstM hH
 obtain ⟨z2,its2,n2,r2,hl2,e2⟩:=I.lstM hB
 refine PySem.P.add_list e e2 ?_ (by rw [List.size_toArray,List.size_toArray];omega)
 have ea:its.toArray++its2.toArray=(its++its2).toArray:=by simp
 rw [ea]
 exact ⟨.ref _,_,I.lnew (t':=s.toks) (r.append r2) (by rw [List.length_append];omega),rfl,q _ I.fresh⟩
def ZAk:R2:=fun x y H Q=>∃ l k xs,x=.ref l∧y=.int k∧H l=some (.lst xs)∧-(2 ^ 63)≤k∧k < 2 ^ 63∧xs.length*k.toNat≤sizeLine ∧
 ∀ p,H p=none→Q (.ref p) (upd H p (.lst (List.replicate k.toNat xs).flatten))
theorem ZvB {α:Type} (xs:List α) (k:Nat):(List.replicate k xs).flatten.length=k*xs.length:=by
 induction k with
 | zero=>simp
 | succ k ih=>rw [List.replicate_succ,List.flatten_cons,List.length_append,ih,Nat.succ_mul,Nat.add_comm]
theorem ZyJ:OpR X (binaryOp .Mult) ZAk:=by
 walk_at "pa"
 obtain ⟨l,k,xs,rfl,rfl,hH,h1,h2,hz,q⟩:=h
 cases rx
 obtain ⟨t,rfl⟩:=ry
 obtain ⟨z,its,n,r,hl,e⟩:=I.lstM hH
 have hlen:its.toArray.size*k.toNat≤sizeLine:=by rw [List.size_toArray,← hl];exact hz
 have hcap:¬ its.toArray.size*k.toNat > (2 ^ 63 - 1) / 8:=by
  have:(sizeLine:Nat)≤(2 ^ 63 - 1) / 8:=by decide
  omega
 have hfit:¬ (!Builtin.List.listFitsIndex k)=true:=by
  rw [fitsIndex_both h1 h2]
  exact Bool.false_ne_true
 have hlong:¬ Builtin.List.listTooLong (its.toArray.size*k.toNat)=true:=by
  rw [Znn hlen]
  exact Bool.false_ne_true
 have hnew:List.foldl (fun x1 x2=>x1++x2) #[] (List.replicate (if its.toArray.isEmpty=true then 0 else k.toNat) its.toArray)=(List.replicate k.toNat its).flatten.toArray:=by
  have f0:∀ m:Nat,List.foldl (fun x1 x2=>x1++x2) #[] (List.replicate m its.toArray)=(List.replicate m its).flatten.toArray:=fun m=>by
   have:=ZlL its m []
   rw [List.nil_append] at this
   exact this
  rw [f0]
  cases its with
  | nil=>simp
  | cons a r'=>rw [if_neg (by simp)]
 refine wpAny_binaryOp_repeat_ref (T:="list") (U:="int") (by decide) ⟨_,e,rfl⟩ (fun s'=>typeIs_int s' k t) noFill_list_mul F.fills_int_mul F.slot_int_rmul repeat_list F.slot_int_index.lookup
  (call_meets F.slot_int_rmul (typeIs_int s k t) F.entry_int_rmul (F.args_int_rmul_2 _ _) (int___rmul___int_list k t l its.toArray n)
   ⟨e,rfl,⟨_,e,rfl⟩,call_meets F.slot_list_mul ⟨_,e,rfl⟩ F.entry_list_mul (F.args_list_mul_2 _ _) (AutoListH.list___mul___list_int_3 l its.toArray n k t hfit hcap hlong) ⟨e,?_⟩⟩)
 rw [hnew]
 exact ⟨.ref _,_,I.lnew (t':=s.toks) (r.rep k.toNat) (by rw [ZvB,Nat.mul_comm];exact hz),rfl,q _ I.fresh⟩
end
section
variable {prog:Program} {w:World} {A:Around} {E:Value→Shared→Prop} {s:Shared}
end
section
variable {X:Cx}
end
end L2
namespace Att
open PySem PySem.W PySem.Calls PyProof.Rows
theorem Zil {P:Params} {h:Heap}:∀ (ns:List Int) (vs:List Value),WellAll P h vs (ns.map WData.int)→IntsAre vs ns:=by
 intro ns
 induction ns with
 | nil =>
  intro vs w
  rw [List.map_nil] at w
  cases w
  exact .nil
 | cons n ns ih =>
  intro vs w
  rw [List.map_cons] at w
  cases w with
  | cons a b =>
   cases a
   exact .cons _ _ (ih _ b)
theorem Zpx {l:OpenLaw} {n:Nat} (hn:l.most=some n) {P:Params} {h:Heap} {args:List WData} {vals:List Value}
  (hpre:l.row.toRowW.claim.pre args=true) (hwl:WellAll P h vals args) :
  ∃ a vs ns,vals=[Value.ref a]∧args=[WData.list (ns.map WData.int)]∧h.get? a=some { cls:=.type "list",data:=.seq vs.toArray }∧IntsAre vs ns∧ns.length≤n:=by
 have hsh:WShape.hasAll [] args [.list .int]=true:=(pre_splitW hpre).1
 have hc:l.pre.holds [] { args:=args }=true:=(pre_splitW hpre).2
 obtain ⟨d,r,rfl,h1,h2⟩:=hasAllW_cons hsh
 obtain rfl:=hasAllW_nil h2
 obtain ⟨xs,rfl,h3⟩:=hasW_list h1
 obtain ⟨ns,rfl⟩:=items_int h3
 have hlen:ns.length≤n:=by
  unfold OpenLaw.pre at hc
  have h4:(WTm.not (.lt (.lit (.int (n:Int))) (.len (.arg 0)))).holds [] { args:=[.list (ns.map .int)] }=true:=by
   have h4:=(holds_andW hc).1
   rw [hn] at h4
   exact h4
  have h5:=condW_of h4 (w_not (w_lt w_lit (w_len_list (w_arg rfl))))
  rw [List.length_map] at h5
  refine Nat.le_of_not_lt fun q=>?_
  have q':(n:Int) < ((ns.length:Nat):Int):=by omega
  first
   | (rw [decide_eq_true q'] at h5;exact absurd h5 (by decide))
   | (simp at h5;omega)
 cases hwl with
 | cons w1 w2 =>
  cases w2
  cases w1 with
  | list ho hall=>exact ⟨_,_,ns,rfl,rfl,ho,Zil ns _ hall,hlen⟩
theorem ZqR (l:OpenLaw) (args:List WData):l.row.toRowW.claim.post args (.bool true) args=true :=
 postW_of (r:=l.row.toRowW) (X:=(true==true))
  (show WShape.has [] (.bool true) .bool=true by first | rfl | decide | simp [WShape.has,WShape.arms,WShape.armsAll])
  (show (WTm.eq .res (.lit (.bool true))).value [] { args:=args,res:=some (.bool true),after:=args }=some (.bool (true==true)) from w_eq_bool (w_res rfl) w_lit) rfl
theorem attach_call {l:OpenLaw} {n:Nat} {q:Program} {loose:List Str} {XP:(Str→Option Value)→Heap→Prop} {YP:World→Heap→Prop} {d:DefRec}
  (hn:l.most=some n) (hdf:d.params.defaults=[])
  (call:∀ (w:World) (s₀ s₁:Shared) (mg mb:Str→Option Value) (fa:Addr) (o:Obj) (pm cd doc:Value) (a:Addr) (vs:List Value) (ns:List Int),
   Ground q loose [] XP w s₀ mg mb s₁.heap→YP w s₁.heap →
   s₁.heap.get? fa=some o→o.data=.func (docDef d.name d.params d.body d.scope pm cd doc)→s₁.heap.CodeRec cd d.name→mg d.name=some (.ref fa) →
   s₁.heap.get? a=some { cls:=.type "list",data:=.seq vs.toArray }→IntsAre vs ns→ns.length≤n→s₁.gens=#[] →
   codeAny (model l.prog w) callerA (.call (.ref fa) ⟨[.ref a],[]⟩) (fun r s'=>r=.ok (.ret (.bool true))∧OldK s₁.heap s'.heap∧s'.os=s₁.os∧AllBare s'.gens) s₁) :
  WalkO q loose XP YP l.row.toRowW d [] (fun f vs=>PySem.call f vs):=by
 intro w s₀ s₁ mg mb G Y fa o pm cd doc dV kV ho hd hcd hD hmg hg args vals as hpre hlay hrd hwl hlo
 obtain rfl:dV=.none:=Dflts.none hD hdf
 obtain rfl:kV=.none:=Dflts.noKw hD
 obtain ⟨a,vs,ns,rfl,rfl,hobj,hints,hlen⟩:=Zpx hn hpre hwl
 refine enter_call (codeAny_mono (call w s₀ s₁ mg mb fa o pm cd doc a vs ns G Y ho (fd_plain hd) hcd hmg hobj hints hlen hg) fun r s' hq=>?_)
 obtain ⟨rfl,h2,h3,h4⟩:=hq
 exact ⟨.inl ⟨.bool true,.bool true,[],rfl,fun _=>rfl,.bool true,ZqR l _,fun _=>⟨List.Pairwise.nil,fun _ hm=>(nomatch hm)⟩⟩,h2,h3,h4⟩
section
variable {prog:Program} {w:World} {A:Around} {E:Value→Shared→Prop} {s:Shared} {K:Frag}
end
end Att
namespace L2
open PySem PySem.Spec PyProof.Rows
theorem ZlR:∀ {vs:List Value} {ns:List Int},IntsAre vs ns→Vals (ns.map V.int) vs
 | _,_,.nil=>.nil
 | _,_,.cons n t h=>.cons ⟨t,rfl⟩ (ZlR h)
def ZyT (H:Hp):Prop:=∀ b,H b=none∨∃ o xs,H b=some (.frz o (.lst xs))
theorem Zrr {P:Program} {w:World} {K:PySem.W.Frag} {mg mb:Str→Option Value} {CX:CXT} {k:Nat} {fa a:Addr} {fd:FuncData} {x:Str} {sp:Sp} {s₁:Shared} {vs:List Value} {ns:List Int}
  (KX:K.In s₁.heap) (hns:s₁.heap.Ns mainGlobals mg) (hb:s₁.heap.Ns builtinsNs mb) (hbb:∀ x:Str,x≠"__name__"→mb x=bootBuiltins x) (hlim:s₁.heap.NoLimit) (hg:s₁.gens=#[])
  (ha:s₁.heap.get? a=some { cls:=.type "list",data:=.seq vs.toArray }) (hi:IntsAre vs ns) (hl:ns.length≤sizeLine) (hr:Room k callerA)
  (F:∀ base:Heap,K.In base→base.Ns mainGlobals mg→FnOk P w K mg base CX k fa fd [x] sp) (hbind:∀ (s:Shared) (u:Value),BindsTo s fd ⟨[u],[]⟩ [(x,u)])
  (hsp:∀ H:Hp,ZyT H→SqL K H a (ns.map V.int)→sp [.ref a] H (fun v _=>v=.bl true) fun _ _ _=>False)
  (hCX:∀ H e s',CX [] H s₁ (fun _ _ _=>False) e s'→False) :
  codeAny (model P w) callerA (.call (.ref fa) ⟨[.ref a],[]⟩) (fun r s'=>r=.ok (.ret (.bool true))∧OldK s₁.heap s'.heap∧s'.os=s₁.os∧AllBare s'.gens) s₁:=by
 have rv:=ZlR hi
 have lenV:=hi.length
 have core:∀ H:Hp,ZyT H→SqL K H a (ns.map V.int)→HOk P w H s₁.heap→(∀ b,H b≠none→b=a)→(H a≠none→K.lookup a=none) →
   codeAny (model P w) callerA (.call (.ref fa) ⟨[.ref a],[]⟩) (fun r s'=>r=.ok (.ret (.bool true))∧OldK s₁.heap s'.heap∧s'.os=s₁.os∧AllBare s'.gens) s₁:=by
  intro H hO hS hok hA hK
  have base_of:∀ {b:Addr} {o:Obj},s₁.heap.get? b=some o→H b=none→(ZsA s₁.heap H).get? b=some o:=fun e n=>Zr5 e n
  have noA:∀ {b:Addr} {o:Obj} {es:Array DictEntry} {ep:Nat},s₁.heap.get? b=some o→o.data=.dict es ep→H b=none:=fun {b o es ep} e d=>by
   cases q:H b with
   | none=>rfl
   | some u =>
    have e':b=a:=hA b (by rw [q];simp)
    subst e'
    rw [ha] at e;cases e
    have d':Data.seq vs.toArray _=Data.dict es ep:=d
    cases d'
  have nsK:∀ {b:Addr} {m:Str→Option Value},s₁.heap.Ns b m→(ZsA s₁.heap H).Ns b m:=fun {b m} ⟨o,es,ep,e,d,r⟩=>⟨o,es,ep,base_of e (noA e d),d,r⟩
  have hKb:K.In (ZsA s₁.heap H):=fun b o e=>base_of (KX b o e) (by
   cases q:H b with
   | none=>rfl
   | some u =>
    have e':b=a:=hA b (by rw [q];simp)
    subst e'
    rw [hK (by rw [q];simp)] at e;cases e)
  have hM:Mod K mg (ZsA s₁.heap H):=⟨hKb,nsK hns,⟨mb,nsK hb,hbb⟩,let ⟨mc,h1,h2⟩:=hlim;⟨mc,nsK h1,h2⟩⟩
  have e0:Env0 P w K mg (ZsA s₁.heap H) callerA [] s₁ H:=⟨rfl,hM,fun b o e=>Zu4 e,Nat.le_of_eq (Zpf _ _),trivial,fun b hb=>absurd (show b∈([]:List Addr) from hb) (by simp),hok,.of_eq hg⟩
  refine codeAny_mono ((F _ hKb (nsK hns)).run callerA [] s₁ H ⟨[.ref a],[]⟩ [.ref a] [.ref a] _ _ hr e0 (hbind s₁ (.ref a)) (.cons rfl .nil) (hsp H hO hS)) fun r s' h=>?_
  cases r with
  | error e=>exact (hCX H e s' h).elim
  | ok fl =>
   cases fl with
   | next=>exact False.elim h
   | brk=>exact False.elim h
   | cont=>exact False.elim h
   | ret u =>
    obtain ⟨v,H',os,bare,un,hok',r',q⟩:=h
    have q':v=.bl true:=q
    subst q'
    obtain rfl:u=Value.bool true:=r'
    refine ⟨rfl,OldK.of_keep fun b o e=>?_,os,bare⟩
    cases q:H b with
    | none=>exact un.keep b o e q (by intro z;exact absurd (show b∈([]:List Addr) from z) (by simp)) (by simp)
    | some u =>
     rcases hO b with z | ⟨ob,xs,z⟩
     ·rw [q] at z;cases z
     ·have z2:=un.frzs b ob _ z
      obtain ⟨e1,_⟩:=hok b _ z
      obtain ⟨e2,_⟩:=hok' b _ z2
      rw [e] at e1;cases e1
      exact e2
 cases hk:K.lookup a with
 | some o =>
  have e:=KX a o hk
  rw [ha] at e
  cases e
  refine core (fun _=>none) (fun _=>.inl rfl) (.inr ⟨_,vs.toArray,_,hk,rfl,rfl,rfl,by rw [List.size_toArray,lenV];exact hl,by simpa using rv⟩) (fun b u z=>by have z':(none:Option HO)=some u:=z;cases z') (fun b z=>absurd rfl z) fun z=>absurd rfl z
 | none =>
  refine core (fun b=>if b=a then some (.frz { cls:=.type "list",data:=.seq vs.toArray } (.lst (ns.map V.int))) else none) (fun b=>?_) (.inl (.inr ⟨{ cls:=.type "list",data:=.seq vs.toArray },if_pos rfl⟩)) (fun b u z=>?_) (fun b z=>?_) fun _=>hk
  ·by_cases hb:b=a
   ·exact .inr ⟨_,_,if_pos hb⟩
   ·exact .inl (if_neg hb)
  ·by_cases hb:b=a
   ·have z':=(if_pos hb).symm.trans z
    cases z'
    subst hb
    exact ⟨ha,by rw [List.length_map];exact hl,vs,_,rv,ha⟩
   ·have z':=(if_neg hb).symm.trans z
    cases z'
  ·by_cases hb:b=a
   ·exact hb
   ·exact absurd (if_neg hb) z
abbrev KOf {K:PySem.W.Frag} {h:Heap} (_:K.In h):PySem.W.Frag:=K
theorem Zuc {l:PySem.W.OpenLaw} {n k:Nat} {q:Program} {loose:List Str} {XP:(Str→Option Value)→Heap→Prop} {YP:World→Heap→Prop} {d:DefRec} {K:Params→PySem.W.Frag} {CX:World→CXT} {sp:World→Sp} {x:Str}
  (hn:l.most=some n) (hn2:n≤sizeLine) (hdf:d.params.defaults=[]) (hr:Room k callerA)
  (hY:∀ (w:World) (h:Heap),YP w h→(K w.params).In h)
  (F:∀ (w:World) (mg:Str→Option Value) (fa:Addr) (h:Heap),(K w.params).In h→h.Ns mainGlobals mg→mg d.name=some (.ref fa) →
   ∃ fd:FuncData,(∀ (s:Shared) (u:Value),BindsTo s fd ⟨[u],[]⟩ [(x,u)]) ∧
    ∀ base:Heap,(K w.params).In base→base.Ns mainGlobals mg→FnOk l.prog w (K w.params) mg base (CX w) k fa fd [x] (sp w))
  (hsp:∀ (w:World) (H:Hp) (a:Addr) (ns:List Int),ns.length≤n→ZyT H→SqL (K w.params) H a (ns.map V.int)→sp w [.ref a] H (fun v _=>v=.bl true) fun _ _ _=>False)
  (hCX:∀ (w:World) (H:Hp) (s:Shared) (e:Value) (s':Shared),CX w [] H s (fun _ _ _=>False) e s'→False) :
  PySem.W.WalkO q loose XP YP l.row.toRowW d [] (fun f vs=>PySem.call f vs):=by
 refine Att.attach_call hn hdf fun w s₀ s₁ mg mb fa o pm cd doc a vs ns G Y ho hd hcd hmg hobj hints hlen hg=>?_
 have KX:=hY w _ Y
 obtain ⟨fd,hb,hF⟩:=F w mg fa _ KX G.T.g hmg
 exact Zrr KX G.T.g G.T.b G.T.builtins G.T.nolimit hg hobj hints (Nat.le_trans hlen hn2) hr hF hb (fun H hO hS=>hsp w H a ns hlen hO hS) fun H e s'=>hCX w H s₁ e s'
abbrev CX0:CXT:=fun _ _ _ _ _ _=>False
structure Fun (K:PySem.W.Frag) (x qual:Str) (st:Stmt) (f:Addr) (fd:FuncData):Prop where
 ex:∃ (oc:Value) (od:Option Addr) (kV doc pm:Value) (an:Option Addr) (cdv ct:Value) (osl:Array (Option Value)),
  fd=PySem.W.fnOf x qual (Zf4 st) (Zc2 st) (Zai st) .none kV doc pm an cdv ct∧K.lookup f=some ⟨oc,od,.func fd,osl⟩∧PySem.W.codeIn K cdv qual=true
 kp:PySem.W.keepIn K (.ref f)=true
section
variable {P:Program} {w:World} {K:PySem.W.Frag} {mg:Str→Option Value} {base:Heap}
theorem Fun.ok {x qual:Str} {st:Stmt} {f:Addr} {fd:FuncData} {N ps:List Str} {k:Nat} {sp:Sp} (F:Fun K x qual st f fd) (S:Zau N ps (Zai st)) (len:∀ vs H Q E,sp vs H Q E→vs.length=ps.length)
  (hbody:∀ (cdv:Value) (A:Around) (outer:List Env) (s:Shared) (H:Hp) (vs:List V) (Q:VK) (E:XK),Room k (A.deeper (envOfC qual (Zai st) s.heap.objs.size f cdv))→sp vs H Q E →
   ∃ t,PSs (ZvT CX0 P w K mg base N qual (Zai st) f cdv A outer s H E).nox (Zc2 st) t∧t { nx:=fun _ H'=>Q .non H',rt:=Q } (Ziy N vs) H):FnOk P w K mg base CX0 (k+1) f fd ps sp:=by
 walk_at "pv"
 refine ZuI lk hcd S len fun A outer s H vs Q E hr hsp=>?_
 obtain ⟨t,h,q⟩:=hbody cdv A outer s H vs Q E hr hsp
 exact ⟨t,h.nox,q⟩
theorem Fun.binds {x qual:Str} {st:Stmt} {f:Addr} {fd:FuncData} {ps:List Str} (F:Fun K x qual st f fd)
  (h:∀ (kV doc pm:Value) (an:Option Addr) (cdv ct:Value) (us:List Value),us.length=ps.length→bindArgs (PySem.W.fnOf x qual (Zf4 st) (Zc2 st) (Zai st) .none kV doc pm an cdv ct) ⟨us,[]⟩=pure (ps.zip us)):Binds K fd ps []:=by
 walk_at "pv"
 exact .all (h kV doc pm an cdv ct)
theorem ZtI {x qual:Str} {st:Stmt} {f:Addr} {oc:Value} {od an:Option Addr} {osl:Array (Option Value)} {kV doc pm cdv ct:Value} (l:K.lookup f=some ⟨oc,od,.func (PySem.W.fnOf x qual (Zf4 st) (Zc2 st) (Zai st) .none kV doc pm an cdv ct),osl⟩)
  (c:PySem.W.codeIn K cdv qual=true) (k:PySem.W.keepIn K (.ref f)=true):Fun K x qual st f (PySem.W.fnOf x qual (Zf4 st) (Zc2 st) (Zai st) .none kV doc pm an cdv ct):=⟨⟨oc,od,kV,doc,pm,an,cdv,ct,osl,rfl,l,c⟩,k⟩
end
section
variable {X:Cx}
theorem pv (i:Nat) {x:Str} {pos:Pos} (hN:X.N[i]?=some x:=by rfl) (hv:Vis X.env.scope x:=by first | exact Or.inl rfl | exact Or.inr (Or.inl rfl) | exact Or.inr (Or.inr rfl)) (hd:(x==("__debug__":Str))=false:=by decide)
  (hcd:(x==("__classdict__":Str))=false:=by decide):PE X (.Name x pos) (ZzU i):=ZtL hN hv hd hcd
end
theorem Zjq {c A B:Prop} [Decidable c] (h1:c→A) (h2:¬ c→B):if c then A else B:=by
 by_cases h:c
 ·rw [if_pos h]
  exact h1 h
 ·rw [if_neg h]
  exact h2 h
def Same (H H':Hp):Prop:=∀ b o,H b=some o→H' b=some o
theorem Same.refl (H:Hp):Same H H:=fun _ _ h=>h
theorem Same.trans {H H1 H2:Hp} (a:Same H H1) (b:Same H1 H2):Same H H2:=fun c o h=>b c o (a c o h)
theorem Same.free {H H':Hp} (e:Same H H') {l:Addr} (h:H' l=Option.none):H l=Option.none:=by
 cases q:H l with
 | none=>rfl
 | some o =>
  rw [e l o q] at h
  cases h
theorem Same.seq {K:PySem.W.Frag} {H H':Hp} {a:Addr} {xs:List V} (e:Same H H') (h:SqL K H a xs):SqL K H' a xs:=by
 rcases h with (h | ⟨o,h⟩) | h
 ·exact .inl (.inl (e _ _ h))
 ·exact .inl (.inr ⟨o,e _ _ h⟩)
 ·exact .inr h
end L2
namespace L3
open PySem PySem.Spec PyProof.Rows L2
namespace Tb
def hop (M:Nat):Nat→Nat→Nat
 | 0,i=>i
 | n+1,i=>hop M n ((i*5+1) % M)
def cover (M:Nat):Bool:=(List.range M).all fun i=>(List.range M).all fun j=>(List.range M).any fun n=>hop M n i==j
theorem cover8:cover 8=true:=by decide +kernel
theorem cover16:cover 16=true:=by decide +kernel
theorem cover32:cover 32=true:=by decide +kernel
theorem cover64:cover 64=true:=by decide +kernel
theorem Zj8 (M:Nat):∀ m n i,hop M (m+n) i=hop M n (hop M m i)
 | 0,n,i=>by rw [Nat.zero_add];rfl
 | m+1,n,i=>by
  rw [Nat.add_right_comm]
  show hop M (m+n) ((i*5+1) % M)=_
  rw [Zj8 M m n];rfl
theorem ZsY {M:Nat} (h0:((List.range M).all fun j=>(List.range M).any fun n=>hop M n 0==j)=true) (hp:hop M M 0=0):cover M=true:=by
 have key:∀ j,j < M→∃ n,n < M∧hop M n 0=j:=fun j hj=>by
  obtain ⟨n,hn,e⟩:=List.any_eq_true.mp (List.all_eq_true.mp h0 j (List.mem_range.mpr hj))
  exact ⟨n,List.mem_range.mp hn,by simpa using e⟩
 refine List.all_eq_true.mpr fun i hi=>List.all_eq_true.mpr fun j hj=>List.any_eq_true.mpr ?_
 obtain ⟨m,hm,em⟩:=key i (List.mem_range.mp hi)
 obtain ⟨n,hn,en⟩:=key j (List.mem_range.mp hj)
 by_cases h:m≤n
 ·refine ⟨n - m,List.mem_range.mpr (by omega),?_⟩
  have z:=Zj8 M m (n - m) 0
  rw [em,show m+(n - m)=n by omega,en] at z
  rw [← z];simp
 ·refine ⟨n+M - m,List.mem_range.mpr (by omega),?_⟩
  have z:=Zj8 M m (n+M - m) 0
  rw [em,show m+(n+M - m)=M+n by omega,Zj8 M M n 0,hp,en] at z
  rw [← z];simp
theorem cover128:cover 128=true:=ZsY (by decide +kernel) (by decide +kernel)
theorem ZrU {M i j:Nat} (h:cover M=true) (hi:i < M) (hj:j < M):∃ n,n < M∧hop M n i=j:=by
 unfold cover at h
 have h1:=List.all_eq_true.mp h i (List.mem_range.mpr hi)
 have h2:=List.all_eq_true.mp h1 j (List.mem_range.mpr hj)
 obtain ⟨n,hn,e⟩:=List.any_eq_true.mp h2
 exact ⟨n,List.mem_range.mp hn,by simpa using e⟩
theorem Zk2 {mask:Nat} {owner:Array (Option Nat)} {fuel i p:Nat} (h:SetTable.layClean.free mask owner (fuel+1) i p=none) :
  (owner.getD i (some 0)).isSome=true∧SetTable.layClean.free mask owner fuel ((i*5+1+p / 32) % (mask+1)) (p / 32)=none:=by
 unfold SetTable.layClean.free at h
 have hr:0 < SetTable.runEnd mask i+1 - i:=by unfold SetTable.runEnd;split <;> omega
 cases hf:(List.range (SetTable.runEnd mask i+1 - i)).find? fun k=>(owner.getD (i+k) (some 0)).isNone with
 | some k=>rw [hf] at h;cases h
 | none =>
  rw [hf] at h
  refine ⟨?_,h⟩
  have hz:=List.find?_eq_none.mp hf 0 (List.mem_range.mpr hr)
  rw [Nat.add_zero] at hz
  cases hg:owner.getD i (some 0) with
  | some b=>rfl
  | none=>rw [hg] at hz;exact absurd rfl hz
theorem Zl1 {mask:Nat} {owner:Array (Option Nat)}:∀ (n fuel i:Nat),SetTable.layClean.free mask owner (n+fuel) i 0=none→∀ m,m < n→(owner.getD (hop (mask+1) m i) (some 0)).isSome=true
 | 0,fuel,i,h,m,hm=>by omega
 | n+1,fuel,i,h,m,hm=>by
  rw [show n+1+fuel=(n+fuel)+1 by omega] at h
  obtain ⟨h1,h2⟩:=Zk2 h
  simp only [Nat.zero_div,Nat.add_zero] at h2
  cases m with
  | zero=>exact h1
  | succ m=>exact Zl1 n fuel _ h2 m (by omega)
theorem Zk7 {mask:Nat} {owner:Array (Option Nat)}:∀ (n fuel i p:Nat),SetTable.layClean.free mask owner (n+fuel) i p=none→i < mask+1→∃ i',i' < mask+1∧SetTable.layClean.free mask owner fuel i' (p / 32 ^ n)=none
 | 0,fuel,i,p,h,hi=>⟨i,hi,by rw [Nat.zero_add] at h;simpa using h⟩
 | n+1,fuel,i,p,h,hi=>by
  rw [show n+1+fuel=(n+fuel)+1 by omega] at h
  obtain ⟨_,h2⟩:=Zk2 h
  obtain ⟨i',hi',h3⟩:=Zk7 n fuel _ _ h2 (Nat.mod_lt _ (by omega))
  refine ⟨i',hi',?_⟩
  rw [Nat.div_div_eq_div_mul,show 32*32 ^ n=32 ^ (n+1) by rw [Nat.pow_succ,Nat.mul_comm]] at h3
  exact h3
theorem Zuj {mask:Nat} {owner:Array (Option Nat)} {i p:Nat} (hc:cover (mask+1)=true) (hi:i < mask+1) (hp:p < 2 ^ 64) (he:∃ j,j < mask+1∧owner.getD j (some 0)=none):(SetTable.layClean.free mask owner (SetTable.turns mask) i p).isSome=true:=by
 cases h:SetTable.layClean.free mask owner (SetTable.turns mask) i p with
 | some j=>rfl
 | none =>
  exfalso
  rw [show SetTable.turns mask=13+((mask+1)+1) by unfold SetTable.turns;omega] at h
  obtain ⟨i',hi',h2⟩:=Zk7 13 _ i p h hi
  rw [Nat.div_eq_of_lt (Nat.lt_of_lt_of_le hp (by decide))] at h2
  have h3:=Zl1 (mask+1) 1 i' h2
  obtain ⟨j,hj,e⟩:=he
  obtain ⟨n,hn,en⟩:=ZrU hc hi' hj
  have:=h3 n hn
  rw [en,e] at this
  cases this
theorem ZqK {mask:Nat} {owner:Array (Option Nat)} (hs:owner.size=mask+1):∀ (fuel i p j:Nat),SetTable.layClean.free mask owner fuel i p=some j→i < mask+1→j < mask+1∧owner.getD j (some 0)=none
 | 0,i,p,j,h,hi=>by unfold SetTable.layClean.free at h;cases h
 | fuel+1,i,p,j,h,hi=>by
  unfold SetTable.layClean.free at h
  cases hf:(List.range (SetTable.runEnd mask i+1 - i)).find? fun k=>(owner.getD (i+k) (some 0)).isNone with
  | none =>
   rw [hf] at h
   exact ZqK hs fuel _ _ j h (Nat.mod_lt _ (by omega))
  | some k =>
   rw [hf] at h
   cases h
   have h1:=List.find?_some hf
   have h2:owner.getD (i+k) (some 0)=none:=by simpa using h1
   refine ⟨?_,h2⟩
   refine Nat.lt_of_not_le fun hge=>?_
   rw [Array.getD_eq_getD_getElem?,Array.getElem?_eq_none (by omega)] at h2
   cases h2
theorem ZkH {α:Type} (x:α):∀ {l:List (Option α)} {j:Nat},l[j]?=some none→((l.set j (some x)).filterMap id).Perm (x::l.filterMap id)
 | [],j,h=>by simp at h
 | a::l,0,h=>by
  simp only [List.getElem?_cons_zero,Option.some.injEq] at h
  subst h
  exact List.Perm.refl _
 | a::l,j+1,h=>by
  simp only [List.getElem?_cons_succ] at h
  rw [List.set_cons_succ]
  cases a with
  | none=>exact ZkH x h
  | some b =>
   show (b::(l.set j (some x)).filterMap id).Perm (x::b::l.filterMap id)
   exact ((ZkH x h).cons b).trans (List.Perm.swap x b _)
theorem ZlV:∀ {l:List (Option Nat)},(l.filterMap id).length < l.length→∃ j,j < l.length∧l[j]?=some none
 | [],h=>by simp at h
 | none::l,h=>⟨0,by simp,rfl⟩
 | some a::l,h=>by
  have h':(l.filterMap id).length+1 < l.length+1:=h
  obtain ⟨j,hj,e⟩:=ZlV (l:=l) (by omega)
  exact ⟨j+1,by simp;omega,by simpa using e⟩
structure Lay (M k:Nat) (owner:Array (Option Nat)):Prop where
 sz:owner.size=M
 pm:(owner.toList.filterMap id).Perm (List.range k)
theorem ZrE {mask k:Nat} {owner:Array (Option Nat)} (hc:cover (mask+1)=true) (L:Lay (mask+1) k owner) (hk:k < mask+1) (h:Int) :
  ∃ j,SetTable.layClean.free mask owner (SetTable.turns mask) (SetTable.bits h % (mask+1)) (SetTable.bits h)=some j∧Lay (mask+1) (k+1) (owner.setIfInBounds j (some k)):=by
 have hb:SetTable.bits h < 2 ^ 64:=by
  unfold SetTable.bits
  have:=Int.emod_lt_of_pos h (show (0:Int) < 2 ^ 64 by decide)
  have:=Int.emod_nonneg h (show (2 ^ 64:Int)≠0 by decide)
  omega
 have hl:(owner.toList.filterMap id).length=k:=by rw [L.pm.length_eq,List.length_range]
 obtain ⟨j,hj,e⟩:=ZlV (l:=owner.toList) (by rw [hl,Array.length_toList,L.sz];exact hk)
 have hj':j < mask+1:=by rw [Array.length_toList,L.sz] at hj;exact hj
 have hi:SetTable.bits h % (mask+1) < mask+1:=Nat.mod_lt _ (by omega)
 have hs:=Zuj (owner:=owner) (i:=SetTable.bits h % (mask+1)) hc hi hb ⟨j,hj',by
  rw [Array.getD_eq_getD_getElem?]
  rw [Array.getElem?_toList] at e
  rw [e];rfl⟩
 obtain ⟨j2,e2⟩:=Option.isSome_iff_exists.mp hs
 obtain ⟨h1,h2⟩:=ZqK L.sz _ _ _ _ e2 hi
 refine ⟨j2,e2,⟨by rw [Array.size_setIfInBounds];exact L.sz,?_⟩⟩
 have h3:owner.toList[j2]?=some none:=by
  rw [Array.getElem?_toList]
  rw [Array.getD_eq_getD_getElem?] at h2
  have h4:j2 < owner.size:=by rw [L.sz];exact h1
  rw [Array.getElem?_eq_getElem h4] at h2 ⊢
  exact congrArg some h2
 rw [Array.toList_setIfInBounds]
 refine (ZkH k h3).trans ?_
 rw [List.range_succ]
 exact ((L.pm.cons k).trans (List.perm_append_singleton k _).symm)
theorem ZpZ {mask:Nat} (hc:cover (mask+1)=true):∀ (hs:List Int) (k:Nat) (owner:Array (Option Nat)),Lay (mask+1) k owner→k+hs.length≤mask+1 →
  ∃ o',(hs.foldl (fun (acc:Option (Array (Option Nat)×Nat)) h=>do
   let (owner,k) ← acc
   let j ← SetTable.layClean.free mask owner (SetTable.turns mask) (SetTable.bits h % (mask+1)) (SetTable.bits h)
   pure (owner.setIfInBounds j (some k),k+1)) (some (owner,k)))=some (o',k+hs.length)∧Lay (mask+1) (k+hs.length) o'
 | [],k,owner,L,_=>⟨owner,rfl,L⟩
 | h::hs,k,owner,L,hk=>by
  simp only [List.length_cons] at hk
  obtain ⟨j,e,L2⟩:=ZrE hc L (by omega) h
  obtain ⟨o',e2,L3'⟩:=ZpZ hc hs (k+1) _ L2 (by omega)
  refine ⟨o',?_,by rw [List.length_cons,show k+(hs.length+1)=k+1+hs.length by omega];exact L3'⟩
  rw [List.foldl_cons]
  show hs.foldl _ (some (owner,k) >>= fun x=>_)=_
  rw [Option.bind_eq_bind,Option.bind_some]
  dsimp only
  rw [e]
  rw [Option.bind_eq_bind,Option.bind_some]
  rw [List.length_cons,show k+(hs.length+1)=k+1+hs.length by omega]
  exact e2
theorem ZuR (M:Nat):Lay M 0 (Array.replicate M none):=⟨by simp,by simp⟩
theorem ZrS {mask:Nat} (hc:cover (mask+1)=true) (hs:Array Int) (hn:hs.size≤mask+1):∃ o',SetTable.layClean mask hs=some o'∧Lay (mask+1) hs.size o':=by
 obtain ⟨o',e,L⟩:=ZpZ hc hs.toList 0 _ (ZuR (mask+1)) (by simpa using hn)
 refine ⟨o',?_,by simpa using L⟩
 unfold SetTable.layClean
 rw [← Array.foldl_toList]
 rw [e];rfl
theorem Znq {M:Nat} {owner:Array (Option Nat)} (h:owner.size=M):(((List.range M).filterMap fun j=>(owner.getD j none).map (j,·)).map (·.2))=owner.toList.filterMap id:=by
 have e:owner.toList=(List.range M).map fun j=>owner.getD j none:=by
  apply List.ext_getElem?
  intro i
  rw [List.getElem?_map,Array.getElem?_toList]
  by_cases hi:i < M
  ·have h2:i < owner.size:=by omega
   rw [List.getElem?_range hi,Array.getElem?_eq_getElem h2,Option.map_some,Array.getD_eq_getD_getElem?,Array.getElem?_eq_getElem h2];rfl
  ·rw [Array.getElem?_eq_none (by omega),List.getElem?_eq_none (by simp;omega)];rfl
 rw [e,List.filterMap_map,List.map_filterMap]
 congr 1
 funext j
 show Option.map (·.2) (Option.map (j,·) (owner.getD j none))=owner.getD j none
 cases owner.getD j none <;> rfl
theorem ZrG {M:Nat} {owner:Array (Option Nat)} (h:owner.size=M):((List.range M).filterMap fun j=>(owner.getD j none).map (j,·)).length=(owner.toList.filterMap id).length:=by
 rw [← Znq h,List.length_map]
theorem laid_ok {mask:Nat} (hc:cover (mask+1)=true) (f m:Nat) (l p:Bool) (hs:Array Int) (hn:hs.size≤mask+1) :
  ∃ t order,SetTable.laid mask f m l p hs=some (t,order)∧order.toList.Perm (List.range hs.size)∧t.mask=mask∧t.place.size=hs.size∧t.dummies=#[]∧t.led=l∧t.plain=p:=by
 obtain ⟨o',e,L⟩:=ZrS hc hs hn
 unfold SetTable.laid
 rw [e]
 refine ⟨_,_,rfl,?_,rfl,?_,rfl,rfl,rfl⟩
 ·rw [List.toList_toArray,Znq L.sz];exact L.pm
 ·rw [List.size_toArray,List.length_map,ZrG L.sz,L.pm.length_eq,List.length_range]
theorem order_perm {α:Type} (es:Array α) (order:Array Nat) (h:order.toList.Perm (List.range es.size)):(order.filterMap (es[·]?)).toList.Perm es.toList:=by
 rw [Array.toList_filterMap]
 refine (h.filterMap _).trans ?_
 rw [show (List.range es.size).filterMap (fun x=>es[x]?)=es.toList from ?_]
 have:∀ (l:List α),(List.range l.length).filterMap (fun x=>l[x]?)=l:=fun l=>by
  induction l with
  | nil=>rfl
  | cons a l ih =>
   rw [List.length_cons,List.range_succ_eq_map,List.filterMap_cons]
   simp only [List.getElem?_cons_zero,List.filterMap_map]
   congr 1
 have h2:=this es.toList
 rw [Array.length_toList] at h2
 simpa only [Array.getElem?_toList] using h2
end Tb
def bt (w:World):Bool:=w.params.followText "set-order"
structure Tab (w:World) (es:Array (Int×Value)) (t:SetTable) (ks:List Str):Prop where
 el:∀ e∈es.toList,∃ x u,e=(hashStr w x,Value.str x u)
 pm:(es.toList.map fun e=>strOf e.2).Perm ks
 nd:ks.Nodup
 ft:t.fits es.size=true
 ld:bt w=false→t.led=true
 pl:t.plain=true→ks=[]
def SS (w:World) (h:Heap) (a:Addr) (ks:List Str):Prop:=∃ o es ep t,h.get? a=some o∧o.ExactSet∧o.data=.set es ep t∧Tab w es t ks
namespace Tab
variable {w:World} {es es':Array (Int×Value)} {t t':SetTable} {ks ks':List Str}
theorem len (T:Tab w es t ks):es.size=ks.length:=by
 have:=T.pm.length_eq
 rw [List.length_map,Array.length_toList] at this
 exact this
theorem elems (prog:Program) (T:Tab w es t ks):ElemsOf (strKind prog w) es.toList:=fun e he=>by
 obtain ⟨x,u,rfl⟩:=T.el e he
 exact ⟨⟨x,by show Value.isStrOf x (.str x u)=true;simp [Value.isStrOf],rfl⟩,rfl⟩
theorem perm (T:Tab w es t ks) (p:es'.toList.Perm es.toList) (f:t'.fits es'.size=true) (l:bt w=false→t'.led=true) (q:t'.plain=true→ks=[]):Tab w es' t' ks :=
 ⟨fun e he=>T.el e (p.mem_iff.mp he),(p.map _).trans T.pm,T.nd,f,l,q⟩
theorem mem (T:Tab w es t ks) (k:Str):k∈ks↔∃ e∈es.toList,Value.isStrOf k e.2=true:=by
 rw [← T.pm.mem_iff,List.mem_map]
 constructor
 ·rintro ⟨e,he,rfl⟩
  obtain ⟨x,u,rfl⟩:=T.el e he
  exact ⟨_,he,by show Value.isStrOf x (.str x u)=true;simp [Value.isStrOf]⟩
 ·rintro ⟨e,he,h⟩
  obtain ⟨x,u,rfl⟩:=T.el e he
  refine ⟨_,he,?_⟩
  obtain ⟨t,e2⟩:=Value.isStrOf_shape h
  injection e2
end Tab
theorem ZmV (t:SetTable) (n:Nat):(t.orStandIn n).led=t.led:=by
 unfold SetTable.orStandIn
 split <;> rfl
theorem Zvu (t:SetTable) (es:Array (Int×Value)) (h:Int) (x:Value):(layNew t es h x).2.1.led=t.led:=by
 unfold layNew
 split
 ·exact ZmV _ _
 ·rfl
theorem ZpJ (t:SetTable) (es:Array (Int×Value)) (n:Nat):(relayAll t es n).2.1.led=t.led∧((relayAll t es n).2.1.plain=true→t.plain=true):=by
 unfold relayAll
 split
 ·rename_i t' order e
  dsimp only
  split
  ·unfold SetTable.relaid SetTable.laid at e
   simp only [Option.bind_eq_bind,Option.bind_eq_some_iff] at e
   obtain ⟨o,_,e⟩:=e
   cases e
   exact ⟨rfl,id⟩
  ·exact ⟨rfl,fun h=>by cases h⟩
 ·exact ⟨rfl,fun h=>by cases h⟩
section
variable {prog:Program} {w:World} {A:Around} {E:Value→Shared→Prop} {s:Shared}
theorem Zfi {h:Heap} {a:Addr} {o:Obj} {es es':Array (Int×Value)} {ep:Nat} {t t':SetTable} {ks:List Str} (ho:h.get? a=some o) (hx:o.ExactSet) (hd:o.data=.set es ep t) (T:Tab w es' t' ks) :
  (h.update a (Obj.putSet es' t')).get? a=some { o with data:=.set es' (ep+1) t' }∧SS w (h.update a (Obj.putSet es' t')) a ks:=by
 have hg:(h.update a (Obj.putSet es' t')).get? a=some { o with data:=.set es' (ep+1) t' }:=by
  have hz:=Heap.get?_update_self (Obj.putSet es' t') ho (by rw [putSet_of es' t' hd];rfl)
  rw [putSet_of es' t' hd] at hz
  exact hz
 exact ⟨hg,_,es',ep+1,t',hg,hx,rfl,T⟩
theorem Zt9 {es es1:Array (Int×Value)} {t t1:SetTable} {ks:List Str} {k:Str} {u:Tok} (T:Tab w es t ks) (hk:k∉ks) (p:es1.toList.Perm (es.toList++[(hashStr w k,Value.str k u)])) (f:t1.fits es1.size=true) (l:t1.led=t.led) (q:t1.plain=false):Tab w es1 t1 (k::ks):=by
 refine ⟨fun e he=>?_,?_,List.nodup_cons.mpr ⟨hk,T.nd⟩,f,fun h=>by rw [l];exact T.ld h,fun h=>by rw [q] at h;cases h⟩
 ·rcases List.mem_append.mp (p.mem_iff.mp he) with he | he
  ·exact T.el e he
  ·exact ⟨k,u,List.mem_singleton.mp he⟩
 ·refine (p.map _).trans ?_
  rw [List.map_append]
  exact (List.perm_append_singleton k _).trans (T.pm.cons k)
theorem Zpy {a:Addr} {ks:List Str} {k:Str} {u:Tok} {Q:Bool→Shared→Prop} (hS:SS w s.heap a ks) (hn:ks.length+1 < scanBound)
  (h:∀ h' b,Heap.SameBut a s.heap h'→SS w h' a (if k∈ks then ks else k::ks)→Q b { s with heap:=h' }):wpAny (model prog w) A (setAddHashed a (.str k u) (hashStr w k)) Q E s:=by
 obtain ⟨o,es,ep,t,ho,hx,hd,T⟩:=hS
 have hel:=T.elems prog
 have hkey:(strKind prog w).is k (.str k u)=true:=by show Value.isStrOf k (.str k u)=true;simp [Value.isStrOf]
 have hsc:(Value.str k u).scannable=true:=rfl
 have hsz:=T.len
 have hb:es.size < scanBound:=by omega
 unfold setAddHashed setAddHashedIn
 refine wpAny_holding (wpAny_bind (wpAny_setState_of ho hd T.ft ?_))
 dsimp only
 rw [byScan_of hsc hb hel,if_pos rfl]
 refine wpAny_bind ?_
 unfold setAddByScan
 refine wpAny_bind (wpAny_rule ?_)
 refine wpAny_bind (wpAny_setScan_of (knd:=strKind prog w) hkey ho hd T.ft hel ?_)
 have hgave:∀ (b:Bool) {s₁:Shared} {Q':Unit→Shared→Prop},Q' () s₁→wpAny (model prog w) A (match b with | true=>rule "set.scan.the-table-gave-way" | false=>pure ()) Q' E s₁:=fun b s₁ Q' z=>by
  cases b
  ·exact wpAny_pure z
  ·exact wpAny_rule z
 cases hr:List.findIdx? (fun e=>(strKind prog w).is k e.2) es.toList with
 | some j =>
  obtain ⟨hj,hpj,_⟩:=List.findIdx?_eq_some_iff_getElem.mp hr
  have hin:k∈ks:=(T.mem k).mpr ⟨_,List.getElem_mem hj,hpj⟩
  have hz:=h s.heap false (Heap.SameBut.refl a s.heap) (by rw [if_pos hin];exact ⟨o,es,ep,t,ho,hx,hd,T⟩)
  exact wpAny_pure (wpAny_pure hz)
 | none =>
  have hout:k∉ks:=fun hin=>by
   obtain ⟨e,he,hp⟩:=(T.mem k).mp hin
   have hz:=List.findIdx?_eq_none_iff.mp hr e he
   exact Bool.noConfusion (hz.symm.trans hp)
  have hperm:=layNew_perm t es (hashStr w k) (.str k u)
  have hfits:=layNew_fits t es (hashStr w k) (.str k u)
  have hled:=Zvu t es (hashStr w k) (.str k u)
  rw [if_neg hout] at h
  dsimp only
  show wpAny (model prog w) A _ _ E s
  have hhash:(strKind prog w).hash k=hashStr w k:=rfl
  revert hperm hfits hled
  generalize layNew t es (hashStr w k) (.str k u)=L
  obtain ⟨es1,t1,dm,gv⟩:=L
  intro hperm hfits hled
  dsimp only at hperm hfits hled ⊢
  rw [Array.toList_push] at hperm
  refine wpAny_bind (hgave _ ?_)
  have hz1:es1.size=es.size+1:=by rw [← Array.length_toList,hperm.length_eq,List.length_append,Array.length_toList];rfl
  have fin:∀ t2:SetTable,t2.fits es1.size=true→t2.led=t.led→t2.plain=false→wpAny (model prog w) A (do
    storeSet a es1 t2
    if (!dm&&t2.tooFull)=true then do
      (match (relayAll t2 es1 (SetTable.grown es1.size)).2.2 with | true=>rule "set.scan.the-table-gave-way" | false=>pure ())
      storeSet a (relayAll t2 es1 (SetTable.grown es1.size)).1 (relayAll t2 es1 (SetTable.grown es1.size)).2.1
      pure (some true)
     else pure (some true)) (fun r s'=>wpAny (model prog w) A (match r with | some added=>pure added | none=>setAddHashedIn a (.str k u) (hashStr w k) 99999) Q E s') E s:=fun t2 f2 l2 p2=>by
   have T2:Tab w es1 t2 (k::ks):=Zt9 T hout hperm f2 l2 p2
   refine wpAny_bind (wpAny_storeSet_of ho hd ?_ (fits_of_scanBound (by omega)))
   obtain ⟨ho1,hS1⟩:=Zfi ho hx hd T2
   have b1:=Heap.SameBut.update s.heap a (Obj.putSet es1 t2)
   split
   ·have hp:=relayAll_perm t2 es1 (SetTable.grown es1.size)
    have hf:=relayAll_fits t2 es1 (SetTable.grown es1.size)
    have hg:=ZpJ t2 es1 (SetTable.grown es1.size)
    have T3:=T2.perm hp hf (fun z=>by rw [hg.1,l2];exact T.ld z) (fun z=>by rw [hg.2 z] at p2;cases p2)
    refine wpAny_bind (hgave _ ?_)
    refine wpAny_bind (wpAny_storeSet_of ho1 rfl ?_ (fits_of_scanBound (by rw [T3.len,← T2.len];omega)))
    obtain ⟨_,hS2⟩:=Zfi ho1 hx rfl T3
    exact wpAny_pure (wpAny_pure (h _ _ (b1.trans (Heap.SameBut.update _ a _)) hS2))
   ·exact wpAny_pure (wpAny_pure (h _ _ b1 hS1))
  split
  ·refine wpAny_bind ?_
   rw [hashByValue_scannable 8 hsc]
   refine wpAny_pure ?_
   exact fin _ (SetTable.fits_plain_off hfits) hled rfl
  ·rename_i hpl
   refine wpAny_bind (wpAny_pure ?_)
   exact fin _ hfits hled (by simpa using hpl)
end
section
variable {prog:Program} {w:World} {A:Around} {E:Value→Shared→Prop} {s:Shared}
theorem SS.kept {h h':Heap} {a:Addr} {ks:List Str} (S:SS w h a ks) (k:∀ o,h.get? a=some o→h'.get? a=some o):SS w h' a ks:=by
 obtain ⟨o,es,ep,t,ho,r⟩:=S
 exact ⟨o,es,ep,t,k o ho,r⟩
theorem SS.nd {h:Heap} {a:Addr} {ks:List Str} (S:SS w h a ks):ks.Nodup:=by
 obtain ⟨o,es,ep,t,ho,_,_,T⟩:=S
 exact T.nd
theorem ZkQ {h:Heap} {a:Addr} (led:Bool) (hl:bt w=false→led=true) (ho:h.get? a=some { cls:=.type "set",dict:=none,data:=.set #[] 0 (.fresh 0 0 led) }):SS w h a [] :=
 ⟨_,#[],0,_,ho,⟨rfl,rfl,rfl⟩,rfl,⟨fun e he=>by simp at he,List.Perm.refl _,List.nodup_nil,rfl,hl,fun _=>rfl⟩⟩
theorem ZuQ {R:Result→Shared→Prop} {I:Addr} {fp wr:List Addr} {G:Array GenState→Array GenState→Prop} {n:Nat} {P:Nat→Value→Prop} {St:Nat→Shared→Prop} (W:WalksS prog w A.in1 I fp wr G n P St) {S:Addr} (hSf:S∉fp)
  {val:Nat→Str} (hval:∀ i v,P i v→∃ t,v=.str (val i) t):∀ (k i:Nat) (s:Shared) (ks:List Str),n - i=k→i≤n→St i s→SS w s.heap S ks→ks.length+k < scanBound →
   (∀ s' ks',Moved (S::wr) G s s'→SS w s'.heap S ks'→(∀ x,x∈ks'↔x∈ks∨∃ j,i≤j∧j < n∧val j=x)→R (.ok (.ret .none)) s') →
   codeAny (model prog w) A (.builtin "set.update.loop" ⟨[.ref S,.ref I],[]⟩) R s:=by
 have hSw:S∉wr:=fun z=>hSf (W.sub _ z)
 have hsub:∀ b∈wr,b∈S::wr:=fun b z=>List.mem_cons_of_mem _ z
 intro k
 induction k with
 | zero =>
  intro i s ks hk hi hst hS _ hR
  obtain rfl:i=n:=by omega
  refine codeAny_builtin PyProof.Rows.F.entry_set_update_loop ?_
  rw [Around.under_plainId PyProof.Rows.F.plain_set_update_loop _]
  refine wpAny_bind (m:=pyNext (.ref I)) (W.done s _ _ hst fun s' hm=>?_)
  refine wpAny_pure (hR s' ks (hm.mono hsub) (hS.kept fun o e=>hm.heap S o hSw e) fun x=>⟨.inl,?_⟩)
  rintro (h | ⟨j,h1,h2,_⟩)
  ·exact h
  ·omega
 | succ k ih =>
  intro i s ks hk hi hst hS hn hR
  have hlt:i < n:=by omega
  refine codeAny_builtin PyProof.Rows.F.entry_set_update_loop ?_
  rw [Around.under_plainId PyProof.Rows.F.plain_set_update_loop _]
  refine wpAny_bind (m:=pyNext (.ref I)) (W.item i s _ _ hlt hst fun v s1 hP hst1 hm=>?_)
  obtain ⟨t,rfl⟩:=hval i v hP
  have hS1:SS w s1.heap S ks:=hS.kept fun o e=>hm.heap S o hSw e
  refine wpAny_bind (m:=holding [Value.str (val i) t] (setAdd S (.str (val i) t))) (wpAny_holding ?_)
  unfold setAdd
  refine wpAny_holding (wpAny_bind ((strKind prog w).pyHash (k:=val i) (by show Value.isStrOf (val i) (.str (val i) t)=true;simp [Value.isStrOf]) ?_))
  refine Zpy (s:={ s1 with toks:=s1.toks+1 }) hS1 (by omega) fun h' b hsb hS2=>?_
  refine wpAny_pure ⟨plainId_quiet PyProof.Rows.F.plain_set_update_loop _,ih (i+1) _ _ (by omega) hlt (W.frame _ s1 _ _ hst1 (Nat.le_succ _) fun c hc o e=>?_) hS2 ?_ fun s2 ks' hm2 hS3 hx=>?_⟩
  ·rw [hsb.2 c fun z:c=S=>hSf (by rw [← z];exact hc)];exact e
  ·split
   ·omega
   ·rw [List.length_cons];omega
  ·refine hR s2 ks' (Moved.trans W.gtrans ((hm.mono hsub).then_heap (Nat.le_succ _) fun c o hc e=>?_) hm2) hS3 fun x=>(hx x).trans ?_
   ·rw [hsb.2 c fun z:c=S=>hc (by rw [z];exact List.mem_cons_self)];exact e
   ·have hmem:x∈(if val i∈ks then ks else val i::ks)↔x∈ks∨val i=x:=by
     split
     ·rename_i hin
      exact ⟨.inl,fun z=>z.elim id fun e=>e▸hin⟩
     ·rw [List.mem_cons]
      exact ⟨fun z=>z.elim (fun e=>.inr e.symm) .inl,fun z=>z.elim .inr fun e=>.inl e.symm⟩
    rw [hmem]
    constructor
    ·rintro ((h | h) | ⟨j,h1,h2,h3⟩)
     ·exact .inl h
     ·exact .inr ⟨i,Nat.le_refl _,hlt,h⟩
     ·exact .inr ⟨j,by omega,h2,h3⟩
    ·rintro (h | ⟨j,h1,h2,h3⟩)
     ·exact .inl (.inl h)
     ·by_cases e:j=i
      ·subst e;exact .inl (.inr h3)
      ·exact .inr ⟨j,by omega,h2,h3⟩
end
abbrev ZaI (led:Bool):Obj:={ cls:=.type "set",dict:=none,data:=.set #[] 0 (.fresh 0 0 led) }
section
variable {prog:Program} {w:World} {A:Around} {E:Value→Shared→Prop} {s:Shared}
theorem ZvM {Q:Value→Shared→Prop} (h:∀ led:Bool,(bt w=false→led=true)→Q (.ref s.heap.objs.size) { s with heap:=s.heap.push (ZaI led) }):wpAny (model prog w) A (newSet (.type "set")) Q E s:=by
 unfold newSet setsByText
 walk_at "pb"
 simp only [newObj]
 refine wpAny_bind (wpAny_alloc (wpAny_pure (h _ fun z=>?_)))
 show (!(bt w))=true
 rw [z];rfl
theorem Zm9 (a:Value) {Q:Value→Shared→Prop} (h:∀ led:Bool,(bt w=false→led=true)→Q (.ref s.heap.objs.size) { s with heap:=s.heap.push (ZaI led) }) :
  codeAny (model prog w) A (.call (.builtin "set.__new__") ⟨[.type "set",a],[]⟩) (wants Q E) s:=by
 refine codeAny_of_tree (?_:wpAny _ A.in1 (do checkBuiltinCall "set.__new__" ⟨[.type "set",a],[]⟩;again (.builtin "set.__new__" ⟨[.type "set",a],[]⟩)) _ _ s)
 refine wpAny_bind (wpAny_of_eq (PySem.F.newCall_set_1 a) (wpAny_pure ⟨plainId_quiet PySem.F.plain_set_new _,codeAny_builtin PySem.F.entry_set_new ?_⟩))
 rw [Around.under_plainId PySem.F.plain_set_new _];unfold Builtin.«set.__new__» Builtin.Frozenset.newClass
 have hq:=sub_set_self
 obtain ⟨hp,g,d,tk,os⟩:=s
 dsimp only
 wp_walk
 refine wpAny_askSetting (wpAny_pure ?_)
 simp only [newObj]
 refine wpAny_bind (wpAny_alloc (wpAny_pure (wpAny_pure (h _ fun z=>?_))))
 show (!(bt w))=true
 rw [z];rfl
theorem Zq0:∀ {vs:List Value} {xs:List Str},StrsAre vs xs→∀ (i:Nat) (v:Value),vs[i]?=some v→∃ t,v=.str (xs.getD i (Str.ofString "")) t
 | _,_,.nil,i,v,h=>by simp at h
 | _,_,.cons x t r,0,v,h=>⟨t,by simp at h;exact h.symm⟩
 | _,_,.cons x t r,i+1,v,h=>Zq0 r i v (by simpa using h)
set_option maxHeartbeats 3200000 in
theorem Znk {l:Addr} {items:Array Value} {xs:List Str} {Q:Value→Shared→Prop} (hh:A.handled=none) (hl:s.heap.IsList l items) (hi:StrsAre items.toList xs) (hb:items.size < scanBound)
  (h:∀ (h':Heap) (tk:Nat) (ks:List Str),SS w h' s.heap.objs.size ks→(∀ x,x∈ks↔x∈xs)→(∀ b o,b < s.heap.objs.size→s.heap.get? b=some o→h'.get? b=some o)→Q (.ref s.heap.objs.size) { s with heap:=h',toks:=tk }) :
  wpAny (model prog w) A (call (.type "set") [.ref l]) Q E s:=by
 obtain ⟨c,tl,hmro⟩:=PySem.F.called_set.mro
 have hmade:=PySem.F.called_set.made
 have hsub:=PySem.F.called_set.sub
 refine wpAny_call (codeAny_of_tree (?_:wpAny _ _ (callAny (.type "set") _) _ _ _))
 refine wpAny_pure ⟨Code.quiet_builtin _ (by decide +kernel),codeAny_builtin PySem.F.entry_type_call ?_⟩
 rw [Around.under_plain (weight_type_call_type "set" [.ref l] []) rfl]
 have h1:=PySem.F.called_set.notType
 have h2:=PySem.F.called_set.canCreate
 have hct:=PySem.F.typeCall_set_1 (.ref l)
 (repeat (any_goals (first | assumption | wp_step)))
 refine codeAny_mono (Zm9 (.ref l) (E:=E) (Q:=fun obj s₁=>∃ led:Bool,(bt w=false→led=true)∧obj=.ref s.heap.objs.size∧s₁={ s with heap:=s.heap.push (ZaI led) }) fun led z=>⟨led,z,rfl,rfl⟩) fun r s₁ hr=>?_
 match r,hr with
 | .error e,hr=>exact hr
 | .ok .next,hr=>exact hr.elim
 | .ok .brk,hr=>exact hr.elim
 | .ok .cont,hr=>exact hr.elim
 | .ok (.ret obj),hr =>
  obtain ⟨led,hled,rfl,rfl⟩:=hr
  have hS:(s.heap.push (ZaI led)).get? s.heap.objs.size=some (ZaI led):=Heap.get?_push_size _ rfl
  have hT:Shared.TypeIs { s with heap:=s.heap.push (ZaI led) } (.ref s.heap.objs.size) "set":=⟨_,hS,rfl⟩
  have hli:=PySem.F.called_set.init.lookup
  have hbi:=PySem.F.called_set.init.bind (.ref s.heap.objs.size)
  (repeat (any_goals (first | assumption | wp_step)))
  refine codeAny_mono (codeAny_call_builtin (R:=wants (fun r s₂=>r=.none∧∃ h' tk ks,s₂={ s with heap:=h',toks:=tk }∧SS w h' s.heap.objs.size ks∧(∀ x,x∈ks↔x∈xs)∧(∀ b o,b < s.heap.objs.size→s.heap.get? b=some o→h'.get? b=some o)) E) PySem.F.called_set.init.plain PySem.F.entry_set_init (check_set_init_1 hT ?_)) fun r₂ s₂ hr₂=>?_
  ·obtain ⟨ol,hol,hcl,nl,hdl⟩:=hl
   obtain ⟨ocls,odict,odata,oslots⟩:=ol
   simp only at hcl hdl
   subst hcl hdl
   have hol':(s.heap.push (ZaI led)).get? l=some { cls:=.type "list",dict:=odict,data:=.seq items nl,slots:=oslots }:=Heap.get?_push_of_some _ hol
   have hs1:=PySem.F.sub_list_set
   have hs2:=PySem.F.sub_list_frozenset
   have hne:(Value.type "list"==Value.type "dict")=false:=by decide
   have hl1:(s.heap.push (ZaI led)).IsList l items:=⟨_,hol',rfl,nl,rfl⟩
   unfold Builtin.«set.__init__» noKeywords Builtin.Frozenset.updateFrom
   generalize hPI:pyIter=PI
   wp_walk
   subst hPI
   refine wpAny_pyIter_list hl1 (wpAny_bind (wpAny_runValue ?_))
   have hlS:l < s.heap.objs.size:=Heap.lt_size hol
   have hneI:l≠(s.heap.push (ZaI led)).objs.size:=by rw [Heap.size_push];exact Nat.ne_of_lt (Nat.lt_succ_of_lt hlS)
   have hSf:s.heap.objs.size∉[(s.heap.push (ZaI led)).objs.size,l]:=by
    rw [Heap.size_push]
    walk_at "pd"
    exact ⟨Nat.ne_of_lt (Nat.lt_succ_self _),Nat.ne_of_gt hlS⟩
   have hval:∀ (i:Nat) (v:Value),items[i]?=some v→∃ t,v=.str (xs.getD i (Str.ofString "")) t:=fun i v hv=>Zq0 hi i v (by rw [Array.getElem?_toList];exact hv)
   have hxl:items.size=xs.length:=by rw [← Array.length_toList];exact hi.length
   refine ZuQ ((Walks.list (by simp [hh]) _ l hneI items).toS) hSf hval (items.size - 0) 0 _ [] (by omega) (Nat.zero_le _) ⟨⟨_,Heap.get?_push_size _ rfl,rfl,rfl⟩,hl1.push _⟩ ?_ (by simp only [List.length_nil];omega) ?_
   ·exact ZkQ led hled (Heap.get?_push_of_some _ hS)
   ·intro s' ks hm hS' hx
    obtain ⟨h',g',d',tk',os'⟩:=s'
    obtain rfl:g'=s.gens:=hm.gens
    obtain rfl:d'=s.drawn:=hm.drawn
    obtain rfl:os'=s.os:=hm.os
    refine wpAny_pure (wpAny_pure ⟨rfl,h',tk',ks,rfl,hS',fun x=>(hx x).trans ?_,fun b o hb e=>?_⟩)
    ·constructor
     ·rintro (z | ⟨j,_,hj,e⟩)
      ·cases z
      ·rw [← e]
       rw [List.getD_eq_getElem?_getD,List.getElem?_eq_getElem (by omega)]
       exact List.getElem_mem _
     ·intro hx
      obtain ⟨j,hj,e⟩:=List.getElem_of_mem hx
      refine .inr ⟨j,Nat.zero_le _,by omega,?_⟩
      rw [List.getD_eq_getElem?_getD,List.getElem?_eq_getElem hj]
      exact e
    ·refine hm.heap b o ?_ (Heap.get?_push_of_some _ (Heap.get?_push_of_some _ e))
     walk_at "pd"
     rw [Heap.size_push]
     exact ⟨Nat.ne_of_lt hb,Nat.ne_of_lt (Nat.lt_succ_of_lt hb)⟩
  ·match r₂,hr₂ with
   | .error e,hr₂=>exact hr₂
   | .ok .next,hr₂=>exact hr₂.elim
   | .ok .brk,hr₂=>exact hr₂.elim
   | .ok .cont,hr₂=>exact hr₂.elim
   | .ok (.ret r),hr₂ =>
    obtain ⟨rfl,h',tk,ks,rfl,hS',hx,hk'⟩:=hr₂
    (repeat (any_goals (first | assumption | wp_step)))
    exact h _ _ _ hS' hx hk'
end
section
variable {prog:Program} {w:World} {A:Around} {E:Value→Shared→Prop} {s:Shared}
theorem ZvW:typeLookup (.type "list") "keys"=pure none:=by rw [typeLookup_type,builtinLookup_eq_fast];kernel_rfl
set_option maxRecDepth 8000 in
theorem Zpd {a:Addr} {xs:Array Value} {k:Nat} {sl:Array (Option Value)} {Q:Option Value→Shared→Prop} (hx:s.heap.get? a=some { cls:=.type "list",dict:=none,data:=.seq xs k,slots:=sl }) (hA:A.handled=none)
  (h:∀ h' tk,(∀ b o,s.heap.get? b=some o→h'.get? b=some o)→Q none { s with heap:=h',toks:=tk }):wpAny (model prog w) A (getAttr? (.ref a) "keys") Q E s:=by
 obtain ⟨hp,g,d,tk,os⟩:=s
 have hT:∀ tk',(⟨hp,g,d,tk',os⟩:Shared).TypeIs (.ref a) "list":=fun _=>⟨_,hx,rfl⟩
 have f1:=sub_AttributeError
 have f3:=F.slot_list_getattribute.lookup
 have f4:=F.slot_list_getattribute.bind (.ref a)
 have f5:=am_list_getattr_none
 unfold getAttr? getAttrBy? getAttrBy
 repeat (any_goals (first | assumption | exact hT _ | ((with_reducible show wpAny _ _ (call (Value.builtin "list.__getattribute__") _ _) _ _ _);refine call_meets F.slot_list_getattribute (hT _) am_entry_list_getattribute (F.args_list_getattribute_2 _ _) (meets_getattribute_miss_list a xs k sl "keys" _ ZvW (by decide +kernel) (by decide)) ⟨hx,hA,fun h' tk' e hx'=>?_⟩) | wp_step))
 obtain ⟨t',u',he⟩:=hx'.there
 have hT2:∀ tk',(⟨h',g,d,tk',os⟩:Shared).TypeIs (.ref e) "AttributeError":=fun _=>⟨_,he,rfl⟩
 show wpAny _ _ (getattributeRaised _ _ _ _ _ _ _) _ _ _
 unfold getattributeRaised
 repeat (any_goals (first | assumption | exact hT2 _ | wp_step))
 exact h _ _ hx'.of.keeps
end
theorem ZeU:entryFor table "dict.update.loop"=some Builtin.«dict.update.loop»:=entryFor_of_tree (by kernel_rfl)
theorem ZbP:plainId "dict.update.loop"=true:=by decide +kernel
section
variable {prog:Program} {w:World} {A:Around} {E:Value→Shared→Prop} {s:Shared}
theorem Zui {S p:Addr} {x:Str} {t:Tok} {v:Value} {kvs:List (Key×Value)} {i:Int} {Q:Unit→Shared→Prop} (hp:s.heap.IsTuple p #[.str x t,v]) (hS:s.heap.DictOf (ZaC prog w) S kvs) (hn:kvs.length≤sizeLine)
  (h:∀ h',h'.DictOf (ZaC prog w) S (stored kvs (.inr x) v)→Heap.SameBut S s.heap h'→Q () { s with heap:=h',toks:=s.toks+1 }) :
  wpAny (model prog w) A (holding [Value.ref p] do
   let pair ← (Builtin.Dict.pairItems (.ref p)).tryCatch fun e=>do
    if !(← isInstance e (.type "TypeError")) then throw e
    rule "dict.update.element-no-sequence"
    raiseError "TypeError" s!"cannot convert dictionary update sequence element #{i} to a sequence"
   match pair with
   | [k,v]=>holding [k,v] (dictSet S k v)
   | l =>
    rule "dict.update.element-length"
    raiseError "ValueError" s!"dictionary update sequence element #{i} has length {l.length}; 2 is required") Q E s:=by
 refine wpAny_holding ?_
 have hT:s.TypeIs (.ref p) "tuple":=hp.typeIs
 have hk:wpAny (model prog w) A (Builtin.Dict.pairItems (.ref p)) (fun r s'=>r=[Value.str x t,v]∧s'=s) (fun _ _=>False) s:=by
  obtain ⟨o,ho,hc,n,hd⟩:=hp
  unfold Builtin.Dict.pairItems
  refine wpAny_bind (wpAny_typeOf hT ?_)
  rw [if_pos (by decide)]
  refine wpAny_bind (wpAny_seqItems ho hd ?_)
  exact wpAny_pure ⟨rfl,rfl⟩
 refine wpAny_bind (wpAny_tryCatch (wpAny_mono hk ?_ fun _ _ z=>z.elim))
 rintro r s' ⟨rfl,rfl⟩
 refine wpAny_holding ?_
 exact wpAny_dictSet_pairs (knd:=ZaC prog w) (k:=.inr x) (by simp [ZaC,ZkE,Value.isStrOf]) hS h hn
theorem ZlO {R:Result→Shared→Prop} {I:Addr} {fp wr:List Addr} {G:Array GenState→Array GenState→Prop} {n:Nat} {P:Nat→Value→Prop} {St:Nat→Shared→Prop} (W:WalksS prog w A.in1 I fp wr G n P St) {S:Addr} (hSf:S∉fp)
  {ps:List (Str×Value)} (hps:ps.length=n):∀ (k i:Nat) (s:Shared) (u:Tok) (kvs:List (Key×Value)),n - i=k→i≤n→St i s→s.heap.DictOf (ZaC prog w) S kvs→kvs.length+k≤sizeLine →
   (∀ j v,i≤j→j < n→P j v→∃ p t y,v=.ref p∧p∉S::wr∧ps[j]?=some y∧s.heap.IsTuple p #[.str y.1 t,y.2]) →
   (∀ s',Moved (S::wr) G s s'→s'.heap.DictOf (ZaC prog w) S (merged kvs ((ps.drop i).map fun y=>(Sum.inr y.1,y.2)))→R (.ok (.ret .none)) s') →
   codeAny (model prog w) A (.builtin "dict.update.loop" ⟨[.ref S,.ref I,.int i u,.none],[]⟩) R s:=by
 have hSw:S∉wr:=fun z=>hSf (W.sub _ z)
 have hsub:∀ b∈wr,b∈S::wr:=fun b z=>List.mem_cons_of_mem _ z
 intro k
 induction k with
 | zero =>
  intro i s u kvs hk hi hst hS _ _ hR
  obtain rfl:i=n:=by omega
  refine codeAny_builtin ZeU ?_
  rw [Around.under_plainId ZbP _]
  refine wpAny_bind (m:=pyNext (.ref I)) (W.done s _ _ hst fun s' hm=>?_)
  refine wpAny_bind (wpAny_pure (wpAny_pure (hR s' (hm.mono hsub) ?_)))
  rw [List.drop_eq_nil_of_le (by omega)]
  obtain ⟨o,es,ep,ho,r⟩:=hS
  exact ⟨o,es,ep,hm.heap S o hSw ho,r⟩
 | succ k ih =>
  intro i s u kvs hk hi hst hS hn hP hR
  have hlt:i < n:=by omega
  refine codeAny_builtin ZeU ?_
  rw [Around.under_plainId ZbP _]
  refine wpAny_bind (m:=pyNext (.ref I)) (W.item i s _ _ hlt hst fun v s1 hPv hst1 hm=>?_)
  obtain ⟨p,t,y,rfl,hpn,hy,htup⟩:=hP i v (Nat.le_refl _) hlt hPv
  have hS1:s1.heap.DictOf (ZaC prog w) S kvs:=by
   obtain ⟨o,es,ep,ho,r⟩:=hS
   exact ⟨o,es,ep,hm.heap S o hSw ho,r⟩
  have htup1:s1.heap.IsTuple p #[.str y.1 t,y.2]:=htup.at fun o e=>hm.heap p o (fun z=>hpn (hsub _ z)) e
  refine wpAny_bind (Zui (i:=i) htup1 hS1 (by omega) fun h' hS2 hsb=>?_)
  have hdrop:ps.drop i=y::ps.drop (i+1):=by
   rw [List.drop_eq_getElem_cons (by omega)]
   rw [List.getElem?_eq_getElem (by omega)] at hy
   rw [Option.some.inj hy]
  refine wpAny_pure ⟨plainId_quiet ZbP _,ih (i+1) _ _ (stored kvs (.inr y.1) y.2) (by omega) hlt (W.frame _ s1 _ _ hst1 (Nat.le_succ _) fun c hc o e=>?_) hS2 ?_ (fun j v h1 h2 hv=>?_) fun s2 hm2 hS3=>?_⟩
  ·rw [hsb.2 c fun z:c=S=>hSf (by rw [← z];exact hc)];exact e
  ·have:=merged_length_le kvs [((Sum.inr y.1:Key),y.2)]
   have e:merged kvs [((Sum.inr y.1:Key),y.2)]=stored kvs (.inr y.1) y.2:=rfl
   rw [e] at this
   simp only [List.length_cons,List.length_nil] at this
   omega
  ·obtain ⟨p',t',y',e1,e2,e3,e4⟩:=hP j v (by omega) h2 hv
   refine ⟨p',t',y',e1,e2,e3,(e4.at fun o e=>hm.heap p' o (fun z=>e2 (hsub _ z)) e).at fun o e=>?_⟩
   rw [hsb.2 p' fun z:p'=S=>e2 (by rw [z];exact List.mem_cons_self)];exact e
  ·refine hR s2 (Moved.trans W.gtrans ((hm.mono hsub).then_heap (Nat.le_succ _) fun c o hc e=>?_) hm2) ?_
   ·rw [hsb.2 c fun z:c=S=>hc (by rw [z];exact List.mem_cons_self)];exact e
   ·rw [hdrop];exact hS3
end
section
variable {prog:Program} {w:World} {A:Around} {E:Value→Shared→Prop} {s:Shared}
theorem Zob {l:Addr} {items:Array Value} {n:Nat} {sl:Array (Option Value)} {ps:List (Str×Value)} {Q:Value→Shared→Prop} (hh:A.handled=none) (hl:s.heap.get? l=some { cls:=.type "list",dict:=none,data:=.seq items n,slots:=sl })
  (hit:∀ (j:Nat) (v:Value),items[j]?=some v→∃ p t y,v=.ref p∧ps[j]?=some y∧s.heap.IsTuple p #[.str y.1 t,y.2]) (hps:ps.length=items.size) (hsz:ps.length≤sizeLine) (hn:(ps.map (·.1)).Nodup)
  (h:∀ h' tk,h'.DictOf (ZaC prog w) s.heap.objs.size (ps.map fun y=>(Sum.inr y.1,y.2))→(∀ b o,b < s.heap.objs.size→s.heap.get? b=some o→h'.get? b=some o)→Q (.ref s.heap.objs.size) { s with heap:=h',toks:=tk }) :
  wpAny (model prog w) A (call (.type "dict") [.ref l]) Q E s:=by
 refine callType_codes (Q₁:=fun obj s₁=>obj=.ref s.heap.objs.size∧s₁={ s with heap:=s.heap.push { cls:=.type "dict",data:=.dict #[] } }) F.kt_called_dict (F.kt_typeCall_dict_1 _) F.entry_dict_init (kt_code_dict_new _ ⟨rfl,rfl⟩) ?_
 rintro obj s₁ ⟨rfl,rfl⟩
 have hnew:(s.heap.push { cls:=.type "dict",data:=.dict #[] }).DictOf (ZaC prog w) s.heap.objs.size []:=Heap.DictOf.new s.heap
 have hl1:(s.heap.push { cls:=.type "dict",data:=.dict #[] }).get? l=some { cls:=.type "list",dict:=none,data:=.seq items n,slots:=sl }:=Heap.get?_push_of_some _ hl
 refine ⟨hnew.typeIs,F.args_dict_init_2 _ _,?_⟩
 unfold Builtin.«dict.__init__»
 refine wpAny_bind ?_
 unfold Builtin.Dict.selfAndRest
 refine wpAny_bind (wpAny_notOrdered_dict hnew.typeIs ?_)
 show wpAny _ _ (pure (s.heap.objs.size,[Value.ref l])) _ _ _
 refine wpAny_pure ?_
 show wpAny _ _ (Builtin.Dict.updateFrom "dict.__init__" s.heap.objs.size (.ref l) [] .none) _ _ _
 unfold Builtin.Dict.updateFrom
 refine wpAny_bind (wpAny_typeOf (T:="list") ⟨_,hl1,rfl⟩ ?_)
 rw [if_pos (by decide)]
 refine wpAny_bind (Zpd hl1 (by simp [hh]) fun h2 tk2 k2=>?_)
 simp only [Option.isNone_none,if_true]
 refine wpAny_bind (wpAny_rule ?_)
 have hl2:h2.IsList l items:=⟨_,k2 _ _ hl1,rfl,n,rfl⟩
 have hS2:h2.DictOf (ZaC prog w) s.heap.objs.size []:=by
  obtain ⟨o,es,ep,ho,r⟩:=hnew
  exact ⟨o,es,ep,k2 _ _ ho,r⟩
 have hlS:l < s.heap.objs.size:=Heap.lt_size hl
 have hS2s:s.heap.objs.size < h2.objs.size:=by
  obtain ⟨o,es,ep,ho,r⟩:=hS2
  exact Heap.lt_size ho
 refine wpAny_bind (wpAny_pyIter_list hl2 ?_)
 refine wpAny_pure ⟨plainId_quiet ZbP _,?_⟩
 have hneI:l≠h2.objs.size:=Nat.ne_of_lt (Nat.lt_trans hlS hS2s)
 have hSf:s.heap.objs.size∉[h2.objs.size,l]:=by
  walk_at "pd"
  exact ⟨Nat.ne_of_lt hS2s,Nat.ne_of_gt hlS⟩
 refine ZlO (A:=A.in1) ((Walks.list (by simp [hh]) _ l hneI items).toS) hSf (ps:=ps) hps (items.size - 0) 0 _ _ [] (by omega) (Nat.zero_le _) ⟨⟨_,Heap.get?_push_size _ rfl,rfl,rfl⟩,hl2.push _⟩ (hS2.push _) (by simp only [List.length_nil];omega) ?_ ?_
 ·intro j v _ _ hv
  obtain ⟨p,t,y,e1,e2,e3⟩:=hit j v hv
  have hp:p < s.heap.objs.size:=by obtain ⟨o,ho,_⟩:=e3;exact Heap.lt_size ho
  refine ⟨p,t,y,e1,?_,e2,(e3.at fun o e=>k2 _ _ (Heap.get?_push_of_some _ e)).push _⟩
  walk_at "pd"
  exact ⟨Nat.ne_of_lt hp,Nat.ne_of_lt (Nat.lt_trans hp hS2s)⟩
 ·intro s' hm hS'
  obtain ⟨h',g',d',tk',os'⟩:=s'
  obtain rfl:g'=s.gens:=hm.gens
  obtain rfl:d'=s.drawn:=hm.drawn
  obtain rfl:os'=s.os:=hm.os
  refine ⟨rfl,h h' tk' ?_ fun b o hb e=>?_⟩
  ·rw [List.drop_zero,merged_nil_of_nodup _ ?_] at hS'
   ·exact hS'
   ·rw [List.map_map]
    have:((fun x:Key×Value=>x.1)∘fun y:Str×Value=>((Sum.inr y.1:Key),y.2))=(fun x:Str=>(Sum.inr x:Key))∘(·.1):=rfl
    rw [this,← List.map_map]
    exact List.Pairwise.map _ (fun a b hab z=>hab (Sum.inr.inj z)) hn
  ·refine hm.heap b o ?_ (Heap.get?_push_of_some _ (k2 _ _ (Heap.get?_push_of_some _ e)))
   walk_at "pd"
   exact ⟨Nat.ne_of_lt hb,Nat.ne_of_lt (Nat.lt_trans hb hS2s)⟩
end
end L3
namespace L2
open PySem PySem.Spec PyProof.Rows
section
variable {prog:Program} {w:World} {A:Around} {R:Result→Shared→Prop} {s:Shared}
theorem Zf8 {elt target iter:Expr} {ifs:List Expr} {scope:Scope} {pos:Pos} {it acc:Value} {env:Env} {E':Value→Shared→Prop} (I:Nat→Shared→Prop)
  (hE:∀ e s',E' e s'→notedBy (model prog w) A env (fun e s'=>R (.error e) s') e s')
  (turn:∀ n s,I n s→wpAny (model prog w) A (pyNext it) (fun r s₁=>match r with
   | none=>R (.ok .next) s₁
   | some v=>wpAny (model prog w) A (letOwnedTupleGo target it v) (fun _ s₁'=>wpAny (model prog w) A (assign target env v) (fun _ s₂ =>
     wpAny (model prog w) A (forIn ifs true fun c r=>if r=true then do let ok ← isTrue c env (eval c env);pure (ForInStep.yield ok) else pure (ForInStep.yield r)) (fun ok s₃ =>
      if ok=true then wpAny (model prog w) A (eval elt env) (fun x s₄ =>
       wpAny (model prog w) A (call (.builtin "list.append") [acc,x]) (fun _ s₅=>∃ m,m < n∧I m s₅) E' s₄) E' s₃
      else ∃ m,m < n∧I m s₃) E' s₂) E' s₁') E' s₁) E' s)
  (n:Nat) (h:I n s) :
  codeAny (model prog w) A (.compLoop (.ListComp elt [⟨target,iter,ifs,0⟩] scope pos) 0 it acc env) R s:=by
 refine codeAny_loop rfl I (fun n s hI=>?_) n h
 show wpAny _ A ((compTurn (.ListComp elt [⟨target,iter,ifs,0⟩] scope pos) 0 it acc env).onRaise (fun x=>do noteFrame x env;theTreesLotGoes x)) _ _ s
 refine wpAny_noted ?_
 rw [compTurn_list]
 refine wpAny_bind (wpAny_standAt (wpAny_bind (wpAny_mono (turn n s hI) (fun r s₁ h₁=>?_) hE)))
 cases r with
 | none=>exact wpAny_pure h₁
 | some v =>
  refine wpAny_bind (wpAny_mono h₁ (fun _ s₁' h₁'=>?_) hE)
  refine wpAny_bind (wpAny_mono h₁' (fun _ s₂ h₂=>wpAny_bind (wpAny_mono h₂ (fun ok s₃ h₃=>?_) hE)) hE)
  cases ok with
  | false=>exact wpAny_pure ⟨rfl,h₃⟩
  | true =>
   exact wpAny_bind (wpAny_bind (wpAny_mono h₃ (fun x s₄ h₄=>wpAny_bind (wpAny_mono h₄ (fun _ s₅ h₅=>wpAny_pure (wpAny_pure ⟨rfl,h₅⟩)) hE)) hE))
end
def PF (X:Cx) (ifs:List Expr) (t:TT):Prop :=
 ∀ (pins:List (Addr×Obj)) (s:Shared) (σ:St) (H:Hp) (Q:Bool→Hp→Prop),Inv X pins σ H s→t σ H Q →
  wpAny (model X.prog X.w) X.A (forIn ifs true fun c r=>if r=true then do let ok ← isTrue c X.env (eval c X.env);pure (ForInStep.yield ok) else pure (ForInStep.yield r)) (TP X pins σ Q) X.xe s
def ZAz:TT:=fun _ H Q=>Q true H
theorem ZyH {X:Cx}:PF X [] ZAz:=fun _ _ _ H _ I h=>wpAny_tests_nil ⟨H,I,h⟩
noncomputable def cxB (X:Cx) (Nc:List Str) (scope:Scope) (cl:List (Str×Addr)) (C:Addr) (fp:List Addr) (s:Shared) (H:Hp):Cx :=
 { X with N:=Nc,s₀:=s,H₀:=H,env:=compEnvC scope cl C X.env,outer:=X.stack,ex:=fp,fn:=fun _=>false,pn:=[],xe:=fun _ _=>False }
structure Blk (X:Cx) (Nc:List Str) (scope:Scope) (cl:List (Str×Addr)) (cap:St→St):Prop where
 clos:closureFor scope X.env=pure cl
 kind:scope.kind=.function
 names:∀ x∈scope.names,x.2=.local→scope.names.lookup x.1=some .local
 nocell:∀ y∈scope.names,y.2≠.cell
 sub:∀ y c,cl.lookup y=some c→X.env.cells.lookup y=some c
 has:∀ y,((relabel scope X.env).names.lookup y=some .cell∨(relabel scope X.env).names.lookup y=some .free)→∃ c,cl.lookup y=some c
 take:∀ (σ:St) (i:Nat) (y:Str) (v:V),Nc[i]?=some y→(cap σ)[i]?=some (some v)→Vis (relabel scope X.env) y →
  ((relabel scope X.env).names.lookup y=some .cell∨(relabel scope X.env).names.lookup y=some .free)∧Vis X.env.scope y∧X.env.scope.names.lookup y≠some .local∧∃ j:Nat,X.N[j]?=some y∧σ[j]?=some (some v)
 len:∀ σ:St,(cap σ).length=Nc.length
theorem ZiS {scope:Scope} {env:Env} (h:∀ y∈scope.names,y.2≠.free):relabel scope env=scope:=by
 unfold relabel
 rw [map_eq_self (l:=scope.names) (fun x hx=>by
  obtain ⟨n,k⟩:=x
  have:(k==NameKind.free)=false:=by simpa using h _ hx
  simp [this])]
theorem Zgb {names:List (Str×NameKind)} {x:Str} {k:NameKind} (h:names.lookup x=some k):(x,k)∈names:=PySem.mem_of_lookup h
theorem ZoO {X:Cx} {Nc:List Str} {scope:Scope} (kind:scope.kind=.function) (all:∀ y∈scope.names,y.2≠.free∧y.2≠.cell) (names:∀ x∈scope.names,x.2=.local→scope.names.lookup x.1=some .local) :
  Blk X Nc scope [] (fun _=>List.replicate Nc.length none) where
 clos:=closureFor_none fun x hx=>(all x hx).1
 kind:=kind
 names:=names
 nocell:=fun y hy=>(all y hy).2
 sub:=fun y c h=>by cases h
 has:=fun y h=>by
  rw [ZiS fun z hz=>(all z hz).1] at h
  rcases h with h | h
  ·exact absurd rfl (all _ (Zgb h)).2
  ·exact absurd rfl (all _ (Zgb h)).1
 take:=fun σ i y v h1 h2 h3=>by
  rw [List.getElem?_replicate] at h2
  split at h2 <;> cases h2
 len:=fun σ=>List.length_replicate ..
def cOk (cap:St→St) (g:TG) (tt:TT) (te:TE) (K:List V→Hp→Prop) (σ:St) (J:It) (H1:Hp):Prop :=
 ∃ W:Nat→Nat→St→Hp→List V→Prop,(∃ m,W 0 m (cap σ) H1 [])∧∀ i m σ' H' ys,W i m σ' H' ys →
  (J.stop i H'∧K ys H') ∨
  (J.go i H'∧ys.length < sizeLine∧∃ N:St→Hp→List V→Prop,(∀ σ2 H2 ys2,N σ2 H2 ys2→∃ m',m' < m∧W (i+1) m' σ2 H2 ys2) ∧
   ∀ x H2,J.yld i H' x H2→g x σ' H2 fun σ3 H3=>tt σ3 H3 fun b H4=>if b=true then te σ3 H4 fun y H5=>N σ3 H5 (ys++[y]) else N σ3 H4 ys)
def Zvv (wi:TI) (cap:St→St) (g:TG) (tt:TT) (te:TE):TE:=fun σ H Q=>wi σ H fun J H1=>cOk cap g tt te (fun ys H'=>∀ a,H' a=none→Q (.ref a) (upd H' a (.lst ys))) σ J H1
section
variable {X:Cx} {elt tg iter:Expr} {ifs:List Expr} {scope:Scope} {pos:Pos} {g:TG} {tt:TT} {te:TE} {Nc:List Str} {cap:St→St} {cl:List (Str×Addr)}
theorem ZoF (hc:X.calm=true) (B:Blk X Nc scope cl cap) (hg:∀ C fp s H,PG (cxB X Nc scope cl C fp s H) tg g) (ht:∀ C fp s H,PF (cxB X Nc scope cl C fp s H) ifs tt) (he:∀ C fp s H,PE (cxB X Nc scope cl C fp s H) elt te)
  {pins:List (Addr×Obj)} {σ:St} {H2:Hp} {s2:Shared} {E:Value→Shared→Prop} {RR:Value→Addr→Result→Shared→Prop} {J:It} {fp:List Addr} {it:Addr} {tn:Nat→Heap→Prop} {K:List V→Hp→Prop}
  (I2:Inv X pins σ H2 s2) (T:ZvN X.prog X.w X.K tg J fp it tn) (st2:tn 0 s2.heap) (f2:∀ b∈fp,Zpl X pins H2 b) (w2:cOk cap g tt te K σ J H2)
  (fin:∀ (D C:Addr) (s':Shared) (H':Hp) (ys:List V) (oC:Obj),H' D=none→K ys H'→Inv X pins σ (upd H' D (.lst ys)) s'→Zpl X pins (upd H' D (.lst ys)) C→s'.heap.get? C=some oC→(∀ v,oC.data≠.cell v)→(∃ m,s'.heap.Ns C m)→RR (.ref D) C (.ok .next) s') :
  wpAny (model X.prog X.w) X.A (newList []) (fun acc s₃=>wpAny (model X.prog X.w) X.A (newFunctionEnv scope X.env.globals cl [] X.env.qual none .none (some X.env)) (fun cenv s₄ =>
   codeAny (model X.prog X.w) X.A (.compStart (.ListComp elt [⟨tg,iter,ifs,0⟩] scope pos) 0 (.ref it) acc { cenv with scope:=relabel scope X.env }) (RR acc cenv.locals) s₄) E s₃) E s2:=by
 refine wpAny_newObj_type (wpAny_newFunctionEnv B.nocell (by intro y hy;simp at hy) (fun h₁ hns₁ hsb₁=>?_) B.kind)
 dsimp only at hns₁ hsb₁ ⊢
 generalize hP2:s2.heap.push { cls:=.type "list",dict:=none,data:=.seq ([]:List Value).toArray }=P2 at hns₁ hsb₁ ⊢
 generalize hDD:s2.heap.objs.size=D at hns₁ hsb₁ ⊢
 have hCs:P2.objs.size=D+1:=by rw [← hP2,Heap.size_push,hDD]
 generalize hCC:P2.objs.size=C at hns₁ hsb₁ hCs ⊢
 have hDC:D≠C:=Nat.ne_of_lt (by rw [hCs];exact Nat.lt_succ_self _)
 have ltC:∀ b:Addr,b < D→b≠C:=fun b h=>Nat.ne_of_lt (by rw [hCs];exact Nat.lt_succ_of_lt h)
 have leC:D≤C:=by rw [hCs];exact Nat.le_succ _
 have old:∀ b o,s2.heap.get? b=some o→h₁.get? b=some o:=fun b o e=>by
  have hb:=Heap.lt_size e
  rw [hDD] at hb
  refine hsb₁.extBut b o (ltC b hb) (Heap.get?_push_of_some _ ?_)
  rw [← hP2]
  exact Heap.get?_push_of_some _ e
 have hacc:h₁.get? D=some { cls:=.type "list",data:=.seq #[] }:=by
  refine hsb₁.extBut D _ hDC (Heap.get?_push_of_some _ ?_)
  rw [← hP2,← hDD]
  exact Heap.get?_push_size _ rfl
 have lt2:∀ b o,s2.heap.get? b=some o→b < D:=fun b o e=>by rw [← hDD];exact Heap.lt_size e
 have fplt:∀ b∈fp,b < D:=fun b hb=>by
  obtain ⟨o,e,_⟩:=T.obj _ _ st2 b hb
  exact lt2 b o e
 have celt:∀ x c,X.env.cells.lookup x=some c→c < D:=fun x c e=>by
  obtain ⟨v,z⟩:=I2.cell x c e
  rw [← hDD]
  exact z.lt
 have pinlt:∀ p∈X.pn++pins,p.1 < D:=fun p hp=>lt2 _ _ (I2.pin p hp).1
 have fstk:∀ b∈fp,b∉frs X.stack:=fun b hb z=>(List.mem_cons.mp (I2.stkSub b z)).elim (f2 b hb).2.1 (f2 b hb).2.2.1
 have hDn:H2 D=none:=I2.hok.fresh (by rw [hDD];exact Nat.le_refl _)
 have hCn:H2 C=none:=I2.hok.fresh (by rw [hDD];exact leC)
 have sz0:X.s₀.heap.objs.size≤D:=by rw [← hDD];exact I2.sz
 let Xc:=cxB X Nc scope cl C fp s2 H2
 have okc:Xc.Ok:=by
  refine ⟨I2.ok.mod,?_,I2.ok.glob,I2.ok.blt,?_,fun x y c h1 h2=>I2.ok.inj x y c (B.sub x c h1) (B.sub y c h2),fun x hx=>B.has x hx,(fun x c h=>by cases h),I2.ok.hd,I2.ok.frames,.inl rfl,?_,I2.bs,Nat.le_trans I2.ok.bsz I2.sz,?_,fstk,I2.stack,I2.stkFree⟩
  ·exact B.kind
  ·show s2.heap.objs.size≤C
   rw [hDD];exact leC
  ·intro b hb
   refine ⟨?_,fun x c e=>?_⟩
   ·exact ltC b (fplt b hb)
   ·exact (f2 b hb).2.2.2.2.1 x c (B.sub x c e)
  ·intro b o e hb
   rcases (f2 b hb).2.2.2.1 with z | z
   ·exact I2.ok.noex b o e z
   ·exact absurd (Nat.lt_of_lt_of_le (Heap.lt_size (I2.ok.bs b o e).1) z) (Nat.lt_irrefl _)
 have I0:∀ tk,Inv Xc (X.pn++pins) (cap σ) H2 { s2 with heap:=h₁,toks:=tk }:=fun tk=>by
  refine ⟨okc,rfl,I2.bare,Un.kept old,⟨_,hns₁,fun i y v h1 h2 h3=>?_⟩,fun x c e=>?_,hCn,fun x c e=>I2.freeC x c (B.sub x c e),fun p hp=>?_,I2.hok.kept old,B.len σ⟩
  ·obtain ⟨k1,k2,k3,j,k4,k5⟩:=B.take σ i y v h1 h2 h3
   obtain ⟨m,hn,hl⟩:=I2.loc
   obtain ⟨u,r,l⟩:=hl j y v k4 k5 k2
   refine ⟨u,r,.inr ⟨k1,?_⟩⟩
   rcases l with ⟨l,_⟩ | ⟨_,c,e,z⟩
   ·exact absurd l k3
   ·obtain ⟨c',e'⟩:=B.has y k1
    have:=B.sub y c' e'
    rw [e] at this;cases this
    obtain ⟨oc,ec,dc⟩:=z
    exact ⟨c,e',oc,old _ _ ec,dc⟩
  ·obtain ⟨v,oc,ec,dc⟩:=I2.cell x c (B.sub x c e)
   exact ⟨v,oc,old _ _ ec,dc⟩
  ·have hp':p∈X.pn++pins:=by simpa [Xc,cxB] using hp
   obtain ⟨e,n,ne,nf,d⟩:=I2.pin p hp'
   exact ⟨old _ _ e,n,ltC _ (pinlt p hp'),fun z=>(List.mem_cons.mp (I2.stkSub _ z)).elim ne nf,d⟩
 have fpc:∀ {H':Hp} {o:Obj},(∀ b∈fp,H' b=none)→∀ b∈fp,Zpl Xc ((X.pn++pins)++[(D,o)]) H' b:=fun {H' o} hn b hb=>by
  refine ⟨hn b hb,ltC b (fplt b hb),fstk b hb,.inl hb,fun x c e=>(f2 b hb).2.2.2.2.1 x c (B.sub x c e),fun p hp=>?_⟩
  ·have hp':p∈X.pn++pins∨p=(D,o):=by
    rcases List.mem_append.mp hp with z | z
    ·cases z
    ·rcases List.mem_append.mp z with z | z
     ·exact .inl z
     ·exact .inr (List.mem_singleton.mp z)
   rcases hp' with z | z
   ·exact (f2 b hb).2.2.2.2.2 p z
   ·subst z
    exact Nat.ne_of_gt (fplt b hb)
 obtain ⟨W,⟨m0,w0⟩,turn⟩:=w2
 have loop:∀ tk,codeAny (model X.prog X.w) X.A (.compLoop (.ListComp elt [⟨tg,iter,ifs,0⟩] scope pos) 0 (.ref it) (.ref D) Xc.env) (RR (.ref D) C) { s2 with heap:=h₁,toks:=tk }:=by
  intro tk
  refine Zf8 (E':=fun _ _=>False)
   (fun n s'=>∃ (i:Nat) (σ':St) (H':Hp) (ys:List V) (its:List Value) (k:Nat),Inv Xc (X.pn++pins) σ' H' s'∧tn i s'.heap∧(∀ b∈fp,H' b=none)∧H' D=none∧s'.heap.get? D=some { cls:=.type "list",data:=.seq its.toArray k } ∧
    Vals ys its∧ys.length≤sizeLine∧W i n σ' H' ys) (fun _ _ z=>z.elim) ?_ m0
   ⟨0,cap σ,H2,[],[],0,I0 tk,T.keep _ _ _ st2 fun b _ o e=>old b o e,fun b hb=>(f2 b hb).1,hDn,hacc,.nil,Nat.zero_le _,w0⟩
  rintro n s3 ⟨i,σ3,H3,ys,its,k,I3,st3,fr3,hD3,o3,rv3,hz3,w3⟩
  have I3':Inv Xc ((X.pn++pins)++[(D,{ cls:=.type "list",data:=.seq its.toArray k })]) σ3 H3 s3:=I3.pins_of fun p hp=>by
   have hp':p∈X.pn++pins∨p=(D,{ cls:=.type "list",data:=.seq its.toArray k }):=by
    rcases List.mem_append.mp hp with z | z
    ·exact .inl z
    ·exact .inr (List.mem_singleton.mp z)
   rcases hp' with z | z
   ·exact I3.pin p (by simpa [Xc,cxB] using z)
   ·subst z
    refine ⟨o3,hD3,hDC,fun z=>?_,(fun v z=>by cases z)⟩
    ·obtain ⟨_,o,ho,_⟩:=I2.stack.mem z
     exact absurd (lt2 _ _ ho) (Nat.lt_irrefl _)
  rcases turn i n σ3 H3 ys w3 with ⟨stop,qn⟩ | ⟨go,hlt,N,hN,step⟩
  ·refine thn (T.done Xc rfl rfl rfl hc i _ s3 σ3 H3 _ I3' (fpc fr3) st3 stop) fun r s4 zz1=>?_
   obtain ⟨hr,I4⟩:=zz1
   subst hr
   have pD:=I4.pin (D,{ cls:=.type "list",data:=.seq its.toArray k }) (by simp)
   obtain ⟨m4,hn4,_⟩:=I4.loc
   obtain ⟨oC,es,ep,eC,dC,rC⟩:=id hn4
   have hD4:H3 D=none:=hD3
   have hC4:H3 C=none:=I4.free
   have hupd:∀ b u,H3 b=some u→upd H3 D (.lst ys) b=some u:=fun b u e=>by rw [ZaZ (Zcf e hD4)];exact e
   have un:Un (frs X.stack) fp H2 (upd H3 D (.lst ys)) s2.heap s4.heap:=by
    have u:=I4.base
    refine ⟨u.keep,u.slot,fun b o e n hx=>?_,u.there,fun b xs e=>hupd _ _ (u.tups b xs e),fun b o v e=>hupd _ _ (u.frzs b o v e),fun b ps e=>?_⟩
    ·rw [ZaZ (Nat.ne_of_lt (lt2 b o e))]
     exact u.free b o e n hx
    ·obtain ⟨more,q⟩:=u.tbls b ps e
     exact ⟨more,hupd _ _ q⟩
   have hok:HOk X.prog X.w (upd H3 D (.lst ys)) s4.heap:=fun b u e=>by
    by_cases hb:b=D
    ·subst hb
     rw [Zbk] at e;cases e
     exact ⟨hz3,its,k,rv3,pD.1⟩
    ·rw [ZaZ hb] at e
     exact (I4.hok b u e).stay (fun _ _ _ q=>q) (fun c q=>hupd _ _ q) fun c xs q=>hupd _ _ q
   have I5:Inv X pins σ (upd H3 D (.lst ys)) s4:=I2.call' (ch:=fp) I4.os un hok I4.bare fun b hb=>⟨(f2 b hb).2.2.2.1,(f2 b hb).2.1,(f2 b hb).2.2.2.2.1,(f2 b hb).2.2.2.2.2⟩
   refine fin D C s4 H3 ys oC hD4 qn I5 ⟨?_,?_,fun z=>?_,.inr (Nat.le_trans sz0 leC),fun x c e=>?_,fun p hp=>?_⟩ eC (fun v z=>by rw [dC] at z;cases z) ⟨m4,hn4⟩
   ·rw [ZaZ (Ne.symm hDC)];exact hC4
   ·have:=I2.lt
    rw [hDD] at this
    exact Ne.symm (ltC _ this)
   ·exact I2.nofs (a:=C) (by rw [hDD];exact leC) z
   ·exact ltC _ (celt x c e)
   ·exact ltC _ (pinlt p hp)
  ·refine thn (T.item Xc rfl rfl rfl hc i _ s3 σ3 H3 _ I3' (fpc fr3) st3 go) fun r s4 zz2=>?_
   obtain ⟨u,hr,h4⟩:=zz2
   subst hr
   refine thn h4 fun _ s5 zz3=>?_
   obtain ⟨x,H5,I5,r5,y5,st5,fr5⟩:=zz3
   have I5':=I5.pinned (fpc fr5) (T.obj _ _ st5)
   refine thn (hg C fp s2 H2 _ s5 σ3 H5 x u _ I5' r5 (step x H5 y5)) fun _ s6 zz4=>?_
   obtain ⟨σ6,H6,I6,q6⟩:=zz4
   refine thn (ht C fp s2 H2 _ s6 σ6 H6 _ I6 q6) fun ok s7 zz5=>?_
   obtain ⟨H7,I7,q7⟩:=zz5
   have again:∀ {σ8:St} {H8:Hp} {s8:Shared},Inv Xc (((X.pn++pins)++[(D,{ cls:=.type "list",data:=.seq its.toArray k })])++Zli fp s5.heap) σ8 H8 s8 →
     tn (i+1) s8.heap∧(∀ b∈fp,H8 b=none)∧s8.heap.get? D=some { cls:=.type "list",data:=.seq its.toArray k }∧H8 D=none:=fun {σ8 H8 s8} I8=>by
    refine ⟨T.keep _ _ _ st5 fun b hb o e=>(I8.pin (b,o) (List.mem_append_right _ (List.mem_append_right _ (Ze7 hb e)))).1,fun b hb=>?_,?_⟩
    ·obtain ⟨o,e,d⟩:=T.obj _ _ st5 b hb
     exact (I8.pin (b,o) (List.mem_append_right _ (List.mem_append_right _ (Ze7 hb e)))).2.1
    ·have:=I8.pin (D,{ cls:=.type "list",data:=.seq its.toArray k }) (by simp)
     exact ⟨this.1,this.2.1⟩
   cases ok with
   | false =>
    rw [if_neg Bool.false_ne_true] at q7 ⊢
    obtain ⟨m',hm,w7⟩:=hN _ _ _ q7
    obtain ⟨t7,f7,o7,d7⟩:=again I7
    exact ⟨m',hm,i+1,σ6,H7,ys,its,k,I7.unpinned.unpinned,t7,f7,d7,o7,rv3,hz3,w7⟩
   | true =>
    rw [if_pos rfl] at q7 ⊢
    refine thn (he C fp s2 H2 _ s7 σ6 H7 _ I7 q7) fun y s8 zz6=>?_
    obtain ⟨yv,H8,I8,r8,q8⟩:=zz6
    obtain ⟨m',hm,w8⟩:=hN _ _ _ q8
    obtain ⟨t8,f8,o8,d8⟩:=again I8
    have hlen:=rv3.length
    refine wpAny_list_append_plain (s:=s8) (items:=its.toArray) ⟨k,o8⟩ (fun h9 zz7 sb9=>?_) (by rw [List.size_toArray];omega)
    obtain ⟨k9,l9⟩:=zz7
    have I9:Inv Xc (X.pn++pins) σ6 H8 { s8 with heap:=h9 }:=by
     refine I8.unpinned.unpinned.turned (t':=s8.toks) (fun b o hb e=>(sb9.2 b hb).trans e) d8 ?_ (.inr ?_) (fun x c e=>?_) fun p hp=>?_
     ·exact hDC
     ·show s2.heap.objs.size≤D
      rw [hDD];exact Nat.le_refl _
     ·exact Nat.ne_of_lt (celt x c (B.sub x c e))
     ·exact Nat.ne_of_lt (pinlt p (by simpa [Xc,cxB] using hp))
    refine ⟨m',hm,i+1,σ6,H8,ys++[yv],its++[y],k9,I9,?_,f8,d8,?_,rv3.append (.cons r8 .nil),?_,w8⟩
    ·refine T.keep _ _ _ t8 fun b hb o e=>?_
     exact (sb9.2 b (Nat.ne_of_lt (fplt b hb))).trans e
    ·rw [l9]
     simp
    ·rw [List.length_append,List.length_singleton]
     omega
 have env_eq:Xc.env=compEnvC scope cl C X.env:=rfl
 exact codeAny_compStart_list (loop _) (T.self _ 0 _ _ _ (T.keep _ _ _ st2 fun b _ o e=>old b o e) (loop _))
theorem Zpe {wi:TI} (hc:X.calm=true) (hi:PI X tg iter wi) (B:Blk X Nc scope cl cap) (hg:∀ C fp s H,PG (cxB X Nc scope cl C fp s H) tg g) (ht:∀ C fp s H,PF (cxB X Nc scope cl C fp s H) ifs tt) (he:∀ C fp s H,PE (cxB X Nc scope cl C fp s H) elt te)
  (hs:∀ x,foldedSetIterable iter X.env x=pure x:=by intro _;rfl):PE X (.ListComp elt [⟨tg,iter,ifs,0⟩] scope pos) (Zvv wi cap g tt te):=by
 intro pins s σ H Q I h
 rw [eval_ListComp]
 refine wpAny_comprehension_free (use:=none) rfl hs B.clos B.kind B.names (thn (hi pins s σ H _ I h) fun v s1 h1=>thn h1 fun itv s2 h2=>?_)
 obtain ⟨it,fp,tn,J,H2,e,I2,T,st2,f2,w2⟩:=h2
 subst e
 refine ZoF (RR:=fun acc C=>compPost (model X.prog X.w) X.A X.xe none (EP X pins σ Q) acc C) hc B hg ht he I2 T st2 f2 w2 ?_
 intro D C s' H' ys oC hD q I' F eC dC ⟨m,hn⟩
 obtain ⟨f0,f1,_,f3,f4,f5⟩:=F
 exact ⟨m,hn,fun h' sb=>⟨.ref D,_,I'.turned (t':=s'.toks) (fun b o hb e=>(sb.2 b hb).trans e) f0 f1 f3 f4 f5,rfl,q D hD⟩⟩
end
theorem ObjOk.at {P:Program} {w:World} {H:Hp} {h:Heap} {a:Addr} {o:HO} (x:ObjOk P w H h a o):∃ u,h.get? a=some u:=by
 cases o with
 | lst xs=>obtain ⟨_,_,_,_,e⟩:=x;exact ⟨_,e⟩
 | tup xs=>obtain ⟨_,_,_,ob,e,_⟩:=x;exact ⟨_,e⟩
 | dK kvs=>obtain ⟨_,_,_,_,o,_,_,e,_⟩:=x;exact ⟨_,e⟩
 | dT kvs=>obtain ⟨_,_,_,_,o,_,_,e,_⟩:=x;exact ⟨_,e⟩
 | set S n=>obtain ⟨o,_,_,_,e,_⟩:=x;exact ⟨_,e⟩
 | ins C dx fs=>obtain ⟨_,_,_,e,_⟩:=x;exact ⟨_,e⟩
 | own y=>obtain ⟨_,e⟩:=x;exact ⟨_,e⟩
 | xd fs=>obtain ⟨_,⟨_,_,_,e,_⟩,_⟩:=x;exact ⟨_,e⟩
 | rng lo hi=>obtain ⟨_,_,_,e⟩:=x;exact ⟨_,e⟩
 | frz ob u=>obtain ⟨e,_⟩:=x;exact ⟨_,e⟩
 | tbl ps=>exact ⟨_,(show h.get? a=some _ from x)⟩
 | met f y=>exact ⟨_,(show h.get? a=some _ from x)⟩
 | ext φ=>obtain ⟨_,⟨_,e⟩,_⟩:=x;exact ⟨_,e⟩
structure Fly (P:Program) (w:World) (outer:List Env) (H0:Hp) (s0:Shared) (H':Hp) (e C:Addr) (s':Shared):Prop where
 os:s'.os=s0.os
 bare:AllBare s'.gens
 un:Un (frs outer) [] H0 H' s0.heap s'.heap
 hok:HOk P w H' s'.heap
 fly:∃ (B:Heap) (a0:Value),Heap.FlyingW B outer e (.ref C) a0 s'.heap∧∀ b,b∉frs outer→((∃ o,s0.heap.get? b=some o)∨H' b≠none)→∃ o,B.get? b=some o
 new:s0.heap.get? e=none
 free:H' e=none
def CXe (P:Program) (w:World):CXT:=fun outer H0 s0 E ev s'=>∃ (e C:Addr) (H':Hp),ev=.ref e∧Fly P w outer H0 s0 H' e C s'∧E (.ref C) none H'
section
variable {X:Cx} {pins:List (Addr×Obj)} {σ:St} {H H':Hp} {s s':Shared} {e C:Addr}
end
section
variable {P:Program} {w:World} {K:PySem.W.Frag} {mg:Str→Option Value} {base:Heap} {N:List Str} {qual:Str} {scope:Scope} {f:Addr} {cd:Value} {A:Around} {outer:List Env} {s:Shared} {H:Hp} {E:XK}
end
theorem Inv.track {X:Cx} {pins:List (Addr×Obj)} {σ:St} {H:Hp} {s:Shared} {e:Addr} {o:HO} (I:Inv X pins σ H s) (hn:H e=none) (hL:e≠X.env.locals) (hc:∀ x c,X.env.cells.lookup x=some c→c≠e) (hp:∀ p∈X.pn++pins,p.1≠e)
  (h0:X.s₀.heap.get? e=none) (ok:ObjOk X.prog X.w (upd H e o) s.heap e o):Inv X pins σ (upd H e o) s:=by
 have hupd:∀ b u,H b=some u→upd H e o b=some u:=fun b u z=>by rw [ZaZ (Zcf z hn)];exact z
 refine ⟨I.ok,I.os,I.bare,⟨I.base.keep,I.base.slot,fun b ob z n hx=>?_,I.base.there,fun b xs z=>hupd _ _ (I.base.tups b xs z),fun b ob u z=>hupd _ _ (I.base.frzs b ob u z),fun b ps z=>?_⟩,I.loc,I.cell,?_,fun x c z=>?_,fun p z=>?_,fun b u z=>?_,I.len⟩
 ·rw [ZaZ (fun q=>by rw [q,h0] at z;cases z)]
  exact I.base.free b ob z n hx
 ·obtain ⟨more,q⟩:=I.base.tbls b ps z
  exact ⟨more,hupd _ _ q⟩
 ·rw [ZaZ (Ne.symm hL)];exact I.free
 ·rw [ZaZ (hc x c z)];exact I.freeC x c z
 ·obtain ⟨q1,q2,q3⟩:=I.pin p z
  exact ⟨q1,by rw [ZaZ (hp p z)];exact q2,q3⟩
 ·by_cases hb:b=e
  ·subst hb
   rw [Zbk] at z;cases z
   exact ok
  ·rw [ZaZ hb] at z
   exact (I.hok b u z).stay (fun _ _ _ q=>q) (fun c q=>hupd _ _ q) fun c xs q=>hupd _ _ q
def Zzx (e C:Addr):Heap→Prop:=fun h=>∃ ox,h.get? e=some ox∧ox.cls=.ref C
def Zmf (CX:CXT) (X:Cx) (Eσ:St→XK):Prop:=∀ (pins:List (Addr×Obj)) (σ:St) (H:Hp) (s:Shared) (e:Value) (s':Shared),Inv X pins σ H s→CX X.stack H s (Eσ σ) e s'→X.xe e s'
def ZtX (sp:Sp) (dvs:List V) (Eσ:St→XK) (t:TA):TE:=fun σ H Q=>t σ H fun vs H1=>sp (vs++dvs) H1 Q (Eσ σ)
section
variable {X:Cx} {CX:CXT} {k:Nat} {f:Addr} {fd:FuncData} {ps:List Str} {sp:Sp} {dvs:List V} {ds:List Value} {Eσ:St→XK} {x:Str} {p pos:Pos} {e:Expr} {es:List Expr} {t:TA}
theorem Zrt (F:FnOk X.prog X.w X.K X.mg X.base CX k f fd ps sp) (hr:Room k X.A) (hg:Gl X x) (hm:X.mg x=some (.ref f)) (hk:PySem.W.keepIn X.K (.ref f)=true) (hb:Binds X.K fd ps ds) (hd:Vals dvs ds) (hx:Zmf CX X Eσ)
  (ha:PA X (e::es) t) (hdb:(x==("__debug__":Str))=false:=by decide) (he:starEach (e::es) X.env=(false,eval e X.env)::starEach es X.env:=by rfl) (hpl:(backTo pos (starEach es X.env)).any (·.1)=false:=by rfl) :
  PE X (.Call (.Name x p) (e::es) [] pos) (ZtX sp dvs Eσ t):=by
 intro pins s σ H Q I h
 refine wpAny_Call_Name_kw (ZmH I hg hm ?_ hdb)
 refine PySem.W.callWith_K (h₀:=X.base) I.ok.mod.kin hk (thn (ha pos pins s σ H _ I h) fun us s1 ⟨vs,H1,I1,r,q⟩=>⟨I1.kIn,?_⟩) he hpl
 have r2:Vals (vs++dvs) (us++ds):=r.append hd
 have hl:(us++ds).length=ps.length:=by rw [← r2.length];exact F.len _ _ _ _ q
 refine wpAny_call (codeAny_mono (F.run X.A X.stack s1 H1 ⟨us,[]⟩ (us++ds) (vs++dvs) Q (Eσ σ) hr I1.env0 (hb s1 us I1.kIn hl) r2 q) fun r s' hq=>?_)
 cases r with
 | error e=>exact hx pins σ H1 s1 e s' I1 hq
 | ok fl =>
  cases fl with
  | ret u=>exact I1.after hq
  | next=>exact False.elim hq
  | brk=>exact False.elim hq
  | cont=>exact False.elim hq
end
section
variable {X:Cx} {k:Nat} {f:Addr} {fd:FuncData} {ps:List Str} {sp:Sp} {x:Str} {p pos:Pos} {e:Expr} {es:List Expr} {t:TA}
end
end L2
namespace L3
open PySem PySem.Spec PyProof.Rows L2
abbrev St:=L2.St
inductive W where
 | non | bl (b:Bool) | int (i:Int) | str (x:Str) | tup (xs:List W) | rol (xs:List W) | ref (a:Addr)
inductive HW where
 | lst (xs:List W) | exc (C:Addr) | ins (C:Addr) (fs:List (Str×W)) | dct (kvs:List (Key×W))
abbrev Sw:=List (Option W)
abbrev Hw:=Addr→Option HW
def put (H:Hw) (a:Addr) (o:HW):Hw:=fun b=>if b=a then some o else H b
theorem Zab {H:Hw} {a:Addr} {o:HW}:put H a o a=some o:=by unfold put;rw [if_pos rfl]
theorem Zag {H:Hw} {a b:Addr} {o:HW} (h:b≠a):put H a o b=H b:=by unfold put;rw [if_neg h]
section
variable (K:PySem.W.Frag)
def RoL (H:Hp) (a:Addr) (xs:List V):Prop:=(∃ o,H a=some (.frz o (.lst xs))) ∨
 ∃ (o:Obj) (its:Array Value) (n:Nat),K.lookup a=some o∧o.cls=.type "list"∧o.dict=none∧o.data=.seq its n∧its.size≤sizeLine∧Vals xs its.toList
theorem RoL.sq {K:PySem.W.Frag} {H:Hp} {a:Addr} {xs:List V} (h:RoL K H a xs):SqL K H a xs:=by
 rcases h with ⟨o,h⟩ | h
 ·exact .inl (.inr ⟨o,h⟩)
 ·exact .inr h
mutual
inductive Tr (H:Hp):V→W→Prop where
 | non:Tr H .non .non
 | bl (b:Bool):Tr H (.bl b) (.bl b)
 | int (i:Int):Tr H (.int i) (.int i)
 | str (x:Str):Tr H (.str x) (.str x)
 | tup {a:Addr} {vs:List V} {ws:List W}:SqT K H a vs→TrL H vs ws→Tr H (.ref a) (.tup ws)
 | rol {a:Addr} {vs:List V} {ws:List W}:RoL K H a vs→TrL H vs ws→Tr H (.ref a) (.rol ws)
 | ref (a:Addr):Tr H (.ref a) (.ref a)
inductive TrL (H:Hp):List V→List W→Prop where
 | nil:TrL H [] []
 | cons {v:V} {w:W} {vs:List V} {ws:List W}:Tr H v w→TrL H vs ws→TrL H (v::vs) (w::ws)
end
inductive TrP {α:Type} (H:Hp):List (α×V)→List (α×W)→Prop where
 | nil:TrP H [] []
 | cons {f:α} {v:V} {w:W} {vs:List (α×V)} {ws:List (α×W)}:Tr K H v w→TrP H vs ws→TrP H ((f,v)::vs) ((f,w)::ws)
structure Mono (H H':Hp):Prop where
 tup:∀ a vs,SqT K H a vs→SqT K H' a vs
 rol:∀ a vs,RoL K H a vs→RoL K H' a vs
def RelO2 (H:Hp) (a:Addr):HW→Prop
 | .lst ws=>∃ vs,H a=some (.lst vs)∧TrL K H vs ws
 | .exc C=>H a=some (.ext (Zzx a C))
 | .ins C ws=>∃ dx vs,H a=some (.ins C dx vs)∧TrP K H vs ws
 | .dct ws=>∃ vs,H a=some (.dK vs)∧TrP K H vs ws
def RelH (H:Hp) (G:Hw):Prop:=∀ a o,G a=some o→RelO2 K H a o
structure TrSt (H:Hp) (σ:St) (ω:Sw):Prop where
 len:σ.length=ω.length
 get:∀ (i:Nat) (w:W),ω[i]?=some (some w)→∃ v,σ[i]?=some (some v)∧Tr K H v w
end
variable {K:PySem.W.Frag} {H H' H2:Hp}
theorem Mono.refl:Mono K H H:=⟨fun _ _ h=>h,fun _ _ h=>h⟩
theorem Mono.trans (m:Mono K H H') (m':Mono K H' H2):Mono K H H2:=⟨fun a vs h=>m'.tup a vs (m.tup a vs h),fun a vs h=>m'.rol a vs (m.rol a vs h)⟩
mutual
theorem Tr.mono (m:Mono K H H') {v:V} {w:W} (t:Tr K H v w):Tr K H' v w:=by
 cases t with
 | non=>exact .non
 | bl b=>exact .bl b
 | int i=>exact .int i
 | str x=>exact .str x
 | tup h l=>exact .tup (m.tup _ _ h) (TrL.mono m l)
 | rol h l=>exact .rol (m.rol _ _ h) (TrL.mono m l)
 | ref a=>exact .ref a
theorem TrL.mono (m:Mono K H H') {vs:List V} {ws:List W} (t:TrL K H vs ws):TrL K H' vs ws:=by
 cases t with
 | nil=>exact .nil
 | cons h l=>exact .cons (Tr.mono m h) (TrL.mono m l)
end
theorem TrP.mono {α:Type} (m:Mono K H H'):∀ {vs:List (α×V)} {ws:List (α×W)},TrP K H vs ws→TrP K H' vs ws
 | _,_,.nil=>.nil
 | _,_,.cons r t=>.cons (r.mono m) (TrP.mono m t)
theorem RelO2.mono (m:Mono K H H') {a:Addr} (e:H' a=H a):∀ {o:HW},RelO2 K H a o→RelO2 K H' a o
 | .lst ws,⟨vs,z,t⟩=>⟨vs,e.trans z,t.mono m⟩
 | .exc C,z=>(e.trans z:H' a=_)
 | .ins C ws,⟨dx,vs,z,t⟩=>⟨dx,vs,e.trans z,t.mono m⟩
 | .dct ws,⟨vs,z,t⟩=>⟨vs,e.trans z,t.mono m⟩
theorem RelO2.some {a:Addr}:∀ {o:HW},RelO2 K H a o→H a≠none
 | .lst ws,⟨vs,z,t⟩,q=>by rw [q] at z;cases z
 | .exc C,z,q=>by rw [show H a=_ from z] at q;cases q
 | .ins C ws,⟨dx,vs,z,t⟩,q=>by rw [q] at z;cases z
 | .dct ws,⟨vs,z,t⟩,q=>by rw [q] at z;cases z
theorem TrSt.mono {σ:St} {ω:Sw} (m:Mono K H H') (t:TrSt K H σ ω):TrSt K H' σ ω:=⟨t.len,fun i w e=>let ⟨v,e',r⟩:=t.get i w e;⟨v,e',r.mono m⟩⟩
theorem TrSt.set {σ:St} {ω:Sw} {v:V} {w:W} (t:TrSt K H σ ω) (i:Nat) (r:Tr K H v w):TrSt K H (σ.set i (some v)) (ω.set i (some w)):=by
 refine ⟨by simp [t.len],fun j u e=>?_⟩
 by_cases h:i=j
 ·subst h
  by_cases hl:i < ω.length
  ·rw [List.getElem?_set_self hl] at e
   cases e
   exact ⟨v,List.getElem?_set_self (by rw [t.len];exact hl),r⟩
  ·rw [List.getElem?_eq_none (by simp;omega)] at e;cases e
 ·rw [List.getElem?_set_ne h] at e
  obtain ⟨v',e',r'⟩:=t.get j u e
  exact ⟨v',by rw [List.getElem?_set_ne h];exact e',r'⟩
theorem TrL.length:∀ {vs:List V} {ws:List W},TrL K H vs ws→vs.length=ws.length
 | _,_,.nil=>rfl
 | _,_,.cons _ t=>congrArg (·+1) t.length
theorem TrL.get:∀ {vs:List V} {ws:List W} {i:Nat} {w:W},TrL K H vs ws→ws[i]?=some w→∃ v,vs[i]?=some v∧Tr K H v w
 | _,_,_,_,.nil,e=>by simp at e
 | _,_,0,_,.cons r _,e=>by simp at e;subst e;exact ⟨_,rfl,r⟩
 | _,_,i+1,w,.cons _ t,e=>by
  obtain ⟨v,h1,h2⟩:=TrL.get (i:=i) (w:=w) t (by simpa using e)
  exact ⟨v,by simpa using h1,h2⟩
theorem TrL.get':∀ {vs:List V} {ws:List W} {i:Nat} {v:V},TrL K H vs ws→vs[i]?=some v→∃ w,ws[i]?=some w∧Tr K H v w
 | _,_,_,_,.nil,e=>by simp at e
 | _,_,0,_,.cons r _,e=>by simp at e;subst e;exact ⟨_,rfl,r⟩
 | _,_,i+1,v,.cons _ t,e=>by
  obtain ⟨w,h1,h2⟩:=TrL.get' (i:=i) (v:=v) t (by simpa using e)
  exact ⟨w,by simpa using h1,h2⟩
theorem TrL.append:∀ {vs vs':List V} {ws ws':List W},TrL K H vs ws→TrL K H vs' ws'→TrL K H (vs++vs') (ws++ws')
 | _,_,_,_,.nil,s=>s
 | _,_,_,_,.cons r t,s=>.cons r (t.append s)
theorem TrL.set {v:V} {w:W} (r:Tr K H v w):∀ {vs:List V} {ws:List W} (i:Nat),TrL K H vs ws→TrL K H (vs.set i v) (ws.set i w)
 | _,_,_,.nil=>.nil
 | _,_,0,.cons _ t=>.cons r t
 | _,_,i+1,.cons q t=>.cons q (TrL.set r i t)
theorem TrL.take:∀ {vs:List V} {ws:List W} (n:Nat),TrL K H vs ws→TrL K H (vs.take n) (ws.take n)
 | _,_,0,_=>.nil
 | _,_,_+1,.nil=>.nil
 | _,_,n+1,.cons r t=>.cons r (TrL.take n t)
theorem TrL.drop:∀ {vs:List V} {ws:List W} (n:Nat),TrL K H vs ws→TrL K H (vs.drop n) (ws.drop n)
 | _,_,0,r=>r
 | _,_,_+1,.nil=>.nil
 | _,_,n+1,.cons _ t=>TrL.drop n t
theorem ZmI {a b:Addr} {vs:List V} {o:HO} (h:SqT K H a vs) (hb:∀ xs,H b≠some (.tup xs)) (hf:∀ ob xs,H b≠some (.frz ob (.tup xs))):SqT K (upd H b o) a vs:=by
 rcases h with (h | ⟨ob,h⟩) | h
 ·exact .inl (.inl (by rw [ZaZ (fun e=>hb _ (e▸h))];exact h))
 ·exact .inl (.inr ⟨ob,by rw [ZaZ (fun e=>hf _ _ (e▸h))];exact h⟩)
 ·exact .inr h
theorem Zmz {a b:Addr} {vs:List V} {o:HO} (h:RoL K H a vs) (hf:∀ ob u,H b≠some (.frz ob u)):RoL K (upd H b o) a vs:=by
 rcases h with ⟨ob,h⟩ | h
 ·exact .inl ⟨ob,by rw [ZaZ (fun e=>hf _ _ (e▸h))];exact h⟩
 ·exact .inr h
theorem Mono.new {p:Addr} (hp:H p=none) (o:HO):Mono K H (upd H p o) :=
 ⟨fun a vs h=>ZmI h (fun xs e=>by rw [hp] at e;cases e) (fun ob xs e=>by rw [hp] at e;cases e),fun a vs h=>Zmz h (fun ob xs e=>by rw [hp] at e;cases e)⟩
theorem Mono.lst {p:Addr} {xs:List V} (hp:H p=some (.lst xs)) (o:HO):Mono K H (upd H p o) :=
 ⟨fun a vs h=>ZmI h (fun xs e=>by rw [hp] at e;cases e) (fun ob xs e=>by rw [hp] at e;cases e),fun a vs h=>Zmz h (fun ob xs e=>by rw [hp] at e;cases e)⟩
theorem Mono.was {p:Addr} {o':HO} (hp:H p=some o') (o:HO) (h1:∀ xs,o'≠.tup xs) (h2:∀ ob u,o'≠.frz ob u):Mono K H (upd H p o) :=
 ⟨fun a vs h=>ZmI h (fun xs e=>by rw [hp] at e;exact h1 _ (Option.some.inj e)) (fun ob xs e=>by rw [hp] at e;exact h2 _ _ (Option.some.inj e)),fun a vs h=>Zmz h (fun ob xs e=>by rw [hp] at e;exact h2 _ _ (Option.some.inj e))⟩
theorem RelH.no {G:Hw} {p:Addr} (r:RelH K H G) (hp:H p=none):G p=none:=by
 cases e:G p with
 | none=>rfl
 | some o=>exact absurd hp (r p o e).some
theorem RelH.mono0 {G:Hw} {p:Addr} {o:HO} (r:RelH K H G) (hp:H p=none):RelH K (upd H p o) G:=fun a u e =>
 have q:=r a u e
 q.mono (Mono.new hp o) (ZaZ (by rintro rfl;exact q.some hp))
theorem RelH.laid {G:Hw} {p:Addr} {o:HO} {u:HW} (r:RelH K H G) (m:Mono K H (upd H p o)) (t:RelO2 K (upd H p o) p u):RelH K (upd H p o) (put G p u):=fun a u' e=>by
 by_cases h:a=p
 ·subst h
  rw [Zab] at e;cases e
  exact t
 ·rw [Zag h] at e
  exact (r a _ e).mono m (ZaZ h)
theorem RelH.new {G:Hw} {p:Addr} {vs:List V} {ws:List W} (r:RelH K H G) (hp:H p=none) (t:TrL K H vs ws):RelH K (upd H p (.lst vs)) (put G p (.lst ws)) :=
 r.laid (Mono.new hp _) ⟨vs,Zbk,t.mono (Mono.new hp _)⟩
theorem RelH.chg {G:Hw} {p:Addr} {xs vs:List V} {ws:List W} (r:RelH K H G) (hp:H p=some (.lst xs)) (t:TrL K H vs ws):RelH K (upd H p (.lst vs)) (put G p (.lst ws)) :=
 r.laid (Mono.lst hp _) ⟨vs,Zbk,t.mono (Mono.lst hp _)⟩
abbrev Kw:=W→Hw→Prop
abbrev GE:=Sw→Hw→Kw→Prop
abbrev GT:=Sw→Hw→(Bool→Hw→Prop)→Prop
abbrev GA:=Sw→Hw→(List W→Hw→Prop)→Prop
structure Ew where
 nx:Sw→Hw→Prop
 rt:Kw
 bk:Sw→Hw→Prop
 ct:Sw→Hw→Prop
abbrev GS:=Ew→Sw→Hw→Prop
abbrev GG:=W→Sw→Hw→(Sw→Hw→Prop)→Prop
def GE.M (g:GE):Prop:=∀ ω G (Q Q':Kw),(∀ w G',Q w G'→Q' w G')→g ω G Q→g ω G Q'
def GT.M (g:GT):Prop:=∀ ω G (Q Q':Bool→Hw→Prop),(∀ w G',Q w G'→Q' w G')→g ω G Q→g ω G Q'
def GA.M (g:GA):Prop:=∀ ω G (Q Q':List W→Hw→Prop),(∀ w G',Q w G'→Q' w G')→g ω G Q→g ω G Q'
def GS.M (g:GS):Prop:=∀ ω G (D D':Ew),(∀ a b,D.nx a b→D'.nx a b)→(∀ a b,D.rt a b→D'.rt a b)→(∀ a b,D.bk a b→D'.bk a b)→(∀ a b,D.ct a b→D'.ct a b)→g D ω G→g D' ω G
def GG.M (g:GG):Prop:=∀ w ω G (Q Q':Sw→Hw→Prop),(∀ a b,Q a b→Q' a b)→g w ω G Q→g w ω G Q'
def dn (K:PySem.W.Frag) (H:Hp) (Q:VK):Kw:=fun w G=>∀ v H',Mono K H H'→Tr K H' v w→RelH K H' G→Q v H'
def dnT (K:PySem.W.Frag) (H:Hp) (Q:Bool→Hp→Prop):Bool→Hw→Prop:=fun b G=>∀ H',Mono K H H'→RelH K H' G→Q b H'
def dnA (K:PySem.W.Frag) (H:Hp) (Q:List V→Hp→Prop):List W→Hw→Prop:=fun ws G=>∀ vs H',Mono K H H'→TrL K H' vs ws→RelH K H' G→Q vs H'
def dnS (K:PySem.W.Frag) (H:Hp) (Q:St→Hp→Prop):Sw→Hw→Prop:=fun ω G=>∀ σ H',Mono K H H'→TrSt K H' σ ω→RelH K H' G→Q σ H'
def dnD (K:PySem.W.Frag) (H:Hp) (D:Zv0):Ew:=⟨dnS K H D.nx,dn K H D.rt,dnS K H D.bk,dnS K H D.ct⟩
theorem ZcZ {Q:VK} (m:Mono K H H') {w:W} {G:Hw} (q:dn K H Q w G):dn K H' Q w G:=fun v H2 m2 t r=>q v H2 (m.trans m2) t r
theorem Zm6 {Q:Bool→Hp→Prop} (m:Mono K H H') {w:Bool} {G:Hw} (q:dnT K H Q w G):dnT K H' Q w G:=fun H2 m2 r=>q H2 (m.trans m2) r
theorem ZsU {Q:St→Hp→Prop} (m:Mono K H H') {w:Sw} {G:Hw} (q:dnS K H Q w G):dnS K H' Q w G:=fun v H2 m2 t r=>q v H2 (m.trans m2) t r
def up (K:PySem.W.Frag) (g:GE):TE:=fun σ H Q=>∃ ω G,TrSt K H σ ω∧RelH K H G∧g ω G (dn K H Q)
def upT (K:PySem.W.Frag) (g:GT):TT:=fun σ H Q=>∃ ω G,TrSt K H σ ω∧RelH K H G∧g ω G (dnT K H Q)
def upA (K:PySem.W.Frag) (g:GA):TA:=fun σ H Q=>∃ ω G,TrSt K H σ ω∧RelH K H G∧g ω G (dnA K H Q)
def upS (K:PySem.W.Frag) (B:Hp) (g:GS):TS:=fun D σ H=>∃ ω G,TrSt K H σ ω∧RelH K H G∧Mono K B H∧g (dnD K B D) ω G
theorem Zbf {X:Cx} {e:Expr} {t t':TE} (h:PE X e t) (i:∀ σ H Q,t' σ H Q→t σ H Q):PE X e t':=fun pins s σ H Q I q=>h pins s σ H Q I (i σ H Q q)
theorem Zm7 {X:Cx} {e:Expr} {t t':TT} (h:PT X e t) (i:∀ σ H Q,t' σ H Q→t σ H Q):PT X e t':=fun pins s σ H Q I q=>h pins s σ H Q I (i σ H Q q)
theorem Zty {X:Cx} {e:List Expr} {t t':TA} (h:PA X e t) (i:∀ σ H Q,t' σ H Q→t σ H Q):PA X e t':=fun pos pins s σ H Q I q=>h pos pins s σ H Q I (i σ H Q q)
theorem ZgD {X:Cx} {e:Stmt} {t t':TS} (h:PS X e t) (i:∀ D σ H,t' D σ H→t D σ H):PS X e t':=fun pins s σ H D I q=>h pins s σ H D I (i D σ H q)
theorem ZmN {X:Cx} {e:List Stmt} {t t':TS} (h:PSs X e t) (i:∀ D σ H,t' D σ H→t D σ H):PSs X e t':=fun pins s σ H D I q=>h pins s σ H D I (i D σ H q)
section
variable {X:Cx} {a b c e:Expr} {es:List Expr} {pos:Pos} {ga gb gc:GE} {gt:GT} {gs:GA}
abbrev PEw (X:Cx) (e:Expr) (g:GE):Prop:=PE X e (up X.K g)
abbrev PTw (X:Cx) (e:Expr) (g:GT):Prop:=PT X e (upT X.K g)
abbrev PAw (X:Cx) (es:List Expr) (g:GA):Prop:=PA X es (upA X.K g)
abbrev PSw (X:Cx) (P:Hp→Prop) (st:Stmt) (g:GS):Prop:=∀ B,P B→PS X st (upS X.K B g)
abbrev ZrN (X:Cx) (P:Hp→Prop) (st:List Stmt) (g:GS):Prop:=∀ B,P B→PSs X st (upS X.K B g)
abbrev ZAh:Hp→Prop:=fun _=>True
def gC (w:W):GE:=fun _ G Q=>Q w G
def Zae (i:Nat):GE:=fun ω G Q=>match ω[i]? with | some (some w)=>Q w G | _=>False
theorem Zv8 {w:W}:GE.M (gC w):=fun _ _ _ _ h q=>h _ _ q
theorem ZxO {i:Nat}:GE.M (Zae i):=fun ω G Q Q' h q=>by
 have z:Zae i ω G Q=(match ω[i]? with | some (some w)=>Q w G | _=>False):=rfl
 have z':Zae i ω G Q'=(match ω[i]? with | some (some w)=>Q' w G | _=>False):=rfl
 rw [z] at q
 rw [z']
 cases e:ω[i]? with
 | none=>rw [e] at q;exact q
 | some o =>
  cases o with
  | none=>rw [e] at q;exact q
  | some w=>rw [e] at q;exact h _ _ q
theorem ZwE {i:Nat} {x:Str} (hN:X.N[i]?=some x) (hv:Vis X.env.scope x) (hd:(x==("__debug__":Str))=false) (hcd:(x==("__classdict__":Str))=false):PEw X (.Name x pos) (Zae i) :=
 Zbf (ZtL hN hv hd hcd) <| by
  rintro σ H Q ⟨ω,G,ts,r,q⟩
  unfold Zae at q
  split at q
  ·rename_i w z
   obtain ⟨v,e,t⟩:=ts.get i w z
   exact ⟨v,e,q v H .refl t r⟩
  ·exact q.elim
theorem Zx7 {i:Int} {j}:PEw X (.Constant (.int i) j pos) (gC (.int i)):=Zbf Zx6 (by rintro σ H Q ⟨ω,G,ts,r,q⟩;exact q _ H .refl (.int i) r)
theorem ZyZ {i:Bool} {j}:PEw X (.Constant (.bool i) j pos) (gC (.bl i)):=Zbf Zy8 (by rintro σ H Q ⟨ω,G,ts,r,q⟩;exact q _ H .refl (.bl i) r)
theorem ZwK {j}:PEw X (.Constant .none j pos) (gC .non):=Zbf ZyB (by rintro σ H Q ⟨ω,G,ts,r,q⟩;exact q _ H .refl .non r)
theorem Zyx {i:Str} {j}:PEw X (.Constant (.str i) j pos) (gC (.str i)):=Zbf Zwf (by rintro σ H Q ⟨ω,G,ts,r,q⟩;exact q _ H .refl (.str i) r)
theorem Zqu {x:Str} {v:V} {w:W} {u:Value} (hg:Gl X x) (hm:X.mg x=some u) (rv:RelV v u) (t:∀ H,Tr X.K H v w) (hd:(x==("__debug__":Str))=false):PEw X (.Name x pos) (gC w) :=
 Zbf (Zvy hg hm rv hd) (by rintro σ H Q ⟨ω,G,ts,r,q⟩;exact q _ H .refl (t H) r)
abbrev RW2:=W→W→Hw→Kw→Prop
def RW2.M (r:RW2):Prop:=∀ x y G (Q Q':Kw),(∀ w G',Q w G'→Q' w G')→r x y G Q→r x y G Q'
def Zak (r:RW2) (ga gb:GE):GE:=fun ω G Q=>ga ω G fun x G1=>gb ω G1 fun y G2=>r x y G2 Q
theorem ZdU {r:RW2} (mr:r.M) (ma:ga.M) (mb:gb.M):GE.M (Zak r ga gb):=fun ω G Q Q' h q=>ma _ _ _ _ (fun x G1 q1=>mb _ _ _ _ (fun y G2 q2=>mr _ _ _ _ _ h q2) q1) q
theorem ZnZ {r:RW2} {r2:R2} (mr:r.M) (ma:ga.M) (mb:gb.M)
  (hr:∀ (x y:W) (v u:V) (G:Hw) (H:Hp) (Q:VK),Tr K H v x→Tr K H u y→RelH K H G→r x y G (dn K H Q)→r2 v u H Q) (σ:St) (H:Hp) (Q:VK) (h:up K (Zak r ga gb) σ H Q):tOp r2 (up K ga) (up K gb) σ H Q:=by
 obtain ⟨ω,G,ts,rh,q⟩:=h
 refine ⟨ω,G,ts,rh,ma _ _ _ _ (fun x G1 q1 v H1 m1 tx r1=>?_) q⟩
 refine ⟨ω,G1,ts.mono m1,r1,mb _ _ _ _ (fun y G2 q2 u H2 m2 ty r2'=>?_) q1⟩
 exact hr x y v u G2 H2 Q (tx.mono m2) ty r2' (mr _ _ _ _ _ (fun w G' z=>ZcZ (m1.trans m2) z) q2)
theorem Zhw {op:Operator} {r:RW2} {r2:R2} (ho:OpR X (binaryOp op) r2) (mr:r.M) (ma:ga.M) (mb:gb.M) (hr:∀ (x y:W) (v u:V) (G:Hw) (H:Hp) (Q:VK),Tr X.K H v x→Tr X.K H u y→RelH X.K H G→r x y G (dn X.K H Q)→r2 v u H Q)
  (ha:PEw X a ga) (hb:PEw X b gb):PEw X (.BinOp a op b pos) (Zak r ga gb):=Zbf (Zy9 ho ha hb) (ZnZ mr ma mb hr)
theorem Zw1 {op:CmpOp} {r:RW2} {r2:R2} (ho:OpR X (compareOp op) r2) (mr:r.M) (ma:ga.M) (mb:gb.M) (hr:∀ (x y:W) (v u:V) (G:Hw) (H:Hp) (Q:VK),Tr X.K H v x→Tr X.K H u y→RelH X.K H G→r x y G (dn X.K H Q)→r2 v u H Q)
  (ha:PEw X a ga) (hb:PEw X b gb) (hm:behindInMarks op b=false):PEw X (.Compare a [op] [b] pos) (Zak r ga gb):=Zbf (ZuF ho ha hb hm) (ZnZ mr ma mb hr)
theorem ZxS {r:RW2} {r2:R2} (ho:IxR X r2) (mr:r.M) (ma:ga.M) (mb:gb.M) (hr:∀ (x y:W) (v u:V) (G:Hw) (H:Hp) (Q:VK),Tr X.K H v x→Tr X.K H u y→RelH X.K H G→r x y G (dn X.K H Q)→r2 v u H Q)
  (ha:PEw X a ga) (hb:PEw X b gb) (hs:Zkw b):PEw X (.Subscript a b pos) (Zak r ga gb):=Zbf (Zzw ho ha hb hs) (ZnZ mr ma mb hr)
end
abbrev Xw:=Sw→Addr→Hw→Prop
abbrev XF:Xw:=fun _ _ _=>False
def upX (K:PySem.W.Frag) (ex:Xw):St→XK:=fun σ Cv _ H'=>∃ C ω G,Cv=.ref C∧TrSt K H' σ ω∧RelH K H' G∧ex ω C G
abbrev ZqG (X:Cx) (ex:Xw):Prop:=Zmf (CXe X.prog X.w) X (upX X.K ex)
abbrev Spw:=List W→Hw→Kw→(Addr→Hw→Prop)→Prop
def dnX (K:PySem.W.Frag) (H:Hp) (E:XK):Addr→Hw→Prop:=fun C G'=>∀ H',Mono K H H'→RelH K H' G'→E (.ref C) none H'
def Zwb (K:PySem.W.Frag) (sp:Spw):Sp:=fun vs H Q E=>∃ ws G,TrL K H vs ws∧RelH K H G∧sp ws G (dn K H Q) (dnX K H E)
def Spw.M (sp:Spw):Prop:=∀ ws G (Q Q':Kw) (E E':Addr→Hw→Prop),(∀ w G',Q w G'→Q' w G')→(∀ w G',E w G'→E' w G')→sp ws G Q E→sp ws G Q' E'
structure Df (P:Program) (w:World) (K:PySem.W.Frag) (mg:Str→Option Value) (base:Heap) (x:Str) (k n:Nat) (sp:Spw):Prop where
 ex:∃ (f:Addr) (fd:FuncData) (ps:List Str),mg x=some (.ref f)∧PySem.W.keepIn K (.ref f)=true∧Binds K fd ps []∧ps.length=n∧FnOk P w K mg base (CXe P w) k f fd ps (Zwb K sp)
 mono:sp.M
section
variable {X:Cx} {e:Expr} {es:List Expr} {pos p:Pos} {ga gb:GE} {gs:GA} {ex:Xw}
def Zaj:GA:=fun _ G Q=>Q [] G
def Zaa (g:GE) (gs:GA):GA:=fun ω G Q=>g ω G fun x G1=>gs ω G1 fun xs G2=>Q (x::xs) G2
theorem ZwY:GA.M Zaj:=fun _ _ _ _ h q=>h _ _ q
theorem Zup (ma:ga.M) (ms:gs.M):GA.M (Zaa ga gs):=fun ω G Q Q' h q=>ma _ _ _ _ (fun x G1 q1=>ms _ _ _ _ (fun xs G2 q2=>h _ _ q2) q1) q
theorem Zyy:PAw X [] Zaj:=Zty ZqV (by rintro σ H Q ⟨ω,G,ts,r,q⟩;exact q [] H .refl .nil r)
theorem Zt7 (ma:ga.M) (ms:gs.M) (ha:PEw X e ga) (hs:PAw X es gs) (hst:starEach (e::es) X.env=(false,eval e X.env)::starEach es X.env:=by rfl):PAw X (e::es) (Zaa ga gs) :=
 Zty (Zki ha hs hst) (by rintro σ H Q ⟨ω,G,ts,r,q⟩;exact ⟨ω,G,ts,r,ma _ _ _ _ (fun x G1 q1 v H1 m1 tx r1=>⟨ω,G1,ts.mono m1,r1,ms _ _ _ _ (fun xs G2 q2 vs H2 m2 txs r2=>q2 _ H2 (m1.trans m2) (.cons (tx.mono m2) txs) r2) q1⟩) q⟩)
def Zah (sp:Spw) (ex:Xw) (gs:GA):GE:=fun ω G Q=>gs ω G fun ws G1=>sp ws G1 Q (ex ω)
theorem ZvH {sp:Spw} (m:sp.M) (ms:gs.M):GE.M (Zah sp ex gs):=fun ω G Q Q' h q=>ms _ _ _ _ (fun ws G1 q1=>m _ _ _ _ _ _ h (fun _ _ z=>z) q1) q
theorem Zue {x:Str} {k n:Nat} {sp:Spw} (D:Df X.prog X.w X.K X.mg X.base x k n sp) (hr:Room k X.A) (hg:Gl X x) (hp:ZqG X ex) (ms:gs.M) (ha:PAw X (e::es) gs)
  (hdb:(x==("__debug__":Str))=false:=by decide) (he:starEach (e::es) X.env=(false,eval e X.env)::starEach es X.env:=by rfl) (hpl:(backTo pos (starEach es X.env)).any (·.1)=false:=by rfl) :
  PEw X (.Call (.Name x p) (e::es) [] pos) (Zah sp ex gs):=by
 obtain ⟨f,fd,ps,hm,hk,hb,_,F⟩:=D.ex
 refine Zbf (Zrt F hr hg hm hk hb .nil hp ha hdb he hpl) fun σ H Q zz1=>?_
 obtain ⟨ω,G,ts,r,q⟩:=zz1
 refine ⟨ω,G,ts,r,ms _ _ _ _ (fun ws G1 q1 vs H1 m1 tvs r1=>?_) q⟩
 refine ⟨ws,G1,by rw [List.append_nil];exact tvs,r1,D.mono _ _ _ _ _ _ (fun w G' z=>ZcZ m1 z) (fun C G' z H2 m2 r2=>?_) q1⟩
 exact ⟨C,ω,G',rfl,(ts.mono m1).mono m2,r2,z⟩
end
def Zbx (N:List Str) (ws:List W):Sw:=ws.map some++List.replicate (N.length - ws.length) none
theorem Zjh {N:List Str} {vs:List V} {ws:List W} (t:TrL K H vs ws):TrSt K H (L2.Ziy N vs) (Zbx N ws):=by
 have hl:=t.length
 refine ⟨by simp [L2.Ziy,Zbx,hl],fun i w e=>?_⟩
 unfold Zbx at e
 by_cases hi:i < ws.length
 ·rw [List.getElem?_append_left (by simpa using hi),List.getElem?_map] at e
  cases z:ws[i]? with
  | none=>rw [z] at e;cases e
  | some w' =>
   rw [z] at e
   cases e
   obtain ⟨v,e1,r⟩:=t.get z
   exact ⟨v,by unfold L2.Ziy;rw [List.getElem?_append_left (by simp;omega),List.getElem?_map,e1];rfl,r⟩
 ·rw [List.getElem?_append_right (by simpa using hi),List.getElem?_replicate] at e
  split at e <;> cases e
def Sub (G G':Hw):Prop:=∀ a o,G a=some o→G' a=some o
theorem Sub.refl {G:Hw}:Sub G G:=fun _ _ h=>h
theorem Sub.trans {G G1 G2:Hw} (a:Sub G G1) (b:Sub G1 G2):Sub G G2:=fun c o h=>b c o (a c o h)
theorem Sub.put {G G':Hw} {a:Addr} {o:HW} (h:Sub G G') (hn:G a=none):Sub G (put G' a o):=fun c u z=>by
 rw [Zag (fun e=>by rw [e,hn] at z;cases z)]
 exact h c u z
theorem RelH.sub {G G':Hw} (r:RelH K H G') (s:Sub G G'):RelH K H G:=fun a o e=>r a o (s a o e)
def Kw.C (Q:Kw):Prop:=∀ w G G',Sub G G'→Q w G→Q w G'
def Xc (E:Addr→Hw→Prop):Prop:=∀ w G G',Sub G G'→E w G→E w G'
theorem Zz0 {Q:VK}:Kw.C (dn K H Q):=fun w G G' s q v H2 m t r=>q v H2 m t (r.sub s)
def ZaL (Q:Kw):Ew:=⟨fun _ G=>Q .non G,Q,fun _ _=>False,fun _ _=>False⟩
section
variable {P:Program} {w:World} {mg:Str→Option Value} {base:Heap}
abbrev cxW (P:Program) (w:World) (K:PySem.W.Frag) (mg:Str→Option Value) (base:Heap) (N:List Str) (qual:Str) (scope:Scope) (f:Addr) (cd:Value) (A:Around) (outer:List Env) (s:Shared) (H:Hp) (E:XK):Cx :=
 ZvT (CXe P w) P w K mg base N qual scope f cd A outer s H E
end
section
variable {X:Cx} {a b c e:Expr} {st:Stmt} {sts sts':List Stmt} {pos pos':Pos} {ga gb gc:GE} {gt gu:GT} {g1 g2:GS} {ex:Xw} {P:Hp→Prop}
def Zan:GS:=fun D ω G=>D.nx ω G
def Zat (g1 g2:GS):GS:=fun D ω G=>g1 { D with nx:=g2 D } ω G
theorem ZvO:GS.M Zan:=fun _ _ _ _ h _ _ _ q=>h _ _ q
theorem Zwx (m1:g1.M) (m2:g2.M):GS.M (Zat g1 g2):=fun ω G D D' h1 h2 h3 h4 q=>m1 _ _ { D with nx:=g2 D } _ (fun _ _ z=>m2 _ _ _ _ h1 h2 h3 h4 z) h2 h3 h4 q
theorem Zu9:ZrN X P [] Zan:=fun B hB=>ZmN ZvV (by rintro D σ H ⟨ω,G,ts,r,mb,q⟩;exact q σ H mb ts r)
theorem ZrT (m1:g1.M) (m2:g2.M) (h1:PSw X P st g1) (h2:ZrN X P sts g2):ZrN X P (st::sts) (Zat g1 g2):=fun B hB =>
 ZmN (Zs3 (h1 B hB) (h2 B hB)) (by rintro D σ H ⟨ω,G,ts,r,mb,q⟩;exact ⟨ω,G,ts,r,mb,m1 _ _ { dnD X.K B D with nx:=g2 (dnD X.K B D) } _ (fun ω' G' z σ' H' m ts' r'=>⟨ω',G',ts',r',m,z⟩) (fun _ _ z=>z) (fun _ _ z=>z) (fun _ _ z=>z) q⟩)
theorem Zut (h1:PSw X P st g1):ZrN X P [st] g1:=fun B hB=>ZmN (Zve (h1 B hB)) fun D σ H z=>z
def Zbj (i:Nat) (ga:GE):GS:=fun D ω G=>ga ω G fun w G1=>D.nx (ω.set i (some w)) G1
theorem ZwI {i:Nat} (ma:ga.M):GS.M (Zbj i ga):=fun ω G D D' h _ _ _ q=>ma _ _ _ _ (fun _ _ z=>h _ _ z) q
theorem Zww {i:Nat} {x:Str} (hN:X.N.Nodup) (hi:X.N[i]?=some x) (hx:Loc X.env.scope x) (ma:ga.M) (ha:PEw X e ga) (hs:swapsWith e (some (.Name x pos')) pos.line X.env=pure false) (hf:X.fn x=true∨X.env.scope.names.lookup x=some .local) :
  PSw X P (.Assign [.Name x pos'] e pos) (Zbj i ga):=fun B hB =>
 ZgD (Zwj hN hi hx ha hs hf) (by rintro D σ H ⟨ω,G,ts,r,mb,q⟩;exact ⟨ω,G,ts,r,ma _ _ _ _ (fun w G1 z v H1 m t r1=>z _ H1 (mb.trans m) ((ts.mono m).set i t) r1) q⟩)
def Zay (ga:GE):GS:=fun D ω G=>ga ω G D.rt
theorem Zwy (ma:ga.M):GS.M (Zay ga):=fun ω G D D' _ h _ _ q=>ma _ _ _ _ (fun _ _ z=>h _ _ z) q
theorem Zyv (ma:ga.M) (ha:PEw X e ga):PSw X P (.Return (some e) pos) (Zay ga):=fun B hB=>ZgD (Zwp ha) (by rintro D σ H ⟨ω,G,ts,r,mb,q⟩;exact ⟨ω,G,ts,r,ma _ _ _ _ (fun w G1 z v H1 m t r1=>z v H1 (mb.trans m) t r1) q⟩)
def Zbv (ga:GE):GS:=fun D ω G=>ga ω G fun _ G1=>D.nx ω G1
theorem Zvt (ma:ga.M):GS.M (Zbv ga):=fun ω G D D' h _ _ _ q=>ma _ _ _ _ (fun _ _ z=>h _ _ z) q
theorem ZvG (ma:ga.M) (ha:PEw X e ga) (hs:swapsWith e none pos.line X.env=pure false):PSw X P (.Expr e pos) (Zbv ga):=fun B hB =>
 ZgD (ZuA ha hs) (by rintro D σ H ⟨ω,G,ts,r,mb,q⟩;exact ⟨ω,G,ts,r,ma _ _ _ _ (fun w G1 z v H1 m t r1=>z _ H1 (mb.trans m) (ts.mono m) r1) q⟩)
def gIf (gt:GT) (g1 g2:GS):GS:=fun D ω G=>gt ω G fun b G1=>if b=true then g1 D ω G1 else g2 D ω G1
theorem Zzy (mt:gt.M) (m1:g1.M) (m2:g2.M):GS.M (gIf gt g1 g2):=fun ω G D D' h1 h2 h3 h4 q=>mt _ _ _ _ (fun b G1 z=>by
 cases b with
 | true=>exact m1 _ _ _ _ h1 h2 h3 h4 z
 | false=>exact m2 _ _ _ _ h1 h2 h3 h4 z) q
theorem Zzf (mt:gt.M) (m1:g1.M) (m2:g2.M) (hc:PTw X c gt) (h1:ZrN X P sts g1) (h2:ZrN X P sts' g2):PSw X P (.If c sts sts' pos) (gIf gt g1 g2):=fun B hB =>
 ZgD (ZzC hc (h1 B hB) (h2 B hB)) fun D σ H ⟨ω,G,ts,r,mb,q⟩=>⟨ω,G,ts,r,mt _ _ _ _ (fun b G1 z H1 m r1=>by
  cases b with
  | true=>exact ⟨ω,G1,ts.mono m,r1,mb.trans m,z⟩
  | false=>exact ⟨ω,G1,ts.mono m,r1,mb.trans m,z⟩) q⟩
def gTB (g:GE):GT:=fun ω G Q=>g ω G fun w G1=>match w with | .bl b=>Q b G1 | _=>False
theorem Zw2 (m:ga.M):GT.M (gTB ga):=fun ω G Q Q' h q=>m _ _ _ _ (fun w G1 z=>by
 cases w <;> first | exact h _ _ z | exact z) q
theorem ZmR {v:V} {b:Bool} (t:Tr K H v (.bl b)):v=.bl b:=by cases t;rfl
theorem Ztc {v:V} {b:Int} (t:Tr K H v (.int b)):v=.int b:=by cases t;rfl
theorem Zxz {v:V} {b:Str} (t:Tr K H v (.str b)):v=.str b:=by cases t;rfl
theorem ZwA (m:ga.M) {f:Bool→Hp→Prop} {σ:St} (h:upT K (gTB ga) σ H f):up K ga σ H (fun x H1=>∃ k,x=.bl k∧f k H1):=by
 obtain ⟨ω,G,ts,r,q⟩:=h
 refine ⟨ω,G,ts,r,m _ _ _ _ (fun w G1 z v H1 m1 t r1=>?_) q⟩
 cases w with
 | bl b=>exact ⟨b,ZmR t,z H1 m1 r1⟩
 | _=>exact z.elim
theorem Zwk {op:CmpOp} {r:RW2} {r2:R2} (ho:OpR X (compareOp op) r2) (mr:r.M) (ma:ga.M) (mb:gb.M) (hr:∀ (x y:W) (v u:V) (G:Hw) (H:Hp) (Q:VK),Tr X.K H v x→Tr X.K H u y→RelH X.K H G→r x y G (dn X.K H Q)→r2 v u H Q)
  (ha:PEw X a ga) (hb:PEw X b gb) (hm:behindInMarks op b=false):PTw X (.Compare a [op] [b] pos) (gTB (Zak r ga gb)) :=
 Zm7 (Zuv ho ha hb hm) fun σ H Q z=>ZnZ mr ma mb hr σ H _ (ZwA (ZdU mr ma mb) z)
def Zeo (w:W) (G:Hw):Option Bool:=match w with
 | .non=>some false
 | .bl b=>some b
 | .int i=>some (i != 0)
 | .tup xs=>some (!xs.isEmpty)
 | .rol xs=>some (!xs.isEmpty)
 | .ref a=>match G a with | some (.lst xs)=>some (!xs.isEmpty) | _=>none
 | .str _=>none
def Zcj (g:GE):GT:=fun ω G Q=>g ω G fun w G1=>match Zeo w G1 with | some b=>Q b G1 | none=>False
theorem ZxK (m:ga.M):GT.M (Zcj ga):=fun ω G Q Q' h q=>m _ _ _ _ (fun w G1 z=>by
 cases e:Zeo w G1 with
 | none=>rw [e] at z;exact z
 | some b=>rw [e] at z;exact h _ _ z) q
theorem Zg0:∀ {vs:List V} {ws:List W},TrL K H vs ws→vs.isEmpty=ws.isEmpty
 | _,_,.nil=>rfl
 | _,_,.cons _ _=>rfl
theorem Zu3 {v:V} {w:W} {G:Hw} {b:Bool} (t:Tr K H v w) (r:RelH K H G) (e:Zeo w G=some b):Zzn K v H b:=by
 cases t with
 | non=>cases e;rfl
 | bl c=>cases e;rfl
 | int i=>cases e;rfl
 | str x=>cases e
 | tup h l=>cases e;exact .inr (.inl ⟨_,h,by rw [Zg0 l]⟩)
 | rol h l=>cases e;exact .inl ⟨_,h.sq,by rw [Zg0 l]⟩
 | ref a =>
  unfold Zeo at e
  dsimp only at e
  cases z:G a with
  | none=>rw [z] at e;cases e
  | some o =>
   rw [z] at e
   cases o with
   | exc C=>cases e
   | ins C fs=>cases e
   | dct kvs=>cases e
   | lst xs =>
    cases e
    obtain ⟨vs,e1,l⟩:=r a _ z
    exact .inl ⟨vs,SqL.of e1,by rw [Zg0 l]⟩
theorem Zx9 (ma:ga.M) (ha:PEw X e ga) (he:∀ whole,isTrue e X.env whole=(do let v ← whole;standAt e.pos;holding [v] (truthy v)):=by intro _;rfl):PTw X e (Zcj ga) :=
 Zm7 (Zs0 ha he) fun σ H Q ⟨ω,G,ts,r,q⟩=>⟨ω,G,ts,r,ma _ _ _ _ (fun w G1 z v H1 m t r1=>by
  cases e1:Zeo w G1 with
  | none=>rw [e1] at z;exact z.elim
  | some b=>rw [e1] at z;exact ⟨b,Zu3 t r1 e1,z H1 m r1⟩) q⟩
def gNt (g:GT):GT:=fun ω G Q=>g ω G fun b G1=>Q (!b) G1
theorem ZyX (m:gt.M):GT.M (gNt gt):=fun ω G Q Q' h q=>m _ _ _ _ (fun w G1 z=>h _ _ z) q
theorem Zwu (ha:PTw X a gt):PTw X (.UnaryOp .Not a pos) (gNt gt):=Zm7 (ZwT ha) fun σ H Q z=>z
abbrev PWw (X:Cx) (e:Expr) (g:GT):Prop:=PW X e (upT X.K g)
theorem Zne {e:Expr} {t t':TT} (h:PW X e t) (i:∀ σ H Q,t' σ H Q→t σ H Q):PW X e t':=fun wh pins s σ H Q I q=>h wh pins s σ H Q I (i σ H Q q)
def Zf2 (g1 g2:GT):GT:=fun ω G Q=>g1 ω G fun b G1=>if b=true then g2 ω G1 Q else Q false G1
def gOr (g1 g2:GT):GT:=fun ω G Q=>g1 ω G fun b G1=>if b=true then Q true G1 else g2 ω G1 Q
theorem ZwP (m1:gt.M) (m2:gu.M):GT.M (Zf2 gt gu):=fun ω G Q Q' h q=>m1 _ _ _ _ (fun b G1 z=>by
 cases b with
 | true=>exact m2 _ _ _ _ h z
 | false=>exact h _ _ z) q
theorem Zzu (m1:gt.M) (m2:gu.M):GT.M (gOr gt gu):=fun ω G Q Q' h q=>m1 _ _ _ _ (fun b G1 z=>by
 cases b with
 | true=>exact h _ _ z
 | false=>exact m2 _ _ _ _ h z) q
variable {Zdr:List Expr}
theorem Zvn (ha:PTw X a gt):PWw X (.BoolOp .And [a] pos) gt:=Zne (Zvm ha) fun σ H Q z=>z
theorem ZwW (ha:PTw X a gt):PWw X (.BoolOp .Or [a] pos) gt:=Zne (ZyE ha) fun σ H Q z=>z
theorem ZwQ (m1:gt.M) (m2:gu.M) (ha:PTw X a gt) (hb:PWw X (.BoolOp .And (b::Zdr) pos) gu):PWw X (.BoolOp .And (a::b::Zdr) pos) (Zf2 gt gu) :=
 Zne (Zxo ha hb) fun σ H Q ⟨ω,G,ts,r,q⟩=>⟨ω,G,ts,r,m1 _ _ _ _ (fun b G1 z H1 m r1=>by
  cases b with
  | true=>exact ⟨ω,G1,ts.mono m,r1,m2 _ _ _ _ (fun _ _ z=>Zm6 m z) z⟩
  | false=>exact z H1 m r1) q⟩
theorem Zzi (m1:gt.M) (m2:gu.M) (ha:PTw X a gt) (hb:PWw X (.BoolOp .Or (b::Zdr) pos) gu):PWw X (.BoolOp .Or (a::b::Zdr) pos) (gOr gt gu) :=
 Zne (Zy7 ha hb) fun σ H Q ⟨ω,G,ts,r,q⟩=>⟨ω,G,ts,r,m1 _ _ _ _ (fun b G1 z H1 m r1=>by
  cases b with
  | true=>exact z H1 m r1
  | false=>exact ⟨ω,G1,ts.mono m,r1,m2 _ _ _ _ (fun _ _ z=>Zm6 m z) z⟩) q⟩
theorem ZvS {op:BoolOp} {vs:List Expr} (h:PWw X (.BoolOp op vs pos) gt):PTw X (.BoolOp op vs pos) gt:=PW.pt h
def Zci (ga gb:GE):GE:=fun ω G Q=>ga ω G fun x G1=>match x with | .bl c=>if c=true then gb ω G1 Q else Q (.bl false) G1 | _=>False
def Zjj (ga gb:GE):GE:=fun ω G Q=>ga ω G fun x G1=>match x with | .bl c=>if c=true then Q (.bl true) G1 else gb ω G1 Q | _=>False
def Zdg (ga:GE):GE:=fun ω G Q=>ga ω G fun x G1=>match x with | .bl c=>Q (.bl (!c)) G1 | _=>False
def Zgi (gt:GT) (ga gb:GE):GE:=fun ω G Q=>gt ω G fun c G1=>if c=true then ga ω G1 Q else gb ω G1 Q
theorem Zug (ma:ga.M) (mb:gb.M):GE.M (Zci ga gb):=fun ω G Q Q' h q=>ma _ _ _ _ (fun x G1 z=>by
 cases x with
 | bl c =>
  cases c with
  | true=>exact mb _ _ _ _ h z
  | false=>exact h _ _ z
 | _=>exact z) q
theorem Zyl (ma:ga.M) (mb:gb.M):GE.M (Zjj ga gb):=fun ω G Q Q' h q=>ma _ _ _ _ (fun x G1 z=>by
 cases x with
 | bl c =>
  cases c with
  | true=>exact h _ _ z
  | false=>exact mb _ _ _ _ h z
 | _=>exact z) q
theorem Zun (ma:ga.M):GE.M (Zdg ga):=fun ω G Q Q' h q=>ma _ _ _ _ (fun x G1 z=>by
 cases x with
 | bl c=>exact h _ _ z
 | _=>exact z) q
theorem Zyc (mt:gt.M) (ma:ga.M) (mb:gb.M):GE.M (Zgi gt ga gb):=fun ω G Q Q' h q=>mt _ _ _ _ (fun c G1 z=>by
 cases c with
 | true=>exact ma _ _ _ _ h z
 | false=>exact mb _ _ _ _ h z) q
theorem Zx4 {op:BoolOp} (h:PEw X a ga):PEw X (.BoolOp op [a] pos) ga:=Zwn h
theorem ZyC (ma:ga.M) (mb:gb.M) (ha:PEw X a ga) (hb:PEw X (.BoolOp .And (b::Zdr) pos) gb):PEw X (.BoolOp .And (a::b::Zdr) pos) (Zci ga gb) :=
 Zbf (ZyM ha hb) fun σ H Q ⟨ω,G,ts,r,q⟩=>⟨ω,G,ts,r,ma _ _ _ _ (fun x G1 z v H1 m t r1=>by
  cases x with
  | bl c =>
   refine ⟨c,ZmR t,?_⟩
   cases c with
   | true=>exact ⟨ω,G1,ts.mono m,r1,mb _ _ _ _ (fun _ _ z=>ZcZ m z) z⟩
   | false=>exact z _ H1 m (.bl false) r1
  | _=>exact z.elim) q⟩
theorem Zy5 (ma:ga.M) (mb:gb.M) (ha:PEw X a ga) (hb:PEw X (.BoolOp .Or (b::Zdr) pos) gb):PEw X (.BoolOp .Or (a::b::Zdr) pos) (Zjj ga gb) :=
 Zbf (ZyY ha hb) fun σ H Q ⟨ω,G,ts,r,q⟩=>⟨ω,G,ts,r,ma _ _ _ _ (fun x G1 z v H1 m t r1=>by
  cases x with
  | bl c =>
   refine ⟨c,ZmR t,?_⟩
   cases c with
   | true=>exact z _ H1 m (.bl true) r1
   | false=>exact ⟨ω,G1,ts.mono m,r1,mb _ _ _ _ (fun _ _ z=>ZcZ m z) z⟩
  | _=>exact z.elim) q⟩
theorem ZxM (ma:ga.M) (ha:PEw X a ga):PEw X (.UnaryOp .Not a pos) (Zdg ga) :=
 Zbf (Zxf ha) fun σ H Q ⟨ω,G,ts,r,q⟩=>⟨ω,G,ts,r,ma _ _ _ _ (fun x G1 z v H1 m t r1=>by
  cases x with
  | bl c=>exact ⟨c,ZmR t,z _ H1 m (.bl _) r1⟩
  | _=>exact z.elim) q⟩
theorem ZxF (mt:gt.M) (ma:ga.M) (mb:gb.M) (hc:PTw X c gt) (ha:PEw X a ga) (hb:PEw X b gb):PEw X (.IfExp c a b pos) (Zgi gt ga gb) :=
 Zbf (Zsd hc ha hb) fun σ H Q ⟨ω,G,ts,r,q⟩=>⟨ω,G,ts,r,mt _ _ _ _ (fun c G1 z H1 m r1=>by
  cases c with
  | true=>exact ⟨ω,G1,ts.mono m,r1,ma _ _ _ _ (fun _ _ z=>ZcZ m z) z⟩
  | false=>exact ⟨ω,G1,ts.mono m,r1,mb _ _ _ _ (fun _ _ z=>ZcZ m z) z⟩) q⟩
variable {es:List Expr} {gs:GA}
def Zbq (gs:GA):GE:=fun ω G Q=>gs ω G fun ws G1=>ws.length≤sizeLine∧Q (.tup ws) G1
def Zb1 (gs:GA):GE:=fun ω G Q=>gs ω G fun ws G1=>ws.length≤sizeLine∧∀ p,G1 p=none→Q (.ref p) (put G1 p (.lst ws))
theorem Zwz (m:gs.M):GE.M (Zbq gs):=fun ω G Q Q' h q=>m _ _ _ _ (fun ws G1 z=>⟨z.1,h _ _ z.2⟩) q
theorem ZxD (m:gs.M):GE.M (Zb1 gs):=fun ω G Q Q' h q=>m _ _ _ _ (fun ws G1 z=>⟨z.1,fun p hp=>h _ _ (z.2 p hp)⟩) q
theorem ZwL {x1} (m:gs.M) (h:PAw X es gs):PEw X (.Tuple es x1 pos) (Zbq gs) :=
 Zbf (Zya h) fun σ H Q ⟨ω,G,ts,r,q⟩=>⟨ω,G,ts,r,m _ _ _ _ (fun ws G1 z vs H1 m1 t r1=>⟨by rw [t.length];exact z.1,fun p hp =>
  z.2 _ _ (m1.trans (Mono.new hp _)) (.tup (SqT.of Zbk) (t.mono (Mono.new hp _))) (r1.mono0 hp)⟩) q⟩
theorem ZwZ (m:gs.M) (h:PAw X es gs):PEw X (.List es pos) (Zb1 gs) :=
 Zbf (ZxH h) fun σ H Q ⟨ω,G,ts,r,q⟩=>⟨ω,G,ts,r,m _ _ _ _ (fun ws G1 z vs H1 m1 t r1=>⟨by rw [t.length];exact z.1,fun p hp =>
  z.2 p (r1.no hp) _ _ (m1.trans (Mono.new hp _)) (.ref p) (r1.new hp t)⟩) q⟩
end
def Zh6 (z:Str):List V:=z.cps.toList.map fun c=>V.str ⟨#[c]⟩
def Itk (xs:List V):It:=⟨fun i _=>i < xs.length,fun i H x H'=>H'=H∧xs[i]?=some x,fun i _=>xs.length≤i⟩
theorem Zod {P:Program} {w:World} {tg:Expr} (ht:∀ it u,letOwnedTupleGo tg it u=pure ()) (it:Addr) (z:Str) (t:Tok):ZvN P w K tg (Itk (Zh6 z)) [it] it (fun i h=>h.IsStrIter it "str_ascii_iterator" z t i) where
 mem:=by simp
 obj:=fun i h st b hb=>by
  have e:b=it:=by simpa using hb
  subst e
  obtain ⟨o,e,c,d⟩:=st
  exact ⟨o,e,fun v z=>by rw [d] at z;cases z⟩
 keep:=fun i h h' st k=>by
  obtain ⟨o,e,c,d⟩:=st
  exact ⟨o,k it (by simp) o e,c,d⟩
 item:=by
  walk_at "pj"
  subst hP hw hK
  walk_at "po"
  have W:=Walks.strAscii (prog:=X.prog) (w:=X.w) (I.ok.hd hc) it z t
  have hi:i < z.cps.size:=by simpa [Zh6,Itk] using hg
  refine W.item i s _ _ hi st fun v h' tk hv st' kk=>?_
  obtain ⟨c,t',hc',rfl⟩:=hv
  have I1:Inv X pins σ H { s with heap:=h',toks:=tk }:=I.turned (fun b o hb e=>kk b o (by simpa using hb) e) f0 f1 f3 f4 f5
  exact ⟨_,rfl,wpAny_of_eq (ht _ _) ⟨.str ⟨#[c]⟩,H,I1,⟨_,rfl⟩,⟨rfl,by simp [Zh6,hc']⟩,st',fun b hb=>(hf b hb).1⟩⟩
 done:=by
  walk_at "pj"
  subst hP hw hK
  walk_at "po"
  have hi:z.cps.size≤i:=by simpa [Zh6,Itk] using hg
  exact wpAny_pyNext_ascii_end (I.ok.hd hc) st (by simp [hi]) fun h' eb=>⟨rfl,I.turned (t':=s.toks) (fun b o hb e=>eb b o hb e) f0 f1 f3 f4 f5⟩
 self:=fun A i s Q E st h=>wpAny_pyIter_striter_ascii st h
theorem ZqB {P:Program} {w:World} {tg:Expr} (ht:∀ it u,letOwnedTupleGo tg it u=pure ()) (it:Addr) (z:Str) (t:Tok):ZvN P w K tg (Itk (Zh6 z)) [it] it (fun i h=>h.IsStrIter it "str_iterator" z t i) where
 mem:=by simp
 obj:=fun i h st b hb=>by
  have e:b=it:=by simpa using hb
  subst e
  obtain ⟨o,e,c,d⟩:=st
  exact ⟨o,e,fun v z=>by rw [d] at z;cases z⟩
 keep:=fun i h h' st k=>by
  obtain ⟨o,e,c,d⟩:=st
  exact ⟨o,k it (by simp) o e,c,d⟩
 item:=by
  walk_at "pj"
  subst hP hw hK
  walk_at "po"
  have W:=Walks.strWide (prog:=X.prog) (w:=X.w) (I.ok.hd hc) it z t
  have hi:i < z.cps.size:=by simpa [Zh6,Itk] using hg
  refine W.item i s _ _ hi st fun v h' tk hv st' kk=>?_
  obtain ⟨c,t',hc',rfl⟩:=hv
  have I1:Inv X pins σ H { s with heap:=h',toks:=tk }:=I.turned (fun b o hb e=>kk b o (by simpa using hb) e) f0 f1 f3 f4 f5
  exact ⟨_,rfl,wpAny_of_eq (ht _ _) ⟨.str ⟨#[c]⟩,H,I1,⟨_,rfl⟩,⟨rfl,by simp [Zh6,hc']⟩,st',fun b hb=>(hf b hb).1⟩⟩
 done:=by
  walk_at "pj"
  subst hP hw hK
  walk_at "po"
  have hi:z.cps.size≤i:=by simpa [Zh6,Itk] using hg
  exact wpAny_pyNext_wide_end (I.ok.hd hc) st (by simp [hi]) fun h' eb=>⟨rfl,I.turned (t':=s.toks) (fun b o hb e=>eb b o hb e) f0 f1 f3 f4 f5⟩
 self:=fun A i s Q E st h=>wpAny_pyIter_striter_wide st h
def ZAA (K:PySem.W.Frag) (tl:TE):TI:=fun σ H R=>tl σ H fun x H1=>(∃ a,x=.ref a∧(∃ xs,SqL K H1 a xs)∧R (Itl K a) H1)∨(∃ a,x=.ref a∧(∃ xs,SqT K H1 a xs)∧R (Itt K a) H1)∨(∃ z,x=.str z∧R (Itk (Zh6 z)) H1)
theorem Zyf {X:Cx} {tg l:Expr} {tl:TE} (ht:∀ it u,letOwnedTupleGo tg it u=pure ()) (hl:PE X l tl):PI X tg l (ZAA X.K tl):=by
 intro pins s σ H R I h
 refine thn (hl pins s σ H _ I h) fun v s1 zz1=>?_
 obtain ⟨x,H1,I1,r1,q1⟩:=zz1
 rcases q1 with ⟨a,e,⟨xs,hq⟩,q⟩ | ⟨a,e,⟨xs,hq⟩,q⟩ | ⟨z,e,q⟩
 ·subst e
  cases r1
  obtain ⟨its,rv,p,hz⟩:=I1.list hq
  refine wpAny_pyIter_list p.isList ?_
  walk_at "ph"
  have e:b=s1.heap.objs.size:=by simpa using hb
  subst e
  walk_at "pt"
 ·subst e
  cases r1
  obtain ⟨its,rv,p,hz⟩:=I1.tuple hq
  refine wpAny_pyIter_tuple (show s1.heap.IsTuple a its.toArray from p) ?_
  walk_at "pi"
  have e:b=s1.heap.objs.size:=by simpa using hb
  subst e
  walk_at "pt"
 ·subst e
  obtain ⟨t,rfl⟩:=r1
  have fp:∀ b∈[s1.heap.objs.size],Zpl X pins H1 b:=fun b hb=>by
   have e:b=s1.heap.objs.size:=by simpa using hb
   subst e
   walk_at "pt"
  cases ha:z.cps.all (· < 128)
  ·exact wpAny_pyIter_wide ha ⟨s1.heap.objs.size,[s1.heap.objs.size],_,_,H1,rfl,I1.kept (t':=s1.toks) fun b o e=>Heap.get?_push_of_some _ e,ZqB ht _ z t,⟨_,Heap.get?_push_size _ rfl,rfl,rfl⟩,fp,q⟩
  ·exact wpAny_pyIter_ascii ha ⟨s1.heap.objs.size,[s1.heap.objs.size],_,_,H1,rfl,I1.kept (t':=s1.toks) fun b o e=>Heap.get?_push_of_some _ e,Zod ht _ z t,⟨_,Heap.get?_push_size _ rfl,rfl,rfl⟩,fp,q⟩
abbrev GI:=Sw→Hw→(List W→(Hw→Prop)→Hw→Prop)→Prop
def GI.M (g:GI):Prop:=∀ ω G (R R':List W→(Hw→Prop)→Hw→Prop),(∀ ws gd G',R ws gd G'→R' ws gd G')→g ω G R→g ω G R'
def ZiN (z:Str):List W:=z.cps.toList.map fun c=>W.str ⟨#[c]⟩
theorem Zpa {z:Str}:TrL K H (Zh6 z) (ZiN z):=by
 unfold Zh6 ZiN
 generalize z.cps.toList=l
 induction l with
 | nil=>exact .nil
 | cons c l ih=>exact .cons (.str _) ih
def yes:Hw→Prop:=fun _=>True
def holds (a:Addr) (ws:List W):Hw→Prop:=fun G=>G a=some (.lst ws)
def Za7 (ga:GE):GI:=fun ω G R=>ga ω G fun w G1=>match w with
 | .tup ws=>R ws yes G1
 | .rol ws=>R ws yes G1
 | .str z=>R (ZiN z) yes G1
 | .ref a=>match G1 a with | some (.lst ws)=>R ws (holds a ws) G1 | _=>False
 | _=>False
theorem Zua {ga:GE} (m:ga.M):GI.M (Za7 ga):=fun ω G R R' h q=>m _ _ _ _ (fun w G1 z=>by
 cases w with
 | tup ws=>exact h _ _ _ z
 | rol ws=>exact h _ _ _ z
 | str x=>exact h _ _ _ z
 | ref a =>
  dsimp only at z ⊢
  cases e:G1 a with
  | none=>rw [e] at z;exact z
  | some o =>
   rw [e] at z
   cases o with
   | lst ws=>exact h _ _ _ z
   | exc C=>exact z
   | ins C fs=>exact z
   | dct kvs=>exact z
 | _=>exact z) q
structure Zv4 (K:PySem.W.Frag) (H1:Hp) (J:It) (ws:List W) (gd:Hw→Prop):Prop where
 go:∀ (i:Nat) (H:Hp) (G:Hw),Mono K H1 H→RelH K H G→gd G→i < ws.length→J.go i H
 yld:∀ (i:Nat) (H:Hp) (G:Hw) (x:V) (H':Hp),Mono K H1 H→RelH K H G→gd G→J.yld i H x H'→i < ws.length→Mono K H H'∧RelH K H' G∧∃ w,ws[i]?=some w∧Tr K H' x w
 stop:∀ (H:Hp) (G:Hw),Mono K H1 H→RelH K H G→gd G→J.stop ws.length H
theorem Zkl {H H':Hp} {G:Hw} {x:V} {ws:List W} {i:Nat} (r:RelH K H G) (e:H'=H) (h:∃ w,ws[i]?=some w∧Tr K H x w):Mono K H H'∧RelH K H' G∧∃ w,ws[i]?=some w∧Tr K H' x w:=by
 subst e;exact ⟨.refl,r,h⟩
theorem ZhJ {a:Addr} {ws:List W} {gd:Hw→Prop} {H1:Hp} (h:∀ H G,Mono K H1 H→RelH K H G→gd G→∃ vs,SqL K H a vs∧TrL K H vs ws):Zv4 K H1 (Itl K a) ws gd where
 go:=fun i H G m r g hi=>by
  obtain ⟨vs,q,t⟩:=h H G m r g
  have hl:=t.length
  exact ⟨vs,vs[i]'(by omega),q,by simp⟩
 yld:=fun i H G x H' m r g y hi=>by
  obtain ⟨vs,q,t⟩:=h H G m r g
  obtain ⟨w,e,tw⟩:=t.get' (y.2 vs q)
  exact Zkl r y.1 ⟨w,e,tw⟩
 stop:=fun H G m r g=>by
  obtain ⟨vs,q,t⟩:=h H G m r g
  exact ⟨vs,q,Nat.le_of_eq t.length⟩
theorem ZnK {a:Addr} {vs:List V} {ws:List W} {gd:Hw→Prop} {H1:Hp} (q:SqT K H1 a vs) (t:TrL K H1 vs ws):Zv4 K H1 (Itt K a) ws gd where
 go:=fun i H G m r g hi=>by
  have hl:=t.length
  exact ⟨vs,vs[i]'(by omega),m.tup _ _ q,by simp⟩
 yld:=fun i H G x H' m r g y hi=>by
  obtain ⟨w,e,tw⟩:=(t.mono m).get' (y.2 vs (m.tup _ _ q))
  exact Zkl r y.1 ⟨w,e,tw⟩
 stop:=fun H G m r g=>⟨vs,m.tup _ _ q,Nat.le_of_eq t.length⟩
theorem Zol {vs:List V} {ws:List W} {gd:Hw→Prop} {H1:Hp} (t:TrL K H1 vs ws):Zv4 K H1 (Itk vs) ws gd where
 go:=fun i H G m r g hi=>by show i < vs.length;rw [t.length];exact hi
 yld:=fun i H G x H' m r g y hi=>by
  obtain ⟨w,e,tw⟩:=(t.mono m).get' y.2
  exact Zkl r y.1 ⟨w,e,tw⟩
 stop:=fun H G m r g=>by show vs.length≤ws.length;exact Nat.le_of_eq t.length
def PIw (X:Cx) (tg l:Expr) (gi:GI):Prop:=∃ wi:TI,PI X tg l wi∧∀ (σ:St) (H:Hp) (ω:Sw) (G:Hw) (R:List W→(Hw→Prop)→Hw→Prop) (R0:It→Hp→Prop),TrSt X.K H σ ω→RelH X.K H G→gi ω G R →
 (∀ ws gd G1 H1 J,R ws gd G1→Mono X.K H H1→RelH X.K H1 G1→gd G1→Zv4 X.K H1 J ws gd→R0 J H1)→wi σ H R0
theorem ZwR {X:Cx} {tg l:Expr} {ga:GE} (ht:∀ it u,letOwnedTupleGo tg it u=pure ()) (ma:ga.M) (hl:PEw X l ga):PIw X tg l (Za7 ga):=by
 refine ⟨_,Zyf ht hl,fun σ H ω G R R0 ts r q k=>⟨ω,G,ts,r,ma _ _ _ _ (fun w G1 z v H1 m t r1=>?_) q⟩⟩
 cases t with
 | tup h l=>exact .inr (.inl ⟨_,rfl,⟨_,h⟩,k _ _ _ H1 _ z m r1 trivial (ZnK h l)⟩)
 | rol h l=>exact .inl ⟨_,rfl,⟨_,h.sq⟩,k _ _ _ H1 _ z m r1 trivial (ZhJ fun H2 G2 m2 _ _=>⟨_,(m2.rol _ _ h).sq,l.mono m2⟩)⟩
 | str x=>exact .inr (.inr ⟨x,rfl,k _ _ _ H1 _ z m r1 trivial (Zol Zpa)⟩)
 | ref a =>
  dsimp only at z
  cases e:G1 a with
  | none=>rw [e] at z;exact z.elim
  | some o =>
   rw [e] at z
   cases o with
   | exc C=>exact z.elim
   | ins C fs=>exact z.elim
   | dct kvs=>exact z.elim
   | lst ws =>
    obtain ⟨vs,e1,t1⟩:=r1 a _ e
    exact .inl ⟨a,rfl,⟨vs,SqL.of e1⟩,k _ _ _ H1 _ z m r1 e (ZhJ fun H2 G2 m2 r2 g2=>let ⟨vs,e2,t2⟩:=r2 a _ g2;⟨vs,SqL.of e2,t2⟩)⟩
 | non=>exact z.elim
 | bl b=>exact z.elim
 | int i=>exact z.elim
structure TgW (X:Cx) (tg:Expr) (gg:GG):Prop where
 ex:∃ g:TG,PG X tg g∧∀ (x:V) (w:W) (σ:St) (ω:Sw) (H:Hp) (G:Hw) (Q:St→Hp→Prop),Tr X.K H x w→TrSt X.K H σ ω→RelH X.K H G→gg w ω G (dnS X.K H Q)→g x σ H Q
 mono:gg.M
def gNm (i:Nat):GG:=fun w ω G Q=>Q (ω.set i (some w)) G
theorem Zbp {X:Cx} {x:Str} {p:Pos} {i:Nat} (hN:X.N.Nodup) (hi:X.N[i]?=some x) (hx:Loc X.env.scope x) (hf:X.fn x=true∨X.env.scope.names.lookup x=some .local):TgW X (.Name x p) (gNm i) where
 ex:=⟨_,Zcx hN hi hx hf,fun x w σ ω H G Q t ts r q=>q _ H .refl (ts.set i t) r⟩
 mono:=fun _ _ _ _ _ h q=>h _ _ q
def ZmU (i j:Nat):GG:=fun w ω G Q=>match w with | .tup [a,b]=>Q ((ω.set i (some a)).set j (some b)) G | _=>False
theorem ZfA {X:Cx} {x y:Str} {p p' pos:Pos} {k i j:Nat} (hc:X.calm=true) (hN:X.N.Nodup) (hi:X.N[i]?=some x) (hx:Loc X.env.scope x) (hf:X.fn x=true∨X.env.scope.names.lookup x=some .local)
  (hj:X.N[j]?=some y) (hy:Loc X.env.scope y) (hfy:X.fn y=true∨X.env.scope.names.lookup y=some .local):TgW X (.Tuple [.Name x p,.Name y p'] k pos) (ZmU i j) where
 ex:=⟨_,Zm8 hc (ZcF (Zcx hN hi hx hf) (ZcF (Zcx hN hj hy hfy) Zky)),fun v w σ ω H G Q t ts r q=>by
  unfold ZmU at q
  split at q
  ·rename_i a b
   cases t with
   | tup h l =>
    cases l with
    | cons ta l =>
     cases l with
     | cons tb l =>
      cases l
      exact ⟨_,_,rfl,h,rfl,_,_,rfl,_,_,rfl,rfl,q _ H .refl ((ts.set i ta).set j tb) r⟩
  ·exact q.elim⟩
 mono:=fun w ω G Q Q' h q=>by
  unfold ZmU at q ⊢
  split
  ·exact h _ _ q
  ·rename_i z
   split at q
   ·exact (z _ _ rfl).elim
   ·exact q
def Zcz (gd:Hw→Prop) (gg:GG) (gb:GS) (D:Ew):List W→Sw→Hw→Prop
 | [],ω,G=>gd G∧D.nx ω G
 | x::xs,ω,G=>gd G∧gg x ω G fun ω1 G1=>gb { nx:=Zcz gd gg gb D xs,rt:=D.rt,bk:=D.nx,ct:=Zcz gd gg gb D xs } ω1 G1
def Zee (gi:GI) (gg:GG) (gb:GS):GS:=fun D ω G=>gi ω G fun ws gd G1=>Zcz gd gg gb D ws ω G1
theorem Zmm {gd:Hw→Prop} {gg:GG} {gb:GS} (mg:gg.M) (mb:gb.M) {D D':Ew} (h1:∀ a b,D.nx a b→D'.nx a b) (h2:∀ a b,D.rt a b→D'.rt a b):∀ (ws:List W) (ω:Sw) (G:Hw),Zcz gd gg gb D ws ω G→Zcz gd gg gb D' ws ω G
 | [],ω,G,q=>⟨q.1,h1 _ _ q.2⟩
 | x::xs,ω,G,q=>⟨q.1,mg _ _ _ _ _ (fun ω1 G1 z=>mb _ _ { nx:=Zcz gd gg gb D xs,rt:=D.rt,bk:=D.nx,ct:=Zcz gd gg gb D xs } _ (fun a b y=>Zmm mg mb h1 h2 xs a b y) h2 h1 (fun a b y=>Zmm mg mb h1 h2 xs a b y) z) q.2⟩
theorem Zxm {gi:GI} {gg:GG} {gb:GS} (mi:gi.M) (mg:gg.M) (mb:gb.M):GS.M (Zee gi gg gb):=fun ω G D D' h1 h2 h3 h4 q=>mi _ _ _ _ (fun ws gd G1 z=>Zmm mg mb h1 h2 ws ω G1 z) q
theorem Zr3 {gd:Hw→Prop} {gg:GG} {gb:GS} {D:Ew} {ws:List W} {ω:Sw} {G:Hw} (q:Zcz gd gg gb D ws ω G):gd G:=by
 cases ws with
 | nil=>exact q.1
 | cons w ws=>exact q.1
theorem Zxs {X:Cx} {P:Hp→Prop} {tg iter:Expr} {body:List Stmt} {pos:Pos} {gi:GI} {gg:GG} {gb:GS} (hp:PassesOwn (model X.prog X.w) X.A X.env X.xe) (hc:X.calm=true) (mi:gi.M) (mb:gb.M) (hi:PIw X tg iter gi) (hg:TgW X tg gg) (hb:ZrN X ZAh body gb)
  (hs:∀ x,foldedSetIterable iter X.env x=pure x:=by intro _;rfl):PSw X P (.For tg iter body [] pos) (Zee gi gg gb):=by
 intro B hB
 obtain ⟨wi,hwi,hi⟩:=hi
 obtain ⟨g,hpg,hgg⟩:=hg.ex
 have mg:=hg.mono
 have hb':PSs X body (fun D σ H=>∃ B',upS X.K B' gb D σ H):=(by rintro pins s σ H D I ⟨B',z⟩;exact hb B' trivial pins s σ H D I z)
 refine ZgD (ZwH hp hc hwi hpg hb' hs) fun D σ H zz2=>?_
 obtain ⟨ω,G,ts,r,mb0,q⟩:=zz2
 refine hi σ H ω G _ _ ts r q fun ws gd G1 H1 J z m1 r1 hgd wk=>?_
 have mb1:=mb0.trans m1
 refine ⟨fun i m σ' H'=>m=ws.length - i∧i≤ws.length∧Mono X.K H1 H'∧∃ ω' G',TrSt X.K H' σ' ω'∧RelH X.K H' G'∧Zcz gd gg gb (dnD X.K B D) (ws.drop i) ω' G',⟨ws.length,by simp,Nat.zero_le _,.refl,ω,G1,ts.mono m1,r1,by simpa using z⟩,?_⟩
 rintro i m σ' H' ⟨rfl,hle,mm,ω',G',ts',r',q'⟩
 have hgd':=Zr3 q'
 by_cases hlt:i < ws.length
 ·refine .inr ⟨wk.go i H' G' mm r' hgd' hlt,fun σ2 H2=>Mono X.K H1 H2∧∃ ω2 G2,TrSt X.K H2 σ2 ω2∧RelH X.K H2 G2∧Zcz gd gg gb (dnD X.K B D) (ws.drop (i+1)) ω2 G2,
   (by rintro σ2 H2 ⟨y1,y2⟩;exact ⟨ws.length - (i+1),by omega,rfl,hlt,y1,y2⟩),fun x H2 y=>?_⟩
  obtain ⟨my,ry,w,ew,tw⟩:=wk.yld i H' G' x H2 mm r' hgd' y hlt
  have mm:=mm.trans my
  have ed:ws.drop i=w::ws.drop (i+1):=by
   obtain ⟨h',e'⟩:=List.getElem?_eq_some_iff.mp ew
   rw [← e'];exact List.drop_eq_getElem_cons h'
  rw [ed] at q'
  refine hgg x w σ' ω' _ G' _ tw (ts'.mono my) ry (mg _ _ _ _ _ (fun ω1 G1' z1 σ1 H3 m3 ts3 r3=>?_) q'.2)
  exact ⟨H1,ω1,G1',ts3,r3,mm.trans m3,mb _ _ _ _ (fun a b y σ4 H4 m4 ts4 r4=>⟨m4,a,b,ts4,r4,y⟩) (fun a b y=>ZcZ mb1 y) (fun a b y=>ZsU mb1 y) (fun a b y σ4 H4 m4 ts4 r4=>⟨m4,a,b,ts4,r4,y⟩) z1⟩
 ·have e:i=ws.length:=by omega
  subst e
  rw [List.drop_length] at q'
  exact .inl ⟨wk.stop H' G' mm r' hgd',q'.2 σ' H' (mb1.trans mm) ts' r'⟩
def ZbK (gd:Hw→Prop) (gg:GG) (gt:GT) (ge:GE) (R:List W→Hw→Prop):List W→Sw→Hw→List W→Prop
 | [],_,G,ys=>gd G∧R ys G
 | x::xs,ω,G,ys=>gd G∧ys.length < sizeLine∧gg x ω G fun ω1 G1=>gt ω1 G1 fun b G2=>if b=true then ge ω1 G2 fun y G3=>ZbK gd gg gt ge R xs ω1 G3 (ys++[y]) else ZbK gd gg gt ge R xs ω1 G2 ys
def ZbU (gi:GI) (n:Nat) (gg:GG) (gt:GT) (ge:GE):GE:=fun ω G Q=>gi ω G fun ws gd G1=>ZbK gd gg gt ge (fun ys G2=>∀ p,G2 p=none→Q (.ref p) (put G2 p (.lst ys))) ws (List.replicate n none) G1 []
theorem ZhS {gd:Hw→Prop} {gg:GG} {gt:GT} {ge:GE} (mg:gg.M) (mt:gt.M) (me:ge.M) {R R':List W→Hw→Prop} (h:∀ a b,R a b→R' a b):∀ (ws:List W) (ω:Sw) (G:Hw) (ys:List W),ZbK gd gg gt ge R ws ω G ys→ZbK gd gg gt ge R' ws ω G ys
 | [],ω,G,ys,q=>⟨q.1,h _ _ q.2⟩
 | x::xs,ω,G,ys,q=>⟨q.1,q.2.1,mg _ _ _ _ _ (fun ω1 G1 z=>mt _ _ _ _ (fun b G2 z2=>by
   cases b with
   | true=>exact me _ _ _ _ (fun y G3 z3=>ZhS mg mt me h xs ω1 G3 _ z3) z2
   | false=>exact ZhS mg mt me h xs ω1 G2 _ z2) z) q.2.2⟩
theorem Zu5 {gi:GI} {n:Nat} {gg:GG} {gt:GT} {ge:GE} (mi:gi.M) (mg:gg.M) (mt:gt.M) (me:ge.M):GE.M (ZbU gi n gg gt ge):=fun ω G Q Q' h q =>
 mi _ _ _ _ (fun ws gd G1 z=>ZhS mg mt me (fun ys G2 z p hp=>h _ _ (z p hp)) _ _ _ _ z) q
theorem Zlf {gd:Hw→Prop} {gg:GG} {gt:GT} {ge:GE} {R:List W→Hw→Prop} {ws:List W} {ω:Sw} {G:Hw} {ys:List W} (q:ZbK gd gg gt ge R ws ω G ys):gd G:=by
 cases ws with
 | nil=>exact q.1
 | cons w ws=>exact q.1
def Zgh:GT:=fun _ G Q=>Q true G
theorem Zyp:GT.M Zgh:=fun _ _ _ _ h q=>h _ _ q
abbrev PFw (X:Cx) (ifs:List Expr) (g:GT):Prop:=PF X ifs (upT X.K g)
theorem Zxp {X:Cx}:PFw X [] Zgh:=(by rintro pins s σ H Q I ⟨ω,G,ts,r,q⟩;exact ZyH pins s σ H Q I (q H .refl r))
theorem Zp2 {n:Nat} {σ:St} (h:σ=List.replicate n none):TrSt K H σ (List.replicate n none):=by
 subst h
 refine ⟨by simp,fun i w e=>?_⟩
 rw [List.getElem?_replicate] at e
 split at e <;> cases e
theorem Zvl {X:Cx} {Nc:List Str} {gi:GI} {gg:GG} {gt:GT} {ge:GE} {wi:TI} {g:TG} (hwi:∀ (σ:St) (H:Hp) (ω:Sw) (G:Hw) (R:List W→(Hw→Prop)→Hw→Prop) (R0:It→Hp→Prop),TrSt X.K H σ ω→RelH X.K H G→gi ω G R →
   (∀ ws gd G1 H1 J,R ws gd G1→Mono X.K H H1→RelH X.K H1 G1→gd G1→Zv4 X.K H1 J ws gd→R0 J H1)→wi σ H R0)
  (hgg:∀ (x:V) (w:W) (σ:St) (ω:Sw) (H:Hp) (G:Hw) (Q:St→Hp→Prop),Tr X.K H x w→TrSt X.K H σ ω→RelH X.K H G→gg w ω G (dnS X.K H Q)→g x σ H Q) (mg:gg.M) (mt:gt.M) (me:ge.M) (σ:St) (H:Hp) (Q:VK) (h:up X.K (ZbU gi Nc.length gg gt ge) σ H Q) :
  Zvv wi (fun _=>List.replicate Nc.length none) g (upT X.K gt) (up X.K ge) σ H Q:=by
 obtain ⟨ω,G,ts,r,q⟩:=h
 refine hwi σ H ω G _ _ ts r q fun ws gd G1 H1 J z m1 r1 hgd wk=>?_
 refine ⟨fun i m σ' H' vs=>m=ws.length - i∧i≤ws.length∧Mono X.K H1 H'∧∃ ω' G' ys,TrSt X.K H' σ' ω'∧RelH X.K H' G'∧TrL X.K H' vs ys∧ZbK gd gg gt ge (fun ys G2=>∀ p,G2 p=none→dn X.K H Q (.ref p) (put G2 p (.lst ys))) (ws.drop i) ω' G' ys,
  ⟨ws.length,by simp,Nat.zero_le _,.refl,_,G1,[],Zp2 rfl,r1,.nil,by simpa using z⟩,?_⟩
 rintro i m σ' H' vs ⟨rfl,hle,mm,ω',G',ys,ts',r',tv,q'⟩
 have hgd':=Zlf q'
 by_cases hlt:i < ws.length
 ·have hw:∃ w,ws[i]?=some w:=⟨ws[i],by simp [hlt]⟩
  obtain ⟨w0,ew0⟩:=hw
  have ed:ws.drop i=w0::ws.drop (i+1):=by
   obtain ⟨h',e'⟩:=List.getElem?_eq_some_iff.mp ew0
   rw [← e'];exact List.drop_eq_getElem_cons h'
  rw [ed] at q'
  refine .inr ⟨wk.go i H' G' mm r' hgd' hlt,by rw [tv.length];exact q'.2.1,fun σ2 H2 vs2=>Mono X.K H1 H2∧∃ ω2 G2 ys2,TrSt X.K H2 σ2 ω2∧RelH X.K H2 G2∧TrL X.K H2 vs2 ys2∧ZbK gd gg gt ge (fun ys G2=>∀ p,G2 p=none→dn X.K H Q (.ref p) (put G2 p (.lst ys))) (ws.drop (i+1)) ω2 G2 ys2,
   (by rintro σ2 H2 vs2 ⟨y1,y2⟩;exact ⟨ws.length - (i+1),by omega,rfl,hlt,y1,y2⟩),fun x H2 y=>?_⟩
  obtain ⟨my,ry,w,ew,tw⟩:=wk.yld i H' G' x H2 mm r' hgd' y hlt
  have mm:=mm.trans my
  have tv:=tv.mono my
  rw [ew0] at ew;cases ew
  refine hgg x _ σ' ω' _ G' _ tw (ts'.mono my) ry (mg _ _ _ _ _ (fun ω1 G1' z1 σ1 H3 m3 ts3 r3=>?_) q'.2.2)
  refine ⟨ω1,G1',ts3,r3,mt _ _ _ _ (fun b G4 z4 H4 m4 r4=>?_) z1⟩
  cases b with
  | true=>exact ⟨ω1,G4,ts3.mono m4,r4,me _ _ _ _ (fun y5 G5 z5 v5 H5 m5 t5 r5=>⟨((mm.trans m3).trans m4).trans m5,ω1,G5,_,(ts3.mono m4).mono m5,r5,(((tv.mono m3).mono m4).mono m5).append (.cons t5 .nil),z5⟩) z4⟩
  | false=>exact ⟨(mm.trans m3).trans m4,ω1,G4,_,ts3.mono m4,r4,(tv.mono m3).mono m4,z4⟩
 ·have e:i=ws.length:=by omega
  subst e
  rw [List.drop_length] at q'
  exact .inl ⟨wk.stop H' G' mm r' hgd',fun p hp=>q'.2 p (r'.no hp) _ _ ((m1.trans mm).trans (Mono.new hp _)) (.ref p) (r'.new hp tv)⟩
structure TgU (X:Cx) (Nc:List Str) (scope:Scope) (tg:Expr) (gg:GG):Prop where
 ex:∃ g:TG,(∀ C fp s H,PG (cxB X Nc scope [] C fp s H) tg g)∧∀ (x:V) (w:W) (σ:St) (ω:Sw) (H:Hp) (G:Hw) (Q:St→Hp→Prop),Tr X.K H x w→TrSt X.K H σ ω→RelH X.K H G→gg w ω G (dnS X.K H Q)→g x σ H Q
 mono:gg.M
theorem ZcJ {X:Cx} {Nc:List Str} {scope:Scope} {x:Str} {p:Pos} {i:Nat} (hN:Nc.Nodup) (hi:Nc[i]?=some x) (hx:scope.names.lookup x=some .local):TgU X Nc scope (.Name x p) (gNm i) where
 ex:=⟨ZhE i,fun C fp s H=>Zcx (X:=cxB X Nc scope [] C fp s H) hN hi (.inl (lookup_relabel_local hx)) (.inr (lookup_relabel_local hx)),fun x w σ ω H G Q t ts r q=>q _ H .refl (ts.set i t) r⟩
 mono:=fun _ _ _ _ _ h q=>h _ _ q
theorem ZwM {i j:Nat}:GG.M (ZmU i j):=fun w ω G Q Q' h q=>by
 unfold ZmU at q ⊢
 split
 ·exact h _ _ q
 ·rename_i z
  split at q
  ·exact (z _ _ rfl).elim
  ·exact q
theorem ZqH {X:Cx} {Nc:List Str} {scope:Scope} {x y:Str} {p p' pos:Pos} {k i j:Nat} (hc:X.calm=true) (hN:Nc.Nodup) (hi:Nc[i]?=some x) (hx:scope.names.lookup x=some .local) (hj:Nc[j]?=some y) (hy:scope.names.lookup y=some .local) :
  TgU X Nc scope (.Tuple [.Name x p,.Name y p'] k pos) (ZmU i j) where
 ex:=⟨L2.Zbq X.K 2 (L2.Zaa (ZhE i) (L2.Zaa (ZhE j) L2.Zaj)),fun C fp s H=>Zm8 (X:=cxB X Nc scope [] C fp s H) hc (ZcF (Zcx hN hi (.inl (lookup_relabel_local hx)) (.inr (lookup_relabel_local hx))) (ZcF (Zcx hN hj (.inl (lookup_relabel_local hy)) (.inr (lookup_relabel_local hy))) Zky)),
  fun v w σ ω H G Q t ts r q=>by
   unfold ZmU at q
   split at q
   ·rename_i a b
    cases t with
    | tup h l =>
     cases l with
     | cons ta l =>
      cases l with
      | cons tb l =>
       cases l
       exact ⟨_,_,rfl,h,rfl,_,_,rfl,_,_,rfl,rfl,q _ H .refl ((ts.set i ta).set j tb) r⟩
   ·exact q.elim⟩
 mono:=ZwM
theorem ZuO {X:Cx} {elt tg iter:Expr} {ifs:List Expr} {scope:Scope} {pos:Pos} {Nc:List Str} {gi:GI} {gg:GG} {gt:GT} {ge:GE} (hc:X.calm=true) (hi:PIw X tg iter gi) (B:Blk X Nc scope [] (fun _=>List.replicate Nc.length none))
  (hu:TgU X Nc scope tg gg) (mt:gt.M) (ht:∀ C fp s H,PFw (cxB X Nc scope [] C fp s H) ifs gt) (me:ge.M) (he:∀ C fp s H,PEw (cxB X Nc scope [] C fp s H) elt ge) (hs:∀ x,foldedSetIterable iter X.env x=pure x) :
  PEw X (.ListComp elt [⟨tg,iter,ifs,0⟩] scope pos) (ZbU gi Nc.length gg gt ge):=by
 obtain ⟨wi,hwi,hi⟩:=hi
 obtain ⟨g,hpg,hgg⟩:=hu.ex
 exact Zbf (Zpe hc hwi B hpg ht he hs) (Zvl hi hgg hu.mono mt me)
def Zb6 (C:Int→Int→Prop) (f:Int→Int→Int):RW2:=fun x y G Q=>match x,y with
 | .int i,.int j=>C i j∧Q (.int (f i j)) G
 | _,_=>False
theorem ZfP {C:Int→Int→Prop} {f:Int→Int→Int}:RW2.M (Zb6 C f):=fun x y G Q Q' h q=>by
 cases x <;> cases y <;> first | exact q | exact ⟨q.1,h _ _ q.2⟩
theorem Zih {C:Int→Int→Prop} {f:Int→Int→Int} (x y:W) (v u:V) (G:Hw) (H:Hp) (Q:VK) (tx:Tr K H v x) (ty:Tr K H u y) (r:RelH K H G) (q:Zb6 C f x y G (dn K H Q)):rI C (fun i j=>.int (f i j)) v u H Q:=by
 cases tx <;> first | exact q.elim | (cases ty <;> first | exact q.elim | exact ⟨_,_,rfl,rfl,q.1,q.2 _ H .refl (.int _) r⟩)
def Zfj:RW2:=fun x y G Q=>match x,y with
 | .int i,.int j=>Q (.int (i+j)) G
 | .str a,.str b=>a.length+b.length≤sizeLine∧Q (.str (a++b)) G
 | .ref a,.ref b=>(match G a,G b with
  | some (.lst xs),some (.lst ys)=>xs.length+ys.length≤sizeLine∧∀ p,G p=none→Q (.ref p) (put G p (.lst (xs++ys)))
  | _,_=>False)
 | _,_=>False
theorem Zq1:RW2.M Zfj:=fun x y G Q Q' h q=>by
 cases x <;> cases y <;> first | exact q | exact h _ _ q | exact ⟨q.1,h _ _ q.2⟩ | skip
 rename_i a b
 unfold Zfj at q ⊢
 dsimp only at q ⊢
 cases ea:G a with
 | none=>rw [ea] at q;exact q
 | some oa =>
  cases eb:G b with
  | none=>rw [ea,eb] at q;cases oa <;> exact q
  | some ob =>
   rw [ea,eb] at q
   cases oa <;> cases ob <;> first | exact q | exact ⟨q.1,fun p hp=>h _ _ (q.2 p hp)⟩
theorem Zqb {X:Cx}:OpR X (binaryOp .Add) (fun x y H Q=>(rI0 fun i j=>.int (i+j)) x y H Q∨(∃ i j,x=.str i∧y=.str j∧i.length+j.length≤sizeLine∧Q (.str (i++j)) H)∨Zx3 x y H Q):=OpR.or ZxZ (OpR.or ZoB Zyq)
theorem Zqn (x y:W) (v u:V) (G:Hw) (H:Hp) (Q:VK) (tx:Tr K H v x) (ty:Tr K H u y) (r:RelH K H G) (q:Zfj x y G (dn K H Q)) :
  (rI0 fun i j=>.int (i+j)) v u H Q∨(∃ i j,v=.str i∧u=.str j∧i.length+j.length≤sizeLine∧Q (.str (i++j)) H)∨Zx3 v u H Q:=by
 cases tx with
 | int i=>cases ty <;> first | exact q.elim | exact .inl ⟨_,_,rfl,rfl,q _ H .refl (.int _) r⟩
 | str i=>cases ty <;> first | exact q.elim | exact .inr (.inl ⟨_,_,rfl,rfl,q.1,q.2 _ H .refl (.str _) r⟩)
 | ref a =>
  cases ty <;> try exact q.elim
  rename_i b
  unfold Zfj at q
  dsimp only at q
  cases ea:G a with
  | none=>rw [ea] at q;exact q.elim
  | some oa =>
   cases eb:G b with
   | none=>rw [ea,eb] at q;cases oa <;> exact q.elim
   | some ob =>
    rw [ea,eb] at q
    cases oa <;> cases ob <;> try exact q.elim
    obtain ⟨vs,e1,t1⟩:=r a _ ea
    obtain ⟨us,e2,t2⟩:=r b _ eb
    exact .inr (.inr ⟨a,b,vs,us,rfl,rfl,e1,e2,by rw [t1.length,t2.length];exact q.1,fun p hp=>q.2 p (r.no hp) _ _ (Mono.new hp _) (.ref p) (r.new hp (t1.append t2))⟩)
 | _=>exact q.elim
def Zfg (f:Int→Int→Bool):RW2:=fun x y G Q=>match x,y with
 | .int i,.int j=>Q (.bl (f i j)) G
 | _,_=>False
theorem Ztj {f:Int→Int→Bool}:RW2.M (Zfg f):=fun x y G Q Q' h q=>by
 cases x <;> cases y <;> first | exact q | exact h _ _ q
theorem Zpo {f:Int→Int→Bool} (x y:W) (v u:V) (G:Hw) (H:Hp) (Q:VK) (tx:Tr K H v x) (ty:Tr K H u y) (r:RelH K H G) (q:Zfg f x y G (dn K H Q)):rI0 (fun i j=>.bl (f i j)) v u H Q:=by
 cases tx <;> first | exact q.elim | (cases ty <;> first | exact q.elim | exact ⟨_,_,rfl,rfl,q _ H .refl (.bl _) r⟩)
def opt (o:Option W) (f:W→Prop):Prop:=match o with | some w=>f w | none=>False
theorem Zu1 {o:Option W} {f f':W→Prop} (h:∀ w,f w→f' w) (q:opt o f):opt o f':=by
 cases o with
 | none=>exact q
 | some w=>exact h _ q
theorem Zep {o:Option W} {f:W→Prop} (q:opt o f):∃ w,o=some w∧f w:=by
 cases o with
 | none=>exact q.elim
 | some w=>exact ⟨w,rfl,q⟩
def Zar (f:W→W→Hw→Option W):RW2:=fun x y G Q=>opt (f x y G) fun w=>Q w G
theorem Zfl {f:W→W→Hw→Option W}:RW2.M (Zar f):=fun x y G Q Q' h q=>Zu1 (fun w z=>h _ _ z) q
def ixW (x y:W) (G:Hw):Option W:=match x,y with
 | .tup xs,.int i=>atI xs i
 | .rol xs,.int i=>atI xs i
 | .ref a,.int i=>(match G a with | some (.lst xs)=>atI xs i | _=>none)
 | .str z,.int i=>if z.length≤sizeLine then (atI z.cps.toList i).map fun c=>.str ⟨#[c]⟩ else none
 | _,_=>none
theorem Zq9 {vs:List V} {ws:List W} {i:Int} {w:W} (t:TrL K H vs ws) (e:atI ws i=some w):∃ v,atI vs i=some v∧Tr K H v w:=by
 unfold atI at e ⊢
 rw [t.length]
 cases z:ixN ws.length i with
 | none=>rw [z] at e;cases e
 | some j =>
  rw [z] at e
  exact t.get e
theorem ZBa {X:Cx}:IxR X (fun x y H Q=>ZzD X.K x y H Q∨Zzj X.K x y H Q∨ZzM x y H Q):=IxR.or Zt8 (IxR.or ZwU Zwm)
theorem ZxR (x y:W) (v u:V) (G:Hw) (H:Hp) (Q:VK) (tx:Tr K H v x) (ty:Tr K H u y) (r:RelH K H G) (q:Zar ixW x y G (dn K H Q)):ZzD K v u H Q∨Zzj K v u H Q∨ZzM v u H Q:=by
 obtain ⟨w,e,q'⟩:=Zep q
 cases ty with
 | int i =>
  cases tx with
  | tup h l =>
   obtain ⟨v',e',t'⟩:=Zq9 l e
   exact .inr (.inl ⟨_,_,_,_,rfl,rfl,h,e',q' _ H .refl t' r⟩)
  | rol h l =>
   obtain ⟨v',e',t'⟩:=Zq9 l e
   exact .inl ⟨_,_,_,_,rfl,rfl,h.sq,e',q' _ H .refl t' r⟩
  | str z =>
   unfold ixW at e;dsimp only at e
   split at e
   ·rename_i hz
    cases e1:atI z.cps.toList i with
    | none=>rw [e1] at e;cases e
    | some c =>
     rw [e1] at e;cases e
     exact .inr (.inr ⟨z,i,c,rfl,rfl,hz,e1,q' _ H .refl (.str _) r⟩)
   ·cases e
  | ref a =>
   unfold ixW at e;dsimp only at e
   cases eG:G a with
   | none=>rw [eG] at e;cases e
   | some o =>
    rw [eG] at e
    cases o with
    | exc C=>cases e
    | ins C fs=>cases e
    | dct kvs=>cases e
    | lst ws =>
     obtain ⟨vs,e1,l⟩:=r a _ eG
     obtain ⟨v',e',t'⟩:=Zq9 l e
     exact .inl ⟨_,_,_,_,rfl,rfl,SqL.of e1,e',q' _ H .refl t' r⟩
  | _=>cases e
 | _=>cases x <;> cases e
structure Em (X:Cx) (e:Expr) (g:GE):Prop where
 p:PEw X e g
 m:g.M
structure Tm (X:Cx) (e:Expr) (g:GT):Prop where
 p:PTw X e g
 m:g.M
structure Wm (X:Cx) (e:Expr) (g:GT):Prop where
 p:PWw X e g
 m:g.M
structure Am (X:Cx) (es:List Expr) (g:GA):Prop where
 p:PAw X es g
 m:g.M
structure Sm (X:Cx) (P:Hp→Prop) (s:Stmt) (g:GS):Prop where
 p:PSw X P s g
 m:g.M
structure Ssm (X:Cx) (P:Hp→Prop) (s:List Stmt) (g:GS):Prop where
 p:ZrN X P s g
 m:g.M
structure Im (X:Cx) (tg l:Expr) (g:GI):Prop where
 p:PIw X tg l g
 m:g.M
def place (N:List Str) (x:Str):Option Nat:=N.findIdx? (·==x)
theorem Zr9 {N:List Str} {x:Str} {i:Nat} (h:place N x=some i):N[i]?=some x:=by
 unfold place at h
 obtain ⟨hi,e,_⟩:=List.findIdx?_eq_some_iff_getElem.mp h
 rw [List.getElem?_eq_getElem hi,eq_of_beq e]
def seen (sc:Scope) (x:Str):Bool:=match sc.names.lookup x with | some .local=>true | some .cell=>true | some .free=>true | _=>false
theorem Znt {sc:Scope} {x:Str} (h:seen sc x=true):Vis sc x:=by
 unfold seen at h
 split at h <;> first | (rename_i e;exact .inl e) | (rename_i e;exact .inr (.inl e)) | (rename_i e;exact .inr (.inr e)) | cases h
def ZnT (sc:Scope) (x:Str):Bool:=match sc.names.lookup x with | some .local=>true | _=>false
theorem ZhQ {sc:Scope} {x:Str} (h:ZnT sc x=true):sc.names.lookup x=some .local:=by
 unfold ZnT at h
 split at h
 ·rename_i e;exact e
 ·cases h
section
variable {X:Cx} {a b c e f:Expr} {es Zdr:List Expr} {st:Stmt} {sts sts':List Stmt} {pos pos' p:Pos} {ga gb gc:GE} {gt gu:GT} {gs:GA} {g1 g2:GS} {ex:Xw} {P:Hp→Prop}
theorem ZdT {i:Int} {j}:Em X (.Constant (.int i) j pos) (gC (.int i)):=⟨Zx7,Zv8⟩
theorem Zi4 {i:Bool} {j}:Em X (.Constant (.bool i) j pos) (gC (.bl i)):=⟨ZyZ,Zv8⟩
theorem Zfv {j}:Em X (.Constant .none j pos) (gC .non):=⟨ZwK,Zv8⟩
theorem ZfR {i:Str} {j}:Em X (.Constant (.str i) j pos) (gC (.str i)):=⟨Zyx,Zv8⟩
theorem Zfs (ha:Em X a ga) (hb:Em X b gb):Em X (.BinOp a .Add b pos) (Zak Zfj ga gb):=⟨Zhw Zqb Zq1 ha.m hb.m Zqn ha.p hb.p,ZdU Zq1 ha.m hb.m⟩
theorem ZfH (ha:Em X a ga) (hb:Em X b gb):Em X (.BinOp a .Sub b pos) (Zak (Zb6 (fun _ _=>True) fun i j=>i - j) ga gb) :=
 ⟨Zhw (r2:=rI (fun _ _=>True) fun i j=>.int (i - j)) (opI fun _ _ _ _ _ _ _ _ q=>sub_int q) ZfP ha.m hb.m Zih ha.p hb.p,ZdU ZfP ha.m hb.m⟩
theorem ZfK (ha:Em X a ga) (hb:Em X b gb):Em X (.BinOp a .Mult b pos) (Zak (Zb6 CMul fun i j=>i*j) ga gb):=⟨Zhw Ztd ZfP ha.m hb.m Zih ha.p hb.p,ZdU ZfP ha.m hb.m⟩
theorem ZdI (ha:Em X a ga) (hb:Em X b gb):Em X (.BinOp a .FloorDiv b pos) (Zak (Zb6 Zwa fun i j=>i / j) ga gb):=⟨Zhw Zva ZfP ha.m hb.m Zih ha.p hb.p,ZdU ZfP ha.m hb.m⟩
theorem ZfG (ha:Em X a ga) (hb:Em X b gb):Em X (.BinOp a .Mod b pos) (Zak (Zb6 (fun _ j=>0 < j) fun i j=>i % j) ga gb):=⟨Zhw Zw3 ZfP ha.m hb.m Zih ha.p hb.p,ZdU ZfP ha.m hb.m⟩
theorem ZfL (ha:Em X a ga) (hb:Em X b gb):Em X (.BinOp a .Pow b pos) (Zak (Zb6 Zvj fun i j=>i ^ j.toNat) ga gb):=⟨Zhw ZwG ZfP ha.m hb.m Zih ha.p hb.p,ZdU ZfP ha.m hb.m⟩
theorem Zia (hs:Zkw b) (ha:Em X a ga) (hb:Em X b gb):Em X (.Subscript a b pos) (Zak (Zar ixW) ga gb):=⟨ZxS ZBa Zfl ha.m hb.m ZxR ha.p hb.p hs,ZdU Zfl ha.m hb.m⟩
theorem ZfM {k} (h:Am X es gs):Em X (.Tuple es k pos) (Zbq gs):=⟨ZwL h.m h.p,Zwz h.m⟩
theorem Zez (h:Am X es gs):Em X (.List es pos) (Zb1 gs):=⟨ZwZ h.m h.p,ZxD h.m⟩
theorem ZdR {op:BoolOp} (h:Em X a ga):Em X (.BoolOp op [a] pos) ga:=⟨Zx4 h.p,h.m⟩
theorem ZdP (ha:Em X a ga) (hb:Em X (.BoolOp .And (b::Zdr) pos) gb):Em X (.BoolOp .And (a::b::Zdr) pos) (Zci ga gb):=⟨ZyC ha.m hb.m ha.p hb.p,Zug ha.m hb.m⟩
theorem ZiW (ha:Em X a ga) (hb:Em X (.BoolOp .Or (b::Zdr) pos) gb):Em X (.BoolOp .Or (a::b::Zdr) pos) (Zjj ga gb):=⟨Zy5 ha.m hb.m ha.p hb.p,Zyl ha.m hb.m⟩
theorem ZeA (ha:Em X a ga):Em X (.UnaryOp .Not a pos) (Zdg ga):=⟨ZxM ha.m ha.p,Zun ha.m⟩
theorem Zey (hc:Tm X c gt) (ha:Em X a ga) (hb:Em X b gb):Em X (.IfExp c a b pos) (Zgi gt ga gb):=⟨ZxF hc.m ha.m hb.m hc.p ha.p hb.p,Zyc hc.m ha.m hb.m⟩
theorem Zby:Am X [] Zaj:=⟨Zyy,ZwY⟩
theorem ZaG (hst:starEach (e::es) X.env=(false,eval e X.env)::starEach es X.env) (ha:Em X e ga) (hs:Am X es gs):Am X (e::es) (Zaa ga gs):=⟨Zt7 ha.m hs.m ha.p hs.p hst,Zup ha.m hs.m⟩
theorem Zco {x:Str} {k n:Nat} {sp:Spw} (D:Df X.prog X.w X.K X.mg X.base x k n sp) (hr:Room k X.A) (hg:Gl X x) (hp:ZqG X ex) (hdb:(x==("__debug__":Str))=false) (he:starEach (e::es) X.env=(false,eval e X.env)::starEach es X.env) (hpl:(backTo pos (starEach es X.env)).any (·.1)=false)
  (ha:Am X (e::es) gs):Em X (.Call (.Name x p) (e::es) [] pos) (Zah sp ex gs):=⟨Zue D hr hg hp ha.m ha.p hdb he hpl,ZvH D.mono ha.m⟩
theorem ZdQ (he:∀ whole,isTrue e X.env whole=(do let v ← whole;standAt e.pos;holding [v] (truthy v))) (ha:Em X e ga):Tm X e (Zcj ga):=⟨Zx9 ha.m ha.p he,ZxK ha.m⟩
theorem ZdS (ha:Tm X a gt):Tm X (.UnaryOp .Not a pos) (gNt gt):=⟨Zwu ha.p,ZyX ha.m⟩
theorem ZdB {op:BoolOp} {vs:List Expr} (h:Wm X (.BoolOp op vs pos) gt):Tm X (.BoolOp op vs pos) gt:=⟨ZvS h.p,h.m⟩
theorem Zdy (h:Tm X a gt):Wm X (.BoolOp .And [a] pos) gt:=⟨Zvn h.p,h.m⟩
theorem Zfk (h:Tm X a gt):Wm X (.BoolOp .Or [a] pos) gt:=⟨ZwW h.p,h.m⟩
theorem ZfN (ha:Tm X a gt) (hb:Wm X (.BoolOp .And (b::Zdr) pos) gu):Wm X (.BoolOp .And (a::b::Zdr) pos) (Zf2 gt gu):=⟨ZwQ ha.m hb.m ha.p hb.p,ZwP ha.m hb.m⟩
theorem Zi3 (ha:Tm X a gt) (hb:Wm X (.BoolOp .Or (b::Zdr) pos) gu):Wm X (.BoolOp .Or (a::b::Zdr) pos) (gOr gt gu):=⟨Zzi ha.m hb.m ha.p hb.p,Zzu ha.m hb.m⟩
theorem Zcb:Ssm X P [] Zan:=⟨Zu9,ZvO⟩
theorem Za3 (h:Sm X P st g1):Ssm X P [st] g1:=⟨Zut h.p,h.m⟩
theorem Zam (h1:Sm X P st g1) (h2:Ssm X P sts g2):Ssm X P (st::sts) (Zat g1 g2):=⟨ZrT h1.m h2.m h1.p h2.p,Zwx h1.m h2.m⟩
theorem ZbZ (ha:Em X e ga):Sm X P (.Return (some e) pos) (Zay ga):=⟨Zyv ha.m ha.p,Zwy ha.m⟩
theorem ZcX (hs:swapsWith e none pos.line X.env=pure false) (ha:Em X e ga):Sm X P (.Expr e pos) (Zbv ga):=⟨ZvG ha.m ha.p hs,Zvt ha.m⟩
theorem Zgf (hc:Tm X c gt) (h1:Ssm X P sts g1) (h2:Ssm X P sts' g2):Sm X P (.If c sts sts' pos) (gIf gt g1 g2):=⟨Zzf hc.m h1.m h2.m hc.p h1.p h2.p,Zzy hc.m h1.m h2.m⟩
theorem Ze0 {tg l:Expr} (ht:∀ it u,letOwnedTupleGo tg it u=pure ()) (hl:Em X l ga):Im X tg l (Za7 ga):=⟨ZwR ht hl.m hl.p,Zua hl.m⟩
theorem ZdY {tg iter:Expr} {gi:GI} {gg:GG} {gb:GS} (hp:PassesOwn (model X.prog X.w) X.A X.env X.xe) (hc:X.calm=true) (hs:∀ x,foldedSetIterable iter X.env x=pure x) (hi:Im X tg iter gi) (hg:TgW X tg gg) (hb:Ssm X ZAh sts gb):Sm X P (.For tg iter sts [] pos) (Zee gi gg gb) :=
 ⟨Zxs hp hc hi.m hb.m hi.p hg hb.p hs,Zxm hi.m hg.mono hb.m⟩
end
theorem Zk6 {bs:List Bool} {its:List Value} (r:Vals (bs.map V.bl) its) {i:Nat} {v:Value} (e:its.toArray[i]?=some v):v=.bool (bs.getD i false):=by
 have e':its[i]?=some v:=by simpa using e
 have hl:=r.length
 rw [List.length_map] at hl
 have hi:i < its.length:=(List.getElem?_eq_some_iff.mp e').1
 have hb:bs[i]?=some (bs[i]'(by omega)):=List.getElem?_eq_getElem _
 obtain ⟨u,e1,r1⟩:=r.get (i:=i) (x:=.bl (bs[i]'(by omega))) (by rw [List.getElem?_map,hb];rfl)
 rw [e'] at e1;cases e1
 rw [List.getD_eq_getElem?_getD,hb]
 exact r1
theorem ZpY {bs:List Bool}:(List.range bs.length).all (fun i=>bs.getD i false)=bs.all id:=by
 rw [Bool.eq_iff_iff]
 simp only [List.all_eq_true,List.mem_range,id]
 constructor
 ·intro h b hb
  obtain ⟨i,hi,e⟩:=List.mem_iff_getElem.mp hb
  have:=h i hi
  rw [List.getD_eq_getElem?_getD,List.getElem?_eq_getElem hi] at this
  rw [← e];exact this
 ·intro h i hi
  rw [List.getD_eq_getElem?_getD,List.getElem?_eq_getElem hi]
  exact h _ (List.getElem_mem hi)
theorem Zqz {bs:List Bool}:(List.range bs.length).any (fun i=>bs.getD i false)=bs.any id:=by
 rw [Bool.eq_iff_iff]
 simp only [List.any_eq_true,List.mem_range,id]
 constructor
 ·rintro ⟨i,hi,h⟩
  rw [List.getD_eq_getElem?_getD,List.getElem?_eq_getElem hi] at h
  exact ⟨_,List.getElem_mem hi,h⟩
 ·rintro ⟨b,hb,h⟩
  obtain ⟨i,hi,e⟩:=List.mem_iff_getElem.mp hb
  exact ⟨i,hi,by rw [List.getD_eq_getElem?_getD,List.getElem?_eq_getElem hi,Option.getD_some,e];exact h⟩
section
variable {X:Cx}
theorem Zpp (hc:X.calm=true):CallR X (.builtin "all") (fun xs H Q=>∃ (p:Addr) (bs:List Bool),xs=[.ref p]∧SqL X.K H p (bs.map V.bl)∧Q (.bl (bs.all id)) H):=by
 walk_at "py"
 obtain ⟨p,bs,rfl,hq,q⟩:=h
 obtain ⟨u,rfl,rx⟩:=ZhB r
 cases rx
 obtain ⟨its,r',pl,hz⟩:=I.list hq
 have hl:=r'.length
 rw [List.length_map] at hl
 obtain ⟨o,n,e,_⟩:=id pl
 refine call_all_walk (wpAny_pyIter_list pl.isList ⟨s.heap.objs.size,_,_,_,_,_,fun i=>bs.getD i false,rfl,Walks.list (A:=X.A.in1) (I.ok.hd hc) _ p (Nat.ne_of_lt (Heap.lt_size e)) its.toArray,
  ⟨⟨_,Heap.get?_push_size _ rfl,rfl,rfl⟩,pl.isList.push _⟩,fun i v s Q E hp hq=>by rw [Zk6 r' hp];exact wpAny_truthy_bool hq,fun h' tk k=>?_⟩)
 refine ⟨.bl (bs.all id),H,I.kept (t':=tk) fun b o e=>k b o (by simpa using Nat.ne_of_lt (Heap.lt_size e)) (Heap.get?_push_of_some _ e),?_,q⟩
 show Value.bool _=_
 rw [List.size_toArray,← hl,ZpY]
theorem Zo0 (hc:X.calm=true):CallR X (.builtin "any") (fun xs H Q=>∃ (p:Addr) (bs:List Bool),xs=[.ref p]∧SqL X.K H p (bs.map V.bl)∧Q (.bl (bs.any id)) H):=by
 walk_at "py"
 obtain ⟨p,bs,rfl,hq,q⟩:=h
 obtain ⟨u,rfl,rx⟩:=ZhB r
 cases rx
 obtain ⟨its,r',pl,hz⟩:=I.list hq
 have hl:=r'.length
 rw [List.length_map] at hl
 obtain ⟨o,n,e,_⟩:=id pl
 refine call_any_walk (wpAny_pyIter_list pl.isList ⟨s.heap.objs.size,_,_,_,_,_,fun i=>bs.getD i false,rfl,Walks.list (A:=X.A.in1) (I.ok.hd hc) _ p (Nat.ne_of_lt (Heap.lt_size e)) its.toArray,
  ⟨⟨_,Heap.get?_push_size _ rfl,rfl,rfl⟩,pl.isList.push _⟩,fun i v s Q E hp hq=>by rw [Zk6 r' hp];exact wpAny_truthy_bool hq,fun h' tk k=>?_⟩)
 refine ⟨.bl (bs.any id),H,I.kept (t':=tk) fun b o e=>k b o (by simpa using Nat.ne_of_lt (Heap.lt_size e)) (Heap.get?_push_of_some _ e),?_,q⟩
 show Value.bool _=_
 rw [List.size_toArray,← hl,Zqz]
theorem ZrQ {ns:List Int} {its:List Value} (r:Vals (ns.map V.int) its) {i:Nat} {v:Value} (e:its.toArray[i]?=some v):∃ t,v=.int (ns.getD i 0) t:=by
 have e':its[i]?=some v:=by simpa using e
 have hl:=r.length
 rw [List.length_map] at hl
 have hi:i < its.length:=(List.getElem?_eq_some_iff.mp e').1
 have hb:ns[i]?=some (ns[i]'(by omega)):=List.getElem?_eq_getElem _
 obtain ⟨u,e1,r1⟩:=r.get (i:=i) (x:=.int (ns[i]'(by omega))) (by rw [List.getElem?_map,hb];rfl)
 rw [e'] at e1;cases e1
 rw [List.getD_eq_getElem?_getD,hb]
 exact r1
theorem Zqd (hc:X.calm=true):CallR X (.builtin "sum") (fun xs H Q=>∃ (p:Addr) (ns:List Int),xs=[.ref p]∧SqL X.K H p (ns.map V.int)∧PyProof.Rows.SumFits ns∧Q (.int ns.sum) H):=by
 walk_at "py"
 obtain ⟨p,ns,rfl,hq,hf,q⟩:=h
 obtain ⟨u,rfl,rx⟩:=ZhB r
 cases rx
 obtain ⟨its,r',pl,hz⟩:=I.list hq
 have hl:=r'.length
 rw [List.length_map] at hl
 obtain ⟨o,n,e,_⟩:=id pl
 refine call_sum_walk (wpAny_pyIter_list pl.isList ⟨s.heap.objs.size,_,_,_,_,_,fun i=>ns.getD i 0,rfl,Walks.list (A:=X.A.in1) (I.ok.hd hc) _ p (Nat.ne_of_lt (Heap.lt_size e)) its.toArray,
  ⟨⟨_,Heap.get?_push_size _ rfl,rfl,rfl⟩,pl.isList.push _⟩,fun b hb=>?_,fun i v hp=>ZrQ r' hp,fun j hj=>?_,fun h' tk t' k=>?_⟩)
 ·rw [Heap.size_push]
  rcases List.mem_cons.mp hb with e1 | e1
  ·rw [e1];exact Nat.lt_succ_self _
  ·rw [List.mem_singleton.mp e1];exact Nat.lt_succ_of_lt (Heap.lt_size e)
 ·rw [List.size_toArray,← hl] at hj
  have:=hf j hj
  rw [preSum_getD]
  exact this
 ·refine ⟨.int ns.sum,H,I.kept (t':=tk) fun b o e=>k b o (by simpa using Nat.ne_of_lt (Heap.lt_size e)) (Heap.get?_push_of_some _ e),⟨t',?_⟩,q⟩
  rw [List.size_toArray,← hl,preSum_getD,List.take_length]
end
abbrev RWc:=List W→Hw→Kw→Prop
def RWc.M (r:RWc):Prop:=∀ ws G (Q Q':Kw),(∀ w G',Q w G'→Q' w G')→r ws G Q→r ws G Q'
def gB (r:RWc) (gs:GA):GE:=fun ω G Q=>gs ω G fun ws G1=>r ws G1 Q
theorem ZAb {r:RWc} {gs:GA} (mr:r.M) (ms:gs.M):GE.M (gB r gs):=fun ω G Q Q' h q=>ms _ _ _ _ (fun ws G1 z=>mr _ _ _ _ h z) q
theorem ZzY {r:RWc} {r1:List V→Hp→VK→Prop} {gs:GA} (mr:r.M) (ms:gs.M) (hr:∀ ws vs G H Q,TrL K H vs ws→RelH K H G→r ws G (dn K H Q)→r1 vs H Q) (σ:St) (H:Hp) (Q:VK) (h:up K (gB r gs) σ H Q):tCB r1 (upA K gs) σ H Q:=by
 obtain ⟨ω,G,ts,rh,q⟩:=h
 exact ⟨ω,G,ts,rh,ms _ _ _ _ (fun ws G1 z vs H1 m t r1'=>hr ws vs G1 H1 Q t r1' (mr _ _ _ _ (fun w G' y=>ZcZ m y) z)) q⟩
section
variable {X:Cx} {x:Str} {p pos:Pos} {e:Expr} {es:List Expr} {gs:GA} {r:RWc} {r1:List V→Hp→VK→Prop} {id T:String}
theorem ZxW (hc:CallR X (.builtin id) r1) (mr:r.M) (hr:∀ ws vs G H Q,TrL X.K H vs ws→RelH X.K H G→r ws G (dn X.K H Q)→r1 vs H Q) (hg:Gl X x) (hm:X.mg x=none) (hv:bootBuiltins x=some (.builtin id)) (hn:x≠"__name__") (hdb:(x==("__debug__":Str))=false)
  (he:starEach (e::es) X.env=(false,eval e X.env)::starEach es X.env) (hpl:(backTo pos (starEach es X.env)).any (·.1)=false) (ha:Am X (e::es) gs):Em X (.Call (.Name x p) (e::es) [] pos) (gB r gs) :=
 ⟨Zbf (Zsj hc hg hm hv ha.p hn hdb he hpl) (ZzY mr ha.m hr),ZAb mr ha.m⟩
theorem Zxv (hc:CallR X (.type T) r1) (mr:r.M) (hr:∀ ws vs G H Q,TrL X.K H vs ws→RelH X.K H G→r ws G (dn X.K H Q)→r1 vs H Q) (hg:Gl X x) (hm:X.mg x=none) (hv:bootBuiltins x=some (.type T)) (hn:x≠"__name__") (hdb:(x==("__debug__":Str))=false)
  (he:starEach (e::es) X.env=(false,eval e X.env)::starEach es X.env) (hpl:(backTo pos (starEach es X.env)).any (·.1)=false) (ha:Am X (e::es) gs):Em X (.Call (.Name x p) (e::es) [] pos) (gB r gs) :=
 ⟨Zbf (ZpP hc hg hm hv ha.p hn hdb he hpl) (ZzY mr ha.m hr),ZAb mr ha.m⟩
end
def rF (f:List W→Hw→Option W):RWc:=fun ws G Q=>opt (f ws G) fun w=>Q w G
theorem Zwo {f:List W→Hw→Option W}:RWc.M (rF f):=fun ws G Q Q' h q=>Zu1 (fun w z=>h _ _ z) q
def Zk5:List W→Option (List Bool)
 | []=>some []
 | .bl b::r=>(Zk5 r).map (b::·)
 | _=>none
theorem Zkz:∀ {ws:List W} {bs:List Bool} {vs:List V},Zk5 ws=some bs→TrL K H vs ws→vs=bs.map V.bl
 | [],bs,vs,e,t=>by cases e;cases t;rfl
 | w::ws,bs,vs,e,t=>by
  cases t with
  | cons tw t =>
   cases w with
   | bl b =>
    unfold Zk5 at e
    cases z:Zk5 ws with
    | none=>rw [z] at e;cases e
    | some bs' =>
     rw [z] at e;cases e
     rw [ZmR tw,Zkz z t];rfl
   | _=>cases e
def Zmd:List W→Option (List Int)
 | []=>some []
 | .int b::r=>(Zmd r).map (b::·)
 | _=>none
theorem Zqx:∀ {ws:List W} {bs:List Int} {vs:List V},Zmd ws=some bs→TrL K H vs ws→vs=bs.map V.int
 | [],bs,vs,e,t=>by cases e;cases t;rfl
 | w::ws,bs,vs,e,t=>by
  cases t with
  | cons tw t =>
   cases w with
   | int b =>
    unfold Zmd at e
    cases z:Zmd ws with
    | none=>rw [z] at e;cases e
    | some bs' =>
     rw [z] at e;cases e
     rw [Ztc tw,Zqx z t];rfl
   | _=>cases e
def ZiP (G:Hw) (w:W):Option (List W):=match w with
 | .ref a=>(match G a with | some (.lst xs)=>some xs | _=>none)
 | _=>none
theorem Zeh {G:Hw} {w:W} {xs:List W} {v:V} (r:RelH K H G) (t:Tr K H v w) (e:ZiP G w=some xs):∃ a vs,v=.ref a∧w=.ref a∧G a=some (.lst xs)∧H a=some (.lst vs)∧TrL K H vs xs:=by
 cases t with
 | ref a =>
  unfold ZiP at e;dsimp only at e
  cases z:G a with
  | none=>rw [z] at e;cases e
  | some o =>
   rw [z] at e
   cases o with
   | lst ys=>cases e;obtain ⟨vs,e1,t1⟩:=r a _ z;exact ⟨a,vs,rfl,rfl,z,e1,t1⟩
   | exc C=>cases e
   | ins C fs=>cases e
   | dct kvs=>cases e
 | _=>cases e
def ZgP (ws:List W) (G:Hw):Option W:=match ws with | [w]=>(ZiP G w).bind fun xs=>(Zk5 xs).map fun bs=>.bl (bs.all id) | _=>none
def Zjy (ws:List W) (G:Hw):Option W:=match ws with | [w]=>(ZiP G w).bind fun xs=>(Zk5 xs).map fun bs=>.bl (bs.any id) | _=>none
theorem ZvY (ws:List W) (vs:List V) (G:Hw) (H:Hp) (Q:VK) (t:TrL K H vs ws) (r:RelH K H G) (q:rF ZgP ws G (dn K H Q)):∃ (p:Addr) (bs:List Bool),vs=[.ref p]∧SqL K H p (bs.map V.bl)∧Q (.bl (bs.all id)) H:=by
 obtain ⟨w,e,q'⟩:=Zep q
 unfold ZgP at e
 split at e
 ·rename_i w0
  cases t with
  | cons tw t =>
   cases t
   obtain ⟨xs,e1,e2⟩:=Option.bind_eq_some_iff.mp e
   obtain ⟨bs,e3,e4⟩:=Option.map_eq_some_iff.mp e2
   obtain ⟨a,us,rfl,rfl,_,e5,t5⟩:=Zeh r tw e1
   subst e4
   have:=Zkz e3 t5
   subst this
   exact ⟨a,bs,rfl,SqL.of e5,q' _ H .refl (.bl _) r⟩
 ·cases e
theorem ZuV (ws:List W) (vs:List V) (G:Hw) (H:Hp) (Q:VK) (t:TrL K H vs ws) (r:RelH K H G) (q:rF Zjy ws G (dn K H Q)):∃ (p:Addr) (bs:List Bool),vs=[.ref p]∧SqL K H p (bs.map V.bl)∧Q (.bl (bs.any id)) H:=by
 obtain ⟨w,e,q'⟩:=Zep q
 unfold Zjy at e
 split at e
 ·rename_i w0
  cases t with
  | cons tw t =>
   cases t
   obtain ⟨xs,e1,e2⟩:=Option.bind_eq_some_iff.mp e
   obtain ⟨bs,e3,e4⟩:=Option.map_eq_some_iff.mp e2
   obtain ⟨a,us,rfl,rfl,_,e5,t5⟩:=Zeh r tw e1
   subst e4
   have:=Zkz e3 t5
   subst this
   exact ⟨a,bs,rfl,SqL.of e5,q' _ H .refl (.bl _) r⟩
 ·cases e
def Zto:RWc:=fun ws G Q=>match ws with
 | [w]=>(match (ZiP G w).bind Zmd with | some ns=>PyProof.Rows.SumFits ns∧Q (.int ns.sum) G | none=>False)
 | _=>False
theorem Zwl:RWc.M Zto:=fun ws G Q Q' h q=>by
 unfold Zto at q ⊢
 split at q
 ·split at q
  ·exact ⟨q.1,h _ _ q.2⟩
  ·exact q.elim
 ·exact q.elim
theorem Zu8 (ws:List W) (vs:List V) (G:Hw) (H:Hp) (Q:VK) (t:TrL K H vs ws) (r:RelH K H G) (q:Zto ws G (dn K H Q)):∃ (p:Addr) (ns:List Int),vs=[.ref p]∧SqL K H p (ns.map V.int)∧PyProof.Rows.SumFits ns∧Q (.int ns.sum) H:=by
 unfold Zto at q
 split at q
 ·rename_i w0
  split at q
  ·rename_i ns e
   cases t with
   | cons tw t =>
    cases t
    obtain ⟨xs,e1,e2⟩:=Option.bind_eq_some_iff.mp e
    obtain ⟨a,us,rfl,rfl,_,e5,t5⟩:=Zeh r tw e1
    have:=Zqx e2 t5
    subst this
    exact ⟨a,ns,rfl,SqL.of e5,q.1,q.2 _ H .refl (.int _) r⟩
  ·exact q.elim
 ·exact q.elim
def ZiZ (w:W) (G:Hw):Option W:=match w with
 | .tup xs=>some (.int xs.length)
 | .rol xs=>some (.int xs.length)
 | .str z=>if z.length≤sizeLine then some (.int z.length) else none
 | .ref a=>(match G a with | some (.lst xs)=>some (.int xs.length) | _=>none)
 | _=>none
def ZfZ (ws:List W) (G:Hw):Option W:=match ws with | [w]=>ZiZ w G | _=>none
theorem Zvb (ws:List W) (vs:List V) (G:Hw) (H:Hp) (Q:VK) (t:TrL K H vs ws) (r:RelH K H G) (q:rF ZfZ ws G (dn K H Q)):∃ x n,vs=[x]∧Zz3 K x H n∧Q (.int n) H:=by
 obtain ⟨w,e,q'⟩:=Zep q
 unfold ZfZ at e
 split at e
 ·cases t with
  | cons tw t =>
   cases t
   cases tw with
   | tup h l=>cases e;exact ⟨_,_,rfl,.inr ⟨_,h,rfl⟩,by rw [l.length];exact q' _ H .refl (.int _) r⟩
   | rol h l=>cases e;exact ⟨_,_,rfl,.inl ⟨_,h.sq,rfl⟩,by rw [l.length];exact q' _ H .refl (.int _) r⟩
   | str z =>
    unfold ZiZ at e;dsimp only at e
    split at e
    ·rename_i hz;cases e;exact ⟨_,_,rfl,⟨hz,rfl⟩,q' _ H .refl (.int _) r⟩
    ·cases e
   | ref a =>
    unfold ZiZ at e;dsimp only at e
    cases z:G a with
    | none=>rw [z] at e;cases e
    | some o =>
     rw [z] at e
     cases o with
     | exc C=>cases e
     | ins C fs=>cases e
     | dct kvs=>cases e
     | lst xs =>
      cases e
      obtain ⟨us,e1,t1⟩:=r a _ z
      exact ⟨_,_,rfl,.inl ⟨_,SqL.of e1,rfl⟩,by rw [t1.length];exact q' _ H .refl (.int _) r⟩
   | _=>cases e
 ·cases e
mutual
def eqD:W→W→Option Bool
 | .tup xs,.tup ys=>ZhH xs ys
 | .non,.non=>some true
 | .bl a,.bl b=>some (a==b)
 | .bl a,.int b=>some ((if a then 1 else 0)==b)
 | .int a,.bl b=>some (a==(if b then 1 else 0))
 | .int a,.int b=>some (a==b)
 | .str a,.str b=>some (a==b)
 | .non,.int _=>some false
 | .int _,.non=>some false
 | .int _,.str _=>some false
 | .str _,.int _=>some false
 | .bl _,.str _=>some false
 | .str _,.bl _=>some false
 | .non,.str _=>some false
 | .str _,.non=>some false
 | .non,.bl _=>some false
 | .bl _,.non=>some false
 | .tup _,.str _=>some false
 | .str _,.tup _=>some false
 | .tup _,.bl _=>some false
 | .bl _,.tup _=>some false
 | _,_=>none
def ZhH:List W→List W→Option Bool
 | [],[]=>some true
 | [],_::_=>some false
 | _::_,[]=>some false
 | x::xs,y::ys=>match eqD x y,ZhH xs ys with
  | some a,some b=>some (a&&b)
  | _,_=>none
end
mutual
def dpW:W→Nat
 | .tup xs=>dpL xs+1
 | _=>0
def dpL:List W→Nat
 | []=>0
 | x::xs=>max (dpW x) (dpL xs)
end
def Zsr:W→Option V
 | .non=>some .non
 | .bl b=>some (.bl b)
 | .int i=>some (.int i)
 | .str x=>some (.str x)
 | _=>none
theorem Znd {v:V} {w:W} {f:V} (t:Tr K H v w) (e:Zsr w=some f):v=f∧Zi7 v=true:=by
 cases t <;> first | cases e;exact ⟨rfl,rfl⟩ | cases e
theorem ZhW:∀ {xs ys:List W} {b:Bool},ZhH xs ys=some b→∃ e:Nat→Bool,(∀ (i:Nat) x y,xs[i]?=some x→ys[i]?=some y→eqD x y=some (e i))∧b=((List.range (min xs.length ys.length)).all e&&xs.length==ys.length)
 | [],[],b,h=>by
  cases (show some true=some b from h)
  exact ⟨fun _=>true,fun i x y h1 h2=>by simp at h1,by simp⟩
 | [],_::_,b,h=>by
  cases (show some false=some b from h)
  exact ⟨fun _=>true,fun i x y h1 h2=>by simp at h1,by simp⟩
 | _::_,[],b,h=>by
  cases (show some false=some b from h)
  exact ⟨fun _=>true,fun i x y h1 h2=>by simp at h2,by simp⟩
 | x::xs,y::ys,b,h=>by
  have h':(match eqD x y,ZhH xs ys with | some a,some b=>some (a&&b) | _,_=>none)=some b:=by rw [← h];rfl
  cases e1:eqD x y with
  | none=>rw [e1] at h';cases h'
  | some a =>
   cases e2:ZhH xs ys with
   | none=>rw [e1,e2] at h';cases h'
   | some c =>
    rw [e1,e2] at h'
    cases h'
    obtain ⟨f,hf,hc⟩:=ZhW e2
    refine ⟨fun i=>match i with | 0=>a | j+1=>f j,fun i x' y' h1 h2=>?_,?_⟩
    ·cases i with
     | zero=>simp at h1 h2;subst h1;subst h2;exact e1
     | succ j=>exact hf j x' y' (by simpa using h1) (by simpa using h2)
    ·have em:min (x::xs).length (y::ys).length=min xs.length ys.length+1:=by simp only [List.length_cons];omega
     rw [em,List.range_succ_eq_map,List.all_cons,List.all_map,hc]
     have e5:((x::xs).length==(y::ys).length)=(xs.length==ys.length):=by simp
     rw [e5,Bool.and_assoc]
     rfl
theorem Zns:∀ (xs:List W),(∀ x∈xs,eqD x x=some true∨eqD x x=none)→ZhH xs xs=some true∨ZhH xs xs=none
 | [],_=>.inl rfl
 | x::xs,h=>by
  have e:ZhH (x::xs) (x::xs)=(match eqD x x,ZhH xs xs with | some a,some b=>some (a&&b) | _,_=>none):=rfl
  rw [e]
  rcases h x List.mem_cons_self with h1 | h1
  ·rcases Zns xs (fun y hy=>h y (List.mem_cons_of_mem _ hy)) with h2 | h2
   ·rw [h1,h2];exact .inl rfl
   ·rw [h1,h2];exact .inr rfl
  ·rw [h1];exact .inr rfl
theorem Zqc:∀ (x:W),eqD x x=some true∨eqD x x=none
 | .non=>.inl rfl
 | .bl b=>.inl (by show some (b==b)=_;simp)
 | .int b=>.inl (by show some (b==b)=_;simp)
 | .str b=>.inl (by show some (b==b)=_;simp)
 | .tup xs=>Zns xs (fun x _=>Zqc x)
 | .rol _=>.inr rfl
 | .ref _=>.inr rfl
theorem Zga:∀ {xs:List W} {x:W},x∈xs→dpW x≤dpL xs
 | y::xs,x,h=>by
  have e:dpL (y::xs)=max (dpW y) (dpL xs):=rfl
  rw [e]
  walk_at "pr"
  ·exact Nat.le_max_left ..
  ·exact Nat.le_trans (Zga h) (Nat.le_max_right ..)
theorem Zoa:∀ (ws:List W) (ys:List W) (vs:List V),(∀ (v:V) (w y:W),w∈ws→Tr K H v w→Tr K H v y→eqD w y≠none→w=y)→TrL K H vs ws→TrL K H vs ys→ZhH ws ys≠none→ws=ys:=by
 intro ws
 induction ws with
 | nil =>
  intro ys vs _ l l' _
  cases l
  cases l'
  rfl
 | cons w ws ih =>
  intro ys vs h l l' ne
  cases l with
  | cons t l =>
   cases l' with
   | @cons _ y _ ys t' l' =>
    have e:ZhH (w::ws) (y::ys)=(match eqD w y,ZhH ws ys with | some a,some b=>some (a&&b) | _,_=>none):=rfl
    have h1:eqD w y≠none:=fun z=>ne (by rw [e,z])
    have h2:ZhH ws ys≠none:=fun z=>ne (by rw [e,z];cases eqD w y <;> rfl)
    rw [h _ w y List.mem_cons_self t t' h1,ih ys _ (fun v w y hm=>h v w y (List.mem_cons_of_mem _ hm)) l l' h2]
theorem Zwv {X:Cx} {pins:List (Addr×Obj)} {σ:St} {H:Hp} {s:Shared} (I:Inv X pins σ H s) (n:Nat):∀ (v:V) (w y:W),dpW w < n→Tr X.K H v w→Tr X.K H v y→eqD w y≠none→w=y:=by
 induction n with
 | zero=>intro v w y h;exact absurd h (Nat.not_lt_zero _)
 | succ n ih =>
  intro v w y h tw ty ne
  cases tw with
  | tup hq l =>
   rename_i a vs ws
   generalize hv:V.ref a=vr at ty
   cases ty with
   | tup hq' l' =>
    cases hv
    have e:=I.tuple_inj hq hq'
    subst e
    have hd2:dpL ws+1 < n+1:=h
    rw [Zoa ws _ _ (fun v w y hm=>ih v w y (by have:=Zga hm;omega)) l l' ne]
   | rol _ _=>exact absurd rfl ne
   | ref _=>exact absurd rfl ne
   | non=>cases hv
   | bl _=>cases hv
   | int _=>cases hv
   | str _=>cases hv
  | rol _ _=>exact absurd (by cases y <;> rfl) ne
  | ref _=>exact absurd (by cases y <;> rfl) ne
  | non=>cases ty;rfl
  | bl _=>cases ty;rfl
  | int _=>cases ty;rfl
  | str _=>cases ty;rfl
theorem ZvJ {X:Cx} {pins:List (Addr×Obj)} {σ:St} {H:Hp} {s:Shared} (I:Inv X pins σ H s) (n:Nat):∀ (w y:W) (v u:V) (vv uu:Value) (b:Bool) (A:Around),dpW w < n→Tr X.K H v w→Tr X.K H u y→RelV v vv→RelV u uu→eqD w y=some b→A.units+n < cLine→SeqAt.EqAt A s vv uu b:=by
 induction n with
 | zero=>intro w _ _ _ _ _ _ _ h;exact absurd h (Nat.not_lt_zero _)
 | succ n ih =>
  intro w y v u vv uu b A h tw ty rv ru e hu
  cases tw with
  | tup hq l =>
   cases ty with
   | tup hq' l' =>
    rename_i a vs ws a' us ys
    cases rv
    cases ru
    by_cases haa:a=a'
    ·subst haa
     have ew:=Zwv I (dpW (.tup ws)+1) _ _ _ (Nat.lt_succ_self _) (.tup hq l) (.tup hq' l') (by rw [e];simp)
     cases ew
     rcases Zqc (.tup ws) with z | z
     ·rw [e] at z;cases z;exact SeqAt.EqAt.same _
     ·rw [e] at z;cases z
    ·obtain ⟨its,r1,p1,_⟩:=I.tuple hq
     obtain ⟨its',r2,p2,_⟩:=I.tuple hq'
     obtain ⟨f,hf,hb⟩:=ZhW (show ZhH ws ys=some b from e)
     have l1:=r1.length
     have l2:=r2.length
     have l3:=l.length
     have l4:=l'.length
     refine SeqAt.EqAt.of_refs haa ?_
     have key:=SeqAt.RcAt.tuples (A:=A) (s:=s) (e:=f) (show s.heap.IsTuple a its.toArray from p1) (show s.heap.IsTuple a' its'.toArray from p2) (by omega) (fun j h1 h2=>?_)
     ·rw [hb]
      walk_at "pp"
      walk_at "pn"
      rw [e1,e2] at key
      exact key
     ·have j1:j < ws.length:=by rw [List.size_toArray] at h1;omega
      have j2:j < ys.length:=by rw [List.size_toArray] at h2;omega
      obtain ⟨v1,g1,t1⟩:=l.get (List.getElem?_eq_getElem j1)
      obtain ⟨v2,g2,t2⟩:=l'.get (List.getElem?_eq_getElem j2)
      obtain ⟨u1,g3,rr1⟩:=r1.get g1
      obtain ⟨u2,g4,rr2⟩:=r2.get g2
      have eu1:its.toArray[j]=u1:=by
       have z:its[j]?=some its[j]:=List.getElem?_eq_getElem (by omega)
       rw [g3] at z
       have z':=Option.some.inj z
       rw [z'];simp
      have eu2:its'.toArray[j]=u2:=by
       have z:its'[j]?=some its'[j]:=List.getElem?_eq_getElem (by omega)
       rw [g4] at z
       have z':=Option.some.inj z
       rw [z'];simp
      rw [eu1,eu2]
      have hd:dpW (ws[j])≤dpL ws:=Zga (List.getElem_mem j1)
      have hd2:dpL ws+1 < n+1:=h
      exact ih _ _ _ _ _ _ _ A.in1 (by omega) t1 t2 rr1 rr2 (hf j _ _ (List.getElem?_eq_getElem j1) (List.getElem?_eq_getElem j2)) (by show A.units+1+n < cLine;omega)
   | str _ =>
    cases e;cases rv;obtain ⟨t,rfl⟩:=ru
    obtain ⟨its,r1,p1,_⟩:=I.tuple hq
    exact SeqAt.EqAt.tuple_str (A:=A) _ _ p1 (by omega)
   | bl _ =>
    cases e;cases rv;cases ru
    obtain ⟨its,r1,p1,_⟩:=I.tuple hq
    exact SeqAt.EqAt.tuple_bool _ p1 (by omega)
   | _=>cases e
  | non=>cases ty <;> cases e <;> exact ZlB rv ru rfl rfl
  | bl c =>
   cases ty with
   | tup hq l =>
    cases e;cases rv;cases ru
    obtain ⟨its,r1,p1,_⟩:=I.tuple hq
    exact SeqAt.EqAt.bool_tuple _ p1 (by omega)
   | _=>cases e <;> exact ZlB rv ru rfl rfl
  | int c=>cases ty <;> cases e <;> exact ZlB rv ru rfl rfl
  | str c =>
   cases ty with
   | tup hq l =>
    cases e;cases ru;obtain ⟨t,rfl⟩:=rv
    obtain ⟨its,r1,p1,_⟩:=I.tuple hq
    exact SeqAt.EqAt.str_tuple (A:=A) _ _ p1 (by omega)
   | _=>cases e <;> exact ZlB rv ru rfl rfl
  | rol _ _=>cases y <;> cases e
  | ref _=>cases y <;> cases e
def rSq (K:PySem.W.Frag) (neg:Bool):R2:=fun v u H Q=>∃ (a b:Addr) (vs us:List V) (ws ys:List W) (c:Bool),v=.ref a∧u=.ref b∧((SqT K H a vs∧SqT K H b us)∨(SqL K H a vs∧SqL K H b us))∧TrL K H vs ws∧TrL K H us ys∧dpL ws < 90∧ZhH ws ys=some c∧Q (.bl (c != neg)) H
section
variable {X:Cx} {pins:List (Addr×Obj)} {σ:St} {H:Hp} {s:Shared}
theorem ZhL (I:Inv X pins σ H s) {A:Around} {vs us:List V} {ws ys:List W} {its its':List Value} (r1:Vals vs its) (r2:Vals us its') (t1:TrL X.K H vs ws) (t2:TrL X.K H us ys) (hd:dpL ws < 90) (hu:A.units+100 < cLine) {f:Nat→Bool}
  (hf:∀ (i:Nat) x y,ws[i]?=some x→ys[i]?=some y→eqD x y=some (f i)) (j:Nat) (h1:j < its.toArray.size) (h2:j < its'.toArray.size):SeqAt.EqAt A.in1 s its.toArray[j] its'.toArray[j] (f j):=by
 have l1:=r1.length
 have l2:=r2.length
 have l3:=t1.length
 have l4:=t2.length
 have j1:j < ws.length:=by rw [List.size_toArray] at h1;omega
 have j2:j < ys.length:=by rw [List.size_toArray] at h2;omega
 obtain ⟨v1,g1,t1'⟩:=t1.get (List.getElem?_eq_getElem j1)
 obtain ⟨v2,g2,t2'⟩:=t2.get (List.getElem?_eq_getElem j2)
 obtain ⟨u1,g3,rr1⟩:=r1.get g1
 obtain ⟨u2,g4,rr2⟩:=r2.get g2
 have eu1:its.toArray[j]=u1:=by
  have z:its[j]?=some its[j]:=List.getElem?_eq_getElem (by omega)
  rw [g3] at z
  rw [Option.some.inj z];simp
 have eu2:its'.toArray[j]=u2:=by
  have z:its'[j]?=some its'[j]:=List.getElem?_eq_getElem (by omega)
  rw [g4] at z
  rw [Option.some.inj z];simp
 rw [eu1,eu2]
 exact ZvJ I 99 _ _ _ _ _ _ _ A.in1 (by have:=Zga (List.getElem_mem j1);omega) t1' t2' rr1 rr2 (hf j _ _ (List.getElem?_eq_getElem j1) (List.getElem?_eq_getElem j2)) (by show A.units+1+99 < cLine;omega)
end
theorem ZrZ {X:Cx} (hu:X.A.units+100 < cLine):OpR X (compareOp .Eq) (rSq X.K false):=by
 walk_at "pa"
 obtain ⟨a,b,vs,us,ws,ys,c,rfl,rfl,hq,t1,t2,hd,e,q⟩:=h
 cases rx
 cases ry
 obtain ⟨f,hf,hb⟩:=ZhW e
 have l3:=t1.length
 have l4:=t2.length
 have fin:∀ d:Bool,d=c→EP X pins σ Q (.bool d) s:=fun d hd=>by subst hd;exact ⟨.bl d,H,I,rfl,by simpa using q⟩
 rcases hq with ⟨h1,h2⟩ | ⟨h1,h2⟩
 ·obtain ⟨its,r1,p1,_⟩:=I.tuple h1
  obtain ⟨its',r2,p2,_⟩:=I.tuple h2
  have l1:=r1.length
  have l2:=r2.length
  refine SeqAt.eq_tupleAt (e:=f) (show s.heap.IsTuple a its.toArray from p1) (show s.heap.IsTuple b its'.toArray from p2) (by omega) (ZhL I r1 r2 t1 t2 hd hu hf) (fin _ ?_)
  walk_at "pp"
  walk_at "pn"
  rw [e1,e2,hb]
 ·obtain ⟨its,r1,p1,_⟩:=I.list h1
  obtain ⟨its',r2,p2,_⟩:=I.list h2
  have l1:=r1.length
  have l2:=r2.length
  walk_at "pp"
  walk_at "pn"
  by_cases hl:ws.length=ys.length
  ·refine SeqAt.eq_listAt (e:=f) p1.isList p2.isList (by omega) (by omega) (ZhL I r1 r2 t1 t2 hd hu hf) (fin _ ?_)
   rw [e1,hb,hl];simp
  ·refine SeqAt.eq_list_lengthsAt p1.isList p2.isList (by rw [e1,e2];simpa using hl) (by omega) (fin _ ?_)
   rw [hb];simp [hl]
theorem ZsL {X:Cx} (hu:X.A.units+100 < cLine):OpR X (compareOp .NotEq) (rSq X.K true):=by
 walk_at "pa"
 obtain ⟨a,b,vs,us,ws,ys,c,rfl,rfl,hq,t1,t2,hd,e,q⟩:=h
 cases rx
 cases ry
 obtain ⟨f,hf,hb⟩:=ZhW e
 have l3:=t1.length
 have l4:=t2.length
 have fin:∀ d:Bool,d=!c→EP X pins σ Q (.bool d) s:=fun d hd=>by subst hd;exact ⟨.bl _,H,I,rfl,by simpa using q⟩
 rcases hq with ⟨h1,h2⟩ | ⟨h1,h2⟩
 ·obtain ⟨its,r1,p1,_⟩:=I.tuple h1
  obtain ⟨its',r2,p2,_⟩:=I.tuple h2
  have l1:=r1.length
  have l2:=r2.length
  refine SeqAt.RcNeAt.tuples (e:=f) (show s.heap.IsTuple a its.toArray from p1) (show s.heap.IsTuple b its'.toArray from p2) (by omega) (ZhL I r1 r2 t1 t2 hd hu hf) _ _ _ _ (fin _ ?_)
  walk_at "pp"
  walk_at "pn"
  rw [e1,e2,hb]
 ·obtain ⟨its,r1,p1,_⟩:=I.list h1
  obtain ⟨its',r2,p2,_⟩:=I.list h2
  have l1:=r1.length
  have l2:=r2.length
  walk_at "pp"
  walk_at "pn"
  by_cases hl:ws.length=ys.length
  ·refine SeqAt.RcNeAt.lists (e:=f) p1.isList p2.isList (by omega) (by omega) (ZhL I r1 r2 t1 t2 hd hu hf) _ _ _ _ (fin _ ?_)
   rw [e1,hb,hl];simp
  ·refine SeqAt.RcNeAt.lists_lengths p1.isList p2.isList (by rw [e1,e2];simpa using hl) (by omega) _ _ _ _ (fin _ ?_)
   rw [hb];simp [hl]
def eqW (x y:W) (G:Hw):Option Bool:=match x,y with
 | .tup xs,.tup ys=>if dpL xs < 90 then ZhH xs ys else none
 | .ref a,.ref b=>(match G a,G b with
  | some (.lst xs),some (.lst ys)=>if dpL xs < 90 then ZhH xs ys else none
  | _,_=>none)
 | .int a,.int b=>some (a==b)
 | .bl a,.bl b=>some (a==b)
 | .str a,.str b=>some (a==b)
 | .non,.non=>some true
 | .int _,.non=>some false
 | .non,.int _=>some false
 | .int _,.str _=>some false
 | .str _,.int _=>some false
 | .bl _,.str _=>some false
 | .str _,.bl _=>some false
 | .non,.str _=>some false
 | .str _,.non=>some false
 | .non,.bl _=>some false
 | .bl _,.non=>some false
 | _,_=>none
def eqF (neg:Bool) (x y:W) (G:Hw):Option W:=(eqW x y G).map fun c=>.bl (c != neg)
theorem ZzK (c:Bool):(c != true)=!c:=by cases c <;> rfl
theorem ZtN (neg:Bool) (x y:W) (v u:V) (G:Hw) (H:Hp) (Q:VK) (tx:Tr K H v x) (ty:Tr K H u y) (r:RelH K H G) (q:Zar (eqF neg) x y G (dn K H Q)):(Zvk v u=true∧Q (.bl (decide (v=u) != neg)) H)∨rSq K neg v u H Q:=by
 obtain ⟨w,e,q'⟩:=Zep q
 obtain ⟨c,e1,e2⟩:=Option.map_eq_some_iff.mp e
 subst e2
 have qq:=q' (.bl (c != neg)) H .refl (.bl _) r
 have sc:∀ {i j:V},decide (i=j)=c→Zvk i j=true→(Zvk i j=true∧Q (.bl (decide (i=j) != neg)) H)∨rSq K neg i j H Q:=fun {i j} h1 h2=>.inl ⟨h2,by rw [h1];exact qq⟩
 cases tx with
 | tup hq l =>
  cases ty with
  | tup hq' l' =>
   unfold eqW at e1;dsimp only at e1
   split at e1
   ·rename_i hd
    exact .inr ⟨_,_,_,_,_,_,c,rfl,rfl,.inl ⟨hq,hq'⟩,l,l',hd,e1,qq⟩
   ·cases e1
  | _=>cases e1
 | ref a =>
  cases ty with
  | ref b =>
   unfold eqW at e1;dsimp only at e1
   cases ea:G a with
   | none=>rw [ea] at e1;cases e1
   | some oa =>
    cases eb:G b with
    | none=>rw [ea,eb] at e1;cases oa <;> cases e1
    | some ob =>
     rw [ea,eb] at e1
     cases oa <;> cases ob <;> try cases e1
     dsimp only at e1
     split at e1
     ·rename_i hd
      obtain ⟨vs,z1,t1⟩:=r a _ ea
      obtain ⟨us,z2,t2⟩:=r b _ eb
      exact .inr ⟨_,_,_,_,_,_,c,rfl,rfl,.inr ⟨SqL.of z1,SqL.of z2⟩,t1,t2,hd,e1,qq⟩
     ·cases e1
  | _=>cases e1
 | rol _ _=>cases y <;> cases e1
 | non=>cases ty <;> cases e1 <;> exact sc (by simp) rfl
 | bl b=>cases ty <;> cases e1 <;> exact sc (by first | exact Zo8 | simp) rfl
 | int b=>cases ty <;> cases e1 <;> exact sc (by first | exact Zmn | simp) rfl
 | str b=>cases ty <;> cases e1 <;> exact sc (by first | exact Zmb | simp) rfl
theorem Zx2 {X:Cx} (hu:X.A.units+100 < cLine):OpR X (compareOp .Eq) (fun x y H Q=>(Zvk x y=true∧Q (.bl (decide (x=y) != false)) H)∨rSq X.K false x y H Q):=by
 walk_at "pa"
 rcases h with ⟨h1,h2⟩ | h
 ·exact Zzg pins s σ H x y v u Q I rx ry ⟨h1,by simpa using h2⟩
 ·exact ZrZ hu pins s σ H x y v u Q I rx ry h
theorem Zyn {X:Cx} (hu:X.A.units+100 < cLine):OpR X (compareOp .NotEq) (fun x y H Q=>(Zvk x y=true∧Q (.bl (decide (x=y) != true)) H)∨rSq X.K true x y H Q):=by
 walk_at "pa"
 rcases h with ⟨h1,h2⟩ | h
 ·exact Zzs pins s σ H x y v u Q I rx ry ⟨h1,by rw [← ZzK];exact h2⟩
 ·exact ZsL hu pins s σ H x y v u Q I rx ry h
section
variable {X:Cx} {a b c e:Expr} {es Zdr:List Expr} {pos pos' p:Pos} {ga gb gc:GE} {gt gu:GT} {gs:GA}
def ZmM (G:Hw) (w:W):Option (List W):=match w with
 | .tup xs=>some xs
 | .rol xs=>some xs
 | .ref a=>(match G a with | some (.lst xs)=>some xs | _=>none)
 | _=>none
theorem ZkD {G:Hw} {w:W} {xs:List W} {v:V} (r:RelH K H G) (t:Tr K H v w) (e:ZmM G w=some xs):∃ a vs,v=.ref a∧(SqL K H a vs∨SqT K H a vs)∧TrL K H vs xs:=by
 cases t with
 | tup h l=>cases e;exact ⟨_,_,rfl,.inr h,l⟩
 | rol h l=>cases e;exact ⟨_,_,rfl,.inl h.sq,l⟩
 | ref a =>
  unfold ZmM at e;dsimp only at e
  cases z:G a with
  | none=>rw [z] at e;cases e
  | some o =>
   rw [z] at e
   cases o with
   | lst ys=>cases e;obtain ⟨vs,e1,t1⟩:=r a _ z;exact ⟨a,vs,rfl,.inl (SqL.of e1),t1⟩
   | exc C=>cases e
   | ins C fs=>cases e
   | dct kvs=>cases e
 | _=>cases e
def Zsi:List W→Option (List V)
 | []=>some []
 | w::ws=>(Zsr w).bind fun v=>(Zsi ws).map (v::·)
theorem ZnJ:∀ {ws:List W} {vs us:List V},Zsi ws=some us→TrL K H vs ws→vs=us∧vs.all Zi7=true
 | [],vs,us,e,t=>by cases e;cases t;exact ⟨rfl,rfl⟩
 | w::ws,vs,us,e,t=>by
  cases t with
  | cons tw t =>
   obtain ⟨f,e1,e2⟩:=Option.bind_eq_some_iff.mp (show (Zsr w).bind (fun v=>(Zsi ws).map (v::·))=some us from e)
   obtain ⟨fs,e3,e4⟩:=Option.map_eq_some_iff.mp e2
   obtain ⟨h1,h2⟩:=Znd tw e1
   obtain ⟨h3,h4⟩:=ZnJ e3 t
   subst e4
   exact ⟨by rw [h1,h3],by rw [List.all_cons,h2,h4];rfl⟩
def inF (neg:Bool) (x y:W) (G:Hw):Option W:=(Zsr x).bind fun v=>(ZmM G y).bind fun xs=>(Zsi xs).map fun us=>.bl (if neg then !inV v us else inV v us)
theorem Zw6 (neg:Bool) (x y:W) (v u:V) (G:Hw) (H:Hp) (Q:VK) (tx:Tr K H v x) (ty:Tr K H u y) (r:RelH K H G) (q:Zar (inF neg) x y G (dn K H Q)):rIn K neg v u H Q:=by
 obtain ⟨w,e,q'⟩:=Zep q
 obtain ⟨f,e1,e2⟩:=Option.bind_eq_some_iff.mp e
 obtain ⟨xs,e3,e4⟩:=Option.bind_eq_some_iff.mp e2
 obtain ⟨us,e5,e6⟩:=Option.map_eq_some_iff.mp e4
 subst e6
 obtain ⟨h1,h2⟩:=Znd tx e1
 obtain ⟨a,vs,rfl,hq,t⟩:=ZkD r ty e3
 obtain ⟨h3,h4⟩:=ZnJ e5 t
 subst h1;subst h3
 exact ⟨a,vs,rfl,hq,h2,h4,q' _ H .refl (.bl _) r⟩
end
section
variable {X:Cx} {P:Hp→Prop} {a b c e o i:Expr} {sts:List Stmt} {pos pos':Pos} {ga gb gc gv go gi:GE} {gt:GT} {g:GS} {gs:GA}
def Zk0 (gt:GT) (g:GS):GS:=fun D ω G=>∃ W:Nat→Sw→Hw→Prop,(∃ m,W m ω G)∧∀ m ω G,W m ω G →
 gt ω G fun b G1=>if b=true then g { nx:=fun ω' G'=>∃ m',m' < m∧W m' ω' G',rt:=D.rt,bk:=D.nx,ct:=fun ω' G'=>∃ m',m' < m∧W m' ω' G' } ω G1 else D.nx ω G1
theorem ZsF (mt:gt.M) (mb:g.M):GS.M (Zk0 gt g):=fun ω G D D' h1 h2 h3 h4 ⟨W,w0,turn⟩=>⟨W,w0,fun m ω G w=>mt _ _ _ _ (fun b G1 z=>by
 cases b with
 | true=>exact mb _ _ { nx:=fun ω' G'=>∃ m',m' < m∧W m' ω' G',rt:=D.rt,bk:=D.nx,ct:=fun ω' G'=>∃ m',m' < m∧W m' ω' G' } _ (fun _ _ y=>y) h2 h1 (fun _ _ y=>y) z
 | false=>exact h1 _ _ z) (turn m ω G w)⟩
theorem ZrM (hp:PassesOwn (model X.prog X.w) X.A X.env X.xe) (mt:gt.M) (mb:g.M) (hc:PTw X c gt) (hb:ZrN X P sts g):PSw X P (.While c sts [] pos) (Zk0 gt g):=fun B hB =>
 ZgD (ZrD hp hc (hb B hB)) <| by
  rintro D σ H ⟨ω,G,ts,r,mb0,W,⟨m0,w0⟩,turn⟩
  refine ⟨fun m σ' H'=>Mono X.K B H'∧∃ ω' G',TrSt X.K H' σ' ω'∧RelH X.K H' G'∧W m ω' G',⟨m0,mb0,ω,G,ts,r,w0⟩,?_⟩
  rintro m σ' H' ⟨mm,ω',G',ts',r',w'⟩
  refine ⟨ω',G',ts',r',mt _ _ _ _ (fun b G1 z H1 m1 r1=>?_) (turn m ω' G' w')⟩
  cases b with
  | true =>
   rw [if_pos rfl]
   refine ⟨fun σ2 H2=>∃ m',m' < m∧Mono X.K B H2∧∃ ω2 G2,TrSt X.K H2 σ2 ω2∧RelH X.K H2 G2∧W m' ω2 G2,(by rintro σ2 H2 ⟨m',h1,h2⟩;exact ⟨m',h1,h2⟩),ω',G1,ts'.mono m1,r1,mm.trans m1,?_⟩
   exact mb _ _ { nx:=fun ω' G'=>∃ m',m' < m∧W m' ω' G',rt:=(dnD X.K B D).rt,bk:=(dnD X.K B D).nx,ct:=fun ω' G'=>∃ m',m' < m∧W m' ω' G' } _
    ((by rintro a b ⟨m',h1,h2⟩ σ2 H2 m2 ts2 r2;exact ⟨m',h1,m2,a,b,ts2,r2,h2⟩)) (fun a b y=>y) (fun a b y=>y) ((by rintro a b ⟨m',h1,h2⟩ σ2 H2 m2 ts2 r2;exact ⟨m',h1,m2,a,b,ts2,r2,h2⟩)) z
  | false =>
   rw [if_neg Bool.false_ne_true]
   exact z σ' H1 (mm.trans m1) (ts'.mono m1) r1
theorem Zb8 (hp:PassesOwn (model X.prog X.w) X.A X.env X.xe) (hc:Tm X c gt) (hb:Ssm X P sts g):Sm X P (.While c sts [] pos) (Zk0 gt g):=⟨ZrM hp hc.m hb.m hc.p hb.p,ZsF hc.m hb.m⟩
def Zr1 (ω:Sw) (i:Nat):Option W:=match ω[i]? with | some (some w)=>some w | _=>none
theorem Zu6 {σ:St} {ω:Sw} {n:Nat} {w:W} (ts:TrSt K H σ ω) (e:Zr1 ω n=some w):∃ v,σ[n]?=some (some v)∧Tr K H v w:=by
 unfold Zr1 at e
 split at e
 ·rename_i u z
  cases e
  exact ts.get n _ z
 ·cases e
def ZiM (n:Nat) (r:RW2) (ga:GE):GS:=fun D ω G=>opt (Zr1 ω n) fun x=>ga ω G fun y G1=>r x y G1 fun z G2=>D.nx (ω.set n (some z)) G2
theorem Zyu {n:Nat} {r:RW2} (mr:r.M) (ma:ga.M):GS.M (ZiM n r ga):=fun ω G D D' h1 _ _ _ q=>Zu1 (fun x q=>ma _ _ _ _ (fun y G1 z=>mr _ _ _ _ _ (fun w G2 z2=>h1 _ _ z2) z) q) q
theorem Zxn {op:Operator} {r:RW2} {r2:R2} {n:Nat} {x:Str} (ho:OpR X (inplaceOp op) r2) (mr:r.M) (hr:∀ (x y:W) (v u:V) (G:Hw) (H:Hp) (Q:VK),Tr X.K H v x→Tr X.K H u y→RelH X.K H G→r x y G (dn X.K H Q)→r2 v u H Q)
  (hN:X.N.Nodup) (hi:X.N[n]?=some x) (hx:Loc X.env.scope x) (hf:X.fn x=true∨X.env.scope.names.lookup x=some .local) (ma:ga.M) (ha:PEw X e ga):PSw X P (.AugAssign (.Name x pos') op e pos) (ZiM n r ga):=fun B hB =>
 ZgD (ZwO hN hi hx ha (fun pins s σ H x y v u Q I r1 r2 h=>ho pins s σ H x y v u Q I r1 r2 h) hf) <| by
  rintro D σ H ⟨ω,G,ts,rh,mb,q⟩
  obtain ⟨w,e1,q⟩:=Zep q
  obtain ⟨v,e2,t⟩:=Zu6 ts e1
  refine ⟨v,e2,ω,G,ts,rh,ma _ _ _ _ (fun y G1 z u H1 m tu r1=>?_) q⟩
  exact hr w y v u G1 H1 _ (t.mono m) tu r1 (mr _ _ _ _ _ (fun w2 G2 z2 v2 H2 m2 t2 r2=>z2 _ H2 ((mb.trans m).trans m2) (((ts.mono m).mono m2).set n t2) r2) z)
def Zda:RW2:=fun x y G Q=>match x,y with
 | .int i,.int j=>Q (.int (i+j)) G
 | .str a,.str b=>a.length+b.length≤sizeLine∧Q (.str (a++b)) G
 | _,_=>False
theorem Zqm:RW2.M Zda:=fun x y G Q Q' h q=>by
 cases x <;> cases y <;> first | exact q | exact h _ _ q | exact ⟨q.1,h _ _ q.2⟩
theorem Zsf (x y:W) (v u:V) (G:Hw) (H:Hp) (Q:VK) (tx:Tr K H v x) (ty:Tr K H u y) (r:RelH K H G) (q:Zda x y G (dn K H Q)) :
  (rI0 fun i j=>.int (i+j)) v u H Q∨(∃ i j,v=.str i∧u=.str j∧i.length+j.length≤sizeLine∧Q (.str (i++j)) H):=by
 cases tx with
 | int i=>cases ty <;> first | exact q.elim | exact .inl ⟨_,_,rfl,rfl,q _ H .refl (.int _) r⟩
 | str i=>cases ty <;> first | exact q.elim | exact .inr ⟨_,_,rfl,rfl,q.1,q.2 _ H .refl (.str _) r⟩
 | _=>exact q.elim
def ZiR (o k v:W) (G:Hw) (Q:Hw→Prop):Prop:=match o,k with
 | .ref a,.int j=>(match G a with
  | some (.lst xs)=>(match ixN xs.length j with | some n=>Q (put G a (.lst (xs.set n v))) | none=>False)
  | _=>False)
 | _,_=>False
theorem ZnY {o k v:W} {G:Hw} {Q:Hw→Prop} (q:ZiR o k v G Q):∃ a j xs n,o=.ref a∧k=.int j∧G a=some (.lst xs)∧ixN xs.length j=some n∧Q (put G a (.lst (xs.set n v))):=by
 unfold ZiR at q
 split at q
 ·split at q
  ·rename_i xs e
   split at q
   ·rename_i n e2;exact ⟨_,_,xs,n,rfl,rfl,e,e2,q⟩
   ·exact q.elim
  ·exact q.elim
 ·exact q.elim
theorem ZkR {v:W} {G:Hw} {Q:Hw→Prop} {a:Addr} {j:Int} {xs:List W} {n:Nat} (e:G a=some (.lst xs)) (e2:ixN xs.length j=some n) (q:Q (put G a (.lst (xs.set n v)))):ZiR (.ref a) (.int j) v G Q:=by
 unfold ZiR
 dsimp only
 rw [e]
 dsimp only
 rw [e2]
 exact q
theorem ZuB {o k v:W} {G:Hw} {Q Q':Hw→Prop} (h:∀ G,Q G→Q' G) (q:ZiR o k v G Q):ZiR o k v G Q':=by
 obtain ⟨a,j,xs,n,rfl,rfl,e,e2,q⟩:=ZnY q
 exact ZkR e e2 (h _ q)
theorem Zrp {o k v:W} {x y u:V} {G:Hw} {Pq:Hw→Prop} {R:Hp→Prop} (tx:Tr K H x v) (ty:Tr K H y o) (tu:Tr K H u k) (r:RelH K H G) (q:ZiR o k v G Pq) (f:∀ G4 H4,Mono K H H4→RelH K H4 G4→Pq G4→R H4):ZwS y u x H R:=by
 obtain ⟨a,j,xs,n,rfl,rfl,e,e2,q⟩:=ZnY q
 cases ty
 cases tu
 obtain ⟨vs,e3,t⟩:=r a _ e
 exact ⟨a,vs,j,n,rfl,rfl,e3,by rw [t.length];exact e2,f _ _ (Mono.lst e3 _) (r.chg e3 (TrL.set tx n t)) q⟩
def Zcr (gv go gi:GE):GS:=fun D ω G=>gv ω G fun v G1=>go ω G1 fun o G2=>gi ω G2 fun k G3=>ZiR o k v G3 fun G4=>D.nx ω G4
theorem Zr7 (mv:gv.M) (mo:go.M) (mi:gi.M):GS.M (Zcr gv go gi):=fun ω G D D' h1 _ _ _ q =>
 mv _ _ _ _ (fun v G1 z=>mo _ _ _ _ (fun o G2 z=>mi _ _ _ _ (fun k G3 z=>ZuB (fun G4 z=>h1 _ _ z) z) z) z) q
theorem ZcO (ha:∀ v,assign (.Subscript o i pos') X.env v=(do
   let ov ← holding [v] (eval o X.env)
   let iv ← holding [v,ov] (eval i X.env)
   standAt pos'
   holding [v,ov,iv] (setItem ov iv v)
   release [v,ov,iv] [])) (hs:swapsWithSole [.Subscript o i pos'] e pos.line X.env=pure false) (hw:swappedStores [.Subscript o i pos'] e X.env=pure none)
  (h1:(assignEach [.Subscript o i pos'] X.env).map (·.2)=[assign (.Subscript o i pos') X.env]) (hv:Em X e gv) (ho:Em X o go) (hi:Em X i gi):Sm X P (.Assign [.Subscript o i pos'] e pos) (Zcr gv go gi) :=
 ⟨fun B hB=>ZgD (Zth hv.p (Ztr ho.p hi.p Zsn ha) hs hw h1) fun D σ H ⟨ω,G,ts,r,mb,q⟩=>⟨ω,G,ts,r,hv.m _ _ _ _ (fun v G1 z x H1 m1 tx r1 =>
  ⟨ω,G1,ts.mono m1,r1,ho.m _ _ _ _ (fun ow G2 z2 y H2 m2 ty r2 =>
   ⟨ω,G2,(ts.mono m1).mono m2,r2,hi.m _ _ _ _ (fun k G3 z3 u H3 m3 tu r3 =>
    Zrp ((tx.mono m2).mono m3) (ty.mono m3) tu r3 z3 (fun G4 H4 m4 r4 q4=>q4 σ H4 ((((mb.trans m1).trans m2).trans m3).trans m4) ((((ts.mono m1).mono m2).mono m3).mono m4) r4)) z2⟩) z⟩) q⟩,Zr7 hv.m ho.m hi.m⟩
abbrev GO:=Sw→Hw→(Option Int→Hw→Prop)→Prop
def GO.M (g:GO):Prop:=∀ ω G (Q Q':Option Int→Hw→Prop),(∀ w G',Q w G'→Q' w G')→g ω G Q→g ω G Q'
def dnO (K:PySem.W.Frag) (H:Hp) (Q:Option Int→Hp→Prop):Option Int→Hw→Prop:=fun b G=>∀ H',Mono K H H'→RelH K H' G→Q b H'
def upO (K:PySem.W.Frag) (g:GO):TO:=fun σ H Q=>∃ ω G,TrSt K H σ ω∧RelH K H G∧g ω G (dnO K H Q)
structure Om (X:Cx) (e:Option Expr) (g:GO):Prop where
 p:PO X e (upO X.K g)
 m:g.M
def Zbu:GO:=fun _ G Q=>Q none G
def Zd9 (ga:GE):GO:=fun ω G Q=>ga ω G fun w G1=>match w with | .int j=>Q (some j) G1 | _=>False
theorem ZdH:Om X none Zbu:=⟨(by rintro pins s σ H Q I ⟨ω,G,ts,r,q⟩;exact Zvx pins s σ H Q I (q H .refl r)),fun _ _ _ _ h q=>h _ _ q⟩
theorem Zdx (h:Em X e ga):Om X (some e) (Zd9 ga):=⟨fun pins s σ H Q I ⟨ω,G,ts,r,q⟩=>Zuw h.p pins s σ H Q I ⟨ω,G,ts,r,h.m _ _ _ _ (fun w G1 z v H1 m t r1=>by
  cases w with
  | int j=>exact ⟨j,Ztc t,z H1 m r1⟩
  | _=>exact z.elim) q⟩,fun ω G Q Q' hh q=>h.m _ _ _ _ (fun w G1 z=>by cases w <;> first | exact hh _ _ z | exact z) q⟩
def ZqO {α:Type} (xs:List α) (lo hi:Option Int):List α:=(xs.drop (HT.sIx xs.length 0 lo)).take (HT.sIx xs.length xs.length hi - HT.sIx xs.length 0 lo)
def slW (w:W) (lo hi:Option Int) (G:Hw) (Q:Kw):Prop:=match w with
 | .tup xs=>¬ (HT.sIx xs.length 0 lo=0∧HT.sIx xs.length xs.length hi=xs.length)∧Q (.tup (ZqO xs lo hi)) G
 | .rol xs=>∀ p,G p=none→Q (.ref p) (put G p (.lst (ZqO xs lo hi)))
 | .ref a=>(match G a with | some (.lst xs)=>∀ p,G p=none→Q (.ref p) (put G p (.lst (ZqO xs lo hi))) | _=>False)
 | _=>False
theorem ZwV {w:W} {lo hi:Option Int} {G:Hw} {Q Q':Kw} (h:∀ w G',Q w G'→Q' w G') (q:slW w lo hi G Q):slW w lo hi G Q':=by
 cases w with
 | tup xs=>exact ⟨q.1,h _ _ q.2⟩
 | rol xs=>exact fun p hp=>h _ _ (q p hp)
 | ref a =>
  unfold slW at q ⊢
  dsimp only at q ⊢
  cases e:G a with
  | none=>rw [e] at q;exact q.elim
  | some ob =>
   rw [e] at q
   cases ob with
   | lst xs=>exact fun p hp=>h _ _ (q p hp)
   | exc C=>exact q.elim
   | ins C fs=>exact q.elim
   | dct kvs=>exact q.elim
 | _=>exact q.elim
theorem TrL.cut {vs:List V} {ws:List W} (t:TrL K H vs ws) (lo hi:Option Int):TrL K H (Ztu vs lo hi) (ZqO ws lo hi):=by
 unfold Ztu ZqO
 rw [t.length]
 exact (t.drop _).take _
theorem ZxT {w:W} {v:V} {lo hi:Option Int} {G:Hw} {Q:VK} (t:Tr K H v w) (r:RelH K H G) (q:slW w lo hi G (dn K H Q)):Zz7 K v lo hi H Q∨ZzZ K v lo hi H Q:=by
 cases t with
 | tup h l =>
  refine .inl ⟨_,_,rfl,h,by rw [l.length];exact q.1,fun p hp=>?_⟩
  exact q.2 _ _ (Mono.new hp _) (.tup (SqT.of Zbk) ((l.cut lo hi).mono (Mono.new hp _))) (r.mono0 hp)
 | rol h l=>exact .inr ⟨_,_,rfl,h.sq,fun p hp=>q p (r.no hp) _ _ (Mono.new hp _) (.ref p) (r.new hp (l.cut lo hi))⟩
 | ref a =>
  unfold slW at q
  dsimp only at q
  cases e:G a with
  | none=>rw [e] at q;exact q.elim
  | some ob =>
   rw [e] at q
   cases ob with
   | lst xs =>
    obtain ⟨vs,e1,l⟩:=r a _ e
    exact .inr ⟨_,_,rfl,SqL.of e1,fun p hp=>q p (r.no hp) _ _ (Mono.new hp _) (.ref p) (r.new hp (l.cut lo hi))⟩
   | exc C=>exact q.elim
   | ins C fs=>exact q.elim
   | dct kvs=>exact q.elim
 | _=>exact q.elim
def gSl (ga:GE) (gl gh:GO):GE:=fun ω G Q=>ga ω G fun w G1=>gl ω G1 fun lo G2=>gh ω G2 fun hi G3=>slW w lo hi G3 Q
theorem ZiX {lo hi:Option Expr} {gl gh:GO} {p2:Pos} (ha:Em X e ga) (hl:Om X lo gl) (hh:Om X hi gh):Em X (.Subscript e (.Slice lo hi none p2) pos) (gSl ga gl gh) :=
 ⟨Zbf (Zrs (SlR.or ZxP ZvP) ha.p hl.p hh.p) fun σ H Q ⟨ω,G,ts,r,q⟩=>⟨ω,G,ts,r,ha.m _ _ _ _ (fun w G1 z v H1 m1 t r1=>⟨ω,G1,ts.mono m1,r1,hl.m _ _ _ _ (fun l G2 z2 H2 m2 r2 =>
   ⟨ω,G2,(ts.mono m1).mono m2,r2,hh.m _ _ _ _ (fun h G3 z3 H3 m3 r3=>ZxT ((t.mono m2).mono m3) r3 (ZwV (fun w G' z=>ZcZ ((m1.trans m2).trans m3) z) z3)) z2⟩) z⟩) q⟩,
  fun ω G Q Q' h q=>ha.m _ _ _ _ (fun w G1 z=>hl.m _ _ _ _ (fun l G2 z2=>hh.m _ _ _ _ (fun u G3 z3=>ZwV h z3) z2) z) q⟩
end
abbrev UpW (K:PySem.W.Frag) (r:RW2) (r2:R2):Prop:=∀ (x y:W) (v u:V) (G:Hw) (H:Hp) (Q:VK),Tr K H v x→Tr K H u y→RelH K H G→r x y G (dn K H Q)→r2 v u H Q
structure Cop (X:Cx) (op:CmpOp) (r:RW2):Prop where
 ex:∃ r2,OpR X (compareOp op) r2∧UpW X.K r r2
 m:r.M
def ZaA (a b:Str):Bool:=decide (a.cps.toList < b.cps.toList)
def Zdw (f:Int→Int→Bool) (g:Str→Str→Bool):RW2:=fun x y G Q=>match x,y with
 | .int i,.int j=>Q (.bl (f i j)) G
 | .str i,.str j=>Q (.bl (g i j)) G
 | _,_=>False
theorem Zta {f:Int→Int→Bool} {g:Str→Str→Bool}:RW2.M (Zdw f g):=fun x y G Q Q' h q=>by
 cases x <;> cases y <;> first | exact q | exact h _ _ q
theorem ZqI {f:Int→Int→Bool} {g:Str→Str→Bool}:UpW K (Zdw f g) (fun x y H Q=>rI0 (fun i j=>.bl (f i j)) x y H Q∨∃ i j,x=.str i∧y=.str j∧Q (.bl (g i j)) H):=fun x y v u G H Q tx ty r q=>by
 cases tx with
 | int i=>cases ty <;> first | exact q.elim | exact .inl ⟨_,_,rfl,rfl,q _ H .refl (.bl _) r⟩
 | str i=>cases ty <;> first | exact q.elim | exact .inr ⟨_,_,rfl,rfl,q _ H .refl (.bl _) r⟩
 | _=>exact q.elim
theorem Zpr {X:Cx}:OpR X (compareOp .LtE) (fun x y H Q=>∃ i j,x=.str i∧y=.str j∧Q (.bl (!ZaA j i)) H):=by
 walk_at "pa"
 obtain ⟨i,j,rfl,rfl,q⟩:=h
 obtain ⟨t,rfl⟩:=rx
 obtain ⟨t',rfl⟩:=ry
 exact PySem.P.le_str ⟨.bl _,H,I,rfl,q⟩
theorem ZfQ {X:Cx}:Cop X .Lt (Zdw (fun i j=>decide (i < j)) ZaA):=⟨⟨_,OpR.or Zzo Zpw,ZqI⟩,Zta⟩
theorem ZfJ {X:Cx}:Cop X .LtE (Zdw (fun i j=>decide (i≤j)) (fun a b=>!ZaA b a)):=⟨⟨_,OpR.or Zzm Zpr,ZqI⟩,Zta⟩
theorem ZfO {X:Cx}:Cop X .Gt (Zfg fun i j=>decide (j < i)):=⟨⟨_,Zzp,Zpo⟩,Ztj⟩
theorem Zfr {X:Cx}:Cop X .GtE (Zfg fun i j=>decide (j≤i)):=⟨⟨_,Zy2,Zpo⟩,Ztj⟩
theorem ZfE {X:Cx} (hu:X.A.units+100 < cLine):Cop X .Eq (Zar (eqF false)):=⟨⟨_,Zx2 hu,ZtN false⟩,Zfl⟩
theorem ZfB {X:Cx} (hu:X.A.units+100 < cLine):Cop X .NotEq (Zar (eqF true)):=⟨⟨_,Zyn hu,ZtN true⟩,Zfl⟩
theorem ZfI {X:Cx}:Cop X .In (Zar (inF false)):=⟨⟨_,Zqa,Zw6 false⟩,Zfl⟩
section
variable {X:Cx} {op op':CmpOp} {r r':RW2} {a b c e:Expr} {es:List Expr} {pos:Pos} {ga gb gc:GE}
theorem Zfz (C:Cop X op r) (hm:behindInMarks op b=false) (ha:Em X a ga) (hb:Em X b gb):Em X (.Compare a [op] [b] pos) (Zak r ga gb) :=
 let ⟨_,h1,h2⟩:=C.ex
 ⟨Zw1 h1 C.m ha.m hb.m h2 ha.p hb.p hm,ZdU C.m ha.m hb.m⟩
theorem Zfp (C:Cop X op r) (hm:behindInMarks op b=false) (ha:Em X a ga) (hb:Em X b gb):Tm X (.Compare a [op] [b] pos) (gTB (Zak r ga gb)) :=
 let ⟨_,h1,h2⟩:=C.ex
 ⟨Zwk h1 C.m ha.m hb.m h2 ha.p hb.p hm,Zw2 (ZdU C.m ha.m hb.m)⟩
def Zb0 (r r':RW2) (ga gb gc:GE):GE:=fun ω G Q=>ga ω G fun x G1=>gb ω G1 fun y G2=>r x y G2 fun z G3=>match z with
 | .bl k=>if k=true then gc ω G3 fun w G4=>r' y w G4 Q else Q (.bl false) G3
 | _=>False
theorem ZkM (mr:r.M) (mr':r'.M) (ma:ga.M) (mb:gb.M) (mc:gc.M):GE.M (Zb0 r r' ga gb gc):=fun ω G Q Q' h q =>
 ma _ _ _ _ (fun x G1 z=>mb _ _ _ _ (fun y G2 z=>mr _ _ _ _ _ (fun z1 G3 z=>by
  cases z1 with
  | bl k =>
   cases k with
   | true=>exact mc _ _ _ _ (fun w G4 z=>mr' _ _ _ _ _ h z) z
   | false=>exact h _ _ z
  | _=>exact z) z) z) q
theorem Zn1 {r2 r2':R2} (u:UpW K r r2) (u':UpW K r' r2') (mr:r.M) (mr':r'.M) (ma:ga.M) (mb:gb.M) (mc:gc.M) (σ:St) (H:Hp) (Q:VK) (h:up K (Zb0 r r' ga gb gc) σ H Q):Zqp r2 r2' (up K ga) (up K gb) (up K gc) σ H Q:=by
 obtain ⟨ω,G,ts,rh,q⟩:=h
 refine ⟨ω,G,ts,rh,ma _ _ _ _ (fun x G1 z1 v H1 m1 tx r1=>⟨ω,G1,ts.mono m1,r1,mb _ _ _ _ (fun y G2 z2 v2 H2 m2 ty r2=>?_) z1⟩) q⟩
 refine u x y v v2 G2 H2 _ (tx.mono m2) ty r2 (mr _ _ _ _ _ (fun k G3 z3 v3 H3 m3 tk r3=>?_) z2)
 cases k with
 | bl k =>
  refine ⟨k,ZmR tk,?_⟩
  cases k with
  | true =>
   rw [if_pos rfl]
   refine ⟨ω,G3,((ts.mono m1).mono m2).mono m3,r3,mc _ _ _ _ (fun w G4 z4 v4 H4 m4 tw r4=>?_) z3⟩
   exact u' y w v2 v4 G4 H4 Q ((ty.mono m3).mono m4) tw r4 (mr' _ _ _ _ _ (fun w5 G5 z5=>ZcZ (((m1.trans m2).trans m3).trans m4) z5) z4)
  | false =>
   rw [if_neg Bool.false_ne_true]
   exact z3 _ H3 ((m1.trans m2).trans m3) (.bl false) r3
 | _=>exact z3.elim
theorem ZcI (C:Cop X op r) (C':Cop X op' r') (hm:lastMarks [op,op'] [b,c]=false) (ha:Em X a ga) (hb:Em X b gb) (hc:Em X c gc):Em X (.Compare a [op,op'] [b,c] pos) (Zb0 r r' ga gb gc) :=
 let ⟨_,h1,h2⟩:=C.ex
 let ⟨_,h3,h4⟩:=C'.ex
 ⟨Zbf (Zse h1 h3 ha.p hb.p hc.p hm) (Zn1 h2 h4 C.m C'.m ha.m hb.m hc.m),ZkM C.m C'.m ha.m hb.m hc.m⟩
theorem ZcN (C:Cop X op r) (C':Cop X op' r') (hm:lastMarks [op,op'] [b,c]=false) (ha:Em X a ga) (hb:Em X b gb) (hc:Em X c gc):Tm X (.Compare a [op,op'] [b,c] pos) (gTB (Zb0 r r' ga gb gc)) :=
 let ⟨_,h1,h2⟩:=C.ex
 let ⟨_,h3,h4⟩:=C'.ex
 ⟨Zm7 (ZsC h1 h3 ha.p hb.p hc.p hm) fun σ H Q z=>Zn1 h2 h4 C.m C'.m ha.m hb.m hc.m σ H _ (ZwA (ZkM C.m C'.m ha.m hb.m hc.m) z),Zw2 (ZkM C.m C'.m ha.m hb.m hc.m)⟩
end
abbrev UpC (K:PySem.W.Frag) (r:RWc) (r1:List V→Hp→VK→Prop):Prop:=∀ ws vs G H Q,TrL K H vs ws→RelH K H G→r ws G (dn K H Q)→r1 vs H Q
structure Blt (X:Cx) (f:Value) (r:RWc):Prop where
 ex:∃ r1,CallR X f r1∧UpC X.K r r1
 m:r.M
section
variable {X:Cx} {x:Str} {p pos:Pos} {e:Expr} {es:List Expr} {gs:GA} {r:RWc} {id T:String}
theorem ZaO (hv:bootBuiltins x=some (.builtin id)) (B:Blt X (.builtin id) r) (hg:Gl X x) (hm:X.mg x=none) (hn:x≠"__name__") (hdb:(x==("__debug__":Str))=false)
  (he:starEach (e::es) X.env=(false,eval e X.env)::starEach es X.env) (hpl:(backTo pos (starEach es X.env)).any (·.1)=false) (ha:Am X (e::es) gs):Em X (.Call (.Name x p) (e::es) [] pos) (gB r gs) :=
 let ⟨_,h1,h2⟩:=B.ex
 ZxW h1 B.m h2 hg hm hv hn hdb he hpl ha
theorem ZaN (hv:bootBuiltins x=some (.type T)) (B:Blt X (.type T) r) (hg:Gl X x) (hm:X.mg x=none) (hn:x≠"__name__") (hdb:(x==("__debug__":Str))=false)
  (he:starEach (e::es) X.env=(false,eval e X.env)::starEach es X.env) (hpl:(backTo pos (starEach es X.env)).any (·.1)=false) (ha:Am X (e::es) gs):Em X (.Call (.Name x p) (e::es) [] pos) (gB r gs) :=
 let ⟨_,h1,h2⟩:=B.ex
 Zxv h1 B.m h2 hg hm hv hn hdb he hpl ha
end
theorem ZdJ {X:Cx}:Blt X (.builtin "len") (rF ZfZ):=⟨⟨_,Zs2,Zvb⟩,Zwo⟩
theorem ZbN {X:Cx} (hc:X.calm=true):Blt X (.builtin "all") (rF ZgP):=⟨⟨_,Zpp hc,ZvY⟩,Zwo⟩
theorem Zdi {X:Cx} (hc:X.calm=true):Blt X (.builtin "any") (rF Zjy):=⟨⟨_,Zo0 hc,ZuV⟩,Zwo⟩
theorem Zdd {X:Cx} (hc:X.calm=true):Blt X (.builtin "sum") Zto:=⟨⟨_,Zqd hc,Zu8⟩,Zwl⟩
def ZoA:RWc:=fun ws G Q=>match ws with
 | [w]=>(match ZmM G w with | some xs=>∀ p,G p=none→Q (.ref p) (put G p (.lst xs)) | none=>False)
 | _=>False
theorem ZuH:RWc.M ZoA:=fun ws G Q Q' h q=>by
 unfold ZoA at q ⊢
 split at q
 ·split at q
  ·exact fun p hp=>h _ _ (q p hp)
  ·exact q.elim
 ·exact q.elim
theorem Zsg:UpC K ZoA (fun xs H Q=>∃ p ys,xs=[.ref p]∧(SqL K H p ys∨SqT K H p ys)∧∀ l,H l=none→Q (.ref l) (upd H l (.lst ys))):=fun ws vs G H Q t r q=>by
 unfold ZoA at q
 split at q
 ·rename_i w0
  split at q
  ·rename_i xs e
   cases t with
   | cons tw t =>
    cases t
    obtain ⟨a,us,rfl,hq,l⟩:=ZkD r tw e
    exact ⟨a,us,rfl,hq,fun p hp=>q p (r.no hp) _ _ (Mono.new hp _) (.ref p) (r.new hp l)⟩
  ·exact q.elim
 ·exact q.elim
theorem ZcH {X:Cx}:Blt X (.type "list") ZoA:=⟨⟨_,ZlU,Zsg⟩,ZuH⟩
def ZhU (ws:List W) (G:Hw):Option W:=match ws with | [w]=>(ZmM G w).map W.tup | _=>none
theorem ZvE:UpC K (rF ZhU) (fun xs H Q=>∃ p ys,xs=[.ref p]∧((SqL K H p ys∧∀ l,H l=none→Q (.ref l) (upd H l (.tup ys)))∨(SqT K H p ys∧Q (.ref p) H))):=fun ws vs G H Q t r q=>by
 obtain ⟨w,e,q'⟩:=Zep q
 unfold ZhU at e
 split at e
 ·obtain ⟨xs,e1,e2⟩:=Option.map_eq_some_iff.mp e
  subst e2
  cases t with
  | cons tw t =>
   cases t
   obtain ⟨a,us,rfl,hq,l⟩:=ZkD r tw e1
   rcases hq with hq | hq
   ·exact ⟨a,us,rfl,.inl ⟨hq,fun p hp=>q' _ _ (Mono.new hp _) (.tup (SqT.of Zbk) (l.mono (Mono.new hp _))) (r.mono0 hp)⟩⟩
   ·exact ⟨a,us,rfl,.inr ⟨hq,q' _ H .refl (.tup hq l) r⟩⟩
 ·cases e
theorem Zb4 {X:Cx}:Blt X (.type "tuple") (rF ZhU):=⟨⟨_,Zkq,ZvE⟩,Zwo⟩
def ZoP (ws:List W) (_:Hw):Option W:=match ws with | [.int i]=>some (.int i) | [.bl k]=>some (.int (if k then 1 else 0)) | _=>none
theorem Zur:UpC K (rF ZoP) (fun xs H Q=>(∃ i,xs=[.int i]∧Q (.int i) H)∨∃ k,xs=[.bl k]∧Q (.int (if k then 1 else 0)) H):=fun ws vs G H Q t r q=>by
 obtain ⟨w,e,q'⟩:=Zep q
 unfold ZoP at e
 split at e
 ·cases e
  cases t with
  | cons tw t=>cases t;cases tw;exact .inl ⟨_,rfl,q' _ H .refl (.int _) r⟩
 ·cases e
  cases t with
  | cons tw t=>cases t;cases tw;exact .inr ⟨_,rfl,q' _ H .refl (.int _) r⟩
 ·cases e
theorem ZdG {X:Cx}:Blt X (.type "int") (rF ZoP):=⟨⟨_,Zo9,Zur⟩,Zwo⟩
structure Mth (X:Cx) (T:String) (name:Str) (id:String) (pre:W→Hw→Prop) (r:W→List W→Hw→Kw→Prop):Prop where
 pa:PlainAttrs T
 slot:Slot T name id
 ty:typeOf (.builtin id)=pure (.type "method_descriptor")
 ex:∃ r2,MtR X id r2∧∀ (o:W) (ws:List W) (v:V) (vs:List V) (G:Hw) (H:Hp) (Q:VK),Tr X.K H v o→TrL X.K H vs ws→RelH X.K H G→r o ws G (dn X.K H Q)→r2 v vs H Q
 pr:∀ (o:W) (v:V) (G:Hw) (H:Hp),Tr X.K H v o→RelH X.K H G→pre o G→tyV X.K T v H
 m:∀ o ws G (Q Q':Kw),(∀ w G',Q w G'→Q' w G')→r o ws G Q→r o ws G Q'
def gMt (pre:W→Hw→Prop) (r:W→List W→Hw→Kw→Prop) (go:GE) (gs:GA):GE:=fun ω G Q=>go ω G fun o G1=>pre o G1∧gs ω G1 fun ws G2=>r o ws G2 Q
section
variable {X:Cx} {o e:Expr} {es:List Expr} {go:GE} {gs:GA} {name:Str} {apos cpos:Pos} {T id:String} {pre:W→Hw→Prop} {r:W→List W→Hw→Kw→Prop}
theorem Zba (M:Mth X T name id pre r) (hbase:attributeBase o name X.env (eval o X.env)=eval o X.env)
  (hfew:((backTo cpos (starEach (e::es) X.env)).all (fun x=>!x.1)&&(backToKw cpos (keywordEach [] X.env)).all (fun x=>x.1.isSome)&&decide ((e::es).length+([]:List Keyword).length+(if ([]:List Keyword).isEmpty then 0 else 1) < 30))=true)
  (hline:(apos.endLine==cpos.line)=true) (hs:starEach (e::es) X.env=(false,eval e X.env)::starEach es X.env) (hplain:(backTo cpos (starEach es X.env)).any (·.1)=false) (ho:Em X o go) (ha:Am X (e::es) gs) :
  Em X (.Call (.Attribute o name apos) (e::es) [] cpos) (gMt pre r go gs) :=
 let ⟨_,h1,h2⟩:=M.ex
 ⟨Zbf (Zy4 M.pa M.slot M.ty h1 ho.p ha.p hbase hfew hline hs hplain) fun σ H Q ⟨ω,G,ts,rh,q⟩=>⟨ω,G,ts,rh,ho.m _ _ _ _ (fun ow G1 z v H1 m1 tv r1=>⟨M.pr ow v G1 H1 tv r1 z.1,
   ω,G1,ts.mono m1,r1,ha.m _ _ _ _ (fun ws G2 z2 vs H2 m2 tvs r2=>h2 ow ws v vs G2 H2 Q (tv.mono m2) tvs r2 (M.m _ _ _ _ _ (fun w G' y=>ZcZ (m1.trans m2) y) z2)) z.2⟩) q⟩,
  fun ω G Q Q' h q=>ho.m _ _ _ _ (fun ow G1 z=>⟨z.1,ha.m _ _ _ _ (fun ws G2 z2=>M.m _ _ _ _ _ h z2) z.2⟩) q⟩
end
def Zf3 (o:W) (G:Hw):Prop:=∃ xs,ZiP G o=some xs
theorem Zm4 {o:W} {v:V} {G:Hw} (t:Tr K H v o) (r:RelH K H G) (h:Zf3 o G):tyV K "list" v H:=by
 obtain ⟨xs,e⟩:=h
 obtain ⟨a,vs,rfl,_,_,e1,_⟩:=Zeh r t e
 exact .inl ⟨rfl,_,SqL.of e1⟩
def ZtV (o:W) (G:Hw) (f:List W→Option (List W)) (Q:Kw):Prop:=match o with
 | .ref a=>(match G a with | some (.lst xs)=>(match f xs with | some ys=>Q .non (put G a (.lst ys)) | none=>False) | _=>False)
 | _=>False
theorem Zmu {o:W} {G:Hw} {f:List W→Option (List W)} {Q:Kw} (q:ZtV o G f Q):∃ a xs ys,o=.ref a∧G a=some (.lst xs)∧f xs=some ys∧Q .non (put G a (.lst ys)):=by
 unfold ZtV at q
 split at q
 ·split at q
  ·rename_i xs e
   split at q
   ·rename_i ys e2;exact ⟨_,xs,ys,rfl,e,e2,q⟩
   ·exact q.elim
  ·exact q.elim
 ·exact q.elim
theorem ZmE {G:Hw} {f:List W→Option (List W)} {Q:Kw} {a:Addr} {xs ys:List W} (e:G a=some (.lst xs)) (e2:f xs=some ys) (q:Q .non (put G a (.lst ys))):ZtV (.ref a) G f Q:=by
 unfold ZtV
 dsimp only
 rw [e]
 dsimp only
 rw [e2]
 exact q
theorem ZtY {o:W} {G:Hw} {f:List W→Option (List W)} {Q Q':Kw} (h:∀ w G',Q w G'→Q' w G') (q:ZtV o G f Q):ZtV o G f Q':=by
 obtain ⟨a,xs,ys,rfl,e,e2,q⟩:=Zmu q
 exact ZmE e e2 (h _ _ q)
def Zrm (o:W) (ws:List W) (G:Hw) (Q:Kw):Prop:=match ws with
 | [y]=>ZtV o G (fun xs=>if xs.length < sizeLine then some (xs++[y]) else none) Q
 | _=>False
theorem ZbA {X:Cx}:Mth X "list" "append" "list.append" Zf3 Zrm where
 pa:=PySem.F.plainAttrs_list
 slot:=PySem.F.slot_list_append
 ty:=PySem.F.type_list_append
 ex:=⟨_,Zp0,fun o ws v vs G H Q tv tvs r q=>by
  unfold Zrm at q
  split at q
  ·obtain ⟨a,xs,ys,rfl,e,e2,q⟩:=Zmu q
   split at e2
   ·rename_i hlen
    cases e2
    cases tv
    cases tvs with
    | cons ty t =>
     cases t
     obtain ⟨us,e1,l⟩:=r a _ e
     exact ⟨a,us,_,rfl,rfl,e1,by rw [l.length];exact hlen,q _ _ (Mono.lst e1 _) .non (r.chg e1 (l.append (.cons ty .nil)))⟩
   ·cases e2
  ·exact q.elim⟩
 pr:=fun o v G H t r h=>Zm4 t r h
 m:=fun o ws G Q Q' h q=>by
  unfold Zrm at q ⊢
  split at q
  ·exact ZtY h q
  ·exact q.elim
def Zp7 (o:W) (ws:List W) (G:Hw) (Q:Kw):Prop:=match ws with
 | [y]=>ZtV o G (fun xs=>(ZiP G y).bind fun zs=>if xs.length+zs.length≤sizeLine then some (xs++zs) else none) Q
 | _=>False
theorem Zbg {X:Cx}:Mth X "list" "extend" "list.extend" Zf3 Zp7 where
 pa:=PySem.F.plainAttrs_list
 slot:=PySem.F.slot_list_extend
 ty:=PySem.F.type_list_extend
 ex:=⟨_,ZqX,fun o ws v vs G H Q tv tvs r q=>by
  unfold Zp7 at q
  split at q
  ·obtain ⟨a,xs,ys,rfl,e,e2,q⟩:=Zmu q
   obtain ⟨zs,e3,e4⟩:=Option.bind_eq_some_iff.mp e2
   split at e4
   ·rename_i hlen
    cases e4
    cases tv
    cases tvs with
    | cons ty t =>
     cases t
     obtain ⟨us,e1,l⟩:=r a _ e
     obtain ⟨b,ws',rfl,_,_,e5,l5⟩:=Zeh r ty e3
     exact ⟨a,b,us,ws',rfl,rfl,e1,e5,by rw [l.length,l5.length];exact hlen,q _ _ (Mono.lst e1 _) .non (r.chg e1 (l.append l5))⟩
   ·cases e4
  ·exact q.elim⟩
 pr:=fun o v G H t r h=>Zm4 t r h
 m:=fun o ws G Q Q' h q=>by
  unfold Zp7 at q ⊢
  split at q
  ·exact ZtY h q
  ·exact q.elim
section
variable {P:Program} {w:World} {mg:Str→Option Value} {base:Heap} {N:List Str} {qual:Str} {scope:Scope} {f:Addr} {cd:Value} {A:Around} {outer:List Env} {s:Shared} {E:XK} {Pb:Hp→Prop}
end
section
variable {X:Cx} {e:Expr} {es:List Expr} {pos p:Pos} {gs:GA}
end
def tyN (w:W) (G:Hw):Option String:=match w with
 | .non=>some "NoneType"
 | .bl _=>some "bool"
 | .int _=>some "int"
 | .str _=>some "str"
 | .tup _=>some "tuple"
 | .rol _=>some "list"
 | .ref a=>(match G a with | some (.lst _)=>some "list" | _=>none)
def Zju (n T:String):Bool:=n==T||(n=="bool"&&T=="int")
theorem Zgd {n T:String} (hn:n∈["NoneType","bool","int","str","tuple","list"]) (hT:T∈["tuple","list","str","int","bool","dict"]):PySem.W.kitOne K (.type n) (.type T)=some (Zju n T):=by
 simp only [List.mem_cons,List.not_mem_nil,or_false] at hn hT
 rcases hn with rfl | rfl | rfl | rfl | rfl | rfl <;> rcases hT with rfl | rfl | rfl | rfl | rfl | rfl <;> kernel_rfl
def Zbb (T:String) (ge:GE):GE:=fun ω G Q=>ge ω G fun w G1=>match tyN w G1 with | some n=>Q (.bl (Zju n T)) G1 | none=>False
theorem ZvL {T:String} {ge:GE} (m:ge.M):GE.M (Zbb T ge):=fun ω G Q Q' h q=>m _ _ _ _ (fun w G1 z=>by
 cases e:tyN w G1 with
 | none=>rw [e] at z;exact z
 | some n=>rw [e] at z;exact h _ _ z) q
theorem ZxJ {X:Cx} {pins:List (Addr×Obj)} {σ:St} {s:Shared} {v:V} {u:Value} {w:W} {G:Hw} {n T:String} {Q:Value→Shared→Prop} {E:Value→Shared→Prop} (I:Inv X pins σ H s) (rv:RelV v u) (t:Tr X.K H v w) (r:RelH X.K H G) (e:tyN w G=some n)
  (hT:T∈["tuple","list","str","int","bool","dict"]) (h:∀ tk,Q (.bool (Zju n T)) { s with toks:=tk }):wpAny (model X.prog X.w) X.A (call (.builtin "isinstance") [u,.type T]) Q E s:=by
 cases t with
 | non=>cases e;cases (show u=Value.none from rv);exact PySem.W.kia_one PySem.W.kitx_none I.kIn True.intro (Zgd (by simp) hT) (fun z=>nomatch z) h
 | bl y=>cases e;cases (show u=Value.bool y from rv);exact PySem.W.kia_one PySem.W.kitx_bool I.kIn True.intro (Zgd (by simp) hT) (fun z=>nomatch z) h
 | int i=>cases e;obtain ⟨t,rfl⟩:=rv;exact PySem.W.kia_one PySem.W.kitx_int I.kIn True.intro (Zgd (by simp) hT) (fun z=>nomatch z) h
 | str y=>cases e;obtain ⟨t,rfl⟩:=rv;exact PySem.W.kia_one PySem.W.kitx_str I.kIn True.intro (Zgd (by simp) hT) (fun z=>nomatch z) h
 | tup hq l =>
  cases e
  cases rv
  obtain ⟨its,_,p,_⟩:=I.tuple hq
  obtain ⟨o,h1,h2,_⟩:=p
  exact PySem.W.kia_one PySem.W.kitx_tuple I.kIn ⟨o,h1,h2⟩ (Zgd (by simp) hT) (fun z=>nomatch z) h
 | rol hq l =>
  cases e
  cases rv
  obtain ⟨its,_,p,_⟩:=I.list hq.sq
  obtain ⟨o,h1,h2,_⟩:=p.isList
  exact PySem.W.kia_one PySem.W.kitx_list I.kIn ⟨o,h1,h2⟩ (Zgd (by simp) hT) (fun z=>nomatch z) h
 | ref a =>
  unfold tyN at e
  dsimp only at e
  cases ea:G a with
  | none=>rw [ea] at e;cases e
  | some o =>
   rw [ea] at e
   cases o with
   | exc C=>cases e
   | ins C fs=>cases e
   | dct kvs=>cases e
   | lst xs =>
    cases e
    cases rv
    obtain ⟨vs,e1,_⟩:=r a _ ea
    obtain ⟨its,_,p,_⟩:=I.list (SqL.of e1)
    obtain ⟨o,h1,h2,_⟩:=p.isList
    exact PySem.W.kia_one PySem.W.kitx_list I.kIn ⟨o,h1,h2⟩ (Zgd (by simp) hT) (fun z=>nomatch z) h
theorem ZrY:bootBuiltins "isinstance"=some (.builtin "isinstance"):=by decide +kernel
section
variable {X:Cx} {e:Expr} {p pc pos:Pos} {ge:GE}
theorem Zao {c:Str} {T:String} (hT:T∈["tuple","list","str","int","bool","dict"]) (hv:bootBuiltins c=some (.type T)) (hmc:X.mg c=none) (hmi:X.mg "isinstance"=none) (hgi:Gl X "isinstance") (hgc:Gl X c) (hn:c≠"__name__") (hd:(c==("__debug__":Str))=false)
  (he:starEach [e,.Name c pc] X.env=[(false,eval e X.env),(false,eval (.Name c pc) X.env)]) (he2:starEach [.Name c pc] X.env=[(false,eval (.Name c pc) X.env)]) (h:Em X e ge):Em X (.Call (.Name "isinstance" p) [e,.Name c pc] [] pos) (Zbb T ge):=by
 refine ⟨fun pins s σ H Q I zz3=>?_,ZvL h.m⟩
 obtain ⟨ω,G,ts,r,q⟩:=zz3
 have pa:PA X [e,.Name c pc] (ZrI (up X.K ge) (ZrI (tC (.ty T)) Zzb)):=Zki h.p (Zki (ZuS hgc hmc hv rfl hn hd) ZqV (by rw [he2];rfl)) (by rw [he,he2])
 refine wpAny_Call_Name_kw (ZeE I hgi hmi ZrY ?_ (by decide) (by decide))
 refine PyProof.Rows.callWith_builtin1 (thn (pa pos pins s σ H (fun vs H1=>∃ v w G1 n,vs=[v,.ty T]∧Tr X.K H1 v w∧RelH X.K H1 G1∧tyN w G1=some n∧Q (.bl (Zju n T)) H1) I ?_) fun us s1 ⟨vs,H1,I1,r1,v,w,G1,n,e1,tv,rr,ey,qq⟩=>?_) (by rw [he,he2]) (by rw [he2];rfl)
 ·refine ⟨ω,G,ts,r,h.m _ _ _ _ (fun w G1 z v H1 m t r1=>?_) q⟩
  cases ey:tyN w G1 with
  | none=>rw [ey] at z;exact z.elim
  | some n=>rw [ey] at z;exact ⟨v,w,G1,n,rfl,t,r1,ey,z _ H1 m (.bl _) r1⟩
 ·subst e1
  obtain ⟨u,u2,rfl,rv,rt⟩:=Zw9 r1
  cases rt
  exact ZxJ I1 rv tv rr ey hT fun tk=>⟨.bl _,H1,I1.tok tk,rfl,qq⟩
end
structure ZAu (K:PySem.W.Frag) (C:Addr):Prop where
 ga:PySem.W.findIn K (.ref C) "__getattribute__"=some (some (.builtin "BaseException.__getattribute__"))
 gh:PySem.W.findIn K (.ref C) "__getattr__"=some none
 cl:(PySem.W.clsIn K C).isSome=true
 fc:PySem.W.findIn K (.ref C) "__class__"=some (some (.builtin "object.__class__"))
 sp:PySem.W.specialIn K (.builtin "object.__class__") "__get__"=some (some (.builtin "getset_descriptor.__get__"))
 tk:PySem.W.takesIn K (.builtin "object.__class__")=some true
 mr:PySem.W.mroIn K C (.type "object")=some true
 mb:PySem.W.mroIn K C (.type "BaseException")=some true
end L3
namespace L3
open PySem PySem.W PySem.Spec PySem.Calls PyProof.Rows PySem.Builtin PySem.Builtin.ObjectAttr PySem.Builtin.Getset_descriptor
section
variable {prog:Program} {w:World} {A:Around} {E:Value→Shared→Prop} {s:Shared} {K:Frag} {x C:Addr} {name:Str}
end
end L3
namespace L3
open PySem PySem.Spec PyProof.Rows L2
variable {K:PySem.W.Frag} {H H' H2:Hp}
def ZAW (K:PySem.W.Frag) (cv:Value) (ge:GE):GE:=fun ω G Q=>ge ω G fun w G1=>match w with
 | .ref a=>(match G1 a with | some (.exc C)=>∃ b,ZAu K C∧PySem.W.kitOne K (.ref C) cv=some b∧Q (.bl b) G1 | _=>False)
 | _=>False
section
variable {X:Cx} {e:Expr} {p pc pos:Pos} {ge:GE}
end
def Zjg (gs:GA):GI:=fun ω G R=>gs ω G fun ws G1=>match ws with
 | [.int j]=>-(2 ^ 62)≤j∧j < 2 ^ 62∧R ((List.range j.toNat).map fun i:Nat=>W.int i) yes G1
 | _=>False
theorem Inv.turneds {X:Cx} {pins:List (Addr×Obj)} {σ:St} {s:Shared} {h':Heap} {t':Nat} {fp:List Addr} (I:Inv X pins σ H s) (hf:∀ b∈fp,Zpl X pins H b) (k:∀ b o,b∉fp→s.heap.get? b=some o→h'.get? b=some o):Inv X pins σ H { s with heap:=h',toks:=t' }:=by
 have nit:∀ b u,H b=some u→b∉fp:=fun b u e z=>by rw [(hf b z).1] at e;cases e
 refine I.step (g':=s.gens) (d':=s.drawn) (ch:=fp) (fun b hb=>⟨(hf b hb).2.2.2.1,(hf b hb).2.1,(hf b hb).2.2.2.2.1,(hf b hb).2.2.2.2.2⟩) (fun b o _ _ hc e _=>k b o hc e) (fun b o _ _ hc e _=>⟨o.slots,k b o hc e⟩) (fun _ _ _ _ n=>n)
  (fun b o hc e=>⟨o,k b o hc e⟩) (fun _ _ e=>e) (fun _ _ _ e=>e) (fun b ps e=>⟨#[],by rw [e];simp⟩) (fun m hm=>?_) (fun b u e=>?_) I.bare
 ·obtain ⟨o,es,ep,ho,r⟩:=hm
  exact ⟨o,es,ep,k _ o (fun z=>(hf _ z).2.1 rfl) ho,r⟩
 ·refine (I.hok b u e).stay (fun c v hc q=>k c v ?_ q) (fun _ q=>q) fun _ _ q=>q
  rcases hc with z | z
  ·rw [z];exact nit b u e
  ·exact nit c _ z
theorem ZjK {prog:Program} {w:World} {A:Around} (hh:A.handled=none) (z TI TO i1 i2 l1 l2:Addr) (D:ZipApart z TI TO i1 i2 l1 l2) (xs ys:Array Value) :
  WalksT prog w A z [z,TI,TO,i1,i2,l1,l2] [z,TO,i1,i2] (min xs.size ys.size) (fun i vals=>∃ x y,xs[i]?=some x∧ys[i]?=some y∧vals=#[x,y])
   (fun i h=>IsZip h z TI TO .none∧IsPair h TI (.ref i1) (.ref i2)∧(∃ a b,IsPair h TO a b)∧h.IsListIter i1 l1 i∧h.IsListIter i2 l2 i∧h.IsList l1 xs∧h.IsList l2 ys)
   (fun i T h=>(IsZip h z TI TO (rawInt T)∧IsPair h TI (.ref i1) (.ref i2)∧(∃ a b,IsPair h TO a b)∧h.IsListIter i1 l1 (i+1)∧h.IsListIter i2 l2 (i+1)∧h.IsList l1 xs∧h.IsList l2 ys ∧
    T≠z∧T≠TO∧T≠i1∧T≠i2)∧NoD h T) :=
 have W0:=WalksT.zip2 (prog:=prog) (w:=w) (A:=A) hh z TI TO i1 i2 l1 l2 D xs ys
 {
  sub:=W0.sub
  frame:=W0.frame
  item:=fun i s Q E hi hst hQ=>by
   obtain ⟨hz,hTI,⟨a,b,hTO⟩,h1,h2,hl1,hl2⟩:=hst
   have hix:i < xs.size:=Nat.lt_of_lt_of_le hi (Nat.min_le_left ..)
   have hiy:i < ys.size:=Nat.lt_of_lt_of_le hi (Nat.min_le_right ..)
   refine wpAny_pyNext_zip_item D hz hTI hTO h1 h2 hl1 hl2 (Array.getElem?_eq_getElem hix) (Array.getElem?_eq_getElem hiy) fun h' a1 a2 a3 a4 a5 a6 hk=>?_
   have lt:∀ {c o},s.heap.get? c=some o→s.heap.objs.size≠c:=fun e=>Nat.ne_of_gt (Heap.lt_size e)
   exact hQ s.heap.objs.size #[xs[i],ys[i]] h' s.toks ⟨_,_,Array.getElem?_eq_getElem hix,Array.getElem?_eq_getElem hiy,rfl⟩ (Nat.le_refl _) ⟨_,a5,rfl,_,rfl⟩
    ⟨⟨a1,hk _ _ D.TIz D.TITO D.TIi1 D.TIi2 hTI,⟨_,_,a2⟩,a3,a4,hl1.at fun o e=>hk _ o D.l1z D.l1TO D.l1i1 D.l1i2 e,hl2.at fun o e=>hk _ o D.l2z D.l2TO D.l2i1 D.l2i2 e,
     lt hz,lt hTO,(by obtain ⟨_,e,_⟩:=h1;exact lt e),(by obtain ⟨_,e,_⟩:=h2;exact lt e)⟩,_,a5,rfl⟩
    fun c o hc e=>hk c o (fun x=>hc (by simp [x])) (fun x=>hc (by simp [x])) (fun x=>hc (by simp [x])) (fun x=>hc (by simp [x])) e
  go:=fun elts k pos i T s Q E hm hQ=>W0.go elts k pos i T s Q E hm.1 hQ
  apart:=fun i T h hm=>W0.apart i T h hm.1
  done:=W0.done
  self:=W0.self }
def Itz (K:PySem.W.Frag) (l1 l2:Addr):It :=
 ⟨fun i H=>∃ xs ys,SqL K H l1 xs∧SqL K H l2 ys∧i < xs.length∧i < ys.length,
  fun i H v H'=>∃ T x y,H T=none∧v=.ref T∧H'=upd H T (.tup [x,y])∧∀ xs ys,SqL K H l1 xs→SqL K H l2 ys→xs[i]?=some x∧ys[i]?=some y,
  fun i H=>∃ xs ys,SqL K H l1 xs∧SqL K H l2 ys∧i=min xs.length ys.length⟩
theorem ZsG {P:Program} {w:World} {elts:List Expr} {k:Nat} {tpos:Pos} {z TI TO i1 i2 l1 l2:Addr} (D:ZipApart z TI TO i1 i2 l1 l2) :
  ZvN P w K (.Tuple elts k tpos) (Itz K l1 l2) [z,TI,TO,i1,i2] z (fun i h=>IsZip h z TI TO .none∧IsPair h TI (.ref i1) (.ref i2)∧(∃ a b,IsPair h TO a b)∧h.IsListIter i1 l1 i∧h.IsListIter i2 l2 i) where
 mem:=by simp
 obj:=fun i h st b hb=>by
  obtain ⟨hz,hTI,⟨a,c,hTO⟩,⟨o1,e1,_,d1⟩,⟨o2,e2,_,d2⟩⟩:=st
  simp only [List.mem_cons,List.not_mem_nil,or_false] at hb
  rcases hb with rfl | rfl | rfl | rfl | rfl
  ·exact ⟨_,hz,fun v z=>by cases z⟩
  ·exact ⟨_,hTI,fun v z=>by cases z⟩
  ·exact ⟨_,hTO,fun v z=>by cases z⟩
  ·exact ⟨o1,e1,fun v z=>by rw [d1] at z;cases z⟩
  ·exact ⟨o2,e2,fun v z=>by rw [d2] at z;cases z⟩
 keep:=fun i h h' st kk=>by
  obtain ⟨hz,hTI,⟨a,c,hTO⟩,h1,h2⟩:=st
  exact ⟨kk z (by simp) _ hz,kk TI (by simp) _ hTI,⟨a,c,kk TO (by simp) _ hTO⟩,h1.at fun o e=>kk i1 (by simp) o e,h2.at fun o e=>kk i2 (by simp) o e⟩
 item:=by
  walk_at "pj"
  subst hP hw hK
  obtain ⟨xs,ys,hx,hy,hix,hiy⟩:=hg
  obtain ⟨its1,r1,pl1,z1⟩:=I.list hx
  obtain ⟨its2,r2,pl2,z2⟩:=I.list hy
  have n1:=r1.length
  have n2:=r2.length
  obtain ⟨hz,hTI,hTO,h1,h2⟩:=st
  have Wk:=ZjK (prog:=X.prog) (w:=X.w) (A:=X.A) (I.ok.hd hc) z TI TO i1 i2 l1 l2 D its1.toArray its2.toArray
  refine Wk.item i s _ _ (by simp only [List.size_toArray];omega) ⟨hz,hTI,hTO,h1,h2,pl1.isList,pl2.isList⟩ fun T vals h' tk hPt hT hTup hMid hk=>⟨.ref T,rfl,?_⟩
  refine Wk.go elts k tpos i T _ _ _ hMid fun h2' st2 hk2=>?_
  obtain ⟨v1,v2,g1,g2,rfl⟩:=hPt
  have g1':its1[i]?=some v1:=by simpa using g1
  have g2':its2[i]?=some v2:=by simpa using g2
  have gx:xs[i]?=some xs[i]:=List.getElem?_eq_getElem hix
  have gy:ys[i]?=some ys[i]:=List.getElem?_eq_getElem hiy
  obtain ⟨u1,q1,rv1⟩:=r1.get gx
  obtain ⟨u2,q2,rv2⟩:=r2.get gy
  rw [g1'] at q1;cases q1
  rw [g2'] at q2;cases q2
  have hw1:∀ b,b∉[z,TI,TO,i1,i2]→b∉[z,TO,i1,i2]:=fun b hb hc=>hb (by
   simp only [List.mem_cons,List.not_mem_nil,or_false] at hc ⊢
   rcases hc with h | h | h | h <;> simp [h])
  have I1:Inv X pins σ H { s with heap:=h2',toks:=tk }:=Inv.turneds I hf fun b o hb e=>hk2 b o (hw1 b hb) (hk b o (hw1 b hb) e)
  have hTn:H T=none:=I.hok.fresh hT
  have hTup2:TupP h2' T #[v1,v2]:=by
   obtain ⟨o,e,c,m,d⟩:=hTup
   obtain ⟨o',e',hd⟩:=hMid.2
   rw [e] at e'
   cases e'
   exact ⟨o,hk2 _ _ (Wk.apart _ _ _ hMid) e,c,hd,m,d⟩
  have lt:∀ {b:Addr} {o:Obj},s.heap.get? b=some o→b≠T:=fun e q=>absurd (Nat.lt_of_lt_of_le (Heap.lt_size e) hT) (by rw [q];exact Nat.lt_irrefl _)
  have I2:Inv X pins σ (upd H T (.tup [xs[i],ys[i]])) { s with heap:=h2',toks:=tk }:=by
   refine I1.track hTn ?_ (fun x c e=>?_) (fun p hp=>?_) ?_ ⟨by show 2≤sizeLine;decide,[v1,v2],.cons rv1 (.cons rv2 .nil),hTup2⟩
   ·obtain ⟨m,⟨o,es,ep,ho,_⟩,_⟩:=I.loc
    exact Ne.symm (lt ho)
   ·obtain ⟨v,o,ho,_⟩:=I.cell x c e
    exact lt ho
   ·exact lt (I.pin p hp).1
   ·cases e:X.s₀.heap.get? T with
    | none=>rfl
    | some o=>exact absurd (Nat.lt_of_lt_of_le (Heap.lt_size e) (Nat.le_trans I.sz hT)) (Nat.lt_irrefl _)
  refine ⟨.ref T,_,I2,rfl,⟨T,_,_,hTn,rfl,rfl,fun xs' ys' hx' hy'=>?_⟩,⟨st2.1,st2.2.1,st2.2.2.1,st2.2.2.2.1,st2.2.2.2.2.1⟩,fun b hb=>?_⟩
  ·rw [I.list_inj hx' hx,I.list_inj hy' hy];exact ⟨gx,gy⟩
  ·have hb':=(hf b hb).1
   have:b≠T:=by
    obtain ⟨o,e,_⟩:∃ o,s.heap.get? b=some o∧True:=by
     obtain ⟨a,c,hTO'⟩:=hTO
     obtain ⟨o1,e1,_⟩:=h1
     obtain ⟨o2,e2,_⟩:=h2
     simp only [List.mem_cons,List.not_mem_nil,or_false] at hb
     rcases hb with rfl | rfl | rfl | rfl | rfl
     ·exact ⟨_,hz,trivial⟩
     ·exact ⟨_,hTI,trivial⟩
     ·exact ⟨_,hTO',trivial⟩
     ·exact ⟨_,e1,trivial⟩
     ·exact ⟨_,e2,trivial⟩
    exact lt e
   rw [ZaZ this];exact hb'
 done:=by
  walk_at "pj"
  subst hP hw hK
  obtain ⟨xs,ys,hx,hy,hi⟩:=hg
  obtain ⟨its1,r1,pl1,z1⟩:=I.list hx
  obtain ⟨its2,r2,pl2,z2⟩:=I.list hy
  have n1:=r1.length
  have n2:=r2.length
  obtain ⟨hz,hTI,hTO,h1,h2⟩:=st
  have Wk:=ZjK (prog:=X.prog) (w:=X.w) (A:=X.A) (I.ok.hd hc) z TI TO i1 i2 l1 l2 D its1.toArray its2.toArray
  have hi':i=min its1.toArray.size its2.toArray.size:=by simp only [List.size_toArray];omega
  subst hi'
  refine Wk.done s _ _ ⟨hz,hTI,hTO,h1,h2,pl1.isList,pl2.isList⟩ fun h' tk hk=>⟨rfl,Inv.turneds I hf fun b o hb e=>hk b o (fun hc=>hb ?_) e⟩
  simp only [List.mem_cons,List.not_mem_nil,or_false] at hc ⊢
  rcases hc with h | h | h | h <;> simp [h]
 self:=fun A i s Q E st h=>wpAny_pyIter_zip st.1 h
def ZAt (K:PySem.W.Frag) (ta:TA):TI:=fun σ H R=>ta σ H fun vs H1=>∃ a b xs ys,vs=[.ref a,.ref b]∧SqL K H1 a xs∧SqL K H1 b ys∧R (Itz K a b) H1
theorem Zyi {X:Cx} {a b:Expr} {ta:TA} {p pos tpos:Pos} {elts:List Expr} {k:Nat} (hg:Gl X "zip") (hm:X.mg "zip"=none) (ha:PA X [a,b] ta) (hs:starEach [a,b] X.env=[(false,eval a X.env),(false,eval b X.env)]) (hs2:starEach [b] X.env=[(false,eval b X.env)]) :
  PI X (.Tuple elts k tpos) (.Call (.Name "zip" p) [a,b] [] pos) (ZAt X.K ta):=by
 intro pins s σ H R I h
 refine Call_ (ZeE I hg hm boot_zip (PyProof.Rows.callWith_type1 (thn (ha pos pins s σ H _ I h) fun us s1 zz2=>?_) (by rw [hs,hs2]) (by rw [hs2];rfl)))
 obtain ⟨vs,H1,I1,r1,q1⟩:=zz2
 obtain ⟨l1,l2,xs,ys,e,hx,hy,q⟩:=q1
 subst e
 obtain ⟨u,u2,rfl,ru,ru2⟩:=Zw9 r1
 cases ru
 cases ru2
 obtain ⟨its1,_,pl1,_⟩:=I1.list hx
 obtain ⟨its2,_,pl2,_⟩:=I1.list hy
 have a1:l1 < s1.heap.objs.size:=by obtain ⟨_,e,_⟩:=pl1.isList;exact Heap.lt_size e
 have a2:l2 < s1.heap.objs.size:=by obtain ⟨_,e,_⟩:=pl2.isList;exact Heap.lt_size e
 refine call_zip_2 pl1.isList pl2.isList fun h' hz hTI hTO hi1 hi2 hsz hk=>wpAny_pyIter_zip hz ?_
 refine ⟨_,_,_,_,H1,rfl,I1.kept (t':=s1.toks) hk,ZsG (zipApart_new a1 a2),⟨hz,hTI,⟨_,_,hTO⟩,hi1,hi2⟩,fun b hb=>?_,q⟩
 have hge:s1.heap.objs.size≤b:=by
  simp only [List.mem_cons,List.not_mem_nil,or_false] at hb
  rcases hb with rfl | rfl | rfl | rfl | rfl
  ·exact Nat.le_add_right _ 4
  ·exact Nat.le_add_right _ 2
  ·exact Nat.le_add_right _ 3
  ·exact Nat.le_refl _
  ·exact Nat.le_add_right _ 1
 exact I1.fpOk hge (I1.hok.fresh hge)
def rdL (G:Hw) (w:W):Option (List W):=match w with
 | .rol xs=>some xs
 | .ref a=>(match G a with | some (.lst xs)=>some xs | _=>none)
 | _=>none
theorem Zhj {G:Hw} {w:W} {xs:List W} {v:V} (r:RelH K H G) (t:Tr K H v w) (e:rdL G w=some xs):∃ a vs,v=.ref a∧SqL K H a vs∧TrL K H vs xs:=by
 cases t with
 | rol h l=>cases e;exact ⟨_,_,rfl,h.sq,l⟩
 | ref a =>
  unfold rdL at e;dsimp only at e
  cases z:G a with
  | none=>rw [z] at e;cases e
  | some o =>
   rw [z] at e
   cases o with
   | lst ys=>cases e;obtain ⟨vs,e1,t1⟩:=r a _ z;exact ⟨a,vs,rfl,SqL.of e1,t1⟩
   | exc C=>cases e
   | ins C fs=>cases e
   | dct kvs=>cases e
 | _=>cases e
def Znl:List W→List W→List W
 | x::xs,y::ys=>.tup [x,y]::Znl xs ys
 | _,_=>[]
theorem Zj9:∀ (xs ys:List W),(Znl xs ys).length=min xs.length ys.length
 | [],_=>by simp [Znl]
 | _::_,[]=>by simp [Znl]
 | _::xs,_::ys=>by simp only [Znl,List.length_cons,Zj9 xs ys];omega
theorem ZnR:∀ (xs ys:List W) (i:Nat) {x y:W},xs[i]?=some x→ys[i]?=some y→(Znl xs ys)[i]?=some (.tup [x,y])
 | [],_,_,_,_,h,_=>by simp at h
 | _::_,[],_,_,_,_,h=>by simp at h
 | a::xs,b::ys,0,x,y,h,h'=>by simp at h h';subst h;subst h';rfl
 | a::xs,b::ys,i+1,x,y,h,h'=>by
  have:=ZnR xs ys i (x:=x) (y:=y) (by simpa using h) (by simpa using h')
  simpa [Znl] using this
def ZkN (gs:GA):GI:=fun ω G R=>gs ω G fun ws G1=>match ws with
 | [x,y]=>(match rdL G1 x,rdL G1 y with
  | some xs,some ys=>R (Znl xs ys) (fun G=>rdL G x=some xs∧rdL G y=some ys) G1
  | _,_=>False)
 | _=>False
theorem ZqL {gs:GA} {R:List W→(Hw→Prop)→Hw→Prop} {ws:List W} {G1:Hw} (z:match ws with
 | [x,y]=>(match rdL G1 x,rdL G1 y with
  | some xs,some ys=>R (Znl xs ys) (fun G=>rdL G x=some xs∧rdL G y=some ys) G1
  | _,_=>False)
 | _=>False):∃ x y xs ys,ws=[x,y]∧rdL G1 x=some xs∧rdL G1 y=some ys∧R (Znl xs ys) (fun G=>rdL G x=some xs∧rdL G y=some ys) G1:=by
 split at z
 ·rename_i x y
  split at z
  ·rename_i xs ys e1 e2;exact ⟨x,y,xs,ys,rfl,e1,e2,z⟩
  ·exact z.elim
 ·exact z.elim
theorem ZyK {gs:GA} (m:gs.M):GI.M (ZkN gs):=fun ω G R R' h q=>m _ _ _ _ (fun ws G1 z=>by
 obtain ⟨x,y,xs,ys,rfl,e1,e2,z⟩:=ZqL (gs:=gs) z
 dsimp only
 rw [e1,e2]
 exact h _ _ _ z) q
theorem Zxh {X:Cx} {a b:Expr} {p pos tpos:Pos} {elts:List Expr} {k:Nat} {gs:GA} (hm:X.mg "zip"=none) (hg:Gl X "zip") (hs:starEach [a,b] X.env=[(false,eval a X.env),(false,eval b X.env)]) (hs2:starEach [b] X.env=[(false,eval b X.env)]) (ha:Am X [a,b] gs) :
  Im X (.Tuple elts k tpos) (.Call (.Name "zip" p) [a,b] [] pos) (ZkN gs):=by
 refine ⟨⟨_,Zyi hg hm ha.p hs hs2,fun σ H ω G R R0 ts r q kk=>⟨ω,G,ts,r,ha.m _ _ _ _ (fun ws G1 z vs H1 m t r1=>?_) q⟩⟩,ZyK ha.m⟩
 obtain ⟨x,y,xs,ys,rfl,e1,e2,z⟩:=ZqL (gs:=gs) z
 cases t with
 | cons tx t =>
  cases t with
  | cons ty t =>
   cases t
   obtain ⟨a1,us1,rfl,hq1,l1⟩:=Zhj r1 tx e1
   obtain ⟨a2,us2,rfl,hq2,l2⟩:=Zhj r1 ty e2
   refine ⟨a1,a2,us1,us2,rfl,hq1,hq2,kk _ _ _ H1 _ z m r1 ⟨e1,e2⟩ ⟨fun i H3 G3 m3 r3 g3 hi=>?_,fun i H3 G3 v H4 m3 r3 g3 y3 hi=>?_,fun H3 G3 m3 r3 g3=>?_⟩⟩
   ·obtain ⟨b1,vs1,e3,h3,t3⟩:=Zhj r3 (tx.mono m3) g3.1
    obtain ⟨b2,vs2,e4,h4,t4⟩:=Zhj r3 (ty.mono m3) g3.2
    cases e3;cases e4
    rw [Zj9] at hi
    exact ⟨vs1,vs2,h3,h4,by rw [t3.length];omega,by rw [t4.length];omega⟩
   ·obtain ⟨b1,vs1,e3,h3,t3⟩:=Zhj r3 (tx.mono m3) g3.1
    obtain ⟨b2,vs2,e4,h4,t4⟩:=Zhj r3 (ty.mono m3) g3.2
    cases e3;cases e4
    obtain ⟨T,v1,v2,hT,rfl,rfl,hv⟩:=y3
    obtain ⟨g1,g2⟩:=hv _ _ h3 h4
    obtain ⟨w1,q1,tw1⟩:=t3.get' g1
    obtain ⟨w2,q2,tw2⟩:=t4.get' g2
    have mn:Mono X.K H3 (upd H3 T (.tup [v1,v2])):=Mono.new hT _
    exact ⟨mn,r3.mono0 hT,_,ZnR _ _ i q1 q2,.tup (SqT.of Zbk) (.cons (tw1.mono mn) (.cons (tw2.mono mn) .nil))⟩
   ·obtain ⟨b1,vs1,e3,h3,t3⟩:=Zhj r3 (tx.mono m3) g3.1
    obtain ⟨b2,vs2,e4,h4,t4⟩:=Zhj r3 (ty.mono m3) g3.2
    cases e3;cases e4
    exact ⟨vs1,vs2,h3,h4,by rw [Zj9,t3.length,t4.length]⟩
theorem Zfw:bootBuiltins "len"=some (.builtin "len"):=by decide +kernel
theorem ZcV:bootBuiltins "all"=some (.builtin "all"):=by decide +kernel
theorem ZeF:bootBuiltins "any"=some (.builtin "any"):=by decide +kernel
theorem ZeK:bootBuiltins "sum"=some (.builtin "sum"):=by decide +kernel
theorem ZaM:bootBuiltins "list"=some (.type "list"):=by decide +kernel
theorem ZaY:bootBuiltins "tuple"=some (.type "tuple"):=by decide +kernel
theorem Zch:bootBuiltins "int"=some (.type "int"):=by decide +kernel
theorem Zfq:bootBuiltins "str"=some (.type "str"):=by decide +kernel
theorem ZdE:bootBuiltins "bool"=some (.type "bool"):=by decide +kernel
theorem ZaJ:bootBuiltins "dict"=some (.type "dict"):=by decide +kernel
section
variable {X:Cx} {P:Hp→Prop} {a b c e:Expr} {es:List Expr} {pos pos' p:Pos} {ga gb ge:GE} {gt:GT}
theorem Zro {x:Str} {i:Nat} (hi:X.N[i]?=some x) (hv:seen X.env.scope x=true) (hd:(x==("__debug__":Str))=false) (hc:(x==("__classdict__":Str))=false):Em X (.Name x pos) (Zae i):=⟨ZwE hi (Znt hv) hd hc,ZxO⟩
theorem Zqq {x:Str} {i:Nat} (hN:X.N.Nodup) (hi:X.N[i]?=some x) (hx:ZnT X.env.scope x=true) (hs:swapsWith e (some (.Name x pos')) pos.line X.env=pure false) (ha:Em X e ga):Sm X P (.Assign [.Name x pos'] e pos) (Zbj i ga) :=
 ⟨Zww hN hi (.inl (ZhQ hx)) ha.m ha.p hs (.inr (ZhQ hx)),ZwI ha.m⟩
theorem Zrj {n:Nat} {x:Str} (hN:X.N.Nodup) (hi:X.N[n]?=some x) (hx:ZnT X.env.scope x=true) (ha:Em X e ga):Sm X P (.AugAssign (.Name x pos') .Add e pos) (ZiM n Zda ga) :=
 ⟨Zxn (OpR.or Zud Zma) Zqm Zsf hN hi (.inl (ZhQ hx)) (.inr (ZhQ hx)) ha.m ha.p,Zyu Zqm ha.m⟩
def Glb (K:PySem.W.Frag) (mg:Str→Option Value) (x:Str) (w:W):Prop:=∃ v u,mg x=some u∧RelV v u∧∀ H,Tr K H v w
theorem Zap {x:Str} {w:W} (h:Glb X.K X.mg x w) (hg:Gl X x) (hd:(x==("__debug__":Str))=false):Em X (.Name x pos) (gC w) :=
 let ⟨_,_,h1,h2,h3⟩:=h
 ⟨Zqu hg h1 h2 h3 hd,Zv8⟩
structure Fm (X:Cx) (ifs:List Expr) (g:GT):Prop where
 p:PFw X ifs g
 m:g.M
theorem Zbz:Fm X [] Zgh:=⟨Zxp,Zyp⟩
theorem Zc3 {elt tg iter:Expr} {ifs:List Expr} {scope:Scope} {Nc:List Str} {gi:GI} {gg:GG} (hc:X.calm=true) (B:Blk X Nc scope [] (fun _=>List.replicate Nc.length none)) (hs:∀ x,foldedSetIterable iter X.env x=pure x) (hi:Im X tg iter gi)
  (hu:TgU X Nc scope tg gg) (ht:∀ C fp s H,Fm (cxB X Nc scope [] C fp s H) ifs gt) (he:∀ C fp s H,Em (cxB X Nc scope [] C fp s H) elt ge):Em X (.ListComp elt [⟨tg,iter,ifs,0⟩] scope pos) (ZbU gi Nc.length gg gt ge) :=
 have mt:gt.M:=(ht 0 [] X.s₀ X.H₀).m
 have me:ge.M:=(he 0 [] X.s₀ X.H₀).m
 ⟨ZuO hc hi.p B hu mt (fun C fp s H=>(ht C fp s H).p) me (fun C fp s H=>(he C fp s H).p) hs,Zu5 hi.m hu.mono mt me⟩
theorem Zev:ZqG X (fun _ _ _=>False):=(by rintro pins σ H s ev s' I ⟨e,C,H',ee,F,C',ω,G,eC,ts,r,q⟩;exact q.elim)
theorem ZgQ {k:Nat} {A:Around} (hr:Room k A):A.units+100 < cLine:=by have:=hr.un;omega
end
def Zl8:List (Str×Int)→Str→W
 | [],_=>.non
 | (x,i)::D,z=>if z=x then .int i else Zl8 D z
def Zza (mg:Str→Option Value) (base:Heap) (x:Str) (D:List (Str×Int)):Prop:=∃ d,mg x=some (.ref d)∧KTD.TextTab base d (D.map fun p=>(p.1,KTD.Dat.flat (.int p.2)))
theorem ZjL:∀ {D:List (Str×Int)} {z:Str} {d:KTD.Dat},KTD.datumAt z (D.map fun p=>(p.1,KTD.Dat.flat (.int p.2)))=some d→∃ i,d=.flat (.int i)∧Zl8 D z=.int i
 | [],_,_,h=>by cases h
 | (x,i)::D,z,d,h=>by
  have h':(if decide (z=x)=true then some (KTD.Dat.flat (.int i)) else KTD.datumAt z (D.map fun p=>(p.1,KTD.Dat.flat (.int p.2))))=some d:=h
  unfold Zl8
  by_cases hx:z=x
  ·rw [if_pos (decide_eq_true hx)] at h'
   cases h'
   exact ⟨i,rfl,if_pos hx⟩
  ·rw [if_neg (by simpa using hx)] at h'
   rw [if_neg hx]
   exact ZjL h'
theorem ZjW:∀ {D:List (Str×Int)} {z:Str},KTD.datumAt z (D.map fun p=>(p.1,KTD.Dat.flat (.int p.2)))=none→Zl8 D z=.non
 | [],_,_=>rfl
 | (x,i)::D,z,h=>by
  have h':(if decide (z=x)=true then some (KTD.Dat.flat (.int i)) else KTD.datumAt z (D.map fun p=>(p.1,KTD.Dat.flat (.int p.2))))=none:=h
  unfold Zl8
  by_cases hx:z=x
  ·rw [if_pos (decide_eq_true hx)] at h';cases h'
  ·rw [if_neg (by simpa using hx)] at h'
   rw [if_neg hx]
   exact ZjW h'
def ZeB (D:List (Str×Int)) (gk:GE):GE:=fun ω G Q=>gk ω G fun w G1=>match w with | .str z=>Q (Zl8 D z) G1 | _=>False
theorem Zb3 {X:Cx} {x:Str} {D:List (Str×Int)} {e:Expr} {p0 apos cpos:Pos} {gk:GE} (h:Zza X.mg X.base x D) (hg:Gl X x) (hd:(x==("__debug__":Str))=false) (hbase:attributeBase (.Name x p0) "get" X.env (eval (.Name x p0) X.env)=eval (.Name x p0) X.env)
  (hfew:((backTo cpos (starEach [e] X.env)).all (fun x=>!x.1)&&(backToKw cpos (keywordEach [] X.env)).all (fun x=>x.1.isSome)&&decide ([e].length+([]:List Keyword).length+(if ([]:List Keyword).isEmpty then 0 else 1) < 30))=true)
  (hline:(apos.endLine==cpos.line)=true) (hs:starEach [e] X.env=(false,eval e X.env)::starEach [] X.env) (hplain:(backTo cpos (starEach [] X.env)).any (·.1)=false) (hk:Em X e gk) :
  Em X (.Call (.Attribute (.Name x p0) "get" apos) [e] [] cpos) (ZeB D gk):=by
 refine ⟨fun pins s σ H Q I ⟨ω,G,ts,r,q⟩=>?_,fun ω G Q Q' hh q=>hk.m _ _ _ _ (fun w G1 z=>by cases w <;> first | exact hh _ _ z | exact z) q⟩
 obtain ⟨d,hm,T⟩:=h
 have here:KTD.Here X.base s.heap d (D.map fun p=>(p.1,KTD.Dat.flat (.int p.2))):=⟨T,I.bk⟩
 refine wpAny_Call_method_late hbase hfew hline rfl (ZmH I hg hm ⟨"dict","dict.get",PySem.F.plainAttrs_dict,PySem.F.slot_dict_get,PySem.F.type_dict_get,here.typeIs,here.noDict,?_⟩ hd)
 have pa:PA X [e] (ZrI (up X.K gk) Zzb):=Zki hk.p ZqV hs
 have hA:=pa cpos pins s σ H (fun vs H1=>∃ z,vs=[.str z]∧∀ v,Tr X.K H1 v (Zl8 D z)→Q v H1) I ⟨ω,G,ts,r,hk.m _ _ _ _ (fun w G1 z v H1 m t r1=>by
  cases w with
  | str y=>exact ⟨y,by rw [Zxz t],fun v tv=>z v H1 m tv r1⟩
  | _=>exact z.elim) q⟩
 rw [hs] at hA ⊢
 refine Calls.callWith_builtin (by show (false||(backTo cpos (starEach [] X.env)).any (·.1))=false;rw [hplain] <;> rfl) (Calls.evalArgs_plain ?_)
 refine thn hA fun us s2 zz1=>?_
 obtain ⟨vs,H2,I2,r2,z,e1,q2⟩:=zz1
 subst e1
 obtain ⟨u,rfl,ru⟩:=ZhB r2
 obtain ⟨t,rfl⟩:=ru
 have here2:KTD.Here X.base s2.heap d (D.map fun p=>(p.1,KTD.Dat.flat (.int p.2))):=⟨T,I2.bk⟩
 refine call_meetsIn PySem.F.slot_dict_get here2.typeIs PySem.F.entry_dict_get (PySem.F.args_dict_get_2 _ _) (KTD.meets_get1 (h₀:=X.base) (D:=D.map fun p=>(p.1,KTD.Dat.flat (.int p.2)))) ⟨here2,fun dd v ha hv=>?_,fun hn=>?_⟩
 ·obtain ⟨i,rfl,e2⟩:=ZjL ha
  obtain ⟨t2,rfl⟩:=PyProof.V.Flat.int_inv hv
  exact ⟨.int i,H2,I2.tok _,⟨_,rfl⟩,q2 _ (by rw [e2];exact .int i)⟩
 ·exact ⟨.non,H2,I2.tok _,rfl,q2 _ (by rw [ZjW hn];exact .non)⟩
def Fn (K:PySem.W.Frag) (mg:Str→Option Value) (st:Stmt) (x:Str) (ps:List Str):Prop:=∃ f fd,mg x=some (.ref f)∧Fun K x x st f fd∧Binds K fd ps []
section
variable {P:Program} {w:World} {mg:Str→Option Value} {base:Heap}
theorem mk0 {x:Str} {st:Stmt} {N ps:List Str} {k n:Nat} {sp:Spw} {g:GS} (Fx:Fn K mg st x ps) (hn:ps.length=n) (S:Zau N ps (Zai st)) (spm:sp.M) (len:∀ ws G Q E,sp ws G Q E→ws.length=n)
  (hg:∀ {f:Addr} {cdv:Value} {A:Around} {outer:List Env} {s:Shared} {H:Hp} {E:XK},Room k (A.deeper (envOfC x (Zai st) s.heap.objs.size f cdv))→Ssm (cxW P w K mg base N x (Zai st) f cdv A outer s H E).nox (fun B=>B=H) (Zc2 st) g)
  (ok:∀ ws G (Q:Kw) (E:Addr→Hw→Prop),Kw.C Q→sp ws G Q E→g (ZaL Q) (Zbx N ws) G):Df P w K mg base x (k+1) n sp:=by
 obtain ⟨f,fd,h1,F,h3⟩:=Fx
 refine ⟨⟨f,fd,ps,h1,F.kp,h3,hn,?_⟩,spm⟩
 walk_at "pv"
 refine ZuI lk hcd S ((by rintro vs H Q E ⟨ws,G,t,r,q⟩;rw [t.length,hn];exact len ws G _ _ q)) fun A outer s H vs Q E hr hsp=>?_
 obtain ⟨ws,G,t,r,q⟩:=hsp
 have D:=hg (cdv:=cdv) (outer:=outer) (H:=H) (E:=E) hr
 refine ⟨_,(D.p H rfl).nox,Zbx N ws,G,Zjh t,r,.refl,?_⟩
 exact D.m _ _ (ZaL (dn K H Q)) _ (fun a b z σ H2 m ts r2=>z _ H2 m Tr.non r2) (fun a b z=>z) (fun a b z=>z.elim) (fun a b z=>z.elim) (ok ws G _ _ Zz0 q)
end
end L3
namespace L3
open PySem PySem.Spec PyProof.Rows L2
def ZhP {α:Type} (n:Nat) (js:List Nat) (l:List (Option α)):List (Option α):=List.replicate n none++js.map fun j=>(l[j]?).getD none
theorem Zj3 {α:Type} {n:Nat} {js:List Nat} {l:List (Option α)}:(ZhP n js l).length=n+js.length:=by simp [ZhP]
theorem Znc {α:Type} {n i:Nat} {js:List Nat} {l:List (Option α)} {v:α} (h:(ZhP n js l)[i]?=some (some v)):∃ m j,i=n+m∧js[m]?=some j∧l[j]?=some (some v):=by
 unfold ZhP at h
 by_cases hi:i < n
 ·rw [List.getElem?_append_left (by simpa using hi),List.getElem?_replicate] at h
  split at h <;> cases h
 ·rw [List.getElem?_append_right (by simpa using Nat.le_of_not_lt hi),List.length_replicate,List.getElem?_map] at h
  cases hj:js[i - n]? with
  | none=>rw [hj] at h;cases h
  | some j =>
   rw [hj] at h
   refine ⟨i - n,j,by omega,hj,?_⟩
   have h':(l[j]?).getD none=some v:=Option.some.inj h
   cases e:l[j]? with
   | none=>rw [e] at h';cases h'
   | some o=>rw [e] at h';exact congrArg some h'
theorem ZrP {α:Type} {n m j:Nat} {js:List Nat} {l:List (Option α)} {v:α} (h1:js[m]?=some j) (h2:l[j]?=some (some v)):(ZhP n js l)[n+m]?=some (some v):=by
 unfold ZhP
 rw [List.getElem?_append_right (by simp),List.length_replicate,List.getElem?_map]
 have:n+m - n=m:=by omega
 rw [this,h1]
 show some ((l[j]?).getD none)=_
 rw [h2];rfl
theorem TrSt.cap {K:PySem.W.Frag} {H:Hp} {σ:St} {ω:Sw} (t:TrSt K H σ ω) (n:Nat) (js:List Nat):TrSt K H (ZhP n js σ) (ZhP n js ω):=by
 refine ⟨by rw [Zj3,Zj3],fun i w e=>?_⟩
 obtain ⟨m,j,rfl,h1,h2⟩:=Znc e
 obtain ⟨v,h3,r⟩:=t.get j w h2
 exact ⟨v,ZrP h1 h3,r⟩
def Zkm (env:Env):List (Str×NameKind)→List (Str×Addr)→List (Str×Addr)
 | [],cs=>cs
 | (n,k)::r,cs=>Zkm env r (if k=.free then (n,(env.cells.lookup n).getD 0)::cs else cs)
theorem Zn0 {env:Env}:∀ (l:List (Str×NameKind)) (cs:List (Str×Addr)),(∀ y∈l,y.2=.free→∃ c,env.cells.lookup y.1=some c) →
  (forIn l cs fun (x:Str×NameKind) r=>if (x.2==NameKind.free)=true then do let c ← cellOf env x.1;pure (ForInStep.yield ((x.1,c)::r)) else pure (ForInStep.yield r):Sem (List (Str×Addr)))=pure (Zkm env l cs)
 | [],cs,_=>by simp [Zkm]
 | (n,k)::r,cs,h=>by
  have ih:=fun cs=>Zn0 r cs fun y hy=>h y (List.mem_cons_of_mem _ hy)
  rw [List.forIn_cons]
  by_cases hk:k=.free
  ·obtain ⟨c,hc⟩:=h (n,k) List.mem_cons_self hk
   subst hk
   have e:cellOf env n=pure c:=by unfold cellOf;rw [hc]
   simp only [beq_self_eq_true,if_true,e,pure_bind,Zkm,hc,Option.getD_some]
   exact ih _
  ·have:(k==NameKind.free)=false:=by simpa using hk
   simp only [this,Bool.false_eq_true,if_false,pure_bind,Zkm,hk]
   exact ih _
theorem ZlZ {env:Env} {y:Str} {c:Addr}:∀ (l:List (Str×NameKind)) (cs:List (Str×Addr)),(Zkm env l cs).lookup y=some c→cs.lookup y=some c∨((y,NameKind.free)∈l∧c=(env.cells.lookup y).getD 0)
 | [],cs,h=>.inl h
 | (n,k)::r,cs,h=>by
  rcases ZlZ r _ h with q | ⟨q1,q2⟩
  ·split at q
   ·rename_i hk
    subst hk
    rw [List.lookup_cons] at q
    split at q
    ·rename_i e
     have e':y=n:=beq_iff_eq.mp e
     subst e'
     exact .inr ⟨List.mem_cons_self,(Option.some.inj q).symm⟩
    ·exact .inl q
   ·exact .inl q
  ·exact .inr ⟨List.mem_cons_of_mem _ q1,q2⟩
theorem ZjG {env:Env} {y:Str}:∀ (l:List (Str×NameKind)) (cs:List (Str×Addr)),(∃ c,cs.lookup y=some c)→∃ c,(Zkm env l cs).lookup y=some c
 | [],cs,h=>h
 | (n,k)::r,cs,h=>ZjG r _ (by
  split
  ·rw [List.lookup_cons]
   split
   ·exact ⟨_,rfl⟩
   ·exact h
  ·exact h)
theorem Zl7 {env:Env} {y:Str}:∀ (l:List (Str×NameKind)) (cs:List (Str×Addr)),(y,NameKind.free)∈l→∃ c,(Zkm env l cs).lookup y=some c
 | [],cs,h=>by cases h
 | (n,k)::r,cs,h=>by
  rcases List.mem_cons.mp h with h | h
  ·cases h
   refine ZjG r _ ⟨(env.cells.lookup y).getD 0,?_⟩
   rw [if_pos rfl,List.lookup_cons,beq_self_eq_true]
  ·exact Zl7 r _ h
theorem ZiK {scope:Scope} {env:Env} {y:Str} {k:NameKind} (nocell:∀ z∈scope.names,z.2≠.cell) (h:(relabel scope env).names.lookup y=some k) (hk:k=.cell∨k=.free):(y,NameKind.free)∈scope.names:=by
 have m:=Zgb h
 unfold relabel at m
 obtain ⟨⟨n,k0⟩,hm,e⟩:=List.mem_map.mp m
 dsimp only at e
 split at e
 ·rename_i hc
  cases e
  simp only [Bool.and_eq_true,beq_iff_eq] at hc
  rw [hc.1.1] at hm
  exact hm
 ·cases e
  rcases hk with rfl | rfl
  ·exact absurd rfl (nocell _ hm)
  ·exact hm
theorem Zde {env:Env} (hf:env.scope.kind=.function):∀ {names:List (Str×NameKind)} {x:Str},names.lookup x=some .free→env.kindOf x=some .cell →
  (names.map fun (n,k)=>if (k==NameKind.free&&env.scope.kind==.function&&env.kindOf n==some .cell) then (n,NameKind.cell) else (n,k)).lookup x=some .cell
 | [],_,h,_=>by cases h
 | (n,k)::r,x,h,hk=>by
  rw [List.lookup_cons] at h
  rw [List.map_cons]
  split at h
  ·rename_i e
   have e':x=n:=beq_iff_eq.mp e
   subst e'
   cases h
   have c:(NameKind.free==NameKind.free&&env.scope.kind==ScopeKind.function&&env.kindOf x==some NameKind.cell)=true:=by rw [hf,hk];rfl
   dsimp only
   rw [if_pos c,List.lookup_cons,beq_self_eq_true]
  ·rename_i e
   have ih:=Zde hf (names:=r) h hk
   rw [List.lookup_cons]
   have e2:(x==(if (k==NameKind.free&&env.scope.kind==ScopeKind.function&&env.kindOf n==some NameKind.cell)=true then (n,NameKind.cell) else (n,k)).1)=false:=by
    split <;> exact e
   dsimp only at e2 ⊢
   split
   ·rename_i e3;rw [e2] at e3;cases e3
   ·exact ih
theorem Zzv {X:Cx} {own fr:List Str} {js:List Nat} {scope scX:Scope} {n:Nat} (kind:scope.kind=.function) (names:∀ x∈scope.names,x.2=.local→scope.names.lookup x.1=some .local) (nocell:∀ y∈scope.names,y.2≠.cell)
  (hf:∀ y∈scope.names,y.2=.free→y.1∈fr) (hk:∀ y∈fr,scope.names.lookup y=some .free) (hsc:X.env.scope=scX) (hkx:scX.kind=.function) (hce:X.env.cells=cellsFrom n scX.names []) (hx:∀ y∈fr,scX.names.lookup y=some .cell)
  (hj:js.map (fun j=>X.N[j]?)=fr.map some):Blk X (own++fr) scope (Zkm X.env scope.names []) (ZhP own.length js):=by
 have cel:∀ y∈fr,∃ c,X.env.cells.lookup y=some c:=fun y hy=>by
  rw [hce]
  exact Zke (hx y hy)
 have frl:js.length=fr.length:=by have:=congrArg List.length hj;simpa using this
 refine ⟨?_,kind,names,nocell,fun y c h=>?_,fun y h=>?_,fun σ i y v h1 h2 h3=>?_,fun σ=>by rw [Zj3,List.length_append,frl]⟩
 ·have:=Zn0 (env:=X.env) scope.names [] fun y hy hy2=>cel _ (hf y hy hy2)
  unfold closureFor
  simp only [bind_pure]
  exact this
 ·rcases ZlZ _ _ h with q | ⟨q1,q2⟩
  ·cases q
  ·obtain ⟨c',e⟩:=cel y (hf _ q1 rfl)
   rw [e] at q2 ⊢
   exact congrArg some q2.symm
 ·refine Zl7 _ _ ?_
  rcases h with h | h
  ·exact ZiK nocell h (.inl rfl)
  ·exact ZiK nocell h (.inr rfl)
 ·obtain ⟨m,j,rfl,e1,e2⟩:=Znc h2
  rw [List.getElem?_append_right (by omega)] at h1
  have:own.length+m - own.length=m:=by omega
  rw [this] at h1
  have hy:y∈fr:=List.mem_of_getElem? h1
  have q:=congrArg (fun l=>l[m]?) hj
  simp only [List.getElem?_map,e1,h1,Option.map_some] at q
  have l1:X.env.scope.names.lookup y=some .cell:=by rw [hsc];exact hx y hy
  refine ⟨.inl (Zde (by rw [hsc];exact hkx) (hk y hy) l1),.inr (.inl l1),(by rw [l1];intro z;cases z),j,Option.some.inj q,e2⟩
def Zct (gi:GI) (n:Nat) (js:List Nat) (gg:GG) (gt:GT) (ge:GE):GE:=fun ω G Q=>gi ω G fun ws gd G1=>ZbK gd gg gt ge (fun ys G2=>∀ p,G2 p=none→Q (.ref p) (put G2 p (.lst ys))) ws (ZhP n js ω) G1 []
theorem ZrR {gi:GI} {n:Nat} {js:List Nat} {gg:GG} {gt:GT} {ge:GE} (mi:gi.M) (mg:gg.M) (mt:gt.M) (me:ge.M):GE.M (Zct gi n js gg gt ge):=fun ω G Q Q' h q =>
 mi _ _ _ _ (fun ws gd G1 z=>ZhS mg mt me (fun ys G2 z p hp=>h _ _ (z p hp)) _ _ _ _ z) q
theorem Zru {X:Cx} {n:Nat} {js:List Nat} {gi:GI} {gg:GG} {gt:GT} {ge:GE} {wi:TI} {g:TG} (hwi:∀ (σ:St) (H:Hp) (ω:Sw) (G:Hw) (R:List W→(Hw→Prop)→Hw→Prop) (R0:It→Hp→Prop),TrSt X.K H σ ω→RelH X.K H G→gi ω G R →
   (∀ ws gd G1 H1 J,R ws gd G1→Mono X.K H H1→RelH X.K H1 G1→gd G1→Zv4 X.K H1 J ws gd→R0 J H1)→wi σ H R0)
  (hgg:∀ (x:V) (w:W) (σ:St) (ω:Sw) (H:Hp) (G:Hw) (Q:St→Hp→Prop),Tr X.K H x w→TrSt X.K H σ ω→RelH X.K H G→gg w ω G (dnS X.K H Q)→g x σ H Q) (mg:gg.M) (mt:gt.M) (me:ge.M) (σ:St) (H:Hp) (Q:VK) (h:up X.K (Zct gi n js gg gt ge) σ H Q) :
  Zvv wi (ZhP n js) g (upT X.K gt) (up X.K ge) σ H Q:=by
 obtain ⟨ω,G,ts,r,q⟩:=h
 refine hwi σ H ω G _ _ ts r q fun ws gd G1 H1 J z m1 r1 hgd wk=>?_
 refine ⟨fun i m σ' H' vs=>m=ws.length - i∧i≤ws.length∧Mono X.K H1 H'∧∃ ω' G' ys,TrSt X.K H' σ' ω'∧RelH X.K H' G'∧TrL X.K H' vs ys∧ZbK gd gg gt ge (fun ys G2=>∀ p,G2 p=none→dn X.K H Q (.ref p) (put G2 p (.lst ys))) (ws.drop i) ω' G' ys,
  ⟨ws.length,by simp,Nat.zero_le _,.refl,_,G1,[],(ts.mono m1).cap n js,r1,.nil,by simpa using z⟩,?_⟩
 rintro i m σ' H' vs ⟨rfl,hle,mm,ω',G',ys,ts',r',tv,q'⟩
 have hgd':=Zlf q'
 by_cases hlt:i < ws.length
 ·have hw:∃ w,ws[i]?=some w:=⟨ws[i],by simp [hlt]⟩
  obtain ⟨w0,ew0⟩:=hw
  have ed:ws.drop i=w0::ws.drop (i+1):=by
   obtain ⟨h',e'⟩:=List.getElem?_eq_some_iff.mp ew0
   rw [← e'];exact List.drop_eq_getElem_cons h'
  rw [ed] at q'
  refine .inr ⟨wk.go i H' G' mm r' hgd' hlt,by rw [tv.length];exact q'.2.1,fun σ2 H2 vs2=>Mono X.K H1 H2∧∃ ω2 G2 ys2,TrSt X.K H2 σ2 ω2∧RelH X.K H2 G2∧TrL X.K H2 vs2 ys2∧ZbK gd gg gt ge (fun ys G2=>∀ p,G2 p=none→dn X.K H Q (.ref p) (put G2 p (.lst ys))) (ws.drop (i+1)) ω2 G2 ys2,
   (by rintro σ2 H2 vs2 ⟨y1,y2⟩;exact ⟨ws.length - (i+1),by omega,rfl,hlt,y1,y2⟩),fun x H2 y=>?_⟩
  obtain ⟨my,ry,w,ew,tw⟩:=wk.yld i H' G' x H2 mm r' hgd' y hlt
  have mm:=mm.trans my
  have tv:=tv.mono my
  rw [ew0] at ew;cases ew
  refine hgg x _ σ' ω' _ G' _ tw (ts'.mono my) ry (mg _ _ _ _ _ (fun ω1 G1' z1 σ1 H3 m3 ts3 r3=>?_) q'.2.2)
  refine ⟨ω1,G1',ts3,r3,mt _ _ _ _ (fun b G4 z4 H4 m4 r4=>?_) z1⟩
  cases b with
  | true=>exact ⟨ω1,G4,ts3.mono m4,r4,me _ _ _ _ (fun y5 G5 z5 v5 H5 m5 t5 r5=>⟨((mm.trans m3).trans m4).trans m5,ω1,G5,_,(ts3.mono m4).mono m5,r5,(((tv.mono m3).mono m4).mono m5).append (.cons t5 .nil),z5⟩) z4⟩
  | false=>exact ⟨(mm.trans m3).trans m4,ω1,G4,_,ts3.mono m4,r4,(tv.mono m3).mono m4,z4⟩
 ·have e:i=ws.length:=by omega
  subst e
  rw [List.drop_length] at q'
  exact .inl ⟨wk.stop H' G' mm r' hgd',fun p hp=>q'.2 p (r'.no hp) _ _ ((m1.trans mm).trans (Mono.new hp _)) (.ref p) (r'.new hp tv)⟩
structure TgC (X:Cx) (Nc:List Str) (scope:Scope) (cl:List (Str×Addr)) (tg:Expr) (gg:GG):Prop where
 ex:∃ g:TG,(∀ C fp s H,PG (cxB X Nc scope cl C fp s H) tg g)∧∀ (x:V) (w:W) (σ:St) (ω:Sw) (H:Hp) (G:Hw) (Q:St→Hp→Prop),Tr X.K H x w→TrSt X.K H σ ω→RelH X.K H G→gg w ω G (dnS X.K H Q)→g x σ H Q
 mono:gg.M
theorem Zm5 {X:Cx} {Nc:List Str} {scope:Scope} {cl:List (Str×Addr)} {x:Str} {p:Pos} {i:Nat} (hN:Nc.Nodup) (hi:Nc[i]?=some x) (hx:scope.names.lookup x=some .local):TgC X Nc scope cl (.Name x p) (gNm i) where
 ex:=⟨ZhE i,fun C fp s H=>Zcx (X:=cxB X Nc scope cl C fp s H) hN hi (.inl (lookup_relabel_local hx)) (.inr (lookup_relabel_local hx)),fun x w σ ω H G Q t ts r q=>q _ H .refl (ts.set i t) r⟩
 mono:=fun _ _ _ _ _ h q=>h _ _ q
def Zon (i j k:Nat):GG:=fun w ω G Q=>match w with
 | .tup [a,b,c]=>Q (((ω.set i (some a)).set j (some b)).set k (some c)) G
 | _=>False
theorem ZtP {i j k:Nat}:GG.M (Zon i j k):=fun w ω G Q Q' h q=>by
 unfold Zon at q ⊢
 split
 ·exact h _ _ q
 ·rename_i z
  split at q
  ·exact (z _ _ _ rfl).elim
  ·exact q
theorem ZtA {K:PySem.W.Frag} {i j k:Nat} (v:V) (w:W) (σ:St) (ω:Sw) (H:Hp) (G:Hw) (Q:St→Hp→Prop) (t:Tr K H v w) (ts:TrSt K H σ ω) (r:RelH K H G) (q:Zon i j k w ω G (dnS K H Q)) :
  L2.Zbq K 3 (L2.Zaa (ZhE i) (L2.Zaa (ZhE j) (L2.Zaa (ZhE k) L2.Zaj))) v σ H Q:=by
 unfold Zon at q
 split at q
 ·cases t with
  | tup h l =>
   cases l with
   | cons ta l =>
    cases l with
    | cons tb l =>
     cases l with
     | cons tc l =>
      cases l
      exact ⟨_,_,rfl,h,rfl,_,_,rfl,_,_,rfl,_,_,rfl,rfl,q _ H .refl (((ts.set i ta).set j tb).set k tc) r⟩
 ·exact q.elim
theorem Zo1 {X:Cx} {Nc:List Str} {scope:Scope} {cl:List (Str×Addr)} {x y z:Str} {p p' p2 pos:Pos} {n i j k:Nat} (hc:X.calm=true) (hN:Nc.Nodup) (hi:Nc[i]?=some x) (hx:scope.names.lookup x=some .local) (hj:Nc[j]?=some y) (hy:scope.names.lookup y=some .local) (hk:Nc[k]?=some z) (hz:scope.names.lookup z=some .local) :
  TgC X Nc scope cl (.Tuple [.Name x p,.Name y p',.Name z p2] n pos) (Zon i j k) where
 ex:=⟨L2.Zbq X.K 3 (L2.Zaa (ZhE i) (L2.Zaa (ZhE j) (L2.Zaa (ZhE k) L2.Zaj))),fun C fp s H=>Zm8 (X:=cxB X Nc scope cl C fp s H) hc (ZcF (Zcx hN hi (.inl (lookup_relabel_local hx)) (.inr (lookup_relabel_local hx))) (ZcF (Zcx hN hj (.inl (lookup_relabel_local hy)) (.inr (lookup_relabel_local hy))) (ZcF (Zcx hN hk (.inl (lookup_relabel_local hz)) (.inr (lookup_relabel_local hz))) Zky))),
  ZtA⟩
 mono:=ZtP
section
variable {X:Cx} {P:Hp→Prop} {e:Expr} {pos pos':Pos} {ga ge:GE} {gt:GT}
theorem Zkk {elt tg iter:Expr} {ifs:List Expr} {scope:Scope} {Nc:List Str} {n:Nat} {js:List Nat} {cl:List (Str×Addr)} {gi:GI} {gg:GG} (hc:X.calm=true) (B:Blk X Nc scope cl (ZhP n js)) (hs:∀ x,foldedSetIterable iter X.env x=pure x) (hi:Im X tg iter gi)
  (hu:TgC X Nc scope cl tg gg) (ht:∀ C fp s H,Fm (cxB X Nc scope cl C fp s H) ifs gt) (he:∀ C fp s H,Em (cxB X Nc scope cl C fp s H) elt ge):Em X (.ListComp elt [⟨tg,iter,ifs,0⟩] scope pos) (Zct gi n js gg gt ge):=by
 have mt:gt.M:=(ht 0 [] X.s₀ X.H₀).m
 have me:ge.M:=(he 0 [] X.s₀ X.H₀).m
 refine ⟨?_,ZrR hi.m hu.mono mt me⟩
 obtain ⟨wi,hwi,hi⟩:=hi.p
 obtain ⟨g,hpg,hgg⟩:=hu.ex
 exact Zbf (Zpe hc hwi B hpg (fun C fp s H=>(ht C fp s H).p) (fun C fp s H=>(he C fp s H).p) hs) (Zru hi hgg hu.mono mt me)
end
theorem ZcR {X:Cx} {x y z:Str} {p p' p2 pos:Pos} {n i j k:Nat} (hc:X.calm=true) (hN:X.N.Nodup) (hi:X.N[i]?=some x) (hx:Loc X.env.scope x) (hf:X.fn x=true∨X.env.scope.names.lookup x=some .local)
  (hj:X.N[j]?=some y) (hy:Loc X.env.scope y) (hfy:X.fn y=true∨X.env.scope.names.lookup y=some .local) (hk:X.N[k]?=some z) (hz:Loc X.env.scope z) (hfz:X.fn z=true∨X.env.scope.names.lookup z=some .local) :
  TgW X (.Tuple [.Name x p,.Name y p',.Name z p2] n pos) (Zon i j k) where
 ex:=⟨_,Zm8 hc (ZcF (Zcx hN hi hx hf) (ZcF (Zcx hN hj hy hfy) (ZcF (Zcx hN hk hz hfz) Zky))),ZtA⟩
 mono:=ZtP
section
variable {prog:Program} {w:World} {A:Around} {E:Value→Shared→Prop} {s:Shared}
theorem ZrF {t b:Addr} {ws:List Value} {Q:Value→Shared→Prop} (ht:IsTup s.heap t #[]) (hb:IsTup s.heap b ws.toArray) (h1:Q (.ref b) s):wpAny (model prog w) A (binaryOp .Add (.ref t) (.ref b)) Q E s:=by
 obtain ⟨⟨cls,dd,data,sl⟩,ho,hc,n,hd⟩:=id ht
 obtain ⟨⟨cls2,dd2,data2,sl2⟩,ho2,hc2,n2,hd2⟩:=id hb
 simp only at hc hd hc2 hd2
 subst hc hd hc2 hd2
 exact concat_meets ⟨_,ho,rfl⟩ ⟨_,ho2,rfl⟩ noFill_tuple_add seq_tuple_add PySem.F.slot_tuple_add PySem.F.entry_tuple_add (PySem.F.args_tuple_add_2 _ _) (tuple_addW0 t b #[] ws.toArray n n2 dd dd2 sl sl2 rfl) ⟨ho,ho2,h1⟩
end
def Zqk (K:PySem.W.Frag):R2:=fun x y H Q=>∃ a b ys,x=.ref a∧y=.ref b∧SqT K H a []∧SqT K H b ys∧Q (.ref b) H
theorem Zrq {X:Cx}:OpR X (binaryOp .Add) (Zqk X.K):=by
 walk_at "pa"
 obtain ⟨a,b,ys,rfl,rfl,ha,hb,q⟩:=h
 cases rx
 cases ry
 obtain ⟨its,r1,p1,_⟩:=I.tuple ha
 obtain ⟨its2,r2,p2,_⟩:=I.tuple hb
 cases r1
 exact ZrF p1 p2 ⟨.ref b,H,I,rfl,q⟩
def Zgc:RW2:=fun x y G Q=>match x,y with
 | .tup xs,.tup ys=>xs.length+ys.length≤sizeLine∧Q (.tup (xs++ys)) G
 | x,y=>Zfj x y G Q
theorem ZbI {xs ys:List W} {G:Hw} {Q:Kw}:Zgc (.tup xs) (.tup ys) G Q=(xs.length+ys.length≤sizeLine∧Q (.tup (xs++ys)) G):=rfl
theorem ZgF {x y:W} {G:Hw} {Q:Kw} (hb:¬((∃ xs,x=.tup xs)∧∃ ys,y=.tup ys)):Zgc x y G Q=Zfj x y G Q:=by
 cases x <;> cases y <;> first | rfl | exact absurd ⟨⟨_,rfl⟩,⟨_,rfl⟩⟩ hb
theorem Zqo:RW2.M Zgc:=fun x y G Q Q' h q=>by
 by_cases hb:(∃ xs,x=.tup xs)∧∃ ys,y=.tup ys
 ·obtain ⟨⟨xs,rfl⟩,⟨ys,rfl⟩⟩:=hb
  exact ⟨q.1,h _ _ q.2⟩
 ·rw [ZgF hb] at q ⊢
  exact Zq1 _ _ _ _ _ h q
theorem Zvf {X:Cx}:OpR X (binaryOp .Add) (fun x y H Q=>((rI0 fun i j=>.int (i+j)) x y H Q∨(∃ i j,x=.str i∧y=.str j∧i.length+j.length≤sizeLine∧Q (.str (i++j)) H)∨Zx3 x y H Q)∨Zqk X.K x y H Q∨ZvD X.K x y H Q):=OpR.or Zqb (OpR.or Zrq ZuJ)
theorem Zsy {K:PySem.W.Frag} (x y:W) (v u:V) (G:Hw) (H:Hp) (Q:VK) (tx:Tr K H v x) (ty:Tr K H u y) (r:RelH K H G) (q:Zgc x y G (dn K H Q)) :
  ((rI0 fun i j=>.int (i+j)) v u H Q∨(∃ i j,v=.str i∧u=.str j∧i.length+j.length≤sizeLine∧Q (.str (i++j)) H)∨Zx3 v u H Q)∨Zqk K v u H Q∨ZvD K v u H Q:=by
 by_cases hb:(∃ xs,x=.tup xs)∧∃ ys,y=.tup ys
 ·obtain ⟨⟨xs,rfl⟩,⟨ys,rfl⟩⟩:=hb
  rw [ZbI] at q
  cases tx with
  | tup sa la =>
   cases ty with
   | tup sb lb =>
    rename_i a vs b us
    cases la with
    | nil=>exact .inr (.inl ⟨a,b,us,rfl,rfl,sa,sb,by simpa using q.2 _ H .refl (.tup sb lb) r⟩)
    | cons t1 la =>
     refine .inr (.inr ⟨a,b,_,us,rfl,rfl,sa,sb,by simp,?_,fun e=>?_,fun e p hp=>?_⟩)
     ·rw [(TrL.cons t1 la).length,lb.length];exact q.1
     ·subst e
      cases lb
      have:=q.2 (.ref a) H .refl (by simpa using Tr.tup sa (.cons t1 la)) r
      exact this
     ·exact q.2 _ _ (Mono.new hp _) (.tup (SqT.of Zbk) (((TrL.cons t1 la).append lb).mono (Mono.new hp _))) (r.mono0 hp)
 ·refine .inl (Zqn x y v u G H Q tx ty r ?_)
  rwa [ZgF hb] at q
theorem Zdh {X:Cx} {a b:Expr} {ga gb:GE} {pos:Pos} (ha:Em X a ga) (hb:Em X b gb):Em X (.BinOp a .Add b pos) (Zak Zgc ga gb):=⟨Zhw Zvf Zqo ha.m hb.m Zsy ha.p hb.p,ZdU Zqo ha.m hb.m⟩
end L3
namespace L3
open PySem PySem.Spec PyProof.Rows L2
variable {K:PySem.W.Frag} {H H' H2:Hp}
theorem TrP.lookup {α:Type} [BEq α]:∀ {vs:List (α×V)} {ws:List (α×W)} {f:α} {w:W},TrP K H vs ws→ws.lookup f=some w→∃ v,vs.lookup f=some v∧Tr K H v w
 | _,_,_,_,.nil,e=>by cases e
 | _,_,f,w,.cons (f:=g) r t,e=>by
  rw [List.lookup_cons] at e ⊢
  cases hb:f==g with
  | true=>rw [hb] at e;cases e;exact ⟨_,rfl,r⟩
  | false=>rw [hb] at e;exact t.lookup e
theorem TrP.length {α:Type}:∀ {vs:List (α×V)} {ws:List (α×W)},TrP K H vs ws→vs.length=ws.length
 | _,_,.nil=>rfl
 | _,_,.cons _ t=>congrArg (·+1) t.length
section
variable {X:Cx} {P:Hp→Prop} {o e value:Expr} {es:List Expr} {f m:Str} {C:Addr} {pos pos' tpos apos p:Pos} {ga gv:GE} {gs:GA} {ex:Xw}
theorem Mono.ins {p C dx:Addr} {xs:List (Str×V)} (hp:H p=some (.ins C dx xs)) (o:HO):Mono K H (upd H p o):=Mono.was hp _ (fun _ z=>by cases z) (fun _ _ z=>by cases z)
end
section
variable {X:Cx} {P:Hp→Prop} {o e value:Expr} {es:List Expr} {f m:Str} {C:Addr} {pos pos' tpos apos p:Pos} {ga gv:GE} {gs:GA} {ex:Xw}
end
section
variable {P:Program} {w:World} {mg:Str→Option Value} {base:Heap} {C:Addr}
end
def Znj:GS:=fun _ _ _=>False
theorem ZcE {X:Cx} {P:Hp→Prop} {st:Stmt}:Sm X P st Znj:=⟨(by rintro B hB pins s σ H D I ⟨ω,G,ts,r,mb,q⟩;exact q.elim),fun ω G D D' _ _ _ _ q=>q⟩
end L3
namespace HT
open PySem PySem.Spec PyProof.Rows
section
variable {prog:Program} {w:World} {A:Around} {E:Value→Shared→Prop} {s:Shared}
end
end HT
namespace L3
open PySem PySem.Spec PyProof.Rows L2
variable {K:PySem.W.Frag} {H H' H2:Hp}
section
variable {X:Cx} {a b e:Expr} {ga gb:GE} {pos:Pos}
end
theorem StrsAre.len:∀ {vs:List Value} {ys:List Str},StrsAre vs ys→vs.length=ys.length
 | _,_,.nil=>rfl
 | _,_,.cons _ _ r=>congrArg (·+1) (StrsAre.len r)
section
variable {prog:Program} {w:World} {A:Around} {E:Value→Shared→Prop} {s:Shared}
end
def Zku:RW2:=fun x y G Q=>match x,y with
 | .int i,.int j=>CMul i j∧Q (.int (i*j)) G
 | .str x,.int n=>MulOk x n∧Q (.str (Txt.mul x n)) G
 | .ref a,.int k=>(match G a with
  | some (.lst xs)=>-(2 ^ 63)≤k∧k < 2 ^ 63∧xs.length*k.toNat≤sizeLine∧∀ p,G p=none→Q (.ref p) (put G p (.lst (List.replicate k.toNat xs).flatten))
  | _=>False)
 | _,_=>False
theorem Zq5:RW2.M Zku:=fun x y G Q Q' h q=>by
 cases x <;> cases y <;> first | exact q | exact ⟨q.1,h _ _ q.2⟩ | skip
 rename_i a k
 unfold Zku at q ⊢
 dsimp only at q ⊢
 cases e:G a with
 | none=>rw [e] at q;exact q
 | some o =>
  rw [e] at q
  cases o <;> first | exact q | exact ⟨q.1,q.2.1,q.2.2.1,fun p hp=>h _ _ (q.2.2.2 p hp)⟩
def Zxl:R2:=fun x y H Q=>∃ z n,x=.str z∧y=.int n∧MulOk z n∧Q (.str (Txt.mul z n)) H
theorem Zum {X:Cx}:OpR X (binaryOp .Mult) Zxl:=by
 walk_at "pa"
 obtain ⟨z,n,rfl,rfl,ok,q⟩:=h
 obtain ⟨t,rfl⟩:=rx
 obtain ⟨t2,rfl⟩:=ry
 exact SB.mul ok fun t' k=>⟨.str _,H,I.tok k,⟨t',rfl⟩,q⟩
theorem TrL.rep {vs:List V} {ws:List W} (t:TrL K H vs ws):∀ k:Nat,TrL K H (List.replicate k vs).flatten (List.replicate k ws).flatten
 | 0=>.nil
 | k+1=>by
  rw [List.replicate_succ,List.replicate_succ,List.flatten_cons,List.flatten_cons]
  exact t.append (t.rep k)
theorem ZrH (x y:W) (v u:V) (G:Hw) (H:Hp) (Q:VK) (tx:Tr K H v x) (ty:Tr K H u y) (r:RelH K H G) (q:Zku x y G (dn K H Q)):(rI CMul fun i j=>.int (i*j)) v u H Q∨Zxl v u H Q∨ZAk v u H Q:=by
 cases tx with
 | int i=>cases ty <;> first | exact q.elim | exact .inl ⟨_,_,rfl,rfl,q.1,q.2 _ H .refl (.int _) r⟩
 | str z=>cases ty <;> first | exact q.elim | exact .inr (.inl ⟨_,_,rfl,rfl,q.1,q.2 _ H .refl (.str _) r⟩)
 | ref a =>
  cases ty <;> try exact q.elim
  unfold Zku at q
  dsimp only at q
  cases ea:G a with
  | none=>rw [ea] at q;exact q.elim
  | some oa =>
   rw [ea] at q
   cases oa <;> try exact q.elim
   obtain ⟨vs,e1,t1⟩:=r a _ ea
   exact .inr (.inr ⟨a,_,vs,rfl,rfl,e1,q.1,q.2.1,by rw [t1.length];exact q.2.2.1,fun p hp=>q.2.2.2 p (r.no hp) _ _ (Mono.new hp _) (.ref p) (r.new hp (t1.rep _))⟩)
 | _=>exact q.elim
theorem Zdb {X:Cx} {a b:Expr} {ga gb:GE} {pos:Pos} (ha:Em X a ga) (hb:Em X b gb):Em X (.BinOp a .Mult b pos) (Zak Zku ga gb):=⟨Zhw (OpR.or Ztd (OpR.or Zum ZyJ)) Zq5 ha.m hb.m ZrH ha.p hb.p,ZdU Zq5 ha.m hb.m⟩
def ZAy (K:PySem.W.Frag) (tl:TE):TI:=fun σ H R=>tl σ H fun x H1=>(∃ a,x=.ref a∧(∃ xs,SqL K H1 a xs)∧R (Itl K a) H1)∨(∃ a,x=.ref a∧(∃ xs,SqT K H1 a xs)∧R (Itt K a) H1)
theorem ZwD {X:Cx} {tg l:Expr} {tl:TE} (hl:PE X l tl):PI X tg l (ZAy X.K tl):=by
 intro pins s σ H R I h
 refine thn (hl pins s σ H _ I h) fun v s1 zz1=>?_
 obtain ⟨x,H1,I1,r1,q1⟩:=zz1
 rcases q1 with ⟨a,e,⟨xs,hq⟩,q⟩ | ⟨a,e,⟨xs,hq⟩,q⟩
 ·subst e
  cases r1
  obtain ⟨its,rv,p,hz⟩:=I1.list hq
  refine wpAny_pyIter_list p.isList ?_
  walk_at "ph"
  have e:b=s1.heap.objs.size:=by simpa using hb
  subst e
  walk_at "pt"
 ·subst e
  cases r1
  obtain ⟨its,rv,p,hz⟩:=I1.tuple hq
  refine wpAny_pyIter_tuple (show s1.heap.IsTuple a its.toArray from p) ?_
  walk_at "pi"
  have e:b=s1.heap.objs.size:=by simpa using hb
  subst e
  walk_at "pt"
def Zcv (ga:GE):GI:=fun ω G R=>ga ω G fun w G1=>match w with
 | .tup ws=>R ws yes G1
 | .rol ws=>R ws yes G1
 | .ref a=>match G1 a with | some (.lst ws)=>R ws (holds a ws) G1 | _=>False
 | _=>False
theorem Zr2 {ga:GE} (m:ga.M):GI.M (Zcv ga):=fun ω G R R' h q=>m _ _ _ _ (fun w G1 z=>by
 cases w with
 | tup ws=>exact h _ _ _ z
 | rol ws=>exact h _ _ _ z
 | ref a =>
  dsimp only at z ⊢
  cases e:G1 a with
  | none=>rw [e] at z;exact z
  | some o =>
   rw [e] at z
   cases o <;> first | exact h _ _ _ z | exact z
 | _=>exact z) q
theorem Zft {X:Cx} {tg l:Expr} {ga:GE} (hl:Em X l ga):Im X tg l (Zcv ga):=by
 refine ⟨⟨_,ZwD hl.p,fun σ H ω G R R0 ts r q k=>⟨ω,G,ts,r,hl.m _ _ _ _ (fun w G1 z v H1 m t r1=>?_) q⟩⟩,Zr2 hl.m⟩
 cases t with
 | tup h l=>exact .inr ⟨_,rfl,⟨_,h⟩,k _ _ _ H1 _ z m r1 trivial (ZnK h l)⟩
 | rol h l=>exact .inl ⟨_,rfl,⟨_,h.sq⟩,k _ _ _ H1 _ z m r1 trivial (ZhJ fun H2 G2 m2 _ _=>⟨_,(m2.rol _ _ h).sq,l.mono m2⟩)⟩
 | ref a =>
  dsimp only at z
  cases e:G1 a with
  | none=>rw [e] at z;exact z.elim
  | some o =>
   rw [e] at z
   cases o with
   | lst ws =>
    obtain ⟨vs,e1,t1⟩:=r1 a _ e
    exact .inl ⟨a,rfl,⟨vs,SqL.of e1⟩,k _ _ _ H1 _ z m r1 e (ZhJ fun H2 G2 m2 r2 g2=>let ⟨vs,e2,t2⟩:=r2 a _ g2;⟨vs,SqL.of e2,t2⟩)⟩
   | _=>exact z.elim
 | _=>exact z.elim
section
variable {X:Cx} {CX:CXT} {k:Nat} {f:Addr} {fd:FuncData} {ps:List Str} {sp:Sp} {Eσ:St→XK} {x:Str} {p pos:Pos} {e:Expr} {es:List Expr} {t:TA}
theorem ZwX {E:Value→Shared→Prop} {pins:List (Addr×Obj)} {s:Shared} {σ:St} {H:Hp} {i:Nat} {x:Str} {v:V} {pos:Pos} {Q:Value→Shared→Prop} (I:Inv X pins σ H s) (hN:X.N[i]?=some x) (hv:Vis X.env.scope x) (e:σ[i]?=some (some v)) (hd:(x==("__debug__":Str))=false) (hcd:(x==("__classdict__":Str))=false)
  (fin:∀ u,RelV v u→Q u s):wpAny (model X.prog X.w) X.A (eval (.Name x pos) X.env) Q E s:=by
 obtain ⟨m,hn,hl⟩:=I.loc
 obtain ⟨u,r,l⟩:=hl i x v hN e hv
 rcases l with ⟨hk,hm⟩ | ⟨hk,c,hc,hcell⟩
 ·exact wpAny_Name (wpAny_loadName_local I.ok.kind hk hn hm (fin u r)) hd
 ·rcases hk with hk | hk
  ·exact wpAny_Name (wpAny_loadName_cell I.ok.kind hk hc hcell (fin u r)) hd
  ·exact wpAny_Name (wpAny_loadName_free I.ok.kind hk hc hcell (fin u r) hcd) hd
theorem Zsx {i:Nat} (F:FnOk X.prog X.w X.K X.mg X.base CX k f fd ps sp) (hr:Room k X.A) (hN:X.N[i]?=some x) (hv:Vis X.env.scope x) (hk:PySem.W.keepIn X.K (.ref f)=true) (hb:Binds X.K fd ps []) (hx:Zmf CX X Eσ)
  (ha:PA X (e::es) t) (hdb:(x==("__debug__":Str))=false) (hcd:(x==("__classdict__":Str))=false) (he:starEach (e::es) X.env=(false,eval e X.env)::starEach es X.env) (hpl:(backTo pos (starEach es X.env)).any (·.1)=false) :
  PE X (.Call (.Name x p) (e::es) [] pos) (fun σ H Q=>σ[i]?=some (some (.ref f))∧ZtX sp [] Eσ t σ H Q):=by
 intro pins s σ H Q I ⟨hi,h⟩
 refine wpAny_Call_Name_kw (ZwX I hN hv hi hdb hcd fun u hu=>?_)
 cases hu
 refine PySem.W.callWith_K (h₀:=X.base) I.ok.mod.kin hk (thn (ha pos pins s σ H _ I h) fun us s1 ⟨vs,H1,I1,r,q⟩=>⟨I1.kIn,?_⟩) he hpl
 have r2:Vals (vs++[]) (us++[]):=r.append .nil
 have hl:(us++[]).length=ps.length:=by rw [← r2.length];exact F.len _ _ _ _ q
 refine wpAny_call (codeAny_mono (F.run X.A X.stack s1 H1 ⟨us,[]⟩ (us++[]) (vs++[]) Q (Eσ σ) hr I1.env0 (hb s1 us I1.kIn hl) r2 q) fun r s' hq=>?_)
 cases r with
 | error e=>exact hx pins σ H1 s1 e s' I1 hq
 | ok fl =>
  cases fl with
  | ret u=>exact I1.after hq
  | next=>exact False.elim hq
  | brk=>exact False.elim hq
  | cont=>exact False.elim hq
end
def fAt (mg:Str→Option Value) (x:Str):Addr:=match mg x with | some (.ref f)=>f | _=>0
theorem Ztw {mg:Str→Option Value} {x:Str} {f:Addr} (h:mg x=some (.ref f)):fAt mg x=f:=by unfold fAt;rw [h]
section
variable {X:Cx} {e:Expr} {es:List Expr} {pos p:Pos} {ga gb:GE} {gs:GA} {ex:Xw}
def ZdV (i:Nat) (f:Addr) (sp:Spw) (ex:Xw) (gs:GA):GE:=fun ω G Q=>ω[i]?=some (some (.ref f))∧gs ω G fun ws G1=>sp ws G1 Q (ex ω)
theorem Zr8 {i:Nat} {f:Addr} {sp:Spw} (m:sp.M) (ms:gs.M):GE.M (ZdV i f sp ex gs):=fun ω G Q Q' h q=>⟨q.1,ms _ _ _ _ (fun ws G1 q1=>m _ _ _ _ _ _ h (fun _ _ z=>z) q1) q.2⟩
theorem ZrA {i:Nat} {x y:Str} {k n:Nat} {sp:Spw} (D:Df X.prog X.w X.K X.mg X.base y k n sp) (hr:Room k X.A) (hN:X.N[i]?=some x) (hv:Vis X.env.scope x) (hp:ZqG X ex) (ms:gs.M) (ha:PAw X (e::es) gs)
  (hdb:(x==("__debug__":Str))=false) (hcd:(x==("__classdict__":Str))=false) (he:starEach (e::es) X.env=(false,eval e X.env)::starEach es X.env) (hpl:(backTo pos (starEach es X.env)).any (·.1)=false) :
  PEw X (.Call (.Name x p) (e::es) [] pos) (ZdV i (fAt X.mg y) sp ex gs):=by
 obtain ⟨f,fd,ps,hm,hk,hb,_,F⟩:=D.ex
 rw [Ztw hm]
 refine Zbf (Zsx F hr hN hv hk hb hp ha hdb hcd he hpl) fun σ H Q zz1=>?_
 obtain ⟨ω,G,ts,r,q0,q⟩:=zz1
 obtain ⟨v,ev,tv⟩:=ts.get i _ q0
 cases tv
 refine ⟨ev,ω,G,ts,r,ms _ _ _ _ (fun ws G1 q1 vs H1 m1 tvs r1=>?_) q⟩
 refine ⟨ws,G1,by rw [List.append_nil];exact tvs,r1,D.mono _ _ _ _ _ _ (fun w G' z=>ZcZ m1 z) (fun C G' z H2 m2 r2=>?_) q1⟩
 exact ⟨C,ω,G',rfl,(ts.mono m1).mono m2,r2,z⟩
theorem Zh0 {i:Nat} {x y:Str} {k n:Nat} {sp:Spw} (D:Df X.prog X.w X.K X.mg X.base y k n sp) (hr:Room k X.A) (hi:place X.N x=some i) (hv:seen X.env.scope x=true) (hp:ZqG X ex) (hdb:(x==("__debug__":Str))=false) (hcd:(x==("__classdict__":Str))=false) (he:starEach (e::es) X.env=(false,eval e X.env)::starEach es X.env) (hpl:(backTo pos (starEach es X.env)).any (·.1)=false)
  (ha:Am X (e::es) gs):Em X (.Call (.Name x p) (e::es) [] pos) (ZdV i (fAt X.mg y) sp ex gs):=⟨ZrA D hr (Zr9 hi) (Znt hv) hp ha.m ha.p hdb hcd he hpl,Zr8 D.mono ha.m⟩
theorem ZsZ {x:Str} {k n:Nat} {sp:Spw} (D:Df X.prog X.w X.K X.mg X.base x k n sp) (hg:Gl X x) (hd:(x==("__debug__":Str))=false):Em X (.Name x pos) (gC (.ref (fAt X.mg x))):=by
 obtain ⟨f,fd,ps,hm,hk,hb,_,F⟩:=D.ex
 rw [Ztw hm]
 exact ⟨Zqu (v:=.ref f) hg hm rfl (fun H=>.ref f) hd,Zv8⟩
end
end L3
namespace L3
open PySem PySem.Spec PyProof.Rows L2
theorem ZrW {n:Nat} (h:n < 128):(SetTable.sizeAbove n=8∨SetTable.sizeAbove n=16∨SetTable.sizeAbove n=32∨SetTable.sizeAbove n=64∨SetTable.sizeAbove n=128)∧n < SetTable.sizeAbove n:=by
 have:∀ m:Fin 128,(SetTable.sizeAbove m.1=8∨SetTable.sizeAbove m.1=16∨SetTable.sizeAbove m.1=32∨SetTable.sizeAbove m.1=64∨SetTable.sizeAbove m.1=128)∧m.1 < SetTable.sizeAbove m.1:=by decide +kernel
 exact this ⟨n,h⟩
theorem Zh3 {n:Nat} (h:n < 128):Tb.cover (SetTable.sizeAbove n - 1+1)=true∧n < SetTable.sizeAbove n∧SetTable.sizeAbove n≤128:=by
 obtain ⟨h1,h2⟩:=ZrW h
 rcases h1 with e | e | e | e | e <;> rw [e] at h2 ⊢
 ·exact ⟨Tb.cover8,h2,by decide⟩
 ·exact ⟨Tb.cover16,h2,by decide⟩
 ·exact ⟨Tb.cover32,h2,by decide⟩
 ·exact ⟨Tb.cover64,h2,by decide⟩
 ·exact ⟨Tb.cover128,h2,by decide⟩
theorem Zre {t:SetTable} {n:Nat} (h1:t.place.size=n) (h2:t.dummies=#[]) (h3:n≤t.mask):t.fits n=true:=by
 unfold SetTable.fits SetTable.fill
 rw [h2,h1]
 simp
 exact h3
section
variable {prog:Program} {w:World} {A:Around} {E:Value→Shared→Prop} {s:Shared}
theorem ZnL {es:Array (Int×Value)} {t:SetTable} {ks:List Str} (T:Tab w es t ks) {mask f m:Nat} {l p:Bool} (hc:Tb.cover (mask+1)=true) (hn:ks.length≤mask) (hl:bt w=false→l=true) (hp:p=true→ks=[]) :
  ∃ t' order,SetTable.laid mask f m l p (es.map (·.1))=some (t',order)∧(order.filterMap (es[·]?)).size=es.size∧Tab w (order.filterMap (es[·]?)) t' ks:=by
 have hz:=T.len
 obtain ⟨t',order,e,hpm,e1,e2,e3,e4,e5⟩:=Tb.laid_ok hc f m l p (es.map (·.1)) (by rw [Array.size_map];omega)
 rw [Array.size_map] at hpm e2
 have hq:=Tb.order_perm es order hpm
 have hsz:(order.filterMap (es[·]?)).size=es.size:=by rw [← Array.length_toList,hq.length_eq,Array.length_toList]
 refine ⟨t',order,e,hsz,T.perm hq ?_ (fun z=>by rw [e4];exact hl z) fun z=>hp (by rw [← e5];exact z)⟩
 rw [hsz]
 exact Zre e2 e3 (by rw [e1];omega)
theorem ZsD {a:Addr} {ks:List Str} {n:Nat} {Q:Unit→Shared→Prop} (hS:SS w s.heap a ks) (hn:n < 128) (hk:ks.length≤n)
  (h:∀ h',Heap.SameBut a s.heap h'→SS w h' a ks→Q () { s with heap:=h' }):wpAny (model prog w) A (setRelay a n) Q E s:=by
 obtain ⟨o,es,ep,t,ho,hx,hd,T⟩:=hS
 obtain ⟨hc,h1,h2⟩:=Zh3 hn
 have hz:=T.len
 unfold setRelay
 walk_at "pw"
 dsimp only
 rw [if_neg (by have:(128:Nat)≤sizeLine:=by decide
                omega)]
 obtain ⟨t',order,e,hsz,T'⟩:=ZnL (f:=t.finger) (m:=t.movedTo (SetTable.sizeAbove n - 1)) (l:=t.led) (p:=t.plain) T hc (by omega) T.ld T.pl
 refine wpAny_bind ?_
 unfold SetTable.relaid
 rw [e]
 show wpAny (model prog w) A (if ((order.filterMap (es[·]?)).size != es.size)=true then _ else pure (order.filterMap (es[·]?),t')) _ E s
 rw [if_neg (by rw [hsz];simp)]
 refine wpAny_pure (wpAny_storeSet_of ho hd ?_ (fits_of_scanBound (by rw [hsz];unfold scanBound;omega)))
 exact h _ (Heap.SameBut.update s.heap a _) (Zfi ho hx hd T').2
theorem Zq2 {a:Addr} {ks:List Str} {n:Nat} {Q:Unit→Shared→Prop} (hS:SS w s.heap a ks) (hn:ks.length+n < 64)
  (h:∀ h',Heap.SameBut a s.heap h'→SS w h' a ks→Q () { s with heap:=h' }):wpAny (model prog w) A (setRoomFor a n) Q E s:=by
 have hS':=hS
 obtain ⟨o,es,ep,t,ho,hx,hd,T⟩:=hS
 have hz:=T.len
 unfold setRoomFor
 walk_at "pw"
 have hp:t.place.size=es.size:=by
  have:=T.ft
  unfold SetTable.fits at this
  simp only [Bool.and_eq_true,beq_iff_eq] at this
  exact this.1
 dsimp only
 unfold SetTable.roomFor
 split
 ·rename_i v e
  split at e
  ·cases e
   exact ZsD hS' (by omega) (by omega) h
  ·cases e
 ·exact wpAny_pure (h s.heap (Heap.SameBut.refl a s.heap) hS')
end
theorem ZgT {α:Type}:∀ (l:List α) (i:Nat) (h:i < l.length),(l[i]::l.eraseIdx i).Perm l
 | a::l,0,h=>List.Perm.refl _
 | a::l,i+1,h=>by
  have h':i < l.length:=Nat.lt_of_succ_lt_succ h
  exact (List.Perm.swap a (l[i]'h') (l.eraseIdx i)).trans ((ZgT l i h').cons a)
theorem Zp9 {α:Type} (next:Nat→Nat):∀ (n k:Nat) (left:List α) (out:Array α),left.length=n→(pickOrder.go next n k left out).toList.Perm (out.toList++left)
 | 0,k,left,out,h=>by
  obtain rfl:=List.length_eq_zero_iff.mp h
  rw [List.append_nil]
  exact List.Perm.refl _
 | n+1,k,left,out,h=>by
  have hlt:next k % left.length < left.length:=Nat.mod_lt _ (by omega)
  unfold pickOrder.go
  rw [List.getElem?_eq_getElem hlt]
  dsimp only
  refine (Zp9 next n (k+1) _ _ (by rw [List.length_eraseIdx_of_lt hlt];omega)).trans ?_
  rw [Array.toList_push,List.append_assoc]
  refine List.Perm.append_left _ ?_
  exact ZgT left _ hlt
theorem Zlo {α:Type} (next:Nat→Nat) (xs:Array α):(pickOrder next xs).toList.Perm xs.toList:=by
 have:=Zp9 next xs.size 0 xs.toList #[] (by simp)
 unfold pickOrder
 simpa using this
section
variable {prog:Program} {w:World} {A:Around} {E:Value→Shared→Prop} {s:Shared}
theorem ZjZ {Q:Option Bool×Unit→Shared→Prop} {f:Int×Value→Option Bool×Unit→Sem (ForInStep (Option Bool×Unit))} (hf:∀ e,(∃ x u,e=(hashStr w x,Value.str x u))→f e (none,())=pure (ForInStep.yield (none,()))) :
  ∀ (l:List (Int×Value)),(∀ e∈l,∃ x u,e=(hashStr w x,Value.str x u))→Q (none,()) s→wpAny (model prog w) A (forIn l (none,()) f) Q E s
 | [],_,q=>wpAny_pure q
 | e::l,h,q=>by
  rw [List.forIn_cons,hf e (h e List.mem_cons_self)]
  exact wpAny_bind (wpAny_pure (ZjZ hf l (fun x hx=>h x (List.mem_cons_of_mem _ hx)) q))
theorem ZrB {a b:Addr} {ka kb:List Str} {Q:Bool→Shared→Prop} (ha:SS w s.heap a ka) (hb:SS w s.heap b kb) (q:Q true s):wpAny (model prog w) A (setsQuiet [a,b]) Q E s:=by
 obtain ⟨oa,ea,pa,ta,ho,hx,hd,T⟩:=ha
 obtain ⟨ob,eb,pb,tb,ho2,hx2,hd2,T2⟩:=hb
 have hyield:∀ e:Int×Value,(∃ x u,e=(hashStr w x,Value.str x u))→True:=fun _ _=>trivial
 unfold setsQuiet
 refine wpAny_bind ?_
 rw [List.forIn_cons]
 refine wpAny_bind (wpAny_bind (wpAny_setEntries_of ho hd T.ft ?_))
 rw [← Array.forIn_toList]
 refine wpAny_bind (ZjZ (w:=w) (fun e he=>?_) ea.toList T.el (wpAny_pure ?_))
 ·obtain ⟨x,u,rfl⟩:=he;rfl
 dsimp only
 rw [List.forIn_cons]
 refine wpAny_bind (wpAny_bind (wpAny_setEntries_of ho2 hd2 T2.ft ?_))
 rw [← Array.forIn_toList]
 refine wpAny_bind (ZjZ (w:=w) (fun e he=>?_) eb.toList T2.el (wpAny_pure ?_))
 ·obtain ⟨x,u,rfl⟩:=he;rfl
 dsimp only
 rw [List.forIn_nil]
 exact wpAny_pure (wpAny_pure q)
theorem ZuU {o f:Addr} {ko ks:List Str} {ob:Obj} {es:Array (Int×Value)} {ep:Nat} {t:SetTable} {Q:Array (Int×Value)→Shared→Prop} (ho:s.heap.get? o=some ob) (hx:ob.ExactSet) (hd:ob.data=.set es ep t) (T:Tab w es t ko) (hf:SS w s.heap f ks) (hk:ks.length < scanBound)
  (h:∀ h' l,Heap.SameBut f s.heap h'→SS w h' f ks→l.toList.Perm es.toList→Q l { s with heap:=h' }):wpAny (model prog w) A (setWalkUnseen o [f] (some f)) Q E s:=by
 have hz:=T.len
 have hall:bt w=true∨es.size≤1→wpAny (model prog w) A (setWalk o) Q E s:=fun hw=>by
  unfold setWalk
  walk_at "pw"
  dsimp only
  unfold setsByText
  walk_at "pb"
  show wpAny (model prog w) A (if bt w=true then _ else _) Q E s
  by_cases hb:bt w=true
  ·rw [if_pos hb]
   exact wpAny_bind (wpAny_askSetting (wpAny_pure (h s.heap _ (Heap.SameBut.refl _ _) hf (Zlo _ _))))
  ·rw [if_neg hb]
   have h1:es.size≤1:=hw.resolve_left hb
   show wpAny (model prog w) A (if (!t.plain&&decide (es.size > 1))=true then _ else _) Q E s
   rw [if_neg (by have:¬ es.size > 1:=by omega
                  simp [this])]
   refine wpAny_bind ?_
   show wpAny (model prog w) A (if (!t.led&&decide (es.size > 1))=true then _ else pure ()) _ E s
   rw [if_neg (by have:¬ es.size > 1:=by omega
                  simp [this])]
   exact wpAny_pure (wpAny_pure (h s.heap _ (Heap.SameBut.refl _ _) hf (List.Perm.refl _)))
 unfold setWalkUnseen
 walk_at "pw"
 dsimp only
 unfold setsByText
 walk_at "pb"
 show wpAny (model prog w) A (if (bt w||t.led&&t.plain||decide (es.size≤1))=true then _ else _) Q E s
 by_cases hc:(bt w||t.led&&t.plain||decide (es.size≤1))=true
 ·rw [if_pos hc]
  refine hall ?_
  simp only [Bool.or_eq_true,Bool.and_eq_true,decide_eq_true_eq] at hc
  rcases hc with (hc | hc) | hc
  ·exact .inl hc
  ·have:=T.pl hc.2
   subst this
   exact .inr (by rw [hz];decide)
  ·exact .inr hc
 ·rw [if_neg hc]
  simp only [Bool.or_eq_true,Bool.and_eq_true,decide_eq_true_eq,not_or] at hc
  have hb:bt w=false:=by simpa using hc.1.1
  refine wpAny_bind (ZrB ⟨ob,es,ep,t,ho,hx,hd,T⟩ hf ?_)
  rw [if_neg (by decide)]
  refine wpAny_bind (wpAny_rule ?_)
  have hf':=hf
  obtain ⟨of,ef,pf,tf,hof,hxf,hdf,Tf⟩:=hf
  refine wpAny_bind (wpAny_setState_of hof hdf Tf.ft ?_)
  dsimp only
  split
  ·refine wpAny_bind (wpAny_storeSet_of hof hdf ?_ ?_)
   ·refine wpAny_pure (h _ _ (Heap.SameBut.update s.heap f _) (Zfi hof hxf hdf (Tf.perm (List.Perm.refl _) ?_ (fun _=>?_) fun z=>?_)).2 (List.Perm.refl _))
    ·cases tf;exact Tf.ft
    ·show (tf.led&&t.led)=true
     rw [Tf.ld hb,T.ld hb];rfl
    ·refine Tf.pl ?_
     have z':(tf.plain&&t.plain)=true:=z
     simp only [Bool.and_eq_true] at z'
     exact z'.1
   ·exact fits_of_scanBound (by rw [Tf.len];exact hk)
  ·exact wpAny_pure (h _ _ (Heap.SameBut.refl _ _) hf' (List.Perm.refl _))
theorem Zp4 {a o:Addr} {ob:Obj} {es:Array (Int×Value)} {ep:Nat} {t:SetTable} (hne:o≠a) (hd:ob.data=.set es ep t) (hf:t.fits es.size=true) {each:Sem Unit} (he:∀ (s':Shared) (Q':Unit→Shared→Prop),s'.heap.get? o=some ob→Q' () s'→wpAny (model prog w) A each Q' E s') {f:Int×Value→PUnit→Sem (ForInStep PUnit)}
  (hbody:∀ x u,f (hashStr w x,Value.str x u) PUnit.unit=(do let _ ← holding [Value.str x u] (setAddHashed a (Value.str x u) (hashStr w x));each;let r ← setState o;if (r.2.1 != ep)=true then (do unsupported "set.changed-during-merge";pure (ForInStep.yield PUnit.unit)) else pure (ForInStep.yield PUnit.unit))) :
  ∀ (l:List (Int×Value)) (s:Shared) (ks:List Str) (Q:PUnit→Shared→Prop),(∀ e∈l,∃ x u,e=(hashStr w x,Value.str x u))→s.heap.get? o=some ob→SS w s.heap a ks→ks.length+l.length < scanBound →
   (∀ h' ks',Heap.SameBut a s.heap h'→SS w h' a ks'→(∀ x,x∈ks'↔x∈ks∨x∈l.map fun e=>strOf e.2)→Q PUnit.unit { s with heap:=h' })→wpAny (model prog w) A (forIn l PUnit.unit f) Q E s
 | [],s,ks,Q,_,_,hS,_,h=>wpAny_pure (h s.heap ks (Heap.SameBut.refl _ _) hS fun x=>⟨.inl,fun z=>z.elim id fun z=>by cases z⟩)
 | e::l,s,ks,Q,hel,ho,hS,hn,h=>by
  obtain ⟨x,u,rfl⟩:=hel e List.mem_cons_self
  simp only [List.length_cons] at hn
  rw [List.forIn_cons,hbody x u]
  refine wpAny_bind (wpAny_bind (wpAny_holding (Zpy hS (by omega) fun h1 b hsb hS1=>?_)))
  have ho1:h1.get? o=some ob:=by rw [hsb.2 o hne];exact ho
  refine wpAny_bind (he _ _ ho1 (wpAny_bind (wpAny_setState_of ho1 hd hf ?_)))
  rw [if_neg (by simp)]
  refine wpAny_pure (Zp4 hne hd hf he hbody l _ _ Q (fun y hy=>hel y (List.mem_cons_of_mem _ hy)) ho1 hS1 (by split <;> (try rw [List.length_cons]) <;> omega) fun h2 ks' hsb2 hS2 hx=>?_)
  refine h h2 ks' (hsb.trans hsb2) hS2 fun y=>(hx y).trans ?_
  rw [List.map_cons,List.mem_cons]
  show _↔y∈ks∨y=x∨_
  have hm:y∈(if x∈ks then ks else x::ks)↔y∈ks∨y=x:=by
   split
   ·rename_i hin
    exact ⟨.inl,fun z=>z.elim id fun e=>e▸hin⟩
   ·rw [List.mem_cons]
    exact ⟨fun z=>z.elim .inr .inl,fun z=>z.elim .inr .inl⟩
  rw [hm,or_assoc]
end
section
variable {prog:Program} {w:World} {A:Around} {E:Value→Shared→Prop} {s:Shared}
structure Bare (led:Bool) (n:Nat) (t:SetTable):Prop where
 pl:t.place=#[]
 dm:t.dummies=#[]
 cv:Tb.cover (t.mask+1)=true
 rm:n≤t.mask
 ld:t.led=led
theorem Bare.fits {led:Bool} {n:Nat} {t:SetTable} (B:Bare led n t):t.fits 0=true:=Zre (by rw [B.pl];rfl) B.dm (Nat.zero_le _)
theorem Zo2 {a:Addr} {led:Bool} {n:Nat} {Q:Unit→Shared→Prop} (ha:s.heap.get? a=some (ZaI led)) (hn:n < 32)
  (h:∀ h' ep t,Heap.SameBut a s.heap h'→h'.get? a=some { ZaI led with data:=.set #[] ep t }→Bare led n t→Q () { s with heap:=h' }):wpAny (model prog w) A (setRoomFor a n) Q E s:=by
 unfold setRoomFor
 refine wpAny_bind (wpAny_setState_of ha rfl rfl ?_)
 show wpAny (model prog w) A (match (if (0+n)*5≥7*3 then some ((0+n)*2) else none) with | some v=>setRelay a v | _=>pure ()) Q E s
 by_cases hc:(0+n)*5≥7*3
 ·rw [if_pos hc]
  obtain ⟨hcv,h1,h2⟩:=Zh3 (n:=(0+n)*2) (by omega)
  dsimp only
  unfold setRelay
  refine wpAny_bind (wpAny_setState_of ha rfl rfl ?_)
  dsimp only
  rw [if_neg (by have:(128:Nat)≤sizeLine:=by decide
                 omega)]
  obtain ⟨t',order,e,hpm,e1,e2,e3,e4,e5⟩:=Tb.laid_ok hcv (SetTable.fresh 0 0 led).finger ((SetTable.fresh 0 0 led).movedTo (SetTable.sizeAbove ((0+n)*2) - 1)) (SetTable.fresh 0 0 led).led (SetTable.fresh 0 0 led).plain (Array.map (·.1) (#[]:Array (Int×Value))) (by simp)
  refine wpAny_bind ?_
  unfold SetTable.relaid
  rw [e]
  have hord:order=#[]:=by
   have:=hpm.length_eq
   simp at this
   exact this
  subst hord
  show wpAny (model prog w) A (pure ((#[]:Array Nat).filterMap ((#[]:Array (Int×Value))[·]?),t')) _ E s
  refine wpAny_pure (wpAny_storeSet_of ha rfl ?_ (Nat.zero_le _))
  refine h _ 1 t' (Heap.SameBut.update s.heap a _) ?_ ⟨?_,e3,by rw [e1];exact hcv,by rw [e1];omega,e4⟩
  ·have hz:=Heap.get?_update_self (Obj.putSet #[] t') ha (by rw [putSet_of #[] t' rfl];rfl)
   rw [putSet_of #[] t' rfl] at hz
   exact hz
  ·exact Array.eq_empty_of_size_eq_zero (by rw [e2];simp)
 ·rw [if_neg hc]
  exact wpAny_pure (h s.heap 0 _ (Heap.SameBut.refl _ _) ha ⟨rfl,rfl,Tb.cover8,by show n≤7;omega,rfl⟩)
theorem Zi9 {a o:Addr} {led:Bool} {ko:List Str} {each:Sem Unit} {Q:Unit→Shared→Prop} (hne:o≠a) (ha:s.heap.get? a=some (ZaI led)) (hl:bt w=false→led=true) (hS:SS w s.heap o ko) (hn:ko.length < 32)
  (h:∀ h',Heap.SameBut a s.heap h'→SS w h' a ko→(ko=[]→h'.get? a=some (ZaI led))→Q () { s with heap:=h' }):wpAny (model prog w) A (setMerge a o each) Q E s:=by
 obtain ⟨ob,es,ep,t,ho,hx,hd,T⟩:=hS
 have hz:=T.len
 unfold setMerge
 rw [if_neg (by simp only [beq_iff_eq];exact fun z=>hne z.symm)]
 walk_at "pw"
 dsimp only
 by_cases hem:es.isEmpty=true
 ·rw [if_pos hem]
  have:ko=[]:=by
   rw [Array.isEmpty_iff] at hem
   subst hem
   exact List.length_eq_zero_iff.mp hz.symm
  subst this
  exact wpAny_pure (h s.heap (Heap.SameBut.refl _ _) (ZkQ led hl ha) fun _=>ha)
 ·rw [if_neg hem]
  have hko:ko≠[]:=fun z=>by
   subst z
   exact hem (by rw [Array.isEmpty_iff];exact Array.eq_empty_of_size_eq_zero hz)
  refine wpAny_bind (Zo2 ha (by omega) fun h1 ep1 t1 hsb ha1 B=>?_)
  refine wpAny_bind (wpAny_setState_of ha1 rfl B.fits ?_)
  dsimp only
  have hld:bt w=false→(t1.led&&t.led)=true:=fun z=>by rw [B.ld,hl z,T.ld z];rfl
  have hpl:(t1.plain&&t.plain)=true→ko=[]:=fun z=>by
   simp only [Bool.and_eq_true] at z
   exact T.pl z.2
  have hfill:(t1.fill != 0)=false:=by unfold SetTable.fill;rw [B.pl,B.dm];rfl
  unfold SetTable.road
  rw [hfill]
  simp only [Bool.false_eq_true,if_false]
  by_cases hr:(t1.mask==t.mask&&t.dummies.isEmpty)=true
  ·rw [if_pos hr]
   dsimp only
   refine wpAny_storeSet_of ha1 rfl ?_ (fits_of_scanBound (by unfold scanBound;omega))
   refine h _ (hsb.trans (Heap.SameBut.update h1 a _)) (Zfi ha1 ⟨rfl,rfl,rfl⟩ rfl (T.perm (List.Perm.refl _) ?_ hld hpl)).2 fun z=>absurd z hko
   have:=T.ft
   cases t
   exact this
  ·rw [if_neg hr]
   dsimp only
   obtain ⟨t',order,e,hsz,T'⟩:=ZnL (f:=t1.finger) (m:=t1.moves) T B.cv (by have:=B.rm;omega) hld hpl
   refine wpAny_bind ?_
   rw [e]
   show wpAny (model prog w) A (if ((order.filterMap (es[·]?)).size != es.size)=true then _ else pure (order.filterMap (es[·]?),t')) _ E _
   rw [if_neg (by rw [hsz];simp)]
   refine wpAny_pure (wpAny_storeSet_of ha1 rfl ?_ (fits_of_scanBound (by rw [hsz];unfold scanBound;omega)))
   exact h _ (hsb.trans (Heap.SameBut.update h1 a _)) (Zfi ha1 ⟨rfl,rfl,rfl⟩ rfl T').2 fun z=>absurd z hko
theorem ZoJ {a o:Addr} {ks ko:List Str} {each:Sem Unit} {Q:Unit→Shared→Prop} (hne:o≠a) (hk:ks≠[]) (hA:SS w s.heap a ks) (hS:SS w s.heap o ko) (hn:ks.length+ko.length < 64)
  (he:∀ ob,s.heap.get? o=some ob→∀ (s':Shared) (Q':Unit→Shared→Prop),s'.heap.get? o=some ob→Q' () s'→wpAny (model prog w) A each Q' E s')
  (h:∀ h' ks',Heap.SameBut a s.heap h'→SS w h' a ks'→(∀ x,x∈ks'↔x∈ks∨x∈ko)→Q () { s with heap:=h' }):wpAny (model prog w) A (setMerge a o each) Q E s:=by
 obtain ⟨ob,es,ep,t,ho,hx,hd,T⟩:=hS
 have hz:=T.len
 have he:=he ob ho
 unfold setMerge
 rw [if_neg (by simp only [beq_iff_eq];exact fun z=>hne z.symm)]
 walk_at "pw"
 dsimp only
 by_cases hem:es.isEmpty=true
 ·rw [if_pos hem]
  have:ko=[]:=by
   rw [Array.isEmpty_iff] at hem
   subst hem
   exact List.length_eq_zero_iff.mp hz.symm
  subst this
  exact wpAny_pure (h s.heap ks (Heap.SameBut.refl _ _) hA fun x=>⟨.inl,fun z=>z.elim id fun z=>by cases z⟩)
 ·rw [if_neg hem]
  refine wpAny_bind (Zq2 hA (by omega) fun h1 hsb hA1=>?_)
  have hA1':=hA1
  obtain ⟨oa,ea,pa,ta,hoa,hxa,hda,Ta⟩:=hA1
  refine wpAny_bind (wpAny_setState_of hoa hda Ta.ft ?_)
  dsimp only
  have hfill:(ta.fill != 0)=true:=by
   have hp:=Ta.ft
   unfold SetTable.fits at hp
   simp only [Bool.and_eq_true,beq_iff_eq] at hp
   have hl:=Ta.len
   have:ks.length≠0:=fun z=>hk (List.length_eq_zero_iff.mp z)
   unfold SetTable.fill
   simp only [bne_iff_ne,ne_eq]
   omega
  unfold SetTable.road
  rw [hfill]
  simp only [if_true]
  have ho1:h1.get? o=some ob:=by rw [hsb.2 o hne];exact ho
  refine wpAny_bind (ZuU ho1 hx hd T hA1' (by unfold scanBound;omega) fun h2 l hsb2 hA2 hp=>?_)
  have ho2:h2.get? o=some ob:=by rw [hsb2.2 o hne];exact ho1
  rw [← Array.forIn_toList]
  refine wpAny_bind (Zp4 hne hd T.ft he (fun x u=>rfl) l.toList _ ks _ (fun e hm=>T.el e (hp.mem_iff.mp hm)) ho2 hA2 ?_ fun h3 ks' hsb3 hA3 hx=>?_)
  ·have hl:l.toList.length=es.size:=hp.length_eq.trans Array.length_toList
   rw [hl];unfold scanBound;omega
  ·refine wpAny_pure (h h3 ks' ((hsb.trans hsb2).trans hsb3) hA3 fun x=>(hx x).trans ?_)
   rw [((hp.map _).trans T.pm).mem_iff]
end
theorem Zss:entryFor table "set.__or__"=some Builtin.«frozenset.__or__»:=entryFor_alias (id':="frozenset.__or__") (by kernel_rfl) rfl (by decide +kernel) (by kernel_rfl)
section
variable {prog:Program} {w:World} {A:Around} {E:Value→Shared→Prop} {s:Shared}
theorem SS.ty {a:Addr} {ks:List Str} (S:SS w s.heap a ks):s.TypeIs (.ref a) "set":=by
 obtain ⟨o,es,ep,t,ho,hx,_⟩:=S
 exact ⟨o,ho,hx.1⟩
theorem ZmP {a:Addr} {Q:Bool→Shared→Prop} (hT:s.TypeIs (.ref a) "set") (q:Q true s):wpAny (model prog w) A (Builtin.Frozenset.isAnySet (.ref a)) Q E s:=by
 unfold Builtin.Frozenset.isAnySet
 refine wpAny_bind (wpAny_isInstance hT sub_set_self ?_)
 exact wpAny_pure q
theorem SS.new {a:Addr} {ks:List Str} (S:SS w s.heap a ks) (o:Obj):SS w (s.heap.push o) a ks:=S.kept fun _ e=>Heap.get?_push_of_some _ e
theorem SS.lt {a:Addr} {ks:List Str} (S:SS w s.heap a ks):a < s.heap.objs.size:=by
 obtain ⟨o,es,ep,t,ho,_⟩:=S
 exact Heap.lt_size ho
theorem SS.same {h h':Heap} {a b:Addr} {ks:List Str} (S:SS w h a ks) (hne:a≠b) (hsb:Heap.SameBut b h h'):SS w h' a ks:=S.kept fun o e=>by rw [hsb.2 a hne];exact e
theorem Zzc {a b:Addr} {ka kb:List Str} {Q:Value→Shared→Prop} (hab:a≠b) (ha:SS w s.heap a ka) (hb:SS w s.heap b kb) (hna:ka.length < 32) (hnb:kb.length < 32)
  (h:∀ h' ks,SS w h' s.heap.objs.size ks→(∀ x,x∈ks↔x∈ka∨x∈kb)→(∀ c o,c < s.heap.objs.size→s.heap.get? c=some o→h'.get? c=some o)→Q (.ref s.heap.objs.size) { s with heap:=h' }) :
  wpAny (model prog w) A (binaryOp .BitOr (.ref a) (.ref b)) Q E s:=by
 refine wpAny_binaryOp_same (op:=.BitOr) (T:="set") ha.ty hb.ty PySem.F.fills_set_or PySem.F.slot_set_or (wpAny_call_entry PySem.F.slot_set_or ha.ty Zss ?_ (PySem.F.args_set_or_2 _ _))
 unfold Builtin.«frozenset.__or__»
 refine wpAny_bind (m:=Builtin.Frozenset.slot1 "__or__" ⟨[.ref a,.ref b],[]⟩) ?_
 unfold Builtin.Frozenset.slot1
 refine wpAny_bind (wpAny_pure (a:=(Value.ref a,[Value.ref b])) ?_)
 refine wpAny_pure ?_
 refine wpAny_bind (m:=(Builtin.Frozenset.isAnySet (.ref a) <&&> Builtin.Frozenset.isAnySet (.ref b))) ?_
 refine wpAny_bind (ZmP ha.ty (ZmP hb.ty ?_))
 rw [if_neg (by decide)]
 refine wpAny_bind (m:=Builtin.Frozenset.addrOf (.ref a)) (wpAny_pure ?_)
 refine wpAny_bind ?_
 refine wpAny_bind (m:=Builtin.Frozenset.copyOf a) ?_
 unfold Builtin.Frozenset.copyOf Builtin.Frozenset.baseOf
 refine wpAny_bind (wpAny_bind (wpAny_isInstance ha.ty sub_set_self (wpAny_pure ?_)))
 rw [if_pos rfl]
 refine wpAny_bind (ZvM fun led hled=>?_)
 refine wpAny_bind (wpAny_pure ?_)
 have hne:∀ {c:Addr},c < s.heap.objs.size→c≠s.heap.objs.size:=fun z=>Nat.ne_of_lt z
 have hfr:(s.heap.push (ZaI led)).get? s.heap.objs.size=some (ZaI led):=Heap.get?_push_size _ rfl
 refine wpAny_bind (Zi9 (s:={ s with heap:=s.heap.push (ZaI led) }) (hne ha.lt) hfr hled (ha.new _) hna fun h1 hsb hS1 hnil=>?_)
 refine wpAny_pure ?_
 show wpAny (model prog w) A.in1 (if (Value.ref b != Value.ref a)=true then _ else _) _ E _
 rw [if_pos (by simp only [bne_iff_ne,ne_eq,Value.ref.injEq];exact fun z=>hab z.symm)]
 refine wpAny_bind (m:=Builtin.Frozenset.addrOf _) (wpAny_pure ?_)
 have hb1:SS w h1 b kb:=(hb.new (ZaI led)).same (hne hb.lt) hsb
 have hT1:Shared.TypeIs { s with heap:=h1 } (.ref b) "set":=SS.ty (s:={ s with heap:=h1 }) hb1
 have keep:∀ h2,Heap.SameBut s.heap.objs.size h1 h2→∀ c o,c < s.heap.objs.size→s.heap.get? c=some o→h2.get? c=some o:=fun h2 hsb2 c o hc e=>by
  rw [hsb2.2 c (hne hc),hsb.2 c (hne hc)]
  exact Heap.get?_push_of_some _ e
 refine wpAny_bind (wpAny_holding ?_)
 unfold Builtin.Frozenset.updateFrom
 refine wpAny_bind (ZmP hT1 ?_)
 rw [if_pos rfl]
 refine wpAny_bind (m:=Builtin.Frozenset.addrOf (.ref b)) (wpAny_pure ?_)
 unfold Builtin.Frozenset.merge
 have hb1':=hb1
 obtain ⟨ob,es,ep,t,ho,hx,hd,T⟩:=hb1
 refine wpAny_bind (wpAny_setEpoch_of ho hd T.ft ?_)
 have fin:∀ h2 ks,Heap.SameBut s.heap.objs.size h1 h2→SS w h2 s.heap.objs.size ks→(∀ x,x∈ks↔x∈ka∨x∈kb)→Q (.ref s.heap.objs.size) { s with heap:=h2 }:=fun h2 ks hsb2 hS2 hx=>h h2 ks hS2 hx (keep h2 hsb2)
 by_cases hk:ka=[]
 ·subst hk
  refine Zi9 (s:={ s with heap:=h1 }) (hne hb.lt) (hnil rfl) hled hb1' hnb fun h2 hsb2 hS2 _=>?_
  refine wpAny_pure (wpAny_pure ⟨_,rfl,by simp,fin h2 kb hsb2 hS2 fun x=>⟨.inr,fun z=>z.elim (fun z=>by cases z) id⟩⟩)
 ·refine ZoJ (s:={ s with heap:=h1 }) (hne hb.lt) hk hS1 hb1' (by omega) (fun ob' ho' s' Q' ho2 q'=>?_) fun h2 ks hsb2 hS2 hx=>?_
  ·have e:ob'=ob:=by
    have:=ho'.symm.trans ho
    exact Option.some.inj this
   subst e
   unfold Builtin.Frozenset.unchanged
   refine wpAny_bind (wpAny_setEpoch_of ho2 hd T.ft ?_)
   rw [if_neg (by simp)]
   exact wpAny_pure q'
  ·exact wpAny_pure (wpAny_pure ⟨_,rfl,by simp,fin h2 ks hsb2 hS2 hx⟩)
end
theorem Zf9:Slot "set_iterator" "__next__" "set_iterator.__next__":=.of (owner:="set_iterator") (n:="__next__") (by rw [typeLookup_type,builtinLookup_eq_fast];kernel_rfl) (by decide +kernel) (by decide +kernel) (by decide +kernel) (by first | exact .inl (by decide +kernel) | exact .inr (by decide +kernel)) (by rw [isSubtype_type];kernel_rfl)
theorem ZqE:Slot "set" "__iter__" "set.__iter__":=.of (owner:="set") (n:="__iter__") (by rw [typeLookup_type,builtinLookup_eq_fast];kernel_rfl) (by decide +kernel) (by decide +kernel) (by decide +kernel) (by first | exact .inl (by decide +kernel) | exact .inr (by decide +kernel)) (by rw [isSubtype_type];kernel_rfl)
theorem Znm:entryFor table "set_iterator.__next__"=some Builtin.«set_iterator.__next__»:=entryFor_of_fast (by kernel_rfl)
theorem ZsV:entryFor table "set.__iter__"=some Builtin.«frozenset.__iter__»:=entryFor_alias (id':="frozenset.__iter__") (by kernel_rfl) rfl (by decide +kernel) (by kernel_rfl)
theorem Zo4 (a:Value):argsOk "set_iterator.__next__" ⟨[a],[]⟩:=by unfold argsOk;kernel_rfl
theorem ZvR (a:Value):argsOk "set.__iter__" ⟨[a],[]⟩:=by unfold argsOk;kernel_rfl
section
variable {prog:Program} {w:World} {A:Around} {E:Value→Shared→Prop} {s:Shared}
theorem ZzE {src:Source} {n:Nat} {Q:Nat→Shared→Prop} (hn:n≠0) (h:∀ i d,i < n→Q i { s with drawn:=d }):wpAny (model prog w) A (choose src n) Q E s :=
 fun _ _ _=>⟨hn,h _ _ (Nat.mod_lt _ (Nat.pos_of_ne_zero hn))⟩
theorem Zp5 {α:Type}:∀ (n:Nat) (xs:List α) (s:Shared) (Q:List α→Shared→Prop),xs.length=n→(∀ ys d,ys.Perm xs→Q ys { s with drawn:=d })→wpAny (model prog w) A (drawOrder n xs) Q E s
 | 0,xs,s,Q,h,q=>by
  obtain rfl:=List.length_eq_zero_iff.mp h
  exact wpAny_pure (q [] s.drawn (List.Perm.refl _))
 | n+1,[],s,Q,h,q=>by cases h
 | n+1,x::xs,s,Q,h,q=>by
  unfold drawOrder
  refine wpAny_bind (ZzE (by simp) fun i d hi=>?_)
  rw [List.getElem?_eq_getElem hi]
  dsimp only
  refine wpAny_bind (Zp5 n _ _ _ (by rw [List.length_eraseIdx_of_lt hi];simpa using h) fun ys d' hp=>?_)
  exact wpAny_pure (q _ d' ((hp.cons _).trans (ZgT _ i hi)))
abbrev Itr (first:Value) (i:Nat) (a:Addr) (n ep:Nat):Obj:={ cls:=.type "set_iterator",data:=.fields #[first,.int i 0,.ref a,.int n 0,.int ep 0] }
inductive Md (w:World) (a T:Addr) (es:Array (Int×Value)) (ep:Nat) (t:SetTable) (l:List (Int×Value)) (h:Heap):Value→Nat→Prop where
 | drawn {ps:List Nat} {oT:Obj} {c i:Nat}:h.get? T=some oT→oT.data=.seq (ps.map fun p:Nat=>rawInt p).toArray c→ps.length=l.length→(∀ (j p:Nat),ps[j]?=some p→∃ e,es[p]?=some e∧l[j]?=some e)→Md w a T es ep t l h (.ref T) i
 | text {k i:Nat}:bt w=true→l=(pickOrder (w.params.setOrder a ep) es).toList→Md w a T es ep t l h (.int k 0) i
 | few {k i:Nat}:bt w=false→t.led=true→es.size≤1→l=es.toList→(i=0→k=0)→(∀ j:Nat,i=1→t.place[0]?=some j→k=j+1)→Md w a T es ep t l h (.int k 0) i
structure Wk (w:World) (it a T:Addr) (ob:Obj) (es:Array (Int×Value)) (ep:Nat) (t:SetTable) (l:List (Int×Value)) (i:Nat) (h:Heap):Prop where
 st:∃ first,h.get? it=some (Itr first i a es.size ep)∧Md w a T es ep t l h first i
 ob:h.get? a=some ob
theorem Md.at {w:World} {a T:Addr} {es:Array (Int×Value)} {ep:Nat} {t:SetTable} {l:List (Int×Value)} {h h':Heap} {v:Value} {i:Nat} (M:Md w a T es ep t l h v i) (k:∀ o,h.get? T=some o→h'.get? T=some o):Md w a T es ep t l h' v i:=by
 cases M with
 | drawn h1 h2 h3 h4=>exact .drawn (k _ h1) h2 h3 h4
 | text h1 h2=>exact .text h1 h2
 | few h1 h2 h3 h4 h5 h6=>exact .few h1 h2 h3 h4 h5 h6
theorem ZqT {h:Heap} {it a:Addr} {first:Value} {i n ep:Nat} (e:h.get? it=some (Itr first i a n ep)) (j:Nat):(h.update it (Obj.mapFields (·.setIfInBounds 1 (rawInt j)))).get? it=some (Itr first j a n ep):=by
 have hz:=Heap.get?_update_self (Obj.mapFields (·.setIfInBounds 1 (rawInt j))) e (Obj.isFreed_of_fields (Obj.data_mapFields rfl _))
 rw [hz];rfl
theorem ZhY {h:Heap} {it a:Addr} {first:Value} {i n ep:Nat} (e:h.get? it=some (Itr first i a n ep)) (v:Value):(h.update it (Obj.mapFields (·.setIfInBounds 0 v))).get? it=some (Itr v i a n ep):=by
 have hz:=Heap.get?_update_self (Obj.mapFields (·.setIfInBounds 0 v)) e (Obj.isFreed_of_fields (Obj.data_mapFields rfl _))
 rw [hz];rfl
end
section
variable {prog:Program} {w:World} {A:Around} {E:Value→Shared→Prop} {s:Shared}
theorem Zk8 (j k:Nat):SetTable.below #[j] k=if j < k then 1 else 0:=by
 show SetTable.below.go #[j] k 1 0 1=_
 unfold SetTable.below.go
 simp only [Nat.zero_lt_one,if_true]
 show (if j < k then SetTable.below.go #[j] k 0 1 1 else SetTable.below.go #[j] k 0 0 0)=_
 rfl
theorem ZhR {α:Type} {xs:Array α} (h:xs.size≤1):xs=#[]∨∃ x,xs=#[x]:=by
 obtain ⟨l⟩:=xs
 match l,h with
 | [],_=>exact .inl rfl
 | [x],_=>exact .inr ⟨x,rfl⟩
theorem Zq4 {it a T:Addr} {ob:Obj} {es:Array (Int×Value)} {ep:Nat} {t:SetTable} {ks:List Str} {l:List (Int×Value)} {i:Nat} {e:Int×Value} {Q:Option Value→Shared→Prop} (hx:ob.ExactSet) (hd:ob.data=.set es ep t) (Tb:Tab w es t ks) (hia:a≠it) (hiT:T≠it) (S:Wk w it a T ob es ep t l i s.heap) (hl:l[i]?=some e)
  (hQ:∀ h',Wk w it a T ob es ep t l (i+1) h'→Heap.SameBut it s.heap h'→Q (some e.2) { s with heap:=h' }):wpAny (model prog w) A (pyNext (.ref it)) Q E s:=by
 obtain ⟨⟨first,hi,M⟩,ho⟩:=S
 have hT:s.TypeIs (.ref it) "set_iterator":=⟨_,hi,rfl⟩
 unfold pyNext
 refine wpAny_bind (wpAny_attempt (wpAny_callSpecial?_slot (name:=Str.ofString "__next__") hT Zf9 (wpAny_call_entry Zf9 hT Znm ?_ (Zo4 _))))
 unfold Builtin.«set_iterator.__next__»
 refine wpAny_bind (wpAny_pure (a:=(Value.ref it,([]:List Value))) ?_)
 refine wpAny_bind (wpAny_fieldsOf hi rfl ?_)
 dsimp only
 refine wpAny_bind (wpAny_setEntries_of ho hd Tb.ft ?_)
 rw [if_neg (by simp)]
 have two:∀ (v:Value),Md w a T es ep t l s.heap v (i+1)→Q (some e.2) { s with heap:=(s.heap.update it (Obj.mapFields (·.setIfInBounds 0 v))).update it (Obj.mapFields (·.setIfInBounds 1 (rawInt (i+1)))) }:=fun v M'=>by
  have sb:=(Heap.SameBut.update s.heap it (Obj.mapFields (·.setIfInBounds 0 v))).trans (Heap.SameBut.update _ it (Obj.mapFields (·.setIfInBounds 1 (rawInt (i+1)))))
  refine hQ _ ⟨⟨v,ZqT (ZhY hi v) (i+1),M'.at fun o z=>by rw [sb.2 T hiT];exact z⟩,by rw [sb.2 a hia];exact ho⟩ sb
 cases M with
 | drawn h1 h2 h3 h4 =>
  rename_i ps oT c
  obtain ⟨p,hp⟩:∃ p,ps[i]?=some p:=by
   obtain ⟨hlt,_⟩:=List.getElem?_eq_some_iff.mp hl
   exact ⟨_,List.getElem?_eq_getElem (by omega)⟩
  obtain ⟨e',he,hl'⟩:=h4 i p hp
  obtain rfl:e'=e:=Option.some.inj (hl'.symm.trans hl)
  dsimp only
  refine wpAny_bind (wpAny_seqItems h1 h2 ?_)
  dsimp only
  have hq:(ps.map fun p:Nat=>rawInt p).toArray[(Int.ofNat i).toNat]?=some (rawInt p):=by
   simp [hp]
  have hq':(ps.map fun p:Nat=>rawInt p).toArray[((i:Int)).toNat]?=some (.int (p:Int) 0):=hq
  rw [hq']
  dsimp only
  refine wpAny_bind ?_
  unfold setNextDrawn
  walk_at "pu"
  dsimp only
  rw [if_neg (by simp)]
  rw [show ((p:Int)).toNat=p from Int.toNat_natCast p,he]
  dsimp only
  refine wpAny_pure (wpAny_bind (wpAny_setField hi rfl (by simp) (wpAny_pure ⟨_,rfl,wpAny_pure ?_⟩)))
  have sb:=Heap.SameBut.update s.heap it (Obj.mapFields (·.setIfInBounds 1 (rawInt (i+1))))
  exact hQ _ ⟨⟨_,ZqT hi (i+1),.drawn (by rw [sb.2 T hiT];exact h1) h2 h3 h4⟩,by rw [sb.2 a hia];exact ho⟩ sb
 | text h1 h2 =>
  rename_i k
  dsimp only
  refine wpAny_bind ?_
  unfold setNext
  walk_at "pu"
  dsimp only
  unfold setsByText
  walk_at "pb"
  walk_at "pl"
  rw [if_pos h1,if_neg (by simp)]
  unfold setWalk
  refine wpAny_bind (wpAny_bind (wpAny_setState_of ho hd Tb.ft ?_))
  dsimp only
  unfold setsByText
  walk_at "pb"
  walk_at "pl"
  rw [if_pos h1]
  refine wpAny_bind (wpAny_askSetting (wpAny_pure ?_))
  subst h2
  rw [Array.getElem?_toList] at hl
  show wpAny (model prog w) _ (pure (((pickOrder (w.params.setOrder a ep) es)[((i:Int)).toNat]?).map _)) _ _ s
  rw [show ((i:Int)).toNat=i from Int.toNat_natCast i,hl]
  refine wpAny_pure ?_
  dsimp only [Option.map_some]
  walk_at "px"
  refine wpAny_bind (wpAny_setField (ZhY hi _) rfl (by simp) (wpAny_pure ⟨_,rfl,wpAny_pure ?_⟩))
  exact two _ (.text h1 rfl)
 | few h1 h2 h3 h4 h5 h6 =>
  rename_i k
  subst h4
  rw [Array.getElem?_toList] at hl
  have hft:=Tb.ft
  rcases ZhR h3 with z | ⟨x,z⟩
  ·rw [z] at hl;simp at hl
  ·rw [z] at hl
   have hi0:i=0:=by
    obtain ⟨hlt,_⟩:=Array.getElem?_eq_some_iff.mp hl
    simpa using hlt
   subst hi0
   obtain rfl:x=e:=by simpa using hl
   obtain rfl:=h5 rfl
   have hps:t.place.size=1:=by
    unfold SetTable.fits at hft
    rw [z] at hft
    simp only [Bool.and_eq_true,beq_iff_eq] at hft
    exact hft.1
   obtain ⟨j,hj⟩:∃ j,t.place=#[j]:=by
    rcases ZhR (by omega:t.place.size≤1) with q | q
    ·rw [q] at hps;cases hps
    ·exact q
   dsimp only
   refine wpAny_bind ?_
   unfold setNext
   walk_at "pu"
   dsimp only
   unfold setsByText
   walk_at "pb"
   walk_at "pl"
   rw [if_neg (by rw [h1];decide)]
   show wpAny (model prog w) _ (if (!t.plain&&decide (es.size > 1))=true then _ else _) _ _ s
   rw [if_neg (by have:¬ es.size > 1:=by omega
                  simp [this])]
   refine wpAny_bind ?_
   show wpAny (model prog w) _ (if (!t.led&&!es.isEmpty)=true then _ else pure ()) _ _ s
   rw [if_neg (by rw [h2];simp)]
   refine wpAny_pure ?_
   show wpAny (model prog w) _ (pure (match es[SetTable.below t.place 0]?,t.place[SetTable.below t.place 0]? with | some (_,x),some j=>some (x,j+1) | _,_=>none)) _ _ s
   rw [hj,Zk8,if_neg (by omega),z]
   refine wpAny_pure ?_
   walk_at "px"
   refine wpAny_bind (wpAny_setField (ZhY hi _) rfl (by simp) (wpAny_pure ⟨_,rfl,wpAny_pure ?_⟩))
   refine two _ (.few (k:=j+1) h1 h2 h3 rfl (fun q=>by cases q) fun j' _ q=>?_)
   rw [hj] at q
   have:j=j':=by simpa using q
   omega
end
section
variable {prog:Program} {w:World} {A:Around} {E:Value→Shared→Prop} {s:Shared}
theorem ZmJ {it:Addr} {h0 h1:Heap} {R:Fin→Shared→Prop} {Q:Option Value→Shared→Prop} (hh:A.handled=none) (x:Heap.ExtBut it h0 h1) (hQ:∀ h',Heap.ExtBut it h0 h'→Q none { s with heap:=h' }) :
  wpAny (model prog w) A.in1 (do let e ← newExc (.type "StopIteration") [];raiseNew e) R (fun e s'=>wpAny (model prog w) A (do let b ← isInstance e (.type "StopIteration");if b=true then pure none else throw e) Q E s') { s with heap:=h1 }:=by
 refine wpAny_bind ?_
 simp only [newExc,newTuple]
 refine wpAny_bind (wpAny_newObj_type ?_ (by size_fits))
 refine wpAny_bind (m:=firstArgMember _ _) (wpAny_of_eq (a:=Value.none) (by first | rfl | (simp only [firstArgMember];rfl)) (wpAny_newObj_type ?_ (by size_fits)))
 simp only [raiseNew]
 refine wpAny_bind (wpAny_handled ?_)
 rw [show A.in1.handled=none from hh]
 refine wpAny_bind (wpAny_pure (wpAny_throw ?_));refine wpAny_bind (wpAny_isInstance (T:="StopIteration") (b:=true) ⟨_,Heap.get?_push_size _ rfl,rfl⟩ isSubtype_stop ?_)
 exact wpAny_pure (hQ _ ((x.push _).push _))
theorem Zrg {it a T:Addr} {ob:Obj} {es:Array (Int×Value)} {ep:Nat} {t:SetTable} {ks:List Str} {l:List (Int×Value)} {i:Nat} {Q:Option Value→Shared→Prop} (hh:A.handled=none) (hx:ob.ExactSet) (hd:ob.data=.set es ep t) (Tb:Tab w es t ks) (S:Wk w it a T ob es ep t l i s.heap) (hl:l.length=i) (hes:es.size=i)
  (hQ:∀ h',Heap.ExtBut it s.heap h'→Q none { s with heap:=h' }):wpAny (model prog w) A (pyNext (.ref it)) Q E s:=by
 obtain ⟨⟨first,hi,M⟩,ho⟩:=S
 have hT:s.TypeIs (.ref it) "set_iterator":=⟨_,hi,rfl⟩
 unfold pyNext
 refine wpAny_bind (wpAny_attempt (wpAny_callSpecial?_slot (name:=Str.ofString "__next__") hT Zf9 (wpAny_call_entry Zf9 hT Znm ?_ (Zo4 _))))
 unfold Builtin.«set_iterator.__next__»
 refine wpAny_bind (wpAny_pure (a:=(Value.ref it,([]:List Value))) ?_)
 refine wpAny_bind (wpAny_fieldsOf hi rfl ?_)
 dsimp only
 refine wpAny_bind (wpAny_setEntries_of ho hd Tb.ft ?_)
 rw [if_neg (by simp)]
 have e1:((i:Int)).toNat=i:=Int.toNat_natCast i
 cases M with
 | drawn h1 h2 h3 h4 =>
  rename_i ps oT c
  dsimp only
  refine wpAny_bind (wpAny_seqItems h1 h2 ?_)
  dsimp only
  have hq:(ps.map fun p:Nat=>rawInt p).toArray[((i:Int)).toNat]?=none:=by
   rw [e1];simp;omega
  rw [hq]
  dsimp only
  walk_at "px"
  refine wpAny_bind (wpAny_setField (ZhY hi _) rfl (by simp) ?_)
  exact ZmJ hh ((Heap.SameBut.update s.heap it (Obj.mapFields (·.setIfInBounds 0 (rawInt 0)))).trans (Heap.SameBut.update _ it _)).extBut hQ
 | text h1 h2 =>
  rename_i k
  dsimp only
  refine wpAny_bind ?_
  unfold setNext
  walk_at "pu"
  dsimp only
  unfold setsByText
  walk_at "pb"
  walk_at "pl"
  rw [if_pos h1,if_neg (by simp)]
  unfold setWalk
  refine wpAny_bind (wpAny_bind (wpAny_setState_of ho hd Tb.ft ?_))
  dsimp only
  unfold setsByText
  walk_at "pb"
  walk_at "pl"
  rw [if_pos h1]
  refine wpAny_bind (wpAny_askSetting (wpAny_pure ?_))
  show wpAny (model prog w) _ (pure (((pickOrder (w.params.setOrder a ep) es)[((i:Int)).toNat]?).map _)) _ _ s
  have hn:(pickOrder (w.params.setOrder a ep) es)[i]?=none:=by
   rw [← Array.getElem?_toList,← h2]
   exact List.getElem?_eq_none (by omega)
  rw [e1,hn]
  refine wpAny_pure ?_
  dsimp only [Option.map_none]
  walk_at "px"
  exact ZmJ hh (Heap.SameBut.update s.heap it _).extBut hQ
 | few h1 h2 h3 h4 h5 h6 =>
  rename_i k
  have hft:=Tb.ft
  have hnone:es[SetTable.below t.place k]?=none:=by
   refine Array.getElem?_eq_none ?_
   rcases ZhR h3 with z | ⟨x,z⟩
   ·rw [z];exact Nat.zero_le _
   ·have hps:t.place.size=1:=by
     unfold SetTable.fits at hft
     rw [z] at hft
     simp only [Bool.and_eq_true,beq_iff_eq] at hft
     exact hft.1
    obtain ⟨j,hj⟩:∃ j,t.place=#[j]:=by
     rcases ZhR (by omega:t.place.size≤1) with q | q
     ·rw [q] at hps;cases hps
     ·exact q
    have hi1:i=1:=by rw [← hes,z];rfl
    have:=h6 j hi1 (by rw [hj];rfl)
    rw [hj,this,Zk8,if_pos (by omega),z]
    exact Nat.le_refl _
  dsimp only
  refine wpAny_bind ?_
  unfold setNext
  walk_at "pu"
  dsimp only
  unfold setsByText
  walk_at "pb"
  walk_at "pl"
  rw [if_neg (by rw [h1];decide)]
  show wpAny (model prog w) _ (if (!t.plain&&decide (es.size > 1))=true then _ else _) _ _ s
  rw [if_neg (by have:¬ es.size > 1:=by omega
                 simp [this])]
  refine wpAny_bind ?_
  show wpAny (model prog w) _ (if (!t.led&&!es.isEmpty)=true then _ else pure ()) _ _ s
  rw [if_neg (by rw [h2];simp)]
  refine wpAny_pure ?_
  show wpAny (model prog w) _ (pure (match es[SetTable.below t.place ((k:Int)).toNat]?,t.place[SetTable.below t.place ((k:Int)).toNat]? with | some (_,x),some j=>some (x,j+1) | _,_=>none)) _ _ s
  rw [show ((k:Int)).toNat=k from Int.toNat_natCast k,hnone]
  refine wpAny_pure ?_
  walk_at "px"
  exact ZmJ hh (Heap.SameBut.update s.heap it _).extBut hQ
theorem ZpH:Slot "set_iterator" "__iter__" "set_iterator.__iter__":=.of (owner:="set_iterator") (n:="__iter__") (by rw [typeLookup_type,builtinLookup_eq_fast];kernel_rfl) (by decide +kernel) (by decide +kernel) (by decide +kernel) (by first | exact .inl (by decide +kernel) | exact .inr (by decide +kernel)) (by rw [isSubtype_type];kernel_rfl)
theorem Zsw:entryFor table "set_iterator.__iter__"=some Builtin.«dict_keyiterator.__iter__»:=entryFor_alias (id':="dict_keyiterator.__iter__") (by kernel_rfl) rfl (by decide +kernel) (by kernel_rfl)
theorem ZvK (a:Value):argsOk "set_iterator.__iter__" ⟨[a],[]⟩:=by unfold argsOk;kernel_rfl
theorem Zri {it a T:Addr} {ob:Obj} {es:Array (Int×Value)} {ep:Nat} {t:SetTable} {ks:List Str} {l:List (Int×Value)} (hh:A.handled=none) (hx:ob.ExactSet) (hd:ob.data=.set es ep t) (Tb:Tab w es t ks) (hia:a≠it) (hiT:T≠it) (hl:l.length=es.size) :
  Walks prog w A it [it,a,T] [it] es.size (fun i v=>∃ e,l[i]?=some e∧v=e.2) (fun i h=>Wk w it a T ob es ep t l i h) where
 sub:=fun b hb=>by simp at hb;simp [hb]
 frame:=fun _ _ _ st hk=>by
  obtain ⟨⟨first,hi,M⟩,ho⟩:=st
  exact ⟨⟨first,hk it (by simp) _ hi,M.at fun o e=>hk T (by simp) o e⟩,hk a (by simp) _ ho⟩
 item:=fun i s Q E hi st hQ=>by
  obtain ⟨e,he⟩:∃ e,l[i]?=some e:=⟨_,List.getElem?_eq_getElem (by omega)⟩
  refine Zq4 hx hd Tb hia hiT st he fun h' W hs'=>?_
  exact hQ _ h' s.toks ⟨e,he,rfl⟩ W (fun b o hb z=>hs'.extBut b o (fun h=>hb (by simp [h])) z)
 done:=fun s Q E st hQ=>Zrg hh hx hd Tb st hl rfl fun h' he'=>hQ h' s.toks fun b o hb e=>he' b o (fun h=>hb (by simp [h])) e
 self:=fun _ s Q E st hQ=>by
  obtain ⟨⟨first,hi,M⟩,ho⟩:=st
  have hT:s.TypeIs (.ref it) "set_iterator":=⟨_,hi,rfl⟩
  refine wpAny_pyIter_slot hT ZpH (wpAny_call_entry ZpH hT Zsw (wpAny_pure ⟨_,rfl,"set_iterator",_,hT,Zf9.lookup,hQ⟩) (ZvK _))
end
theorem Zs5 {α:Type} {es:Array α}:∀ {ys:List Nat},(∀ p∈ys,p < es.size)→(ys.filterMap (es[·]?)).length=ys.length∧∀ (j p:Nat),ys[j]?=some p→∃ e,es[p]?=some e∧(ys.filterMap (es[·]?))[j]?=some e
 | [],_=>⟨rfl,fun j p h=>by simp at h⟩
 | y::ys,h=>by
  have hy:es[y]?=some (es[y]'(h y List.mem_cons_self)):=Array.getElem?_eq_getElem _
  obtain ⟨h1,h2⟩:=Zs5 (ys:=ys) fun p hp=>h p (List.mem_cons_of_mem _ hp)
  rw [List.filterMap_cons,hy]
  refine ⟨by simp [h1],fun j p hj=>?_⟩
  cases j with
  | zero =>
   simp only [List.getElem?_cons_zero,Option.some.injEq] at hj
   subst hj
   exact ⟨_,hy,rfl⟩
  | succ j =>
   simp only [List.getElem?_cons_succ] at hj ⊢
   exact h2 j p hj
section
variable {prog:Program} {w:World} {A:Around} {E:Value→Shared→Prop} {s:Shared}
theorem Zr6 {a:Addr} {ob:Obj} {es:Array (Int×Value)} {ep:Nat} {t:SetTable} {ks:List Str} {Q:Value→Shared→Prop} (ho:s.heap.get? a=some ob) (hx:ob.ExactSet) (hd:ob.data=.set es ep t) (Tb:Tab w es t ks) (hn:ks.length < scanBound)
  (h:∀ it T l h' d,s.heap.objs.size≤it→T≠it→(T=a∨s.heap.objs.size≤T)→(∀ c o,s.heap.get? c=some o→h'.get? c=some o)→Wk w it a T ob es ep t l 0 h'→l.Perm es.toList→T < h'.objs.size→it < h'.objs.size→Q (.ref it) { s with heap:=h',drawn:=d }):wpAny (model prog w) A (pyIter (.ref a)) Q E s:=by
 have hT:s.TypeIs (.ref a) "set":=⟨ob,ho,hx.1⟩
 have hlt:a < s.heap.objs.size:=Heap.lt_size ho
 have hz:=Tb.len
 refine wpAny_pyIter_slot hT ZqE (wpAny_call_entry ZqE hT ZsV ?_ (ZvR _))
 unfold Builtin.«frozenset.__iter__»
 refine wpAny_bind (m:=Builtin.Frozenset.slot0 "__iter__" ⟨[.ref a],[]⟩) (wpAny_pure (a:=a) ?_)
 refine wpAny_bind (m:=Builtin.Frozenset.sizeOf a) (wpAny_bind (wpAny_setEntries_of ho hd Tb.ft (wpAny_pure ?_)))
 refine wpAny_bind ?_
 unfold setDrawn
 walk_at "pu"
 dsimp only
 unfold setsByText
 walk_at "pb"
 show wpAny (model prog w) _ (pure (!(bt w)&&(!t.plain&&decide (es.size > 1)))) _ _ s
 refine wpAny_pure ?_
 by_cases hc:(!(bt w)&&(!t.plain&&decide (es.size > 1)))=true
 ·rw [if_pos hc]
  refine wpAny_bind (Zp5 es.size (List.range es.size) s _ (List.length_range) fun ys d hp=>?_)
  have hyl:ys.length=es.size:=by rw [hp.length_eq,List.length_range]
  refine wpAny_bind (wpAny_newTuple (items:=ys.map fun i:Nat=>rawInt i) ?_ (by rw [List.length_map,hyl,hz];exact fits_of_scanBound hn))
  refine wpAny_bind (wpAny_setEpoch_of (s:={ s with heap:=s.heap.push _,drawn:=d }) (Heap.get?_push_of_some _ ho) hd Tb.ft ?_)
  simp only [newFields]
  refine wpAny_bind (wpAny_newObj_type ?_ (by show (5:Nat)≤sizeLine+2;decide))
  refine wpAny_pure ⟨_,rfl,"set_iterator",_,⟨_,Heap.get?_push_size _ rfl,rfl⟩,Zf9.lookup,?_⟩
  obtain ⟨hpl,hpj⟩:=Zs5 (es:=es) (ys:=ys) fun p z=>List.mem_range.mp (hp.mem_iff.mp z)
  have hperm:(ys.filterMap (es[·]?)).Perm es.toList:=by
   have hz2:=L3.Tb.order_perm es ys.toArray (by simpa using hp)
   simpa using hz2
  refine h _ s.heap.objs.size (ys.filterMap (es[·]?)) _ d ?_ ?_ (.inr (Nat.le_refl _)) (fun c o e=>Heap.get?_push_of_some _ (Heap.get?_push_of_some _ e)) ⟨⟨_,Heap.get?_push_size _ rfl,.drawn (Heap.get?_push_of_some _ (Heap.get?_push_size _ rfl)) rfl hpl.symm hpj⟩,Heap.get?_push_of_some _ (Heap.get?_push_of_some _ ho)⟩ hperm ?_ ?_
  ·rw [Heap.size_push];exact Nat.le_succ _
  ·rw [Heap.size_push];exact Nat.ne_of_lt (Nat.lt_succ_self _)
  ·rw [Heap.size_push,Heap.size_push];exact Nat.lt_succ_of_lt (Nat.lt_succ_self _)
  ·simp only [Heap.size_push];exact Nat.lt_succ_self _
 ·rw [if_neg hc]
  refine wpAny_bind (wpAny_pure ?_)
  refine wpAny_bind (wpAny_setEpoch_of ho hd Tb.ft ?_)
  simp only [newFields]
  refine wpAny_bind (wpAny_newObj_type ?_ (by show (5:Nat)≤sizeLine+2;decide))
  refine wpAny_pure ⟨_,rfl,"set_iterator",_,⟨_,Heap.get?_push_size _ rfl,rfl⟩,Zf9.lookup,?_⟩
  have fin:∀ l,l.Perm es.toList→Md w a a es ep t l (s.heap.push (Itr (rawInt 0) 0 a es.size ep)) (rawInt 0) 0→Q (.ref s.heap.objs.size) { s with heap:=s.heap.push (Itr (rawInt 0) 0 a es.size ep) }:=fun l hp M =>
   h _ a l _ s.drawn (Nat.le_refl _) (Nat.ne_of_lt hlt) (.inl rfl) (fun c o e=>Heap.get?_push_of_some _ e) ⟨⟨_,Heap.get?_push_size _ rfl,M⟩,Heap.get?_push_of_some _ ho⟩ hp (by rw [Heap.size_push];exact Nat.lt_succ_of_lt hlt) (by rw [Heap.size_push];exact Nat.lt_succ_self _)
  by_cases hb:bt w=true
  ·exact fin _ (Zlo _ _) (.text (k:=0) hb rfl)
  ·have hb':bt w=false:=by simpa using hb
   have h1:es.size≤1:=by
    rw [hb'] at hc
    simp only [Bool.not_false,Bool.true_and,Bool.and_eq_true,decide_eq_true_eq,not_and] at hc
    cases hpl:t.plain with
    | true=>have:=Tb.pl hpl;subst this;rw [hz];decide
    | false=>have:=hc (by rw [hpl];rfl);omega
   exact fin es.toList (List.Perm.refl _) (.few (k:=0) hb' (Tb.ld hb') h1 rfl (fun _=>rfl) fun j z=>by cases z)
end
theorem ZsM:Slot "set" "__len__" "set.__len__":=.of (owner:="set") (n:="__len__") (by rw [typeLookup_type,builtinLookup_eq_fast];kernel_rfl) (by decide +kernel) (by decide +kernel) (by decide +kernel) (by first | exact .inl (by decide +kernel) | exact .inr (by decide +kernel)) (by rw [isSubtype_type];kernel_rfl)
section
variable {prog:Program} {w:World} {A:Around} {E:Value→Shared→Prop} {s:Shared}
theorem ZsH {a:Addr} {Q:Bool→Shared→Prop} (hT:s.TypeIs (.ref a) "set") (q:Q false s):wpAny (model prog w) A (Builtin.List.listLengthHint (.ref a)) Q E s:=by
 unfold Builtin.List.listLengthHint
 refine wpAny_bind (wpAny_specialOf hT ZsM.lookup ?_)
 have hs:splitId "set.__len__"=some ("set","__len__"):=by kernel_rfl
 dsimp only
 rw [hs]
 dsimp only
 refine wpAny_bind (wpAny_isInstance hT sub_set_self ?_)
 rw [if_neg (by decide)]
 show wpAny (model prog w) A (if _=true then _ else _) Q E s
 rw [if_pos (by decide +kernel)]
 refine wpAny_bind (wpAny_typeOf hT ?_)
 exact wpAny_pure q
theorem Zmc {a:Addr} {ks:List Str} {Q:List Value→Shared→Prop} (hh:A.handled=none) (hS:SS w s.heap a ks) (hn:ks.length < scanBound)
  (h:∀ (s':Shared) (vs:List Value) (xs:List Str),StrsAre vs xs→xs.Perm ks→(∀ c o,c < s.heap.objs.size→s.heap.get? c=some o→s'.heap.get? c=some o)→s'.gens=s.gens→s'.os=s.os→s.heap.objs.size≤s'.heap.objs.size→Q vs s'):wpAny (model prog w) A (collect (.ref a)) Q E s:=by
 have hS':=hS
 obtain ⟨ob,es,ep,t,ho,hx,hd,T⟩:=hS
 have hz:=T.len
 have hlt:a < s.heap.objs.size:=Heap.lt_size ho
 unfold collect
 refine wpAny_bind (wpAny_runValue (codeAny_builtin PySem.F.entry_proto_collect ?_));rw [Around.under_plainId PySem.F.plain_proto_collect _]
 refine wpAny_bind (m:=newList []) (wpAny_newList ?_ (Nat.zero_le _))
 refine wpAny_pure ⟨plainId_quiet PySem.F.plain_list_iadd _,codeAny_builtin PySem.F.entry_list_iadd ?_⟩;rw [Around.under_plainId PySem.F.plain_list_iadd _]
 have hne:s.heap.objs.size≠a:=Ne.symm (Nat.ne_of_lt hlt)
 have ho1:(s.heap.push (seqObj "list" #[] 0)).get? a=some ob:=Heap.get?_push_of_some _ ho
 have hT1:Shared.TypeIs { s with heap:=s.heap.push (seqObj "list" #[] 0) } (.ref a) "set":=⟨ob,ho1,hx.1⟩
 refine (?_:wpAny (model prog w) A.in1 (Builtin.List.listExtendWith (.ref s.heap.objs.size) (.ref a) (.ref s.heap.objs.size)) _ _ { s with heap:=s.heap.push (seqObj "list" #[] 0) })
 unfold Builtin.List.listExtendWith
 refine wpAny_bind (wpAny_typeOf hT1 ?_)
 have c1:Builtin.List.listSameRef (.ref s.heap.objs.size) (.ref a)=false:=by simp [Builtin.List.listSameRef,hne]
 have c2:(Value.type "set"==Value.type "list")=false:=by decide
 have c3:(Value.type "set"==Value.type "tuple")=false:=by decide
 simp only [c1,c2,c3,Bool.or_false,Bool.false_eq_true,if_false]
 refine wpAny_bind (Zr6 ho1 hx hd T hn fun it Tp l h' d hit hTit hTa keep W hp hTl hil=>?_)
 obtain ⟨⟨first,hi,M⟩,hob⟩:=id W
 have hT2:Shared.TypeIs { s with heap:=h',drawn:=d } (.ref a) "set":=⟨ob,hob,hx.1⟩
 refine wpAny_bind (wpAny_holding (ZsH hT2 ?_))
 refine (?_:wpAny (model prog w) A.in1 (rule "list.extend.makes-room" >>= fun _=>Builtin.List.listTouch (.ref s.heap.objs.size) >>= fun _=>again (.builtin "list.extend.loop" ⟨[.ref s.heap.objs.size,.ref it,.ref s.heap.objs.size],[]⟩)) _ _ { s with heap:=h',drawn:=d })
 refine wpAny_bind (wpAny_rule ?_)
 have hS0:h'.get? s.heap.objs.size=some (seqObj "list" #[] 0):=keep _ _ (Heap.get?_push_size _ rfl)
 refine wpAny_bind (m:=Builtin.List.listTouch (.ref s.heap.objs.size)) (wpAny_bind (m:=updateSeq s.heap.objs.size (·.push .none)) (wpAny_updateSeq (s:={ s with heap:=h',drawn:=d }) hS0 rfl ?_))
 have hS2:=Heap.get?_update_self (Obj.mapSeq (·.push Value.none)) hS0 rfl
 refine (?_:wpAny (model prog w) A.in1 (updateSeq s.heap.objs.size (·.pop)) _ _ _)
 refine wpAny_updateSeq hS2 rfl ?_
 have hS3:=Heap.get?_update_self (Obj.mapSeq (·.pop)) hS2 rfl
 have hit0:s.heap.objs.size < it:=by rw [Heap.size_push] at hit;exact hit
 have hTs:s.heap.objs.size≠Tp:=by
  rcases hTa with e | e
  ·rw [e];exact hne
  ·rw [Heap.size_push] at e;exact Nat.ne_of_lt e
 have hSf:s.heap.objs.size∉[it,a,Tp]:=by
  walk_at "pd"
  exact ⟨Nat.ne_of_lt hit0,hne,hTs⟩
 have hai:a≠it:=Nat.ne_of_lt (Nat.lt_trans hlt hit0)
 have hll:l.length=es.size:=by rw [hp.length_eq,Array.length_toList]
 have WS:=(Zri (prog:=prog) (w:=w) (A:=A.in1) (by simp [hh]) hx hd T hai hTit hll).toS
 have oth:∀ b o,b≠s.heap.objs.size→h'.get? b=some o→((h'.update s.heap.objs.size (Obj.mapSeq (·.push Value.none))).update s.heap.objs.size (Obj.mapSeq (·.pop))).get? b=some o :=
  fun b o hb e=>(Heap.get?_update_other _ _ (Ne.symm hb)).trans ((Heap.get?_update_other _ _ (Ne.symm hb)).trans e)
 refine wpAny_pure ⟨plainId_quiet PySem.F.plain_extend_loop _,codeAny_extend_loopS WS (fits_of_scanBound (by rw [hz];exact hn)) _ hSf _ es.size 0 _ _ _ rfl (Nat.zero_le _)
  ⟨⟨first,oth _ _ (Ne.symm (Nat.ne_of_lt hit0)) hi,M.at fun o e=>oth _ _ (Ne.symm hTs) e⟩,oth _ _ (Ne.symm hne) hob⟩ hS3 (ItemsOf.nil _) fun s' acc c hm hS' hacc=>?_⟩
 refine wpAny_bind (m:=load s.heap.objs.size) (wpAny_load hS' (wpAny_pure ?_))
 have hvs:acc.toList=l.map (·.2):=by
  apply List.ext_getElem?
  intro i
  rw [List.getElem?_map,Array.getElem?_toList]
  by_cases hi':i < acc.size
  ·obtain ⟨e,he,hv⟩:=hacc.2 i _ (Array.getElem?_eq_getElem hi')
   rw [Array.getElem?_eq_getElem hi',he,hv];rfl
  ·rw [Array.getElem?_eq_none (by omega),List.getElem?_eq_none (by rw [hll,← hacc.1];omega)];rfl
 have hall:∀ v∈l.map (·.2),∃ x t,v=Value.str x t:=fun v hv=>by
  obtain ⟨e,he,rfl⟩:=List.mem_map.mp hv
  obtain ⟨x,u,rfl⟩:=T.el e (hp.mem_iff.mp he)
  exact ⟨x,u,rfl⟩
 refine h s' acc.toList ((l.map (·.2)).map strOf) (by rw [hvs];exact strsAre_map _ hall) ?_ (fun b o hb e=>?_) hm.gens hm.os ?_
 ·rw [List.map_map]
  exact ((hp.map _).trans T.pm)
 ·refine hm.heap b o ?_ (oth b o (Nat.ne_of_lt hb) (keep b o (Heap.get?_push_of_some _ e)))
  walk_at "pd"
  exact ⟨Nat.ne_of_lt hb,Nat.ne_of_lt (Nat.lt_trans hb hit0)⟩
 ·exact Nat.le_of_lt (Heap.lt_size hS')
theorem ZjV {a:Addr} {ks:List Str} {Q:Value→Shared→Prop} (hh:A.handled=none) (hS:SS w s.heap a ks) (hn:ks.length < 64)
  (h:∀ (s':Shared) (p:Addr) (vs:List Value) (xs:List Str) (e:Nat),s.heap.objs.size≤p→s'.heap.get? p=some (seqObj "list" vs.toArray e)→StrsAre vs xs→xs.Perm ks→sortedS xs=true→(∀ c o,c < s.heap.objs.size→s.heap.get? c=some o→s'.heap.get? c=some o)→s'.gens=s.gens→s'.os=s.os→Q (.ref p) s') :
  wpAny (model prog w) A (call (.builtin "sorted") [.ref a]) Q E s:=by
 refine Calls.call_function_entry kind_sorted plain_sorted entry_sorted (args_sorted1 _) ?_;unfold Builtin.«sorted»
 refine wpAny_bind (m:=checkCount "sorted" 1 1 _) (wpAny_pure ?_)
 refine wpAny_bind (Zmc (by simp [hh]) hS (by unfold scanBound;omega) fun s1 vs xs hv hp keep hg hos hsz=>?_)
 have hvl:vs.length < 64:=by rw [hv.length,hp.length_eq];exact hn
 refine wpAny_bind (wpAny_newList ?_ (by have:(64:Nat)≤sizeLine:=by decide
                                         omega))
 have hoL:(s1.heap.push (seqObj "list" vs.toArray 0)).get? s1.heap.objs.size=some (seqObj "list" vs.toArray 0):=Heap.get?_push_size _ rfl
 refine wpAny_bind (wpAny_holding (wpAny_call_entry slot_list_sort ⟨_,hoL,rfl⟩ entry_list_sort (list_sort_treeK (s:={ s1 with heap:=s1.heap.push (seqObj "list" vs.toArray 0) }) strKind_oneLt hoL hv.keysOf (fun v1 v2 r e=>keyKind_strs (by rw [← e];exact hv)) hvl fun st' a1 a2=>⟨_,rfl,?_⟩) (args_list_sort _)))
 obtain ⟨xs',hv',hp',hs'⟩:=sorted_out_str hv a1 a2
 obtain ⟨e,he⟩:=sortedHeap_at (n:=0) (vs:=vs) (out:=(arrOf st').map (·.2)) hoL
 refine wpAny_pure ⟨_,rfl,h _ _ ((arrOf st').map (·.2)).toList xs' e hsz (by rw [Array.toArray_toList];exact he) hv' (hp'.trans hp) hs' (fun c o hc z=>?_) hg hos⟩
 rw [sortedHeap_old (Nat.ne_of_lt (Nat.lt_of_lt_of_le hc hsz)) (by rw [Heap.size_push];exact Nat.lt_succ_of_lt (Nat.lt_of_lt_of_le hc hsz))]
 exact Heap.get?_push_of_some _ (keep c o hc z)
end
end L3
namespace L3
open PySem PySem.Spec PyProof.Rows L2
variable {K:PySem.W.Frag} {H H' H2:Hp}
theorem ZiI:∀ {xs:List Str} {its:List Value},Vals (xs.map V.str) its→StrsAre its xs
 | [],_,.nil=>.nil
 | x::xs,_,.cons r rs=>by
  obtain ⟨t,rfl⟩:=r
  exact .cons x t (ZiI rs)
theorem ZiE:∀ {xs:List Str} {its:List Value},StrsAre its xs→Vals (xs.map V.str) its
 | [],_,.nil=>.nil
 | x::xs,_,.cons _ t rs=>.cons ⟨t,rfl⟩ (ZiE rs)
theorem Zcm {α:Type} [BEq α] [LawfulBEq α]:∀ {ks xs:List α},ks.Nodup→(∀ x∈ks,x∈xs)→ks.length≤xs.length
 | [],xs,_,_=>Nat.zero_le _
 | k::ks,xs,hn,h=>by
  have hk:=List.nodup_cons.mp hn
  have hin:k∈xs:=h k List.mem_cons_self
  have h1:=Zcm (xs:=xs.erase k) hk.2 fun x hx=>(List.mem_erase_of_ne (fun e=>hk.1 (by rw [← e];exact hx))).mpr (h x (List.mem_cons_of_mem _ hx))
  rw [List.length_erase_of_mem hin] at h1
  have:0 < xs.length:=List.length_pos_of_mem hin
  rw [List.length_cons];omega
section
variable {X:Cx} {e eb:Expr} {p1 p2 p3 q1 q2 q3 qb:Pos} {ta tb:TE}
theorem Zg2 {A:Around} {E:Value→Shared→Prop} {s:Shared} {pos:Pos} {Q:List Value→Shared→Prop} (hs:starEach [e] X.env=(false,eval e X.env)::starEach [] X.env) (h:wpAny (model X.prog X.w) A (eval e X.env) (fun v s1=>Q [v] s1) E s):wpAny (model X.prog X.w) A (spliced (backTo pos (starEach [e] X.env))) Q E s:=by
 rw [hs]
 refine Calls.spliced_cons (wpAny_mono h (fun v s1 q=>?_) fun _ _ z=>z)
 exact Calls.spliced_nil q
theorem Zmr:∀ {xs:List Str} {vs:List V},TrL K H vs (xs.map W.str)→vs=xs.map V.str
 | [],_,.nil=>rfl
 | x::xs,_,.cons t ts=>by
  cases t
  rw [Zmr ts];rfl
theorem ZkJ:∀ (xs:List Str),TrL K H (xs.map V.str) (xs.map W.str)
 | []=>.nil
 | x::xs=>.cons (.str x) (ZkJ xs)
end
end L3
namespace L3
open PySem PySem.Spec PyProof.Rows L2
def ZlW {α:Type} (kvs:List (Key×α)) (x:Str) (d:α):α:=((kvs.find? fun y=>decide (y.1=Sum.inr x)).map (·.2)).getD d
theorem Zew {α:Type} {k:Key} {v d:α} {kvs:List (Key×α)} {x:Str}:ZlW ((k,v)::kvs) x d=if k=Sum.inr x then v else ZlW kvs x d:=by
 unfold ZlW
 rw [List.find?_cons]
 by_cases h:k=Sum.inr x
 ·simp [h]
 ·simp [h]
theorem Ztn {x:Str} {d:V} {r:Value} (rd:RelV d r):∀ {kvs:List (Key×V)} {vs:List (Key×Value)},KV kvs vs→RelV (ZlW kvs x d) ((valueAt vs (Sum.inr x)).getD r)
 | _,_,.nil=>rd
 | (k,v)::kvs,(k',v')::vs,.cons ⟨e,rv⟩ t=>by
  have ih:=Ztn (x:=x) rd t
  cases (show k=k' from e)
  rw [Zew]
  unfold valueAt at ih ⊢
  rw [List.find?_cons]
  by_cases h:k=Sum.inr x
  ·simp [h];exact rv
  ·simp [h];exact ih
theorem Zpk {K:PySem.W.Frag} {H:Hp} {x:Str} {d:V} {w:W} (td:Tr K H d w):∀ {vs:List (Key×V)} {ws:List (Key×W)},TrP K H vs ws→Tr K H (ZlW vs x d) (ZlW ws x w)
 | _,_,.nil=>td
 | (k,v)::vs,(_,u)::ws,.cons tv t=>by
  rw [Zew,Zew]
  split
  ·exact tv
  ·exact Zpk td t
def Zzd (o:W) (ws:List W) (G:Hw) (Q:Kw):Prop:=∃ p kvs x d,o=.ref p∧ws=[.str x,d]∧G p=some (.dct kvs)∧Q (ZlW kvs x d) G
def Zvo (o:W) (G:Hw):Prop:=∃ p kvs,o=.ref p∧G p=some (.dct kvs)
theorem Zxd {X:Cx}:MtR X "dict.get" (fun v vs H Q=>∃ p kvs x d,v=.ref p∧vs=[.str x,d]∧H p=some (.dK kvs)∧Q (ZlW kvs x d) H):=by
 intro pins s σ H x vs v us Q I rx rv h
 obtain ⟨p,kvs,x,d,rfl,rfl,hH,q⟩:=h
 cases rx
 cases rv with
 | cons r1 t =>
  cases t with
  | cons r2 t =>
   cases t
   obtain ⟨t,rfl⟩:=r1
   obtain ⟨z,hd,vs,rel,dd⟩:kvs.length≤sizeLine∧(p==sysModules)=false∧∃ vs,KV kvs vs∧s.heap.DictOf (ZaC X.prog X.w) p vs:=I.hok p _ hH
   refine call_meetsIn PySem.F.slot_dict_get dd.typeIs PySem.F.entry_dict_get (PySem.F.args_dict_get_3 _ _ _) (meets_dict_get_default (ZaC X.prog X.w) p (k:=Sum.inr x) (by simp [ZaC,ZkE,Value.isStrOf]) hd _) ⟨_,dd.mapOf,?_⟩
   exact ⟨_,H,I.tok _,Ztn r2 rel,q⟩
theorem ZdC {X:Cx}:Mth X "dict" "get" "dict.get" Zvo Zzd where
 pa:=PySem.F.plainAttrs_dict
 slot:=PySem.F.slot_dict_get
 ty:=PySem.F.type_dict_get
 ex:=⟨_,Zxd,fun o ws v vs G H Q tv tvs r q=>by
  obtain ⟨p,kvs,x,d,rfl,rfl,e,q⟩:=q
  cases tv
  cases tvs with
  | cons t1 t =>
   cases t with
   | cons t2 t =>
    cases t
    cases t1
    obtain ⟨us,e1,l⟩:=r p _ e
    exact ⟨p,us,x,_,rfl,rfl,e1,q _ _ .refl (Zpk t2 l) r⟩⟩
 pr:=fun o v G H t r h=>by
  obtain ⟨p,kvs,rfl,e⟩:=h
  cases t
  obtain ⟨us,e1,l⟩:=r p _ e
  exact .inr (.inr (.inl ⟨rfl,.inl ⟨us,e1⟩⟩))
 m:=(by rintro o ws G Q Q' h ⟨p,kvs,x,d,h1,h2,h3,q⟩;exact ⟨p,kvs,x,d,h1,h2,h3,h _ _ q⟩)
inductive PV (K:PySem.W.Frag) (H:Hp):List V→List (Str×V)→Prop where
 | nil:PV K H [] []
 | cons {q:Addr} {x:Str} {v:V} {ys:List V} {pv:List (Str×V)}:SqT K H q [.str x,v]→PV K H ys pv→PV K H (.ref q::ys) ((x,v)::pv)
theorem ZuC {K:PySem.W.Frag} {H:Hp}:∀ {ws:List (Str×W)} {vs:List V},TrL K H vs (ws.map fun y=>.tup [.str y.1,y.2])→∃ pv,PV K H vs pv∧TrP K H pv ws
 | [],_,.nil=>⟨[],.nil,.nil⟩
 | (x,w)::ws,_,.cons t r=>by
  obtain ⟨pv,h1,h2⟩:=ZuC r
  cases t with
  | tup hq l =>
   cases l with
   | cons t1 l =>
    cases l with
    | cons t2 l =>
     cases l
     cases t1
     exact ⟨(x,_)::pv,.cons hq h1,.cons t2 h2⟩
theorem ZmW {K:PySem.W.Frag} {H:Hp}:∀ {pv:List (Str×V)} {ws:List (Str×W)},TrP K H pv ws→TrP K H (pv.map fun y=>((Sum.inr y.1:Key),y.2)) (ws.map fun y=>((Sum.inr y.1:Key),y.2))
 | _,_,.nil=>.nil
 | _,_,.cons t r=>.cons t (ZmW r)
theorem ZkU {K:PySem.W.Frag} {H:Hp}:∀ {pv:List (Str×V)} {ws:List (Str×W)},TrP K H pv ws→pv.map (·.1)=ws.map (·.1)
 | _,_,.nil=>rfl
 | _,_,.cons t r=>by rw [List.map_cons,List.map_cons,ZkU r]
theorem Zmq {X:Cx} {pins:List (Addr×Obj)} {σ:St} {H:Hp} {s:Shared} (I:Inv X pins σ H s):∀ {ys:List V} {pv:List (Str×V)} {its:List Value},PV X.K H ys pv→Vals ys its →
  ∃ ps:List (Str×Value),KV (pv.map fun y=>((Sum.inr y.1:Key),y.2)) (ps.map fun y=>((Sum.inr y.1:Key),y.2))∧ps.map (·.1)=pv.map (·.1)∧ps.length=its.length∧∀ (j:Nat) (v:Value),its[j]?=some v→∃ p t y,v=.ref p∧ps[j]?=some y∧s.heap.IsTuple p #[.str y.1 t,y.2]
 | _,_,_,.nil,r=>by
  cases r
  exact ⟨[],.nil,rfl,rfl,fun j v h=>by simp at h⟩
 | _,_,_,.cons (q:=q) (x:=x) (v:=v) (pv:=pv) hq h,r=>by
  cases r with
  | cons r1 r2 =>
   obtain ⟨ps,h1,h2,h3,h4⟩:=Zmq I h r2
   cases (show _=Value.ref q from r1)
   obtain ⟨it,ri,pt,_⟩:=I.tuple hq
   cases ri with
   | cons a1 t =>
    cases t with
    | cons a2 t =>
     cases t
     obtain ⟨t,rfl⟩:=a1
     refine ⟨(x,_)::ps,.cons ⟨rfl,a2⟩ h1,by rw [List.map_cons,List.map_cons,h2],by rw [List.length_cons,List.length_cons,h3],fun j u hu=>?_⟩
     cases j with
     | zero =>
      rw [List.getElem?_cons_zero] at hu
      cases hu
      exact ⟨q,t,_,rfl,List.getElem?_cons_zero,pt⟩
     | succ j =>
      rw [List.getElem?_cons_succ] at hu
      obtain ⟨p,t',y,e1,e2,e3⟩:=h4 j u hu
      exact ⟨p,t',y,e1,by rw [List.getElem?_cons_succ];exact e2,e3⟩
theorem Zlv {X:Cx} (hc:X.calm=true):CallR X (.type "dict") (fun xs H Q=>∃ p ys pv,xs=[.ref p]∧SqL X.K H p ys∧PV X.K H ys pv∧(pv.map (·.1)).Nodup∧∀ l,H l=none→Q (.ref l) (upd H l (.dK (pv.map fun y=>((Sum.inr y.1:Key),y.2))))):=by
 walk_at "py"
 obtain ⟨p,ys,pv,rfl,hq,hpv,hn,q⟩:=h
 obtain ⟨u,rfl,rx⟩:=ZhB r
 cases rx
 obtain ⟨its,r',pl,hz⟩:=I.list hq
 obtain ⟨o,n,ho,hcl,hdi,hda⟩:=pl
 obtain ⟨oc,od,oda,osl⟩:=o
 simp only at hcl hdi hda
 subst hcl hdi hda
 obtain ⟨ps,h1,h2,h3,h4⟩:=Zmq I hpv r'
 have hl:=r'.length
 have hkl:=Paired.length h1
 rw [List.length_map,List.length_map] at hkl
 refine Zob (ps:=ps) (I.ok.hd hc) ho (fun j v hv=>h4 j v (by simpa using hv)) (by rw [List.size_toArray];exact h3) (by omega) (by rw [h2];exact hn) fun h' tk dd keep=>?_
 have big:sysModules < s.heap.objs.size:=by
  have h:mainGlobals < s.heap.objs.size:=(I.mod.glob.keeps I.bk).lt
  exact Nat.lt_trans (by decide) h
 have I2:Inv X pins σ (upd H s.heap.objs.size (.dK (pv.map fun y=>((Sum.inr y.1:Key),y.2)))) { s with heap:=h',toks:=tk } :=
  I.laid (t':=tk) (fun b u e=>keep b u (Heap.lt_size e) e) (Nat.le_refl _) (show ObjOk X.prog X.w _ _ _ (.dK _) from ⟨by rw [List.length_map];omega,by simpa using Nat.ne_of_gt big,_,h1,dd⟩)
 exact ⟨.ref s.heap.objs.size,_,I2,rfl,q _ (I.hok.fresh (Nat.le_refl _))⟩
def Zst (ws:List W) (G:Hw) (Q:Kw):Prop:=∃ p,∃ ps:List (Str×W),ws=[.ref p]∧G p=some (.lst (ps.map fun y=>.tup [.str y.1,y.2]))∧(ps.map (·.1)).Nodup∧∀ l,G l=none→Q (.ref l) (put G l (.dct (ps.map fun y=>((Sum.inr y.1:Key),y.2))))
theorem Zuz:RWc.M Zst:=(by rintro ws G Q Q' h ⟨p,ps,h1,h2,h3,q⟩;exact ⟨p,ps,h1,h2,h3,fun l hl=>h _ _ (q l hl)⟩)
theorem Zsb {K:PySem.W.Frag}:UpC K Zst (fun xs H Q=>∃ p ys pv,xs=[.ref p]∧SqL K H p ys∧PV K H ys pv∧(pv.map (·.1)).Nodup∧∀ l,H l=none→Q (.ref l) (upd H l (.dK (pv.map fun y=>((Sum.inr y.1:Key),y.2))))):=fun ws vs G H Q t r q=>by
 obtain ⟨p,ps,rfl,hp,hn,q⟩:=q
 cases t with
 | cons tw t =>
  cases t
  cases tw
  obtain ⟨us,e1,l⟩:=r p _ hp
  obtain ⟨pv,h1,h2⟩:=ZuC l
  refine ⟨p,us,pv,rfl,.inl (Rd.of e1),h1,by rw [ZkU h2];exact hn,fun l hl=>?_⟩
  have hG:G l=none:=by
   cases e:G l with
   | none=>rfl
   | some o =>
    have:=r l o e
    cases o with
    | lst ws=>obtain ⟨_,z,_⟩:=this;rw [hl] at z;cases z
    | exc C=>rw [show H l=_ from this] at hl;cases hl
    | ins C ws=>obtain ⟨_,_,z,_⟩:=this;rw [hl] at z;cases z
    | dct ws=>obtain ⟨_,z,_⟩:=this;rw [hl] at z;cases z
  exact q l hG _ _ (Mono.new hl _) (.ref l) (RelH.laid r (Mono.new hl _) ⟨_,Zbk,(ZmW h2).mono (Mono.new hl _)⟩)
theorem Zck {X:Cx} (hc:X.calm=true):Blt X (.type "dict") Zst:=⟨⟨_,Zlv hc,Zsb⟩,Zuz⟩
section
variable {X:Cx} {e:Expr} {p1 p3 q1 q3:Pos} {ta:TE}
def ZyF (K:PySem.W.Frag) (ta:TE):TE:=fun σ H Q=>ta σ H fun x H2=>∃ (p:Addr) (xs:List Str),x=.ref p∧SqL K H2 p (xs.map V.str)∧xs.length < 64 ∧
 ∀ (zs:List Str) (r:Addr),zs.Nodup→sortedS zs=true→(∀ x,x∈zs↔x∈xs)→H2 r=none→Q (.ref r) (upd H2 r (.lst (zs.map V.str)))
theorem Zrv (hc:X.calm=true) (n1:X.mg "sorted"=none) (n2:X.mg "set"=none) (g1:Gl X "sorted") (g2:Gl X "set") (h1:starEach [e] X.env=(false,eval e X.env)::starEach [] X.env)
  (h3:starEach [.Call (.Name "set" p1) [e] [] q1] X.env=(false,eval (.Call (.Name "set" p1) [e] [] q1) X.env)::starEach [] X.env) (ha:PE X e ta) :
  PE X (.Call (.Name "sorted" p3) [.Call (.Name "set" p1) [e] [] q1] [] q3) (ZyF X.K ta):=by
 intro pins s σ H Q I h
 have bS:bootBuiltins "sorted"=some (.builtin "sorted"):=by decide +kernel
 have bT:bootBuiltins "set"=some (.type "set"):=by decide +kernel
 have hh:X.A.handled=none:=I.ok.hd hc
 refine wpAny_Call_Name_kw (ZeE I g1 n1 bS ?_)
 refine PyProof.Rows.callWith_builtin1 (Zg2 h3 ?_) h3 rfl
 refine wpAny_Call_Name_kw (ZeE I g2 n2 bT ?_)
 refine PyProof.Rows.callWith_type1 (Zg2 h1 ?_) h1 rfl
 refine thn (ha pins s σ H _ I h) fun v s2 zz1=>?_
 obtain ⟨x,H2,I5,r1,p,xs,ex,hq,hn,q2⟩:=zz1
 subst ex
 cases r1
 obtain ⟨its,rv,pl,hz⟩:=I5.list hq
 have hil:its.length=xs.length:=by have:=rv.length;rw [List.length_map] at this;exact this.symm
 refine Znk hh pl.isList (by simpa using ZiI rv) (by rw [List.size_toArray,hil];unfold scanBound;omega) fun h3 tk kc hC hxc keep3=>?_
 have lkc:kc.length < 64:=Nat.lt_of_le_of_lt (Zcm hC.nd fun x hx=>(hxc x).mp hx) hn
 refine ZjV (s:={ s2 with heap:=h3,toks:=tk }) hh hC lkc fun s' r vs zs en hr hget hv hp hs keep4 hg hos=>?_
 have z2:s2.heap.objs.size < h3.objs.size:=SS.lt (s:={ s2 with heap:=h3 }) hC
 have hr2:s2.heap.objs.size≤r:=Nat.le_of_lt (Nat.lt_of_lt_of_le z2 hr)
 have kall:∀ b u,s2.heap.get? b=some u→s'.heap.get? b=some u:=fun b u z=>by
  have y2:=keep3 b u (Heap.lt_size z) z
  exact keep4 b u (Heap.lt_size y2) y2
 have hzl:zs.length≤sizeLine:=by
  have:(64:Nat)≤sizeLine:=by decide
  rw [hp.length_eq];omega
 walk_at "pc"
 walk_at "pe"
 rw [hp.mem_iff,hxc]
def Zfy (ga:GE):GE:=fun ω G Q=>ga ω G fun y G2=>∃ ys:List Str,ZiP G2 y=some (ys.map W.str)∧ys.length < 64 ∧
 ∀ (zs:List Str) (p:Addr),zs.Nodup→sortedS zs=true→(∀ x,x∈zs↔x∈ys)→G2 p=none→Q (.ref p) (put G2 p (.lst (zs.map W.str)))
theorem Zr0 {ga:GE} (ma:ga.M):GE.M (Zfy ga):=fun ω G Q Q' h q=>ma _ _ _ _ ((by rintro x G1 ⟨xs,h1,h2,q1⟩;exact ⟨xs,h1,h2,fun zs p a b c d=>h _ _ (q1 zs p a b c d)⟩)) q
theorem ZrV {ga:GE} (hc:X.calm=true) (n1:X.mg "sorted"=none) (n2:X.mg "set"=none) (g1:Gl X "sorted") (g2:Gl X "set") (h1:starEach [e] X.env=(false,eval e X.env)::starEach [] X.env)
  (h3:starEach [.Call (.Name "set" p1) [e] [] q1] X.env=(false,eval (.Call (.Name "set" p1) [e] [] q1) X.env)::starEach [] X.env) (ha:Em X e ga) :
  Em X (.Call (.Name "sorted" p3) [.Call (.Name "set" p1) [e] [] q1] [] q3) (Zfy ga):=by
 refine ⟨Zbf (Zrv hc n1 n2 g1 g2 h1 h3 ha.p) fun σ H Q zz2=>?_,Zr0 ha.m⟩
 obtain ⟨ω,G,ts,rh,q⟩:=zz2
 refine ⟨ω,G,ts,rh,ha.m _ _ _ _ (fun x G1 zz3 v H1 m1 tx r1=>?_) q⟩
 obtain ⟨xs,hx,hn,q1⟩:=zz3
 obtain ⟨a,vs,rfl,rfl,hG,hH,tv⟩:=Zeh r1 tx hx
 obtain rfl:=Zmr tv
 refine ⟨a,xs,rfl,.inl (.inl hH),hn,fun zs r z1 z2 z3 z4=>?_⟩
 exact q1 zs r z1 z2 z3 (r1.no z4) _ _ (m1.trans (Mono.new z4 _)) (.ref r) (r1.new z4 (ZkJ zs))
end
section
variable {prog:Program} {w:World} {A:Around} {E:Value→Shared→Prop} {s:Shared}
end
end L3
namespace L3
open PySem PySem.Spec PyProof.Rows L2
variable {K:PySem.W.Frag} {H H' H2:Hp}
section
variable {prog:Program} {w:World} {A:Around} {E:Value→Shared→Prop} {s:Shared}
theorem tat {h h':Heap} {a t:Addr} {i:Nat} (x:h.IsTupleIter a t i) (k:∀ o,h.get? a=some o→h'.get? a=some o):h'.IsTupleIter a t i:=by
 obtain ⟨o,e,r⟩:=x
 exact ⟨o,k o e,r⟩
end
end L3
namespace L3
open PySem PySem.Spec PyProof.Rows L2
abbrev Zvp (h:Heap) (T:Addr) (a b c:Value):Prop:=h.get? T=some { cls:=.type "tuple",data:=.seq #[a,b,c] }
section
variable {prog:Program} {w:World} {A:Around} {E:Value→Shared→Prop} {s:Shared}
def St3 (n l1 l2 l3:Nat) (f0:Value) (i:Nat) (h:Heap):Prop:=IsZip h (n+5) (n+3) (n+4) f0∧Zvp h (n+3) (.ref n) (.ref (n+1)) (.ref (n+2))∧(∃ a b c,Zvp h (n+4) a b c)∧h.IsListIter n l1 i∧h.IsListIter (n+1) l2 i∧h.IsListIter (n+2) l3 i
end
end L3
namespace L3
open PySem PySem.Spec PyProof.Rows L2
variable {K:PySem.W.Frag} {H H' H2:Hp}
section
variable {prog:Program} {w:World} {A:Around} {E:Value→Shared→Prop} {s:Shared}
theorem St3.at {n l1 l2 l3:Nat} {f0:Value} {i:Nat} {h h':Heap} (st:St3 n l1 l2 l3 f0 i h) (k:∀ (c:Nat) o,n≤c→c≤n+5→h.get? c=some o→h'.get? c=some o):St3 n l1 l2 l3 f0 i h':=by
 obtain ⟨hz,hTI,⟨a,b,c,hTO⟩,u1,u2,u3⟩:=st
 exact ⟨k _ _ (by omega) (by omega) hz,k _ _ (by omega) (by omega) hTI,⟨a,b,c,k _ _ (by omega) (by omega) hTO⟩,u1.at fun o e=>k _ o (by omega) (by omega) e,u2.at fun o e=>k _ o (by omega) (by omega) e,u3.at fun o e=>k _ o (by omega) (by omega) e⟩
end
def ZpK (w:W):Bool:=match w with | .non=>true | _=>false
def isF (neg:Bool) (x y:W) (_:Hw):Option W:=match y with | .non=>some (.bl (ZpK x != neg)) | _=>none
theorem ZqM {v:V} {x:W} (t:Tr K H v x):decide (v=.non)=ZpK x:=by cases t <;> rfl
theorem ZrJ {u:V} (t:Tr K H u .non):u=.non:=by cases t;rfl
theorem Zt0 (neg:Bool) (x y:W) (v u:V) (G:Hw) (H:Hp) (Q:VK) (tx:Tr K H v x) (ty:Tr K H u y) (r:RelH K H G) (q:Zar (isF neg) x y G (dn K H Q)):u=.non∧Q (.bl (ZpK x != neg)) H:=by
 obtain ⟨w,e,q'⟩:=Zep q
 cases y with
 | non=>cases e;exact ⟨ZrJ ty,q' _ H .refl (.bl _) r⟩
 | _=>cases e
theorem ZfF {X:Cx}:Cop X .Is (Zar (isF false)):=⟨⟨_,Zwt,fun x y v u G H Q tx ty r q=>by
 obtain ⟨h1,h2⟩:=Zt0 false x y v u G H Q tx ty r q
 refine ⟨h1,?_⟩
 rw [ZqM tx];simpa using h2⟩,Zfl⟩
theorem Zdv {X:Cx}:Cop X .IsNot (Zar (isF true)):=⟨⟨_,ZvC,fun x y v u G H Q tx ty r q=>by
 obtain ⟨h1,h2⟩:=Zt0 true x y v u G H Q tx ty r q
 refine ⟨h1,?_⟩
 rw [ZqM tx];simpa using h2⟩,Zfl⟩
section
variable {prog:Program} {w:World} {A:Around} {E:Value→Shared→Prop} {s:Shared}
def St3T (n l1 l2 l3:Nat) (f0:Value) (i:Nat) (h:Heap):Prop:=IsZip h (n+5) (n+3) (n+4) f0∧Zvp h (n+3) (.ref n) (.ref (n+1)) (.ref (n+2))∧(∃ a b c,Zvp h (n+4) a b c)∧h.IsTupleIter n l1 i∧h.IsTupleIter (n+1) l2 i∧h.IsTupleIter (n+2) l3 i
theorem St3T.at {n l1 l2 l3:Nat} {f0:Value} {i:Nat} {h h':Heap} (st:St3T n l1 l2 l3 f0 i h) (k:∀ (c:Nat) o,n≤c→c≤n+5→h.get? c=some o→h'.get? c=some o):St3T n l1 l2 l3 f0 i h':=by
 obtain ⟨hz,hTI,⟨a,b,c,hTO⟩,u1,u2,u3⟩:=st
 exact ⟨k _ _ (by omega) (by omega) hz,k _ _ (by omega) (by omega) hTI,⟨a,b,c,k _ _ (by omega) (by omega) hTO⟩,tat u1 fun o e=>k _ o (by omega) (by omega) e,tat u2 fun o e=>k _ o (by omega) (by omega) e,tat u3 fun o e=>k _ o (by omega) (by omega) e⟩
end
section
variable {prog:Program} {w:World} {A:Around} {E:Value→Shared→Prop} {s:Shared}
end
end L3
namespace L3
open PySem PySem.Spec PyProof.Rows L2
abbrev ZyI (h:Heap) (z TI TO:Addr) (f0:Value) (b:Bool):Prop:=h.get? z=some { cls:=.type "zip",dict:=none,data:=.fields #[f0,.bool b,.bool false,.ref TI,.ref TO],slots:=#[] }
section
variable {prog:Program} {w:World} {A:Around} {E:Value→Shared→Prop} {s:Shared}
def Hd3 (n l1 l2 l3 i:Nat) (h:Heap):Prop:=(∃ (T:Nat) (o:Obj) (b:Bool),ZyI h (n+5) (n+3) (n+4) (rawInt T) b∧h.get? T=some o∧(T < n∨n+5 < T))∧Zvp h (n+3) (.ref n) (.ref (n+1)) (.ref (n+2))∧h.IsListIter n l1 i∧h.IsListIter (n+1) l2 i∧h.IsListIter (n+2) l3 i
def Cm3 (n l1 l2 l3 i:Nat) (h:Heap):Prop:=(i=0∧St3 n l1 l2 l3 .none 0 h)∨Hd3 n l1 l2 l3 i h
theorem Cm3.zip {n l1 l2 l3 i:Nat} {h:Heap} (st:Cm3 n l1 l2 l3 i h):∃ o,h.get? (n+5)=some o∧o.cls=.type "zip":=by
 rcases st with ⟨_,st⟩ | st
 ·exact ⟨_,st.1,rfl⟩
 ·obtain ⟨⟨T,o,b,hz,_⟩,_⟩:=st
  exact ⟨_,hz,rfl⟩
end
section
variable {prog:Program} {w:World} {A:Around} {E:Value→Shared→Prop} {s:Shared}
end
end L3
namespace L3
open PySem PySem.Spec PyProof.Rows L2
variable {K:PySem.W.Frag} {H H' H2:Hp}
theorem Zlt:∀ ts:List Addr,Vals (ts.map V.ref) (ts.map Value.ref)
 | []=>.nil
 | _::ts=>.cons rfl (Zlt ts)
section
variable {prog:Program} {w:World} {A:Around} {E:Value→Shared→Prop} {s:Shared}
def St3M (n l1 l2 l3:Nat) (f0:Value) (i:Nat) (h:Heap):Prop:=IsZip h (n+5) (n+3) (n+4) f0∧Zvp h (n+3) (.ref n) (.ref (n+1)) (.ref (n+2))∧(∃ a b c,Zvp h (n+4) a b c)∧h.IsListIter n l1 i∧h.IsTupleIter (n+1) l2 i∧h.IsTupleIter (n+2) l3 i
theorem St3M.at {n l1 l2 l3:Nat} {f0:Value} {i:Nat} {h h':Heap} (st:St3M n l1 l2 l3 f0 i h) (k:∀ (c:Nat) o,n≤c→c≤n+5→h.get? c=some o→h'.get? c=some o):St3M n l1 l2 l3 f0 i h':=by
 obtain ⟨hz,hTI,⟨a,b,c,hTO⟩,u1,u2,u3⟩:=st
 exact ⟨k _ _ (by omega) (by omega) hz,k _ _ (by omega) (by omega) hTI,⟨a,b,c,k _ _ (by omega) (by omega) hTO⟩,u1.at fun o e=>k _ o (by omega) (by omega) e,tat u2 fun o e=>k _ o (by omega) (by omega) e,tat u3 fun o e=>k _ o (by omega) (by omega) e⟩
end
end L3
namespace L3
open PySem PySem.Spec PyProof.Rows L2
end L3
namespace L3
open PySem PySem.Spec PyProof.Rows L2
variable {K:PySem.W.Frag} {H H' H2:Hp}
def atT {α:Type} (kvs:List (Key×α)) (x:Str):Option α:=(kvs.find? fun y=>decide (y.1=Sum.inr x)).map (·.2)
theorem ZgI {α:Type} {k:Key} {v:α} {kvs:List (Key×α)} {x:Str}:atT ((k,v)::kvs) x=if k=Sum.inr x then some v else atT kvs x:=by
 unfold atT
 rw [List.find?_cons]
 by_cases h:k=Sum.inr x
 ·simp [h]
 ·simp [h]
theorem Zu7 {x:Str}:∀ {kvs:List (Key×V)} {vs:List (Key×Value)},KV kvs vs→(atT kvs x=none∧valueAt vs (Sum.inr x)=none)∨∃ v u,atT kvs x=some v∧valueAt vs (Sum.inr x)=some u∧RelV v u
 | _,_,.nil=>.inl ⟨rfl,rfl⟩
 | (k,v)::kvs,(k',v')::vs,.cons ⟨e,rv⟩ t=>by
  have ih:=Zu7 (x:=x) t
  cases (show k=k' from e)
  rw [ZgI]
  unfold valueAt at ih ⊢
  rw [List.find?_cons]
  by_cases h:k=Sum.inr x
  ·simp only [h,if_true,decide_true]
   exact .inr ⟨v,v',rfl,rfl,rv⟩
  ·simp only [h,if_false,decide_false];exact ih
theorem Zqv {x:Str}:∀ {vs:List (Key×V)} {ws:List (Key×W)},TrP K H vs ws→(atT vs x=none∧atT ws x=none)∨∃ v w,atT vs x=some v∧atT ws x=some w∧Tr K H v w
 | _,_,.nil=>.inl ⟨rfl,rfl⟩
 | (k,v)::vs,(_,u)::ws,.cons tv t=>by
  rw [ZgI,ZgI]
  by_cases h:k=Sum.inr x
  ·rw [if_pos h,if_pos h];exact .inr ⟨_,_,rfl,rfl,tv⟩
  ·rw [if_neg h,if_neg h];exact Zqv t
def Zz6 (neg:Bool):R2:=fun x y H Q=>∃ p kvs z,x=.str z∧y=.ref p∧H p=some (.dK kvs)∧Q (.bl ((atT kvs z).isSome != neg)) H
theorem ZkA {X:Cx}:OpR X (compareOp .NotIn) (Zz6 true):=by
 walk_at "pa"
 obtain ⟨p,kvs,z,rfl,rfl,hH,q⟩:=h
 obtain ⟨t,rfl⟩:=rx
 cases ry
 obtain ⟨_,hd,vs,rel,dd⟩:kvs.length≤sizeLine∧(p==sysModules)=false∧∃ vs,KV kvs vs∧s.heap.DictOf (ZaC X.prog X.w) p vs:=I.hok p _ hH
 refine wpAny_notIn_of (knd:=ZaC X.prog X.w) (k:=Sum.inr z) (by simp [ZaC,ZkE,Value.isStrOf]) hd dd.mapOf ⟨.bl _,H,I.tok _,?_,q⟩
 rcases Zu7 (x:=z) rel with ⟨e1,e2⟩ | ⟨v,u,e1,e2,_⟩ <;> rw [e1,e2] <;> rfl
def inK (neg:Bool) (x y:W) (G:Hw):Option W:=match x,y with
 | .str z,.ref p=>(match G p with | some (.dct kvs)=>some (.bl ((atT kvs z).isSome != neg)) | _=>none)
 | _,_=>none
theorem Zyt (neg:Bool) (x y:W) (v u:V) (G:Hw) (H:Hp) (Q:VK) (tx:Tr K H v x) (ty:Tr K H u y) (r:RelH K H G) (q:Zar (inK neg) x y G (dn K H Q)):Zz6 neg v u H Q:=by
 obtain ⟨w,e,q'⟩:=Zep q
 unfold inK at e
 split at e
 ·rename_i z p
  split at e
  ·rename_i kvs hG
   cases e
   cases tx
   cases ty
   obtain ⟨us,e1,l⟩:=r p _ hG
   refine ⟨p,us,z,rfl,rfl,e1,?_⟩
   have:(atT us z).isSome=(atT kvs z).isSome:=by rcases Zqv (x:=z) l with ⟨e1,e2⟩ | ⟨v,u,e1,e2,_⟩ <;> rw [e1,e2] <;> rfl
   rw [this]
   exact q' _ H .refl (.bl _) r
  ·cases e
 ·cases e
theorem ZcM {X:Cx}:Cop X .NotIn (Zar (inK true)):=⟨⟨_,ZkA,Zyt true⟩,Zfl⟩
def ZAg:R2:=fun x y H Q=>∃ p kvs z v,x=.ref p∧y=.str z∧H p=some (.dK kvs)∧atT kvs z=some v∧Q v H
theorem ZuD {X:Cx}:IxR X ZAg:=by
 intro value slice pins s σ H x y v u Q I rx ry h hs
 obtain ⟨p,kvs,z,v,rfl,rfl,hH,hv,q⟩:=h
 cases rx
 obtain ⟨t,rfl⟩:=ry
 obtain ⟨_,hd,vs,rel,dd⟩:kvs.length≤sizeLine∧(p==sysModules)=false∧∃ vs,KV kvs vs∧s.heap.DictOf (ZaC X.prog X.w) p vs:=I.hok p _ hH
 rcases Zu7 (x:=z) rel with ⟨e1,_⟩ | ⟨v',u,e1,e2,rv⟩
 ·rw [e1] at hv;cases hv
 ·rw [e1] at hv
  cases hv
  refine subscriptTail_builtinR (x:=u) dd.typeIs PySem.F.slot_dict_getitem.lookup ?_ hs
  exact wpAny_getItem_of (knd:=ZaC X.prog X.w) (k:=Sum.inr z) (Q:=fun r s'=>r=u∧EP X pins σ Q r s') (by simp [ZaC,ZkE,Value.isStrOf]) dd.mapOf e2 ⟨rfl,_,H,I.tok _,rv,q⟩
def ixK (x y:W) (G:Hw):Option W:=match x,y with
 | .ref p,.str z=>(match G p with | some (.dct kvs)=>atT kvs z | _=>none)
 | _,_=>none
theorem ZwJ (x y:W) (v u:V) (G:Hw) (H:Hp) (Q:VK) (tx:Tr K H v x) (ty:Tr K H u y) (r:RelH K H G) (q:Zar ixK x y G (dn K H Q)):ZAg v u H Q:=by
 obtain ⟨w,e,q'⟩:=Zep q
 unfold ixK at e
 split at e
 ·rename_i p z
  split at e
  ·rename_i kvs hG
   cases tx
   cases ty
   obtain ⟨us,e1,l⟩:=r p _ hG
   rcases Zqv (x:=z) l with ⟨_,e2⟩ | ⟨v,u,e2,e3,tv⟩
   ·rw [e2] at e;cases e
   ·rw [e3] at e
    cases e
    exact ⟨p,us,z,v,rfl,rfl,e1,e2,q' _ H .refl tv r⟩
  ·cases e
 ·cases e
theorem Zfn {X:Cx} {a b:Expr} {pos:Pos} {ga gb:GE} (hs:Zkw b) (ha:Em X a ga) (hb:Em X b gb):Em X (.Subscript a b pos) (Zak (Zar ixK) ga gb):=⟨ZxS ZuD Zfl ha.m hb.m ZwJ ha.p hb.p hs,ZdU Zfl ha.m hb.m⟩
def ZlM {α:Type} (kvs:List (Key×α)) (k:Key) (v:α):List (Key×α):=if kvs.any (fun kv=>decide (kv.1=k)) then kvs.map (fun kv=>if kv.1=k then (kv.1,v) else kv) else kvs++[(k,v)]
theorem ZsX {α:Type} (kvs:List (Key×α)) (k:Key) (v:α):(ZlM kvs k v).length≤kvs.length+1:=by unfold ZlM;split <;> simp
theorem Ztt {k:Key}:∀ {kvs:List (Key×V)} {vs:List (Key×Value)},KV kvs vs→kvs.any (fun kv=>decide (kv.1=k))=vs.any (fun kv=>decide (kv.1=k))
 | _,_,.nil=>rfl
 | _,_,.cons ⟨e,_⟩ t=>by rw [List.any_cons,List.any_cons,Ztt t,e]
theorem ZtK {k:Key} {v:V} {u:Value} (r:RelV v u):∀ {kvs:List (Key×V)} {vs:List (Key×Value)},KV kvs vs→KV (kvs.map fun kv=>if kv.1=k then (kv.1,v) else kv) (vs.map fun kv=>if kv.1=k then (kv.1,u) else kv)
 | _,_,.nil=>.nil
 | (a,x)::_,(b,y)::_,.cons ⟨e,rv⟩ t=>by
  cases (show a=b from e)
  rw [List.map_cons,List.map_cons]
  refine .cons ?_ (ZtK r t)
  by_cases h:a=k
  ·rw [if_pos h,if_pos h];exact ⟨rfl,r⟩
  ·rw [if_neg h,if_neg h];exact ⟨rfl,rv⟩
theorem Ztm {k:Key} {v:V} {u:Value} (r:RelV v u):∀ {kvs:List (Key×V)} {vs:List (Key×Value)},KV kvs vs→KV (kvs++[(k,v)]) (vs++[(k,u)])
 | _,_,.nil=>.cons ⟨rfl,r⟩ .nil
 | _,_,.cons h t=>.cons h (Ztm r t)
theorem ZxA {k:Key} {v:V} {u:Value} (r:RelV v u) {kvs:List (Key×V)} {vs:List (Key×Value)} (h:KV kvs vs):KV (ZlM kvs k v) (stored vs k u):=by
 unfold ZlM stored
 rw [Ztt h]
 split
 ·exact ZtK r h
 ·exact Ztm r h
theorem Zq8 {k:Key}:∀ {vs:List (Key×V)} {ws:List (Key×W)},TrP K H vs ws→vs.any (fun kv=>decide (kv.1=k))=ws.any (fun kv=>decide (kv.1=k))
 | _,_,.nil=>rfl
 | _,_,.cons _ t=>by rw [List.any_cons,List.any_cons,Zq8 t]
theorem ZmT {k:Key} {v:V} {w:W} (r:Tr K H v w):∀ {vs:List (Key×V)} {ws:List (Key×W)},TrP K H vs ws→TrP K H (vs.map fun kv=>if kv.1=k then (kv.1,v) else kv) (ws.map fun kv=>if kv.1=k then (kv.1,w) else kv)
 | _,_,.nil=>.nil
 | (a,x)::_,(_,y)::_,.cons tv t=>by
  rw [List.map_cons,List.map_cons]
  by_cases h:a=k
  ·simp only [h,if_true];exact .cons r (ZmT r t)
  ·simp only [h,if_false];exact .cons tv (ZmT r t)
theorem Zpb {k:Key} {v:V} {w:W} (r:Tr K H v w):∀ {vs:List (Key×V)} {ws:List (Key×W)},TrP K H vs ws→TrP K H (vs++[(k,v)]) (ws++[(k,w)])
 | _,_,.nil=>.cons r .nil
 | _,_,.cons h t=>.cons h (Zpb r t)
theorem Zux {k:Key} {v:V} {w:W} (r:Tr K H v w) {vs:List (Key×V)} {ws:List (Key×W)} (h:TrP K H vs ws):TrP K H (ZlM vs k v) (ZlM ws k w):=by
 unfold ZlM
 rw [Zq8 h]
 split
 ·exact ZmT r h
 ·exact Zpb r h
theorem ZoZ:∀ {vs:List (Key×V)} {ws:List (Key×W)},TrP K H vs ws→vs.length=ws.length
 | _,_,.nil=>rfl
 | _,_,.cons _ t=>by rw [List.length_cons,List.length_cons,ZoZ t]
def ZxC:V→V→V→Hp→(Hp→Prop)→Prop:=fun o i v H Q=>∃ p kvs z,o=.ref p∧i=.str z∧H p=some (.dK kvs)∧kvs.length < sizeLine∧Q (upd H p (.dK (ZlM kvs (Sum.inr z) v)))
theorem ZsN {X:Cx}:ZzA X ZxC:=by
 intro pins s σ H o i v ov iv u Q I ro ri rv h
 obtain ⟨p,kvs,z,rfl,rfl,hp,hl,q⟩:=h
 cases ro
 obtain ⟨t,rfl⟩:=ri
 obtain ⟨_,hd,vs,rel,dd⟩:kvs.length≤sizeLine∧(p==sysModules)=false∧∃ vs,KV kvs vs∧s.heap.DictOf (ZaC X.prog X.w) p vs:=I.hok p _ hp
 have hlen:=Paired.length rel
 refine wpAny_setItem_pairs (knd:=ZaC X.prog X.w) (k:=Sum.inr z) (by simp [ZaC,ZkE,Value.isStrOf]) dd (fun h' dd' sb=>?_) (by omega)
 have he:∃ o,h'.get? p=some o:=by obtain ⟨o,_,_,ho,_⟩:=dd';exact ⟨o,ho⟩
 refine ⟨_,I.write (t':=s.toks+1) (x:=p) (e:=p) (o:=.dK (ZlM kvs (Sum.inr z) v)) (by rw [hp];trivial) (.inl rfl) (fun b w hb e=>(sb.2 b hb).trans e) he ?_,q⟩
 have:=ZsX kvs (Sum.inr z) v
 exact ⟨by omega,hd,_,ZxA rv rel,dd'⟩
def Zz2 (o k v:W) (G:Hw) (Q:Hw→Prop):Prop:=∃ p kvs z,o=.ref p∧k=.str z∧G p=some (.dct kvs)∧kvs.length < sizeLine∧Q (put G p (.dct (ZlM kvs (Sum.inr z) v)))
theorem ZuK {o k v:W} {x y u:V} {G:Hw} {Pq:Hw→Prop} {R:Hp→Prop} (tx:Tr K H x v) (ty:Tr K H y o) (tu:Tr K H u k) (r:RelH K H G) (q:Zz2 o k v G Pq) (f:∀ G4 H4,Mono K H H4→RelH K H4 G4→Pq G4→R H4):ZxC y u x H R:=by
 obtain ⟨p,kvs,z,rfl,rfl,e,e2,q⟩:=q
 cases ty
 cases tu
 obtain ⟨vs,e3,t⟩:=r p _ e
 have m:Mono K H (upd H p (.dK (ZlM vs (Sum.inr z) x))):=Mono.was e3 _ (fun _ z=>by cases z) (fun _ _ z=>by cases z)
 exact ⟨p,vs,z,rfl,rfl,e3,by rw [ZoZ t];exact e2,f _ _ m (RelH.laid (u:=.dct (ZlM kvs (Sum.inr z) v)) r m ⟨_,Zbk,(Zux tx t).mono m⟩) q⟩
def Zha (gv go gi:GE):GS:=fun D ω G=>gv ω G fun v G1=>go ω G1 fun o G2=>gi ω G2 fun k G3=>Zz2 o k v G3 fun G4=>D.nx ω G4
theorem Zuo {gv go gi:GE} (mv:gv.M) (mo:go.M) (mi:gi.M):GS.M (Zha gv go gi):=fun ω G D D' h1 _ _ _ q =>
 mv _ _ _ _ (fun v G1 z=>mo _ _ _ _ (fun o G2 z=>mi _ _ _ _ ((by rintro k G3 ⟨p,kvs,z,a1,a2,a3,a4,q⟩;exact ⟨p,kvs,z,a1,a2,a3,a4,h1 _ _ q⟩)) z) z) q
theorem ZdK {X:Cx} {P:Hp→Prop} {o i e:Expr} {gv go gi:GE} {pos pos':Pos} (ha:∀ v,assign (.Subscript o i pos') X.env v=(do
   let ov ← holding [v] (eval o X.env)
   let iv ← holding [v,ov] (eval i X.env)
   standAt pos'
   holding [v,ov,iv] (setItem ov iv v)
   release [v,ov,iv] [])) (hs:swapsWithSole [.Subscript o i pos'] e pos.line X.env=pure false) (hw:swappedStores [.Subscript o i pos'] e X.env=pure none)
  (h1:(assignEach [.Subscript o i pos'] X.env).map (·.2)=[assign (.Subscript o i pos') X.env]) (hv:Em X e gv) (ho:Em X o go) (hi:Em X i gi):Sm X P (.Assign [.Subscript o i pos'] e pos) (Zha gv go gi) :=
 ⟨fun B hB=>ZgD (Zth hv.p (Ztr ho.p hi.p ZsN ha) hs hw h1) fun D σ H ⟨ω,G,ts,r,mb,q⟩=>⟨ω,G,ts,r,hv.m _ _ _ _ (fun v G1 z x H1 m1 tx r1 =>
  ⟨ω,G1,ts.mono m1,r1,ho.m _ _ _ _ (fun ow G2 z2 y H2 m2 ty r2 =>
   ⟨ω,G2,(ts.mono m1).mono m2,r2,hi.m _ _ _ _ (fun k G3 z3 u H3 m3 tu r3 =>
    ZuK ((tx.mono m2).mono m3) (ty.mono m3) tu r3 z3 (fun G4 H4 m4 r4 q4=>q4 σ H4 ((((mb.trans m1).trans m2).trans m3).trans m4) ((((ts.mono m1).mono m2).mono m3).mono m4) r4)) z2⟩) z⟩) q⟩,Zuo hv.m ho.m hi.m⟩
def ZxE:TE:=fun _ H Q=>∀ l,H l=none→Q (.ref l) (upd H l (.dK []))
theorem Zry {X:Cx} {pos:Pos}:PE X (.Dict [] [] pos) ZxE:=by
 intro pins s σ H Q I h
 refine wpAny_Dict_empty ?_
 have big:sysModules < s.heap.objs.size:=by
  have h:mainGlobals < s.heap.objs.size:=(I.mod.glob.keeps I.bk).lt
  exact Nat.lt_trans (by decide) h
 have hn:=I.hok.fresh (Nat.le_refl s.heap.objs.size)
 have J:Inv X pins σ (upd H s.heap.objs.size (.dK [])) { s with heap:=s.heap.push { cls:=.type "dict",data:=.dict #[] },toks:=s.toks }:=I.laid (t':=s.toks) (fun b u e=>Heap.get?_push_of_some _ e) (Nat.le_refl _) (show ObjOk X.prog X.w _ _ _ (.dK _) from ⟨Nat.zero_le _,by simpa using Nat.ne_of_gt big,[],.nil,Heap.DictOf.new s.heap⟩)
 exact ⟨.ref _,_,J,rfl,h _ hn⟩
def Zlx:GE:=fun _ G Q=>∀ l,G l=none→Q (.ref l) (put G l (.dct []))
theorem ZcP {X:Cx} {pos:Pos}:Em X (.Dict [] [] pos) Zlx:=by
 refine ⟨Zbf Zry fun σ H Q ⟨ω,G,ts,r,q⟩ l hl=>?_,fun ω G Q Q' h q l hl=>h _ _ (q l hl)⟩
 exact q l (r.no hl) _ _ (Mono.new hl _) (.ref l) (RelH.laid r (Mono.new hl _) ⟨_,Zbk,.nil⟩)
end L3
namespace L3
open PySem PySem.Spec PyProof.Rows L2
section
variable {prog:Program} {w:World} {A:Around} {E:Value→Shared→Prop} {s:Shared}
theorem ZrC:typeLookup (.type "tuple") "keys"=pure none:=by rw [typeLookup_type,builtinLookup_eq_fast];kernel_rfl
set_option maxRecDepth 8000 in
theorem Zop {a:Addr} {xs:Array Value} {k:Nat} {sl:Array (Option Value)} {Q:Option Value→Shared→Prop} (hx:s.heap.get? a=some { cls:=.type "tuple",dict:=none,data:=.seq xs k,slots:=sl }) (hA:A.handled=none)
  (h:∀ h' tk,(∀ b o,s.heap.get? b=some o→h'.get? b=some o)→Q none { s with heap:=h',toks:=tk }):wpAny (model prog w) A (getAttr? (.ref a) "keys") Q E s:=by
 obtain ⟨hp,g,d,tk,os⟩:=s
 have hT:∀ tk',(⟨hp,g,d,tk',os⟩:Shared).TypeIs (.ref a) "tuple":=fun _=>⟨_,hx,rfl⟩
 have f1:=sub_AttributeError
 have f3:=F.slot_tuple_getattribute.lookup
 have f4:=F.slot_tuple_getattribute.bind (.ref a)
 have f5:=am_tuple_getattr_none
 unfold getAttr? getAttrBy? getAttrBy
 repeat (any_goals (first | assumption | exact hT _ | ((with_reducible show wpAny _ _ (call (Value.builtin "tuple.__getattribute__") _ _) _ _ _);refine call_meets F.slot_tuple_getattribute (hT _) am_entry_tuple_getattribute (F.args_tuple_getattribute_2 _ _) (meets_getattribute_miss_tuple a xs k sl "keys" _ ZrC (by decide +kernel) (by decide)) ⟨hx,hA,fun h' tk' e hx'=>?_⟩) | wp_step))
 obtain ⟨t',u',he⟩:=hx'.there
 have hT2:∀ tk',(⟨h',g,d,tk',os⟩:Shared).TypeIs (.ref e) "AttributeError":=fun _=>⟨_,he,rfl⟩
 show wpAny _ _ (getattributeRaised _ _ _ _ _ _ _) _ _ _
 unfold getattributeRaised
 repeat (any_goals (first | assumption | exact hT2 _ | wp_step))
 exact h _ _ hx'.of.keeps
theorem Zow {l:Addr} {items:Array Value} {n:Nat} {sl:Array (Option Value)} {ps:List (Str×Value)} {Q:Value→Shared→Prop} (hh:A.handled=none) (hl:s.heap.get? l=some { cls:=.type "tuple",dict:=none,data:=.seq items n,slots:=sl })
  (hit:∀ (j:Nat) (v:Value),items[j]?=some v→∃ p t y,v=.ref p∧ps[j]?=some y∧s.heap.IsTuple p #[.str y.1 t,y.2]) (hps:ps.length=items.size) (hsz:ps.length≤sizeLine) (hn:(ps.map (·.1)).Nodup)
  (h:∀ h' tk,h'.DictOf (ZaC prog w) s.heap.objs.size (ps.map fun y=>(Sum.inr y.1,y.2))→(∀ b o,b < s.heap.objs.size→s.heap.get? b=some o→h'.get? b=some o)→Q (.ref s.heap.objs.size) { s with heap:=h',toks:=tk }) :
  wpAny (model prog w) A (call (.type "dict") [.ref l]) Q E s:=by
 refine callType_codes (Q₁:=fun obj s₁=>obj=.ref s.heap.objs.size∧s₁={ s with heap:=s.heap.push { cls:=.type "dict",data:=.dict #[] } }) F.kt_called_dict (F.kt_typeCall_dict_1 _) F.entry_dict_init (kt_code_dict_new _ ⟨rfl,rfl⟩) ?_
 rintro obj s₁ ⟨rfl,rfl⟩
 have hnew:(s.heap.push { cls:=.type "dict",data:=.dict #[] }).DictOf (ZaC prog w) s.heap.objs.size []:=Heap.DictOf.new s.heap
 have hl1:(s.heap.push { cls:=.type "dict",data:=.dict #[] }).get? l=some { cls:=.type "tuple",dict:=none,data:=.seq items n,slots:=sl }:=Heap.get?_push_of_some _ hl
 refine ⟨hnew.typeIs,F.args_dict_init_2 _ _,?_⟩
 unfold Builtin.«dict.__init__»
 refine wpAny_bind ?_
 unfold Builtin.Dict.selfAndRest
 refine wpAny_bind (wpAny_notOrdered_dict hnew.typeIs ?_)
 show wpAny _ _ (pure (s.heap.objs.size,[Value.ref l])) _ _ _
 refine wpAny_pure ?_
 show wpAny _ _ (Builtin.Dict.updateFrom "dict.__init__" s.heap.objs.size (.ref l) [] .none) _ _ _
 unfold Builtin.Dict.updateFrom
 refine wpAny_bind (wpAny_typeOf (T:="tuple") ⟨_,hl1,rfl⟩ ?_)
 rw [if_pos (by decide)]
 refine wpAny_bind (Zop hl1 (by simp [hh]) fun h2 tk2 k2=>?_)
 simp only [Option.isNone_none,if_true]
 refine wpAny_bind (wpAny_rule ?_)
 have hl2:h2.IsTuple l items:=⟨_,k2 _ _ hl1,rfl,n,rfl⟩
 have hS2:h2.DictOf (ZaC prog w) s.heap.objs.size []:=by
  obtain ⟨o,es,ep,ho,r⟩:=hnew
  exact ⟨o,es,ep,k2 _ _ ho,r⟩
 have hlS:l < s.heap.objs.size:=Heap.lt_size hl
 have hS2s:s.heap.objs.size < h2.objs.size:=by
  obtain ⟨o,es,ep,ho,r⟩:=hS2
  exact Heap.lt_size ho
 refine wpAny_bind (wpAny_pyIter_tuple hl2 ?_)
 refine wpAny_pure ⟨plainId_quiet ZbP _,?_⟩
 have hneI:l≠h2.objs.size:=Nat.ne_of_lt (Nat.lt_trans hlS hS2s)
 have hSf:s.heap.objs.size∉[h2.objs.size,l]:=by
  walk_at "pd"
  exact ⟨Nat.ne_of_lt hS2s,Nat.ne_of_gt hlS⟩
 refine ZlO (A:=A.in1) ((Walks.tuple (by simp [hh]) _ l hneI items).toS) hSf (ps:=ps) hps (items.size - 0) 0 _ _ [] (by omega) (Nat.zero_le _) ⟨⟨_,Heap.get?_push_size _ rfl,rfl,rfl⟩,hl2.push _⟩ (hS2.push _) (by simp only [List.length_nil];omega) ?_ ?_
 ·intro j v _ _ hv
  obtain ⟨p,t,y,e1,e2,e3⟩:=hit j v hv
  have hp:p < s.heap.objs.size:=by obtain ⟨o,ho,_⟩:=e3;exact Heap.lt_size ho
  refine ⟨p,t,y,e1,?_,e2,(e3.at fun o e=>k2 _ _ (Heap.get?_push_of_some _ e)).push _⟩
  walk_at "pd"
  exact ⟨Nat.ne_of_lt hp,Nat.ne_of_lt (Nat.lt_trans hp hS2s)⟩
 ·intro s' hm hS'
  obtain ⟨h',g',d',tk',os'⟩:=s'
  obtain rfl:g'=s.gens:=hm.gens
  obtain rfl:d'=s.drawn:=hm.drawn
  obtain rfl:os'=s.os:=hm.os
  refine ⟨rfl,h h' tk' ?_ fun b o hb e=>?_⟩
  ·rw [List.drop_zero,merged_nil_of_nodup _ ?_] at hS'
   ·exact hS'
   ·rw [List.map_map]
    have:((fun x:Key×Value=>x.1)∘fun y:Str×Value=>((Sum.inr y.1:Key),y.2))=(fun x:Str=>(Sum.inr x:Key))∘(·.1):=rfl
    rw [this,← List.map_map]
    exact List.Pairwise.map _ (fun a b hab z=>hab (Sum.inr.inj z)) hn
  ·refine hm.heap b o ?_ (Heap.get?_push_of_some _ (k2 _ _ (Heap.get?_push_of_some _ e)))
   walk_at "pd"
   exact ⟨Nat.ne_of_lt hb,Nat.ne_of_lt (Nat.lt_trans hb hS2s)⟩
end
theorem Zj7 {X:Cx} (hc:X.calm=true):CallR X (.type "dict") (fun xs H Q=>∃ p ys pv,xs=[.ref p]∧SqT X.K H p ys∧PV X.K H ys pv∧(pv.map (·.1)).Nodup∧∀ l,H l=none→Q (.ref l) (upd H l (.dK (pv.map fun y=>((Sum.inr y.1:Key),y.2))))):=by
 walk_at "py"
 obtain ⟨p,ys,pv,rfl,hq,hpv,hn,q⟩:=h
 obtain ⟨u,rfl,rx⟩:=ZhB r
 cases rx
 obtain ⟨its,r',pl,hz⟩:=I.tupP hq
 obtain ⟨o,ho,hcl,hdi,n,hda⟩:=pl
 obtain ⟨oc,od,oda,osl⟩:=o
 simp only at hcl hdi hda
 subst hcl hdi hda
 obtain ⟨ps,h1,h2,h3,h4⟩:=Zmq I hpv r'
 have hl:=r'.length
 have hkl:=Paired.length h1
 rw [List.length_map,List.length_map] at hkl
 refine Zow (ps:=ps) (I.ok.hd hc) ho (fun j v hv=>h4 j v (by simpa using hv)) (by rw [List.size_toArray];exact h3) (by omega) (by rw [h2];exact hn) fun h' tk dd keep=>?_
 have big:sysModules < s.heap.objs.size:=by
  have h:mainGlobals < s.heap.objs.size:=(I.mod.glob.keeps I.bk).lt
  exact Nat.lt_trans (by decide) h
 have I2:Inv X pins σ (upd H s.heap.objs.size (.dK (pv.map fun y=>((Sum.inr y.1:Key),y.2)))) { s with heap:=h',toks:=tk } :=
  I.laid (t':=tk) (fun b u e=>keep b u (Heap.lt_size e) e) (Nat.le_refl _) (show ObjOk X.prog X.w _ _ _ (.dK _) from ⟨by rw [List.length_map];omega,by simpa using Nat.ne_of_gt big,_,h1,dd⟩)
 exact ⟨.ref s.heap.objs.size,_,I2,rfl,q _ (I.hok.fresh (Nat.le_refl _))⟩
def ZlX (ws:List W) (G:Hw) (Q:Kw):Prop:=∃ ps:List (Str×W),ws=[.tup (ps.map fun y=>.tup [.str y.1,y.2])]∧(ps.map (·.1)).Nodup∧∀ l,G l=none→Q (.ref l) (put G l (.dct (ps.map fun y=>((Sum.inr y.1:Key),y.2))))
theorem Zsz:RWc.M ZlX:=fun ws G Q Q' h ⟨ps,h1,h3,q⟩=>⟨ps,h1,h3,fun l hl=>h _ _ (q l hl)⟩
theorem Zqg {K:PySem.W.Frag}:UpC K ZlX (fun xs H Q=>∃ p ys pv,xs=[.ref p]∧SqT K H p ys∧PV K H ys pv∧(pv.map (·.1)).Nodup∧∀ l,H l=none→Q (.ref l) (upd H l (.dK (pv.map fun y=>((Sum.inr y.1:Key),y.2))))):=fun ws vs G H Q t r q=>by
 obtain ⟨ps,rfl,hn,q⟩:=q
 cases t with
 | cons tw t =>
  cases t
  cases tw with
  | tup hq l =>
   obtain ⟨pv,h1,h2⟩:=ZuC l
   refine ⟨_,_,pv,rfl,hq,h1,by rw [ZkU h2];exact hn,fun l hl=>?_⟩
   exact q l (r.no hl) _ _ (Mono.new hl _) (.ref l) (RelH.laid r (Mono.new hl _) ⟨_,Zbk,(ZmW h2).mono (Mono.new hl _)⟩)
theorem Zb5 {X:Cx} (hc:X.calm=true):Blt X (.type "dict") ZlX:=⟨⟨_,Zj7 hc,Zqg⟩,Zsz⟩
theorem ZiJ {prog:Program} {w:World} {z:Str} {v:Value} (h:(ZaC prog w).is (Sum.inr z) v=true):∃ t,v=.str z t:=by
 rcases Zbc (show ZkE (Sum.inr z) v=true from h) with ⟨i,t,e,_⟩ | ⟨x,t,e,rfl⟩
 ·cases e
 ·cases e;exact ⟨t,rfl⟩
theorem Zhs {prog:Program} {w:World}:∀ {zs:List Str} {kvs:List (Key×Value)} {its:List Value},kvs.map (·.1)=zs.map Sum.inr→its.length=kvs.length→(∀ (j:Nat) (v:Value),its[j]?=some v→∃ k x,kvs[j]?=some (k,x)∧(ZaC prog w).is k v=true)→Vals (zs.map V.str) its
 | [],[],its,_,hl,_=>by
  cases its with
  | nil=>exact .nil
  | cons _ _=>cases hl
 | z::zs,(k,x)::kvs,its,e,hl,h=>by
  cases its with
  | nil=>cases hl
  | cons v its =>
   rw [List.map_cons,List.map_cons] at e
   obtain ⟨e1,e2⟩:=List.cons.inj e
   obtain ⟨k',x',h1,h2⟩:=h 0 v rfl
   cases h1
   cases (show k=Sum.inr z from e1)
   obtain ⟨t,rfl⟩:=ZiJ h2
   refine .cons ⟨t,rfl⟩ (Zhs (prog:=prog) (w:=w) e2 (Nat.succ.inj hl) fun j u hu=>?_)
   obtain ⟨k',x',h1,h2⟩:=h (j+1) u (by simpa using hu)
   exact ⟨k',x',by simpa using h1,h2⟩
theorem ZmD:∀ {kvs:List (Key×V)} {vs:List (Key×Value)},KV kvs vs→vs.map (·.1)=kvs.map (·.1)
 | _,_,.nil=>rfl
 | _,_,.cons h t=>by rw [List.map_cons,List.map_cons,ZmD t,h.1]
theorem ZoG {X:Cx} (hc:X.calm=true):CallR X (.type "list") (fun xs H Q=>∃ (p:Addr) (kvs:List (Key×V)) (zs:List Str),xs=[.ref p]∧H p=some (.dK kvs)∧kvs.map (·.1)=zs.map Sum.inr∧∀ l,H l=none→Q (.ref l) (upd H l (.lst (zs.map V.str)))):=by
 walk_at "py"
 obtain ⟨p,kvs,zs,rfl,hH,hk,q⟩:=h
 obtain ⟨u,rfl,rx⟩:=ZhB r
 cases rx
 obtain ⟨hz,hd,vs,rel,dd⟩:kvs.length≤sizeLine∧(p==sysModules)=false∧∃ vs,KV kvs vs∧s.heap.DictOf (ZaC X.prog X.w) p vs:=I.hok p _ hH
 have hl:=Paired.length rel
 obtain ⟨ep,hat⟩:=dd.dictAt
 have hkv:vs.map (·.1)=zs.map Sum.inr:=by rw [← hk,ZmD rel]
 refine PySem.W.kdl_call (PySem.W.kdl_dict (knd:=ZaC X.prog X.w) (kvs:=vs) (ep:=ep) hd) (I.ok.hd hc) hat (by omega) fun h' tk acc c keep hS hacc=>?_
 have hv:Vals (zs.map V.str) acc.toList:=Zhs (prog:=X.prog) (w:=X.w) hkv (by rw [Array.length_toList];exact hacc.1) fun j v e=>hacc.2 j v (by rw [← Array.getElem?_toList];exact e)
 have hzl:zs.length=vs.length:=by have:=congrArg List.length hkv;simpa using this.symm
 have J:Inv X pins σ (upd H s.heap.objs.size (.lst (zs.map V.str))) { s with heap:=h',toks:=tk }:=I.laid (t':=tk) keep (Nat.le_refl _) (show ObjOk X.prog X.w _ h' _ (.lst (zs.map V.str)) from ⟨by rw [List.length_map];omega,acc.toList,c,hv,by simpa using hS⟩)
 exact ⟨.ref s.heap.objs.size,_,J,rfl,q _ (I.hok.fresh (Nat.le_refl _))⟩
def Zll (ws:List W) (G:Hw) (Q:Kw):Prop:=∃ (p:Addr) (kvs:List (Key×W)) (zs:List Str),ws=[.ref p]∧G p=some (.dct kvs)∧kvs.map (·.1)=zs.map Sum.inr∧∀ l,G l=none→Q (.ref l) (put G l (.lst (zs.map W.str)))
theorem ZrK:RWc.M Zll:=fun ws G Q Q' h ⟨p,kvs,zs,h1,h2,h3,q⟩=>⟨p,kvs,zs,h1,h2,h3,fun l hl=>h _ _ (q l hl)⟩
theorem Zko {K:PySem.W.Frag} {H:Hp}:∀ {vs:List (Key×V)} {ws:List (Key×W)},TrP K H vs ws→vs.map (·.1)=ws.map (·.1)
 | _,_,.nil=>rfl
 | _,_,.cons _ t=>by rw [List.map_cons,List.map_cons,Zko t]
theorem ZoY {K:PySem.W.Frag}:UpC K Zll (fun xs H Q=>∃ (p:Addr) (kvs:List (Key×V)) (zs:List Str),xs=[.ref p]∧H p=some (.dK kvs)∧kvs.map (·.1)=zs.map Sum.inr∧∀ l,H l=none→Q (.ref l) (upd H l (.lst (zs.map V.str)))):=fun ws vs G H Q t r q=>by
 obtain ⟨p,kvs,zs,rfl,hG,hk,q⟩:=q
 cases t with
 | cons tw t =>
  cases t
  cases tw
  obtain ⟨us,e1,l⟩:=r p _ hG
  refine ⟨p,us,zs,rfl,e1,by rw [Zko l];exact hk,fun l hl=>?_⟩
  exact q l (r.no hl) _ _ (Mono.new hl _) (.ref l) (r.new hl (ZkJ zs))
theorem Zb7 {X:Cx} (hc:X.calm=true):Blt X (.type "list") Zll:=⟨⟨_,ZoG hc,ZoY⟩,ZrK⟩
def ZyA (g:GE):GE:=fun ω G Q=>g ω G fun x G1=>∃ i,x=.int i∧Q (.int (-i)) G1
theorem Zw0 {g:GE} (m:g.M):GE.M (ZyA g):=fun ω G Q Q' h q=>m _ _ _ _ (by rintro x G1 ⟨i,e,z⟩;exact ⟨i,e,h _ _ z⟩) q
theorem ZxV {X:Cx} {a:Expr} {g:GE} {pos:Pos} (h:Em X a g):Em X (.UnaryOp .USub a pos) (ZyA g) :=
 ⟨Zbf (ZzT Zyw h.p) fun σ H Q ⟨ω,G,ts,r,q⟩=>⟨ω,G,ts,r,h.m _ _ _ _ (fun x G1 z v H1 m t r1=>by
  obtain ⟨i,rfl,z⟩:=z
  cases t
  exact ⟨_,rfl,z _ _ m (.int _) r1⟩) q⟩,Zw0 h.m⟩
end L3
namespace L3
open PySem PySem.Spec PyProof.Rows L2
variable {K:PySem.W.Frag} {H H' H2:Hp}
section
variable {X:Cx} {e:Expr} {p pc pd pt pos:Pos} {ge:GE}
end
end L3
namespace L3
open PySem PySem.Spec PyProof.Rows L2
def ev {α:Type} (lt:Nat→Nat→Bool) (n:Nat):PySem.W.KasT α→Option α
 | .ret a=>some a
 | .ask i j k=>if i≠j∧i < n∧j < n then ev lt n (k (lt i j)) else none
theorem Zw4 {α:Type} {lt:Nat→Nat→Bool} {n:Nat} {cmp:Nat→Nat→(Bool→Shared→Prop)→Shared→Prop} {s:Shared} (hc:∀ i j (C:Bool→Shared→Prop),i≠j→i < n→j < n→C (lt i j) s→cmp i j C s):∀ (t:PySem.W.KasT α) {a:α} {Q:α→Shared→Prop},ev lt n t=some a→Q a s→t.kasWp cmp Q s
 | .ret b,a,Q,e,q=>by cases e;exact q
 | .ask i j k,a,Q,e,q=>by
  have e':(if i≠j∧i < n∧j < n then ev lt n (k (lt i j)) else none)=some a:=e
  by_cases h:i≠j∧i < n∧j < n
  ·rw [if_pos h] at e'
   exact hc i j _ h.1 h.2.1 h.2.2 (Zw4 hc (k (lt i j)) e' q)
  ·rw [if_neg h] at e';cases e'
theorem ZnG {α:Type} {lt lt':Nat→Nat→Bool} {n:Nat} (h:∀ i j,i < n→j < n→lt i j=lt' i j):∀ t:PySem.W.KasT α,ev lt n t=ev lt' n t
 | .ret a=>rfl
 | .ask i j k=>by
  show (if i≠j∧i < n∧j < n then ev lt n (k (lt i j)) else none)=(if i≠j∧i < n∧j < n then ev lt' n (k (lt' i j)) else none)
  by_cases z:i≠j∧i < n∧j < n
  ·rw [if_pos z,if_pos z,h i j z.2.1 z.2.2,ZnG h (k (lt' i j))]
  ·rw [if_neg z,if_neg z]
def Zyk (x:Nat):List Nat→List (List Nat)
 | []=>[[x]]
 | y::l=>(x::y::l)::(Zyk x l).map (y::·)
def prm:Nat→List (List Nat)
 | 0=>[[]]
 | n+1=>(prm n).flatMap (Zyk n)
def okR (n:Nat) (r:List Nat):Bool:=match ev (fun i j=>decide (r.getD i 0 < r.getD j 0)) n (PySem.W.kas_sort n) with
 | some p=>(p.toList.map (fun i=>r.getD i 0)==List.range n)&&p.toList.all (fun i=>decide (i < n))
 | none=>false
theorem ZAv:([2,3,4,5,6].all fun n=>(prm n).all (okR n))=true:=by decide +kernel
def sl7 (i:Nat):Bool:=(((prm 6).drop (72*i)).take 72).all fun r=>(Zyk 6 r).all (okR 7)
theorem ZAF:sl7 0=true:=by decide +kernel
theorem ZAp:sl7 1=true:=by decide +kernel
theorem ZA8:sl7 2=true:=by decide +kernel
theorem ZAJ:sl7 3=true:=by decide +kernel
theorem ZA3:sl7 4=true:=by decide +kernel
theorem ZAE:sl7 5=true:=by decide +kernel
theorem ZAI:sl7 6=true:=by decide +kernel
theorem ZAP:sl7 7=true:=by decide +kernel
theorem ZAQ:sl7 8=true:=by decide +kernel
theorem ZA1:sl7 9=true:=by decide +kernel
theorem Ztl {α:Type} {f:α→Bool} {n:Nat}:∀ (k:Nat) (l:List α),l.length≤n*k→(∀ i,i < k→((l.drop (n*i)).take n).all f=true)→l.all f=true
 | 0,l,h,_=>by
  have:l=[]:=List.eq_nil_of_length_eq_zero (by omega)
  rw [this];rfl
 | k+1,l,h,hs=>by
  have h0:=hs 0 (by omega)
  rw [Nat.mul_zero,List.drop_zero] at h0
  have h1:=Ztl k (l.drop n) (by rw [List.length_drop];rw [Nat.mul_succ] at h;generalize n*k=m at h ⊢;omega) fun i hi=>by
   have:=hs (i+1) (by omega)
   rw [List.drop_drop]
   rw [show n*(i+1)=n+n*i by rw [Nat.mul_succ,Nat.add_comm]] at this
   exact this
  rw [← List.take_append_drop n l,List.all_append,h0,h1];rfl
theorem ZAL:(prm 6).length≤72*10:=by decide +kernel
theorem ZA6:(prm 7).all (okR 7)=true:=by
 show ((prm 6).flatMap (Zyk 6)).all (okR 7)=true
 rw [List.all_flatMap]
 refine Ztl 10 (prm 6) ZAL fun i hi=>?_
 have:i=0∨i=1∨i=2∨i=3∨i=4∨i=5∨i=6∨i=7∨i=8∨i=9:=by omega
 rcases this with rfl | rfl | rfl | rfl | rfl | rfl | rfl | rfl | rfl | rfl
 ·exact ZAF
 ·exact ZAp
 ·exact ZA8
 ·exact ZAJ
 ·exact ZA3
 ·exact ZAE
 ·exact ZAI
 ·exact ZAP
 ·exact ZAQ
 ·exact ZA1
theorem ZAK:([2,3,4,5,6,7].all fun n=>(prm n).all (okR n))=true:=by
 refine List.all_eq_true.mpr fun n hn=>?_
 by_cases e:n=7
 ·rw [e];exact ZA6
 ·refine List.all_eq_true.mp ZAv n ?_
  simp only [List.mem_cons,List.not_mem_nil,or_false] at hn ⊢
  omega
theorem ZoW (x:Nat):∀ l1 l2:List Nat,l1++x::l2∈Zyk x (l1++l2)
 | [],[]=>List.mem_cons_self
 | [],y::l=>List.mem_cons_self
 | y::l1,l2=>List.mem_cons_of_mem _ (List.mem_map.mpr ⟨_,ZoW x l1 l2,rfl⟩)
theorem ZqF:∀ (n:Nat) (r:List Nat),r.Perm (List.range n)→r∈prm n
 | 0,r,h=>by
  have:r=[]:=List.Perm.eq_nil h
  subst this;exact List.mem_cons_self
 | n+1,r,h=>by
  rw [List.range_succ] at h
  have hm:n∈r:=h.mem_iff.mpr (by simp)
  obtain ⟨l1,l2,rfl⟩:=List.append_of_mem hm
  have h2:(n::(l1++l2)).Perm (n::List.range n):=(List.perm_middle.symm.trans h).trans List.perm_append_comm
  have ih:=ZqF n (l1++l2) (List.Perm.cons_inv h2)
  exact List.mem_flatMap.mpr ⟨_,ih,ZoW n l1 l2⟩
theorem Zj5 (a:Str):ZaA a a=false:=by
 unfold ZaA
 exact decide_eq_false (List.lt_irrefl _)
theorem ZtQ {a b c:Str} (h1:ZaA a b=true) (h2:ZaA b c=true):ZaA a c=true:=by
 unfold ZaA at h1 h2 ⊢
 exact decide_eq_true (List.lt_trans (of_decide_eq_true h1) (of_decide_eq_true h2))
theorem Zuu {x y:Str} (h:ZaA x y=false) (hne:x≠y):ZaA y x=true:=by
 unfold ZaA at h ⊢
 refine decide_eq_true ?_
 have h1:y.cps.toList≤x.cps.toList:=of_decide_eq_false h
 rcases List.le_iff_lt_or_eq.mp h1 with z | z
 ·exact z
 ·exact absurd (by cases x;cases y;congr 1;exact (Array.toList_inj.mp z).symm) hne
abbrev Rs (xs:List Str):Prop:=xs.Pairwise (fun x y=>ZaA x y=true)
theorem Zwr (x:Str):∀ zs:List Str,x∉zs→Rs zs→∃ ys:List Str,Rs ys∧ys.Perm (x::zs)
 | [],_,_=>⟨[x],.cons (fun _ h=>by cases h) .nil,.refl _⟩
 | z::zs,hx,h=>by
  obtain ⟨h1,h2⟩:=List.pairwise_cons.mp h
  cases hl:ZaA x z with
  | true =>
   refine ⟨x::z::zs,.cons (fun y hy=>?_) h,.refl _⟩
   walk_at "ps"
   ·exact hl
   ·exact ZtQ hl (h1 y hy)
  | false =>
   obtain ⟨ys,p,m⟩:=Zwr x zs (fun q=>hx (List.mem_cons_of_mem _ q)) h2
   refine ⟨z::ys,.cons (fun y hy=>?_) p,(m.cons z).trans (.swap x z zs)⟩
   rcases List.mem_cons.mp (m.mem_iff.mp hy) with rfl | hy
   ·exact Zuu hl fun e=>hx (by rw [e];exact List.mem_cons_self)
   ·exact h1 y hy
theorem ZxG:∀ xs:List Str,xs.Nodup→∃ ys:List Str,Rs ys∧ys.Perm xs
 | [],_=>⟨[],.nil,.refl _⟩
 | x::xs,h=>by
  obtain ⟨h1,h2⟩:=List.nodup_cons.mp h
  obtain ⟨ys,p,m⟩:=ZxG xs h2
  obtain ⟨zs,p',m'⟩:=Zwr x ys (fun q=>h1 (m.mem_iff.mp q)) p
  exact ⟨zs,p',m'.trans (m.cons x)⟩
def idx:List Str→Str→Nat
 | [],_=>0
 | y::ys,x=>if y=x then 0 else idx ys x+1
theorem ZiO:∀ ys:List Str,ys.Nodup→ys.map (idx ys)=List.range ys.length
 | [],_=>rfl
 | y::ys,h=>by
  obtain ⟨h1,h2⟩:=List.nodup_cons.mp h
  rw [List.map_cons,List.length_cons,List.range_succ_eq_map,← ZiO ys h2,List.map_map]
  congr 1
  ·exact if_pos rfl
  ·refine List.map_congr_left fun x hx=>?_
   exact if_neg fun e=>h1 (by rw [e];exact hx)
theorem Zpj:∀ {ys:List Str} {x y:Str},x∈ys→y∈ys→idx ys x=idx ys y→x=y
 | z::ys,x,y,hx,hy,h=>by
  have h':(if z=x then 0 else idx ys x+1)=(if z=y then 0 else idx ys y+1):=h
  by_cases a:z=x
  ·by_cases b:z=y
   ·exact a.symm.trans b
   ·rw [if_pos a,if_neg b] at h';cases h'
  ·by_cases b:z=y
   ·rw [if_neg a,if_pos b] at h';cases h'
   ·rw [if_neg a,if_neg b] at h'
    exact Zpj ((List.mem_cons.mp hx).resolve_left fun e=>a e.symm) ((List.mem_cons.mp hy).resolve_left fun e=>b e.symm) (Nat.succ.inj h')
theorem Zt2:∀ {ys:List Str} {x y:Str},Rs ys→x∈ys→y∈ys→ZaA x y=decide (idx ys x < idx ys y)
 | z::ys,x,y,h,hx,hy=>by
  obtain ⟨h1,h2⟩:=List.pairwise_cons.mp h
  show ZaA x y=decide ((if z=x then 0 else idx ys x+1) < (if z=y then 0 else idx ys y+1))
  by_cases a:z=x
  ·by_cases b:z=y
   ·rw [if_pos a,if_pos b,← a,← b,Zj5];rfl
   ·rw [if_pos a,if_neg b,← a,h1 y ((List.mem_cons.mp hy).resolve_left fun e=>b e.symm)]
    exact (decide_eq_true (Nat.succ_pos _)).symm
  ·have hx':=(List.mem_cons.mp hx).resolve_left fun e=>a e.symm
   by_cases b:z=y
   ·rw [if_neg a,if_pos b,← b]
    have:ZaA x z=false:=by
     cases e:ZaA x z with
     | false=>rfl
     | true=>have:=ZtQ (h1 x hx') e;rw [Zj5] at this;cases this
    rw [this]
    exact (decide_eq_false (Nat.not_lt_zero _)).symm
   ·rw [if_neg a,if_neg b,Zt2 h2 hx' ((List.mem_cons.mp hy).resolve_left fun e=>b e.symm)]
    simp
theorem Zjl {α β:Type} {f:α→β}:∀ {xs ys:List α},(∀ x∈xs,∀ y∈ys,f x=f y→x=y)→xs.map f=ys.map f→xs=ys
 | [],[],_,_=>rfl
 | [],_::_,_,h=>by cases h
 | _::_,[],_,h=>by cases h
 | x::xs,y::ys,hf,h=>by
  rw [List.map_cons,List.map_cons] at h
  injection h with e1 e2
  rw [hf x List.mem_cons_self y List.mem_cons_self e1,Zjl (fun a ha b hb=>hf a (List.mem_cons_of_mem _ ha) b (List.mem_cons_of_mem _ hb)) e2]
theorem Zgn {α:Type} {l:List α} {d:α} {i:Nat} (h:i < l.length):l.getD i d∈l:=by
 have e:l.getD i d=l[i]:=by simp [h]
 rw [e];exact List.getElem_mem h
theorem ZuL {ns:List Str} (hn:ns.Nodup) (h2:2≤ns.length) (h6:ns.length≤7):∃ p:Array Nat,ev (fun i j=>ZaA (ns.getD i "") (ns.getD j "")) ns.length (PySem.W.kas_sort ns.length)=some p∧(∀ i∈p.toList,i < ns.length)∧Rs (p.toList.map fun i=>ns.getD i "")∧∀ x,x∈(p.toList.map fun i=>ns.getD i "")↔x∈ns:=by
 obtain ⟨ys,hy,hp⟩:=ZxG ns hn
 have hyn:ys.Nodup:=hp.nodup_iff.mpr hn
 have hr:(ns.map (idx ys)).Perm (List.range ns.length):=by
  rw [← hp.length_eq,← ZiO ys hyn]
  exact (hp.map _).symm
 have hm:=ZqF _ _ hr
 have hk:okR ns.length (ns.map (idx ys))=true:=by
  have h:=List.all_eq_true.mp ZAK ns.length (by
   have:ns.length=2∨ns.length=3∨ns.length=4∨ns.length=5∨ns.length=6∨ns.length=7:=by omega
   rcases this with e | e | e | e | e | e <;> rw [e] <;> decide)
  exact List.all_eq_true.mp h _ hm
 have eg:∀ i,i < ns.length→(ns.map (idx ys)).getD i 0=idx ys (ns.getD i ""):=fun i hi=>by simp [hi]
 have el:ev (fun i j=>ZaA (ns.getD i "") (ns.getD j "")) ns.length (PySem.W.kas_sort ns.length)=ev (fun i j=>decide ((ns.map (idx ys)).getD i 0 < (ns.map (idx ys)).getD j 0)) ns.length (PySem.W.kas_sort ns.length):=ZnG (fun i j hi hj=>by
  rw [eg i hi,eg j hj]
  exact Zt2 hy (hp.mem_iff.mpr (Zgn hi)) (hp.mem_iff.mpr (Zgn hj))) _
 unfold okR at hk
 rw [← el] at hk
 cases e:ev (fun i j=>ZaA (ns.getD i "") (ns.getD j "")) ns.length (PySem.W.kas_sort ns.length) with
 | none=>rw [e] at hk;cases hk
 | some p =>
  rw [e] at hk
  have hk':((p.toList.map (fun i=>(ns.map (idx ys)).getD i 0)==List.range ns.length)&&p.toList.all (fun i=>decide (i < ns.length)))=true:=hk
  rw [Bool.and_eq_true] at hk'
  have k1:=eq_of_beq hk'.1
  have k2:∀ i∈p.toList,i < ns.length:=fun i hi=>of_decide_eq_true (List.all_eq_true.mp hk'.2 i hi)
  have ez:(p.toList.map fun i=>ns.getD i "")=ys:=by
   refine Zjl (f:=idx ys) (fun x hx y hy' h=>?_) ?_
   ·obtain ⟨i,hi,rfl⟩:=List.mem_map.mp hx
    exact Zpj (hp.mem_iff.mpr (Zgn (k2 i hi))) hy' h
   ·rw [ZiO ys hyn,hp.length_eq,← k1,List.map_map]
    exact List.map_congr_left fun i hi=>(eg i (k2 i hi)).symm
  refine ⟨p,rfl,k2,?_,fun x=>?_⟩
  ·rw [ez];exact hy
  ·rw [ez];exact hp.mem_iff
def ZoM (h:Heap) (v:Value) (n:Str):Prop:=∃ b o xs k t,v=.ref b∧h.get? b=some o∧o.cls=.type "tuple"∧o.data=.seq xs k∧xs[0]?=some (Value.str n t)
section
variable {prog:Program} {w:World} {A:Around} {E:Value→Shared→Prop} {s:Shared}
theorem Zjp {xs:Array Value} {v:Value} (h:xs[0]?=some v):∃ r,xs.toList=v::r:=by
 have h':xs.toList[0]?=some v:=by simpa using h
 cases e:xs.toList with
 | nil=>rw [e] at h';cases h'
 | cons y r=>rw [e] at h';cases h';exact ⟨r,rfl⟩
theorem ZxL {vs:List Value} {ns:List Str} (ht:∀ i,i < ns.length→ZoM s.heap (vs.getD i Value.none) (ns.getD i "")) (hn:ns.Nodup) {i j:Nat} {C:Bool→Shared→Prop} (hij:i≠j) (hi:i < ns.length) (hj:j < ns.length) (h:C (ZaA (ns.getD i "") (ns.getD j "")) s) :
  PySem.W.kas_ask prog w A (tuples' true) vs i j C s:=by
 obtain ⟨b1,o1,x1,k1,t1,e1,g1,_,d1,f1⟩:=ht i hi
 obtain ⟨b2,o2,x2,k2,t2,e2,g2,_,d2,f2⟩:=ht j hj
 unfold PySem.W.kas_ask
 rw [e1,e2]
 refine PySem.W.kat_lt g1 d1 g2 d2 ?_
 obtain ⟨r1,l1⟩:=Zjp f1
 obtain ⟨r2,l2⟩:=Zjp f2
 rw [l1,l2,List.zip_cons_cons]
 have hne:ns.getD i ""≠ns.getD j "":=by
  have a1:ns.getD i ""=ns[i]:=by simp [hi]
  have a2:ns.getD j ""=ns[j]:=by simp [hj]
  rw [a1,a2]
  have pw:=List.pairwise_iff_getElem.mp hn
  rcases Nat.lt_or_gt_of_ne hij with z | z
  ·exact pw i j hi hj z
  ·exact fun q=>pw j i hj hi z q.symm
 refine PySem.W.kat_cons (wpAny_eqBool_str ?_)
 rw [decide_eq_false hne]
 refine PySem.W.kat_no ?_
 show wpAny (model prog w) A (oneLt' true (.str (ns.getD i "") t1) (.str (ns.getD j "") t2)) _ _ s
 exact oneLt_str h
theorem ZtF {h:Heap}:∀ {vs:List Value} {ns:List Str},ns.length=vs.length→(∀ i,i < ns.length→ZoM h (vs.getD i Value.none) (ns.getD i ""))→∃ fs:List Value,PySem.W.KatTups h vs fs∧fs.length=vs.length∧∀ v∈fs,∃ x t,v=Value.str x t
 | [],[],_,_=>⟨[],trivial,rfl,fun v hv=>by cases hv⟩
 | [],_::_,e,_=>by cases e
 | _::_,[],e,_=>by cases e
 | v::vs,n::ns,e,ht=>by
  obtain ⟨b,o,xs,k,t,e1,g,c,d,f⟩:=ht 0 (by simp)
  obtain ⟨fs,h1,h2,h3⟩:=ZtF (vs:=vs) (ns:=ns) (by simpa using e) fun i hi=>by
   have:=ht (i+1) (by simp only [List.length_cons];omega)
   simpa using this
  have e1':v=.ref b:=by simpa using e1
  refine ⟨.str n t::fs,⟨⟨b,o,xs,k,e1',g,c,d,by simpa using f⟩,h1⟩,by rw [List.length_cons,List.length_cons,h2],fun u hu=>?_⟩
  rcases List.mem_cons.mp hu with rfl | hu
  ·exact ⟨_,_,rfl⟩
  ·exact h3 u hu
theorem ZgZ {α:Type} (d:α):∀ l:List α,(List.range l.length).map (fun i=>l.getD i d)=l:=fun l=>by
 apply List.ext_getElem?
 intro i
 rw [List.getElem?_map]
 by_cases h:i < l.length
 ·simp [h]
 ·rw [List.getElem?_eq_none (by simpa using h),List.getElem?_eq_none (by omega)];rfl
theorem Zkf {a:Addr} {vs:List Value} {ns:List Str} {n:Nat} {P:PySem.Fin→Shared→Prop} (ho:s.heap.get? a=some (seqObj "list" vs.toArray n)) (hl:ns.length=vs.length) (ht:∀ i,i < ns.length→ZoM s.heap (vs.getD i Value.none) (ns.getD i "")) (hn:ns.Nodup) (h6:vs.length≤7)
  (h:∀ ps:List Nat,(∀ i∈ps,i < ns.length)→Rs (ps.map fun i=>ns.getD i "")→(∀ x,x∈(ps.map fun i=>ns.getD i "")↔x∈ns)→P (.done (.ret .none)) { s with heap:=sortedHeap s.heap a vs (List.toArray (ps.map fun i=>vs.getD i Value.none)) }) :
  wpAny (model prog w) A (Builtin.«list.sort» ⟨[.ref a],[]⟩) P E s:=by
 rw [list_sort_plain]
 have ha:a < s.heap.objs.size:=Heap.lt_size ho
 have hsl:vs.length≤sizeLine:=Nat.le_trans h6 (by decide)
 refine wpAny_bind (listItems_at ho rfl ?_)
 refine wpAny_bind (listUpdate_at ho rfl ?_ (by rw [List.size_toArray];exact hsl) (Nat.zero_le _))
 obtain ⟨e1,ho1⟩:∃ e1,(s.heap.update a (Obj.mapSeq fun _=>(#[]:Array Value))).get? a=some (seqObj "list" #[] e1):=⟨_,get?_update_seq ho (fun _=>#[])⟩
 refine wpAny_bind (seqEpoch_at ho1 rfl ?_)
 refine wpAny_bind (wpAny_newTuple ?_ (by show vs.length≤_;exact hsl))
 refine wpAny_bind (wpAny_newList ?_ (Nat.zero_le _))
 refine wpAny_holding ?_
 have ho6:(((s.heap.update a (Obj.mapSeq fun _=>(#[]:Array Value))).push (seqObj "tuple" vs.toArray 0)).push (seqObj "list" #[] 0)).get? a=some (seqObj "list" #[] e1):=Heap.get?_push_of_some _ (Heap.get?_push_of_some _ ho1)
 show wpAny (model prog w) A _ P E { s with heap:=((s.heap.update a (Obj.mapSeq fun _=>(#[]:Array Value))).push (seqObj "tuple" vs.toArray 0)).push (seqObj "list" #[] 0) }
 dsimp only
 have fin:∀ ps:List Nat,ps.length≤7→(∀ i∈ps,i < ns.length)→Rs (ps.map fun i=>ns.getD i "")→(∀ x,x∈(ps.map fun i=>ns.getD i "")↔x∈ns)→∀ out:Array Value,out=List.toArray (ps.map fun i=>vs.getD i Value.none)→P (.done (.ret .none)) { s with heap:=sortedHeap s.heap a vs out }:=fun ps _ h1 h2 h3 out e=>by rw [e];exact h ps h1 h2 h3
 by_cases h2:vs.toArray.size < 2
 ·rw [if_pos h2,if_pos h2]
  refine wpAny_bind (wpAny_pure ?_)
  rw [StateT.run_pure]
  refine wpAny_bind (wpAny_pure ?_)
  dsimp only
  have hout:(Array.map (fun x:Value×Value=>x.2) (vs.toArray.zip vs.toArray))=vs.toArray:=by
   apply Array.toList_inj.mp
   simp [List.map_snd_zip]
  refine wpAny_bind (seqEpoch_at ho6 rfl ?_)
  refine wpAny_bind (listUpdate_at ho6 rfl ?_ (Nat.zero_le _) (by show (Array.map (fun x:Value×Value=>x.2) (vs.toArray.zip vs.toArray)).size≤_;rw [hout,List.size_toArray];exact Nat.le_trans h6 (by decide)))
  simp only [bne_self_eq_false,Bool.false_eq_true,if_false]
  have h2':vs.length < 2:=by simpa using h2
  refine wpAny_pure (fin (List.range ns.length) (by rw [List.length_range];omega) (fun i hi=>List.mem_range.mp hi) ?_ (fun x=>by rw [ZgZ]) _ ?_)
  ·rw [ZgZ]
   have hn2:ns.length < 2:=by omega
   match ns,hn2 with
   | [],_=>exact .nil
   | [_],_=>exact .cons (fun _ z=>by cases z) .nil
   | _::_::_,z=>exact absurd z (by simp only [List.length_cons];omega)
  ·rw [hl,ZgZ]
   exact hout
 ·rw [if_neg h2,if_neg h2]
  have h2':2≤vs.length:=by simp only [List.size_toArray] at h2;omega
  obtain ⟨p,pe,p1,p2,p3⟩:=ZuL hn (by omega) (by omega)
  have ht':∀ i,i < ns.length→ZoM (((s.heap.update a (Obj.mapSeq fun _=>(#[]:Array Value))).push (seqObj "tuple" vs.toArray 0)).push (seqObj "list" #[] 0)) (vs.getD i Value.none) (ns.getD i ""):=fun i hi=>by
   obtain ⟨b,o,xs,k,t,e,g,c,d,f⟩:=ht i hi
   have hb:b≠a:=fun z=>by subst z;rw [ho] at g;cases g;exact absurd (show Value.type "list"=.type "tuple" from c) (by decide)
   exact ⟨b,o,xs,k,t,e,Heap.get?_push_of_some _ (Heap.get?_push_of_some _ ((Heap.get?_update_other _ _ (Ne.symm hb)).trans g)),c,d,f⟩
  generalize hS:({ s with heap:=((s.heap.update a (Obj.mapSeq fun _=>(#[]:Array Value))).push (seqObj "tuple" vs.toArray 0)).push (seqObj "list" #[] 0) }:Shared)=S0
  have ht0:∀ i,i < ns.length→ZoM S0.heap (vs.getD i Value.none) (ns.getD i ""):=by rw [← hS];exact ht'
  obtain ⟨fs,kt,kl,ks⟩:=ZtF hl ht0
  refine wpAny_bind (PySem.W.kat_kind (T:=.type "str") kt (by omega) (fun v hv=>by obtain ⟨x,t,rfl⟩:=ks v hv;exact PySem.W.Looks.of_pure rfl) (by decide) ?_)
  have run:=PySem.W.kat_run (prog:=prog) (w:=w) (A:=A) (E:=E) (κ:=tuples' true) (ks:=vs) (vs:=vs) (s:=S0) (G:=fun q s'=>s'=S0∧q=p) (Q:=fun st' s'=>s'=S0∧(arrOf st').map (·.2)=List.toArray (p.toList.map fun i=>vs.getD i Value.none)∧failedOf st'=none) rfl h2' (by omega) (fun q st' s' hq har hf hg=>⟨hg.1,by rw [PySem.W.kat_snds rfl har,hg.2],hf⟩)
   (Zw4 (lt:=fun i j=>ZaA (ns.getD i "") (ns.getD j "")) (n:=ns.length) (fun i j C a1 a2 a3 a4=>ZxL ht0 hn a1 a2 a3 a4) _ (by rw [← hl];exact pe) ⟨rfl,rfl⟩)
  refine wpAny_bind (wpAny_mono run ?_ fun _ _ e=>e)
  rintro ⟨⟨⟩,st'⟩ s' ⟨rfl,hout,hf⟩
  subst hS
  dsimp only at hout hf ⊢
  rw [hout]
  refine wpAny_bind (seqEpoch_at ho6 rfl ?_)
  refine wpAny_bind (listUpdate_at ho6 rfl ?_ (Nat.zero_le _) ?_)
  ·rw [hf]
   simp only [bne_self_eq_false,Bool.false_eq_true,if_false]
   exact wpAny_pure (h p.toList p1 p2 p3)
  ·rw [List.size_toArray,List.length_map]
   have hpn:p.toList.length≤7:=by
    have hnd:(p.toList.map fun i=>ns.getD i "").Nodup:=p2.imp fun z e=>by subst e;rw [Zj5] at z;cases z
    have:=Zcm hnd (xs:=ns) fun x hx=>(p3 x).mp hx
    rw [List.length_map] at this
    omega
   exact Nat.le_trans hpn (by decide)
end
end L3
namespace L3
open PySem PySem.Spec PyProof.Rows L2
variable {K:PySem.W.Frag} {H H' H2:Hp}
theorem Zqs {vs:List V} {its:List Value} (r:Vals vs its) {i:Nat} (hi:i < vs.length):RelV (vs.getD i .non) (its.getD i Value.none):=by
 have e:vs[i]?=some (vs.getD i .non):=by simp [hi]
 obtain ⟨u,hu,rv⟩:=r.get e
 have:its.getD i Value.none=u:=by simp [hu]
 rw [this];exact rv
theorem ZlE {vs:List V} {its:List Value} (r:Vals vs its):∀ ps:List Nat,(∀ i∈ps,i < vs.length)→Vals (ps.map fun i=>vs.getD i .non) (ps.map fun i=>its.getD i Value.none)
 | [],_=>.nil
 | i::ps,h=>.cons (Zqs r (h i List.mem_cons_self)) (ZlE r ps fun j hj=>h j (List.mem_cons_of_mem _ hj))
theorem Znw {vs:List V} {ws:List W} (t:TrL K H vs ws):∀ ps:List Nat,(∀ i∈ps,i < ws.length)→TrL K H (ps.map fun i=>vs.getD i .non) (ps.map fun i=>ws.getD i .non)
 | [],_=>.nil
 | i::ps,h=>by
  have hi:=h i List.mem_cons_self
  have e:ws[i]?=some (ws.getD i .non):=by simp [hi]
  obtain ⟨v,hv,tv⟩:=t.get e
  have e2:vs.getD i .non=v:=by simp [hv]
  refine .cons ?_ (Znw t ps fun j hj=>h j (List.mem_cons_of_mem _ hj))
  show Tr K H (vs.getD i .non) (ws.getD i .non)
  rw [e2];exact tv
theorem ZhZ {α:Type}:∀ {l:List (Str×α)} {z y:Str×α},(l.map (·.1)).Nodup→z∈l→y∈l→z.1=y.1→z=y
 | u::l,z,y,hn,hz,hy,e=>by
  rw [List.map_cons] at hn
  obtain ⟨n1,n2⟩:=List.nodup_cons.mp hn
  rcases List.mem_cons.mp hz with a | a
  ·rcases List.mem_cons.mp hy with b | b
   ·rw [a,b]
   ·exact absurd (List.mem_map.mpr ⟨y,b,by rw [← e,a]⟩) n1
  ·rcases List.mem_cons.mp hy with b | b
   ·exact absurd (List.mem_map.mpr ⟨z,a,by rw [e,b]⟩) n1
   ·exact ZhZ n2 a b e
end L3
namespace L3
open PySem PySem.Spec PyProof.Rows L2
section
variable {prog:Program} {w:World} {A:Around} {E:Value→Shared→Prop} {s:Shared}
theorem Zlw {v d:Addr} {kvs:List (Key×Value)} {ns:List Str} {ep:Nat} {Q:Value→Shared→Prop} (hh:A.handled=none) (hv:s.heap.IsItemsView v d) (hm:s.heap.DictAt (ZaC prog w) d kvs ep) (hk:kvs.map (·.1)=ns.map Sum.inr) (hn:ns.Nodup) (h7:ns.length≤7) (hlast:s.heap.objs.size≤v+1)
  (h:∀ (h':Heap) (tk:Nat) (as:List Addr) (r e:Nat) (ps:List Nat),(∀ b o,s.heap.get? b=some o→h'.get? b=some o)→as.length=ns.length→as.Nodup→(∀ a∈as,s.heap.objs.size≤a)→s.heap.objs.size≤r→r∉as →
   (∀ (j:Nat) (a:Addr),as[j]?=some a→∃ z t x,ns[j]?=some z∧kvs[j]?=some (Sum.inr z,x)∧h'.get? a=some { cls:=.type "tuple",data:=.seq #[.str z t,x] }) →
   h'.get? r=some (seqObj "list" (List.toArray (ps.map fun i=>(as.map Value.ref).getD i Value.none)) e)→(∀ i∈ps,i < ns.length)→Rs (ps.map fun i=>ns.getD i "")→(∀ x,x∈(ps.map fun i=>ns.getD i "")↔x∈ns)→Q (.ref r) { s with heap:=h',toks:=tk }) :
  wpAny (model prog w) A (call (.builtin "sorted") [.ref v]) Q E s:=by
 have hkl:kvs.length=ns.length:=by have:=congrArg List.length hk;simpa using this
 refine Calls.call_function_entry kind_sorted plain_sorted entry_sorted (args_sorted1 _) ?_
 unfold Builtin.«sorted»
 refine wpAny_bind (m:=checkCount "sorted" 1 1 _) (wpAny_pure ?_)
 refine wpAny_bind (PySem.W.kdx_collect (A:=A.in1) hh hv hm (by rw [hkl];exact Nat.le_trans h7 (by decide)) fun h1 tk1 as keep1 hal hG=>?_)
 have hpair:∀ (j:Nat) (a:Addr),as[j]?=some a→∃ z t x,ns[j]?=some z∧kvs[j]?=some (Sum.inr z,x)∧h1.get? a=some { cls:=.type "tuple",data:=.seq #[.str z t,x] }:=fun j a ha=>by
  obtain ⟨key,k,x,e1,e2,e3⟩:=hG.pairs j a ha
  have ek:(kvs.map (·.1))[j]?=some k:=by rw [List.getElem?_map,e1];rfl
  rw [hk,List.getElem?_map] at ek
  obtain ⟨z,ez,rfl⟩:=Option.map_eq_some_iff.mp ek
  obtain ⟨t,rfl⟩:=ZiJ e2
  exact ⟨z,t,x,ez,e1,e3⟩
 generalize hits:as.map Value.ref=its
 have hil:its.length=ns.length:=by rw [← hits,List.length_map,hal,hkl]
 refine wpAny_bind (wpAny_newList ?_ (by rw [hil];exact Nat.le_trans h7 (by decide)))
 have hoL:(h1.push (seqObj "list" its.toArray 0)).get? h1.objs.size=some (seqObj "list" its.toArray 0):=Heap.get?_push_size _ rfl
 have ht1:∀ i,i < ns.length→ZoM (h1.push (seqObj "list" its.toArray 0)) (its.getD i Value.none) (ns.getD i ""):=fun i hi=>by
  obtain ⟨a,ha⟩:∃ a,as[i]?=some a:=⟨_,List.getElem?_eq_getElem (by omega)⟩
  obtain ⟨z,t,x,e1,e2,e3⟩:=hpair i a ha
  have hz:ns.getD i ""=z:=by simp [e1]
  have hi':its.getD i Value.none=.ref a:=by rw [← hits];simp [ha]
  rw [hz,hi']
  exact ⟨_,_,_,_,t,rfl,Heap.get?_push_of_some _ e3,rfl,rfl,rfl⟩
 show wpAny _ _ _ _ _ { s with heap:=h1.push (seqObj "list" its.toArray 0),toks:=tk1 }
 refine wpAny_bind (wpAny_holding (wpAny_call_entry slot_list_sort ⟨_,hoL,rfl⟩ entry_list_sort (Zkf (s:={ s with heap:=h1.push (seqObj "list" its.toArray 0),toks:=tk1 }) hoL (by omega) ht1 hn (by omega) fun ps p1 p2 p3=>⟨_,rfl,?_⟩) (args_list_sort _)))
 obtain ⟨e,he⟩:=sortedHeap_at (n:=0) (vs:=its) (out:=List.toArray (ps.map fun i=>its.getD i Value.none)) hoL
 have kall:∀ b o,h1.get? b=some o→(sortedHeap (h1.push (seqObj "list" its.toArray 0)) h1.objs.size its (List.toArray (ps.map fun i=>its.getD i Value.none))).get? b=some o:=fun b o z=>by
  have hlt:b < h1.objs.size:=Heap.lt_size z
  rw [sortedHeap_old (Nat.ne_of_lt hlt) (by rw [size_push'];exact Nat.lt_succ_of_lt hlt)]
  exact Heap.get?_push_of_some _ z
 have hdl:s.heap.objs.size≤h1.objs.size:=by
  obtain ⟨o,ho,_⟩:=hv
  exact Nat.le_trans hlast (Heap.lt_size (keep1 _ _ ho))
 refine wpAny_pure ⟨_,rfl,h _ tk1 as h1.objs.size e ps (fun b o z=>kall b o (keep1 b o z)) (by omega) (hG.rise.imp fun z=>Nat.ne_of_lt z) (fun a ha=>Nat.le_of_lt (hG.above a ha)) hdl (fun z=>absurd (hG.there z) (Nat.lt_irrefl _)) (fun j a ha=>?_) (by rw [hits];exact he) p1 p2 p3⟩
 obtain ⟨z,t,x,e1,e2,e3⟩:=hpair j a ha
 exact ⟨z,t,x,e1,e2,kall _ _ e3⟩
end
theorem Zmk {X:Cx} {pins:List (Addr×Obj)} {σ:St} {s:Shared} (as:List Addr):∀ {H:Hp} {pv:List (Str×V)} {ps:List (Str×Value)},Inv X pins σ H s→as.Nodup→(∀ a∈as,H a=none∧a≠X.env.locals∧(∀ x c,X.env.cells.lookup x=some c→c≠a)∧(∀ p∈X.pn++pins,p.1≠a)∧X.s₀.heap.get? a=none) →
  Paired (fun (y:Str×V) (z:Str×Value)=>y.1=z.1∧RelV y.2 z.2) pv ps→Paired (fun (a:Addr) (z:Str×Value)=>∃ t,s.heap.get? a=some { cls:=.type "tuple",data:=.seq #[.str z.1 t,z.2] }) as ps →
  ∃ H',Inv X pins σ H' s∧Mono X.K H H'∧(∀ b o,H b=some o→H' b=some o)∧(∀ b,b∉as→H' b=H b)∧PV X.K H' (as.map V.ref) pv:=by
 induction as with
 | nil =>
  intro H pv ps I _ _ r h
  cases h
  cases r
  exact ⟨H,I,.refl,fun _ _ e=>e,fun _ _=>rfl,.nil⟩
 | cons a as ih =>
  intro H pv ps I hn hf r h
  cases h with
  | @cons _ z _ ps ha has =>
   cases r with
   | @cons y _ pv _ r rs =>
    obtain ⟨n1,n2⟩:=List.nodup_cons.mp hn
    obtain ⟨f1,f2,f3,f4,f5⟩:=hf a List.mem_cons_self
    obtain ⟨t,ht⟩:=ha
    obtain ⟨y1,y2⟩:=y
    obtain ⟨z1,z2⟩:=z
    cases (show y1=z1 from r.1)
    have ok:ObjOk X.prog X.w (upd H a (.tup [.str y1,y2])) s.heap a (.tup [.str y1,y2]):=⟨(show 2≤sizeLine by decide),[.str y1 t,z2],.cons ⟨t,rfl⟩ (.cons r.2 .nil),⟨_,ht,rfl,rfl,_,rfl⟩⟩
    have I1:Inv X pins σ (upd H a (.tup [.str y1,y2])) s:=I.track f1 f2 f3 f4 f5 ok
    obtain ⟨H',J,m,k,u,pvv⟩:=ih I1 n2 (fun b hb=>by
     obtain ⟨g1,g⟩:=hf b (List.mem_cons_of_mem _ hb)
     refine ⟨?_,g⟩
     rw [ZaZ (fun q=>n1 (by rw [← q];exact hb))];exact g1) rs has
    have m1:Mono X.K H (upd H a (.tup [.str y1,y2])):=Mono.new f1 _
    refine ⟨H',J,m1.trans m,fun b o e=>k b o (by rw [ZaZ (Zcf e f1)];exact e),fun b hb=>?_,?_⟩
    ·rw [u b fun z=>hb (List.mem_cons_of_mem _ z),ZaZ fun z=>hb (by rw [z];exact List.mem_cons_self)]
    ·rw [List.map_cons]
     exact .cons (m.tup _ _ (SqT.of Zbk)) pvv
abbrev kyd {α:Type} (y:Str×α):Key×α:=(Sum.inr y.1,y.2)
theorem ZlK {α β:Type} {R:α→β→Prop}:∀ {as:List α} {bs:List β},as.length=bs.length→(∀ (j:Nat) (a:α),as[j]?=some a→∃ b,bs[j]?=some b∧R a b)→Paired R as bs
 | [],[],_,_=>.nil
 | [],_::_,h,_=>by cases h
 | _::_,[],h,_=>by cases h
 | a::as,b::bs,h,f=>by
  obtain ⟨b',e,r⟩:=f 0 a rfl
  cases e
  exact .cons r (ZlK (Nat.succ.inj h) fun j x hx=>f (j+1) x hx)
theorem Zn7:∀ {pv:List (Str×V)} {vs:List (Key×Value)},KV (pv.map kyd) vs→∃ ps:List (Str×Value),vs=ps.map kyd∧Paired (fun (y:Str×V) (z:Str×Value)=>y.1=z.1∧RelV y.2 z.2) pv ps
 | [],vs,h=>by cases h;exact ⟨[],rfl,.nil⟩
 | y::pv,vs,h=>by
  rw [List.map_cons] at h
  cases h with
  | @cons _ u _ us r t =>
   obtain ⟨ps,e,q⟩:=Zn7 t
   obtain ⟨k,x⟩:=u
   cases (show Sum.inr y.1=k from r.1)
   exact ⟨(y.1,x)::ps,by rw [List.map_cons,e],.cons ⟨rfl,r.2⟩ q⟩
theorem ZjQ:∀ {pv:List (Str×V)} {ps:List (Str×Value)},Paired (fun (y:Str×V) (z:Str×Value)=>y.1=z.1∧RelV y.2 z.2) pv ps→ps.map (·.1)=pv.map (·.1)
 | _,_,.nil=>rfl
 | _,_,.cons r t=>by rw [List.map_cons,List.map_cons,ZjQ t,r.1]
section
variable {X:Cx} {e:Expr} {p3 pa q1 q3:Pos} {ta:TE}
def Zxr (K:PySem.W.Frag) (ta:TE):TE:=fun σ H Q=>ta σ H fun x H2=>∃ (p:Addr) (pv:List (Str×V)),x=.ref p∧H2 p=some (.dK (pv.map kyd))∧(pv.map (·.1)).Nodup∧pv.length≤7 ∧
 ∀ (H':Hp) (vs:List V) (ps:List Nat) (r:Addr),Mono K H2 H'→(∀ b o,H2 b=some o→H' b=some o)→PV K H' vs pv→(∀ i∈ps,i < pv.length)→Rs (ps.map fun i=>(pv.map fun y=>y.1).getD i ("":Str))→(∀ x,x∈(ps.map fun i=>(pv.map fun y=>y.1).getD i ("":Str))↔x∈pv.map (·.1))→H' r=none→Q (.ref r) (upd H' r (.lst (ps.map fun i=>vs.getD i .non)))
theorem Zrw (hc:X.calm=true) (n1:X.mg "sorted"=none) (g1:Gl X "sorted") (hb:attributeBase e "items" X.env (eval e X.env)=eval e X.env) (hline:(pa.endLine==q1.line)=true)
  (h3:starEach [.Call (.Attribute e "items" pa) [] [] q1] X.env=(false,eval (.Call (.Attribute e "items" pa) [] [] q1) X.env)::starEach [] X.env) (ha:PE X e ta) :
  PE X (.Call (.Name "sorted" p3) [.Call (.Attribute e "items" pa) [] [] q1] [] q3) (Zxr X.K ta):=by
 intro pins s σ H Q I h
 have bS:bootBuiltins "sorted"=some (.builtin "sorted"):=by decide +kernel
 have hh:X.A.handled=none:=I.ok.hd hc
 refine wpAny_Call_Name_kw (ZeE I g1 n1 bS ?_)
 refine PyProof.Rows.callWith_builtin1 (Zg2 h3 ?_) h3 rfl
 refine wpAny_Call_method (T:="dict") (id:="dict.items") hb rfl hline F.plainAttrs_dict F.slot_dict_items F.type_dict_items ?_
 refine thn (ha pins s σ H _ I h) fun v s2 ⟨x,H2,I5,r1,p,pv,ex,hH,hn,h7,q2⟩=>?_
 subst ex
 cases r1
 obtain ⟨hz,hd,vs,rel,dd⟩:(pv.map kyd).length≤sizeLine∧(p==sysModules)=false∧∃ vs,KV (pv.map kyd) vs∧s2.heap.DictOf (ZaC X.prog X.w) p vs:=I5.hok p _ hH
 obtain ⟨ws,rfl,rel2⟩:=Zn7 rel
 have hwl:ws.length=pv.length:=(Paired.length rel2).symm
 have hfst:=ZjQ rel2
 refine ⟨dd.typeIs,dd.mapOf.noDict,?_⟩
 show wpAny _ _ (callWith q1 (.builtin "dict.items") [.ref p] [] []) _ _ s2
 refine method_meetsIn F.slot_dict_items F.entry_dict_items rfl (PySem.evalArgs_none ⟨rfl,dd.typeIs,F.args_dict_items_1 _,_,meets_dict_items (ZaC X.prog X.w) p hd,⟨_,dd⟩,?_⟩)
 obtain ⟨ep,hat⟩:=dd.dictAt
 refine Zlw (s:={ s2 with heap:=s2.heap.push { cls:=.type "dict_items",data:=.fields #[.ref p] } }) (ns:=pv.map (·.1)) hh ⟨_,Heap.get?_push_size _ rfl,rfl,rfl⟩ (hat.push _) ?_ hn (by rw [List.length_map];exact h7) (by show (s2.heap.push _).objs.size≤_;rw [Heap.size_push];exact Nat.le_refl _) fun h' tk as r en ps keep hal hnd hab hr hra hpair hget p1 p2 p3=>?_
 ·rw [← hfst,List.map_map,List.map_map];rfl
 have hsz:s2.heap.objs.size≤(s2.heap.push { cls:=.type "dict_items",data:=.fields #[.ref p] }).objs.size:=by rw [Heap.size_push];exact Nat.le_succ _
 have kall:∀ b u,s2.heap.get? b=some u→h'.get? b=some u:=fun b u z=>keep b u (Heap.get?_push_of_some _ z)
 have I6:Inv X pins σ H2 { s2 with heap:=h',toks:=tk }:=I5.kept (t':=tk) kall
 have far:∀ a,s2.heap.objs.size≤a→H2 a=none∧a≠X.env.locals∧(∀ x c,X.env.cells.lookup x=some c→c≠a)∧(∀ q∈X.pn++pins,q.1≠a)∧X.s₀.heap.get? a=none:=fun a ha=>by
  refine ⟨I5.hok.fresh ha,fun z=>absurd I5.lt (by rw [← z];exact Nat.not_lt.mpr ha),fun x c z q=>?_,fun q hq z=>?_,?_⟩
  ·obtain ⟨v,o,ho,_⟩:=I5.cell x c z
   exact absurd (Heap.lt_size ho) (by rw [q];exact Nat.not_lt.mpr ha)
  ·exact absurd (Heap.lt_size (I5.pin q hq).1) (by rw [z];exact Nat.not_lt.mpr ha)
  ·cases z:X.s₀.heap.get? a with
   | none=>rfl
   | some o=>exact absurd (Nat.lt_of_lt_of_le (Heap.lt_size z) I5.sz) (Nat.not_lt.mpr ha)
 have hal':as.length=ws.length:=by rw [hal,List.length_map,hwl]
 have pr:Paired (fun (a:Addr) (z:Str×Value)=>∃ t,h'.get? a=some { cls:=.type "tuple",data:=.seq #[.str z.1 t,z.2] }) as ws:=ZlK hal' fun j a hj=>by
  obtain ⟨z,t,x,e1,e2,e3⟩:=hpair j a hj
  rw [List.getElem?_map] at e2
  obtain ⟨y,ey,eq⟩:=Option.map_eq_some_iff.mp e2
  obtain ⟨y1,y2⟩:=y
  cases eq
  exact ⟨_,ey,t,e3⟩
 obtain ⟨H',J,m,k,u,pvv⟩:=Zmk (s:={ s2 with heap:=h',toks:=tk }) as I6 hnd (fun a ha=>far a (Nat.le_trans hsz (hab a ha))) rel2 pr
 have hrn:=far r (Nat.le_trans hsz hr)
 have hr':H' r=none:=by rw [u r hra];exact hrn.1
 have hpl:∀ i∈ps,i < as.length:=fun i hi=>by rw [hal];exact p1 i hi
 have hps:ps.length≤7:=by
  have hnd:(ps.map fun i=>(pv.map fun y=>y.1).getD i ("":Str)).Nodup:=p2.imp fun z e=>by subst e;rw [Zj5] at z;cases z
  have:=Zcm hnd (xs:=pv.map (·.1)) fun x hx=>(p3 x).mp hx
  rw [List.length_map,List.length_map] at this
  omega
 have ok:ObjOk X.prog X.w (upd H' r (.lst (ps.map fun i=>(as.map V.ref).getD i .non))) h' r (.lst (ps.map fun i=>(as.map V.ref).getD i .non)):=⟨by rw [List.length_map];exact Nat.le_trans hps (by decide),ps.map (fun i=>(as.map Value.ref).getD i Value.none),en,ZlE (Zlt as) ps (fun i hi=>by rw [List.length_map];exact hpl i hi),hget⟩
 refine ⟨.ref r,_,J.track hr' hrn.2.1 hrn.2.2.1 hrn.2.2.2.1 hrn.2.2.2.2 ok,rfl,q2 H' (as.map V.ref) ps r m k pvv (fun i hi=>by have:=p1 i hi;rw [List.length_map] at this;exact this) p2 p3 hr'⟩
end
end L3
namespace L3
open PySem PySem.Spec PyProof.Rows L2
variable {K:PySem.W.Frag} {H H' H2:Hp}
def Zhz (ga:GE):GE:=fun ω G Q=>ga ω G fun y G2=>∃ (p:Addr) (l:List (Str×W)),y=.ref p∧G2 p=some (.dct (l.map kyd))∧(l.map (·.1)).Nodup∧l.length≤7 ∧
 ∀ (l':List (Str×W)) (r:Addr),Rs (l'.map (·.1))→(∀ y,y∈l'↔y∈l)→G2 r=none→Q (.ref r) (put G2 r (.lst (l'.map fun y=>.tup [.str y.1,y.2])))
theorem Zsu {ga:GE} (ma:ga.M):GE.M (Zhz ga):=fun ω G Q Q' h q=>ma _ _ _ _ (fun x G1 ⟨p,l,h1,h2,h3,h4,q1⟩=>⟨p,l,h1,h2,h3,h4,fun l' r a b c=>h _ _ (q1 l' r a b c)⟩) q
theorem Zso {G:Hw} (r:RelH K H G) (m:Mono K H H') (k:∀ b o,H b=some o→H' b=some o):RelH K H' G:=fun a u e=>by
 have q:=r a u e
 refine q.mono m ?_
 cases z:H a with
 | none=>exact absurd z q.some
 | some o=>exact k a o z
theorem Zlr:∀ {l:List (Str×W)} {vs:List (Key×V)},TrP K H vs (l.map kyd)→∃ pv:List (Str×V),vs=pv.map kyd∧TrP K H pv l
 | [],_,.nil=>⟨[],rfl,.nil⟩
 | y::l,_,.cons t r=>by
  obtain ⟨pv,e,q⟩:=Zlr r
  exact ⟨(y.1,_)::pv,by rw [List.map_cons,e],.cons t q⟩
theorem ZzR {vs:List V} {pv:List (Str×V)} (h:PV K H vs pv):∀ {l:List (Str×W)},TrP K H pv l→TrL K H vs (l.map fun y=>.tup [.str y.1,y.2]):=by
 induction h with
 | nil =>
  intro l t
  cases t
  exact .nil
 | cons hq _ ih =>
  intro l t
  cases t with
  | cons t r=>exact .cons (.tup hq (.cons (.str _) (.cons t .nil))) (ih r)
theorem ZcQ {X:Cx} {e:Expr} {p3 pa q1 q3:Pos} {ga:GE} (hc:X.calm=true) (n1:X.mg "sorted"=none) (g1:Gl X "sorted") (hb:attributeBase e "items" X.env (eval e X.env)=eval e X.env) (hline:(pa.endLine==q1.line)=true)
  (h3:starEach [.Call (.Attribute e "items" pa) [] [] q1] X.env=(false,eval (.Call (.Attribute e "items" pa) [] [] q1) X.env)::starEach [] X.env) (ha:Em X e ga) :
  Em X (.Call (.Name "sorted" p3) [.Call (.Attribute e "items" pa) [] [] q1] [] q3) (Zhz ga):=by
 refine ⟨Zbf (Zrw hc n1 g1 hb hline h3 ha.p) fun σ H Q ⟨ω,G,ts,rh,q⟩=>?_,Zsu ha.m⟩
 refine ⟨ω,G,ts,rh,ha.m _ _ _ _ (fun x G1 z v H1 m1 tx r1=>?_) q⟩
 obtain ⟨p,l,rfl,hG,hn,h7,q1⟩:=z
 cases tx
 obtain ⟨us,e1,tl⟩:=r1 p _ hG
 obtain ⟨pv,rfl,tp⟩:=Zlr tl
 have hf:=ZkU tp
 have hl:pv.length=l.length:=by have:=congrArg List.length hf;simpa using this
 refine ⟨p,pv,rfl,e1,by rw [hf];exact hn,by omega,fun H' vs ps r m k pvv p1 p2 p3 hr=>?_⟩
 have r2:RelH X.K H' G1:=Zso r1 m k
 have tw:TrL X.K H' vs (l.map fun y=>.tup [.str y.1,y.2]):=ZzR pvv (tp.mono m)
 rw [hf] at p2 p3
 have p1':∀ i∈ps,i < l.length:=fun i hi=>by have:=p1 i hi;omega
 have en:∀ i∈ps,(l.map fun y=>y.1).getD i ("":Str)=(l.getD i (("":Str),.non)).1:=fun i hi=>by simp [p1' i hi]
 have ez:(ps.map fun i=>(l.map fun y=>y.1).getD i ("":Str))=(ps.map fun i=>l.getD i (("":Str),.non)).map (·.1):=by rw [List.map_map];exact List.map_congr_left en
 have ew:(ps.map fun i=>(l.map fun y=>W.tup [.str y.1,y.2]).getD i .non)=(ps.map fun i=>l.getD i (("":Str),.non)).map fun y=>W.tup [.str y.1,y.2]:=by rw [List.map_map];exact List.map_congr_left fun i hi=>by simp [p1' i hi]
 rw [ez] at p2 p3
 refine q1 (ps.map fun i=>l.getD i (("":Str),.non)) r p2 (fun y=>⟨fun hy=>?_,fun hy=>?_⟩) (r2.no hr) _ _ ((m1.trans m).trans (Mono.new hr _)) (.ref r) (r2.new hr ?_)
 ·obtain ⟨i,hi,rfl⟩:=List.mem_map.mp hy
  exact Zgn (p1' i hi)
 ·have hm:=(p3 y.1).mpr (List.mem_map.mpr ⟨y,hy,rfl⟩)
  obtain ⟨z,hz,ezy⟩:=List.mem_map.mp hm
  obtain ⟨i,hi,rfl⟩:=List.mem_map.mp hz
  have hin:l.getD i (("":Str),.non)∈l:=Zgn (p1' i hi)
  have:l.getD i (("":Str),.non)=y:=ZhZ hn hin hy ezy
  rw [← this];exact hz
 ·rw [← ew]
  exact Znw tw ps fun i hi=>by rw [List.length_map];exact p1' i hi
end L3
namespace L3
open PySem PySem.Spec PyProof.Rows L2
section
variable {prog:Program} {w:World} {A:Around} {E:Value→Shared→Prop} {s:Shared}
theorem ZlN {f:Nat→PUnit→Sem (ForInStep PUnit)} {P:Nat→Shared→Prop} {n:Nat} (hstep:∀ i s,i < n→P i s→wpAny (model prog w) A (f i ⟨⟩) (fun r s'=>r=ForInStep.yield ⟨⟩∧P (i+1) s') E s) :
  ∀ (k i:Nat) (s:Shared),i+k=n→P i s→wpAny (model prog w) A (forIn (List.range' i k 1) PUnit.unit f) (fun _ s'=>P n s') E s
 | 0,i,s,h,hp=>by
  rw [show i=n by omega] at hp
  rw [show List.range' i 0 1=[] from rfl,List.forIn_nil]
  exact wpAny_pure hp
 | k+1,i,s,h,hp=>by
  rw [List.range'_succ,List.forIn_cons]
  refine wpAny_bind (wpAny_mono (hstep i s (by omega) hp) ?_ fun _ _ z=>z)
  rintro r s' ⟨rfl,hp'⟩
  exact ZlN hstep k (i+1) s' (by omega) hp'
theorem Zoc {f:Nat→PUnit→Sem (ForInStep PUnit)} {P:Nat→Shared→Prop} {n:Nat} (hstep:∀ i s,i < n→P i s→wpAny (model prog w) A (f i ⟨⟩) (fun r s'=>r=ForInStep.yield ⟨⟩∧P (i+1) s') E s) (h0:P 0 s) :
  wpAny (model prog w) A (forIn [0:n] PUnit.unit f) (fun _ s'=>P n s') E s:=by
 rw [Std.Legacy.Range.forIn_eq_forIn_range']
 have:([0:n]:Std.Legacy.Range).size=n:=by simp [Std.Legacy.Range.size]
 rw [this]
 exact ZlN hstep n 0 s (by omega) h0
end
section
variable {prog:Program} {w:World} {A:Around} {E:Value→Shared→Prop} {s:Shared}
set_option maxHeartbeats 3200000 in
theorem Zq3 {d:Addr} {kvs:List (Key×Value)} {zs:List Str} {Q:Value→Shared→Prop} (hh:A.handled=none) (hd:(d==sysModules)=false) (hD:s.heap.DictOf (ZaC prog w) d kvs) (hk:kvs.map (·.1)=zs.map Sum.inr) (hn:zs.length < 32)
  (h:∀ (h':Heap) (tk:Nat) (ks:List Str),SS w h' s.heap.objs.size ks→(∀ x,x∈ks↔x∈zs)→(∀ b o,b < s.heap.objs.size→s.heap.get? b=some o→h'.get? b=some o)→Q (.ref s.heap.objs.size) { s with heap:=h',toks:=tk }) :
  wpAny (model prog w) A (call (.type "set") [(.ref d)]) Q E s:=by
 obtain ⟨c,tl,hmro⟩:=PySem.F.called_set.mro
 have hmade:=PySem.F.called_set.made
 have hsub:=PySem.F.called_set.sub
 refine wpAny_call (codeAny_of_tree (?_:wpAny _ _ (callAny (.type "set") _) _ _ _))
 refine wpAny_pure ⟨Code.quiet_builtin _ (by decide +kernel),codeAny_builtin PySem.F.entry_type_call ?_⟩
 rw [Around.under_plain (weight_type_call_type "set" [(.ref d)] []) rfl]
 have h1:=PySem.F.called_set.notType
 have h2:=PySem.F.called_set.canCreate
 have hct:=PySem.F.typeCall_set_1 (.ref d)
 (repeat (any_goals (first | assumption | wp_step)))
 refine codeAny_mono (Zm9 (.ref d) (E:=E) (Q:=fun obj s₁=>∃ led:Bool,(bt w=false→led=true)∧obj=.ref s.heap.objs.size∧s₁={ s with heap:=s.heap.push (ZaI led) }) fun led z=>⟨led,z,rfl,rfl⟩) fun r s₁ hr=>?_
 match r,hr with
 | .error e,hr=>exact hr
 | .ok .next,hr=>exact hr.elim
 | .ok .brk,hr=>exact hr.elim
 | .ok .cont,hr=>exact hr.elim
 | .ok (.ret obj),hr =>
  obtain ⟨led,hled,rfl,rfl⟩:=hr
  have hS:(s.heap.push (ZaI led)).get? s.heap.objs.size=some (ZaI led):=Heap.get?_push_size _ rfl
  have hT:Shared.TypeIs { s with heap:=s.heap.push (ZaI led) } (.ref s.heap.objs.size) "set":=⟨_,hS,rfl⟩
  have hli:=PySem.F.called_set.init.lookup
  have hbi:=PySem.F.called_set.init.bind (.ref s.heap.objs.size)
  (repeat (any_goals (first | assumption | wp_step)))
  refine codeAny_mono (codeAny_call_builtin (R:=wants (fun r s₂=>r=.none∧∃ h' tk ks,s₂={ s with heap:=h',toks:=tk }∧SS w h' s.heap.objs.size ks∧(∀ x,x∈ks↔x∈zs)∧(∀ b o,b < s.heap.objs.size→s.heap.get? b=some o→h'.get? b=some o)) E) PySem.F.called_set.init.plain PySem.F.entry_set_init (check_set_init_1 hT ?_)) fun r₂ s₂ hr₂=>?_
  ·have hds:(d==sysModules)=false:=hd
   obtain ⟨od,es,ep,hod,hx,hda,hko,hpr,hnd⟩:=hD
   have hod1:(s.heap.push (ZaI led)).get? d=some od:=Heap.get?_push_of_some _ hod
   have hT1:Shared.TypeIs { s with heap:=s.heap.push (ZaI led) } (.ref d) "dict":=⟨od,hod1,hx.1⟩
   have hs1:=PySem.F.sub_dict_set
   have hs2:=PySem.F.sub_dict_frozenset
   have hne:(Value.type "dict"==Value.type "dict")=true:=by decide
   have hdS:d < s.heap.objs.size:=Heap.lt_size hod
   have hneS:d≠s.heap.objs.size:=Nat.ne_of_lt hdS
   have hel:es.size=zs.length:=by
    have h1:=hpr.length
    have h2:=congrArg List.length hk
    simp at h2
    simp at h1
    omega
   have hent:∀ i,i < es.size→∃ e t,es[i]?=some e∧e.key=.str (zs.getD i (Str.ofString "")) t∧e.hash=hashStr w (zs.getD i (Str.ofString "")):=fun i hi=>by
    have he:es[i]?=some es[i]:=Array.getElem?_eq_getElem hi
    have hkl:kvs.length=zs.length:=by simpa using congrArg List.length hk
    obtain ⟨⟨k,x⟩,hkx⟩:∃ y,kvs[i]?=some y:=⟨_,List.getElem?_eq_getElem (by omega)⟩
    obtain ⟨h1,_⟩:=hpr.get? (e:=es[i]) (by simpa using he) hkx
    have ek:(kvs.map (·.1))[i]?=some k:=by rw [List.getElem?_map,hkx];rfl
    rw [hk,List.getElem?_map] at ek
    obtain ⟨z,ez,rfl⟩:=Option.map_eq_some_iff.mp ek
    obtain ⟨t,ht⟩:=ZiJ h1
    obtain ⟨k',g1,g2⟩:=hko es[i] (Array.getElem_mem hi)
    have hz:zs.getD i (Str.ofString "")=z:=by simp [ez]
    rw [hz]
    refine ⟨es[i],t,he,ht,?_⟩
    rw [ht] at g1
    rcases Zbc (show ZkE k' (Value.str z t)=true from g1) with ⟨_,_,_,e2⟩ | ⟨x',t',e1,e2⟩
    ·cases e2
    ·cases e2
     rw [g2,e1]
     rfl
   unfold Builtin.«set.__init__» noKeywords Builtin.Frozenset.updateFrom
   wp_walk
   rw [hda]
   refine wpAny_pure ?_
   have hfr:SS w (s.heap.push (ZaI led)) s.heap.objs.size []:=ZkQ led hled hS
   have hsc:(64:Nat)≤scanBound:=by unfold scanBound;omega
   refine wpAny_bind (wpAny_dictEntries hod1 hda ?_)
   refine wpAny_bind (Zq2 hfr (by rw [hel];simp only [List.length_nil];omega) fun h1 sb1 S1=>?_)
   have hod2:h1.get? d=some od:=(sb1.2 d hneS).trans hod1
   refine wpAny_bind (wpAny_dictEntries (s:={ s with heap:=h1 }) hod2 hda ?_)
   refine wpAny_bind (wpAny_mono (Zoc (n:=es.size) (P:=fun i s'=>∃ h' ks,s'={ s with heap:=h' }∧Heap.SameBut s.heap.objs.size h1 h'∧SS w h' s.heap.objs.size ks∧ks.length≤i∧∀ x,x∈ks↔∃ j,j < i∧zs.getD j (Str.ofString "")=x) ?_ ⟨h1,[],rfl,Heap.SameBut.refl _ _,S1,Nat.le_refl _,fun x=>by simp⟩) ?_ fun _ _ z=>z)
   ·rintro i s' hi ⟨h',ks,rfl,sb,Sk,hl,hx⟩
    obtain ⟨e,t,he,hkey,hhash⟩:=hent i hi
    have hod3:h'.get? d=some od:=(sb.2 d hneS).trans hod2
    refine wpAny_bind (wpAny_dictEntries (s:={ s with heap:=h' }) hod3 hda ?_)
    rw [he]
    dsimp only
    rw [hkey,hhash]
    refine wpAny_bind (wpAny_holding (Zpy (s:={ s with heap:=h' }) Sk (by omega) fun h'' b sb' S'=>?_))
    have hod4:h''.get? d=some od:=(sb'.2 d hneS).trans hod3
    refine wpAny_bind (wpAny_dictEpoch (s:={ s with heap:=h'' }) hod4 hda ?_)
    rw [if_neg (by simp)]
    refine wpAny_pure ⟨rfl,h'',_,rfl,sb.trans sb',S',?_,fun x=>?_⟩
    ·split
     ·omega
     ·rw [List.length_cons];omega
    ·constructor
     ·intro hm
      split at hm
      ·obtain ⟨j,hj,e⟩:=(hx x).mp hm
       exact ⟨j,by omega,e⟩
      ·rcases List.mem_cons.mp hm with z | z
       ·exact ⟨i,by omega,z.symm⟩
       ·obtain ⟨j,hj,e⟩:=(hx x).mp z
        exact ⟨j,by omega,e⟩
     ·rintro ⟨j,hj,e⟩
      by_cases hji:j=i
      ·subst hji
       split
       ·rename_i hin;rw [← e];exact hin
       ·rw [← e];exact List.mem_cons_self
      ·have:=(hx x).mpr ⟨j,by omega,e⟩
       split
       ·exact this
       ·exact List.mem_cons_of_mem _ this
   ·rintro _ s' ⟨h',ks,rfl,sb,Sk,_,hx⟩
    refine wpAny_pure (wpAny_pure ⟨rfl,h',s.toks,ks,rfl,Sk,fun x=>(hx x).trans ?_,fun b o hb e=>?_⟩)
    ·constructor
     ·rintro ⟨j,hj,e⟩
      rw [← e,List.getD_eq_getElem?_getD,List.getElem?_eq_getElem (by omega)]
      exact List.getElem_mem _
     ·intro hm
      obtain ⟨j,hj,e⟩:=List.getElem_of_mem hm
      refine ⟨j,by omega,?_⟩
      rw [List.getD_eq_getElem?_getD,List.getElem?_eq_getElem hj]
      exact e
    ·have hbS:b≠s.heap.objs.size:=Nat.ne_of_lt hb
     rw [sb.2 b hbS,sb1.2 b hbS]
     exact Heap.get?_push_of_some _ e
  ·match r₂,hr₂ with
   | .error e,hr₂=>exact hr₂
   | .ok .next,hr₂=>exact hr₂.elim
   | .ok .brk,hr₂=>exact hr₂.elim
   | .ok .cont,hr₂=>exact hr₂.elim
   | .ok (.ret r),hr₂ =>
    obtain ⟨rfl,h',tk,ks,rfl,hS',hx,hk'⟩:=hr₂
    (repeat (any_goals (first | assumption | wp_step)))
    exact h _ _ _ hS' hx hk'
end
end L3
namespace L3
open PySem PySem.Spec PyProof.Rows L2
variable {K:PySem.W.Frag} {H H' H2:Hp}
section
variable {X:Cx} {e eb:Expr} {p1 p2 p3 q1 q2 q3 qb:Pos} {ta tb:TE}
def ZvI (K:PySem.W.Frag) (ta tb:TE):TE:=fun σ H Q=>ta σ H fun x H1=>∃ (p:Addr) (kvs:List (Key×V)) (xs:List Str),x=.ref p∧H1 p=some (.dK kvs)∧kvs.map (·.1)=xs.map Sum.inr∧xs.length < 32∧tb σ H1 fun y H2=>∃ (q:Addr) (ys:List Str),y=.ref q∧SqL K H2 q (ys.map V.str)∧ys.length < 32 ∧
 ∀ (zs:List Str) (r:Addr),zs.Nodup→sortedS zs=true→(∀ x,x∈zs↔x∈xs∨x∈ys)→H2 r=none→Q (.ref r) (upd H2 r (.lst (zs.map V.str)))
theorem ZqW (hc:X.calm=true) (n1:X.mg "sorted"=none) (n2:X.mg "set"=none) (g1:Gl X "sorted") (g2:Gl X "set") (h1:starEach [e] X.env=(false,eval e X.env)::starEach [] X.env) (h2:starEach [eb] X.env=(false,eval eb X.env)::starEach [] X.env)
  (h3:starEach [.BinOp (.Call (.Name "set" p1) [e] [] q1) .BitOr (.Call (.Name "set" p2) [eb] [] q2) qb] X.env=(false,eval (.BinOp (.Call (.Name "set" p1) [e] [] q1) .BitOr (.Call (.Name "set" p2) [eb] [] q2) qb) X.env)::starEach [] X.env) (ha:PE X e ta) (hb:PE X eb tb) :
  PE X (.Call (.Name "sorted" p3) [.BinOp (.Call (.Name "set" p1) [e] [] q1) .BitOr (.Call (.Name "set" p2) [eb] [] q2) qb] [] q3) (ZvI X.K ta tb):=by
 intro pins s σ H Q I h
 have bS:bootBuiltins "sorted"=some (.builtin "sorted"):=by decide +kernel
 have bT:bootBuiltins "set"=some (.type "set"):=by decide +kernel
 have hh:X.A.handled=none:=I.ok.hd hc
 refine wpAny_Call_Name_kw (ZeE I g1 n1 bS ?_)
 refine PyProof.Rows.callWith_builtin1 (Zg2 h3 ?_) h3 rfl
 refine wpAny_BinOp ?_
 refine wpAny_Call_Name_kw (ZeE I g2 n2 bT ?_)
 refine PyProof.Rows.callWith_type1 (Zg2 h1 ?_) h1 rfl
 refine thn (ha pins s σ H _ I h) fun v s1 zz1=>?_
 obtain ⟨x,H1,I1,r1,p,kvs,xs,ex,hq,hkx,hn,q1⟩:=zz1
 subst ex
 cases r1
 obtain ⟨_,hdm,vd,rel,dd⟩:kvs.length≤sizeLine∧(p==sysModules)=false∧∃ vs,KV kvs vs∧s1.heap.DictOf (ZaC X.prog X.w) p vs:=I1.hok p _ hq
 refine Zq3 hh hdm dd (by rw [ZmD rel];exact hkx) hn fun h' tk ka hA hxa keep=>?_
 have hA':=hA
 obtain ⟨oa,esA,epA,tA,hoA,hxA,hdA,TA⟩:=hA
 have I2:Inv X pins σ H1 { s1 with heap:=h',toks:=tk }:=I1.kept fun b u z=>keep b u (Heap.lt_size z) z
 have I3:Inv X (pins++[(s1.heap.objs.size,oa)]) σ H1 { s1 with heap:=h',toks:=tk }:=I2.pins_of fun p hp=>by
  rcases List.mem_append.mp hp with hp | hp
  ·exact I2.pin p (List.mem_append_right _ hp)
  ·have e:=List.mem_singleton.mp hp
   subst e
   exact ⟨hoA,I1.hok.fresh (Nat.le_refl _),Ne.symm (Nat.ne_of_lt I1.lt),I1.nofs (Nat.le_refl _),fun v z=>by rw [hdA] at z;cases z⟩
 refine wpAny_Call_Name_kw (ZeE I3 g2 n2 bT ?_)
 refine PyProof.Rows.callWith_type1 (Zg2 h2 ?_) h2 rfl
 refine thn (hb _ _ σ H1 _ I3 q1) fun v2 s2 zz2=>?_
 obtain ⟨y,H2,I4,r2,q,ys,ey,hq2,hn2,q2⟩:=zz2
 subst ey
 cases r2
 have hoA2:s2.heap.get? s1.heap.objs.size=some oa:=(I4.pin (s1.heap.objs.size,oa) (List.mem_append_right _ (List.mem_append_right _ (List.mem_singleton.mpr rfl)))).1
 have I5:Inv X pins σ H2 s2:=I4.unpinned
 obtain ⟨its2,rv2,pl2,hz2⟩:=I5.list hq2
 have hil2:its2.length=ys.length:=by have:=rv2.length;rw [List.length_map] at this;exact this.symm
 refine Znk hh pl2.isList (by simpa using ZiI rv2) (by rw [List.size_toArray,hil2];unfold scanBound;omega) fun h'' tk2 kb hB hxb keep2=>?_
 have hA2:SS X.w h'' s1.heap.objs.size ka:=⟨oa,esA,epA,tA,keep2 _ _ (Heap.lt_size hoA2) hoA2,hxA,hdA,TA⟩
 have lka:ka.length < 32:=Nat.lt_of_le_of_lt (Zcm hA'.nd fun x hx=>(hxa x).mp hx) hn
 have lkb:kb.length < 32:=Nat.lt_of_le_of_lt (Zcm hB.nd fun x hx=>(hxb x).mp hx) hn2
 refine Zzc (s:={ s2 with heap:=h'',toks:=tk2 }) (Nat.ne_of_lt (Heap.lt_size hoA2)) hA2 hB lka lkb fun h3 kc hC hxc keep3=>?_
 have lkc:kc.length < 64:=by
  have:=Zcm (xs:=ka++kb) hC.nd fun x hx=>List.mem_append.mpr ((hxc x).mp hx)
  rw [List.length_append] at this
  omega
 refine ZjV hh hC lkc fun s' r vs zs en hr hget hv hp hs keep4 hg hos=>?_
 have z1:s2.heap.objs.size < h''.objs.size:=SS.lt (s:={ s2 with heap:=h'' }) hB
 have z2:h''.objs.size < h3.objs.size:=SS.lt (s:={ s2 with heap:=h3 }) hC
 have hr2:s2.heap.objs.size≤r:=Nat.le_of_lt (Nat.lt_of_lt_of_le (Nat.lt_trans z1 z2) hr)
 have kall:∀ b u,s2.heap.get? b=some u→s'.heap.get? b=some u:=fun b u z=>by
  have y1:=keep2 b u (Heap.lt_size z) z
  have y2:=keep3 b u (Heap.lt_size y1) y1
  exact keep4 b u (Heap.lt_size y2) y2
 have hzl:zs.length≤sizeLine:=by
  have:(64:Nat)≤sizeLine:=by decide
  rw [hp.length_eq];omega
 walk_at "pc"
 walk_at "pe"
 rw [hp.mem_iff,hxc,hxa,hxb]
def ZjX (ga gb:GE):GE:=fun ω G Q=>ga ω G fun x G1=>∃ (p:Addr) (kvs:List (Key×W)) (xs:List Str),x=.ref p∧G1 p=some (.dct kvs)∧kvs.map (·.1)=xs.map Sum.inr∧xs.length < 32∧gb ω G1 fun y G2=>∃ ys:List Str,ZiP G2 y=some (ys.map W.str)∧ys.length < 32 ∧
 ∀ (zs:List Str) (p:Addr),zs.Nodup→sortedS zs=true→(∀ x,x∈zs↔x∈xs∨x∈ys)→G2 p=none→Q (.ref p) (put G2 p (.lst (zs.map W.str)))
theorem ZoV {ga gb:GE} (ma:ga.M) (mb:gb.M):GE.M (ZjX ga gb):=fun ω G Q Q' h q=>ma _ _ _ _ ((by rintro x G1 ⟨p,kvs,xs,h1,h0,h9,h2,q1⟩;exact ⟨p,kvs,xs,h1,h0,h9,h2,mb _ _ _ _ ((by rintro y G2 ⟨ys,h3,h4,q2⟩;exact ⟨ys,h3,h4,fun zs p a b c d=>h _ _ (q2 zs p a b c d)⟩)) q1⟩)) q
theorem Zb2 {ga gb:GE} (hc:X.calm=true) (n1:X.mg "sorted"=none) (n2:X.mg "set"=none) (g1:Gl X "sorted") (g2:Gl X "set") (h1:starEach [e] X.env=(false,eval e X.env)::starEach [] X.env) (h2:starEach [eb] X.env=(false,eval eb X.env)::starEach [] X.env)
  (h3:starEach [.BinOp (.Call (.Name "set" p1) [e] [] q1) .BitOr (.Call (.Name "set" p2) [eb] [] q2) qb] X.env=(false,eval (.BinOp (.Call (.Name "set" p1) [e] [] q1) .BitOr (.Call (.Name "set" p2) [eb] [] q2) qb) X.env)::starEach [] X.env) (ha:Em X e ga) (hb:Em X eb gb) :
  Em X (.Call (.Name "sorted" p3) [.BinOp (.Call (.Name "set" p1) [e] [] q1) .BitOr (.Call (.Name "set" p2) [eb] [] q2) qb] [] q3) (ZjX ga gb):=by
 refine ⟨Zbf (ZqW hc n1 n2 g1 g2 h1 h2 h3 ha.p hb.p) fun σ H Q zz3=>?_,ZoV ha.m hb.m⟩
 obtain ⟨ω,G,ts,rh,q⟩:=zz3
 refine ⟨ω,G,ts,rh,ha.m _ _ _ _ (fun x G1 zz4 v H1 m1 tx r1=>?_) q⟩
 obtain ⟨p,kvs,xs,rfl,hG,hkx,hn,q1⟩:=zz4
 cases tx
 obtain ⟨us,e1,tl⟩:=r1 p _ hG
 refine ⟨p,us,xs,rfl,e1,by rw [Zko tl];exact hkx,hn,ω,G1,ts.mono m1,r1,hb.m _ _ _ _ (fun y G2 zz5 u H2 m2 ty r2=>?_) q1⟩
 obtain ⟨ys,hy,hn2,q2⟩:=zz5
 obtain ⟨b,us,rfl,rfl,hG2,hH2,tu⟩:=Zeh r2 ty hy
 obtain rfl:=Zmr tu
 refine ⟨b,ys,rfl,.inl (.inl hH2),hn2,fun zs r z1 z2 z3 z4=>?_⟩
 exact q2 zs r z1 z2 z3 (r2.no z4) _ _ (m1.trans (m2.trans (Mono.new z4 _))) (.ref r) (r2.new z4 (ZkJ zs))
end
end L3
namespace L3
open PySem PySem.Spec PyProof.Rows L2
section
variable {α:Type} {x y z:α} {xs:List α}
theorem Zc7:atI (x::xs) 0=some x:=Zkv (j:=0) (xs:=x::xs) rfl
theorem ZcW:atI (x::y::xs) 1=some y:=Zkv (j:=1) (xs:=x::y::xs) rfl
theorem Zdz:atI (x::y::z::xs) 2=some z:=Zkv (j:=2) (xs:=x::y::z::xs) rfl
end
theorem Zaf {w:W} {f:W→Prop}:opt (some w) f=f w:=rfl
theorem ZaS {G:Hw} {p:Addr} {o:HW} (h:G p=none):Sub G (put G p o):=Sub.refl.put h
theorem Zcs {G G':Hw} {p:Addr} {o:HW} (s:Sub G G') (h:G' p=none):Sub G (put G' p o):=s.trans (ZaS h)
theorem Zf7 {G:Hw} {p:Addr} {o o':HW}:put (put G p o) p o'=put G p o':=by
 funext b;unfold put;split <;> rfl
theorem ZcB {G:Hw} {p:Addr} {xs:List W} (h:G p=some (.lst xs)):ZiP G (.ref p)=some xs:=by unfold ZiP;dsimp only;rw [h]
theorem Zmh {G:Hw} {p:Addr} {xs:List W} (h:G p=some (.lst xs)):ZmM G (.ref p)=some xs:=by unfold ZmM;dsimp only;rw [h]
theorem Zt3 {G:Hw} {p:Addr} {xs:List W} (h:G p=some (.lst xs)):rdL G (.ref p)=some xs:=by unfold rdL;dsimp only;rw [h]
theorem Ze2 {G:Hw} {p:Addr} {xs:List W} {i:Int} (h:G p=some (.lst xs)):ixW (.ref p) (.int i) G=atI xs i:=by unfold ixW;dsimp only;rw [h]
theorem Zcn:∀ bs:List Bool,Zk5 (bs.map W.bl)=some bs
 | []=>rfl
 | b::bs=>by show (Zk5 (bs.map W.bl)).map (b::·)=_;rw [Zcn bs];rfl
theorem ZnB:∀ bs:List Int,Zmd (bs.map W.int)=some bs
 | []=>rfl
 | b::bs=>by show (Zmd (bs.map W.int)).map (b::·)=_;rw [ZnB bs];rfl
theorem Zi2 {gd:Hw→Prop} {ge:GE} {R:List W→Hw→Prop} {f:W→W} {G:Hw} (hgd:gd G):∀ (ws:List W) (o:Option W) (ys:List W),(∀ x∈ws,∀ Q:Kw,Q (f x) G→ge [some x] G Q) →
  ys.length+ws.length≤sizeLine→R (ys++ws.map f) G→ZbK gd (gNm 0) Zgh ge R ws [o] G ys
 | [],o,ys,_,_,r=>⟨hgd,by simpa using r⟩
 | x::ws,o,ys,h,hl,r=>by
  refine ⟨hgd,by simp only [List.length_cons] at hl;omega,?_⟩
  show ge [some x] G fun y G3=>ZbK gd (gNm 0) Zgh ge R ws [some x] G3 (ys++[y])
  refine h x List.mem_cons_self _ (Zi2 hgd ws (some x) (ys++[f x]) (fun y hy=>h y (List.mem_cons_of_mem _ hy)) ?_ ?_)
  ·simp only [List.length_append,List.length_cons,List.length_nil] at hl ⊢;omega
  ·simpa [List.append_assoc] using r
theorem ZxU {gd:Hw→Prop} {ge:GE} {R:List W→Hw→Prop} {f:W→W→W} {G:Hw} (hgd:gd G):∀ (ws:List (W×W)) (o o':Option W) (ys:List W),(∀ x∈ws,∀ Q:Kw,Q (f x.1 x.2) G→ge [some x.1,some x.2] G Q) →
  ys.length+ws.length≤sizeLine→R (ys++ws.map fun x=>f x.1 x.2) G→ZbK gd (ZmU 0 1) Zgh ge R (ws.map fun x=>W.tup [x.1,x.2]) [o,o'] G ys
 | [],o,o',ys,_,_,r=>⟨hgd,by simpa using r⟩
 | x::ws,o,o',ys,h,hl,r=>by
  refine ⟨hgd,by simp only [List.length_cons] at hl;omega,?_⟩
  show ge [some x.1,some x.2] G fun y G3=>ZbK gd (ZmU 0 1) Zgh ge R (ws.map fun x=>W.tup [x.1,x.2]) [some x.1,some x.2] G3 (ys++[y])
  refine h x List.mem_cons_self _ (ZxU hgd ws (some x.1) (some x.2) (ys++[f x.1 x.2]) (fun y hy=>h y (List.mem_cons_of_mem _ hy)) ?_ ?_)
  ·simp only [List.length_append,List.length_cons,List.length_nil] at hl ⊢;omega
  ·simpa [List.append_assoc] using r
theorem ZmZ:∀ (xs ys:List W),Znl xs ys=(xs.zip ys).map fun x=>W.tup [x.1,x.2]
 | [],_=>by simp [Znl]
 | _::_,[]=>by simp [Znl]
 | x::xs,y::ys=>by simp [Znl,ZmZ xs ys]
def spR {α:Type} (A:α→List W→Hw→Prop) (f:α→W):Spw:=fun ws G Q _=>∃ x,A x ws G∧Q (f x) G
theorem ZcD {α:Type} {A:α→List W→Hw→Prop} {f:α→W}:Spw.M (spR A f):=(by rintro ws G Q Q' E E' h _ ⟨x,h1,q⟩;exact ⟨x,h1,h _ _ q⟩)
def spL {α:Type} (A:α→List W→Hw→Prop) (f:α→List W):Spw:=fun ws G Q _=>∃ x,A x ws G∧∀ p,G p=none→Q (.ref p) (put G p (.lst (f x)))
theorem Zms {α:Type} {A:α→List W→Hw→Prop} {f:α→List W}:Spw.M (spL A f):=(by rintro ws G Q Q' E E' h _ ⟨x,h1,q⟩;exact ⟨x,h1,fun p hp=>h _ _ (q p hp)⟩)
theorem ZuZ {α:Type} (xs:List α):ZqO xs (some 1) none=xs.drop 1:=by
 have e:HT.sIx xs.length 0 (some 1)=min 1 xs.length:=HT.sIx_nat xs.length 0 1
 unfold ZqO
 rw [e,HT.sIx_none]
 cases xs with
 | nil=>rfl
 | cons x xs =>
  have e1:min 1 (x::xs).length=1:=by simp only [List.length_cons];omega
  rw [e1]
  show (xs.take ((xs.length+1) - 1))=xs
  rw [Nat.add_sub_cancel,List.take_length]
theorem ZeH {α:Type} (x:α) (xs:List α):¬ (HT.sIx (x::xs).length 0 (some 1)=0∧HT.sIx (x::xs).length (x::xs).length none=(x::xs).length):=by
 have e:HT.sIx (x::xs).length 0 (some 1)=min 1 (x::xs).length:=HT.sIx_nat (x::xs).length 0 1
 intro h
 have:=h.1
 rw [e] at this
 simp only [List.length_cons] at this
 omega
theorem Zyg {G:Hw} {p:Addr} {xs:List W} {lo hi:Option Int} {Q:Kw} (h:G p=some (.lst xs)) (q:∀ p1,G p1=none→Q (.ref p1) (put G p1 (.lst (ZqO xs lo hi)))):slW (.ref p) lo hi G Q:=by
 unfold slW
 dsimp only
 rw [h]
 exact q
theorem Zaw {G:Hw} {p q:Addr} {o:HW} (h:G p=some o) (h':G q=none):p≠q:=by intro e;rw [e,h'] at h;cases h
theorem Za0 {n:Nat} (h:n≤100000):n≤sizeLine:=Nat.le_trans h (by decide)
theorem Zea {n:Nat} (h:n≤100000):n < sizeLine:=Nat.lt_of_le_of_lt h (by decide)
section
variable {P:Program} {w:World} {K:PySem.W.Frag} {mg:Str→Option Value} {base:Heap}
theorem ok0 {x:Str} {st:Stmt} {f:Addr} {fd:FuncData} {N ps:List Str} {k:Nat} {sp:Spw} {g:GS} (F:Fun K x x st f fd) (S:Zau N ps (Zai st)) (len:∀ ws G Q E,sp ws G Q E→ws.length=ps.length)
  (hg:∀ {f:Addr} {cdv:Value} {A:Around} {outer:List Env} {s:Shared} {H:Hp} {E:XK},Room k (A.deeper (envOfC x (Zai st) s.heap.objs.size f cdv))→Ssm (cxW P w K mg base N x (Zai st) f cdv A outer s H E).nox (fun B=>B=H) (Zc2 st) g)
  (ok:∀ ws G (Q:Kw) (E:Addr→Hw→Prop),Kw.C Q→sp ws G Q E→g (ZaL Q) (Zbx N ws) G):FnOk P w K mg base (CXe P w) (k+1) f fd ps (Zwb K sp):=by
 walk_at "pv"
 refine ZuI lk hcd S ((by rintro vs H Q E ⟨ws,G,t,r,q⟩;rw [t.length];exact len ws G _ _ q)) fun A outer s H vs Q E hr hsp=>?_
 obtain ⟨ws,G,t,r,q⟩:=hsp
 have D:=hg (cdv:=cdv) (outer:=outer) (H:=H) (E:=E) hr
 refine ⟨_,(D.p H rfl).nox,Zbx N ws,G,Zjh t,r,.refl,?_⟩
 exact D.m _ _ (ZaL (dn K H Q)) _ (fun a b z σ H2 m ts r2=>z _ H2 m Tr.non r2) (fun a b z=>z) (fun a b z=>z.elim) (fun a b z=>z.elim) (ok ws G _ _ Zz0 q)
end
def Zsh:Spw:=fun ws _ Q _=>∃ ns:List Int,ws=[.rol (ns.map W.int)]∧ns.length≤63∧∀ G',Q (.bl true) G'
theorem Znp {K:PySem.W.Frag} {H:Hp}:∀ ns:List Int,TrL K H (ns.map V.int) (ns.map W.int)
 | []=>.nil
 | n::ns=>.cons (.int n) (Znp ns)
theorem Zqi {K:PySem.W.Frag} {H:Hp} {a:Addr} {ns:List Int} (hl:ns.length≤63) (hO:ZyT H) (hS:SqL K H a (ns.map V.int)):Zwb K Zsh [.ref a] H (fun v _=>v=.bl true) (fun _ _ _=>False):=by
 have ro:RoL K H a (ns.map V.int):=by
  rcases hS with (h | ⟨o,h⟩) | h
  ·rcases hO a with z | ⟨o,xs,z⟩
   ·rw [z] at h;cases h
   ·rw [z] at h;cases h
  ·exact .inl ⟨o,h⟩
  ·exact .inr h
 exact ⟨[.rol (ns.map W.int)],fun _=>none,.cons (.rol ro (Znp ns)) .nil,(fun a o e=>by cases e),ns,rfl,hl,fun G' v H' m t r=>ZmR t⟩
theorem Zr4 {P:Program} {w:World} {H:Hp} {s:Shared} {e:Value} {s':Shared} (h:CXe P w [] H s (fun _ _ _=>False) e s'):False:=by
 obtain ⟨_,_,_,_,_,q⟩:=h
 exact q
section
variable {K:PySem.W.Frag} {h:Heap} {mg:Str→Option Value} (X:K.In h) (G:h.Ns mainGlobals mg)
include X G
theorem Zzt {x:Str} {st:Stmt} {ps:List Str} {f:Addr} {oc:Value} {od an:Option Addr} {osl:Array (Option Value)} {kV doc pm cdv ct:Value} (e1:PySem.W.nsIn K mainGlobals x=some (some (.ref f)))
  (l:K.lookup f=some ⟨oc,od,.func (PySem.W.fnOf x x (Zf4 st) (Zc2 st) (Zai st) .none kV doc pm an cdv ct),osl⟩) (c:PySem.W.codeIn K cdv x=true) (k:PySem.W.keepIn K (.ref f)=true)
  (b:∀ (kV doc pm:Value) (an:Option Addr) (cdv ct:Value) (us:List Value),us.length=ps.length→bindArgs (PySem.W.fnOf x x (Zf4 st) (Zc2 st) (Zai st) .none kV doc pm an cdv ct) ⟨us,[]⟩=pure (ps.zip us)):Fn K mg st x ps :=
 ⟨f,_,PySem.W.mg_of X G e1,ZtI l c k,(ZtI l c k).binds b⟩
theorem Zio {x:Str} {i:Int} {t:Tok} (e:PySem.W.nsIn K mainGlobals x=some (some (.int i t))):Glb K mg x (.int i):=⟨.int i,.int i t,PySem.W.mg_of X G e,⟨t,rfl⟩,fun H=>.int i⟩
theorem Zuf {x:Str} {d:Addr} {ts:List (Str×Tok)} {dd:Option Addr} {n:Nat} {sl:Array (Option Value)} (e:PySem.W.nsIn K mainGlobals x=some (some (.ref d))) (l:K.lookup d=some ⟨.type "tuple",none,.seq ((ts.map fun p=>Value.str p.1 p.2).toArray) n,sl⟩) (hz:ts.length≤1000) :
  Glb K mg x (.tup (ts.map fun p=>.str p.1)):=by
 have vs:∀ ts:List (Str×Tok),Vals (ts.map fun p=>V.str p.1) (ts.map fun p=>Value.str p.1 p.2):=fun ts=>by
  induction ts with
  | nil=>exact .nil
  | cons p ts ih=>exact .cons ⟨p.2,rfl⟩ ih
 have tr:∀ (H:Hp) (ts:List (Str×Tok)),TrL K H (ts.map fun p=>V.str p.1) (ts.map fun p=>W.str p.1):=fun H ts=>by
  induction ts with
  | nil=>exact .nil
  | cons p ts ih=>exact .cons (.str _) ih
 refine ⟨.ref d,.ref d,PySem.W.mg_of X G e,rfl,fun H=>.tup (.inr ⟨_,_,n,l,rfl,rfl,rfl,?_,by simpa using vs ts⟩) (tr H ts)⟩
 simp only [List.size_toArray,List.length_map]
 exact Nat.le_trans hz (by decide)
end
theorem Zxx {K:PySem.W.Frag} {h base:Heap} {mg:Str→Option Value} (X:K.In h) (G:h.Ns mainGlobals mg) (B:K.In base) {x:Str} {d:Addr} {o:Obj} {es:Array DictEntry} {ep:Nat} {D:List (Str×Int)} (e:PySem.W.nsIn K mainGlobals x=some (some (.ref d))) (l:K.lookup d=some o)
  (hd:(d==sysModules)=false) (hx:o.ExactDict) (ho:o.data=.dict es ep) (hr:KTD.Rows (KTD.Dat.At base) es.toList (D.map fun p=>(p.1,KTD.Dat.flat (.int p.2)))):Zza mg base x D :=
 ⟨d,PySem.W.mg_of X G e,hd,o,es,ep,B _ _ l,hx,ho,hr⟩
theorem ZzB {l:PySem.W.OpenLaw} {q:Program} {loose:List Str} {XP:(Str→Option Value)→Heap→Prop} {YP:World→Heap→Prop} {d:DefRec} {K:Params→PySem.W.Frag} {k:Nat} (hr:Room k callerA) (hn:l.most=some 63) (hdf:d.params.defaults=[])
  (hY:∀ (w:World) (h:Heap),YP w h→(K w.params).In h)
  (F:∀ (w:World) (mg:Str→Option Value) (fa:Addr) (h:Heap),(K w.params).In h→h.Ns mainGlobals mg→mg d.name=some (.ref fa) →
   ∃ fd:FuncData,(∀ (s:Shared) (u:Value),BindsTo s fd ⟨[u],[]⟩ [("script",u)])∧∀ base:Heap,(K w.params).In base→base.Ns mainGlobals mg→FnOk l.prog w (K w.params) mg base (CXe l.prog w) k fa fd ["script"] (Zwb (K w.params) Zsh)) :
  PySem.W.WalkO q loose XP YP l.row.toRowW d [] (fun f vs=>PySem.call f vs) :=
 L2.Zuc (n:=63) (k:=k) (x:="script") (CX:=fun w=>CXe l.prog w) (sp:=fun w=>Zwb (K w.params) Zsh) hn (by decide) hdf hr hY F (fun w H a ns hl hO hS=>Zqi hl hO hS) fun w H s e s' z=>Zr4 z
theorem ln0 {us:List Value} (h:us.length=0):us=[]:=List.length_eq_zero_iff.mp h
theorem ln1 {us:List Value} {n:Nat} (h:us.length=n+1):∃ a r,us=a::r∧r.length=n:=by
 cases us with
 | nil=>cases h
 | cons a r=>exact ⟨a,r,rfl,Nat.succ.inj h⟩
end L3
namespace KO
open PySem L2 L3
mutual
inductive Kd where
 | any | num | truth
 | to (a b:Kd) | box (a:Kd) | row (fs:Fs) (o:Bool)
inductive Fs where
 | nil | cons (n:Str) (m:Bool) (k:Kd) (r:Fs)
end
def Zek (m:Bool):Str:=if m then "must" else "may"
mutual
def Kd.enc:Kd→W
 | .any=>.tup [.str "any"]
 | .num=>.tup [.str "num"]
 | .truth=>.tup [.str "truth"]
 | .to a b=>.tup [.str "to",a.enc,b.enc]
 | .box a=>.tup [.str "box",a.enc]
 | .row fs o=>.tup [.str "row",.tup fs.enc,.bl o]
def Fs.enc:Fs→List W
 | .nil=>[]
 | .cons n m k r=>.tup [.str n,.str (Zek m),k.enc]::r.enc
end
def Fs.kinds:Fs→List Kd
 | .nil=>[]
 | .cons _ _ k r=>k::r.kinds
def Fs.names:Fs→List Str
 | .nil=>[]
 | .cons n _ _ r=>n::r.names
def Kd.kids:Kd→List Kd
 | .to a b=>[a,b]
 | .box a=>[a]
 | .row fs _=>fs.kinds
 | _=>[]
mutual
def Kd.cnt:Kd→Nat
 | .to a b=>1+(a.cnt+b.cnt)
 | .box a=>1+a.cnt
 | .row fs _=>1+fs.cnt
 | _=>1
def Fs.cnt:Fs→Nat
 | .nil=>0
 | .cons _ _ k r=>k.cnt+r.cnt
end
mutual
def Kd.dp:Kd→Nat
 | .to a b=>1+max a.dp b.dp
 | .box a=>1+a.dp
 | .row fs _=>1+fs.dp
 | _=>1
def Fs.dp:Fs→Nat
 | .nil=>0
 | .cons _ _ k r=>max k.dp r.dp
end
mutual
def Kd.all:Kd→List Kd
 | .to a b=>.to a b::(a.all++b.all)
 | .box a=>.box a::a.all
 | .row fs o=>.row fs o::fs.all
 | .any=>[.any]
 | .num=>[.num]
 | .truth=>[.truth]
def Fs.all:Fs→List Kd
 | .nil=>[]
 | .cons _ _ k r=>k.all++r.all
end
def ZgN:List Kd→Nat
 | []=>0
 | k::r=>k.cnt+ZgN r
def dpL:List Kd→Nat
 | []=>0
 | k::r=>max k.dp (dpL r)
theorem ZqA:∀ fs:Fs,fs.cnt=ZgN fs.kinds
 | .nil=>rfl
 | .cons _ _ k r=>by show k.cnt+r.cnt=k.cnt+ZgN r.kinds;rw [ZqA r]
theorem ZwB:∀ fs:Fs,fs.dp=dpL fs.kinds
 | .nil=>rfl
 | .cons _ _ k r=>by show max k.dp r.dp=max k.dp (dpL r.kinds);rw [ZwB r]
theorem Zt4:∀ fs:Fs,fs.all=fs.kinds.flatMap Kd.all
 | .nil=>rfl
 | .cons _ _ k r=>by show k.all++r.all=(k::r.kinds).flatMap Kd.all;rw [Zt4 r,List.flatMap_cons]
theorem Zgp (k:Kd):k.cnt=1+ZgN k.kids:=by
 cases k with
 | to a b=>show 1+(a.cnt+b.cnt)=1+(a.cnt+(b.cnt+0));omega
 | box a=>show 1+a.cnt=1+(a.cnt+0);omega
 | row fs o=>show 1+fs.cnt=1+ZgN fs.kinds;rw [ZqA]
 | _=>rfl
theorem ZkB (k:Kd):k.dp=1+dpL k.kids:=by
 cases k with
 | to a b=>show 1+max a.dp b.dp=1+max a.dp (max b.dp 0);omega
 | box a=>show 1+a.dp=1+max a.dp 0;omega
 | row fs o=>show 1+fs.dp=1+dpL fs.kinds;rw [ZwB]
 | _=>rfl
theorem Zkj (k:Kd):k.all=k::k.kids.flatMap Kd.all:=by
 cases k with
 | to a b=>show Kd.to a b::(a.all++b.all)=Kd.to a b::[a,b].flatMap Kd.all;simp [List.flatMap_cons]
 | box a=>show Kd.box a::a.all=Kd.box a::[a].flatMap Kd.all;simp [List.flatMap_cons]
 | row fs o=>show Kd.row fs o::fs.all=Kd.row fs o::fs.kinds.flatMap Kd.all;rw [Zt4]
 | _=>rfl
theorem Zii:∀ (l m:List Kd),ZgN (l++m)=ZgN l+ZgN m
 | [],m=>by simp [ZgN]
 | k::l,m=>by show k.cnt+ZgN (l++m)=k.cnt+ZgN l+ZgN m;rw [Zii l m];omega
theorem ZjP:∀ (l m:List Kd),dpL (l++m)=max (dpL l) (dpL m)
 | [],m=>by simp [dpL]
 | k::l,m=>by show max k.dp (dpL (l++m))=max (max k.dp (dpL l)) (dpL m);rw [ZjP l m];omega
theorem Zpg (k:Kd):1≤k.cnt:=by rw [Zgp];omega
theorem Zhl (k:Kd):1≤k.dp:=by rw [ZkB];omega
theorem Zjt:∀ l:List Kd,ZgN l=l.length+ZgN (l.flatMap Kd.kids)
 | []=>rfl
 | k::l=>by
  show k.cnt+ZgN l=(l.length+1)+ZgN ((k::l).flatMap Kd.kids)
  rw [List.flatMap_cons,Zii,Zjt l,Zgp k];omega
theorem Zl5:∀ l:List Kd,l≠[]→dpL l=1+dpL (l.flatMap Kd.kids)
 | [],h=>absurd rfl h
 | [k],_=>by
  show max k.dp 0=1+dpL ([k].flatMap Kd.kids)
  rw [List.flatMap_cons,List.flatMap_nil,List.append_nil,ZkB];omega
 | k::k'::l,_=>by
  have ih:=Zl5 (k'::l) (by simp)
  show max k.dp (dpL (k'::l))=1+dpL ((k::k'::l).flatMap Kd.kids)
  rw [List.flatMap_cons,ZjP,ih,ZkB k];omega
theorem ZkC:∀ l:List Kd,l.length≤ZgN l
 | []=>Nat.le_refl _
 | k::l=>by have:=ZkC l;have:=Zpg k;show l.length+1≤k.cnt+ZgN l;omega
theorem Zn4:∀ {l:List Kd} {k:Kd},k∈l→k.cnt≤ZgN l
 | k'::l,k,h=>by
  show k.cnt≤k'.cnt+ZgN l
  walk_at "pr"
  ·omega
  ·have:=Zn4 h;omega
theorem Zga:∀ {l:List Kd} {k:Kd},k∈l→k.dp≤dpL l
 | k'::l,k,h=>by
  show k.dp≤max k'.dp (dpL l)
  walk_at "pr"
  ·omega
  ·have:=Zga h;omega
theorem Zj4 {k c:Kd} (h:c∈k.kids):c.dp+1≤k.dp:=by rw [ZkB k];have:=Zga h;omega
theorem ZsE (k:Kd):k.kids.length+1≤k.cnt:=by rw [Zgp k];have:=ZkC k.kids;omega
theorem ZtB:∀ fs:Fs,fs.enc.length=fs.kinds.length
 | .nil=>rfl
 | .cons _ _ k r=>by show r.enc.length+1=r.kinds.length+1;rw [ZtB r]
theorem Zmg:∀ (n:Nat) (k:Kd),k.dp≤n→k.all.length=k.cnt:=by
 intro n
 induction n with
 | zero=>intro k h;have:=Zhl k;omega
 | succ n ih =>
  intro k h
  have key:∀ l:List Kd,(∀ c∈l,c.dp≤n)→(l.flatMap Kd.all).length=ZgN l:=by
   intro l
   induction l with
   | nil=>intro _;rfl
   | cons c l ih2 =>
    intro hl
    rw [List.flatMap_cons,List.length_append,ih c (hl c List.mem_cons_self),ih2 (fun d hd=>hl d (List.mem_cons_of_mem _ hd))];rfl
  rw [Zkj,List.length_cons,key k.kids (fun c hc=>by have:=Zj4 hc;omega),Zgp];omega
theorem ZmB (k:Kd):k.all.length=k.cnt:=Zmg k.dp k (Nat.le_refl _)
def Kd.unk:Kd→Bool
 | .any=>true
 | .row _ o=>o
 | _=>false
def Kd.fb:Kd→Bool
 | .to _ _=>true
 | .box _=>true
 | _=>false
def Kd.known (k:Kd):Bool:=!(k.all.any Kd.unk)
def Kd.data (k:Kd):Bool:=!(k.all.any Kd.fb)
def Kd.hd:Kd→Str
 | .any=>"any"
 | .num=>"num"
 | .truth=>"truth"
 | .to _ _=>"to"
 | .box _=>"box"
 | .row _ _=>"row"
def Kd.own:Kd→List Str
 | .row _ o=>if o then ["row","open"] else ["row"]
 | k=>[k.hd]
def ZgJ (z:Str):Bool:=!ZaA z "a"&&!ZaA "z" z
def Za1 (n:Str):Bool:=decide (1≤n.length)&&decide (n.length≤8)&&n.cps.toList.all fun c=>ZgJ ⟨#[c]⟩
def rise:List Str→Bool
 | a::b::r=>ZaA a b&&rise (b::r)
 | _=>true
mutual
def Kd.ok:Kd→Bool
 | .to a b=>a.ok&&b.ok
 | .box a=>a.ok
 | .row fs _=>rise fs.names&&fs.ok
 | _=>true
def Fs.ok:Fs→Bool
 | .nil=>true
 | .cons n _ k r=>Za1 n&&k.ok&&r.ok
end
theorem ZfW:∀ {fs:Fs},fs.ok=true→∀ c∈fs.kinds,c.ok=true
 | .nil,_,c,hc=>by cases hc
 | .cons n m k r,h,c,hc=>by
  have h':(Za1 n&&k.ok&&r.ok)=true:=h
  walk_at "pg"
  rcases List.mem_cons.mp hc with rfl | hc
  ·exact h'.1.2
  ·exact ZfW h'.2 c hc
theorem ZpO {k:Kd} (h:k.ok=true):∀ c∈k.kids,c.ok=true:=by
 intro c hc
 cases k with
 | to a b =>
  have h':(a.ok&&b.ok)=true:=h
  walk_at "pg"
  have hc':c=a∨c=b:=by simpa [Kd.kids] using hc
  rcases hc' with rfl | rfl
  ·exact h'.1
  ·exact h'.2
 | box a=>have hc':c=a:=by simpa [Kd.kids] using hc
          subst hc';exact h
 | row fs o =>
  have h':(rise fs.names&&fs.ok)=true:=h
  walk_at "pg"
  exact ZfW h'.2 c hc
 | _=>cases hc
open PySem PySem.Spec PyProof.Rows L2 L3
abbrev Zcy:Stmt:=top 23
abbrev ZeP:Stmt:=top 24
abbrev ZiC:Stmt:=top 22
abbrev Zg3:Stmt:=top 21
abbrev Ze4:Stmt:=top 20
abbrev Zg8:Stmt:=top 19
abbrev ZdF:Stmt:=top 18
abbrev ZcK:Stmt:=top 16
abbrev Zcg:Stmt:=top 15
abbrev Zir:Stmt:=top 14
abbrev ZeM:Stmt:=top 13
abbrev Zhb:Stmt:=top 17
abbrev Zit:Stmt:=top 12
abbrev ZgS:Stmt:=top 10
abbrev ZgR:Stmt:=top 11
abbrev ZcC:Stmt:=top 32
abbrev Zdj:Stmt:=top 34
abbrev ZcY:Stmt:=top 36
abbrev Zc1:Stmt:=top 35
abbrev Zei:Stmt:=top 33
abbrev ZkK:Stmt:=top 26
abbrev Zh5:Stmt:=top 37
abbrev ZcA:Stmt:=top 40
abbrev Zc9:Stmt:=top 39
abbrev Zge:Stmt:=top 38
abbrev ZkS:Stmt:=top 31
abbrev Zrh:Stmt:=top 30
abbrev ZdL:Stmt:=top 42
abbrev ZeC:Stmt:=top 43
abbrev Zed:Stmt:=top 44
abbrev ZgW:Stmt:=top 45
abbrev ZfX:Stmt:=top 46
abbrev Zcw:Stmt:=top 47
abbrev ZeN:Stmt:=top 48
abbrev Zdc:Stmt:=top 49
abbrev Zeb:Stmt:=top 50
abbrev Zel:Stmt:=top 52
abbrev Zcp:Stmt:=top 51
abbrev Zf6:Stmt:=top 53
abbrev Zc6:Stmt:=top 54
abbrev Zor:Stmt:=top 55
def Zh8:List (Str×Int):=[("any",1),("num",1),("truth",1),("to",3),("box",2),("row",3)]
structure Adr where
 CastError:Addr
 NoKind:Addr
 NoValue:Addr
structure Fns (K:PySem.W.Frag) (mg:Str→Option Value):Prop where
 Zhd:Fn K mg Zcy "is_small_letter" ["sign"]
 ZlA:Fn K mg ZeP "names_rise" ["names"]
 Zpt:Fn K mg ZiC "is_name" ["thing"]
 Zox:Fn K mg Zg3 "is_field" ["thing"]
 ZlY:Fn K mg Ze4 "are_fields" ["thing"]
 Zoe:Fn K mg Zg8 "has_form" ["thing"]
 ZiY:Fn K mg ZdF "kinds_within" ["kind"]
 ZfU:Fn K mg ZcK "layer_within" ["layer","things_within"]
 Zhp:Fn K mg Zcg "is_made_of" ["thing","is_formed","things_within","most","deepest"]
 Zpi:Fn K mg Zir "is_kind" ["thing"]
 ZlP:Fn K mg ZeM "check_kind" ["thing"]
 Zjo:Fn K mg Zhb "kinds_in" ["kind"]
 Zpv:Fn K mg Zit "is_data" ["kind"]
 ZoL:Fn K mg ZgS "entry_of" ["row","name"]
 Zoo:Fn K mg ZgR "names_of" ["row"]
 ZgV:Fn K mg ZcC "check_data_kind" ["thing"]
 Zh7:Fn K mg Zdj "values_within" ["value"]
 ZhI:Fn K mg ZcY "is_value_field" ["thing"]
 ZhD:Fn K mg Zc1 "has_value_form" ["thing"]
 ZkO:Fn K mg Zei "check_value" ["thing"]
 ZsR:Fn K mg ZkK "behind" ["step","path"]
 Zp6:Fn K mg Zh5 "head_of" ["value"]
 Zg6:Fn K mg ZcA "misfit_of_field" ["fields","name","entry"]
 Zh9:Fn K mg Zc9 "misfit_of_row" ["fields","row"]
 ZiD:Fn K mg Zge "misfit_of" ["value","kind"]
 ZsT:Fn K mg ZkS "misfit" ["value","kind"]
 Zxt:Fn K mg Zrh "fits" ["value","kind"]
 Zi5:Fn K mg ZdL "_law_cell_at" ["script","k"]
 Zlc:Fn K mg ZeC "_law_state" ["script","k"]
 Zkd:Fn K mg Zed "_law_choice" ["state","many"]
 ZjH:Fn K mg ZgW "_law_row" ["state","deep","plain","known"]
 Zf0:Fn K mg ZfX "_law_kind" ["state","deep","plain","known"]
 Zg4:Fn K mg Zcw "_law_drawn_kind" ["script","k","plain","known"]
 Zhm:Fn K mg ZeN "_law_value" ["state","deep"]
 ZeY:Fn K mg Zdc "_law_value_of" ["state","kind"]
 Zgj:Fn K mg Zeb "_law_turned" ["state","value"]
 Zgw:Fn K mg Zel "_law_values" ["value"]
 Zgy:Fn K mg Zcp "_law_drawn_value" ["script","k","kind"]
 ZmS:Fn K mg Zf6 "_law_same" ["value","head"]
 Zgo:Fn K mg Zc6 "_law_misfit" ["value","kind"]
 Zzr:Fn K mg Zor "law" ["script"]
structure Bls (mg:Str→Option Value):Prop where
 Ze6:mg "all"=none
 Zix:mg "any"=none
 ZfT:mg "bool"=none
 Zbd:mg "dict"=none
 ZdN:mg "int"=none
 Zad:mg "isinstance"=none
 Zi8:mg "len"=none
 Zbe:mg "list"=none
 ZdD:mg "set"=none
 Zas:mg "sorted"=none
 Zi1:mg "str"=none
 Zic:mg "sum"=none
 Zbo:mg "tuple"=none
 ZzN:mg "zip"=none
structure Tx (K:PySem.W.Frag) (mg:Str→Option Value) (base:Heap) (a:Adr):Prop extends Fns K mg,Bls mg where
 ZmO:mg "CastError"=some (.ref a.CastError)
 ZsP:mg "NoKind"=some (.ref a.NoKind)
 ZpW:mg "NoValue"=some (.ref a.NoValue)
 Zcc:Glb K mg "MARKS" (.tup [(.str "must"),(.str "may")])
 ZaE:Glb K mg "MOST_DEPTH" (.int 8)
 ZaD:Glb K mg "MOST_KINDS" (.int 40)
 Zav:Glb K mg "MOST_LETTERS" (.int 8)
 Zaz:Glb K mg "MOST_VALUES" (.int 100)
 Zaq:Glb K mg "MOST_VALUE_DEPTH" (.int 10)
 ZbL:Zza mg base "LENGTHS" Zh8
def Dn (P:Program) (w:World) (K:PySem.W.Frag) (mg:Str→Option Value) (base:Heap) (N:List Str) (x:Str) (st:Stmt) (k:Nat) (g:GS):Prop:=∀ {f:Addr} {cdv:Value} {A:Around} {outer:List Env} {s:Shared} {H:Hp} {E:XK},Room k (A.deeper (envOfC x (Zai st) s.heap.objs.size f cdv))→Ssm (cxW P w K mg base N x (Zai st) f cdv A outer s H E).nox (fun B=>B=H) (Zc2 st) g
theorem mk0 {P:Program} {w:World} {K:PySem.W.Frag} {mg:Str→Option Value} {base:Heap} {x:Str} {st:Stmt} {N ps:List Str} {k n:Nat} {sp:Spw} {g:GS} (Fx:Fn K mg st x ps) (hn:ps.length=n) (S:Zau N ps (Zai st)) (spm:sp.M) (len:∀ ws G Q E,sp ws G Q E→ws.length=n) (hg:Dn P w K mg base N x st k g) (ok:∀ ws G (Q:Kw) (E:Addr→Hw→Prop),Kw.C Q→sp ws G Q E→g (ZaL Q) (Zbx N ws) G):Df P w K mg base x (k+1) n sp:=L3.mk0 Fx hn S spm len hg ok
set_option hygiene false in
local macro_rules | `(tactic| walk_at "s") => `(tactic| exact ⟨rfl, rfl, rfl, by decide +kernel, rfl, by decide +kernel, by decide +kernel⟩)
set_option hygiene false in
local macro_rules | `(tactic| walk_at "c") => `(tactic| first | exact ZfE hu | exact ZfB hu | exact ZfI | exact cop_nin | exact ZfO | exact ZfQ | exact Zfr | exact ZfJ | exact ZfF | exact Zdv | exact cop_inT hu | exact cop_nInT hu | exact cop_nInU hu | exact cop_isB | exact cop_inN hu | exact cop_inK | exact ZcM)
set_option hygiene false in
local macro_rules | `(tactic| walk_at "b") => `(tactic| first | refine ZaO ZcV (ZbN rfl) rfl T.Ze6 (by decide) rfl rfl rfl ?_ | refine ZaO ZeF (Zdi rfl) rfl T.Zix (by decide) rfl rfl rfl ?_ | refine ZaN ZaJ (Zck rfl) rfl T.Zbd (by decide) rfl rfl rfl ?_ | refine ZaN Zch (ZdG) rfl T.ZdN (by decide) rfl rfl rfl ?_ | refine ZaO Zfw (ZdJ) rfl T.Zi8 (by decide) rfl rfl rfl ?_ | refine ZaN ZaM (ZcH) rfl T.Zbe (by decide) rfl rfl rfl ?_ | refine ZaO bt_sorted (blt_sorted) rfl T.Zas (by decide) rfl rfl rfl ?_ | refine ZaO ZeK (Zdd rfl) rfl T.Zic (by decide) rfl rfl rfl ?_ | refine ZaN ZaY (Zb4) rfl T.Zbo (by decide) rfl rfl rfl ?_ | refine ZaN ZaJ (Zb5 rfl) rfl T.Zbd (by decide) rfl rfl rfl ?_ | refine ZaN ZaM (Zb7 rfl) rfl T.Zbe (by decide) rfl rfl rfl ?_ | refine Zao (T := "tuple") (by decide) ZaY T.Zbo T.Zad rfl rfl (by decide) rfl rfl rfl ?_ | refine Zao (T := "list") (by decide) ZaM T.Zbe T.Zad rfl rfl (by decide) rfl rfl rfl ?_ | refine Zao (T := "str") (by decide) Zfq T.Zi1 T.Zad rfl rfl (by decide) rfl rfl rfl ?_ | refine Zao (T := "int") (by decide) Zch T.ZdN T.Zad rfl rfl (by decide) rfl rfl rfl ?_ | refine Zao (T := "bool") (by decide) ZdE T.ZfT T.Zad rfl rfl (by decide) rfl rfl rfl ?_ | refine Zao (T := "dict") (by decide) ZaJ T.Zbd T.Zad rfl rfl (by decide) rfl rfl rfl ?_ | refine em_sortU rfl T.Zas T.ZdD rfl rfl rfl rfl rfl ?_ ?_ | refine Zb3 T.ZbL rfl rfl rfl rfl rfl rfl rfl ?_ | refine Zba ZbA rfl rfl rfl rfl rfl ?_ ?_ | refine Zba Zbg rfl rfl rfl rfl rfl ?_ ?_ | refine Zba ZdC rfl rfl rfl rfl rfl ?_ ?_ | exact Zap T.Zcc rfl rfl | exact Zap T.ZaE rfl rfl | exact Zap T.ZaD rfl rfl | exact Zap T.Zav rfl rfl | exact Zap T.Zaz rfl rfl | exact Zap T.Zaq rfl rfl)
set_option hygiene false in
local macro_rules | `(tactic| walk_at "v") => `(tactic| (first | (show Am _ _ _; first | exact Zby | refine ZaG rfl ?_ ?_) | (show Em _ _ _; first | exact Zro rfl rfl rfl rfl | exact ZdT | exact ZfR | refine Zia (fun _ _ => rfl) ?_ ?_ | refine Zco (by assumption) (hr.mono (by assumption)) rfl Zev rfl rfl rfl ?_ | refine ZfM ?_ | refine Zez ?_ | exact Zi4 | refine Zfz (by walk_at "c") rfl ?_ ?_ | refine Zdh ?_ ?_ | refine ZfH ?_ ?_ | refine ZfG ?_ ?_ | refine ZfK ?_ ?_ | refine Zdb ?_ ?_ | refine ZdI ?_ ?_ | refine ZfL ?_ ?_ | walk_at "b" | exact Zfv | refine Zey ?_ ?_ ?_ | refine ZdP ?_ ?_ | refine ZiW ?_ ?_ | refine ZdR ?_ | refine ZeA ?_ | refine Zfs ?_ ?_ | refine em_slA ?_ ?_ ?_ | refine ZiX ?_ ?_ ?_ | refine ZcI (by walk_at "c") (by walk_at "c") rfl ?_ ?_ ?_ | refine Zfn (fun _ _ => rfl) ?_ ?_ | exact ZcP | refine ZcQ rfl T.Zas rfl rfl rfl rfl ?_ | refine Zb2 rfl T.Zas T.ZdD rfl rfl rfl rfl rfl ?_ ?_) | (show Tm _ _ _; first | refine Zfp (by walk_at "c") rfl ?_ ?_ | refine ZdS ?_ | refine ZdB ?_ | refine ZdQ (fun _ => rfl) ?_ | refine ZcN (by walk_at "c") (by walk_at "c") rfl ?_ ?_ ?_) | (show Ssm _ _ _ _; first | refine Zam ?_ ?_ | exact Zcb | refine Za3 ?_) | (show Sm _ _ _ _; first | refine ZbZ ?_ | refine Zqq hN rfl rfl rfl ?_ | refine Zgf ?_ ?_ ?_ | refine ZcX rfl ?_ | refine ZdY PassesOwn.never rfl (fun _ => rfl) ?_ ?_ ?_ | refine Zb8 PassesOwn.never ?_ ?_ | refine Zrj hN rfl rfl ?_ | refine ZcO (fun _ => rfl) rfl rfl rfl ?_ ?_ ?_ | refine sm_asg rfl rfl rfl ?_ ?_ | refine sm_sc hN rfl rfl rfl rfl ?_ | exact sm_pass | exact ZcE | refine ZdK (fun _ => rfl) rfl rfl rfl ?_ ?_ ?_) | (show Wm _ _ _; first | refine ZfN ?_ ?_ | refine Zi3 ?_ ?_ | refine Zdy ?_ | refine Zfk ?_) | (show Im _ _ _ _; first | refine Zft ?_ | refine Ze0 (fun _ _ => rfl) ?_ | refine im_range T.n_range rfl rfl ?_) | (show Om _ _ _; first | exact ZdH | refine Zdx ?_) | (show Fm _ _ _; first | exact Zbz | refine fm_one ?_) | exact Zbp hN rfl (.inl rfl) (.inr rfl) | exact ZcR rfl hN rfl (.inl rfl) (.inr rfl) rfl (.inl rfl) (.inr rfl) rfl (.inl rfl) (.inr rfl) | exact ZfA rfl hN rfl (.inl rfl) (.inr rfl) rfl (.inl rfl) (.inr rfl) | exact Zbp hN rfl (.inr rfl) (.inl rfl)) <;> walk_at "v")
set_option hygiene false in
local macro_rules | `(tactic| walk_at "z") => `(tactic| (intro f cdv A outer s H E hr; have hu := ZgQ hr; walk_at "v"))
variable {P:Program} {w:World} {K:PySem.W.Frag} {mg:Str→Option Value} {base:Heap} {a:Adr}
abbrev ZdX:List Str:=["sign"]
theorem Zd0:Zau ZdX ["sign"] (Zai Zcy):=by walk_at "s"
def ZdZ:GS:=(Zay (Zb0 (Zdw (fun i j=>decide (i≤j)) (fun a b=>!ZaA b a)) (Zdw (fun i j=>decide (i≤j)) (fun a b=>!ZaA b a)) (gC (.str "a")) (Zae 0) (gC (.str "z"))))
theorem ZgY {k:Nat} (T:Tx K mg base a):Dn P w K mg base ZdX "is_small_letter" Zcy k (ZdZ):=by
 have hN:=Zd0.nd
 walk_at "z"
abbrev Zhv:List Str:=["names"]
theorem Zhr:Zau Zhv ["names"] (Zai ZeP):=by walk_at "s"
def Zhu:GS:=(Zay (gB (rF ZgP) (Zaa (ZbU (ZkN (Zaa (Zae 0) (Zaa (gSl (Zae 0) (Zd9 (gC (.int 1))) Zbu) Zaj))) 2 (ZmU 0 1) Zgh (Zak (Zdw (fun i j=>decide (i < j)) ZaA) (Zae 0) (Zae 1))) Zaj)))
theorem Zlq {k:Nat} (T:Tx K mg base a):Dn P w K mg base Zhv "names_rise" ZeP k (Zhu):=fun {f cdv A outer s H E} hr =>
 have hu:=ZgQ hr
 have hN:=Zhr.nd
 (Za3 (ZbZ (ZaO ZcV (ZbN rfl) rfl T.Ze6 (by decide) rfl rfl rfl (ZaG rfl (Zc3 (Nc:=["one","other"]) rfl (ZoO rfl (by decide +kernel) (by decide +kernel)) (fun _=>rfl) (Zxh T.ZzN rfl rfl rfl (by walk_at "v")) (ZqH (i:=0) (j:=1) rfl (by decide) rfl rfl rfl rfl) (fun C fp s1 H1=>Zbz) (fun C fp s1 H1=>(by walk_at "v"))) Zby))))
abbrev Zl3:List Str:=["thing"]
theorem Zln:Zau Zl3 ["thing"] (Zai ZiC):=by walk_at "s"
def Zlk (ZbF:Spw):GS:=(Zat (gIf (gOr (gNt (Zcj (Zbb "str" (Zae 0)))) (gNt (gTB (Zb0 (Zdw (fun i j=>decide (i≤j)) (fun a b=>!ZaA b a)) (Zdw (fun i j=>decide (i≤j)) (fun a b=>!ZaA b a)) (gC (.int 1)) (gB (rF ZfZ) (Zaa (Zae 0) Zaj)) (gC (.int 8)))))) (Zay (gC (.bl false))) Zan) (Zay (gB (rF ZgP) (Zaa (ZbU (Za7 (Zae 0)) 1 (gNm 0) Zgh (Zah ZbF XF (Zaa (Zae 0) Zaj))) Zaj))))
theorem ZqU {k:Nat} (T:Tx K mg base a) {ZbR:Nat} {ZbF:Spw} (ZoD:Df P w K mg base "is_small_letter" ZbR 1 ZbF) (ZoH:ZbR≤k):Dn P w K mg base Zl3 "is_name" ZiC k (Zlk ZbF):=fun {f cdv A outer s H E} hr =>
 have hu:=ZgQ hr
 have hN:=Zln.nd
 (Zam (by walk_at "v") (Za3 (ZbZ (ZaO ZcV (ZbN rfl) rfl T.Ze6 (by decide) rfl rfl rfl (ZaG rfl (Zc3 (Nc:=["sign"]) rfl (ZoO rfl (by decide +kernel) (by decide +kernel)) (fun _=>rfl) (by walk_at "v") (ZcJ (i:=0) (by decide) rfl rfl) (fun C fp s1 H1=>Zbz) (fun C fp s1 H1=>(by walk_at "v"))) Zby)))))
abbrev ZjN:List Str:=["thing"]
theorem ZjD:Zau ZjN ["thing"] (Zai Zg3):=by walk_at "s"
def Zjn (ZbT:Spw):GS:=(Zat (gIf (gOr (gNt (Zcj (Zbb "tuple" (Zae 0)))) (gTB (Zak (Zar (eqF true)) (gB (rF ZfZ) (Zaa (Zae 0) Zaj)) (gC (.int 3))))) (Zay (gC (.bl false))) Zan) (Zay (Zci (Zah ZbT XF (Zaa (Zak (Zar ixW) (Zae 0) (gC (.int 0))) Zaj)) (Zak (Zar (inF false)) (Zak (Zar ixW) (Zae 0) (gC (.int 1))) (gC (.tup [(.str "must"),(.str "may")]))))))
theorem Zoj {k:Nat} (T:Tx K mg base a) {ZcU:Nat} {ZbT:Spw} (ZpM:Df P w K mg base "is_name" ZcU 1 ZbT) (Zpm:ZcU≤k):Dn P w K mg base ZjN "is_field" Zg3 k (Zjn ZbT):=by
 have hN:=ZjD.nd
 walk_at "z"
abbrev Zhx:List Str:=["thing"]
theorem Zhn:Zau Zhx ["thing"] (Zai Ze4):=by walk_at "s"
def ZhA (Zej:Spw) (Za9:Spw):GS:=(Zat (gIf (gNt (Zcj (Zbb "tuple" (Zae 0)))) (Zay (gC (.bl false))) Zan) (Zay (Zci (gB (rF ZgP) (Zaa (ZbU (Za7 (Zae 0)) 1 (gNm 0) Zgh (Zah Zej XF (Zaa (Zae 0) Zaj))) Zaj)) (Zah Za9 XF (Zaa (ZbU (Za7 (Zae 0)) 1 (gNm 0) Zgh (Zak (Zar ixW) (Zae 0) (gC (.int 0)))) Zaj)))))
theorem Zl2 {k:Nat} (T:Tx K mg base a) {Zfa:Nat} {Zej:Spw} (Zv1:Df P w K mg base "is_field" Zfa 1 Zej) (Zwe:Zfa≤k) {Zbr:Nat} {Za9:Spw} (ZeG:Df P w K mg base "names_rise" Zbr 1 Za9) (ZeI:Zbr≤k):Dn P w K mg base Zhx "are_fields" Ze4 k (ZhA Zej Za9):=fun {f cdv A outer s H E} hr =>
 have hu:=ZgQ hr
 have hN:=Zhn.nd
 (Zam (by walk_at "v") (Za3 (ZbZ (ZdP (ZaO ZcV (ZbN rfl) rfl T.Ze6 (by decide) rfl rfl rfl (ZaG rfl (Zc3 (Nc:=["part"]) rfl (ZoO rfl (by decide +kernel) (by decide +kernel)) (fun _=>rfl) (by walk_at "v") (ZcJ (i:=0) (by decide) rfl rfl) (fun C fp s1 H1=>Zbz) (fun C fp s1 H1=>(by walk_at "v"))) Zby)) (ZdR (Zco ZeG (hr.mono ZeI) rfl Zev rfl rfl rfl (ZaG rfl (Zc3 (Nc:=["part"]) rfl (ZoO rfl (by decide +kernel) (by decide +kernel)) (fun _=>rfl) (by walk_at "v") (ZcJ (i:=0) (by decide) rfl rfl) (fun C fp s1 H1=>Zbz) (fun C fp s1 H1=>(by walk_at "v"))) Zby)))))))
local macro_rules | `(tactic| walk_at "rd") => `(tactic| ((try dsimp only [Zat,gIf,Zay,Zbj,Zbv,Zan,Zae,gC,Zak,gTB,Zcj,gNt,Zf2,gOr,Zci,Zjj,Zdg,Zgi,L3.Zbq,Zb1,L3.Zaa,L3.Zaj,Zah,gB,rF,Zar,Zbb,gMt,ZiM,Zb0,Zdw,Zfg,Zb6,L3.Zfj,Zda,gSl,Zd9,Zbu,ZbU,Za7,ZkN,ZaL,Zbx,List.map_cons,List.map_nil,List.length_cons,List.length_nil,List.cons_append,List.nil_append,List.getElem?_cons_zero,List.getElem?_cons_succ,List.set_cons_zero,List.set_cons_succ,List.replicate,Zeo,tyN,Zaf,Zc7,ZcW,Zdz,ixW,eqF,eqW,ZfZ,ZiZ,ZgP,Zjy,List.getElem?_nil]); (try simp only [Zat,gIf,Zay,Zbj,Zbv,Zan,Zae,gC,Zak,gTB,Zcj,gNt,Zf2,gOr,Zci,Zjj,Zdg,Zgi,L3.Zbq,Zb1,L3.Zaa,L3.Zaj,Zah,gB,rF,Zar,Zbb,gMt,ZiM,Zb0,Zdw,Zfg,Zb6,L3.Zfj,Zda,gSl,Zd9,Zbu,ZbU,Za7,ZkN,ZaL,Zbx,List.map_cons,List.map_nil,List.length_cons,List.length_nil,List.cons_append,List.nil_append,List.getElem?_cons_zero,List.getElem?_cons_succ,List.set_cons_zero,List.set_cons_succ,List.replicate,Zeo,tyN,Zaf,Zc7,ZcW,Zdz,ixW,eqF,eqW,ZfZ,ZiZ,ZgP,Zjy,List.getElem?_nil])))
abbrev Zsa:Spw:=spR (fun (z:Str) ws _=>ws=[.str z]) fun z=>.bl (ZgJ z)
theorem ZbR (T:Tx K mg base a):Df P w K mg base "is_small_letter" 1 1 Zsa:=by
 refine mk0 T.Zhd rfl Zd0 ZcD ((by rintro ws G Q E ⟨z,e,_⟩;rw [e];rfl)) (ZgY T) fun ws G Q E hC q=>?_
 obtain ⟨z,rfl,q⟩:=q
 unfold ZdZ
 walk_at "rd"
 dsimp only at q
 unfold ZgJ at q
 refine Zjq (fun h=>?_) (fun h=>?_)
 ·rw [h] at q;simpa using q
 ·rw [Bool.eq_false_iff.mpr h] at q;simpa using q
theorem Znu:∀ ns:List Str,rise ns=((ns.zip (ns.drop 1)).map fun x=>ZaA x.1 x.2).all id
 | []=>rfl
 | [_]=>rfl
 | a::b::r=>by
  show (ZaA a b&&rise (b::r))=_
  rw [Znu (b::r)];rfl
abbrev Zwh:Spw:=spR (fun (ns:List Str) ws G=>∃ p,ws=[.ref p]∧G p=some (.lst (ns.map W.str))∧ns.length≤1000) fun ns=>.bl (rise ns)
def ltW (x y:W):W:=match x,y with | .str a,.str b=>.bl (ZaA a b) | _,_=>.non
theorem Zbr (T:Tx K mg base a):Df P w K mg base "names_rise" 1 1 Zwh:=by
 refine mk0 T.ZlA rfl Zhr ZcD ((by rintro ws G Q E ⟨ns,⟨p,e,_⟩,_⟩;rw [e];rfl)) (Zlq T) fun ws G Q E hC q=>?_
 obtain ⟨ns,⟨p,rfl,hp,hl⟩,q⟩:=q
 unfold Zhu
 walk_at "rd"
 refine Zyg hp fun p1 h1=>?_
 have hne:=Zaw hp h1
 have e1:rdL (put G p1 (.lst (ZqO (ns.map W.str) (some 1) none))) (.ref p)=some (ns.map W.str):=Zt3 (by rw [Zag hne];exact hp)
 have e2:rdL (put G p1 (.lst (ZqO (ns.map W.str) (some 1) none))) (.ref p1)=some (ZqO (ns.map W.str) (some 1) none):=Zt3 Zab
 simp only [e1,e2]
 rw [ZuZ,← List.map_drop,ZmZ,List.zip_map,List.map_map]
 have e3:((fun x:W×W=>W.tup [x.1,x.2])∘Prod.map W.str W.str)=(fun x:W×W=>W.tup [x.1,x.2])∘fun x:Str×Str=>(W.str x.1,W.str x.2):=rfl
 rw [e3,← List.map_map]
 refine ZxU (f:=ltW) ⟨by rw [ZuZ,← List.map_drop] at e1;exact e1,by rw [ZuZ,← List.map_drop] at e2;exact e2⟩ _ none none [] (fun x hx Q' q'=>?_) ?_ ?_
 ·obtain ⟨y,hy,rfl⟩:=List.mem_map.mp hx
  exact q'
 ·rw [List.length_map,List.length_zip]
  exact Za0 (by simp only [List.length_nil];omega)
 ·intro p2 h2
  rw [List.map_map]
  have e4:((fun x:W×W=>ltW x.1 x.2)∘fun x:Str×Str=>(W.str x.1,W.str x.2))=W.bl∘fun x:Str×Str=>ZaA x.1 x.2:=rfl
  rw [e4,← List.map_map,List.nil_append]
  walk_at "pf"
  rw [← Znu]
  exact hC _ _ _ (Zcs (ZaS h1) h2) q
abbrev Zwq:Spw:=spR (fun (z:Str) ws _=>ws=[.str z]∧z.length≤100000) fun z=>.bl (Za1 z)
def ZAc (x:W):W:=match x with | .str z=>.bl (ZgJ z) | _=>.non
theorem ZcU (T:Tx K mg base a):Df P w K mg base "is_name" 2 1 Zwq:=by
 refine mk0 T.Zpt rfl Zln ZcD ((by rintro ws G Q E ⟨z,⟨e,_⟩,_⟩;rw [e];rfl)) (ZqU T (ZbR T) (Nat.le_refl _)) fun ws G Q E hC q=>?_
 obtain ⟨z,⟨rfl,hz⟩,q⟩:=q
 unfold Zlk
 walk_at "rd"
 have hz':z.length≤sizeLine:=Za0 hz
 have b1:Zju "str" "str"=true:=by decide
 simp only [b1,hz',if_true,Zaf,Bool.not_true,Bool.false_eq_true,if_false]
 unfold Za1 at q
 by_cases h1:1≤z.length
 ·by_cases h8:z.length≤8
  ·have d1:(1:Int)≤(z.length:Int):=by omega
   have d8:(z.length:Int)≤8:=by omega
   simp only [d1,d8,decide_true,if_true,Bool.not_true,Bool.false_eq_true,if_false]
   refine Zi2 (f:=ZAc) trivial (ZiN z) none [] (fun x hx Q' q'=>?_) ?_ ?_
   ·obtain ⟨c,hc,rfl⟩:=List.mem_map.mp hx
    exact ⟨_,rfl,q'⟩
   ·rw [ZiN,List.length_map]
    exact Za0 (by show 0+z.cps.toList.length≤100000;rw [Nat.zero_add];simpa [Str.length] using hz)
   ·intro p hp
    have e5:(ZiN z).map ZAc=(z.cps.toList.map fun c=>ZgJ ⟨#[c]⟩).map W.bl:=by
     unfold ZiN;rw [List.map_map,List.map_map];rfl
    rw [List.nil_append,e5]
    walk_at "pf"
    rw [List.all_map]
    simp only [h1,h8,decide_true,Bool.true_and] at q
    exact hC _ _ _ (ZaS hp) q
  ·have d1:(1:Int)≤(z.length:Int):=by omega
   have d8:¬ (z.length:Int)≤8:=by omega
   simp only [h1,h8,decide_true,decide_false,Bool.true_and,Bool.false_and] at q
   simp only [d1,d8,decide_true,decide_false,if_true,Bool.not_false,Bool.false_eq_true,if_false]
   exact q
 ·have d1:¬ (1:Int)≤(z.length:Int):=by omega
  simp only [h1,decide_false,Bool.false_and] at q
  simp only [d1,decide_false,if_true,Bool.not_false,Bool.false_eq_true,if_false]
  exact q
abbrev Zjk:List Str:=["thing"]
theorem ZjE:Zau Zjk ["thing"] (Zai Zg8):=by walk_at "s"
def Zjw (Zc5:Spw):GS:=(Zat (gIf (gOr (gNt (Zcj (Zbb "tuple" (Zae 0)))) (gOr (gTB (Zak (Zar (eqF false)) (gB (rF ZfZ) (Zaa (Zae 0) Zaj)) (gC (.int 0)))) (gNt (Zcj (Zbb "str" (Zak (Zar ixW) (Zae 0) (gC (.int 0)))))))) (Zay (gC (.bl false))) Zan) (Zat (gIf (gTB (Zak (Zar (eqF true)) (gB (rF ZfZ) (Zaa (Zae 0) Zaj)) (ZeB Zh8 (Zak (Zar ixW) (Zae 0) (gC (.int 0)))))) (Zay (gC (.bl false))) Zan) (Zay (Zjj (Zak (Zar (eqF true)) (Zak (Zar ixW) (Zae 0) (gC (.int 0))) (gC (.str "row"))) (Zci (Zah Zc5 XF (Zaa (Zak (Zar ixW) (Zae 0) (gC (.int 1))) Zaj)) (Zbb "bool" (Zak (Zar ixW) (Zae 0) (gC (.int 2)))))))))
theorem Zov {k:Nat} (T:Tx K mg base a) {Zdl:Nat} {Zc5:Spw} (ZtD:Df P w K mg base "are_fields" Zdl 1 Zc5) (ZtZ:Zdl≤k):Dn P w K mg base Zjk "has_form" Zg8 k (Zjw Zc5):=by
 have hN:=ZjE.nd
 walk_at "z"
abbrev Zfu:List Str:=["kind"]
theorem ZfD:Zau Zfu ["kind"] (Zai ZdF):=by walk_at "s"
def Zfo:GS:=(Zat (gIf (gTB (Zak (Zar (eqF false)) (Zak (Zar ixW) (Zae 0) (gC (.int 0))) (gC (.str "row")))) (Zay (ZbU (Za7 (Zak (Zar ixW) (Zae 0) (gC (.int 1)))) 1 (gNm 0) Zgh (Zak (Zar ixW) (Zae 0) (gC (.int 2))))) Zan) (Zay (gB (ZoA) (Zaa (gSl (Zae 0) (Zd9 (gC (.int 1))) Zbu) Zaj))))
theorem ZiV {k:Nat} (T:Tx K mg base a):Dn P w K mg base Zfu "kinds_within" ZdF k (Zfo):=fun {f cdv A outer s H E} hr =>
 have hu:=ZgQ hr
 have hN:=ZfD.nd
 (Zam (Zgf (by walk_at "v") (Za3 (ZbZ (Zc3 (Nc:=["field"]) rfl (ZoO rfl (by decide +kernel) (by decide +kernel)) (fun _=>rfl) (by walk_at "v") (ZcJ (i:=0) (by decide) rfl rfl) (fun C fp s1 H1=>Zbz) (fun C fp s1 H1=>(by walk_at "v"))))) Zcb) (by walk_at "v"))
abbrev ZdA:List Str:=["layer","things_within","found","thing"]
theorem ZcG:Zau ZdA ["layer","things_within"] (Zai ZcK):=by walk_at "s"
def Zfx (mg:Str→Option Value) (Zax:Spw):GS:=(Zat (Zbj 2 (Zb1 Zaj)) (Zat (Zee (Za7 (Zae 0)) (gNm 3) (Zbv (gMt Zf3 Zp7 (Zae 2) (Zaa (ZdV 1 (fAt mg "kinds_within") Zax XF (Zaa (Zae 3) Zaj)) Zaj)))) (Zay (Zae 2))))
theorem ZiU {k:Nat} (T:Tx K mg base a) {ZaF:Nat} {Zax:Spw} (ZcS:Df P w K mg base "kinds_within" ZaF 1 Zax) (Zdu:ZaF≤k):Dn P w K mg base ZdA "layer_within" ZcK k (Zfx mg Zax):=fun {f cdv A outer s H E} hr =>
 have hu:=ZgQ hr
 have hN:=ZcG.nd
 (Zam (by walk_at "v") (Zam (ZdY PassesOwn.never rfl (fun _=>rfl) (by walk_at "v") (by walk_at "v") (Za3 (ZcX rfl (Zba Zbg rfl rfl rfl rfl rfl (by walk_at "v") (ZaG rfl (Zh0 (i:=1) ZcS (hr.mono Zdu) rfl rfl Zev rfl rfl rfl rfl (by walk_at "v")) Zby))))) (by walk_at "v")))
abbrev Ze5:List Str:=["thing","is_formed","things_within","most","deepest","layer","count","depth"]
theorem Zds:Zau Ze5 ["thing","is_formed","things_within","most","deepest"] (Zai Zcg):=by walk_at "s"
def Zhh (mg:Str→Option Value) (ZbO:Spw) (ZaP:Spw):GS:=(Zat (Zbj 5 (Zb1 (Zaa (Zae 0) Zaj))) (Zat (Zbj 6 (gC (.int 0))) (Zat (Zbj 7 (gC (.int 0))) (Zat (Zk0 (gTB (Zak (Zfg fun i j=>decide (j < i)) (gB (rF ZfZ) (Zaa (Zae 5) Zaj)) (gC (.int 0)))) (Zat (ZiM 6 Zda (gB (rF ZfZ) (Zaa (Zae 5) Zaj))) (Zat (ZiM 7 Zda (gC (.int 1))) (Zat (gIf (gOr (gTB (Zak (Zfg fun i j=>decide (j < i)) (Zae 6) (Zae 3))) (gTB (Zak (Zfg fun i j=>decide (j < i)) (Zae 7) (Zae 4)))) (Zay (gC (.bl false))) Zan) (Zat (gIf (gNt (Zcj (gB (rF ZgP) (Zaa (Zct (Za7 (Zae 5)) 1 [1] (gNm 0) Zgh (ZdV 1 (fAt mg "has_form") ZbO XF (Zaa (Zae 0) Zaj))) Zaj)))) (Zay (gC (.bl false))) Zan) (Zbj 5 (Zah ZaP XF (Zaa (Zae 5) (Zaa (Zae 2) Zaj))))))))) (Zay (gC (.bl true)))))))
theorem ZlT {k:Nat} (T:Tx K mg base a) {Zce:Nat} {ZbO:Spw} (Zhc:Df P w K mg base "has_form" Zce 1 ZbO) (ZjF:Zce≤k) {Zbn:Nat} {ZaP:Spw} (ZiT:Df P w K mg base "layer_within" Zbn 2 ZaP) (Zi6:Zbn≤k):Dn P w K mg base Ze5 "is_made_of" Zcg k (Zhh mg ZbO ZaP):=fun {f cdv A outer s H E} hr =>
 have hu:=ZgQ hr
 have hN:=Zds.nd
 (Zam (by walk_at "v") (Zam (by walk_at "v") (Zam (by walk_at "v") (Zam (Zb8 PassesOwn.never (by walk_at "v") (Zam (by walk_at "v") (Zam (by walk_at "v") (Zam (by walk_at "v") (Zam (Zgf (ZdS (ZdQ (fun _=>rfl) (ZaO ZcV (ZbN rfl) rfl T.Ze6 (by decide) rfl rfl rfl (ZaG rfl (Zkk rfl (Zzv (own:=["part"]) (fr:=["is_formed"]) (js:=[1]) (scX:=Zai Zcg) (n:=s.heap.objs.size+1) rfl (by decide +kernel) (by decide +kernel) (by decide +kernel) (by decide +kernel) rfl rfl rfl (by decide +kernel) rfl) (fun _=>rfl) (by walk_at "v") (Zm5 (i:=0) (by decide) rfl rfl) (fun C fp s1 H1=>Zbz) (fun C fp s1 H1=>(Zh0 (i:=1) Zhc (hr.mono ZjF) rfl rfl Zev rfl rfl rfl rfl (by walk_at "v")))) Zby)))) (by walk_at "v") Zcb) (by walk_at "v")))))) (by walk_at "v")))))
abbrev Zl6:List Str:=["thing"]
theorem ZlI:Zau Zl6 ["thing"] (Zai Zir):=by walk_at "s"
def ZlC (mg:Str→Option Value) (ZbO:Spw) (Zax:Spw) (Za8:Spw):GS:=(Zay (Zah Za8 XF (Zaa (Zae 0) (Zaa (gC (.ref (fAt mg "has_form"))) (Zaa (gC (.ref (fAt mg "kinds_within"))) (Zaa (gC (.int 40)) (Zaa (gC (.int 8)) Zaj)))))))
theorem Zrb {k:Nat} (T:Tx K mg base a) {Zce:Nat} {ZbO:Spw} (Zhc:Df P w K mg base "has_form" Zce 1 ZbO) (ZjF:Zce≤k) {ZaF:Nat} {Zax:Spw} (ZcS:Df P w K mg base "kinds_within" ZaF 1 Zax) (Zdu:ZaF≤k) {ZbH:Nat} {Za8:Spw} (ZeQ:Df P w K mg base "is_made_of" ZbH 5 Za8) (ZeT:ZbH≤k):Dn P w K mg base Zl6 "is_kind" Zir k (ZlC mg ZbO Zax Za8):=fun {f cdv A outer s H E} hr =>
 have hu:=ZgQ hr
 have hN:=ZlI.nd
 (Za3 (ZbZ (Zco ZeQ (hr.mono ZeT) rfl Zev rfl rfl rfl (ZaG rfl (by walk_at "v") (ZaG rfl (ZsZ Zhc rfl rfl) (ZaG rfl (ZsZ ZcS rfl rfl) (by walk_at "v")))))))
abbrev Zhy:List Str:=["thing"]
theorem Zht:Zau Zhy ["thing"] (Zai ZeM):=by walk_at "s"
def Zho (Zff:Spw):GS:=(gIf (gNt (Zcj (Zah Zff XF (Zaa (Zae 0) Zaj)))) Znj Zan)
theorem Zlp {k:Nat} (T:Tx K mg base a) {Zgu:Nat} {Zff:Spw} (Zxi:Df P w K mg base "is_kind" Zgu 1 Zff) (Zyo:Zgu≤k):Dn P w K mg base Zhy "check_kind" ZeM k (Zho Zff):=by
 have hN:=Zht.nd
 walk_at "z"
abbrev Zjx:List Str:=["kind","found","inner"]
theorem Zja:Zau Zjx ["kind"] (Zai Zhb):=by walk_at "s"
def ZjB (Zax:Spw) (Zbt:Spw):GS:=(Zat (Zbj 1 (Zb1 (Zaa (Zae 0) Zaj))) (Zat (Zee (Za7 (Zah Zax XF (Zaa (Zae 0) Zaj))) (gNm 2) (Zbv (gMt Zf3 Zp7 (Zae 1) (Zaa (Zah Zbt XF (Zaa (Zae 2) Zaj)) Zaj)))) (Zay (Zae 1))))
theorem Zoz {k:Nat} (T:Tx K mg base a) {ZaF:Nat} {Zax:Spw} (ZcS:Df P w K mg base "kinds_within" ZaF 1 Zax) (Zdu:ZaF≤k) {Zcd:Nat} {Zbt:Spw} (Zoi:Df P w K mg base "kinds_in" Zcd 1 Zbt) (Zn8:Zcd≤k):Dn P w K mg base Zjx "kinds_in" Zhb k (ZjB Zax Zbt):=by
 have hN:=Zja.nd
 walk_at "z"
abbrev ZkZ:List Str:=["kind"]
theorem Zk3:Zau ZkZ ["kind"] (Zai Zit):=by walk_at "s"
def Zls (Zc4:Spw) (Zbt:Spw):GS:=(Zat (Zbv (Zah Zc4 XF (Zaa (Zae 0) Zaj))) (Zay (Zdg (gB (rF Zjy) (Zaa (ZbU (Za7 (Zah Zbt XF (Zaa (Zae 0) Zaj))) 1 (gNm 0) Zgh (Zak (Zar (inF false)) (Zak (Zar ixW) (Zae 0) (gC (.int 0))) (Zbq (Zaa (gC (.str "to")) (Zaa (gC (.str "box")) Zaj))))) Zaj)))))
theorem Zqf {k:Nat} (T:Tx K mg base a) {Zdq:Nat} {Zc4:Spw} (Zt5:Df P w K mg base "check_kind" Zdq 1 Zc4) (Zs7:Zdq≤k) {Zcd:Nat} {Zbt:Spw} (Zoi:Df P w K mg base "kinds_in" Zcd 1 Zbt) (Zn8:Zcd≤k):Dn P w K mg base ZkZ "is_data" Zit k (Zls Zc4 Zbt):=fun {f cdv A outer s H E} hr =>
 have hu:=ZgQ hr
 have hN:=Zk3.nd
 (Zam (by walk_at "v") (Za3 (ZbZ (ZeA (ZaO ZeF (Zdi rfl) rfl T.Zix (by decide) rfl rfl rfl (ZaG rfl (Zc3 (Nc:=["part"]) rfl (ZoO rfl (by decide +kernel) (by decide +kernel)) (fun _=>rfl) (by walk_at "v") (ZcJ (i:=0) (by decide) rfl rfl) (fun C fp s1 H1=>Zbz) (fun C fp s1 H1=>(by walk_at "v"))) Zby))))))
def ZeL (mg:Str→Option Value) (ZaQ:Spw):GS:=(Zat (Zbj 2 (Zb1 Zaj)) (Zat (Zee (Za7 (Zae 0)) (gNm 3) (Zbv (gMt Zf3 Zp7 (Zae 2) (Zaa (ZdV 1 (fAt mg "values_within") ZaQ XF (Zaa (Zae 3) Zaj)) Zaj)))) (Zay (Zae 2))))
theorem Zig {k:Nat} (T:Tx K mg base a) {ZaW:Nat} {ZaQ:Spw} (Zdf:Df P w K mg base "values_within" ZaW 1 ZaQ) (Ze3:ZaW≤k):Dn P w K mg base ZdA "layer_within" ZcK k (ZeL mg ZaQ):=fun {f cdv A outer s H E} hr =>
 have hu:=ZgQ hr
 have hN:=ZcG.nd
 (Zam (by walk_at "v") (Zam (ZdY PassesOwn.never rfl (fun _=>rfl) (by walk_at "v") (by walk_at "v") (Za3 (ZcX rfl (Zba Zbg rfl rfl rfl rfl rfl (by walk_at "v") (ZaG rfl (Zh0 (i:=1) Zdf (hr.mono Ze3) rfl rfl Zev rfl rfl rfl rfl (by walk_at "v")) Zby))))) (by walk_at "v")))
def Zgz (mg:Str→Option Value) (ZaK:Spw) (ZaP:Spw):GS:=(Zat (Zbj 5 (Zb1 (Zaa (Zae 0) Zaj))) (Zat (Zbj 6 (gC (.int 0))) (Zat (Zbj 7 (gC (.int 0))) (Zat (Zk0 (gTB (Zak (Zfg fun i j=>decide (j < i)) (gB (rF ZfZ) (Zaa (Zae 5) Zaj)) (gC (.int 0)))) (Zat (ZiM 6 Zda (gB (rF ZfZ) (Zaa (Zae 5) Zaj))) (Zat (ZiM 7 Zda (gC (.int 1))) (Zat (gIf (gOr (gTB (Zak (Zfg fun i j=>decide (j < i)) (Zae 6) (Zae 3))) (gTB (Zak (Zfg fun i j=>decide (j < i)) (Zae 7) (Zae 4)))) (Zay (gC (.bl false))) Zan) (Zat (gIf (gNt (Zcj (gB (rF ZgP) (Zaa (Zct (Za7 (Zae 5)) 1 [1] (gNm 0) Zgh (ZdV 1 (fAt mg "has_value_form") ZaK XF (Zaa (Zae 0) Zaj))) Zaj)))) (Zay (gC (.bl false))) Zan) (Zbj 5 (Zah ZaP XF (Zaa (Zae 5) (Zaa (Zae 2) Zaj))))))))) (Zay (gC (.bl true)))))))
theorem ZkG {k:Nat} (T:Tx K mg base a) {ZaR:Nat} {ZaK:Spw} (Zc0:Df P w K mg base "has_value_form" ZaR 1 ZaK) (Zeu:ZaR≤k) {Zbn:Nat} {ZaP:Spw} (ZiT:Df P w K mg base "layer_within" Zbn 2 ZaP) (Zi6:Zbn≤k):Dn P w K mg base Ze5 "is_made_of" Zcg k (Zgz mg ZaK ZaP):=fun {f cdv A outer s H E} hr =>
 have hu:=ZgQ hr
 have hN:=Zds.nd
 (Zam (by walk_at "v") (Zam (by walk_at "v") (Zam (by walk_at "v") (Zam (Zb8 PassesOwn.never (by walk_at "v") (Zam (by walk_at "v") (Zam (by walk_at "v") (Zam (by walk_at "v") (Zam (Zgf (ZdS (ZdQ (fun _=>rfl) (ZaO ZcV (ZbN rfl) rfl T.Ze6 (by decide) rfl rfl rfl (ZaG rfl (Zkk rfl (Zzv (own:=["part"]) (fr:=["is_formed"]) (js:=[1]) (scX:=Zai Zcg) (n:=s.heap.objs.size+1) rfl (by decide +kernel) (by decide +kernel) (by decide +kernel) (by decide +kernel) rfl rfl rfl (by decide +kernel) rfl) (fun _=>rfl) (by walk_at "v") (Zm5 (i:=0) (by decide) rfl rfl) (fun C fp s1 H1=>Zbz) (fun C fp s1 H1=>(Zh0 (i:=1) Zc0 (hr.mono Zeu) rfl rfl Zev rfl rfl rfl rfl (by walk_at "v")))) Zby)))) (by walk_at "v") Zcb) (by walk_at "v")))))) (by walk_at "v")))))
local macro_rules | `(tactic| walk_at "rd") => `(tactic| ((try dsimp only [Zat,gIf,Zay,Zbj,Zbv,Zan,Zae,gC,Zak,gTB,Zcj,gNt,Zf2,gOr,Zci,Zjj,Zdg,Zgi,L3.Zbq,Zb1,L3.Zaa,L3.Zaj,Zah,gB,rF,Zar,Zbb,gMt,ZiM,Zr1,Zb0,Zdw,Zfg,Zb6,L3.Zfj,Zda,gSl,Zd9,Zbu,ZbU,Za7,ZkN,Zjg,Zee,ZeB,Zcr,ZaL,Zbx,List.map_cons,List.map_nil,List.length_cons,List.length_nil,List.cons_append,List.nil_append,List.getElem?_cons_zero,List.getElem?_cons_succ,List.set_cons_zero,List.set_cons_succ,List.replicate,Zeo,tyN,Zaf,Zc7,ZcW,Zdz,ixW,eqF,eqW,ZfZ,ZiZ,ZgP,Zjy,ZhU,ZoP,List.getElem?_nil]); (try simp only [Zat,gIf,Zay,Zbj,Zbv,Zan,Zae,gC,Zak,gTB,Zcj,gNt,Zf2,gOr,Zci,Zjj,Zdg,Zgi,L3.Zbq,Zb1,L3.Zaa,L3.Zaj,Zah,gB,rF,Zar,Zbb,gMt,ZiM,Zr1,Zb0,Zdw,Zfg,Zb6,L3.Zfj,Zda,gSl,Zd9,Zbu,ZbU,Za7,ZkN,Zjg,Zee,ZeB,Zcr,ZaL,Zbx,List.map_cons,List.map_nil,List.length_cons,List.length_nil,List.cons_append,List.nil_append,List.getElem?_cons_zero,List.getElem?_cons_succ,List.set_cons_zero,List.set_cons_succ,List.replicate,Zeo,tyN,Zaf,Zc7,ZcW,Zdz,ixW,eqF,eqW,ZfZ,ZiZ,ZgP,Zjy,ZhU,ZoP,List.getElem?_nil])))
abbrev Zus:Spw:=spR (fun (x:Str×Bool×W) ws _=>ws=[.tup [.str x.1,.str (Zek x.2.1),x.2.2]]∧Za1 x.1=true) fun _=>.bl true
theorem ZjR {n:Str} (h:Za1 n=true):n.length≤8:=by
 unfold Za1 at h
 simp only [Bool.and_eq_true,decide_eq_true_eq] at h
 exact h.1.2
theorem Zvz (b:Bool) (G:Hw):inF false (.str (Zek b)) (.tup [.str "must",.str "may"]) G=some (.bl true):=by cases b <;> kernel_rfl
theorem Zfa (T:Tx K mg base a):Df P w K mg base "is_field" 3 1 Zus:=by
 refine mk0 T.Zox rfl ZjD ZcD ((by rintro ws G Q E ⟨x,⟨e,_⟩,_⟩;rw [e];rfl)) (Zoj T (ZcU T) (Nat.le_refl _)) fun ws G Q E hC q=>?_
 obtain ⟨⟨n,b,k⟩,⟨rfl,hn⟩,q⟩:=q
 have hl:n.length≤8:=ZjR hn
 dsimp only at q hn
 unfold Zjn
 walk_at "rd"
 have b1:Zju "tuple" "tuple"=true:=by decide
 simp only [b1,Bool.not_true,Bool.false_eq_true,if_false]
 refine ⟨n,⟨rfl,by omega⟩,?_⟩
 dsimp only
 rw [hn]
 simp only [if_true,Zvz,Zaf]
 exact q
theorem ZuM (k:Kd):∃ xs,k.enc=.tup (.str k.hd::xs):=by cases k <;> exact ⟨_,rfl⟩
abbrev Zrz:Spw:=spR (fun (fs:Fs) ws _=>ws=[.tup fs.enc]∧fs.ok=true∧rise fs.names=true∧fs.cnt≤1000) fun _=>.bl true
def Zim (x:W):W:=match x with | .tup (n::_)=>n | _=>.non
theorem Zpu:∀ {fs:Fs} {x:W},fs.ok=true→x∈fs.enc→∃ n b k,x=.tup [.str n,.str (Zek b),k]∧Za1 n=true
 | .nil,x,_,h=>by cases h
 | .cons n m k r,x,ho,h=>by
  have h':(Za1 n&&k.ok&&r.ok)=true:=ho
  walk_at "pg"
  walk_at "pr"
  ·exact ⟨n,m,k.enc,rfl,h'.1.1⟩
  ·exact Zpu h'.2 h
theorem Zij:∀ fs:Fs,fs.enc.map Zim=fs.names.map W.str
 | .nil=>rfl
 | .cons n m k r=>by show W.str n::r.enc.map Zim=W.str n::r.names.map W.str;rw [Zij r]
theorem ZeZ:∀ fs:Fs,fs.names.length=fs.enc.length
 | .nil=>rfl
 | .cons n m k r=>by show r.names.length+1=r.enc.length+1;rw [ZeZ r]
theorem ZjO (fs:Fs):fs.enc.length≤fs.cnt:=by rw [ZtB,ZqA];exact ZkC _
theorem Zdl (T:Tx K mg base a):Df P w K mg base "are_fields" 4 1 Zrz:=by
 refine mk0 T.ZlY rfl Zhn ZcD ((by rintro ws G Q E ⟨x,⟨e,_⟩,_⟩;rw [e];rfl)) (Zl2 T (Zfa T) (Nat.le_refl _) (Zbr T) (by omega)) fun ws G Q E hC q=>?_
 obtain ⟨fs,⟨rfl,ho,hr,hc⟩,q⟩:=q
 have hl:=ZjO fs
 unfold ZhA
 walk_at "rd"
 have b1:Zju "tuple" "tuple"=true:=by decide
 simp only [b1,Bool.not_true,Bool.false_eq_true,if_false]
 refine Zi2 (f:=fun _=>.bl true) trivial fs.enc none [] (fun x hx Q' q'=>?_) (by simp only [List.length_nil];exact Za0 (by omega)) ?_
 ·obtain ⟨n,b,k,rfl,hn⟩:=Zpu ho hx
  exact ⟨⟨n,b,k⟩,⟨rfl,hn⟩,q'⟩
 ·intro p hp
  rw [List.nil_append,show (fun _:W=>W.bl true)=W.bl∘(fun _=>true) from rfl,← List.map_map]
  walk_at "pf"
  have hall:(fs.enc.map fun _=>true).all id=true:=by simp
  rw [hall]
  simp only [if_true]
  refine Zi2 (f:=Zim) trivial fs.enc none [] (fun x hx Q' q'=>?_) (by simp only [List.length_nil];exact Za0 (by omega)) ?_
  ·obtain ⟨n,b,k,rfl,hn⟩:=Zpu ho hx
   show Zak (Zar ixW) (Zae 0) (gC (.int 0)) [some (W.tup [.str n,.str (Zek b),k])] _ Q'
   walk_at "rd"
   exact q'
  ·intro p2 hp2
   rw [List.nil_append,Zij]
   refine ⟨fs.names,⟨p2,rfl,Zab,by rw [ZeZ];omega⟩,?_⟩
   dsimp only
   rw [hr]
   exact hC _ _ _ (Zcs (ZaS hp) hp2) q
abbrev Zwi:Spw:=spR (fun (k:Kd) ws _=>ws=[k.enc]∧k.ok=true∧k.cnt≤1000) fun _=>.bl true
theorem Zce (T:Tx K mg base a):Df P w K mg base "has_form" 5 1 Zwi:=by
 refine mk0 T.Zoe rfl ZjE ZcD ((by rintro ws G Q E ⟨x,⟨e,_⟩,_⟩;rw [e];rfl)) (Zov T (Zdl T) (Nat.le_refl _)) fun ws G Q E hC q=>?_
 obtain ⟨k,⟨rfl,ho,hc⟩,q⟩:=q
 have b1:Zju "tuple" "tuple"=true:=by decide
 have b2:Zju "bool" "bool"=true:=by decide
 have b3:Zju "str" "str"=true:=by decide
 unfold Zjw
 cases k with
 | any =>
  simp only [Kd.enc];walk_at "rd"
  walk_at "pm"
  exact q
 | num =>
  simp only [Kd.enc];walk_at "rd"
  walk_at "pm"
  exact q
 | truth =>
  simp only [Kd.enc];walk_at "rd"
  walk_at "pm"
  exact q
 | to x y =>
  simp only [Kd.enc];walk_at "rd"
  walk_at "pm"
  exact q
 | box x =>
  simp only [Kd.enc];walk_at "rd"
  walk_at "pm"
  exact q
 | row fs o =>
  have h':(rise fs.names&&fs.ok)=true:=ho
  walk_at "pg"
  have hc':1+fs.cnt≤1000:=hc
  simp only [Kd.enc];walk_at "rd"
  walk_at "pm"
  refine ⟨fs,⟨rfl,h'.2,h'.1,by omega⟩,?_⟩
  simp only [if_true,b2]
  exact q
def Zme (x:W):W:=match x with | .tup [_,_,k]=>k | _=>.non
theorem ZnN:∀ fs:Fs,fs.enc.map Zme=fs.kinds.map Kd.enc
 | .nil=>rfl
 | .cons n m k r=>by show k.enc::r.enc.map Zme=k.enc::r.kinds.map Kd.enc;rw [ZnN r]
theorem ZmA:∀ {fs:Fs} {x:W},x∈fs.enc→∃ n b k,x=.tup [.str n,.str (Zek b),k]
 | .nil,x,h=>by cases h
 | .cons n m k r,x,h=>by
  walk_at "pr"
  ·exact ⟨n,m,k.enc,rfl⟩
  ·exact ZmA h
abbrev Zm2:Spw:=spL (fun (k:Kd) ws _=>ws=[k.enc]∧k.cnt≤20000) fun k=>k.kids.map Kd.enc
theorem ZaF (T:Tx K mg base a):Df P w K mg base "kinds_within" 1 1 Zm2:=by
 refine mk0 T.ZiY rfl ZfD Zms ((by rintro ws G Q E ⟨x,⟨e,_⟩,_⟩;rw [e];rfl)) (ZiV T) fun ws G Q E hC q=>?_
 obtain ⟨k,⟨rfl,hc⟩,q⟩:=q
 unfold Zfo
 cases k with
 | row fs o =>
  have hc':1+fs.cnt≤20000:=hc
  have hl:=ZjO fs
  simp only [Kd.enc];walk_at "rd"
  refine Zi2 (f:=Zme) trivial fs.enc none [] (fun x hx Q' q'=>?_) (by simp only [List.length_nil];exact Za0 (by omega)) ?_
  ·obtain ⟨n,b,k,rfl⟩:=ZmA hx
   show Zak (Zar ixW) (Zae 0) (gC (.int 2)) [some (W.tup [.str n,.str (Zek b),k])] _ Q'
   walk_at "rd"
   exact q'
  ·rw [List.nil_append,ZnN]
   exact q
 | any=>simp only [Kd.enc];walk_at "rd";exact ⟨ZeH _ _,q⟩
 | num=>simp only [Kd.enc];walk_at "rd";exact ⟨ZeH _ _,q⟩
 | truth=>simp only [Kd.enc];walk_at "rd";exact ⟨ZeH _ _,q⟩
 | to x y=>simp only [Kd.enc];walk_at "rd";exact ⟨ZeH _ _,q⟩
 | box x=>simp only [Kd.enc];walk_at "rd";exact ⟨ZeH _ _,q⟩
theorem Zph {G:Hw} {p r:Addr} {xs zs:List W} {Q:Kw} (hp:G p=some (.lst xs)) (hr:G r=some (.lst zs)) (hl:xs.length+zs.length≤sizeLine) (q:Q .non (put G p (.lst (xs++zs)))):Zp7 (.ref p) [.ref r] G Q:=by
 unfold Zp7
 refine ZmE hp ?_ q
 rw [ZcB hr,Option.bind_some,if_pos hl]
theorem Zfe {G:Hw} {p:Addr} {xs:List W} (h:G p=some (.lst xs)):Zf3 (.ref p) G:=⟨xs,ZcB h⟩
abbrev ZAj (n:Nat):Spw:=spL (fun (k:Kd) ws _=>ws=[k.enc]∧k.dp≤n∧k.cnt≤10000) fun k=>k.all.map Kd.enc
local macro_rules | `(tactic| walk_at "rd") => `(tactic| ((try dsimp only [Zat,gIf,Zay,Zbj,Zbv,Zan,Zae,gC,Zak,gTB,Zcj,gNt,Zf2,gOr,Zci,Zjj,Zdg,Zgi,L3.Zbq,Zb1,L3.Zaa,L3.Zaj,Zah,gB,rF,Zar,Zbb,gMt,ZiM,Zr1,Zb0,Zdw,Zfg,Zb6,L3.Zfj,Zda,gSl,Zd9,Zbu,ZbU,Za7,ZkN,Zjg,Zee,ZeB,Zcr,ZdV,Zct,ZhP,ZaL,Zbx,List.map_cons,List.map_nil,List.length_cons,List.length_nil,List.cons_append,List.nil_append,List.getElem?_cons_zero,List.getElem?_cons_succ,List.set_cons_zero,List.set_cons_succ,List.replicate,Zeo,tyN,Zaf,Zc7,ZcW,Zdz,ixW,eqF,eqW,ZfZ,ZiZ,ZgP,Zjy,ZhU,ZoP,List.getElem?_nil]); (try simp only [Zat,gIf,Zay,Zbj,Zbv,Zan,Zae,gC,Zak,gTB,Zcj,gNt,Zf2,gOr,Zci,Zjj,Zdg,Zgi,L3.Zbq,Zb1,L3.Zaa,L3.Zaj,Zah,gB,rF,Zar,Zbb,gMt,ZiM,Zr1,Zb0,Zdw,Zfg,Zb6,L3.Zfj,Zda,gSl,Zd9,Zbu,ZbU,Za7,ZkN,Zjg,Zee,ZeB,Zcr,ZdV,Zct,ZhP,ZaL,Zbx,List.map_cons,List.map_nil,List.length_cons,List.length_nil,List.cons_append,List.nil_append,List.getElem?_cons_zero,List.getElem?_cons_succ,List.set_cons_zero,List.set_cons_succ,List.replicate,Zeo,tyN,Zaf,Zc7,ZcW,Zdz,ixW,eqF,eqW,ZfZ,ZiZ,ZgP,Zjy,ZhU,ZoP,List.getElem?_nil])))
abbrev Zub (mg:Str→Option Value):Spw:=spL (fun (l:List Kd) ws G=>∃ p,ws=[.ref p,.ref (fAt mg "kinds_within")]∧G p=some (.lst (l.map Kd.enc))∧ZgN l≤10000) fun l=>(l.flatMap Kd.kids).map Kd.enc
theorem Zni {D:Ew} {p q0 fw:Addr} {items:List W}:∀ (l:List Kd) (o:Option W) (k0:W) (G:Hw) (acc:List W),acc.length+ZgN l≤20000→p≠q0→G p=some (.lst acc)→G q0=some (.lst items) →
  (∀ ω G',(∃ o',ω=[some k0,some (.ref fw),some (.ref p),o'])→G' p=some (.lst (acc++(l.flatMap Kd.kids).map Kd.enc))→(∀ b,b≠p→∀ u,G b=some u→G' b=some u)→D.nx ω G') →
  Zcz (holds q0 items) (gNm 3) (Zbv (gMt Zf3 Zp7 (Zae 2) (L3.Zaa (ZdV 1 fw Zm2 XF (L3.Zaa (Zae 3) L3.Zaj)) L3.Zaj))) D (l.map Kd.enc) [some k0,some (.ref fw),some (.ref p),o] G
 | [],o,k0,G,acc,_,hne,hp,hq,fin=>⟨hq,fin _ G ⟨o,rfl⟩ (by simpa using hp) fun _ _ _ h=>h⟩
 | c::l,o,k0,G,acc,hl,hne,hp,hq,fin=>by
  have hll:acc.length+(c.cnt+ZgN l)≤20000:=hl
  have hk:=ZsE c
  refine ⟨hq,?_⟩
  show Zbv _ _ [some k0,some (.ref fw),some (.ref p),some c.enc] G
  walk_at "rd"
  refine ⟨Zfe hp,trivial,c,⟨rfl,by omega⟩,fun r hr=>?_⟩
  have hpr:=Zaw hp hr
  have hqr:=Zaw hq hr
  refine Zph (by rw [Zag hpr];exact hp) Zab (by rw [List.length_map];exact Za0 (by omega)) ?_
  refine Zni l (some c.enc) k0 _ (acc++c.kids.map Kd.enc) (by rw [List.length_append,List.length_map];omega) hne Zab ?_ ?_
  ·rw [Zag (Ne.symm hne),Zag hqr];exact hq
  ·intro ω G' hω h1 h2
   walk_at "pk"
   rw [Zag hb,Zag (Zaw hu hr)];exact hu
theorem Zbn (T:Tx K mg base a):Df P w K mg base "layer_within" 2 2 (Zub mg):=by
 refine mk0 T.ZfU rfl ZcG Zms ((by rintro ws G Q E ⟨x,⟨p,e,_⟩,_⟩;rw [e];rfl)) (ZiU T (ZaF T) (by omega)) fun ws G Q E hC q=>?_
 obtain ⟨l,⟨q0,rfl,hq,hl⟩,q⟩:=q
 unfold Zfx
 walk_at "rd"
 refine ⟨by decide,fun p hp=>?_⟩
 have hne:p≠q0:=Ne.symm (Zaw hq hp)
 have hq':put G p (.lst []) q0=some (.lst (l.map Kd.enc)):=by rw [Zag (Ne.symm hne)];exact hq
 simp only [hq']
 refine Zni l none (.ref q0) _ [] (by simp only [List.length_nil];omega) hne Zab hq' ?_
 intro ω G' hω h1 h2
 obtain ⟨o',rfl⟩:=hω
 simp only [List.getElem?_cons_zero,List.getElem?_cons_succ]
 rw [List.nil_append] at h1
 have hs:Sub (put G p (.lst ((l.flatMap Kd.kids).map Kd.enc))) G':=fun b u hu=>by
  by_cases hb:b=p
  ·subst hb
   rw [Zab] at hu;cases hu
   exact h1
  ·rw [Zag hb] at hu
   exact h2 b hb u (by rw [Zag hb];exact hu)
 exact hC _ _ _ hs (q p hp)
theorem Zvd {α:Type} {enc f:α→W} {gd:Hw→Prop} {ge:GE} {R:List W→Hw→Prop} {G:Hw} {cst:Sw} (hgd:gd G):∀ (l:List α) (o:Option W) (ys:List W),(∀ x∈l,∀ Q:Kw,Q (f x) G→ge (some (enc x)::cst) G Q) →
  ys.length+l.length≤sizeLine→R (ys++l.map f) G→ZbK gd (gNm 0) Zgh ge R (l.map enc) (o::cst) G ys
 | [],o,ys,_,_,r=>⟨hgd,by simpa using r⟩
 | x::l,o,ys,h,hl,r=>by
  refine ⟨hgd,by simp only [List.length_cons] at hl;omega,?_⟩
  show ge (some (enc x)::cst) G fun y G3=>ZbK gd (gNm 0) Zgh ge R (l.map enc) (some (enc x)::cst) G3 (ys++[y])
  refine h x List.mem_cons_self _ (Zvd hgd l (some (enc x)) (ys++[f x]) (fun y hy=>h y (List.mem_cons_of_mem _ hy)) ?_ ?_)
  ·simp only [List.length_append,List.length_cons,List.length_nil] at hl ⊢;omega
  ·simpa [List.append_assoc] using r
def Zrk (k:Kd):Bool:=decide (k.cnt≤40∧k.dp≤8)
abbrev ZwC (mg:Str→Option Value):Spw:=spR (fun (k:Kd) ws _=>ws=[k.enc,.ref (fAt mg "has_form"),.ref (fAt mg "kinds_within"),.int 40,.int 8]∧k.ok=true∧k.cnt≤1000) fun k=>.bl (Zrk k)
theorem ZbH (T:Tx K mg base a):Df P w K mg base "is_made_of" 6 5 (ZwC mg):=by
 refine mk0 T.Zhp rfl Zds ZcD ((by rintro ws G Q E ⟨x,⟨e,_⟩,_⟩;rw [e];rfl)) (ZlT T (Zce T) (Nat.le_refl _) (Zbn T) (by omega)) fun ws G Q E hC q=>?_
 obtain ⟨k,⟨rfl,ho,hc⟩,q⟩:=q
 unfold Zhh
 walk_at "rd"
 refine ⟨by decide,fun p hp=>?_⟩
 refine ⟨fun m ω G'=>∃ (l:List Kd) (p:Addr) (c d:Nat),ω=[some k.enc,some (.ref (fAt mg "has_form")),some (.ref (fAt mg "kinds_within")),some (.int 40),some (.int 8),some (.ref p),some (.int c),some (.int d)]∧G' p=some (.lst (l.map Kd.enc))∧Sub G G'∧c+ZgN l=k.cnt∧d+dpL l=k.dp∧(∀ x∈l,x.ok=true)∧c≤40∧d≤8∧m=9 - d,⟨9,[k],p,0,0,rfl,Zab,ZaS hp,?_,?_,?_,by omega,by omega,rfl⟩,?_⟩
 ·show 0+(k.cnt+0)=k.cnt;omega
 ·show 0+max k.dp 0=k.dp;omega
 ·intro x hx;rw [List.mem_singleton.mp hx];exact ho
 rintro m ω G1 ⟨l,p,c,d,rfl,hl,hs,e1,e2,hok,h40,h8,rfl⟩
 have hlen:(l.map Kd.enc).length=l.length:=List.length_map _
 walk_at "rd"
 simp only [hl,Zaf,hlen]
 cases l with
 | nil =>
  have d0:¬ ((0:Int) < ((([]:List Kd).length:Nat):Int)):=by simp
  simp only [d0,decide_false,Bool.false_eq_true,if_false]
  have hg:Zrk k=true:=by
   unfold Zrk
   have z1:c+0=k.cnt:=e1
   have z2:d+0=k.dp:=e2
   simp only [decide_eq_true_eq]
   omega
  dsimp only at q
  rw [hg] at q
  exact hC _ _ _ hs q
 | cons x l =>
  have hx1:=Zjt (x::l)
  have hx2:=Zl5 (x::l) (by simp)
  have d0:(0:Int) < (((x::l).length:Nat):Int):=by simp only [List.length_cons];omega
  simp only [d0,decide_true,if_true,hl,Zaf,hlen]
  have b40:decide ((40:Int) < (c:Int)+(((x::l).length:Nat):Int))=decide (40 < c+(x::l).length):=by
   rw [decide_eq_decide];omega
  have b8:decide ((8:Int) < (d:Int)+1)=decide (8 < d+1):=by
   rw [decide_eq_decide];omega
  rw [b40,b8]
  by_cases g40:40 < c+(x::l).length
  ·have hg:Zrk k=false:=by
    unfold Zrk
    simp only [decide_eq_false_iff_not]
    omega
   dsimp only at q
   rw [hg] at q
   simp only [g40,decide_true,if_true]
   exact hC _ _ _ hs q
  ·by_cases g8:8 < d+1
   ·have hg:Zrk k=false:=by
     unfold Zrk
     simp only [decide_eq_false_iff_not]
     omega
    dsimp only at q
    rw [hg] at q
    simp only [g40,g8,decide_true,decide_false,if_true,Bool.false_eq_true,if_false]
    exact hC _ _ _ hs q
   ·simp only [g40,g8,decide_false,Bool.false_eq_true,if_false]
    refine Zvd (f:=fun _=>.bl true) (cst:=[some (.ref (fAt mg "has_form"))]) hl (x::l) none [] (fun z hz Q' q'=>?_) (by exact Za0 (by simp only [List.length_nil];omega)) ?_
    ·have hz2:=Zn4 hz
     exact ⟨rfl,z,⟨rfl,hok z hz,by omega⟩,q'⟩
    ·intro p1 hp1
     rw [List.nil_append,show (fun _:Kd=>W.bl true)=W.bl∘(fun _=>true) from rfl,← List.map_map]
     walk_at "pf"
     have hall:((x::l).map fun _=>true).all id=true:=by simp
     rw [hall]
     simp only [Bool.not_true,Bool.false_eq_true,if_false]
     refine ⟨x::l,⟨p,rfl,by rw [Zag (Zaw hl hp1)];exact hl,by omega⟩,fun p2 hp2=>?_⟩
     refine ⟨9 - (d+1),by omega,(x::l).flatMap Kd.kids,p2,c+(x::l).length,d+1,?_,Zab,?_,by omega,by omega,?_,by omega,by omega,rfl⟩
     ·simp only [Int.natCast_add,Int.natCast_one]
     ·exact Zcs (Zcs hs hp1) hp2
     ·intro y hy
      obtain ⟨z,hz,hy⟩:=List.mem_flatMap.mp hy
      exact ZpO (hok z hz) y hy
abbrev ZxN:Spw:=spR (fun (k:Kd) ws _=>ws=[k.enc]∧k.ok=true∧k.cnt≤1000) fun k=>.bl (Zrk k)
theorem Zgu (T:Tx K mg base a):Df P w K mg base "is_kind" 7 1 ZxN:=by
 refine mk0 T.Zpi rfl ZlI ZcD ((by rintro ws G Q E ⟨x,⟨e,_⟩,_⟩;rw [e];rfl)) (Zrb T (Zce T) (by omega) (ZaF T) (by omega) (ZbH T) (Nat.le_refl _)) fun ws G Q E hC q=>?_
 obtain ⟨k,⟨rfl,ho,hc⟩,q⟩:=q
 unfold ZlC
 walk_at "rd"
 exact ⟨k,⟨rfl,ho,hc⟩,q⟩
abbrev Zzh:Spw:=spR (fun (k:Kd) ws _=>ws=[k.enc]∧k.ok=true∧k.cnt≤1000∧Zrk k=true) fun _=>.non
theorem Zdq (T:Tx K mg base a):Df P w K mg base "check_kind" 8 1 Zzh:=by
 refine mk0 T.ZlP rfl Zht ZcD ((by rintro ws G Q E ⟨x,⟨e,_⟩,_⟩;rw [e];rfl)) (Zlp T (Zgu T) (Nat.le_refl _)) fun ws G Q E hC q=>?_
 obtain ⟨k,⟨rfl,ho,hc,hg⟩,q⟩:=q
 unfold Zho
 walk_at "rd"
 refine ⟨k,⟨rfl,ho,hc⟩,?_⟩
 simp only [hg,Bool.not_true,Bool.false_eq_true,if_false]
 exact q
abbrev Zfm:List Str:=["script","k"]
theorem ZfS:Zau Zfm ["script","k"] (Zai ZdL):=by walk_at "s"
def ZfC:GS:=(Zat (gIf (gTB (Zak (Zdw (fun i j=>decide (i < j)) ZaA) (Zae 1) (gB (rF ZfZ) (Zaa (Zae 0) Zaj)))) (Zay (Zak (Zar ixW) (Zae 0) (Zae 1))) Zan) (Zay (gC (.int 0))))
theorem Zi0 {k:Nat} (T:Tx K mg base a):Dn P w K mg base Zfm "_law_cell_at" ZdL k (ZfC):=by
 have hN:=ZfS.nd
 walk_at "z"
abbrev Zhe:List Str:=["script","k","cell"]
theorem Zhk:Zau Zhe ["script","k"] (Zai ZeC):=by walk_at "s"
def Zhg (Zcq:Spw):GS:=(Zat (Zbj 2 (Zah Zcq XF (Zaa (Zae 0) (Zaa (Zae 1) Zaj)))) (Zat (gIf (gTB (Zak (Zfg fun i j=>decide (j≤i)) (Zae 2) (Zak (Zb6 Zvj fun i j=>i ^ j.toNat) (gC (.int 10)) (gC (.int 18))))) (Zay (Zb1 (Zaa (Zak (Zb6 (fun _ _=>True) fun i j=>i - j) (Zae 2) (Zak (Zb6 Zvj fun i j=>i ^ j.toNat) (gC (.int 10)) (gC (.int 18)))) (Zaa (gC (.bl true)) Zaj)))) Zan) (Zay (Zb1 (Zaa (Zak (Zb6 (fun _ j=>0 < j) fun i j=>i % j) (Zae 2) (gC (.int 2147483647))) (Zaa (gC (.bl false)) Zaj))))))
theorem ZlQ {k:Nat} (T:Tx K mg base a) {ZcT:Nat} {Zcq:Spw} (Zrl:Df P w K mg base "_law_cell_at" ZcT 2 Zcq) (Zrn:ZcT≤k):Dn P w K mg base Zhe "_law_state" ZeC k (Zhg Zcq):=by
 have hN:=Zhk.nd
 walk_at "z"
abbrev Zgv:List Str:=["state","many","mixed","found"]
theorem ZgE:Zau Zgv ["state","many"] (Zai Zed):=by walk_at "s"
def ZgH:GS:=(Zat (gIf (Zcj (Zak (Zar ixW) (Zae 0) (gC (.int 1)))) (Zat (Zbj 3 (Zak (Zb6 (fun _ j=>0 < j) fun i j=>i % j) (Zak (Zar ixW) (Zae 0) (gC (.int 0))) (Zae 1))) (Zat (Zcr (Zak (Zb6 Zwa fun i j=>i / j) (Zak (Zar ixW) (Zae 0) (gC (.int 0))) (Zae 1)) (Zae 0) (gC (.int 0))) (Zay (Zae 3)))) Zan) (Zat (Zcr (Zak (Zb6 (fun _ j=>0 < j) fun i j=>i % j) (Zak (Zfj) (Zak (Zb6 CMul fun i j=>i*j) (Zak (Zar ixW) (Zae 0) (gC (.int 0))) (gC (.int 48271))) (gC (.int 29))) (gC (.int 2147483647))) (Zae 0) (gC (.int 0))) (Zat (Zbj 2 (Zak (Zb6 (fun _ j=>0 < j) fun i j=>i % j) (Zak (Zfj) (Zak (Zfj) (Zak (Zb6 CMul fun i j=>i*j) (Zak (Zar ixW) (Zae 0) (gC (.int 0))) (Zak (Zar ixW) (Zae 0) (gC (.int 0)))) (Zak (Zb6 CMul fun i j=>i*j) (gC (.int 39373)) (Zak (Zar ixW) (Zae 0) (gC (.int 0))))) (gC (.int 7))) (gC (.int 2147483629)))) (Zat (Zbj 2 (Zak (Zb6 (fun _ j=>0 < j) fun i j=>i % j) (Zak (Zfj) (Zak (Zb6 CMul fun i j=>i*j) (Zae 2) (Zae 2)) (Zak (Zb6 CMul fun i j=>i*j) (gC (.int 16807)) (Zae 2))) (gC (.int 2147483587)))) (Zay (Zak (Zb6 (fun _ j=>0 < j) fun i j=>i % j) (Zak (Zb6 Zwa fun i j=>i / j) (Zae 2) (gC (.int 8))) (Zae 1)))))))
theorem ZkI {k:Nat} (T:Tx K mg base a):Dn P w K mg base Zgv "_law_choice" Zed k (ZgH):=by
 have hN:=ZgE.nd
 walk_at "z"
local macro_rules | `(tactic| walk_at "rd") => `(tactic| ((try dsimp only [Zfy,Zct,Zcv,ZbI,ZhP,Zat,gIf,Zay,Zbj,Zbv,Zan,Zae,gC,Zak,gTB,Zcj,gNt,Zf2,gOr,Zci,Zjj,Zdg,Zgi,L3.Zbq,Zb1,L3.Zaa,L3.Zaj,Zah,gB,rF,Zar,Zbb,gMt,ZiM,Zb0,Zdw,Zfg,Zb6,L3.Zfj,Zda,gSl,Zd9,Zbu,ZbU,Za7,ZkN,Zee,ZaL,Zbx,List.map_cons,List.map_nil,List.length_cons,List.length_nil,List.cons_append,List.nil_append,List.getElem?_cons_zero,List.getElem?_cons_succ,List.set_cons_zero,List.set_cons_succ,List.replicate,Zeo,tyN,Zaf,Zc7,ZcW,Zdz,ixW,eqF,eqW,ZfZ,ZiZ,ZgP,Zjy,List.getElem?_nil]); (try simp only [Zfy,Zct,Zcv,ZbI,ZhP,Zat,gIf,Zay,Zbj,Zbv,Zan,Zae,gC,Zak,gTB,Zcj,gNt,Zf2,gOr,Zci,Zjj,Zdg,Zgi,L3.Zbq,Zb1,L3.Zaa,L3.Zaj,Zah,gB,rF,Zar,Zbb,gMt,ZiM,Zb0,Zdw,Zfg,Zb6,L3.Zfj,Zda,gSl,Zd9,Zbu,ZbU,Za7,ZkN,Zee,ZaL,Zbx,List.map_cons,List.map_nil,List.length_cons,List.length_nil,List.cons_append,List.nil_append,List.getElem?_cons_zero,List.getElem?_cons_succ,List.set_cons_zero,List.set_cons_succ,List.replicate,Zeo,tyN,Zaf,Zc7,ZcW,Zdz,ixW,eqF,eqW,ZfZ,ZiZ,ZgP,Zjy,List.getElem?_nil])))
theorem Zs4 {ns:List Int} {k:Int} (h0:0≤k) (h:k < (ns.length:Int)):∃ v:Int,atI (ns.map W.int) k=some (.int v):=by
 have hk:k.toNat < ns.length:=by omega
 have ek:k=((k.toNat:Nat):Int):=by omega
 refine ⟨ns[k.toNat],?_⟩
 have q:atI (ns.map W.int) ((k.toNat:Nat):Int)=some (.int ns[k.toNat]):=Zkv (by rw [List.getElem?_map,List.getElem?_eq_getElem hk] <;> rfl)
 rw [← ek] at q
 exact q
def ZtO:Spw:=fun ws G Q _=>∃ (ns:List Int) (k:Int),ws=[.rol (ns.map W.int),.int k]∧0≤k∧∀ v:Int,Q (.int v) G
theorem ZsK:Spw.M ZtO:=(by rintro ws G Q Q' E E' h _ ⟨ns,k,h1,h2,q⟩;exact ⟨ns,k,h1,h2,fun v=>h _ _ (q v)⟩)
theorem ZcT (T:Tx K mg base a):Df P w K mg base "_law_cell_at" 1 2 ZtO:=by
 refine mk0 T.Zi5 rfl ZfS ZsK ((by rintro ws G Q E ⟨ns,k,e,_⟩;rw [e];rfl)) (Zi0 T) fun ws G Q E hC q=>?_
 obtain ⟨ns,k,rfl,h0,q⟩:=q
 unfold ZfC
 show Zat _ _ (ZaL Q) [some (.rol (ns.map W.int)),some (.int k)] G
 by_cases hk:k < ((ns.map W.int).length:Int)
 ·obtain ⟨v,e⟩:=Zs4 h0 (by simpa using hk)
  simp only [Zat,gIf,gTB,Zak,Zdw,gB,rF,ZfZ,ZiZ,L3.Zaa,L3.Zaj,Zae,List.getElem?_cons_zero,List.getElem?_cons_succ,Zaf,hk,decide_true,if_true,Zar,ixW,e,Zay]
  exact q v
 ·simp only [Zat,gIf,gTB,Zak,Zdw,gB,rF,ZfZ,ZiZ,L3.Zaa,L3.Zaj,Zae,List.getElem?_cons_zero,List.getElem?_cons_succ,Zaf,hk,decide_false,Bool.false_eq_true,if_false,Zan,Zay,gC]
  exact q 0
def ZpE:Spw:=fun ws G Q _=>∃ (ns:List Int) (k:Int),ws=[.rol (ns.map W.int),.int k]∧0≤k∧∀ p (x:Int) (b:Bool),G p=none→Q (.ref p) (put G p (.lst [.int x,.bl b]))
theorem Zo6:Spw.M ZpE:=(by rintro ws G Q Q' E E' h _ ⟨ns,k,h1,h2,q⟩;exact ⟨ns,k,h1,h2,fun p x y hp=>h _ _ (q p x y hp)⟩)
theorem Zti:Zvj 10 18:=⟨by decide,by decide,by decide⟩
theorem Zbs (T:Tx K mg base a):Df P w K mg base "_law_state" 2 2 ZpE:=by
 refine mk0 (k:=1) T.Zlc rfl Zhk Zo6 ((by rintro ws G Q E ⟨ns,k,e,_⟩;rw [e];rfl)) (ZlQ T (ZcT T) (Nat.le_refl _)) fun ws G Q E hC q=>?_
 obtain ⟨ns,k,rfl,h0,q⟩:=q
 unfold Zhg
 show Zat _ _ (ZaL Q) [some (.rol (ns.map W.int)),some (.int k),none] G
 refine ⟨ns,k,rfl,h0,fun v=>?_⟩
 walk_at "rd"
 refine ⟨Zti,?_⟩
 refine Zjq (fun h=>?_) (fun h=>?_)
 ·exact ⟨Zti,trivial,by decide,fun p hp=>q p _ _ hp⟩
 ·exact ⟨by decide,by decide,fun p hp=>q p _ _ hp⟩
def Zdp:Spw:=fun ws G Q _=>∃ (s:Addr) (m x:Int) (b:Bool) (l:List W),ws=[.ref s,.int m]∧0 < m∧m < 1267650600228229401496703205376∧G s=some (.lst (.int x::.bl b::l))∧∀ r x':Int,0≤r→r < m→Q (.int r) (put G s (.lst (.int x'::.bl b::l)))
theorem Zsk:Spw.M Zdp:=(by rintro ws G Q Q' E E' h _ ⟨s,m,x,b,l,h1,h2,h3,h4,q⟩;exact ⟨s,m,x,b,l,h1,h2,h3,h4,fun r x' z1 z2=>h _ _ (q r x' z1 z2)⟩)
theorem ZzG (n:Nat):ixN (n+1) 0=some 0:=by unfold ixN;rw [if_pos (Int.le_refl 0),if_pos (by omega)];rfl
theorem ZzO (n:Nat):ixN (n+3) 2=some 2:=by unfold ixN;rw [if_pos (by decide),if_pos (by omega)];rfl
theorem ZpT {G:Hw} {s:Addr} {x v:W} {l:List W} {Q:Hw→Prop} (h:G s=some (.lst (x::l))) (q:Q (put G s (.lst (v::l)))):ZiR (.ref s) (.int 0) v G Q:=ZkR h (ZzG l.length) q
theorem ZmK {G:Hw} {s:Addr} {x y z v:W} {Q:Hw→Prop} (h:G s=some (.lst [x,y,z])) (q:Q (put G s (.lst [x,y,v]))):ZiR (.ref s) (.int 2) v G Q:=ZkR h (ZzO 0) q
theorem ix0 {G:Hw} {s:Addr} {x:W} {l:List W} (h:G s=some (.lst (x::l))):ixW (.ref s) (.int 0) G=some x:=by rw [Ze2 h];exact Zc7
theorem ix1 {G:Hw} {s:Addr} {x y:W} {l:List W} (h:G s=some (.lst (x::y::l))):ixW (.ref s) (.int 1) G=some y:=by rw [Ze2 h];exact ZcW
theorem ix2 {G:Hw} {s:Addr} {x y z:W} {l:List W} (h:G s=some (.lst (x::y::z::l))):ixW (.ref s) (.int 2) G=some z:=by rw [Ze2 h];exact Zdz
theorem Zrd {x m:Int} (h0:0≤x) (h1:x < m) (hm:m≤2147483647):-(2 ^ 64) < x∧x < 2 ^ 64:=by
 have:(2:Int) ^ 64=18446744073709551616:=by decide
 rw [this];omega
theorem Zal (T:Tx K mg base a):Df P w K mg base "_law_choice" 1 2 Zdp:=by
 refine mk0 T.Zkd rfl ZgE Zsk ((by rintro ws G Q E ⟨s,m,x,b,l,e,_⟩;rw [e];rfl)) (ZkI T) fun ws G Q E hC q=>?_
 obtain ⟨s,m,x,b,l,rfl,hm0,hm1,hs,q⟩:=q
 unfold ZgH
 show Zat (gIf _ _ Zan) _ (ZaL Q) [some (.ref s),some (.int m),none,none] G
 simp only [Zat,gIf,Zcj,Zak,Zar,Zae,gC,List.getElem?_cons_zero,List.getElem?_cons_succ,ix1 hs,Zaf,Zeo]
 cases b with
 | true =>
  simp only [if_true,Zat,Zbj,Zcr,Zak,Zb6,Zar,Zae,gC,Zay,ZaL,List.getElem?_cons_zero,List.getElem?_cons_succ,List.set_cons_zero,List.set_cons_succ,ix0 hs,Zaf]
  refine ⟨hm0,?_⟩
  refine ⟨⟨hm0,hm1⟩,?_⟩
  refine ZpT hs ?_
  exact q _ _ (Int.emod_nonneg _ (by omega)) (Int.emod_lt_of_pos _ hm0)
 | false =>
  simp only [Bool.false_eq_true,if_false,Zan,Zat,Zcr,Zak,Zb6,Zar,gC,Zae,List.getElem?_cons_zero,List.getElem?_cons_succ,ix0 hs,Zaf,Zku,Zgc,L3.Zfj]
  refine ⟨.inr ⟨by decide,by decide⟩,by decide,?_⟩
  refine ZpT hs ?_
  generalize hx2:(x*48271+29) % 2147483647=x2
  have b0:0≤x2:=by rw [← hx2];exact Int.emod_nonneg _ (by decide)
  have b1:x2 < 2147483647:=by rw [← hx2];exact Int.emod_lt_of_pos _ (by decide)
  have h2:put G s (.lst (.int x2::.bl false::l)) s=some (.lst (.int x2::.bl false::l)):=Zab
  simp only [Zbj,Zak,Zb6,Zar,gC,Zae,List.getElem?_cons_zero,List.getElem?_cons_succ,List.set_cons_zero,List.set_cons_succ,ix0 h2,Zaf,Zay,ZaL,Zku,Zgc,L3.Zfj]
  refine ⟨.inl (Zrd b0 b1 (by decide)),.inl ⟨by decide,by decide⟩,by decide,?_⟩
  generalize hx3:(x2*x2+39373*x2+7) % 2147483629=x3
  have c0:0≤x3:=by rw [← hx3];exact Int.emod_nonneg _ (by decide)
  have c1:x3 < 2147483629:=by rw [← hx3];exact Int.emod_lt_of_pos _ (by decide)
  refine ⟨.inl (Zrd c0 c1 (by decide)),.inl ⟨by decide,by decide⟩,(show (0:Int) < 2147483587 by decide),?_⟩
  refine ⟨⟨by decide,by decide⟩,hm0,?_⟩
  exact q _ _ (Int.emod_nonneg _ (by omega)) (Int.emod_lt_of_pos _ hm0)
theorem Zlz {x:Str} {st:Stmt} {ps:List Str} {k:Nat} {sp:Spw} (Fx:Fn K mg st x ps) (m:sp.M) (no:∀ ws G Q E,¬ sp ws G Q E):Df P w K mg base x k ps.length sp:=by
 obtain ⟨f,fd,h1,F,h3⟩:=Fx
 exact ⟨⟨f,fd,_,h1,F.kp,h3,rfl,⟨(by rintro vs H Q E ⟨ws,G,t,r,q⟩;exact absurd q (no _ _ _ _)),(by rintro A outer s H args us vs Q E _ _ _ _ ⟨ws,G,t,r,q⟩;exact absurd q (no _ _ _ _))⟩⟩,m⟩
def Zym:Spw:=fun _ _ _ _=>False
theorem Zo3:Spw.M Zym:=fun _ _ _ _ _ _ _ _ q=>q
theorem ZpS {G:Hw} {p:Addr} {xs:List W} {y:W} {Q:Kw} (hp:G p=some (.lst xs)) (hl:xs.length < sizeLine) (q:Q .non (put G p (.lst (xs++[y])))):Zrm (.ref p) [y] G Q:=by
 unfold Zrm
 refine ZmE hp ?_ q
 rw [if_pos hl]
def ZgX (ns:List Str):Bool:=decide (ns.length≤5)||(decide (ns.length≤6)&&ns.contains "b")
theorem ZnI {ns:List Str} (h:ZgX ns=true):ns.length≤6:=by
 unfold ZgX at h
 rw [Bool.or_eq_true,Bool.and_eq_true,decide_eq_true_eq,decide_eq_true_eq] at h
 omega
theorem Zvg {ns:List Str} (h:ns.length≤5):ZgX ns=true:=by
 unfold ZgX
 rw [decide_eq_true h];rfl
mutual
def Kd.thr:Kd→Bool
 | .to a b=>a.thr&&b.thr
 | .box a=>a.thr
 | .row fs _=>ZgX fs.names&&fs.thr
 | _=>true
def Fs.thr:Fs→Bool
 | .nil=>true
 | .cons _ _ k r=>k.thr&&r.thr
end
def wf (k:Kd):Prop:=k.ok=true∧k.thr=true
mutual
def Kd.dpr:Kd→Nat
 | .to a b=>1+max a.dpr b.dpr
 | .box a=>1+a.dpr
 | .row fs _=>1+max 1 fs.dpr
 | _=>1
def Fs.dpr:Fs→Nat
 | .nil=>0
 | .cons _ _ k r=>max k.dpr r.dpr
end
mutual
def Kd.knw:Kd→Bool
 | .any=>false
 | .to a b=>a.knw&&b.knw
 | .box a=>a.knw
 | .row fs o=>!o&&fs.knw
 | _=>true
def Fs.knw:Fs→Bool
 | .nil=>true
 | .cons _ _ k r=>k.knw&&r.knw
end
mutual
def Kd.dat:Kd→Bool
 | .to _ _=>false
 | .box _=>false
 | .row fs _=>fs.dat
 | _=>true
def Fs.dat:Fs→Bool
 | .nil=>true
 | .cons _ _ k r=>k.dat&&r.dat
end
def kdt (kn:Bool) (k:Kd):Prop:=k.dat=true∧(kn=true→k.knw=true)
mutual
theorem Zlm:∀ k:Kd,k.dp≤k.dpr
 | .any=>Nat.le_refl _
 | .num=>Nat.le_refl _
 | .truth=>Nat.le_refl _
 | .to a b=>by have:=Zlm a;have:=Zlm b;show 1+max a.dp b.dp≤1+max a.dpr b.dpr;omega
 | .box a=>by have:=Zlm a;show 1+a.dp≤1+a.dpr;omega
 | .row fs o=>by have:=ZpU fs;show 1+fs.dp≤1+max 1 fs.dpr;omega
theorem ZpU:∀ fs:Fs,fs.dp≤fs.dpr
 | .nil=>Nat.le_refl _
 | .cons _ _ k r=>by have:=Zlm k;have:=ZpU r;show max k.dp r.dp≤max k.dpr r.dpr;omega
end
def ZkY (x:Str×Bool×Kd):W:=.tup [.str x.1,.str (Zek x.2.1),x.2.2.enc]
def ofL:List (Str×Bool×Kd)→Fs
 | []=>.nil
 | x::l=>.cons x.1 x.2.1 x.2.2 (ofL l)
theorem ZmF:∀ l,(ofL l).enc=l.map ZkY
 | []=>rfl
 | x::l=>by show ZkY x::(ofL l).enc=ZkY x::l.map ZkY;rw [ZmF l]
theorem ZeS:∀ l,(ofL l).names=l.map (·.1)
 | []=>rfl
 | x::l=>by show x.1::(ofL l).names=x.1::l.map (·.1);rw [ZeS l]
theorem ZpQ {n:Nat}:∀ l:List (Str×Bool×Kd),(∀ y∈l,y.2.2.dpr≤n)→(ofL l).dpr≤n
 | [],_=>Nat.zero_le _
 | x::l,h=>by
  have h1:=h x List.mem_cons_self
  have h2:=ZpQ l fun y hy=>h y (List.mem_cons_of_mem _ hy)
  show max x.2.2.dpr (ofL l).dpr≤n;omega
theorem ZpX:∀ l:List (Str×Bool×Kd),(∀ y∈l,y.2.2.knw=true)→(ofL l).knw=true
 | [],_=>rfl
 | y::l,h=>by
  show (y.2.2.knw&&(ofL l).knw)=true
  rw [h y List.mem_cons_self,ZpX l fun z hz=>h z (List.mem_cons_of_mem _ hz)];rfl
theorem Zqj:∀ l:List (Str×Bool×Kd),(∀ y∈l,y.2.2.dat=true)→(ofL l).dat=true
 | [],_=>rfl
 | y::l,h=>by
  show (y.2.2.dat&&(ofL l).dat)=true
  rw [h y List.mem_cons_self,Zqj l fun z hz=>h z (List.mem_cons_of_mem _ hz)];rfl
theorem ZtM:∀ l:List (Str×Bool×Kd),(∀ y∈l,Za1 y.1=true∧wf y.2.2)→(ofL l).ok=true∧(ofL l).thr=true
 | [],_=>⟨rfl,rfl⟩
 | x::l,h=>by
  obtain ⟨h1,h2,h3⟩:=h x List.mem_cons_self
  obtain ⟨i1,i2⟩:=ZtM l fun y hy=>h y (List.mem_cons_of_mem _ hy)
  constructor
  ·show (Za1 x.1&&x.2.2.ok&&(ofL l).ok)=true
   rw [h1,h2,i1];rfl
  ·show (x.2.2.thr&&(ofL l).thr)=true
   rw [h3,i2];rfl
theorem Zrc:∀ (l l2:List (Str×Bool×Kd)),(ofL (l++l2)).cnt=(ofL l).cnt+(ofL l2).cnt
 | [],l2=>by show (ofL l2).cnt=0+(ofL l2).cnt;omega
 | x::l,l2=>by show x.2.2.cnt+(ofL (l++l2)).cnt=x.2.2.cnt+(ofL l).cnt+(ofL l2).cnt;rw [Zrc l l2];omega
theorem ZmL:∀ {ns:List Str},ns.Pairwise (fun x y=>ZaA x y=true)→rise ns=true
 | [],_=>rfl
 | [_],_=>rfl
 | x::y::r,h=>by
  show (ZaA x y&&rise (y::r))=true
  cases h with
  | cons h1 h2=>rw [h1 y List.mem_cons_self,ZmL h2];rfl
theorem Zyd {l:List (Str×Bool×Kd)} {o:Bool} (h1:(l.map (·.1)).Pairwise (fun x y=>ZaA x y=true)) (h2:ZgX (l.map (·.1))=true) (h3:∀ y∈l,Za1 y.1=true∧wf y.2.2):wf (.row (ofL l) o):=by
 obtain ⟨i1,i2⟩:=ZtM l h3
 constructor
 ·show (rise (ofL l).names&&(ofL l).ok)=true
  rw [ZeS,ZmL h1,i1];rfl
 ·show (ZgX (ofL l).names&&(ofL l).thr)=true
  rw [ZeS,h2,i2];rfl
def gk (d c:Int) (kn:Bool) (k:Kd):Prop:=wf k∧(k.dpr:Int)≤d∧(k.cnt:Int)≤max c 1+(d - 1)∧(c≤2→k.cnt=1)∧kdt kn k
def Zkp (n:Nat):Spw:=fun ws G Q _=>∃ (s:Addr) (x d c:Int) (b kn:Bool),ws=[.ref s,.int d,.bl true,.bl kn]∧1≤d∧d≤(n:Int)+1∧G s=some (.lst [.int x,.bl b,.int c])∧∀ (k:Kd) (x':Int),gk d c kn k→Q k.enc (put G s (.lst [.int x',.bl b,.int (c - k.cnt)]))
theorem ZpI {n:Nat}:Spw.M (Zkp n):=(by rintro ws G Q Q' E E' h _ ⟨s,x,d,c,b,kn,h1,h2,h3,h4,q⟩;exact ⟨s,x,d,c,b,kn,h1,h2,h3,h4,fun k x' g=>h _ _ (q k x' g)⟩)
def ZvX (n:Nat):Spw:=fun ws G Q _=>∃ (s:Addr) (x d c:Int) (b kn:Bool),ws=[.ref s,.int d,.bl true,.bl kn]∧2≤d∧d≤(n:Int)+2∧2≤c∧G s=some (.lst [.int x,.bl b,.int c])∧∀ (k:Kd) (x':Int),wf k→(k.dpr:Int)≤d→1≤k.cnt→(k.cnt:Int)≤c+d - 1→kdt kn k→Q k.enc (put G s (.lst [.int x',.bl b,.int (c+1 - k.cnt)]))
theorem ZuE {n:Nat}:Spw.M (ZvX n):=(by rintro ws G Q Q' E E' h _ ⟨s,x,d,c,b,kn,h1,h2,h3,h4,h5,q⟩;exact ⟨s,x,d,c,b,kn,h1,h2,h3,h4,h5,fun k x' g1 g2 g3 g4 g5=>h _ _ (q k x' g1 g2 g3 g4 g5)⟩)
def ZpC (xs:List Str):Prop:=xs.Pairwise (fun x y=>ZaA x y=true)∧(∀ x∈xs,Za1 x=true)∧xs.length≤5
abbrev gRB (sp:Spw):GS:=(gIf (Zf2 (gTB (Zak (Zar (eqF false)) (Zah Zdp XF (L3.Zaa (Zae 0) (L3.Zaa (gC (.int 2)) L3.Zaj))) (gC (.int 1)))) (gTB (Zak (Zfg fun i j=>decide (j < i)) (Zak (Zar ixW) (Zae 0) (gC (.int 2))) (gC (.int 0))))) (Zat (Zbj 7 (Zak (Zar ixW) (Zb1 (L3.Zaa (gC (.str "must")) (L3.Zaa (gC (.str "may")) L3.Zaj))) (Zah Zdp XF (L3.Zaa (Zae 0) (L3.Zaa (gC (.int 2)) L3.Zaj))))) (Zbv (gMt Zf3 Zrm (Zae 4) (L3.Zaa (L3.Zbq (L3.Zaa (Zae 6) (L3.Zaa (Zae 7) (L3.Zaa (Zah sp XF (L3.Zaa (Zae 0) (L3.Zaa (Zak (Zb6 (fun _ _=>True) fun i j=>i - j) (Zae 1) (gC (.int 1))) (L3.Zaa (Zae 2) (L3.Zaa (Zae 3) L3.Zaj))))) L3.Zaj)))) L3.Zaj)))) Zan)
theorem Zvc {r:Int} (h0:0≤r) (h2:r < 2):∃ b:Bool,atI [W.str "must",W.str "may"] r=some (.str (Zek b)):=by
 have:r=0∨r=1:=by omega
 rcases this with e | e
 ·exact ⟨true,by rw [e];exact Zc7⟩
 ·exact ⟨false,by rw [e];exact ZcW⟩
theorem Zkc {n:Nat} {D:Ew} {s p q0:Addr} {d c:Int} {b kn:Bool} {items:List W} {w5:Option W} (hd1:2≤d) (hd2:d≤(n:Int)+2) (hc:2≤c):∀ (xs:List Str) (o6 o7:Option W) (G:Hw) (l:List (Str×Bool×Kd)) (x c0:Int),G s=some (.lst [.int x,.bl b,.int c0])→G p=some (.lst (l.map ZkY))→G q0=some (.lst items)→p≠s→q0≠s→q0≠p→l.length+xs.length≤100→c0=c - (ofL l).cnt→((ofL l).cnt:Int)≤c+d - 2 →
  (∀ ω G' l2 x',(∃ u v,ω=[some (.ref s),some (.int d),some (.bl true),some (.bl kn),some (.ref p),w5,u,v])→G' s=some (.lst [.int x',.bl b,.int (c - (ofL (l++l2)).cnt)])→((ofL (l++l2)).cnt:Int)≤c+d - 2→G' p=some (.lst ((l++l2).map ZkY))→(∀ b,b≠s→b≠p→∀ u,G b=some u→G' b=some u)→(l2.map (·.1)).Sublist xs→(∀ z∈l2,wf z.2.2∧(z.2.2.dpr:Int)≤d - 1∧kdt kn z.2.2)→D.nx ω G') →
  Zcz (holds q0 items) (gNm 6) (gRB (Zkp n)) D (xs.map W.str) [some (.ref s),some (.int d),some (.bl true),some (.bl kn),some (.ref p),w5,o6,o7] G
 | [],o6,o7,G,l,x,c0,hs,hp,hq,_,_,_,_,e0,e1,fin=>⟨hq,fin _ G [] x ⟨o6,o7,rfl⟩ (by rw [List.append_nil,← e0];exact hs) (by rw [List.append_nil];exact e1) (by rw [List.append_nil];exact hp) (fun b _ _ u h=>h) (.refl _) (by intro z hz;cases hz)⟩
 | nm::xs,o6,o7,G,l,x,c0,hs,hp,hq,nps,nqs,nqp,hl,e0,e1,fin=>by
  refine ⟨hq,?_⟩
  show gRB (Zkp n) _ [some (.ref s),some (.int d),some (.bl true),some (.bl kn),some (.ref p),w5,some (.str nm),o7] G
  have hlx:l.length+(xs.length+1)≤100:=hl
  simp only [gIf,Zf2,gTB,Zak,Zah,L3.Zaa,L3.Zaj,Zae,gC,Zar,List.getElem?_cons_zero,List.getElem?_cons_succ]
  refine ⟨s,2,x,b,[.int c0],rfl,by decide,by decide,hs,fun r x1 r0 r1=>?_⟩
  have g1s:put G s (.lst [.int x1,.bl b,.int c0]) s=some (.lst [.int x1,.bl b,.int c0]):=Zab
  have g1p:put G s (.lst [.int x1,.bl b,.int c0]) p=some (.lst (l.map ZkY)):=by rw [Zag nps];exact hp
  have g1q:put G s (.lst [.int x1,.bl b,.int c0]) q0=some (.lst items):=by rw [Zag nqs];exact hq
  have skip:∀ o7,Zcz (holds q0 items) (gNm 6) (gRB (Zkp n)) D (xs.map W.str) [some (.ref s),some (.int d),some (.bl true),some (.bl kn),some (.ref p),w5,some (.str nm),o7] (put G s (.lst [.int x1,.bl b,.int c0])):=fun o7=>by
   refine Zkc hd1 hd2 hc xs _ _ _ l x1 c0 g1s g1p g1q nps nqs nqp (by omega) e0 e1 ?_
   intro ω G' l2 x' hω f1 f1' f2 f3 f4 f5
   exact fin ω G' l2 x' hω f1 f1' f2 (fun c c1 c2 u hu=>f3 c c1 c2 u (by rw [Zag c1];exact hu)) (f4.cons nm) f5
  show opt (eqF false (.int r) (.int 1) (put G s (.lst [.int x1,.bl b,.int c0]))) _
  rw [show eqF false (.int r) (.int 1) (put G s (.lst [.int x1,.bl b,.int c0]))=some (.bl (r==1)) by unfold eqF eqW;show some (W.bl ((r==1) != false))=_;cases (r==1) <;> rfl,Zaf]
  dsimp only
  cases (r==1) with
  | false=>exact skip _
  | true =>
   rw [if_pos rfl,ix2 g1s,Zaf]
   show if decide (0 < c0)=true then _ else _
   by_cases h0:0 < c0
   ·rw [if_pos (decide_eq_true h0)]
    simp only [Zat,Zbj,Zak,Zb1,Zah,L3.Zaa,L3.Zaj,Zae,gC,Zar,List.getElem?_cons_zero,List.getElem?_cons_succ]
    refine ⟨(show 2≤sizeLine by decide),fun p2 hp2=>?_⟩
    have n2:s≠p2:=Zaw g1s hp2
    have n3:p≠p2:=Zaw g1p hp2
    have n4:q0≠p2:=Zaw g1q hp2
    refine ⟨s,2,x1,b,[.int c0],rfl,by decide,by decide,by rw [Zag n2];exact g1s,fun r2 x2 r20 r21=>?_⟩
    obtain ⟨m,em⟩:=Zvc r20 r21
    have fm:ixW (.ref p2) (.int r2) (put (put (put G s (.lst [.int x1,.bl b,.int c0])) p2 (.lst [.str "must",.str "may"])) s (.lst [.int x2,.bl b,.int c0]))=some (.str (Zek m)):=by
     rw [Ze2 (by rw [Zag (Ne.symm n2)];exact Zab)];exact em
    rw [fm,Zaf]
    simp only [Zbv,gMt,L3.Zbq,Zak,Zah,Zb6,L3.Zaa,L3.Zaj,Zae,gC,List.set_cons_zero,List.set_cons_succ,List.getElem?_cons_zero,List.getElem?_cons_succ]
    have g3p:put (put (put G s (.lst [.int x1,.bl b,.int c0])) p2 (.lst [.str "must",.str "may"])) s (.lst [.int x2,.bl b,.int c0]) p=some (.lst (l.map ZkY)):=by rw [Zag nps,Zag n3];exact g1p
    refine ⟨Zfe g3p,trivial,s,x2,d - 1,c0,b,kn,rfl,by omega,by omega,Zab,fun k x3 hk=>?_⟩
    refine ⟨(show 3≤sizeLine by decide),?_⟩
    refine ZpS (by rw [Zag nps];exact g3p) (by rw [List.length_map];exact Zea (by omega)) ?_
    have ee:l.map ZkY++[W.tup [.str nm,.str (Zek m),k.enc]]=(l++[(nm,m,k)]).map ZkY:=by rw [List.map_append];rfl
    rw [ee]
    have ec:(ofL (l++[(nm,m,k)])).cnt=(ofL l).cnt+k.cnt:=by rw [Zrc];rfl
    have hk3:=hk.2.2.1
    refine Zkc hd1 hd2 hc xs _ _ _ (l++[(nm,m,k)]) x3 (c0 - k.cnt) (by rw [Zag (Ne.symm nps)];exact Zab) Zab ?_ nps nqs nqp (by rw [List.length_append];simp only [List.length_cons,List.length_nil];omega) (by rw [ec];omega) (by rw [ec];omega) ?_
    ·rw [Zag nqp,Zag nqs,Zag nqs,Zag n4];exact g1q
    ·intro ω G' l2 x' hω f1 f1' f2 f3 f4 f5
     rw [List.append_assoc] at f1 f1' f2
     refine fin ω G' ((nm,m,k)::l2) x' hω f1 f1' f2 (fun c c1 c2 u hu=>f3 c c1 c2 u ?_) (f4.cons_cons nm) ?_
     ·have hc:put G s (.lst [.int x1,.bl b,.int c0]) c=some u:=by rw [Zag c1];exact hu
      rw [Zag c2,Zag c1,Zag c1,Zag (Zaw hc hp2)];exact hc
     ·intro z hz
      rcases List.mem_cons.mp hz with rfl | hz
      ·exact ⟨hk.1,hk.2.1,hk.2.2.2.2⟩
      ·exact f5 z hz
   ·rw [if_neg (by simpa using h0)]
    exact skip _
abbrev Zjb:List Str:=["state","deep","plain","known","fields","some","name","mark"]
theorem Zje:Zau Zjb ["state","deep","plain","known"] (Zai ZgW):=by walk_at "s"
def Zji (Zac:Spw) (ZaB:Spw):GS:=(Zat (Zbj 4 (Zb1 Zaj)) (Zat (Zbj 5 (Zb1 (Zaa (Zb1 (Zaa (gC (.str "a")) (Zaa (gC (.str "ab")) (Zaa (gC (.str "b")) (Zaa (gC (.str "cab")) (Zaa (gC (.str "zzzzzzzz")) Zaj)))))) (Zaa (Zb1 (Zaa (gC (.str "any")) (Zaa (gC (.str "in")) (Zaa (gC (.str "inside")) (Zaa (gC (.str "num")) (Zaa (gC (.str "out")) Zaj)))))) Zaj)))) (Zat (Zbv (gMt Zf3 Zrm (Zae 5) (Zaa (Zb1 (Zaa (gC (.str "aa")) (Zaa (gC (.str "new")) (Zaa (gC (.str "other")) (Zaa (gC (.str "x")) (Zaa (gC (.str "zz")) Zaj)))))) Zaj))) (Zat (Zee (Za7 (Zak (Zar ixW) (Zae 5) (Zak (Zar ixW) (Zb1 (Zaa (gC (.int 0)) (Zaa (gC (.int 0)) (Zaa (gC (.int 1)) (Zaa (gC (.int 2)) Zaj))))) (Zah Zac XF (Zaa (Zae 0) (Zaa (gC (.int 4)) Zaj)))))) (gNm 6) (gIf (Zf2 (gTB (Zak (Zar (eqF false)) (Zah Zac XF (Zaa (Zae 0) (Zaa (gC (.int 2)) Zaj))) (gC (.int 1)))) (gTB (Zak (Zfg fun i j=>decide (j < i)) (Zak (Zar ixW) (Zae 0) (gC (.int 2))) (gC (.int 0))))) (Zat (Zbj 7 (Zak (Zar ixW) (Zb1 (Zaa (gC (.str "must")) (Zaa (gC (.str "may")) Zaj))) (Zah Zac XF (Zaa (Zae 0) (Zaa (gC (.int 2)) Zaj))))) (Zbv (gMt Zf3 Zrm (Zae 4) (Zaa (Zbq (Zaa (Zae 6) (Zaa (Zae 7) (Zaa (Zah ZaB XF (Zaa (Zae 0) (Zaa (Zak (Zb6 (fun _ _=>True) fun i j=>i - j) (Zae 1) (gC (.int 1))) (Zaa (Zae 2) (Zaa (Zae 3) Zaj))))) Zaj)))) Zaj)))) Zan)) (Zay (Zbq (Zaa (gC (.str "row")) (Zaa (gB (rF ZhU) (Zaa (Zae 4) Zaj)) (Zaa (Zci (Zak (Zar (eqF false)) (Zah Zac XF (Zaa (Zae 0) (Zaa (gC (.int 2)) Zaj))) (gC (.int 1))) (Zdg (Zae 3))) Zaj)))))))))
theorem Zos {k:Nat} (T:Tx K mg base a) {Zal:Nat} {Zac:Spw} (ZbY:Df P w K mg base "_law_choice" Zal 2 Zac) (ZbW:Zal≤k) {Za2:Nat} {ZaB:Spw} (ZiA:Df P w K mg base "_law_kind" Za2 4 ZaB) (ZiB:Za2≤k):Dn P w K mg base Zjb "_law_row" ZgW k (Zji Zac ZaB):=by
 have hN:=Zje.nd
 walk_at "z"
abbrev Zf5:List Str:=["state","deep","plain","known","pick","some"]
theorem ZfV:Zau Zf5 ["state","deep","plain","known"] (Zai ZfX):=by walk_at "s"
def ZfY (Zac:Spw) (ZaB:Spw) (Zef:Spw):GS:=(Zat (Zcr (Zak (Zb6 (fun _ _=>True) fun i j=>i - j) (Zak (Zar ixW) (Zae 0) (gC (.int 2))) (gC (.int 1))) (Zae 0) (gC (.int 2))) (Zat (Zbj 4 (Zah Zac XF (Zaa (Zae 0) (Zaa (gC (.int 8)) Zaj)))) (Zat (gIf (gOr (gTB (Zak (Zdw (fun i j=>decide (i < j)) ZaA) (Zae 1) (gC (.int 2)))) (gOr (gTB (Zak (Zdw (fun i j=>decide (i < j)) ZaA) (Zak (Zar ixW) (Zae 0) (gC (.int 2))) (gC (.int 2)))) (gTB (Zak (Zdw (fun i j=>decide (i < j)) ZaA) (Zae 4) (gC (.int 2)))))) (Zat (Zbj 5 (Zb1 (Zaa (Zbq (Zaa (gC (.str "num")) Zaj)) (Zaa (Zbq (Zaa (gC (.str "truth")) Zaj)) (Zaa (Zbq (Zaa (gC (.str "any")) Zaj)) Zaj))))) (Zay (Zak (Zar ixW) (Zae 5) (Zah Zac XF (Zaa (Zae 0) (Zaa (Zak (Zb6 (fun _ _=>True) fun i j=>i - j) (gC (.int 3)) (gB (rF ZoP) (Zaa (Zae 3) Zaj))) Zaj)))))) Zan) (Zat (gIf (Zf2 (gTB (Zak (Zdw (fun i j=>decide (i < j)) ZaA) (Zae 4) (gC (.int 4)))) (gNt (Zcj (Zae 2)))) (Zay (Zbq (Zaa (gC (.str "to")) (Zaa (Zah ZaB XF (Zaa (Zae 0) (Zaa (Zak (Zb6 (fun _ _=>True) fun i j=>i - j) (Zae 1) (gC (.int 1))) (Zaa (Zae 2) (Zaa (Zae 3) Zaj))))) (Zaa (Zah ZaB XF (Zaa (Zae 0) (Zaa (Zak (Zb6 (fun _ _=>True) fun i j=>i - j) (Zae 1) (gC (.int 1))) (Zaa (Zae 2) (Zaa (Zae 3) Zaj))))) Zaj))))) Zan) (Zat (gIf (Zf2 (gTB (Zak (Zar (eqF false)) (Zae 4) (gC (.int 4)))) (gNt (Zcj (Zae 2)))) (Zay (Zbq (Zaa (gC (.str "box")) (Zaa (Zah ZaB XF (Zaa (Zae 0) (Zaa (Zak (Zb6 (fun _ _=>True) fun i j=>i - j) (Zae 1) (gC (.int 1))) (Zaa (Zae 2) (Zaa (Zae 3) Zaj))))) Zaj)))) Zan) (Zay (Zah Zef XF (Zaa (Zae 0) (Zaa (Zae 1) (Zaa (Zae 2) (Zaa (Zae 3) Zaj)))))))))))
theorem Ziu {k:Nat} (T:Tx K mg base a) {Zal:Nat} {Zac:Spw} (ZbY:Df P w K mg base "_law_choice" Zal 2 Zac) (ZbW:Zal≤k) {Za2:Nat} {ZaB:Spw} (ZiA:Df P w K mg base "_law_kind" Za2 4 ZaB) (ZiB:Za2≤k) {Zfh:Nat} {Zef:Spw} (Zv7:Df P w K mg base "_law_row" Zfh 4 Zef) (Zwd:Zfh≤k):Dn P w K mg base Zf5 "_law_kind" ZfX k (ZfY Zac ZaB Zef):=by
 have hN:=ZfV.nd
 walk_at "z"
abbrev ZdM:List Str:=["script","k","plain","known","state","deep"]
theorem ZdW:Zau ZdM ["script","k","plain","known"] (Zai Zcw):=by walk_at "s"
def Zd6 (Za6:Spw) (Zac:Spw) (ZaB:Spw):GS:=(Zat (Zbj 4 (Zak (Zgc) (Zah Za6 XF (Zaa (Zae 0) (Zaa (Zae 1) Zaj))) (Zb1 (Zaa (gC (.int 9)) Zaj)))) (Zat (Zbj 5 (gC (.int 3))) (Zat (gIf (gTB (Zak (Zar (eqF false)) (Zah Zac XF (Zaa (Zae 4) (Zaa (gC (.int 6)) Zaj))) (gC (.int 1)))) (Zat (Zcr (gC (.int 30)) (Zae 4) (gC (.int 2))) (Zbj 5 (gC (.int 8)))) Zan) (Zay (Zah ZaB XF (Zaa (Zae 4) (Zaa (Zae 5) (Zaa (Zae 2) (Zaa (Zae 3) Zaj)))))))))
theorem Zg1 {k:Nat} (T:Tx K mg base a) {Zbs:Nat} {Za6:Spw} (Zk1:Df P w K mg base "_law_state" Zbs 2 Za6) (Zld:Zbs≤k) {Zal:Nat} {Zac:Spw} (ZbY:Df P w K mg base "_law_choice" Zal 2 Zac) (ZbW:Zal≤k) {Za2:Nat} {ZaB:Spw} (ZiA:Df P w K mg base "_law_kind" Za2 4 ZaB) (ZiB:Za2≤k):Dn P w K mg base ZdM "_law_drawn_kind" Zcw k (Zd6 Za6 Zac ZaB):=by
 have hN:=ZdW.nd
 walk_at "z"
theorem ZyL {G G':Hw} {s p:Addr} {S:HW} (hp:G p=none) (h:∀ b,b≠s→b≠p→∀ u,G b=some u→G' b=some u) (hs:G' s=some S):Sub (put G s S) G':=fun b u hu=>by
 by_cases hb:b=s
 ·subst hb;rw [Zab] at hu;rw [hs];exact hu
 ·rw [Zag hb] at hu
  exact h b hb (fun e=>by subst e;rw [hp] at hu;cases hu) u hu
abbrev LA:List Str:=["a","ab","b","cab","zzzzzzzz"]
abbrev LB':List Str:=["any","in","inside","num","out"]
abbrev LC':List Str:=["aa","new","other","x","zz"]
theorem ZtW:ZpC LA:=⟨by decide +kernel,by decide +kernel,by decide⟩
theorem ZxI:ZpC LB':=⟨by decide +kernel,by decide +kernel,by decide⟩
theorem Zyr:ZpC LC':=⟨by decide +kernel,by decide +kernel,by decide⟩
abbrev gRT (sp:Spw):GS:=Zat (Zee (Za7 (Zak (Zar ixW) (Zae 5) (Zak (Zar ixW) (Zb1 (L3.Zaa (gC (.int 0)) (L3.Zaa (gC (.int 0)) (L3.Zaa (gC (.int 1)) (L3.Zaa (gC (.int 2)) L3.Zaj))))) (Zah Zdp XF (L3.Zaa (Zae 0) (L3.Zaa (gC (.int 4)) L3.Zaj)))))) (gNm 6) (gRB sp)) (Zay (L3.Zbq (L3.Zaa (gC (.str "row")) (L3.Zaa (gB (rF ZhU) (L3.Zaa (Zae 4) L3.Zaj)) (L3.Zaa (Zci (Zak (Zar (eqF false)) (Zah Zdp XF (L3.Zaa (Zae 0) (L3.Zaa (gC (.int 2)) L3.Zaj))) (gC (.int 1))) (Zdg (Zae 3))) L3.Zaj)))))
theorem ZzF {n:Nat} {G:Hw} {Q:Kw} {s p p3 p1 p2 p4:Addr} {x d c:Int} {b kn:Bool} (hC:Kw.C Q) (hd1:2≤d) (hd2:d≤(n:Int)+2) (hc:2≤c) (hs:G s=some (.lst [.int x,.bl b,.int c])) (hp:G p=some (.lst [])) (nps:p≠s)
  (h3:G p3=some (.lst [.ref p1,.ref p2,.ref p4])) (h1:G p1=some (.lst (LA.map W.str))) (h2:G p2=some (.lst (LB'.map W.str))) (h4:G p4=some (.lst (LC'.map W.str)))
  (q:∀ (k:Kd) (x':Int) G',wf k→(k.dpr:Int)≤d→1≤k.cnt→(k.cnt:Int)≤c+d - 1→kdt kn k→G' s=some (.lst [.int x',.bl b,.int (c+1 - k.cnt)])→(∀ b,b≠s→b≠p→∀ u,G b=some u→G' b=some u)→Q k.enc G') :
  gRT (Zkp n) (ZaL Q) [some (.ref s),some (.int d),some (.bl true),some (.bl kn),some (.ref p),some (.ref p3),none,none] G:=by
 unfold gRT
 simp only [Zat,Zee,Za7,Zak,Zb1,Zah,L3.Zaa,L3.Zaj,Zae,gC,Zar,List.getElem?_cons_zero,List.getElem?_cons_succ]
 refine ⟨(show 4≤sizeLine by decide),fun p5 e5=>?_⟩
 have nsl:∀ {r:Addr} {L:List W},G r=some (.lst L)→L.length≠3→r≠s:=fun h hne e=>by
  subst e;rw [hs] at h;cases h;exact hne rfl
 have n5:s≠p5:=Zaw hs e5
 refine ⟨s,4,x,b,[.int c],rfl,by decide,by decide,by rw [Zag n5];exact hs,fun r x1 r0 r1=>?_⟩
 have keep:∀ a,a≠s→∀ u,G a=some u→put (put G p5 (.lst [.int 0,.int 0,.int 1,.int 2])) s (.lst [.int x1,.bl b,.int c]) a=some u:=fun a ha u hu=>by
  rw [Zag ha,Zag (Zaw hu e5)];exact hu
 have f5:put (put G p5 (.lst [.int 0,.int 0,.int 1,.int 2])) s (.lst [.int x1,.bl b,.int c]) p5=some (.lst [.int 0,.int 0,.int 1,.int 2]):=by rw [Zag (Ne.symm n5)];exact Zab
 have fs:put (put G p5 (.lst [.int 0,.int 0,.int 1,.int 2])) s (.lst [.int x1,.bl b,.int c]) s=some (.lst [.int x1,.bl b,.int c]):=Zab
 have n3:p3≠s:=fun e=>by
  subst e;rw [hs] at h3
  have:=HW.lst.inj (Option.some.inj h3)
  cases this
 generalize put (put G p5 (.lst [.int 0,.int 0,.int 1,.int 2])) s (.lst [.int x1,.bl b,.int c])=G1 at keep f5 fs ⊢
 have pick:∃ (pn:Addr) (L:List Str),ZpC L∧(∃ j:Int,atI [W.int 0,.int 0,.int 1,.int 2] r=some (.int j)∧atI [W.ref p1,.ref p2,.ref p4] j=some (.ref pn))∧G pn=some (.lst (L.map W.str))∧L.length≠3∧L≠[]:=by
  have:r=0∨r=1∨r=2∨r=3:=by omega
  rcases this with rfl | rfl | rfl | rfl
  ·exact ⟨p1,LA,ZtW,⟨0,rfl,rfl⟩,h1,by decide,by decide⟩
  ·exact ⟨p1,LA,ZtW,⟨0,rfl,rfl⟩,h1,by decide,by decide⟩
  ·exact ⟨p2,LB',ZxI,⟨1,rfl,rfl⟩,h2,by decide,by decide⟩
  ·exact ⟨p4,LC',Zyr,⟨2,rfl,rfl⟩,h4,by decide,by decide⟩
 obtain ⟨pn,L,gL,⟨j,ej1,ej2⟩,hn,hl3,hl0⟩:=pick
 show opt (ixW (.ref p5) (.int r) G1) _
 rw [Ze2 f5,ej1,Zaf,Ze2 (keep p3 n3 _ h3),ej2,Zaf]
 have npn:pn≠s:=nsl hn (by rw [List.length_map];exact hl3)
 have npp:pn≠p:=fun e=>by
  subst e;rw [hp] at hn
  have:=HW.lst.inj (Option.some.inj hn)
  cases L with
  | nil=>exact hl0 rfl
  | cons y L=>cases this
 simp only [keep pn npn _ hn]
 refine Zkc (n:=n) (c:=c) hd1 hd2 hc L none none G1 [] x1 c fs (keep p nps _ hp) (keep pn npn _ hn) nps npn npp (by have:=gL.2.2;simp only [List.length_nil];omega) (by show c=c - ((0:Nat):Int);omega) (by show ((0:Nat):Int)≤c+d - 2;omega) ?_
 intro ω G' l2 x' hω f1 f1' f2 f3 f4 f5'
 obtain ⟨u,v,rfl⟩:=hω
 rw [List.nil_append] at f1 f1' f2
 simp only [Zay,L3.Zbq,gB,Zci,Zdg,Zak,Zah,L3.Zaa,L3.Zaj,Zae,gC,Zar,rF,List.getElem?_cons_zero,List.getElem?_cons_succ]
 rw [show ZhU [.ref p] G'=some (.tup (l2.map ZkY)) by unfold ZhU;dsimp only;rw [Zmh f2];rfl,Zaf]
 refine ⟨s,2,x',b,[.int (c - (ofL l2).cnt)],rfl,by decide,by decide,f1,fun r2 x2 _ _=>?_⟩
 have done:∀ o:Bool,(kn=true→o=false)→3≤sizeLine∧Q (.tup [.str "row",.tup (l2.map ZkY),.bl o]) (put G' s (.lst [.int x2,.bl b,.int (c - (ofL l2).cnt)])):=fun o hko=>by
  refine ⟨by decide,?_⟩
  have hl5:ZgX (l2.map (·.1))=true:=Zvg (by have h1:=f4.length_le;have:=gL.2.2;omega)
  have wk:wf (.row (ofL l2) o):=Zyd (gL.1.sublist f4) hl5 fun y hy=>⟨gL.2.1 _ (f4.subset (List.mem_map_of_mem hy)),(f5' y hy).1⟩
  have ek:(Kd.row (ofL l2) o).cnt=1+(ofL l2).cnt:=rfl
  have hdp:(ofL l2).dpr≤(d - 1).toNat:=ZpQ l2 fun y hy=>by have:=(f5' y hy).2.1;omega
  have ed:(Kd.row (ofL l2) o).dpr=1+max 1 (ofL l2).dpr:=rfl
  have hkw:kdt kn (Kd.row (ofL l2) o):=⟨Zqj l2 fun y hy=>(f5' y hy).2.2.1,fun z=>by
   show (!o&&(ofL l2).knw)=true
   rw [hko z,ZpX l2 fun y hy=>(f5' y hy).2.2.2 z];rfl⟩
  have:=q (.row (ofL l2) o) x2 (put G' s (.lst [.int x2,.bl b,.int (c - (ofL l2).cnt)])) wk (by rw [ed];omega) (by rw [ek];omega) (by rw [ek];omega) hkw (by rw [Zab,ek,show c+1 - ((1+(ofL l2).cnt:Nat):Int)=c - (ofL l2).cnt by omega]) fun a h1 h2 u hu=>by
   rw [Zag h1];exact f3 a h1 h2 u (keep a h1 u hu)
  rw [show (Kd.row (ofL l2) o).enc=.tup [.str "row",.tup (l2.map ZkY),.bl o] by rw [← ZmF];rfl] at this
  exact this
 show opt (eqF false (.int r2) (.int 1) (put G' s (.lst [.int x2,.bl b,.int (c - (ofL l2).cnt)]))) _
 rw [show eqF false (.int r2) (.int 1) (put G' s (.lst [.int x2,.bl b,.int (c - (ofL l2).cnt)]))=some (.bl (r2==1)) by unfold eqF eqW;show some (W.bl ((r2==1) != false))=_;cases (r2==1) <;> rfl,Zaf]
 dsimp only
 cases (r2==1) with
 | false=>exact done false (fun _=>rfl)
 | true=>rw [if_pos rfl];exact done (!kn) (fun z=>by rw [z];rfl)
theorem Zfh (T:Tx K mg base a) {m n:Nat} (hm:1≤m) (D:Df P w K mg base "_law_kind" m 4 (Zkp n)):Df P w K mg base "_law_row" (m+1) 4 (ZvX n):=by
 refine mk0 (k:=m) T.ZjH rfl Zje ZuE ((by rintro ws G Q E ⟨s,x,d,c,b,kn,e,_⟩;rw [e];rfl)) (Zos T (Zal T) hm D (Nat.le_refl _)) fun ws G Q E hC q=>?_
 obtain ⟨s,x,d,c,b,kn,rfl,hd1,hd2,hc,hs,q⟩:=q
 unfold Zji
 show Zat (Zbj 4 (Zb1 L3.Zaj)) _ (ZaL Q) [some (.ref s),some (.int d),some (.bl true),some (.bl kn),none,none,none,none] G
 simp only [Zat,Zbj,Zb1,L3.Zaa,L3.Zaj,gC,List.set_cons_zero,List.set_cons_succ]
 refine ⟨(show 0≤sizeLine by decide),fun p ep=>⟨(show 5≤sizeLine by decide),fun p1 e1=>⟨(show 5≤sizeLine by decide),fun p2 e2=>⟨(show 2≤sizeLine by decide),fun p3 e3=>?_⟩⟩⟩⟩
 have nps:p≠s:=Ne.symm (Zaw hs ep)
 have s0:Sub G (put G p (.lst [])):=ZaS ep
 have fp:put G p (.lst []) p=some (.lst []):=Zab
 generalize put G p (.lst [])=G0 at *
 have s1:Sub G0 (put G0 p1 (.lst [.str "a",.str "ab",.str "b",.str "cab",.str "zzzzzzzz"])):=ZaS e1
 have f1:put G0 p1 (.lst [.str "a",.str "ab",.str "b",.str "cab",.str "zzzzzzzz"]) p1=some (.lst (LA.map W.str)):=Zab
 generalize put G0 p1 (.lst [.str "a",.str "ab",.str "b",.str "cab",.str "zzzzzzzz"])=G1 at *
 have s2:Sub G1 (put G1 p2 (.lst [.str "any",.str "in",.str "inside",.str "num",.str "out"])):=ZaS e2
 have f2:put G1 p2 (.lst [.str "any",.str "in",.str "inside",.str "num",.str "out"]) p2=some (.lst (LB'.map W.str)):=Zab
 generalize put G1 p2 (.lst [.str "any",.str "in",.str "inside",.str "num",.str "out"])=G2 at *
 have s3:Sub G2 (put G2 p3 (.lst [.ref p1,.ref p2])):=ZaS e3
 have f3:put G2 p3 (.lst [.ref p1,.ref p2]) p3=some (.lst [.ref p1,.ref p2]):=Zab
 have e3':=e3
 generalize put G2 p3 (.lst [.ref p1,.ref p2])=G3 at s3 f3 ⊢
 simp only [Zbv,gMt,Zae,L3.Zaa,L3.Zaj,Zb1,gC,List.getElem?_cons_zero,List.getElem?_cons_succ]
 refine ⟨Zfe f3,(show 5≤sizeLine by decide),fun p4 e4=>?_⟩
 have s4:Sub G3 (put G3 p4 (.lst [.str "aa",.str "new",.str "other",.str "x",.str "zz"])):=ZaS e4
 have f4:put G3 p4 (.lst [.str "aa",.str "new",.str "other",.str "x",.str "zz"]) p4=some (.lst (LC'.map W.str)):=Zab
 generalize put G3 p4 (.lst [.str "aa",.str "new",.str "other",.str "x",.str "zz"])=G4 at s4 f4 ⊢
 refine ZpS (s4 _ _ f3) (show 2 < sizeLine by decide) ?_
 have S2:Sub G G2:=(s0.trans s1).trans s2
 have n3:∀ {r:Addr} {o:HW},G2 r=some o→r≠p3:=fun h=>Zaw h e3'
 have keep:∀ r o,G2 r=some o→put G4 p3 (.lst ([.ref p1,.ref p2]++[.ref p4])) r=some o:=fun r o h=>by rw [Zag (n3 h)];exact s4 _ _ (s3 _ _ h)
 have n43:p4≠p3:=fun e=>by subst e;rw [f3] at e4;cases e4
 refine ZzF (x:=x) hC hd1 hd2 hc (keep _ _ (S2 _ _ hs)) (keep _ _ (s2 _ _ (s1 _ _ fp))) nps Zab (keep _ _ (s2 _ _ f1)) (keep _ _ f2) (by rw [Zag n43];exact f4) fun k x' G' w1 w2 w3 w4 w5 hG hk=>?_
 refine hC _ _ _ (ZyL ep (fun r h1 h2 u hu=>hk r h1 h2 u (keep _ _ (S2 _ _ hu))) hG) (q k x' w1 w2 w3 w4 w5)
theorem Zul {r:Int} (h0:0≤r) (h6:r < 3):∃ k:Kd,(k=.any∨k=.num∨k=.truth)∧(r < 2→k.knw=true)∧atI [W.tup [.str "num"],W.tup [.str "truth"],W.tup [.str "any"]] r=some k.enc:=by
 have:r=0∨r=1∨r=2:=by omega
 rcases this with e | e | e
 ·exact ⟨.num,.inr (.inl rfl),fun _=>rfl,by rw [e];exact Zc7⟩
 ·exact ⟨.truth,.inr (.inr rfl),fun _=>rfl,by rw [e];exact ZcW⟩
 ·exact ⟨.any,.inl rfl,fun z=>absurd z (by omega),by rw [e];exact Zdz⟩
theorem ZqC {k:Kd} (h:k=.any∨k=.num∨k=.truth):wf k∧k.dpr=1∧k.cnt=1:=by rcases h with rfl | rfl | rfl <;> exact ⟨⟨rfl,rfl⟩,rfl,rfl⟩
abbrev gLf:GS:=(Zat (Zbj 5 (Zb1 (L3.Zaa (L3.Zbq (L3.Zaa (gC (.str "num")) L3.Zaj)) (L3.Zaa (L3.Zbq (L3.Zaa (gC (.str "truth")) L3.Zaj)) (L3.Zaa (L3.Zbq (L3.Zaa (gC (.str "any")) L3.Zaj)) L3.Zaj))))) (Zay (Zak (Zar ixW) (Zae 5) (Zah Zdp XF (L3.Zaa (Zae 0) (L3.Zaa (Zak (Zb6 (fun _ _=>True) fun i j=>i - j) (gC (.int 3)) (gB (rF ZoP) (L3.Zaa (Zae 3) L3.Zaj))) L3.Zaj))))))
theorem Zze {G:Hw} {Q:Kw} {D:Ew} (hD:D.rt=Q) {s:Addr} {x c:Int} {b kn:Bool} {w1 w2 w4:Option W} (hC:Kw.C Q) (hs:G s=some (.lst [.int x,.bl b,.int c])) (q:∀ (k:Kd) (x':Int),(k=.any∨k=.num∨k=.truth)→kdt kn k→Q k.enc (put G s (.lst [.int x',.bl b,.int c]))) :
  gLf D [some (.ref s),w1,w2,some (.bl kn),w4,none] G:=by
 unfold gLf
 simp only [Zat,Zbj,Zay,Zb1,L3.Zbq,Zak,Zah,gB,rF,L3.Zaa,L3.Zaj,Zae,gC,Zar,Zb6,List.set_cons_zero,List.set_cons_succ,List.getElem?_cons_zero,List.getElem?_cons_succ]
 refine ⟨by decide,by decide,by decide,by decide,fun p hp=>?_⟩
 have ei:ZoP [.bl kn] (put G p (.lst [.tup [.str "num"],.tup [.str "truth"],.tup [.str "any"]]))=some (.int (if kn then 1 else 0)):=by cases kn <;> rfl
 rw [ei,Zaf]
 have n:s≠p:=Zaw hs hp
 refine ⟨trivial,s,_,x,b,[.int c],rfl,by cases kn <;> decide,by cases kn <;> decide,by rw [Zag n];exact hs,fun r x1 r0 r1=>?_⟩
 have r3:r < 3:=by cases kn with | true=>have:r < 3 - 1:=r1;omega | false=>have:r < 3 - 0:=r1;omega
 obtain ⟨k,hk,hkk,ek⟩:=Zul r0 r3
 have hkw:kdt kn k:=⟨by rcases hk with rfl | rfl | rfl <;> rfl,fun z=>hkk (by subst z;have:r < 3 - 1:=r1;omega)⟩
 show opt (ixW (.ref p) (.int r) _) _
 rw [Ze2 (by rw [Zag (Ne.symm n)];exact Zab),ek,Zaf,hD]
 refine hC _ _ _ (fun a o h=>?_) (q k x1 hk hkw)
 by_cases ha:a=s
 ·subst ha;rw [Zab] at h ⊢;exact h
 ·rw [Zag ha] at h ⊢;rw [Zag (Zaw h hp)];exact h
theorem Zuh {d c:Int} {kn:Bool} {k:Kd} (hd:1≤d) (h:k=.any∨k=.num∨k=.truth) (hk:kdt kn k):gk d c kn k:=by
 obtain ⟨w,e1,e2⟩:=ZqC h
 exact ⟨w,by omega,by omega,fun _=>e2,hk⟩
theorem ZpD {n:Nat} {spK spR':Spw} {ws:List W} {G:Hw} {Q:Kw} {E:Addr→Hw→Prop} (hC:Kw.C Q) (q:Zkp n ws G Q E) (hK:n=0∨∃ m,n=m+1∧spK=Zkp m∧spR'=ZvX m):ZfY Zdp spK spR' (ZaL Q) (Zbx Zf5 ws) G:=by
 obtain ⟨s,x,d,c,b,kn,rfl,hd1,hd2,hs,q⟩:=q
 unfold ZfY
 show Zat (Zcr _ _ _) _ (ZaL Q) [some (.ref s),some (.int d),some (.bl true),some (.bl kn),none,none] G
 simp only [Zat,Zcr,Zak,Zb6,Zar,Zae,gC,List.getElem?_cons_zero,List.getElem?_cons_succ,ix2 hs,Zaf]
 refine ⟨trivial,ZmK hs ?_⟩
 have h1:put G s (.lst [.int x,.bl b,.int (c - 1)]) s=some (.lst [.int x,.bl b,.int (c - 1)]):=Zab
 simp only [Zbj,Zah,L3.Zaa,L3.Zaj,Zae,gC,List.getElem?_cons_zero,List.getElem?_cons_succ]
 refine ⟨s,8,x,b,[.int (c - 1)],rfl,by decide,by decide,h1,fun r x1 r0 r8=>?_⟩
 rw [Zf7]
 have h2:put G s (.lst [.int x1,.bl b,.int (c - 1)]) s=some (.lst [.int x1,.bl b,.int (c - 1)]):=Zab
 walk_at "pq"
 have leaf:gLf { ZaL Q with nx:=(fun _ _=>False) } [some (.ref s),some (.int d),some (.bl true),some (.bl kn),some (.int r),none] (put G s (.lst [.int x1,.bl b,.int (c - 1)])):=by
  refine Zze (Q:=Q) rfl hC h2 fun k x2 hk hkw=>?_
  rw [Zf7]
  have:=q k x2 (Zuh hd1 hk hkw)
  rw [(ZqC hk).2.2] at this
  exact this
 have gif:∀ {t:GT} {Zdr:GS} {b':Bool},(∀ R:Bool→Hw→Prop,R b' (put G s (.lst [.int x1,.bl b,.int (c - 1)]))→t [some (.ref s),some (.int d),some (.bl true),some (.bl kn),some (.int r),none] (put G s (.lst [.int x1,.bl b,.int (c - 1)])) R)→(b'=false→Zdr (ZaL Q) [some (.ref s),some (.int d),some (.bl true),some (.bl kn),some (.int r),none] (put G s (.lst [.int x1,.bl b,.int (c - 1)]))) →
   Zat (gIf t gLf Zan) Zdr (ZaL Q) [some (.ref s),some (.int d),some (.bl true),some (.bl kn),some (.int r),none] (put G s (.lst [.int x1,.bl b,.int (c - 1)])):=by
  intro t Zdr b' ht hr
  refine ht _ ?_
  cases b' with
  | true=>exact leaf
  | false=>exact hr rfl
 refine gif (b':=decide (d < 2)||decide (c - 1 < 2)||decide (r < 2)) (fun R hR=>?_) fun hb=>?_
 ·simp only [gOr,gTB,Zak,Zdw,Zar,Zae,gC,List.getElem?_cons_zero,List.getElem?_cons_succ]
  by_cases z1:d < 2
  ·simp only [z1,decide_true,if_true,Bool.true_or] at hR ⊢;exact hR
  ·simp only [z1,decide_false,Bool.false_eq_true,if_false,Bool.false_or] at hR ⊢
   rw [ix2 h2,Zaf]
   dsimp only
   by_cases z2:c - 1 < 2
   ·simp only [z2,decide_true,if_true,Bool.true_or] at hR ⊢;exact hR
   ·simp only [z2,decide_false,Bool.false_eq_true,if_false,Bool.false_or] at hR ⊢
    exact hR
 ·simp only [Bool.or_eq_false_iff,decide_eq_false_iff_not,Int.not_lt] at hb
  obtain ⟨⟨b1,b2⟩,b3⟩:=hb
  rcases hK with rfl | ⟨m,rfl,rfl,rfl⟩
  ·exact absurd hd2 (by omega)
  have two:∀ {t:GT} {B Zdr:GS},(∀ R:Bool→Hw→Prop,R false (put G s (.lst [.int x1,.bl b,.int (c - 1)]))→t [some (.ref s),some (.int d),some (.bl true),some (.bl kn),some (.int r),none] (put G s (.lst [.int x1,.bl b,.int (c - 1)])) R)→Zdr (ZaL Q) [some (.ref s),some (.int d),some (.bl true),some (.bl kn),some (.int r),none] (put G s (.lst [.int x1,.bl b,.int (c - 1)])) →
    Zat (gIf t B Zan) Zdr (ZaL Q) [some (.ref s),some (.int d),some (.bl true),some (.bl kn),some (.int r),none] (put G s (.lst [.int x1,.bl b,.int (c - 1)])):=fun ht h1=>ht _ h1
  refine two (fun R hR=>?_) (two (fun R hR=>?_) ?_)
  ·simp only [Zf2,gTB,gNt,Zcj,Zak,Zdw,Zae,gC,List.getElem?_cons_zero,List.getElem?_cons_succ]
   exact Zjq (fun _=>hR) (fun _=>hR)
  ·simp only [Zf2,gTB,gNt,Zcj,Zak,Zar,Zae,gC,List.getElem?_cons_zero,List.getElem?_cons_succ]
   show opt (eqF false (.int r) (.int 4) (put G s (.lst [.int x1,.bl b,.int (c - 1)]))) _
   rw [show eqF false (.int r) (.int 4) (put G s (.lst [.int x1,.bl b,.int (c - 1)]))=some (.bl (r==4)) by unfold eqF eqW;show some (W.bl ((r==4) != false))=_;cases (r==4) <;> rfl,Zaf]
   exact Zjq (fun _=>hR) (fun _=>hR)
  ·simp only [Zay,Zah,L3.Zaa,L3.Zaj,Zae,List.getElem?_cons_zero,List.getElem?_cons_succ]
   refine ⟨s,x1,d,c - 1,b,kn,rfl,by omega,by omega,by omega,h2,fun k x2 w1 w2 w3 w4 w5=>?_⟩
   rw [Zf7]
   have:=q k x2 ⟨w1,w2,by omega,fun z=>absurd z (by omega),w5⟩
   rw [show c - 1+1 - (k.cnt:Int)=c - k.cnt by omega]
   exact this
theorem Za2 (T:Tx K mg base a):∀ n:Nat,Df P w K mg base "_law_kind" (2*n+2) 4 (Zkp n)
 | 0=>mk0 (k:=1) T.Zf0 rfl ZfV ZpI ((by rintro ws G Q E ⟨s,x,d,c,b,kn,e,_⟩;rw [e];rfl)) (Ziu T (Zal T) (Nat.le_refl _) (Zlz (sp:=Zym) (k:=0) T.Zf0 Zo3 fun _ _ _ _ h=>h) (by omega) (Zlz (sp:=Zym) (k:=0) T.ZjH Zo3 fun _ _ _ _ h=>h) (by omega)) fun ws G Q E hC q=>ZpD hC q (.inl rfl)
 | n+1=>mk0 (k:=2*n+3) T.Zf0 rfl ZfV ZpI ((by rintro ws G Q E ⟨s,x,d,c,b,kn,e,_⟩;rw [e];rfl)) (Ziu T (Zal T) (by omega) (Za2 T n) (by omega) (Zfh T (by omega) (Za2 T n)) (by omega)) fun ws G Q E hC q=>ZpD hC q (.inr ⟨n,rfl,rfl,rfl⟩)
def kd8 (k:Kd):Prop:=wf k∧k.cnt≤40∧k.dp≤8
def kd9 (k:Kd):Prop:=wf k∧k.cnt≤40∧k.dpr≤8
def ZzW:Spw:=fun ws G Q _=>∃ (ns:List Int) (i:Int) (kn:Bool),ws=[.rol (ns.map W.int),.int i,.bl true,.bl kn]∧0≤i∧∀ k:Kd,kd9 k→kdt kn k→Q k.enc G
theorem Zxb:Spw.M ZzW:=(by rintro ws G Q Q' E E' h _ ⟨ns,i,kn,h1,h2,q⟩;exact ⟨ns,i,kn,h1,h2,fun k g g2=>h _ _ (q k g g2)⟩)
theorem ZbJ {G:Hw} {p:Addr} {o:HW} (h:G p=none) {G1:Hw} (s:Sub G G1):Sub G (put G1 p o):=fun a u hu=>by rw [Zag (Zaw hu h)];exact s _ _ hu
theorem ZbQ (T:Tx K mg base a):Df P w K mg base "_law_drawn_kind" 17 4 ZzW:=by
 refine mk0 (k:=16) T.Zg4 rfl ZdW Zxb ((by rintro ws G Q E ⟨ns,i,kn,e,_⟩;rw [e];rfl)) (Zg1 T (Zbs T) (by omega) (Zal T) (by omega) (Za2 T 7) (by omega)) fun ws G Q E hC q=>?_
 obtain ⟨ns,i,kn,rfl,h0,q⟩:=q
 unfold Zd6
 show Zat (Zbj 4 _) _ (ZaL Q) [some (.rol (ns.map W.int)),some (.int i),some (.bl true),some (.bl kn),none,none] G
 simp only [Zat,Zbj,Zak,Zah,Zb1,L3.Zaa,L3.Zaj,Zae,gC,List.getElem?_cons_zero,List.getElem?_cons_succ]
 refine ⟨ns,i,rfl,h0,fun p x b hp=>⟨(show 1≤sizeLine by decide),fun p1 e1=>?_⟩⟩
 have s0:Sub G (put G p (.lst [.int x,.bl b])):=ZaS hp
 have f0:put G p (.lst [.int x,.bl b]) p=some (.lst [.int x,.bl b]):=Zab
 generalize put G p (.lst [.int x,.bl b])=G0 at s0 f0 e1 ⊢
 have s1:Sub G0 (put G0 p1 (.lst [.int 9])):=ZaS e1
 have f1:put G0 p1 (.lst [.int 9]) p1=some (.lst [.int 9]):=Zab
 generalize put G0 p1 (.lst [.int 9])=G1 at s1 f1 ⊢
 rw [ZgF (by rintro ⟨⟨_,h⟩,_⟩;cases h)]
 unfold L3.Zfj
 simp only [s1 _ _ f0,f1]
 refine ⟨(show 3≤sizeLine by decide),fun s es=>?_⟩
 have S:Sub G G1:=s0.trans s1
 have hsG:G s=none:=by
  cases z:G s with
  | none=>rfl
  | some u=>rw [S _ _ z] at es;cases es
 have hs:put G1 s (.lst ([.int x,.bl b]++[.int 9])) s=some (.lst [.int x,.bl b,.int 9]):=Zab
 have S2:Sub G (put G1 s (.lst ([.int x,.bl b]++[.int 9]))):=ZbJ hsG S
 generalize put G1 s (.lst ([.int x,.bl b]++[.int 9]))=G2 at hs S2 ⊢
 simp only [List.set_cons_zero,List.set_cons_succ,gIf,gTB,Zak,Zah,Zar,L3.Zaa,L3.Zaj,Zae,gC,List.getElem?_cons_zero,List.getElem?_cons_succ]
 refine ⟨s,6,x,b,[.int 9],rfl,by decide,by decide,hs,fun r x1 r0 r1=>?_⟩
 have h3:put G2 s (.lst [.int x1,.bl b,.int 9]) s=some (.lst [.int x1,.bl b,.int 9]):=Zab
 show opt (eqF false (.int r) (.int 1) (put G2 s (.lst [.int x1,.bl b,.int 9]))) _
 rw [show eqF false (.int r) (.int 1) (put G2 s (.lst [.int x1,.bl b,.int 9]))=some (.bl (r==1)) by unfold eqF eqW;show some (W.bl ((r==1) != false))=_;cases (r==1) <;> rfl,Zaf]
 dsimp only
 cases (r==1) with
 | false =>
  simp only [Bool.false_eq_true,if_false,Zan,Zay,Zah,L3.Zaa,L3.Zaj,Zae,List.getElem?_cons_zero,List.getElem?_cons_succ]
  refine ⟨s,x1,3,9,b,kn,rfl,by decide,by decide,h3,fun k x2 g=>?_⟩
  obtain ⟨u1,u2,u3,_,u5⟩:=g
  exact hC _ _ _ (ZbJ hsG (ZbJ hsG S2)) (q k ⟨u1,by omega,by omega⟩ u5)
 | true =>
  simp only [if_true,Zat,Zcr,Zbj,Zae,gC,List.getElem?_cons_zero,List.getElem?_cons_succ]
  refine ZmK h3 ?_
  simp only [List.set_cons_zero,List.set_cons_succ,Zay,Zah,L3.Zaa,L3.Zaj,Zae,List.getElem?_cons_zero,List.getElem?_cons_succ]
  refine ⟨s,x1,8,30,b,kn,rfl,by decide,by decide,Zab,fun k x2 g=>?_⟩
  obtain ⟨u1,u2,u3,_,u5⟩:=g
  exact hC _ _ _ (ZbJ hsG (ZbJ hsG (ZbJ hsG S2))) (q k ⟨u1,by omega,by omega⟩ u5)
def Fs.find:Fs→Str→Option (Bool×Kd)
 | .nil,_=>none
 | .cons n m k r,x=>if n=x then some (m,k) else r.find x
inductive En where
 | free | nope | told (m:Bool) (k:Kd)
def En.enc:En→W
 | .free=>.tup [.str "free"]
 | .nope=>.tup [.str "none"]
 | .told m k=>.tup [.str (Zek m),k.enc]
def ent (fs:Fs) (o:Bool) (x:Str):En:=match fs.find x with | some (m,k)=>.told m k | none=>if o then .free else .nope
theorem Znb:∀ {fs:Fs} {x:Str} {m:Bool} {k:Kd},fs.find x=some (m,k)→k∈fs.kinds∧x∈fs.names
 | .nil,x,m,k,h=>by cases h
 | .cons n m' k' r,x,m,k,h=>by
  unfold Fs.find at h
  split at h
  ·rename_i e
   cases h
   subst e
   exact ⟨List.mem_cons_self,List.mem_cons_self⟩
  ·obtain ⟨h1,h2⟩:=Znb h
   exact ⟨List.mem_cons_of_mem _ h1,List.mem_cons_of_mem _ h2⟩
theorem Zlh:∀ {fs:Fs} {x:Str},x∈fs.names→∃ m k,fs.find x=some (m,k)
 | .nil,x,h=>by cases h
 | .cons n m' k' r,x,h=>by
  unfold Fs.find
  split
  ·exact ⟨m',k',rfl⟩
  ·rename_i e
   rcases List.mem_cons.mp h with z | z
   ·exact absurd z.symm e
   ·exact Zlh z
theorem Zly (a:Str):ZaA a a=false:=by
 unfold ZaA
 exact decide_eq_false (List.lt_irrefl _)
theorem ZsO {a b c:Str} (h1:ZaA a b=true) (h2:ZaA b c=true):ZaA a c=true:=by
 unfold ZaA at h1 h2 ⊢
 exact decide_eq_true (List.lt_trans (of_decide_eq_true h1) (of_decide_eq_true h2))
theorem ZhX:∀ {ns:List Str},rise ns=true→ns.Pairwise (fun x y=>ZaA x y=true)
 | [],_=>.nil
 | [_],_=>.cons (fun _ h=>by cases h) .nil
 | x::y::r,h=>by
  have h':(ZaA x y&&rise (y::r))=true:=h
  walk_at "pg"
  have ih:=ZhX h'.2
  refine .cons (fun z hz=>?_) ih
  rcases List.mem_cons.mp hz with rfl | hz
  ·exact h'.1
  ·exact ZsO h'.1 ((List.pairwise_cons.mp ih).1 z hz)
theorem Zm1:∀ {xs ys:List Str},xs.Pairwise (fun x y=>ZaA x y=true)→ys.Pairwise (fun x y=>ZaA x y=true)→(∀ x,x∈xs↔x∈ys)→xs=ys
 | [],[],_,_,_=>rfl
 | [],y::ys,_,_,h=>by cases (h y).mpr List.mem_cons_self
 | x::xs,[],_,_,h=>by cases (h x).mp List.mem_cons_self
 | x::xs,y::ys,hx,hy,h=>by
  obtain ⟨a1,a2⟩:=List.pairwise_cons.mp hx
  obtain ⟨b1,b2⟩:=List.pairwise_cons.mp hy
  have e:x=y:=by
   rcases List.mem_cons.mp ((h x).mp List.mem_cons_self) with e | e
   ·exact e
   ·rcases List.mem_cons.mp ((h y).mpr List.mem_cons_self) with e' | e'
    ·exact e'.symm
    ·have:=ZsO (a1 y e') (b1 x e)
     rw [Zly] at this
     cases this
  subst e
  congr 1
  refine Zm1 a2 b2 fun z=>⟨fun hz=>?_,fun hz=>?_⟩
  ·rcases List.mem_cons.mp ((h z).mp (List.mem_cons_of_mem _ hz)) with e | e
   ·subst e;have:=a1 _ hz;rw [Zly] at this;cases this
   ·exact e
  ·rcases List.mem_cons.mp ((h z).mpr (List.mem_cons_of_mem _ hz)) with e | e
   ·subst e;have:=b1 _ hz;rw [Zly] at this;cases this
   ·exact e
theorem ZtH {fs:Fs} {o:Bool} (h:(Kd.row fs o).ok=true):fs.names.Pairwise (fun x y=>ZaA x y=true)∧∀ c∈fs.kinds,c.ok=true:=by
 have h':(rise fs.names&&fs.ok)=true:=h
 walk_at "pg"
 exact ⟨ZhX h'.1,ZfW h'.2⟩
abbrev Zjv:List Str:=["row","name","field"]
theorem Zjs:Zau Zjv ["row","name"] (Zai ZgS):=by walk_at "s"
def Zjc:GS:=(Zat (Zee (Za7 (Zak (Zar ixW) (Zae 0) (gC (.int 1)))) (gNm 2) (gIf (gTB (Zak (Zar (eqF false)) (Zak (Zar ixW) (Zae 2) (gC (.int 0))) (Zae 1))) (Zay (Zbq (Zaa (Zak (Zar ixW) (Zae 2) (gC (.int 1))) (Zaa (Zak (Zar ixW) (Zae 2) (gC (.int 2))) Zaj)))) Zan)) (Zay (Zgi (Zcj (Zak (Zar ixW) (Zae 0) (gC (.int 2)))) (Zbq (Zaa (gC (.str "free")) Zaj)) (Zbq (Zaa (gC (.str "none")) Zaj)))))
theorem Zot {k:Nat} (T:Tx K mg base a):Dn P w K mg base Zjv "entry_of" ZgS k (Zjc):=by
 have hN:=Zjs.nd
 walk_at "z"
abbrev ZjT:List Str:=["row"]
theorem Zjf:Zau ZjT ["row"] (Zai ZgR):=by walk_at "s"
def ZjI:GS:=(Zay (ZbU (Za7 (Zak (Zar ixW) (Zae 0) (gC (.int 1)))) 1 (gNm 0) Zgh (Zak (Zar ixW) (Zae 0) (gC (.int 0)))))
theorem Zou {k:Nat} (T:Tx K mg base a):Dn P w K mg base ZjT "names_of" ZgR k (ZjI):=fun {f cdv A outer s H E} hr =>
 have hu:=ZgQ hr
 have hN:=Zjf.nd
 (Za3 (ZbZ (Zc3 (Nc:=["field"]) rfl (ZoO rfl (by decide +kernel) (by decide +kernel)) (fun _=>rfl) (by walk_at "v") (ZcJ (i:=0) (by decide) rfl rfl) (fun C fp s1 H1=>Zbz) (fun C fp s1 H1=>(by walk_at "v")))))
local macro_rules | `(tactic| walk_at "rd") => `(tactic| ((try dsimp only [Zct,Zcv,ZbI,ZhP,Zat,gIf,Zay,Zbj,Zbv,Zan,Zae,gC,Zak,gTB,Zcj,gNt,Zf2,gOr,Zci,Zjj,Zdg,Zgi,L3.Zbq,Zb1,L3.Zaa,L3.Zaj,Zah,gB,rF,Zar,Zbb,gMt,ZiM,Zb0,Zdw,Zfg,Zb6,L3.Zfj,Zda,gSl,Zd9,Zbu,ZbU,Za7,ZkN,Zee,ZaL,Zbx,List.map_cons,List.map_nil,List.length_cons,List.length_nil,List.cons_append,List.nil_append,List.getElem?_cons_zero,List.getElem?_cons_succ,List.set_cons_zero,List.set_cons_succ,List.replicate,Zeo,tyN,Zaf,Zc7,ZcW,Zdz,ixW,eqF,eqW,ZfZ,ZiZ,ZgP,Zjy,List.getElem?_nil]); (try simp only [Zct,Zcv,ZbI,ZhP,Zat,gIf,Zay,Zbj,Zbv,Zan,Zae,gC,Zak,gTB,Zcj,gNt,Zf2,gOr,Zci,Zjj,Zdg,Zgi,L3.Zbq,Zb1,L3.Zaa,L3.Zaj,Zah,gB,rF,Zar,Zbb,gMt,ZiM,Zb0,Zdw,Zfg,Zb6,L3.Zfj,Zda,gSl,Zd9,Zbu,ZbU,Za7,ZkN,Zee,ZaL,Zbx,List.map_cons,List.map_nil,List.length_cons,List.length_nil,List.cons_append,List.nil_append,List.getElem?_cons_zero,List.getElem?_cons_succ,List.set_cons_zero,List.set_cons_succ,List.replicate,Zeo,tyN,Zaf,Zc7,ZcW,Zdz,ixW,eqF,eqW,ZfZ,ZiZ,ZgP,Zjy,List.getElem?_nil])))
theorem Zf1 (k:Kd) (G:Hw):ixW k.enc (.int 0) G=some (.str k.hd):=by
 obtain ⟨xs,e⟩:=ZuM k
 rw [e];exact Zc7
abbrev Zqe:Spw:=spR (fun (x:Fs×Bool×Str) ws _=>ws=[(Kd.row x.1 x.2.1).enc,.str x.2.2]) fun x=>(ent x.1 x.2.1 x.2.2).enc
theorem ZjS {D:Ew} {G:Hw} {x:Str} {row:W}:∀ (fs:Fs) (o':Option W),(∀ m k,fs.find x=some (m,k)→D.rt (.tup [.str (Zek m),k.enc]) G)→(fs.find x=none→∀ o'',D.nx [some row,some (.str x),o''] G) →
  Zcz yes (gNm 2) (gIf (gTB (Zak (Zar (eqF false)) (Zak (Zar ixW) (Zae 2) (gC (.int 0))) (Zae 1))) (Zay (L3.Zbq (L3.Zaa (Zak (Zar ixW) (Zae 2) (gC (.int 1))) (L3.Zaa (Zak (Zar ixW) (Zae 2) (gC (.int 2))) L3.Zaj)))) Zan) D fs.enc [some row,some (.str x),o'] G
 | .nil,o',_,h=>⟨trivial,h rfl o'⟩
 | .cons n m k r,o',h1,h2=>by
  refine ⟨trivial,?_⟩
  show gIf _ _ Zan _ [some row,some (.str x),some (.tup [.str n,.str (Zek m),k.enc])] G
  walk_at "rd"
  simp only [Option.map_some,Zaf]
  by_cases hx:n=x
  ·subst hx
   simp only [beq_self_eq_true,bne_iff_ne,ne_eq,Bool.true_eq_false,not_false_eq_true,if_true]
   exact ⟨by decide,h1 _ _ (by unfold Fs.find;rw [if_pos rfl])⟩
  ·have e:(n==x)=false:=by simpa using hx
   simp only [e,bne_self_eq_false,Bool.false_eq_true,if_false]
   refine ZjS r _ (fun m' k' hv=>h1 m' k' ?_) (fun hn=>h2 ?_)
   ·unfold Fs.find;rw [if_neg hx];exact hv
   ·unfold Fs.find;rw [if_neg hx];exact hn
theorem Zfc (T:Tx K mg base a):Df P w K mg base "entry_of" 1 2 Zqe:=by
 refine mk0 T.ZoL rfl Zjs ZcD (fun ws G Q E ⟨x,e,_⟩=>by rw [e];rfl) (Zot T) fun ws G Q E hC q=>?_
 obtain ⟨⟨fs,o,x⟩,rfl,q⟩:=q
 dsimp only at q
 unfold Zjc
 simp only [Kd.enc]
 walk_at "rd"
 refine ZjS fs none (fun m k hv=>?_) (fun hn o''=>?_)
 ·unfold ent at q;rw [hv] at q;exact q
 ·unfold ent at q;rw [hn] at q
  simp only [List.getElem?_cons_zero,List.getElem?_cons_succ,Zdz,Zaf]
  cases o with
  | true=>exact ⟨by decide,q⟩
  | false=>exact ⟨by decide,q⟩
abbrev ZuT:Spw:=spL (fun (x:Fs×Bool) ws _=>ws=[(Kd.row x.1 x.2).enc]∧x.1.names.length≤100) fun x=>x.1.names.map W.str
theorem Zfd (T:Tx K mg base a):Df P w K mg base "names_of" 1 1 ZuT:=by
 refine mk0 T.Zoo rfl Zjf Zms (fun ws G Q E ⟨x,⟨e,_⟩,_⟩=>by rw [e];rfl) (Zou T) fun ws G Q E hC q=>?_
 obtain ⟨⟨fs,o⟩,⟨rfl,hl⟩,q⟩:=q
 have hl':fs.enc.length≤100:=by rw [← ZeZ];exact hl
 unfold ZjI
 simp only [Kd.enc]
 walk_at "rd"
 refine Zi2 (f:=Zim) trivial fs.enc none [] (fun x hx Q' q'=>?_) (by simp only [List.length_nil];exact Za0 (by omega)) ?_
 ·obtain ⟨n,b,k,rfl⟩:=ZmA hx
  show Zak (Zar ixW) (Zae 0) (gC (.int 0)) [some (W.tup [.str n,.str (Zek b),k])] _ Q'
  walk_at "rd"
  exact q'
 ·rw [List.nil_append,Zij]
  exact q
theorem ZtT:∀ {fs:Fs},fs.thr=true→∀ c∈fs.kinds,c.thr=true
 | .nil,_,c,hc=>by cases hc
 | .cons n m k r,h,c,hc=>by
  have h':(k.thr&&r.thr)=true:=h
  walk_at "pg"
  rcases List.mem_cons.mp hc with rfl | hc
  ·exact h'.1
  ·exact ZtT h'.2 c hc
theorem ZvU {k c:Kd} (h:wf k) (hc:c∈k.kids):wf c:=by
 refine ⟨ZpO h.1 c hc,?_⟩
 have ht:=h.2
 cases k with
 | to x y =>
  have h':(x.thr&&y.thr)=true:=ht
  walk_at "pg"
  simp only [Kd.kids,List.mem_cons,List.not_mem_nil,or_false] at hc
  rcases hc with rfl | rfl
  ·exact h'.1
  ·exact h'.2
 | box x =>
  simp only [Kd.kids,List.mem_cons,List.not_mem_nil,or_false] at hc
  subst hc;exact ht
 | row fs o =>
  have h':(ZgX fs.names&&fs.thr)=true:=ht
  walk_at "pg"
  exact ZtT h'.2 c hc
 | any=>simp [Kd.kids] at hc
 | num=>simp [Kd.kids] at hc
 | truth=>simp [Kd.kids] at hc
theorem ZnA {fs:Fs} {o:Bool} (h:wf (.row fs o)):fs.names.length < 32:=by
 have h':(ZgX fs.names&&fs.thr)=true:=h.2
 walk_at "pg"
 have:=ZnI h'.1
 omega
theorem ZuY {m m':Bool} (h:m≠m'):(Zek m==Zek m')=false:=by
 cases m <;> cases m' <;> first | exact absurd rfl h | decide
theorem ZqP {fs:Fs} {o:Bool} {x:Str} {m:Bool} {k:Kd} (e:ent fs o x=.told m k):k∈fs.kinds:=by
 unfold ent at e
 cases q:fs.find x with
 | none=>rw [q] at e;cases o <;> cases e
 | some p=>rw [q] at e;cases e;exact (Znb q).1
theorem ZsQ {k:Kd} (h:kd8 k):Zrk k=true:=decide_eq_true h.2
theorem ZsJ {m m':Bool} (h:Zek m=Zek m'):m=m':=by
 by_cases e:m=m'
 ·exact e
 ·have:=ZuY e;rw [h] at this;simp at this
local macro_rules | `(tactic| walk_at "rd") => `(tactic| ((try dsimp only [Zfy,Zct,Zcv,ZbI,ZhP,Zat,gIf,Zay,Zbj,Zbv,Zan,Zae,gC,Zak,gTB,Zcj,gNt,Zf2,gOr,Zci,Zjj,Zdg,Zgi,L3.Zbq,Zb1,L3.Zaa,L3.Zaj,Zah,gB,rF,Zar,Zbb,gMt,ZiM,Zb0,Zdw,Zfg,Zb6,L3.Zfj,Zda,gSl,Zd9,Zbu,ZbU,Za7,ZkN,Zee,ZaL,Zbx,List.map_cons,List.map_nil,List.length_cons,List.length_nil,List.cons_append,List.nil_append,List.getElem?_cons_zero,List.getElem?_cons_succ,List.set_cons_zero,List.set_cons_succ,List.replicate,Zeo,tyN,Zaf,Zc7,ZcW,Zdz,ixW,eqF,eqW,ZfZ,ZiZ,ZgP,Zjy,List.getElem?_nil]); (try simp only [Zfy,Zct,Zcv,ZbI,ZhP,Zat,gIf,Zay,Zbj,Zbv,Zan,Zae,gC,Zak,gTB,Zcj,gNt,Zf2,gOr,Zci,Zjj,Zdg,Zgi,L3.Zbq,Zb1,L3.Zaa,L3.Zaj,Zah,gB,rF,Zar,Zbb,gMt,ZiM,Zb0,Zdw,Zfg,Zb6,L3.Zfj,Zda,gSl,Zd9,Zbu,ZbU,Za7,ZkN,Zee,ZaL,Zbx,List.map_cons,List.map_nil,List.length_cons,List.length_nil,List.cons_append,List.nil_append,List.getElem?_cons_zero,List.getElem?_cons_succ,List.set_cons_zero,List.set_cons_succ,List.replicate,Zeo,tyN,Zaf,Zc7,ZcW,Zdz,ixW,eqF,eqW,ZfZ,ZiZ,ZgP,Zjy,List.getElem?_nil])))
theorem ZtJ {x y:Str} (h:ZaA x y=false) (hne:x≠y):ZaA y x=true:=by
 unfold ZaA at h ⊢
 refine decide_eq_true ?_
 have h1:y.cps.toList≤x.cps.toList:=of_decide_eq_false h
 rcases List.le_iff_lt_or_eq.mp h1 with z | z
 ·exact z
 ·exact absurd (by cases x;cases y;congr 1;exact (Array.toList_inj.mp z).symm) hne
theorem Zw8:∀ (p:Str) (r:List Str),risingS p r=true→(p::r).Nodup→(p::r).Pairwise (fun x y=>ZaA x y=true)
 | p,[],_,_=>.cons (fun _ h=>by cases h) .nil
 | p,x::r,h,hn=>by
  have h':(!ltCps x.cps.toList p.cps.toList&&risingS x r)=true:=h
  simp only [Bool.and_eq_true,Bool.not_eq_true'] at h'
  obtain ⟨n1,n2⟩:=List.nodup_cons.mp hn
  have ih:=Zw8 x r h'.2 n2
  have hpx:ZaA p x=true:=ZtJ (by rw [← h'.1,ltCps_eq];rfl) fun e=>n1 (by rw [e];exact List.mem_cons_self)
  refine .cons (fun z hz=>?_) ih
  rcases List.mem_cons.mp hz with rfl | hz
  ·exact hpx
  ·exact ZsO hpx ((List.pairwise_cons.mp ih).1 z hz)
open Classical in
noncomputable def ZAS (fs gs:Fs):List Str:=if h:∃ zs:List Str,zs.Pairwise (fun x y=>ZaA x y=true)∧∀ x,x∈zs↔x∈fs.names∨x∈gs.names then choose h else []
def ZoN:List (Str×Option (List Str))→Option (List Str)
 | []=>none
 | (x,some p)::_=>some (x::p)
 | (_,none)::r=>ZoN r
def clE (f:Kd→Kd→Option (List Str)):En→En→Option (List Str)
 | .free,_=>none
 | _,.free=>none
 | .nope,.nope=>none
 | .told m k,.told m' k'=>if m=m' then f k k' else some []
 | _,_=>some []
noncomputable def cl:Nat→Kd→Kd→Option (List Str)
 | 0,_,_=>none
 | _+1,.any,_=>none
 | _+1,_,.any=>none
 | _+1,.num,.num=>none
 | _+1,.truth,.truth=>none
 | n+1,.to a b,.to c d=>ZoN [("in",cl n a c),("out",cl n b d)]
 | n+1,.box a,.box b=>ZoN [("inside",cl n a b)]
 | n+1,.row fs o,.row gs p=>ZoN ((ZAS fs gs).map fun x=>(x,clE (cl n) (ent fs o x) (ent gs p x)))
 | _+1,_,_=>some []
def pW:Option (List Str)→W
 | none=>.non
 | some l=>.tup (l.map W.str)
theorem ZnP {n:Nat}:∀ {us:List (Str×Option (List Str))} {p:List Str},(∀ u∈us,∀ q,u.2=some q→q.length≤n)→ZoN us=some p→p.length≤n+1
 | (x,some q)::_,p,h,e=>by
  cases e
  have:=h _ List.mem_cons_self q rfl
  simp only [List.length_cons];omega
 | (_,none)::r,p,h,e=>ZnP (us:=r) (fun u hu=>h u (List.mem_cons_of_mem _ hu)) e
abbrev ZnH:List Str:=["step","path"]
theorem Znh:Zau ZnH ["step","path"] (Zai ZkK):=by walk_at "s"
def ZnV:GS:=(Zay (Zgi (gTB (Zak (Zar (isF false)) (Zae 1) (gC .non))) (gC .non) (Zak (Zgc) (Zbq (Zaa (Zae 0) Zaj)) (Zae 1))))
theorem Zsv {k:Nat} (T:Tx K mg base a):Dn P w K mg base ZnH "behind" ZkK k (ZnV):=by
 have hN:=Znh.nd
 walk_at "z"
abbrev ZlJ:List Str:=["value"]
theorem Zlu:Zau ZlJ ["value"] (Zai Zh5):=by walk_at "s"
def Zlj:GS:=(Zat (gIf (Zcj (Zbb "bool" (Zae 0))) (Zay (gC (.str "truth"))) Zan) (Zay (Zgi (Zcj (Zbb "int" (Zae 0))) (gC (.str "num")) (gC (.str "row")))))
theorem Zqr {k:Nat} (T:Tx K mg base a):Dn P w K mg base ZlJ "head_of" Zh5 k (Zlj):=by
 have hN:=Zlu.nd
 walk_at "z"
abbrev ZdO:List Str:=["fields","name","entry"]
theorem Zd3:Zau ZdO ["fields","name","entry"] (Zai ZcA):=by walk_at "s"
def Zd5 (Zbh:Spw):GS:=(Zat (gIf (gTB (Zak (Zar (inK true)) (Zae 1) (Zae 0))) (Zay (Zgi (gTB (Zak (Zar (eqF false)) (Zak (Zar ixW) (Zae 2) (gC (.int 0))) (gC (.str "must")))) (Zbq Zaj) (gC .non))) Zan) (Zat (gIf (gTB (Zak (Zar (eqF false)) (Zak (Zar ixW) (Zae 2) (gC (.int 0))) (gC (.str "none")))) (Zay (Zbq Zaj)) Zan) (Zay (Zgi (gTB (Zak (Zar (eqF false)) (Zak (Zar ixW) (Zae 2) (gC (.int 0))) (gC (.str "free")))) (gC .non) (Zah Zbh XF (Zaa (Zak (Zar ixK) (Zae 0) (Zae 1)) (Zaa (Zak (Zar ixW) (Zae 2) (gC (.int 1))) Zaj)))))))
theorem ZgU {k:Nat} (T:Tx K mg base a) {ZbM:Nat} {Zbh:Spw} (Zmx:Df P w K mg base "misfit_of" ZbM 2 Zbh) (Zmt:ZbM≤k):Dn P w K mg base ZdO "misfit_of_field" ZcA k (Zd5 Zbh):=by
 have hN:=Zd3.nd
 walk_at "z"
abbrev ZeJ:List Str:=["fields","row","name","found"]
theorem ZeX:Zau ZeJ ["fields","row"] (Zai Zc9):=by walk_at "s"
def ZeD (Zd8:Spw) (Zec:Spw) (ZbB:Spw) (Zgx:Spw):GS:=(Zat (Zee (Za7 (ZjX (Zae 0) (Zah Zd8 XF (Zaa (Zae 1) Zaj)))) (gNm 2) (Zat (Zbj 3 (Zah ZbB XF (Zaa (Zae 0) (Zaa (Zae 2) (Zaa (Zah Zec XF (Zaa (Zae 1) (Zaa (Zae 2) Zaj))) Zaj))))) (gIf (gTB (Zak (Zar (isF true)) (Zae 3) (gC .non))) (Zay (Zah Zgx XF (Zaa (Zae 2) (Zaa (Zae 3) Zaj)))) Zan))) (Zay (gC .non)))
theorem Ziz {k:Nat} (T:Tx K mg base a) {Zfd:Nat} {Zd8:Spw} (Zv9:Df P w K mg base "names_of" Zfd 1 Zd8) (Zwc:Zfd≤k) {Zfc:Nat} {Zec:Spw} (Zv2:Df P w K mg base "entry_of" Zfc 2 Zec) (Zv6:Zfc≤k) {ZbX:Nat} {ZbB:Spw} (Zom:Df P w K mg base "misfit_of_field" ZbX 3 ZbB) (Zn9:ZbX≤k) {ZhO:Nat} {Zgx:Spw} (ZyV:Df P w K mg base "behind" ZhO 2 Zgx) (ZyW:ZhO≤k):Dn P w K mg base ZeJ "misfit_of_row" Zc9 k (ZeD Zd8 Zec ZbB Zgx):=by
 have hN:=ZeX.nd
 walk_at "z"
abbrev ZiH:List Str:=["value","kind"]
theorem Zh4:Zau ZiH ["value","kind"] (Zai Zge):=by walk_at "s"
def ZiG (Zfb:Spw) (Zca:Spw):GS:=(Zat (gIf (gTB (Zak (Zar (eqF false)) (Zak (Zar ixW) (Zae 1) (gC (.int 0))) (gC (.str "any")))) (Zay (gC .non)) Zan) (Zat (gIf (gTB (Zak (Zar (eqF true)) (Zah Zfb XF (Zaa (Zae 0) Zaj)) (Zak (Zar ixW) (Zae 1) (gC (.int 0))))) (Zay (Zbq Zaj)) Zan) (Zay (Zgi (gTB (Zak (Zar (eqF false)) (Zak (Zar ixW) (Zae 1) (gC (.int 0))) (gC (.str "row")))) (Zah Zca XF (Zaa (gB (ZlX) (Zaa (Zae 0) Zaj)) (Zaa (Zae 1) Zaj))) (gC .non)))))
theorem ZmX {k:Nat} (T:Tx K mg base a) {Zgs:Nat} {Zfb:Spw} (Zws:Df P w K mg base "head_of" Zgs 1 Zfb) (ZyO:Zgs≤k) {Zcu:Nat} {Zca:Spw} (ZqY:Df P w K mg base "misfit_of_row" Zcu 2 Zca) (ZoU:Zcu≤k):Dn P w K mg base ZiH "misfit_of" Zge k (ZiG Zfb Zca):=by
 have hN:=Zh4.nd
 walk_at "z"
abbrev Zm3:List Str:=["value","kind"]
theorem ZnS:Zau Zm3 ["value","kind"] (Zai ZkS):=by walk_at "s"
def Zn2 (ZbC:Spw) (ZcL:Spw) (Zbh:Spw):GS:=(Zat (Zbv (Zah ZbC XF (Zaa (Zae 1) Zaj))) (Zat (Zbv (Zah ZcL XF (Zaa (Zae 0) Zaj))) (Zay (Zah Zbh XF (Zaa (Zae 0) (Zaa (Zae 1) Zaj))))))
theorem Zsm {k:Nat} (T:Tx K mg base a) {ZbS:Nat} {ZbC:Spw} (Zoy:Df P w K mg base "check_data_kind" ZbS 1 ZbC) (Zoh:ZbS≤k) {Zc8:Nat} {ZcL:Spw} (ZsB:Df P w K mg base "check_value" Zc8 1 ZcL) (ZsS:Zc8≤k) {ZbM:Nat} {Zbh:Spw} (Zmx:Df P w K mg base "misfit_of" ZbM 2 Zbh) (Zmt:ZbM≤k):Dn P w K mg base Zm3 "misfit" ZkS k (Zn2 ZbC ZcL Zbh):=by
 have hN:=ZnS.nd
 walk_at "z"
abbrev Ztx:List Str:=["value","kind"]
theorem Ztp:Zau Ztx ["value","kind"] (Zai Zrh):=by walk_at "s"
def Zs8 (Zcl:Spw):GS:=(Zay (Zak (Zar (isF false)) (Zah Zcl XF (Zaa (Zae 0) (Zaa (Zae 1) Zaj))) (gC .non)))
theorem Zwg {k:Nat} (T:Tx K mg base a) {Zdn:Nat} {Zcl:Spw} (ZrO:Df P w K mg base "misfit" Zdn 2 Zcl) (Zrx:Zdn≤k):Dn P w K mg base Ztx "fits" Zrh k (Zs8 Zcl):=by
 have hN:=Ztp.nd
 walk_at "z"
def En.hd:En→Str
 | .free=>"free"
 | .nope=>"none"
 | .told m _=>Zek m
theorem Ztv (e:En) (G:Hw):ixW e.enc (.int 0) G=some (.str e.hd):=by cases e <;> exact Zc7
theorem ZoX (m:Bool):Zek m≠"free"∧Zek m≠"none"∧(("free":Str)≠"none"):=by cases m <;> decide +kernel
theorem ZqS {k:Kd} (h:k.hd="row"):∃ fs o,k=.row fs o:=by
 cases k <;> first | exact ⟨_,_,rfl⟩ | exact absurd h (by simp only [Kd.hd];decide)
abbrev ZkP:Spw:=spR (fun (x:Str×Option (List Str)) ws _=>ws=[.str x.1,pW x.2]∧∀ p,x.2=some p→p.length≤100) fun x=>pW (x.2.map (x.1::·))
theorem ZhO (T:Tx K mg base a):Df P w K mg base "behind" 1 2 ZkP:=by
 refine mk0 T.ZsR rfl Znh ZcD (fun ws G Q E ⟨x,⟨e,_⟩,_⟩=>by rw [e];rfl) (Zsv T) fun ws G Q E hC q=>?_
 obtain ⟨⟨s,c⟩,⟨rfl,hl⟩,q⟩:=q
 dsimp only at hl q
 unfold ZnV
 show Zay _ (ZaL Q) [some (.str s),some (pW c)] G
 cases c with
 | none=>exact q
 | some p =>
  simp only [Zay,Zgi,gTB,Zak,Zar,Zae,gC,pW,List.getElem?_cons_zero,List.getElem?_cons_succ,isF,ZpK,Zaf,show (false != false)=false from rfl,Bool.false_eq_true,if_false,L3.Zbq,L3.Zaa,L3.Zaj,ZaL]
  refine ⟨(show 1≤sizeLine by decide),?_⟩
  rw [ZbI]
  have:=hl p rfl
  exact ⟨by simp only [List.length_cons,List.length_nil,List.length_map];exact Za0 (by omega),q⟩
theorem ZoC {i j:Nat} {ge:GE} {D:Ew} {ω:Sw} {G:Hw} {c:Option (List Str)} {s:Str} (hj:ω[j]?=some (some (.str s))) (hij:j≠i) (hi:i < ω.length) (hn:∀ p,c=some p→p.length≤100) (hg:∀ Q:Kw,Q (pW c) G→ge ω G Q) (h1:c=none→D.nx (ω.set i (some .non)) G) (h2:∀ p,c=some p→D.rt (pW (some (s::p))) G) :
  Zat (Zbj i ge) (gIf (gTB (Zak (Zar (isF true)) (Zae i) (gC .non))) (Zay (Zah ZkP XF (L3.Zaa (Zae j) (L3.Zaa (Zae i) L3.Zaj)))) Zan) D ω G:=by
 refine hg _ ?_
 have gi:∀ r:W,(ω.set i (some r))[i]?=some (some r):=fun r=>by rw [List.getElem?_set_self hi]
 have gj:∀ r:W,(ω.set i (some r))[j]?=some (some (.str s)):=fun r=>by rw [List.getElem?_set_ne (Ne.symm hij)];exact hj
 simp only [gIf,gTB,Zak,Zar,Zae,gi,gj,gC,isF,Zaf,Zay,Zah,L3.Zaa,L3.Zaj,Zan]
 cases c with
 | none=>exact h1 rfl
 | some p =>
  have hl:=hn p rfl
  simp only [pW,ZpK,show (false != true)=true from rfl,if_true]
  exact ⟨(s,some p),⟨rfl,fun p' e=>by cases e;exact hl⟩,h2 p rfl⟩
theorem ZtG (x:Str):∀ zs:List Str,zs.Pairwise (fun x y=>ZaA x y=true)→∃ ys:List Str,ys.Pairwise (fun x y=>ZaA x y=true)∧∀ y,y∈ys↔y=x∨y∈zs
 | [],_=>⟨[x],.cons (fun _ h=>by cases h) .nil,fun y=>by simp⟩
 | z::zs,h=>by
  obtain ⟨h1,h2⟩:=List.pairwise_cons.mp h
  by_cases e:x=z
  ·exact ⟨z::zs,h,fun y=>by subst e;simp⟩
  ·cases hl:ZaA x z with
   | true =>
    refine ⟨x::z::zs,.cons (fun y hy=>?_) h,fun y=>by simp⟩
    walk_at "ps"
    ·exact hl
    ·exact ZsO hl (h1 y hy)
   | false =>
    obtain ⟨ys,p,m⟩:=ZtG x zs h2
    refine ⟨z::ys,.cons (fun y hy=>?_) p,fun y=>?_⟩
    ·rcases (m y).mp hy with rfl | hy
     ·exact ZtJ hl e
     ·exact h1 y hy
    ·rw [List.mem_cons,m,List.mem_cons]
     constructor
     ·rintro (z | z | z)
      ·exact .inr (.inl z)
      ·exact .inl z
      ·exact .inr (.inr z)
     ·rintro (z | z | z)
      ·exact .inr (.inl z)
      ·exact .inl z
      ·exact .inr (.inr z)
theorem Zny:∀ xs:List Str,∃ ys:List Str,ys.Pairwise (fun x y=>ZaA x y=true)∧∀ y,y∈ys↔y∈xs
 | []=>⟨[],.nil,fun _=>Iff.rfl⟩
 | x::xs=>by
  obtain ⟨ys,p,m⟩:=Zny xs
  obtain ⟨zs,p',m'⟩:=ZtG x ys p
  exact ⟨zs,p',fun y=>by rw [m',m,List.mem_cons]⟩
theorem ZhT {k:Kd} {t:Str} {e:GE} {Zdr:GS} {D:Ew} {ω:Sw} {G:Hw} (h1:ω[1]?=some (some k.enc)) (h:if k.hd=t then e ω G D.rt else Zdr D ω G) :
  Zat (gIf (gTB (Zak (Zar (eqF false)) (Zak (Zar ixW) (Zae 1) (gC (.int 0))) (gC (.str t)))) (Zay e) Zan) Zdr D ω G:=by
 simp only [Zat,gIf,gTB,Zak,Zar,Zae,h1,gC,Zay,Zan]
 rw [Zf1]
 simp only [Zaf,eqF,eqW,Option.map_some]
 by_cases z:k.hd=t
 ·rw [if_pos z] at h
  simp only [z,beq_self_eq_true,show (true != false)=true from rfl,if_true]
  exact h
 ·rw [if_neg z] at h
  have:(k.hd==t)=false:=by simpa using z
  simp only [this,bne_self_eq_false,Bool.false_eq_true,if_false]
  exact h
abbrev S2 (x:Int) (b:Bool) (r:List W):HW:=.lst (.int x::.bl b::r)
mutual
def plW:W→Bool
 | .str _=>true
 | .bl _=>true
 | .tup xs=>plL xs
 | _=>false
def plL:List W→Bool
 | []=>true
 | x::xs=>plW x&&plL xs
end
theorem ZnW {x:W} {xs:List W} (h:plL (x::xs)=true):plW x=true∧plL xs=true:=Bool.and_eq_true_iff.mp h
theorem ZrL {x y:W} {xs ys:List W} {a b:Bool} (h1:eqD x y=some a) (h2:ZhH xs ys=some b):ZhH (x::xs) (y::ys)=some (a&&b):=by
 show (match eqD x y,ZhH xs ys with | some a,some b=>some (a&&b) | _,_=>none)=_
 rw [h1,h2]
mutual
theorem plD:∀ (x y:W),plW x=true→plW y=true→∃ b,eqD x y=some b∧(b=true↔x=y)
 | .str s,.str t,_,_=>⟨s==t,rfl,by simp⟩
 | .str s,.bl t,_,_=>⟨false,rfl,by simp⟩
 | .str s,.tup t,_,_=>⟨false,rfl,by simp⟩
 | .bl s,.str t,_,_=>⟨false,rfl,by simp⟩
 | .bl s,.bl t,_,_=>⟨s==t,rfl,by simp⟩
 | .bl s,.tup t,_,_=>⟨false,rfl,by simp⟩
 | .tup s,.str t,_,_=>⟨false,rfl,by simp⟩
 | .tup s,.bl t,_,_=>⟨false,rfl,by simp⟩
 | .tup s,.tup t,h,h'=>by
  obtain ⟨b,e,i⟩:=ZAe s t h h'
  exact ⟨b,e,by rw [i];simp⟩
 | .str _,.non,_,h=>by cases h
 | .str _,.int _,_,h=>by cases h
 | .str _,.rol _,_,h=>by cases h
 | .str _,.ref _,_,h=>by cases h
 | .bl _,.non,_,h=>by cases h
 | .bl _,.int _,_,h=>by cases h
 | .bl _,.rol _,_,h=>by cases h
 | .bl _,.ref _,_,h=>by cases h
 | .tup _,.non,_,h=>by cases h
 | .tup _,.int _,_,h=>by cases h
 | .tup _,.rol _,_,h=>by cases h
 | .tup _,.ref _,_,h=>by cases h
 | .non,_,h,_=>by cases h
 | .int _,_,h,_=>by cases h
 | .rol _,_,h,_=>by cases h
 | .ref _,_,h,_=>by cases h
theorem ZAe:∀ (xs ys:List W),plL xs=true→plL ys=true→∃ b,ZhH xs ys=some b∧(b=true↔xs=ys)
 | [],[],_,_=>⟨true,rfl,by simp⟩
 | [],_::_,_,_=>⟨false,rfl,by simp⟩
 | _::_,[],_,_=>⟨false,rfl,by simp⟩
 | x::xs,y::ys,h,h'=>by
  obtain ⟨h1,h2⟩:=ZnW h
  obtain ⟨h3,h4⟩:=ZnW h'
  obtain ⟨b,e,i⟩:=plD x y h1 h3
  obtain ⟨c,e',i'⟩:=ZAe xs ys h2 h4
  exact ⟨b&&c,ZrL e e',by rw [Bool.and_eq_true,i,i',List.cons.injEq]⟩
end
mutual
theorem Zjr:∀ k:Kd,plW k.enc=true
 | .any=>rfl
 | .num=>rfl
 | .truth=>rfl
 | .to x y=>by
  have h1:=Zjr x
  have h2:=Zjr y
  show (true&&(plW x.enc&&(plW y.enc&&true)))=true
  rw [h1,h2];rfl
 | .box x=>by
  have h1:=Zjr x
  show (true&&(plW x.enc&&true))=true
  rw [h1];rfl
 | .row fs o=>by
  have h1:=ZpB fs
  show (true&&(plL fs.enc&&(true&&true)))=true
  rw [h1];rfl
theorem ZpB:∀ fs:Fs,plL fs.enc=true
 | .nil=>rfl
 | .cons n m k r=>by
  have h1:=Zjr k
  have h2:=ZpB r
  show ((true&&(true&&(plW k.enc&&true)))&&plL r.enc)=true
  rw [h1,h2];rfl
end
theorem ZjJ {k l:Kd} (h:k.enc=l.enc):k.hd=l.hd:=by
 have h1:=Zf1 k (fun _=>none)
 rw [h,Zf1] at h1
 exact (W.str.inj (Option.some.inj h1)).symm
mutual
theorem ZiF:∀ {k l:Kd},k.enc=l.enc→k=l
 | .any,l,h=>by
  cases l with
  | any=>rfl
  | _=>have:=ZjJ h;simp only [Kd.hd] at this;exact absurd this (by decide)
 | .num,l,h=>by
  cases l with
  | num=>rfl
  | _=>have:=ZjJ h;simp only [Kd.hd] at this;exact absurd this (by decide)
 | .truth,l,h=>by
  cases l with
  | truth=>rfl
  | _=>have:=ZjJ h;simp only [Kd.hd] at this;exact absurd this (by decide)
 | .to x y,l,h=>by
  cases l with
  | to x' y' =>
   have h':W.tup [.str "to",x.enc,y.enc]=W.tup [.str "to",x'.enc,y'.enc]:=h
   injection h' with h'
   injection h' with _ h'
   injection h' with h1 h'
   injection h' with h2 _
   rw [ZiF h1,ZiF h2]
  | _=>have:=ZjJ h;simp only [Kd.hd] at this;exact absurd this (by decide)
 | .box x,l,h=>by
  cases l with
  | box x' =>
   have h':W.tup [.str "box",x.enc]=W.tup [.str "box",x'.enc]:=h
   injection h' with h'
   injection h' with _ h'
   injection h' with h1 h'
   rw [ZiF h1]
  | _=>have:=ZjJ h;simp only [Kd.hd] at this;exact absurd this (by decide)
 | .row fs o,l,h=>by
  cases l with
  | row gs p =>
   have h':W.tup [.str "row",.tup fs.enc,.bl o]=W.tup [.str "row",.tup gs.enc,.bl p]:=h
   injection h' with h'
   injection h' with _ h'
   injection h' with h1 h'
   injection h' with h2 _
   injection h1 with h1
   injection h2 with h2
   rw [Zno h1,h2]
  | _=>have:=ZjJ h;simp only [Kd.hd] at this;exact absurd this (by decide)
theorem Zno:∀ {fs gs:Fs},fs.enc=gs.enc→fs=gs
 | .nil,gs,h=>by
  cases gs with
  | nil=>rfl
  | cons n m k r=>exact absurd (show ([]:List W)=_::_ from h) (by simp)
 | .cons n m k r,gs,h=>by
  cases gs with
  | nil=>exact absurd (show _::_=([]:List W) from h) (by simp)
  | cons n' m' k' r' =>
   have h':W.tup [.str n,.str (Zek m),k.enc]::r.enc=W.tup [.str n',.str (Zek m'),k'.enc]::r'.enc:=h
   injection h' with h1 h2
   injection h1 with h1
   injection h1 with a1 h1
   injection h1 with a2 h1
   injection h1 with a3 _
   injection a1 with a1
   injection a2 with a2
   rw [a1,ZsJ a2,ZiF a3,Zno h2]
end
mutual
theorem Zle:∀ k:Kd,dpW k.enc≤3*k.dp
 | .any=>by show 1≤3*1;omega
 | .num=>by show 1≤3*1;omega
 | .truth=>by show 1≤3*1;omega
 | .to x y=>by have:=Zle x;have:=Zle y;show max 0 (max (dpW x.enc) (max (dpW y.enc) 0))+1≤3*(1+max x.dp y.dp);omega
 | .box x=>by have:=Zle x;show max 0 (max (dpW x.enc) 0)+1≤3*(1+x.dp);omega
 | .row fs o=>by have:=ZpL fs;show max 0 (max (L3.dpL fs.enc+1) (max 0 0))+1≤3*(1+fs.dp);omega
theorem ZpL:∀ fs:Fs,L3.dpL fs.enc≤3*fs.dp+1
 | .nil=>Nat.zero_le _
 | .cons n m k r=>by
  have:=Zle k
  have:=ZpL r
  show max (max 0 (max 0 (max (dpW k.enc) 0))+1) (L3.dpL r.enc)≤3*max k.dp r.dp+1;omega
end
theorem Znv (k:Kd):∃ xs,k.enc=.tup xs:=by cases k <;> exact ⟨_,rfl⟩
abbrev Zd4:List Str:=["thing"]
theorem Zd1:Zau Zd4 ["thing"] (Zai ZcC):=by walk_at "s"
def Zd2 (Ze8:Spw):GS:=(gIf (gNt (Zcj (Zah Ze8 XF (Zaa (Zae 0) Zaj)))) Znj Zan)
theorem Zg5 {k:Nat} (T:Tx K mg base a) {ZgK:Nat} {Ze8:Spw} (Zyh:Df P w K mg base "is_data" ZgK 1 Ze8) (ZxY:ZgK≤k):Dn P w K mg base Zd4 "check_data_kind" ZcC k (Zd2 Ze8):=by
 have hN:=Zd1.nd
 walk_at "z"
abbrev ZeR:List Str:=["value"]
theorem Zex:Zau ZeR ["value"] (Zai Zdj):=by walk_at "s"
def ZeO:GS:=(Zay (Zgi (Zcj (Zbb "tuple" (Zae 0))) (ZbU (Za7 (Zae 0)) 1 (gNm 0) Zgh (Zak (Zar ixW) (Zae 0) (gC (.int 1)))) (Zb1 Zaj)))
theorem ZiQ {k:Nat} (T:Tx K mg base a):Dn P w K mg base ZeR "values_within" Zdj k (ZeO):=fun {f cdv A outer s H E} hr =>
 have hu:=ZgQ hr
 have hN:=Zex.nd
 (Za3 (ZbZ (Zey (by walk_at "v") (Zc3 (Nc:=["field"]) rfl (ZoO rfl (by decide +kernel) (by decide +kernel)) (fun _=>rfl) (by walk_at "v") (ZcJ (i:=0) (by decide) rfl rfl) (fun C fp s1 H1=>Zbz) (fun C fp s1 H1=>(by walk_at "v"))) (by walk_at "v"))))
abbrev Zeq:List Str:=["thing"]
theorem Zet:Zau Zeq ["thing"] (Zai ZcY):=by walk_at "s"
def Zen (ZbT:Spw):GS:=(Zay (Zci (Zbb "tuple" (Zae 0)) (Zci (Zak (Zar (eqF false)) (gB (rF ZfZ) (Zaa (Zae 0) Zaj)) (gC (.int 2))) (Zah ZbT XF (Zaa (Zak (Zar ixW) (Zae 0) (gC (.int 0))) Zaj)))))
theorem ZhG {k:Nat} (T:Tx K mg base a) {ZcU:Nat} {ZbT:Spw} (ZpM:Df P w K mg base "is_name" ZcU 1 ZbT) (Zpm:ZcU≤k):Dn P w K mg base Zeq "is_value_field" ZcY k (Zen ZbT):=by
 have hN:=Zet.nd
 walk_at "z"
abbrev Zer:List Str:=["thing"]
theorem Zes:Zau Zer ["thing"] (Zai Zc1):=by walk_at "s"
def Zem (ZbV:Spw) (Za9:Spw):GS:=(Zat (gIf (Zcj (Zbb "int" (Zae 0))) (Zay (gC (.bl true))) Zan) (Zat (gIf (gNt (Zcj (Zbb "tuple" (Zae 0)))) (Zay (gC (.bl false))) Zan) (Zay (Zci (gB (rF ZgP) (Zaa (ZbU (Za7 (Zae 0)) 1 (gNm 0) Zgh (Zah ZbV XF (Zaa (Zae 0) Zaj))) Zaj)) (Zah Za9 XF (Zaa (ZbU (Za7 (Zae 0)) 1 (gNm 0) Zgh (Zak (Zar ixW) (Zae 0) (gC (.int 0)))) Zaj))))))
theorem ZhF {k:Nat} (T:Tx K mg base a) {Zb9:Nat} {ZbV:Spw} (ZoR:Df P w K mg base "is_value_field" Zb9 1 ZbV) (ZoQ:Zb9≤k) {Zbr:Nat} {Za9:Spw} (ZeG:Df P w K mg base "names_rise" Zbr 1 Za9) (ZeI:Zbr≤k):Dn P w K mg base Zer "has_value_form" Zc1 k (Zem ZbV Za9):=fun {f cdv A outer s H E} hr =>
 have hu:=ZgQ hr
 have hN:=Zes.nd
 (Zam (by walk_at "v") (Zam (by walk_at "v") (Za3 (ZbZ (ZdP (ZaO ZcV (ZbN rfl) rfl T.Ze6 (by decide) rfl rfl rfl (ZaG rfl (Zc3 (Nc:=["part"]) rfl (ZoO rfl (by decide +kernel) (by decide +kernel)) (fun _=>rfl) (by walk_at "v") (ZcJ (i:=0) (by decide) rfl rfl) (fun C fp s1 H1=>Zbz) (fun C fp s1 H1=>(by walk_at "v"))) Zby)) (ZdR (Zco ZeG (hr.mono ZeI) rfl Zev rfl rfl rfl (ZaG rfl (Zc3 (Nc:=["part"]) rfl (ZoO rfl (by decide +kernel) (by decide +kernel)) (fun _=>rfl) (by walk_at "v") (ZcJ (i:=0) (by decide) rfl rfl) (fun C fp s1 H1=>Zbz) (fun C fp s1 H1=>(by walk_at "v"))) Zby))))))))
abbrev Zgq:List Str:=["thing"]
theorem ZgO:Zau Zgq ["thing"] (Zai Zei):=by walk_at "s"
def Zgt (mg:Str→Option Value) (ZaK:Spw) (ZaQ:Spw) (Za8:Spw):GS:=(gIf (gNt (Zcj (Zah Za8 XF (Zaa (Zae 0) (Zaa (gC (.ref (fAt mg "has_value_form"))) (Zaa (gC (.ref (fAt mg "values_within"))) (Zaa (gC (.int 100)) (Zaa (gC (.int 10)) Zaj)))))))) Znj Zan)
theorem ZjY {k:Nat} (T:Tx K mg base a) {ZaR:Nat} {ZaK:Spw} (Zc0:Df P w K mg base "has_value_form" ZaR 1 ZaK) (Zeu:ZaR≤k) {ZaW:Nat} {ZaQ:Spw} (Zdf:Df P w K mg base "values_within" ZaW 1 ZaQ) (Ze3:ZaW≤k) {ZbH:Nat} {Za8:Spw} (ZeQ:Df P w K mg base "is_made_of" ZbH 5 Za8) (ZeT:ZbH≤k):Dn P w K mg base Zgq "check_value" Zei k (Zgt mg ZaK ZaQ Za8):=fun {f cdv A outer s H E} hr =>
 have hu:=ZgQ hr
 have hN:=ZgO.nd
 (Za3 (Zgf (ZdS (ZdQ (fun _=>rfl) (Zco ZeQ (hr.mono ZeT) rfl Zev rfl rfl rfl (ZaG rfl (by walk_at "v") (ZaG rfl (ZsZ Zc0 rfl rfl) (ZaG rfl (ZsZ Zdf rfl rfl) (by walk_at "v"))))))) (by walk_at "v") Zcb))
theorem ZtS:∀ {fs:Fs},fs.dat=true→∀ c∈fs.kinds,c.dat=true
 | .nil,_,c,hc=>by cases hc
 | .cons n m k r,h,c,hc=>by
  have h':(k.dat&&r.dat)=true:=h
  walk_at "pg"
  rcases List.mem_cons.mp hc with rfl | hc
  ·exact h'.1
  ·exact ZtS h'.2 c hc
theorem Zn5 {k c:Kd} (h:k.dat=true) (hc:c∈k.kids):c.dat=true:=by
 cases k with
 | to a b=>cases h
 | box a=>cases h
 | row fs o=>exact ZtS h c hc
 | any=>cases hc
 | num=>cases hc
 | truth=>cases hc
theorem ZpN:∀ (n:Nat) (k:Kd),k.dp≤n→k.dat=true→∀ c∈k.all,c.fb=false
 | 0,k,h,_=>by have:=Zhl k;omega
 | n+1,k,h,hd=>by
  intro c hc
  rw [Zkj] at hc
  rcases List.mem_cons.mp hc with rfl | hc
  ·cases c <;> first | rfl | cases hd
  ·obtain ⟨d,hd1,hd2⟩:=List.mem_flatMap.mp hc
   exact ZpN n d (by have:=Zj4 hd1;omega) (Zn5 hd hd1) c hd2
theorem ZpV {n:Nat} {D:Ew} {p q0:Addr} {items:List W}:∀ (l:List Kd) (o:Option W) (k0:W) (G:Hw) (acc:List W),(∀ c∈l,c.dp≤n)→acc.length+ZgN l≤20000→ZgN l≤10000→p≠q0→G p=some (.lst acc)→G q0=some (.lst items) →
  (∀ ω G',(∃ o',ω=[some k0,some (.ref p),o'])→G' p=some (.lst (acc++(l.flatMap Kd.all).map Kd.enc))→(∀ b,b≠p→∀ u,G b=some u→G' b=some u)→D.nx ω G') →
  Zcz (holds q0 items) (gNm 2) (Zbv (gMt Zf3 Zp7 (Zae 1) (L3.Zaa (Zah (ZAj n) XF (L3.Zaa (Zae 2) L3.Zaj)) L3.Zaj))) D (l.map Kd.enc) [some k0,some (.ref p),o] G
 | [],o,k0,G,acc,_,_,_,hne,hp,hq,fin=>⟨hq,fin _ G ⟨o,rfl⟩ (by simpa using hp) fun _ _ _ h=>h⟩
 | c::l,o,k0,G,acc,hd,hl,hc,hne,hp,hq,fin=>by
  have hcc:c.cnt+ZgN l≤10000:=hc
  have hll:acc.length+(c.cnt+ZgN l)≤20000:=hl
  refine ⟨hq,?_⟩
  show Zbv _ _ [some k0,some (.ref p),some c.enc] G
  walk_at "rd"
  refine ⟨Zfe hp,c,⟨rfl,hd c List.mem_cons_self,by omega⟩,fun r hr=>?_⟩
  have hpr:=Zaw hp hr
  have hqr:=Zaw hq hr
  refine Zph (by rw [Zag hpr];exact hp) Zab (by rw [List.length_map,ZmB];exact Za0 (by omega)) ?_
  refine ZpV l (some c.enc) k0 _ (acc++c.all.map Kd.enc) (fun d hd'=>hd d (List.mem_cons_of_mem _ hd')) (by rw [List.length_append,List.length_map,ZmB];omega) (by omega) hne Zab ?_ ?_
  ·rw [Zag (Ne.symm hne),Zag hqr];exact hq
  ·intro ω G' hω h1 h2
   walk_at "pk"
   rw [Zag hb,Zag (Zaw hu hr)];exact hu
theorem Zcd (T:Tx K mg base a):∀ n:Nat,Df P w K mg base "kinds_in" (n+1) 1 (ZAj n)
 | 0=>by
  obtain ⟨f,fd,h1,F,h3⟩:=T.Zjo
  refine ⟨⟨f,fd,_,h1,F.kp,h3,rfl,⟨fun vs H Q E ⟨ws,G,t,r,k,⟨_,hd,_⟩,_⟩=>absurd hd (by have:=Zhl k;omega),fun A outer s H args us vs Q E _ _ _ _ ⟨ws,G,t,r,k,⟨_,hd,_⟩,_⟩=>absurd hd (by have:=Zhl k;omega)⟩⟩,Zms⟩
 | n+1=>by
  refine mk0 T.Zjo rfl Zja Zms (fun ws G Q E ⟨x,⟨e,_⟩,_⟩=>by rw [e];rfl) (Zoz T (ZaF T) (by omega) (Zcd T n) (Nat.le_refl _)) fun ws G Q E hC q=>?_
  obtain ⟨k,⟨rfl,hd,hc⟩,q⟩:=q
  have hk:=Zgp k
  unfold ZjB
  walk_at "rd"
  refine ⟨by decide,fun p hp=>?_⟩
  refine ⟨k,⟨rfl,by omega⟩,fun q0 hq0=>?_⟩
  have hne:p≠q0:=Zaw Zab hq0
  simp only [Zab]
  refine ZpV k.kids none k.enc _ [k.enc] (fun c hc=>by have:=Zj4 hc;omega) (by simp only [List.length_cons,List.length_nil];omega) (by omega) hne (by rw [Zag hne];exact Zab) Zab ?_
  intro ω G' hω h1 h2
  obtain ⟨o',rfl⟩:=hω
  simp only [List.getElem?_cons_zero,List.getElem?_cons_succ]
  have hs:Sub (put G p (.lst (k.all.map Kd.enc))) G':=fun b u hu=>by
   by_cases hb:b=p
   ·subst hb
    rw [Zab] at hu;cases hu
    rw [h1,Zkj,List.map_cons];rfl
   ·rw [Zag hb] at hu
    refine h2 b hb u ?_
    rw [Zag (fun z=>by subst z;rw [Zag hb] at hq0;rw [hq0] at hu;cases hu),Zag hb];exact hu
  exact hC _ _ _ hs (q p hp)
theorem Zxw {gd:Hw→Prop} {ge:GE} {R:List W→Hw→Prop} {f:Kd→W} {G:Hw} (hgd:gd G):∀ (ks:List Kd) (o:Option W) (ys:List W),(∀ k∈ks,∀ Q:Kw,Q (f k) G→ge [some k.enc] G Q) →
  ys.length+ks.length≤sizeLine→R (ys++ks.map f) G→ZbK gd (gNm 0) Zgh ge R (ks.map Kd.enc) [o] G ys
 | [],o,ys,_,_,r=>⟨hgd,by simpa using r⟩
 | x::ks,o,ys,h,hl,r=>by
  refine ⟨hgd,by simp only [List.length_cons] at hl;omega,?_⟩
  show ge [some x.enc] G fun y G3=>ZbK gd (gNm 0) Zgh ge R (ks.map Kd.enc) [some x.enc] G3 (ys++[y])
  refine h x List.mem_cons_self _ (Zxw hgd ks (some x.enc) (ys++[f x]) (fun y hy=>h y (List.mem_cons_of_mem _ hy)) ?_ ?_)
  ·simp only [List.length_append,List.length_cons,List.length_nil] at hl ⊢;omega
  ·simpa [List.append_assoc] using r
theorem Zy1 (k:Kd) (G:Hw):inF false (.str k.hd) (.tup [.str "to",.str "box"]) G=some (.bl k.fb):=by cases k <;> kernel_rfl
abbrev ZA4:Spw:=spR (fun (k:Kd) ws _=>ws=[k.enc]∧kd8 k∧k.dat=true) fun _=>.bl true
theorem ZtE {α:Type}:∀ l:List α,(l.map fun _=>false).any id=false
 | []=>rfl
 | _::l=>ZtE l
theorem ZgK (T:Tx K mg base a):Df P w K mg base "is_data" 10 1 ZA4:=by
 refine mk0 (k:=9) T.Zpv rfl Zk3 ZcD (fun ws G Q E ⟨x,⟨e,_⟩,_⟩=>by rw [e];rfl) (Zqf T (Zdq T) (by omega) (Zcd T 8) (by omega)) fun ws G Q E hC q=>?_
 obtain ⟨k,⟨rfl,hk,hd⟩,q⟩:=q
 have h40:=hk.2.1
 unfold Zls
 walk_at "rd"
 refine ⟨k,⟨rfl,hk.1.1,by omega,ZsQ hk⟩,k,⟨rfl,hk.2.2,by omega⟩,fun p hp=>?_⟩
 simp only [Zab]
 refine Zxw (f:=fun _=>.bl false) Zab k.all none [] (fun y hy Q' q'=>?_) (by rw [ZmB];exact Za0 (by simp only [List.length_nil];omega)) fun p1 hp1=>?_
 ·show Zak (Zar (inF false)) (Zak (Zar ixW) (Zae 0) (gC (.int 0))) (L3.Zbq (L3.Zaa (gC (.str "to")) (L3.Zaa (gC (.str "box")) L3.Zaj))) [some y.enc] _ Q'
  simp only [Zak,Zar,Zae,gC,L3.Zbq,L3.Zaa,L3.Zaj,List.getElem?_cons_zero,Zf1,Zaf]
  refine ⟨by decide,?_⟩
  rw [Zy1,ZpN 8 k hk.2.2 hd y hy]
  exact q'
 rw [List.nil_append,show (k.all.map fun _=>W.bl false)=(k.all.map fun _=>false).map W.bl by rw [List.map_map];rfl]
 walk_at "pf"
 rw [ZtE]
 exact hC _ _ _ (Zcs (ZaS hp) hp1) q
abbrev ZAo:Spw:=spR (fun (k:Kd) ws _=>ws=[k.enc]∧kd8 k∧k.dat=true) fun _=>.non
theorem ZbS (T:Tx K mg base a):Df P w K mg base "check_data_kind" 11 1 ZAo:=by
 refine mk0 (k:=10) T.ZgV rfl Zd1 ZcD (fun ws G Q E ⟨x,⟨e,_⟩,_⟩=>by rw [e];rfl) (Zg5 T (ZgK T) (by omega)) fun ws G Q E hC q=>?_
 obtain ⟨k,h,q⟩:=q
 obtain ⟨rfl,hk⟩:=h
 unfold Zd2
 walk_at "rd"
 refine ⟨k,⟨rfl,hk⟩,?_⟩
 simp only [Bool.not_true,Bool.false_eq_true,if_false]
 exact q
theorem ZzJ (m:Bool) (G:Hw):eqF false (.str (Zek m)) (.str "must") G=some (.bl m):=by
 unfold eqF eqW
 show some (W.bl ((Zek m=="must") != false))=_
 rw [show (Zek m==("must":Str))=m by cases m <;> first | rfl | decide +kernel]
 cases m <;> rfl
local macro_rules | `(tactic| walk_at "rd") => `(tactic| ((try dsimp only [Zat,gIf,Zay,Zbj,Zbv,Zan,Zae,gC,Zak,gTB,Zcj,gNt,Zf2,gOr,Zci,Zjj,Zdg,Zgi,L3.Zbq,Zb1,L3.Zaa,L3.Zaj,Zah,gB,rF,Zar,Zbb,gMt,ZiM,Zr1,Zb0,Zdw,Zfg,Zb6,L3.Zfj,Zda,gSl,Zd9,Zbu,ZbU,Za7,ZkN,Zjg,Zee,ZeB,Zcr,ZdV,Zct,ZhP,ZaL,Zbx,List.map_cons,List.map_nil,List.length_cons,List.length_nil,List.cons_append,List.nil_append,List.getElem?_cons_zero,List.getElem?_cons_succ,List.set_cons_zero,List.set_cons_succ,List.replicate,Zeo,tyN,Zaf,Zc7,ZcW,Zdz,ixW,eqF,eqW,ZfZ,ZiZ,ZgP,Zjy,ZhU,ZoP,List.getElem?_nil]); (try simp only [Zat,gIf,Zay,Zbj,Zbv,Zan,Zae,gC,Zak,gTB,Zcj,gNt,Zf2,gOr,Zci,Zjj,Zdg,Zgi,L3.Zbq,Zb1,L3.Zaa,L3.Zaj,Zah,gB,rF,Zar,Zbb,gMt,ZiM,Zr1,Zb0,Zdw,Zfg,Zb6,L3.Zfj,Zda,gSl,Zd9,Zbu,ZbU,Za7,ZkN,Zjg,Zee,ZeB,Zcr,ZdV,Zct,ZhP,ZaL,Zbx,List.map_cons,List.map_nil,List.length_cons,List.length_nil,List.cons_append,List.nil_append,List.getElem?_cons_zero,List.getElem?_cons_succ,List.set_cons_zero,List.set_cons_succ,List.replicate,Zeo,tyN,Zaf,Zc7,ZcW,Zdz,ixW,eqF,eqW,ZfZ,ZiZ,ZgP,Zjy,ZhU,ZoP,List.getElem?_nil])))
mutual
inductive Vl where
 | int (i:Int) | bl (b:Bool) | row (ps:Ps)
inductive Ps where
 | nil | cons (n:Str) (v:Vl) (r:Ps)
end
mutual
def Vl.enc:Vl→W
 | .int i=>.int i
 | .bl b=>.bl b
 | .row ps=>.tup ps.enc
def Ps.enc:Ps→List W
 | .nil=>[]
 | .cons n v r=>.tup [.str n,v.enc]::r.enc
end
def Ps.vals:Ps→List Vl
 | .nil=>[]
 | .cons _ v r=>v::r.vals
def Ps.names:Ps→List Str
 | .nil=>[]
 | .cons n _ r=>n::r.names
def Ps.find (x:Str):Ps→Option Vl
 | .nil=>none
 | .cons n v r=>if n=x then some v else r.find x
def Vl.kids:Vl→List Vl
 | .row ps=>ps.vals
 | _=>[]
def Vl.hd:Vl→Str
 | .int _=>"num"
 | .bl _=>"truth"
 | .row _=>"row"
mutual
def Vl.cnt:Vl→Nat
 | .row ps=>1+ps.cnt
 | _=>1
def Ps.cnt:Ps→Nat
 | .nil=>0
 | .cons _ v r=>v.cnt+r.cnt
end
mutual
def Vl.dp:Vl→Nat
 | .row ps=>1+ps.dp
 | _=>1
def Ps.dp:Ps→Nat
 | .nil=>0
 | .cons _ v r=>max v.dp r.dp
end
mutual
def Vl.ok (m:Nat):Vl→Bool
 | .row ps=>rise ps.names&&(decide (ps.names.length≤m)&&ps.ok m)
 | _=>true
def Ps.ok (m:Nat):Ps→Bool
 | .nil=>true
 | .cons n v r=>Za1 n&&v.ok m&&r.ok m
end
def ZhV:List Vl→Nat
 | []=>0
 | v::r=>v.cnt+ZhV r
def vdp:List Vl→Nat
 | []=>0
 | v::r=>max v.dp (vdp r)
theorem ZnQ:∀ ps:Ps,ps.cnt=ZhV ps.vals
 | .nil=>rfl
 | .cons _ v r=>by show v.cnt+r.cnt=v.cnt+ZhV r.vals;rw [ZnQ r]
theorem ZxX:∀ ps:Ps,ps.dp=vdp ps.vals
 | .nil=>rfl
 | .cons _ v r=>by show max v.dp r.dp=max v.dp (vdp r.vals);rw [ZxX r]
theorem Zif (v:Vl):v.cnt=1+ZhV v.kids:=by
 cases v with
 | row ps=>show 1+ps.cnt=1+ZhV ps.vals;rw [ZnQ]
 | _=>rfl
theorem ZkW (v:Vl):v.dp=1+vdp v.kids:=by
 cases v with
 | row ps=>show 1+ps.dp=1+vdp ps.vals;rw [ZxX]
 | _=>rfl
theorem Zid:∀ (l m:List Vl),ZhV (l++m)=ZhV l+ZhV m
 | [],m=>by simp [ZhV]
 | v::l,m=>by show v.cnt+ZhV (l++m)=v.cnt+ZhV l+ZhV m;rw [Zid l m];omega
theorem ZjU:∀ (l m:List Vl),vdp (l++m)=max (vdp l) (vdp m)
 | [],m=>by simp [vdp]
 | v::l,m=>by show max v.dp (vdp (l++m))=max (max v.dp (vdp l)) (vdp m);rw [ZjU l m];omega
theorem Zpz (v:Vl):1≤v.cnt:=by rw [Zif];omega
theorem ZvA (v:Vl):1≤v.dp:=by rw [ZkW];omega
theorem ZjA:∀ l:List Vl,ZhV l=l.length+ZhV (l.flatMap Vl.kids)
 | []=>rfl
 | v::l=>by
  show v.cnt+ZhV l=(l.length+1)+ZhV ((v::l).flatMap Vl.kids)
  rw [List.flatMap_cons,Zid,ZjA l,Zif v];omega
theorem ZlG:∀ l:List Vl,l≠[]→vdp l=1+vdp (l.flatMap Vl.kids)
 | [],h=>absurd rfl h
 | [v],_=>by
  show max v.dp 0=1+vdp ([v].flatMap Vl.kids)
  rw [List.flatMap_cons,List.flatMap_nil,List.append_nil,ZkW];omega
 | v::u::l,_=>by
  have ih:=ZlG (u::l) (by simp)
  show max v.dp (vdp (u::l))=1+vdp ((v::u::l).flatMap Vl.kids)
  rw [List.flatMap_cons,ZjU,ih,ZkW v];omega
theorem ZhM:∀ l:List Vl,l.length≤ZhV l
 | []=>Nat.le_refl _
 | v::l=>by have:=ZhM l;have:=Zpz v;show l.length+1≤v.cnt+ZhV l;omega
theorem Zng:∀ {l:List Vl} {v:Vl},v∈l→v.cnt≤ZhV l
 | u::l,v,h=>by
  show v.cnt≤u.cnt+ZhV l
  walk_at "pr"
  ·omega
  ·have:=Zng h;omega
theorem ZqJ (v:Vl):v.kids.length+1≤v.cnt:=by rw [Zif v];have:=ZhM v.kids;omega
theorem Znz:∀ ps:Ps,ps.enc.length=ps.vals.length
 | .nil=>rfl
 | .cons _ v r=>by show r.enc.length+1=r.vals.length+1;rw [Znz r]
theorem Zrf:∀ ps:Ps,ps.names.length=ps.vals.length
 | .nil=>rfl
 | .cons _ v r=>by show r.names.length+1=r.vals.length+1;rw [Zrf r]
theorem Zg7:∀ {m:Nat} {ps:Ps},ps.ok m=true→∀ c∈ps.vals,c.ok m=true
 | m,.nil,_,c,hc=>by cases hc
 | m,.cons n v r,h,c,hc=>by
  have h':(Za1 n&&v.ok m&&r.ok m)=true:=h
  walk_at "pg"
  rcases List.mem_cons.mp hc with rfl | hc
  ·exact h'.1.2
  ·exact Zg7 h'.2 c hc
theorem Zgg {m:Nat} {ps:Ps} (h:(Vl.row ps).ok m=true):rise ps.names=true∧ps.ok m=true:=by
 have h':(rise ps.names&&(decide (ps.names.length≤m)&&ps.ok m))=true:=h
 walk_at "pg"
 exact ⟨h'.1,h'.2.2⟩
theorem Zkr {m:Nat} {ps:Ps} (h:(Vl.row ps).ok m=true):ps.names.length≤m:=by
 have h':(rise ps.names&&(decide (ps.names.length≤m)&&ps.ok m))=true:=h
 simp only [Bool.and_eq_true,decide_eq_true_eq] at h'
 exact h'.2.1
theorem Zsc {m:Nat} {v:Vl} (h:v.ok m=true):∀ c∈v.kids,c.ok m=true:=by
 cases v with
 | row ps=>exact Zg7 (Zgg h).2
 | _=>intro c hc;cases hc
def Zvr (x:W):W:=match x with | .tup [_,k]=>k | _=>.non
theorem Ztf:∀ ps:Ps,ps.enc.map Zvr=ps.vals.map Vl.enc
 | .nil=>rfl
 | .cons n v r=>by show v.enc::r.enc.map Zvr=v.enc::r.vals.map Vl.enc;rw [Ztf r]
theorem ZtC:∀ ps:Ps,ps.enc.map Zim=ps.names.map W.str
 | .nil=>rfl
 | .cons n v r=>by show W.str n::r.enc.map Zim=W.str n::r.names.map W.str;rw [ZtC r]
theorem Zmw:∀ {ps:Ps} {x:W},x∈ps.enc→∃ n v,x=.tup [.str n,v]
 | .nil,x,h=>by cases h
 | .cons n v r,x,h=>by
  walk_at "pr"
  ·exact ⟨n,v.enc,rfl⟩
  ·exact Zmw h
theorem Zqy:∀ {ps:Ps} {x:W},ps.ok 7=true→x∈ps.enc→∃ n v,x=.tup [.str n,v]∧Za1 n=true
 | .nil,x,_,h=>by cases h
 | .cons n v r,x,ho,h=>by
  have h':(Za1 n&&v.ok 7&&r.ok 7)=true:=ho
  walk_at "pg"
  walk_at "pr"
  ·exact ⟨n,v.enc,rfl,h'.1.1⟩
  ·exact Zqy h'.2 h
theorem ZyU:Zju "tuple" "tuple"=true:=by decide
theorem ZAG:Zju "int" "tuple"=false:=by decide
theorem ZAY:Zju "bool" "tuple"=false:=by decide
theorem Zv3:Zju "int" "int"=true:=by decide
theorem ZyR:Zju "bool" "int"=true:=by decide
theorem Zv5:Zju "tuple" "int"=false:=by decide
theorem ZzP:Zju "bool" "bool"=true:=by decide
theorem Zz8:Zju "int" "bool"=false:=by decide
theorem Zz9:Zju "tuple" "bool"=false:=by decide
abbrev ZAi:Spw:=spL (fun (v:Vl) ws _=>ws=[v.enc]∧v.cnt≤20000) fun v=>v.kids.map Vl.enc
theorem ZaW (T:Tx K mg base a):Df P w K mg base "values_within" 1 1 ZAi:=by
 refine mk0 T.Zh7 rfl Zex Zms (fun ws G Q E ⟨x,⟨e,_⟩,_⟩=>by rw [e];rfl) (ZiQ T) fun ws G Q E hC q=>?_
 obtain ⟨v,⟨rfl,hc⟩,q⟩:=q
 unfold ZeO
 cases v with
 | int i =>
  simp only [Vl.enc];walk_at "rd"
  simp only [ZAG,Bool.false_eq_true,if_false]
  exact ⟨by decide,fun p hp=>q p hp⟩
 | bl b =>
  simp only [Vl.enc];walk_at "rd"
  simp only [ZAY,Bool.false_eq_true,if_false]
  exact ⟨by decide,fun p hp=>q p hp⟩
 | row ps =>
  have hc':1+ps.cnt≤20000:=hc
  have hl:ps.enc.length≤ps.cnt:=by rw [Znz,ZnQ];exact ZhM _
  simp only [Vl.enc];walk_at "rd"
  simp only [ZyU,if_true]
  refine Zi2 (f:=Zvr) trivial ps.enc none [] (fun x hx Q' q'=>?_) (by simp only [List.length_nil];exact Za0 (by omega)) ?_
  ·obtain ⟨n,u,rfl⟩:=Zmw hx
   show Zak (Zar ixW) (Zae 0) (gC (.int 1)) [some (W.tup [.str n,u])] _ Q'
   walk_at "rd"
   exact q'
  ·rw [List.nil_append,Ztf]
   exact q
abbrev ZA5:Spw:=spR (fun (x:Str×W) ws _=>ws=[.tup [.str x.1,x.2]]∧Za1 x.1=true) fun _=>.bl true
theorem Zb9 (T:Tx K mg base a):Df P w K mg base "is_value_field" 3 1 ZA5:=by
 refine mk0 T.ZhI rfl Zet ZcD (fun ws G Q E ⟨x,⟨e,_⟩,_⟩=>by rw [e];rfl) (ZhG T (ZcU T) (Nat.le_refl _)) fun ws G Q E hC q=>?_
 obtain ⟨⟨n,u⟩,⟨rfl,hn⟩,q⟩:=q
 have hl:n.length≤8:=ZjR hn
 dsimp only at q hn
 unfold Zen
 walk_at "rd"
 simp only [ZyU,if_true]
 refine ⟨n,⟨rfl,by omega⟩,?_⟩
 dsimp only
 rw [hn]
 exact q
abbrev Zuq:Spw:=spR (fun (v:Vl) ws _=>ws=[v.enc]∧v.ok 7=true∧v.cnt≤1000) fun _=>.bl true
theorem ZaR (T:Tx K mg base a):Df P w K mg base "has_value_form" 4 1 Zuq:=by
 refine mk0 T.ZhD rfl Zes ZcD (fun ws G Q E ⟨x,⟨e,_⟩,_⟩=>by rw [e];rfl) (ZhF T (Zb9 T) (Nat.le_refl _) (Zbr T) (by omega)) fun ws G Q E hC q=>?_
 obtain ⟨v,⟨rfl,ho,hc⟩,q⟩:=q
 unfold Zem
 cases v with
 | int i =>
  simp only [Vl.enc];walk_at "rd"
  simp only [Zv3,if_true]
  exact q
 | bl b =>
  simp only [Vl.enc];walk_at "rd"
  simp only [ZyR,if_true]
  exact q
 | row ps =>
  obtain ⟨hr,ho'⟩:=Zgg ho
  have hc':1+ps.cnt≤1000:=hc
  have hl:ps.enc.length≤ps.cnt:=by rw [Znz,ZnQ];exact ZhM _
  simp only [Vl.enc];walk_at "rd"
  simp only [Zv5,ZyU,Bool.not_true,Bool.false_eq_true,if_false]
  refine Zi2 (f:=fun _=>.bl true) trivial ps.enc none [] (fun x hx Q' q'=>?_) (by simp only [List.length_nil];exact Za0 (by omega)) ?_
  ·obtain ⟨n,u,rfl,hn⟩:=Zqy ho' hx
   exact ⟨(n,u),⟨rfl,hn⟩,q'⟩
  ·intro p hp
   rw [List.nil_append,show (fun _:W=>W.bl true)=W.bl∘(fun _=>true) from rfl,← List.map_map]
   walk_at "pf"
   have hall:(ps.enc.map fun _=>true).all id=true:=by simp
   rw [hall]
   simp only [if_true]
   refine Zi2 (f:=Zim) trivial ps.enc none [] (fun x hx Q' q'=>?_) (by simp only [List.length_nil];exact Za0 (by omega)) ?_
   ·obtain ⟨n,u,rfl⟩:=Zmw hx
    show Zak (Zar ixW) (Zae 0) (gC (.int 0)) [some (W.tup [.str n,u])] _ Q'
    walk_at "rd"
    exact q'
   ·intro p2 hp2
    rw [List.nil_append,ZtC]
    refine ⟨ps.names,⟨p2,rfl,Zab,by rw [Zrf,← Znz];omega⟩,?_⟩
    dsimp only
    rw [hr]
    exact hC _ _ _ (Zcs (ZaS hp) hp2) q
abbrev ZsW (mg:Str→Option Value):Spw:=spL (fun (l:List Vl) ws G=>∃ p,ws=[.ref p,.ref (fAt mg "values_within")]∧G p=some (.lst (l.map Vl.enc))∧ZhV l≤10000) fun l=>(l.flatMap Vl.kids).map Vl.enc
theorem ZlF {D:Ew} {p q0 fw:Addr} {items:List W}:∀ (l:List Vl) (o:Option W) (k0:W) (G:Hw) (acc:List W),acc.length+ZhV l≤20000→p≠q0→G p=some (.lst acc)→G q0=some (.lst items) →
  (∀ ω G',(∃ o',ω=[some k0,some (.ref fw),some (.ref p),o'])→G' p=some (.lst (acc++(l.flatMap Vl.kids).map Vl.enc))→(∀ b,b≠p→∀ u,G b=some u→G' b=some u)→D.nx ω G') →
  Zcz (holds q0 items) (gNm 3) (Zbv (gMt Zf3 Zp7 (Zae 2) (L3.Zaa (ZdV 1 fw ZAi XF (L3.Zaa (Zae 3) L3.Zaj)) L3.Zaj))) D (l.map Vl.enc) [some k0,some (.ref fw),some (.ref p),o] G
 | [],o,k0,G,acc,_,hne,hp,hq,fin=>⟨hq,fin _ G ⟨o,rfl⟩ (by simpa using hp) fun _ _ _ h=>h⟩
 | c::l,o,k0,G,acc,hl,hne,hp,hq,fin=>by
  have hll:acc.length+(c.cnt+ZhV l)≤20000:=hl
  have hk:=ZqJ c
  refine ⟨hq,?_⟩
  show Zbv _ _ [some k0,some (.ref fw),some (.ref p),some c.enc] G
  walk_at "rd"
  refine ⟨Zfe hp,trivial,c,⟨rfl,by omega⟩,fun r hr=>?_⟩
  have hpr:=Zaw hp hr
  have hqr:=Zaw hq hr
  refine Zph (by rw [Zag hpr];exact hp) Zab (by rw [List.length_map];exact Za0 (by omega)) ?_
  refine ZlF l (some c.enc) k0 _ (acc++c.kids.map Vl.enc) (by rw [List.length_append,List.length_map];omega) hne Zab ?_ ?_
  ·rw [Zag (Ne.symm hne),Zag hqr];exact hq
  ·intro ω G' hω h1 h2
   walk_at "pk"
   rw [Zag hb,Zag (Zaw hu hr)];exact hu
theorem Ziw (T:Tx K mg base a):Df P w K mg base "layer_within" 2 2 (ZsW mg):=by
 refine mk0 T.ZfU rfl ZcG Zms ((by rintro ws G Q E ⟨x,⟨p,e,_⟩,_⟩;rw [e];rfl)) (Zig T (ZaW T) (by omega)) fun ws G Q E hC q=>?_
 obtain ⟨l,⟨q0,rfl,hq,hl⟩,q⟩:=q
 unfold ZeL
 walk_at "rd"
 refine ⟨by decide,fun p hp=>?_⟩
 have hne:p≠q0:=Ne.symm (Zaw hq hp)
 have hq':put G p (.lst []) q0=some (.lst (l.map Vl.enc)):=by rw [Zag (Ne.symm hne)];exact hq
 simp only [hq']
 refine ZlF l none (.ref q0) _ [] (by simp only [List.length_nil];omega) hne Zab hq' ?_
 intro ω G' hω h1 h2
 obtain ⟨o',rfl⟩:=hω
 simp only [List.getElem?_cons_zero,List.getElem?_cons_succ]
 rw [List.nil_append] at h1
 have hs:Sub (put G p (.lst ((l.flatMap Vl.kids).map Vl.enc))) G':=fun b u hu=>by
  by_cases hb:b=p
  ·subst hb
   rw [Zab] at hu;cases hu
   exact h1
  ·rw [Zag hb] at hu
   exact h2 b hb u (by rw [Zag hb];exact hu)
 exact hC _ _ _ hs (q p hp)
def vg (v:Vl):Prop:=v.ok 7=true∧v.cnt≤100∧v.dp≤10
abbrev ZuN (mg:Str→Option Value):Spw:=spR (fun (v:Vl) ws _=>ws=[v.enc,.ref (fAt mg "has_value_form"),.ref (fAt mg "values_within"),.int 100,.int 10]∧vg v) fun _=>.bl true
theorem ZkF (T:Tx K mg base a):Df P w K mg base "is_made_of" 6 5 (ZuN mg):=by
 refine mk0 (k:=5) T.Zhp rfl Zds ZcD ((by rintro ws G Q E ⟨x,⟨e,_⟩,_⟩;rw [e];rfl)) (ZkG T (ZaR T) (by omega) (Ziw T) (by omega)) fun ws G Q E hC q=>?_
 obtain ⟨v,⟨rfl,ho,hc,hd⟩,q⟩:=q
 unfold Zgz
 walk_at "rd"
 refine ⟨by decide,fun p hp=>?_⟩
 refine ⟨fun m ω G'=>∃ (l:List Vl) (p:Addr) (c d:Nat),ω=[some v.enc,some (.ref (fAt mg "has_value_form")),some (.ref (fAt mg "values_within")),some (.int 100),some (.int 10),some (.ref p),some (.int c),some (.int d)]∧G' p=some (.lst (l.map Vl.enc))∧Sub G G'∧c+ZhV l=v.cnt∧d+vdp l=v.dp∧(∀ x∈l,x.ok 7=true)∧m=11 - d,⟨11,[v],p,0,0,rfl,Zab,ZaS hp,?_,?_,?_,rfl⟩,?_⟩
 ·show 0+(v.cnt+0)=v.cnt;omega
 ·show 0+max v.dp 0=v.dp;omega
 ·intro x hx;rw [List.mem_singleton.mp hx];exact ho
 rintro m ω G1 ⟨l,p,c,d,rfl,hl,hs,e1,e2,hok,rfl⟩
 have hlen:(l.map Vl.enc).length=l.length:=List.length_map _
 walk_at "rd"
 simp only [hl,Zaf,hlen]
 cases l with
 | nil =>
  have d0:¬ ((0:Int) < ((([]:List Vl).length:Nat):Int)):=by simp
  simp only [d0,decide_false,Bool.false_eq_true,if_false]
  exact hC _ _ _ hs q
 | cons x l =>
  have hx1:=ZjA (x::l)
  have hx2:=ZlG (x::l) (by simp)
  have d0:(0:Int) < (((x::l).length:Nat):Int):=by simp only [List.length_cons];omega
  simp only [d0,decide_true,if_true,hl,Zaf,hlen]
  have b40:decide ((100:Int) < (c:Int)+(((x::l).length:Nat):Int))=false:=by
   rw [decide_eq_false_iff_not];omega
  have b8:decide ((10:Int) < (d:Int)+1)=false:=by
   rw [decide_eq_false_iff_not];omega
  rw [b40,b8]
  simp only [Bool.false_eq_true,if_false]
  refine Zvd (f:=fun _=>.bl true) (cst:=[some (.ref (fAt mg "has_value_form"))]) hl (x::l) none [] (fun z hz Q' q'=>?_) (by exact Za0 (by simp only [List.length_nil];omega)) ?_
  ·have hz2:=Zng hz
   exact ⟨rfl,z,⟨rfl,hok z hz,by omega⟩,q'⟩
  ·intro p1 hp1
   rw [List.nil_append,show (fun _:Vl=>W.bl true)=W.bl∘(fun _=>true) from rfl,← List.map_map]
   walk_at "pf"
   have hall:((x::l).map fun _=>true).all id=true:=by simp
   rw [hall]
   simp only [Bool.not_true,Bool.false_eq_true,if_false]
   refine ⟨x::l,⟨p,rfl,by rw [Zag (Zaw hl hp1)];exact hl,by omega⟩,fun p2 hp2=>?_⟩
   refine ⟨11 - (d+1),by omega,(x::l).flatMap Vl.kids,p2,c+(x::l).length,d+1,?_,Zab,?_,by omega,by omega,?_,rfl⟩
   ·simp only [Int.natCast_add,Int.natCast_one]
   ·exact Zcs (Zcs hs hp1) hp2
   ·intro y hy
    obtain ⟨z,hz,hy⟩:=List.mem_flatMap.mp hy
    exact Zsc (hok z hz) y hy
abbrev ZAR:Spw:=spR (fun (v:Vl) ws _=>ws=[v.enc]∧vg v) fun _=>.non
theorem Zc8 (T:Tx K mg base a):Df P w K mg base "check_value" 7 1 ZAR:=by
 refine mk0 (k:=6) T.ZkO rfl ZgO ZcD ((by rintro ws G Q E ⟨x,⟨e,_⟩,_⟩;rw [e];rfl)) (ZjY T (ZaR T) (by omega) (ZaW T) (by omega) (ZkF T) (Nat.le_refl _)) fun ws G Q E hC q=>?_
 obtain ⟨v,⟨rfl,h⟩,q⟩:=q
 unfold Zgt
 walk_at "rd"
 refine ⟨v,⟨rfl,h⟩,?_⟩
 simp only [Bool.not_true,Bool.false_eq_true,if_false]
 exact q
abbrev ZAU:Spw:=spR (fun (v:Vl) ws _=>ws=[v.enc]) fun v=>.str v.hd
theorem Zgs (T:Tx K mg base a):Df P w K mg base "head_of" 1 1 ZAU:=by
 refine mk0 T.Zp6 rfl Zlu ZcD (fun ws G Q E ⟨x,e,_⟩=>by rw [e];rfl) (Zqr T) fun ws G Q E hC q=>?_
 obtain ⟨v,rfl,q⟩:=q
 unfold Zlj
 cases v with
 | int i =>
  simp only [Vl.enc];walk_at "rd"
  simp only [Zz8,Zv3,Bool.false_eq_true,if_false,if_true]
  exact q
 | bl b =>
  simp only [Vl.enc];walk_at "rd"
  simp only [ZzP,if_true]
  exact q
 | row ps =>
  simp only [Vl.enc];walk_at "rd"
  simp only [Zz9,Zv5,Bool.false_eq_true,if_false]
  exact q
local macro_rules | `(tactic| walk_at "rd") => `(tactic| ((try dsimp only [Zfy,Zct,Zcv,ZbI,ZhP,Zat,gIf,Zay,Zbj,Zbv,Zan,Zae,gC,Zak,gTB,Zcj,gNt,Zf2,gOr,Zci,Zjj,Zdg,Zgi,L3.Zbq,Zb1,L3.Zaa,L3.Zaj,Zah,gB,rF,Zar,Zbb,gMt,ZiM,Zb0,Zdw,Zfg,Zb6,L3.Zfj,Zda,gSl,Zd9,Zbu,ZbU,Za7,ZkN,Zee,ZaL,Zbx,List.map_cons,List.map_nil,List.length_cons,List.length_nil,List.cons_append,List.nil_append,List.getElem?_cons_zero,List.getElem?_cons_succ,List.set_cons_zero,List.set_cons_succ,List.replicate,Zeo,tyN,Zaf,Zc7,ZcW,Zdz,ixW,eqF,eqW,ZfZ,ZiZ,ZgP,Zjy,List.getElem?_nil]); (try simp only [Zfy,Zct,Zcv,ZbI,ZhP,Zat,gIf,Zay,Zbj,Zbv,Zan,Zae,gC,Zak,gTB,Zcj,gNt,Zf2,gOr,Zci,Zjj,Zdg,Zgi,L3.Zbq,Zb1,L3.Zaa,L3.Zaj,Zah,gB,rF,Zar,Zbb,gMt,ZiM,Zb0,Zdw,Zfg,Zb6,L3.Zfj,Zda,gSl,Zd9,Zbu,ZbU,Za7,ZkN,Zee,ZaL,Zbx,List.map_cons,List.map_nil,List.length_cons,List.length_nil,List.cons_append,List.nil_append,List.getElem?_cons_zero,List.getElem?_cons_succ,List.set_cons_zero,List.set_cons_succ,List.replicate,Zeo,tyN,Zaf,Zc7,ZcW,Zdz,ixW,eqF,eqW,ZfZ,ZiZ,ZgP,Zjy,List.getElem?_nil])))
noncomputable def srt (xs:List Str):List Str:=Classical.choose (Zny xs)
theorem ZyD (xs:List Str):(srt xs).Pairwise (fun x y=>ZaA x y=true):=(Classical.choose_spec (Zny xs)).1
theorem ZuP {xs:List Str} {x:Str}:x∈srt xs↔x∈xs:=(Classical.choose_spec (Zny xs)).2 x
theorem ZtU {xs zs:List Str} (z1:zs.Nodup) (z2:sortedS zs=true) (z3:∀ x,x∈zs↔x∈xs):zs=srt xs:=by
 refine Zm1 ?_ (ZyD xs) fun x=>by rw [z3,ZuP]
 cases zs with
 | nil=>exact .nil
 | cons x r=>exact Zw8 x r z2 z1
def mfE (f:Vl→Kd→Option (List Str)):Option Vl→En→Option (List Str)
 | none,.told m _=>if m then some [] else none
 | none,_=>none
 | some _,.nope=>some []
 | some _,.free=>none
 | some v,.told _ k=>f v k
noncomputable def mfR (f:Vl→Kd→Option (List Str)):Vl→Kd→Option (List Str)
 | .row ps,.row fs o=>ZoN ((srt (ps.names++fs.names)).map fun x=>(x,mfE f (ps.find x) (ent fs o x)))
 | _,_=>none
noncomputable def mf:Nat→Vl→Kd→Option (List Str)
 | 0,_,_=>none
 | n+1,v,k=>if k.hd="any" then none else if v.hd=k.hd then mfR (mf n) v k else some []
theorem ZoS {n:Nat} {f:Vl→Kd→Option (List Str)} (h:∀ v k p,f v k=some p→p.length≤n) {e:Option Vl} {e':En} {p:List Str} (hp:mfE f e e'=some p):p.length≤n:=by
 cases e with
 | none =>
  cases e' with
  | free=>cases hp
  | nope=>cases hp
  | told m k =>
   cases m with
   | true=>cases hp;exact Nat.zero_le _
   | false=>cases hp
 | some v =>
  cases e' with
  | free=>cases hp
  | nope=>cases hp;exact Nat.zero_le _
  | told m k=>exact h _ _ _ hp
theorem ZnM:∀ (n:Nat) (v:Vl) (k:Kd) (p:List Str),mf n v k=some p→p.length≤n
 | 0,_,_,p,h=>by cases h
 | n+1,v,k,p,h=>by
  rw [mf] at h
  split at h
  ·cases h
  ·split at h
   ·cases v with
    | row ps =>
     cases k with
     | row fs o =>
      refine ZnP (fun u hu q hq=>?_) h
      obtain ⟨x,_,rfl⟩:=List.mem_map.mp hu
      exact ZoS (ZnM n) hq
     | _=>cases h
    | _=>cases k <;> cases h
   ·cases h;exact Nat.zero_le _
theorem Zh2:∀ {ps:Ps} {x:Str} {v:Vl},ps.find x=some v→v∈ps.vals
 | .cons n u r,x,v,h=>by
  have h':(if n=x then some u else r.find x)=some v:=h
  by_cases e:n=x
  ·rw [if_pos e] at h';cases h';exact List.mem_cons_self
  ·rw [if_neg e] at h';exact List.mem_cons_of_mem _ (Zh2 h')
def Ps.kv:Ps→List (Key×W)
 | .nil=>[]
 | .cons n v r=>(Sum.inr n,v.enc)::r.kv
theorem Zmp:∀ (ps:Ps) (x:Str),atT ps.kv x=(ps.find x).map Vl.enc
 | .nil,x=>rfl
 | .cons n v r,x=>by
  show atT ((Sum.inr n,v.enc)::r.kv) x=(if n=x then some v else r.find x).map Vl.enc
  rw [ZgI]
  by_cases e:n=x
  ·rw [if_pos e,if_pos (by rw [e])];rfl
  ·rw [if_neg e,if_neg (fun z=>e (Sum.inr.inj z))];exact Zmp r x
theorem ZkV:∀ ps:Ps,ps.kv.map (·.1)=ps.names.map Sum.inr
 | .nil=>rfl
 | .cons n v r=>by show Sum.inr n::r.kv.map (·.1)=Sum.inr n::r.names.map Sum.inr;rw [ZkV r]
def Ps.toW:Ps→List (Str×W)
 | .nil=>[]
 | .cons n v r=>(n,v.enc)::r.toW
theorem Zml:∀ ps:Ps,ps.toW.map (fun y=>W.tup [.str y.1,y.2])=ps.enc
 | .nil=>rfl
 | .cons n v r=>by show W.tup [.str n,v.enc]::r.toW.map (fun y=>W.tup [.str y.1,y.2])=W.tup [.str n,v.enc]::r.enc;rw [Zml r]
theorem ZpR:∀ ps:Ps,ps.toW.map (fun y=>((Sum.inr y.1:Key),y.2))=ps.kv
 | .nil=>rfl
 | .cons n v r=>by show (Sum.inr n,v.enc)::r.toW.map (fun y=>((Sum.inr y.1:Key),y.2))=(Sum.inr n,v.enc)::r.kv;rw [ZpR r]
theorem Zie:∀ ps:Ps,ps.toW.map (·.1)=ps.names
 | .nil=>rfl
 | .cons n v r=>by show n::r.toW.map (·.1)=n::r.names;rw [Zie r]
theorem Zp8 {ns:List Str} (h:rise ns=true):ns.Nodup:=(ZhX h).imp fun {x y} hxy e=>by rw [e,Zly] at hxy;cases hxy
def vk (n:Nat) (v:Vl) (k:Kd):Prop:=v.ok 7=true∧wf k∧k.dat=true∧k.dp≤n
abbrev Zz1 (n:Nat):Spw:=spR (fun (x:Vl×Kd) ws _=>ws=[x.1.enc,x.2.enc]∧vk n x.1 x.2) fun x=>pW (mf n x.1 x.2)
noncomputable def Zq6 (n:Nat):Spw:=fun ws G Q _=>∃ (p:Addr) (ps:Ps) (x:Str) (e:En),ws=[.ref p,.str x,e.enc]∧G p=some (.dct ps.kv)∧(∀ v m k,ps.find x=some v→e=.told m k→vk n v k)∧Q (pW (mfE (mf n) (ps.find x) e)) G
theorem ZuW {n:Nat}:Spw.M (Zq6 n):=(by rintro ws G Q Q' E E' h _ ⟨p,ps,x,e,h1,h2,h3,q⟩;exact ⟨p,ps,x,e,h1,h2,h3,h _ _ q⟩)
theorem Ztb {G:Hw} {p:Addr} {ps:Ps} {x:Str} (neg:Bool) (h:G p=some (.dct ps.kv)):inK neg (.str x) (.ref p) G=some (.bl ((ps.find x).isSome != neg)):=by
 unfold inK
 dsimp only
 rw [h]
 dsimp only
 rw [Zmp]
 cases ps.find x <;> rfl
theorem Zte {G:Hw} {p:Addr} {ps:Ps} {x:Str} {v:Vl} (h:G p=some (.dct ps.kv)) (hv:ps.find x=some v):ixK (.ref p) (.str x) G=some v.enc:=by
 unfold ixK
 dsimp only
 rw [h]
 dsimp only
 rw [Zmp,hv];rfl
theorem ZA7:(("free":Str)=="none")=false:=by decide +kernel
theorem ZbX (T:Tx K mg base a) {n j:Nat} (D:Df P w K mg base "misfit_of" j 2 (Zz1 n)):Df P w K mg base "misfit_of_field" (j+1) 3 (Zq6 n):=by
 refine mk0 (k:=j) T.Zg6 rfl Zd3 ZuW (fun ws G Q E ⟨_,_,_,_,e,_⟩=>by rw [e];rfl) (ZgU T D (Nat.le_refl _)) fun ws G Q E hC q=>?_
 obtain ⟨p,ps,x,e,rfl,hp,hv,q⟩:=q
 unfold Zd5
 show Zat (gIf _ _ Zan) _ (ZaL Q) [some (.ref p),some (.str x),some e.enc] G
 simp only [Zat,gIf,gTB,Zak,Zar,Zae,List.getElem?_cons_zero,List.getElem?_cons_succ,Ztb true hp,Zaf]
 cases hf:ps.find x with
 | none =>
  rw [hf] at q
  simp only [Option.isSome_none,show (false != true)=true from rfl,if_true,Zay,Zgi,gTB,Zak,Zar,Zae,gC,List.getElem?_cons_zero,List.getElem?_cons_succ,Ztv,Zaf]
  cases e with
  | free=>exact q
  | nope=>exact q
  | told m k =>
   simp only [En.hd,ZzJ,Zaf]
   cases m with
   | true=>exact ⟨by decide,q⟩
   | false=>exact q
 | some v =>
  rw [hf] at q hv
  simp only [Option.isSome_some,show (true != true)=false from rfl,Bool.false_eq_true,if_false,Zat,gIf,Zay,Zan,Zgi,gTB,Zak,Zar,Zae,gC,List.getElem?_cons_zero,List.getElem?_cons_succ,Ztv,Zaf,eqF,eqW,Option.map_some]
  cases e with
  | free =>
   simp only [En.hd,ZA7,beq_self_eq_true,bne_self_eq_false,Bool.false_eq_true,if_false,show (true != false)=true from rfl,if_true]
   exact q
  | nope =>
   simp only [En.hd,beq_self_eq_true,show (true != false)=true from rfl,if_true]
   exact ⟨by decide,q⟩
  | told m k =>
   have h1:(Zek m=="none")=false:=by simpa using (ZoX m).2.1
   have h2:(Zek m=="free")=false:=by simpa using (ZoX m).1
   simp only [En.hd,h1,h2,bne_self_eq_false,Bool.false_eq_true,if_false,Zah,L3.Zaa,L3.Zaj,Zak,Zar,Zae,gC,List.getElem?_cons_zero,List.getElem?_cons_succ,Zte hp hf,Zaf]
   simp only [En.enc,ixW,ZcW,Zaf]
   exact ⟨(v,k),⟨rfl,hv v m k rfl rfl⟩,q⟩
abbrev gMR (sp:Spw):GS:=Zat (Zbj 3 (Zah sp XF (L3.Zaa (Zae 0) (L3.Zaa (Zae 2) (L3.Zaa (Zah Zqe XF (L3.Zaa (Zae 1) (L3.Zaa (Zae 2) L3.Zaj))) L3.Zaj))))) (gIf (gTB (Zak (Zar (isF true)) (Zae 3) (gC .non))) (Zay (Zah ZkP XF (L3.Zaa (Zae 2) (L3.Zaa (Zae 3) L3.Zaj)))) Zan)
theorem ZqQ {n:Nat} {D:Ew} {gd:Hw→Prop} {G:Hw} {ps:Ps} {fs:Fs} {o:Bool} {p:Addr} (hgd:gd G) (hn:n≤100) (hp:G p=some (.dct ps.kv)) (hs:∀ x v m k,ps.find x=some v→ent fs o x=.told m k→vk n v k):∀ (xs:List Str) (o2 o3:Option W),
  (∀ q,ZoN (xs.map fun x=>(x,mfE (mf n) (ps.find x) (ent fs o x)))=some q→D.rt (pW (some q)) G)→(ZoN (xs.map fun x=>(x,mfE (mf n) (ps.find x) (ent fs o x)))=none→∀ o2 o3,D.nx [some (.ref p),some (Kd.row fs o).enc,o2,o3] G) →
  Zcz gd (gNm 2) (gMR (Zq6 n)) D (xs.map W.str) [some (.ref p),some (Kd.row fs o).enc,o2,o3] G
 | [],o2,o3,_,h=>⟨hgd,h rfl o2 o3⟩
 | x::xs,o2,o3,hb,h=>by
  refine ⟨hgd,?_⟩
  show gMR (Zq6 n) _ [some (.ref p),some (Kd.row fs o).enc,some (.str x),o3] G
  refine ZoC (i:=3) (j:=2) (c:=mfE (mf n) (ps.find x) (ent fs o x)) (s:=x) rfl (by decide) (by simp) (fun q e=>Nat.le_trans (ZoS (ZnM n) e) hn) (fun Q hQ=>?_) (fun e=>?_) (fun q e=>?_)
  ·simp only [Zah,L3.Zaa,L3.Zaj,Zae,List.getElem?_cons_zero,List.getElem?_cons_succ]
   exact ⟨(fs,o,x),rfl,p,ps,x,ent fs o x,rfl,hp,fun v m k=>hs x v m k,hQ⟩
  ·refine ZqQ hgd hn hp hs xs _ _ (fun q z=>hb q ?_) (fun z=>h ?_)
   ·rw [List.map_cons,e];exact z
   ·rw [List.map_cons,e];exact z
  ·exact hb _ (by rw [List.map_cons,e];rfl)
noncomputable def Zyz (n:Nat):Spw:=fun ws G Q _=>∃ (p:Addr) (ps:Ps) (fs:Fs) (o:Bool),ws=[.ref p,(Kd.row fs o).enc]∧G p=some (.dct ps.kv)∧vk (n+1) (.row ps) (.row fs o)∧Q (pW (mfR (mf n) (.row ps) (.row fs o))) G
theorem ZvQ {n:Nat}:Spw.M (Zyz n):=(by rintro ws G Q Q' E E' h _ ⟨p,ps,fs,o,h1,h2,h3,q⟩;exact ⟨p,ps,fs,o,h1,h2,h3,h _ _ q⟩)
theorem Zxq {n:Nat} {ps:Ps} {fs:Fs} {o:Bool} (h:vk (n+1) (.row ps) (.row fs o)) (x:Str) (v:Vl) (m:Bool) (k:Kd) (hv:ps.find x=some v) (he:ent fs o x=.told m k):vk n v k:=by
 obtain ⟨h1,h2,h3,h4⟩:=h
 have:=Zj4 (k:=.row fs o) (ZqP he)
 exact ⟨Zg7 (Zgg h1).2 v (Zh2 hv),ZvU h2 (ZqP he),Zn5 h3 (ZqP he),by omega⟩
theorem Zcu (T:Tx K mg base a) {n j:Nat} (hj:1≤j) (hn:n≤90) (D:Df P w K mg base "misfit_of_field" j 3 (Zq6 n)):Df P w K mg base "misfit_of_row" (j+1) 2 (Zyz n):=by
 refine mk0 (k:=j) T.Zh9 rfl ZeX ZvQ (fun ws G Q E ⟨_,_,_,_,e,_⟩=>by rw [e];rfl) (Ziz T (Zfd T) hj (Zfc T) hj D (Nat.le_refl _) (ZhO T) hj) fun ws G Q E hC q=>?_
 obtain ⟨p,ps,fs,o,rfl,hp,hv,q⟩:=q
 have n1:=Zkr hv.1
 have n2:=ZnA hv.2.1
 unfold ZeD
 show Zat (Zee _ _ _) _ (ZaL Q) [some (.ref p),some (Kd.row fs o).enc,none,none] G
 simp only [Zat,Zee,Za7,ZjX,Zah,Zae,L3.Zaa,L3.Zaj,List.getElem?_cons_zero,List.getElem?_cons_succ]
 refine ⟨p,ps.kv,ps.names,rfl,hp,ZkV ps,by omega,(fs,o),⟨rfl,by dsimp only;omega⟩,fun p1 hp1=>⟨fs.names,ZcB Zab,by omega,fun zs r z1 z2 z3 z4=>?_⟩⟩
 have hz:=ZtU (xs:=ps.names++fs.names) z1 z2 fun x=>by rw [z3,List.mem_append]
 simp only [Zab]
 have s2:Sub G (put (put G p1 (.lst (fs.names.map W.str))) r (.lst (zs.map W.str))):=Zcs (ZaS hp1) z4
 have q':Q (pW (ZoN (zs.map fun x=>(x,mfE (mf n) (ps.find x) (ent fs o x))))) G:=by rw [hz];exact q
 refine ZqQ (gd:=fun G'=>G' r=some (.lst (zs.map W.str))) Zab (by omega) (s2 _ _ hp) (Zxq hv) zs none none (fun u z=>?_) (fun z o2 o3=>?_)
 ·rw [z] at q'
  exact hC _ _ _ s2 q'
 ·rw [z] at q'
  exact hC _ _ _ s2 q'
theorem Zsq {v:Vl} (h:v.hd="row"):∃ ps,v=.row ps:=by
 cases v <;> first | exact ⟨_,rfl⟩ | exact absurd h (by simp only [Vl.hd];decide)
theorem ZxB {f:Vl→Kd→Option (List Str)} {v:Vl} {k:Kd} (h:k.hd≠"row"):mfR f v k=none:=by
 cases v <;> cases k <;> first | rfl | exact absurd rfl h
theorem ZbM (T:Tx K mg base a):∀ n:Nat,n≤90→Df P w K mg base "misfit_of" (3*n+2) 2 (Zz1 n)
 | 0,_=>Zlz T.ZiD ZcD fun ws G Q E ⟨x,⟨_,h⟩,_⟩=>by have:=Zhl x.2;have:=h.2.2.2;omega
 | n+1,hn=>by
  refine mk0 (k:=3*n+4) T.ZiD rfl Zh4 ZcD (fun ws G Q E ⟨_,⟨e,_⟩,_⟩=>by rw [e];rfl) (ZmX T (Zgs T) (by omega) (Zcu T (n:=n) (j:=3*n+3) (by omega) (by omega) (ZbX T (ZbM T n (by omega)))) (by omega)) fun ws G Q E hC q=>?_
  obtain ⟨⟨v,k⟩,⟨rfl,hv⟩,q⟩:=q
  dsimp only at hv q
  rw [mf] at q
  unfold ZiG
  show Zat (gIf _ _ Zan) _ (ZaL Q) [some v.enc,some k.enc] G
  refine ZhT rfl ?_
  by_cases ha:k.hd="any"
  ·rw [if_pos ha] at q ⊢
   exact q
  rw [if_neg ha] at q ⊢
  simp only [Zat,gIf,gTB,Zak,Zar,Zah,Zae,gC,L3.Zaa,L3.Zaj,List.getElem?_cons_zero,List.getElem?_cons_succ]
  refine ⟨v,rfl,?_⟩
  dsimp only
  rw [Zf1,Zaf]
  simp only [eqF,eqW,Option.map_some,Zaf]
  by_cases hh:v.hd=k.hd
  ·rw [if_pos hh] at q
   rw [show (v.hd==k.hd)=true by simp [hh]]
   simp only [bne_self_eq_false,Bool.false_eq_true,if_false,Zan,Zay,Zgi,gTB,Zak,Zar,Zae,gC,List.getElem?_cons_zero,List.getElem?_cons_succ,Zf1,Zaf,eqF,eqW,Option.map_some]
   by_cases hr:k.hd="row"
   ·simp only [hr,beq_self_eq_true,show (true != false)=true from rfl,if_true]
    obtain ⟨fs,o,rfl⟩:=ZqS hr
    obtain ⟨ps,rfl⟩:=Zsq (hh.trans hr)
    simp only [Zah,gB,Zae,L3.Zaa,L3.Zaj,List.getElem?_cons_zero,List.getElem?_cons_succ]
    refine ⟨ps.toW,by rw [Zml];rfl,by rw [Zie];exact Zp8 (Zgg hv.1).1,fun l hl=>?_⟩
    rw [ZpR]
    exact ⟨l,ps,fs,o,rfl,Zab,hv,hC _ _ _ (ZaS hl) q⟩
   ·rw [ZxB hr] at q
    have:(k.hd=="row")=false:=by simpa using hr
    simp only [this,bne_self_eq_false,Bool.false_eq_true,if_false]
    exact q
  ·rw [if_neg hh] at q
   rw [show (v.hd==k.hd)=false by simpa using hh]
   simp only [show (false != true)=true from rfl,if_true,Zay,L3.Zbq,L3.Zaj]
   exact ⟨by decide,q⟩
def vkg (v:Vl) (k:Kd):Prop:=vg v∧kd8 k∧k.dat=true
abbrev Zy6:Spw:=spR (fun (x:Vl×Kd) ws _=>ws=[x.1.enc,x.2.enc]∧vkg x.1 x.2) fun x=>pW (mf 8 x.1 x.2)
theorem Zdn (T:Tx K mg base a):Df P w K mg base "misfit" 27 2 Zy6:=by
 refine mk0 (k:=26) T.ZsT rfl ZnS ZcD (fun ws G Q E ⟨_,⟨e,_⟩,_⟩=>by rw [e];rfl) (Zsm T (ZbS T) (by omega) (Zc8 T) (by omega) (ZbM T 8 (by omega)) (by omega)) fun ws G Q E hC q=>?_
 obtain ⟨⟨v,k⟩,⟨rfl,h1,h2,h3⟩,q⟩:=q
 unfold Zn2
 walk_at "rd"
 exact ⟨k,⟨rfl,h2,h3⟩,v,⟨rfl,h1⟩,(v,k),⟨rfl,h1.1,h2.1,h3,h2.2.2⟩,q⟩
abbrev ZzH:Spw:=spR (fun (x:Vl×Kd) ws _=>ws=[x.1.enc,x.2.enc]∧vkg x.1 x.2) fun x=>.bl (mf 8 x.1 x.2).isNone
theorem Zs6 (c:Option (List Str)) (G:Hw):isF false (pW c) .non G=some (.bl c.isNone):=by cases c <;> rfl
theorem ZnF (T:Tx K mg base a):Df P w K mg base "fits" 28 2 ZzH:=by
 refine mk0 (k:=27) T.Zxt rfl Ztp ZcD (fun ws G Q E ⟨_,⟨e,_⟩,_⟩=>by rw [e];rfl) (Zwg T (Zdn T) (by omega)) fun ws G Q E hC q=>?_
 obtain ⟨⟨v,k⟩,⟨rfl,h⟩,q⟩:=q
 unfold Zs8
 walk_at "rd"
 refine ⟨(v,k),⟨rfl,h⟩,?_⟩
 dsimp only
 rw [Zs6,Zaf]
 exact q
abbrev Zis:List Str:=["value","head"]
theorem Ziv:Zau Zis ["value","head"] (Zai Zf6):=by walk_at "s"
def Zib:GS:=(Zat (gIf (Zcj (Zbb "bool" (Zae 0))) (Zay (Zak (Zar (eqF false)) (Zae 1) (gC (.str "truth")))) Zan) (Zat (gIf (Zcj (Zbb "int" (Zae 0))) (Zay (Zak (Zar (eqF false)) (Zae 1) (gC (.str "num")))) Zan) (Zay (Zak (Zar (eqF false)) (Zae 1) (gC (.str "row"))))))
theorem Zl9 {k:Nat} (T:Tx K mg base a):Dn P w K mg base Zis "_law_same" Zf6 k (Zib):=by
 have hN:=Ziv.nd
 walk_at "z"
abbrev Zgk:List Str:=["value","kind","there","told","name","path"]
theorem Zd7:Zau Zgk ["value","kind"] (Zai Zc6):=by walk_at "s"
def Zgl (Zdt:Spw) (ZaT:Spw):GS:=(Zat (gIf (gTB (Zak (Zar (eqF false)) (Zae 1) (Zbq (Zaa (gC (.str "any")) Zaj)))) (Zay (gC .non)) Zan) (Zat (gIf (gNt (Zcj (Zah Zdt XF (Zaa (Zae 0) (Zaa (Zak (Zar ixW) (Zae 1) (gC (.int 0))) Zaj))))) (Zay (Zbq Zaj)) Zan) (Zat (gIf (Zcj (Zbb "int" (Zae 0))) (Zay (gC .non)) Zan) (Zat (Zbj 2 (gB (ZlX) (Zaa (Zae 0) Zaj))) (Zat (Zbj 3 (gB (Zst) (Zaa (Zct (Zcv (Zak (Zar ixW) (Zae 1) (gC (.int 1)))) 3 [] (Zon 0 1 2) Zgh (Zbq (Zaa (Zae 0) (Zaa (Zbq (Zaa (Zae 1) (Zaa (Zae 2) Zaj))) Zaj)))) Zaj))) (Zat (Zee (Za7 (Zfy (Zak (Zgc) (gB (Zll) (Zaa (Zae 2) Zaj)) (gB (Zll) (Zaa (Zae 3) Zaj))))) (gNm 4) (gIf (gTB (Zak (Zar (inK true)) (Zae 4) (Zae 3))) (gIf (gNt (Zcj (Zak (Zar ixW) (Zae 1) (gC (.int 2))))) (Zay (Zbq (Zaa (Zae 4) Zaj))) Zan) (gIf (gTB (Zak (Zar (inK true)) (Zae 4) (Zae 2))) (gIf (gTB (Zak (Zar (eqF false)) (Zak (Zar ixW) (Zak (Zar ixK) (Zae 3) (Zae 4)) (gC (.int 0))) (gC (.str "must")))) (Zay (Zbq (Zaa (Zae 4) Zaj))) Zan) (Zat (Zbj 5 (Zah ZaT XF (Zaa (Zak (Zar ixK) (Zae 2) (Zae 4)) (Zaa (Zak (Zar ixW) (Zak (Zar ixK) (Zae 3) (Zae 4)) (gC (.int 1))) Zaj)))) (gIf (gTB (Zak (Zar (isF true)) (Zae 5) (gC .non))) (Zay (Zak (Zgc) (Zbq (Zaa (Zae 4) Zaj)) (Zae 5))) Zan))))) (Zay (gC .non))))))))
theorem ZkL {k:Nat} (T:Tx K mg base a) {Zeg:Nat} {Zdt:Spw} (Zuk:Df P w K mg base "_law_same" Zeg 2 Zdt) (Zvs:Zeg≤k) {Zbm:Nat} {ZaT:Spw} (Zka:Df P w K mg base "_law_misfit" Zbm 2 ZaT) (Zkh:Zbm≤k):Dn P w K mg base Zgk "_law_misfit" Zc6 k (Zgl Zdt ZaT):=fun {f cdv A outer s H E} hr =>
 have hu:=ZgQ hr
 have hN:=Zd7.nd
 (Zam (by walk_at "v") (Zam (by walk_at "v") (Zam (by walk_at "v") (Zam (by walk_at "v") (Zam (Zqq (i:=3) Zd7.nd rfl rfl rfl (ZaN ZaJ (Zck rfl) rfl T.Zbd (by decide) rfl rfl rfl (ZaG rfl (Zkk rfl (Zzv (own:=["name","mark","inner"]) (fr:=[]) (js:=[]) (scX:=Zai Zc6) (n:=s.heap.objs.size+1) rfl (by decide +kernel) (by decide +kernel) (by decide +kernel) (by decide +kernel) rfl rfl rfl (by decide +kernel) rfl) (fun _=>rfl) (by walk_at "v") (Zo1 (i:=0) (j:=1) (k:=2) rfl (by decide) rfl rfl rfl rfl rfl rfl) (fun C fp s1 H1=>Zbz) (fun C fp s1 H1=>(by walk_at "v"))) Zby))) (Zam (ZdY PassesOwn.never rfl (fun _=>rfl) (Ze0 (fun _ _=>rfl) (ZrV rfl T.Zas T.ZdD rfl rfl rfl rfl (by walk_at "v"))) (by walk_at "v") (by walk_at "v")) (by walk_at "v")))))))
theorem Ze9 {xs:List Str} (h:xs.Pairwise (fun x y=>ZaA x y=true)):xs.Nodup:=h.imp fun {x y} hxy e=>by rw [e,Zly] at hxy;cases hxy
theorem ZpA {k l:Kd} (h:k.dp≤25) (G:Hw):∃ c:Bool,eqF false k.enc l.enc G=some (.bl c)∧(c=true↔k=l):=by
 obtain ⟨c,e,i⟩:=plD k.enc l.enc (Zjr k) (Zjr l)
 have h':=Zle k
 obtain ⟨xs,hx⟩:=Znv k
 obtain ⟨ys,hy⟩:=Znv l
 refine ⟨c,?_,i.trans ⟨ZiF,fun z=>by rw [z]⟩⟩
 rw [hx] at h'
 have h2:L3.dpL xs+1≤3*k.dp:=h'
 rw [hx,hy] at e ⊢
 unfold eqF
 rw [show eqW (.tup xs) (.tup ys) G=eqD (.tup xs) (.tup ys) by
  show (if L3.dpL xs < 90 then ZhH xs ys else none)=_
  rw [if_pos (by omega),eqD],e]
 show some (W.bl (c != false))=_
 cases c <;> rfl
abbrev ZxQ:Spw:=spR (fun (x:Vl×Str) ws _=>ws=[x.1.enc,.str x.2]) fun x=>.bl (x.1.hd==x.2)
theorem eqS (x y:Str) (G:Hw):eqF false (.str x) (.str y) G=some (.bl (y==x)):=by
 unfold eqF eqW
 show some (W.bl ((x==y) != false))=_
 rw [BEq.comm (a:=x)]
 cases (y==x) <;> rfl
theorem Zeg (T:Tx K mg base a):Df P w K mg base "_law_same" 1 2 ZxQ:=by
 refine mk0 T.ZmS rfl Ziv ZcD (fun ws G Q E ⟨x,e,_⟩=>by rw [e];rfl) (Zl9 T) fun ws G Q E hC q=>?_
 obtain ⟨⟨v,h⟩,rfl,q⟩:=q
 unfold Zib
 show Zat (gIf _ _ Zan) _ (ZaL Q) [some v.enc,some (.str h)] G
 cases v with
 | int i =>
  simp only [Vl.enc,Zat,gIf,Zcj,Zbb,tyN,Zae,List.getElem?_cons_zero,List.getElem?_cons_succ,Zeo,Zay,Zan,Zak,Zar,gC,Zz8,Zv3,Bool.false_eq_true,if_false,if_true,eqS,Zaf]
  exact q
 | bl b =>
  simp only [Vl.enc,Zat,gIf,Zcj,Zbb,tyN,Zae,List.getElem?_cons_zero,List.getElem?_cons_succ,Zeo,Zay,Zan,Zak,Zar,gC,ZzP,if_true,eqS,Zaf]
  exact q
 | row ps =>
  simp only [Vl.enc,Zat,gIf,Zcj,Zbb,tyN,Zae,List.getElem?_cons_zero,List.getElem?_cons_succ,Zeo,Zay,Zan,Zak,Zar,gC,Zz9,Zv5,Bool.false_eq_true,if_false,eqS,Zaf]
  exact q
def Fs.tw:Fs→List (Str×W)
 | .nil=>[]
 | .cons n m k r=>(n,.tup [.str (Zek m),k.enc])::r.tw
def Fs.kv:Fs→List (Key×W)
 | .nil=>[]
 | .cons n m k r=>(Sum.inr n,.tup [.str (Zek m),k.enc])::r.kv
theorem Zye:∀ fs:Fs,fs.tw.map (fun y=>((Sum.inr y.1:Key),y.2))=fs.kv
 | .nil=>rfl
 | .cons n m k r=>by show (Sum.inr n,W.tup [.str (Zek m),k.enc])::r.tw.map (fun y=>((Sum.inr y.1:Key),y.2))=_::r.kv;rw [Zye r]
theorem Znr:∀ fs:Fs,fs.tw.map (·.1)=fs.names
 | .nil=>rfl
 | .cons n m k r=>by show n::r.tw.map (·.1)=n::r.names;rw [Znr r]
theorem Zlb:∀ fs:Fs,fs.kv.map (·.1)=fs.names.map Sum.inr
 | .nil=>rfl
 | .cons n m k r=>by show Sum.inr n::r.kv.map (·.1)=Sum.inr n::r.names.map Sum.inr;rw [Zlb r]
theorem Zkx:∀ (fs:Fs) (x:Str),atT fs.kv x=(fs.find x).map fun y=>.tup [.str (Zek y.1),y.2.enc]
 | .nil,x=>rfl
 | .cons n m k r,x=>by
  show atT ((Sum.inr n,W.tup [.str (Zek m),k.enc])::r.kv) x=_
  rw [ZgI]
  unfold Fs.find
  by_cases e:n=x
  ·rw [if_pos e,if_pos (by rw [e])];rfl
  ·rw [if_neg e,if_neg (fun z=>e (Sum.inr.inj z))];exact Zkx r x
theorem Zu2 {G:Hw} {p:Addr} {fs:Fs} {x:Str} (neg:Bool) (h:G p=some (.dct fs.kv)):inK neg (.str x) (.ref p) G=some (.bl ((fs.find x).isSome != neg)):=by
 unfold inK
 dsimp only
 rw [h]
 dsimp only
 rw [Zkx]
 cases fs.find x <;> rfl
theorem ZpF {G:Hw} {p:Addr} {fs:Fs} {x:Str} {m:Bool} {k:Kd} (h:G p=some (.dct fs.kv)) (hv:fs.find x=some (m,k)):ixK (.ref p) (.str x) G=some (.tup [.str (Zek m),k.enc]):=by
 unfold ixK
 dsimp only
 rw [h]
 dsimp only
 rw [Zkx,hv];rfl
theorem ZpG {R:List W→Hw→Prop} {G:Hw}:∀ (fs:Fs) (o0 o1 o2:Option W) (ac:List W),ac.length+fs.names.length≤100→R (ac++fs.tw.map fun y=>.tup [.str y.1,y.2]) G →
  ZbK yes (Zon 0 1 2) Zgh (L3.Zbq (L3.Zaa (Zae 0) (L3.Zaa (L3.Zbq (L3.Zaa (Zae 1) (L3.Zaa (Zae 2) L3.Zaj))) L3.Zaj))) R fs.enc [o0,o1,o2] G ac
 | .nil,o0,o1,o2,ac,_,h=>⟨trivial,by rw [Fs.tw,List.map_nil,List.append_nil] at h;exact h⟩
 | .cons x m k r,o0,o1,o2,ac,hl,h=>by
  have hl':ac.length+(r.names.length+1)≤100:=hl
  refine ⟨trivial,Zea (by omega),?_⟩
  show L3.Zbq (L3.Zaa (Zae 0) (L3.Zaa (L3.Zbq (L3.Zaa (Zae 1) (L3.Zaa (Zae 2) L3.Zaj))) L3.Zaj)) [some (.str x),some (.str (Zek m)),some k.enc] G fun y G3=>ZbK yes (Zon 0 1 2) Zgh (L3.Zbq (L3.Zaa (Zae 0) (L3.Zaa (L3.Zbq (L3.Zaa (Zae 1) (L3.Zaa (Zae 2) L3.Zaj))) L3.Zaj))) R r.enc [some (.str x),some (.str (Zek m)),some k.enc] G3 (ac++[y])
  simp only [L3.Zbq,L3.Zaa,L3.Zaj,Zae,List.getElem?_cons_zero,List.getElem?_cons_succ]
  refine ⟨(show 2≤sizeLine by decide),(show 2≤sizeLine by decide),?_⟩
  refine ZpG r _ _ _ _ (by rw [List.length_append];simp only [List.length_cons,List.length_nil];omega) ?_
  rw [List.append_assoc];exact h
abbrev ZyQ (n:Nat):Spw:=spR (fun (x:Vl×Kd) ws _=>ws=[x.1.enc,x.2.enc]∧vk n x.1 x.2) fun x=>pW (mf n x.1 x.2)
abbrev gLB (sp:Spw):GS:=gIf (gTB (Zak (Zar (inK true)) (Zae 4) (Zae 3))) (gIf (gNt (Zcj (Zak (Zar ixW) (Zae 1) (gC (.int 2))))) (Zay (L3.Zbq (L3.Zaa (Zae 4) L3.Zaj))) Zan) (gIf (gTB (Zak (Zar (inK true)) (Zae 4) (Zae 2))) (gIf (gTB (Zak (Zar (eqF false)) (Zak (Zar ixW) (Zak (Zar ixK) (Zae 3) (Zae 4)) (gC (.int 0))) (gC (.str "must")))) (Zay (L3.Zbq (L3.Zaa (Zae 4) L3.Zaj))) Zan) (Zat (Zbj 5 (Zah sp XF (L3.Zaa (Zak (Zar ixK) (Zae 2) (Zae 4)) (L3.Zaa (Zak (Zar ixW) (Zak (Zar ixK) (Zae 3) (Zae 4)) (gC (.int 1))) L3.Zaj)))) (gIf (gTB (Zak (Zar (isF true)) (Zae 5) (gC .non))) (Zay (Zak Zgc (L3.Zbq (L3.Zaa (Zae 4) L3.Zaj)) (Zae 5))) Zan)))
theorem Zyb (c:Option (List Str)) (G:Hw):isF true (pW c) .non G=some (.bl (!c.isNone)):=by cases c <;> rfl
theorem Zql {n:Nat} {D:Ew} {gd:Hw→Prop} {G:Hw} {ps:Ps} {fs:Fs} {o:Bool} {p r:Addr} {w0:Option W} (hgd:gd G) (hn:n≤90) (hp:G p=some (.dct ps.kv)) (hr:G r=some (.dct fs.kv)) (hs:∀ x v m k,ps.find x=some v→ent fs o x=.told m k→vk n v k):∀ (xs:List Str) (o4 o5:Option W),(∀ x∈xs,ps.find x=none→fs.find x≠none) →
  (∀ q,ZoN (xs.map fun x=>(x,mfE (mf n) (ps.find x) (ent fs o x)))=some q→D.rt (pW (some q)) G)→(ZoN (xs.map fun x=>(x,mfE (mf n) (ps.find x) (ent fs o x)))=none→∀ o4 o5,D.nx [w0,some (Kd.row fs o).enc,some (.ref p),some (.ref r),o4,o5] G) →
  Zcz gd (gNm 4) (gLB (ZyQ n)) D (xs.map W.str) [w0,some (Kd.row fs o).enc,some (.ref p),some (.ref r),o4,o5] G
 | [],o4,o5,_,_,h=>⟨hgd,h rfl o4 o5⟩
 | x::xs,o4,o5,hx,hb,h=>by
  have next:mfE (mf n) (ps.find x) (ent fs o x)=none→∀ o5,Zcz gd (gNm 4) (gLB (ZyQ n)) D (xs.map W.str) [w0,some (Kd.row fs o).enc,some (.ref p),some (.ref r),some (.str x),o5] G:=fun e o5=>by
   refine Zql hgd hn hp hr hs xs _ _ (fun y hy=>hx y (List.mem_cons_of_mem _ hy)) (fun q z=>hb q ?_) (fun z=>h ?_)
   ·rw [List.map_cons,e];exact z
   ·rw [List.map_cons,e];exact z
  have stop:∀ q,mfE (mf n) (ps.find x) (ent fs o x)=some q→D.rt (pW (some (x::q))) G:=fun q e=>hb _ (by rw [List.map_cons,e];rfl)
  have hx0:=hx x List.mem_cons_self
  refine ⟨hgd,?_⟩
  show gLB (ZyQ n) _ [w0,some (Kd.row fs o).enc,some (.ref p),some (.ref r),some (.str x),o5] G
  simp only [gIf,gTB,Zak,Zar,Zae,List.getElem?_cons_zero,List.getElem?_cons_succ,Zu2 true hr,Zaf]
  cases hf:fs.find x with
  | none =>
   have ee:ent fs o x=if o then .free else .nope:=by unfold ent;rw [hf]
   rw [ee] at next stop
   simp only [Option.isSome_none,show (false != true)=true from rfl,if_true,gNt,Zcj,gC,Kd.enc,ixW,Zdz,Zaf,Zeo]
   cases hv:ps.find x with
   | none=>exact absurd hf (hx0 hv)
   | some v =>
    rw [hv] at next stop
    cases o with
    | true=>exact next rfl _
    | false=>exact ⟨(show 1≤sizeLine by decide),stop [] rfl⟩
  | some mk =>
   obtain ⟨m,k⟩:=mk
   have ee:ent fs o x=.told m k:=by unfold ent;rw [hf]
   rw [ee] at next stop
   simp only [Option.isSome_some,show (true != true)=false from rfl,Bool.false_eq_true,if_false,Ztb true hp,Zaf]
   cases hv:ps.find x with
   | none =>
    rw [hv] at next stop
    simp only [Option.isSome_none,show (false != true)=true from rfl,if_true,gC,ZpF hr hf,ixW,Zc7,Zaf,ZzJ]
    cases m with
    | true=>exact ⟨(show 1≤sizeLine by decide),stop [] rfl⟩
    | false=>exact next rfl _
   | some v =>
    rw [hv] at next stop
    simp only [Option.isSome_some,show (true != true)=false from rfl,Bool.false_eq_true,if_false,Zat,Zbj,Zah,L3.Zaa,L3.Zaj,Zak,Zar,Zae,gC,List.getElem?_cons_zero,List.getElem?_cons_succ,Zte hp hv,ZpF hr hf,ixW,ZcW,Zaf]
    refine ⟨(v,k),⟨rfl,hs x v m k hv ee⟩,?_⟩
    simp only [List.set_cons_zero,List.set_cons_succ,List.getElem?_cons_zero,List.getElem?_cons_succ,Zyb,Zaf]
    have e2:mfE (mf n) (some v) (.told m k)=mf n v k:=rfl
    rw [e2] at next stop
    cases hm:mf n v k with
    | none=>exact next hm _
    | some q =>
     have hq:=ZnM n v k q hm
     simp only [Option.isNone_some,Bool.not_false,if_true,Zay,Zak,L3.Zbq,L3.Zaa,L3.Zaj,Zae,List.getElem?_cons_zero,List.getElem?_cons_succ,pW,ZbI]
     exact ⟨(show 1≤sizeLine by decide),Za0 (by rw [List.length_map];simp only [List.length_cons,List.length_nil];omega),stop q hm⟩
theorem ZjM:∀ {ps:Ps} {x:Str},x∈ps.names→ps.find x≠none
 | .cons n v r,x,h=>by
  show (if n=x then some v else r.find x)≠none
  by_cases e:n=x
  ·rw [if_pos e];intro z;cases z
  ·rw [if_neg e]
   walk_at "pr"
   ·exact absurd rfl e
   ·exact ZjM h
theorem Zmi {fs:Fs} {x:Str} (h:x∈fs.names):fs.find x≠none:=by
 obtain ⟨m,k,e⟩:=Zlh h
 rw [e];intro z;cases z
theorem Zbm (T:Tx K mg base a):∀ n:Nat,n≤20→Df P w K mg base "_law_misfit" (n+1) 2 (ZyQ n)
 | 0,_=>Zlz T.Zgo ZcD fun ws G Q E ⟨x,⟨_,h⟩,_⟩=>by have:=Zhl x.2;have:=h.2.2.2;omega
 | n+1,hn=>by
  refine mk0 (k:=n+1) T.Zgo rfl Zd7 ZcD (fun ws G Q E ⟨_,⟨e,_⟩,_⟩=>by rw [e];rfl) (ZkL T (Zeg T) (by omega) (Zbm T n (by omega)) (Nat.le_refl _)) fun ws G Q E hC q=>?_
  obtain ⟨⟨v,k⟩,⟨rfl,hv⟩,q⟩:=q
  dsimp only at hv q
  rw [mf] at q
  unfold Zgl
  show Zat (gIf _ _ Zan) _ (ZaL Q) [some v.enc,some k.enc,none,none,none,none] G
  obtain ⟨c,ec,ic⟩:=ZpA (k:=k) (l:=.any) (show k.dp≤25 by have:=hv.2.2.2;omega) G
  simp only [Zat,gIf,gTB,Zak,Zar,Zae,gC,L3.Zbq,L3.Zaa,L3.Zaj,List.getElem?_cons_zero,List.getElem?_cons_succ]
  refine ⟨by decide,?_⟩
  show opt (eqF false k.enc Kd.any.enc G) _
  rw [ec,Zaf]
  dsimp only
  cases c with
  | true =>
   rw [ic.mp rfl] at q
   exact q
  | false =>
   have ha:k.hd≠"any":=fun z=>by
    have:k=.any:=by cases k <;> first | rfl | exact absurd z (by simp only [Kd.hd];decide)
    exact absurd (ic.mpr this) (by decide)
   rw [if_neg ha] at q
   rw [if_neg (by decide)]
   simp only [Zat,gIf,Zan,gNt,Zcj,Zah,Zak,Zar,Zae,gC,L3.Zaa,L3.Zaj,List.getElem?_cons_zero,List.getElem?_cons_succ,Zf1,Zaf]
   refine ⟨(v,k.hd),rfl,?_⟩
   simp only [Zeo]
   by_cases hh:v.hd=k.hd
   ·rw [if_pos hh] at q
    rw [show (v.hd==k.hd)=true by simp [hh]]
    simp only [Bool.not_true,Bool.false_eq_true,if_false,Zan,Zat,gIf,Zcj,Zbb,Zae,List.getElem?_cons_zero]
    cases v with
    | int i =>
     simp only [Vl.enc,tyN,Zv3,Zeo,if_true,Zay,gC]
     have:mfR (mf n) (.int i) k=none:=by cases k <;> rfl
     rw [this] at q;exact q
    | bl b =>
     simp only [Vl.enc,tyN,ZyR,Zeo,if_true,Zay,gC]
     have:mfR (mf n) (.bl b) k=none:=by cases k <;> rfl
     rw [this] at q;exact q
    | row ps =>
     obtain ⟨fs,o,rfl⟩:=ZqS hh.symm
     have n1:=Zkr hv.1
     have n2:=ZnA hv.2.1
     simp only [Vl.enc,tyN,Zv5,Zeo,Bool.false_eq_true,if_false,Zbj,gB,L3.Zaa,L3.Zaj,Zae,List.getElem?_cons_zero]
     refine ⟨ps.toW,by rw [Zml],by rw [Zie];exact Zp8 (Zgg hv.1).1,fun p hp=>?_⟩
     rw [ZpR]
     simp only [List.set_cons_zero,List.set_cons_succ,Zct,Zcv,Zak,Zar,Zae,gC,Kd.enc,List.getElem?_cons_zero,List.getElem?_cons_succ,ixW,ZcW,Zaf]
     refine ZpG fs none none none [] (by simp only [List.length_nil];omega) fun p1 hp1=>?_
     rw [List.nil_append]
     refine ⟨p1,fs.tw,rfl,Zab,by rw [Znr];exact Ze9 (ZtH hv.2.1.1).1,fun r hr=>?_⟩
     rw [Zye]
     have s1:Sub G (put G p (.dct ps.kv)):=ZaS hp
     have f1:put G p (.dct ps.kv) p=some (.dct ps.kv):=Zab
     generalize put G p (.dct ps.kv)=G1 at s1 f1 hp1 hr ⊢
     have s2:Sub G1 (put G1 p1 (.lst (fs.tw.map fun y=>W.tup [.str y.1,y.2]))):=ZaS hp1
     generalize put G1 p1 (.lst (fs.tw.map fun y=>W.tup [.str y.1,y.2]))=G2 at s2 hr ⊢
     have s3:Sub G2 (put G2 r (.dct fs.kv)):=ZaS hr
     have f3:put G2 r (.dct fs.kv) r=some (.dct fs.kv):=Zab
     generalize put G2 r (.dct fs.kv)=G3 at s3 f3 ⊢
     simp only [List.set_cons_zero,List.set_cons_succ,Zee,Za7,Zfy,Zak,gB,L3.Zaa,L3.Zaj,Zae,List.getElem?_cons_zero,List.getElem?_cons_succ]
     have f4:G3 p=some (.dct ps.kv):=s3 _ _ (s2 _ _ f1)
     refine ⟨p,ps.kv,ps.names,rfl,f4,ZkV ps,fun q1 hq1=>?_⟩
     have s4:Sub G3 (put G3 q1 (.lst (ps.names.map W.str))):=ZaS hq1
     have f5:put G3 q1 (.lst (ps.names.map W.str)) q1=some (.lst (ps.names.map W.str)):=Zab
     generalize put G3 q1 (.lst (ps.names.map W.str))=G4 at s4 f5 ⊢
     refine ⟨r,fs.kv,fs.names,rfl,s4 _ _ f3,Zlb fs,fun q2 hq2=>?_⟩
     have s5:Sub G4 (put G4 q2 (.lst (fs.names.map W.str))):=ZaS hq2
     have f6:put G4 q2 (.lst (fs.names.map W.str)) q2=some (.lst (fs.names.map W.str)):=Zab
     generalize put G4 q2 (.lst (fs.names.map W.str))=G5 at s5 f6 ⊢
     dsimp only
     rw [ZgF (by rintro ⟨⟨_,h⟩,_⟩;cases h)]
     unfold L3.Zfj
     simp only [s5 _ _ f5,f6]
     refine ⟨Za0 (by rw [List.length_map,List.length_map];omega),fun q3 hq3=>?_⟩
     rw [← List.map_append]
     have s6:Sub G5 (put G5 q3 (.lst ((ps.names++fs.names).map W.str))):=ZaS hq3
     have f7:put G5 q3 (.lst ((ps.names++fs.names).map W.str)) q3=some (.lst ((ps.names++fs.names).map W.str)):=Zab
     generalize put G5 q3 (.lst ((ps.names++fs.names).map W.str))=G6 at s6 f7 ⊢
     refine ⟨ps.names++fs.names,ZcB f7,by rw [List.length_append];omega,fun zs q4 z1 z2 z3 z4=>?_⟩
     have hz:=ZtU z1 z2 z3
     simp only [Zab]
     have S6:Sub G3 (put G6 q4 (.lst (zs.map W.str))):=Zcs ((s4.trans s5).trans s6) z4
     have S0:Sub G (put G6 q4 (.lst (zs.map W.str))):=((s1.trans s2).trans s3).trans S6
     have q':Q (pW (ZoN (zs.map fun x=>(x,mfE (mf n) (ps.find x) (ent fs o x))))) G:=by rw [hz];exact q
     refine Zql (gd:=fun G'=>G' q4=some (.lst (zs.map W.str))) (fs:=fs) (o:=o) Zab (by omega) (S6 _ _ f4) (S6 _ _ f3) (Zxq hv) zs none none (fun x hx e=>?_) (fun u z=>?_) (fun z o2 o3=>?_)
     ·rcases List.mem_append.mp ((z3 x).mp hx) with h | h
      ·exact absurd e (ZjM h)
      ·exact Zmi h
     ·rw [z] at q'
      exact hC _ _ _ S0 q'
     ·rw [z] at q'
      exact hC _ _ _ S0 q'
   ·rw [if_neg hh] at q
    rw [show (v.hd==k.hd)=false by simpa using hh]
    simp only [Bool.not_false,if_true,Zay,L3.Zbq,L3.Zaj]
    exact ⟨by decide,q⟩
abbrev Zhq:List Str:=["state","deep","pick","found","name"]
theorem Zhf:Zau Zhq ["state","deep"] (Zai ZeN):=by walk_at "s"
def Zhi (Zac:Spw) (Za5:Spw):GS:=(Zat (Zbj 2 (Zah Zac XF (Zaa (Zae 0) (Zaa (gC (.int 7)) Zaj)))) (Zat (Zcr (Zak (Zb6 (fun _ _=>True) fun i j=>i - j) (Zak (Zar ixW) (Zae 0) (gC (.int 2))) (gC (.int 1))) (Zae 0) (gC (.int 2))) (Zat (gIf (gTB (Zak (Zar (eqF false)) (Zae 2) (gC (.int 0)))) (Zay (Zak (Zar (eqF false)) (Zah Zac XF (Zaa (Zae 0) (Zaa (gC (.int 2)) Zaj))) (gC (.int 1)))) Zan) (Zat (gIf (gOr (gTB (Zak (Zdw (fun i j=>decide (i < j)) ZaA) (Zae 2) (gC (.int 3)))) (gOr (gTB (Zak (Zdw (fun i j=>decide (i < j)) ZaA) (Zae 1) (gC (.int 2)))) (gTB (Zak (Zdw (fun i j=>decide (i < j)) ZaA) (Zak (Zar ixW) (Zae 0) (gC (.int 2))) (gC (.int 1)))))) (Zay (Zak (Zku) (Zak (Zar ixW) (Zb1 (Zaa (gC (.int 1)) (Zaa (ZyA (gC (.int 1))) Zaj))) (Zah Zac XF (Zaa (Zae 0) (Zaa (gC (.int 2)) Zaj)))) (Zah Zac XF (Zaa (Zae 0) (Zaa (Zak (Zar ixW) (Zb1 (Zaa (gC (.int 5)) (Zaa (Zak (Zb6 Zvj fun i j=>i ^ j.toNat) (gC (.int 10)) (gC (.int 30))) Zaj))) (Zak (Zb6 Zwa fun i j=>i / j) (Zah Zac XF (Zaa (Zae 0) (Zaa (gC (.int 6)) Zaj))) (gC (.int 5)))) Zaj))))) Zan) (Zat (Zbj 3 (Zb1 Zaj)) (Zat (Zee (Za7 (Zb1 (Zaa (gC (.str "a")) (Zaa (gC (.str "ab")) (Zaa (gC (.str "b")) (Zaa (gC (.str "c")) (Zaa (gC (.str "zzzzzzzz")) Zaj))))))) (gNm 4) (gIf (Zf2 (gTB (Zak (Zar (eqF false)) (Zah Zac XF (Zaa (Zae 0) (Zaa (gC (.int 2)) Zaj))) (gC (.int 1)))) (gTB (Zak (Zfg fun i j=>decide (j < i)) (Zak (Zar ixW) (Zae 0) (gC (.int 2))) (gC (.int 0))))) (Zbv (gMt Zf3 Zrm (Zae 3) (Zaa (Zbq (Zaa (Zae 4) (Zaa (Zah Za5 XF (Zaa (Zae 0) (Zaa (Zak (Zb6 (fun _ _=>True) fun i j=>i - j) (Zae 1) (gC (.int 1))) Zaj))) Zaj))) Zaj))) Zan)) (Zay (gB (rF ZhU) (Zaa (Zae 3) Zaj)))))))))
theorem Zlg {k:Nat} (T:Tx K mg base a) {Zal:Nat} {Zac:Spw} (ZbY:Df P w K mg base "_law_choice" Zal 2 Zac) (ZbW:Zal≤k) {ZbG:Nat} {Za5:Spw} (Zl4:Df P w K mg base "_law_value" ZbG 2 Za5) (Zl0:ZbG≤k):Dn P w K mg base Zhq "_law_value" ZeN k (Zhi Zac Za5):=fun {f cdv A outer s H E} hr =>
 have hu:=ZgQ hr
 have hN:=Zhf.nd
 (Zam (by walk_at "v") (Zam (by walk_at "v") (Zam (by walk_at "v") (Zam (Zgf (by walk_at "v") (Za3 (ZbZ (Zdb (Zia (fun _ _=>rfl) (Zez (ZaG rfl ZdT (ZaG rfl (ZxV ZdT) Zby))) (by walk_at "v")) (by walk_at "v")))) Zcb) (by walk_at "v")))))
abbrev ZeV:List Str:=["state","kind","found","name","mark","inner"]
theorem Ze1:Zau ZeV ["state","kind"] (Zai Zdc):=by walk_at "s"
def ZeW (Zac:Spw) (ZaH:Spw):GS:=(Zat (gIf (gTB (Zak (Zar (eqF false)) (Zak (Zar ixW) (Zae 1) (gC (.int 0))) (gC (.str "num")))) (Zay (Zak (Zb6 (fun _ _=>True) fun i j=>i - j) (Zah Zac XF (Zaa (Zae 0) (Zaa (gC (.int 9)) Zaj))) (gC (.int 4)))) Zan) (Zat (gIf (gTB (Zak (Zar (eqF false)) (Zak (Zar ixW) (Zae 1) (gC (.int 0))) (gC (.str "truth")))) (Zay (Zak (Zar (eqF false)) (Zah Zac XF (Zaa (Zae 0) (Zaa (gC (.int 2)) Zaj))) (gC (.int 1)))) Zan) (Zat (gIf (gTB (Zak (Zar (eqF false)) (Zak (Zar ixW) (Zae 1) (gC (.int 0))) (gC (.str "any")))) (Zay (Zak (Zar ixW) (Zb1 (Zaa (gC (.int 0)) (Zaa (gC (.bl true)) (Zaa (Zbq Zaj) (Zaa (Zbq (Zaa (Zbq (Zaa (gC (.str "b")) (Zaa (gC (.int 2)) Zaj))) Zaj)) Zaj))))) (Zah Zac XF (Zaa (Zae 0) (Zaa (gC (.int 4)) Zaj))))) Zan) (Zat (Zbj 2 Zlx) (Zat (Zee (Zcv (Zak (Zar ixW) (Zae 1) (gC (.int 1)))) (Zon 3 4 5) (gIf (gOr (gTB (Zak (Zar (eqF false)) (Zae 4) (gC (.str "must")))) (gTB (Zak (Zar (eqF false)) (Zah Zac XF (Zaa (Zae 0) (Zaa (gC (.int 2)) Zaj))) (gC (.int 1))))) (Zha (Zah ZaH XF (Zaa (Zae 0) (Zaa (Zae 5) Zaj))) (Zae 2) (Zae 3)) Zan)) (Zat (gIf (Zf2 (Zcj (Zak (Zar ixW) (Zae 1) (gC (.int 2)))) (gTB (Zak (Zar (eqF false)) (Zah Zac XF (Zaa (Zae 0) (Zaa (gC (.int 2)) Zaj))) (gC (.int 1))))) (Zha (gMt Zvo Zzd (Zae 2) (Zaa (gC (.str "b")) (Zaa (gC (.int 7)) Zaj))) (Zae 2) (gC (.str "b"))) Zan) (Zay (gB (rF ZhU) (Zaa (Zhz (Zae 2)) Zaj)))))))))
theorem ZiL {k:Nat} (T:Tx K mg base a) {Zal:Nat} {Zac:Spw} (ZbY:Df P w K mg base "_law_choice" Zal 2 Zac) (ZbW:Zal≤k) {ZaX:Nat} {ZaH:Spw} (Zh1:Df P w K mg base "_law_value_of" ZaX 2 ZaH) (Ziq:ZaX≤k):Dn P w K mg base ZeV "_law_value_of" Zdc k (ZeW Zac ZaH):=by
 have hN:=Ze1.nd
 walk_at "z"
abbrev ZgC:List Str:=["state","value","found","name","inner"]
theorem Zgm:Zau ZgC ["state","value"] (Zai Zeb):=by walk_at "s"
def Zgr (Zac:Spw) (ZaV:Spw):GS:=(Zat (gIf (gTB (Zak (Zar (eqF false)) (Zah Zac XF (Zaa (Zae 0) (Zaa (gC (.int 6)) Zaj))) (gC (.int 0)))) (Zay (Zak (Zar ixW) (Zb1 (Zaa (gC (.int 3)) (Zaa (gC (.bl false)) (Zaa (Zbq Zaj) (Zaa (Zbq (Zaa (Zbq (Zaa (gC (.str "a")) (Zaa (gC (.int 1)) Zaj))) Zaj)) Zaj))))) (Zah Zac XF (Zaa (Zae 0) (Zaa (gC (.int 4)) Zaj))))) Zan) (Zat (gIf (Zcj (Zbb "int" (Zae 1))) (Zay (Zae 1)) Zan) (Zat (Zbj 2 Zlx) (Zat (Zee (Zcv (Zae 1)) (ZmU 3 4) (gIf (gTB (Zak (Zfg fun i j=>decide (j < i)) (Zah Zac XF (Zaa (Zae 0) (Zaa (gC (.int 8)) Zaj))) (gC (.int 0)))) (Zha (Zah ZaV XF (Zaa (Zae 0) (Zaa (Zae 4) Zaj))) (Zae 2) (Zae 3)) Zan)) (Zat (gIf (gTB (Zak (Zar (eqF false)) (Zah Zac XF (Zaa (Zae 0) (Zaa (gC (.int 8)) Zaj))) (gC (.int 1)))) (Zha (gMt Zvo Zzd (Zae 2) (Zaa (gC (.str "c")) (Zaa (gC (.int 0)) Zaj))) (Zae 2) (gC (.str "c"))) Zan) (Zay (gB (rF ZhU) (Zaa (Zhz (Zae 2)) Zaj))))))))
theorem Zj6 {k:Nat} (T:Tx K mg base a) {Zal:Nat} {Zac:Spw} (ZbY:Df P w K mg base "_law_choice" Zal 2 Zac) (ZbW:Zal≤k) {Zbi:Nat} {ZaV:Spw} (Zkb:Df P w K mg base "_law_turned" Zbi 2 ZaV) (ZkT:Zbi≤k):Dn P w K mg base ZgC "_law_turned" Zeb k (Zgr Zac ZaV):=by
 have hN:=Zgm.nd
 walk_at "z"
abbrev ZgM:List Str:=["value"]
theorem ZgL:Zau ZgM ["value"] (Zai Zel):=by walk_at "s"
def ZgB (ZaU:Spw):GS:=(Zat (gIf (Zcj (Zbb "int" (Zae 0))) (Zay (gC (.int 1))) Zan) (Zay (Zak (Zgc) (gC (.int 1)) (gB (Zto) (Zaa (ZbU (Zcv (Zae 0)) 2 (ZmU 0 1) Zgh (Zah ZaU XF (Zaa (Zae 1) Zaj))) Zaj)))))
theorem Zj1 {k:Nat} (T:Tx K mg base a) {Zbl:Nat} {ZaU:Spw} (Zkt:Df P w K mg base "_law_values" Zbl 1 ZaU) (Zkn:Zbl≤k):Dn P w K mg base ZgM "_law_values" Zel k (ZgB ZaU):=fun {f cdv A outer s H E} hr =>
 have hu:=ZgQ hr
 have hN:=ZgL.nd
 (Zam (by walk_at "v") (Za3 (ZbZ (Zdh ZdT (ZaO ZeK (Zdd rfl) rfl T.Zic (by decide) rfl rfl rfl (ZaG rfl (Zc3 (Nc:=["name","inner"]) rfl (ZoO rfl (by decide +kernel) (by decide +kernel)) (fun _=>rfl) (by walk_at "v") (ZqH (i:=0) (j:=1) rfl (by decide) rfl rfl rfl rfl) (fun C fp s1 H1=>Zbz) (fun C fp s1 H1=>(by walk_at "v"))) Zby))))))
abbrev Zdk:List Str:=["script","k","kind","state","way","value","turned","some"]
theorem Zdo:Zau Zdk ["script","k","kind"] (Zai Zcp):=by walk_at "s"
def Zdm (Za6:Spw) (Zac:Spw) (Za5:Spw) (ZaH:Spw) (ZaV:Spw) (ZaU:Spw):GS:=(Zat (Zbj 3 (Zak (Zgc) (Zah Za6 XF (Zaa (Zae 0) (Zaa (Zae 1) Zaj))) (Zb1 (Zaa (gC (.int 12)) Zaj)))) (Zat (Zbj 4 (Zah Zac XF (Zaa (Zae 3) (Zaa (gC (.int 4)) Zaj)))) (Zat (gIf (gTB (Zak (Zar (eqF false)) (Zae 4) (gC (.int 0)))) (Zay (Zah Za5 XF (Zaa (Zae 3) (Zaa (gC (.int 4)) Zaj)))) Zan) (Zat (Zbj 5 (Zah ZaH XF (Zaa (Zae 3) (Zaa (Zae 2) Zaj)))) (Zat (Zbj 6 (Zae 5)) (Zat (gIf (gTB (Zak (Zar (eqF false)) (Zae 4) (gC (.int 1)))) (Zbj 6 (Zah ZaV XF (Zaa (Zae 3) (Zaa (Zae 5) Zaj)))) Zan) (Zat (Zee (Za7 (Zb1 (Zaa (Zae 6) (Zaa (Zae 5) Zaj)))) (gNm 7) (gIf (gTB (Zak (Zdw (fun i j=>decide (i < j)) ZaA) (Zah ZaU XF (Zaa (Zae 7) Zaj)) (gC (.int 101)))) (Zay (Zae 7)) Zan)) (Zay (gC (.int 0))))))))))
theorem ZgA {k:Nat} (T:Tx K mg base a) {Zbs:Nat} {Za6:Spw} (Zk1:Df P w K mg base "_law_state" Zbs 2 Za6) (Zld:Zbs≤k) {Zal:Nat} {Zac:Spw} (ZbY:Df P w K mg base "_law_choice" Zal 2 Zac) (ZbW:Zal≤k) {ZbG:Nat} {Za5:Spw} (Zl4:Df P w K mg base "_law_value" ZbG 2 Za5) (Zl0:ZbG≤k) {ZaX:Nat} {ZaH:Spw} (Zh1:Df P w K mg base "_law_value_of" ZaX 2 ZaH) (Ziq:ZaX≤k) {Zbi:Nat} {ZaV:Spw} (Zkb:Df P w K mg base "_law_turned" Zbi 2 ZaV) (ZkT:Zbi≤k) {Zbl:Nat} {ZaU:Spw} (Zkt:Df P w K mg base "_law_values" Zbl 1 ZaU) (Zkn:Zbl≤k):Dn P w K mg base Zdk "_law_drawn_value" Zcp k (Zdm Za6 Zac Za5 ZaH ZaV ZaU):=by
 have hN:=Zdo.nd
 walk_at "z"
theorem sum_nat:∀ cs:List Nat,(cs.map fun c:Nat=>(c:Int)).sum=((cs.sum:Nat):Int)
 | []=>rfl
 | c::cs=>by rw [List.map_cons,List.sum_cons,List.sum_cons,sum_nat cs];omega
theorem ZnC:∀ (cs:List Nat) (j:Nat),(cs.take j).sum≤cs.sum
 | [],j=>by simp
 | c::cs,0=>by simp
 | c::cs,j+1=>by have:=ZnC cs j;rw [List.take_succ_cons,List.sum_cons,List.sum_cons];omega
theorem ZmY:∀ {cs:List Nat} {c:Nat},c∈cs→c≤cs.sum
 | d::cs,c,h=>by
  rw [List.sum_cons]
  walk_at "pr"
  ·omega
  ·have:=ZmY h;omega
theorem Zqw {i:Int} (h0:0≤i) (h1:i≤1000000):InLong i:=by unfold InLong;omega
theorem Zsl (cs:List Nat) (h:cs.sum≤1000000):PyProof.Rows.SumFits (cs.map fun c:Nat=>(c:Int)):=by
 intro j hj
 rw [List.length_map] at hj
 refine ⟨?_,?_⟩
 ·have e:(cs.map fun c:Nat=>(c:Int)).getD j 0=(cs[j]:Int):=by rw [List.getD_eq_getElem?_getD,List.getElem?_map,List.getElem?_eq_getElem hj];rfl
  have:=ZmY (List.getElem_mem hj)
  rw [e];exact Zqw (by omega) (by omega)
 ·rw [← List.map_take,sum_nat]
  have:=ZnC cs (j+1)
  exact Zqw (by omega) (by omega)
theorem Zxa {G:Hw} {cs:List Nat} {Q:Kw} (h:cs.sum≤1000000) (hC:Kw.C Q) (q:Q (.int (1+(cs.sum:Nat))) G) {p:Addr} (hp:G p=none):Zto [.ref p] (put G p (.lst (cs.map fun c:Nat=>W.int (c:Int)))) fun y G1=>Zgc (.int 1) y G1 Q:=by
 unfold Zto
 simp only [ZcB Zab,Option.bind_some]
 rw [show (cs.map fun c:Nat=>W.int (c:Int))=(cs.map fun c:Nat=>(c:Int)).map W.int by rw [List.map_map];rfl,L3.ZnB]
 dsimp only
 refine ⟨Zsl cs h,?_⟩
 rw [sum_nat]
 exact hC _ _ _ (ZaS hp) q
theorem Zxg {n:Nat} (h:n≤1000000):n < sizeLine:=by unfold sizeLine;omega
theorem Zvi (i:Int) (G:Hw):eqF false (.int i) (.int 1) G=some (.bl (i==1)):=by unfold eqF eqW;show some (W.bl ((i==1) != false))=_;cases (i==1) <;> rfl
theorem Zs9 {G G':Hw} {s p:Addr} {x x':Int} {b:Bool} {r:List W} (hs:G s=some (S2 x b r)) (hp:G p=none) (f1:G' s=some (S2 x' b r)) (f3:∀ c,c≠s→c≠p→∀ u,G c=some u→G' c=some u):Sub (put G s (S2 x' b r)) G':=fun c u hu=>by
 by_cases hc:c=s
 ·subst hc;rw [Zab] at hu;rw [f1];exact hu
 ·rw [Zag hc] at hu
  exact f3 c hc (fun z=>by subst z;rw [hp] at hu;cases hu) u hu
abbrev Pr:=List (Str×Vl)
def ofP:Pr→Ps
 | []=>.nil
 | y::l=>.cons y.1 y.2 (ofP l)
def ZkX (y:Str×Vl):W:=.tup [.str y.1,y.2.enc]
theorem Zpc:∀ l:Pr,(ofP l).enc=l.map ZkX
 | []=>rfl
 | y::l=>by show ZkX y::(ofP l).enc=ZkX y::l.map ZkX;rw [Zpc l]
theorem Zik:∀ l:Pr,(ofP l).names=l.map (·.1)
 | []=>rfl
 | y::l=>by show y.1::(ofP l).names=y.1::l.map (·.1);rw [Zik l]
theorem Zg9:∀ l:Pr,(ofP l).cnt=(l.map fun y=>y.2.cnt).sum
 | []=>rfl
 | y::l=>by rw [List.map_cons,List.sum_cons,← Zg9 l];rfl
theorem ZnU {n:Nat}:∀ l:Pr,(∀ y∈l,y.2.dp≤n)→(ofP l).dp≤n
 | [],_=>Nat.zero_le _
 | y::l,h=>by
  have h1:=h y List.mem_cons_self
  have h2:=ZnU l fun z hz=>h z (List.mem_cons_of_mem _ hz)
  show max y.2.dp (ofP l).dp≤n;omega
theorem Ztg {m:Nat}:∀ l:Pr,(∀ y∈l,Za1 y.1=true∧y.2.ok m=true)→(ofP l).ok m=true
 | [],_=>rfl
 | y::l,h=>by
  obtain ⟨h1,h2⟩:=h y List.mem_cons_self
  show (Za1 y.1&&y.2.ok m&&(ofP l).ok m)=true
  rw [h1,h2,Ztg l fun z hz=>h z (List.mem_cons_of_mem _ hz)];rfl
theorem Zip {m:Nat} {l:Pr} (h1:(l.map (·.1)).Pairwise (fun x y=>ZaA x y=true)) (h2:l.length≤m) (h3:∀ y∈l,Za1 y.1=true∧y.2.ok m=true):(Vl.row (ofP l)).ok m=true:=by
 show (rise (ofP l).names&&(decide ((ofP l).names.length≤m)&&(ofP l).ok m))=true
 rw [Zik,ZmL h1,Ztg l h3,List.length_map,decide_eq_true h2];rfl
theorem ZhK (l:Pr):(Vl.row (ofP l)).enc=.tup (l.map ZkX):=by rw [← Zpc];rfl
def Ps.toP:Ps→Pr
 | .nil=>[]
 | .cons n v r=>(n,v)::r.toP
theorem Zo5:∀ ps:Ps,ofP ps.toP=ps
 | .nil=>rfl
 | .cons n v r=>by show Ps.cons n v (ofP r.toP)=_;rw [Zo5 r]
theorem Zvw {m:Nat} {l:Pr} (h:(Vl.row (ofP l)).ok m=true):(l.map (·.1)).Pairwise (fun x y=>ZaA x y=true)∧l.length≤m∧∀ y∈l,Za1 y.1=true∧y.2.ok m=true:=by
 obtain ⟨h1,h2⟩:=Zgg h
 have h3:=Zkr h
 rw [Zik] at h1 h3
 rw [List.length_map] at h3
 refine ⟨ZhX h1,h3,?_⟩
 have go:∀ l:Pr,(ofP l).ok m=true→∀ y∈l,Za1 y.1=true∧y.2.ok m=true:=by
  intro l
  induction l with
  | nil=>intro _ y hy;cases hy
  | cons z l ih =>
   intro g y hy
   have g':(Za1 z.1&&z.2.ok m&&(ofP l).ok m)=true:=g
   simp only [Bool.and_eq_true] at g'
   walk_at "ps"
   ·exact g'.1
   ·exact ih g'.2 y hy
 exact go l h2
theorem ZmC {l:Pr}:∀ y∈l,y.2.dp≤(ofP l).dp:=by
 induction l with
 | nil=>intro y hy;cases hy
 | cons z l ih =>
  intro y hy
  show _≤max z.2.dp (ofP l).dp
  walk_at "ps"
  ·exact Nat.le_max_left _ _
  ·exact Nat.le_trans (ih y hy) (Nat.le_max_right _ _)
mutual
theorem ZhN:∀ {m n:Nat} (v:Vl),m≤n→v.ok m=true→v.ok n=true
 | m,n,.int _,_,_=>rfl
 | m,n,.bl _,_,_=>rfl
 | m,n,.row ps,h,hv=>by
  obtain ⟨h1,h2⟩:=Zgg hv
  have h3:=Zkr hv
  show (rise ps.names&&(decide (ps.names.length≤n)&&ps.ok n))=true
  rw [h1,Zna ps h h2,decide_eq_true (Nat.le_trans h3 h)];rfl
theorem Zna:∀ {m n:Nat} (ps:Ps),m≤n→ps.ok m=true→ps.ok n=true
 | m,n,.nil,_,_=>rfl
 | m,n,.cons x v r,h,hv=>by
  have h':(Za1 x&&v.ok m&&r.ok m)=true:=hv
  walk_at "pg"
  show (Za1 x&&v.ok n&&r.ok n)=true
  rw [h'.1.1,ZhN v h h'.1.2,Zna r h h'.2];rfl
end
theorem Zsp {l l':Pr} (h:l'.Perm l):(l'.map fun y=>y.2.cnt).sum=(l.map fun y=>y.2.cnt).sum:=(h.map _).sum_nat
theorem Ztk {l:Pr} (h:(l.map (·.1)).Nodup):l.Nodup:=List.Pairwise.of_map _ (fun a b hab e=>hab (by rw [e])) h
theorem Zp3 {l l':Pr} (h1:(l'.map (·.1)).Nodup) (h2:(l.map (·.1)).Nodup) (h:∀ y,y∈l'↔y∈l):l'.Perm l:=(List.perm_ext_iff_of_nodup (Ztk h1) (Ztk h2)).mpr h
abbrev Zuy (n:Nat):Spw:=spR (fun (v:Vl) ws _=>ws=[v.enc]∧v.dp≤n∧v.cnt≤1000000) fun v=>.int v.cnt
theorem ZoT {n:Nat} {R:List W→Hw→Prop} {G:Hw}:∀ (l:Pr) (o0 o1:Option W) (ac:List W),(∀ y∈l,y.2.dp≤n∧y.2.cnt≤1000000)→ac.length+l.length < sizeLine→R (ac++l.map fun y=>W.int y.2.cnt) G →
  ZbK yes (ZmU 0 1) Zgh (Zah (Zuy n) XF (L3.Zaa (Zae 1) L3.Zaj)) R (l.map ZkX) [o0,o1] G ac
 | [],o0,o1,ac,_,_,h=>⟨trivial,by rw [List.map_nil,List.append_nil] at h;exact h⟩
 | y::l,o0,o1,ac,hy,hl,h=>by
  rw [List.length_cons] at hl
  refine ⟨trivial,by omega,?_⟩
  show Zah (Zuy n) XF (L3.Zaa (Zae 1) L3.Zaj) [some (.str y.1),some y.2.enc] G fun z G3=>ZbK yes (ZmU 0 1) Zgh (Zah (Zuy n) XF (L3.Zaa (Zae 1) L3.Zaj)) R (l.map ZkX) [some (.str y.1),some y.2.enc] G3 (ac++[z])
  refine ⟨y.2,⟨rfl,hy y List.mem_cons_self⟩,?_⟩
  refine ZoT l _ _ _ (fun z hz=>hy z (List.mem_cons_of_mem _ hz)) (by rw [List.length_append];simp only [List.length_cons,List.length_nil];omega) ?_
  rw [List.append_assoc];exact h
theorem ZnX:∀ l:Pr,l.length≤(l.map fun y=>y.2.cnt).sum
 | []=>Nat.zero_le _
 | y::l=>by have:=ZnX l;have:=Zpz y.2;rw [List.map_cons,List.sum_cons,List.length_cons];omega
theorem Zbl (T:Tx K mg base a):∀ n:Nat,Df P w K mg base "_law_values" (n+1) 1 (Zuy n)
 | 0=>Zlz T.Zgw ZcD fun ws G Q E ⟨v,⟨_,hd,_⟩,_⟩=>by have:=ZvA v;omega
 | n+1=>by
  refine mk0 T.Zgw rfl ZgL ZcD (fun ws G Q E ⟨x,⟨e,_⟩,_⟩=>by rw [e];rfl) (Zj1 T (Zbl T n) (Nat.le_refl _)) fun ws G Q E hC q=>?_
  obtain ⟨v,⟨rfl,hd,hc⟩,q⟩:=q
  dsimp only at hd hc q
  unfold ZgB
  show Zat (gIf _ _ Zan) _ (ZaL Q) [some v.enc] G
  simp only [Zat,gIf,Zcj,Zbb,Zae,List.getElem?_cons_zero]
  cases v with
  | int i =>
   simp only [Vl.enc,tyN,Zv3,Zeo,if_true,Zay,gC]
   exact q
  | bl b =>
   simp only [Vl.enc,tyN,ZyR,Zeo,if_true,Zay,gC]
   exact q
  | row ps =>
   obtain ⟨l,rfl⟩:∃ l,ps=ofP l:=⟨ps.toP,(Zo5 ps).symm⟩
   have hd':1+(ofP l).dp≤n+1:=hd
   have hc':1+(ofP l).cnt≤1000000:=hc
   rw [Zg9] at hc'
   have hl:=ZnX l
   rw [ZhK]
   simp only [tyN,Zv5,Zeo,Bool.false_eq_true,if_false,Zan,Zay,Zak,gB,ZbU,Zcv,Zae,gC,L3.Zaa,L3.Zaj,List.getElem?_cons_zero]
   refine ZoT (n:=n) l none none [] (fun y hy=>⟨by have:=ZmC (l:=l) y hy;omega,by have:=ZmY (List.mem_map_of_mem (f:=fun y:Str×Vl=>y.2.cnt) hy);omega⟩) (Zxg (by simp only [List.length_nil];omega)) fun p hp=>?_
   rw [List.nil_append,show (l.map fun y=>W.int y.2.cnt)=(l.map fun y=>y.2.cnt).map fun c:Nat=>W.int (c:Int) by rw [List.map_map];rfl]
   refine Zxa (by omega) hC ?_ hp
   have e:(1:Int)+((l.map fun y=>y.2.cnt).sum:Nat)=((Vl.row (ofP l)).cnt:Int):=by
    show (1:Int)+((l.map fun y=>y.2.cnt).sum:Nat)=((1+(ofP l).cnt:Nat):Int)
    rw [Zg9];omega
   rw [e];exact q
def Zz5 (d c:Int) (v:Vl):Prop:=v.ok 5=true∧(v.dp:Int)≤d∧(v.cnt:Int)≤max c 1
def ZrX (n:Nat):Spw:=fun ws G Q _=>∃ (s:Addr) (x d c:Int) (b:Bool),ws=[.ref s,.int d]∧1≤d∧d≤(n:Int)+1∧G s=some (.lst [.int x,.bl b,.int c])∧∀ (v:Vl) (x':Int),Zz5 d c v→Q v.enc (put G s (.lst [.int x',.bl b,.int (c - v.cnt)]))
theorem Zw7 {n:Nat}:Spw.M (ZrX n):=(by rintro ws G Q Q' E E' h _ ⟨s,x,d,c,b,h1,h2,h3,h4,q⟩;exact ⟨s,x,d,c,b,h1,h2,h3,h4,fun k x' g=>h _ _ (q k x' g)⟩)
abbrev gVB (sp:Spw):GS:=gIf (Zf2 (gTB (Zak (Zar (eqF false)) (Zah Zdp XF (L3.Zaa (Zae 0) (L3.Zaa (gC (.int 2)) L3.Zaj))) (gC (.int 1)))) (gTB (Zak (Zfg fun i j=>decide (j < i)) (Zak (Zar ixW) (Zae 0) (gC (.int 2))) (gC (.int 0))))) (Zbv (gMt Zf3 Zrm (Zae 3) (L3.Zaa (L3.Zbq (L3.Zaa (Zae 4) (L3.Zaa (Zah sp XF (L3.Zaa (Zae 0) (L3.Zaa (Zak (Zb6 (fun _ _=>True) fun i j=>i - j) (Zae 1) (gC (.int 1))) L3.Zaj))) L3.Zaj))) L3.Zaj))) Zan
theorem Zmy {n:Nat} {D:Ew} {s p q0:Addr} {d c:Int} {b:Bool} {items:List W} {w2:Option W} (hd1:2≤d) (hd2:d≤(n:Int)+2):∀ (xs:List Str) (o4:Option W) (G:Hw) (l:Pr) (x c0:Int),G s=some (.lst [.int x,.bl b,.int c0])→G p=some (.lst (l.map ZkX))→G q0=some (.lst items)→p≠s→q0≠s→q0≠p→l.length+xs.length≤100→c0=c - (ofP l).cnt→0≤c0 →
  (∀ ω G' l2 x',(∃ u,ω=[some (.ref s),some (.int d),w2,some (.ref p),u])→G' s=some (.lst [.int x',.bl b,.int (c - (ofP (l++l2)).cnt)])→((ofP (l++l2)).cnt:Int)≤c→G' p=some (.lst ((l++l2).map ZkX))→(∀ b,b≠s→b≠p→∀ u,G b=some u→G' b=some u)→(l2.map (·.1)).Sublist xs→(∀ z∈l2,z.2.ok 5=true∧(z.2.dp:Int)≤d - 1)→D.nx ω G') →
  Zcz (holds q0 items) (gNm 4) (gVB (ZrX n)) D (xs.map W.str) [some (.ref s),some (.int d),w2,some (.ref p),o4] G
 | [],o4,G,l,x,c0,hs,hp,hq,_,_,_,_,e0,e1,fin=>⟨hq,fin _ G [] x ⟨o4,rfl⟩ (by rw [List.append_nil,← e0];exact hs) (by rw [List.append_nil];omega) (by rw [List.append_nil];exact hp) (fun b _ _ u h=>h) (.refl _) (by intro z hz;cases hz)⟩
 | nm::xs,o4,G,l,x,c0,hs,hp,hq,nps,nqs,nqp,hl,e0,e1,fin=>by
  refine ⟨hq,?_⟩
  show gVB (ZrX n) _ [some (.ref s),some (.int d),w2,some (.ref p),some (.str nm)] G
  have hlx:l.length+(xs.length+1)≤100:=hl
  simp only [gIf,Zf2,gTB,Zak,Zah,L3.Zaa,L3.Zaj,Zae,gC,Zar,List.getElem?_cons_zero,List.getElem?_cons_succ]
  refine ⟨s,2,x,b,[.int c0],rfl,by decide,by decide,hs,fun r x1 r0 r1=>?_⟩
  have g1s:put G s (.lst [.int x1,.bl b,.int c0]) s=some (.lst [.int x1,.bl b,.int c0]):=Zab
  have g1p:put G s (.lst [.int x1,.bl b,.int c0]) p=some (.lst (l.map ZkX)):=by rw [Zag nps];exact hp
  have g1q:put G s (.lst [.int x1,.bl b,.int c0]) q0=some (.lst items):=by rw [Zag nqs];exact hq
  have skip:Zcz (holds q0 items) (gNm 4) (gVB (ZrX n)) D (xs.map W.str) [some (.ref s),some (.int d),w2,some (.ref p),some (.str nm)] (put G s (.lst [.int x1,.bl b,.int c0])):=by
   refine Zmy hd1 hd2 xs _ _ l x1 c0 g1s g1p g1q nps nqs nqp (by omega) e0 e1 ?_
   intro ω G' l2 x' hω f1 f1' f2 f3 f4 f5
   exact fin ω G' l2 x' hω f1 f1' f2 (fun c c1 c2 u hu=>f3 c c1 c2 u (by rw [Zag c1];exact hu)) (f4.cons nm) f5
  dsimp only
  rw [Zvi,Zaf]
  dsimp only
  refine Zjq (fun _=>?_) (fun _=>skip)
  rw [ix2 g1s,Zaf]
  show if decide (0 < c0)=true then _ else _
  refine Zjq (fun h0=>?_) (fun _=>skip)
  have h0:0 < c0:=by simpa using h0
  simp only [Zbv,gMt,L3.Zbq,Zak,Zah,Zb6,L3.Zaa,L3.Zaj,Zae,gC,List.getElem?_cons_zero,List.getElem?_cons_succ]
  refine ⟨Zfe g1p,trivial,s,x1,d - 1,c0,b,rfl,by omega,by omega,g1s,fun v x3 hk=>?_⟩
  refine ⟨(show 2≤sizeLine by decide),?_⟩
  refine ZpS (by rw [Zag nps];exact g1p) (by rw [List.length_map];exact Zea (by omega)) ?_
  have ee:l.map ZkX++[W.tup [.str nm,v.enc]]=(l++[(nm,v)]).map ZkX:=by rw [List.map_append];rfl
  rw [ee,Zf7]
  have ec:(ofP (l++[(nm,v)])).cnt=(ofP l).cnt+v.cnt:=by rw [Zg9,Zg9,List.map_append,List.sum_append];simp
  obtain ⟨k1,k2,k3⟩:=hk
  refine Zmy (c:=c) hd1 hd2 xs _ _ (l++[(nm,v)]) x3 (c0 - v.cnt) (by rw [Zag (Ne.symm nps)];exact Zab) Zab ?_ nps nqs nqp (by rw [List.length_append];simp only [List.length_cons,List.length_nil];omega) (by rw [ec];omega) (by omega) ?_
  ·rw [Zag nqp,Zag nqs];exact hq
  ·intro ω G' l2 x' hω f1 f1' f2 f3 f4 f5
   rw [List.append_assoc] at f1 f1' f2
   refine fin ω G' ((nm,v)::l2) x' hω f1 f1' f2 (fun c c1 c2 u hu=>f3 c c1 c2 u ?_) (f4.cons_cons nm) ?_
   ·rw [Zag c2,Zag c1];exact hu
   ·intro z hz
    rcases List.mem_cons.mp hz with rfl | hz
    ·exact ⟨k1,k2⟩
    ·exact f5 z hz
abbrev LV:List Str:=["a","ab","b","c","zzzzzzzz"]
theorem Zt1:ZpC LV:=⟨by decide +kernel,by decide +kernel,by decide⟩
theorem Zqh {d c:Int} {v:Vl} (hd:1≤d) (h:(∃ i,v=.int i)∨∃ b,v=.bl b):Zz5 d c v∧v.cnt=1:=by
 rcases h with ⟨i,rfl⟩ | ⟨b,rfl⟩
 ·exact ⟨⟨rfl,by show (1:Int)≤d;omega,by show (1:Int)≤_;omega⟩,rfl⟩
 ·exact ⟨⟨rfl,by show (1:Int)≤d;omega,by show (1:Int)≤_;omega⟩,rfl⟩
theorem ZnD (T:Tx K mg base a) {n j:Nat} {sp:Spw} (D:Df P w K mg base "_law_value" j 2 sp) (hj:j≤n+1) (hK:n=0∨∃ m,n=m+1∧sp=ZrX m):Df P w K mg base "_law_value" (n+2) 2 (ZrX n):=by
 refine mk0 (k:=n+1) T.Zhm rfl Zhf Zw7 ((by rintro ws G Q E ⟨s,x,d,c,b,e,_⟩;rw [e];rfl)) (Zlg T (Zal T) (by omega) D hj) fun ws G Q E hC q=>?_
 obtain ⟨s,x,d,c,b,rfl,hd1,hd2,hs,q⟩:=q
 unfold Zhi
 show Zat (Zbj 2 _) _ (ZaL Q) [some (.ref s),some (.int d),none,none,none] G
 simp only [Zat,Zbj,Zah,L3.Zaa,L3.Zaj,Zae,gC,List.getElem?_cons_zero,List.getElem?_cons_succ]
 refine ⟨s,7,x,b,[.int c],rfl,by decide,by decide,hs,fun r x1 r0 r7=>?_⟩
 have h1:put G s (.lst [.int x1,.bl b,.int c]) s=some (.lst [.int x1,.bl b,.int c]):=Zab
 simp only [List.set_cons_zero,List.set_cons_succ,Zcr,Zak,Zb6,Zar,Zae,gC,List.getElem?_cons_zero,List.getElem?_cons_succ,ix2 h1,Zaf]
 refine ⟨trivial,ZmK h1 ?_⟩
 rw [Zf7]
 have h2:put G s (.lst [.int x1,.bl b,.int (c - 1)]) s=some (.lst [.int x1,.bl b,.int (c - 1)]):=Zab
 have leaf:∀ (v:Vl) (x':Int),((∃ i,v=.int i)∨∃ b,v=.bl b)→Q v.enc (put (put G s (.lst [.int x1,.bl b,.int (c - 1)])) s (.lst [.int x',.bl b,.int (c - 1)])):=fun v x' hv=>by
  obtain ⟨g1,g2⟩:=Zqh (c:=c) hd1 hv
  rw [Zf7]
  have:=q v x' g1
  rw [g2] at this
  exact this
 have hG2:∀ a u,G a=some u→a≠s→put G s (.lst [.int x1,.bl b,.int (c - 1)]) a=some u:=fun a u hu ha=>by rw [Zag ha];exact hu
 simp only [Zat,gIf,gTB,Zak,Zar,Zae,gC,List.getElem?_cons_zero,List.getElem?_cons_succ]
 rw [show eqF false (.int r) (.int 0) (put G s (.lst [.int x1,.bl b,.int (c - 1)]))=some (.bl (r==0)) by unfold eqF eqW;show some (W.bl ((r==0) != false))=_;cases (r==0) <;> rfl,Zaf]
 refine Zjq (fun _=>?_) (fun _=>?_)
 ·simp only [Zay,Zak,Zah,Zar,L3.Zaa,L3.Zaj,Zae,gC,List.getElem?_cons_zero,List.getElem?_cons_succ]
  refine ⟨s,2,x1,b,[.int (c - 1)],rfl,by decide,by decide,h2,fun r2 x2 _ _=>?_⟩
  dsimp only
  rw [Zvi,Zaf]
  exact leaf (.bl (r2==1)) x2 (.inr ⟨_,rfl⟩)
 simp only [Zan,Zat,gIf,gOr,gTB,Zak,Zdw,Zar,Zae,gC,List.getElem?_cons_zero,List.getElem?_cons_succ,ix2 h2,Zaf]
 have num:∀ D:Ew,D.rt=Q→Zay (Zak (Zku) (Zak (Zar ixW) (Zb1 (L3.Zaa (gC (.int 1)) (L3.Zaa (ZyA (gC (.int 1))) L3.Zaj))) (Zah Zdp XF (L3.Zaa (Zae 0) (L3.Zaa (gC (.int 2)) L3.Zaj)))) (Zah Zdp XF (L3.Zaa (Zae 0) (L3.Zaa (Zak (Zar ixW) (Zb1 (L3.Zaa (gC (.int 5)) (L3.Zaa (Zak (Zb6 Zvj fun i j=>i ^ j.toNat) (gC (.int 10)) (gC (.int 30))) L3.Zaj))) (Zak (Zb6 Zwa fun i j=>i / j) (Zah Zdp XF (L3.Zaa (Zae 0) (L3.Zaa (gC (.int 6)) L3.Zaj))) (gC (.int 5)))) L3.Zaj)))) D [some (.ref s),some (.int d),some (.int r),none,none] (put G s (.lst [.int x1,.bl b,.int (c - 1)])):=fun D hD=>by
  simp only [Zay,Zak,Zb1,ZyA,Zah,Zar,Zb6,L3.Zaa,L3.Zaj,Zae,gC,List.getElem?_cons_zero,List.getElem?_cons_succ,hD]
  refine ⟨1,rfl,(show 2≤sizeLine by decide),fun p hp=>?_⟩
  have n1:s≠p:=Zaw h2 hp
  refine ⟨s,2,x1,b,[.int (c - 1)],rfl,by decide,by decide,by rw [Zag n1];exact h2,fun r2 x2 g0 g1=>?_⟩
  have hp3:put (put (put G s (.lst [.int x1,.bl b,.int (c - 1)])) p (.lst [.int 1,.int (-1)])) s (.lst [.int x2,.bl b,.int (c - 1)]) p=some (.lst [.int 1,.int (-1)]):=by rw [Zag (Ne.symm n1)];exact Zab
  have hs3:put (put (put G s (.lst [.int x1,.bl b,.int (c - 1)])) p (.lst [.int 1,.int (-1)])) s (.lst [.int x2,.bl b,.int (c - 1)]) s=some (.lst [.int x2,.bl b,.int (c - 1)]):=Zab
  have k3:∀ a u,put G s (.lst [.int x1,.bl b,.int (c - 1)]) a=some u→a≠s→put (put (put G s (.lst [.int x1,.bl b,.int (c - 1)])) p (.lst [.int 1,.int (-1)])) s (.lst [.int x2,.bl b,.int (c - 1)]) a=some u:=fun a u hu ha=>by rw [Zag ha,Zag (Zaw hu hp)];exact hu
  generalize put (put (put G s (.lst [.int x1,.bl b,.int (c - 1)])) p (.lst [.int 1,.int (-1)])) s (.lst [.int x2,.bl b,.int (c - 1)])=G3 at hp3 hs3 k3 ⊢
  obtain ⟨sg,hsg,esg⟩:∃ sg:Int,(-(2 ^ 64) < sg∧sg < 2 ^ 64)∧atI [W.int 1,.int (-1)] r2=some (.int sg):=by
   have:r2=0∨r2=1:=by omega
   rcases this with rfl | rfl
   ·exact ⟨1,by decide,Zc7⟩
   ·exact ⟨-1,by decide,ZcW⟩
  dsimp only
  rw [Ze2 hp3,esg,Zaf]
  refine ⟨⟨by decide,by decide,by decide⟩,(show 2≤sizeLine by decide),fun p4 hp4=>?_⟩
  have n4:s≠p4:=Zaw hs3 hp4
  refine ⟨s,6,x2,b,[.int (c - 1)],rfl,by decide,by decide,by rw [Zag n4];exact hs3,fun r5 x5 g5 g6=>⟨⟨by decide,by decide⟩,?_⟩⟩
  have hp5:put (put G3 p4 (.lst [.int 5,.int ((10:Int) ^ (30:Int).toNat)])) s (.lst [.int x5,.bl b,.int (c - 1)]) p4=some (.lst [.int 5,.int ((10:Int) ^ (30:Int).toNat)]):=by rw [Zag (Ne.symm n4)];exact Zab
  have hs5:put (put G3 p4 (.lst [.int 5,.int ((10:Int) ^ (30:Int).toNat)])) s (.lst [.int x5,.bl b,.int (c - 1)]) s=some (.lst [.int x5,.bl b,.int (c - 1)]):=Zab
  have k5:∀ a u,G3 a=some u→a≠s→put (put G3 p4 (.lst [.int 5,.int ((10:Int) ^ (30:Int).toNat)])) s (.lst [.int x5,.bl b,.int (c - 1)]) a=some u:=fun a u hu ha=>by rw [Zag ha,Zag (Zaw hu hp4)];exact hu
  generalize put (put G3 p4 (.lst [.int 5,.int ((10:Int) ^ (30:Int).toNat)])) s (.lst [.int x5,.bl b,.int (c - 1)])=G5 at hp5 hs5 k5 ⊢
  obtain ⟨mm,hmm,emm⟩:∃ mm:Int,(0 < mm∧mm < 1267650600228229401496703205376)∧atI [W.int 5,.int ((10:Int) ^ (30:Int).toNat)] (r5 / 5)=some (.int mm):=by
   have:r5 / 5=0∨r5 / 5=1:=by omega
   rcases this with e | e <;> rw [e]
   ·exact ⟨5,by decide,Zc7⟩
   ·exact ⟨_,by decide,ZcW⟩
  try dsimp only
  rw [Ze2 hp5,emm,Zaf]
  refine ⟨s,mm,x5,b,[.int (c - 1)],rfl,hmm.1,hmm.2,hs5,fun r6 x6 _ _=>⟨.inl hsg,?_⟩⟩
  refine hC _ _ _ (fun a u hu=>?_) (leaf (.int (sg*r6)) x6 (.inl ⟨_,rfl⟩))
  by_cases ha:a=s
  ·subst ha;rw [Zab] at hu ⊢;exact hu
  ·rw [Zag ha] at hu ⊢;exact k5 a u (k3 a u hu ha) ha
 have row:2≤d→1≤c - 1→(∃ m,n=m+1∧sp=ZrX m)→Zat (Zbj 3 (Zb1 L3.Zaj)) (Zat (Zee (Za7 (Zb1 (L3.Zaa (gC (.str "a")) (L3.Zaa (gC (.str "ab")) (L3.Zaa (gC (.str "b")) (L3.Zaa (gC (.str "c")) (L3.Zaa (gC (.str "zzzzzzzz")) L3.Zaj))))))) (gNm 4) (gVB sp)) (Zay (gB (rF ZhU) (L3.Zaa (Zae 3) L3.Zaj)))) (ZaL Q) [some (.ref s),some (.int d),some (.int r),none,none] (put G s (.lst [.int x1,.bl b,.int (c - 1)])):=by
  rintro z1 z2 ⟨m,rfl,rfl⟩
  simp only [Zat,Zbj,Zb1,Zee,Za7,L3.Zaa,L3.Zaj,gC,List.set_cons_zero,List.set_cons_succ]
  refine ⟨(show 0≤sizeLine by decide),fun p hp=>⟨(show 5≤sizeLine by decide),fun q0 hq0=>?_⟩⟩
  have n1:s≠p:=Zaw h2 hp
  have n2:s≠q0:=Zaw (by rw [Zag n1];exact h2) hq0
  have n3:p≠q0:=Zaw Zab hq0
  simp only [Zab]
  refine Zmy (n:=m) (c:=c - 1) z1 (by omega) LV none _ [] x1 (c - 1) (by rw [Zag n2,Zag n1];exact h2) (by rw [Zag n3];exact Zab) Zab (Ne.symm n1) (Ne.symm n2) (Ne.symm n3) (by decide) (by show c - 1=c - 1 - ((0:Nat):Int);omega) (by omega) ?_
  intro ω G' l2 x' hω f1 f1' f2 f3 f4 f5
  obtain ⟨u,rfl⟩:=hω
  rw [List.nil_append] at f1 f1' f2
  simp only [Zay,gB,rF,Zae,L3.Zaa,L3.Zaj,List.getElem?_cons_zero,List.getElem?_cons_succ]
  rw [show ZhU [.ref p] G'=some (.tup (l2.map ZkX)) by unfold ZhU;dsimp only;rw [Zmh f2];rfl,Zaf]
  have hdp:(ofP l2).dp≤(d - 1).toNat:=ZnU l2 fun y hy=>by have:=(f5 y hy).2;omega
  have ek:(Vl.row (ofP l2)).cnt=1+(ofP l2).cnt:=rfl
  have ed:(Vl.row (ofP l2)).dp=1+(ofP l2).dp:=rfl
  have:=q (.row (ofP l2)) x' ⟨Zip (Zt1.1.sublist f4) (by have h1:=f4.length_le;have h2:LV.length=5:=rfl;rw [List.length_map] at h1;omega) fun y hy=>⟨Zt1.2.1 _ (f4.subset (List.mem_map_of_mem hy)),(f5 y hy).1⟩,by rw [ed];omega,by rw [ek];omega⟩
  rw [ZhK,ek] at this
  refine hC _ _ _ (fun a u hu=>?_) this
  by_cases ha:a=s
  ·subst ha
   rw [Zab] at hu
   rw [f1,← hu,show c - 1 - ((ofP l2).cnt:Int)=c - ((1+(ofP l2).cnt:Nat):Int) by omega]
  ·rw [Zag ha] at hu
   have hu1:put G s (.lst [.int x1,.bl b,.int (c - 1)]) a=some u:=by rw [Zag ha];exact hu
   have hap:=Zaw hu1 hp
   have haq:a≠q0:=Zaw (by rw [Zag hap];exact hu1) hq0
   exact f3 a ha hap u (by rw [Zag haq,Zag hap];exact hu1)
 refine Zjq (fun _=>num _ rfl) (fun z3=>?_)
 refine Zjq (fun _=>num _ rfl) (fun zd=>?_)
 have zd:2≤d:=by have:¬ d < 2:=by simpa using zd
                 omega
 refine Zjq (fun _=>num _ rfl) (fun zc=>?_)
 have zc:1≤c - 1:=by have:¬ c - 1 < 1:=by simpa using zc
                     omega
 rcases hK with rfl | hK
 ·exact absurd hd2 (by omega)
 ·exact row zd zc hK
theorem ZbG (T:Tx K mg base a):∀ n:Nat,Df P w K mg base "_law_value" (n+2) 2 (ZrX n):=fun n=>by
 induction n with
 | zero=>exact ZnD T (n:=0) (sp:=Zym) (Zlz (sp:=Zym) (k:=0) T.Zhm Zo3 fun _ _ _ _ h=>h) (by omega) (.inl rfl)
 | succ n ih=>exact ZnD T (n:=n+1) (sp:=ZrX n) ih (by omega) (.inr ⟨n,rfl,rfl⟩)
def Fs.toL:Fs→List (Str×Bool×Kd)
 | .nil=>[]
 | .cons n m k r=>(n,m,k)::r.toL
theorem ZqN:∀ fs:Fs,ofL fs.toL=fs
 | .nil=>rfl
 | .cons n m k r=>by show Fs.cons n m k (ofL r.toL)=_;rw [ZqN r]
theorem Zw5 {l:List (Str×Bool×Kd)} {o:Bool} (h:wf (.row (ofL l) o)):(l.map (·.1)).Pairwise (fun x y=>ZaA x y=true)∧ZgX (l.map (·.1))=true∧∀ y∈l,Za1 y.1=true∧wf y.2.2:=by
 obtain ⟨h1,h2⟩:=h
 have p:=(ZtH h1).1
 rw [ZeS] at p
 have h2':(ZgX (ofL l).names&&(ofL l).thr)=true:=h2
 simp only [Bool.and_eq_true] at h2'
 have h1':(rise (ofL l).names&&(ofL l).ok)=true:=h1
 simp only [Bool.and_eq_true] at h1'
 refine ⟨p,by have:=h2'.1;rw [ZeS] at this;exact this,?_⟩
 have go:∀ l:List (Str×Bool×Kd),(ofL l).ok=true→(ofL l).thr=true→∀ y∈l,Za1 y.1=true∧wf y.2.2:=by
  intro l
  induction l with
  | nil=>intro _ _ y hy;cases hy
  | cons z l ih =>
   intro g1 g2 y hy
   have g1':(Za1 z.1&&z.2.2.ok&&(ofL l).ok)=true:=g1
   have g2':(z.2.2.thr&&(ofL l).thr)=true:=g2
   simp only [Bool.and_eq_true] at g1' g2'
   walk_at "ps"
   ·exact ⟨g1'.1.1,g1'.1.2,g2'.1⟩
   ·exact ih g1'.2 g2'.2 y hy
 exact go l h1'.2 h2'.2
theorem ZtR {l:List (Str×Bool×Kd)}:∀ y∈l,y.2.2.dp≤(ofL l).dp:=by
 induction l with
 | nil=>intro y hy;cases hy
 | cons z l ih =>
  intro y hy
  show _≤max z.2.2.dp (ofL l).dp
  walk_at "ps"
  ·exact Nat.le_max_left _ _
  ·exact Nat.le_trans (ih y hy) (Nat.le_max_right _ _)
theorem ZsI {l:List (Str×Bool×Kd)}:(ofL l).dat=true→∀ y∈l,y.2.2.dat=true:=by
 induction l with
 | nil=>intro _ y hy;cases hy
 | cons z l ih =>
  intro h y hy
  have h':(z.2.2.dat&&(ofL l).dat)=true:=h
  walk_at "pg"
  walk_at "ps"
  ·exact h'.1
  ·exact ih h'.2 y hy
def kvP (y:Str×Vl):Key×W:=(Sum.inr y.1,y.2.enc)
theorem Zq7 {x:Str}:∀ l:Pr,x∉l.map (·.1)→(l.map kvP).any (fun kv=>decide (kv.1=Sum.inr x))=false
 | [],_=>rfl
 | y::l,h=>by
  rw [List.map_cons,List.any_cons,Zq7 l fun z=>h (List.mem_cons_of_mem _ z),Bool.or_false]
  exact decide_eq_false fun z=>h (by rw [show x=y.1 from (Sum.inr.inj z).symm];exact List.mem_cons_self)
theorem ZmQ {x:Str} {v:Vl} {l:Pr} (h:x∉l.map (·.1)):ZlM (l.map kvP) (Sum.inr x) v.enc=(l++[(x,v)]).map kvP:=by
 unfold ZlM
 rw [Zq7 l h,if_neg (by decide),List.map_append];rfl
theorem Zn6 {x:Str} {d:W}:∀ l:Pr,x∉l.map (·.1)→ZlW (l.map kvP) x d=d
 | [],_=>rfl
 | y::l,h=>by
  show ZlW ((Sum.inr y.1,y.2.enc)::l.map kvP) x d=d
  rw [Zew,if_neg fun z=>h (by rw [show x=y.1 from (Sum.inr.inj z).symm];exact List.mem_cons_self)]
  exact Zn6 l fun z=>h (List.mem_cons_of_mem _ z)
theorem ZnE {x:Str} {d:W}:∀ l:Pr,(l.map (·.1)).Nodup→∀ v,(x,v)∈l→ZlW (l.map kvP) x d=v.enc
 | y::l,h,v,hm=>by
  have h':(y.1::l.map (·.1)).Nodup:=h
  obtain ⟨h1,h2⟩:=List.nodup_cons.mp h'
  show ZlW ((Sum.inr y.1,y.2.enc)::l.map kvP) x d=v.enc
  rw [Zew]
  rcases List.mem_cons.mp hm with e | hm
  ·rw [← e,if_pos rfl]
  ·rw [if_neg fun z=>h1 (by rw [Sum.inr.inj z];exact List.mem_map.mpr ⟨_,hm,rfl⟩)]
   exact ZnE l h2 v hm
theorem Zvh {x:Str} {v:Vl} {l:Pr} (h:(l.map (·.1)).Nodup) (hm:(x,v)∈l):ZlM (l.map kvP) (Sum.inr x) v.enc=l.map kvP:=by
 unfold ZlM
 rw [if_pos (List.any_eq_true.mpr ⟨kvP (x,v),List.mem_map_of_mem hm,decide_eq_true rfl⟩),List.map_map]
 refine List.map_congr_left fun y hy=>?_
 show (if (kvP y).1=Sum.inr x then ((kvP y).1,v.enc) else kvP y)=kvP y
 by_cases e:(kvP y).1=Sum.inr x
 ·rw [if_pos e]
  have:y=(x,v):=ZhZ h hy hm (Sum.inr.inj e)
  rw [this];rfl
 ·rw [if_neg e]
theorem Zra {x:Str} {d:Vl} {l:Pr} (h:(l.map (·.1)).Nodup):∃ l3:Pr,ZlM (l.map kvP) (Sum.inr x) (ZlW (l.map kvP) x d.enc)=l3.map kvP∧(l3=l∨(l3=l++[(x,d)]∧x∉l.map (·.1))):=by
 by_cases hx:x∈l.map (·.1)
 ·obtain ⟨y,hy,rfl⟩:=List.mem_map.mp hx
  refine ⟨l,?_,.inl rfl⟩
  rw [ZnE l h y.2 hy,Zvh h hy]
 ·exact ⟨l++[(x,d)],by rw [Zn6 l hx,ZmQ hx],.inr ⟨rfl,hx⟩⟩
theorem Zx1 {l:Pr} {x:Str} {d:Vl} (h:(l.map (·.1)).Nodup) (hx:x∉l.map (·.1)):((l++[(x,d)]).map (·.1)).Nodup:=by
 rw [List.map_append]
 exact List.nodup_append.mpr ⟨h,.cons (by intro a ha;cases ha) .nil,fun a ha b hb e=>by
  have hb':b=x:=List.mem_singleton.mp hb
  subst hb';subst e;exact hx ha⟩
theorem nd3 {l l3:Pr} {x:Str} {d:Vl} (h:(l.map (·.1)).Nodup) (h3:l3=l∨(l3=l++[(x,d)]∧x∉l.map (·.1))):(l3.map (·.1)).Nodup:=by
 rcases h3 with rfl | ⟨rfl,hx⟩
 ·exact h
 ·exact Zx1 h hx
def prW (y:Str×Vl):Str×W:=(y.1,y.2.enc)
theorem ZyN {l:Pr}:∀ l':List (Str×W),(∀ y∈l',∃ z∈l,prW z=y)→∃ l2:Pr,l2.map prW=l'∧∀ z∈l2,z∈l
 | [],_=>⟨[],rfl,by intro z hz;cases hz⟩
 | y::l',h=>by
  obtain ⟨z,hz,e⟩:=h y List.mem_cons_self
  obtain ⟨l2,e2,h2⟩:=ZyN l' fun u hu=>h u (List.mem_cons_of_mem _ hu)
  refine ⟨z::l2,by rw [List.map_cons,e,e2],fun u hu=>?_⟩
  rcases List.mem_cons.mp hu with rfl | hu
  ·exact hz
  ·exact h2 u hu
theorem Zpn {G:Hw} {Q:Kw} {p:Addr} {l:Pr} {ω:Sw} (hC:Kw.C Q) (hω:ω[2]?=some (some (.ref p))) (hp:G p=some (.dct (l.map kvP))) (h7:l.length≤7) (hn:(l.map (·.1)).Nodup) (q:∀ l':Pr,(l'.map (·.1)).Pairwise (fun x y=>ZaA x y=true)→l'.Perm l→Q (Vl.row (ofP l')).enc G):Zay (gB (rF ZhU) (L3.Zaa (Zhz (Zae 2)) L3.Zaj)) (ZaL Q) ω G:=by
 simp only [Zay,gB,rF,Zhz,L3.Zaa,L3.Zaj,Zae,hω]
 refine ⟨p,l.map prW,rfl,by rw [List.map_map];exact hp,by rw [List.map_map];exact hn,by rw [List.length_map];exact h7,fun l' r h1 h2 h3=>?_⟩
 obtain ⟨l2,e2,m2⟩:=ZyN (l:=l) l' fun y hy=>by
  obtain ⟨z,hz,e⟩:=List.mem_map.mp ((h2 y).mp hy)
  exact ⟨z,hz,e⟩
 subst e2
 rw [List.map_map] at h1
 have hm:∀ y,y∈l2↔y∈l:=fun y=>⟨m2 y,fun hy=>by
  obtain ⟨z,hz,e⟩:=List.mem_map.mp ((h2 (prW y)).mpr (List.mem_map.mpr ⟨y,hy,rfl⟩))
  have:z=y:=ZhZ hn (m2 z hz) hy (congrArg (fun t:Str×W=>t.1) e)
  rw [← this];exact hz⟩
 have h1':(l2.map (·.1)).Pairwise (fun x y=>ZaA x y=true):=h1
 rw [List.map_map,show ((fun y:Str×W=>W.tup [.str y.1,y.2])∘prW)=ZkX from rfl]
 rw [show ZhU [.ref r] (put G r (.lst (l2.map ZkX)))=some (.tup (l2.map ZkX)) by unfold ZhU;dsimp only;rw [Zmh Zab];rfl,Zaf,← ZhK]
 exact hC _ _ _ (ZaS h3) (q l2 h1' (Zp3 (Ze9 h1') hn hm))
def ZuX (n:Nat):Spw:=fun ws G Q _=>∃ (s:Addr) (x:Int) (b:Bool) (r:List W) (k:Kd),ws=[.ref s,k.enc]∧wf k∧k.dat=true∧k.dp≤n∧G s=some (S2 x b r)∧∀ (v:Vl) (x':Int),v.ok 6=true→v.dp≤k.dp+1→v.cnt≤3*k.cnt→Q v.enc (put G s (S2 x' b r))
theorem Zt6 {n:Nat}:Spw.M (ZuX n):=(by rintro ws G Q Q' E E' h _ ⟨s,x,b,r,k,h1,h2,h3,h4,h5,q⟩;exact ⟨s,x,b,r,k,h1,h2,h3,h4,h5,fun k' x' z1 z2 z3=>h _ _ (q k' x' z1 z2 z3)⟩)
abbrev gOB (sp:Spw):GS:=gIf (gOr (gTB (Zak (Zar (eqF false)) (Zae 4) (gC (.str "must")))) (gTB (Zak (Zar (eqF false)) (Zah Zdp XF (L3.Zaa (Zae 0) (L3.Zaa (gC (.int 2)) L3.Zaj))) (gC (.int 1))))) (Zha (Zah sp XF (L3.Zaa (Zae 0) (L3.Zaa (Zae 5) L3.Zaj))) (Zae 2) (Zae 3)) Zan
theorem ZmG {n M:Nat} {D:Ew} {s p:Addr} {b:Bool} {r:List W} {w1:Option W} (nps:p≠s):∀ (l:List (Str×Bool×Kd)) (dn:Pr) (o3 o4 o5:Option W) (G:Hw) (x:Int),(∀ y∈l,wf y.2.2∧y.2.2.dat=true∧y.2.2.dp≤n∧y.2.2.dp≤M)→(dn.map (·.1)++l.map (·.1)).Nodup→dn.length+l.length≤100→G s=some (S2 x b r)→G p=some (.dct (dn.map kvP)) →
  (∀ ω G' l2 x',(∃ u v t,ω=[some (.ref s),w1,some (.ref p),u,v,t])→G' s=some (S2 x' b r)→G' p=some (.dct ((dn++l2).map kvP))→(∀ c,c≠s→c≠p→∀ u,G c=some u→G' c=some u)→(l2.map (·.1)).Sublist (l.map (·.1))→(∀ y∈l2,y.2.ok 6=true∧y.2.dp≤M+1)→(l2.map fun y=>y.2.cnt).sum≤3*(ofL l).cnt→D.nx ω G') →
  Zcz yes (Zon 3 4 5) (gOB (ZuX n)) D (l.map ZkY) [some (.ref s),w1,some (.ref p),o3,o4,o5] G
 | [],dn,o3,o4,o5,G,x,_,_,_,hs,hp,fin=>⟨trivial,fin _ G [] x ⟨o3,o4,o5,rfl⟩ hs (by rw [List.append_nil];exact hp) (fun b _ _ u h=>h) .slnil (by intro y hy;cases hy) (Nat.zero_le _)⟩
 | u::l,dn,o3,o4,o5,G,x,hg,hnd,hl,hs,hp,fin=>by
  rw [List.length_cons] at hl
  have ecu:(ofL (u::l)).cnt=u.2.2.cnt+(ofL l).cnt:=rfl
  have hnd':(dn.map (·.1)++u.1::l.map (·.1)).Nodup:=hnd
  have hnu:u.1∉dn.map (·.1):=fun hm=>(List.nodup_append.mp hnd').2.2 _ hm _ List.mem_cons_self rfl
  have hnl:(dn.map (·.1)++l.map (·.1)).Nodup:=hnd'.sublist ((List.Sublist.refl _).append (List.sublist_cons_self _ _))
  have app:∀ (G1:Hw) (x:Int),G1 s=some (S2 x b r)→G1 p=some (.dct (dn.map kvP))→(∀ c,c≠s→c≠p→∀ u,G c=some u→G1 c=some u) →
    Zha (Zah (ZuX n) XF (L3.Zaa (Zae 0) (L3.Zaa (Zae 5) L3.Zaj))) (Zae 2) (Zae 3) { nx:=Zcz yes (Zon 3 4 5) (gOB (ZuX n)) D (l.map ZkY),rt:=D.rt,bk:=D.nx,ct:=Zcz yes (Zon 3 4 5) (gOB (ZuX n)) D (l.map ZkY) } [some (.ref s),w1,some (.ref p),some (.str u.1),some (.str (Zek u.2.1)),some u.2.2.enc] G1:=by
   intro G1 x hs hp hk
   obtain ⟨g1,g2,g3,g4⟩:=hg u List.mem_cons_self
   simp only [Zha,Zah,Zae,List.getElem?_cons_zero,List.getElem?_cons_succ,L3.Zaa,L3.Zaj]
   refine ⟨s,x,b,r,u.2.2,rfl,g1,g2,g3,hs,fun v x2 k1 k2 k3=>?_⟩
   refine ⟨p,dn.map kvP,u.1,rfl,rfl,by rw [Zag nps];exact hp,by rw [List.length_map];exact Zea (by omega),?_⟩
   rw [ZmQ hnu]
   refine ZmG (M:=M) nps l (dn++[(u.1,v)]) _ _ _ _ x2 (fun y hy=>hg y (List.mem_cons_of_mem _ hy)) (by rw [List.map_append,List.append_assoc];exact hnd') (by rw [List.length_append];simp only [List.length_cons,List.length_nil];omega) (by rw [Zag (Ne.symm nps)];exact Zab) Zab fun ω G' l2 x' hω f1 f2 f3 f4 f5 f6=>?_
   refine fin ω G' ((u.1,v)::l2) x' hω f1 (by rw [f2,List.append_assoc];rfl) (fun c b1 b2 y hy=>f3 c b1 b2 y ?_) (f4.cons_cons _) (fun y hy=>?_) ?_
   ·rw [Zag b2,Zag b1];exact hk c b1 b2 y hy
   ·walk_at "ps"
    ·exact ⟨k1,by show v.dp≤_;omega⟩
    ·exact f5 y hy
   ·rw [List.map_cons,List.sum_cons,ecu]
    show v.cnt+_≤_
    omega
  refine ⟨trivial,?_⟩
  show gOB (ZuX n) _ [some (.ref s),w1,some (.ref p),some (.str u.1),some (.str (Zek u.2.1)),some u.2.2.enc] G
  unfold gOB
  simp only [gIf,gOr,gTB,Zak,Zah,Zar,Zae,gC,List.getElem?_cons_zero,List.getElem?_cons_succ,L3.Zaa,L3.Zaj,Zan]
  rw [ZzJ,Zaf]
  dsimp only
  refine Zjq (fun _=>?_) (fun _=>?_)
  ·exact app G x hs hp fun c c1 c2 v hv=>hv
  ·refine ⟨s,2,x,b,r,rfl,by decide,by decide,hs,fun i x1 _ _=>?_⟩
   have h1s:put G s (S2 x1 b r) s=some (S2 x1 b r):=Zab
   have h1p:put G s (S2 x1 b r) p=some (.dct (dn.map kvP)):=by rw [Zag nps];exact hp
   dsimp only
   rw [Zvi,Zaf]
   dsimp only
   refine Zjq (fun h=>?_) (fun h=>?_)
   ·exact app _ x1 h1s h1p fun c c1 c2 v hv=>by rw [Zag c1];exact hv
   ·refine ZmG (M:=M) nps l dn _ _ _ _ x1 (fun v hv=>hg v (List.mem_cons_of_mem _ hv)) hnl (by omega) h1s h1p fun ω G' l2 x' hω f1 f2 f3 f4 f5 f6=>?_
    exact fin ω G' l2 x' hω f1 f2 (fun c b1 b2 v hv=>f3 c b1 b2 v (by rw [Zag b1];exact hv)) (f4.cons _) f5 (by rw [ecu];omega)
theorem Zo7 {t:Str} {i j:Int} {c:Bool} (ht:Za1 t=true) {r:Int} (h0:0≤r) (h4:r < 4) {m:Nat} (hm:1≤m):∃ v:Vl,atI [W.int i,.bl c,.tup [],.tup [.tup [.str t,.int j]]] r=some v.enc∧v.ok m=true∧v.dp≤2∧v.cnt≤2:=by
 have:r=0∨r=1∨r=2∨r=3:=by omega
 rcases this with rfl | rfl | rfl | rfl
 ·exact ⟨.int i,rfl,rfl,(show 1≤2 by decide),(show 1≤2 by decide)⟩
 ·exact ⟨.bl c,rfl,rfl,(show 1≤2 by decide),(show 1≤2 by decide)⟩
 ·refine ⟨.row .nil,rfl,Zip (l:=[]) .nil (Nat.zero_le _) (by intro y hy;cases hy),by decide,by decide⟩
 ·refine ⟨.row (.cons t (.int j) .nil),rfl,Zip (l:=[(t,.int j)]) (.cons (by intro a ha;cases ha) .nil) hm (fun y hy=>?_),(show 1+max 1 0≤2 by decide),(show 1+(1+0)≤2 by decide)⟩
  rw [List.mem_singleton.mp hy];exact ⟨ht,rfl⟩
theorem Ztq {l l2:Pr} (h:l.Perm l2):(ofP l).cnt=(l2.map fun y=>y.2.cnt).sum:=by rw [Zg9];exact Zsp h
theorem ZaX (T:Tx K mg base a):∀ n:Nat,Df P w K mg base "_law_value_of" (n+1) 2 (ZuX n)
 | 0=>Zlz T.ZeY Zt6 fun ws G Q E ⟨s,x,b,r,k,_,_,_,h,_⟩=>by have:=Zhl k;omega
 | n+1=>by
  refine mk0 (k:=n+1) T.ZeY rfl Ze1 Zt6 (fun ws G Q E ⟨s,x,b,r,k,e,_⟩=>by rw [e];rfl) (ZiL T (Zal T) (by omega) (ZaX T n) (Nat.le_refl _)) fun ws G Q E hC q=>?_
  obtain ⟨s,x,b,r,k,rfl,w1,kd,hd,hs,q⟩:=q
  have kp:=Zhl k
  have kc:=Zpg k
  unfold ZeW
  show Zat (gIf _ _ Zan) _ (ZaL Q) [some (.ref s),some k.enc,none,none,none,none] G
  refine ZhT rfl ?_
  by_cases h1:k.hd="num"
  ·rw [if_pos h1]
   simp only [Zak,Zah,Zb6,Zae,gC,L3.Zaa,L3.Zaj,List.getElem?_cons_zero,List.getElem?_cons_succ]
   refine ⟨s,9,x,b,r,rfl,by decide,by decide,hs,fun i x1 _ _=>⟨trivial,?_⟩⟩
   exact q (.int (i - 4)) x1 rfl (by show 1≤_;omega) (by show 1≤_;omega)
  rw [if_neg h1]
  refine ZhT rfl ?_
  by_cases h2:k.hd="truth"
  ·rw [if_pos h2]
   simp only [Zak,Zah,Zar,Zae,gC,L3.Zaa,L3.Zaj,List.getElem?_cons_zero,List.getElem?_cons_succ]
   refine ⟨s,2,x,b,r,rfl,by decide,by decide,hs,fun i x1 _ _=>?_⟩
   dsimp only
   rw [Zvi,Zaf]
   exact q (.bl (i==1)) x1 rfl (by show 1≤_;omega) (by show 1≤_;omega)
  rw [if_neg h2]
  refine ZhT rfl ?_
  by_cases h3:k.hd="any"
  ·rw [if_pos h3]
   simp only [Zak,Zb1,Zah,Zar,L3.Zbq,Zae,gC,L3.Zaa,L3.Zaj,List.getElem?_cons_zero,List.getElem?_cons_succ]
   refine ⟨(show 0≤sizeLine by decide),(show 2≤sizeLine by decide),(show 1≤sizeLine by decide),(show 4≤sizeLine by decide),fun p hp=>?_⟩
   have n1:s≠p:=Zaw hs hp
   refine ⟨s,4,x,b,r,rfl,by decide,by decide,by rw [Zag n1];exact hs,fun i x1 i0 i1=>?_⟩
   obtain ⟨v,ev,v1,v2,v3⟩:=Zo7 (t:="b") (i:=0) (j:=2) (c:=true) (by decide +kernel) i0 i1 (m:=6) (by decide)
   rw [Ze2 (by rw [Zag (Ne.symm n1)];exact Zab),ev,Zaf]
   refine hC _ _ _ (fun c u hu=>?_) (q v x1 v1 (by omega) (by omega))
   by_cases hc:c=s
   ·subst hc;rw [Zab] at hu ⊢;exact hu
   ·rw [Zag hc] at hu ⊢;rw [Zag (Zaw hu hp)];exact hu
  rw [if_neg h3]
  have hr:k.hd="row":=by cases k <;> first | rfl | (cases kd;done) | exact absurd rfl h1 | exact absurd rfl h2 | exact absurd rfl h3
  obtain ⟨fs,o,rfl⟩:=ZqS hr
  obtain ⟨l,rfl⟩:∃ l,fs=ofL l:=⟨fs.toL,(ZqN fs).symm⟩
  obtain ⟨p5,l5,hy⟩:=Zw5 w1
  have l6:=ZnI l5
  rw [List.length_map] at l6
  have ek:(Kd.row (ofL l) o).cnt=1+(ofL l).cnt:=rfl
  have edp:(Kd.row (ofL l) o).dp=1+(ofL l).dp:=rfl
  have eenc:(Kd.row (ofL l) o).enc=.tup [.str "row",.tup (l.map ZkY),.bl o]:=by rw [← ZmF];rfl
  rw [eenc]
  simp only [Zat,Zbj,Zlx]
  intro p hp
  have nps:p≠s:=Ne.symm (Zaw hs hp)
  simp only [List.set_cons_zero,List.set_cons_succ,Zee,Zcv,Zak,Zar,Zae,gC,List.getElem?_cons_zero,List.getElem?_cons_succ,ixW,ZcW,Zaf]
  refine ZmG (n:=n) (M:=(ofL l).dp) nps l [] none none none _ x (fun y hm=>⟨(hy y hm).2,ZsI kd y hm,by have:=ZtR (l:=l) y hm;omega,ZtR (l:=l) y hm⟩) (Ze9 p5) (by simp only [List.length_nil];omega) (by rw [Zag (Ne.symm nps)];exact hs) Zab fun ω G' l2 x2 hω f1 f2 f3 f4 f5 f6=>?_
  obtain ⟨u,v,t,rfl⟩:=hω
  rw [List.nil_append] at f2
  have hk:∀ c,c≠s→c≠p→∀ u,G c=some u→G' c=some u:=fun c c1 c2 u hu=>f3 c c1 c2 u (by rw [Zag c2];exact hu)
  have nd2:(l2.map (·.1)).Nodup:=(Ze9 p5).sublist f4
  have okb:∀ y∈l2,Za1 y.1=true:=fun y hm=>by
   obtain ⟨z,hz,e⟩:=List.mem_map.mp (f4.subset (List.mem_map_of_mem hm))
   rw [← e];exact (hy z hz).1
  have done:∀ (l3:Pr) (G3:Hw) (x3:Int),(l3=l2∨(l3=l2++[(("b":Str),.int 7)]∧("b":Str)∉l2.map (·.1)))→G3 p=some (.dct (l3.map kvP))→G3 s=some (S2 x3 b r)→(∀ c,c≠s→c≠p→∀ u,G c=some u→G3 c=some u) →
    Zay (gB (rF ZhU) (L3.Zaa (Zhz (Zae 2)) L3.Zaj)) (ZaL Q) [some (.ref s),some (.tup [.str "row",.tup (l.map ZkY),.bl o]),some (.ref p),u,v,t] G3:=by
   intro l3 G3 x3 h3 g1 g2 g3
   have n3:=nd3 nd2 h3
   have hl3:l3.length≤6:=by
    have hb:l3.length≤(if ("b":Str)∈l.map (·.1) then l.length else l.length+1):=by
     have sub:∀ z:Str,z∈l3.map (·.1)→z∈l.map (·.1)∨z=("b":Str):=fun z hz=>by
      rcases h3 with rfl | ⟨rfl,_⟩
      ·exact .inl (f4.subset hz)
      ·rw [List.map_append] at hz
       rcases List.mem_append.mp hz with hz | hz
       ·exact .inl (f4.subset hz)
       ·exact .inr (List.mem_singleton.mp hz)
     by_cases hbm:("b":Str)∈l.map (·.1)
     ·rw [if_pos hbm]
      have:=Zcm (xs:=l.map (·.1)) n3 fun z hz=>by
       rcases sub z hz with h | h
       ·exact h
       ·rw [h];exact hbm
      rw [List.length_map,List.length_map] at this
      exact this
     ·rw [if_neg hbm]
      have:=Zcm (xs:=l.map (·.1)++[("b":Str)]) n3 fun z hz=>by
       rcases sub z hz with h | h
       ·exact List.mem_append_left _ h
       ·rw [h];exact List.mem_append_right _ List.mem_cons_self
      rw [List.length_map,List.length_append,List.length_map] at this
      exact this
    have h5:=l5
    unfold ZgX at h5
    rw [Bool.or_eq_true,Bool.and_eq_true,decide_eq_true_eq,decide_eq_true_eq,List.length_map] at h5
    rcases h5 with h5 | ⟨h5,hb5⟩
    ·split at hb <;> omega
    ·rw [if_pos (List.contains_iff_mem.mp hb5)] at hb;omega
   refine Zpn hC rfl g1 (by omega) n3 fun l' hr hpm=>?_
   have mem':∀ y∈l',y∈l3:=fun y hm=>hpm.mem_iff.mp hm
   have all3:∀ y∈l3,Za1 y.1=true∧y.2.ok 6=true∧y.2.dp≤(ofL l).dp+1:=fun y hm=>by
    rcases h3 with rfl | ⟨rfl,_⟩
    ·exact ⟨okb y hm,f5 y hm⟩
    ·rcases List.mem_append.mp hm with hm | hm
     ·exact ⟨okb y hm,f5 y hm⟩
     ·rw [List.mem_singleton.mp hm]
      exact ⟨by decide +kernel,rfl,by show 1≤_;omega⟩
   have hsum:(l3.map fun y=>y.2.cnt).sum≤(l2.map fun y=>y.2.cnt).sum+1:=by
    rcases h3 with rfl | ⟨rfl,_⟩
    ·omega
    ·rw [List.map_append,List.sum_append];exact Nat.le_refl _
   have:=q (.row (ofP l')) x3 (Zip hr (by rw [hpm.length_eq];exact hl3) fun y hm=>⟨(all3 y (mem' y hm)).1,(all3 y (mem' y hm)).2.1⟩) (by
    have:(ofP l').dp≤(ofL l).dp+1:=ZnU l' fun y hm=>(all3 y (mem' y hm)).2.2
    show 1+(ofP l').dp≤_
    omega) (by
    show 1+(ofP l').cnt≤_
    rw [Ztq hpm,ek]
    omega)
   exact hC _ _ _ (Zs9 hs hp g2 g3) this
  simp only [gIf,Zf2,Zcj,gTB,Zak,Zah,Zar,Zae,gC,L3.Zaa,L3.Zaj,List.getElem?_cons_zero,List.getElem?_cons_succ,ixW,Zdz,Zaf,Zeo,Zan]
  refine Zjq (fun _=>?_) (fun _=>done l2 G' x2 (.inl rfl) f2 f1 hk)
  refine ⟨s,2,x2,b,r,rfl,by decide,by decide,f1,fun i x3 _ _=>?_⟩
  have h3s:put G' s (S2 x3 b r) s=some (S2 x3 b r):=Zab
  have h3p:put G' s (S2 x3 b r) p=some (.dct (l2.map kvP)):=by rw [Zag nps];exact f2
  have h3k:∀ c,c≠s→c≠p→∀ u,G c=some u→put G' s (S2 x3 b r) c=some u:=fun c c1 c2 u hu=>by rw [Zag c1];exact hk c c1 c2 u hu
  simp only [gC,Zar,Zvi,Zaf]
  refine Zjq (fun _=>?_) (fun _=>done l2 _ x3 (.inl rfl) h3p h3s h3k)
  simp only [Zha,gMt,Zae,gC,L3.Zaa,L3.Zaj,List.getElem?_cons_zero,List.getElem?_cons_succ]
  refine ⟨⟨p,_,rfl,h3p⟩,p,_,"b",.int 7,rfl,rfl,h3p,p,l2.map kvP,"b",rfl,rfl,h3p,by rw [List.length_map];have:=f4.length_le;rw [List.length_map,List.length_map] at this;exact Zea (by omega),?_⟩
  obtain ⟨l3,e3,h3⟩:=Zra (x:="b") (d:=.int 7) nd2
  rw [show ZlW (l2.map kvP) "b" (.int 7)=ZlW (l2.map kvP) "b" (Vl.int 7).enc from rfl,e3]
  exact done l3 _ x3 h3 Zab (by rw [Zag (Ne.symm nps)];exact h3s) fun c c1 c2 u hu=>by rw [Zag c2];exact h3k c c1 c2 u hu
def ZyP (n:Nat):Spw:=fun ws G Q _=>∃ (s:Addr) (x:Int) (b:Bool) (r:List W) (v0:Vl),ws=[.ref s,v0.enc]∧v0.ok 6=true∧v0.dp≤n∧G s=some (S2 x b r)∧∀ (v:Vl) (x':Int),v.ok 7=true→v.dp≤v0.dp+1→v.cnt≤3*v0.cnt→Q v.enc (put G s (S2 x' b r))
theorem Ztz {n:Nat}:Spw.M (ZyP n):=(by rintro ws G Q Q' E E' h _ ⟨s,x,b,r,k,h1,h2,h3,h4,q⟩;exact ⟨s,x,b,r,k,h1,h2,h3,h4,fun k' x' z1 z2 z3=>h _ _ (q k' x' z1 z2 z3)⟩)
abbrev ZzX (sp:Spw):GS:=gIf (gTB (Zak (Zfg fun i j=>decide (j < i)) (Zah Zdp XF (L3.Zaa (Zae 0) (L3.Zaa (gC (.int 8)) L3.Zaj))) (gC (.int 0)))) (Zha (Zah sp XF (L3.Zaa (Zae 0) (L3.Zaa (Zae 4) L3.Zaj))) (Zae 2) (Zae 3)) Zan
theorem Zmo {n M:Nat} {D:Ew} {s p:Addr} {b:Bool} {r:List W} {w1:Option W} (nps:p≠s):∀ (l dn:Pr) (o3 o4:Option W) (G:Hw) (x:Int),(∀ y∈l,y.2.ok 6=true∧y.2.dp≤n∧y.2.dp≤M)→(dn.map (·.1)++l.map (·.1)).Nodup→dn.length+l.length≤100→G s=some (S2 x b r)→G p=some (.dct (dn.map kvP)) →
  (∀ ω G' l2 x',(∃ u v,ω=[some (.ref s),w1,some (.ref p),u,v])→G' s=some (S2 x' b r)→G' p=some (.dct ((dn++l2).map kvP))→(∀ c,c≠s→c≠p→∀ u,G c=some u→G' c=some u)→(l2.map (·.1)).Sublist (l.map (·.1))→(∀ y∈l2,y.2.ok 7=true∧y.2.dp≤M+1)→(l2.map fun y=>y.2.cnt).sum≤3*(ofP l).cnt→D.nx ω G') →
  Zcz yes (ZmU 3 4) (ZzX (ZyP n)) D (l.map ZkX) [some (.ref s),w1,some (.ref p),o3,o4] G
 | [],dn,o3,o4,G,x,_,_,_,hs,hp,fin=>⟨trivial,fin _ G [] x ⟨o3,o4,rfl⟩ hs (by rw [List.append_nil];exact hp) (fun b _ _ u h=>h) .slnil (by intro y hy;cases hy) (Nat.zero_le _)⟩
 | u::l,dn,o3,o4,G,x,hg,hnd,hl,hs,hp,fin=>by
  rw [List.length_cons] at hl
  have ecu:(ofP (u::l)).cnt=u.2.cnt+(ofP l).cnt:=rfl
  have hnd':(dn.map (·.1)++u.1::l.map (·.1)).Nodup:=hnd
  have hnu:u.1∉dn.map (·.1):=fun hm=>(List.nodup_append.mp hnd').2.2 _ hm _ List.mem_cons_self rfl
  have hnl:(dn.map (·.1)++l.map (·.1)).Nodup:=hnd'.sublist ((List.Sublist.refl _).append (List.sublist_cons_self _ _))
  refine ⟨trivial,?_⟩
  show ZzX (ZyP n) _ [some (.ref s),w1,some (.ref p),some (.str u.1),some u.2.enc] G
  simp only [gIf,gTB,Zak,Zah,Zfg,Zae,gC,List.getElem?_cons_zero,List.getElem?_cons_succ,L3.Zaa,L3.Zaj,Zan]
  refine ⟨s,8,x,b,r,rfl,by decide,by decide,hs,fun i x1 _ _=>?_⟩
  have h1s:put G s (S2 x1 b r) s=some (S2 x1 b r):=Zab
  have h1p:put G s (S2 x1 b r) p=some (.dct (dn.map kvP)):=by rw [Zag nps];exact hp
  refine Zjq (fun h=>?_) (fun h=>?_)
  ·obtain ⟨g1,g3,g4⟩:=hg u List.mem_cons_self
   simp only [Zha,Zah,Zae,List.getElem?_cons_zero,List.getElem?_cons_succ,L3.Zaa,L3.Zaj]
   refine ⟨s,x1,b,r,u.2,rfl,g1,g3,h1s,fun v x2 k1 k2 k3=>?_⟩
   rw [Zf7]
   refine ⟨p,dn.map kvP,u.1,rfl,rfl,by rw [Zag nps];exact hp,by rw [List.length_map];exact Zea (by omega),?_⟩
   rw [ZmQ hnu]
   refine Zmo (M:=M) nps l (dn++[(u.1,v)]) _ _ _ x2 (fun y hy=>hg y (List.mem_cons_of_mem _ hy)) (by rw [List.map_append,List.append_assoc];exact hnd') (by rw [List.length_append];simp only [List.length_cons,List.length_nil];omega) (by rw [Zag (Ne.symm nps)];exact Zab) Zab fun ω G' l2 x' hω f1 f2 f3 f4 f5 f6=>?_
   refine fin ω G' ((u.1,v)::l2) x' hω f1 (by rw [f2,List.append_assoc];rfl) (fun c b1 b2 y hy=>f3 c b1 b2 y ?_) (f4.cons_cons _) (fun y hy=>?_) ?_
   ·rw [Zag b2,Zag b1];exact hy
   ·walk_at "ps"
    ·exact ⟨k1,by show v.dp≤_;omega⟩
    ·exact f5 y hy
   ·rw [List.map_cons,List.sum_cons,ecu]
    show v.cnt+_≤_
    omega
  ·refine Zmo (M:=M) nps l dn _ _ _ x1 (fun v hv=>hg v (List.mem_cons_of_mem _ hv)) hnl (by omega) h1s h1p fun ω G' l2 x' hω f1 f2 f3 f4 f5 f6=>?_
   exact fin ω G' l2 x' hω f1 f2 (fun c b1 b2 v hv=>f3 c b1 b2 v (by rw [Zag b1];exact hv)) (f4.cons _) f5 (by rw [ecu];omega)
theorem Zbi (T:Tx K mg base a):∀ n:Nat,Df P w K mg base "_law_turned" (n+1) 2 (ZyP n)
 | 0=>Zlz T.Zgj Ztz fun ws G Q E ⟨s,x,b,r,k,_,_,h,_⟩=>by have:=ZvA k;omega
 | n+1=>by
  refine mk0 (k:=n+1) T.Zgj rfl Zgm Ztz (fun ws G Q E ⟨s,x,b,r,k,e,_⟩=>by rw [e];rfl) (Zj6 T (Zal T) (by omega) (Zbi T n) (Nat.le_refl _)) fun ws G Q E hC q=>?_
  obtain ⟨s,x,b,r,v0,rfl,ok0',hd,hs,q⟩:=q
  have kp:=ZvA v0
  have kc:=Zpz v0
  unfold Zgr
  show Zat (gIf _ _ Zan) _ (ZaL Q) [some (.ref s),some v0.enc,none,none,none] G
  simp only [Zat,gIf,gTB,Zak,Zah,Zar,Zae,gC,L3.Zaa,L3.Zaj,List.getElem?_cons_zero,List.getElem?_cons_succ]
  refine ⟨s,6,x,b,r,rfl,by decide,by decide,hs,fun i x1 i0 i1=>?_⟩
  dsimp only
  have h1s:put G s (S2 x1 b r) s=some (S2 x1 b r):=Zab
  rw [show eqF false (.int i) (.int 0) (put G s (S2 x1 b r))=some (.bl (i==0)) by unfold eqF eqW;show some (W.bl ((i==0) != false))=_;cases (i==0) <;> rfl,Zaf]
  dsimp only
  refine Zjq (fun _=>?_) (fun _=>?_)
  ·simp only [Zay,Zak,Zb1,Zah,Zar,L3.Zbq,Zae,gC,L3.Zaa,L3.Zaj,List.getElem?_cons_zero,List.getElem?_cons_succ]
   refine ⟨(show 0≤sizeLine by decide),(show 2≤sizeLine by decide),(show 1≤sizeLine by decide),(show 4≤sizeLine by decide),fun p hp=>?_⟩
   have n1:s≠p:=Zaw h1s hp
   refine ⟨s,4,x1,b,r,rfl,by decide,by decide,by rw [Zag n1];exact h1s,fun i x2 i0 i1=>?_⟩
   obtain ⟨v,ev,v1,v2,v3⟩:=Zo7 (t:="a") (i:=3) (j:=1) (c:=false) (by decide +kernel) i0 i1 (m:=7) (by decide)
   rw [Ze2 (by rw [Zag (Ne.symm n1)];exact Zab),ev,Zaf]
   refine hC _ _ _ (fun c u hu=>?_) (q v x2 v1 (by omega) (by omega))
   by_cases hc:c=s
   ·subst hc;rw [Zab] at hu ⊢;exact hu
   ·rw [Zag hc] at hu ⊢
    have hu1:put G s (S2 x1 b r) c=some u:=by rw [Zag hc];exact hu
    rw [Zag (Zaw hu1 hp)];exact hu1
  simp only [Zan,Zat,gIf,Zcj,Zbb,Zae,List.getElem?_cons_zero,List.getElem?_cons_succ]
  cases v0 with
  | int i =>
   simp only [Vl.enc,tyN,Zv3,Zeo,if_true,Zay,Zae,List.getElem?_cons_zero,List.getElem?_cons_succ]
   exact q (.int i) x1 rfl (by show 1≤2;decide) (by show 1≤3;decide)
  | bl i =>
   simp only [Vl.enc,tyN,ZyR,Zeo,if_true,Zay,Zae,List.getElem?_cons_zero,List.getElem?_cons_succ]
   exact q (.bl i) x1 rfl (by show 1≤2;decide) (by show 1≤3;decide)
  | row ps =>
   obtain ⟨l,rfl⟩:∃ l,ps=ofP l:=⟨ps.toP,(Zo5 ps).symm⟩
   obtain ⟨p5,l6,hy⟩:=Zvw ok0'
   have ek:(Vl.row (ofP l)).cnt=1+(ofP l).cnt:=rfl
   have edp:(Vl.row (ofP l)).dp=1+(ofP l).dp:=rfl
   rw [ZhK]
   simp only [tyN,Zv5,Zeo,Bool.false_eq_true,if_false,Zbj,Zlx]
   intro p hp
   have nps:p≠s:=Ne.symm (Zaw h1s hp)
   simp only [List.set_cons_zero,List.set_cons_succ,Zee,Zcv,Zae,List.getElem?_cons_zero,List.getElem?_cons_succ]
   refine Zmo (n:=n) (M:=(ofP l).dp) nps l [] none none _ x1 (fun y hm=>⟨(hy y hm).2,by have:=ZmC (l:=l) y hm;omega,ZmC (l:=l) y hm⟩) (Ze9 p5) (by simp only [List.length_nil];omega) (by rw [Zag (Ne.symm nps)];exact h1s) Zab fun ω G' l2 x2 hω f1 f2 f3 f4 f5 f6=>?_
   obtain ⟨u,v,rfl⟩:=hω
   rw [List.nil_append] at f2
   have hp0:G p=none:=by rw [Zag nps] at hp;exact hp
   have hk:∀ c,c≠s→c≠p→∀ u,G c=some u→G' c=some u:=fun c c1 c2 u hu=>f3 c c1 c2 u (by rw [Zag c2,Zag c1];exact hu)
   have nd2:(l2.map (·.1)).Nodup:=(Ze9 p5).sublist f4
   have len2:l2.length≤6:=by have:=f4.length_le;rw [List.length_map,List.length_map] at this;omega
   have okb:∀ y∈l2,Za1 y.1=true:=fun y hm=>by
    obtain ⟨z,hz,e⟩:=List.mem_map.mp (f4.subset (List.mem_map_of_mem hm))
    rw [← e];exact (hy z hz).1
   have done:∀ (l3:Pr) (G3:Hw) (x3:Int),(l3=l2∨(l3=l2++[(("c":Str),.int 0)]∧("c":Str)∉l2.map (·.1)))→G3 p=some (.dct (l3.map kvP))→G3 s=some (S2 x3 b r)→(∀ c,c≠s→c≠p→∀ u,G c=some u→G3 c=some u) →
     Zay (gB (rF ZhU) (L3.Zaa (Zhz (Zae 2)) L3.Zaj)) (ZaL Q) [some (.ref s),some (.tup (l.map ZkX)),some (.ref p),u,v] G3:=by
    intro l3 G3 x3 h3 g1 g2 g3
    have n3:=nd3 nd2 h3
    have hl3:l3.length≤7:=by
     rcases h3 with rfl | ⟨rfl,_⟩
     ·omega
     ·rw [List.length_append];simp only [List.length_cons,List.length_nil];omega
    refine Zpn hC rfl g1 hl3 n3 fun l' hr hpm=>?_
    have mem':∀ y∈l',y∈l3:=fun y hm=>hpm.mem_iff.mp hm
    have all3:∀ y∈l3,Za1 y.1=true∧y.2.ok 7=true∧y.2.dp≤(ofP l).dp+1:=fun y hm=>by
     rcases h3 with rfl | ⟨rfl,_⟩
     ·exact ⟨okb y hm,f5 y hm⟩
     ·rcases List.mem_append.mp hm with hm | hm
      ·exact ⟨okb y hm,f5 y hm⟩
      ·rw [List.mem_singleton.mp hm]
       exact ⟨by decide +kernel,rfl,by show 1≤_;omega⟩
    have hsum:(l3.map fun y=>y.2.cnt).sum≤(l2.map fun y=>y.2.cnt).sum+1:=by
     rcases h3 with rfl | ⟨rfl,_⟩
     ·omega
     ·rw [List.map_append,List.sum_append];exact Nat.le_refl _
    have:=q (.row (ofP l')) x3 (Zip hr (by rw [hpm.length_eq];exact hl3) fun y hm=>⟨(all3 y (mem' y hm)).1,(all3 y (mem' y hm)).2.1⟩) (by
     have:(ofP l').dp≤(ofP l).dp+1:=ZnU l' fun y hm=>(all3 y (mem' y hm)).2.2
     show 1+(ofP l').dp≤_
     omega) (by
     show 1+(ofP l').cnt≤_
     rw [Ztq hpm,ek]
     omega)
    exact hC _ _ _ (Zs9 hs hp0 g2 g3) this
   simp only [Zat,gIf,gTB,Zak,Zah,Zar,Zae,gC,L3.Zaa,L3.Zaj,List.getElem?_cons_zero,List.getElem?_cons_succ,Zan]
   refine ⟨s,8,x2,b,r,rfl,by decide,by decide,f1,fun i x3 _ _=>?_⟩
   have h3s:put G' s (S2 x3 b r) s=some (S2 x3 b r):=Zab
   have h3p:put G' s (S2 x3 b r) p=some (.dct (l2.map kvP)):=by rw [Zag nps];exact f2
   have h3k:∀ c,c≠s→c≠p→∀ u,G c=some u→put G' s (S2 x3 b r) c=some u:=fun c c1 c2 u hu=>by rw [Zag c1];exact hk c c1 c2 u hu
   simp only [gC,Zar,Zvi,Zaf]
   refine Zjq (fun _=>?_) (fun _=>done l2 _ x3 (.inl rfl) h3p h3s h3k)
   simp only [Zha,gMt,Zae,gC,L3.Zaa,L3.Zaj,List.getElem?_cons_zero,List.getElem?_cons_succ]
   refine ⟨⟨p,_,rfl,h3p⟩,p,_,"c",.int 0,rfl,rfl,h3p,p,l2.map kvP,"c",rfl,rfl,h3p,by rw [List.length_map];exact Zea (by omega),?_⟩
   obtain ⟨l3,e3,h3⟩:=Zra (x:="c") (d:=.int 0) nd2
   rw [show ZlW (l2.map kvP) "c" (.int 0)=ZlW (l2.map kvP) "c" (Vl.int 0).enc from rfl,e3]
   exact done l3 _ x3 h3 Zab (by rw [Zag (Ne.symm nps)];exact h3s) fun c c1 c2 u hu=>by rw [Zag c2];exact h3k c c1 c2 u hu
def Zz4:Spw:=fun ws G Q _=>∃ (ns:List Int) (i:Int) (k:Kd),ws=[.rol (ns.map W.int),.int i,k.enc]∧0≤i∧kd8 k∧k.dat=true∧∀ v:Vl,vg v→Q v.enc G
theorem Zx5:Spw.M Zz4:=(by rintro ws G Q Q' E E' h _ ⟨ns,i,k,h1,h2,h3,h4,q⟩;exact ⟨ns,i,k,h1,h2,h3,h4,fun v g=>h _ _ (q v g)⟩)
theorem ZbD (T:Tx K mg base a):Df P w K mg base "_law_drawn_value" 12 3 Zz4:=by
 refine mk0 (k:=11) T.Zgy rfl Zdo Zx5 ((by rintro ws G Q E ⟨ns,i,k,e,_⟩;rw [e];rfl)) (ZgA T (Zbs T) (by omega) (Zal T) (by omega) (ZbG T 3) (by omega) (ZaX T 8) (by omega) (Zbi T 9) (by omega) (Zbl T 10) (by omega)) fun ws G Q E hC q=>?_
 obtain ⟨ns,i,k,rfl,h0,hk,kd,q⟩:=q
 unfold Zdm
 show Zat (Zbj 3 _) _ (ZaL Q) [some (.rol (ns.map W.int)),some (.int i),some k.enc,none,none,none,none,none] G
 simp only [Zat,Zbj,Zak,Zah,Zb1,L3.Zaa,L3.Zaj,Zae,gC,List.getElem?_cons_zero,List.getElem?_cons_succ]
 refine ⟨ns,i,rfl,h0,fun p x b hp=>⟨(show 1≤sizeLine by decide),fun p1 e1=>?_⟩⟩
 have s0:Sub G (put G p (.lst [.int x,.bl b])):=ZaS hp
 have f0:put G p (.lst [.int x,.bl b]) p=some (.lst [.int x,.bl b]):=Zab
 generalize put G p (.lst [.int x,.bl b])=G0 at s0 f0 e1 ⊢
 have s1:Sub G0 (put G0 p1 (.lst [.int 12])):=ZaS e1
 have f1:put G0 p1 (.lst [.int 12]) p1=some (.lst [.int 12]):=Zab
 generalize put G0 p1 (.lst [.int 12])=G1 at s1 f1 ⊢
 rw [ZgF (by rintro ⟨⟨_,h⟩,_⟩;cases h)]
 unfold L3.Zfj
 simp only [s1 _ _ f0,f1]
 refine ⟨(show 3≤sizeLine by decide),fun s es=>?_⟩
 have S:Sub G G1:=s0.trans s1
 have hsG:G s=none:=by
  cases z:G s with
  | none=>rfl
  | some u=>rw [S _ _ z] at es;cases es
 have hs:put G1 s (.lst ([.int x,.bl b]++[.int 12])) s=some (.lst [.int x,.bl b,.int 12]):=Zab
 have S2':Sub G (put G1 s (.lst ([.int x,.bl b]++[.int 12]))):=ZbJ hsG S
 generalize put G1 s (.lst ([.int x,.bl b]++[.int 12]))=G2 at hs S2' ⊢
 simp only [List.set_cons_zero,List.set_cons_succ,gIf,gTB,Zak,Zah,Zar,L3.Zaa,L3.Zaj,Zae,gC,List.getElem?_cons_zero,List.getElem?_cons_succ]
 refine ⟨s,4,x,b,[.int 12],rfl,by decide,by decide,hs,fun r x1 r0 r1=>?_⟩
 have h3:put G2 s (.lst [.int x1,.bl b,.int 12]) s=some (.lst [.int x1,.bl b,.int 12]):=Zab
 have S3:Sub G (put G2 s (.lst [.int x1,.bl b,.int 12])):=ZbJ hsG S2'
 generalize put G2 s (.lst [.int x1,.bl b,.int 12])=G3 at h3 S3 ⊢
 simp only [List.set_cons_zero,List.set_cons_succ,Zat,gIf,gTB,Zak,Zar,Zae,gC,List.getElem?_cons_zero,List.getElem?_cons_succ]
 rw [show eqF false (.int r) (.int 0) G3=some (.bl (r==0)) by unfold eqF eqW;show some (W.bl ((r==0) != false))=_;cases (r==0) <;> rfl,Zaf]
 dsimp only
 refine Zjq (fun _=>?_) (fun _=>?_)
 ·simp only [Zay,Zah,L3.Zaa,L3.Zaj,Zae,gC,List.getElem?_cons_zero,List.getElem?_cons_succ]
  refine ⟨s,x1,4,12,b,rfl,by decide,by decide,h3,fun v x2 g=>?_⟩
  obtain ⟨u1,u2,u3⟩:=g
  exact hC _ _ _ (ZbJ hsG S3) (q v ⟨ZhN v (by decide) u1,by omega,by omega⟩)
 simp only [Zan,Zbj,Zah,L3.Zaa,L3.Zaj,Zae,gC,List.getElem?_cons_zero,List.getElem?_cons_succ]
 have c40:=hk.2.1
 have d8:=hk.2.2
 refine ⟨s,x1,b,[.int 12],k,rfl,hk.1,kd,d8,h3,fun v x2 v1 v2 v3=>?_⟩
 have h4:put G3 s (S2 x2 b [.int 12]) s=some (S2 x2 b [.int 12]):=Zab
 have S4:Sub G (put G3 s (S2 x2 b [.int 12])):=ZbJ hsG S3
 generalize put G3 s (S2 x2 b [.int 12])=G4 at h4 S4 ⊢
 simp only [List.set_cons_zero,List.set_cons_succ,Zat,gIf,gTB,Zak,Zar,Zbj,Zae,gC,List.getElem?_cons_zero,List.getElem?_cons_succ]
 have goal:∀ (t:Vl) (G5:Hw),Sub G G5→t.ok 7=true→t.dp≤10→t.cnt≤1000000 →
   Zat (Zee (Za7 (Zb1 (L3.Zaa (Zae 6) (L3.Zaa (Zae 5) L3.Zaj)))) (gNm 7) (gIf (gTB (Zak (Zdw (fun i j=>decide (i < j)) ZaA) (Zah (Zuy 10) XF (L3.Zaa (Zae 7) L3.Zaj)) (gC (.int 101)))) (Zay (Zae 7)) Zan)) (Zay (gC (.int 0))) (ZaL Q) [some (.rol (ns.map W.int)),some (.int i),some k.enc,some (.ref s),some (.int r),some v.enc,some t.enc,none] G5:=by
  intro t G5 S5 t1 t2 t3
  simp only [Zat,Zee,Za7,Zb1,Zae,L3.Zaa,L3.Zaj,List.getElem?_cons_zero,List.getElem?_cons_succ]
  refine ⟨(show 2≤sizeLine by decide),fun p2 hp2=>?_⟩
  simp only [Zab]
  have S6:Sub G (put G5 p2 (.lst [t.enc,v.enc])):=Zcs S5 hp2
  have f6:put G5 p2 (.lst [t.enc,v.enc]) p2=some (.lst [t.enc,v.enc]):=Zab
  generalize put G5 p2 (.lst [t.enc,v.enc])=G6 at S6 f6 ⊢
  have turn:∀ (u:Vl) (o7:Option W) (xs:List W),u.ok 7=true→u.dp≤10→u.cnt≤1000000→(∀ o7,Zcz (holds p2 [t.enc,v.enc]) (gNm 7) (gIf (gTB (Zak (Zdw (fun i j=>decide (i < j)) ZaA) (Zah (Zuy 10) XF (L3.Zaa (Zae 7) L3.Zaj)) (gC (.int 101)))) (Zay (Zae 7)) Zan) { nx:=Zay (gC (.int 0)) (ZaL Q),rt:=(ZaL Q).rt,bk:=(ZaL Q).bk,ct:=(ZaL Q).ct } xs [some (.rol (ns.map W.int)),some (.int i),some k.enc,some (.ref s),some (.int r),some v.enc,some t.enc,o7] G6) →
    Zcz (holds p2 [t.enc,v.enc]) (gNm 7) (gIf (gTB (Zak (Zdw (fun i j=>decide (i < j)) ZaA) (Zah (Zuy 10) XF (L3.Zaa (Zae 7) L3.Zaj)) (gC (.int 101)))) (Zay (Zae 7)) Zan) { nx:=Zay (gC (.int 0)) (ZaL Q),rt:=(ZaL Q).rt,bk:=(ZaL Q).bk,ct:=(ZaL Q).ct } (u.enc::xs) [some (.rol (ns.map W.int)),some (.int i),some k.enc,some (.ref s),some (.int r),some v.enc,some t.enc,o7] G6:=by
   intro u o7 xs u1 u2 u3 nx
   refine ⟨f6,?_⟩
   show gIf _ _ Zan _ [some (.rol (ns.map W.int)),some (.int i),some k.enc,some (.ref s),some (.int r),some v.enc,some t.enc,some u.enc] G6
   simp only [gIf,gTB,Zak,Zdw,Zah,Zae,gC,L3.Zaa,L3.Zaj,List.getElem?_cons_zero,List.getElem?_cons_succ,Zan,Zay]
   refine ⟨u,⟨rfl,u2,u3⟩,?_⟩
   refine Zjq (fun h=>?_) (fun _=>nx _)
   have hu:u.cnt≤100:=by have h':(u.cnt:Int) < 101:=by simpa using h
                         omega
   exact hC _ _ _ S6 (q u ⟨u1,hu,u2⟩)
  refine turn t none [v.enc] t1 t2 t3 fun o7=>turn v o7 [] (ZhN v (by decide) v1) (by omega) (by omega) fun o7=>⟨f6,hC _ _ _ S6 (q (.int 0) ⟨rfl,by decide,by decide⟩)⟩
 rw [Zvi,Zaf]
 dsimp only
 refine Zjq (fun _=>?_) (fun _=>goal v G4 S4 (ZhN v (by decide) v1) (by omega) (by omega))
 simp only [Zah,L3.Zaa,L3.Zaj,Zae,List.getElem?_cons_zero,List.getElem?_cons_succ]
 refine ⟨s,x2,b,[.int 12],v,rfl,v1,by omega,h4,fun t x3 t1 t2 t3=>?_⟩
 walk_at "pq"
 exact goal t _ (ZbJ hsG S4) t1 (by omega) (by omega)
abbrev Zys:List Str:=["script","kind","value","due","found","told"]
theorem ZwF:Zau Zys ["script"] (Zai Zor):=by walk_at "s"
def Zx8 (ZbE:Spw) (Zbw:Spw) (ZaT:Spw) (Zcl:Spw) (Zj2:Spw):GS:=(Zat (Zbj 1 (Zah ZbE XF (Zaa (Zae 0) (Zaa (gC (.int 0)) (Zaa (gC (.bl true)) (Zaa (gC (.bl false)) Zaj)))))) (Zat (Zbj 2 (Zah Zbw XF (Zaa (Zae 0) (Zaa (gC (.int 1)) (Zaa (Zae 1) Zaj))))) (Zat (Zbj 3 (Zah ZaT XF (Zaa (Zae 2) (Zaa (Zae 1) Zaj)))) (Zat (Zbj 4 (Zah Zcl XF (Zaa (Zae 2) (Zaa (Zae 1) Zaj)))) (Zat (Zbj 5 (Zah Zj2 XF (Zaa (Zae 2) (Zaa (Zae 1) Zaj)))) (Zat (gIf (gOr (gTB (Zak (Zar (eqF true)) (Zae 4) (Zae 3))) (gOr (gNt (Zcj (Zbb "bool" (Zae 5)))) (gTB (Zak (Zar (eqF true)) (Zae 5) (Zak (Zar (isF false)) (Zae 3) (gC .non)))))) (Zay (gC (.bl false))) Zan) (Zat (gIf (gTB (Zak (Zar (isF false)) (Zae 4) (gC .non))) (Zay (gC (.bl true))) Zan) (Zay (Zci (Zbb "tuple" (Zae 4)) (gB (rF ZgP) (Zaa (ZbU (Za7 (Zae 4)) 1 (gNm 0) Zgh (Zbb "str" (Zae 0))) Zaj)))))))))))
theorem ZzS {k:Nat} (T:Tx K mg base a) {ZbQ:Nat} {ZbE:Spw} (ZoK:Df P w K mg base "_law_drawn_kind" ZbQ 4 ZbE) (Zok:ZbQ≤k) {ZbD:Nat} {Zbw:Spw} (Znf:Df P w K mg base "_law_drawn_value" ZbD 3 Zbw) (ZnO:ZbD≤k) {Zbm:Nat} {ZaT:Spw} (Zka:Df P w K mg base "_law_misfit" Zbm 2 ZaT) (Zkh:Zbm≤k) {Zdn:Nat} {Zcl:Spw} (ZrO:Df P w K mg base "misfit" Zdn 2 Zcl) (Zrx:Zdn≤k) {ZnF:Nat} {Zj2:Spw} (ZAa:Df P w K mg base "fits" ZnF 2 Zj2) (h_fits:ZnF≤k) {f:Addr} {cdv:Value} {A:Around} {outer:List Env} {s:Shared} {H:Hp} {E:XK} (hr:Room k (A.deeper (envOfC "law" (Zai Zor) s.heap.objs.size f cdv))):Ssm (cxW P w K mg base Zys "law" (Zai Zor) f cdv A outer s H E).nox (fun B=>B=H) (Zc2 Zor) (Zx8 ZbE Zbw ZaT Zcl Zj2) :=
 have hu:=ZgQ hr
 have hN:=ZwF.nd
 (Zam (by walk_at "v") (Zam (by walk_at "v") (Zam (by walk_at "v") (Zam (by walk_at "v") (Zam (by walk_at "v") (Zam (by walk_at "v") (Zam (by walk_at "v") (Za3 (ZbZ (ZdP (by walk_at "v") (ZdR (ZaO ZcV (ZbN rfl) rfl T.Ze6 (by decide) rfl rfl rfl (ZaG rfl (Zc3 (Nc:=["step"]) rfl (ZoO rfl (by decide +kernel) (by decide +kernel)) (fun _=>rfl) (by walk_at "v") (ZcJ (i:=0) (by decide) rfl rfl) (fun C fp s1 H1=>Zbz) (fun C fp s1 H1=>(by walk_at "v"))) Zby)))))))))))))
theorem ZgG {i:Nat} {ge:GE} {Zdr:GS} {D:Ew} {ω:Sw} {G:Hw} (h:ge ω G fun w G1=>Zdr D (ω.set i (some w)) G1):Zat (Zbj i ge) Zdr D ω G:=h
theorem Znx:∀ p:List Str,L3.dpL (p.map W.str)=0
 | []=>rfl
 | x::p=>by show max 0 (L3.dpL (p.map W.str))=0;rw [Znx p];rfl
theorem Zn3:∀ p:List Str,ZhH (p.map W.str) (p.map W.str)=some true
 | []=>rfl
 | x::p=>by
  show (match eqD (.str x) (.str x),ZhH (p.map W.str) (p.map W.str) with | some a,some b=>some (a&&b) | _,_=>none)=some true
  rw [Zn3 p]
  show some ((x==x)&&true)=some true
  rw [beq_self_eq_true];rfl
theorem ZvZ (c:Option (List Str)) (G:Hw):eqF true (pW c) (pW c) G=some (.bl false):=by
 cases c with
 | none=>rfl
 | some p =>
  unfold eqF eqW pW
  show Option.map _ (if L3.dpL (p.map W.str) < 90 then ZhH (p.map W.str) (p.map W.str) else none)=_
  rw [Znx,if_pos (by decide),Zn3];rfl
theorem ZAs:Zju "str" "str"=true:=by decide
theorem Zy3 (T:Tx K mg base a) {f:Addr} {fd:FuncData} (F:Fun K "law" "law" Zor f fd):FnOk P w K mg base (CXe P w) 30 f fd ["script"] (Zwb K Zsh):=by
 refine ok0 F ZwF (fun ws G Q E ⟨ns,e,_⟩=>by rw [e];rfl) (ZzS (k:=29) T (ZbQ T) (by omega) (ZbD T) (by omega) (Zbm T 8 (by decide)) (by omega) (Zdn T) (by omega) (ZnF T) (by omega)) fun ws G Q E hC q=>?_
 obtain ⟨ns,rfl,hns,q⟩:=q
 unfold Zx8
 show Zat (Zbj 1 _) _ (ZaL Q) [some (.rol (ns.map W.int)),none,none,none,none,none] G
 refine ZgG ?_
 refine ⟨ns,0,false,rfl,by decide,fun kind k1 kn1=>?_⟩
 have d1:=kn1.1
 have k1:kd8 kind:=⟨k1.1,k1.2.1,Nat.le_trans (Zlm kind) k1.2.2⟩
 walk_at "pq"
 refine ZgG ?_
 refine ⟨ns,1,kind,rfl,by decide,k1,d1,fun v hv=>?_⟩
 walk_at "pq"
 have hvk:vk 8 v kind:=⟨hv.1,k1.1,d1,k1.2.2⟩
 refine ZgG ⟨(v,kind),⟨rfl,hvk⟩,?_⟩
 walk_at "pq"
 refine ZgG ⟨(v,kind),⟨rfl,hv,k1,d1⟩,?_⟩
 walk_at "pq"
 refine ZgG ⟨(v,kind),⟨rfl,hv,k1,d1⟩,?_⟩
 walk_at "pq"
 have hlen:=ZnM 8 v kind
 generalize mf 8 v kind=c at hlen ⊢
 have eqb:∀ (d:Bool),eqF true (.bl d) (.bl d) G=some (.bl false):=fun d=>by unfold eqF eqW;cases d <;> rfl
 simp only [Zat,gIf,gOr,gNt,Zcj,gTB,Zak,Zar,Zae,gC,Zbb,List.getElem?_cons_zero,List.getElem?_cons_succ,ZvZ,Zaf,tyN,ZzP,Zeo,Bool.not_true,Bool.false_eq_true,if_false,Zs6,eqb,Zan]
 cases c with
 | none=>exact q _
 | some p =>
  simp only [Option.isNone_some,Bool.false_eq_true,if_false,Zay,Zci,Zbb,Zae,List.getElem?_cons_zero,List.getElem?_cons_succ,pW,tyN,ZyU,gB,rF,ZbU,Za7,L3.Zaa,L3.Zaj,if_true]
  refine Zi2 (f:=fun _=>.bl true) trivial (p.map W.str) none [] (fun x hx Q' q'=>?_) ?_ ?_
  ·obtain ⟨y,_,rfl⟩:=List.mem_map.mp hx
   simp only [Zbb,Zae,List.getElem?_cons_zero,tyN,ZAs]
   exact q'
  ·have:=hlen p rfl
   rw [List.length_map]
   exact Za0 (by simp only [List.length_nil];omega)
  ·intro p1 hp1
   rw [List.nil_append,show ((p.map W.str).map fun _=>W.bl true)=((p.map W.str).map fun _=>true).map W.bl by simp]
   show opt (ZgP [.ref p1] _) _
   unfold ZgP
   walk_at "pf"
   have hall:((p.map W.str).map fun _=>true).all id=true:=by simp
   rw [hall]
   exact q _
theorem Zof {base:Heap} {e:DictEntry} {x:Str} {i:Int} {t u:Tok} {es:List DictEntry} {D:List (Str×KTD.Dat)} (h1:e.key=.str x t) (h2:e.val=.int i u) (r:KTD.Rows (KTD.Dat.At base) es D):KTD.Rows (KTD.Dat.At base) (e::es) ((x,KTD.Dat.flat (.int i))::D) :=
 .cons h1 (by rw [h2];exact PyProof.V.Flat.int i u) r
theorem ZzQ {K:PySem.W.Frag} {h:Heap} {mg:Str→Option Value} (X:K.In h) (G:h.Ns mainGlobals mg) (FF:Fns K mg) (NN:Bls mg) {c_CastError c_NoKind c_NoValue:Addr} {z_MARKS:Addr} {w0_MARKS w1_MARKS:Tok} {nn_MARKS:Nat} {sl_MARKS:Array (Option Value)} {w_MOST_DEPTH:Tok} {w_MOST_KINDS:Tok} {w_MOST_LETTERS:Tok} {z_LENGTHS:Addr} {ep_LENGTHS:Nat} {e0_LENGTHS e1_LENGTHS e2_LENGTHS e3_LENGTHS e4_LENGTHS e5_LENGTHS:DictEntry} {a0_LENGTHS b0_LENGTHS:Tok} {a1_LENGTHS b1_LENGTHS:Tok} {a2_LENGTHS b2_LENGTHS:Tok} {a3_LENGTHS b3_LENGTHS:Tok} {a4_LENGTHS b4_LENGTHS:Tok} {a5_LENGTHS b5_LENGTHS:Tok} {w_MOST_VALUES:Tok} {w_MOST_VALUE_DEPTH:Tok}
  (e_CastError:PySem.W.nsIn K mainGlobals "CastError"=some (some (.ref c_CastError)))
  (e_NoKind:PySem.W.nsIn K mainGlobals "NoKind"=some (some (.ref c_NoKind)))
  (e_NoValue:PySem.W.nsIn K mainGlobals "NoValue"=some (some (.ref c_NoValue)))
  (Zcc:PySem.W.nsIn K mainGlobals "MARKS"=some (some (.ref z_MARKS)))
  (l_MARKS:K.lookup z_MARKS=some ⟨.type "tuple",none,.seq #[.str "must" w0_MARKS,.str "may" w1_MARKS] nn_MARKS,sl_MARKS⟩)
  (ZaE:PySem.W.nsIn K mainGlobals "MOST_DEPTH"=some (some (.int 8 w_MOST_DEPTH)))
  (ZaD:PySem.W.nsIn K mainGlobals "MOST_KINDS"=some (some (.int 40 w_MOST_KINDS)))
  (Zav:PySem.W.nsIn K mainGlobals "MOST_LETTERS"=some (some (.int 8 w_MOST_LETTERS)))
  (v_LENGTHS:PySem.W.nsIn K mainGlobals "LENGTHS"=some (some (.ref z_LENGTHS)))
  (l_LENGTHS:K.lookup z_LENGTHS=some ⟨.type "dict",none,.dict #[e0_LENGTHS,e1_LENGTHS,e2_LENGTHS,e3_LENGTHS,e4_LENGTHS,e5_LENGTHS] ep_LENGTHS,#[]⟩)
  (u_LENGTHS:(z_LENGTHS==sysModules)=false)
  (a0_LENGTHS_:e0_LENGTHS.key=.str "any" a0_LENGTHS)
  (b0_LENGTHS_:e0_LENGTHS.val=.int 1 b0_LENGTHS)
  (a1_LENGTHS_:e1_LENGTHS.key=.str "num" a1_LENGTHS)
  (b1_LENGTHS_:e1_LENGTHS.val=.int 1 b1_LENGTHS)
  (a2_LENGTHS_:e2_LENGTHS.key=.str "truth" a2_LENGTHS)
  (b2_LENGTHS_:e2_LENGTHS.val=.int 1 b2_LENGTHS)
  (a3_LENGTHS_:e3_LENGTHS.key=.str "to" a3_LENGTHS)
  (b3_LENGTHS_:e3_LENGTHS.val=.int 3 b3_LENGTHS)
  (a4_LENGTHS_:e4_LENGTHS.key=.str "box" a4_LENGTHS)
  (b4_LENGTHS_:e4_LENGTHS.val=.int 2 b4_LENGTHS)
  (a5_LENGTHS_:e5_LENGTHS.key=.str "row" a5_LENGTHS)
  (b5_LENGTHS_:e5_LENGTHS.val=.int 3 b5_LENGTHS)
  (Zaz:PySem.W.nsIn K mainGlobals "MOST_VALUES"=some (some (.int 100 w_MOST_VALUES)))
  (Zaq:PySem.W.nsIn K mainGlobals "MOST_VALUE_DEPTH"=some (some (.int 10 w_MOST_VALUE_DEPTH)))
 :
  ∃ a:Adr,∀ base:Heap,K.In base→Tx K mg base a:=by
 refine ⟨⟨c_CastError,c_NoKind,c_NoValue⟩,fun base B=>?_⟩
 exact {
  toFns:=FF
  toBls:=NN
  ZmO:=PySem.W.mg_of X G e_CastError
  ZsP:=PySem.W.mg_of X G e_NoKind
  ZpW:=PySem.W.mg_of X G e_NoValue
  Zaz:=Zio X G Zaz
  Zaq:=Zio X G Zaq
  Zcc:=Zuf X G (dd:=none) (ts:=[("must",w0_MARKS),("may",w1_MARKS)]) Zcc l_MARKS (by simp)
  ZaE:=Zio X G ZaE
  ZaD:=Zio X G ZaD
  Zav:=Zio X G Zav
  ZbL:=Zxx X G B v_LENGTHS l_LENGTHS u_LENGTHS ⟨rfl,rfl,rfl⟩ rfl (Zof a0_LENGTHS_ b0_LENGTHS_ (Zof a1_LENGTHS_ b1_LENGTHS_ (Zof a2_LENGTHS_ b2_LENGTHS_ (Zof a3_LENGTHS_ b3_LENGTHS_ (Zof a4_LENGTHS_ b4_LENGTHS_ (Zof a5_LENGTHS_ b5_LENGTHS_ .nil)))))) }
end KO
open PySem PySem.W PyProof.Rows
set_option hygiene false in
local macro_rules | `(tactic| walk_at "fb") => `(tactic| (intro _ _ _ _ _ _ us hl; first | (obtain rfl := L3.ln0 hl; rfl) | (obtain ⟨_, _, rfl, g0⟩ := L3.ln1 hl; first | (obtain rfl := L3.ln0 g0; rfl) | (obtain ⟨_, _, rfl, g1⟩ := L3.ln1 g0; first | (obtain rfl := L3.ln0 g1; rfl) | (obtain ⟨_, _, rfl, g2⟩ := L3.ln1 g1; first | (obtain rfl := L3.ln0 g2; rfl) | (obtain ⟨_, _, rfl, g3⟩ := L3.ln1 g2; first | (obtain rfl := L3.ln0 g3; rfl) | (obtain ⟨_, _, rfl, g4⟩ := L3.ln1 g3; obtain rfl := L3.ln0 g4; rfl)))))))
set_option hygiene false in
local macro_rules | `(tactic| walk_at "fk") => `(tactic| (dsimp only [L2.KOf]; refine' L3.Zzt KX G ?e ?l ?c ?k ?b; (case e => k_is); (case l => k_is); (case c => k_is); (case k => k_is); (case b => walk_at "fb")))
set_option maxRecDepth 100000 in
set_option maxHeartbeats 0 in
theorem PySem.Challenge.cw_castwright_k61_values_and_kinds_holds : PySem.Challenge.rw_castwright_k61_values_and_kinds.Holds := by
 show KO.rwS.Holds
 w_on;o_law
 refine holds_open (r:=KO.rwS.row) (q:=KO.vwS) (loose:=["LENGTHS"]) (N:=4180)
  (Yf:=(kHook KO.KF KO.KL KO.kfe).obs) (Ya:=(kHook KO.KF KO.KL KO.kfe).val) (YP:=(kHook KO.KF KO.KL KO.kfe).says)
  (Xt:=fun s=>xlAt KO.vwS [] s&&recOk (RowW.records KO.rwS.row.toRowW) s)
  (XP:=XL KO.vwS []) ?hl (kHook KO.KF KO.KL KO.kfe).of (kHook KO.KF KO.KL KO.kfe).keeps ?g1 XL.keeps rfl rfl rfl ?g2 rfl
  ?g3 (by decide +kernel) ?g4 ?hw ?hc
 case g1=>exact fun s e=>xl_of s (Bool.and_eq_true_iff.mp e).1
 case g2=>exact fun s e=>recFacts_of (Bool.and_eq_true_iff.mp e).2
 case g3=>first | assumption | decide +kernel
 case g4=>exact ⟨rfl,rfl,rfl,rfl,rfl,by decide +kernel⟩
 case hw=>w_witness2
 case hl=>exact byRow2 "special-get-raises" KO.lbf KO.lbt
 k_fill
 refine L3.ZzB (l:=KO.rwS) (k:=30) ⟨rfl,by decide,by decide⟩ rfl rfl (fun w h Y=>PySem.W.kIn_of Y) ?F
 case F =>
  intro w mg fa h KX G hmg
  have FF:KO.Fns (L2.KOf KX) mg:=by constructor <;> walk_at "fk"
  have NN:KO.Bls mg:=by constructor <;> exact PySem.W.mg_none_of KX G (by k_is)
  have T:∃ a:KO.Adr,∀ base:Heap,(L2.KOf KX).In base→KO.Tx (L2.KOf KX) mg base a:=by
   dsimp only [L2.KOf] at *
   refine' KO.ZzQ KX G FF NN ?e_CastError ?e_NoKind ?e_NoValue ?Zcc ?l_MARKS ?ZaE ?ZaD ?Zav ?v_LENGTHS ?l_LENGTHS ?u_LENGTHS ?a0_LENGTHS_ ?b0_LENGTHS_ ?a1_LENGTHS_ ?b1_LENGTHS_ ?a2_LENGTHS_ ?b2_LENGTHS_ ?a3_LENGTHS_ ?b3_LENGTHS_ ?a4_LENGTHS_ ?b4_LENGTHS_ ?a5_LENGTHS_ ?b5_LENGTHS_ ?Zaz ?Zaq
   (case e_CastError=>k_is)
   (case e_NoKind=>k_is)
   (case e_NoValue=>k_is)
   (case Zcc=>k_is)
   (case l_MARKS=>k_is)
   (case ZaE=>k_is)
   (case ZaD=>k_is)
   (case Zav=>k_is)
   (case v_LENGTHS=>k_is)
   (case l_LENGTHS=>k_is)
   (case u_LENGTHS=>decide)
   (case a0_LENGTHS_=>exact rfl)
   (case b0_LENGTHS_=>exact rfl)
   (case a1_LENGTHS_=>exact rfl)
   (case b1_LENGTHS_=>exact rfl)
   (case a2_LENGTHS_=>exact rfl)
   (case b2_LENGTHS_=>exact rfl)
   (case a3_LENGTHS_=>exact rfl)
   (case b3_LENGTHS_=>exact rfl)
   (case a4_LENGTHS_=>exact rfl)
   (case b4_LENGTHS_=>exact rfl)
   (case a5_LENGTHS_=>exact rfl)
   (case b5_LENGTHS_=>exact rfl)
   (case Zaz=>k_is)
   (case Zaq=>k_is)
  obtain ⟨a,T⟩:=T
  obtain ⟨f,fd,hm,F,_⟩:=FF.Zzr
  have e0:=hmg.symm.trans hm
  cases e0
  walk_at "pv"
  exact ⟨_,fun s u=>.of_eq rfl,fun base kb nb=>KO.Zy3 (T base kb) F⟩
