import PyProof.Rows.All
import Wide.All
import Wide.FinOn
import Lean
import PyProof.EqAt
import PyProof.EqKinds
import PyProof.TupleCall
import PyProof.SetRoads
import PyProof.CollectWalk
import PyProof.ZipIter
import PyProof.TupleIter
import PyProof.NeKinds
import PyProof.AttrMissHeap
import KE.KDictOf
import KE.KSortTup
import PyProof.ListMulAny
import PySem.Challenge.RW_castwright_k02_no_kinds
import KE.KxBytes
import OpenK.KRaise
import OpenK.KDescr
import OpenK.KGet
import OpenK.KMore
import OpenK.KWalk
import KE.KTab
import OpenK.KFacts
import KE.KSortAsk
import KE.KFromBytes
import OpenK.KCall
import KE.KIsAll
import OpenK.KMake
import OpenK.KLine
import OpenK.KOwn
import KE.KItem
import OpenK.Peek
import OpenK.KCls
set_option Elab.async false
set_option linter.all false
set_option maxRecDepth 100000
set_option maxHeartbeats 4000000
set_option hygiene false in
local macro_rules | `(tactic| walk_at "pa")=>`(tactic| (simp only [List.set_cons_zero,List.set_cons_succ]))
set_option hygiene false in
local macro_rules | `(tactic| walk_at "pb")=>`(tactic| (intro X hP hw hK hc i pins s σ H E I hf st hg))
set_option hygiene false in
local macro_rules | `(tactic| walk_at "pc")=>`(tactic| (refine wpAny_bind (wpAny_bind (wpAny_askSetting (wpAny_pure ?_)))))
set_option hygiene false in
local macro_rules | `(tactic| walk_at "pd")=>`(tactic| (intro pins s σ H x y v u Q I rx ry h))
set_option hygiene false in
local macro_rules | `(tactic| walk_at "pe")=>`(tactic| (exact D.m _ _ (ZaK (dn K H Q)) _ (fun a b z σ H2 m ts r2=>z _ H2 m Tr.non r2) (fun a b z=>z) (fun a b z=>z.elim) (fun a b z=>z.elim) (ok ws G _ _ Zz1 q)))
set_option hygiene false in
local macro_rules | `(tactic| walk_at "pf")=>`(tactic| (refine PySem.W.callWith_K (h₀:=X.base) I.ok.mod.kin hk (thn (ha pos pins s σ H _ I h) fun us s1 ⟨vs,H1,I1,r,q⟩=>⟨I1.kIn,?_⟩) he hpl))
set_option hygiene false in
local macro_rules | `(tactic| walk_at "pg")=>`(tactic| (obtain ⟨f0,f1,f2,f3,f4,f5⟩:=hf it (by simp)))
set_option hygiene false in
local macro_rules | `(tactic| walk_at "ph")=>`(tactic| (simp only [Bool.and_eq_true] at h'))
set_option hygiene false in
local macro_rules | `(tactic| walk_at "pi")=>`(tactic| (simp only [Zdc Zaf,Option.bind_some,Zcq,Option.map_some,Zae]))
set_option hygiene false in
local macro_rules | `(tactic| walk_at "pj")=>`(tactic| (have I1:Inv X pins σ H { s with heap:=h',toks:=tk }:=I.turned (fun b o hb e=>kk b o (by simpa using hb) e) f0 f1 f3 f4 f5))
set_option hygiene false in
local macro_rules | `(tactic| walk_at "pk")=>`(tactic| (obtain ⟨oc,od,kV,doc,pm,an,cdv,ct,osl,rfl,lk,hcd⟩:=F.ex))
set_option hygiene false in
local macro_rules | `(tactic| walk_at "pl")=>`(tactic| (simp only [Zar,Ze8,Zkq,Zsw,L3.Zaa,L3.Zag,Zah,Zab,gC,Zak,ixW,List.getElem?_cons_zero,List.getElem?_cons_succ,Zbo,Zae,Zgr,Zbg,Zax,slA,ZjW,List.drop_succ_cons,List.drop_zero]))
set_option hygiene false in
local macro_rules | `(tactic| walk_at "pm")=>`(tactic| (simp only [List.mem_cons,List.not_mem_nil,or_false] at hb))
set_option hygiene false in
local macro_rules | `(tactic| walk_at "pn")=>`(tactic| (refine ⟨hgd,by simp only [List.length_cons] at hl;omega,?_⟩))
set_option hygiene false in
local macro_rules | `(tactic| walk_at "po")=>`(tactic| (show wpAny (model prog w) _ (if bt w=true then _ else _) _ _ s))
set_option hygiene false in
local macro_rules | `(tactic| walk_at "pp")=>`(tactic| (have e2:its'.toArray.size=ys.length:=by rw [List.size_toArray];omega))
set_option hygiene false in
local macro_rules | `(tactic| walk_at "pq")=>`(tactic| (have e1:its.toArray.size=ws.length:=by rw [List.size_toArray];omega))
set_option hygiene false in
local macro_rules | `(tactic| walk_at "pr")=>`(tactic| (simp only [beq_self_eq_true,n1,n2,n3,b1,b2,Option.map_some,Zae,if_true,Bool.false_eq_true,if_false]))
set_option hygiene false in
local macro_rules | `(tactic| walk_at "ps")=>`(tactic| (simp only [List.zipIdx_cons,List.zipIdx_nil,List.forIn_cons,List.forIn_nil]))
set_option hygiene false in
local macro_rules | `(tactic| walk_at "pt")=>`(tactic| (rcases q with ⟨k,rfl,hk,q⟩ | ⟨w1,w2,rfl,hw,q⟩))
set_option hygiene false in
local macro_rules | `(tactic| walk_at "pu")=>`(tactic| (refine wpAny_bind (wpAny_setState_of ho hd Tb.ft ?_)))
set_option hygiene false in
local macro_rules | `(tactic| walk_at "pv")=>`(tactic| (refine wpAny_bind (wpAny_setState_of ho hd T.ft ?_)))
set_option hygiene false in
local macro_rules | `(tactic| walk_at "pw")=>`(tactic| (rw [show its.toArray.any (eqU x)=its.any (eqU x) by simp,ZiX r fs]))
set_option hygiene false in
local macro_rules | `(tactic| walk_at "px")=>`(tactic| (refine wpAny_bind (wpAny_setField hi rfl (by simp) ?_)))
set_option hygiene false in
local macro_rules | `(tactic| walk_at "py")=>`(tactic| (simp only [Bool.false_eq_true,if_false]))
namespace L2
open PySem PySem.Spec PyProof.Rows
def ZnI (s:Stmt) (j:Nat):Stmt:=match s with
 | .ClassDef _ _ _ body _ _ _ _ _ _ _=>body.getD j (.Pass ⟨0,0,0,0⟩)
 | _=>.Pass ⟨0,0,0,0⟩
def ZfK (s:Stmt):Arguments:=match s with
 | .FunctionDef _ a _ _ _ _ _ _ _ _=>a
 | _=>{ posonlyargs:=[],args:=[],vararg:=none,kwonlyargs:=[],kw_defaults:=[],kwarg:=none,defaults:=[] }
def ZaZ (s:Stmt):List Stmt:=match s with
 | .FunctionDef _ _ b _ _ _ _ _ _ _=>b
 | _=>[]
def Zac (s:Stmt):Scope:=match s with
 | .FunctionDef _ _ _ _ _ _ sc _ _ _=>sc
 | _=>{ kind:=.function,names:=[],isGenerator:=false,isCoroutine:=false }
end L2
namespace KL
open PySem PySem.Spec PyProof.Rows L2
 def top (i:Nat):Stmt:=PySem.Challenge.pw_castwright_k02_no_kinds.main.body.getD i (.Pass ⟨0,0,0,0⟩)
abbrev pwS:Program:=PySem.Challenge.pw_castwright_k02_no_kinds
abbrev rwS:PySem.W.OpenLaw:=PySem.Challenge.rw_castwright_k02_no_kinds
def vwS:Program:=PySem.W.view pwS [1,2,3,4,5,6,7,9,10,11,12,13,14,15,16,17,18,19,20,21,22,23,24,25,26,27,28,29,30,31,32,33,34,36,37,38,39,41,42,43,44,45,46,47,48,49,50,51,52,53,54,55,56,57,58,59,60,61,63,64,65,66,67,68,69,70]
abbrev en (P:Params) (k:Str) (t:Tok) (v:Value):DictEntry:=⟨PyData.keyHash P k,.str k t,v⟩
abbrev co (n:Str) (a l g r f e:Nat) (x y:Value) (z t u:Nat):Obj:=.mk (.type "code") Option.none (.fields #[.str n a,.str n (a+1),.str "/claim/cut.py" (a+2),.int l 0,.int g 0,.int 0 0,.int 0 0,.int 3 0,.ref r,.bool Bool.true,.int f 0,.ref e,.none,x,y,.ref z,.int t 0,.int l 0,.str "/claim/cut.py" u]) #[]
abbrev fo (n:Str) (s:Stmt) (q:Str) (t c:Nat):Obj:=.mk (.type "function") Option.none (.func (PySem.W.fnOf n n (ZfK s) (ZaZ s) (Zac s) .none .none .none (.str q t) Option.none (.ref c) .none)) #[]
def KF:Params→PySem.W.Frag:=fun P =>
 (nat_lit 2,.mk .none Option.none (.dict #[]) #[]) ::
 (nat_lit 3,.mk (.type "dict") Option.none (.dict #[en P "__name__" 165 (.str "law_castwright_k02_no_kinds" 695),en P "__doc__" 166 .none,en P "__package__" 167 .none,en P "__loader__" 168 (.builtin "__main__.__loader__#opaque"),en P "__spec__" 169 .none,en P "__annotations__" 170 (.ref 6),en P "__builtins__" 171 (.ref 4),en P "__file__" 173 (.str "/claim/cut.py" 172),en P "__cached__" 174 .none,en P "CastError" 206 (.ref 24),en P "NoKind" 222 (.ref 37),en P "NoTerm" 238 (.ref 49),en P "BadUse" 263 (.ref 68),en P "NoValue" 279 (.ref 80),en P "NoNumber" 295 (.ref 92),en P "BadNote" 311 (.ref 104),en P "MOST_KINDS" 315 (.int 40 314),en P "MOST_DEPTH" 317 (.int 8 316),en P "MOST_LETTERS" 319 (.int 8 318),en P "MARKS" 322 (.ref 107),en P "LENGTHS" 341 (.ref 108),en P "parts_in" 348 (.ref 115),en P "entry_of" 357 (.ref 122),en P "names_of" 363 (.ref 127),en P "names_of_both" 371 (.ref 134),en P "row_of" 377 (.ref 139),en P "is_known" 383 (.ref 144),en P "is_data" 389 (.ref 149),en P "leaves_unknown" 396 (.ref 156),en P "check_kind" 403 (.ref 163),en P "check_kinds" 411 (.ref 170),en P "is_kind" 418 (.ref 177),en P "is_made_of" 424 (.ref 182),en P "layer_within" 434 (.ref 189),en P "kinds_in" 443 (.ref 196),en P "kinds_within" 449 (.ref 201),en P "has_form" 456 (.ref 208),en P "are_fields" 462 (.ref 213),en P "is_field" 469 (.ref 220),en P "is_name" 475 (.ref 225),en P "is_small_letter" 482 (.ref 232),en P "names_rise" 488 (.ref 237),en P "kind_shown" 497 (.ref 244),en P "written" 504 (.ref 251),en P "row_written" 510 (.ref 256),en P "field_written" 518 (.ref 263),en P "STEPS" 534 (.ref 264),en P "knows_less" 542 (.ref 276),en P "met" 550 (.ref 283),en P "first_clash" 558 (.ref 290),en P "clashes" 567 (.ref 297),en P "joined" 575 (.ref 304),en P "is_less" 581 (.ref 309),en P "is_less_row" 587 (.ref 314),en P "is_less_entry" 595 (.ref 321),en P "behind" 603 (.ref 328),en P "clash_of" 615 (.ref 335),en P "clash_of_rows" 625 (.ref 342),en P "clash_of_entries" 633 (.ref 349),en P "clash_at" 645 (.ref 356),en P "clash_at_name" 654 (.ref 363),en P "meet_of" 660 (.ref 368),en P "meet_of_rows" 666 (.ref 373),en P "meet_of_entries" 674 (.ref 380),en P "join_of" 680 (.ref 385),en P "join_of_rows" 686 (.ref 390),en P "join_of_entries" 694 (.ref 397),en P "_law_state" 705 (.ref 404),en P "_law_take" 715 (.ref 411),en P "_law_kind" 727 (.ref 418),en P "_law_which" 735 (.ref 425),en P "_law_no_kind" 748 (.ref 432),en P "_law_asked" 757 (.ref 439),en P "_law_flags" 768 (.ref 446),en P "law" 780 (.ref 453)] 75) #[]) ::
 (nat_lit 15,.mk (.type "tuple") Option.none (.seq #[.type "ValueError"]) #[]) ::
 (nat_lit 22,.mk (.type "tuple") Option.none (.seq #[]) #[]) ::
 (nat_lit 23,.mk (.type "dict") Option.none (.dict #[en P "__module__" 196 (.str "castwright.errors" 187),en P "__firstlineno__" 200 (.int 2 199),en P "__static_attributes__" 201 (.ref 22),en P "__weakref__" 203 (.ref 25),en P "__doc__" 204 .none] 3) #[]) ::
 (nat_lit 24,.mk (.type "type") Option.none (.cls (.mk "CastError" [.type "ValueError"] [.ref 24,.type "ValueError",.type "Exception",.type "BaseException",.type "object"] 23 "CastError" Bool.true [] [.ref 37,.ref 49,.ref 68,.ref 80,.ref 92,.ref 104] Bool.false Option.none Bool.false)) #[Option.some (.ref 15),Option.none,Option.some (.str "CastError" 189),Option.some (.str "CastError" 197),Option.some (.builtin "ValueError.__new__"),Option.some (.bool Bool.true)]) ::
 (nat_lit 25,.mk (.type "getset_descriptor") Option.none (.fields #[.str "__weakref__" 202,.ref 24,.builtin "ExceptionGroup.__weakref__",.none]) #[]) ::
 (nat_lit 28,.mk (.type "tuple") Option.none (.seq #[.ref 24]) #[]) ::
 (nat_lit 35,.mk (.type "tuple") Option.none (.seq #[]) #[]) ::
 (nat_lit 36,.mk (.type "dict") Option.none (.dict #[en P "__module__" 214 (.str "castwright.errors" 187),en P "__firstlineno__" 218 (.int 4 217),en P "__static_attributes__" 219 (.ref 35),en P "__doc__" 220 .none] 2) #[]) ::
 (nat_lit 37,.mk (.type "type") Option.none (.cls (.mk "NoKind" [.ref 24] [.ref 37,.ref 24,.type "ValueError",.type "Exception",.type "BaseException",.type "object"] 36 "NoKind" Bool.true [] [] Bool.false Option.none Bool.false)) #[Option.some (.ref 28),Option.none,Option.some (.str "NoKind" 207),Option.some (.str "NoKind" 215),Option.some (.builtin "ValueError.__new__"),Option.some (.bool Bool.true)]) ::
 (nat_lit 40,.mk (.type "tuple") Option.none (.seq #[.ref 24]) #[]) ::
 (nat_lit 47,.mk (.type "tuple") Option.none (.seq #[]) #[]) ::
 (nat_lit 48,.mk (.type "dict") Option.none (.dict #[en P "__module__" 230 (.str "castwright.errors" 187),en P "__firstlineno__" 234 (.int 6 233),en P "__static_attributes__" 235 (.ref 47),en P "__doc__" 236 .none] 2) #[]) ::
 (nat_lit 49,.mk (.type "type") Option.none (.cls (.mk "NoTerm" [.ref 24] [.ref 49,.ref 24,.type "ValueError",.type "Exception",.type "BaseException",.type "object"] 48 "NoTerm" Bool.true [] [] Bool.false Option.none Bool.false)) #[Option.some (.ref 40),Option.none,Option.some (.str "NoTerm" 223),Option.some (.str "NoTerm" 231),Option.some (.builtin "ValueError.__new__"),Option.some (.bool Bool.true)]) ::
 (nat_lit 52,.mk (.type "tuple") Option.none (.seq #[.ref 24]) #[]) ::
 (nat_lit 64,.mk (.type "code") Option.none (.fields #[.str "__init__" 251,.str "BadUse.__init__" 252,.str "/claim/cut.py" 253,.int 10 0,.int 2 0,.int 0 0,.int 0 0,.int 3 0,.ref 59,.bool Bool.true,.int 181 0,.ref 60,.none,.ref 61,.ref 62,.ref 63,.int 256 0,.int 10 0,.str "/claim/cut.py" 257]) #[]) ::
 (nat_lit 65,.mk (.type "function") Option.none (.func (PySem.W.fnOf "__init__" "BadUse.__init__" (ZfK (ZnI (top 4) 0)) (ZaZ (ZnI (top 4) 0)) (Zac (ZnI (top 4) 0)) .none .none .none (.str "castwright.errors" 187) Option.none (.ref 64) .none)) #[]) ::
 (nat_lit 66,.mk (.type "tuple") Option.none (.seq #[.str "path" 259]) #[]) ::
 (nat_lit 67,.mk (.type "dict") Option.none (.dict #[en P "__module__" 246 (.str "castwright.errors" 187),en P "__firstlineno__" 250 (.int 8 249),en P "__init__" 258 (.ref 65),en P "__static_attributes__" 260 (.ref 66),en P "__doc__" 261 .none] 2) #[]) ::
 (nat_lit 68,.mk (.type "type") Option.none (.cls (.mk "BadUse" [.ref 24] [.ref 68,.ref 24,.type "ValueError",.type "Exception",.type "BaseException",.type "object"] 67 "BadUse" Bool.true [] [] Bool.false Option.none Bool.false)) #[Option.some (.ref 52),Option.none,Option.some (.str "BadUse" 239),Option.some (.str "BadUse" 247),Option.some (.builtin "ValueError.__new__"),Option.some (.bool Bool.true)]) ::
 (nat_lit 71,.mk (.type "tuple") Option.none (.seq #[.ref 24]) #[]) ::
 (nat_lit 78,.mk (.type "tuple") Option.none (.seq #[]) #[]) ::
 (nat_lit 79,.mk (.type "dict") Option.none (.dict #[en P "__module__" 271 (.str "castwright.errors" 187),en P "__firstlineno__" 275 (.int 12 274),en P "__static_attributes__" 276 (.ref 78),en P "__doc__" 277 .none] 2) #[]) ::
 (nat_lit 80,.mk (.type "type") Option.none (.cls (.mk "NoValue" [.ref 24] [.ref 80,.ref 24,.type "ValueError",.type "Exception",.type "BaseException",.type "object"] 79 "NoValue" Bool.true [] [] Bool.false Option.none Bool.false)) #[Option.some (.ref 71),Option.none,Option.some (.str "NoValue" 264),Option.some (.str "NoValue" 272),Option.some (.builtin "ValueError.__new__"),Option.some (.bool Bool.true)]) ::
 (nat_lit 83,.mk (.type "tuple") Option.none (.seq #[.ref 24]) #[]) ::
 (nat_lit 90,.mk (.type "tuple") Option.none (.seq #[]) #[]) ::
 (nat_lit 91,.mk (.type "dict") Option.none (.dict #[en P "__module__" 287 (.str "castwright.errors" 187),en P "__firstlineno__" 291 (.int 14 290),en P "__static_attributes__" 292 (.ref 90),en P "__doc__" 293 .none] 2) #[]) ::
 (nat_lit 92,.mk (.type "type") Option.none (.cls (.mk "NoNumber" [.ref 24] [.ref 92,.ref 24,.type "ValueError",.type "Exception",.type "BaseException",.type "object"] 91 "NoNumber" Bool.true [] [] Bool.false Option.none Bool.false)) #[Option.some (.ref 83),Option.none,Option.some (.str "NoNumber" 280),Option.some (.str "NoNumber" 288),Option.some (.builtin "ValueError.__new__"),Option.some (.bool Bool.true)]) ::
 (nat_lit 95,.mk (.type "tuple") Option.none (.seq #[.ref 24]) #[]) ::
 (nat_lit 102,.mk (.type "tuple") Option.none (.seq #[]) #[]) ::
 (nat_lit 103,.mk (.type "dict") Option.none (.dict #[en P "__module__" 303 (.str "castwright.errors" 187),en P "__firstlineno__" 307 (.int 16 306),en P "__static_attributes__" 308 (.ref 102),en P "__doc__" 309 .none] 2) #[]) ::
 (nat_lit 104,.mk (.type "type") Option.none (.cls (.mk "BadNote" [.ref 24] [.ref 104,.ref 24,.type "ValueError",.type "Exception",.type "BaseException",.type "object"] 103 "BadNote" Bool.true [] [] Bool.false Option.none Bool.false)) #[Option.some (.ref 95),Option.none,Option.some (.str "BadNote" 296),Option.some (.str "BadNote" 304),Option.some (.builtin "ValueError.__new__"),Option.some (.bool Bool.true)]) ::
 (nat_lit 107,.mk (.type "tuple") Option.none (.seq #[.str "must" 320,.str "may" 321]) #[]) ::
 (nat_lit 108,.mk (.type "dict") Option.none (.dict #[en P "any" 323 (.int 1 324),en P "num" 325 (.int 1 326),en P "truth" 327 (.int 1 328),en P "to" 329 (.int 3 330),en P "box" 331 (.int 2 332),en P "row" 333 (.int 3 334)] 6) #[]) ::
 (nat_lit 114,co "parts_in" 342 24 1 109 181 110 (.ref 111) (.ref 112) 113 346 347) ::
 (nat_lit 115,fo "parts_in" (top 14) "castwright.kinds" 312 114) ::
 (nat_lit 121,co "entry_of" 349 27 2 116 181 117 (.ref 118) (.ref 119) 120 355 356) ::
 (nat_lit 122,fo "entry_of" (top 15) "castwright.kinds" 312 121) ::
 (nat_lit 126,co "names_of" 358 32 1 123 181 124 .none .none 125 361 362) ::
 (nat_lit 127,fo "names_of" (top 16) "castwright.kinds" 312 126) ::
 (nat_lit 133,co "names_of_both" 364 34 2 128 181 129 (.ref 130) (.ref 131) 132 369 370) ::
 (nat_lit 134,fo "names_of_both" (top 17) "castwright.kinds" 312 133) ::
 (nat_lit 138,co "row_of" 372 36 3 135 181 136 .none .none 137 375 376) ::
 (nat_lit 139,fo "row_of" (top 18) "castwright.kinds" 312 138) ::
 (nat_lit 143,co "is_known" 378 39 1 140 181 141 .none .none 142 381 382) ::
 (nat_lit 144,fo "is_known" (top 19) "castwright.kinds" 312 143) ::
 (nat_lit 148,co "is_data" 384 42 1 145 181 146 .none .none 147 387 388) ::
 (nat_lit 149,fo "is_data" (top 20) "castwright.kinds" 312 148) ::
 (nat_lit 155,co "leaves_unknown" 390 45 1 150 181 151 (.ref 152) (.ref 153) 154 394 395) ::
 (nat_lit 156,fo "leaves_unknown" (top 21) "castwright.kinds" 312 155) ::
 (nat_lit 162,co "check_kind" 397 47 1 157 181 158 (.ref 159) (.ref 160) 161 401 402) ::
 (nat_lit 163,fo "check_kind" (top 22) "castwright.kinds" 312 162) ::
 (nat_lit 169,co "check_kinds" 404 50 2 164 181 165 (.ref 166) (.ref 167) 168 409 410) ::
 (nat_lit 170,fo "check_kinds" (top 23) "castwright.kinds" 312 169) ::
 (nat_lit 176,co "is_kind" 412 53 1 171 181 172 (.ref 173) (.ref 174) 175 416 417) ::
 (nat_lit 177,fo "is_kind" (top 24) "castwright.kinds" 312 176) ::
 (nat_lit 181,co "is_made_of" 419 55 5 178 181 179 .none .none 180 422 423) ::
 (nat_lit 182,fo "is_made_of" (top 25) "castwright.kinds" 312 181) ::
 (nat_lit 188,co "layer_within" 425 68 2 183 181 184 (.ref 185) (.ref 186) 187 432 433) ::
 (nat_lit 189,fo "layer_within" (top 26) "castwright.kinds" 312 188) ::
 (nat_lit 195,co "kinds_in" 435 73 1 190 181 191 (.ref 192) (.ref 193) 194 441 442) ::
 (nat_lit 196,fo "kinds_in" (top 27) "castwright.kinds" 312 195) ::
 (nat_lit 200,co "kinds_within" 444 78 1 197 181 198 .none .none 199 447 448) ::
 (nat_lit 201,fo "kinds_within" (top 28) "castwright.kinds" 312 200) ::
 (nat_lit 207,co "has_form" 450 82 1 202 181 203 (.ref 204) (.ref 205) 206 454 455) ::
 (nat_lit 208,fo "has_form" (top 29) "castwright.kinds" 312 207) ::
 (nat_lit 212,co "are_fields" 457 88 1 209 181 210 .none .none 211 460 461) ::
 (nat_lit 213,fo "are_fields" (top 30) "castwright.kinds" 312 212) ::
 (nat_lit 219,co "is_field" 463 92 1 214 181 215 (.ref 216) (.ref 217) 218 467 468) ::
 (nat_lit 220,fo "is_field" (top 31) "castwright.kinds" 312 219) ::
 (nat_lit 224,co "is_name" 470 96 1 221 181 222 .none .none 223 473 474) ::
 (nat_lit 225,fo "is_name" (top 32) "castwright.kinds" 312 224) ::
 (nat_lit 231,co "is_small_letter" 476 100 1 226 181 227 (.ref 228) (.ref 229) 230 480 481) ::
 (nat_lit 232,fo "is_small_letter" (top 33) "castwright.kinds" 312 231) ::
 (nat_lit 236,co "names_rise" 483 102 1 233 181 234 .none .none 235 486 487) ::
 (nat_lit 237,fo "names_rise" (top 34) "castwright.kinds" 312 236) ::
 (nat_lit 243,co "kind_shown" 491 105 1 238 181 239 (.ref 240) (.ref 241) 242 495 496) ::
 (nat_lit 244,fo "kind_shown" (top 36) "castwright.kindnotes" 489 243) ::
 (nat_lit 250,co "written" 498 108 1 245 181 246 (.ref 247) (.ref 248) 249 502 503) ::
 (nat_lit 251,fo "written" (top 37) "castwright.kindnotes" 489 250) ::
 (nat_lit 255,co "row_written" 505 116 1 252 181 253 .none .none 254 508 509) ::
 (nat_lit 256,fo "row_written" (top 38) "castwright.kindnotes" 489 255) ::
 (nat_lit 262,co "field_written" 511 121 1 257 181 258 (.ref 259) (.ref 260) 261 516 517) ::
 (nat_lit 263,fo "field_written" (top 39) "castwright.kindnotes" 489 262) ::
 (nat_lit 264,.mk (.type "dict") Option.none (.dict #[en P "any" 521 (.ref 265),en P "num" 522 (.ref 266),en P "truth" 523 (.ref 267),en P "to" 524 (.ref 268),en P "box" 527 (.ref 269)] 5) #[]) ::
 (nat_lit 265,.mk (.type "tuple") Option.none (.seq #[]) #[]) ::
 (nat_lit 266,.mk (.type "tuple") Option.none (.seq #[]) #[]) ::
 (nat_lit 267,.mk (.type "tuple") Option.none (.seq #[]) #[]) ::
 (nat_lit 268,.mk (.type "tuple") Option.none (.seq #[.str "in" 525,.str "out" 526]) #[]) ::
 (nat_lit 269,.mk (.type "tuple") Option.none (.seq #[.str "inside" 528]) #[]) ::
 (nat_lit 275,co "knows_less" 535 126 2 270 181 271 (.ref 272) (.ref 273) 274 540 541) ::
 (nat_lit 276,fo "knows_less" (top 42) "castwright.known" 519 275) ::
 (nat_lit 282,co "met" 543 129 2 277 181 278 (.ref 279) (.ref 280) 281 548 549) ::
 (nat_lit 283,fo "met" (top 43) "castwright.known" 519 282) ::
 (nat_lit 289,co "first_clash" 551 134 2 284 181 285 (.ref 286) (.ref 287) 288 556 557) ::
 (nat_lit 290,fo "first_clash" (top 44) "castwright.known" 519 289) ::
 (nat_lit 296,co "clashes" 559 137 3 291 181 292 (.ref 293) (.ref 294) 295 565 566) ::
 (nat_lit 297,fo "clashes" (top 45) "castwright.known" 519 296) ::
 (nat_lit 303,co "joined" 568 140 2 298 181 299 (.ref 300) (.ref 301) 302 573 574) ::
 (nat_lit 304,fo "joined" (top 46) "castwright.known" 519 303) ::
 (nat_lit 308,co "is_less" 576 143 2 305 181 306 .none .none 307 579 580) ::
 (nat_lit 309,fo "is_less" (top 47) "castwright.known" 519 308) ::
 (nat_lit 313,co "is_less_row" 582 151 2 310 181 311 .none .none 312 585 586) ::
 (nat_lit 314,fo "is_less_row" (top 48) "castwright.known" 519 313) ::
 (nat_lit 320,co "is_less_entry" 588 156 2 315 181 316 (.ref 317) (.ref 318) 319 593 594) ::
 (nat_lit 321,fo "is_less_entry" (top 49) "castwright.known" 519 320) ::
 (nat_lit 327,co "behind" 596 162 2 322 181 323 (.ref 324) (.ref 325) 326 601 602) ::
 (nat_lit 328,fo "behind" (top 50) "castwright.known" 519 327) ::
 (nat_lit 334,co "clash_of" 604 164 2 329 181 330 (.ref 331) (.ref 332) 333 613 614) ::
 (nat_lit 335,fo "clash_of" (top 51) "castwright.known" 519 334) ::
 (nat_lit 341,co "clash_of_rows" 616 176 2 336 181 337 (.ref 338) (.ref 339) 340 623 624) ::
 (nat_lit 342,fo "clash_of_rows" (top 52) "castwright.known" 519 341) ::
 (nat_lit 348,co "clash_of_entries" 626 182 2 343 181 344 (.ref 345) (.ref 346) 347 631 632) ::
 (nat_lit 349,fo "clash_of_entries" (top 53) "castwright.known" 519 348) ::
 (nat_lit 355,co "clash_at" 634 188 3 350 181 351 (.ref 352) (.ref 353) 354 643 644) ::
 (nat_lit 356,fo "clash_at" (top 54) "castwright.known" 519 355) ::
 (nat_lit 362,co "clash_at_name" 646 199 3 357 181 358 (.ref 359) (.ref 360) 361 652 653) ::
 (nat_lit 363,fo "clash_at_name" (top 55) "castwright.known" 519 362) ::
 (nat_lit 367,co "meet_of" 655 205 2 364 181 365 .none .none 366 658 659) ::
 (nat_lit 368,fo "meet_of" (top 56) "castwright.known" 519 367) ::
 (nat_lit 372,co "meet_of_rows" 661 213 2 369 181 370 .none .none 371 664 665) ::
 (nat_lit 373,fo "meet_of_rows" (top 57) "castwright.known" 519 372) ::
 (nat_lit 379,co "meet_of_entries" 667 217 2 374 181 375 (.ref 376) (.ref 377) 378 672 673) ::
 (nat_lit 380,fo "meet_of_entries" (top 58) "castwright.known" 519 379) ::
 (nat_lit 384,co "join_of" 675 223 2 381 181 382 .none .none 383 678 679) ::
 (nat_lit 385,fo "join_of" (top 59) "castwright.known" 519 384) ::
 (nat_lit 389,co "join_of_rows" 681 229 2 386 181 387 .none .none 388 684 685) ::
 (nat_lit 390,fo "join_of_rows" (top 60) "castwright.known" 519 389) ::
 (nat_lit 396,co "join_of_entries" 687 233 2 391 181 392 (.ref 393) (.ref 394) 395 692 693) ::
 (nat_lit 397,fo "join_of_entries" (top 61) "castwright.known" 519 396) ::
 (nat_lit 403,co "_law_state" 697 238 2 398 181 399 (.ref 400) (.ref 401) 402 703 704) ::
 (nat_lit 404,fo "_law_state" (top 63) "law_castwright_k02_no_kinds" 695 403) ::
 (nat_lit 410,co "_law_take" 706 245 2 405 181 406 (.ref 407) (.ref 408) 409 713 714) ::
 (nat_lit 411,fo "_law_take" (top 64) "law_castwright_k02_no_kinds" 695 410) ::
 (nat_lit 417,co "_law_kind" 716 255 2 412 181 413 (.ref 414) (.ref 415) 416 725 726) ::
 (nat_lit 418,fo "_law_kind" (top 65) "law_castwright_k02_no_kinds" 695 417) ::
 (nat_lit 424,co "_law_which" 728 269 1 419 181 420 (.ref 421) (.ref 422) 423 733 734) ::
 (nat_lit 425,fo "_law_which" (top 66) "law_castwright_k02_no_kinds" 695 424) ::
 (nat_lit 431,co "_law_no_kind" 736 272 2 426 181 427 (.ref 428) (.ref 429) 430 746 747) ::
 (nat_lit 432,fo "_law_no_kind" (top 67) "law_castwright_k02_no_kinds" 695 431) ::
 (nat_lit 438,co "_law_asked" 749 294 3 433 181 434 (.ref 435) (.ref 436) 437 755 756) ::
 (nat_lit 439,fo "_law_asked" (top 68) "law_castwright_k02_no_kinds" 695 438) ::
 (nat_lit 445,co "_law_flags" 758 313 3 440 181 441 (.ref 442) (.ref 443) 444 766 767) ::
 (nat_lit 446,fo "_law_flags" (top 69) "law_castwright_k02_no_kinds" 695 445) ::
 (nat_lit 452,co "law" 769 320 1 447 181 448 (.ref 449) (.ref 450) 451 778 779) ::
 (nat_lit 453,fo "law" (top 70) "law_castwright_k02_no_kinds" 695 452) ::
 []
def KL:List Addr:=2::3::15::22::23::24::25::28::35::36::37::40::47::48::49::52::64::65::66::67::68::71::78::79::80::83::90::91::92::95::102::103::104::107::108::114::115::121::122::126::127::133::134::138::139::143::144::148::149::155::156::162::163::169::170::176::177::181::182::188::189::195::196::200::201::207::208::212::213::219::220::224::225::231::232::236::237::243::244::250::251::255::256::262::263::264::265::266::267::268::269::275::276::282::283::289::290::296::297::303::304::308::309::313::314::320::321::327::328::334::335::341::342::348::349::355::356::362::363::367::368::372::373::379::380::384::385::389::390::396::397::403::404::410::411::417::418::424::425::431::432::438::439::445::446::452::453::[]
theorem kfe (P:Params):KL=(KF P).map (·.1):=by kernel_rfl
section
open PySem.W
abbrev OE (w:World):=openEnds treeTable pwS w 6778
abbrev FS (s:Shared):=openSeen vwS ["LENGTHS","STEPS"] (importedModules pwS.main.body) (fun s=>xlAt vwS [] s&&recOk (RowW.records rwS.row.toRowW) s) true s
abbrev OB (s:Shared):=(kHook KF KL kfe).obs s
abbrev VA (w:World):=(kHook KF KL kfe).val w
abbrev GD:=openGood vwS ["LENGTHS","STEPS"]
abbrev LB (w:World):Prop:=(OE w).map (fun s=>(FS s,OB s))=some (GD,VA w)
theorem mpp {α β γ:Type} {o:Option α} {f:α→β} {g:α→γ} {a:β} {b:γ} (h1:o.map f=some a) (h2:o.map g=some b):o.map (fun s=>(f s,g s))=some (a,b):=by
 cases o with
 | none=>cases h1
 | some s=>exact congrArg some (Prod.ext (Option.some.inj h1) (Option.some.inj h2))
theorem mpl {α β γ:Type} {o:Option α} {f:α→β} {g:α→γ} {a:β} {b:γ} (h:o.map (fun s=>(f s,g s))=some (a,b)):o.map f=some a:=by
 cases o with
 | none=>cases h
 | some s=>exact congrArg some (Prod.ext_iff.mp (Option.some.inj h)).1
theorem mpr {α β γ:Type} {o:Option α} {f:α→β} {g:α→γ} {a:β} {b:γ} (h:o.map (fun s=>(f s,g s))=some (a,b)):o.map g=some b:=by
 cases o with
 | none=>cases h
 | some s=>exact congrArg some (Prod.ext_iff.mp (Option.some.inj h)).2
theorem mpb {α:Type} {o:Option α} {k a b c d e f:α→Bool} (h1:o.map k=some true) (h2:o.map (fun s=>a s&&b s&&c s&&d s&&e s&&f s)=some true):o.map (fun s=>k s&&a s&&b s&&c s&&d s&&e s&&f s)=some true:=by
 cases o with
 | none=>cases h1
 | some s =>
  have x:k s=true:=Option.some.inj h1
  have y:(a s&&b s&&c s&&d s&&e s&&f s)=true:=Option.some.inj h2
  refine congrArg some ?_
  show (k s&&a s&&b s&&c s&&d s&&e s&&f s)=true
  rw [x];exact y
theorem ZBJ (w:World):(OE (w.withFollow "special-get-raises" false)).map (fun s=>OB s)=some (VA (w.withFollow "special-get-raises" false)):=by kernel_rfl
theorem ZBU (w:World):(OE (w.withFollow "special-get-raises" false)).map (fun s=>seen ((recsOf vwS).map (·.name)) (ownsOf vwS) [] { s with gens:=#[] })=some (expectedOf vwS):=by kernel_rfl
theorem ZBs (w:World):(OE (w.withFollow "special-get-raises" false)).map (fun s=>(s.heap.bltView,tabsOk vwS s))=some ((bltViewBooted,true)):=by kernel_rfl
theorem ZBR (w:World):(OE (w.withFollow "special-get-raises" false)).map (fun s=>s.heap.keysOk (looseW vwS ["LENGTHS","STEPS"]) ((recsOf vwS).map (·.name)) ((litsOf vwS).map (·.1)) ((clssOf vwS (looseW vwS ["LENGTHS","STEPS"])).map (·.name)))=some (true):=by kernel_rfl
theorem ZB3 (w:World):(OE (w.withFollow "special-get-raises" false)).map (fun s=>s.heap.accountedOkI (importedModules pwS.main.body)&&s.heap.isNs mainGlobals&&s.heap.isNs builtinsNs&&tablesOk vwS s.heap&&(xlAt vwS [] s&&recOk (RowW.records rwS.row.toRowW) s)&&(s.gens.size==0))=some (true):=by kernel_rfl
theorem ZB8 (w:World):(OE (w.withFollow "special-get-raises" false)).map (fun s=>(pinSeenD vwS (drecsOf vwS) s,plainSeenE vwS (looseW vwS ["LENGTHS","STEPS"]) s,plainSeenD vwS ["LENGTHS","STEPS"] s,wideSeen vwS s,clsSeenW vwS ["LENGTHS","STEPS"] s))=some ((pinGoodD (drecsOf vwS),plainGoodE vwS (looseW vwS ["LENGTHS","STEPS"]),plainGoodD vwS ["LENGTHS","STEPS"],wideGood vwS,clsGoodW vwS ["LENGTHS","STEPS"])):=by kernel_rfl
theorem lbf (w:World):LB (w.withFollow "special-get-raises" false):=mpp (mpp (ZBU w) (mpp (mpl (ZBs w)) (mpp (mpb (ZBR w) (ZB3 w)) (mpp (mpr (ZBs w)) (ZB8 w))))) (ZBJ w)
theorem ZBH (w:World):(OE (w.withFollow "special-get-raises" true)).map (fun s=>OB s)=some (VA (w.withFollow "special-get-raises" true)):=by kernel_rfl
theorem ZBS (w:World):(OE (w.withFollow "special-get-raises" true)).map (fun s=>seen ((recsOf vwS).map (·.name)) (ownsOf vwS) [] { s with gens:=#[] })=some (expectedOf vwS):=by kernel_rfl
theorem ZBi (w:World):(OE (w.withFollow "special-get-raises" true)).map (fun s=>(s.heap.bltView,tabsOk vwS s))=some ((bltViewBooted,true)):=by kernel_rfl
theorem ZB0 (w:World):(OE (w.withFollow "special-get-raises" true)).map (fun s=>s.heap.keysOk (looseW vwS ["LENGTHS","STEPS"]) ((recsOf vwS).map (·.name)) ((litsOf vwS).map (·.1)) ((clssOf vwS (looseW vwS ["LENGTHS","STEPS"])).map (·.name)))=some (true):=by kernel_rfl
theorem ZBB (w:World):(OE (w.withFollow "special-get-raises" true)).map (fun s=>s.heap.accountedOkI (importedModules pwS.main.body)&&s.heap.isNs mainGlobals&&s.heap.isNs builtinsNs&&tablesOk vwS s.heap&&(xlAt vwS [] s&&recOk (RowW.records rwS.row.toRowW) s)&&(s.gens.size==0))=some (true):=by kernel_rfl
theorem ZBK (w:World):(OE (w.withFollow "special-get-raises" true)).map (fun s=>(pinSeenD vwS (drecsOf vwS) s,plainSeenE vwS (looseW vwS ["LENGTHS","STEPS"]) s,plainSeenD vwS ["LENGTHS","STEPS"] s,wideSeen vwS s,clsSeenW vwS ["LENGTHS","STEPS"] s))=some ((pinGoodD (drecsOf vwS),plainGoodE vwS (looseW vwS ["LENGTHS","STEPS"]),plainGoodD vwS ["LENGTHS","STEPS"],wideGood vwS,clsGoodW vwS ["LENGTHS","STEPS"])):=by kernel_rfl
theorem lbt (w:World):LB (w.withFollow "special-get-raises" true):=mpp (mpp (ZBS w) (mpp (mpl (ZBi w)) (mpp (mpb (ZB0 w) (ZBB w)) (mpp (mpr (ZBi w)) (ZBK w))))) (ZBH w)
end
end KL
namespace L2
open PySem PySem.Spec PyProof.Rows
abbrev Key:=Sum Int Str
def Zxs:Key→Value→Bool
 | .inl k,v=>Value.isInt k v
 | .inr x,v=>Value.isStrOf x v
def ZBW (w:World):Key→Int
 | .inl k=>hashInt k
 | .inr x=>hashStr w x
theorem ZbB:∀ {k:Key} {v:Value},Zxs k v=true→(∃ i t,k=Sum.inl i∧v=Value.int i t)∨(∃ x t,k=Sum.inr x∧v=Value.str x t)
 | .inl i,v,h=>by
  obtain ⟨t,e⟩:=Value.isInt_shape (k:=i) (v:=v) h
  exact .inl ⟨i,t,rfl,e⟩
 | .inr x,v,h=>by
  obtain ⟨t,e⟩:=Value.isStrOf_shape (x:=x) (v:=v) h
  exact .inr ⟨x,t,rfl,e⟩
theorem Zzd (a b:Int):decide ((Sum.inl a:Key)=Sum.inl b)=(a==b):=by
 by_cases e:a=b
 ·subst e;simp
 ·have h:¬ (Sum.inl a:Key)=Sum.inl b:=fun q=>e (Sum.inl.inj q)
  rw [decide_eq_false h]
  exact (beq_eq_false_iff_ne.mpr e).symm
theorem Zx6 (a b:Str):decide ((Sum.inr a:Key)=Sum.inr b)=decide (a=b):=by
 by_cases e:a=b
 ·subst e;simp
 ·have h:¬ (Sum.inr a:Key)=Sum.inr b:=fun q=>e (Sum.inr.inj q)
  rw [decide_eq_false h,decide_eq_false e]
theorem ZxX (a:Int) (b:Str):decide ((Sum.inl a:Key)=Sum.inr b)=false:=decide_eq_false (fun q=>nomatch q)
theorem ZyP (a:Str) (b:Int):decide ((Sum.inr a:Key)=Sum.inl b)=false:=decide_eq_false (fun q=>nomatch q)
def ZnK (prog:Program) (w:World):PySem.KeyKind prog w Key where
 is:=Zxs
 hash:=ZBW w
 inj:=fun v a b ha hb=>by
  rcases ZbB ha with ⟨i,t,rfl,rfl⟩ | ⟨x,t,rfl,rfl⟩
  ·rcases ZbB hb with ⟨j,u,rfl,e⟩ | ⟨y,u,rfl,e⟩
   ·injection e with e1 _;rw [e1]
   ·exact nomatch e
  ·rcases ZbB hb with ⟨j,u,rfl,e⟩ | ⟨y,u,rfl,e⟩
   ·exact nomatch e
   ·injection e with e1 _;rw [e1]
 byValue:=fun k v h=>by
  rcases ZbB h with ⟨i,t,rfl,rfl⟩ | ⟨x,t,rfl,rfl⟩ <;> rfl
 pyHash:=fun hv h=>by
  rcases ZbB hv with ⟨i,t,rfl,rfl⟩ | ⟨x,t,rfl,rfl⟩
  ·exact wpAny_pyHash_int h
  ·exact wpAny_pyHash_str h
 eqBool:=fun hu hv h=>by
  rcases ZbB hu with ⟨i,t,rfl,rfl⟩ | ⟨x,t,rfl,rfl⟩
  ·rcases ZbB hv with ⟨j,u,rfl,rfl⟩ | ⟨y,u,rfl,rfl⟩
   ·rw [Zzd] at h;exact wpAny_eqBool_int h
   ·rw [ZxX] at h;exact SeqAt.EqAt.int_str i t y u _ _ _ _ h
  ·rcases ZbB hv with ⟨j,u,rfl,rfl⟩ | ⟨y,u,rfl,rfl⟩
   ·rw [ZyP] at h;exact SeqAt.EqAt.str_int x t j u _ _ _ _ h
   ·rw [Zx6] at h;exact wpAny_eqBool_str h
 «strs»:=fun k x t v h=>by
  rcases ZbB h with ⟨i,u,rfl,e⟩ | ⟨y,u,rfl,e⟩
  ·exact nomatch e
  ·injection e with e1 _
   subst e1
   cases v <;> rfl
inductive V where
 | non | bl (b:Bool) | int (i:Int) | str (x:Str) | byt (b:Array UInt8) | flt (b:UInt64) | ref (a:Addr) | ty (n:String)
 deriving DecidableEq
def RelV:V→Value→Prop
 | .non,u=>u=Value.none
 | .bl b,u=>u=Value.bool b
 | .int i,u=>∃ t,u=Value.int i t
 | .str x,u=>∃ t,u=Value.str x t
 | .byt b,u=>∃ t,u=Value.bytes b t
 | .flt b,u=>∃ t,u=Value.float b t
 | .ref a,u=>u=Value.ref a
 | .ty n,u=>u=Value.type n
abbrev Vals:List V→List Value→Prop:=Paired RelV
theorem Vals.length {xs:List V} {us:List Value} (r:Vals xs us):xs.length=us.length:=Paired.length r
theorem Vals.get:∀ {xs:List V} {us:List Value} {i:Nat} {x:V},Vals xs us→xs[i]?=some x→∃ u,us[i]?=some u∧RelV x u
 | _,_,_,_,.nil,e=>by simp at e
 | _,_,0,_,.cons r _,e=>by simp at e;subst e;exact ⟨_,rfl,r⟩
 | _,_,i+1,x,.cons _ t,e=>by
  obtain ⟨u,h1,h2⟩:=Vals.get (i:=i) (x:=x) t (by simpa using e)
  exact ⟨u,by simpa using h1,h2⟩
theorem Vals.set {x:V} {u:Value} (r:RelV x u):∀ {xs:List V} {us:List Value} (i:Nat),Vals xs us→Vals (xs.set i x) (us.set i u)
 | _,_,_,.nil=>.nil
 | _,_,0,.cons _ t=>.cons r t
 | _,_,i+1,.cons q t=>.cons q (Vals.set r i t)
theorem Vals.append:∀ {xs ys:List V} {us ws:List Value},Vals xs us→Vals ys ws→Vals (xs++ys) (us++ws)
 | _,_,_,_,.nil,s=>s
 | _,_,_,_,.cons r t,s=>.cons r (Vals.append t s)
theorem Vals.take:∀ {xs:List V} {us:List Value} (n:Nat),Vals xs us→Vals (xs.take n) (us.take n)
 | _,_,0,_=>.nil
 | _,_,_+1,.nil=>.nil
 | _,_,n+1,.cons r t=>.cons r (Vals.take n t)
theorem Vals.drop:∀ {xs:List V} {us:List Value} (n:Nat),Vals xs us→Vals (xs.drop n) (us.drop n)
 | _,_,0,r=>r
 | _,_,_+1,.nil=>.nil
 | _,_,n+1,.cons _ t=>Vals.drop n t
def ZBz:Option V→Option Value→Prop
 | some v,some u=>RelV v u
 | none,none=>True
 | _,_=>False
def KV {κ:Type}:List (κ×V)→List (κ×Value)→Prop:=Paired fun (p:κ×V) (q:κ×Value)=>p.1=q.1∧RelV p.2 q.2
def kV:Key→V
 | .inl i=>.int i
 | .inr x=>.str x
inductive HO where
 | lst (xs:List V)
 | tup (xs:List V)
 | dK (kvs:List (Key×V)) | dT (kvs:List (List Key×V))
 | set (S:Int→Bool) (n:Nat)
 | ins (C dx:Addr) (fs:List (Str×V))
 | own (x:Addr)
 | xd (fs:List (Str×V))
 | met (f x:Addr)
 | rng (lo hi:Int)
 | frz (o:Obj) (u:HO)
 | tbl (ps:Array Value)
 | ext (φ:Heap→Prop)
abbrev Hp:=Addr→Option HO
def upd (H:Hp) (a:Addr) (o:HO):Hp:=fun b=>if b=a then some o else H b
theorem Zbq {H:Hp} {a:Addr} {o:HO}:upd H a o a=some o:=by unfold upd;rw [if_pos rfl]
theorem Za8 {H:Hp} {a b:Addr} {o:HO} (h:b≠a):upd H a o b=H b:=by unfold upd;rw [if_neg h]
theorem ZcG {H:Hp} {a b:Addr} {o:HO} (h:H a=some o) (h':H b=none):a≠b:=by
 intro e;subst e;rw [h] at h';cases h'
section
variable (P:Program) (w:World)
def ObjOk (H:Hp) (h:Heap) (a:Addr):HO→Prop
 | .lst xs=>xs.length≤sizeLine∧∃ (its:List Value) (n:Nat),Vals xs its∧h.get? a=some { cls:=.type "list",data:=.seq its.toArray n }
 | .tup xs=>xs.length≤sizeLine∧∃ its:List Value,Vals xs its∧IsTup h a its.toArray
 | .dK kvs=>kvs.length≤sizeLine∧(a==sysModules)=false∧∃ vs,KV kvs vs∧h.DictOf (ZnK P w) a vs
 | .dT kvs=>kvs.length≤sizeLine∧(a==sysModules)=false∧∃ xs:List (List Key×Addr×Value),
   Paired (fun (p:List Key×V) (q:List Key×Addr×Value)=>p.1=q.1∧H q.2.1=some (.tup (p.1.map kV))∧RelV p.2 q.2.2) kvs xs ∧
   ∃ o es ep,h.get? a=some o∧o.ExactDict∧o.data=.dict es ep∧es.toList=xs.map (entryOfKey (tupleKind (ZnK P w)))∧(xs.map (·.1)).Nodup
 | .set S n=>h.SetOf (intKind P w) a S n
 | .ins C dx fs=>H dx=some (.own a)∧fs.length≤1000∧dx≠a∧h.get? a=some (PySem.W.instObj C dx) ∧
   ∃ mA,h.Ns1 dx mA∧(∀ f,ZBz (fs.lookup f) (mA f))∧PySem.Within mA (fs.map (·.1))
 | .own _=>∃ o,h.get? a=some o
 | .xd fs=>∃ mA,h.Ns1 a mA∧∀ f,ZBz (fs.lookup f) (mA f)
 | .rng lo hi=>∃ t u v,h.get? a=some { cls:=.type "range",data:=.fields #[.int lo t,.int hi u,.int 1 v] }
 | .frz o u=>h.get? a=some o∧ObjOk H h a u
 | .tbl ps=>h.get? a=some { cls:=.none,data:=.fields ps }
 | .met f x=>h.get? a=some (PySem.W.methodObj (.ref f) (.ref x))
 | .ext φ=>φ h∧(∃ o,h.get? a=some o)∧∀ h1 h2:Heap,φ h1→(∀ o,h1.get? a=some o→h2.get? a=some o)→φ h2
def HOk (H:Hp) (h:Heap):Prop:=∀ a o,H a=some o→ObjOk P w H h a o
end
section
variable {P:Program} {w:World} {H H':Hp} {h h':Heap} {a:Addr} {o:HO}
theorem ObjOk.lt (x:ObjOk P w H h a o):a < h.objs.size:=by
 cases o with
 | lst xs=>obtain ⟨_,_,_,_,e⟩:=x;exact Heap.lt_size e
 | tup xs=>obtain ⟨_,_,_,p⟩:=x;exact p.lt
 | dK kvs=>obtain ⟨_,_,_,_,o,_,_,e,_⟩:=x;exact Heap.lt_size e
 | dT kvs=>obtain ⟨_,_,_,_,o,_,_,e,_⟩:=x;exact Heap.lt_size e
 | set S n=>obtain ⟨o,_,_,_,e,_⟩:=x;exact Heap.lt_size e
 | ins C dx fs=>obtain ⟨_,_,_,e,_⟩:=x;exact Heap.lt_size e
 | own y=>obtain ⟨_,e⟩:=x;exact Heap.lt_size e
 | xd fs=>obtain ⟨_,⟨_,_,_,e,_⟩,_⟩:=x;exact Heap.lt_size e
 | rng lo hi=>obtain ⟨_,_,_,e⟩:=x;exact Heap.lt_size e
 | frz ob u=>obtain ⟨e,_⟩:=x;exact Heap.lt_size e
 | tbl ps=>exact Heap.lt_size (show h.get? a=some _ from x)
 | met f y=>exact Heap.lt_size (show h.get? a=some _ from x)
 | ext φ=>obtain ⟨_,⟨_,e⟩,_⟩:=x;exact Heap.lt_size e
theorem Paired.mapP {α β:Type} {F G:α→β→Prop}:∀ {l₁:List α} {l₂:List β},Paired F l₁ l₂→(∀ a b,F a b→G a b)→Paired G l₁ l₂
 | _,_,.nil,_=>.nil
 | _,_,.cons r t,f=>.cons (f _ _ r) (Paired.mapP t f)
theorem ObjOk.stay (x:ObjOk P w H h a o) (k:∀ b u,(b=a∨H b=some (.own a))→h.get? b=some u→h'.get? b=some u)
  (ho:∀ b,H b=some (.own a)→H' b=some (.own a)) (ht:∀ b xs,H b=some (.tup xs)→H' b=some (.tup xs)):ObjOk P w H' h' a o:=by
 induction o with
 | lst xs=>obtain ⟨z,its,n,r,e⟩:=x;exact ⟨z,its,n,r,k _ _ (.inl rfl) e⟩
 | tup xs=>obtain ⟨z,its,r,ob,e,c⟩:=x;exact ⟨z,its,r,ob,k _ _ (.inl rfl) e,c⟩
 | dK kvs=>obtain ⟨z,y,vs,r,ob,es,ep,e,c⟩:=x;exact ⟨z,y,vs,r,ob,es,ep,k _ _ (.inl rfl) e,c⟩
 | dT kvs =>
  obtain ⟨z,y,xs,r,ob,es,ep,e,c⟩:=x
  exact ⟨z,y,xs,Paired.mapP r fun p q z=>⟨z.1,ht _ _ z.2.1,z.2.2⟩,ob,es,ep,k _ _ (.inl rfl) e,c⟩
 | set S n=>obtain ⟨ob,es,ep,t,e,c⟩:=x;exact ⟨ob,es,ep,t,k _ _ (.inl rfl) e,c⟩
 | ins C dx fs =>
  obtain ⟨d,z,ne,e,mA,⟨od,es,ep,e2,c⟩,r⟩:=x
  exact ⟨ho _ d,z,ne,k _ _ (.inl rfl) e,mA,⟨od,es,ep,k _ _ (.inr d) e2,c⟩,r⟩
 | own y=>obtain ⟨ob,e⟩:=x;exact ⟨ob,k _ _ (.inl rfl) e⟩
 | xd fs=>obtain ⟨mA,⟨od,es,ep,e,c⟩,r⟩:=x;exact ⟨mA,⟨od,es,ep,k _ _ (.inl rfl) e,c⟩,r⟩
 | rng lo hi=>obtain ⟨t,u,v,e⟩:=x;exact ⟨t,u,v,k _ _ (.inl rfl) e⟩
 | frz ob u ih=>obtain ⟨e,q⟩:=x;exact ⟨k _ _ (.inl rfl) e,ih q⟩
 | tbl ps =>
  have e:h.get? a=some { cls:=.none,data:=.fields ps }:=x
  show h'.get? a=some { cls:=.none,data:=.fields ps }
  exact k a _ (.inl rfl) e
 | met f y =>
  have e:h.get? a=some (PySem.W.methodObj (.ref f) (.ref y)):=x
  show h'.get? a=some (PySem.W.methodObj (.ref f) (.ref y))
  exact k a _ (.inl rfl) e
 | ext φ=>obtain ⟨p,⟨o,e⟩,st⟩:=x;exact ⟨st _ _ p fun o q=>k _ _ (.inl rfl) q,⟨o,k _ _ (.inl rfl) e⟩,st⟩
theorem HOk.lt (x:HOk P w H h) (e:H a=some o):a < h.objs.size:=(x a o e).lt
theorem HOk.fresh (x:HOk P w H h) (e:h.objs.size≤a):H a=none:=by
 cases q:H a with
 | none=>rfl
 | some u=>exact absurd (Nat.lt_of_lt_of_le (x.lt q) e) (Nat.lt_irrefl _)
theorem HOk.kept (x:HOk P w H h) (k:∀ b u,h.get? b=some u→h'.get? b=some u):HOk P w H h':=fun a o e =>
 (x a o e).stay (fun b u _ q=>k b u q) (fun _ q=>q) fun _ _ q=>q
theorem HOk.laid (x:HOk P w H h) (k:∀ b u,h.get? b=some u→h'.get? b=some u) (hp:h.objs.size≤a) (new:ObjOk P w (upd H a o) h' a o):HOk P w (upd H a o) h':=fun b u e=>by
 have hn:=x.fresh hp
 by_cases hb:b=a
 ·subst hb;rw [Zbq] at e;cases e;exact new
 ·rw [Za8 hb] at e
  exact (x b u e).stay (fun c v _ q=>k c v q) (fun c q=>by rw [Za8 (ZcG q hn)];exact q) fun c xs q=>by rw [Za8 (ZcG q hn)];exact q
end
def Rd (H:Hp) (a:Addr) (u:HO):Prop:=H a=some u∨∃ o,H a=some (.frz o u)
theorem Rd.of {H:Hp} {a:Addr} {u:HO} (h:H a=some u):Rd H a u:=.inl h
theorem Rd.ok {P:Program} {w:World} {H:Hp} {h:Heap} {a:Addr} {u:HO} (r:Rd H a u) (x:HOk P w H h):ObjOk P w H h a u:=by
 rcases r with r | ⟨o,r⟩
 ·exact x a u r
 ·obtain ⟨_,q⟩:=x a _ r
  exact q
def Mut:Option HO→Prop
 | some (.lst _)=>True
 | some (.dK _)=>True
 | some (.dT _)=>True
 | some (.set _ _)=>True
 | some (.ins _ _ _)=>True
 | some (.ext _)=>True
 | _=>False
section
variable {P:Program} {w:World} {H:Hp} {h h':Heap} {x e:Addr} {o':HO}
theorem HOk.write (ok:HOk P w H h) (mu:Mut (H x)) (he:e=x∨H e=some (.own x)) (k:∀ b u,b≠e→h.get? b=some u→h'.get? b=some u) (heo:∃ u,h'.get? e=some u)
  (new:ObjOk P w (upd H x o') h' x o'):HOk P w (upd H x o') h':=fun b u q=>by
 have nown:∀ c y,H c=some (.own y)→c≠x:=fun c y r z=>by subst z;rw [r] at mu;exact mu
 have ntup:∀ c xs,H c=some (.tup xs)→c≠x:=fun c xs r z=>by subst z;rw [r] at mu;exact mu
 by_cases hb:b=x
 ·subst hb;rw [Zbq] at q;cases q;exact new
 ·rw [Za8 hb] at q
  by_cases hbe:b=e
  ·have q':H b=some (.own x):=by
    rcases he with z | z
    ·exact absurd (hbe.trans z) hb
    ·rw [hbe];exact z
   rw [q] at q';cases q'
   obtain ⟨v,hv⟩:=heo
   exact ⟨v,by rw [hbe];exact hv⟩
  ·refine (ok b u q).stay (fun c v hc r=>k c v ?_ r) (fun c r=>by rw [Za8 (nown c b r)];exact r) fun c xs r=>by rw [Za8 (ntup c xs r)];exact r
   rcases hc with rfl | hc
   ·exact hbe
   ·rintro rfl
    rcases he with z | z
    ·exact nown c b hc z
    ·rw [hc] at z;cases z;exact hb rfl
end
structure Un (fs ex:List Addr) (H H':Hp) (h h':Heap):Prop where
 keep:∀ b o,h.get? b=some o→H b=none→b∉fs→b∉ex→h'.get? b=some o
 slot:∀ b o,h.get? b=some o→H b=none→b∈fs→b∉ex→∃ sl,h'.get? b=some { o with slots:=sl }
 free:∀ b o,h.get? b=some o→H b=none→b∉ex→H' b=none
 there:∀ b o,h.get? b=some o→b∉ex→∃ o',h'.get? b=some o'
 tups:∀ b xs,H b=some (.tup xs)→H' b=some (.tup xs)
 frzs:∀ b o u,H b=some (.frz o u)→H' b=some (.frz o u)
 tbls:∀ b ps,H b=some (.tbl ps)→∃ more,H' b=some (.tbl (ps++more))
section
variable {fs fs' ex ex':List Addr} {H H1 H2:Hp} {h h1 h2 h':Heap} {a x e:Addr} {o:HO}
theorem Un.any (u:Un fs ex H H1 h h1) {b:Addr} {ob:Obj} (q:h.get? b=some ob) (n:H b=none) (hx:b∉ex):∃ sl,h1.get? b=some { ob with slots:=sl }:=by
 by_cases hb:b∈fs
 ·exact u.slot b ob q n hb hx
 ·exact ⟨ob.slots,u.keep b ob q n hb hx⟩
theorem Un.trans (a:Un fs ex H H1 h h1) (b:Un fs ex H1 H2 h1 h2):Un fs ex H H2 h h2 where
 keep:=fun c ob q n hc hx=>b.keep c ob (a.keep c ob q n hc hx) (a.free c ob q n hx) hc hx
 slot:=fun c ob q n hc hx=>by
  obtain ⟨sl,e1⟩:=a.slot c ob q n hc hx
  obtain ⟨sl',e2⟩:=b.slot c _ e1 (a.free c ob q n hx) hc hx
  exact ⟨sl',e2⟩
 free:=fun c ob q n hx=>by
  obtain ⟨o',e1⟩:=a.there c ob q hx
  exact b.free c o' e1 (a.free c ob q n hx) hx
 there:=fun c ob q hx=>by
  obtain ⟨o',e1⟩:=a.there c ob q hx
  exact b.there c o' e1 hx
 tups:=fun c xs q=>b.tups c xs (a.tups c xs q)
 frzs:=fun c ob xs q=>b.frzs c ob xs (a.frzs c ob xs q)
 tbls:=fun c ps q=>by
  obtain ⟨m1,e1⟩:=a.tbls c ps q
  obtain ⟨m2,e2⟩:=b.tbls c _ e1
  exact ⟨m1++m2,by rw [e2,Array.append_assoc]⟩
theorem Un.kept (k:∀ b u,h.get? b=some u→h'.get? b=some u):Un fs ex H H h h' :=
 ⟨fun b ob q _ _ _=>k b ob q,fun b ob q _ _ _=>⟨ob.slots,k b ob q⟩,fun _ _ _ n _=>n,fun b ob q _=>⟨ob,k b ob q⟩,fun _ _ q=>q,fun _ _ _ q=>q,fun _ ps q=>⟨#[],by rw [q];simp⟩⟩
theorem Un.refl:Un fs ex H H h h:=Un.kept fun _ _ q=>q
theorem Un.laid (k:∀ b u,h.get? b=some u→h'.get? b=some u) (hp:h.objs.size≤a) (hn:H a=none):Un fs ex H (upd H a o) h h' where
 keep:=fun b u q _ _ _=>k b u q
 slot:=fun b u q _ _ _=>⟨u.slots,k b u q⟩
 free:=fun b u q n _=>by rw [Za8 (Nat.ne_of_lt (Nat.lt_of_lt_of_le (Heap.lt_size q) hp))];exact n
 there:=fun b u q _=>⟨u,k b u q⟩
 tups:=fun b xs q=>by rw [Za8 (ZcG q hn)];exact q
 frzs:=fun b u xs q=>by rw [Za8 (ZcG q hn)];exact q
 tbls:=fun b ps q=>⟨#[],by rw [Za8 (ZcG q hn),q];simp⟩
theorem Un.write (mu:Mut (H x)) (he:e=x∨H e=some (.own x)) (k:∀ b u,b≠e→h.get? b=some u→h'.get? b=some u) (heo:∃ u,h'.get? e=some u):Un fs ex H (upd H x o) h h':=by
 have hx:∀ b,H b=none→b≠x:=fun b n z=>by subst z;rw [n] at mu;exact mu
 have hb:∀ b,H b=none→b≠e:=fun b n z=>by
  subst z
  rcases he with r | r
  ·exact hx b n r
  ·rw [n] at r;cases r
 have hm:∀ b u,H b=some u→¬ Mut (some u)→b≠x:=fun b u q nm z=>by subst z;rw [q] at mu;exact nm mu
 refine ⟨fun b u q n _ _=>k b u (hb b n) q,fun b u q n _ _=>⟨u.slots,k b u (hb b n) q⟩,fun b u q n _=>by rw [Za8 (hx b n)];exact n,fun b u q _=>?_,
  fun b xs q=>by rw [Za8 (hm b _ q fun z=>z)];exact q,fun b u xs q=>by rw [Za8 (hm b _ q fun z=>z)];exact q,fun b ps q=>⟨#[],by rw [Za8 (hm b _ q fun z=>z),q];simp⟩⟩
 by_cases hbe:b=e
 ·subst hbe;exact heo
 ·exact ⟨u,k b u hbe q⟩
theorem Un.mono (u:Un fs ex H H1 h h1) (hs:∀ b∈fs,b∈fs') (hx:∀ b∈ex,b∈ex'):Un fs' ex' H H1 h h1 :=
 ⟨fun b ob q n hb he=>u.keep b ob q n (fun z=>hb (hs b z)) fun z=>he (hx b z),fun _ _ q n _ he=>u.any q n fun z=>he (hx _ z),fun b ob q n he=>u.free b ob q n fun z=>he (hx b z),fun b ob q he=>u.there b ob q fun z=>he (hx b z),u.tups,u.frzs,u.tbls⟩
end
def trk (h:Heap) (H:Hp):List Addr:=(List.range h.objs.size).filter fun a=>(H a).isSome
def Ztj (h:Heap) (H:Hp):Heap:=PySem.W.hideAll h (trk h H)
theorem Zrz (h:Heap) (H:Hp):(Ztj h H).objs.size=h.objs.size:=PySem.W.hideAll_size _ _
theorem Zut {h:Heap} {H:Hp} {b:Addr} {o:Obj} (e:h.get? b=some o) (n:H b=none):(Ztj h H).get? b=some o :=
 PySem.W.hideAll_get _ e fun hm=>by
  have q:(H b).isSome=true:=(List.mem_filter.mp hm).2
  rw [n] at q;simp at q
theorem Zvo {h:Heap} {H:Hp} {b:Addr} {o:Obj} (e:(Ztj h H).get? b=some o):h.get? b=some o∧H b=none:=by
 have e':h.get? b=some o:=PySem.W.of_hideAll (trk h H) e
 refine ⟨e',?_⟩
 cases q:H b with
 | none=>rfl
 | some x =>
  have hm:b∈trk h H:=List.mem_filter.mpr ⟨List.mem_range.mpr (Heap.lt_size e'),by simp [q]⟩
  have z:(Ztj h H).get? b=none:=PySem.W.hideAll_none (trk h H) hm
  rw [z] at e;cases e
def Zvn (g h:Heap) (L:Addr):List (Addr×Obj):=(List.range h.objs.size).filterMap fun a=>if a=L∨(g.get? a).isSome=true then none else (h.get? a).map fun o=>(a,o)
def Zch (g h:Heap) (L d:Addr):List (Addr×Obj):=(Zvn g h L).filter fun p=>decide (p.1≠d)
structure Mod (K:PySem.W.Frag) (mg:Str→Option Value) (base:Heap):Prop where
 kin:K.In base
 glob:base.Ns mainGlobals mg
 blt:∃ mb,base.Ns builtinsNs mb∧∀ x:Str,x≠"__name__"→mb x=bootBuiltins x
 nolimit:base.NoLimit
structure Cx where
 prog:Program
 w:World
 K:PySem.W.Frag
 mg:Str→Option Value
 base:Heap
 A:Around
 N:List Str
 s₀:Shared
 H₀:Hp
 env:Env
 outer:List Env
 stack:List Env
 ex:List Addr
 fn:Str→Bool
 calm:Bool
 pn:List (Addr×Obj)
 xe:Value→Shared→Prop
def frs (l:List Env):List Addr:=l.filterMap (·.frame)
abbrev Cx.fs (X:Cx):List Addr:=frs X.outer
def Vis (sc:Scope) (x:Str):Prop:=sc.names.lookup x=some .local∨sc.names.lookup x=some .cell∨sc.names.lookup x=some .free
def Loc (sc:Scope) (x:Str):Prop:=sc.names.lookup x=some .local∨sc.names.lookup x=some .cell
def ZBj (env:Env) (h:Heap) (m:Str→Option Value) (x:Str) (u:Value):Prop :=
 (env.kindOf x=some .local∧m x=some u)∨((env.kindOf x=some .cell∨env.kindOf x=some .free)∧∃ c,env.cells.lookup x=some c∧h.IsCell c (some u))
structure Cx.Ok (X:Cx):Prop where
 mod:Mod X.K X.mg X.base
 kind:X.env.scope.kind=.function
 glob:X.env.globals=mainGlobals
 blt:X.env.builtins=builtinsNs
 above:X.s₀.heap.objs.size≤X.env.locals
 inj:∀ x y c,X.env.cells.lookup x=some c→X.env.cells.lookup y=some c→x=y
 has:∀ x,(X.env.kindOf x=some .cell∨X.env.kindOf x=some .free)→∃ c,X.env.cells.lookup x=some c
 cab:∀ x c,X.fn x=true→X.env.cells.lookup x=some c→X.s₀.heap.objs.size≤c
 hd:X.calm=true→X.A.handled=none
 frames:X.A.frames=some X.stack
 stk:X.stack=X.outer∨(X.stack=X.env::X.outer∧X.env.frame=some X.env.locals)
 exf:∀ b∈X.ex,b≠X.env.locals∧∀ x c,X.env.cells.lookup x=some c→c≠b
 bs:∀ b o,X.base.get? b=some o→X.s₀.heap.get? b=some o∧X.H₀ b=none
 bsz:X.base.objs.size≤X.s₀.heap.objs.size
 noex:∀ b o,X.base.get? b=some o→b∉X.ex
 exfs:∀ b∈X.ex,b∉X.fs
 funs:X.s₀.heap.FunFrames X.base X.outer
 frf:∀ b∈X.fs,X.H₀ b=none
structure Inv (X:Cx) (pins:List (Addr×Obj)) (σ:List (Option V)) (H:Hp) (s:Shared):Prop where
 ok:X.Ok
 os:s.os=X.s₀.os
 bare:AllBare s.gens
 base:Un X.fs X.ex X.H₀ H X.s₀.heap s.heap
 loc:∃ m,s.heap.Ns X.env.locals m∧∀ (i:Nat) (x:Str) (v:V),X.N[i]?=some x→σ[i]?=some (some v)→Vis X.env.scope x→∃ u,RelV v u∧ZBj X.env s.heap m x u
 cell:∀ x c,X.env.cells.lookup x=some c→∃ v,s.heap.IsCell c v
 free:H X.env.locals=none
 freeC:∀ x c,X.env.cells.lookup x=some c→H c=none
 pin:∀ p∈X.pn++pins,s.heap.get? p.1=some p.2∧H p.1=none∧p.1≠X.env.locals∧p.1∉X.fs∧∀ v,p.2.data≠.cell v
 hok:HOk X.prog X.w H s.heap
 len:σ.length=X.N.length
section
variable {X:Cx} {pins:List (Addr×Obj)} {σ:List (Option V)} {H H':Hp} {s:Shared} {h':Heap}
theorem Cx.Ok.nofr (ok:X.Ok) {b:Addr} {o:Obj} (e:X.base.get? b=some o):b∉X.fs:=fun hb=>by
 have:=(ok.funs.mem hb).1
 rw [e] at this;cases this
theorem Inv.bs (I:Inv X pins σ H s):∀ b o,X.base.get? b=some o→s.heap.get? b=some o∧H b=none:=fun b o e =>
 ⟨I.base.keep b o (I.ok.bs b o e).1 (I.ok.bs b o e).2 (I.ok.nofr e) (I.ok.noex b o e),I.base.free b o (I.ok.bs b o e).1 (I.ok.bs b o e).2 (I.ok.noex b o e)⟩
theorem Inv.bk (I:Inv X pins σ H s):∀ b o,X.base.get? b=some o→s.heap.get? b=some o:=fun b o e=>(I.bs b o e).1
theorem Inv.mod (I:Inv X pins σ H s):Mod X.K X.mg X.base:=I.ok.mod
theorem Inv.kIn (I:Inv X pins σ H s):X.K.In s.heap:=I.ok.mod.kin.keeps I.bk
theorem Inv.nolimit (I:Inv X pins σ H s):s.heap.NoLimit:=I.ok.mod.nolimit.keeps I.bk
theorem Inv.fr (I:Inv X pins σ H s):∃ m,Fr X.base X.env.locals s.heap m :=
 let ⟨m,hn,_⟩:=I.loc
 ⟨m,hn,I.bk,Nat.le_trans I.ok.bsz I.ok.above⟩
theorem Inv.lt (I:Inv X pins σ H s):X.env.locals < s.heap.objs.size:=let ⟨_,hn,_⟩:=I.loc;hn.lt
theorem Inv.sz (I:Inv X pins σ H s):X.s₀.heap.objs.size≤s.heap.objs.size:=Nat.le_trans I.ok.above (Nat.le_of_lt I.lt)
theorem Inv.nofs (I:Inv X pins σ H s) {a:Addr} (h:s.heap.objs.size≤a):a∉X.fs:=fun hb=>by
 obtain ⟨_,o,ho,_⟩:=I.ok.funs.mem hb
 exact absurd (Nat.lt_of_lt_of_le (Heap.lt_size ho) (Nat.le_trans I.sz h)) (Nat.lt_irrefl _)
theorem Inv.cne (I:Inv X pins σ H s):∀ x c,X.env.cells.lookup x=some c→c≠X.env.locals:=fun x c e z=>by
 obtain ⟨v,o,ho,hd⟩:=I.cell x c e
 obtain ⟨m,⟨o',es,ep,ho',hd',_⟩,_⟩:=I.loc
 rw [z,ho'] at ho;cases ho;rw [hd'] at hd;cases hd
theorem Inv.funs (I:Inv X pins σ H s):s.heap.FunFrames X.base X.outer:=by
 have all:∀ (l:List Env),(∀ b∈frs l,b∈X.fs)→X.s₀.heap.FunFrames X.base l→s.heap.FunFrames X.base l:=by
  intro l
  induction l with
  | nil=>intro _ _;trivial
  | cons env r ih =>
   intro hs hl
   obtain ⟨hk,⟨L,o,hf,hn,ho,hd⟩,hr⟩:=hl
   have hL:L∈X.fs:=hs L (by unfold frs;rw [List.filterMap_cons,hf];exact List.mem_cons_self)
   obtain ⟨sl,e⟩:=I.base.slot L o ho (I.ok.frf L hL) hL fun z=>I.ok.exfs L z hL
   exact ⟨hk,⟨L,_,hf,hn,e,hd⟩,ih (fun b hb=>hs b (by unfold frs;rw [List.filterMap_cons,hf];exact List.mem_cons_of_mem _ hb)) hr⟩
 exact all X.outer (fun _ hb=>hb) I.ok.funs
theorem Inv.stack (I:Inv X pins σ H s):s.heap.FunFrames X.base X.stack:=by
 rcases I.ok.stk with e | ⟨e,hf⟩
 ·rw [e];exact I.funs
 ·rw [e]
  obtain ⟨m,hn,_⟩:=I.loc
  refine .cons (by rw [I.ok.kind];decide) hf hn ?_ I.funs
  exact Heap.get?_none_of_le (Nat.le_trans I.ok.bsz I.ok.above)
theorem Inv.stkSub (I:Inv X pins σ H s):∀ b∈frs X.stack,b∈X.env.locals::X.fs:=fun b hb=>by
 rcases I.ok.stk with e | ⟨e,hf⟩
 ·rw [e] at hb;exact List.mem_cons_of_mem _ hb
 ·rw [e] at hb
  unfold frs at hb
  rw [List.filterMap_cons,hf] at hb
  exact hb
theorem Inv.stkFree (I:Inv X pins σ H s):∀ b∈frs X.stack,H b=none:=fun b hb=>by
 rcases List.mem_cons.mp (I.stkSub b hb) with e | hb
 ·rw [e];exact I.free
 ·obtain ⟨_,o,ho,_⟩:=I.ok.funs.mem hb
  exact I.base.free b o ho (I.ok.frf b hb) fun z=>I.ok.exfs b z hb
theorem Inv.step {g':Array GenState} {t':Nat} {d':Drawn} {ch:List Addr} (I:Inv X pins σ H s)
  (hch:∀ b∈ch,(b∈X.ex∨X.s₀.heap.objs.size≤b)∧b≠X.env.locals∧(∀ x c,X.env.cells.lookup x=some c→c≠b)∧∀ p∈X.pn++pins,p.1≠b)
  (keep:∀ b o,b≠X.env.locals→b∉X.fs→b∉ch→s.heap.get? b=some o→H b=none→h'.get? b=some o)
  (slot:∀ b o,b≠X.env.locals→b∈X.fs→b∉ch→s.heap.get? b=some o→H b=none→∃ sl,h'.get? b=some { o with slots:=sl }) (free:∀ b o,b∉ch→s.heap.get? b=some o→H b=none→H' b=none)
  (there:∀ b o,b∉ch→s.heap.get? b=some o→∃ o',h'.get? b=some o')
  (tups:∀ b xs,H b=some (.tup xs)→H' b=some (.tup xs)) (frzs:∀ b o u,H b=some (.frz o u)→H' b=some (.frz o u)) (tbls:∀ b ps,H b=some (.tbl ps)→∃ more,H' b=some (.tbl (ps++more)))
  (ns:∀ m,s.heap.Ns X.env.locals m→h'.Ns X.env.locals m) (hok:HOk X.prog X.w H' h') (hg:AllBare g') :
  Inv X pins σ H' { s with heap:=h',gens:=g',drawn:=d',toks:=t' }:=by
 have neL:∀ b o,X.s₀.heap.get? b=some o→b≠X.env.locals:=fun b o e=>Nat.ne_of_lt (Nat.lt_of_lt_of_le (Heap.lt_size e) I.ok.above)
 have neC:∀ b o,X.s₀.heap.get? b=some o→b∉X.ex→b∉ch:=fun b o e hx hb=>by
  rcases (hch b hb).1 with z | z
  ·exact hx z
  ·exact absurd (Nat.lt_of_lt_of_le (Heap.lt_size e) z) (Nat.lt_irrefl _)
 have cellK:∀ x c,X.env.cells.lookup x=some c→∀ v,s.heap.IsCell c v→h'.IsCell c v:=by
  rintro x c e v ⟨o,ho,hd⟩
  have nch:c∉ch:=fun z=>(hch c z).2.2.1 x c e rfl
  by_cases hc:c∈X.fs
  ·obtain ⟨sl,q⟩:=slot c o (I.cne x c e) hc nch ho (I.freeC x c e)
   exact ⟨_,q,hd⟩
  ·exact ⟨o,keep c o (I.cne x c e) hc nch ho (I.freeC x c e),hd⟩
 refine ⟨I.ok,I.os,hg,⟨fun b o e n hb hx=>?_,fun b o e n hb hx=>?_,fun b o e n hx=>?_,fun b o e hx=>?_,fun b xs e=>tups b xs (I.base.tups b xs e),fun b o xs e=>frzs b o xs (I.base.frzs b o xs e),fun b ps e=>?_⟩,?_,fun x c e=>?_,?_,fun x c e=>?_,fun p hp=>?_,hok,I.len⟩
 ·exact keep b o (neL b o e) hb (neC b o e hx) (I.base.keep b o e n hb hx) (I.base.free b o e n hx)
 ·obtain ⟨sl,e1⟩:=I.base.slot b o e n hb hx
  obtain ⟨sl',e2⟩:=slot b _ (neL b o e) hb (neC b o e hx) e1 (I.base.free b o e n hx)
  exact ⟨sl',e2⟩
 ·obtain ⟨o',e1⟩:=I.base.there b o e hx
  exact free b o' (neC b o e hx) e1 (I.base.free b o e n hx)
 ·obtain ⟨o',e1⟩:=I.base.there b o e hx
  exact there b o' (neC b o e hx) e1
 ·obtain ⟨m1,e1⟩:=I.base.tbls b ps e
  obtain ⟨m2,e2⟩:=tbls b _ e1
  exact ⟨m1++m2,by rw [e2,Array.append_assoc]⟩
 ·obtain ⟨m,hn,hl⟩:=I.loc
  refine ⟨m,ns m hn,fun i x v e1 e2 e3=>?_⟩
  obtain ⟨u,r,l⟩:=hl i x v e1 e2 e3
  refine ⟨u,r,?_⟩
  rcases l with l | ⟨k,c,e,z⟩
  ·exact .inl l
  ·exact .inr ⟨k,c,e,cellK x c e _ z⟩
 ·obtain ⟨v,z⟩:=I.cell x c e
  exact ⟨v,cellK x c e v z⟩
 ·obtain ⟨m,⟨o,_,_,ho,_⟩,_⟩:=I.loc
  exact free _ o (fun z=>(hch _ z).2.1 rfl) ho I.free
 ·obtain ⟨v,o,ho,hd⟩:=I.cell x c e
  exact free c o (fun z=>(hch c z).2.2.1 x c e rfl) ho (I.freeC x c e)
 ·obtain ⟨e,n,ne,nf,d⟩:=I.pin p hp
  have nch:p.1∉ch:=fun z=>(hch p.1 z).2.2.2 p hp rfl
  exact ⟨keep p.1 p.2 ne nf nch e n,free p.1 p.2 nch e n,ne,nf,d⟩
theorem Inv.un {t':Nat} (I:Inv X pins σ H s) (u:Un X.fs [] H H' s.heap h') (hok:HOk X.prog X.w H' h'):Inv X pins σ H' { s with heap:=h',toks:=t' }:=by
 obtain ⟨m,⟨o,es,ep,ho,r⟩,_⟩:=id I.loc
 obtain ⟨sl,hL⟩:=u.any ho I.free (by simp)
 exact I.step (g':=s.gens) (d':=s.drawn) (ch:=[]) (fun _ z=>nomatch z) (fun b o _ hb _ e n=>u.keep b o e n hb (by simp)) (fun b o _ hb _ e n=>u.slot b o e n hb (by simp)) (fun b o _ e n=>u.free b o e n (by simp)) (fun b o _ e=>u.there b o e (by simp)) u.tups u.frzs u.tbls (fun m' hm=>by
  obtain ⟨o',es',ep',ho',r'⟩:=hm
  rw [ho] at ho';cases ho'
  exact ⟨_,es',ep',hL,r'⟩) hok I.bare
theorem Inv.call {g':Array GenState} {t':Nat} {d':Drawn} {ch:List Addr} (I:Inv X pins σ H s) (u:Un (frs X.stack) ch H H' s.heap h') (hok:HOk X.prog X.w H' h') (hg:AllBare g')
  (hch:∀ b∈ch,(b∈X.ex∨X.s₀.heap.objs.size≤b)∧b≠X.env.locals∧(∀ x c,X.env.cells.lookup x=some c→c≠b)∧∀ p∈X.pn++pins,p.1≠b) :
  Inv X pins σ H' { s with heap:=h',gens:=g',drawn:=d',toks:=t' }:=by
 obtain ⟨m,⟨o,es,ep,ho,r⟩,_⟩:=id I.loc
 obtain ⟨sl,hL⟩:=u.any ho I.free fun z=>(hch _ z).2.1 rfl
 exact I.step (ch:=ch) hch (fun b o hL hb hc e n=>u.keep b o e n (fun z=>(List.mem_cons.mp (I.stkSub b z)).elim hL hb) hc) (fun b o _ _ hc e n=>u.any e n hc) (fun b o hc e n=>u.free b o e n hc) (fun b o hc e=>u.there b o e hc) u.tups u.frzs u.tbls (fun m' hm=>by
  obtain ⟨o',es',ep',ho',r'⟩:=hm
  rw [ho] at ho';cases ho'
  exact ⟨_,es',ep',hL,r'⟩) hok hg
theorem Inv.turned {t':Nat} {it:Addr} (I:Inv X pins σ H s) (k:∀ b o,b≠it→s.heap.get? b=some o→h'.get? b=some o) (hn:H it=none) (hL:it≠X.env.locals)
  (h1:it∈X.ex∨X.s₀.heap.objs.size≤it) (h2:∀ x c,X.env.cells.lookup x=some c→c≠it) (h3:∀ p∈X.pn++pins,p.1≠it):Inv X pins σ H { s with heap:=h',toks:=t' }:=by
 have nit:∀ b u,H b=some u→b≠it:=fun b u e z=>by rw [z,hn] at e;cases e
 refine I.step (g':=s.gens) (d':=s.drawn) (ch:=[it]) (fun b hb=>?_) (fun b o _ _ hc e _=>k b o (fun z=>hc (by simp [z])) e) (fun b o _ _ hc e _=>⟨o.slots,k b o (fun z=>hc (by simp [z])) e⟩) (fun _ _ _ _ n=>n)
  (fun b o hc e=>⟨o,k b o (fun z=>hc (by simp [z])) e⟩) (fun _ _ e=>e) (fun _ _ _ e=>e) (fun b ps e=>⟨#[],by rw [e];simp⟩) (fun m hm=>?_) (fun b u e=>?_) I.bare
 ·have e:b=it:=by simpa using hb
  subst e
  exact ⟨h1,hL,h2,h3⟩
 ·obtain ⟨o,es,ep,ho,r⟩:=hm
  exact ⟨o,es,ep,k _ o (Ne.symm hL) ho,r⟩
 ·refine (I.hok b u e).stay (fun c v hc q=>k c v ?_ q) (fun _ q=>q) fun _ _ q=>q
  rcases hc with z | z
  ·rw [z];exact nit b u e
  ·exact nit c _ z
theorem Inv.tok (I:Inv X pins σ H s) (t:Nat):Inv X pins σ H { s with toks:=t }:=I.un (h':=s.heap) (t':=t) Un.refl I.hok
theorem Inv.kept {t':Nat} (I:Inv X pins σ H s) (k:∀ b u,s.heap.get? b=some u→h'.get? b=some u):Inv X pins σ H { s with heap:=h',toks:=t' }:=I.un (Un.kept k) (I.hok.kept k)
theorem Inv.laid {a:Addr} {o:HO} {t':Nat} (I:Inv X pins σ H s) (k:∀ b u,s.heap.get? b=some u→h'.get? b=some u) (hp:s.heap.objs.size≤a) (new:ObjOk X.prog X.w (upd H a o) h' a o) :
  Inv X pins σ (upd H a o) { s with heap:=h',toks:=t' }:=I.un (Un.laid k hp (I.hok.fresh hp)) (I.hok.laid k hp new)
theorem Inv.write {x e:Addr} {o:HO} {t':Nat} (I:Inv X pins σ H s) (mu:Mut (H x)) (he:e=x∨H e=some (.own x)) (k:∀ b u,b≠e→s.heap.get? b=some u→h'.get? b=some u) (heo:∃ u,h'.get? e=some u)
  (new:ObjOk X.prog X.w (upd H x o) h' x o):Inv X pins σ (upd H x o) { s with heap:=h',toks:=t' }:=I.un (Un.write mu he k heo) (I.hok.write mu he k heo new)
theorem Inv.pins_of {pins':List (Addr×Obj)} (I:Inv X pins σ H s) (h:∀ p∈pins',s.heap.get? p.1=some p.2∧H p.1=none∧p.1≠X.env.locals∧p.1∉X.fs∧∀ v,p.2.data≠.cell v):Inv X pins' σ H s :=
 ⟨I.ok,I.os,I.bare,I.base,I.loc,I.cell,I.free,I.freeC,fun p hp=>(List.mem_append.mp hp).elim (fun z=>I.pin p (List.mem_append_left _ z)) (h p),I.hok,I.len⟩
theorem Zls {N:List Str} (hN:N.Nodup) {i j:Nat} {x:Str} (a:N[i]?=some x) (b:N[j]?=some x):i=j:=by
 obtain ⟨h1,e1⟩:=List.getElem?_eq_some_iff.mp a
 obtain ⟨h2,e2⟩:=List.getElem?_eq_some_iff.mp b
 exact (List.getElem_inj hN).mp (e1.trans e2.symm)
theorem Zri {M:Model} {A:Around} {E:Value→Shared→Prop} {i:Nat} {x:Str} {v:V} {u:Value} {Q:Unit→Shared→Prop} (I:Inv X pins σ H s) (hN:X.N.Nodup) (hi:X.N[i]?=some x) (hx:Loc X.env.scope x) (r:RelV v u)
  (h:∀ s',Inv X pins (σ.set i (some v)) H s'→(∃ a,Heap.SameBut a s.heap s'.heap∧(a=X.env.locals∨X.env.cells.lookup x=some a))→Q () s') (hf:X.fn x=true∨X.env.scope.names.lookup x=some .local:=by first | exact .inl rfl | exact .inr rfl | assumption):wpAny M A (storeName X.env x u) Q E s:=by
 obtain ⟨m,hn,hl⟩:=id I.loc
 have hcls:(X.env.scope.kind==.class||(X.env.scope.kind==.module&&X.env.locals != X.env.globals))=false:=by rw [I.ok.kind];rfl
 have hiσ:i < σ.length:=by rw [I.len];exact (List.getElem?_eq_some_iff.mp hi).1
 have cne:=I.cne
 have tracked:∀ {a:Addr} {h':Heap},(∃ o,s.heap.get? a=some o∧H a=none)→Heap.SameBut a s.heap h'→HOk X.prog X.w H h':=fun {a h'} ha hs b ob e=>by
  obtain ⟨_,_,hfree⟩:=ha
  refine (I.hok b ob e).stay (fun c w' hc q=>(hs.2 c ?_).trans q) (fun _ q=>q) fun _ _ q=>q
  rintro rfl
  rcases hc with rfl | hc
  ·rw [hfree] at e;cases e
  ·rw [hfree] at hc;cases hc
 rcases hx with hk | hk
 ·refine wpAny_storeName_local hk hn (fun h' hn' hs=>?_) hcls
  obtain ⟨oL,_,_,hoL,_⟩:=id hn
  refine h _ ⟨I.ok,I.os,I.bare,⟨fun b o e n hb hx=>?_,fun b o e n hb hx=>?_,I.base.free,fun b o e hx=>?_,I.base.tups,I.base.frzs,I.base.tbls⟩,⟨_,hn',fun j y v' e1 e2 e3=>?_⟩,fun y c e=>?_,I.free,I.freeC,fun p hp=>?_,tracked ⟨oL,hoL,I.free⟩ hs,by simpa using I.len⟩ ⟨_,hs,.inl rfl⟩
  ·exact (hs.2 b (Nat.ne_of_lt (Nat.lt_of_lt_of_le (Heap.lt_size e) I.ok.above))).trans (I.base.keep b o e n hb hx)
  ·obtain ⟨sl,e1⟩:=I.base.slot b o e n hb hx
   exact ⟨sl,(hs.2 b (Nat.ne_of_lt (Nat.lt_of_lt_of_le (Heap.lt_size e) I.ok.above))).trans e1⟩
  ·obtain ⟨o',e1⟩:=I.base.there b o e hx
   exact ⟨o',(hs.2 b (Nat.ne_of_lt (Nat.lt_of_lt_of_le (Heap.lt_size e) I.ok.above))).trans e1⟩
  ·by_cases hj:j=i
   ·subst hj
    rw [hi] at e1;cases e1
    rw [List.getElem?_set_self hiσ] at e2
    cases e2
    exact ⟨u,r,.inl ⟨hk,by simp⟩⟩
   ·rw [List.getElem?_set_ne (Ne.symm hj)] at e2
    obtain ⟨u',r',q⟩:=hl j y v' e1 e2 e3
    refine ⟨u',r',?_⟩
    rcases q with ⟨k,e⟩ | ⟨k,c,e,z⟩
    ·refine .inl ⟨k,?_⟩
     have:y≠x:=fun e=>hj (Zls hN e1 (e▸hi))
     simp [this,e]
    ·exact .inr ⟨k,c,e,z.sameBut hs (cne y c e)⟩
  ·obtain ⟨w',z⟩:=I.cell y c e
   exact ⟨w',z.sameBut hs (cne y c e)⟩
  ·obtain ⟨e,n,ne,nf,d⟩:=I.pin p hp
   exact ⟨(hs.2 p.1 ne).trans e,n,ne,nf,d⟩
 ·have hfn:X.fn x=true:=by
   rcases hf with z | z
   ·exact z
   ·rw [z] at hk;cases hk
  obtain ⟨c,hc⟩:=I.ok.has x (.inl hk)
  obtain ⟨w',z⟩:=I.cell x c hc
  refine wpAny_storeName_cell I.ok.kind hk hc z (fun h' hc' hs=>?_)
  obtain ⟨oc,hoc,hocd⟩:=id z
  refine h { s with heap:=h' } ⟨I.ok,I.os,I.bare,⟨fun b o e n hb hx=>?_,fun b o e n hb hx=>?_,I.base.free,fun b o e hx=>?_,I.base.tups,I.base.frzs,I.base.tbls⟩,⟨m,hn.sameBut hs (Ne.symm (cne x c hc)),fun j y v' e1 e2 e3=>?_⟩,fun y c' e=>?_,I.free,I.freeC,fun p hp=>?_,tracked ⟨oc,hoc,I.freeC x c hc⟩ hs,by simpa using I.len⟩ ⟨c,hs,.inr hc⟩
  ·exact (hs.2 b (Nat.ne_of_lt (Nat.lt_of_lt_of_le (Heap.lt_size e) (I.ok.cab x c hfn hc)))).trans (I.base.keep b o e n hb hx)
  ·obtain ⟨sl,e1⟩:=I.base.slot b o e n hb hx
   exact ⟨sl,(hs.2 b (Nat.ne_of_lt (Nat.lt_of_lt_of_le (Heap.lt_size e) (I.ok.cab x c hfn hc)))).trans e1⟩
  ·obtain ⟨o',e1⟩:=I.base.there b o e hx
   exact ⟨o',(hs.2 b (Nat.ne_of_lt (Nat.lt_of_lt_of_le (Heap.lt_size e) (I.ok.cab x c hfn hc)))).trans e1⟩
  ·by_cases hj:j=i
   ·subst hj
    rw [hi] at e1;cases e1
    rw [List.getElem?_set_self hiσ] at e2
    cases e2
    exact ⟨u,r,.inr ⟨.inl hk,c,hc,hc'⟩⟩
   ·rw [List.getElem?_set_ne (Ne.symm hj)] at e2
    obtain ⟨u',r',q⟩:=hl j y v' e1 e2 e3
    refine ⟨u',r',?_⟩
    rcases q with q | ⟨k,c',e,z'⟩
    ·exact .inl q
    ·refine .inr ⟨k,c',e,z'.sameBut hs ?_⟩
     rintro rfl
     exact hj (Zls hN e1 (I.ok.inj _ _ _ e hc▸hi))
  ·by_cases hcc:c'=c
   ·subst hcc;exact ⟨_,hc'⟩
   ·obtain ⟨w2,z2⟩:=I.cell y c' e
    exact ⟨w2,z2.sameBut hs hcc⟩
  ·obtain ⟨e,n,ne,nf,d⟩:=I.pin p hp
   refine ⟨(hs.2 p.1 ?_).trans e,n,ne,nf,d⟩
   intro q
   rw [q,hoc] at e
   have q':oc=p.2:=Option.some.inj e
   exact d w' (by rw [← q'];exact hocd)
theorem Zho {M:Model} {A:Around} {E:Value→Shared→Prop} {i:Nat} {x:Str} {v:V} {u:Value} {Q:Unit→Shared→Prop} (I:Inv X pins σ H s) (hN:X.N.Nodup) (hi:X.N[i]?=some x) (hx:Loc X.env.scope x) (r:RelV v u)
  (h:∀ s',Inv X pins (σ.set i (some v)) H s'→Q () s') (hf:X.fn x=true∨X.env.scope.names.lookup x=some .local:=by first | exact .inl rfl | exact .inr rfl | assumption):wpAny M A (storeName X.env x u) Q E s :=
 Zri I hN hi hx r (fun s' I' _=>h s' I') hf
theorem Inv.call' {s':Shared} {ch:List Addr} (I:Inv X pins σ H s) (ho:s'.os=s.os) (u:Un (frs X.stack) ch H H' s.heap s'.heap) (hok:HOk X.prog X.w H' s'.heap) (hg:AllBare s'.gens)
  (hch:∀ b∈ch,(b∈X.ex∨X.s₀.heap.objs.size≤b)∧b≠X.env.locals∧(∀ x c,X.env.cells.lookup x=some c→c≠b)∧∀ p∈X.pn++pins,p.1≠b):Inv X pins σ H' s':=by
 obtain ⟨h',g',d',t',o'⟩:=s'
 have e:o'=s.os:=ho
 subst e
 exact I.call (g':=g') (t':=t') (d':=d') u hok hg hch
end
abbrev XK:=Value→Option Addr→Hp→Prop
abbrev St:=List (Option V)
abbrev VK:=V→Hp→Prop
abbrev TE:=St→Hp→VK→Prop
abbrev TT:=St→Hp→(Bool→Hp→Prop)→Prop
abbrev TA:=St→Hp→(List V→Hp→Prop)→Prop
structure Zxe where
 nx:St→Hp→Prop
 rt:VK
 bk:St→Hp→Prop:=fun _ _=>False
 ct:St→Hp→Prop:=fun _ _=>False
abbrev TS:=Zxe→St→Hp→Prop
def EP (X:Cx) (pins:List (Addr×Obj)) (σ:St) (Q:VK) (u:Value) (s':Shared):Prop:=∃ v H',Inv X pins σ H' s'∧RelV v u∧Q v H'
def TP (X:Cx) (pins:List (Addr×Obj)) (σ:St) (Q:Bool→Hp→Prop) (b:Bool) (s':Shared):Prop:=∃ H',Inv X pins σ H' s'∧Q b H'
def AP (X:Cx) (pins:List (Addr×Obj)) (σ:St) (Q:List V→Hp→Prop) (us:List Value) (s':Shared):Prop:=∃ vs H',Inv X pins σ H' s'∧Vals vs us∧Q vs H'
def SP (X:Cx) (pins:List (Addr×Obj)) (D:Zxe) (f:Flow) (s':Shared):Prop :=
 match f with
 | .next=>∃ σ' H',Inv X pins σ' H' s'∧D.nx σ' H'
 | .brk=>∃ σ' H',Inv X pins σ' H' s'∧D.bk σ' H'
 | .cont=>∃ σ' H',Inv X pins σ' H' s'∧D.ct σ' H'
 | .ret u=>∃ v σ' H',Inv X pins σ' H' s'∧RelV v u∧D.rt v H'
def PE (X:Cx) (e:Expr) (t:TE):Prop :=
 ∀ (pins:List (Addr×Obj)) (s:Shared) (σ:St) (H:Hp) (Q:VK),Inv X pins σ H s→t σ H Q→wpAny (model X.prog X.w) X.A (eval e X.env) (EP X pins σ Q) X.xe s
def PT (X:Cx) (e:Expr) (t:TT):Prop :=
 ∀ (pins:List (Addr×Obj)) (s:Shared) (σ:St) (H:Hp) (Q:Bool→Hp→Prop),Inv X pins σ H s→t σ H Q→wpAny (model X.prog X.w) X.A (isTrue e X.env (eval e X.env)) (TP X pins σ Q) X.xe s
def PW (X:Cx) (e:Expr) (t:TT):Prop :=
 ∀ (whole:Sem Value) (pins:List (Addr×Obj)) (s:Shared) (σ:St) (H:Hp) (Q:Bool→Hp→Prop),Inv X pins σ H s→t σ H Q→wpAny (model X.prog X.w) X.A (isTrue e X.env whole) (TP X pins σ Q) X.xe s
theorem PW.pt {X:Cx} {e:Expr} {t:TT} (h:PW X e t):PT X e t:=h _
def PA (X:Cx) (es:List Expr) (t:TA):Prop :=
 ∀ (pos:Pos) (pins:List (Addr×Obj)) (s:Shared) (σ:St) (H:Hp) (Q:List V→Hp→Prop),Inv X pins σ H s→t σ H Q→wpAny (model X.prog X.w) X.A (spliced (backTo pos (starEach es X.env))) (AP X pins σ Q) X.xe s
def PS (X:Cx) (st:Stmt) (t:TS):Prop :=
 ∀ (pins:List (Addr×Obj)) (s:Shared) (σ:St) (H:Hp) (D:Zxe),Inv X pins σ H s→t D σ H→wpAny (model X.prog X.w) X.A (exec st X.env) (SP X pins D) X.xe s
def PSs (X:Cx) (st:List Stmt) (t:TS):Prop :=
 ∀ (pins:List (Addr×Obj)) (s:Shared) (σ:St) (H:Hp) (D:Zxe),Inv X pins σ H s→t D σ H→wpAny (model X.prog X.w) X.A (execs st X.env) (SP X pins D) X.xe s
theorem thn {α:Type} {t:Sem α} {Q Q':α→Shared→Prop} {M:Model} {A:Around} {E:Value→Shared→Prop} {s:Shared} (h:wpAny M A t Q E s) (hQ:∀ a s,Q a s→Q' a s):wpAny M A t Q' E s:=wpAny_mono h hQ fun _ _ x=>x
section
variable {X:Cx}
theorem bin {a b:Expr} {ta tb:TE} (ha:PE X a ta) (hb:PE X b tb) {pins:List (Addr×Obj)} {s:Shared} {σ:St} {H:Hp} {R:V→V→Hp→Prop} (I:Inv X pins σ H s) (h:ta σ H fun x H1=>tb σ H1 fun y H2=>R x y H2)
  {α:Type} {Q:α→Shared→Prop} {f:Value→Value→Sem α}
  (hf:∀ v u s2 x y H2,Inv X pins σ H2 s2→RelV x v→RelV y u→R x y H2→wpAny (model X.prog X.w) X.A (f v u) Q X.xe s2) :
  wpAny (model X.prog X.w) X.A (eval a X.env) (fun v s₁=>wpAny (model X.prog X.w) X.A (eval b X.env) (fun u s₂=>wpAny (model X.prog X.w) X.A (f v u) Q X.xe s₂) X.xe s₁) X.xe s:=by
 refine thn (ha pins s σ H _ I h) fun v s1 zz1=>?_
 obtain ⟨x,H1,I1,r1,q1⟩:=zz1
 refine thn (hb pins s1 σ H1 _ I1 q1) fun u s2 zz2=>?_
 obtain ⟨y,H2,I2,r2,q2⟩:=zz2
 exact hf v u s2 x y H2 I2 r1 r2 q2
def ZB4 (i:Nat):TE:=fun σ H Q=>∃ v,σ[i]?=some (some v)∧Q v H
def tC (v:V):TE:=fun _ H Q=>Q v H
theorem Zy2 {i:Nat} {x:Str} {pos:Pos} (hN:X.N[i]?=some x) (hv:Vis X.env.scope x) (hd:(x==("__debug__":Str))=false:=by decide) (hcd:(x==("__classdict__":Str))=false:=by decide):PE X (.Name x pos) (ZB4 i):=by
 intro pins s σ H Q I h
 obtain ⟨v,e,h⟩:=h
 obtain ⟨m,hn,hl⟩:=I.loc
 obtain ⟨u,r,l⟩:=hl i x v hN e hv
 have fin:EP X pins σ Q u s:=⟨v,H,I,r,h⟩
 rcases l with ⟨hk,hm⟩ | ⟨hk,c,hc,hcell⟩
 ·exact wpAny_Name (wpAny_loadName_local I.ok.kind hk hn hm fin) hd
 ·rcases hk with hk | hk
  ·exact wpAny_Name (wpAny_loadName_cell I.ok.kind hk hc hcell fin) hd
  ·exact wpAny_Name (wpAny_loadName_free I.ok.kind hk hc hcell fin hcd) hd
theorem ZxD {i j pos}:PE X (.Constant (.int i) j pos) (tC (.int i)):=fun _ _ _ H _ I h=>wpAny_Constant_int ⟨.int i,H,I.tok _,⟨_,rfl⟩,h⟩
theorem ZAW {b j pos}:PE X (.Constant (.bool b) j pos) (tC (.bl b)):=fun _ _ _ H _ I h=>Constant_bool ⟨.bl b,H,I,rfl,h⟩
theorem Zye {j pos}:PE X (.Constant .none j pos) (tC .non):=fun _ _ _ H _ I h=>Constant_none ⟨.non,H,I,rfl,h⟩
theorem Zxm {x j pos}:PE X (.Constant (.str x) j pos) (tC (.str x)):=fun _ _ _ H _ I h=>Calls.Constant_str ⟨.str x,H,I.tok _,⟨_,rfl⟩,h⟩
def Gl (X:Cx) (x:Str):Prop:=X.env.kindOf x=some .globalImplicit
theorem Zh0 {E:Value→Shared→Prop} {pins:List (Addr×Obj)} {s:Shared} {σ:St} {H:Hp} {x:Str} {u:Value} {pos:Pos} {Q:Value→Shared→Prop} (I:Inv X pins σ H s) (hg:Gl X x) (hm:X.mg x=some u) (h:Q u s)
  (hd:(x==("__debug__":Str))=false:=by decide):wpAny (model X.prog X.w) X.A (eval (.Name x pos) X.env) Q E s :=
 Calls.Name_function_global I.ok.kind hg (Calls.loadGlobal_global (by rw [I.ok.glob];exact I.mod.glob.keeps I.bk) hm h) hd
theorem ZeW {E:Value→Shared→Prop} {pins:List (Addr×Obj)} {s:Shared} {σ:St} {H:Hp} {x:Str} {u:Value} {pos:Pos} {Q:Value→Shared→Prop} (I:Inv X pins σ H s) (hg:Gl X x) (hm:X.mg x=none) (hv:bootBuiltins x=some u) (h:Q u s)
  (hn:x≠"__name__":=by decide) (hd:(x==("__debug__":Str))=false:=by decide):wpAny (model X.prog X.w) X.A (eval (.Name x pos) X.env) Q E s:=by
 obtain ⟨mb,h1,h2⟩:=I.mod.blt
 exact Calls.Name_function_global I.ok.kind hg (Calls.loadGlobal_builtin (by rw [I.ok.glob];exact I.mod.glob.keeps I.bk) hm (by rw [I.ok.blt];exact h1.keeps I.bk) ((h2 x hn).trans hv) h) hd
theorem Zn9 {x:Str} {v:V} {u:Value} {pos:Pos} (hg:Gl X x) (hm:X.mg x=some u) (r:RelV v u) (hd:(x==("__debug__":Str))=false:=by decide):PE X (.Name x pos) (tC v) :=
 fun _ _ _ H _ I h=>Zh0 I hg hm ⟨v,H,I,r,h⟩ hd
theorem Zr6 {x:Str} {v:V} {u:Value} {pos:Pos} (hg:Gl X x) (hm:X.mg x=none) (hv:bootBuiltins x=some u) (r:RelV v u) (hn:x≠"__name__":=by decide) (hd:(x==("__debug__":Str))=false:=by decide):PE X (.Name x pos) (tC v) :=
 fun _ _ _ H _ I h=>ZeW I hg hm hv ⟨v,H,I,r,h⟩ hn hd
def t2I (ta tb:TE) (k:Int→Int→Hp→Prop):St→Hp→Prop:=fun σ H=>ta σ H fun x H1=>tb σ H1 fun y H2=>∃ i j,x=.int i∧y=.int j∧k i j H2
def ZBP (ta tb:TE):TE:=fun σ H Q=>t2I ta tb (fun i j H2=>Q (.int (i - j)) H2) σ H
variable {a b:Expr} {ta tb:TE} {pos:Pos}
theorem Zbn (ha:PE X a ta) (hb:PE X b tb):PE X (.BinOp a .Sub b pos) (ZBP ta tb):=by
 intro pins s σ H Q I h
 refine wpAny_BinOp (bin ha hb I h fun v u s2 x y H2 I2 rx ry q=>?_)
 obtain ⟨i,j,rfl,rfl,q⟩:=q
 obtain ⟨t,rfl⟩:=rx
 obtain ⟨t',rfl⟩:=ry
 exact sub_int ⟨.int _,H2,I2.tok _,⟨_,rfl⟩,q⟩
variable {tA tB':TT} {Zch:List Expr}
def ZBV (t u:TT):TT:=fun σ H Q=>t σ H fun c H1=>if c=true then u σ H1 Q else Q false H1
def tOr (t u:TT):TT:=fun σ H Q=>t σ H fun c H1=>if c=true then Q true H1 else u σ H1 Q
def ZBQ (t:TT):TT:=fun σ H Q=>t σ H fun c H1=>Q (!c) H1
theorem Zwf (ha:PT X a tA):PW X (.BoolOp .And [a] pos) tA:=by
 intro wh pins s σ H Q I h
 refine isTrue_and (thn (ha pins s σ H Q I h) fun c s1 e=>?_)
 cases c with
 | true=>exact isTrue_and_nil e
 | false=>exact e
theorem Zxx (ha:PT X a tA):PW X (.BoolOp .Or [a] pos) tA:=by
 intro wh pins s σ H Q I h
 refine isTrue_or (thn (ha pins s σ H Q I h) fun c s1 e=>?_)
 cases c with
 | false=>exact isTrue_or_nil e
 | true=>exact e
theorem ZyW (ha:PT X a tA) (hb:PW X (.BoolOp .And (b::Zch) pos) tB'):PW X (.BoolOp .And (a::b::Zch) pos) (ZBV tA tB'):=by
 intro wh pins s σ H Q I h
 refine isTrue_and (thn (ha pins s σ H _ I h) fun c s1 zz7=>?_)
 obtain ⟨H1,I1,q1⟩:=zz7
 cases c with
 | true=>exact hb wh pins s1 σ H1 Q I1 q1
 | false=>exact ⟨H1,I1,q1⟩
theorem ZBb (ha:PT X a tA) (hb:PW X (.BoolOp .Or (b::Zch) pos) tB'):PW X (.BoolOp .Or (a::b::Zch) pos) (tOr tA tB'):=by
 intro wh pins s σ H Q I h
 refine isTrue_or (thn (ha pins s σ H _ I h) fun c s1 zz8=>?_)
 obtain ⟨H1,I1,q1⟩:=zz8
 cases c with
 | true=>exact ⟨H1,I1,q1⟩
 | false=>exact hb wh pins s1 σ H1 Q I1 q1
theorem Zy7 (ha:PT X a tA):PT X (.UnaryOp .Not a pos) (ZBQ tA):=by
 intro pins s σ H Q I h
 exact isTrue_not (ha pins s σ H (fun c H1=>Q (!c) H1) I h)
def ZAw (ta tb:TE):TE:=fun σ H Q=>ta σ H fun x H1=>∃ c,x=.bl c∧if c=true then tb σ H1 Q else Q (.bl false) H1
def ZB9 (ta tb:TE):TE:=fun σ H Q=>ta σ H fun x H1=>∃ c,x=.bl c∧if c=true then Q (.bl true) H1 else tb σ H1 Q
def ZAy (ta:TE):TE:=fun σ H Q=>ta σ H fun x H1=>∃ c,x=.bl c∧Q (.bl (!c)) H1
theorem Zzx {op} {t:TE} (h:PE X a t):PE X (.BoolOp op [a] pos) t:=fun pins s σ H Q I hw=>BoolOp_one (h pins s σ H Q I hw)
theorem Zx9 (ha:PE X a ta) (hb:PE X (.BoolOp .And (b::Zch) pos) tb):PE X (.BoolOp .And (a::b::Zch) pos) (ZAw ta tb):=by
 intro pins s σ H Q I h
 refine BoolOp_and (thn (ha pins s σ H _ I h) fun v s1 zz9=>?_)
 obtain ⟨x,H1,I1,r1,q1⟩:=zz9
 obtain ⟨c,rfl,q1⟩:=q1
 cases r1
 refine wpAny_truthy_bool ?_
 cases c with
 | true=>exact hb pins s1 σ H1 Q I1 q1
 | false=>exact ⟨.bl false,H1,I1,rfl,q1⟩
theorem ZAu (ha:PE X a ta) (hb:PE X (.BoolOp .Or (b::Zch) pos) tb):PE X (.BoolOp .Or (a::b::Zch) pos) (ZB9 ta tb):=by
 intro pins s σ H Q I h
 refine BoolOp_or (thn (ha pins s σ H _ I h) fun v s1 zz10=>?_)
 obtain ⟨x,H1,I1,r1,q1⟩:=zz10
 obtain ⟨c,rfl,q1⟩:=q1
 cases r1
 refine wpAny_truthy_bool ?_
 cases c with
 | false=>exact hb pins s1 σ H1 Q I1 q1
 | true=>exact ⟨.bl true,H1,I1,rfl,q1⟩
theorem ZxZ (ha:PE X a ta):PE X (.UnaryOp .Not a pos) (ZAy ta):=by
 intro pins s σ H Q I h
 refine UnaryOp_ (thn (ha pins s σ H _ I h) fun v s1 zz11=>?_)
 obtain ⟨x,H1,I1,r1,q1⟩:=zz11
 obtain ⟨c,rfl,q1⟩:=q1
 cases r1
 exact not_of (wpAny_truthy_bool ⟨.bl (!c),H1,I1,rfl,q1⟩)
def tIf (t:TT) (ta tb:TE):TE:=fun σ H Q=>t σ H fun c H1=>if c=true then ta σ H1 Q else tb σ H1 Q
theorem Zug {c:Expr} (hc:PT X c tA) (ha:PE X a ta) (hb:PE X b tb):PE X (.IfExp c a b pos) (tIf tA ta tb):=by
 intro pins s σ H Q I h
 refine wpAny_IfExp (thn (hc pins s σ H _ I h) fun d s1 zz12=>?_)
 obtain ⟨H1,I1,q1⟩:=zz12
 cases d with
 | true=>exact ha pins s1 σ H1 Q I1 q1
 | false=>exact hb pins s1 σ H1 Q I1 q1
end
def SqL (K:PySem.W.Frag) (H:Hp) (a:Addr) (xs:List V):Prop :=
 Rd H a (.lst xs) ∨
  ∃ (o:Obj) (its:Array Value) (n:Nat),K.lookup a=some o∧o.cls=.type "list"∧o.dict=none∧o.data=.seq its n∧its.size≤sizeLine∧Vals xs its.toList
def SqT (K:PySem.W.Frag) (H:Hp) (a:Addr) (xs:List V):Prop :=
 Rd H a (.tup xs) ∨
  ∃ (o:Obj) (its:Array Value) (n:Nat),K.lookup a=some o∧o.cls=.type "tuple"∧o.data=.seq its n∧its.size≤sizeLine∧Vals xs its.toList
def ZBL:Value→Option V
 | .none=>some .non
 | .bool b=>some (.bl b)
 | .int i _=>some (.int i)
 | .str x _=>some (.str x)
 | .bytes b _=>some (.byt b)
 | .float b _=>some (.flt b)
 | .ref a=>some (.ref a)
 | .type n=>some (.ty n)
 | _=>none
theorem RelV.abs {x:V} {u:Value} (r:RelV x u):ZBL u=some x:=by
 cases x with
 | non=>cases r;rfl
 | bl _=>cases r;rfl
 | int _=>obtain ⟨t,rfl⟩:=r;rfl
 | str _=>obtain ⟨t,rfl⟩:=r;rfl
 | byt _=>obtain ⟨t,rfl⟩:=r;rfl
 | flt _=>obtain ⟨t,rfl⟩:=r;rfl
 | ref _=>cases r;rfl
 | ty _=>cases r;rfl
theorem RelV.inj {x y:V} {u:Value} (r:RelV x u) (q:RelV y u):x=y:=Option.some.inj (r.abs.symm.trans q.abs)
theorem Vals.inj:∀ {xs ys:List V} {us:List Value},Vals xs us→Vals ys us→xs=ys
 | _,_,_,.nil,.nil=>rfl
 | _,_,_,.cons r t,.cons r' t'=>by rw [r.inj r',Vals.inj t t']
section
variable {X:Cx} {pins:List (Addr×Obj)} {σ:St} {H:Hp} {s:Shared} {a:Addr} {xs ys:List V}
theorem SqL.of {K:PySem.W.Frag} (h:H a=some (.lst xs)):SqL K H a xs:=.inl (.inl h)
theorem SqT.of {K:PySem.W.Frag} (h:H a=some (.tup xs)):SqT K H a xs:=.inl (.inl h)
theorem Inv.list (I:Inv X pins σ H s) (h:SqL X.K H a xs):∃ its:List Value,Vals xs its∧PlainL s.heap a its.toArray∧xs.length≤sizeLine:=by
 rcases h with h | ⟨o,its,n,hk,hc,hd,hs,hz,r⟩
 ·obtain ⟨z,its,n,r,e⟩:=h.ok I.hok
  exact ⟨its,r,⟨_,n,e,rfl,rfl,rfl⟩,z⟩
 ·refine ⟨its.toList,r,⟨o,n,I.kIn a o hk,hc,hd,by simpa using hs⟩,?_⟩
  have e:=r.length
  simp only [Array.length_toList] at e
  omega
theorem Inv.tuple (I:Inv X pins σ H s) (h:SqT X.K H a xs):∃ its:List Value,Vals xs its∧IsTup s.heap a its.toArray∧xs.length≤sizeLine:=by
 rcases h with h | ⟨o,its,n,hk,hc,hs,hz,r⟩
 ·obtain ⟨z,its,r,p⟩:=h.ok I.hok
  exact ⟨its,r,p,z⟩
 ·refine ⟨its.toList,r,⟨o,I.kIn a o hk,hc,n,by simpa using hs⟩,?_⟩
  have e:=r.length
  simp only [Array.length_toList] at e
  omega
theorem Inv.list_inj (I:Inv X pins σ H s) (h:SqL X.K H a xs) (h':SqL X.K H a ys):xs=ys:=by
 obtain ⟨its,r,⟨o,n,e,_,_,d⟩,_⟩:=I.list h
 obtain ⟨its',r',⟨o',n',e',_,_,d'⟩,_⟩:=I.list h'
 rw [e] at e';cases e'
 rw [d] at d'
 injection d' with d1 _
 have:its=its':=by simpa using congrArg Array.toList d1
 subst this
 exact r.inj r'
theorem Inv.tuple_inj (I:Inv X pins σ H s) (h:SqT X.K H a xs) (h':SqT X.K H a ys):xs=ys:=by
 obtain ⟨its,r,⟨o,e,_,n,d⟩,_⟩:=I.tuple h
 obtain ⟨its',r',⟨o',e',_,n',d'⟩,_⟩:=I.tuple h'
 rw [e] at e';cases e'
 rw [d] at d'
 injection d' with d1 _
 have:its=its':=by simpa using congrArg Array.toList d1
 subst this
 exact r.inj r'
end
abbrev Cx.wish (X:Cx) (E:Value→Shared→Prop):Cx:={ X with xe:=E }
abbrev Cx.nox (X:Cx):Cx:=X.wish fun _ _=>False
theorem Cx.Ok.wish {X:Cx} (ok:X.Ok) (E:Value→Shared→Prop):(X.wish E).Ok :=
 ⟨ok.mod,ok.kind,ok.glob,ok.blt,ok.above,ok.inj,ok.has,ok.cab,ok.hd,ok.frames,ok.stk,ok.exf,ok.bs,ok.bsz,ok.noex,ok.exfs,ok.funs,ok.frf⟩
theorem Cx.Ok.unwish {X:Cx} {E:Value→Shared→Prop} (ok:(X.wish E).Ok):X.Ok :=
 ⟨ok.mod,ok.kind,ok.glob,ok.blt,ok.above,ok.inj,ok.has,ok.cab,ok.hd,ok.frames,ok.stk,ok.exf,ok.bs,ok.bsz,ok.noex,ok.exfs,ok.funs,ok.frf⟩
section
variable {X:Cx} {pins:List (Addr×Obj)} {σ:St} {H:Hp} {s:Shared} {E:Value→Shared→Prop}
theorem Inv.wish (I:Inv X pins σ H s) (E:Value→Shared→Prop):Inv (X.wish E) pins σ H s:=⟨I.ok.wish E,I.os,I.bare,I.base,I.loc,I.cell,I.free,I.freeC,I.pin,I.hok,I.len⟩
theorem Inv.unwish (I:Inv (X.wish E) pins σ H s):Inv X pins σ H s:=⟨I.ok.unwish,I.os,I.bare,I.base,I.loc,I.cell,I.free,I.freeC,I.pin,I.hok,I.len⟩
theorem SP.unwish {D:Zxe} {f:Flow} {s':Shared} (h:SP (X.wish E) pins D f s'):SP X pins D f s':=by
 cases f with
 | next=>obtain ⟨σ',H',I,q⟩:=h;exact ⟨σ',H',I.unwish,q⟩
 | brk=>obtain ⟨σ',H',I,q⟩:=h;exact ⟨σ',H',I.unwish,q⟩
 | cont=>obtain ⟨σ',H',I,q⟩:=h;exact ⟨σ',H',I.unwish,q⟩
 | ret u=>obtain ⟨v,σ',H',I,r,q⟩:=h;exact ⟨v,σ',H',I.unwish,r,q⟩
theorem PE.nox {e:Expr} {t:TE} (h:PE X.nox e t):PE X e t:=fun pins s σ H Q I hw =>
 wpAny_mono (h pins s σ H Q (I.wish _) hw) ((by rintro _ _ ⟨v,H',I',r,q⟩;exact ⟨v,H',I'.unwish,r,q⟩)) fun _ _ z=>False.elim z
theorem PT.nox {e:Expr} {t:TT} (h:PT X.nox e t):PT X e t:=fun pins s σ H Q I hw =>
 wpAny_mono (h pins s σ H Q (I.wish _) hw) ((by rintro _ _ ⟨H',I',q⟩;exact ⟨H',I'.unwish,q⟩)) fun _ _ z=>False.elim z
theorem PSs.nox {st:List Stmt} {t:TS} (h:PSs X.nox st t):PSs X st t:=fun pins s σ H D I hw =>
 wpAny_mono (h pins s σ H D (I.wish _) hw) (fun _ _ q=>q.unwish) fun _ _ z=>False.elim z
end
section
variable {X:Cx} {st:Stmt} {Zch:List Stmt} {t u:TS} {e:Expr} {te:TE} {pos:Pos}
def ZAZ:TS:=fun D σ H=>D.nx σ H
def ZBF (t u:TS):TS:=fun D σ H=>t { D with nx:=u D } σ H
theorem ZvO:PSs X [] ZAZ:=fun _ _ σ H _ I h=>wpAny_execs_nil ⟨σ,H,I,h⟩
theorem Zt0 (h1:PS X st t) (h2:PSs X Zch u):PSs X (st::Zch) (ZBF t u):=by
 intro pins s σ H D I h
 refine wpAny_execs_cons (thn (h1 pins s σ H { D with nx:=u D } I h) fun f s1 q=>?_)
 cases f with
 | next =>
  obtain ⟨σ',H',I',q⟩:=q
  exact h2 pins s1 σ' H' D I' q
 | ret v=>exact q
 | brk=>exact q
 | cont=>exact q
theorem ZwY (h1:PS X st t):PSs X [st] t:=by
 intro pins s σ H D I h
 refine wpAny_execs_cons (thn (h1 pins s σ H D I h) fun f s1 q=>?_)
 cases f with
 | next=>exact wpAny_execs_nil q
 | ret v=>exact q
 | brk=>exact q
 | cont=>exact q
theorem Inv.quiet {pins:List (Addr×Obj)} {σ:St} {H:Hp} {s:Shared} (I:Inv X pins σ H s):interactive X.env=false:=by simp [interactive,I.ok.kind]
def ZA1 (te:TE):TS:=fun D σ H=>te σ H fun _ H1=>D.nx σ H1
theorem ZvI (he:PE X e te) (hs:swapsWith e none pos.line X.env=pure false:=by rfl):PS X (.Expr e pos) (ZA1 te):=by
 intro pins s σ H D I h
 exact wpAny_Expr_any (thn (he pins s σ H _ I h) (by rintro v s1 ⟨x,H1,I1,r1,q1⟩;exact ⟨σ,H1,I1,q1⟩)) I.quiet hs
def ZB5 (te:TE):TS:=fun D σ H=>te σ H D.rt
theorem ZxV (he:PE X e te):PS X (.Return (some e) pos) (ZB5 te):=by
 intro pins s σ H D I h
 exact wpAny_Return_some (thn (he pins s σ H _ I h) (by rintro v s1 ⟨x,H1,I1,r1,q1⟩;exact ⟨x,σ,H1,I1,r1,q1⟩))
def ZBM (c:TT) (t u:TS):TS:=fun D σ H=>c σ H fun b H1=>if b=true then t D σ H1 else u D σ H1
theorem ZA8 {c:Expr} {a b:List Stmt} {tc:TT} (hc:PT X c tc) (ha:PSs X a t) (hb:PSs X b u):PS X (.If c a b pos) (ZBM tc t u):=by
 intro pins s σ H D I h
 refine wpAny_If (thn (hc pins s σ H _ I h) fun d s1 zz13=>?_)
 obtain ⟨H1,I1,q1⟩:=zz13
 cases d with
 | true=>exact ha pins s1 σ H1 D I1 q1
 | false=>exact hb pins s1 σ H1 D I1 q1
end
abbrev TG:=V→St→Hp→(St→Hp→Prop)→Prop
abbrev TGs:=List V→St→Hp→(St→Hp→Prop)→Prop
def PG (X:Cx) (target:Expr) (t:TG):Prop :=
 ∀ (pins:List (Addr×Obj)) (s:Shared) (σ:St) (H:Hp) (v:V) (u:Value) (Q:St→Hp→Prop),Inv X pins σ H s→RelV v u→t v σ H Q →
  wpAny (model X.prog X.w) X.A (assign target X.env u) (fun _ s'=>∃ σ' H',Inv X pins σ' H' s'∧Q σ' H') X.xe s
def PGs (X:Cx) (ts:List Expr) (t:TGs):Prop :=
 ∀ (pins:List (Addr×Obj)) (s:Shared) (σ:St) (H:Hp) (vs:List V) (us:List Value) (Q:St→Hp→Prop),Inv X pins σ H s→Vals vs us→t vs σ H Q →
  wpAny (model X.prog X.w) X.A (assignInOrder ((assignEach ts X.env).map (·.2)) us) (fun _ s'=>∃ σ' H',Inv X pins σ' H' s'∧Q σ' H') X.xe s
abbrev ZAh:=V→V→V→Hp→(Hp→Prop)→Prop
def ZBm (X:Cx) (t:ZAh):Prop :=
 ∀ (pins:List (Addr×Obj)) (s:Shared) (σ:St) (H:Hp) (o i v:V) (ov iv u:Value) (Q:Hp→Prop),Inv X pins σ H s→RelV o ov→RelV i iv→RelV v u→t o i v H Q →
  wpAny (model X.prog X.w) X.A (setItem ov iv u) (fun _ s'=>∃ H',Inv X pins σ H' s'∧Q H') X.xe s
abbrev TIp:=V→V→Hp→VK→Prop
def PIp (X:Cx) (op:Operator) (t:TIp):Prop :=
 ∀ (pins:List (Addr×Obj)) (s:Shared) (σ:St) (H:Hp) (x y:V) (v u:Value) (Q:VK),Inv X pins σ H s→RelV x v→RelV y u→t x y H Q →
  wpAny (model X.prog X.w) X.A (inplaceOp op v u) (EP X pins σ Q) X.xe s
section
variable {X:Cx} {pos:Pos}
def ZiA (i:Nat):TG:=fun v σ H Q=>Q (σ.set i (some v)) H
theorem Zd7 {i:Nat} {x:Str} (hN:X.N.Nodup) (hi:X.N[i]?=some x) (hx:Loc X.env.scope x) (hf:X.fn x=true∨X.env.scope.names.lookup x=some .local:=by first | exact .inl rfl | exact .inr rfl | assumption):PG X (.Name x pos) (ZiA i):=by
 intro pins s σ H v u Q I r h
 exact wpAny_assign_Name (Zho I hN hi hx r (fun s' I'=>⟨_,H,I',h⟩) hf)
def Zag:TGs:=fun vs σ H Q=>vs=[]∧Q σ H
def Zaa (t:TG) (u:TGs):TGs:=fun vs σ H Q=>∃ v r,vs=v::r∧t v σ H fun σ' H'=>u r σ' H' Q
theorem ZnV:PGs X [] Zag:=by
 intro pins s σ H vs us Q I r h
 obtain ⟨e,h⟩:=h
 subst e
 cases r
 exact assignInOrder_nil ⟨σ,H,I,h⟩
theorem ZeQ {e:Expr} {es:List Expr} {t:TG} {u:TGs} (h1:PG X e t) (h2:PGs X es u)
  (hs:(assignEach (e::es) X.env).map (·.2)=assign e X.env::(assignEach es X.env).map (·.2):=by rfl):PGs X (e::es) (Zaa t u):=by
 intro pins s σ H vs us Q I r h
 obtain ⟨v,vr,e1,h⟩:=h
 subst e1
 cases r with
 | cons r rr =>
  rw [hs]
  refine assignInOrder_cons (thn (h1 pins s σ H _ _ _ I r h) fun _ s1 zz14=>?_)
  obtain ⟨σ1,H1,I1,q1⟩:=zz14
  exact h2 pins s1 σ1 H1 _ _ Q I1 rr q1
def ZaI (K:PySem.W.Frag) (n:Nat) (t:TGs):TG:=fun v σ H Q=>∃ a xs,v=.ref a∧SqT K H a xs∧xs.length=n∧t xs σ H Q
theorem Zq3 {es:List Expr} {k:Nat} {t:TGs} {n:Nat} (hc:X.calm=true) (h:PGs X es t)
  (hn:(assignEach es X.env).length=n:=by rfl) (hst:(assignEach es X.env).findIdx? (·.1)=none:=by rfl):PG X (.Tuple es k pos) (ZaI X.K n t):=by
 intro pins s σ H v u Q I r hw
 obtain ⟨a,xs,e1,hq,hl,hw⟩:=hw
 subst e1
 cases r
 obtain ⟨its,rv,ht,hz⟩:=I.tuple hq
 refine assign_Tuple_tuple (I.ok.hd hc) ht (by simp [hn,← hl,rv.length]) hst fun h' hx=>?_
 have I1:Inv X pins σ H { s with heap:=h' }:=I.kept (t':=s.toks) fun b o e=>hx b o (Nat.ne_of_lt (Heap.lt_size e)) e
 exact h pins _ σ H xs _ Q I1 (by simpa using rv) hw
def ZB2 (to ti:TE) (t:ZAh):TG:=fun v σ H Q=>to σ H fun o H1=>ti σ H1 fun i H2=>t o i v H2 fun H3=>Q σ H3
theorem Zzy {o i:Expr} {to ti:TE} {t:ZAh} (ho:PE X o to) (hi:PE X i ti) (hs:ZBm X t)
  (ha:∀ v,assign (.Subscript o i pos) X.env v=(do
   let ov ← holding [v] (eval o X.env)
   let iv ← holding [v,ov] (eval i X.env)
   standAt pos
   holding [v,ov,iv] (setItem ov iv v)
   release [v,ov,iv] []):=by intro _;rfl):PG X (.Subscript o i pos) (ZB2 to ti t):=by
 intro pins s σ H v u Q I r h
 rw [ha]
 refine wpAny_bind (wpAny_holding (thn (ho pins s σ H _ I h) fun ov s1 zz15=>?_))
 obtain ⟨x,H1,I1,r1,q1⟩:=zz15
 refine wpAny_bind (wpAny_holding (thn (hi pins s1 σ H1 _ I1 q1) fun iv s2 zz16=>?_))
 obtain ⟨y,H2,I2,r2,q2⟩:=zz16
 refine wpAny_bind (wpAny_standAt (wpAny_bind (wpAny_holding (thn (hs pins s2 σ H2 x y v ov iv u _ I2 r1 r2 r q2) fun _ s3 zz17=>?_))))
 obtain ⟨H3,I3,q3⟩:=zz17
 exact wpAny_release ⟨σ,H3,I3,q3⟩
def ZA9 (te:TE) (g:TG):TS:=fun D σ H=>te σ H fun x H1=>g x σ H1 D.nx
theorem Zxy {tg e:Expr} {te:TE} {g:TG} (he:PE X e te) (hg:PG X tg g) (hs:swapsWithSole [tg] e pos.line X.env=pure false:=by rfl) (hw:swappedStores [tg] e X.env=pure none:=by rfl)
  (h1:(assignEach [tg] X.env).map (·.2)=[assign tg X.env]:=by rfl):PS X (.Assign [tg] e pos) (ZA9 te g):=by
 intro pins s σ H D I h
 refine wpAny_Assign_stores (thn (he pins s σ H _ I h) fun v s1 zz18=>?_) hs hw
 obtain ⟨x,H1,I1,r1,q1⟩:=zz18
 rw [h1]
 exact thn (hg pins s1 σ H1 x v _ I1 r1 q1) fun _ s2 q=>q
theorem ZzG {i:Nat} {x:Str} {e:Expr} {te:TE} {pos':Pos} (hN:X.N.Nodup) (hi:X.N[i]?=some x) (hx:Loc X.env.scope x) (he:PE X e te) (hs:swapsWith e (some (.Name x pos')) pos.line X.env=pure false:=by rfl) (hf:X.fn x=true∨X.env.scope.names.lookup x=some .local:=by first | exact .inl rfl | exact .inr rfl | assumption) :
  PS X (.Assign [.Name x pos'] e pos) (ZA9 te (ZiA i)):=by
 intro pins s σ H D I h
 refine wpAny_Assign_Name (thn (he pins s σ H _ I h) fun v s1 zz19=>?_) hs
 obtain ⟨y,H1,I1,r1,q1⟩:=zz19
 exact Zho I1 hN hi hx r1 (fun s2 I2=>⟨_,H1,I2,q1⟩) hf
def ZBY (i:Nat) (te:TE) (ti:TIp):TS:=fun D σ H=>∃ x,σ[i]?=some (some x)∧te σ H fun y H1=>ti x y H1 fun z H2=>D.nx (σ.set i (some z)) H2
theorem ZyI {i:Nat} {x:Str} {e:Expr} {te:TE} {op:Operator} {ti:TIp} {pos':Pos} (hN:X.N.Nodup) (hi:X.N[i]?=some x) (hx:Loc X.env.scope x) (he:PE X e te) (ho:PIp X op ti) (hf:X.fn x=true∨X.env.scope.names.lookup x=some .local:=by first | exact .inl rfl | exact .inr rfl | assumption) :
  PS X (.AugAssign (.Name x pos') op e pos) (ZBY i te ti):=by
 intro pins s σ H D I h
 obtain ⟨v,e1,h⟩:=h
 obtain ⟨m,hn,hl⟩:=I.loc
 have vis:Vis X.env.scope x:=by rcases hx with k | k;exact .inl k;exact .inr (.inl k)
 obtain ⟨u,r,l⟩:=hl i x v hi e1 vis
 refine wpAny_AugAssign_Name ?_
 have go:wpAny (model X.prog X.w) X.A (eval e X.env) (fun w s₂=>wpAny (model X.prog X.w) X.A (inplaceOp op u w) (fun r s₃=>wpAny (model X.prog X.w) X.A (storeName X.env x r) (fun _=>SP X pins D .next) X.xe s₃) X.xe s₂) X.xe s:=by
  refine thn (he pins s σ H _ I h) fun w s1 zz21=>?_
  obtain ⟨y,H1,I1,r1,q1⟩:=zz21
  refine thn (ho pins s1 σ H1 v y u w _ I1 r r1 q1) fun z s2 zz22=>?_
  obtain ⟨zv,H2,I2,r2,q2⟩:=zz22
  exact Zho I2 hN hi hx r2 (fun s3 I3=>⟨_,H2,I3,q2⟩) hf
 rcases l with ⟨hk,hm⟩ | ⟨hk,c,hc,hcell⟩
 ·exact wpAny_loadName_local I.ok.kind hk hn hm go
 ·rcases hk with hk | hk
  ·exact wpAny_loadName_cell I.ok.kind hk hc hcell go
  ·rcases hx with k | k
   ·have:X.env.scope.names.lookup x=some .free:=hk
    rw [k] at this;cases this
   ·have:X.env.scope.names.lookup x=some .free:=hk
    rw [k] at this;cases this
end
section
variable {X:Cx} {pos:Pos}
def Zyz (c:TT) (tb:TS):TS:=fun D σ H=>∃ W:Nat→St→Hp→Prop,(∃ m,W m σ H)∧∀ m σ H,W m σ H →
 c σ H fun b H1=>if b=true then ∃ N:St→Hp→Prop,(∀ σ' H',N σ' H'→∃ m',m' < m∧W m' σ' H')∧tb { D with nx:=N,ct:=N,bk:=D.nx } σ H1 else D.nx σ H1
theorem Zt3 {c:Expr} {body:List Stmt} {tc:TT} {tb:TS} (hp:PassesOwn (model X.prog X.w) X.A X.env X.xe) (hc:PT X c tc) (hb:PSs X body tb):PS X (.While c body [] pos) (Zyz tc tb):=by
 intro pins s σ H D I h
 obtain ⟨W,⟨m0,w0⟩,turn⟩:=h
 refine wpAny_While (codeAny_whileLoop (fun n s'=>∃ σ' H',Inv X pins σ' H' s'∧W n σ' H') ?_ m0 ⟨σ,H,I,w0⟩)
 rintro n s1 ⟨σ1,H1,I1,w1⟩
 refine wpAny_passesOwn hp (thn (hc pins s1 σ1 H1 _ I1 (turn n σ1 H1 w1)) fun b s2 zz28=>?_)
 obtain ⟨H2,I2,q2⟩:=zz28
 cases b with
 | true =>
  obtain ⟨N,hN,q2⟩:=q2
  rw [if_pos rfl]
  refine wpAny_passesOwn hp (thn (hb pins s2 σ1 H2 _ I2 q2) fun f s3 q3=>?_)
  cases f with
  | next =>
   obtain ⟨σ3,H3,I3,n3⟩:=q3
   obtain ⟨m',hm,w3⟩:=hN σ3 H3 n3
   exact ⟨m',hm,σ3,H3,I3,w3⟩
  | cont =>
   obtain ⟨σ3,H3,I3,n3⟩:=q3
   obtain ⟨m',hm,w3⟩:=hN σ3 H3 n3
   exact ⟨m',hm,σ3,H3,I3,w3⟩
  | brk=>exact q3
  | ret v=>exact q3
 | false =>
  rw [if_neg Bool.false_ne_true]
  exact wpAny_execs_nil ⟨σ1,H2,I2,q2⟩
end
structure It where
 go:Nat→Hp→Prop
 yld:Nat→Hp→V→Hp→Prop
 stop:Nat→Hp→Prop
def Zrv (X:Cx) (pins:List (Addr×Obj)) (H:Hp) (b:Addr):Prop :=
 H b=none∧b≠X.env.locals∧b∉X.fs∧(b∈X.ex∨X.s₀.heap.objs.size≤b)∧(∀ x c,X.env.cells.lookup x=some c→c≠b)∧∀ p∈X.pn++pins,p.1≠b
theorem Inv.fpOk {X:Cx} {pins:List (Addr×Obj)} {σ:St} {H H':Hp} {s:Shared} {b:Addr} (I:Inv X pins σ H s) (hb:s.heap.objs.size≤b) (hn:H' b=none):Zrv X pins H' b:=by
 refine ⟨hn,Nat.ne_of_gt (Nat.lt_of_lt_of_le I.lt hb),I.nofs hb,.inr (Nat.le_trans I.sz hb),fun x c e z=>?_,fun p hp z=>?_⟩
 ·obtain ⟨v,q⟩:=I.cell x c e
  exact absurd (Nat.lt_of_lt_of_le q.lt (by rw [z];exact hb)) (Nat.lt_irrefl _)
 ·exact absurd (Nat.lt_of_lt_of_le (Heap.lt_size (I.pin p hp).1) (by rw [z];exact hb)) (Nat.lt_irrefl _)
structure ZsJ (P:Program) (w:World) (K:PySem.W.Frag) (tg:Expr) (J:It) (fp:List Addr) (it:Addr) (tn:Nat→Heap→Prop):Prop where
 mem:it∈fp
 obj:∀ i h,tn i h→∀ b∈fp,∃ o,h.get? b=some o∧∀ v,o.data≠.cell v
 keep:∀ i h h',tn i h→(∀ b∈fp,∀ o,h.get? b=some o→h'.get? b=some o)→tn i h'
 item:∀ (X:Cx),X.prog=P→X.w=w→X.K=K→X.calm=true→∀ (i:Nat) (pins:List (Addr×Obj)) (s:Shared) (σ:St) (H:Hp) (E:Value→Shared→Prop),Inv X pins σ H s→(∀ b∈fp,Zrv X pins H b)→tn i s.heap→J.go i H →
  wpAny (model P w) X.A (pyNext (.ref it)) (fun r s1=>∃ u,r=some u ∧
   wpAny (model P w) X.A (letOwnedTupleGo tg (.ref it) u) (fun _ s2=>∃ x H',Inv X pins σ H' s2∧RelV x u∧J.yld i H x H'∧tn (i+1) s2.heap∧∀ b∈fp,H' b=none) E s1) E s
 done:∀ (X:Cx),X.prog=P→X.w=w→X.K=K→X.calm=true→∀ (i:Nat) (pins:List (Addr×Obj)) (s:Shared) (σ:St) (H:Hp) (E:Value→Shared→Prop),Inv X pins σ H s→(∀ b∈fp,Zrv X pins H b)→tn i s.heap→J.stop i H →
  wpAny (model P w) X.A (pyNext (.ref it)) (fun r s1=>r=none∧Inv X pins σ H s1) E s
 self:∀ (A:Around) (i:Nat) (s:Shared) (Q:Value→Shared→Prop) (E:Value→Shared→Prop),tn i s.heap→Q (.ref it) s→wpAny (model P w) A (pyIter (.ref it)) Q E s
abbrev TI:=St→Hp→(It→Hp→Prop)→Prop
def PIE (X:Cx) (pins:List (Addr×Obj)) (σ:St) (tg:Expr) (R:It→Hp→Prop) (itv:Value) (s2:Shared):Prop :=
 ∃ (it:Addr) (fp:List Addr) (tn:Nat→Heap→Prop) (J:It) (H':Hp),itv=.ref it∧Inv X pins σ H' s2∧ZsJ X.prog X.w X.K tg J fp it tn∧tn 0 s2.heap∧(∀ b∈fp,Zrv X pins H' b)∧R J H'
def PI (X:Cx) (tg iter:Expr) (wi:TI):Prop :=
 ∀ (pins:List (Addr×Obj)) (s:Shared) (σ:St) (H:Hp) (R:It→Hp→Prop),Inv X pins σ H s→wi σ H R →
  wpAny (model X.prog X.w) X.A (eval iter X.env) (fun v s1=>wpAny (model X.prog X.w) X.A (pyIter v) (PIE X pins σ tg R) X.xe s1) X.xe s
theorem ZvL {M:Model} {A:Around} {E:Value→Shared→Prop} {s:Shared} {tg:Expr} {it:Addr} {u:Value} {o:Obj} {n:String} {vs:Array Value} {Q:Unit→Shared→Prop} (ho:s.heap.get? it=some o) (hc:o.cls=.type n) (hd:o.data=.fields vs)
  (hn:["enumerate","zip","dict_itemiterator","dict_reverseitemiterator","odict_iterator","itertools.zip_longest","itertools.pairwise"].contains n=false) (hQ:Q () s):wpAny M A (letOwnedTupleGo tg (.ref it) u) Q E s:=by
 unfold letOwnedTupleGo
 cases tg <;> first
  | exact wpAny_pure hQ
  | (cases u <;> first
    | exact wpAny_pure hQ
    | (refine wpAny_bind (wpAny_load ho ?_)
       rw [hc,hd]
       show wpAny M A (if (["enumerate","zip","dict_itemiterator","dict_reverseitemiterator","odict_iterator","itertools.zip_longest","itertools.pairwise"].contains n&&vs[0]?==some (rawInt _))=true then _ else _) Q E s
       rw [if_neg (by intro h;rw [hn,Bool.false_and] at h;cases h)]
       exact wpAny_pure hQ))
def Itl (K:PySem.W.Frag) (a:Addr):It :=
 ⟨fun i H=>∃ xs x,SqL K H a xs∧xs[i]?=some x,fun i H x H'=>H'=H∧∀ xs,SqL K H a xs→xs[i]?=some x,fun i H=>∃ xs,SqL K H a xs∧xs.length≤i⟩
def Itt (K:PySem.W.Frag) (a:Addr):It :=
 ⟨fun i H=>∃ xs x,SqT K H a xs∧xs[i]?=some x,fun i H x H'=>H'=H∧∀ xs,SqT K H a xs→xs[i]?=some x,fun i H=>∃ xs,SqT K H a xs∧xs.length≤i⟩
def Itr (lo:Int) (n:Nat):It:=⟨fun i _=>i < n,fun i H x H'=>H'=H∧x=.int (lo+i),fun i _=>n≤i⟩
theorem Zsc {P:Program} {w:World} {K:PySem.W.Frag} {tg:Expr} (a it:Addr):ZsJ P w K tg (Itl K a) [it] it (fun i h=>h.IsListIter it a i) where
 mem:=by simp
 obj:=fun i h st b hb=>by
  have e:b=it:=by simpa using hb
  subst e
  obtain ⟨o,e,c,d⟩:=st
  exact ⟨o,e,fun v z=>by rw [d] at z;cases z⟩
 keep:=fun i h h' st k=>st.at fun o e=>k it (by simp) o e
 item:=by
  walk_at "pb"
  subst hP hw hK
  obtain ⟨xs,x,hq,hx⟩:=hg
  obtain ⟨its,rv,p,hz⟩:=I.list hq
  obtain ⟨u,hu,ru⟩:=rv.get hx
  walk_at "pg"
  refine wpAny_pyNext_list_item st p.isList (x:=u) (by simpa using hu) fun h' st' sb=>?_
  have I1:Inv X pins σ H { s with heap:=h' }:=I.turned (t':=s.toks) (fun b o hb e=>(sb.2 b hb).trans e) f0 f1 f3 f4 f5
  obtain ⟨o,e,c,d⟩:=id st'
  exact ⟨u,rfl,ZvL (s:={ s with heap:=h' }) e c d (by decide) ⟨x,H,I1,ru,⟨rfl,fun ys hy=>by rw [I.list_inj hy hq];exact hx⟩,st',fun b hb=>(hf b hb).1⟩⟩
 done:=by
  walk_at "pb"
  subst hP hw hK
  obtain ⟨xs,hq,hx⟩:=hg
  obtain ⟨its,rv,p,hz⟩:=I.list hq
  walk_at "pg"
  have hl:=rv.length
  exact wpAny_pyNext_list_end (I.ok.hd hc) st p.isList (by simp;omega) fun h' eb=>⟨rfl,I.turned (t':=s.toks) (fun b o hb e=>eb b o hb e) f0 f1 f3 f4 f5⟩
 self:=fun _ _ _ _ _ st h=>wpAny_pyIter_listiter st h
theorem Zpl {P:Program} {w:World} {K:PySem.W.Frag} {tg:Expr} (a it:Addr):ZsJ P w K tg (Itt K a) [it] it (fun i h=>h.IsTupleIter it a i) where
 mem:=by simp
 obj:=fun i h st b hb=>by
  have e:b=it:=by simpa using hb
  subst e
  obtain ⟨o,e,c,d⟩:=st
  exact ⟨o,e,fun v z=>by rw [d] at z;cases z⟩
 keep:=fun i h h' st k=>st.at fun o e=>k it (by simp) o e
 item:=by
  walk_at "pb"
  subst hP hw hK
  obtain ⟨xs,x,hq,hx⟩:=hg
  obtain ⟨its,rv,p,hz⟩:=I.tuple hq
  obtain ⟨u,hu,ru⟩:=rv.get hx
  walk_at "pg"
  refine wpAny_pyNext_tuple_item st (show s.heap.IsTuple a its.toArray from p) (x:=u) (by simpa using hu) fun h' st' sb=>?_
  have I1:Inv X pins σ H { s with heap:=h' }:=I.turned (t':=s.toks) (fun b o hb e=>(sb.2 b hb).trans e) f0 f1 f3 f4 f5
  obtain ⟨o,e,c,d⟩:=id st'
  exact ⟨u,rfl,ZvL (s:={ s with heap:=h' }) e c d (by decide) ⟨x,H,I1,ru,⟨rfl,fun ys hy=>by rw [I.tuple_inj hy hq];exact hx⟩,st',fun b hb=>(hf b hb).1⟩⟩
 done:=by
  walk_at "pb"
  subst hP hw hK
  obtain ⟨xs,hq,hx⟩:=hg
  obtain ⟨its,rv,p,hz⟩:=I.tuple hq
  walk_at "pg"
  have hl:=rv.length
  exact wpAny_pyNext_tuple_end (I.ok.hd hc) st (show s.heap.IsTuple a its.toArray from p) (by simp;omega) fun h' eb=>⟨rfl,I.turned (t':=s.toks) (fun b o hb e=>eb b o hb e) f0 f1 f3 f4 f5⟩
 self:=fun _ _ _ _ _ st h=>wpAny_pyIter_tupleiter st h
theorem Zpt {P:Program} {w:World} {K:PySem.W.Frag} {tg:Expr} (it:Addr) (lo:Int) (n:Nat):ZsJ P w K tg (Itr lo n) [it] it (fun i h=>IsRangeIter h it (lo+(i:Nat)*1) ((n:Int) - (i:Nat)) 1) where
 mem:=by simp
 obj:=fun i h st b hb=>by
  have e:b=it:=by simpa using hb
  subst e
  exact ⟨_,st,fun v z=>by
   have z':Data.fields _=Data.cell v:=z
   cases z'⟩
 keep:=fun i h h' st k=>k it (by simp) _ st
 item:=by
  walk_at "pb"
  subst hP hw hK
  walk_at "pg"
  have W:=Walks.range (prog:=X.prog) (w:=X.w) (I.ok.hd hc) it lo 1 n
  refine W.item i s _ _ hg st fun v h' tk hv st' kk=>?_
  obtain ⟨t,rfl⟩:=hv
  walk_at "pj"
  refine ⟨_,rfl,ZvL (s:={ s with heap:=h',toks:=tk }) (n:="range_iterator") st' rfl rfl (by decide) ⟨.int (lo+i),H,I1,⟨t,?_⟩,⟨rfl,rfl⟩,st',fun b hb=>(hf b hb).1⟩⟩
  rw [Int.mul_one]
 done:=by
  walk_at "pb"
  subst hP hw hK
  walk_at "pg"
  exact wpAny_pyNext_range_end (I.ok.hd hc) st (by have:n≤i:=hg;omega) fun h' eb=>⟨rfl,I.turned (t':=s.toks) (fun b o hb e=>eb b o hb e) f0 f1 f3 f4 f5⟩
 self:=fun _ _ _ _ _ st h=>wpAny_pyIter_rangeiter st h
section
variable {X:Cx} {tg:Expr}
theorem Zua {pins:List (Addr×Obj)} {σ:St} {H:Hp} {s:Shared} {R:It→Hp→Prop} {E:Value→Shared→Prop} {lo hi:Int} {t u v:Tok} {tk:Nat} (I:Inv X pins σ H s) (h1:-(2 ^ 62)≤lo) (h2:lo < 2 ^ 62) (h3:-(2 ^ 62)≤hi) (h4:hi < 2 ^ 62)
  (q:R (Itr lo (hi - lo).toNat) H):wpAny (model X.prog X.w) X.A (pyIter (.ref s.heap.objs.size)) (PIE X pins σ tg R) E { s with heap:=s.heap.push { cls:=.type "range",data:=.fields #[.int lo t,.int hi u,.int 1 v] },toks:=tk }:=by
 refine wpAny_pyIter_range (IsRange.new ..) (small_one h1 h2 h3 h4) ?_
 have I1:Inv X pins σ H { s with heap:=s.heap.push { cls:=.type "range",data:=.fields #[.int lo t,.int hi u,.int 1 v] },toks:=tk }:=I.kept fun b o e=>Heap.get?_push_of_some _ e
 refine ⟨(s.heap.push { cls:=.type "range",data:=.fields #[.int lo t,.int hi u,.int 1 v] }).objs.size,[(s.heap.push { cls:=.type "range",data:=.fields #[.int lo t,.int hi u,.int 1 v] }).objs.size],_,_,H,rfl,
  I1.kept (t':=tk) fun b o e=>Heap.get?_push_of_some _ e,Zpt _ lo (hi - lo).toNat,?_,fun b hb=>?_,q⟩
 ·have e1:lo+((0:Nat):Int)*1=lo:=by simp
  have e2:(((hi - lo).toNat:Nat):Int) - ((0:Nat):Int)=Builtin.Range.rangeSize lo hi 1:=by rw [rangeSize_one];split <;> omega
  show IsRangeIter _ _ (lo+((0:Nat):Int)*1) ((((hi - lo).toNat:Nat):Int) - ((0:Nat):Int)) 1
  rw [e1,e2]
  exact Heap.get?_push_size _ rfl
 ·have e:b=(s.heap.push { cls:=.type "range",data:=.fields #[.int lo t,.int hi u,.int 1 v] }).objs.size:=by simpa using hb
  subst e
  exact I1.fpOk (Nat.le_refl _) (I1.hok.fresh (Nat.le_refl _))
def ZAT (ta:TA):TI:=fun σ H R=>ta σ H fun vs H1=>∃ j:Int,vs=[.int j]∧-(2 ^ 62)≤j∧j < 2 ^ 62∧R (Itr 0 j.toNat) H1
theorem ZqB {a:Expr} {ta:TA} {p pos:Pos} (hg:Gl X "range") (hm:X.mg "range"=none) (ha:PA X [a] ta) (hs:starEach [a] X.env=[(false,eval a X.env)]:=by rfl):PI X tg (.Call (.Name "range" p) [a] [] pos) (ZAT ta):=by
 intro pins s σ H R I h
 refine Call_ (ZeW I hg hm boot_range (PyProof.Rows.callWith_type1 (thn (ha pos pins s σ H _ I h) fun us s1 zz31=>?_) hs rfl))
 obtain ⟨vs,H1,I1,r1,q1⟩:=zz31
 obtain ⟨j,e,q1,q2,q⟩:=q1
 subst e
 cases r1 with
 | cons r rr =>
  cases rr
  obtain ⟨t,rfl⟩:=r
  exact call_range_1 (Zua I1 (by omega) (by omega) q1 q2 (by simpa using q))
def ZB7 (wi:TI) (g:TG) (tb:TS):TS:=fun D σ H=>wi σ H fun J H1=>∃ W:Nat→Nat→St→Hp→Prop,(∃ m,W 0 m σ H1)∧∀ i m σ H,W i m σ H →
 (J.stop i H∧D.nx σ H)∨(J.go i H∧∃ N:St→Hp→Prop,(∀ σ' H',N σ' H'→∃ m',m' < m∧W (i+1) m' σ' H')∧∀ x H',J.yld i H x H'→g x σ H' fun σ2 H2=>tb { D with nx:=N,ct:=N,bk:=D.nx } σ2 H2)
def ZkE (fp:List Addr) (h:Heap):List (Addr×Obj):=fp.filterMap fun b=>(h.get? b).map fun o=>(b,o)
theorem Zey {fp:List Addr} {h:Heap} {b:Addr} {o:Obj} (hb:b∈fp) (e:h.get? b=some o):(b,o)∈ZkE fp h:=List.mem_filterMap.mpr ⟨b,hb,by rw [e];rfl⟩
theorem Zrm {fp:List Addr} {h:Heap} {p:Addr×Obj} (hp:p∈ZkE fp h):p.1∈fp∧h.get? p.1=some p.2:=by
 obtain ⟨b,hb,e⟩:=List.mem_filterMap.mp hp
 cases q:h.get? b with
 | none=>rw [q] at e;cases e
 | some o =>
  rw [q] at e
  have e':(b,o)=p:=Option.some.inj e
  subst e'
  exact ⟨hb,q⟩
theorem Inv.pinned {pins:List (Addr×Obj)} {σ:St} {H:Hp} {s:Shared} {fp:List Addr} (I:Inv X pins σ H s) (hf:∀ b∈fp,Zrv X pins H b) (ho:∀ b∈fp,∃ o,s.heap.get? b=some o∧∀ v,o.data≠.cell v):Inv X (pins++ZkE fp s.heap) σ H s :=
 I.pins_of fun p hp=>(List.mem_append.mp hp).elim (fun z=>I.pin p (List.mem_append_right _ z)) fun z=>by
  obtain ⟨hb,e⟩:=Zrm z
  obtain ⟨f0,f1,f2,_⟩:=hf p.1 hb
  obtain ⟨o,e',d⟩:=ho p.1 hb
  rw [e] at e';cases e'
  exact ⟨e,f0,f1,f2,d⟩
theorem Inv.unpinned {pins pl:List (Addr×Obj)} {σ:St} {H:Hp} {s:Shared} (I:Inv X (pins++pl) σ H s):Inv X pins σ H s:=I.pins_of fun p hp=>I.pin p (List.mem_append_right _ (List.mem_append_left _ hp))
theorem Zx1 {iter:Expr} {body:List Stmt} {wi:TI} {g:TG} {tb:TS} {pos:Pos} (hp:PassesOwn (model X.prog X.w) X.A X.env X.xe) (hc:X.calm=true) (hi:PI X tg iter wi) (hg:PG X tg g) (hb:PSs X body tb)
  (hs:∀ x,foldedSetIterable iter X.env x=pure x:=by intro _;rfl):PS X (.For tg iter body [] pos) (ZB7 wi g tb):=by
 intro pins s σ H D I h
 refine wpAny_For (thn (hi pins s σ H _ I h) fun v s1 h1=>thn h1 fun itv s2 h2=>?_) hs
 obtain ⟨it,fp,tn,J,H2,e,I2,T,st2,f2,W,⟨m0,w0⟩,turn⟩:=h2
 subst e
 have stat:∀ {H':Hp},(∀ b∈fp,H' b=none)→∀ b∈fp,Zrv X pins H' b:=fun hn b hb=>⟨hn b hb,(f2 b hb).2⟩
 refine codeAny_forLoop_any (fun n s'=>∃ i σ' H',Inv X pins σ' H' s'∧tn i s'.heap∧(∀ b∈fp,H' b=none)∧W i n σ' H') ?_ m0 ⟨0,σ,H2,I2,st2,fun b hb=>(f2 b hb).1,w0⟩
 rintro n s3 ⟨i,σ3,H3,I3,st3,fr3,w3⟩
 rcases turn i n σ3 H3 w3 with ⟨stop,qn⟩ | ⟨go,N,hN,step⟩
 ·refine wpAny_passesOwn hp (thn (T.done X rfl rfl rfl hc i pins s3 σ3 H3 X.xe I3 (stat fr3) st3 stop) fun r s4 zz33=>?_)
  obtain ⟨hr,I4⟩:=zz33
  subst hr
  exact wpAny_execs_nil ⟨σ3,H3,I4,qn⟩
 ·refine wpAny_passesOwn hp (thn (T.item X rfl rfl rfl hc i pins s3 σ3 H3 X.xe I3 (stat fr3) st3 go) fun r s4 zz34=>?_)
  obtain ⟨u,hr,h4⟩:=zz34
  subst hr
  refine wpAny_passesOwn hp (thn h4 fun _ s5 zz35=>?_)
  obtain ⟨x,H5,I5,r5,y5,st5,fr5⟩:=zz35
  have I5':=I5.pinned (stat fr5) (T.obj _ _ st5)
  refine wpAny_passesOwn hp (thn (hg _ s5 σ3 H5 x u _ I5' r5 (step x H5 y5)) fun _ s6 zz36=>?_)
  obtain ⟨σ6,H6,I6,q6⟩:=zz36
  refine wpAny_passesOwn hp (thn (hb _ s6 σ6 H6 _ I6 q6) fun f s7 q7=>?_)
  have again:∀ {σ7:St} {H7:Hp},Inv X (pins++ZkE fp s5.heap) σ7 H7 s7→N σ7 H7→∃ m,m < n∧∃ i σ' H',Inv X pins σ' H' s7∧tn i s7.heap∧(∀ b∈fp,H' b=none)∧W i m σ' H':=fun {σ7 H7} I7 n7=>by
   obtain ⟨m',hm,w7⟩:=hN σ7 H7 n7
   refine ⟨m',hm,i+1,σ7,H7,I7.unpinned,T.keep _ _ _ st5 fun b hb o e=>(I7.pin (b,o) (List.mem_append_right _ (List.mem_append_right _ (Zey hb e)))).1,fun b hb=>?_,w7⟩
   obtain ⟨o,e,d⟩:=T.obj _ _ st5 b hb
   exact (I7.pin (b,o) (List.mem_append_right _ (List.mem_append_right _ (Zey hb e)))).2.1
  cases f with
  | next=>obtain ⟨σ7,H7,I7,n7⟩:=q7;exact again I7 n7
  | cont=>obtain ⟨σ7,H7,I7,n7⟩:=q7;exact again I7 n7
  | brk=>obtain ⟨σ7,H7,I7,q7⟩:=q7;exact ⟨σ7,H7,I7.unpinned,q7⟩
  | ret v=>obtain ⟨x7,σ7,H7,I7,r7,q7⟩:=q7;exact ⟨x7,σ7,H7,I7.unpinned,r7,q7⟩
end
abbrev R2:=V→V→Hp→VK→Prop
def OpR (X:Cx) (f:Value→Value→Sem Value) (r:R2):Prop :=
 ∀ (pins:List (Addr×Obj)) (s:Shared) (σ:St) (H:Hp) (x y:V) (v u:Value) (Q:VK),Inv X pins σ H s→RelV x v→RelV y u→r x y H Q →
  wpAny (model X.prog X.w) X.A (f v u) (EP X pins σ Q) X.xe s
def CallR (X:Cx) (f:Value) (r:List V→Hp→VK→Prop):Prop :=
 ∀ (pins:List (Addr×Obj)) (s:Shared) (σ:St) (H:Hp) (xs:List V) (us:List Value) (Q:VK),Inv X pins σ H s→Vals xs us→r xs H Q →
  wpAny (model X.prog X.w) X.A (call f us) (EP X pins σ Q) X.xe s
def ZBT (X:Cx) (r:V→Hp→(Bool→Hp→Prop)→Prop):Prop :=
 ∀ (pins:List (Addr×Obj)) (s:Shared) (σ:St) (H:Hp) (x:V) (v:Value) (Q:Bool→Hp→Prop),Inv X pins σ H s→RelV x v→r x H Q →
  wpAny (model X.prog X.w) X.A (truthy v) (TP X pins σ Q) X.xe s
def tOp (r:R2) (ta tb:TE):TE:=fun σ H Q=>ta σ H fun x H1=>tb σ H1 fun y H2=>r x y H2 Q
def rI (C:Int→Int→Prop) (g:Int→Int→V):R2:=fun x y H Q=>∃ i j,x=.int i∧y=.int j∧C i j∧Q (g i j) H
def rI0 (g:Int→Int→V):R2:=fun x y H Q=>∃ i j,x=.int i∧y=.int j∧Q (g i j) H
section
variable {X:Cx} {a b c:Expr} {ta tb tc:TE} {pos:Pos}
theorem Zz2 (ha:PE X a ta) (hb:PE X b tb) {pins:List (Addr×Obj)} {s:Shared} {σ:St} {H:Hp} {R:V→V→Hp→Prop} (I:Inv X pins σ H s)
  (h:ta σ H fun x H1=>tb σ H1 fun y H2=>R x y H2) {Q:Value→Shared→Prop} {f:Value→Value→Sem Value}
  (hf:∀ v u s2 x y H2,Inv X pins σ H2 s2→RelV x v→RelV y u→R x y H2→wpAny (model X.prog X.w) X.A (f v u) Q X.xe s2) :
  wpAny (model X.prog X.w) X.A (eval a X.env) (fun v s₁=>wpAny (model X.prog X.w) X.A (eval b X.env) (fun u s₂=>wpAny (model X.prog X.w) X.A (f v u) Q X.xe s₂) X.xe s₁) X.xe s:=by
 refine thn (ha pins s σ H _ I h) fun v s1 zz37=>?_
 obtain ⟨x,H1,I1,r1,q1⟩:=zz37
 refine thn (hb pins s1 σ H1 _ I1 q1) fun u s2 zz38=>?_
 obtain ⟨y,H2,I2,r2,q2⟩:=zz38
 exact hf v u s2 x y H2 I2 r1 r2 q2
theorem ZAq {op:Operator} {r:R2} (ho:OpR X (binaryOp op) r) (ha:PE X a ta) (hb:PE X b tb):PE X (.BinOp a op b pos) (tOp r ta tb):=by
 intro pins s σ H Q I h
 exact wpAny_BinOp (Zz2 ha hb I h fun v u s2 x y H2 I2 rx ry q=>ho pins s2 σ H2 x y v u Q I2 rx ry q)
theorem opI {f:Value→Value→Sem Value} {C:Int→Int→Prop} {g:Int→Int→Int}
  (rule:∀ (i j:Int) (t u:Tok) (s:Shared) (Q:Value→Shared→Prop) (E:Value→Shared→Prop),C i j→Q (.int (g i j) s.toks) { s with toks:=s.toks+1 }→wpAny (model X.prog X.w) X.A (f (.int i t) (.int j u)) Q E s) :
  OpR X f (rI C fun i j=>.int (g i j)):=by
 walk_at "pd"
 obtain ⟨i,j,rfl,rfl,hc,q⟩:=h
 obtain ⟨t,rfl⟩:=rx
 obtain ⟨t',rfl⟩:=ry
 exact rule i j t t' s _ _ hc ⟨.int (g i j),H,I.tok _,⟨_,rfl⟩,q⟩
theorem ZBk {f:Value→Value→Sem Value} {g:Int→Int→Int}
  (rule:∀ (i j:Int) (t u:Tok) (s:Shared) (Q:Value→Shared→Prop) (E:Value→Shared→Prop),Q (.int (g i j) s.toks) { s with toks:=s.toks+1 }→wpAny (model X.prog X.w) X.A (f (.int i t) (.int j u)) Q E s) :
  OpR X f (rI0 fun i j=>.int (g i j)):=by
 walk_at "pd"
 obtain ⟨i,j,rfl,rfl,q⟩:=h
 obtain ⟨t,rfl⟩:=rx
 obtain ⟨t',rfl⟩:=ry
 exact rule i j t t' s _ _ ⟨.int (g i j),H,I.tok _,⟨_,rfl⟩,q⟩
theorem Zz0 {f:Value→Value→Sem Value} {g:Int→Int→Bool}
  (rule:∀ (i j:Int) (t u:Tok) (s:Shared) (Q:Value→Shared→Prop) (E:Value→Shared→Prop),Q (.bool (g i j)) s→wpAny (model X.prog X.w) X.A (f (.int i t) (.int j u)) Q E s) :
  OpR X f (rI0 fun i j=>.bl (g i j)):=by
 walk_at "pd"
 obtain ⟨i,j,rfl,rfl,q⟩:=h
 obtain ⟨t,rfl⟩:=rx
 obtain ⟨t',rfl⟩:=ry
 exact rule i j t t' s _ _ ⟨.bl (g i j),H,I,rfl,q⟩
def Zxd (i j:Int):Prop:=0 < j∧j < 1073741824
def Zvw (i j:Int):Prop:=0≤j∧j≤1000000∧i.natAbs < 2 ^ 64
def CMul (i j:Int):Prop:=(-(2 ^ 64) < i∧i < 2 ^ 64)∨(-(2 ^ 64) < j∧j < 2 ^ 64)
theorem CMul.ok {i j:Int} (h:CMul i j):IntMulOk i j:=by
 rcases h with ⟨h1,h2⟩ | ⟨h1,h2⟩
 ·exact .of_left (intBits_le_64 h1 h2)
 ·exact .of_right (intBits_le_64 h1 h2)
theorem Zyl:OpR X (binaryOp .Add) (rI0 fun i j=>.int (i+j)):=ZBk fun _ _ _ _ _ _ _ q=>add_int q
theorem Zzn:OpR X (binaryOp .Mult) (rI CMul fun i j=>.int (i*j)):=opI fun _ _ _ _ _ _ _ hc q=>mul_int q hc.ok
theorem ZwZ:OpR X (binaryOp .FloorDiv) (rI Zxd fun i j=>.int (i / j)):=opI fun i j _ _ _ _ _ hc q=>by
 have h1:(0:Int) < j:=hc.1
 have h2:j < 1073741824:=hc.2
 exact floordiv_int (by omega) (by rw [Int.fdiv_eq_ediv_of_nonneg i (by omega)];exact q) (.inl (PyProof.noPylong_small (by omega)))
theorem Zzb:OpR X (binaryOp .Mod) (rI (fun _ j=>0 < j) fun i j=>.int (i % j)):=opI fun i j _ _ _ _ _ hc q=>by
 have h1:(0:Int) < j:=hc
 exact mod_int' (by omega) (by rw [Int.fmod_eq_emod_of_nonneg i (by omega)];exact q)
theorem ZxJ:OpR X (binaryOp .Pow) (rI Zvw fun i j=>.int (i ^ j.toNat)):=opI fun _ _ _ _ _ _ _ hc q=>pow_int_small hc.1 hc.2.1 hc.2.2 q
theorem Zwx:OpR X (inplaceOp .Add) (rI0 fun i j=>.int (i+j)):=ZBk fun _ _ _ _ _ _ _ q=>iadd_int q
end
def ZvS:V→V→Bool
 | .non,.non=>true | .non,.int _=>true | .int _,.non=>true | .non,.bl _=>true | .bl _,.non=>true | .non,.str _=>true | .str _,.non=>true
 | .int _,.int _=>true | .bl _,.bl _=>true | .str _,.str _=>true | .byt _,.byt _=>true
 | .int _,.str _=>true | .str _,.int _=>true | .bl _,.str _=>true | .str _,.bl _=>true
 | _,_=>false
def rEq:R2:=fun x y H Q=>ZvS x y=true∧Q (.bl (decide (x=y))) H
def rNe:R2:=fun x y H Q=>ZvS x y=true∧Q (.bl (!decide (x=y))) H
theorem ZnU {i j:Int}:decide (V.int i=V.int j)=(i==j):=by
 rw [Bool.eq_iff_iff]
 simp
theorem Zsa {i j:Bool}:decide (V.bl i=V.bl j)=(i==j):=by
 rw [Bool.eq_iff_iff]
 simp
theorem Zoa {i j:Str}:decide (V.str i=V.str j)=(i==j):=by
 rw [Bool.eq_iff_iff]
 simp
theorem ZrG {i j:Array UInt8}:decide (V.byt i=V.byt j)=(i.toList==j.toList):=by
 rw [Bool.eq_iff_iff]
 cases i
 cases j
 simp
section
variable {X:Cx} {a b c:Expr} {ta tb tc:TE} {pos:Pos}
theorem Zbd {pins:List (Addr×Obj)} {σ:St} {H:Hp} {s:Shared} {Q:VK} {k k':Bool} (I:Inv X pins σ H s) (q:Q (.bl k) H) (e:k=k'):EP X pins σ Q (.bool k') s:=by
 subst e
 exact ⟨.bl k,H,I,rfl,q⟩
theorem Zz9:OpR X (compareOp .Eq) rEq:=by
 walk_at "pd"
 obtain ⟨hs,q⟩:=h
 cases x with
 | non =>
  cases rx
  cases y with
  | non=>cases ry;exact PySem.EqNone.eq_none_none (Zbd I q (by simp))
  | bl j=>cases ry;exact PySem.EqNone.eq_none_bool (Zbd I q (by simp))
  | int j=>obtain ⟨t',rfl⟩:=ry;exact PySem.EqNone.eq_none_int (Zbd I q (by simp))
  | str j=>obtain ⟨t',rfl⟩:=ry;exact PySem.EqNone.eq_none_str (Zbd I q (by simp))
  | _=>exact absurd (show false=true from hs) Bool.false_ne_true
 | bl i =>
  cases rx
  cases y with
  | non=>cases ry;exact PySem.EqNone.eq_bool_none (Zbd I q (by simp))
  | bl j=>cases ry;exact eq_bool (Zbd I q Zsa)
  | str j=>obtain ⟨t',rfl⟩:=ry;exact PySem.EqMixed.eq_bool_str (Zbd I q (by simp))
  | _=>exact absurd (show false=true from hs) Bool.false_ne_true
 | int i =>
  obtain ⟨t,rfl⟩:=rx
  cases y with
  | non=>cases ry;exact PySem.EqNone.eq_int_none (Zbd I q (by simp))
  | int j=>obtain ⟨t',rfl⟩:=ry;exact eq_int (Zbd I q ZnU)
  | str j=>obtain ⟨t',rfl⟩:=ry;exact PySem.EqMixed.eq_int_str (Zbd I q (by simp))
  | _=>exact absurd (show false=true from hs) Bool.false_ne_true
 | str i =>
  obtain ⟨t,rfl⟩:=rx
  cases y with
  | non=>cases ry;exact PySem.EqNone.eq_str_none (Zbd I q (by simp))
  | bl j=>cases ry;exact PySem.EqMixed.eq_str_bool (Zbd I q (by simp))
  | int j=>obtain ⟨t',rfl⟩:=ry;exact PySem.EqMixed.eq_str_int (Zbd I q (by simp))
  | str j=>obtain ⟨t',rfl⟩:=ry;exact eq_str (Zbd I q Zoa)
  | _=>exact absurd (show false=true from hs) Bool.false_ne_true
 | byt i =>
  obtain ⟨t,rfl⟩:=rx
  cases y with
  | byt j=>obtain ⟨t',rfl⟩:=ry;exact PySem.W.eq_bytes (Zbd I q ZrG)
  | _=>exact absurd (show false=true from hs) Bool.false_ne_true
 | _=>cases y <;> exact absurd (show false=true from hs) Bool.false_ne_true
theorem ZAx:OpR X (compareOp .NotEq) rNe:=by
 walk_at "pd"
 obtain ⟨hs,q⟩:=h
 cases x with
 | non =>
  cases rx
  cases y with
  | non=>cases ry;exact PySem.EqNone.ne_none_none (Zbd I q (by simp))
  | bl j=>cases ry;exact PySem.EqNone.ne_none_bool (Zbd I q (by simp))
  | int j=>obtain ⟨t',rfl⟩:=ry;exact PySem.EqNone.ne_none_int (Zbd I q (by simp))
  | str j=>obtain ⟨t',rfl⟩:=ry;exact PySem.EqNone.ne_none_str (Zbd I q (by simp))
  | _=>exact absurd (show false=true from hs) Bool.false_ne_true
 | bl i =>
  cases rx
  cases y with
  | non=>cases ry;exact PySem.EqNone.ne_bool_none (Zbd I q (by simp))
  | bl j=>cases ry;exact ne_bool (Zbd I q (congrArg not Zsa))
  | str j=>obtain ⟨t',rfl⟩:=ry;exact PySem.EqMixed.ne_bool_str (Zbd I q (by simp))
  | _=>exact absurd (show false=true from hs) Bool.false_ne_true
 | int i =>
  obtain ⟨t,rfl⟩:=rx
  cases y with
  | non=>cases ry;exact PySem.EqNone.ne_int_none (Zbd I q (by simp))
  | int j=>obtain ⟨t',rfl⟩:=ry;exact ne_int (Zbd I q (congrArg not ZnU))
  | str j=>obtain ⟨t',rfl⟩:=ry;exact PySem.EqMixed.ne_int_str (Zbd I q (by simp))
  | _=>exact absurd (show false=true from hs) Bool.false_ne_true
 | str i =>
  obtain ⟨t,rfl⟩:=rx
  cases y with
  | non=>cases ry;exact PySem.EqNone.ne_str_none (Zbd I q (by simp))
  | bl j=>cases ry;exact PySem.EqMixed.ne_str_bool (Zbd I q (by simp))
  | int j=>obtain ⟨t',rfl⟩:=ry;exact PySem.EqMixed.ne_str_int (Zbd I q (by simp))
  | str j=>obtain ⟨t',rfl⟩:=ry;exact ne_str (Zbd I q (congrArg not Zoa))
  | _=>exact absurd (show false=true from hs) Bool.false_ne_true
 | byt i =>
  obtain ⟨t,rfl⟩:=rx
  cases y with
  | byt j=>obtain ⟨t',rfl⟩:=ry;exact PySem.W.ne_bytes (Zbd I q (congrArg not ZrG))
  | _=>exact absurd (show false=true from hs) Bool.false_ne_true
 | _=>cases y <;> exact absurd (show false=true from hs) Bool.false_ne_true
theorem ZAU:OpR X (compareOp .Lt) (rI0 fun i j=>.bl (decide (i < j))):=Zz0 fun _ _ _ _ _ _ _ q=>lt_int q
theorem ZAz:OpR X (compareOp .LtE) (rI0 fun i j=>.bl (decide (i≤j))):=Zz0 fun _ _ _ _ _ _ _ q=>le_int q
theorem ZAM:OpR X (compareOp .Gt) (rI0 fun i j=>.bl (decide (j < i))):=Zz0 fun _ _ _ _ _ _ _ q=>gt_int q
theorem ZAo:OpR X (compareOp .GtE) (rI0 fun i j=>.bl (decide (j≤i))):=Zz0 fun _ _ _ _ _ _ _ q=>ge_int q
theorem Zqe:OpR X (compareOp .Lt) (fun x y H Q=>∃ i j,x=.str i∧y=.str j∧Q (.bl (decide (i.cps.toList < j.cps.toList))) H):=by
 walk_at "pd"
 obtain ⟨i,j,rfl,rfl,q⟩:=h
 obtain ⟨t,rfl⟩:=rx
 obtain ⟨t',rfl⟩:=ry
 exact lt_str (Zbd I q rfl)
theorem Zwq:OpR X (compareOp .IsNot) (fun x y H Q=>y=.non∧Q (.bl (!decide (x=.non))) H):=by
 walk_at "pd"
 obtain ⟨rfl,q⟩:=h
 cases ry
 refine isnot_none_gen (Zbd I q ?_)
 cases x <;> first
  | (cases rx;rfl)
  | (obtain ⟨t,rfl⟩:=rx;rfl)
theorem OpR.or {f:Value→Value→Sem Value} {r r':R2} (h:OpR X f r) (h':OpR X f r'):OpR X f (fun x y H Q=>r x y H Q∨r' x y H Q):=by
 intro pins s σ H x y v u Q I rx ry q
 rcases q with q | q
 ·exact h pins s σ H x y v u Q I rx ry q
 ·exact h' pins s σ H x y v u Q I rx ry q
theorem ZBA (b:Expr) {op:CmpOp} (h:op≠.In:=by decide) (h2:op≠.NotIn:=by decide):behindInMarks op b=false:=by
 have e1:(op==CmpOp.In)=false:=by cases op <;> first | rfl | exact absurd rfl h
 have e2:(op==CmpOp.NotIn)=false:=by cases op <;> first | rfl | exact absurd rfl h2
 cases b <;> simp [behindInMarks,e1,e2]
theorem ZvB {op:CmpOp} {r:R2} (ho:OpR X (compareOp op) r) (ha:PE X a ta) (hb:PE X b tb) (hm:behindInMarks op b=false):PE X (.Compare a [op] [b] pos) (tOp r ta tb):=by
 intro pins s σ H Q I h
 exact wpAny_Compare1 (Zz2 ha hb I h fun v u s2 x y H2 I2 rx ry q=>ho pins s2 σ H2 x y v u Q I2 rx ry q) hm
def ZyT (t:TE):TT:=fun σ H Q=>t σ H fun x H'=>∃ k,x=.bl k∧Q k H'
theorem ZvY {op:CmpOp} {r:R2} (ho:OpR X (compareOp op) r) (ha:PE X a ta) (hb:PE X b tb) (hm:behindInMarks op b=false):PT X (.Compare a [op] [b] pos) (ZyT (tOp r ta tb)):=by
 intro pins s σ H Q I h
 refine wpAny_isTrue_Compare1 (thn (ha pins s σ H _ I h) fun v s1 ⟨x,H1,I1,r1,q1⟩=>thn (hb pins s1 σ H1 _ I1 q1) fun u s2 ⟨y,H2,I2,r2,q2⟩ =>
  thn (ho pins s2 σ H2 x y v u _ I2 r1 r2 q2) fun c s3 ⟨z,H3,I3,r3,k,e,q3⟩=>?_) hm
 subst e
 cases r3
 exact wpAny_truthy_bool ⟨H3,I3,q3⟩
def ZrK (r r':R2) (ta tb tc:TE):TE:=fun σ H Q=>ta σ H fun x H1=>tb σ H1 fun y H2=>r x y H2 fun z H3=>∃ k,z=.bl k ∧
 (if k=true then tc σ H3 fun w' H4=>r' y w' H4 Q else Q (.bl false) H3)
theorem Zuh {op op':CmpOp} {r r':R2} (ho:OpR X (compareOp op) r) (ho':OpR X (compareOp op') r') (ha:PE X a ta) (hb:PE X b tb) (hc:PE X c tc)
  (hm:lastMarks [op,op'] [b,c]=false:=by with_unfolding_all rfl):PE X (.Compare a [op,op'] [b,c] pos) (ZrK r r' ta tb tc):=by
 intro pins s σ H Q I h
 refine Compare_chain (thn (ha pins s σ H _ I h) fun v s1 ⟨x,H1,I1,r1,q1⟩=>chain_link (thn (hb pins s1 σ H1 _ I1 q1) fun u s2 ⟨y,H2,I2,r2,q2⟩ =>
  thn (ho pins s2 σ H2 x y v u _ I2 r1 r2 q2) fun d s3 ⟨z,H3,I3,r3,k,e,q3⟩=>?_)) hm
 subst e
 cases r3
 refine wpAny_truthy_bool ?_
 cases k with
 | false=>exact ite_ff ⟨.bl false,H3,I3,rfl,q3⟩
 | true=>exact ite_tt (chain_last (thn (hc pins s3 σ H3 _ I3 q3) (by rintro w' s4 ⟨z',H4,I4,r4,q4⟩;exact ho' pins s4 σ H4 y z' u w' Q I4 r2 r4 q4)))
theorem Zt9 {op op':CmpOp} {r r':R2} (ho:OpR X (compareOp op) r) (ho':OpR X (compareOp op') r') (ha:PE X a ta) (hb:PE X b tb) (hc:PE X c tc)
  (hm:lastMarks [op,op'] [b,c]=false:=by with_unfolding_all rfl):PT X (.Compare a [op,op'] [b,c] pos) (ZyT (ZrK r r' ta tb tc)):=by
 intro pins s σ H Q I h
 refine isTrue_chain (thn (ha pins s σ H _ I h) fun v s1 ⟨x,H1,I1,r1,q1⟩=>test_link (thn (hb pins s1 σ H1 _ I1 q1) fun u s2 ⟨y,H2,I2,r2,q2⟩ =>
  thn (ho pins s2 σ H2 x y v u _ I2 r1 r2 q2) fun d s3 ⟨z,H3,I3,r3,k,e,q3⟩=>?_)) hm
 subst e
 cases r3
 refine wpAny_truthy_bool ?_
 cases k with
 | false =>
  obtain ⟨k',e',q'⟩:=q3
  cases e'
  exact ite_ff ⟨H3,I3,q'⟩
 | true =>
  refine ite_tt (test_last (thn (hc pins s3 σ H3 _ I3 q3) fun w' s4 ⟨z',H4,I4,r4,q4⟩=>thn (ho' pins s4 σ H4 y z' u w' _ I4 r2 r4 q4) fun d' s5 ⟨z2,H5,I5,r5,k2,e2,q5⟩=>?_))
  subst e2
  cases r5
  exact wpAny_truthy_bool ⟨H5,I5,q5⟩
def ZAS (K:PySem.W.Frag) (x:V) (H:Hp) (k:Bool):Prop :=
 match x with
 | .non=>k=false
 | .bl b=>k=b
 | .int i=>k=(i != 0)
 | .str y=>y.length≤sizeLine∧k=((y.length:Int) != 0)
 | .byt y=>y.size≤sizeLine∧k=((y.size:Int) != 0)
 | .ref p=>(∃ xs,SqL K H p xs∧k=!xs.isEmpty)∨(∃ xs,SqT K H p xs∧k=!xs.isEmpty)∨∃ kvs,H p=some (.dK kvs)∧k=!kvs.isEmpty
 | _=>False
theorem Zp8 {κ:Type} {kvs:List (κ×V)} {vs:List (κ×Value)} (r:KV kvs vs):(!vs.isEmpty)=!kvs.isEmpty:=by
 cases r <;> rfl
theorem Zkm {xs:List V} {its:List Value} (r:Vals xs its):(!its.toArray.isEmpty)=!xs.isEmpty:=by
 cases r <;> simp
theorem Zks:(sizeLine:Nat) < 2 ^ 63:=by rw [sizeLine_eq];decide
theorem ZxT:ZBT X (fun x H Q=>∃ k,ZAS X.K x H k∧Q k H):=by
 intro pins s σ H x v Q I rx h
 obtain ⟨k,e,q⟩:=h
 have hl:=Zks
 have hs:sizeLine=16777216:=sizeLine_eq
 cases x with
 | non =>
  cases rx
  have e':k=false:=e
  subst e'
  exact truthy_none ⟨H,I,q⟩
 | bl b =>
  cases rx
  have e':k=b:=e
  subst e'
  exact wpAny_truthy_bool ⟨H,I,q⟩
 | int i =>
  obtain ⟨t,rfl⟩:=rx
  have e':k=(i != 0):=e
  subst e'
  exact PySem.P.truthy_int ⟨H,I,q⟩
 | str y =>
  obtain ⟨t,rfl⟩:=rx
  obtain ⟨hy,e'⟩:y.length≤sizeLine∧k=((y.length:Int) != 0):=e
  subst e'
  exact PySem.P.truthy_str (by omega) ⟨H,I.tok _,q⟩
 | byt y =>
  obtain ⟨t,rfl⟩:=rx
  obtain ⟨hy,e'⟩:y.size≤sizeLine∧k=((y.size:Int) != 0):=e
  subst e'
  exact PySem.W.truthy_bytes (by omega) ⟨H,I.tok _,q⟩
 | ref p =>
  cases rx
  have e':(∃ xs,SqL X.K H p xs∧k=!xs.isEmpty)∨(∃ xs,SqT X.K H p xs∧k=!xs.isEmpty)∨∃ kvs,H p=some (.dK kvs)∧k=!kvs.isEmpty:=e
  rcases e' with ⟨xs,hx,e'⟩ | ⟨xs,hx,e'⟩ | ⟨kvs,hx,e'⟩
  ·subst e'
   obtain ⟨its,r,pl,hz⟩:=I.list hx
   have hlen:=r.length
   exact wpAny_truthy_list pl.isList (by simp only [List.size_toArray];omega) ⟨H,I.tok _,by rw [Zkm r];exact q⟩
  ·subst e'
   obtain ⟨its,r,pl,hz⟩:=I.tuple hx
   have hlen:=r.length
   exact truthy_tuple pl (by simp only [List.size_toArray];omega) ⟨H,I.tok _,by rw [Zkm r];exact q⟩
  ·subst e'
   obtain ⟨hz,hS,vs,r,m⟩:kvs.length≤sizeLine∧(p==sysModules)=false∧∃ vs,KV kvs vs∧s.heap.DictOf (ZnK X.prog X.w) p vs:=I.hok p _ hx
   have hlen:kvs.length=vs.length:=Paired.length r
   exact wpAny_truthy_dict hS m (by omega) ⟨H,I.tok _,by rw [Zp8 r];exact q⟩
 | _=>exact (show False from e).elim
theorem ZtQ (ha:PE X a ta) (he:∀ whole,isTrue a X.env whole=(do let v ← whole;standAt a.pos;holding [v] (truthy v))) :
  PT X a (fun σ H Q=>ta σ H fun x H'=>∃ k,ZAS X.K x H' k∧Q k H'):=by
 intro pins s σ H Q I h
 exact isTrue_plain (thn (ha pins s σ H _ I h) (by rintro v s1 ⟨x,H1,I1,r1,q1⟩;exact ZxT pins s1 σ H1 x v Q I1 r1 q1)) (he _)
theorem ZpL:OpR X (binaryOp .Add) (fun x y H Q=>∃ i j,x=.str i∧y=.str j∧i.length+j.length≤sizeLine∧Q (.str (i++j)) H):=by
 walk_at "pd"
 obtain ⟨i,j,rfl,rfl,hz,q⟩:=h
 obtain ⟨t,rfl⟩:=rx
 obtain ⟨t',rfl⟩:=ry
 exact add_str (fun t' tk=>⟨.str (i++j),H,I.tok _,⟨_,rfl⟩,q⟩) hz
theorem Zn1:OpR X (inplaceOp .Add) (fun x y H Q=>∃ i j,x=.str i∧y=.str j∧i.length+j.length≤sizeLine∧Q (.str (i++j)) H):=by
 walk_at "pd"
 obtain ⟨i,j,rfl,rfl,hz,q⟩:=h
 obtain ⟨t,rfl⟩:=rx
 obtain ⟨t',rfl⟩:=ry
 exact iadd_str (fun t' tk=>⟨.str (i++j),H,I.tok _,⟨_,rfl⟩,q⟩) hz
theorem Zlf {x:V} {us:List Value} (r:Vals [x] us):∃ u,us=[u]∧RelV x u:=by
 cases r with
 | cons r1 r2=>cases r2;exact ⟨_,rfl,r1⟩
theorem Ztx {x y:V} {us:List Value} (r:Vals [x,y] us):∃ u w',us=[u,w']∧RelV x u∧RelV y w':=by
 cases r with
 | cons r1 r2 =>
  cases r2 with
  | cons r3 r4=>cases r4;exact ⟨_,_,rfl,r1,r3⟩
theorem Zss:CallR X (.type "int") (fun xs H Q=>(∃ i,xs=[.int i]∧Q (.int i) H)∨∃ k,xs=[.bl k]∧Q (.int (if k then 1 else 0)) H):=by
 intro pins s σ H xs us Q I r h
 rcases h with ⟨i,rfl,q⟩ | ⟨k,rfl,q⟩
 ·obtain ⟨u,rfl,t,rfl⟩:=Zlf r
  exact call_int_int ⟨.int i,H,I,⟨_,rfl⟩,q⟩
 ·obtain ⟨u,rfl,r1⟩:=Zlf r
  cases r1
  exact call_int_bool ⟨.int (if k then 1 else 0),H,I.tok _,⟨_,rfl⟩,q⟩
def ZBx (K:PySem.W.Frag) (x:V) (H:Hp) (n:Nat):Prop :=
 match x with
 | .str y=>y.length≤sizeLine∧n=y.length
 | .byt y=>y.size≤sizeLine∧n=y.size
 | .ref p=>(∃ xs,SqL K H p xs∧n=xs.length)∨∃ xs,SqT K H p xs∧n=xs.length
 | _=>False
theorem Zs2:CallR X (.builtin "len") (fun xs H Q=>∃ x n,xs=[x]∧ZBx X.K x H n∧Q (.int n) H):=by
 intro pins s σ H xs us Q I r h
 obtain ⟨x,n,rfl,e,q⟩:=h
 obtain ⟨u,rfl,rx⟩:=Zlf r
 have hl:=Zks
 have hs:sizeLine=16777216:=sizeLine_eq
 cases x with
 | str y =>
  obtain ⟨t,rfl⟩:=rx
  obtain ⟨hy,e'⟩:y.length≤sizeLine∧n=y.length:=e
  subst e'
  exact len_str (by omega) ⟨.int _,H,I.tok _,⟨_,rfl⟩,q⟩
 | byt y =>
  obtain ⟨t,rfl⟩:=rx
  obtain ⟨hy,e'⟩:y.size≤sizeLine∧n=y.size:=e
  subst e'
  exact PySem.W.len_bytes (by omega) ⟨.int _,H,I.tok _,⟨_,rfl⟩,q⟩
 | ref p =>
  cases rx
  have e':(∃ xs,SqL X.K H p xs∧n=xs.length)∨∃ xs,SqT X.K H p xs∧n=xs.length:=e
  rcases e' with ⟨xs,hx,e'⟩ | ⟨xs,hx,e'⟩
  ·subst e'
   obtain ⟨its,r',pl,hz⟩:=I.list hx
   have hlen:=r'.length
   exact Calls.call_len_list pl.isList (by simp only [List.size_toArray];omega) ⟨.int xs.length,H,I.tok _,⟨_,by simp only [List.size_toArray];rw [hlen]⟩,q⟩
  ·subst e'
   obtain ⟨its,r',pl,hz⟩:=I.tuple hx
   have hlen:=r'.length
   exact len_tuple pl (by simp only [List.size_toArray];omega) ⟨.int xs.length,H,I.tok _,⟨_,by simp only [List.size_toArray];rw [hlen]⟩,q⟩
 | _=>exact (show False from e).elim
end
section
variable {prog:Program} {w:World} {A:Around} {E:Value→Shared→Prop} {s:Shared} {K:PySem.W.Frag} {x dx C f:Addr} {mA:Str→Option Value} {name:Str} {v:Value}
end
section
variable {P:Program} {w:World} {H H':Hp} {h h':Heap} {a C dx:Addr} {fs fs':List (Str×V)}
end
structure Cls (K:PySem.W.Frag) (C:Addr):Prop where
 pg:PySem.W.plainGet K C Str.empty=true
 hd:PySem.W.hasDictIn K C=true
 po:PySem.W.plainOver K C=true
 sa:PySem.W.findIn K (.ref C) "__setattr__"=some (some (.builtin "object.__setattr__"))
theorem Cls.get {K:PySem.W.Frag} {C:Addr} (c:Cls K C) (f:Str):PySem.W.plainGet K C f=true:=c.pg
structure ZBI (K:PySem.W.Frag) (C:Addr) (m:Str) (f:Addr):Prop where
 at_:PySem.W.findIn K (.ref C) m=some (some (.ref f))
 fn:PySem.W.isFn K (.ref f)=true
 kp:PySem.W.keepIn K (.ref f)=true
section
variable {X:Cx} {pins:List (Addr×Obj)} {σ:St} {H:Hp} {s:Shared} {a C dx:Addr} {fs:List (Str×V)} {f:Str} {v:V} {A:Around} {E:Value→Shared→Prop}
theorem Inv.made (I:Inv X pins σ H s):Inv X pins σ (upd (upd H s.heap.objs.size (.own (s.heap.objs.size+1))) (s.heap.objs.size+1) (.ins C s.heap.objs.size []))
  { s with heap:=(s.heap.push PySem.W.emptyDict).push (PySem.W.instObj C s.heap.objs.size) }:=by
 have e1:(s.heap.push PySem.W.emptyDict).get? s.heap.objs.size=some PySem.W.emptyDict:=Heap.get?_push_size s.heap rfl
 have e2:((s.heap.push PySem.W.emptyDict).push (PySem.W.instObj C s.heap.objs.size)).get? (s.heap.objs.size+1)=some (PySem.W.instObj C s.heap.objs.size):=by
  have:=Heap.get?_push_size (s.heap.push PySem.W.emptyDict) (o:=PySem.W.instObj C s.heap.objs.size) rfl
  rwa [Heap.size_push] at this
 have e3:(s.heap.push PySem.W.emptyDict).Ns s.heap.objs.size (fun _=>none):=⟨PySem.W.emptyDict,#[],_,e1,rfl,(fun e he=>absurd he (by simp)),fun _=>rfl⟩
 have I1:=I.laid (a:=s.heap.objs.size) (o:=.own (s.heap.objs.size+1)) (h':=s.heap.push PySem.W.emptyDict) (t':=s.toks) (fun b u q=>Heap.get?_push_of_some _ q) (Nat.le_refl _) ⟨_,e1⟩
 refine I1.laid (a:=s.heap.objs.size+1) (o:=.ins C s.heap.objs.size []) (t':=s.toks) (fun b u q=>Heap.get?_push_of_some _ q) (Nat.le_of_eq (Heap.size_push _ _)) ?_
 have ne:s.heap.objs.size≠s.heap.objs.size+1:=Nat.ne_of_lt (Nat.lt_succ_self _)
 refine ⟨by rw [Za8 ne,Zbq],Nat.zero_le _,ne,e2,fun _=>none,(Heap.Ns1.of_empty e3).at fun o q=>Heap.get?_push_of_some _ q,fun _=>True.intro,fun y hy=>absurd rfl hy⟩
end
section
variable {X:Cx} {o e value:Expr} {f:Str} {pos pos' tpos:Pos} {ta tv:TE}
def ZdJ:V→V→Hp→VK→Prop:=fun x y H Q=>∃ i j,x=.int i∧y=.int j∧Q (.int (i+j)) H
end
section
variable {X:Cx} {pins:List (Addr×Obj)} {σ:St} {H:Hp} {s:Shared} {A:Around} {E:Value→Shared→Prop} {Q:Value→Shared→Prop} {c:Value} {b:Bool}
end
structure Room (k:Nat) (A:Around):Prop where
 hd:A.handled=none
 dp:A.depth+3*k+5 < recursionLimit
 un:A.units+16*k+200 < cLine
theorem Room.mono {j k:Nat} {A:Around} (r:Room k A) (h:j≤k):Room j A:=⟨r.hd,by have:=r.dp;omega,by have:=r.un;omega⟩
theorem Room.deeper {k:Nat} {A:Around} (r:Room (k+1) A) (env:Env):Room k (A.deeper env) :=
 ⟨r.hd,by have:=r.dp;show A.depth+1+3*k+5 < _;omega,by have:=r.un;show A.units+3+16*k+200 < _;omega⟩
theorem Room.in1 {k:Nat} {A:Around} (r:Room (k+1) A):Room k A.in1 :=
 ⟨r.hd,by have:=r.dp;show A.depth+3*k+5 < _;omega,by have:=r.un;show A.units+1+16*k+200 < _;omega⟩
theorem Room.depth {k:Nat} {A:Around} (r:Room k A):A.depth < recursionLimit:=by have:=r.dp;omega
theorem Room.units {k:Nat} {A:Around} (r:Room k A):A.units+64 < cLine:=by have:=r.un;omega
def ZzT:TA:=fun _ H Q=>Q [] H
def Zp5 (ta:TE) (tr:TA):TA:=fun σ H Q=>ta σ H fun x H1=>tr σ H1 fun xs H2=>Q (x::xs) H2
section
variable {X:Cx} {e:Expr} {es:List Expr} {te:TE} {t:TA} {pos:Pos}
theorem ZoJ:PA X [] ZzT:=fun _ _ _ _ H Q I h=>Calls.spliced_nil ⟨[],H,I,.nil,h⟩
theorem ZhZ (ha:PE X e te) (hr:PA X es t) (hs:starEach (e::es) X.env=(false,eval e X.env)::starEach es X.env:=by rfl):PA X (e::es) (Zp5 te t):=by
 intro pos pins s σ H Q I h
 rw [hs]
 show wpAny _ _ (spliced ((false,eval e X.env)::backTo pos (starEach es X.env))) _ _ s
 refine Calls.spliced_cons (thn (ha pins s σ H _ I h) fun u s1 zz43=>?_)
 obtain ⟨x,H1,I1,r1,q1⟩:=zz43
 exact thn (hr pos pins s1 σ H1 _ I1 q1) (by rintro us s2 ⟨xs,H2,I2,r2,q2⟩;exact ⟨x::xs,H2,I2,.cons r1 r2,q2⟩)
def ZBX (t:TA):TE:=fun σ H Q=>t σ H fun xs H1=>xs.length≤sizeLine∧∀ p,H1 p=none→Q (.ref p) (upd H1 p (.tup xs))
def ZB6 (t:TA):TE:=fun σ H Q=>t σ H fun xs H1=>xs.length≤sizeLine∧∀ p,H1 p=none→Q (.ref p) (upd H1 p (.lst xs))
theorem Zy6 {x1} (h:PA X es t):PE X (.Tuple es x1 pos) (ZBX t):=by
 intro pins s σ H Q I hq
 refine wpAny_Tuple_spliced (thn (h pos pins s σ H _ I hq) fun us s1 ⟨xs,H1,I1,r,z,q⟩=>⟨by rw [← r.length];exact z,?_⟩)
 have hf:H1 s1.heap.objs.size=none:=I1.hok.fresh (Nat.le_refl _)
 refine ⟨.ref s1.heap.objs.size,upd H1 s1.heap.objs.size (.tup xs),I1.laid (t':=s1.toks) (fun b u e=>Heap.get?_push_of_some _ e) (Nat.le_refl _) ?_,rfl,q _ hf⟩
 exact ⟨z,us,r,⟨_,Heap.get?_push_size _ rfl,rfl,_,rfl⟩⟩
theorem Zyh (h:PA X es t):PE X (.List es pos) (ZB6 t):=by
 intro pins s σ H Q I hq
 refine wpAny_List_spliced (thn (h pos pins s σ H _ I hq) fun us s1 ⟨xs,H1,I1,r,z,q⟩=>⟨by rw [← r.length];exact z,?_⟩)
 have hf:H1 s1.heap.objs.size=none:=I1.hok.fresh (Nat.le_refl _)
 refine ⟨.ref s1.heap.objs.size,upd H1 s1.heap.objs.size (.lst xs),I1.laid (t':=s1.toks) (fun b u e=>Heap.get?_push_of_some _ e) (Nat.le_refl _) ?_,rfl,q _ hf⟩
 exact ⟨z,us,0,r,Heap.get?_push_size _ rfl⟩
end
abbrev Sp:=List V→Hp→VK→XK→Prop
abbrev CXT:=List Env→Hp→Shared→XK→Value→Shared→Prop
structure Env0 (P:Program) (w:World) (K:PySem.W.Frag) (mg:Str→Option Value) (base:Heap) (A:Around) (outer:List Env) (s:Shared) (H:Hp):Prop where
 frames:A.frames=some outer
 mod:Mod K mg base
 bs:∀ b o,base.get? b=some o→s.heap.get? b=some o∧H b=none
 bsz:base.objs.size≤s.heap.objs.size
 funs:s.heap.FunFrames base outer
 frf:∀ b∈frs outer,H b=none
 hok:HOk P w H s.heap
 bare:AllBare s.gens
def CE (outer:List Env) (P:Program) (w:World) (H:Hp) (s:Shared) (Q:VK) (u:Value) (s':Shared):Prop :=
 ∃ v H',s'.os=s.os∧AllBare s'.gens∧Un (frs outer) [] H H' s.heap s'.heap∧HOk P w H' s'.heap∧RelV v u∧Q v H'
def CR (CX:CXT) (outer:List Env) (P:Program) (w:World) (H:Hp) (s:Shared) (Q:VK) (E:XK) (r:Result) (s':Shared):Prop :=
 match r with
 | .ok (.ret u)=>CE outer P w H s Q u s'
 | .ok _=>False
 | .error e=>CX outer H s E e s'
structure FnOk (P:Program) (w:World) (K:PySem.W.Frag) (mg:Str→Option Value) (base:Heap) (CX:CXT) (k:Nat) (f:Addr) (fd:FuncData) (ps:List Str) (sp:Sp):Prop where
 len:∀ vs H Q E,sp vs H Q E→vs.length=ps.length
 run:∀ (A:Around) (outer:List Env) (s:Shared) (H:Hp) (args:Args) (us:List Value) (vs:List V) (Q:VK) (E:XK),Room k A→Env0 P w K mg base A outer s H→BindsTo s fd args (ps.zip us)→Vals vs us→sp vs H Q E →
  codeAny (model P w) A (.call (.ref f) args) (CR CX outer P w H s Q E) s
theorem FnOk.mono {P:Program} {w:World} {K:PySem.W.Frag} {mg:Str→Option Value} {base:Heap} {CX:CXT} {j k:Nat} {f:Addr} {fd:FuncData} {ps:List Str} {sp:Sp} (F:FnOk P w K mg base CX j f fd ps sp) (h:j≤k) :
  FnOk P w K mg base CX k f fd ps sp:=⟨F.len,fun A outer s H args us vs Q E hr=>F.run A outer s H args us vs Q E (hr.mono h)⟩
theorem FnOk.imp {P:Program} {w:World} {K:PySem.W.Frag} {mg:Str→Option Value} {base:Heap} {CX:CXT} {k:Nat} {f:Addr} {fd:FuncData} {ps:List Str} {sp sp':Sp} (F:FnOk P w K mg base CX k f fd ps sp)
  (h:∀ vs H Q E,sp' vs H Q E→sp vs H Q E):FnOk P w K mg base CX k f fd ps sp' :=
 ⟨fun vs H Q E q=>F.len vs H Q E (h _ _ _ _ q),fun A outer s H args us vs Q E hr he hb hv hs=>F.run A outer s H args us vs Q E hr he hb hv (h _ _ _ _ hs)⟩
theorem Env0.in1 {P:Program} {w:World} {K:PySem.W.Frag} {mg:Str→Option Value} {base:Heap} {A:Around} {outer:List Env} {s:Shared} {H:Hp} (e:Env0 P w K mg base A outer s H) :
  Env0 P w K mg base A.in1 outer s H:=⟨e.frames,e.mod,e.bs,e.bsz,e.funs,e.frf,e.hok,e.bare⟩
section
variable {X:Cx} {pins:List (Addr×Obj)} {σ:St} {H:Hp} {s s':Shared}
theorem Inv.env0 (I:Inv X pins σ H s):Env0 X.prog X.w X.K X.mg X.base X.A X.stack s H :=
 ⟨I.ok.frames,I.ok.mod,I.bs,Nat.le_trans I.ok.bsz I.sz,I.stack,I.stkFree,I.hok,I.bare⟩
theorem Inv.after {Q:VK} {u:Value} (I:Inv X pins σ H s) (h:CE X.stack X.prog X.w H s Q u s'):EP X pins σ Q u s':=by
 obtain ⟨v,H',os,bare,un,hok,r,q⟩:=h
 obtain ⟨hh,g,d,t,os'⟩:=s'
 obtain rfl:os'=s.os:=os
 exact ⟨v,H',I.call (h':=hh) (g':=g) (d':=d) (t':=t) (ch:=[]) un hok bare (fun b z=>absurd z (by simp)),r,q⟩
end
def ZAO (sp:Sp) (dvs:List V) (E:XK) (t:TA):TE:=fun σ H Q=>t σ H fun vs H1=>sp (vs++dvs) H1 Q E
def Binds (K:PySem.W.Frag) (fd:FuncData) (ps:List Str) (ds:List Value):Prop :=
 ∀ (s:Shared) (us:List Value),K.In s.heap→(us++ds).length=ps.length→BindsTo s fd ⟨us,[]⟩ (ps.zip (us++ds))
theorem Binds.all {K:PySem.W.Frag} {fd:FuncData} {ps:List Str} (h:∀ us:List Value,us.length=ps.length→bindArgs fd ⟨us,[]⟩=pure (ps.zip us)):Binds K fd ps []:=fun s us _ hl=>by
 rw [List.append_nil] at hl ⊢
 exact .of_eq (h us hl)
def Zzk (CX:CXT) (X:Cx) (E:XK):Prop:=∀ (pins:List (Addr×Obj)) (σ:St) (H:Hp) (s:Shared) (e:Value) (s':Shared),Inv X pins σ H s→CX X.stack H s E e s'→X.xe e s'
section
variable {X:Cx} {CX:CXT} {k:Nat} {f C:Addr} {fd:FuncData} {ps:List Str} {sp:Sp} {dvs:List V} {ds:List Value} {E:XK} {x m:Str} {p pos apos:Pos} {e o:Expr} {es:List Expr} {ta:TE} {t:TA}
end
section
variable {X:Cx} {CX:CXT} {k:Nat} {f C:Addr} {fd:FuncData} {ps ks:List Str} {sp:Sp} {E:XK} {x m:Str} {p pos apos kpos:Pos} {e o:Expr} {es:List Expr} {kws:List Keyword} {te ta:TE} {t tk:TA} {nm:Option Str}
variable {g:List Value→List Value→List Value} {gV:List V→List V→List V}
end
structure Zao (N P:List Str) (sc:Scope):Prop where
 kind:sc.kind=.function
 co:sc.isCoroutine=false
 gen:sc.isGenerator=false
 nd:N.Nodup
 pre:N.take P.length=P
 par:∀ x∈P,sc.names.lookup x=some .local∨sc.names.lookup x=some .cell
 nofree:∀ y∈sc.names,y.2≠.free
theorem ZmS {kindOf:Str→Option NameKind} {x:Str}:∀ {binds:List (Str×Value)} {m:Str→Option Value},(∀ v,(x,v)∉binds)→bindL kindOf binds m x=m x
 | [],_,_=>rfl
 | (n,v)::r,m,h=>by
  unfold bindL
  rw [ZmS fun w hw=>h w (List.mem_cons_of_mem _ hw)]
  split
  ·have:x≠n:=by rintro rfl;exact h v List.mem_cons_self
   simp [this]
  ·rfl
theorem Zmq {kindOf:Str→Option NameKind} {x:Str}:∀ {binds:List (Str×Value)} {m:Str→Option Value},(∀ v,(x,v)∉binds)→bindC kindOf binds m x=m x
 | [],_,_=>rfl
 | (n,v)::r,m,h=>by
  unfold bindC
  rw [Zmq fun w hw=>h w (List.mem_cons_of_mem _ hw)]
  split
  ·rfl
  ·have:x≠n:=by rintro rfl;exact h v List.mem_cons_self
   simp [this]
theorem ZmD {kindOf:Str→Option NameKind} {x:Str} {v:Value}:∀ {P:List Str} {vs:List Value} {i:Nat} {m:Str→Option Value},P.Nodup→P[i]?=some x→vs[i]?=some v→kindOf x=some .local →
  bindL kindOf (P.zip vs) m x=some v
 | [],_,_,_,_,h,_,_=>by simp at h
 | _::_,[],_,_,_,_,h,_=>by simp at h
 | p::P,w::vs,0,m,nd,h1,h2,hk=>by
  simp at h1 h2;subst h1;subst h2
  show bindL kindOf ((p,w)::P.zip vs) m p=_
  unfold bindL
  rw [ZmS fun v hv=>(List.nodup_cons.mp nd).1 (List.of_mem_zip hv).1,if_pos hk]
  simp
 | p::P,w::vs,i+1,m,nd,h1,h2,hk=>by
  show bindL kindOf ((p,w)::P.zip vs) m x=_
  unfold bindL
  exact ZmD (i:=i) (List.nodup_cons.mp nd).2 (by simpa using h1) (by simpa using h2) hk
theorem ZmJ {kindOf:Str→Option NameKind} {x:Str} {v:Value}:∀ {P:List Str} {vs:List Value} {i:Nat} {m:Str→Option Value},P.Nodup→P[i]?=some x→vs[i]?=some v→kindOf x≠some .local →
  bindC kindOf (P.zip vs) m x=some v
 | [],_,_,_,_,h,_,_=>by simp at h
 | _::_,[],_,_,_,_,h,_=>by simp at h
 | p::P,w::vs,0,m,nd,h1,h2,hk=>by
  simp at h1 h2;subst h1;subst h2
  show bindC kindOf ((p,w)::P.zip vs) m p=_
  unfold bindC
  rw [Zmq fun v hv=>(List.nodup_cons.mp nd).1 (List.of_mem_zip hv).1,if_neg hk]
  simp
 | p::P,w::vs,i+1,m,nd,h1,h2,hk=>by
  show bindC kindOf ((p,w)::P.zip vs) m x=_
  unfold bindC
  exact ZmJ (i:=i) (List.nodup_cons.mp nd).2 (by simpa using h1) (by simpa using h2) hk
def ZgZ (N:List Str) (vs:List V):St:=vs.map some++List.replicate (N.length - vs.length) none
def Zid (CX:CXT) (P:Program) (w:World) (K:PySem.W.Frag) (mg:Str→Option Value) (base:Heap) (N:List Str) (qual:Str) (scope:Scope) (f:Addr) (cd:Value) (A:Around) (outer:List Env) (s:Shared) (H:Hp) (E:XK):Cx where
 prog:=P
 w:=w
 K:=K
 mg:=mg
 base:=base
 A:=A.deeper (envOfC qual scope s.heap.objs.size f cd)
 N:=N
 s₀:=s
 H₀:=H
 env:=envOfC qual scope s.heap.objs.size f cd
 outer:=outer
 stack:=envOfC qual scope s.heap.objs.size f cd::outer
 ex:=[]
 calm:=true
 fn:=fun _=>true
 pn:=[]
 xe:=fun e s'=>wpAny (model P w) (A.deeper (envOfC qual scope s.heap.objs.size f cd)) (leaving (envOfC qual scope s.heap.objs.size f cd) e) (fun _ s''=>CX outer H s E e s'') (fun e' s''=>CX outer H s E e' s'') s'
theorem Zld {sc:Scope} {n:Nat} {x:Str} (h:sc.names.lookup x=some .cell):∃ c,(cellsFrom n sc.names []).lookup x=some c:=by
 have q:=PySem.W.cellsFrom_some sc.names n [] (.inl h)
 exact Option.isSome_iff_exists.mp q
theorem ZlS {CX:CXT} {P:Program} {w:World} {K:PySem.W.Frag} {mg:Str→Option Value} {base:Heap} {N ps:List Str} {qual:Str} {scope:Scope} {f:Addr} {cd:Value} {A:Around} {outer:List Env} {s s1:Shared} {H:Hp} {E:XK} {us:List Value} {vs:List V}
  (S:Zao N ps scope) (hd:A.handled=none) (e0:Env0 P w K mg base A outer s H) (hl:vs.length=ps.length) (r:Vals vs us)
  (x:InCallC s s.heap.objs.size (bindL (envOfC qual scope s.heap.objs.size f cd).kindOf (ps.zip us) fun _=>none) (cellsFrom (s.heap.objs.size+1) scope.names []) (bindC (envOfC qual scope s.heap.objs.size f cd).kindOf (ps.zip us) fun _=>none) s1) :
  Inv (Zid CX P w K mg base N qual scope f cd A outer s H E) [] (ZgZ N vs) H s1:=by
 have hpl:ps.length≤N.length:=by have:=congrArg List.length S.pre;rw [List.length_take] at this;omega
 obtain ⟨h1,tk,rfl,hk⟩:=x.done
 have noA:∀ b:Addr,b∉(Zid CX P w K mg base N qual scope f cd A outer s H E).ex:=fun b z=>absurd (show b∈([]:List Addr) from z) (by simp)
 refine ⟨⟨e0.mod,S.kind,rfl,rfl,Nat.le_refl _,fun y z c h1 h2=>?_,fun y hy=>?_,fun y c _ h=>?_,fun _=>hd,Around.frames_deeper e0.frames,.inr ⟨rfl,rfl⟩,fun b z=>absurd z (noA b),e0.bs,e0.bsz,fun b _ _=>noA b,fun b z=>absurd z (noA b),e0.funs,e0.frf⟩,
  rfl,e0.bare,Un.kept hk,⟨_,x.toInCall.ns,fun i y v h1 h2 h3=>?_⟩,fun y c h=>⟨_,x.cell y c h⟩,e0.hok.fresh (Nat.le_refl _),fun y c h=>?_,fun p hp=>absurd (show p∈([]:List (Addr×Obj)) from hp) (by simp),e0.hok.kept hk,?_⟩
 ·exact name_of_addr x.apart (PySem.mem_of_lookup h1) (PySem.mem_of_lookup h2)
 ·have hy:scope.names.lookup y=some .cell∨scope.names.lookup y=some .free:=hy
  rcases hy with hy | hy
  ·exact Zld hy
  ·exact absurd rfl (S.nofree _ (PySem.mem_of_lookup hy))
 ·exact Nat.le_of_lt (x.above y c (PySem.mem_of_lookup h))
 ·have hi:i < vs.length:=by
   unfold ZgZ at h2
   by_cases hi:i < vs.length
   ·exact hi
   ·rw [List.getElem?_append_right (by simpa using hi)] at h2
    rw [List.getElem?_replicate] at h2
    split at h2 <;> cases h2
  have ha:vs[i]?=some v:=by
   unfold ZgZ at h2
   rw [List.getElem?_append_left (by simpa using hi),List.getElem?_map] at h2
   cases e:vs[i]? with
   | none=>rw [e] at h2;cases h2
   | some a=>rw [e] at h2;cases h2;rfl
  obtain ⟨u,hu,rv⟩:=r.get ha
  have hp:ps[i]?=some y:=by
   rw [← S.pre,List.getElem?_take_of_lt (by omega)];exact h1
  have ndP:ps.Nodup:=by rw [← S.pre];exact S.nd.sublist (List.take_sublist _ _)
  refine ⟨u,rv,?_⟩
  rcases S.par y (List.mem_of_getElem? hp) with k | k
  ·exact .inl ⟨k,ZmD ndP hp hu k⟩
  ·obtain ⟨c,e⟩:=Zld (n:=s.heap.objs.size+1) k
   refine .inr ⟨.inl k,c,e,?_⟩
   have q:=x.cell y c e
   rw [ZmJ ndP hp hu (by show scope.names.lookup y≠_;rw [k];decide)] at q
   exact q
 ·exact e0.hok.fresh (Nat.le_of_lt (x.above y c (PySem.mem_of_lookup h)))
 ·unfold ZgZ
  show _=N.length
  rw [List.length_append,List.length_map,List.length_replicate]
  omega
theorem Zum {CX:CXT} {P:Program} {w:World} {K:PySem.W.Frag} {mg:Str→Option Value} {base:Heap} {k:Nat} {f:Addr} {name qual:Str} {params:Arguments} {body:List Stmt} {scope:Scope} {dV kV doc pm cdv ct oc:Value} {an od:Option Addr}
  {osl:Array (Option Value)} {N ps:List Str} {sp:Sp} (lk:K.lookup f=some ⟨oc,od,.func (PySem.W.fnOf name qual params body scope dV kV doc pm an cdv ct),osl⟩) (hcd:PySem.W.codeIn K cdv qual=true) (S:Zao N ps scope)
  (len:∀ vs H Q E,sp vs H Q E→vs.length=ps.length)
  (hbody:∀ (A:Around) (outer:List Env) (s:Shared) (H:Hp) (vs:List V) (Q:VK) (E:XK),Room k (A.deeper (envOfC qual scope s.heap.objs.size f cdv))→sp vs H Q E →
   ∃ t,PSs (Zid CX P w K mg base N qual scope f cdv A outer s H E) body t∧t { nx:=fun _ H'=>Q .non H',rt:=Q } (ZgZ N vs) H) :
  FnOk P w K mg base CX (k+1) f (PySem.W.fnOf name qual params body scope dV kV doc pm an cdv ct) ps sp:=by
 refine ⟨len,fun A outer s H args us vs Q E hr e0 hb r hsp=>?_⟩
 have hl:=len _ _ _ _ hsp
 have KX:K.In s.heap:=e0.mod.kin.keeps fun b o e=>(e0.bs b o e).1
 have lim:s.heap.NoLimit:=e0.mod.nolimit.keeps fun b o e=>(e0.bs b o e).1
 have hkind:∀ y∈ps.zip us,scope.names.lookup y.1=some .local∨(scope.names.lookup y.1=some .cell∧((cellsFrom (s.heap.objs.size+1) scope.names []).lookup y.1).isSome=true):=by
  rintro ⟨n,v⟩ hy
  rcases S.par n (List.of_mem_zip hy).1 with q | q
  ·exact .inl q
  ·exact .inr ⟨q,PySem.W.cellsFrom_some _ _ _ (.inl q)⟩
 refine codeAny_call_function hr.depth (KX _ _ lk) rfl S.co S.gen rfl (PySem.W.codeRec_of KX hcd) (hb _ _ _ _ ?_)
 refine wpAny_newFunctionEnv_cells S.kind hkind fun env he s1 x=>?_
 subst he
 refine ⟨lim.keeps x.toInCall.keep,codeAny_func ?_⟩
 obtain ⟨t,ht,hq⟩:=hbody A outer s H vs Q E (hr.deeper _) hsp
 have I:Inv (Zid CX P w K mg base N qual scope f cdv A outer s H E) [] (ZgZ N vs) H s1:=ZlS S hr.hd e0 hl r x
 refine wpAny_mono (ht [] s1 (ZgZ N vs) H _ I hq) (fun fl s' hs=>?_) fun e s' hs=>hs
 have fin:∀ {σ':St} {H':Hp} {v:V} {u:Value},Inv (Zid CX P w K mg base N qual scope f cdv A outer s H E) [] σ' H' s'→RelV v u→Q v H'→CE outer P w H s Q u s' :=
  fun {σ' H' v u} J rv q=>⟨v,H',J.os,J.bare,J.base,J.hok,rv,q⟩
 cases fl with
 | ret u =>
  obtain ⟨v,σ',H',J,rv,q⟩:=hs
  exact fin J rv q
 | next =>
  obtain ⟨σ',H',J,q⟩:=hs
  exact fin (v:=V.non) (u:=Value.none) J rfl q
 | brk =>
  obtain ⟨_,_,_,q⟩:=hs
  exact False.elim q
 | cont =>
  obtain ⟨_,_,_,q⟩:=hs
  exact False.elim q
section
variable {X:Cx} {x:Str} {p pos:Pos} {e:Expr} {es:List Expr} {t:TA} {id T:String} {r:List V→Hp→VK→Prop}
def tCB (r:List V→Hp→VK→Prop) (t:TA):TE:=fun σ H Q=>t σ H fun vs H1=>r vs H1 Q
theorem Ztn (hc:CallR X (.builtin id) r) (hg:Gl X x) (hm:X.mg x=none) (hv:bootBuiltins x=some (.builtin id)) (ha:PA X (e::es) t) (hn:x≠"__name__":=by decide) (hdb:(x==("__debug__":Str))=false:=by decide)
  (he:starEach (e::es) X.env=(false,eval e X.env)::starEach es X.env:=by rfl) (hpl:(backTo pos (starEach es X.env)).any (·.1)=false:=by rfl):PE X (.Call (.Name x p) (e::es) [] pos) (tCB r t):=by
 intro pins s σ H Q I h
 refine wpAny_Call_Name_kw (ZeW I hg hm hv ?_ hn hdb)
 exact PyProof.Rows.callWith_builtin1 (thn (ha pos pins s σ H _ I h) (by rintro us s1 ⟨vs,H1,I1,r1,q1⟩;exact hc pins s1 σ H1 vs us Q I1 r1 q1)) he hpl
theorem ZrS (hc:CallR X (.type T) r) (hg:Gl X x) (hm:X.mg x=none) (hv:bootBuiltins x=some (.type T)) (ha:PA X (e::es) t) (hn:x≠"__name__":=by decide) (hdb:(x==("__debug__":Str))=false:=by decide)
  (he:starEach (e::es) X.env=(false,eval e X.env)::starEach es X.env:=by rfl) (hpl:(backTo pos (starEach es X.env)).any (·.1)=false:=by rfl):PE X (.Call (.Name x p) (e::es) [] pos) (tCB r t):=by
 intro pins s σ H Q I h
 refine wpAny_Call_Name_kw (ZeW I hg hm hv ?_ hn hdb)
 exact PyProof.Rows.callWith_type1 (thn (ha pos pins s σ H _ I h) (by rintro us s1 ⟨vs,H1,I1,r1,q1⟩;exact hc pins s1 σ H1 vs us Q I1 r1 q1)) he hpl
end
end L2
namespace HT
open PySem PyProof.Rows
section
open PySem.SeqAt
open PySem.AutoSeq1 (wpAny_loadPart')
open PySem.MeetsSeq PySem.MeetsSeq2 PySem.MeetsSeq3
end
section
variable {prog:Program} {w:World} {A:Around} {E:Value→Shared→Prop} {s:Shared}
theorem cat_tup {t b:Addr} {vs ws:List Value} {Q:Value→Shared→Prop} (ht:IsTup s.heap t vs.toArray) (hb:IsTup s.heap b ws.toArray) (hv:vs≠[])
  (h1:ws=[]→Q (.ref t) s) (h2:ws≠[]→Q (.ref s.heap.objs.size) { s with heap:=s.heap.push { cls:=.type "tuple",data:=.seq (vs++ws).toArray } })
  (hsz:vs.length+ws.length≤sizeLine):wpAny (model prog w) A (binaryOp .Add (.ref t) (.ref b)) Q E s:=by
 obtain ⟨⟨cls,dd,data,sl⟩,ho,hc,n,hd⟩:=id ht
 obtain ⟨⟨cls2,dd2,data2,sl2⟩,ho2,hc2,n2,hd2⟩:=id hb
 simp only at hc hd hc2 hd2
 subst hc hd hc2 hd2
 have e:vs.toArray++ws.toArray=(vs++ws).toArray:=by simp
 by_cases hw:ws=[]
 ·exact concat_meets ⟨_,ho,rfl⟩ ⟨_,ho2,rfl⟩ noFill_tuple_add seq_tuple_add PySem.F.slot_tuple_add PySem.F.entry_tuple_add (PySem.F.args_tuple_add_2 _ _)
   (tuple_addW1 t b vs.toArray ws.toArray n n2 dd dd2 sl sl2 (by simpa using hv) (by simp [hw])) ⟨ho,ho2,h1 hw⟩
 ·refine concat_meets ⟨_,ho,rfl⟩ ⟨_,ho2,rfl⟩ noFill_tuple_add seq_tuple_add PySem.F.slot_tuple_add PySem.F.entry_tuple_add (PySem.F.args_tuple_add_2 _ _)
   (tuple_addW2 t b vs.toArray ws.toArray n n2 dd dd2 sl sl2 (by simpa using hv) (by simpa using hw) (by rw [List.size_toArray,List.size_toArray];exact hsz)) ⟨ho,ho2,?_⟩
  rw [e]
  exact h2 hw
def sIx (n d:Nat):Option Int→Nat
 | none=>d
 | some v=>if v < 0 then (v+(n:Int)).toNat else min v.toNat n
theorem sIx_none (n d:Nat):sIx n d none=d:=rfl
theorem sIx_nat (n d k:Nat):sIx n d (some (k:Int))=min k n:=by
 show (if (k:Int) < 0 then ((k:Int)+(n:Int)).toNat else min (k:Int).toNat n)=min k n
 rw [if_neg (by omega),Int.toNat_natCast]
theorem ZxP (n d:Nat) (hd:d≤n) (o:Option Int):sIx n d o≤n:=by
 cases o with
 | none=>exact hd
 | some v =>
  show (if v < 0 then (v+(n:Int)).toNat else min v.toNat n)≤n
  by_cases hv:v < 0
  ·rw [if_pos hv];omega
  ·rw [if_neg hv];exact Nat.min_le_right _ _
theorem Zrn (v:Int) (n d:Nat):(if v < 0 then max (v+(n:Int)) 0 else min v (n:Int))=((sIx n d (some v):Nat):Int):=by
 show (if v < 0 then max (v+(n:Int)) 0 else min v (n:Int))=(((if v < 0 then (v+(n:Int)).toNat else min v.toNat n):Nat):Int)
 by_cases hv:v < 0
 ·simp only [if_pos hv];omega
 ·simp only [if_neg hv];omega
theorem ZpU (lo hi:Option Int) (n:Nat):Builtin.Slice.sliceAdjust lo hi 1 (n:Int)=(((sIx n 0 lo:Nat):Int),((sIx n n hi:Nat):Int)):=by
 have h1:¬ ((1:Int) < 0):=by omega
 unfold Builtin.Slice.sliceAdjust
 simp only [h1,if_false]
 refine Prod.ext ?_ ?_
 ·cases lo with
  | none=>rfl
  | some v=>exact Zrn v n 0
 ·cases hi with
  | none=>rfl
  | some v=>exact Zrn v n n
theorem ZpC (i j:Nat):Builtin.Slice.slicePlaces (i:Int) (j:Int) 1=j - i:=by
 unfold Builtin.Slice.slicePlaces
 have h1:(1:Int) > 0:=by omega
 simp only [h1,if_true,Int.ediv_one]
 split <;> omega
theorem Zkx {v:Value} {o:Option Int} {Q:Option Int→Shared→Prop} (p:IsPart v o) (h:Q o s):wpAny (model prog w) A (Builtin.Slice.slicePartIndex v) Q E s:=by
 cases p with
 | none=>exact slicePart_none h
 | int i t=>exact slicePart_int h
theorem ZeZ {sl:Addr} {vl vu:Value} {lo hi:Option Int} {n:Nat} {Q:Int×Int×Nat→Shared→Prop} (hs:s.heap.IsSliceOf sl vl vu .none) (pl:IsPart vl lo) (pu:IsPart vu hi)
  (h:Q (((sIx n 0 lo:Nat):Int),1,sIx n n hi - sIx n 0 lo) s):wpAny (model prog w) A (Builtin.Slice.sliceApplied (.ref sl) (pure (n:Int))) Q E s:=by
 obtain ⟨os,hos,hcs,hds⟩:=id hs
 unfold Builtin.Slice.sliceApplied Builtin.Slice.sliceFields
 refine wpAny_bind (wpAny_bind (wpAny_field hos hds (x:=vl) rfl (wpAny_bind (wpAny_field hos hds (x:=vu) rfl (wpAny_bind (wpAny_field hos hds (x:=.none) rfl (wpAny_pure ?_)))))))
 refine wpAny_bind (slicePart_none ?_)
 show wpAny _ _ (if ((1:Int)==0)=true then _ else _) _ _ s
 rw [if_neg (by decide)]
 refine wpAny_bind (Zkx pl (wpAny_bind (Zkx pu (wpAny_bind (wpAny_pure ?_)))))
 show wpAny _ _ (match Builtin.Slice.sliceAdjust lo hi 1 (n:Int) with | (lo,hi)=>pure (lo,(1:Int),Builtin.Slice.slicePlaces lo hi 1)) _ _ s
 rw [ZpU lo hi n]
 show wpAny _ _ (pure (((sIx n 0 lo:Nat):Int),(1:Int),Builtin.Slice.slicePlaces ((sIx n 0 lo:Nat):Int) ((sIx n n hi:Nat):Int) 1)) _ _ s
 rw [ZpC]
 exact wpAny_pure h
theorem ZtT (xs:Array Value) (i k:Nat):((List.range k).filterMap fun (m:Nat)=>xs[((i:Int)+(m:Int)*1).toNat]?).toArray=((xs.toList.drop i).take k).toArray:=by
 have e:(fun (m:Nat)=>xs[((i:Int)+(m:Int)*1).toNat]?)=fun m=>xs[i+m]?:=by
  funext m
  have:((i:Int)+(m:Int)*1).toNat=i+m:=by omega
  rw [this]
 rw [e]
 have:=pick_run xs i k
 rw [List.filterMap_map] at this
 have e2:((fun x=>xs[x]?)∘fun x=>i+x)=fun m=>xs[i+m]?:=rfl
 rw [e2] at this
 rw [this]
theorem getItem_tuple_cut {t sl:Addr} {items:Array Value} {vl vu:Value} {lo hi:Option Int} {Q:Value→Shared→Prop} (ht:IsTup s.heap t items) (hs:s.heap.IsSliceOf sl vl vu .none) (pl:IsPart vl lo) (pu:IsPart vu hi)
  (hw:¬ (sIx items.size 0 lo=0∧sIx items.size items.size hi=items.size))
  (h:Q (.ref s.heap.objs.size) { s with heap:=s.heap.push { cls:=.type "tuple",data:=.seq ((items.toList.drop (sIx items.size 0 lo)).take (sIx items.size items.size hi - sIx items.size 0 lo)).toArray } })
  (hsz:items.size≤sizeLine):wpAny (model prog w) A (getItem (.ref t) (.ref sl)) Q E s:=by
 have htake:sizeOk (.seq ((items.toList.drop (sIx items.size 0 lo)).take (sIx items.size items.size hi - sIx items.size 0 lo)).toArray):=by
  show ((items.toList.drop (sIx items.size 0 lo)).take (sIx items.size items.size hi - sIx items.size 0 lo)).toArray.size≤sizeLine
  rw [List.size_toArray,List.length_take,List.length_drop,Array.length_toList]
  omega
 have hj:sIx items.size items.size hi≤items.size:=ZxP _ _ (Nat.le_refl _) hi
 obtain ⟨os,hos,hcs,hds⟩:=id hs
 have hTs:s.TypeIs (.ref sl) "slice":=⟨os,hos,hcs⟩
 unfold getItem
 try with_reducible refine wpAny_holding ?_
 first | refine wpAny_bind (wpAny_pure ?_) | skip
 refine wpAny_bind (wpAny_sequenceKey ht.typeIs (by decide) ?_)
 refine wpAny_bind (wpAny_callSpecial?_slot (name:=Str.ofString "__getitem__") ht.typeIs PyProof.Rows.slot_tuple_getitem
  (wpAny_call_entry PyProof.Rows.slot_tuple_getitem ht.typeIs entry_tuple_getitem ?_ (args_tuple_getitem _ _)))
 show wpAny _ _ (Builtin.Tuple.tupleItemsOf (.ref t) >>= _) _ _ s
 refine wpAny_bind (tupleItemsOf_ ht ?_)
 refine wpAny_bind (wpAny_typeOf hTs ?_)
 rw [if_pos (by decide)]
 refine wpAny_bind (ZeZ hs pl pu ?_)
 have hno:¬ ((((sIx items.size 0 lo:Nat):Int)==0&&(1:Int)==1&&(sIx items.size items.size hi - sIx items.size 0 lo)==items.size)=true):=by
  intro q
  rw [Bool.and_eq_true,Bool.and_eq_true] at q
  have q1:((sIx items.size 0 lo:Nat):Int)=0:=eq_of_beq q.1.1
  have q2:sIx items.size items.size hi - sIx items.size 0 lo=items.size:=eq_of_beq q.2
  exact hw ⟨by omega,by omega⟩
 show wpAny _ _ (if (((sIx items.size 0 lo:Nat):Int)==0&&(1:Int)==1&&(sIx items.size items.size hi - sIx items.size 0 lo)==items.size)=true then _ else _) _ _ s
 rw [if_neg hno,ZtT]
 first
  | exact wpAny_bind (m:=Builtin.Tuple.tupleExact _) (wpAny_newObj_type (wpAny_pure ⟨_,rfl,wpAny_pure h⟩) htake)
  | exact wpAny_bind (m:=Builtin.Tuple.tupleExact _) (wpAny_newObj_type (wpAny_bind (wpAny_pure (wpAny_pure ⟨_,rfl,wpAny_pure h⟩))) htake)
  | exact wpAny_bind (wpAny_bind (m:=Builtin.Tuple.tupleExact _) (wpAny_newObj_type (wpAny_pure (wpAny_pure ⟨_,rfl,wpAny_pure h⟩)) htake))
  | exact wpAny_bind (wpAny_bind (m:=Builtin.Tuple.tupleExact _) (wpAny_newObj_type (wpAny_pure ⟨_,rfl,wpAny_pure h⟩) htake))
end
end HT
namespace L2
open PySem PySem.Spec PyProof.Rows
abbrev TO:=St→Hp→(Option Int→Hp→Prop)→Prop
def PO (X:Cx) (e:Option Expr) (t:TO):Prop :=
 ∀ (pins:List (Addr×Obj)) (s:Shared) (σ:St) (H:Hp) (Q:Option Int→Hp→Prop),Inv X pins σ H s→t σ H Q →
  wpAny (model X.prog X.w) X.A (evalPart e X.env) (fun u s'=>∃ o H',Inv X pins σ H' s'∧IsPart u o∧Q o H') X.xe s
def ZwR:TO:=fun _ H Q=>Q none H
def ZBc (t:TE):TO:=fun σ H Q=>t σ H fun x H1=>∃ i,x=.int i∧Q (some i) H1
section
variable {X:Cx} {e:Expr} {te:TE} {lo hi:Option Expr} {tl th:TO} {pos p2:Pos}
theorem ZvZ:PO X none ZwR:=by
 intro pins s σ H Q I h
 rw [evalPart_none]
 exact wpAny_pure ⟨none,H,I,.none,h⟩
theorem ZwE (h:PE X e te):PO X (some e) (ZBc te):=by
 intro pins s σ H Q I hw
 rw [evalPart_some]
 refine thn (h pins s σ H _ I hw) fun u s1 zz48=>?_
 obtain ⟨x,H1,I1,r1,q1⟩:=zz48
 obtain ⟨i,rfl,q⟩:=q1
 obtain ⟨t,rfl⟩:=r1
 exact ⟨some i,H1,I1,.int i t,q⟩
def SlR (X:Cx) (r:V→Option Int→Option Int→Hp→VK→Prop):Prop :=
 ∀ (pins:List (Addr×Obj)) (s:Shared) (σ:St) (H:Hp) (x:V) (v vl vu:Value) (lo hi:Option Int) (sl:Addr) (Q:VK),Inv X pins σ H s→RelV x v→s.heap.IsSliceOf sl vl vu .none→IsPart vl lo→IsPart vu hi→r x lo hi H Q →
  ∃ T id,typeLookup (.type T) "__getitem__"=pure (some (.builtin id))∧s.TypeIs v T∧wpAny (model X.prog X.w) X.A (getItem v (.ref sl)) (EP X pins σ Q) X.xe s
theorem SlR.or {r r':V→Option Int→Option Int→Hp→VK→Prop} (h:SlR X r) (h':SlR X r'):SlR X (fun x lo hi H Q=>r x lo hi H Q∨r' x lo hi H Q):=by
 intro pins s σ H x v vl vu lo hi sl Q I rx hs pl pu q
 rcases q with q | q
 ·exact h pins s σ H x v vl vu lo hi sl Q I rx hs pl pu q
 ·exact h' pins s σ H x v vl vu lo hi sl Q I rx hs pl pu q
def tSl (r:V→Option Int→Option Int→Hp→VK→Prop) (te:TE) (tl th:TO):TE:=fun σ H Q=>te σ H fun x H1=>tl σ H1 fun l H2=>th σ H2 fun u H3=>r x l u H3 Q
theorem Zoc {r:V→Option Int→Option Int→Hp→VK→Prop} (hr:SlR X r) (he:PE X e te) (hl:PO X lo tl) (hu:PO X hi th):PE X (.Subscript e (.Slice lo hi none p2) pos) (tSl r te tl th):=by
 intro pins s σ H Q I h
 refine Subscript_ (thn (he pins s σ H _ I h) fun v s1 zz49=>?_)
 obtain ⟨x,H1,I1,r1,q1⟩:=zz49
 refine wpAny_Slice (thn (hl pins s1 σ H1 _ I1 q1) fun vl s2 ⟨l,H2,I2,pl,q2⟩=>thn (hu pins s2 σ H2 _ I2 q2) fun vu s3 ⟨u,H3,I3,pu,q3⟩=>?_)
 rw [evalPart_none]
 refine wpAny_pure ?_
 have I4:Inv X pins σ H3 { s3 with heap:=s3.heap.push { cls:=.type "slice",data:=.fields #[vl,vu,.none] } }:=I3.kept (t':=s3.toks) fun b ob q=>Heap.get?_push_of_some _ q
 obtain ⟨T,id,hT,ht,hg⟩:=hr pins { s3 with heap:=s3.heap.push { cls:=.type "slice",data:=.fields #[vl,vu,.none] } } σ H3 x v vl vu l u s3.heap.objs.size Q I4 r1 (Heap.IsSliceOf.new ..) pl pu q3
 show wpAny (model X.prog X.w) X.A (subscriptTail e (.Slice lo hi none p2) v (.ref s3.heap.objs.size)) (EP X pins σ Q) X.xe { s3 with heap:=s3.heap.push { cls:=.type "slice",data:=.fields #[vl,vu,.none] } }
 exact tail_any (ops:=[.ref s3.heap.objs.size,v]) ht hT hg (by with_unfolding_all rfl)
def Zuw (xs:List V) (lo hi:Option Int):List V:=(xs.drop (HT.sIx xs.length 0 lo)).take (HT.sIx xs.length xs.length hi - HT.sIx xs.length 0 lo)
theorem ZjE (xs:List V) (lo hi:Option Int):(Zuw xs lo hi).length≤xs.length:=by
 unfold Zuw
 rw [List.length_take,List.length_drop]
 omega
def ZAj (K:PySem.W.Frag):V→Option Int→Option Int→Hp→VK→Prop:=fun x lo hi H Q=>∃ a xs,x=.ref a∧SqT K H a xs ∧
 ¬ (HT.sIx xs.length 0 lo=0∧HT.sIx xs.length xs.length hi=xs.length)∧∀ p,H p=none→Q (.ref p) (upd H p (.tup (Zuw xs lo hi)))
theorem ZuJ:SlR X (ZAj X.K):=by
 intro pins s σ H x v vl vu lo hi sl Q I rx hs pl pu h
 obtain ⟨a,xs,rfl,hx,hw,q⟩:=h
 cases rx
 obtain ⟨its,r,ht,hz⟩:=I.tuple hx
 have hlen:its.toArray.size=xs.length:=by rw [List.size_toArray];exact r.length.symm
 refine ⟨"tuple",_,PyProof.Rows.slot_tuple_getitem.lookup,ht.typeIs,?_⟩
 refine HT.getItem_tuple_cut ht hs pl pu (by rw [hlen];exact hw) ?_ (by rw [hlen];exact hz)
 rw [hlen]
 refine ⟨.ref s.heap.objs.size,_,I.laid (t':=s.toks) (o:=.tup (Zuw xs lo hi)) (fun b ob q=>Heap.get?_push_of_some _ q) (Nat.le_refl _) ?_,rfl,q _ (I.hok.fresh (Nat.le_refl _))⟩
 exact ⟨Nat.le_trans (ZjE xs lo hi) hz,_,(r.drop (HT.sIx xs.length 0 lo)).take (HT.sIx xs.length xs.length hi - HT.sIx xs.length 0 lo),IsTup.new _ _⟩
def Zwn (K:PySem.W.Frag):R2:=fun x y H Q=>∃ a b xs ys,x=.ref a∧y=.ref b∧SqT K H a xs∧SqT K H b ys∧xs≠[]∧xs.length+ys.length≤sizeLine ∧
 (ys=[]→Q (.ref a) H)∧(ys≠[]→∀ p,H p=none→Q (.ref p) (upd H p (.tup (xs++ys))))
theorem Vals.nil_iff {xs:List V} {us:List Value} (r:Vals xs us):us=[]↔xs=[]:=by
 cases r with
 | nil=>simp
 | cons _ _=>simp
theorem Zwi:OpR X (binaryOp .Add) (Zwn X.K):=by
 walk_at "pd"
 obtain ⟨a,b,xs,ys,rfl,rfl,ha,hb,hx,hz,q1,q2⟩:=h
 cases rx
 cases ry
 obtain ⟨its,r1,p1,_⟩:=I.tuple ha
 obtain ⟨its2,r2,p2,_⟩:=I.tuple hb
 refine HT.cat_tup p1 p2 (fun z=>hx (r1.nil_iff.mp z)) (fun z=>⟨.ref a,H,I,rfl,q1 (r2.nil_iff.mp z)⟩) (fun z=>?_) (by rw [← r1.length,← r2.length];exact hz)
 refine ⟨.ref s.heap.objs.size,_,I.laid (t':=s.toks) (o:=.tup (xs++ys)) (fun b ob q=>Heap.get?_push_of_some _ q) (Nat.le_refl _) ?_,rfl,q2 (fun w=>z (r2.nil_iff.mpr w)) _ (I.hok.fresh (Nat.le_refl _))⟩
 exact ⟨by rw [List.length_append];exact hz,_,r1.append r2,IsTup.new _ _⟩
end
def ixN (n:Nat) (i:Int):Option Nat:=if 0≤i then (if i < n then some i.toNat else none) else if -(n:Int)≤i then some (i+n).toNat else none
def atI {α:Type} (xs:List α) (i:Int):Option α:=(ixN xs.length i).bind fun j=>xs[j]?
theorem Zq2 {n:Nat} {i:Int} {j:Nat} (h:ixN n i=some j):seqIndex? i n=some j∧j < n∧-(n:Int)≤i∧i < n:=by
 unfold ixN at h
 by_cases h0:0≤i
 ·rw [if_pos h0] at h
  by_cases h1:i < n
  ·rw [if_pos h1] at h
   have e:i.toNat=j:=Option.some.inj h
   exact ⟨by rw [seqIndex_of h0 h1,e],by omega,by omega,h1⟩
  ·rw [if_neg h1] at h;cases h
 ·rw [if_neg h0] at h
  by_cases h1:-(n:Int)≤i
  ·rw [if_pos h1] at h
   have e:(i+n).toNat=j:=Option.some.inj h
   exact ⟨by rw [seqIndex_neg (by omega) h1,e],by omega,h1,by omega⟩
  ·rw [if_neg h1] at h;cases h
theorem ZnH {α:Type} {xs:List α} {i:Int} {v:α} (h:atI xs i=some v):∃ j,seqIndex? i xs.length=some j∧xs[j]?=some v∧j < xs.length∧-(xs.length:Int)≤i∧i < xs.length:=by
 unfold atI at h
 cases e:ixN xs.length i with
 | none=>rw [e] at h;cases h
 | some j =>
  rw [e] at h
  obtain ⟨h1,h2,h3,h4⟩:=Zq2 e
  exact ⟨j,h1,h,h2,h3,h4⟩
theorem Zjv {α:Type} {xs:List α} {j:Nat} {v:α} (h:xs[j]?=some v):atI xs (j:Int)=some v:=by
 have hj:j < xs.length:=(List.getElem?_eq_some_iff.mp h).1
 have e:ixN xs.length (j:Int)=some j:=by
  unfold ixN
  rw [if_pos (by omega),if_pos (by omega)];simp
 unfold atI;rw [e];exact h
def Zk9 (b:Expr):Prop:=∀ o i,subscripted b false o i=operate [o,i] (getItem o i)
def IxR (X:Cx) (r:R2):Prop :=
 ∀ (value slice:Expr) (pins:List (Addr×Obj)) (s:Shared) (σ:St) (H:Hp) (x y:V) (v u:Value) (Q:VK),Inv X pins σ H s→RelV x v→RelV y u→r x y H Q →
  subscripted slice false v u=operate [v,u] (getItem v u)→wpAny (model X.prog X.w) X.A (subscriptTail value slice v u) (EP X pins σ Q) X.xe s
def MtR (X:Cx) (id:String) (r:V→List V→Hp→VK→Prop):Prop :=
 ∀ (pins:List (Addr×Obj)) (s:Shared) (σ:St) (H:Hp) (x:V) (xs:List V) (v:Value) (us:List Value) (Q:VK),Inv X pins σ H s→RelV x v→Vals xs us→r x xs H Q →
  wpAny (model X.prog X.w) X.A (call (.builtin id) (v::us)) (EP X pins σ Q) X.xe s
section
variable {X:Cx} {a b:Expr} {ta tb:TE} {pos:Pos}
theorem IxR.or {r r':R2} (h:IxR X r) (h':IxR X r'):IxR X (fun x y H Q=>r x y H Q∨r' x y H Q):=by
 intro value slice pins s σ H x y v u Q I rx ry q hs
 rcases q with q | q
 ·exact h value slice pins s σ H x y v u Q I rx ry q hs
 ·exact h' value slice pins s σ H x y v u Q I rx ry q hs
theorem MtR.or {id:String} {r r':V→List V→Hp→VK→Prop} (h:MtR X id r) (h':MtR X id r'):MtR X id (fun x xs H Q=>r x xs H Q∨r' x xs H Q):=by
 intro pins s σ H x xs v us Q I rx rs q
 rcases q with q | q
 ·exact h pins s σ H x xs v us Q I rx rs q
 ·exact h' pins s σ H x xs v us Q I rx rs q
theorem ZA5 {r:R2} (hr:IxR X r) (ha:PE X a ta) (hb:PE X b tb) (hs:Zk9 b):PE X (.Subscript a b pos) (tOp r ta tb):=by
 intro pins s σ H Q I h
 exact Subscript_ (Zz2 ha hb I h fun v u s2 x y H2 I2 rx ry q=>hr a b pins s2 σ H2 x y v u Q I2 rx ry q (hs _ _))
def ZAl (K:PySem.W.Frag):R2:=fun x y H Q=>∃ p xs i v,x=.ref p∧y=.int i∧SqL K H p xs∧atI xs i=some v∧Q v H
def ZAp (K:PySem.W.Frag):R2:=fun x y H Q=>∃ p xs i v,x=.ref p∧y=.int i∧SqT K H p xs∧atI xs i=some v∧Q v H
def ZAk:R2:=fun x y H Q=>∃ z i c,x=.str z∧y=.int i∧z.length≤sizeLine∧atI z.cps.toList i=some c∧Q (.str ⟨#[c]⟩) H
theorem Zwa:IxR X (ZAl X.K):=by
 intro value slice pins s σ H x y v u Q I rx ry h hs
 obtain ⟨p,xs,i,z,rfl,rfl,hq,he,q⟩:=h
 cases rx
 obtain ⟨t,rfl⟩:=ry
 obtain ⟨its,r,pl,hz⟩:=I.list hq
 obtain ⟨j,h1,h2,h3,h4,h5⟩:=ZnH he
 obtain ⟨w,ew,rw'⟩:=r.get h2
 have hl:=r.length
 have hn:=Zks
 have fin:EP X pins σ Q w s:=⟨z,H,I,rw',q⟩
 by_cases h0:0≤i
 ·have hj:i.toNat=j:=by
   rw [seqIndex_of h0 h5] at h1
   exact Option.some.inj h1
  exact item_listR pl.isList h0 (by omega) (by rw [hj];simpa using ew) fin hs
 ·have hj:(i+(its.toArray.size:Int)).toNat=j:=by
   rw [seqIndex_neg (by omega) h4] at h1
   rw [List.size_toArray,← hl]
   exact Option.some.inj h1
  exact subscriptTail_builtinR (x:=w) pl.isList.typeIs slot_list_getitem.lookup
   (wpAny_getItem_list_neg (Q:=fun r s'=>r=w∧EP X pins σ Q r s') pl.isList (by omega) (by rw [List.size_toArray] <;> omega) (by omega) (by rw [hj];simpa using ew) ⟨rfl,fin⟩) hs
theorem Zy1:IxR X (ZAp X.K):=by
 intro value slice pins s σ H x y v u Q I rx ry h hs
 obtain ⟨p,xs,i,z,rfl,rfl,hq,he,q⟩:=h
 cases rx
 obtain ⟨t,rfl⟩:=ry
 obtain ⟨its,r,pl,hz⟩:=I.tuple hq
 obtain ⟨j,h1,h2,h3,h4,h5⟩:=ZnH he
 obtain ⟨w,ew,rw'⟩:=r.get h2
 have hl:=r.length
 have hn:=Zks
 have fin:EP X pins σ Q w s:=⟨z,H,I,rw',q⟩
 exact subscriptTail_builtinR (x:=w) pl.typeIs slot_tuple_getitem.lookup
  (getItem_tuple (j:=j) (Q:=fun r s'=>r=w∧EP X pins σ Q r s') pl (by omega) (by omega) (by rw [List.size_toArray,← hl];exact h1) (by simpa using ew) ⟨rfl,fin⟩) hs
theorem Zxu:IxR X ZAk:=by
 intro value slice pins s σ H x y v u Q I rx ry h hs
 obtain ⟨z,i,c,rfl,rfl,hz,he,q⟩:=h
 obtain ⟨t,rfl⟩:=rx
 obtain ⟨t',rfl⟩:=ry
 obtain ⟨j,h1,h2,h3,h4,h5⟩:=ZnH he
 have hl:z.cps.toList.length=z.length:=by simp [Str.length]
 rw [hl] at h1 h4 h5
 have hn:=Zks
 exact tail_any (typeIs_str s z t) slot_str_getitem.lookup (getItem_str (c:=c) (by
  have e1:decide (i < -(2 ^ 63:Int))=false:=decide_eq_false (by omega)
  have e2:decide (i≥2 ^ 63)=false:=decide_eq_false (by omega)
  rw [e1,e2,Bool.or_false]) (by rw [h1];simpa using h2) ⟨.str ⟨#[c]⟩,H,I.tok _,⟨_,rfl⟩,q⟩) hs
theorem ZpX (its:List Value) (n j:Nat) (u:Value):Obj.mapSeq (·.setIfInBounds j u) { cls:=.type "list",data:=.seq its.toArray n }={ cls:=.type "list",data:=.seq (its.set j u).toArray n }:=by
 simp [Obj.mapSeq]
theorem Inv.lst {pins:List (Addr×Obj)} {σ:St} {H:Hp} {s:Shared} {p:Addr} {xs:List V} (I:Inv X pins σ H s) (h:H p=some (.lst xs)) :
  ∃ (its:List Value) (n:Nat),Vals xs its∧s.heap.get? p=some { cls:=.type "list",data:=.seq its.toArray n }∧xs.length≤sizeLine:=by
 obtain ⟨z,its,n,r,e⟩:=I.hok p _ h
 exact ⟨its,n,r,e,z⟩
theorem Inv.lstUpd {pins:List (Addr×Obj)} {σ:St} {H:Hp} {s:Shared} {p:Addr} {xs ys:List V} {its its':List Value} {n n':Nat} {f:Obj→Obj} (I:Inv X pins σ H s) (h:H p=some (.lst xs))
  (ho:s.heap.get? p=some { cls:=.type "list",data:=.seq its.toArray n }) (hf:f { cls:=.type "list",data:=.seq its.toArray n }={ cls:=.type "list",data:=.seq its'.toArray n' }) (r:Vals ys its') (hz:ys.length≤sizeLine) (t:Nat) :
  Inv X pins σ (upd H p (.lst ys)) { s with heap:=s.heap.update p f,toks:=t }:=by
 have e:(s.heap.update p f).get? p=some { cls:=.type "list",data:=.seq its'.toArray n' }:=by
  rw [Heap.get?_update_self f ho (by rw [hf] <;> rfl),hf]
 refine I.write (x:=p) (e:=p) (by rw [h];trivial) (.inl rfl) (fun b u hb q=>(Heap.get?_update_other _ _ (Ne.symm hb)).trans q) ⟨_,e⟩ ?_
 exact ⟨hz,its',n',r,e⟩
def Zzj:V→V→V→Hp→(Hp→Prop)→Prop:=fun o i v H Q=>∃ p xs k j,o=.ref p∧i=.int k∧H p=some (.lst xs)∧ixN xs.length k=some j∧Q (upd H p (.lst (xs.set j v)))
theorem ZtP:ZBm X Zzj:=by
 intro pins s σ H o i v ov iv u Q I ro ri rv h
 obtain ⟨p,xs,k,j,rfl,rfl,hp,hj,q⟩:=h
 cases ro
 obtain ⟨t,rfl⟩:=ri
 obtain ⟨its,n,r,ho,hz⟩:=I.lst hp
 obtain ⟨h1,h2,h3,h4⟩:=Zq2 hj
 have hl:=r.length
 have hn:=Zks
 have I':Inv X pins σ (upd H p (.lst (xs.set j v))) { s with heap:=s.heap.update p (Obj.mapSeq (·.setIfInBounds j u)) } :=
  I.lstUpd hp ho (ZpX its n j u) (r.set rv j) (by rw [List.length_set];exact hz) s.toks
 by_cases h0:0≤k
 ·have hk:k.toNat=j:=by
   rw [seqIndex_of h0 h4] at h1
   exact Option.some.inj h1
  exact PySem.W.ki_setAt ho h0 (by omega) (by rw [List.size_toArray,← hl];exact h4) (by rw [hk];exact ⟨_,I',q⟩)
 ·have hk:(k+(its.toArray.size:Int)).toNat=j:=by
   rw [seqIndex_neg (by omega) h3] at h1
   rw [List.size_toArray,← hl]
   exact Option.some.inj h1
  exact PySem.W.ki_setBack ho (by omega) (by rw [List.size_toArray,← hl];exact h3) (by omega) (by rw [hk];exact ⟨_,I',q⟩)
theorem Zm3 (lo hi:Option Int) (n:Nat):(sliceBounds lo hi none n).1=((HT.sIx n 0 lo:Nat):Int)∧(sliceBounds lo hi none n).2.1=((HT.sIx n n hi:Nat):Int)∧(sliceBounds lo hi none n).2.2=1:=by
 refine ⟨?_,?_,rfl⟩
 ·cases lo with
  | none=>simp [sliceBounds,HT.sIx]
  | some i =>
   simp only [sliceBounds,HT.sIx,Option.getD_none,show (1:Int) > 0 by decide,if_true]
   by_cases h:i < 0
   ·simp only [h,if_true] <;> omega
   ·simp only [h,if_false] <;> omega
 ·cases hi with
  | none=>simp [sliceBounds,HT.sIx]
  | some i =>
   simp only [sliceBounds,HT.sIx,Option.getD_none,show (1:Int) > 0 by decide,if_true]
   by_cases h:i < 0
   ·simp only [h,if_true] <;> omega
   ·simp only [h,if_false] <;> omega
theorem Zly (its:List Value) (lo hi:Option Int):slicePick its.toArray lo hi none=((its.drop (HT.sIx its.length 0 lo)).take (HT.sIx its.length its.length hi - HT.sIx its.length 0 lo)).toArray:=by
 obtain ⟨h1,h2,h3⟩:=Zm3 lo hi its.toArray.size
 unfold slicePick
 rw [h1,h2,h3]
 simp only [sliceRange_one,pick_run,List.size_toArray] <;> rfl
def ZAf (K:PySem.W.Frag):V→Option Int→Option Int→Hp→VK→Prop:=fun x lo hi H Q=>∃ a xs,x=.ref a∧SqL K H a xs∧∀ p,H p=none→Q (.ref p) (upd H p (.lst (Zuw xs lo hi)))
theorem Zsj:SlR X (ZAf X.K):=by
 intro pins s σ H x v vl vu lo hi sl Q I rx hs pl pu h
 obtain ⟨a,xs,rfl,hx,q⟩:=h
 cases rx
 obtain ⟨its,r,ht,hz⟩:=I.list hx
 have hlen:=r.length
 refine ⟨"list",_,slot_list_getitem.lookup,ht.isList.typeIs,?_⟩
 refine wpAny_getItem_list_slice ht.isList hs pl pu .none (by simp) ?_ (by rw [List.size_toArray] <;> omega)
 rw [Zly,← hlen]
 refine ⟨.ref s.heap.objs.size,_,I.laid (t':=s.toks) (o:=.lst (Zuw xs lo hi)) (fun b ob q=>Heap.get?_push_of_some _ q) (Nat.le_refl _) ?_,rfl,q _ (I.hok.fresh (Nat.le_refl _))⟩
 exact ⟨Nat.le_trans (ZjE xs lo hi) hz,_,0,(r.drop (HT.sIx xs.length 0 lo)).take (HT.sIx xs.length xs.length hi - HT.sIx xs.length 0 lo),Heap.get?_push_size _ rfl⟩
def ZjM:V→Bool
 | .non=>true
 | .bl _=>true
 | .int _=>true
 | .str _=>true
 | _=>false
def eqV:V→V→Bool
 | .non,.non=>true
 | .bl a,.bl b=>a==b
 | .bl a,.int b=>(if a then 1 else 0)==b
 | .int a,.bl b=>a==(if b then 1 else 0)
 | .int a,.int b=>a==b
 | .str a,.str b=>a==b
 | _,_=>false
theorem Zmk {A:Around} {s:Shared} {y x:V} {u v:Value} (ry:RelV y u) (rx:RelV x v) (fy:ZjM y=true) (fx:ZjM x=true):SeqAt.EqAt A s u v (eqV y x):=by
 cases y with
 | non =>
  cases ry
  cases x with
  | non=>cases rx;exact SeqAt.EqAt.same _
  | bl b=>cases rx;exact SeqAt.EqAt.none_bool b
  | int b=>obtain ⟨t,rfl⟩:=rx;exact SeqAt.EqAt.none_int b t
  | str b=>obtain ⟨t,rfl⟩:=rx;exact SeqAt.EqAt.none_str b t
  | _=>exact absurd (show false=true from fx) Bool.false_ne_true
 | bl a =>
  cases ry
  cases x with
  | non=>cases rx;exact SeqAt.EqAt.bool_none a
  | bl b=>cases rx;exact SeqAt.EqAt.bool_bool a b
  | int b=>obtain ⟨t,rfl⟩:=rx;exact SeqAt.EqAt.bool_int a b t
  | str b=>obtain ⟨t,rfl⟩:=rx;exact SeqAt.EqAt.bool_str a b t
  | _=>exact absurd (show false=true from fx) Bool.false_ne_true
 | int a =>
  obtain ⟨t',rfl⟩:=ry
  cases x with
  | non=>cases rx;exact SeqAt.EqAt.int_none a t'
  | bl b=>cases rx;exact SeqAt.EqAt.int_bool a t' b
  | int b=>obtain ⟨t,rfl⟩:=rx;exact SeqAt.EqAt.int_int a t' b t
  | str b=>obtain ⟨t,rfl⟩:=rx;exact SeqAt.EqAt.int_str a t' b t
  | _=>exact absurd (show false=true from fx) Bool.false_ne_true
 | str a =>
  obtain ⟨t',rfl⟩:=ry
  cases x with
  | non=>cases rx;exact SeqAt.EqAt.str_none a t'
  | bl b=>cases rx;exact SeqAt.EqAt.str_bool a t' b
  | int b=>obtain ⟨t,rfl⟩:=rx;exact SeqAt.EqAt.str_int a t' b t
  | str b=>obtain ⟨t,rfl⟩:=rx;exact SeqAt.EqAt.str_str a t' b t
  | _=>exact absurd (show false=true from fx) Bool.false_ne_true
 | _=>exact absurd (show false=true from fy) Bool.false_ne_true
def eqU (x:V) (u:Value):Bool:=match u with
 | .none=>eqV .non x
 | .bool b=>eqV (.bl b) x
 | .int i _=>eqV (.int i) x
 | .str z _=>eqV (.str z) x
 | _=>false
theorem Zvc {x y:V} {u:Value} (r:RelV y u) (f:ZjM y=true):eqU x u=eqV y x:=by
 cases y with
 | non=>cases r;rfl
 | bl b=>cases r;rfl
 | int i=>obtain ⟨t,rfl⟩:=r;rfl
 | str z=>obtain ⟨t,rfl⟩:=r;rfl
 | _=>exact absurd (show false=true from f) Bool.false_ne_true
theorem ZiX {x:V}:∀ {xs:List V} {us:List Value},Vals xs us→xs.all ZjM=true→us.any (eqU x)=xs.any fun y=>eqV y x
 | _,_,.nil,_=>rfl
 | y::xs,u::us,.cons r t,f=>by
  rw [List.all_cons,Bool.and_eq_true] at f
  rw [List.any_cons,List.any_cons,Zvc r f.1,ZiX t f.2]
theorem Zhm {A:Around} {s:Shared} {x:V} {v:Value} (rx:RelV x v) (fx:ZjM x=true):∀ {xs:List V} {us:List Value},Vals xs us→xs.all ZjM=true→∀ u∈us,SeqAt.EqAt A s u v (eqU x u)
 | _,_,.nil,_=>fun u hu=>by cases hu
 | y::xs,u::us,.cons r t,f=>fun u' hu=>by
  rw [List.all_cons,Bool.and_eq_true] at f
  rcases List.mem_cons.mp hu with rfl | hu
  ·rw [Zvc r f.1];exact Zmk r rx f.1 fx
  ·exact Zhm rx fx t f.2 u' hu
def inV (x:V) (xs:List V):Bool:=xs.any fun y=>eqV y x
def rIn (K:PySem.W.Frag) (neg:Bool):R2:=fun x y H Q=>∃ p xs,y=.ref p∧(SqL K H p xs∨SqT K H p xs)∧ZjM x=true∧xs.all ZjM=true∧Q (.bl (if neg then !inV x xs else inV x xs)) H
theorem ZqE:OpR X (compareOp .In) (rIn X.K false):=by
 walk_at "pd"
 obtain ⟨p,xs,rfl,hq,fx,fs,q⟩:=h
 cases ry
 rcases hq with hq | hq
 ·obtain ⟨its,r,pl,hz⟩:=I.list hq
  refine SeqAt.in_listAt (eqU x) pl.isList (fun w hw=>Zhm rx fx r fs w (by simpa using hw)) ⟨.bl _,H,I,rfl,?_⟩
  walk_at "pw"
  exact q
 ·obtain ⟨its,r,pl,hz⟩:=I.tuple hq
  refine SeqAt.in_tupleAt (eqU x) pl (fun w hw=>Zhm rx fx r fs w (by simpa using hw)) ⟨.bl _,H,I,rfl,?_⟩
  walk_at "pw"
  exact q
theorem Zmv:OpR X (compareOp .NotIn) (rIn X.K true):=by
 walk_at "pd"
 obtain ⟨p,xs,rfl,hq,fx,fs,q⟩:=h
 cases ry
 rcases hq with hq | hq
 ·obtain ⟨its,r,pl,hz⟩:=I.list hq
  refine SeqAt.notIn_listAt (eqU x) pl.isList (fun w hw=>Zhm rx fx r fs w (by simpa using hw)) ⟨.bl _,H,I,rfl,?_⟩
  walk_at "pw"
  exact q
 ·obtain ⟨its,r,pl,hz⟩:=I.tuple hq
  refine SeqAt.notIn_tupleAt (eqU x) pl (fun w hw=>Zhm rx fx r fs w (by simpa using hw)) ⟨.bl _,H,I,rfl,?_⟩
  walk_at "pw"
  exact q
theorem CallR.or {f:Value} {r r':List V→Hp→VK→Prop} (h:CallR X f r) (h':CallR X f r'):CallR X f (fun xs H Q=>r xs H Q∨r' xs H Q):=by
 intro pins s σ H xs us Q I rs q
 rcases q with q | q
 ·exact h pins s σ H xs us Q I rs q
 ·exact h' pins s σ H xs us Q I rs q
theorem Zmt:CallR X (.type "list") (fun xs H Q=>∃ p ys,xs=[.ref p]∧(SqL X.K H p ys∨SqT X.K H p ys)∧∀ l,H l=none→Q (.ref l) (upd H l (.lst ys))):=by
 intro pins s σ H xs us Q I r h
 obtain ⟨p,ys,rfl,hq,q⟩:=h
 obtain ⟨u,rfl,rx⟩:=Zlf r
 cases rx
 have fin:∀ (its:List Value),Vals ys its→ys.length≤sizeLine→∀ (h':Heap) (c':Nat),(∀ b o',s.heap.get? b=some o'→h'.get? b=some o') →
   h'.get? s.heap.objs.size=some { cls:=.type "list",dict:=none,data:=.seq its.toArray c',slots:=#[] }→EP X pins σ Q (.ref s.heap.objs.size) { s with heap:=h' }:=fun its r' hz h' c' kp e =>
  ⟨.ref s.heap.objs.size,_,I.laid (t':=s.toks) kp (Nat.le_refl _) (show ObjOk X.prog X.w _ h' _ (.lst ys) from ⟨hz,its,c',r',e⟩),rfl,q _ (I.hok.fresh (Nat.le_refl _))⟩
 rcases hq with hq | hq
 ·obtain ⟨its,r',pl,hz⟩:=I.list hq
  have hlen:=r'.length
  obtain ⟨o,ho,hc,n,hd⟩:=pl.isList
  exact call_list_seq p (.inl rfl) ho hc hd (fun h' c' kp e=>fin its r' hz h' c' kp e) (by simp only [List.size_toArray] <;> omega)
 ·obtain ⟨its,r',pl,hz⟩:=I.tuple hq
  have hlen:=r'.length
  obtain ⟨o,ho,hc,n,hd⟩:=pl
  exact call_list_seq p (.inr rfl) ho hc hd (fun h' c' kp e=>fin its r' hz h' c' kp e) (by simp only [List.size_toArray] <;> omega)
theorem Zk4:CallR X (.type "tuple") (fun xs H Q=>∃ p ys,xs=[.ref p]∧((SqL X.K H p ys∧∀ l,H l=none→Q (.ref l) (upd H l (.tup ys)))∨(SqT X.K H p ys∧Q (.ref p) H))):=by
 intro pins s σ H xs us Q I r h
 obtain ⟨p,ys,rfl,h⟩:=h
 obtain ⟨u,rfl,rx⟩:=Zlf r
 cases rx
 rcases h with ⟨hq,q⟩ | ⟨hq,q⟩
 ·obtain ⟨its,r',pl,hz⟩:=I.list hq
  have hlen:=r'.length
  refine call_tuple_list pl.isList (fun h' kp=>?_) (by simp only [List.size_toArray] <;> omega)
  have I1:Inv X pins σ H { s with heap:=h' }:=I.kept (t':=s.toks) kp
  have I2:Inv X pins σ (upd H h'.objs.size (.tup ys)) { s with heap:=h'.push { cls:=.type "tuple",data:=.seq its.toArray } } :=
   I1.laid (t':=s.toks) (fun b o e=>Heap.get?_push_of_some _ e) (Nat.le_refl _) (show ObjOk X.prog X.w _ _ _ (.tup ys) from ⟨hz,its,r',IsTup.new _ _⟩)
  exact ⟨.ref h'.objs.size,_,I2,rfl,q _ (I1.hok.fresh (Nat.le_refl _))⟩
 ·obtain ⟨its,r',pl,hz⟩:=I.tuple hq
  exact call_tuple_same pl ⟨.ref p,H,I,rfl,q⟩
def tyV (K:PySem.W.Frag) (T:String) (x:V) (H:Hp):Prop:=match x with
 | .str _=>T="str"
 | .int _=>T="int"
 | .ref p=>(T="list"∧∃ xs,SqL K H p xs)∨(T="tuple"∧∃ o,K.lookup p=some o∧o.cls=.type "tuple"∧o.dict=none) ∨
   (T="dict"∧((∃ kvs,H p=some (.dK kvs))∨∃ kvs,H p=some (.dT kvs)))∨(T="set"∧∃ S n,H p=some (.set S n))
 | _=>False
theorem Zy0 {pins:List (Addr×Obj)} {σ:St} {H:Hp} {s:Shared} {T:String} {x:V} {v:Value} (I:Inv X pins σ H s) (r:RelV x v) (ty:tyV X.K T x H) :
  s.TypeIs v T∧∀ a,v=.ref a→∃ ob,s.heap.get? a=some ob∧ob.dict=none:=by
 cases x with
 | str z =>
  obtain ⟨t,rfl⟩:=r
  cases (show T="str" from ty)
  exact ⟨typeIs_str s z t,fun _ e=>nomatch e⟩
 | int i =>
  obtain ⟨t,rfl⟩:=r
  cases (show T="int" from ty)
  exact ⟨typeIs_int s i t,fun _ e=>nomatch e⟩
 | ref p =>
  cases r
  rcases ty with ⟨rfl,xs,hq⟩ | ⟨rfl,o,hk,hc,hd⟩ | ⟨rfl,hk⟩ | ⟨rfl,S,n,hk⟩
  ·obtain ⟨its,_,pl,_⟩:=I.list hq
   refine ⟨pl.isList.typeIs,fun a e=>?_⟩
   cases e
   obtain ⟨o,n,e,c,hd,_⟩:=pl
   exact ⟨o,e,hd⟩
  ·refine ⟨⟨o,I.kIn p o hk,hc⟩,fun a e=>?_⟩
   cases e
   exact ⟨o,I.kIn _ o hk,hd⟩
  ·have z:∃ o,s.heap.get? p=some o∧o.ExactDict:=by
    rcases hk with ⟨kvs,hk⟩ | ⟨kvs,hk⟩
    ·obtain ⟨_,_,_,_,o,_,_,e,ex,_⟩:=I.hok p _ hk
     exact ⟨o,e,ex⟩
    ·obtain ⟨_,_,_,_,o,_,_,e,ex,_⟩:=I.hok p _ hk
     exact ⟨o,e,ex⟩
   obtain ⟨o,e,ex⟩:=z
   refine ⟨⟨o,e,ex.1⟩,fun a e2=>?_⟩
   cases e2
   exact ⟨o,e,ex.2.1⟩
  ·obtain ⟨o,_,_,_,e,ex,_⟩:=I.hok p _ hk
   refine ⟨⟨o,e,ex.1⟩,fun a e2=>?_⟩
   cases e2
   exact ⟨o,e,ex.2.1⟩
 | _=>exact False.elim ty
def tBM (K:PySem.W.Frag) (T:String) (r:V→List V→Hp→VK→Prop) (to:TE) (t:TA):TE:=fun σ H Q=>to σ H fun x H1=>tyV K T x H1∧t σ H1 fun xs H2=>r x xs H2 Q
variable {o e:Expr} {es:List Expr} {to:TE} {t:TA} {name:Str} {apos cpos:Pos} {T id:String} {r:V→List V→Hp→VK→Prop}
theorem ZAe (pa:PlainAttrs T) (slot:Slot T name id) (hty:typeOf (.builtin id)=pure (.type "method_descriptor")) (hm:MtR X id r) (ho:PE X o to) (ha:PA X (e::es) t)
  (hbase:attributeBase o name X.env (eval o X.env)=eval o X.env:=by rfl)
  (hfew:((backTo cpos (starEach (e::es) X.env)).all (fun x=>!x.1)&&(backToKw cpos (keywordEach [] X.env)).all (fun x=>x.1.isSome)
   && decide ((e::es).length+([]:List Keyword).length+(if ([]:List Keyword).isEmpty then 0 else 1) < 30))=true:=by rfl)
  (hline:(apos.endLine==cpos.line)=true:=by rfl) (hs:starEach (e::es) X.env=(false,eval e X.env)::starEach es X.env:=by rfl) (hplain:(backTo cpos (starEach es X.env)).any (·.1)=false:=by rfl) :
  PE X (.Call (.Attribute o name apos) (e::es) [] cpos) (tBM X.K T r to t):=by
 intro pins s σ H Q I h
 refine wpAny_Call_method_late hbase hfew hline rfl (thn (ho pins s σ H _ I h) fun v s1 zz51=>?_)
 obtain ⟨x,H1,I1,r1,ty,q1⟩:=zz51
 obtain ⟨h1,h2⟩:=Zy0 I1 r1 ty
 refine ⟨T,id,pa,slot,hty,h1,h2,?_⟩
 have hA:=ha cpos pins s1 σ H1 _ I1 q1
 rw [hs] at hA ⊢
 refine Calls.callWith_builtin (by show (false||(backTo cpos (starEach es X.env)).any (·.1))=false;rw [hplain] <;> rfl) (Calls.evalArgs_plain ?_)
 exact thn hA (by rintro us s2 ⟨vs,H2,I2,r2,q2⟩;exact hm pins s2 σ H2 x vs v us Q I2 r1 r2 q2)
end
def MtM (X:Cx) (id:String) (r:V→List V→Hp→VK→Prop):Prop :=
 ∀ (pins:List (Addr×Obj)) (s:Shared) (σ:St) (H:Hp) (x:V) (xs:List V) (v:Value) (us:List Value) (Q:VK),Inv X pins σ H s→RelV x v→Vals xs us→r x xs H Q →
  wpAny (model X.prog X.w) X.A (call (.builtin id) (v::us)) (EP X pins σ Q) X.xe s
theorem Vals.one:∀ {x:V} {us:List Value},Vals [x] us→∃ u,us=[u]∧RelV x u
 | _,_,.cons r .nil=>⟨_,rfl,r⟩
theorem Vals.two:∀ {x y:V} {us:List Value},Vals [x,y] us→∃ u v,us=[u,v]∧RelV x u∧RelV y v
 | _,_,_,.cons r (.cons q .nil)=>⟨_,_,rfl,r,q⟩
theorem Vals.zero:∀ {us:List Value},Vals [] us→us=[]
 | _,.nil=>rfl
theorem Vals.eraseIdx:∀ {xs:List V} {us:List Value} (i:Nat),Vals xs us→Vals (xs.eraseIdx i) (us.eraseIdx i)
 | _,_,_,.nil=>.nil
 | _,_,0,.cons _ t=>t
 | _,_,i+1,.cons r t=>.cons r (Vals.eraseIdx i t)
section
variable {X:Cx} {pins:List (Addr×Obj)} {σ:St} {H:Hp} {s:Shared} {l b:Addr} {xs ys zs:List V}
theorem Inv.lset {its its':List Value} {n:Nat} {f:Array Value→Array Value} {t':Nat} (I:Inv X pins σ H s) (hH:H l=some (.lst xs))
  (e:s.heap.get? l=some { cls:=.type "list",data:=.seq its.toArray n }) (hf:f its.toArray=its'.toArray) (hv:Vals ys its') (hz:ys.length≤sizeLine) :
  Inv X pins σ (upd H l (.lst ys)) { s with heap:=s.heap.update l (Obj.mapSeq f),toks:=t' }:=by
 have q:=PySem.IsL.update e f
 rw [hf] at q
 refine I.write (x:=l) (e:=l) (by rw [hH];exact trivial) (.inl rfl) (fun b' u hb hu=>(Heap.get?_update_other s.heap (Obj.mapSeq f) (Ne.symm hb)).trans hu) ⟨_,q⟩ ?_
 exact ⟨hz,its',_,hv,q⟩
theorem Inv.lnew {its:List Value} {t':Nat} (I:Inv X pins σ H s) (hv:Vals ys its) (hz:ys.length≤sizeLine) :
  Inv X pins σ (upd H s.heap.objs.size (.lst ys)) { s with heap:=s.heap.push { cls:=.type "list",data:=.seq its.toArray },toks:=t' } :=
 I.laid (fun _ _ q=>Heap.get?_push_of_some _ q) (Nat.le_refl _) ⟨hz,its,0,hv,Heap.get?_push_size _ rfl⟩
theorem Inv.fresh (I:Inv X pins σ H s):H s.heap.objs.size=none:=I.hok.fresh (Nat.le_refl _)
theorem Inv.lstM (I:Inv X pins σ H s) (hH:H l=some (.lst xs)):xs.length≤sizeLine∧∃ (its:List Value) (n:Nat),Vals xs its∧xs.length=its.length∧s.heap.get? l=some { cls:=.type "list",data:=.seq its.toArray n }:=by
 obtain ⟨z,its,n,r,e⟩:=I.hok l _ hH
 exact ⟨z,its,n,r,r.length,e⟩
theorem Ztf {n:Nat} (h:n≤sizeLine):Builtin.List.listTooLong n=false:=by
 unfold Builtin.List.listTooLong
 exact decide_eq_false (by omega)
end
section
variable {X:Cx}
def Zwh:V→List V→Hp→VK→Prop:=fun x vs H Q=>∃ l xs y,x=.ref l∧vs=[y]∧H l=some (.lst xs)∧xs.length < sizeLine∧Q .non (upd H l (.lst (xs++[y])))
theorem Zso:MtM X "list.append" Zwh:=by
 intro pins s σ H x vs v us Q I rx rv h
 obtain ⟨l,xs,y,rfl,rfl,hH,hz,q⟩:=h
 cases rx
 obtain ⟨u,rfl,ru⟩:=rv.one
 obtain ⟨z,its,n,r,hl,e⟩:=I.lstM hH
 refine call_meets F.slot_list_append ⟨_,e,rfl⟩ F.entry_list_append (F.args_list_append_2 _ _) (PySem.list_append l its.toArray n u (by rw [List.size_toArray];omega)) ⟨e,?_⟩
 refine ⟨.non,_,I.lset (its':=its++[u]) hH e (by simp) (r.append (.cons ru .nil)) ?_,rfl,q⟩
 rw [List.length_append,List.length_singleton]
 omega
def ZvF:V→List V→Hp→VK→Prop:=fun x vs H Q=>∃ l b xs zs,x=.ref l∧vs=[.ref b]∧H l=some (.lst xs)∧H b=some (.lst zs)∧xs.length+zs.length≤sizeLine∧Q .non (upd H l (.lst (xs++zs)))
theorem Zro:MtM X "list.extend" ZvF:=by
 intro pins s σ H x vs v us Q I rx rv h
 obtain ⟨l,b,xs,zs,rfl,rfl,hH,hB,hz,q⟩:=h
 cases rx
 obtain ⟨u,rfl,ru⟩:=rv.one
 cases ru
 obtain ⟨z,its,n,r,hl,e⟩:=I.lstM hH
 obtain ⟨z2,its2,n2,r2,hl2,e2⟩:=I.lstM hB
 have hsz:its.toArray.size+its2.toArray.size≤sizeLine:=by rw [List.size_toArray,List.size_toArray];omega
 have hlong:¬ (!its.toArray.isEmpty&&Builtin.List.listTooLong (its.toArray.size+its2.toArray.size))=true:=by
  rw [Ztf hsz,Bool.and_false]
  exact Bool.false_ne_true
 refine call_meets F.slot_list_extend ⟨_,e,rfl⟩ F.entry_list_extend (F.args_list_extend_2 _ _)
  (AutoSeq1.list_extend_list_list_0 l its.toArray n b its2.toArray n2 hlong (by rw [List.size_toArray];omega) (by omega)) ⟨e,e2,?_⟩
 refine ⟨.non,_,I.lset (its':=its++its2) hH e (by simp) (r.append r2) ?_,rfl,q⟩
 rw [List.length_append]
 omega
def Zxp:R2:=fun x y H Q=>∃ l b xs zs,x=.ref l∧y=.ref b∧H l=some (.lst xs)∧H b=some (.lst zs)∧xs.length+zs.length≤sizeLine∧∀ p,H p=none→Q (.ref p) (upd H p (.lst (xs++zs)))
theorem Zxo:OpR X (binaryOp .Add) Zxp:=by
 walk_at "pd"
 obtain ⟨l,b,xs,zs,rfl,rfl,hH,hB,hz,q⟩:=h
 cases rx
 cases ry
 obtain ⟨z,its,n,r,hl,e⟩:=I.lstM hH
 obtain ⟨z2,its2,n2,r2,hl2,e2⟩:=I.lstM hB
 refine PySem.P.add_list e e2 ?_ (by rw [List.size_toArray,List.size_toArray];omega)
 have ea:its.toArray++its2.toArray=(its++its2).toArray:=by simp
 rw [ea]
 exact ⟨.ref _,_,I.lnew (t':=s.toks) (r.append r2) (by rw [List.length_append];omega),rfl,q _ I.fresh⟩
end
section
variable {prog:Program} {w:World} {A:Around} {E:Value→Shared→Prop} {s:Shared}
end
section
variable {X:Cx}
end
end L2
namespace Att
open PySem PySem.W PySem.Calls PyProof.Rows
theorem Zjy {P:Params} {h:Heap}:∀ (ns:List Int) (vs:List Value),WellAll P h vs (ns.map WData.int)→IntsAre vs ns:=by
 intro ns
 induction ns with
 | nil =>
  intro vs w
  rw [List.map_nil] at w
  cases w
  exact .nil
 | cons n ns ih =>
  intro vs w
  rw [List.map_cons] at w
  cases w with
  | cons a b =>
   cases a
   exact .cons _ _ (ih _ b)
theorem Zr5 {l:OpenLaw} {n:Nat} (hn:l.most=some n) {P:Params} {h:Heap} {args:List WData} {vals:List Value}
  (hpre:l.row.toRowW.claim.pre args=true) (hwl:WellAll P h vals args) :
  ∃ a vs ns,vals=[Value.ref a]∧args=[WData.list (ns.map WData.int)]∧h.get? a=some { cls:=.type "list",data:=.seq vs.toArray }∧IntsAre vs ns∧ns.length≤n:=by
 have hsh:WShape.hasAll [] args [.list .int]=true:=(pre_splitW hpre).1
 have hc:l.pre.holds [] { args:=args }=true:=(pre_splitW hpre).2
 obtain ⟨d,r,rfl,h1,h2⟩:=hasAllW_cons hsh
 obtain rfl:=hasAllW_nil h2
 obtain ⟨xs,rfl,h3⟩:=hasW_list h1
 obtain ⟨ns,rfl⟩:=items_int h3
 have hlen:ns.length≤n:=by
  unfold OpenLaw.pre at hc
  have h4:(WTm.not (.lt (.lit (.int (n:Int))) (.len (.arg 0)))).holds [] { args:=[.list (ns.map .int)] }=true:=by
   have h4:=(holds_andW hc).1
   rw [hn] at h4
   exact h4
  have h5:=condW_of h4 (w_not (w_lt w_lit (w_len_list (w_arg rfl))))
  rw [List.length_map] at h5
  refine Nat.le_of_not_lt fun q=>?_
  have q':(n:Int) < ((ns.length:Nat):Int):=by omega
  first
   | (rw [decide_eq_true q'] at h5;exact absurd h5 (by decide))
   | (simp at h5;omega)
 cases hwl with
 | cons w1 w2 =>
  cases w2
  cases w1 with
  | list ho hall=>exact ⟨_,_,ns,rfl,rfl,ho,Zjy ns _ hall,hlen⟩
theorem Zqi (l:OpenLaw) (args:List WData):l.row.toRowW.claim.post args (.bool true) args=true :=
 postW_of (r:=l.row.toRowW) (X:=(true==true))
  (show WShape.has [] (.bool true) .bool=true by first | rfl | decide | simp [WShape.has,WShape.arms,WShape.armsAll])
  (show (WTm.eq .res (.lit (.bool true))).value [] { args:=args,res:=some (.bool true),after:=args }=some (.bool (true==true)) from w_eq_bool (w_res rfl) w_lit) rfl
theorem attach_call {l:OpenLaw} {n:Nat} {q:Program} {loose:List Str} {XP:(Str→Option Value)→Heap→Prop} {YP:World→Heap→Prop} {d:DefRec}
  (hn:l.most=some n) (hdf:d.params.defaults=[])
  (call:∀ (w:World) (s₀ s₁:Shared) (mg mb:Str→Option Value) (fa:Addr) (o:Obj) (pm cd doc:Value) (a:Addr) (vs:List Value) (ns:List Int),
   Ground q loose [] XP w s₀ mg mb s₁.heap→YP w s₁.heap →
   s₁.heap.get? fa=some o→o.data=.func (docDef d.name d.params d.body d.scope pm cd doc)→s₁.heap.CodeRec cd d.name→mg d.name=some (.ref fa) →
   s₁.heap.get? a=some { cls:=.type "list",data:=.seq vs.toArray }→IntsAre vs ns→ns.length≤n→s₁.gens=#[] →
   codeAny (model l.prog w) callerA (.call (.ref fa) ⟨[.ref a],[]⟩) (fun r s'=>r=.ok (.ret (.bool true))∧OldK s₁.heap s'.heap∧s'.os=s₁.os∧AllBare s'.gens) s₁) :
  WalkO q loose XP YP l.row.toRowW d [] (fun f vs=>PySem.call f vs):=by
 intro w s₀ s₁ mg mb G Y fa o pm cd doc dV kV ho hd hcd hD hmg hg args vals as hpre hlay hrd hwl hlo
 obtain rfl:dV=.none:=Dflts.none hD hdf
 obtain rfl:kV=.none:=Dflts.noKw hD
 obtain ⟨a,vs,ns,rfl,rfl,hobj,hints,hlen⟩:=Zr5 hn hpre hwl
 refine enter_call (codeAny_mono (call w s₀ s₁ mg mb fa o pm cd doc a vs ns G Y ho (fd_plain hd) hcd hmg hobj hints hlen hg) fun r s' hq=>?_)
 obtain ⟨rfl,h2,h3,h4⟩:=hq
 exact ⟨.inl ⟨.bool true,.bool true,[],rfl,fun _=>rfl,.bool true,Zqi l _,fun _=>⟨List.Pairwise.nil,fun _ hm=>(nomatch hm)⟩⟩,h2,h3,h4⟩
section
variable {prog:Program} {w:World} {A:Around} {E:Value→Shared→Prop} {s:Shared} {K:Frag}
end
end Att
namespace L2
open PySem PySem.Spec PyProof.Rows
theorem Zmw:∀ {vs:List Value} {ns:List Int},IntsAre vs ns→Vals (ns.map V.int) vs
 | _,_,.nil=>.nil
 | _,_,.cons n t h=>.cons ⟨t,rfl⟩ (Zmw h)
def ZzX (H:Hp):Prop:=∀ b,H b=none∨∃ o xs,H b=some (.frz o (.lst xs))
theorem ZtK {P:Program} {w:World} {K:PySem.W.Frag} {mg mb:Str→Option Value} {CX:CXT} {k:Nat} {fa a:Addr} {fd:FuncData} {x:Str} {sp:Sp} {s₁:Shared} {vs:List Value} {ns:List Int}
  (KX:K.In s₁.heap) (hns:s₁.heap.Ns mainGlobals mg) (hb:s₁.heap.Ns builtinsNs mb) (hbb:∀ x:Str,x≠"__name__"→mb x=bootBuiltins x) (hlim:s₁.heap.NoLimit) (hg:s₁.gens=#[])
  (ha:s₁.heap.get? a=some { cls:=.type "list",data:=.seq vs.toArray }) (hi:IntsAre vs ns) (hl:ns.length≤sizeLine) (hr:Room k callerA)
  (F:∀ base:Heap,K.In base→base.Ns mainGlobals mg→FnOk P w K mg base CX k fa fd [x] sp) (hbind:∀ (s:Shared) (u:Value),BindsTo s fd ⟨[u],[]⟩ [(x,u)])
  (hsp:∀ H:Hp,ZzX H→SqL K H a (ns.map V.int)→sp [.ref a] H (fun v _=>v=.bl true) fun _ _ _=>False)
  (hCX:∀ H e s',CX [] H s₁ (fun _ _ _=>False) e s'→False) :
  codeAny (model P w) callerA (.call (.ref fa) ⟨[.ref a],[]⟩) (fun r s'=>r=.ok (.ret (.bool true))∧OldK s₁.heap s'.heap∧s'.os=s₁.os∧AllBare s'.gens) s₁:=by
 have rv:=Zmw hi
 have lenV:=hi.length
 have core:∀ H:Hp,ZzX H→SqL K H a (ns.map V.int)→HOk P w H s₁.heap→(∀ b,H b≠none→b=a)→(H a≠none→K.lookup a=none) →
   codeAny (model P w) callerA (.call (.ref fa) ⟨[.ref a],[]⟩) (fun r s'=>r=.ok (.ret (.bool true))∧OldK s₁.heap s'.heap∧s'.os=s₁.os∧AllBare s'.gens) s₁:=by
  intro H hO hS hok hA hK
  have base_of:∀ {b:Addr} {o:Obj},s₁.heap.get? b=some o→H b=none→(Ztj s₁.heap H).get? b=some o:=fun e n=>Zut e n
  have noA:∀ {b:Addr} {o:Obj} {es:Array DictEntry} {ep:Nat},s₁.heap.get? b=some o→o.data=.dict es ep→H b=none:=fun {b o es ep} e d=>by
   cases q:H b with
   | none=>rfl
   | some u =>
    have e':b=a:=hA b (by rw [q];simp)
    subst e'
    rw [ha] at e;cases e
    have d':Data.seq vs.toArray _=Data.dict es ep:=d
    cases d'
  have nsK:∀ {b:Addr} {m:Str→Option Value},s₁.heap.Ns b m→(Ztj s₁.heap H).Ns b m:=fun {b m} ⟨o,es,ep,e,d,r⟩=>⟨o,es,ep,base_of e (noA e d),d,r⟩
  have hKb:K.In (Ztj s₁.heap H):=fun b o e=>base_of (KX b o e) (by
   cases q:H b with
   | none=>rfl
   | some u =>
    have e':b=a:=hA b (by rw [q];simp)
    subst e'
    rw [hK (by rw [q];simp)] at e;cases e)
  have hM:Mod K mg (Ztj s₁.heap H):=⟨hKb,nsK hns,⟨mb,nsK hb,hbb⟩,let ⟨mc,h1,h2⟩:=hlim;⟨mc,nsK h1,h2⟩⟩
  have e0:Env0 P w K mg (Ztj s₁.heap H) callerA [] s₁ H:=⟨rfl,hM,fun b o e=>Zvo e,Nat.le_of_eq (Zrz _ _),trivial,fun b hb=>absurd (show b∈([]:List Addr) from hb) (by simp),hok,.of_eq hg⟩
  refine codeAny_mono ((F _ hKb (nsK hns)).run callerA [] s₁ H ⟨[.ref a],[]⟩ [.ref a] [.ref a] _ _ hr e0 (hbind s₁ (.ref a)) (.cons rfl .nil) (hsp H hO hS)) fun r s' h=>?_
  cases r with
  | error e=>exact (hCX H e s' h).elim
  | ok fl =>
   cases fl with
   | next=>exact False.elim h
   | brk=>exact False.elim h
   | cont=>exact False.elim h
   | ret u =>
    obtain ⟨v,H',os,bare,un,hok',r',q⟩:=h
    have q':v=.bl true:=q
    subst q'
    obtain rfl:u=Value.bool true:=r'
    refine ⟨rfl,OldK.of_keep fun b o e=>?_,os,bare⟩
    cases q:H b with
    | none=>exact un.keep b o e q (by intro z;exact absurd (show b∈([]:List Addr) from z) (by simp)) (by simp)
    | some u =>
     rcases hO b with z | ⟨ob,xs,z⟩
     ·rw [q] at z;cases z
     ·have z2:=un.frzs b ob _ z
      obtain ⟨e1,_⟩:=hok b _ z
      obtain ⟨e2,_⟩:=hok' b _ z2
      rw [e] at e1;cases e1
      exact e2
 cases hk:K.lookup a with
 | some o =>
  have e:=KX a o hk
  rw [ha] at e
  cases e
  refine core (fun _=>none) (fun _=>.inl rfl) (.inr ⟨_,vs.toArray,_,hk,rfl,rfl,rfl,by rw [List.size_toArray,lenV];exact hl,by simpa using rv⟩) (fun b u z=>by have z':(none:Option HO)=some u:=z;cases z') (fun b z=>absurd rfl z) fun z=>absurd rfl z
 | none =>
  refine core (fun b=>if b=a then some (.frz { cls:=.type "list",data:=.seq vs.toArray } (.lst (ns.map V.int))) else none) (fun b=>?_) (.inl (.inr ⟨{ cls:=.type "list",data:=.seq vs.toArray },if_pos rfl⟩)) (fun b u z=>?_) (fun b z=>?_) fun _=>hk
  ·by_cases hb:b=a
   ·exact .inr ⟨_,_,if_pos hb⟩
   ·exact .inl (if_neg hb)
  ·by_cases hb:b=a
   ·have z':=(if_pos hb).symm.trans z
    cases z'
    subst hb
    exact ⟨ha,by rw [List.length_map];exact hl,vs,_,rv,ha⟩
   ·have z':=(if_neg hb).symm.trans z
    cases z'
  ·by_cases hb:b=a
   ·exact hb
   ·exact absurd (if_neg hb) z
abbrev KOf {K:PySem.W.Frag} {h:Heap} (_:K.In h):PySem.W.Frag:=K
theorem ZwP {l:PySem.W.OpenLaw} {n k:Nat} {q:Program} {loose:List Str} {XP:(Str→Option Value)→Heap→Prop} {YP:World→Heap→Prop} {d:DefRec} {K:Params→PySem.W.Frag} {CX:World→CXT} {sp:World→Sp} {x:Str}
  (hn:l.most=some n) (hn2:n≤sizeLine) (hdf:d.params.defaults=[]) (hr:Room k callerA)
  (hY:∀ (w:World) (h:Heap),YP w h→(K w.params).In h)
  (F:∀ (w:World) (mg:Str→Option Value) (fa:Addr) (h:Heap),(K w.params).In h→h.Ns mainGlobals mg→mg d.name=some (.ref fa) →
   ∃ fd:FuncData,(∀ (s:Shared) (u:Value),BindsTo s fd ⟨[u],[]⟩ [(x,u)]) ∧
    ∀ base:Heap,(K w.params).In base→base.Ns mainGlobals mg→FnOk l.prog w (K w.params) mg base (CX w) k fa fd [x] (sp w))
  (hsp:∀ (w:World) (H:Hp) (a:Addr) (ns:List Int),ns.length≤n→ZzX H→SqL (K w.params) H a (ns.map V.int)→sp w [.ref a] H (fun v _=>v=.bl true) fun _ _ _=>False)
  (hCX:∀ (w:World) (H:Hp) (s:Shared) (e:Value) (s':Shared),CX w [] H s (fun _ _ _=>False) e s'→False) :
  PySem.W.WalkO q loose XP YP l.row.toRowW d [] (fun f vs=>PySem.call f vs):=by
 refine Att.attach_call hn hdf fun w s₀ s₁ mg mb fa o pm cd doc a vs ns G Y ho hd hcd hmg hobj hints hlen hg=>?_
 have KX:=hY w _ Y
 obtain ⟨fd,hb,hF⟩:=F w mg fa _ KX G.T.g hmg
 exact ZtK KX G.T.g G.T.b G.T.builtins G.T.nolimit hg hobj hints (Nat.le_trans hlen hn2) hr hF hb (fun H hO hS=>hsp w H a ns hlen hO hS) fun H e s'=>hCX w H s₁ e s'
abbrev CX0:CXT:=fun _ _ _ _ _ _=>False
abbrev E0:XK:=fun _ _ _=>False
structure Fun (K:PySem.W.Frag) (x qual:Str) (st:Stmt) (f:Addr) (fd:FuncData):Prop where
 ex:∃ (oc:Value) (od:Option Addr) (kV doc pm:Value) (an:Option Addr) (cdv ct:Value) (osl:Array (Option Value)),
  fd=PySem.W.fnOf x qual (ZfK st) (ZaZ st) (Zac st) .none kV doc pm an cdv ct∧K.lookup f=some ⟨oc,od,.func fd,osl⟩∧PySem.W.codeIn K cdv qual=true
 kp:PySem.W.keepIn K (.ref f)=true
section
variable {P:Program} {w:World} {K:PySem.W.Frag} {mg:Str→Option Value} {base:Heap}
theorem Fun.ok {x qual:Str} {st:Stmt} {f:Addr} {fd:FuncData} {N ps:List Str} {k:Nat} {sp:Sp} (F:Fun K x qual st f fd) (S:Zao N ps (Zac st)) (len:∀ vs H Q E,sp vs H Q E→vs.length=ps.length)
  (hbody:∀ (cdv:Value) (A:Around) (outer:List Env) (s:Shared) (H:Hp) (vs:List V) (Q:VK) (E:XK),Room k (A.deeper (envOfC qual (Zac st) s.heap.objs.size f cdv))→sp vs H Q E →
   ∃ t,PSs (Zid CX0 P w K mg base N qual (Zac st) f cdv A outer s H E).nox (ZaZ st) t∧t { nx:=fun _ H'=>Q .non H',rt:=Q } (ZgZ N vs) H):FnOk P w K mg base CX0 (k+1) f fd ps sp:=by
 walk_at "pk"
 refine Zum lk hcd S len fun A outer s H vs Q E hr hsp=>?_
 obtain ⟨t,h,q⟩:=hbody cdv A outer s H vs Q E hr hsp
 exact ⟨t,h.nox,q⟩
theorem Fun.binds {x qual:Str} {st:Stmt} {f:Addr} {fd:FuncData} {ps:List Str} (F:Fun K x qual st f fd)
  (h:∀ (kV doc pm:Value) (an:Option Addr) (cdv ct:Value) (us:List Value),us.length=ps.length→bindArgs (PySem.W.fnOf x qual (ZfK st) (ZaZ st) (Zac st) .none kV doc pm an cdv ct) ⟨us,[]⟩=pure (ps.zip us)):Binds K fd ps []:=by
 walk_at "pk"
 exact .all (h kV doc pm an cdv ct)
theorem ZuI {x qual:Str} {st:Stmt} {f:Addr} {oc:Value} {od an:Option Addr} {osl:Array (Option Value)} {kV doc pm cdv ct:Value} (l:K.lookup f=some ⟨oc,od,.func (PySem.W.fnOf x qual (ZfK st) (ZaZ st) (Zac st) .none kV doc pm an cdv ct),osl⟩)
  (c:PySem.W.codeIn K cdv qual=true) (k:PySem.W.keepIn K (.ref f)=true):Fun K x qual st f (PySem.W.fnOf x qual (ZfK st) (ZaZ st) (Zac st) .none kV doc pm an cdv ct):=⟨⟨oc,od,kV,doc,pm,an,cdv,ct,osl,rfl,l,c⟩,k⟩
end
section
variable {X:Cx}
end
theorem Zzg {c A B:Prop} [Decidable c] (h1:c→A) (h2:¬ c→B):if c then A else B:=by
 by_cases h:c
 ·rw [if_pos h]
  exact h1 h
 ·rw [if_neg h]
  exact h2 h
def Same (H H':Hp):Prop:=∀ b o,H b=some o→H' b=some o
theorem Same.refl (H:Hp):Same H H:=fun _ _ h=>h
theorem Same.trans {H H1 H2:Hp} (a:Same H H1) (b:Same H1 H2):Same H H2:=fun c o h=>b c o (a c o h)
theorem Same.free {H H':Hp} (e:Same H H') {l:Addr} (h:H' l=Option.none):H l=Option.none:=by
 cases q:H l with
 | none=>rfl
 | some o =>
  rw [e l o q] at h
  cases h
theorem Same.seq {K:PySem.W.Frag} {H H':Hp} {a:Addr} {xs:List V} (e:Same H H') (h:SqL K H a xs):SqL K H' a xs:=by
 rcases h with (h | ⟨o,h⟩) | h
 ·exact .inl (.inl (e _ _ h))
 ·exact .inl (.inr ⟨o,e _ _ h⟩)
 ·exact .inr h
section
variable {prog:Program} {w:World} {A:Around} {R:Result→Shared→Prop} {s:Shared}
theorem ZgY {elt target iter:Expr} {ifs:List Expr} {scope:Scope} {pos:Pos} {it acc:Value} {env:Env} {E':Value→Shared→Prop} (I:Nat→Shared→Prop)
  (hE:∀ e s',E' e s'→notedBy (model prog w) A env (fun e s'=>R (.error e) s') e s')
  (turn:∀ n s,I n s→wpAny (model prog w) A (pyNext it) (fun r s₁=>match r with
   | none=>R (.ok .next) s₁
   | some v=>wpAny (model prog w) A (letOwnedTupleGo target it v) (fun _ s₁'=>wpAny (model prog w) A (assign target env v) (fun _ s₂ =>
     wpAny (model prog w) A (forIn ifs true fun c r=>if r=true then do let ok ← isTrue c env (eval c env);pure (ForInStep.yield ok) else pure (ForInStep.yield r)) (fun ok s₃ =>
      if ok=true then wpAny (model prog w) A (eval elt env) (fun x s₄ =>
       wpAny (model prog w) A (call (.builtin "list.append") [acc,x]) (fun _ s₅=>∃ m,m < n∧I m s₅) E' s₄) E' s₃
      else ∃ m,m < n∧I m s₃) E' s₂) E' s₁') E' s₁) E' s)
  (n:Nat) (h:I n s) :
  codeAny (model prog w) A (.compLoop (.ListComp elt [⟨target,iter,ifs,0⟩] scope pos) 0 it acc env) R s:=by
 refine codeAny_loop rfl I (fun n s hI=>?_) n h
 show wpAny _ A ((compTurn (.ListComp elt [⟨target,iter,ifs,0⟩] scope pos) 0 it acc env).onRaise (fun x=>do noteFrame x env;theTreesLotGoes x)) _ _ s
 refine wpAny_noted ?_
 rw [compTurn_list]
 refine wpAny_bind (wpAny_standAt (wpAny_bind (wpAny_mono (turn n s hI) (fun r s₁ h₁=>?_) hE)))
 cases r with
 | none=>exact wpAny_pure h₁
 | some v =>
  refine wpAny_bind (wpAny_mono h₁ (fun _ s₁' h₁'=>?_) hE)
  refine wpAny_bind (wpAny_mono h₁' (fun _ s₂ h₂=>wpAny_bind (wpAny_mono h₂ (fun ok s₃ h₃=>?_) hE)) hE)
  cases ok with
  | false=>exact wpAny_pure ⟨rfl,h₃⟩
  | true =>
   exact wpAny_bind (wpAny_bind (wpAny_mono h₃ (fun x s₄ h₄=>wpAny_bind (wpAny_mono h₄ (fun _ s₅ h₅=>wpAny_pure (wpAny_pure ⟨rfl,h₅⟩)) hE)) hE))
end
def PF (X:Cx) (ifs:List Expr) (t:TT):Prop :=
 ∀ (pins:List (Addr×Obj)) (s:Shared) (σ:St) (H:Hp) (Q:Bool→Hp→Prop),Inv X pins σ H s→t σ H Q →
  wpAny (model X.prog X.w) X.A (forIn ifs true fun c r=>if r=true then do let ok ← isTrue c X.env (eval c X.env);pure (ForInStep.yield ok) else pure (ForInStep.yield r)) (TP X pins σ Q) X.xe s
def ZBG:TT:=fun _ H Q=>Q true H
theorem Zzc {X:Cx}:PF X [] ZBG:=fun _ _ _ H _ I h=>wpAny_tests_nil ⟨H,I,h⟩
theorem Zx7 {X:Cx} {c:Expr} {t:TT} (hc:PT X c t):PF X [c] t:=fun pins s σ H Q I h=>wpAny_tests_one (hc pins s σ H Q I h)
def cxB (X:Cx) (Nc:List Str) (scope:Scope) (cl:List (Str×Addr)) (C:Addr) (fp:List Addr) (s:Shared) (H:Hp):Cx :=
 { X with N:=Nc,s₀:=s,H₀:=H,env:=compEnvC scope cl C X.env,outer:=X.stack,ex:=fp,fn:=fun _=>false,pn:=[],xe:=fun _ _=>False }
structure Blk (X:Cx) (Nc:List Str) (scope:Scope) (cl:List (Str×Addr)) (cap:St→St):Prop where
 clos:closureFor scope X.env=pure cl
 kind:scope.kind=.function
 names:∀ x∈scope.names,x.2=.local→scope.names.lookup x.1=some .local
 nocell:∀ y∈scope.names,y.2≠.cell
 sub:∀ y c,cl.lookup y=some c→X.env.cells.lookup y=some c
 has:∀ y,((relabel scope X.env).names.lookup y=some .cell∨(relabel scope X.env).names.lookup y=some .free)→∃ c,cl.lookup y=some c
 take:∀ (σ:St) (i:Nat) (y:Str) (v:V),Nc[i]?=some y→(cap σ)[i]?=some (some v)→Vis (relabel scope X.env) y →
  ((relabel scope X.env).names.lookup y=some .cell∨(relabel scope X.env).names.lookup y=some .free)∧Vis X.env.scope y∧X.env.scope.names.lookup y≠some .local∧∃ j:Nat,X.N[j]?=some y∧σ[j]?=some (some v)
 len:∀ σ:St,(cap σ).length=Nc.length
theorem ZjO {scope:Scope} {env:Env} (h:∀ y∈scope.names,y.2≠.free):relabel scope env=scope:=by
 unfold relabel
 rw [map_eq_self (l:=scope.names) (fun x hx=>by
  obtain ⟨n,k⟩:=x
  have:(k==NameKind.free)=false:=by simpa using h _ hx
  simp [this])]
theorem ZgM {names:List (Str×NameKind)} {x:Str} {k:NameKind} (h:names.lookup x=some k):(x,k)∈names:=PySem.mem_of_lookup h
theorem ZrF {X:Cx} {Nc:List Str} {scope:Scope} (kind:scope.kind=.function) (all:∀ y∈scope.names,y.2≠.free∧y.2≠.cell) (names:∀ x∈scope.names,x.2=.local→scope.names.lookup x.1=some .local) :
  Blk X Nc scope [] (fun _=>List.replicate Nc.length none) where
 clos:=closureFor_none fun x hx=>(all x hx).1
 kind:=kind
 names:=names
 nocell:=fun y hy=>(all y hy).2
 sub:=fun y c h=>by cases h
 has:=fun y h=>by
  rw [ZjO fun z hz=>(all z hz).1] at h
  rcases h with h | h
  ·exact absurd rfl (all _ (ZgM h)).2
  ·exact absurd rfl (all _ (ZgM h)).1
 take:=fun σ i y v h1 h2 h3=>by
  rw [List.getElem?_replicate] at h2
  split at h2 <;> cases h2
 len:=fun σ=>List.length_replicate ..
def cOk (cap:St→St) (g:TG) (tt:TT) (te:TE) (K:List V→Hp→Prop) (σ:St) (J:It) (H1:Hp):Prop :=
 ∃ W:Nat→Nat→St→Hp→List V→Prop,(∃ m,W 0 m (cap σ) H1 [])∧∀ i m σ' H' ys,W i m σ' H' ys →
  (J.stop i H'∧K ys H') ∨
  (J.go i H'∧ys.length < sizeLine∧∃ N:St→Hp→List V→Prop,(∀ σ2 H2 ys2,N σ2 H2 ys2→∃ m',m' < m∧W (i+1) m' σ2 H2 ys2) ∧
   ∀ x H2,J.yld i H' x H2→g x σ' H2 fun σ3 H3=>tt σ3 H3 fun b H4=>if b=true then te σ3 H4 fun y H5=>N σ3 H5 (ys++[y]) else N σ3 H4 ys)
def ZtU (wi:TI) (cap:St→St) (g:TG) (tt:TT) (te:TE):TE:=fun σ H Q=>wi σ H fun J H1=>cOk cap g tt te (fun ys H'=>∀ a,H' a=none→Q (.ref a) (upd H' a (.lst ys))) σ J H1
section
variable {X:Cx} {elt tg iter:Expr} {ifs:List Expr} {scope:Scope} {pos:Pos} {g:TG} {tt:TT} {te:TE} {Nc:List Str} {cap:St→St} {cl:List (Str×Addr)}
theorem Zj9 (hc:X.calm=true) (B:Blk X Nc scope cl cap) (hg:∀ C fp s H,PG (cxB X Nc scope cl C fp s H) tg g) (ht:∀ C fp s H,PF (cxB X Nc scope cl C fp s H) ifs tt) (he:∀ C fp s H,PE (cxB X Nc scope cl C fp s H) elt te)
  {pins:List (Addr×Obj)} {σ:St} {H2:Hp} {s2:Shared} {E:Value→Shared→Prop} {RR:Value→Addr→Result→Shared→Prop} {J:It} {fp:List Addr} {it:Addr} {tn:Nat→Heap→Prop} {K:List V→Hp→Prop}
  (I2:Inv X pins σ H2 s2) (T:ZsJ X.prog X.w X.K tg J fp it tn) (st2:tn 0 s2.heap) (f2:∀ b∈fp,Zrv X pins H2 b) (w2:cOk cap g tt te K σ J H2)
  (fin:∀ (D C:Addr) (s':Shared) (H':Hp) (ys:List V) (oC:Obj),H' D=none→K ys H'→Inv X pins σ (upd H' D (.lst ys)) s'→Zrv X pins (upd H' D (.lst ys)) C→s'.heap.get? C=some oC→(∀ v,oC.data≠.cell v)→(∃ m,s'.heap.Ns C m)→RR (.ref D) C (.ok .next) s') :
  wpAny (model X.prog X.w) X.A (newList []) (fun acc s₃=>wpAny (model X.prog X.w) X.A (newFunctionEnv scope X.env.globals cl [] X.env.qual none .none (some X.env)) (fun cenv s₄ =>
   codeAny (model X.prog X.w) X.A (.compStart (.ListComp elt [⟨tg,iter,ifs,0⟩] scope pos) 0 (.ref it) acc { cenv with scope:=relabel scope X.env }) (RR acc cenv.locals) s₄) E s₃) E s2:=by
 refine wpAny_newObj_type (wpAny_newFunctionEnv B.nocell (by intro y hy;simp at hy) (fun h₁ hns₁ hsb₁=>?_) B.kind)
 dsimp only at hns₁ hsb₁ ⊢
 generalize hP2:s2.heap.push { cls:=.type "list",dict:=none,data:=.seq ([]:List Value).toArray }=P2 at hns₁ hsb₁ ⊢
 generalize hDD:s2.heap.objs.size=D at hns₁ hsb₁ ⊢
 have hCs:P2.objs.size=D+1:=by rw [← hP2,Heap.size_push,hDD]
 generalize hCC:P2.objs.size=C at hns₁ hsb₁ hCs ⊢
 have hDC:D≠C:=Nat.ne_of_lt (by rw [hCs];exact Nat.lt_succ_self _)
 have ltC:∀ b:Addr,b < D→b≠C:=fun b h=>Nat.ne_of_lt (by rw [hCs];exact Nat.lt_succ_of_lt h)
 have leC:D≤C:=by rw [hCs];exact Nat.le_succ _
 have old:∀ b o,s2.heap.get? b=some o→h₁.get? b=some o:=fun b o e=>by
  have hb:=Heap.lt_size e
  rw [hDD] at hb
  refine hsb₁.extBut b o (ltC b hb) (Heap.get?_push_of_some _ ?_)
  rw [← hP2]
  exact Heap.get?_push_of_some _ e
 have hacc:h₁.get? D=some { cls:=.type "list",data:=.seq #[] }:=by
  refine hsb₁.extBut D _ hDC (Heap.get?_push_of_some _ ?_)
  rw [← hP2,← hDD]
  exact Heap.get?_push_size _ rfl
 have lt2:∀ b o,s2.heap.get? b=some o→b < D:=fun b o e=>by rw [← hDD];exact Heap.lt_size e
 have fplt:∀ b∈fp,b < D:=fun b hb=>by
  obtain ⟨o,e,_⟩:=T.obj _ _ st2 b hb
  exact lt2 b o e
 have celt:∀ x c,X.env.cells.lookup x=some c→c < D:=fun x c e=>by
  obtain ⟨v,z⟩:=I2.cell x c e
  rw [← hDD]
  exact z.lt
 have pinlt:∀ p∈X.pn++pins,p.1 < D:=fun p hp=>lt2 _ _ (I2.pin p hp).1
 have fstk:∀ b∈fp,b∉frs X.stack:=fun b hb z=>(List.mem_cons.mp (I2.stkSub b z)).elim (f2 b hb).2.1 (f2 b hb).2.2.1
 have hDn:H2 D=none:=I2.hok.fresh (by rw [hDD];exact Nat.le_refl _)
 have hCn:H2 C=none:=I2.hok.fresh (by rw [hDD];exact leC)
 have sz0:X.s₀.heap.objs.size≤D:=by rw [← hDD];exact I2.sz
 let Xc:=cxB X Nc scope cl C fp s2 H2
 have okc:Xc.Ok:=by
  refine ⟨I2.ok.mod,?_,I2.ok.glob,I2.ok.blt,?_,fun x y c h1 h2=>I2.ok.inj x y c (B.sub x c h1) (B.sub y c h2),fun x hx=>B.has x hx,(fun x c h=>by cases h),I2.ok.hd,I2.ok.frames,.inl rfl,?_,I2.bs,Nat.le_trans I2.ok.bsz I2.sz,?_,fstk,I2.stack,I2.stkFree⟩
  ·exact B.kind
  ·show s2.heap.objs.size≤C
   rw [hDD];exact leC
  ·intro b hb
   refine ⟨?_,fun x c e=>?_⟩
   ·exact ltC b (fplt b hb)
   ·exact (f2 b hb).2.2.2.2.1 x c (B.sub x c e)
  ·intro b o e hb
   rcases (f2 b hb).2.2.2.1 with z | z
   ·exact I2.ok.noex b o e z
   ·exact absurd (Nat.lt_of_lt_of_le (Heap.lt_size (I2.ok.bs b o e).1) z) (Nat.lt_irrefl _)
 have I0:∀ tk,Inv Xc (X.pn++pins) (cap σ) H2 { s2 with heap:=h₁,toks:=tk }:=fun tk=>by
  refine ⟨okc,rfl,I2.bare,Un.kept old,⟨_,hns₁,fun i y v h1 h2 h3=>?_⟩,fun x c e=>?_,hCn,fun x c e=>I2.freeC x c (B.sub x c e),fun p hp=>?_,I2.hok.kept old,B.len σ⟩
  ·obtain ⟨k1,k2,k3,j,k4,k5⟩:=B.take σ i y v h1 h2 h3
   obtain ⟨m,hn,hl⟩:=I2.loc
   obtain ⟨u,r,l⟩:=hl j y v k4 k5 k2
   refine ⟨u,r,.inr ⟨k1,?_⟩⟩
   rcases l with ⟨l,_⟩ | ⟨_,c,e,z⟩
   ·exact absurd l k3
   ·obtain ⟨c',e'⟩:=B.has y k1
    have:=B.sub y c' e'
    rw [e] at this;cases this
    obtain ⟨oc,ec,dc⟩:=z
    exact ⟨c,e',oc,old _ _ ec,dc⟩
  ·obtain ⟨v,oc,ec,dc⟩:=I2.cell x c (B.sub x c e)
   exact ⟨v,oc,old _ _ ec,dc⟩
  ·have hp':p∈X.pn++pins:=by simpa [Xc,cxB] using hp
   obtain ⟨e,n,ne,nf,d⟩:=I2.pin p hp'
   exact ⟨old _ _ e,n,ltC _ (pinlt p hp'),fun z=>(List.mem_cons.mp (I2.stkSub _ z)).elim ne nf,d⟩
 have fpc:∀ {H':Hp} {o:Obj},(∀ b∈fp,H' b=none)→∀ b∈fp,Zrv Xc ((X.pn++pins)++[(D,o)]) H' b:=fun {H' o} hn b hb=>by
  refine ⟨hn b hb,ltC b (fplt b hb),fstk b hb,.inl hb,fun x c e=>(f2 b hb).2.2.2.2.1 x c (B.sub x c e),fun p hp=>?_⟩
  ·have hp':p∈X.pn++pins∨p=(D,o):=by
    rcases List.mem_append.mp hp with z | z
    ·cases z
    ·rcases List.mem_append.mp z with z | z
     ·exact .inl z
     ·exact .inr (List.mem_singleton.mp z)
   rcases hp' with z | z
   ·exact (f2 b hb).2.2.2.2.2 p z
   ·subst z
    exact Nat.ne_of_gt (fplt b hb)
 obtain ⟨W,⟨m0,w0⟩,turn⟩:=w2
 have loop:∀ tk,codeAny (model X.prog X.w) X.A (.compLoop (.ListComp elt [⟨tg,iter,ifs,0⟩] scope pos) 0 (.ref it) (.ref D) Xc.env) (RR (.ref D) C) { s2 with heap:=h₁,toks:=tk }:=by
  intro tk
  refine ZgY (E':=fun _ _=>False)
   (fun n s'=>∃ (i:Nat) (σ':St) (H':Hp) (ys:List V) (its:List Value) (k:Nat),Inv Xc (X.pn++pins) σ' H' s'∧tn i s'.heap∧(∀ b∈fp,H' b=none)∧H' D=none∧s'.heap.get? D=some { cls:=.type "list",data:=.seq its.toArray k } ∧
    Vals ys its∧ys.length≤sizeLine∧W i n σ' H' ys) (fun _ _ z=>z.elim) ?_ m0
   ⟨0,cap σ,H2,[],[],0,I0 tk,T.keep _ _ _ st2 fun b _ o e=>old b o e,fun b hb=>(f2 b hb).1,hDn,hacc,.nil,Nat.zero_le _,w0⟩
  rintro n s3 ⟨i,σ3,H3,ys,its,k,I3,st3,fr3,hD3,o3,rv3,hz3,w3⟩
  have I3':Inv Xc ((X.pn++pins)++[(D,{ cls:=.type "list",data:=.seq its.toArray k })]) σ3 H3 s3:=I3.pins_of fun p hp=>by
   have hp':p∈X.pn++pins∨p=(D,{ cls:=.type "list",data:=.seq its.toArray k }):=by
    rcases List.mem_append.mp hp with z | z
    ·exact .inl z
    ·exact .inr (List.mem_singleton.mp z)
   rcases hp' with z | z
   ·exact I3.pin p (by simpa [Xc,cxB] using z)
   ·subst z
    refine ⟨o3,hD3,hDC,fun z=>?_,(fun v z=>by cases z)⟩
    ·obtain ⟨_,o,ho,_⟩:=I2.stack.mem z
     exact absurd (lt2 _ _ ho) (Nat.lt_irrefl _)
  rcases turn i n σ3 H3 ys w3 with ⟨stop,qn⟩ | ⟨go,hlt,N,hN,step⟩
  ·refine thn (T.done Xc rfl rfl rfl hc i _ s3 σ3 H3 _ I3' (fpc fr3) st3 stop) fun r s4 zz1=>?_
   obtain ⟨hr,I4⟩:=zz1
   subst hr
   have pD:=I4.pin (D,{ cls:=.type "list",data:=.seq its.toArray k }) (by simp)
   obtain ⟨m4,hn4,_⟩:=I4.loc
   obtain ⟨oC,es,ep,eC,dC,rC⟩:=id hn4
   have hD4:H3 D=none:=hD3
   have hC4:H3 C=none:=I4.free
   have hupd:∀ b u,H3 b=some u→upd H3 D (.lst ys) b=some u:=fun b u e=>by rw [Za8 (ZcG e hD4)];exact e
   have un:Un (frs X.stack) fp H2 (upd H3 D (.lst ys)) s2.heap s4.heap:=by
    have u:=I4.base
    refine ⟨u.keep,u.slot,fun b o e n hx=>?_,u.there,fun b xs e=>hupd _ _ (u.tups b xs e),fun b o v e=>hupd _ _ (u.frzs b o v e),fun b ps e=>?_⟩
    ·rw [Za8 (Nat.ne_of_lt (lt2 b o e))]
     exact u.free b o e n hx
    ·obtain ⟨more,q⟩:=u.tbls b ps e
     exact ⟨more,hupd _ _ q⟩
   have hok:HOk X.prog X.w (upd H3 D (.lst ys)) s4.heap:=fun b u e=>by
    by_cases hb:b=D
    ·subst hb
     rw [Zbq] at e;cases e
     exact ⟨hz3,its,k,rv3,pD.1⟩
    ·rw [Za8 hb] at e
     exact (I4.hok b u e).stay (fun _ _ _ q=>q) (fun c q=>hupd _ _ q) fun c xs q=>hupd _ _ q
   have I5:Inv X pins σ (upd H3 D (.lst ys)) s4:=I2.call' (ch:=fp) I4.os un hok I4.bare fun b hb=>⟨(f2 b hb).2.2.2.1,(f2 b hb).2.1,(f2 b hb).2.2.2.2.1,(f2 b hb).2.2.2.2.2⟩
   refine fin D C s4 H3 ys oC hD4 qn I5 ⟨?_,?_,fun z=>?_,.inr (Nat.le_trans sz0 leC),fun x c e=>?_,fun p hp=>?_⟩ eC (fun v z=>by rw [dC] at z;cases z) ⟨m4,hn4⟩
   ·rw [Za8 (Ne.symm hDC)];exact hC4
   ·have:=I2.lt
    rw [hDD] at this
    exact Ne.symm (ltC _ this)
   ·exact I2.nofs (a:=C) (by rw [hDD];exact leC) z
   ·exact ltC _ (celt x c e)
   ·exact ltC _ (pinlt p hp)
  ·refine thn (T.item Xc rfl rfl rfl hc i _ s3 σ3 H3 _ I3' (fpc fr3) st3 go) fun r s4 zz2=>?_
   obtain ⟨u,hr,h4⟩:=zz2
   subst hr
   refine thn h4 fun _ s5 zz3=>?_
   obtain ⟨x,H5,I5,r5,y5,st5,fr5⟩:=zz3
   have I5':=I5.pinned (fpc fr5) (T.obj _ _ st5)
   refine thn (hg C fp s2 H2 _ s5 σ3 H5 x u _ I5' r5 (step x H5 y5)) fun _ s6 zz4=>?_
   obtain ⟨σ6,H6,I6,q6⟩:=zz4
   refine thn (ht C fp s2 H2 _ s6 σ6 H6 _ I6 q6) fun ok s7 zz5=>?_
   obtain ⟨H7,I7,q7⟩:=zz5
   have again:∀ {σ8:St} {H8:Hp} {s8:Shared},Inv Xc (((X.pn++pins)++[(D,{ cls:=.type "list",data:=.seq its.toArray k })])++ZkE fp s5.heap) σ8 H8 s8 →
     tn (i+1) s8.heap∧(∀ b∈fp,H8 b=none)∧s8.heap.get? D=some { cls:=.type "list",data:=.seq its.toArray k }∧H8 D=none:=fun {σ8 H8 s8} I8=>by
    refine ⟨T.keep _ _ _ st5 fun b hb o e=>(I8.pin (b,o) (List.mem_append_right _ (List.mem_append_right _ (Zey hb e)))).1,fun b hb=>?_,?_⟩
    ·obtain ⟨o,e,d⟩:=T.obj _ _ st5 b hb
     exact (I8.pin (b,o) (List.mem_append_right _ (List.mem_append_right _ (Zey hb e)))).2.1
    ·have:=I8.pin (D,{ cls:=.type "list",data:=.seq its.toArray k }) (by simp)
     exact ⟨this.1,this.2.1⟩
   cases ok with
   | false =>
    rw [if_neg Bool.false_ne_true] at q7 ⊢
    obtain ⟨m',hm,w7⟩:=hN _ _ _ q7
    obtain ⟨t7,f7,o7,d7⟩:=again I7
    exact ⟨m',hm,i+1,σ6,H7,ys,its,k,I7.unpinned.unpinned,t7,f7,d7,o7,rv3,hz3,w7⟩
   | true =>
    rw [if_pos rfl] at q7 ⊢
    refine thn (he C fp s2 H2 _ s7 σ6 H7 _ I7 q7) fun y s8 zz6=>?_
    obtain ⟨yv,H8,I8,r8,q8⟩:=zz6
    obtain ⟨m',hm,w8⟩:=hN _ _ _ q8
    obtain ⟨t8,f8,o8,d8⟩:=again I8
    have hlen:=rv3.length
    refine wpAny_list_append_plain (s:=s8) (items:=its.toArray) ⟨k,o8⟩ (fun h9 zz7 sb9=>?_) (by rw [List.size_toArray];omega)
    obtain ⟨k9,l9⟩:=zz7
    have I9:Inv Xc (X.pn++pins) σ6 H8 { s8 with heap:=h9 }:=by
     refine I8.unpinned.unpinned.turned (t':=s8.toks) (fun b o hb e=>(sb9.2 b hb).trans e) d8 ?_ (.inr ?_) (fun x c e=>?_) fun p hp=>?_
     ·exact hDC
     ·show s2.heap.objs.size≤D
      rw [hDD];exact Nat.le_refl _
     ·exact Nat.ne_of_lt (celt x c (B.sub x c e))
     ·exact Nat.ne_of_lt (pinlt p (by simpa [Xc,cxB] using hp))
    refine ⟨m',hm,i+1,σ6,H8,ys++[yv],its++[y],k9,I9,?_,f8,d8,?_,rv3.append (.cons r8 .nil),?_,w8⟩
    ·refine T.keep _ _ _ t8 fun b hb o e=>?_
     exact (sb9.2 b (Nat.ne_of_lt (fplt b hb))).trans e
    ·rw [l9]
     simp
    ·rw [List.length_append,List.length_singleton]
     omega
 have env_eq:Xc.env=compEnvC scope cl C X.env:=rfl
 exact codeAny_compStart_list (loop _) (T.self _ 0 _ _ _ (T.keep _ _ _ st2 fun b _ o e=>old b o e) (loop _))
theorem Zqx {wi:TI} (hc:X.calm=true) (hi:PI X tg iter wi) (B:Blk X Nc scope cl cap) (hg:∀ C fp s H,PG (cxB X Nc scope cl C fp s H) tg g) (ht:∀ C fp s H,PF (cxB X Nc scope cl C fp s H) ifs tt) (he:∀ C fp s H,PE (cxB X Nc scope cl C fp s H) elt te)
  (hs:∀ x,foldedSetIterable iter X.env x=pure x:=by intro _;rfl):PE X (.ListComp elt [⟨tg,iter,ifs,0⟩] scope pos) (ZtU wi cap g tt te):=by
 intro pins s σ H Q I h
 rw [eval_ListComp]
 refine wpAny_comprehension_free (use:=none) rfl hs B.clos B.kind B.names (thn (hi pins s σ H _ I h) fun v s1 h1=>thn h1 fun itv s2 h2=>?_)
 obtain ⟨it,fp,tn,J,H2,e,I2,T,st2,f2,w2⟩:=h2
 subst e
 refine Zj9 (RR:=fun acc C=>compPost (model X.prog X.w) X.A X.xe none (EP X pins σ Q) acc C) hc B hg ht he I2 T st2 f2 w2 ?_
 intro D C s' H' ys oC hD q I' F eC dC ⟨m,hn⟩
 obtain ⟨f0,f1,_,f3,f4,f5⟩:=F
 exact ⟨m,hn,fun h' sb=>⟨.ref D,_,I'.turned (t':=s'.toks) (fun b o hb e=>(sb.2 b hb).trans e) f0 f1 f3 f4 f5,rfl,q D hD⟩⟩
theorem Zpq {wi:TI} {i:Nat} {x:Str} {pos' spos:Pos} (hN:X.N.Nodup) (hix:X.N[i]?=some x) (hx:X.env.scope.names.lookup x=some .local) (hsw:swapsWith (.ListComp elt [⟨tg,iter,ifs,0⟩] scope pos) (some (.Name x pos')) spos.line X.env=pure true)
  (hc:X.calm=true) (hi:PI X tg iter wi) (B:Blk X Nc scope cl cap) (hg:∀ C fp s H,PG (cxB X Nc scope cl C fp s H) tg g) (ht:∀ C fp s H,PF (cxB X Nc scope cl C fp s H) ifs tt) (he:∀ C fp s H,PE (cxB X Nc scope cl C fp s H) elt te)
  (hs:∀ x,foldedSetIterable iter X.env x=pure x:=by intro _;rfl):PS X (.Assign [.Name x pos'] (.ListComp elt [⟨tg,iter,ifs,0⟩] scope pos) spos) (ZA9 (ZtU wi cap g tt te) (ZiA i)):=by
 intro pins s σ H D0 I h
 rw [exec_Assign_Name_used _ _ _ _ hsw]
 refine wpAny_bind (wpAny_standAt (wpAny_bind ?_))
 show wpAny _ X.A (do let _ ← comprehension (.ListComp elt [⟨tg,iter,ifs,0⟩] scope pos) scope X.env _ (newList []) false (eval iter X.env) (some (assign (.Name x pos') X.env))) _ _ s
 refine wpAny_bind (wpAny_mono (wpAny_comprehension_free (use:=some (assign (.Name x pos') X.env)) (Q:=fun _ s'=>SP X pins D0 .next s') rfl hs B.clos B.kind B.names
  (thn (hi pins s σ H _ I h) fun v s1 h1=>thn h1 fun itv s2 h2=>?_)) (fun _ s' hq=>wpAny_pure (wpAny_pure hq)) fun _ _ e=>e)
 obtain ⟨it,fp,tn,J,H2,e,I2,T,st2,f2,w2⟩:=h2
 subst e
 refine Zj9 (RR:=fun acc C=>compPost (model X.prog X.w) X.A X.xe (some (assign (.Name x pos') X.env)) (fun _ s'=>SP X pins D0 .next s') acc C) hc B hg ht he I2 T st2 f2 w2 ?_
 intro D C s' H' ys oC hD q I' F eC dC ⟨m,hn⟩
 obtain ⟨f0,f1,f2',f3,f4,f5⟩:=F
 have Ip:Inv X (pins++ZkE [C] s'.heap) σ (upd H' D (.lst ys)) s':=I'.pinned (fp:=[C]) (fun b hb=>by
  have e:b=C:=by simpa using hb
  subst e
  exact ⟨f0,f1,f2',f3,f4,f5⟩) fun b hb=>by
   have e:b=C:=by simpa using hb
   subst e
   exact ⟨oC,eC,dC⟩
 show wpAny _ X.A (assign (.Name x pos') X.env (.ref D)) _ _ _
 refine wpAny_assign_Name (Zho Ip hN hix (.inl hx) (v:=.ref D) rfl (fun s3 I3=>?_) (.inr hx))
 have pC:=I3.pin (C,oC) (List.mem_append_right _ (List.mem_append_right _ (Zey (by simp) eC)))
 obtain ⟨oC',es,ep,eC',dC',rC'⟩:=hn
 rw [eC] at eC';cases eC'
 refine ⟨m,⟨oC,es,ep,pC.1,dC',rC'⟩,fun h' sb=>⟨_,_,I3.unpinned.turned (t':=s3.toks) (fun b o hb e=>(sb.2 b hb).trans e) f0 f1 f3 f4 f5,q D hD⟩⟩
end
theorem ObjOk.at {P:Program} {w:World} {H:Hp} {h:Heap} {a:Addr} {o:HO} (x:ObjOk P w H h a o):∃ u,h.get? a=some u:=by
 cases o with
 | lst xs=>obtain ⟨_,_,_,_,e⟩:=x;exact ⟨_,e⟩
 | tup xs=>obtain ⟨_,_,_,ob,e,_⟩:=x;exact ⟨_,e⟩
 | dK kvs=>obtain ⟨_,_,_,_,o,_,_,e,_⟩:=x;exact ⟨_,e⟩
 | dT kvs=>obtain ⟨_,_,_,_,o,_,_,e,_⟩:=x;exact ⟨_,e⟩
 | set S n=>obtain ⟨o,_,_,_,e,_⟩:=x;exact ⟨_,e⟩
 | ins C dx fs=>obtain ⟨_,_,_,e,_⟩:=x;exact ⟨_,e⟩
 | own y=>obtain ⟨_,e⟩:=x;exact ⟨_,e⟩
 | xd fs=>obtain ⟨_,⟨_,_,_,e,_⟩,_⟩:=x;exact ⟨_,e⟩
 | rng lo hi=>obtain ⟨_,_,_,e⟩:=x;exact ⟨_,e⟩
 | frz ob u=>obtain ⟨e,_⟩:=x;exact ⟨_,e⟩
 | tbl ps=>exact ⟨_,(show h.get? a=some _ from x)⟩
 | met f y=>exact ⟨_,(show h.get? a=some _ from x)⟩
 | ext φ=>obtain ⟨_,⟨_,e⟩,_⟩:=x;exact ⟨_,e⟩
structure Fly (P:Program) (w:World) (outer:List Env) (H0:Hp) (s0:Shared) (H':Hp) (e C:Addr) (s':Shared):Prop where
 os:s'.os=s0.os
 bare:AllBare s'.gens
 un:Un (frs outer) [] H0 H' s0.heap s'.heap
 hok:HOk P w H' s'.heap
 fly:∃ (B:Heap) (a0:Value),Heap.FlyingW B outer e (.ref C) a0 s'.heap∧∀ b,b∉frs outer→((∃ o,s0.heap.get? b=some o)∨H' b≠none)→∃ o,B.get? b=some o
 new:s0.heap.get? e=none
 free:H' e=none
def CXe (P:Program) (w:World):CXT:=fun outer H0 s0 E ev s'=>∃ (e C:Addr) (H':Hp),ev=.ref e∧Fly P w outer H0 s0 H' e C s'∧E (.ref C) none H'
theorem ZyO {P:Program} {w:World} {outer:List Env} {H0 H':Hp} {h0 h1 h' B:Heap} (un:Un (frs outer) [] H0 H' h0 h1) (hok:HOk P w H' h1) (frees:∀ b∈frs outer,H' b=none)
  (ff:∀ b∈frs outer,∃ o,h1.get? b=some o∧∀ vs,o.data≠.fields vs) (s1:B.StaysIn h1) (cov:∀ b,b∉frs outer→((∃ o,h0.get? b=some o)∨H' b≠none)→∃ o,B.get? b=some o)
  (st:B.StaysIn h') (up:h1.UpToSlots h'):Un (frs outer) [] H0 H' h0 h'∧HOk P w H' h':=by
 have exact_:∀ b o,b∉frs outer→((∃ o,h0.get? b=some o)∨H' b≠none)→h1.get? b=some o→h'.get? b=some o:=fun b o hb hor e=>by
  obtain ⟨o',hB⟩:=cov b hb hor
  have:=s1 b o' hB
  rw [e] at this;cases this
  exact st b _ hB
 refine ⟨⟨fun b o q n hb hx=>exact_ b o hb (.inl ⟨o,q⟩) (un.keep b o q n hb hx),fun b o q n hb hx=>?_,un.free,fun b o q hx=>?_,un.tups,un.frzs,un.tbls⟩,fun a o e=>?_⟩
 ·obtain ⟨sl,e1⟩:=un.slot b o q n hb hx
  obtain ⟨o2,e2,d2⟩:=ff b hb
  rw [e1] at e2;cases e2
  obtain ⟨sl',e3⟩:=up b _ e1 d2
  exact ⟨sl',e3⟩
 ·obtain ⟨o',e1⟩:=un.there b o q hx
  by_cases hb:b∈frs outer
  ·obtain ⟨o2,e2,d2⟩:=ff b hb
   obtain ⟨sl',e3⟩:=up b _ e2 d2
   exact ⟨_,e3⟩
  ·exact ⟨o',exact_ b o' hb (.inl ⟨o,q⟩) e1⟩
 ·refine (hok a o e).stay (fun b u hb q=>?_) (fun _ q=>q) fun _ _ q=>q
  have hn:H' b≠none:=by
   rcases hb with rfl | hb
   ·rw [e];simp
   ·rw [hb];simp
  exact exact_ b u (fun z=>hn (frees b z)) (.inr hn) q
section
variable {X:Cx} {pins:List (Addr×Obj)} {σ:St} {H H':Hp} {s s':Shared} {e C:Addr}
theorem Fly.inv (I:Inv X pins σ H s) (F:Fly X.prog X.w X.stack H s H' e C s') {B h':Heap} {a0:Value} (fl:Heap.FlyingW B X.stack e (.ref C) a0 s'.heap)
  (cov:∀ b,b∉frs X.stack→((∃ o,s.heap.get? b=some o)∨H' b≠none)→∃ o,B.get? b=some o) (st:B.StaysIn h') (up:s'.heap.UpToSlots h'):Inv X pins σ H' { s' with heap:=h' }:=by
 have frees:∀ b∈frs X.stack,H' b=none:=fun b hb=>by
  obtain ⟨_,o,ho,_⟩:=I.stack.mem hb
  exact F.un.free b o ho (I.stkFree b hb) (by simp)
 obtain ⟨u,k⟩:=ZyO F.un F.hok frees (fun b hb=>(fl.2.2.1.mem hb).2) fl.1 cov st up
 exact I.call' (s':={ s' with heap:=h' }) (ch:=[]) F.os u k F.bare (fun b z=>absurd z (by simp))
end
theorem ZAF {P:Program} {w:World} {K:PySem.W.Frag} {mg:Str→Option Value} {base:Heap} {N:List Str} {qual:Str} {scope:Scope} {f:Addr} {cd:Value} {A:Around} {outer:List Env} {s:Shared} {H:Hp} {E:XK} :
  Zzk (CXe P w) (Zid (CXe P w) P w K mg base N qual scope f cd A outer s H E) E:=by
 intro pins σ Hc sc ev s' I ⟨e,C,H',ee,F,q⟩
 subst ee
 obtain ⟨B,a0,fl,cov⟩:=F.fly
 show wpAny _ _ (leaving _ (.ref e)) _ _ s'
 refine wpAny_leaves_onW I.ok.frames rfl fl fun h' fl' up=>?_
 have I':=F.inv I fl cov fl'.1 up
 refine ⟨e,C,H',rfl,⟨I'.os,I'.bare,I'.base,I'.hok,⟨B,a0,fl',fun b hb hor=>?_⟩,?_,F.free⟩,q⟩
 ·have hne:b∉frs (Zid (CXe P w) P w K mg base N qual scope f cd A outer s H E).stack:=fun z=>by
   rcases List.mem_cons.mp (I'.stkSub b z) with e1 | e1
   ·rcases hor with ⟨o,ho⟩ | hn
    ·have h1:=Heap.lt_size ho
     have h2:=I.ok.above
     rw [e1] at h1
     exact absurd (Nat.lt_of_lt_of_le h1 h2) (Nat.lt_irrefl _)
    ·rw [e1] at hn;exact hn I'.free
   ·exact hb e1
  refine cov b hne ?_
  rcases hor with ⟨o,ho⟩ | hn
  ·exact .inl (I.base.there b o ho (by intro z;cases z))
  ·exact .inr hn
 ·cases z:s.heap.get? e with
  | none=>rfl
  | some o =>
   obtain ⟨o',e1⟩:=I.base.there e o z (by intro z;cases z)
   rw [F.new] at e1;cases e1
theorem ZBa {P:Program} {w:World} {K:PySem.W.Frag} {mg:Str→Option Value} {base:Heap} {N:List Str} {qual:Str} {scope:Scope} {f:Addr} {cd:Value} {A:Around} {outer:List Env} {s:Shared} {H:Hp} {E:XK}
  {pins:List (Addr×Obj)} {σ:St} {Hc:Hp} {sc:Shared} {h1:Heap} {e C:Addr} {vs:List Value} (I:Inv (Zid (CXe P w) P w K mg base N qual scope f cd A outer s H E) pins σ Hc sc) (hx:Heap.MadeExcOf sc.heap h1 e (.ref C) vs) (q:E (.ref C) none Hc) :
  (Zid (CXe P w) P w K mg base N qual scope f cd A outer s H E).xe (.ref e) { sc with heap:=h1 }:=by
 have hin:∀ env∈(Zid (CXe P w) P w K mg base N qual scope f cd A outer s H E).stack,∀ b,env.frame=some b→b∈frs (Zid (CXe P w) P w K mg base N qual scope f cd A outer s H E).stack:=fun env he b hb=>List.mem_filterMap.mpr ⟨env,he,hb⟩
 show wpAny _ _ (leaving _ (.ref e)) _ _ _
 refine wpAny_leaves_madeW (base:=PySem.W.hideAll sc.heap (frs (Zid (CXe P w) P w K mg base N qual scope f cd A outer s H E).stack)) I.ok.frames rfl (fun b o z=>PySem.W.of_hideAll _ z) (PySem.W.funFrames_hide I.stack hin) hx fun h' t fl htup hnew up=>?_
 have cov:∀ b,b∉frs (Zid (CXe P w) P w K mg base N qual scope f cd A outer s H E).stack→((∃ o,sc.heap.get? b=some o)∨Hc b≠none)→∃ o,(PySem.W.hideAll sc.heap (frs (Zid (CXe P w) P w K mg base N qual scope f cd A outer s H E).stack)).get? b=some o:=fun b hb hor=>by
  have:∃ o,sc.heap.get? b=some o:=by
   rcases hor with z | z
   ·exact z
   ·cases e1:Hc b with
    | none=>exact absurd e1 z
    | some o=>exact (I.hok b o e1).at
  obtain ⟨o,ho⟩:=this
  exact ⟨o,PySem.W.hideAll_get _ ho hb⟩
 obtain ⟨u,k⟩:=ZyO (P:=P) (w:=w) (Un.kept hx.keeps) (I.hok.kept hx.keeps) I.stkFree (fun b hb=>by
  obtain ⟨_,o,ho,d⟩:=I.stack.mem hb
  exact ⟨o,hx.keeps _ _ ho,d⟩) (fun b o z=>hx.keeps _ _ (PySem.W.of_hideAll _ z)) cov fl.1 up
 have I':=I.call' (s':={ sc with heap:=h' }) (ch:=[]) rfl u k I.bare (fun b z=>absurd z (by simp))
 have en:Hc e=none:=by
  cases z:Hc e with
  | none=>rfl
  | some o =>
   obtain ⟨o',e1⟩:=(I.hok e o z).at
   rw [hx.new] at e1;cases e1
 refine ⟨e,C,Hc,rfl,⟨I'.os,I'.bare,I'.base,I'.hok,⟨_,_,fl,fun b hb hor=>?_⟩,?_,en⟩,q⟩
 ·have hne:b∉frs (Zid (CXe P w) P w K mg base N qual scope f cd A outer s H E).stack:=fun z=>by
   rcases List.mem_cons.mp (I'.stkSub b z) with e1 | e1
   ·rcases hor with ⟨o,ho⟩ | hn
    ·have h1:=Heap.lt_size ho
     have h2:=I.ok.above
     rw [e1] at h1
     exact absurd (Nat.lt_of_lt_of_le h1 h2) (Nat.lt_irrefl _)
    ·rw [e1] at hn;exact hn I'.free
   ·exact hb e1
  refine cov b hne ?_
  rcases hor with ⟨o,ho⟩ | hn
  ·exact .inl (I.base.there b o ho (by intro z;cases z))
  ·exact .inr hn
 ·cases z:s.heap.get? e with
  | none=>rfl
  | some o =>
   obtain ⟨o',e1⟩:=I.base.there e o z (by intro z;cases z)
   rw [hx.new] at e1;cases e1
theorem Zwr {K:PySem.W.Frag} {h:Heap} {C:Addr} {bmB:List Value} {newId:String} (X:K.In h) (q:PySem.W.excIn K C bmB newId=true) :
  ∃ bm N nm q bs hdct sn sub ab col dd k0 k1 k2 k3 k5 mN,h.get? C=some (excClassObj nm q C N bs bm hdct sn sub ab col dd k0 k1 k2 k3 k5 newId)∧h.Ns N mN∧mN "__init__"=none∧OwnTail h bmB bm:=by
 unfold PySem.W.excIn at q
 split at q
 ·rename_i dd cd sl ho
  split at q
  ·rename_i C' bm k0 k1 k2 k3 n k5 hm hs
   simp only [Bool.and_eq_true,beq_iff_eq,Bool.not_eq_true'] at q
   obtain ⟨⟨⟨⟨⟨rfl,rfl⟩,hdel⟩,ht⟩,hok⟩,hni⟩:=q
   obtain ⟨nm,bs,mro,ns,qn,hd,sn,sub,ab,col,del⟩:=cd
   dsimp only at hm hdel hok hni
   subst hm hdel
   have hsl:sl=#[k0,k1,k2,k3,some (.builtin n),k5]:=by
    obtain ⟨l⟩:=sl
    simp only at hs
    rw [hs]
   subst hsl
   exact ⟨bm,ns,nm,qn,bs,hd,sn,sub,ab,col,dd,k0,k1,k2,k3,k5,_,X _ _ ho,.of_isNs (PySem.W.isNs_of_in X hok),PySem.W.nsMap_none_of_in X hok hni,PySem.W.tail_of_in X ht⟩
  ·cases q
 ·cases q
def Zzp (C:Addr) (E:XK) (t:TA):TS:=fun _ σ H=>t σ H fun vs H1=>vs.length≤sizeLine∧E (.ref C) none H1
section
variable {P:Program} {w:World} {K:PySem.W.Frag} {mg:Str→Option Value} {base:Heap} {N:List Str} {qual:Str} {scope:Scope} {f:Addr} {cd:Value} {A:Around} {outer:List Env} {s:Shared} {H:Hp} {E:XK}
theorem Zuk {x:Str} {C:Addr} {B newId initId:String} {bm:List Value} {np cpos pos:Pos} {e₀:Expr} {Zch:List Expr} {t:TA}
  (hg:Gl (Zid (CXe P w) P w K mg base N qual scope f cd A outer s H E) x) (hm:mg x=some (.ref C)) (q:PySem.W.excIn K C bm newId=true) (FB:ExcBaseFacts B newId initId bm)
  (ha:PA (Zid (CXe P w) P w K mg base N qual scope f cd A outer s H E) (e₀::Zch) t)
  (he:starEach (e₀::Zch) (Zid (CXe P w) P w K mg base N qual scope f cd A outer s H E).env=(false,eval e₀ (Zid (CXe P w) P w K mg base N qual scope f cd A outer s H E).env)::starEach Zch (Zid (CXe P w) P w K mg base N qual scope f cd A outer s H E).env:=by rfl)
  (hplain:(backTo cpos (starEach Zch (Zid (CXe P w) P w K mg base N qual scope f cd A outer s H E).env)).any (·.1)=false:=by rfl) (hd:(x==("__debug__":Str))=false:=by decide) :
  PS (Zid (CXe P w) P w K mg base N qual scope f cd A outer s H E) (.Raise (some (.Call (.Name x np) (e₀::Zch) [] cpos)) none pos) (Zzp C E t):=by
 intro pins sc σ Hc D I h
 obtain ⟨tl,N',nm,q',bs,hdct,sn,sub,ab,col,dd,k0,k1,k2,k3,k5,mN,hC,hN,hni,T⟩:=Zwr I.ok.mod.kin q
 refine wpAny_Raise_call_subT (C:=C) (nm:=nm) (q:=q') (N:=N') (bs:=bs) (bm:=tl) (hdct:=hdct) (sn:=sn) (sub:=sub) (ab:=ab) (col:=col) (dd:=dd) (k0:=k0) (k1:=k1) (k2:=k2) (k3:=k3) (k5:=k5)
  FB (mN:=mN) (T.hasType FB.hasBase) (I.ok.hd rfl) (by rw [he];show (false||(backTo cpos (starEach Zch _)).any (·.1))=false;rw [hplain];rfl) hni (Zh0 I hg hm ⟨rfl,?_⟩ hd)
 have ha':=ha cpos pins sc σ Hc _ I h
 rw [he] at ha' ⊢
 refine Calls.evalArgs_plain (thn ha' fun us s1 zz1=>?_)
 obtain ⟨vs,H1,I1,r1,z1,q1⟩:=zz1
 exact ⟨rfl,by have:=r1.length;show us.length≤_;omega,I1.bk _ _ hC,hN.keeps I1.bk,T.keeps I1.bk,fun h' e hm'=>ZBa I1 hm' q1⟩
end
theorem Zna {K:PySem.W.Frag} {M:Model} {A:Around} {E:Value→Shared→Prop} {s:Shared} {e C D:Addr} {oe:Obj} {b:Bool} {Q:Bool→Shared→Prop} (X:K.In s.heap) (he:s.heap.get? e=some oe) (hcls:oe.cls=.ref C)
  (hD:PySem.W.typeIn K (.ref D)=some (.type "type")) (hT:(PySem.W.clsIn K D).isSome=true) (hB:PySem.W.subIn K (.ref D) (.type "BaseException")=some true) (hs:PySem.W.subIn K (.ref C) (.ref D)=some b) (h:Q b s) :
  wpAny M A (excMatches (.ref e) (.ref D)) Q E s:=by
 obtain ⟨hp,g,d,t,os⟩:=s
 have L1:PySem.W.Looks M hp (isInstance (.ref D) (.type "tuple")) false:=(PySem.W.looks_typeIn X hD).andThen (PySem.W.Looks.of_pure tc_notTuple)
 have L2:PySem.W.Looks M hp (isType (.ref D)) true:=by
  unfold PySem.W.clsIn at hT
  split at hT
  ·rename_i c' d' cd' sl' ho
   intro A' Q' E' s' k q
   unfold isType loadHead
   exact wpAny_bind (wpAny_loadPart (k _ _ (X _ _ ho)) (wpAny_pure q))
  ·cases hT
 have L3:PySem.W.Looks M hp (isExcClass (.ref D)) true:=by
  unfold isExcClass
  refine L2.andThen ?_
  rw [if_pos rfl]
  exact PySem.W.looks_subIn X hB
 have L4:PySem.W.Looks M hp (typeOf (.ref e)) (.ref C):=by
  rw [← hcls]
  exact (PySem.W.Looks.ld he).andThen .now
 have L5:=PySem.W.looks_subIn (M:=M) X hs
 unfold excMatches
 refine wpAny_bind (L1.at ?_)
 rw [if_neg Bool.false_ne_true]
 show wpAny M A (forIn [Value.ref D] PUnit.unit _ >>= _) Q E _
 rw [List.forIn_cons]
 refine wpAny_bind (wpAny_bind (wpAny_bind (L3.at ?_)))
 rw [if_neg (by decide)]
 refine wpAny_pure ?_
 refine wpAny_pure ?_
 refine wpAny_bind (L4.at ?_)
 rw [List.forIn_cons]
 refine wpAny_bind (wpAny_bind (wpAny_bind (L5.at ?_)))
 cases b with
 | true =>
  rw [if_pos rfl]
  exact wpAny_pure (wpAny_pure (wpAny_pure h))
 | false =>
  rw [if_neg Bool.false_ne_true]
  exact wpAny_pure (wpAny_pure (wpAny_pure h))
theorem Inv.gone {X:Cx} {pins:List (Addr×Obj)} {σ:St} {H:Hp} {s:Shared} {i:Nat} {n:Str} {w:Option Value} {m:Str→Option Value} {h':Heap} {tk:Nat} (I:Inv X pins σ H s) (hN:X.N.Nodup) (hi:X.N[i]?=some n)
  (hm:s.heap.Ns X.env.locals m) (hl:∀ (i:Nat) (x:Str) (v:V),X.N[i]?=some x→σ[i]?=some (some v)→Vis X.env.scope x→∃ u,RelV v u∧ZBj X.env s.heap m x u) (hn':h'.Ns X.env.locals (fun x=>if x=n then w else m x)) (hs:Heap.SameBut X.env.locals s.heap h') :
  Inv X pins (σ.set i none) H { s with heap:=h',toks:=tk }:=by
 have cne:=I.cne
 have hiσ:i < σ.length:=by rw [I.len];exact (List.getElem?_eq_some_iff.mp hi).1
 refine ⟨I.ok,I.os,I.bare,⟨fun b o e n hb hx=>?_,fun b o e n hb hx=>?_,I.base.free,fun b o e hx=>?_,I.base.tups,I.base.frzs,I.base.tbls⟩,⟨_,hn',fun j y v' e1 e2 e3=>?_⟩,fun y c e=>?_,I.free,I.freeC,fun p hp=>?_,fun b ob e=>?_,by simpa using I.len⟩
 ·exact (hs.2 b (Nat.ne_of_lt (Nat.lt_of_lt_of_le (Heap.lt_size e) I.ok.above))).trans (I.base.keep b o e n hb hx)
 ·obtain ⟨sl,e1⟩:=I.base.slot b o e n hb hx
  exact ⟨sl,(hs.2 b (Nat.ne_of_lt (Nat.lt_of_lt_of_le (Heap.lt_size e) I.ok.above))).trans e1⟩
 ·obtain ⟨o',e1⟩:=I.base.there b o e hx
  exact ⟨o',(hs.2 b (Nat.ne_of_lt (Nat.lt_of_lt_of_le (Heap.lt_size e) I.ok.above))).trans e1⟩
 ·by_cases hj:j=i
  ·subst hj
   rw [List.getElem?_set_self hiσ] at e2
   cases e2
  ·rw [List.getElem?_set_ne (Ne.symm hj)] at e2
   obtain ⟨u',r',q⟩:=hl j y v' e1 e2 e3
   refine ⟨u',r',?_⟩
   rcases q with ⟨k,e⟩ | ⟨k,c,e,z⟩
   ·refine .inl ⟨k,?_⟩
    have:y≠n:=fun e=>hj (Zls hN e1 (e▸hi))
    simp [this,e]
   ·exact .inr ⟨k,c,e,z.sameBut hs (cne y c e)⟩
 ·obtain ⟨w',z⟩:=I.cell y c e
  exact ⟨w',z.sameBut hs (cne y c e)⟩
 ·obtain ⟨e,n,ne,nf,d⟩:=I.pin p hp
  exact ⟨(hs.2 p.1 ne).trans e,n,ne,nf,d⟩
 ·refine (I.hok b ob e).stay (fun c w' hc q=>(hs.2 c ?_).trans q) (fun _ q=>q) fun _ _ q=>q
  rintro rfl
  rcases hc with hc | hc
  ·rw [← hc,I.free] at e;cases e
  ·rw [I.free] at hc;cases hc
theorem Inv.track {X:Cx} {pins:List (Addr×Obj)} {σ:St} {H:Hp} {s:Shared} {e:Addr} {o:HO} (I:Inv X pins σ H s) (hn:H e=none) (hL:e≠X.env.locals) (hc:∀ x c,X.env.cells.lookup x=some c→c≠e) (hp:∀ p∈X.pn++pins,p.1≠e)
  (h0:X.s₀.heap.get? e=none) (ok:ObjOk X.prog X.w (upd H e o) s.heap e o):Inv X pins σ (upd H e o) s:=by
 have hupd:∀ b u,H b=some u→upd H e o b=some u:=fun b u z=>by rw [Za8 (ZcG z hn)];exact z
 refine ⟨I.ok,I.os,I.bare,⟨I.base.keep,I.base.slot,fun b ob z n hx=>?_,I.base.there,fun b xs z=>hupd _ _ (I.base.tups b xs z),fun b ob u z=>hupd _ _ (I.base.frzs b ob u z),fun b ps z=>?_⟩,I.loc,I.cell,?_,fun x c z=>?_,fun p z=>?_,fun b u z=>?_,I.len⟩
 ·rw [Za8 (fun q=>by rw [q,h0] at z;cases z)]
  exact I.base.free b ob z n hx
 ·obtain ⟨more,q⟩:=I.base.tbls b ps z
  exact ⟨more,hupd _ _ q⟩
 ·rw [Za8 (Ne.symm hL)];exact I.free
 ·rw [Za8 (hc x c z)];exact I.freeC x c z
 ·obtain ⟨q1,q2,q3⟩:=I.pin p z
  exact ⟨q1,by rw [Za8 (hp p z)];exact q2,q3⟩
 ·by_cases hb:b=e
  ·subst hb
   rw [Zbq] at z;cases z
   exact ok
  ·rw [Za8 hb] at z
   exact (I.hok b u z).stay (fun _ _ _ q=>q) (fun c q=>hupd _ _ q) fun c xs q=>hupd _ _ q
def cxH (X:Cx) (e:Addr):Cx:={ X with A:=X.A.mark (some (.ref e)),calm:=false,xe:=fun _ _=>False }
theorem Inv.toH {X:Cx} {pins:List (Addr×Obj)} {σ:St} {H:Hp} {s:Shared} {e:Addr} (I:Inv X pins σ H s):Inv (cxH X e) pins σ H s :=
 ⟨⟨I.ok.mod,I.ok.kind,I.ok.glob,I.ok.blt,I.ok.above,I.ok.inj,I.ok.has,I.ok.cab,(fun z=>by cases z),I.ok.frames,I.ok.stk,I.ok.exf,I.ok.bs,I.ok.bsz,I.ok.noex,I.ok.exfs,I.ok.funs,I.ok.frf⟩,I.os,I.bare,I.base,I.loc,I.cell,I.free,I.freeC,I.pin,I.hok,I.len⟩
theorem Inv.ofH {X:Cx} {pins:List (Addr×Obj)} {σ:St} {H:Hp} {s:Shared} {e:Addr} (ok:X.Ok) (I:Inv (cxH X e) pins σ H s):Inv X pins σ H s :=
 ⟨ok,I.os,I.bare,I.base,I.loc,I.cell,I.free,I.freeC,I.pin,I.hok,I.len⟩
def cxT (X:Cx) (pn:List (Addr×Obj)) (xe:Value→Shared→Prop):Cx:={ X with pn:=pn,xe:=xe }
theorem Inv.toT {X:Cx} {pins:List (Addr×Obj)} {σ:St} {H:Hp} {s:Shared} {xe:Value→Shared→Prop} (I:Inv X pins σ H s):Inv (cxT X (X.pn++pins) xe) [] σ H s :=
 ⟨⟨I.ok.mod,I.ok.kind,I.ok.glob,I.ok.blt,I.ok.above,I.ok.inj,I.ok.has,I.ok.cab,I.ok.hd,I.ok.frames,I.ok.stk,I.ok.exf,I.ok.bs,I.ok.bsz,I.ok.noex,I.ok.exfs,I.ok.funs,I.ok.frf⟩,I.os,I.bare,I.base,I.loc,I.cell,I.free,I.freeC,(fun p hp=>I.pin p (by simpa [cxT] using hp)),I.hok,I.len⟩
theorem Inv.ofT {X:Cx} {pins pins':List (Addr×Obj)} {σ:St} {H:Hp} {s:Shared} {xe:Value→Shared→Prop} (ok:X.Ok) (I:Inv (cxT X (X.pn++pins) xe) pins' σ H s):Inv X pins σ H s :=
 ⟨ok,I.os,I.bare,I.base,I.loc,I.cell,I.free,I.freeC,(fun p hp=>I.pin p (List.mem_append_left _ hp)),I.hok,I.len⟩
def Zix (e C:Addr):Heap→Prop:=fun h=>∃ ox,h.get? e=some ox∧ox.cls=.ref C
def Zjn (CX:CXT) (X:Cx) (Eσ:St→XK):Prop:=∀ (pins:List (Addr×Obj)) (σ:St) (H:Hp) (s:Shared) (e:Value) (s':Shared),Inv X pins σ H s→CX X.stack H s (Eσ σ) e s'→X.xe e s'
def ZBZ (K:PySem.W.Frag) (D:Addr) (i:Nat) (tb:(St→XK)→TS) (th:TS):TS:=fun Dn σ H =>
 tb (fun σ' Cv _ H'=>∃ C,Cv=.ref C∧PySem.W.subIn K (.ref C) (.ref D)=some true∧∀ e,H' e=none →
  th { nx:=fun σ2 H2=>Dn.nx (σ2.set i none) H2,rt:=Dn.rt,bk:=fun σ2 H2=>Dn.bk (σ2.set i none) H2,ct:=fun σ2 H2=>Dn.ct (σ2.set i none) H2 } (σ'.set i (some (.ref e))) (upd H' e (.ext (Zix e C)))) Dn σ H
theorem Zzi {X:Cx} {body hbody:List Stmt} {b0:Stmt} {x n:Str} {np hpos pos:Pos} {i:Nat} {D:Addr} {tb:(St→XK)→TS} {th:TS} (hN:X.N.Nodup) (hi:X.N[i]?=some n) (hn:X.env.scope.names.lookup n=some .local)
  (frm:X.stack=X.env::X.outer) (frl:X.env.frame=some X.env.locals) (hex:X.ex=[]) (hgx:Gl X x) (hmx:X.mg x=some (.ref D)) (hD:PySem.W.typeIn X.K (.ref D)=some (.type "type")) (hT:(PySem.W.clsIn X.K D).isSome=true) (hB:PySem.W.subIn X.K (.ref D) (.type "BaseException")=some true)
  (hb:∀ (Eσ:St→XK) (pn:List (Addr×Obj)) (xe:Value→Shared→Prop),Zjn (CXe X.prog X.w) (cxT X pn xe) Eσ→PSs (cxT X pn xe) body (tb Eσ)) (hh:∀ e,PSs (cxH X e) (b0::hbody) th) (hdb:(x==("__debug__":Str))=false:=by decide) :
  PS X (.Try body [.ExceptHandler (some (.Name x np)) (some n) (b0::hbody) hpos] [] [] pos) (ZBZ X.K D i tb th):=by
 intro pins s σ H Dn I h
 refine wpAny_Try_except ?_
 let T:Value→Shared→Prop:=fun ev s₁=>wpAny (model X.prog X.w) X.A (noteFrame ev X.env) (fun _ s₂=>wpAny (model X.prog X.w) X.A (setFlight ev none) (fun _ s₃ =>
  wpAny (model X.prog X.w) X.A (handleBy ev X.env [.ExceptHandler (some (.Name x np)) (some n) (b0::hbody) hpos]) (SP X pins Dn) X.xe s₃) X.xe s₂) X.xe s₁
 have ok:=I.ok
 refine wpAny_mono (hb _ (X.pn++pins) T ?_ [] s σ H Dn I.toT h) (fun f s₁ q=>?_) (fun ev s₁ q=>q)
 ·intro pins' σ' H' s' ev s'' I2 hcx
  obtain ⟨e,C,H2,rfl,F,C',eC,hsub,q⟩:=hcx
  cases eC
  show T (.ref e) s''
  obtain ⟨B,a0,fl,cov⟩:=F.fly
  have fr:X.A.frames=some (X.env::X.outer):=by rw [← frm];exact ok.frames
  have fl':Heap.FlyingW B (X.env::X.outer) e (.ref C) a0 s''.heap:=by rw [← frm];exact fl
  refine wpAny_looks_onW fr frl fl' fun h₄ held₄ up₄=>?_
  refine wpAny_landsW held₄ fun h₅ fl₅ up₅=>?_
  have I5:Inv X pins σ' H2 { s'' with heap:=h₅ }:=Inv.ofT ok (F.inv I2 fl cov fl₅.1 (up₄.trans up₅))
  obtain ⟨ob,hob,hobc⟩:=fl₅.there
  refine wpAny_handleBy_cons (codeAny_handlers_test (Zh0 (X:=cxH X e) I5.toH hgx hmx ?_ hdb)) (by intro q;cases q)
  refine Zna I5.kIn hob hobc hD hT hB hsub ?_
  refine codeAny_handlers_suite_as ?_
  refine lands_againW fl₅ fun h₆ fl₆ up₆=>?_
  have I6:Inv X pins σ' H2 { s'' with heap:=h₆ }:=Inv.ofT ok (F.inv I2 fl cov fl₆.1 ((up₄.trans up₅).trans up₆))
  have old:∀ b o,s'.heap.get? b=some o→b≠e:=fun b o z w=>by rw [w,F.new] at z;cases z
  obtain ⟨oe,hoe,hoec⟩:=fl₆.there
  have I7:Inv X pins σ' (upd H2 e (.ext (Zix e C))) { s'' with heap:=h₆ }:=by
   refine I6.track F.free ?_ (fun x c z=>?_) (fun p z=>?_) ?_ ⟨⟨oe,hoe,hoec⟩,⟨oe,hoe⟩,(by rintro g1 g2 ⟨ox,z1,z2⟩ k;exact ⟨ox,k _ z1,z2⟩)⟩
   ·obtain ⟨m,hm,_⟩:=I2.loc
    obtain ⟨o,es,ep,ho,_⟩:=hm
    exact (old _ _ ho).symm
   ·obtain ⟨v,o,ho,_⟩:=I2.cell x c z
    exact old _ _ ho
   ·exact old _ _ (I2.pin p (List.mem_append_left _ z)).1
   ·cases z:X.s₀.heap.get? e with
    | none=>rfl
    | some o =>
     obtain ⟨o',e1⟩:=I2.base.there e o z (fun w=>by
      have w':e∈X.ex:=w
      rw [hex] at w';cases w')
     rw [F.new] at e1;cases e1
  refine Zho (X:=cxH X e) I7.toH hN hi (.inl hn) (v:=.ref e) rfl (fun s8 I8=>?_) (.inr hn)
  refine wpAny_mono (hh e pins s8 _ _ _ I8 (q e F.free)) (fun f s9 q9=>?_) (fun _ _ z=>z.elim)
  have fin:∀ {σ9:St} {H9:Hp} {K9:Shared→Prop},Inv (cxH X e) pins σ9 H9 s9→(∀ s10,Inv X pins (σ9.set i none) H9 s10→K9 s10) →
    wpAny (model X.prog X.w) X.A (do bindName X.env n .none;unbindBehindTheSuite X.env n hpos) (fun _ s10=>K9 s10) X.xe s9:=fun {σ9 H9 K9} I9 k9=>by
   have I9':=Inv.ofH ok I9
   obtain ⟨m,hm,hl⟩:=id I9'.loc
   refine wpAny_nameGoes_keeps hn hm (by rw [ok.kind];rfl) fun h' v hn' hs=>k9 _ (I9'.gone hN hi hm hl hn' hs)
  cases f with
  | next=>obtain ⟨σ9,H9,I9,q9⟩:=q9;exact fin I9 fun s10 I10=>⟨_,_,I10,q9⟩
  | brk=>obtain ⟨σ9,H9,I9,q9⟩:=q9;exact fin I9 fun s10 I10=>⟨_,_,I10,q9⟩
  | cont=>obtain ⟨σ9,H9,I9,q9⟩:=q9;exact fin I9 fun s10 I10=>⟨_,_,I10,q9⟩
  | ret u=>obtain ⟨v,σ9,H9,I9,r9,q9⟩:=q9;exact fin I9 fun s10 I10=>⟨v,_,_,I10,r9,q9⟩
 ·cases f with
  | next=>obtain ⟨σ',H',I',q⟩:=q;exact wpAny_execs_nil ⟨σ',H',Inv.ofT ok I',q⟩
  | brk=>obtain ⟨σ',H',I',q⟩:=q;exact ⟨σ',H',Inv.ofT ok I',q⟩
  | cont=>obtain ⟨σ',H',I',q⟩:=q;exact ⟨σ',H',Inv.ofT ok I',q⟩
  | ret u=>obtain ⟨v,σ',H',I',r,q⟩:=q;exact ⟨v,σ',H',Inv.ofT ok I',r,q⟩
def Zvb (sp:Sp) (dvs:List V) (Eσ:St→XK) (t:TA):TE:=fun σ H Q=>t σ H fun vs H1=>sp (vs++dvs) H1 Q (Eσ σ)
section
variable {X:Cx} {CX:CXT} {k:Nat} {f:Addr} {fd:FuncData} {ps:List Str} {sp:Sp} {dvs:List V} {ds:List Value} {Eσ:St→XK} {x:Str} {p pos:Pos} {e:Expr} {es:List Expr} {t:TA}
theorem ZtA (F:FnOk X.prog X.w X.K X.mg X.base CX k f fd ps sp) (hr:Room k X.A) (hg:Gl X x) (hm:X.mg x=some (.ref f)) (hk:PySem.W.keepIn X.K (.ref f)=true) (hb:Binds X.K fd ps ds) (hd:Vals dvs ds) (hx:Zjn CX X Eσ)
  (ha:PA X (e::es) t) (hdb:(x==("__debug__":Str))=false:=by decide) (he:starEach (e::es) X.env=(false,eval e X.env)::starEach es X.env:=by rfl) (hpl:(backTo pos (starEach es X.env)).any (·.1)=false:=by rfl) :
  PE X (.Call (.Name x p) (e::es) [] pos) (Zvb sp dvs Eσ t):=by
 intro pins s σ H Q I h
 refine wpAny_Call_Name_kw (Zh0 I hg hm ?_ hdb)
 walk_at "pf"
 have r2:Vals (vs++dvs) (us++ds):=r.append hd
 have hl:(us++ds).length=ps.length:=by rw [← r2.length];exact F.len _ _ _ _ q
 refine wpAny_call (codeAny_mono (F.run X.A X.stack s1 H1 ⟨us,[]⟩ (us++ds) (vs++dvs) Q (Eσ σ) hr I1.env0 (hb s1 us I1.kIn hl) r2 q) fun r s' hq=>?_)
 cases r with
 | error e=>exact hx pins σ H1 s1 e s' I1 hq
 | ok fl =>
  cases fl with
  | ret u=>exact I1.after hq
  | next=>exact False.elim hq
  | brk=>exact False.elim hq
  | cont=>exact False.elim hq
end
structure Ztm (k:Nat) (A:Around):Prop where
 dp:A.depth+3*k+5 < recursionLimit
 un:A.units+16*k+200 < cLine
structure Zw0 (P:Program) (w:World) (K:PySem.W.Frag) (mg:Str→Option Value) (base:Heap) (CX:CXT) (k:Nat) (f:Addr) (fd:FuncData) (ps:List Str) (sp:Sp):Prop where
 len:∀ vs H Q E,sp vs H Q E→vs.length=ps.length
 run:∀ (A:Around) (outer:List Env) (s:Shared) (H:Hp) (args:Args) (us:List Value) (vs:List V) (Q:VK) (E:XK),Ztm k A→Env0 P w K mg base A outer s H→BindsTo s fd args (ps.zip us)→Vals vs us→sp vs H Q E →
  codeAny (model P w) A (.call (.ref f) args) (CR CX outer P w H s Q E) s
def cxN (P:Program) (w:World) (K:PySem.W.Frag) (mg:Str→Option Value) (base:Heap) (N:List Str) (qual:Str) (scope:Scope) (f:Addr) (cd:Value) (A:Around) (outer:List Env) (s:Shared) (H:Hp):Cx :=
 { Zid CX0 P w K mg base N qual scope f cd A outer s H E0 with calm:=false,xe:=fun _ _=>False }
theorem Zyv {CX:CXT} {P:Program} {w:World} {K:PySem.W.Frag} {mg:Str→Option Value} {base:Heap} {k:Nat} {f:Addr} {name qual:Str} {params:Arguments} {body:List Stmt} {scope:Scope} {dV kV doc pm cdv ct oc:Value} {an od:Option Addr}
  {osl:Array (Option Value)} {N ps:List Str} {sp:Sp} (lk:K.lookup f=some ⟨oc,od,.func (PySem.W.fnOf name qual params body scope dV kV doc pm an cdv ct),osl⟩) (hcd:PySem.W.codeIn K cdv qual=true) (S:Zao N ps scope)
  (len:∀ vs H Q E,sp vs H Q E→vs.length=ps.length)
  (hbody:∀ (A:Around) (outer:List Env) (s:Shared) (H:Hp) (vs:List V) (Q:VK) (E:XK),sp vs H Q E→∃ t,PSs (cxN P w K mg base N qual scope f cdv A outer s H) body t∧t { nx:=fun _ H'=>Q .non H',rt:=Q } (ZgZ N vs) H) :
  Zw0 P w K mg base CX (k+1) f (PySem.W.fnOf name qual params body scope dV kV doc pm an cdv ct) ps sp:=by
 refine ⟨len,fun A outer s H args us vs Q E hr e0 hb r hsp=>?_⟩
 have hl:=len _ _ _ _ hsp
 have KX:K.In s.heap:=e0.mod.kin.keeps fun b o e=>(e0.bs b o e).1
 have lim:s.heap.NoLimit:=e0.mod.nolimit.keeps fun b o e=>(e0.bs b o e).1
 have hkind:∀ y∈ps.zip us,scope.names.lookup y.1=some .local∨(scope.names.lookup y.1=some .cell∧((cellsFrom (s.heap.objs.size+1) scope.names []).lookup y.1).isSome=true):=by
  rintro ⟨n,v⟩ hy
  rcases S.par n (List.of_mem_zip hy).1 with q | q
  ·exact .inl q
  ·exact .inr ⟨q,PySem.W.cellsFrom_some _ _ _ (.inl q)⟩
 refine codeAny_call_function (by have:=hr.dp;omega) (KX _ _ lk) rfl S.co S.gen rfl (PySem.W.codeRec_of KX hcd) (hb _ _ _ _ ?_)
 refine wpAny_newFunctionEnv_cells S.kind hkind fun env he s1 x=>?_
 subst he
 refine ⟨lim.keeps x.toInCall.keep,codeAny_func ?_⟩
 obtain ⟨t,ht,hq⟩:=hbody A outer s H vs Q E hsp
 have e1:Env0 P w K mg base { A with handled:=none } outer s H:=⟨e0.frames,e0.mod,e0.bs,e0.bsz,e0.funs,e0.frf,e0.hok,e0.bare⟩
 have I0:Inv (Zid CX0 P w K mg base N qual scope f cdv { A with handled:=none } outer s H E0) [] (ZgZ N vs) H s1:=ZlS S rfl e1 hl r x
 have I:Inv (cxN P w K mg base N qual scope f cdv A outer s H) [] (ZgZ N vs) H s1 :=
  ⟨⟨I0.ok.mod,I0.ok.kind,I0.ok.glob,I0.ok.blt,I0.ok.above,I0.ok.inj,I0.ok.has,I0.ok.cab,(fun z=>by cases z),Around.frames_deeper e0.frames,I0.ok.stk,I0.ok.exf,I0.ok.bs,I0.ok.bsz,I0.ok.noex,I0.ok.exfs,I0.ok.funs,I0.ok.frf⟩,I0.os,I0.bare,I0.base,I0.loc,I0.cell,I0.free,I0.freeC,I0.pin,I0.hok,I0.len⟩
 refine wpAny_mono (ht [] s1 (ZgZ N vs) H _ I hq) (fun fl s' hs=>?_) fun e s' hs=>hs.elim
 have fin:∀ {σ':St} {H':Hp} {v:V} {u:Value},Inv (cxN P w K mg base N qual scope f cdv A outer s H) [] σ' H' s'→RelV v u→Q v H'→CE outer P w H s Q u s' :=
  fun {σ' H' v u} J rv q=>⟨v,H',J.os,J.bare,J.base,J.hok,rv,q⟩
 cases fl with
 | ret u =>
  obtain ⟨v,σ',H',J,rv,q⟩:=hs
  exact fin J rv q
 | next =>
  obtain ⟨σ',H',J,q⟩:=hs
  exact fin (v:=V.non) (u:=Value.none) J rfl q
 | brk =>
  obtain ⟨_,_,_,q⟩:=hs
  exact False.elim q
 | cont =>
  obtain ⟨_,_,_,q⟩:=hs
  exact False.elim q
section
variable {X:Cx} {k:Nat} {f:Addr} {fd:FuncData} {ps:List Str} {sp:Sp} {x:Str} {p pos:Pos} {e:Expr} {es:List Expr} {t:TA}
theorem ZtD (F:Zw0 X.prog X.w X.K X.mg X.base CX0 k f fd ps sp) (hr:Ztm k X.A) (hg:Gl X x) (hm:X.mg x=some (.ref f)) (hk:PySem.W.keepIn X.K (.ref f)=true) (hb:Binds X.K fd ps [])
  (ha:PA X (e::es) t) (hdb:(x==("__debug__":Str))=false:=by decide) (he:starEach (e::es) X.env=(false,eval e X.env)::starEach es X.env:=by rfl) (hpl:(backTo pos (starEach es X.env)).any (·.1)=false:=by rfl) :
  PE X (.Call (.Name x p) (e::es) [] pos) (ZAO sp [] E0 t):=by
 intro pins s σ H Q I h
 refine wpAny_Call_Name_kw (Zh0 I hg hm ?_ hdb)
 walk_at "pf"
 have r2:Vals (vs++[]) (us++[]):=r.append .nil
 have hl:(us++[]).length=ps.length:=by rw [← r2.length];exact F.len _ _ _ _ q
 refine wpAny_call (codeAny_mono (F.run X.A X.stack s1 H1 ⟨us,[]⟩ (us++[]) (vs++[]) Q E0 hr I1.env0 (hb s1 us I1.kIn hl) r2 q) fun r s' hq=>?_)
 cases r with
 | error e=>exact False.elim hq
 | ok fl =>
  cases fl with
  | ret u=>exact I1.after hq
  | next=>exact False.elim hq
  | brk=>exact False.elim hq
  | cont=>exact False.elim hq
end
end L2
namespace L3
open PySem PySem.Spec PyProof.Rows L2
abbrev St:=L2.St
inductive W where
 | non | bl (b:Bool) | int (i:Int) | str (x:Str) | tup (xs:List W) | rol (xs:List W) | ref (a:Addr)
inductive HW where
 | lst (xs:List W) | exc (C:Addr) | ins (C:Addr) (fs:List (Str×W)) | dct (kvs:List (Key×W))
abbrev Sw:=List (Option W)
abbrev Hw:=Addr→Option HW
def put (H:Hw) (a:Addr) (o:HW):Hw:=fun b=>if b=a then some o else H b
theorem Zaf {H:Hw} {a:Addr} {o:HW}:put H a o a=some o:=by unfold put;rw [if_pos rfl]
theorem Zat {H:Hw} {a b:Addr} {o:HW} (h:b≠a):put H a o b=H b:=by unfold put;rw [if_neg h]
section
variable (K:PySem.W.Frag)
def RoL (H:Hp) (a:Addr) (xs:List V):Prop:=(∃ o,H a=some (.frz o (.lst xs))) ∨
 ∃ (o:Obj) (its:Array Value) (n:Nat),K.lookup a=some o∧o.cls=.type "list"∧o.dict=none∧o.data=.seq its n∧its.size≤sizeLine∧Vals xs its.toList
theorem RoL.sq {K:PySem.W.Frag} {H:Hp} {a:Addr} {xs:List V} (h:RoL K H a xs):SqL K H a xs:=by
 rcases h with ⟨o,h⟩ | h
 ·exact .inl (.inr ⟨o,h⟩)
 ·exact .inr h
mutual
inductive Tr (H:Hp):V→W→Prop where
 | non:Tr H .non .non
 | bl (b:Bool):Tr H (.bl b) (.bl b)
 | int (i:Int):Tr H (.int i) (.int i)
 | str (x:Str):Tr H (.str x) (.str x)
 | tup {a:Addr} {vs:List V} {ws:List W}:SqT K H a vs→TrL H vs ws→Tr H (.ref a) (.tup ws)
 | rol {a:Addr} {vs:List V} {ws:List W}:RoL K H a vs→TrL H vs ws→Tr H (.ref a) (.rol ws)
 | ref (a:Addr):Tr H (.ref a) (.ref a)
inductive TrL (H:Hp):List V→List W→Prop where
 | nil:TrL H [] []
 | cons {v:V} {w:W} {vs:List V} {ws:List W}:Tr H v w→TrL H vs ws→TrL H (v::vs) (w::ws)
end
inductive TrP {α:Type} (H:Hp):List (α×V)→List (α×W)→Prop where
 | nil:TrP H [] []
 | cons {f:α} {v:V} {w:W} {vs:List (α×V)} {ws:List (α×W)}:Tr K H v w→TrP H vs ws→TrP H ((f,v)::vs) ((f,w)::ws)
structure Mono (H H':Hp):Prop where
 tup:∀ a vs,SqT K H a vs→SqT K H' a vs
 rol:∀ a vs,RoL K H a vs→RoL K H' a vs
def RelO2 (H:Hp) (a:Addr):HW→Prop
 | .lst ws=>∃ vs,H a=some (.lst vs)∧TrL K H vs ws
 | .exc C=>H a=some (.ext (Zix a C))
 | .ins C ws=>∃ dx vs,H a=some (.ins C dx vs)∧TrP K H vs ws
 | .dct ws=>∃ vs,H a=some (.dK vs)∧TrP K H vs ws
def RelH (H:Hp) (G:Hw):Prop:=∀ a o,G a=some o→RelO2 K H a o
structure TrSt (H:Hp) (σ:St) (ω:Sw):Prop where
 len:σ.length=ω.length
 get:∀ (i:Nat) (w:W),ω[i]?=some (some w)→∃ v,σ[i]?=some (some v)∧Tr K H v w
end
variable {K:PySem.W.Frag} {H H' H2:Hp}
theorem Mono.refl:Mono K H H:=⟨fun _ _ h=>h,fun _ _ h=>h⟩
theorem Mono.trans (m:Mono K H H') (m':Mono K H' H2):Mono K H H2:=⟨fun a vs h=>m'.tup a vs (m.tup a vs h),fun a vs h=>m'.rol a vs (m.rol a vs h)⟩
mutual
theorem Tr.mono (m:Mono K H H') {v:V} {w:W} (t:Tr K H v w):Tr K H' v w:=by
 cases t with
 | non=>exact .non
 | bl b=>exact .bl b
 | int i=>exact .int i
 | str x=>exact .str x
 | tup h l=>exact .tup (m.tup _ _ h) (TrL.mono m l)
 | rol h l=>exact .rol (m.rol _ _ h) (TrL.mono m l)
 | ref a=>exact .ref a
theorem TrL.mono (m:Mono K H H') {vs:List V} {ws:List W} (t:TrL K H vs ws):TrL K H' vs ws:=by
 cases t with
 | nil=>exact .nil
 | cons h l=>exact .cons (Tr.mono m h) (TrL.mono m l)
end
theorem TrP.mono {α:Type} (m:Mono K H H'):∀ {vs:List (α×V)} {ws:List (α×W)},TrP K H vs ws→TrP K H' vs ws
 | _,_,.nil=>.nil
 | _,_,.cons r t=>.cons (r.mono m) (TrP.mono m t)
theorem RelO2.mono (m:Mono K H H') {a:Addr} (e:H' a=H a):∀ {o:HW},RelO2 K H a o→RelO2 K H' a o
 | .lst ws,⟨vs,z,t⟩=>⟨vs,e.trans z,t.mono m⟩
 | .exc C,z=>(e.trans z:H' a=_)
 | .ins C ws,⟨dx,vs,z,t⟩=>⟨dx,vs,e.trans z,t.mono m⟩
 | .dct ws,⟨vs,z,t⟩=>⟨vs,e.trans z,t.mono m⟩
theorem RelO2.some {a:Addr}:∀ {o:HW},RelO2 K H a o→H a≠none
 | .lst ws,⟨vs,z,t⟩,q=>by rw [q] at z;cases z
 | .exc C,z,q=>by rw [show H a=_ from z] at q;cases q
 | .ins C ws,⟨dx,vs,z,t⟩,q=>by rw [q] at z;cases z
 | .dct ws,⟨vs,z,t⟩,q=>by rw [q] at z;cases z
theorem TrSt.mono {σ:St} {ω:Sw} (m:Mono K H H') (t:TrSt K H σ ω):TrSt K H' σ ω:=⟨t.len,fun i w e=>let ⟨v,e',r⟩:=t.get i w e;⟨v,e',r.mono m⟩⟩
theorem TrSt.set {σ:St} {ω:Sw} {v:V} {w:W} (t:TrSt K H σ ω) (i:Nat) (r:Tr K H v w):TrSt K H (σ.set i (some v)) (ω.set i (some w)):=by
 refine ⟨by simp [t.len],fun j u e=>?_⟩
 by_cases h:i=j
 ·subst h
  by_cases hl:i < ω.length
  ·rw [List.getElem?_set_self hl] at e
   cases e
   exact ⟨v,List.getElem?_set_self (by rw [t.len];exact hl),r⟩
  ·rw [List.getElem?_eq_none (by simp;omega)] at e;cases e
 ·rw [List.getElem?_set_ne h] at e
  obtain ⟨v',e',r'⟩:=t.get j u e
  exact ⟨v',by rw [List.getElem?_set_ne h];exact e',r'⟩
theorem TrSt.unset {σ:St} {ω:Sw} (t:TrSt K H σ ω) (i:Nat):TrSt K H (σ.set i none) (ω.set i none):=by
 refine ⟨by simp [t.len],fun j u e=>?_⟩
 by_cases h:i=j
 ·subst h
  by_cases hl:i < ω.length
  ·rw [List.getElem?_set_self hl] at e;cases e
  ·rw [List.getElem?_eq_none (by simp;omega)] at e;cases e
 ·rw [List.getElem?_set_ne h] at e
  obtain ⟨v',e',r'⟩:=t.get j u e
  exact ⟨v',by rw [List.getElem?_set_ne h];exact e',r'⟩
theorem TrL.length:∀ {vs:List V} {ws:List W},TrL K H vs ws→vs.length=ws.length
 | _,_,.nil=>rfl
 | _,_,.cons _ t=>congrArg (·+1) t.length
theorem TrL.get:∀ {vs:List V} {ws:List W} {i:Nat} {w:W},TrL K H vs ws→ws[i]?=some w→∃ v,vs[i]?=some v∧Tr K H v w
 | _,_,_,_,.nil,e=>by simp at e
 | _,_,0,_,.cons r _,e=>by simp at e;subst e;exact ⟨_,rfl,r⟩
 | _,_,i+1,w,.cons _ t,e=>by
  obtain ⟨v,h1,h2⟩:=TrL.get (i:=i) (w:=w) t (by simpa using e)
  exact ⟨v,by simpa using h1,h2⟩
theorem TrL.get':∀ {vs:List V} {ws:List W} {i:Nat} {v:V},TrL K H vs ws→vs[i]?=some v→∃ w,ws[i]?=some w∧Tr K H v w
 | _,_,_,_,.nil,e=>by simp at e
 | _,_,0,_,.cons r _,e=>by simp at e;subst e;exact ⟨_,rfl,r⟩
 | _,_,i+1,v,.cons _ t,e=>by
  obtain ⟨w,h1,h2⟩:=TrL.get' (i:=i) (v:=v) t (by simpa using e)
  exact ⟨w,by simpa using h1,h2⟩
theorem TrL.append:∀ {vs vs':List V} {ws ws':List W},TrL K H vs ws→TrL K H vs' ws'→TrL K H (vs++vs') (ws++ws')
 | _,_,_,_,.nil,s=>s
 | _,_,_,_,.cons r t,s=>.cons r (t.append s)
theorem TrL.set {v:V} {w:W} (r:Tr K H v w):∀ {vs:List V} {ws:List W} (i:Nat),TrL K H vs ws→TrL K H (vs.set i v) (ws.set i w)
 | _,_,_,.nil=>.nil
 | _,_,0,.cons _ t=>.cons r t
 | _,_,i+1,.cons q t=>.cons q (TrL.set r i t)
theorem TrL.take:∀ {vs:List V} {ws:List W} (n:Nat),TrL K H vs ws→TrL K H (vs.take n) (ws.take n)
 | _,_,0,_=>.nil
 | _,_,_+1,.nil=>.nil
 | _,_,n+1,.cons r t=>.cons r (TrL.take n t)
theorem TrL.drop:∀ {vs:List V} {ws:List W} (n:Nat),TrL K H vs ws→TrL K H (vs.drop n) (ws.drop n)
 | _,_,0,r=>r
 | _,_,_+1,.nil=>.nil
 | _,_,n+1,.cons _ t=>TrL.drop n t
theorem ZnT {a b:Addr} {vs:List V} {o:HO} (h:SqT K H a vs) (hb:∀ xs,H b≠some (.tup xs)) (hf:∀ ob xs,H b≠some (.frz ob (.tup xs))):SqT K (upd H b o) a vs:=by
 rcases h with (h | ⟨ob,h⟩) | h
 ·exact .inl (.inl (by rw [Za8 (fun e=>hb _ (e▸h))];exact h))
 ·exact .inl (.inr ⟨ob,by rw [Za8 (fun e=>hf _ _ (e▸h))];exact h⟩)
 ·exact .inr h
theorem Zn2 {a b:Addr} {vs:List V} {o:HO} (h:RoL K H a vs) (hf:∀ ob u,H b≠some (.frz ob u)):RoL K (upd H b o) a vs:=by
 rcases h with ⟨ob,h⟩ | h
 ·exact .inl ⟨ob,by rw [Za8 (fun e=>hf _ _ (e▸h))];exact h⟩
 ·exact .inr h
theorem Mono.new {p:Addr} (hp:H p=none) (o:HO):Mono K H (upd H p o) :=
 ⟨fun a vs h=>ZnT h (fun xs e=>by rw [hp] at e;cases e) (fun ob xs e=>by rw [hp] at e;cases e),fun a vs h=>Zn2 h (fun ob xs e=>by rw [hp] at e;cases e)⟩
theorem Mono.lst {p:Addr} {xs:List V} (hp:H p=some (.lst xs)) (o:HO):Mono K H (upd H p o) :=
 ⟨fun a vs h=>ZnT h (fun xs e=>by rw [hp] at e;cases e) (fun ob xs e=>by rw [hp] at e;cases e),fun a vs h=>Zn2 h (fun ob xs e=>by rw [hp] at e;cases e)⟩
theorem Mono.was {p:Addr} {o':HO} (hp:H p=some o') (o:HO) (h1:∀ xs,o'≠.tup xs) (h2:∀ ob u,o'≠.frz ob u):Mono K H (upd H p o) :=
 ⟨fun a vs h=>ZnT h (fun xs e=>by rw [hp] at e;exact h1 _ (Option.some.inj e)) (fun ob xs e=>by rw [hp] at e;exact h2 _ _ (Option.some.inj e)),fun a vs h=>Zn2 h (fun ob xs e=>by rw [hp] at e;exact h2 _ _ (Option.some.inj e))⟩
theorem RelH.no {G:Hw} {p:Addr} (r:RelH K H G) (hp:H p=none):G p=none:=by
 cases e:G p with
 | none=>rfl
 | some o=>exact absurd hp (r p o e).some
theorem RelH.mono0 {G:Hw} {p:Addr} {o:HO} (r:RelH K H G) (hp:H p=none):RelH K (upd H p o) G:=fun a u e =>
 have q:=r a u e
 q.mono (Mono.new hp o) (Za8 (by rintro rfl;exact q.some hp))
theorem RelH.laid {G:Hw} {p:Addr} {o:HO} {u:HW} (r:RelH K H G) (m:Mono K H (upd H p o)) (t:RelO2 K (upd H p o) p u):RelH K (upd H p o) (put G p u):=fun a u' e=>by
 by_cases h:a=p
 ·subst h
  rw [Zaf] at e;cases e
  exact t
 ·rw [Zat h] at e
  exact (r a _ e).mono m (Za8 h)
theorem RelH.new {G:Hw} {p:Addr} {vs:List V} {ws:List W} (r:RelH K H G) (hp:H p=none) (t:TrL K H vs ws):RelH K (upd H p (.lst vs)) (put G p (.lst ws)) :=
 r.laid (Mono.new hp _) ⟨vs,Zbq,t.mono (Mono.new hp _)⟩
theorem RelH.chg {G:Hw} {p:Addr} {xs vs:List V} {ws:List W} (r:RelH K H G) (hp:H p=some (.lst xs)) (t:TrL K H vs ws):RelH K (upd H p (.lst vs)) (put G p (.lst ws)) :=
 r.laid (Mono.lst hp _) ⟨vs,Zbq,t.mono (Mono.lst hp _)⟩
abbrev Kw:=W→Hw→Prop
abbrev GE:=Sw→Hw→Kw→Prop
abbrev GT:=Sw→Hw→(Bool→Hw→Prop)→Prop
abbrev GA:=Sw→Hw→(List W→Hw→Prop)→Prop
structure Ew where
 nx:Sw→Hw→Prop
 rt:Kw
 bk:Sw→Hw→Prop
 ct:Sw→Hw→Prop
abbrev GS:=Ew→Sw→Hw→Prop
abbrev GG:=W→Sw→Hw→(Sw→Hw→Prop)→Prop
def GE.M (g:GE):Prop:=∀ ω G (Q Q':Kw),(∀ w G',Q w G'→Q' w G')→g ω G Q→g ω G Q'
def GT.M (g:GT):Prop:=∀ ω G (Q Q':Bool→Hw→Prop),(∀ w G',Q w G'→Q' w G')→g ω G Q→g ω G Q'
def GA.M (g:GA):Prop:=∀ ω G (Q Q':List W→Hw→Prop),(∀ w G',Q w G'→Q' w G')→g ω G Q→g ω G Q'
def GS.M (g:GS):Prop:=∀ ω G (D D':Ew),(∀ a b,D.nx a b→D'.nx a b)→(∀ a b,D.rt a b→D'.rt a b)→(∀ a b,D.bk a b→D'.bk a b)→(∀ a b,D.ct a b→D'.ct a b)→g D ω G→g D' ω G
def GG.M (g:GG):Prop:=∀ w ω G (Q Q':Sw→Hw→Prop),(∀ a b,Q a b→Q' a b)→g w ω G Q→g w ω G Q'
def dn (K:PySem.W.Frag) (H:Hp) (Q:VK):Kw:=fun w G=>∀ v H',Mono K H H'→Tr K H' v w→RelH K H' G→Q v H'
def dnT (K:PySem.W.Frag) (H:Hp) (Q:Bool→Hp→Prop):Bool→Hw→Prop:=fun b G=>∀ H',Mono K H H'→RelH K H' G→Q b H'
def dnA (K:PySem.W.Frag) (H:Hp) (Q:List V→Hp→Prop):List W→Hw→Prop:=fun ws G=>∀ vs H',Mono K H H'→TrL K H' vs ws→RelH K H' G→Q vs H'
def dnS (K:PySem.W.Frag) (H:Hp) (Q:St→Hp→Prop):Sw→Hw→Prop:=fun ω G=>∀ σ H',Mono K H H'→TrSt K H' σ ω→RelH K H' G→Q σ H'
def dnD (K:PySem.W.Frag) (H:Hp) (D:Zxe):Ew:=⟨dnS K H D.nx,dn K H D.rt,dnS K H D.bk,dnS K H D.ct⟩
theorem Zcz {Q:VK} (m:Mono K H H') {w:W} {G:Hw} (q:dn K H Q w G):dn K H' Q w G:=fun v H2 m2 t r=>q v H2 (m.trans m2) t r
theorem Zo2 {Q:Bool→Hp→Prop} (m:Mono K H H') {w:Bool} {G:Hw} (q:dnT K H Q w G):dnT K H' Q w G:=fun H2 m2 r=>q H2 (m.trans m2) r
theorem Ztt {Q:St→Hp→Prop} (m:Mono K H H') {w:Sw} {G:Hw} (q:dnS K H Q w G):dnS K H' Q w G:=fun v H2 m2 t r=>q v H2 (m.trans m2) t r
def up (K:PySem.W.Frag) (g:GE):TE:=fun σ H Q=>∃ ω G,TrSt K H σ ω∧RelH K H G∧g ω G (dn K H Q)
def upT (K:PySem.W.Frag) (g:GT):TT:=fun σ H Q=>∃ ω G,TrSt K H σ ω∧RelH K H G∧g ω G (dnT K H Q)
def upA (K:PySem.W.Frag) (g:GA):TA:=fun σ H Q=>∃ ω G,TrSt K H σ ω∧RelH K H G∧g ω G (dnA K H Q)
def upS (K:PySem.W.Frag) (B:Hp) (g:GS):TS:=fun D σ H=>∃ ω G,TrSt K H σ ω∧RelH K H G∧Mono K B H∧g (dnD K B D) ω G
theorem Zbn {X:Cx} {e:Expr} {t t':TE} (h:PE X e t) (i:∀ σ H Q,t' σ H Q→t σ H Q):PE X e t':=fun pins s σ H Q I q=>h pins s σ H Q I (i σ H Q q)
theorem ZoK {X:Cx} {e:Expr} {t t':TT} (h:PT X e t) (i:∀ σ H Q,t' σ H Q→t σ H Q):PT X e t':=fun pins s σ H Q I q=>h pins s σ H Q I (i σ H Q q)
theorem Zux {X:Cx} {e:List Expr} {t t':TA} (h:PA X e t) (i:∀ σ H Q,t' σ H Q→t σ H Q):PA X e t':=fun pos pins s σ H Q I q=>h pos pins s σ H Q I (i σ H Q q)
theorem Zgg {X:Cx} {e:Stmt} {t t':TS} (h:PS X e t) (i:∀ D σ H,t' D σ H→t D σ H):PS X e t':=fun pins s σ H D I q=>h pins s σ H D I (i D σ H q)
theorem ZnX {X:Cx} {e:List Stmt} {t t':TS} (h:PSs X e t) (i:∀ D σ H,t' D σ H→t D σ H):PSs X e t':=fun pins s σ H D I q=>h pins s σ H D I (i D σ H q)
section
variable {X:Cx} {a b c e:Expr} {es:List Expr} {pos:Pos} {ga gb gc:GE} {gt:GT} {gs:GA}
abbrev PEw (X:Cx) (e:Expr) (g:GE):Prop:=PE X e (up X.K g)
abbrev PTw (X:Cx) (e:Expr) (g:GT):Prop:=PT X e (upT X.K g)
abbrev PAw (X:Cx) (es:List Expr) (g:GA):Prop:=PA X es (upA X.K g)
abbrev PSw (X:Cx) (P:Hp→Prop) (st:Stmt) (g:GS):Prop:=∀ B,P B→PS X st (upS X.K B g)
abbrev Ztr (X:Cx) (P:Hp→Prop) (st:List Stmt) (g:GS):Prop:=∀ B,P B→PSs X st (upS X.K B g)
abbrev ZBd:Hp→Prop:=fun _=>True
abbrev atB (X:Cx):Hp→Prop:=fun B=>B=X.H₀
def gC (w:W):GE:=fun _ G Q=>Q w G
def Zab (i:Nat):GE:=fun ω G Q=>match ω[i]? with | some (some w)=>Q w G | _=>False
theorem Zw7 {w:W}:GE.M (gC w):=fun _ _ _ _ h q=>h _ _ q
theorem Zxn {i:Nat}:GE.M (Zab i):=fun ω G Q Q' h q=>by
 have z:Zab i ω G Q=(match ω[i]? with | some (some w)=>Q w G | _=>False):=rfl
 have z':Zab i ω G Q'=(match ω[i]? with | some (some w)=>Q' w G | _=>False):=rfl
 rw [z] at q
 rw [z']
 cases e:ω[i]? with
 | none=>rw [e] at q;exact q
 | some o =>
  cases o with
  | none=>rw [e] at q;exact q
  | some w=>rw [e] at q;exact h _ _ q
theorem Zya {i:Nat} {x:Str} (hN:X.N[i]?=some x) (hv:Vis X.env.scope x) (hd:(x==("__debug__":Str))=false) (hcd:(x==("__classdict__":Str))=false):PEw X (.Name x pos) (Zab i) :=
 Zbn (Zy2 hN hv hd hcd) <| by
  rintro σ H Q ⟨ω,G,ts,r,q⟩
  unfold Zab at q
  split at q
  ·rename_i w z
   obtain ⟨v,e,t⟩:=ts.get i w z
   exact ⟨v,e,q v H .refl t r⟩
  ·exact q.elim
theorem ZxB {i:Int} {j}:PEw X (.Constant (.int i) j pos) (gC (.int i)):=Zbn ZxD (by rintro σ H Q ⟨ω,G,ts,r,q⟩;exact q _ H .refl (.int i) r)
theorem ZA4 {i:Bool} {j}:PEw X (.Constant (.bool i) j pos) (gC (.bl i)):=Zbn ZAW (by rintro σ H Q ⟨ω,G,ts,r,q⟩;exact q _ H .refl (.bl i) r)
theorem ZyD {j}:PEw X (.Constant .none j pos) (gC .non):=Zbn Zye (by rintro σ H Q ⟨ω,G,ts,r,q⟩;exact q _ H .refl .non r)
theorem Zyb {i:Str} {j}:PEw X (.Constant (.str i) j pos) (gC (.str i)):=Zbn Zxm (by rintro σ H Q ⟨ω,G,ts,r,q⟩;exact q _ H .refl (.str i) r)
theorem ZrY {x:Str} {v:V} {w:W} {u:Value} (hg:Gl X x) (hm:X.mg x=some u) (rv:RelV v u) (t:∀ H,Tr X.K H v w) (hd:(x==("__debug__":Str))=false):PEw X (.Name x pos) (gC w) :=
 Zbn (Zn9 hg hm rv hd) (by rintro σ H Q ⟨ω,G,ts,r,q⟩;exact q _ H .refl (t H) r)
abbrev RW2:=W→W→Hw→Kw→Prop
def RW2.M (r:RW2):Prop:=∀ x y G (Q Q':Kw),(∀ w G',Q w G'→Q' w G')→r x y G Q→r x y G Q'
def Zah (r:RW2) (ga gb:GE):GE:=fun ω G Q=>ga ω G fun x G1=>gb ω G1 fun y G2=>r x y G2 Q
theorem Ze6 {r:RW2} (mr:r.M) (ma:ga.M) (mb:gb.M):GE.M (Zah r ga gb):=fun ω G Q Q' h q=>ma _ _ _ _ (fun x G1 q1=>mb _ _ _ _ (fun y G2 q2=>mr _ _ _ _ _ h q2) q1) q
theorem ZoZ {r:RW2} {r2:R2} (mr:r.M) (ma:ga.M) (mb:gb.M)
  (hr:∀ (x y:W) (v u:V) (G:Hw) (H:Hp) (Q:VK),Tr K H v x→Tr K H u y→RelH K H G→r x y G (dn K H Q)→r2 v u H Q) (σ:St) (H:Hp) (Q:VK) (h:up K (Zah r ga gb) σ H Q):tOp r2 (up K ga) (up K gb) σ H Q:=by
 obtain ⟨ω,G,ts,rh,q⟩:=h
 refine ⟨ω,G,ts,rh,ma _ _ _ _ (fun x G1 q1 v H1 m1 tx r1=>?_) q⟩
 refine ⟨ω,G1,ts.mono m1,r1,mb _ _ _ _ (fun y G2 q2 u H2 m2 ty r2'=>?_) q1⟩
 exact hr x y v u G2 H2 Q (tx.mono m2) ty r2' (mr _ _ _ _ _ (fun w G' z=>Zcz (m1.trans m2) z) q2)
theorem Zif {op:Operator} {r:RW2} {r2:R2} (ho:OpR X (binaryOp op) r2) (mr:r.M) (ma:ga.M) (mb:gb.M) (hr:∀ (x y:W) (v u:V) (G:Hw) (H:Hp) (Q:VK),Tr X.K H v x→Tr X.K H u y→RelH X.K H G→r x y G (dn X.K H Q)→r2 v u H Q)
  (ha:PEw X a ga) (hb:PEw X b gb):PEw X (.BinOp a op b pos) (Zah r ga gb):=Zbn (ZAq ho ha hb) (ZoZ mr ma mb hr)
theorem ZxO {op:CmpOp} {r:RW2} {r2:R2} (ho:OpR X (compareOp op) r2) (mr:r.M) (ma:ga.M) (mb:gb.M) (hr:∀ (x y:W) (v u:V) (G:Hw) (H:Hp) (Q:VK),Tr X.K H v x→Tr X.K H u y→RelH X.K H G→r x y G (dn X.K H Q)→r2 v u H Q)
  (ha:PEw X a ga) (hb:PEw X b gb) (hm:behindInMarks op b=false):PEw X (.Compare a [op] [b] pos) (Zah r ga gb):=Zbn (ZvB ho ha hb hm) (ZoZ mr ma mb hr)
theorem ZAg {r:RW2} {r2:R2} (ho:IxR X r2) (mr:r.M) (ma:ga.M) (mb:gb.M) (hr:∀ (x y:W) (v u:V) (G:Hw) (H:Hp) (Q:VK),Tr X.K H v x→Tr X.K H u y→RelH X.K H G→r x y G (dn X.K H Q)→r2 v u H Q)
  (ha:PEw X a ga) (hb:PEw X b gb) (hs:Zk9 b):PEw X (.Subscript a b pos) (Zah r ga gb):=Zbn (ZA5 ho ha hb hs) (ZoZ mr ma mb hr)
end
abbrev Xw:=Sw→Addr→Hw→Prop
abbrev XF:Xw:=fun _ _ _=>False
def upX (K:PySem.W.Frag) (ex:Xw):St→XK:=fun σ Cv _ H'=>∃ C ω G,Cv=.ref C∧TrSt K H' σ ω∧RelH K H' G∧ex ω C G
abbrev Zmo (X:Cx) (ex:Xw):Prop:=Zjn (CXe X.prog X.w) X (upX X.K ex)
theorem Un.mono' {fs exs:List Addr} {h h':Heap} (u:Un fs exs H H' h h'):Mono K H H':=by
 refine ⟨fun a vs q=>?_,fun a vs q=>?_⟩
 ·rcases q with (q | ⟨o,q⟩) | q
  ·exact .inl (.inl (u.tups a vs q))
  ·exact .inl (.inr ⟨o,u.frzs a o _ q⟩)
  ·exact .inr q
 ·rcases q with ⟨o,q⟩ | q
  ·exact .inl ⟨o,u.frzs a o _ q⟩
  ·exact .inr q
abbrev Spw:=List W→Hw→Kw→(Addr→Hw→Prop)→Prop
def dnX (K:PySem.W.Frag) (H:Hp) (E:XK):Addr→Hw→Prop:=fun C G'=>∀ H',Mono K H H'→RelH K H' G'→E (.ref C) none H'
def Zu6 (K:PySem.W.Frag) (sp:Spw):Sp:=fun vs H Q E=>∃ ws G,TrL K H vs ws∧RelH K H G∧sp ws G (dn K H Q) (dnX K H E)
def Spw.M (sp:Spw):Prop:=∀ ws G (Q Q':Kw) (E E':Addr→Hw→Prop),(∀ w G',Q w G'→Q' w G')→(∀ w G',E w G'→E' w G')→sp ws G Q E→sp ws G Q' E'
structure Df (P:Program) (w:World) (K:PySem.W.Frag) (mg:Str→Option Value) (base:Heap) (x:Str) (k n:Nat) (sp:Spw):Prop where
 ex:∃ (f:Addr) (fd:FuncData) (ps:List Str),mg x=some (.ref f)∧PySem.W.keepIn K (.ref f)=true∧Binds K fd ps []∧ps.length=n∧FnOk P w K mg base (CXe P w) k f fd ps (Zu6 K sp)
 mono:sp.M
section
variable {X:Cx} {e:Expr} {es:List Expr} {pos p:Pos} {ga gb:GE} {gs:GA} {ex:Xw}
def Zag:GA:=fun _ G Q=>Q [] G
def Zaa (g:GE) (gs:GA):GA:=fun ω G Q=>g ω G fun x G1=>gs ω G1 fun xs G2=>Q (x::xs) G2
theorem Zxl:GA.M Zag:=fun _ _ _ _ h q=>h _ _ q
theorem ZvT (ma:ga.M) (ms:gs.M):GA.M (Zaa ga gs):=fun ω G Q Q' h q=>ma _ _ _ _ (fun x G1 q1=>ms _ _ _ _ (fun xs G2 q2=>h _ _ q2) q1) q
theorem ZxN:PAw X [] Zag:=Zux ZoJ (by rintro σ H Q ⟨ω,G,ts,r,q⟩;exact q [] H .refl .nil r)
theorem Zvk (ma:ga.M) (ms:gs.M) (ha:PEw X e ga) (hs:PAw X es gs) (hst:starEach (e::es) X.env=(false,eval e X.env)::starEach es X.env:=by rfl):PAw X (e::es) (Zaa ga gs) :=
 Zux (ZhZ ha hs hst) (by rintro σ H Q ⟨ω,G,ts,r,q⟩;exact ⟨ω,G,ts,r,ma _ _ _ _ (fun x G1 q1 v H1 m1 tx r1=>⟨ω,G1,ts.mono m1,r1,ms _ _ _ _ (fun xs G2 q2 vs H2 m2 txs r2=>q2 _ H2 (m1.trans m2) (.cons (tx.mono m2) txs) r2) q1⟩) q⟩)
def Zai (sp:Spw) (ex:Xw) (gs:GA):GE:=fun ω G Q=>gs ω G fun ws G1=>sp ws G1 Q (ex ω)
theorem ZrE {sp:Spw} (m:sp.M) (ms:gs.M):GE.M (Zai sp ex gs):=fun ω G Q Q' h q=>ms _ _ _ _ (fun ws G1 q1=>m _ _ _ _ _ _ h (fun _ _ z=>z) q1) q
theorem Zw2 {x:Str} {k n:Nat} {sp:Spw} (D:Df X.prog X.w X.K X.mg X.base x k n sp) (hr:Room k X.A) (hg:Gl X x) (hp:Zmo X ex) (ms:gs.M) (ha:PAw X (e::es) gs)
  (hdb:(x==("__debug__":Str))=false:=by decide) (he:starEach (e::es) X.env=(false,eval e X.env)::starEach es X.env:=by rfl) (hpl:(backTo pos (starEach es X.env)).any (·.1)=false:=by rfl) :
  PEw X (.Call (.Name x p) (e::es) [] pos) (Zai sp ex gs):=by
 obtain ⟨f,fd,ps,hm,hk,hb,_,F⟩:=D.ex
 refine Zbn (ZtA F hr hg hm hk hb .nil hp ha hdb he hpl) fun σ H Q zz1=>?_
 obtain ⟨ω,G,ts,r,q⟩:=zz1
 refine ⟨ω,G,ts,r,ms _ _ _ _ (fun ws G1 q1 vs H1 m1 tvs r1=>?_) q⟩
 refine ⟨ws,G1,by rw [List.append_nil];exact tvs,r1,D.mono _ _ _ _ _ _ (fun w G' z=>Zcz m1 z) (fun C G' z H2 m2 r2=>?_) q1⟩
 exact ⟨C,ω,G',rfl,(ts.mono m1).mono m2,r2,z⟩
end
def ZaU (N:List Str) (ws:List W):Sw:=ws.map some++List.replicate (N.length - ws.length) none
theorem ZfR {N:List Str} {vs:List V} {ws:List W} (t:TrL K H vs ws):TrSt K H (L2.ZgZ N vs) (ZaU N ws):=by
 have hl:=t.length
 refine ⟨by simp [L2.ZgZ,ZaU,hl],fun i w e=>?_⟩
 unfold ZaU at e
 by_cases hi:i < ws.length
 ·rw [List.getElem?_append_left (by simpa using hi),List.getElem?_map] at e
  cases z:ws[i]? with
  | none=>rw [z] at e;cases e
  | some w' =>
   rw [z] at e
   cases e
   obtain ⟨v,e1,r⟩:=t.get z
   exact ⟨v,by unfold L2.ZgZ;rw [List.getElem?_append_left (by simp;omega),List.getElem?_map,e1];rfl,r⟩
 ·rw [List.getElem?_append_right (by simpa using hi),List.getElem?_replicate] at e
  split at e <;> cases e
def Sub (G G':Hw):Prop:=∀ a o,G a=some o→G' a=some o
theorem Sub.refl {G:Hw}:Sub G G:=fun _ _ h=>h
theorem Sub.trans {G G1 G2:Hw} (a:Sub G G1) (b:Sub G1 G2):Sub G G2:=fun c o h=>b c o (a c o h)
theorem Sub.put {G G':Hw} {a:Addr} {o:HW} (h:Sub G G') (hn:G a=none):Sub G (put G' a o):=fun c u z=>by
 rw [Zat (fun e=>by rw [e,hn] at z;cases z)]
 exact h c u z
theorem Sub.put2 {G G':Hw} {a:Addr} {o:HW} (h:Sub G G'):Sub (L3.put G a o) (L3.put G' a o):=fun c u z=>by
 by_cases e:c=a
 ·subst e;rw [Zaf] at z ⊢;exact z
 ·rw [Zat e] at z ⊢;exact h c u z
theorem RelH.sub {G G':Hw} (r:RelH K H G') (s:Sub G G'):RelH K H G:=fun a o e=>r a o (s a o e)
def Kw.C (Q:Kw):Prop:=∀ w G G',Sub G G'→Q w G→Q w G'
def Xc (E:Addr→Hw→Prop):Prop:=∀ w G G',Sub G G'→E w G→E w G'
theorem Zz1 {Q:VK}:Kw.C (dn K H Q):=fun w G G' s q v H2 m t r=>q v H2 m t (r.sub s)
theorem ZAV {E:XK}:Xc (dnX K H E):=fun w G G' s q H2 m r=>q H2 m (r.sub s)
def ZaK (Q:Kw):Ew:=⟨fun _ G=>Q .non G,Q,fun _ _=>False,fun _ _=>False⟩
section
variable {P:Program} {w:World} {mg:Str→Option Value} {base:Heap}
abbrev cxW (P:Program) (w:World) (K:PySem.W.Frag) (mg:Str→Option Value) (base:Heap) (N:List Str) (qual:Str) (scope:Scope) (f:Addr) (cd:Value) (A:Around) (outer:List Env) (s:Shared) (H:Hp) (E:XK):Cx :=
 Zid (CXe P w) P w K mg base N qual scope f cd A outer s H E
theorem Zay {N:List Str} {qual:Str} {scope:Scope} {f:Addr} {cd:Value} {A:Around} {outer:List Env} {s:Shared} {H:Hp} {E:XK}:Zmo (cxW P w K mg base N qual scope f cd A outer s H E) (fun _=>dnX K H E):=by
 intro pins σ Hc sc ev s' I ⟨e,C,H',ee,F,C',ω,G,eC,ts,r,q⟩
 cases eC
 refine ZAF pins σ Hc sc ev s' I ⟨e,C,H',ee,F,q H' ?_ r⟩
 exact (Un.mono' I.base).trans (Un.mono' F.un)
end
section
variable {X:Cx} {a b c e:Expr} {st:Stmt} {sts sts':List Stmt} {pos pos':Pos} {ga gb gc:GE} {gt gu:GT} {g1 g2:GS} {ex:Xw} {P:Hp→Prop}
def Zaq:GS:=fun D ω G=>D.nx ω G
def Zar (g1 g2:GS):GS:=fun D ω G=>g1 { D with nx:=g2 D } ω G
theorem Zvv:GS.M Zaq:=fun _ _ _ _ h _ _ _ q=>h _ _ q
theorem ZxL (m1:g1.M) (m2:g2.M):GS.M (Zar g1 g2):=fun ω G D D' h1 h2 h3 h4 q=>m1 _ _ { D with nx:=g2 D } _ (fun _ _ z=>m2 _ _ _ _ h1 h2 h3 h4 z) h2 h3 h4 q
theorem ZwH:Ztr X P [] Zaq:=fun B hB=>ZnX ZvO (by rintro D σ H ⟨ω,G,ts,r,mb,q⟩;exact q σ H mb ts r)
theorem Zur (m1:g1.M) (m2:g2.M) (h1:PSw X P st g1) (h2:Ztr X P sts g2):Ztr X P (st::sts) (Zar g1 g2):=fun B hB =>
 ZnX (Zt0 (h1 B hB) (h2 B hB)) (by rintro D σ H ⟨ω,G,ts,r,mb,q⟩;exact ⟨ω,G,ts,r,mb,m1 _ _ { dnD X.K B D with nx:=g2 (dnD X.K B D) } _ (fun ω' G' z σ' H' m ts' r'=>⟨ω',G',ts',r',m,z⟩) (fun _ _ z=>z) (fun _ _ z=>z) (fun _ _ z=>z) q⟩)
theorem Zvy (h1:PSw X P st g1):Ztr X P [st] g1:=fun B hB=>ZnX (ZwY (h1 B hB)) fun D σ H z=>z
def Za2 (i:Nat) (ga:GE):GS:=fun D ω G=>ga ω G fun w G1=>D.nx (ω.set i (some w)) G1
theorem Zu1 {i:Nat} (ma:ga.M):GS.M (Za2 i ga):=fun ω G D D' h _ _ _ q=>ma _ _ _ _ (fun _ _ z=>h _ _ z) q
theorem ZzI {i:Nat} {x:Str} (hN:X.N.Nodup) (hi:X.N[i]?=some x) (hx:Loc X.env.scope x) (ma:ga.M) (ha:PEw X e ga) (hs:swapsWith e (some (.Name x pos')) pos.line X.env=pure false) (hf:X.fn x=true∨X.env.scope.names.lookup x=some .local) :
  PSw X P (.Assign [.Name x pos'] e pos) (Za2 i ga):=fun B hB =>
 Zgg (ZzG hN hi hx ha hs hf) (by rintro D σ H ⟨ω,G,ts,r,mb,q⟩;exact ⟨ω,G,ts,r,ma _ _ _ _ (fun w G1 z v H1 m t r1=>z _ H1 (mb.trans m) ((ts.mono m).set i t) r1) q⟩)
def ZaD (ga:GE):GS:=fun D ω G=>ga ω G D.rt
theorem Zyt (ma:ga.M):GS.M (ZaD ga):=fun ω G D D' _ h _ _ q=>ma _ _ _ _ (fun _ _ z=>h _ _ z) q
theorem ZzN (ma:ga.M) (ha:PEw X e ga):PSw X P (.Return (some e) pos) (ZaD ga):=fun B hB=>Zgg (ZxV ha) (by rintro D σ H ⟨ω,G,ts,r,mb,q⟩;exact ⟨ω,G,ts,r,ma _ _ _ _ (fun w G1 z v H1 m t r1=>z v H1 (mb.trans m) t r1) q⟩)
def ZaT (ga:GE):GS:=fun D ω G=>ga ω G fun _ G1=>D.nx ω G1
theorem Zwu (ma:ga.M):GS.M (ZaT ga):=fun ω G D D' h _ _ _ q=>ma _ _ _ _ (fun _ _ z=>h _ _ z) q
theorem ZwD (ma:ga.M) (ha:PEw X e ga) (hs:swapsWith e none pos.line X.env=pure false):PSw X P (.Expr e pos) (ZaT ga):=fun B hB =>
 Zgg (ZvI ha hs) (by rintro D σ H ⟨ω,G,ts,r,mb,q⟩;exact ⟨ω,G,ts,r,ma _ _ _ _ (fun w G1 z v H1 m t r1=>z _ H1 (mb.trans m) (ts.mono m) r1) q⟩)
def gIf (gt:GT) (g1 g2:GS):GS:=fun D ω G=>gt ω G fun b G1=>if b=true then g1 D ω G1 else g2 D ω G1
theorem ZAD (mt:gt.M) (m1:g1.M) (m2:g2.M):GS.M (gIf gt g1 g2):=fun ω G D D' h1 h2 h3 h4 q=>mt _ _ _ _ (fun b G1 z=>by
 cases b with
 | true=>exact m1 _ _ _ _ h1 h2 h3 h4 z
 | false=>exact m2 _ _ _ _ h1 h2 h3 h4 z) q
theorem ZAa (mt:gt.M) (m1:g1.M) (m2:g2.M) (hc:PTw X c gt) (h1:Ztr X P sts g1) (h2:Ztr X P sts' g2):PSw X P (.If c sts sts' pos) (gIf gt g1 g2):=fun B hB =>
 Zgg (ZA8 hc (h1 B hB) (h2 B hB)) fun D σ H ⟨ω,G,ts,r,mb,q⟩=>⟨ω,G,ts,r,mt _ _ _ _ (fun b G1 z H1 m r1=>by
  cases b with
  | true=>exact ⟨ω,G1,ts.mono m,r1,mb.trans m,z⟩
  | false=>exact ⟨ω,G1,ts.mono m,r1,mb.trans m,z⟩) q⟩
def gTB (g:GE):GT:=fun ω G Q=>g ω G fun w G1=>match w with | .bl b=>Q b G1 | _=>False
theorem Zxr (m:ga.M):GT.M (gTB ga):=fun ω G Q Q' h q=>m _ _ _ _ (fun w G1 z=>by
 cases w <;> first | exact h _ _ z | exact z) q
theorem ZnJ {v:V} {b:Bool} (t:Tr K H v (.bl b)):v=.bl b:=by cases t;rfl
theorem Zzl {v:V} {b:Int} (t:Tr K H v (.int b)):v=.int b:=by cases t;rfl
theorem ZuU {v:V} {b:Str} (t:Tr K H v (.str b)):v=.str b:=by cases t;rfl
theorem Zyw {v:V} {a:Addr} (t:Tr K H v (.ref a)):v=.ref a:=by cases t;rfl
theorem ZxQ (m:ga.M) {f:Bool→Hp→Prop} {σ:St} (h:upT K (gTB ga) σ H f):up K ga σ H (fun x H1=>∃ k,x=.bl k∧f k H1):=by
 obtain ⟨ω,G,ts,r,q⟩:=h
 refine ⟨ω,G,ts,r,m _ _ _ _ (fun w G1 z v H1 m1 t r1=>?_) q⟩
 cases w with
 | bl b=>exact ⟨b,ZnJ t,z H1 m1 r1⟩
 | _=>exact z.elim
theorem ZxU {op:CmpOp} {r:RW2} {r2:R2} (ho:OpR X (compareOp op) r2) (mr:r.M) (ma:ga.M) (mb:gb.M) (hr:∀ (x y:W) (v u:V) (G:Hw) (H:Hp) (Q:VK),Tr X.K H v x→Tr X.K H u y→RelH X.K H G→r x y G (dn X.K H Q)→r2 v u H Q)
  (ha:PEw X a ga) (hb:PEw X b gb) (hm:behindInMarks op b=false):PTw X (.Compare a [op] [b] pos) (gTB (Zah r ga gb)) :=
 ZoK (ZvY ho ha hb hm) fun σ H Q z=>ZoZ mr ma mb hr σ H _ (ZxQ (Ze6 mr ma mb) z)
def ZeM (w:W) (G:Hw):Option Bool:=match w with
 | .non=>some false
 | .bl b=>some b
 | .int i=>some (i != 0)
 | .tup xs=>some (!xs.isEmpty)
 | .rol xs=>some (!xs.isEmpty)
 | .ref a=>match G a with | some (.lst xs)=>some (!xs.isEmpty) | _=>none
 | .str _=>none
def Zd3 (g:GE):GT:=fun ω G Q=>g ω G fun w G1=>match ZeM w G1 with | some b=>Q b G1 | none=>False
theorem ZzD (m:ga.M):GT.M (Zd3 ga):=fun ω G Q Q' h q=>m _ _ _ _ (fun w G1 z=>by
 cases e:ZeM w G1 with
 | none=>rw [e] at z;exact z
 | some b=>rw [e] at z;exact h _ _ z) q
theorem ZhX:∀ {vs:List V} {ws:List W},TrL K H vs ws→vs.isEmpty=ws.isEmpty
 | _,_,.nil=>rfl
 | _,_,.cons _ _=>rfl
theorem ZwI {v:V} {w:W} {G:Hw} {b:Bool} (t:Tr K H v w) (r:RelH K H G) (e:ZeM w G=some b):ZAS K v H b:=by
 cases t with
 | non=>cases e;rfl
 | bl c=>cases e;rfl
 | int i=>cases e;rfl
 | str x=>cases e
 | tup h l=>cases e;exact .inr (.inl ⟨_,h,by rw [ZhX l]⟩)
 | rol h l=>cases e;exact .inl ⟨_,h.sq,by rw [ZhX l]⟩
 | ref a =>
  unfold ZeM at e
  dsimp only at e
  cases z:G a with
  | none=>rw [z] at e;cases e
  | some o =>
   rw [z] at e
   cases o with
   | exc C=>cases e
   | ins C fs=>cases e
   | dct kvs=>cases e
   | lst xs =>
    cases e
    obtain ⟨vs,e1,l⟩:=r a _ z
    exact .inl ⟨vs,SqL.of e1,by rw [ZhX l]⟩
theorem Zzt (ma:ga.M) (ha:PEw X e ga) (he:∀ whole,isTrue e X.env whole=(do let v ← whole;standAt e.pos;holding [v] (truthy v)):=by intro _;rfl):PTw X e (Zd3 ga) :=
 ZoK (ZtQ ha he) fun σ H Q ⟨ω,G,ts,r,q⟩=>⟨ω,G,ts,r,ma _ _ _ _ (fun w G1 z v H1 m t r1=>by
  cases e1:ZeM w G1 with
  | none=>rw [e1] at z;exact z.elim
  | some b=>rw [e1] at z;exact ⟨b,ZwI t r1 e1,z H1 m r1⟩) q⟩
def gNt (g:GT):GT:=fun ω G Q=>g ω G fun b G1=>Q (!b) G1
theorem ZA3 (m:gt.M):GT.M (gNt gt):=fun ω G Q Q' h q=>m _ _ _ _ (fun w G1 z=>h _ _ z) q
theorem Zzv (ha:PTw X a gt):PTw X (.UnaryOp .Not a pos) (gNt gt):=ZoK (Zy7 ha) fun σ H Q z=>z
abbrev PWw (X:Cx) (e:Expr) (g:GT):Prop:=PW X e (upT X.K g)
theorem Zov {e:Expr} {t t':TT} (h:PW X e t) (i:∀ σ H Q,t' σ H Q→t σ H Q):PW X e t':=fun wh pins s σ H Q I q=>h wh pins s σ H Q I (i σ H Q q)
def ZfE (g1 g2:GT):GT:=fun ω G Q=>g1 ω G fun b G1=>if b=true then g2 ω G1 Q else Q false G1
def gOr (g1 g2:GT):GT:=fun ω G Q=>g1 ω G fun b G1=>if b=true then Q true G1 else g2 ω G1 Q
theorem ZxI (m1:gt.M) (m2:gu.M):GT.M (ZfE gt gu):=fun ω G Q Q' h q=>m1 _ _ _ _ (fun b G1 z=>by
 cases b with
 | true=>exact m2 _ _ _ _ h z
 | false=>exact h _ _ z) q
theorem ZAG (m1:gt.M) (m2:gu.M):GT.M (gOr gt gu):=fun ω G Q Q' h q=>m1 _ _ _ _ (fun b G1 z=>by
 cases b with
 | true=>exact h _ _ z
 | false=>exact m2 _ _ _ _ h z) q
variable {Zch:List Expr}
theorem ZwJ (ha:PTw X a gt):PWw X (.BoolOp .And [a] pos) gt:=Zov (Zwf ha) fun σ H Q z=>z
theorem ZzA (ha:PTw X a gt):PWw X (.BoolOp .Or [a] pos) gt:=Zov (Zxx ha) fun σ H Q z=>z
theorem Zyy (m1:gt.M) (m2:gu.M) (ha:PTw X a gt) (hb:PWw X (.BoolOp .And (b::Zch) pos) gu):PWw X (.BoolOp .And (a::b::Zch) pos) (ZfE gt gu) :=
 Zov (ZyW ha hb) fun σ H Q ⟨ω,G,ts,r,q⟩=>⟨ω,G,ts,r,m1 _ _ _ _ (fun b G1 z H1 m r1=>by
  cases b with
  | true=>exact ⟨ω,G1,ts.mono m,r1,m2 _ _ _ _ (fun _ _ z=>Zo2 m z) z⟩
  | false=>exact z H1 m r1) q⟩
theorem ZA2 (m1:gt.M) (m2:gu.M) (ha:PTw X a gt) (hb:PWw X (.BoolOp .Or (b::Zch) pos) gu):PWw X (.BoolOp .Or (a::b::Zch) pos) (gOr gt gu) :=
 Zov (ZBb ha hb) fun σ H Q ⟨ω,G,ts,r,q⟩=>⟨ω,G,ts,r,m1 _ _ _ _ (fun b G1 z H1 m r1=>by
  cases b with
  | true=>exact z H1 m r1
  | false=>exact ⟨ω,G1,ts.mono m,r1,m2 _ _ _ _ (fun _ _ z=>Zo2 m z) z⟩) q⟩
theorem Zv7 {op:BoolOp} {vs:List Expr} (h:PWw X (.BoolOp op vs pos) gt):PTw X (.BoolOp op vs pos) gt:=PW.pt h
def ZbC (ga gb:GE):GE:=fun ω G Q=>ga ω G fun x G1=>match x with | .bl c=>if c=true then gb ω G1 Q else Q (.bl false) G1 | _=>False
def Zf0 (ga gb:GE):GE:=fun ω G Q=>ga ω G fun x G1=>match x with | .bl c=>if c=true then Q (.bl true) G1 else gb ω G1 Q | _=>False
def ZcC (ga:GE):GE:=fun ω G Q=>ga ω G fun x G1=>match x with | .bl c=>Q (.bl (!c)) G1 | _=>False
def ZgV (gt:GT) (ga gb:GE):GE:=fun ω G Q=>gt ω G fun c G1=>if c=true then ga ω G1 Q else gb ω G1 Q
theorem Zvu (ma:ga.M) (mb:gb.M):GE.M (ZbC ga gb):=fun ω G Q Q' h q=>ma _ _ _ _ (fun x G1 z=>by
 cases x with
 | bl c =>
  cases c with
  | true=>exact mb _ _ _ _ h z
  | false=>exact h _ _ z
 | _=>exact z) q
theorem Zzh (ma:ga.M) (mb:gb.M):GE.M (Zf0 ga gb):=fun ω G Q Q' h q=>ma _ _ _ _ (fun x G1 z=>by
 cases x with
 | bl c =>
  cases c with
  | true=>exact h _ _ z
  | false=>exact mb _ _ _ _ h z
 | _=>exact z) q
theorem ZvC (ma:ga.M):GE.M (ZcC ga):=fun ω G Q Q' h q=>ma _ _ _ _ (fun x G1 z=>by
 cases x with
 | bl c=>exact h _ _ z
 | _=>exact z) q
theorem Zyg (mt:gt.M) (ma:ga.M) (mb:gb.M):GE.M (ZgV gt ga gb):=fun ω G Q Q' h q=>mt _ _ _ _ (fun c G1 z=>by
 cases c with
 | true=>exact ma _ _ _ _ h z
 | false=>exact mb _ _ _ _ h z) q
theorem ZxE {op:BoolOp} (h:PEw X a ga):PEw X (.BoolOp op [a] pos) ga:=Zzx h
theorem ZzC (ma:ga.M) (mb:gb.M) (ha:PEw X a ga) (hb:PEw X (.BoolOp .And (b::Zch) pos) gb):PEw X (.BoolOp .And (a::b::Zch) pos) (ZbC ga gb) :=
 Zbn (Zx9 ha hb) fun σ H Q ⟨ω,G,ts,r,q⟩=>⟨ω,G,ts,r,ma _ _ _ _ (fun x G1 z v H1 m t r1=>by
  cases x with
  | bl c =>
   refine ⟨c,ZnJ t,?_⟩
   cases c with
   | true=>exact ⟨ω,G1,ts.mono m,r1,mb _ _ _ _ (fun _ _ z=>Zcz m z) z⟩
   | false=>exact z _ H1 m (.bl false) r1
  | _=>exact z.elim) q⟩
theorem ZAI (ma:ga.M) (mb:gb.M) (ha:PEw X a ga) (hb:PEw X (.BoolOp .Or (b::Zch) pos) gb):PEw X (.BoolOp .Or (a::b::Zch) pos) (Zf0 ga gb) :=
 Zbn (ZAu ha hb) fun σ H Q ⟨ω,G,ts,r,q⟩=>⟨ω,G,ts,r,ma _ _ _ _ (fun x G1 z v H1 m t r1=>by
  cases x with
  | bl c =>
   refine ⟨c,ZnJ t,?_⟩
   cases c with
   | true=>exact z _ H1 m (.bl true) r1
   | false=>exact ⟨ω,G1,ts.mono m,r1,mb _ _ _ _ (fun _ _ z=>Zcz m z) z⟩
  | _=>exact z.elim) q⟩
theorem ZzK (ma:ga.M) (ha:PEw X a ga):PEw X (.UnaryOp .Not a pos) (ZcC ga) :=
 Zbn (ZxZ ha) fun σ H Q ⟨ω,G,ts,r,q⟩=>⟨ω,G,ts,r,ma _ _ _ _ (fun x G1 z v H1 m t r1=>by
  cases x with
  | bl c=>exact ⟨c,ZnJ t,z _ H1 m (.bl _) r1⟩
  | _=>exact z.elim) q⟩
theorem Zxj (mt:gt.M) (ma:ga.M) (mb:gb.M) (hc:PTw X c gt) (ha:PEw X a ga) (hb:PEw X b gb):PEw X (.IfExp c a b pos) (ZgV gt ga gb) :=
 Zbn (Zug hc ha hb) fun σ H Q ⟨ω,G,ts,r,q⟩=>⟨ω,G,ts,r,mt _ _ _ _ (fun c G1 z H1 m r1=>by
  cases c with
  | true=>exact ⟨ω,G1,ts.mono m,r1,ma _ _ _ _ (fun _ _ z=>Zcz m z) z⟩
  | false=>exact ⟨ω,G1,ts.mono m,r1,mb _ _ _ _ (fun _ _ z=>Zcz m z) z⟩) q⟩
variable {es:List Expr} {gs:GA}
def ZaI (gs:GA):GE:=fun ω G Q=>gs ω G fun ws G1=>ws.length≤sizeLine∧Q (.tup ws) G1
def Zb1 (gs:GA):GE:=fun ω G Q=>gs ω G fun ws G1=>ws.length≤sizeLine∧∀ p,G1 p=none→Q (.ref p) (put G1 p (.lst ws))
theorem Zy5 (m:gs.M):GE.M (ZaI gs):=fun ω G Q Q' h q=>m _ _ _ _ (fun ws G1 z=>⟨z.1,h _ _ z.2⟩) q
theorem ZxF (m:gs.M):GE.M (Zb1 gs):=fun ω G Q Q' h q=>m _ _ _ _ (fun ws G1 z=>⟨z.1,fun p hp=>h _ _ (z.2 p hp)⟩) q
theorem ZxK {x1} (m:gs.M) (h:PAw X es gs):PEw X (.Tuple es x1 pos) (ZaI gs) :=
 Zbn (Zy6 h) fun σ H Q ⟨ω,G,ts,r,q⟩=>⟨ω,G,ts,r,m _ _ _ _ (fun ws G1 z vs H1 m1 t r1=>⟨by rw [t.length];exact z.1,fun p hp =>
  z.2 _ _ (m1.trans (Mono.new hp _)) (.tup (SqT.of Zbq) (t.mono (Mono.new hp _))) (r1.mono0 hp)⟩) q⟩
theorem Zyu (m:gs.M) (h:PAw X es gs):PEw X (.List es pos) (Zb1 gs) :=
 Zbn (Zyh h) fun σ H Q ⟨ω,G,ts,r,q⟩=>⟨ω,G,ts,r,m _ _ _ _ (fun ws G1 z vs H1 m1 t r1=>⟨by rw [t.length];exact z.1,fun p hp =>
  z.2 p (r1.no hp) _ _ (m1.trans (Mono.new hp _)) (.ref p) (r1.new hp t)⟩) q⟩
end
def ZiV (z:Str):List V:=z.cps.toList.map fun c=>V.str ⟨#[c]⟩
def Itk (xs:List V):It:=⟨fun i _=>i < xs.length,fun i H x H'=>H'=H∧xs[i]?=some x,fun i _=>xs.length≤i⟩
theorem ZpA {P:Program} {w:World} {tg:Expr} (ht:∀ it u,letOwnedTupleGo tg it u=pure ()) (it:Addr) (z:Str) (t:Tok):ZsJ P w K tg (Itk (ZiV z)) [it] it (fun i h=>h.IsStrIter it "str_ascii_iterator" z t i) where
 mem:=by simp
 obj:=fun i h st b hb=>by
  have e:b=it:=by simpa using hb
  subst e
  obtain ⟨o,e,c,d⟩:=st
  exact ⟨o,e,fun v z=>by rw [d] at z;cases z⟩
 keep:=fun i h h' st k=>by
  obtain ⟨o,e,c,d⟩:=st
  exact ⟨o,k it (by simp) o e,c,d⟩
 item:=by
  walk_at "pb"
  subst hP hw hK
  walk_at "pg"
  have W:=Walks.strAscii (prog:=X.prog) (w:=X.w) (I.ok.hd hc) it z t
  have hi:i < z.cps.size:=by simpa [ZiV,Itk] using hg
  refine W.item i s _ _ hi st fun v h' tk hv st' kk=>?_
  obtain ⟨c,t',hc',rfl⟩:=hv
  walk_at "pj"
  exact ⟨_,rfl,wpAny_of_eq (ht _ _) ⟨.str ⟨#[c]⟩,H,I1,⟨_,rfl⟩,⟨rfl,by simp [ZiV,hc']⟩,st',fun b hb=>(hf b hb).1⟩⟩
 done:=by
  walk_at "pb"
  subst hP hw hK
  walk_at "pg"
  have hi:z.cps.size≤i:=by simpa [ZiV,Itk] using hg
  exact wpAny_pyNext_ascii_end (I.ok.hd hc) st (by simp [hi]) fun h' eb=>⟨rfl,I.turned (t':=s.toks) (fun b o hb e=>eb b o hb e) f0 f1 f3 f4 f5⟩
 self:=fun A i s Q E st h=>wpAny_pyIter_striter_ascii st h
theorem ZqM {P:Program} {w:World} {tg:Expr} (ht:∀ it u,letOwnedTupleGo tg it u=pure ()) (it:Addr) (z:Str) (t:Tok):ZsJ P w K tg (Itk (ZiV z)) [it] it (fun i h=>h.IsStrIter it "str_iterator" z t i) where
 mem:=by simp
 obj:=fun i h st b hb=>by
  have e:b=it:=by simpa using hb
  subst e
  obtain ⟨o,e,c,d⟩:=st
  exact ⟨o,e,fun v z=>by rw [d] at z;cases z⟩
 keep:=fun i h h' st k=>by
  obtain ⟨o,e,c,d⟩:=st
  exact ⟨o,k it (by simp) o e,c,d⟩
 item:=by
  walk_at "pb"
  subst hP hw hK
  walk_at "pg"
  have W:=Walks.strWide (prog:=X.prog) (w:=X.w) (I.ok.hd hc) it z t
  have hi:i < z.cps.size:=by simpa [ZiV,Itk] using hg
  refine W.item i s _ _ hi st fun v h' tk hv st' kk=>?_
  obtain ⟨c,t',hc',rfl⟩:=hv
  walk_at "pj"
  exact ⟨_,rfl,wpAny_of_eq (ht _ _) ⟨.str ⟨#[c]⟩,H,I1,⟨_,rfl⟩,⟨rfl,by simp [ZiV,hc']⟩,st',fun b hb=>(hf b hb).1⟩⟩
 done:=by
  walk_at "pb"
  subst hP hw hK
  walk_at "pg"
  have hi:z.cps.size≤i:=by simpa [ZiV,Itk] using hg
  exact wpAny_pyNext_wide_end (I.ok.hd hc) st (by simp [hi]) fun h' eb=>⟨rfl,I.turned (t':=s.toks) (fun b o hb e=>eb b o hb e) f0 f1 f3 f4 f5⟩
 self:=fun A i s Q E st h=>wpAny_pyIter_striter_wide st h
def ZBC (K:PySem.W.Frag) (tl:TE):TI:=fun σ H R=>tl σ H fun x H1=>(∃ a,x=.ref a∧(∃ xs,SqL K H1 a xs)∧R (Itl K a) H1)∨(∃ a,x=.ref a∧(∃ xs,SqT K H1 a xs)∧R (Itt K a) H1)∨(∃ z,x=.str z∧R (Itk (ZiV z)) H1)
theorem Zze {X:Cx} {tg l:Expr} {tl:TE} (ht:∀ it u,letOwnedTupleGo tg it u=pure ()) (hl:PE X l tl):PI X tg l (ZBC X.K tl):=by
 intro pins s σ H R I h
 refine thn (hl pins s σ H _ I h) fun v s1 zz1=>?_
 obtain ⟨x,H1,I1,r1,q1⟩:=zz1
 rcases q1 with ⟨a,e,⟨xs,hq⟩,q⟩ | ⟨a,e,⟨xs,hq⟩,q⟩ | ⟨z,e,q⟩
 ·subst e
  cases r1
  obtain ⟨its,rv,p,hz⟩:=I1.list hq
  refine wpAny_pyIter_list p.isList ?_
  refine ⟨s1.heap.objs.size,[s1.heap.objs.size],_,_,H1,rfl,I1.kept (t':=s1.toks) fun b o e=>Heap.get?_push_of_some _ e,Zsc a _,⟨_,Heap.get?_push_size _ rfl,rfl,rfl⟩,fun b hb=>?_,q⟩
  have e:b=s1.heap.objs.size:=by simpa using hb
  subst e
  exact I1.fpOk (Nat.le_refl _) (I1.hok.fresh (Nat.le_refl _))
 ·subst e
  cases r1
  obtain ⟨its,rv,p,hz⟩:=I1.tuple hq
  refine wpAny_pyIter_tuple (show s1.heap.IsTuple a its.toArray from p) ?_
  refine ⟨s1.heap.objs.size,[s1.heap.objs.size],_,_,H1,rfl,I1.kept (t':=s1.toks) fun b o e=>Heap.get?_push_of_some _ e,Zpl a _,⟨_,Heap.get?_push_size _ rfl,rfl,rfl⟩,fun b hb=>?_,q⟩
  have e:b=s1.heap.objs.size:=by simpa using hb
  subst e
  exact I1.fpOk (Nat.le_refl _) (I1.hok.fresh (Nat.le_refl _))
 ·subst e
  obtain ⟨t,rfl⟩:=r1
  have fp:∀ b∈[s1.heap.objs.size],Zrv X pins H1 b:=fun b hb=>by
   have e:b=s1.heap.objs.size:=by simpa using hb
   subst e
   exact I1.fpOk (Nat.le_refl _) (I1.hok.fresh (Nat.le_refl _))
  cases ha:z.cps.all (· < 128)
  ·exact wpAny_pyIter_wide ha ⟨s1.heap.objs.size,[s1.heap.objs.size],_,_,H1,rfl,I1.kept (t':=s1.toks) fun b o e=>Heap.get?_push_of_some _ e,ZqM ht _ z t,⟨_,Heap.get?_push_size _ rfl,rfl,rfl⟩,fp,q⟩
  ·exact wpAny_pyIter_ascii ha ⟨s1.heap.objs.size,[s1.heap.objs.size],_,_,H1,rfl,I1.kept (t':=s1.toks) fun b o e=>Heap.get?_push_of_some _ e,ZpA ht _ z t,⟨_,Heap.get?_push_size _ rfl,rfl,rfl⟩,fp,q⟩
abbrev GI:=Sw→Hw→(List W→(Hw→Prop)→Hw→Prop)→Prop
def GI.M (g:GI):Prop:=∀ ω G (R R':List W→(Hw→Prop)→Hw→Prop),(∀ ws gd G',R ws gd G'→R' ws gd G')→g ω G R→g ω G R'
def ZjA (z:Str):List W:=z.cps.toList.map fun c=>W.str ⟨#[c]⟩
theorem ZqX {z:Str}:TrL K H (ZiV z) (ZjA z):=by
 unfold ZiV ZjA
 generalize z.cps.toList=l
 induction l with
 | nil=>exact .nil
 | cons c l ih=>exact .cons (.str _) ih
def yes:Hw→Prop:=fun _=>True
def holds (a:Addr) (ws:List W):Hw→Prop:=fun G=>G a=some (.lst ws)
def Zbf (ga:GE):GI:=fun ω G R=>ga ω G fun w G1=>match w with
 | .tup ws=>R ws yes G1
 | .rol ws=>R ws yes G1
 | .str z=>R (ZjA z) yes G1
 | .ref a=>match G1 a with | some (.lst ws)=>R ws (holds a ws) G1 | _=>False
 | _=>False
theorem ZwM {ga:GE} (m:ga.M):GI.M (Zbf ga):=fun ω G R R' h q=>m _ _ _ _ (fun w G1 z=>by
 cases w with
 | tup ws=>exact h _ _ _ z
 | rol ws=>exact h _ _ _ z
 | str x=>exact h _ _ _ z
 | ref a =>
  dsimp only at z ⊢
  cases e:G1 a with
  | none=>rw [e] at z;exact z
  | some o =>
   rw [e] at z
   cases o with
   | lst ws=>exact h _ _ _ z
   | exc C=>exact z
   | ins C fs=>exact z
   | dct kvs=>exact z
 | _=>exact z) q
structure Zv8 (K:PySem.W.Frag) (H1:Hp) (J:It) (ws:List W) (gd:Hw→Prop):Prop where
 go:∀ (i:Nat) (H:Hp) (G:Hw),Mono K H1 H→RelH K H G→gd G→i < ws.length→J.go i H
 yld:∀ (i:Nat) (H:Hp) (G:Hw) (x:V) (H':Hp),Mono K H1 H→RelH K H G→gd G→J.yld i H x H'→i < ws.length→Mono K H H'∧RelH K H' G∧∃ w,ws[i]?=some w∧Tr K H' x w
 stop:∀ (H:Hp) (G:Hw),Mono K H1 H→RelH K H G→gd G→J.stop ws.length H
theorem ZiJ {H H':Hp} {G:Hw} {x:V} {ws:List W} {i:Nat} (r:RelH K H G) (e:H'=H) (h:∃ w,ws[i]?=some w∧Tr K H x w):Mono K H H'∧RelH K H' G∧∃ w,ws[i]?=some w∧Tr K H' x w:=by
 subst e;exact ⟨.refl,r,h⟩
theorem Zow {a:Addr} {ws:List W} {gd:Hw→Prop} {H1:Hp} (h:∀ H G,Mono K H1 H→RelH K H G→gd G→∃ vs,SqL K H a vs∧TrL K H vs ws):Zv8 K H1 (Itl K a) ws gd where
 go:=fun i H G m r g hi=>by
  obtain ⟨vs,q,t⟩:=h H G m r g
  have hl:=t.length
  exact ⟨vs,vs[i]'(by omega),q,by simp⟩
 yld:=fun i H G x H' m r g y hi=>by
  obtain ⟨vs,q,t⟩:=h H G m r g
  obtain ⟨w,e,tw⟩:=t.get' (y.2 vs q)
  exact ZiJ r y.1 ⟨w,e,tw⟩
 stop:=fun H G m r g=>by
  obtain ⟨vs,q,t⟩:=h H G m r g
  exact ⟨vs,q,Nat.le_of_eq t.length⟩
theorem Zt8 {a:Addr} {vs:List V} {ws:List W} {gd:Hw→Prop} {H1:Hp} (q:SqT K H1 a vs) (t:TrL K H1 vs ws):Zv8 K H1 (Itt K a) ws gd where
 go:=fun i H G m r g hi=>by
  have hl:=t.length
  exact ⟨vs,vs[i]'(by omega),m.tup _ _ q,by simp⟩
 yld:=fun i H G x H' m r g y hi=>by
  obtain ⟨w,e,tw⟩:=(t.mono m).get' (y.2 vs (m.tup _ _ q))
  exact ZiJ r y.1 ⟨w,e,tw⟩
 stop:=fun H G m r g=>⟨vs,m.tup _ _ q,Nat.le_of_eq t.length⟩
theorem Zp9 {vs:List V} {ws:List W} {gd:Hw→Prop} {H1:Hp} (t:TrL K H1 vs ws):Zv8 K H1 (Itk vs) ws gd where
 go:=fun i H G m r g hi=>by show i < vs.length;rw [t.length];exact hi
 yld:=fun i H G x H' m r g y hi=>by
  obtain ⟨w,e,tw⟩:=(t.mono m).get' y.2
  exact ZiJ r y.1 ⟨w,e,tw⟩
 stop:=fun H G m r g=>by show vs.length≤ws.length;exact Nat.le_of_eq t.length
def PIw (X:Cx) (tg l:Expr) (gi:GI):Prop:=∃ wi:TI,PI X tg l wi∧∀ (σ:St) (H:Hp) (ω:Sw) (G:Hw) (R:List W→(Hw→Prop)→Hw→Prop) (R0:It→Hp→Prop),TrSt X.K H σ ω→RelH X.K H G→gi ω G R →
 (∀ ws gd G1 H1 J,R ws gd G1→Mono X.K H H1→RelH X.K H1 G1→gd G1→Zv8 X.K H1 J ws gd→R0 J H1)→wi σ H R0
theorem ZxS {X:Cx} {tg l:Expr} {ga:GE} (ht:∀ it u,letOwnedTupleGo tg it u=pure ()) (ma:ga.M) (hl:PEw X l ga):PIw X tg l (Zbf ga):=by
 refine ⟨_,Zze ht hl,fun σ H ω G R R0 ts r q k=>⟨ω,G,ts,r,ma _ _ _ _ (fun w G1 z v H1 m t r1=>?_) q⟩⟩
 cases t with
 | tup h l=>exact .inr (.inl ⟨_,rfl,⟨_,h⟩,k _ _ _ H1 _ z m r1 trivial (Zt8 h l)⟩)
 | rol h l=>exact .inl ⟨_,rfl,⟨_,h.sq⟩,k _ _ _ H1 _ z m r1 trivial (Zow fun H2 G2 m2 _ _=>⟨_,(m2.rol _ _ h).sq,l.mono m2⟩)⟩
 | str x=>exact .inr (.inr ⟨x,rfl,k _ _ _ H1 _ z m r1 trivial (Zp9 ZqX)⟩)
 | ref a =>
  dsimp only at z
  cases e:G1 a with
  | none=>rw [e] at z;exact z.elim
  | some o =>
   rw [e] at z
   cases o with
   | exc C=>exact z.elim
   | ins C fs=>exact z.elim
   | dct kvs=>exact z.elim
   | lst ws =>
    obtain ⟨vs,e1,t1⟩:=r1 a _ e
    exact .inl ⟨a,rfl,⟨vs,SqL.of e1⟩,k _ _ _ H1 _ z m r1 e (Zow fun H2 G2 m2 r2 g2=>let ⟨vs,e2,t2⟩:=r2 a _ g2;⟨vs,SqL.of e2,t2⟩)⟩
 | non=>exact z.elim
 | bl b=>exact z.elim
 | int i=>exact z.elim
structure TgW (X:Cx) (tg:Expr) (gg:GG):Prop where
 ex:∃ g:TG,PG X tg g∧∀ (x:V) (w:W) (σ:St) (ω:Sw) (H:Hp) (G:Hw) (Q:St→Hp→Prop),Tr X.K H x w→TrSt X.K H σ ω→RelH X.K H G→gg w ω G (dnS X.K H Q)→g x σ H Q
 mono:gg.M
def gNm (i:Nat):GG:=fun w ω G Q=>Q (ω.set i (some w)) G
theorem Zbu {X:Cx} {x:Str} {p:Pos} {i:Nat} (hN:X.N.Nodup) (hi:X.N[i]?=some x) (hx:Loc X.env.scope x) (hf:X.fn x=true∨X.env.scope.names.lookup x=some .local):TgW X (.Name x p) (gNm i) where
 ex:=⟨_,Zd7 hN hi hx hf,fun x w σ ω H G Q t ts r q=>q _ H .refl (ts.set i t) r⟩
 mono:=fun _ _ _ _ _ h q=>h _ _ q
def Zk8 (i j:Nat):GG:=fun w ω G Q=>match w with | .tup [a,b]=>Q ((ω.set i (some a)).set j (some b)) G | _=>False
def Zev (gd:Hw→Prop) (gg:GG) (gb:GS) (D:Ew):List W→Sw→Hw→Prop
 | [],ω,G=>gd G∧D.nx ω G
 | x::xs,ω,G=>gd G∧gg x ω G fun ω1 G1=>gb { nx:=Zev gd gg gb D xs,rt:=D.rt,bk:=D.nx,ct:=Zev gd gg gb D xs } ω1 G1
def Ze8 (gi:GI) (gg:GG) (gb:GS):GS:=fun D ω G=>gi ω G fun ws gd G1=>Zev gd gg gb D ws ω G1
theorem Zns {gd:Hw→Prop} {gg:GG} {gb:GS} (mg:gg.M) (mb:gb.M) {D D':Ew} (h1:∀ a b,D.nx a b→D'.nx a b) (h2:∀ a b,D.rt a b→D'.rt a b):∀ (ws:List W) (ω:Sw) (G:Hw),Zev gd gg gb D ws ω G→Zev gd gg gb D' ws ω G
 | [],ω,G,q=>⟨q.1,h1 _ _ q.2⟩
 | x::xs,ω,G,q=>⟨q.1,mg _ _ _ _ _ (fun ω1 G1 z=>mb _ _ { nx:=Zev gd gg gb D xs,rt:=D.rt,bk:=D.nx,ct:=Zev gd gg gb D xs } _ (fun a b y=>Zns mg mb h1 h2 xs a b y) h2 h1 (fun a b y=>Zns mg mb h1 h2 xs a b y) z) q.2⟩
theorem ZxH {gi:GI} {gg:GG} {gb:GS} (mi:gi.M) (mg:gg.M) (mb:gb.M):GS.M (Ze8 gi gg gb):=fun ω G D D' h1 h2 h3 h4 q=>mi _ _ _ _ (fun ws gd G1 z=>Zns mg mb h1 h2 ws ω G1 z) q
theorem ZtF {gd:Hw→Prop} {gg:GG} {gb:GS} {D:Ew} {ws:List W} {ω:Sw} {G:Hw} (q:Zev gd gg gb D ws ω G):gd G:=by
 cases ws with
 | nil=>exact q.1
 | cons w ws=>exact q.1
theorem Zy9 {X:Cx} {P:Hp→Prop} {tg iter:Expr} {body:List Stmt} {pos:Pos} {gi:GI} {gg:GG} {gb:GS} (hp:PassesOwn (model X.prog X.w) X.A X.env X.xe) (hc:X.calm=true) (mi:gi.M) (mb:gb.M) (hi:PIw X tg iter gi) (hg:TgW X tg gg) (hb:Ztr X ZBd body gb)
  (hs:∀ x,foldedSetIterable iter X.env x=pure x:=by intro _;rfl):PSw X P (.For tg iter body [] pos) (Ze8 gi gg gb):=by
 intro B hB
 obtain ⟨wi,hwi,hi⟩:=hi
 obtain ⟨g,hpg,hgg⟩:=hg.ex
 have mg:=hg.mono
 have hb':PSs X body (fun D σ H=>∃ B',upS X.K B' gb D σ H):=(by rintro pins s σ H D I ⟨B',z⟩;exact hb B' trivial pins s σ H D I z)
 refine Zgg (Zx1 hp hc hwi hpg hb' hs) fun D σ H zz2=>?_
 obtain ⟨ω,G,ts,r,mb0,q⟩:=zz2
 refine hi σ H ω G _ _ ts r q fun ws gd G1 H1 J z m1 r1 hgd wk=>?_
 have mb1:=mb0.trans m1
 refine ⟨fun i m σ' H'=>m=ws.length - i∧i≤ws.length∧Mono X.K H1 H'∧∃ ω' G',TrSt X.K H' σ' ω'∧RelH X.K H' G'∧Zev gd gg gb (dnD X.K B D) (ws.drop i) ω' G',⟨ws.length,by simp,Nat.zero_le _,.refl,ω,G1,ts.mono m1,r1,by simpa using z⟩,?_⟩
 rintro i m σ' H' ⟨rfl,hle,mm,ω',G',ts',r',q'⟩
 have hgd':=ZtF q'
 by_cases hlt:i < ws.length
 ·refine .inr ⟨wk.go i H' G' mm r' hgd' hlt,fun σ2 H2=>Mono X.K H1 H2∧∃ ω2 G2,TrSt X.K H2 σ2 ω2∧RelH X.K H2 G2∧Zev gd gg gb (dnD X.K B D) (ws.drop (i+1)) ω2 G2,
   (by rintro σ2 H2 ⟨y1,y2⟩;exact ⟨ws.length - (i+1),by omega,rfl,hlt,y1,y2⟩),fun x H2 y=>?_⟩
  obtain ⟨my,ry,w,ew,tw⟩:=wk.yld i H' G' x H2 mm r' hgd' y hlt
  have mm:=mm.trans my
  have ed:ws.drop i=w::ws.drop (i+1):=by
   obtain ⟨h',e'⟩:=List.getElem?_eq_some_iff.mp ew
   rw [← e'];exact List.drop_eq_getElem_cons h'
  rw [ed] at q'
  refine hgg x w σ' ω' _ G' _ tw (ts'.mono my) ry (mg _ _ _ _ _ (fun ω1 G1' z1 σ1 H3 m3 ts3 r3=>?_) q'.2)
  exact ⟨H1,ω1,G1',ts3,r3,mm.trans m3,mb _ _ _ _ (fun a b y σ4 H4 m4 ts4 r4=>⟨m4,a,b,ts4,r4,y⟩) (fun a b y=>Zcz mb1 y) (fun a b y=>Ztt mb1 y) (fun a b y σ4 H4 m4 ts4 r4=>⟨m4,a,b,ts4,r4,y⟩) z1⟩
 ·have e:i=ws.length:=by omega
  subst e
  rw [List.drop_length] at q'
  exact .inl ⟨wk.stop H' G' mm r' hgd',q'.2 σ' H' (mb1.trans mm) ts' r'⟩
def ZbD (gd:Hw→Prop) (gg:GG) (gt:GT) (ge:GE) (R:List W→Hw→Prop):List W→Sw→Hw→List W→Prop
 | [],_,G,ys=>gd G∧R ys G
 | x::xs,ω,G,ys=>gd G∧ys.length < sizeLine∧gg x ω G fun ω1 G1=>gt ω1 G1 fun b G2=>if b=true then ge ω1 G2 fun y G3=>ZbD gd gg gt ge R xs ω1 G3 (ys++[y]) else ZbD gd gg gt ge R xs ω1 G2 ys
def Zbp (gi:GI) (n:Nat) (gg:GG) (gt:GT) (ge:GE):GE:=fun ω G Q=>gi ω G fun ws gd G1=>ZbD gd gg gt ge (fun ys G2=>∀ p,G2 p=none→Q (.ref p) (put G2 p (.lst ys))) ws (List.replicate n none) G1 []
theorem ZiO {gd:Hw→Prop} {gg:GG} {gt:GT} {ge:GE} (mg:gg.M) (mt:gt.M) (me:ge.M) {R R':List W→Hw→Prop} (h:∀ a b,R a b→R' a b):∀ (ws:List W) (ω:Sw) (G:Hw) (ys:List W),ZbD gd gg gt ge R ws ω G ys→ZbD gd gg gt ge R' ws ω G ys
 | [],ω,G,ys,q=>⟨q.1,h _ _ q.2⟩
 | x::xs,ω,G,ys,q=>⟨q.1,q.2.1,mg _ _ _ _ _ (fun ω1 G1 z=>mt _ _ _ _ (fun b G2 z2=>by
   cases b with
   | true=>exact me _ _ _ _ (fun y G3 z3=>ZiO mg mt me h xs ω1 G3 _ z3) z2
   | false=>exact ZiO mg mt me h xs ω1 G2 _ z2) z) q.2.2⟩
theorem ZvX {gi:GI} {n:Nat} {gg:GG} {gt:GT} {ge:GE} (mi:gi.M) (mg:gg.M) (mt:gt.M) (me:ge.M):GE.M (Zbp gi n gg gt ge):=fun ω G Q Q' h q =>
 mi _ _ _ _ (fun ws gd G1 z=>ZiO mg mt me (fun ys G2 z p hp=>h _ _ (z p hp)) _ _ _ _ z) q
theorem Znl {gd:Hw→Prop} {gg:GG} {gt:GT} {ge:GE} {R:List W→Hw→Prop} {ws:List W} {ω:Sw} {G:Hw} {ys:List W} (q:ZbD gd gg gt ge R ws ω G ys):gd G:=by
 cases ws with
 | nil=>exact q.1
 | cons w ws=>exact q.1
def ZfN:GT:=fun _ G Q=>Q true G
theorem Zx0:GT.M ZfN:=fun _ _ _ _ h q=>h _ _ q
abbrev PFw (X:Cx) (ifs:List Expr) (g:GT):Prop:=PF X ifs (upT X.K g)
theorem Zys {X:Cx}:PFw X [] ZfN:=(by rintro pins s σ H Q I ⟨ω,G,ts,r,q⟩;exact Zzc pins s σ H Q I (q H .refl r))
theorem ZyM {X:Cx} {c:Expr} {g:GT} (h:PTw X c g):PFw X [c] g:=Zx7 h
theorem Zqs {n:Nat} {σ:St} (h:σ=List.replicate n none):TrSt K H σ (List.replicate n none):=by
 subst h
 refine ⟨by simp,fun i w e=>?_⟩
 rw [List.getElem?_replicate] at e
 split at e <;> cases e
theorem Zwt {X:Cx} {Nc:List Str} {gi:GI} {gg:GG} {gt:GT} {ge:GE} {wi:TI} {g:TG} (hwi:∀ (σ:St) (H:Hp) (ω:Sw) (G:Hw) (R:List W→(Hw→Prop)→Hw→Prop) (R0:It→Hp→Prop),TrSt X.K H σ ω→RelH X.K H G→gi ω G R →
   (∀ ws gd G1 H1 J,R ws gd G1→Mono X.K H H1→RelH X.K H1 G1→gd G1→Zv8 X.K H1 J ws gd→R0 J H1)→wi σ H R0)
  (hgg:∀ (x:V) (w:W) (σ:St) (ω:Sw) (H:Hp) (G:Hw) (Q:St→Hp→Prop),Tr X.K H x w→TrSt X.K H σ ω→RelH X.K H G→gg w ω G (dnS X.K H Q)→g x σ H Q) (mg:gg.M) (mt:gt.M) (me:ge.M) (σ:St) (H:Hp) (Q:VK) (h:up X.K (Zbp gi Nc.length gg gt ge) σ H Q) :
  ZtU wi (fun _=>List.replicate Nc.length none) g (upT X.K gt) (up X.K ge) σ H Q:=by
 obtain ⟨ω,G,ts,r,q⟩:=h
 refine hwi σ H ω G _ _ ts r q fun ws gd G1 H1 J z m1 r1 hgd wk=>?_
 refine ⟨fun i m σ' H' vs=>m=ws.length - i∧i≤ws.length∧Mono X.K H1 H'∧∃ ω' G' ys,TrSt X.K H' σ' ω'∧RelH X.K H' G'∧TrL X.K H' vs ys∧ZbD gd gg gt ge (fun ys G2=>∀ p,G2 p=none→dn X.K H Q (.ref p) (put G2 p (.lst ys))) (ws.drop i) ω' G' ys,
  ⟨ws.length,by simp,Nat.zero_le _,.refl,_,G1,[],Zqs rfl,r1,.nil,by simpa using z⟩,?_⟩
 rintro i m σ' H' vs ⟨rfl,hle,mm,ω',G',ys,ts',r',tv,q'⟩
 have hgd':=Znl q'
 by_cases hlt:i < ws.length
 ·have hw:∃ w,ws[i]?=some w:=⟨ws[i],by simp [hlt]⟩
  obtain ⟨w0,ew0⟩:=hw
  have ed:ws.drop i=w0::ws.drop (i+1):=by
   obtain ⟨h',e'⟩:=List.getElem?_eq_some_iff.mp ew0
   rw [← e'];exact List.drop_eq_getElem_cons h'
  rw [ed] at q'
  refine .inr ⟨wk.go i H' G' mm r' hgd' hlt,by rw [tv.length];exact q'.2.1,fun σ2 H2 vs2=>Mono X.K H1 H2∧∃ ω2 G2 ys2,TrSt X.K H2 σ2 ω2∧RelH X.K H2 G2∧TrL X.K H2 vs2 ys2∧ZbD gd gg gt ge (fun ys G2=>∀ p,G2 p=none→dn X.K H Q (.ref p) (put G2 p (.lst ys))) (ws.drop (i+1)) ω2 G2 ys2,
   (by rintro σ2 H2 vs2 ⟨y1,y2⟩;exact ⟨ws.length - (i+1),by omega,rfl,hlt,y1,y2⟩),fun x H2 y=>?_⟩
  obtain ⟨my,ry,w,ew,tw⟩:=wk.yld i H' G' x H2 mm r' hgd' y hlt
  have mm:=mm.trans my
  have tv:=tv.mono my
  rw [ew0] at ew;cases ew
  refine hgg x _ σ' ω' _ G' _ tw (ts'.mono my) ry (mg _ _ _ _ _ (fun ω1 G1' z1 σ1 H3 m3 ts3 r3=>?_) q'.2.2)
  refine ⟨ω1,G1',ts3,r3,mt _ _ _ _ (fun b G4 z4 H4 m4 r4=>?_) z1⟩
  cases b with
  | true=>exact ⟨ω1,G4,ts3.mono m4,r4,me _ _ _ _ (fun y5 G5 z5 v5 H5 m5 t5 r5=>⟨((mm.trans m3).trans m4).trans m5,ω1,G5,_,(ts3.mono m4).mono m5,r5,(((tv.mono m3).mono m4).mono m5).append (.cons t5 .nil),z5⟩) z4⟩
  | false=>exact ⟨(mm.trans m3).trans m4,ω1,G4,_,ts3.mono m4,r4,(tv.mono m3).mono m4,z4⟩
 ·have e:i=ws.length:=by omega
  subst e
  rw [List.drop_length] at q'
  exact .inl ⟨wk.stop H' G' mm r' hgd',fun p hp=>q'.2 p (r'.no hp) _ _ ((m1.trans mm).trans (Mono.new hp _)) (.ref p) (r'.new hp tv)⟩
structure TgU (X:Cx) (Nc:List Str) (scope:Scope) (tg:Expr) (gg:GG):Prop where
 ex:∃ g:TG,(∀ C fp s H,PG (cxB X Nc scope [] C fp s H) tg g)∧∀ (x:V) (w:W) (σ:St) (ω:Sw) (H:Hp) (G:Hw) (Q:St→Hp→Prop),Tr X.K H x w→TrSt X.K H σ ω→RelH X.K H G→gg w ω G (dnS X.K H Q)→g x σ H Q
 mono:gg.M
theorem ZeT {X:Cx} {Nc:List Str} {scope:Scope} {x:Str} {p:Pos} {i:Nat} (hN:Nc.Nodup) (hi:Nc[i]?=some x) (hx:scope.names.lookup x=some .local):TgU X Nc scope (.Name x p) (gNm i) where
 ex:=⟨ZiA i,fun C fp s H=>Zd7 (X:=cxB X Nc scope [] C fp s H) hN hi (.inl (lookup_relabel_local hx)) (.inr (lookup_relabel_local hx)),fun x w σ ω H G Q t ts r q=>q _ H .refl (ts.set i t) r⟩
 mono:=fun _ _ _ _ _ h q=>h _ _ q
theorem Zvd {i j:Nat}:GG.M (Zk8 i j):=fun w ω G Q Q' h q=>by
 unfold Zk8 at q ⊢
 split
 ·exact h _ _ q
 ·rename_i z
  split at q
  ·exact (z _ _ rfl).elim
  ·exact q
theorem Zlr {X:Cx} {Nc:List Str} {scope:Scope} {x y:Str} {p p' pos:Pos} {k i j:Nat} (hc:X.calm=true) (hN:Nc.Nodup) (hi:Nc[i]?=some x) (hx:scope.names.lookup x=some .local) (hj:Nc[j]?=some y) (hy:scope.names.lookup y=some .local) :
  TgU X Nc scope (.Tuple [.Name x p,.Name y p'] k pos) (Zk8 i j) where
 ex:=⟨L2.ZaI X.K 2 (L2.Zaa (ZiA i) (L2.Zaa (ZiA j) L2.Zag)),fun C fp s H=>Zq3 (X:=cxB X Nc scope [] C fp s H) hc (ZeQ (Zd7 hN hi (.inl (lookup_relabel_local hx)) (.inr (lookup_relabel_local hx))) (ZeQ (Zd7 hN hj (.inl (lookup_relabel_local hy)) (.inr (lookup_relabel_local hy))) ZnV)),
  fun v w σ ω H G Q t ts r q=>by
   unfold Zk8 at q
   split at q
   ·rename_i a b
    cases t with
    | tup h l =>
     cases l with
     | cons ta l =>
      cases l with
      | cons tb l =>
       cases l
       exact ⟨_,_,rfl,h,rfl,_,_,rfl,_,_,rfl,rfl,q _ H .refl ((ts.set i ta).set j tb) r⟩
   ·exact q.elim⟩
 mono:=Zvd
theorem ZwB {X:Cx} {elt tg iter:Expr} {ifs:List Expr} {scope:Scope} {pos:Pos} {Nc:List Str} {gi:GI} {gg:GG} {gt:GT} {ge:GE} (hc:X.calm=true) (hi:PIw X tg iter gi) (B:Blk X Nc scope [] (fun _=>List.replicate Nc.length none))
  (hu:TgU X Nc scope tg gg) (mt:gt.M) (ht:∀ C fp s H,PFw (cxB X Nc scope [] C fp s H) ifs gt) (me:ge.M) (he:∀ C fp s H,PEw (cxB X Nc scope [] C fp s H) elt ge) (hs:∀ x,foldedSetIterable iter X.env x=pure x) :
  PEw X (.ListComp elt [⟨tg,iter,ifs,0⟩] scope pos) (Zbp gi Nc.length gg gt ge):=by
 obtain ⟨wi,hwi,hi⟩:=hi
 obtain ⟨g,hpg,hgg⟩:=hu.ex
 exact Zbn (Zqx hc hwi B hpg ht he hs) (Zwt hi hgg hu.mono mt me)
def ZbF (C:Int→Int→Prop) (f:Int→Int→Int):RW2:=fun x y G Q=>match x,y with
 | .int i,.int j=>C i j∧Q (.int (f i j)) G
 | _,_=>False
theorem ZgA {C:Int→Int→Prop} {f:Int→Int→Int}:RW2.M (ZbF C f):=fun x y G Q Q' h q=>by
 cases x <;> cases y <;> first | exact q | exact ⟨q.1,h _ _ q.2⟩
theorem Zjr {C:Int→Int→Prop} {f:Int→Int→Int} (x y:W) (v u:V) (G:Hw) (H:Hp) (Q:VK) (tx:Tr K H v x) (ty:Tr K H u y) (r:RelH K H G) (q:ZbF C f x y G (dn K H Q)):rI C (fun i j=>.int (f i j)) v u H Q:=by
 cases tx <;> first | exact q.elim | (cases ty <;> first | exact q.elim | exact ⟨_,_,rfl,rfl,q.1,q.2 _ H .refl (.int _) r⟩)
def ZdJ:RW2:=fun x y G Q=>match x,y with
 | .int i,.int j=>Q (.int (i+j)) G
 | .str a,.str b=>a.length+b.length≤sizeLine∧Q (.str (a++b)) G
 | .ref a,.ref b=>(match G a,G b with
  | some (.lst xs),some (.lst ys)=>xs.length+ys.length≤sizeLine∧∀ p,G p=none→Q (.ref p) (put G p (.lst (xs++ys)))
  | _,_=>False)
 | _,_=>False
theorem ZrJ:RW2.M ZdJ:=fun x y G Q Q' h q=>by
 cases x <;> cases y <;> first | exact q | exact h _ _ q | exact ⟨q.1,h _ _ q.2⟩ | skip
 rename_i a b
 unfold ZdJ at q ⊢
 dsimp only at q ⊢
 cases ea:G a with
 | none=>rw [ea] at q;exact q
 | some oa =>
  cases eb:G b with
  | none=>rw [ea,eb] at q;cases oa <;> exact q
  | some ob =>
   rw [ea,eb] at q
   cases oa <;> cases ob <;> first | exact q | exact ⟨q.1,fun p hp=>h _ _ (q.2 p hp)⟩
theorem Zqr {X:Cx}:OpR X (binaryOp .Add) (fun x y H Q=>(rI0 fun i j=>.int (i+j)) x y H Q∨(∃ i j,x=.str i∧y=.str j∧i.length+j.length≤sizeLine∧Q (.str (i++j)) H)∨Zxp x y H Q):=OpR.or Zyl (OpR.or ZpL Zxo)
theorem ZrV (x y:W) (v u:V) (G:Hw) (H:Hp) (Q:VK) (tx:Tr K H v x) (ty:Tr K H u y) (r:RelH K H G) (q:ZdJ x y G (dn K H Q)) :
  (rI0 fun i j=>.int (i+j)) v u H Q∨(∃ i j,v=.str i∧u=.str j∧i.length+j.length≤sizeLine∧Q (.str (i++j)) H)∨Zxp v u H Q:=by
 cases tx with
 | int i=>cases ty <;> first | exact q.elim | exact .inl ⟨_,_,rfl,rfl,q _ H .refl (.int _) r⟩
 | str i=>cases ty <;> first | exact q.elim | exact .inr (.inl ⟨_,_,rfl,rfl,q.1,q.2 _ H .refl (.str _) r⟩)
 | ref a =>
  cases ty <;> try exact q.elim
  rename_i b
  unfold ZdJ at q
  dsimp only at q
  cases ea:G a with
  | none=>rw [ea] at q;exact q.elim
  | some oa =>
   cases eb:G b with
   | none=>rw [ea,eb] at q;cases oa <;> exact q.elim
   | some ob =>
    rw [ea,eb] at q
    cases oa <;> cases ob <;> try exact q.elim
    obtain ⟨vs,e1,t1⟩:=r a _ ea
    obtain ⟨us,e2,t2⟩:=r b _ eb
    exact .inr (.inr ⟨a,b,vs,us,rfl,rfl,e1,e2,by rw [t1.length,t2.length];exact q.1,fun p hp=>q.2 p (r.no hp) _ _ (Mono.new hp _) (.ref p) (r.new hp (t1.append t2))⟩)
 | _=>exact q.elim
def ZeA (f:Int→Int→Bool):RW2:=fun x y G Q=>match x,y with
 | .int i,.int j=>Q (.bl (f i j)) G
 | _,_=>False
theorem ZuR {f:Int→Int→Bool}:RW2.M (ZeA f):=fun x y G Q Q' h q=>by
 cases x <;> cases y <;> first | exact q | exact h _ _ q
theorem Zrf {f:Int→Int→Bool} (x y:W) (v u:V) (G:Hw) (H:Hp) (Q:VK) (tx:Tr K H v x) (ty:Tr K H u y) (r:RelH K H G) (q:ZeA f x y G (dn K H Q)):rI0 (fun i j=>.bl (f i j)) v u H Q:=by
 cases tx <;> first | exact q.elim | (cases ty <;> first | exact q.elim | exact ⟨_,_,rfl,rfl,q _ H .refl (.bl _) r⟩)
def opt (o:Option W) (f:W→Prop):Prop:=match o with | some w=>f w | none=>False
theorem Zvh {o:Option W} {f f':W→Prop} (h:∀ w,f w→f' w) (q:opt o f):opt o f':=by
 cases o with
 | none=>exact q
 | some w=>exact h _ q
theorem Zfx {o:Option W} {f:W→Prop} (q:opt o f):∃ w,o=some w∧f w:=by
 cases o with
 | none=>exact q.elim
 | some w=>exact ⟨w,rfl,q⟩
def Zak (f:W→W→Hw→Option W):RW2:=fun x y G Q=>opt (f x y G) fun w=>Q w G
theorem Zij {f:W→W→Hw→Option W}:RW2.M (Zak f):=fun x y G Q Q' h q=>Zvh (fun w z=>h _ _ z) q
def ixW (x y:W) (G:Hw):Option W:=match x,y with
 | .tup xs,.int i=>atI xs i
 | .rol xs,.int i=>atI xs i
 | .ref a,.int i=>(match G a with | some (.lst xs)=>atI xs i | _=>none)
 | .str z,.int i=>if z.length≤sizeLine then (atI z.cps.toList i).map fun c=>.str ⟨#[c]⟩ else none
 | _,_=>none
theorem Zry {vs:List V} {ws:List W} {i:Int} {w:W} (t:TrL K H vs ws) (e:atI ws i=some w):∃ v,atI vs i=some v∧Tr K H v w:=by
 unfold atI at e ⊢
 rw [t.length]
 cases z:ixN ws.length i with
 | none=>rw [z] at e;cases e
 | some j =>
  rw [z] at e
  exact t.get e
theorem ZBD {X:Cx}:IxR X (fun x y H Q=>ZAl X.K x y H Q∨ZAp X.K x y H Q∨ZAk x y H Q):=IxR.or Zwa (IxR.or Zy1 Zxu)
theorem Zyx (x y:W) (v u:V) (G:Hw) (H:Hp) (Q:VK) (tx:Tr K H v x) (ty:Tr K H u y) (r:RelH K H G) (q:Zak ixW x y G (dn K H Q)):ZAl K v u H Q∨ZAp K v u H Q∨ZAk v u H Q:=by
 obtain ⟨w,e,q'⟩:=Zfx q
 cases ty with
 | int i =>
  cases tx with
  | tup h l =>
   obtain ⟨v',e',t'⟩:=Zry l e
   exact .inr (.inl ⟨_,_,_,_,rfl,rfl,h,e',q' _ H .refl t' r⟩)
  | rol h l =>
   obtain ⟨v',e',t'⟩:=Zry l e
   exact .inl ⟨_,_,_,_,rfl,rfl,h.sq,e',q' _ H .refl t' r⟩
  | str z =>
   unfold ixW at e;dsimp only at e
   split at e
   ·rename_i hz
    cases e1:atI z.cps.toList i with
    | none=>rw [e1] at e;cases e
    | some c =>
     rw [e1] at e;cases e
     exact .inr (.inr ⟨z,i,c,rfl,rfl,hz,e1,q' _ H .refl (.str _) r⟩)
   ·cases e
  | ref a =>
   unfold ixW at e;dsimp only at e
   cases eG:G a with
   | none=>rw [eG] at e;cases e
   | some o =>
    rw [eG] at e
    cases o with
    | exc C=>cases e
    | ins C fs=>cases e
    | dct kvs=>cases e
    | lst ws =>
     obtain ⟨vs,e1,l⟩:=r a _ eG
     obtain ⟨v',e',t'⟩:=Zry l e
     exact .inl ⟨_,_,_,_,rfl,rfl,SqL.of e1,e',q' _ H .refl t' r⟩
  | _=>cases e
 | _=>cases x <;> cases e
structure Em (X:Cx) (e:Expr) (g:GE):Prop where
 p:PEw X e g
 m:g.M
structure Tm (X:Cx) (e:Expr) (g:GT):Prop where
 p:PTw X e g
 m:g.M
structure Wm (X:Cx) (e:Expr) (g:GT):Prop where
 p:PWw X e g
 m:g.M
structure Am (X:Cx) (es:List Expr) (g:GA):Prop where
 p:PAw X es g
 m:g.M
structure Sm (X:Cx) (P:Hp→Prop) (s:Stmt) (g:GS):Prop where
 p:PSw X P s g
 m:g.M
structure Ssm (X:Cx) (P:Hp→Prop) (s:List Stmt) (g:GS):Prop where
 p:Ztr X P s g
 m:g.M
structure Im (X:Cx) (tg l:Expr) (g:GI):Prop where
 p:PIw X tg l g
 m:g.M
def place (N:List Str) (x:Str):Option Nat:=N.findIdx? (·==x)
theorem ZoY {N:List Str} {x:Str} {i:Nat} (h:place N x=some i):N[i]?=some x:=by
 unfold place at h
 obtain ⟨hi,e,_⟩:=List.findIdx?_eq_some_iff_getElem.mp h
 rw [List.getElem?_eq_getElem hi,eq_of_beq e]
def Zxf (sc:Scope) (x:Str):Bool:=match sc.names.lookup x with | some .local=>true | some .cell=>true | some .free=>true | _=>false
theorem Zon {sc:Scope} {x:Str} (h:Zxf sc x=true):Vis sc x:=by
 unfold Zxf at h
 split at h <;> first | (rename_i e;exact .inl e) | (rename_i e;exact .inr (.inl e)) | (rename_i e;exact .inr (.inr e)) | cases h
def Zkr (sc:Scope) (x:Str):Bool:=match sc.names.lookup x with | some .local=>true | _=>false
theorem Zf4 {sc:Scope} {x:Str} (h:Zkr sc x=true):sc.names.lookup x=some .local:=by
 unfold Zkr at h
 split at h
 ·rename_i e;exact e
 ·cases h
section
variable {X:Cx} {a b c e f:Expr} {es Zch:List Expr} {st:Stmt} {sts sts':List Stmt} {pos pos' p:Pos} {ga gb gc:GE} {gt gu:GT} {gs:GA} {g1 g2:GS} {ex:Xw} {P:Hp→Prop}
theorem Zfz {i:Int} {j}:Em X (.Constant (.int i) j pos) (gC (.int i)):=⟨ZxB,Zw7⟩
theorem ZjR {i:Bool} {j}:Em X (.Constant (.bool i) j pos) (gC (.bl i)):=⟨ZA4,Zw7⟩
theorem Zfi {j}:Em X (.Constant .none j pos) (gC .non):=⟨ZyD,Zw7⟩
theorem Zfn {i:Str} {j}:Em X (.Constant (.str i) j pos) (gC (.str i)):=⟨Zyb,Zw7⟩
theorem ZfQ (ha:Em X a ga) (hb:Em X b gb):Em X (.BinOp a .Add b pos) (Zah ZdJ ga gb):=⟨Zif Zqr ZrJ ha.m hb.m ZrV ha.p hb.p,Ze6 ZrJ ha.m hb.m⟩
theorem Zgk (ha:Em X a ga) (hb:Em X b gb):Em X (.BinOp a .Sub b pos) (Zah (ZbF (fun _ _=>True) fun i j=>i - j) ga gb) :=
 ⟨Zif (r2:=rI (fun _ _=>True) fun i j=>.int (i - j)) (opI fun _ _ _ _ _ _ _ _ q=>sub_int q) ZgA ha.m hb.m Zjr ha.p hb.p,Ze6 ZgA ha.m hb.m⟩
theorem Zgt (ha:Em X a ga) (hb:Em X b gb):Em X (.BinOp a .Mult b pos) (Zah (ZbF CMul fun i j=>i*j) ga gb):=⟨Zif Zzn ZgA ha.m hb.m Zjr ha.p hb.p,Ze6 ZgA ha.m hb.m⟩
theorem Zea (ha:Em X a ga) (hb:Em X b gb):Em X (.BinOp a .FloorDiv b pos) (Zah (ZbF Zxd fun i j=>i / j) ga gb):=⟨Zif ZwZ ZgA ha.m hb.m Zjr ha.p hb.p,Ze6 ZgA ha.m hb.m⟩
theorem Zgy (ha:Em X a ga) (hb:Em X b gb):Em X (.BinOp a .Mod b pos) (Zah (ZbF (fun _ j=>0 < j) fun i j=>i % j) ga gb):=⟨Zif Zzb ZgA ha.m hb.m Zjr ha.p hb.p,Ze6 ZgA ha.m hb.m⟩
theorem Zgu (ha:Em X a ga) (hb:Em X b gb):Em X (.BinOp a .Pow b pos) (Zah (ZbF Zvw fun i j=>i ^ j.toNat) ga gb):=⟨Zif ZxJ ZgA ha.m hb.m Zjr ha.p hb.p,Ze6 ZgA ha.m hb.m⟩
theorem ZjZ (hs:Zk9 b) (ha:Em X a ga) (hb:Em X b gb):Em X (.Subscript a b pos) (Zah (Zak ixW) ga gb):=⟨ZAg ZBD Zij ha.m hb.m Zyx ha.p hb.p hs,Ze6 Zij ha.m hb.m⟩
theorem ZfC {k} (h:Am X es gs):Em X (.Tuple es k pos) (ZaI gs):=⟨ZxK h.m h.p,Zy5 h.m⟩
theorem Zez (h:Am X es gs):Em X (.List es pos) (Zb1 gs):=⟨Zyu h.m h.p,ZxF h.m⟩
theorem Zfl {op:BoolOp} (h:Em X a ga):Em X (.BoolOp op [a] pos) ga:=⟨ZxE h.p,h.m⟩
theorem Zfd (ha:Em X a ga) (hb:Em X (.BoolOp .And (b::Zch) pos) gb):Em X (.BoolOp .And (a::b::Zch) pos) (ZbC ga gb):=⟨ZzC ha.m hb.m ha.p hb.p,Zvu ha.m hb.m⟩
theorem ZjX (ha:Em X a ga) (hb:Em X (.BoolOp .Or (b::Zch) pos) gb):Em X (.BoolOp .Or (a::b::Zch) pos) (Zf0 ga gb):=⟨ZAI ha.m hb.m ha.p hb.p,Zzh ha.m hb.m⟩
theorem ZeY (ha:Em X a ga):Em X (.UnaryOp .Not a pos) (ZcC ga):=⟨ZzK ha.m ha.p,ZvC ha.m⟩
theorem Zgd (hc:Tm X c gt) (ha:Em X a ga) (hb:Em X b gb):Em X (.IfExp c a b pos) (ZgV gt ga gb):=⟨Zxj hc.m ha.m hb.m hc.p ha.p hb.p,Zyg hc.m ha.m hb.m⟩
theorem Zbx:Am X [] Zag:=⟨ZxN,Zxl⟩
theorem ZaH (hst:starEach (e::es) X.env=(false,eval e X.env)::starEach es X.env) (ha:Em X e ga) (hs:Am X es gs):Am X (e::es) (Zaa ga gs):=⟨Zvk ha.m hs.m ha.p hs.p hst,ZvT ha.m hs.m⟩
theorem ZaA {x:Str} {k n:Nat} {sp:Spw} (D:Df X.prog X.w X.K X.mg X.base x k n sp) (hr:Room k X.A) (hg:Gl X x) (hp:Zmo X ex) (hdb:(x==("__debug__":Str))=false) (he:starEach (e::es) X.env=(false,eval e X.env)::starEach es X.env) (hpl:(backTo pos (starEach es X.env)).any (·.1)=false)
  (ha:Am X (e::es) gs):Em X (.Call (.Name x p) (e::es) [] pos) (Zai sp ex gs):=⟨Zw2 D hr hg hp ha.m ha.p hdb he hpl,ZrE D.mono ha.m⟩
theorem Ze1 (he:∀ whole,isTrue e X.env whole=(do let v ← whole;standAt e.pos;holding [v] (truthy v))) (ha:Em X e ga):Tm X e (Zd3 ga):=⟨Zzt ha.m ha.p he,ZzD ha.m⟩
theorem Ze5 (ha:Tm X a gt):Tm X (.UnaryOp .Not a pos) (gNt gt):=⟨Zzv ha.p,ZA3 ha.m⟩
theorem Zeg {op:BoolOp} {vs:List Expr} (h:Wm X (.BoolOp op vs pos) gt):Tm X (.BoolOp op vs pos) gt:=⟨Zv7 h.p,h.m⟩
theorem Zei (h:Tm X a gt):Wm X (.BoolOp .And [a] pos) gt:=⟨ZwJ h.p,h.m⟩
theorem Zgw (h:Tm X a gt):Wm X (.BoolOp .Or [a] pos) gt:=⟨ZzA h.p,h.m⟩
theorem Zgh (ha:Tm X a gt) (hb:Wm X (.BoolOp .And (b::Zch) pos) gu):Wm X (.BoolOp .And (a::b::Zch) pos) (ZfE gt gu):=⟨Zyy ha.m hb.m ha.p hb.p,ZxI ha.m hb.m⟩
theorem ZjT (ha:Tm X a gt) (hb:Wm X (.BoolOp .Or (b::Zch) pos) gu):Wm X (.BoolOp .Or (a::b::Zch) pos) (gOr gt gu):=⟨ZA2 ha.m hb.m ha.p hb.p,ZAG ha.m hb.m⟩
theorem Zco:Ssm X P [] Zaq:=⟨ZwH,Zvv⟩
theorem Zas (h:Sm X P st g1):Ssm X P [st] g1:=⟨Zvy h.p,h.m⟩
theorem Zaj (h1:Sm X P st g1) (h2:Ssm X P sts g2):Ssm X P (st::sts) (Zar g1 g2):=⟨Zur h1.m h2.m h1.p h2.p,ZxL h1.m h2.m⟩
theorem Zbi (ha:Em X e ga):Sm X P (.Return (some e) pos) (ZaD ga):=⟨ZzN ha.m ha.p,Zyt ha.m⟩
theorem ZaP (hs:swapsWith e none pos.line X.env=pure false) (ha:Em X e ga):Sm X P (.Expr e pos) (ZaT ga):=⟨ZwD ha.m ha.p hs,Zwu ha.m⟩
theorem ZdK (hc:Tm X c gt) (h1:Ssm X P sts g1) (h2:Ssm X P sts' g2):Sm X P (.If c sts sts' pos) (gIf gt g1 g2):=⟨ZAa hc.m h1.m h2.m hc.p h1.p h2.p,ZAD hc.m h1.m h2.m⟩
theorem Ze2 {tg l:Expr} (ht:∀ it u,letOwnedTupleGo tg it u=pure ()) (hl:Em X l ga):Im X tg l (Zbf ga):=⟨ZxS ht hl.m hl.p,ZwM hl.m⟩
theorem ZeD {tg iter:Expr} {gi:GI} {gg:GG} {gb:GS} (hp:PassesOwn (model X.prog X.w) X.A X.env X.xe) (hc:X.calm=true) (hs:∀ x,foldedSetIterable iter X.env x=pure x) (hi:Im X tg iter gi) (hg:TgW X tg gg) (hb:Ssm X ZBd sts gb):Sm X P (.For tg iter sts [] pos) (Ze8 gi gg gb) :=
 ⟨Zy9 hp hc hi.m hb.m hi.p hg hb.p hs,ZxH hi.m hg.mono hb.m⟩
end
theorem ZlM {bs:List Bool} {its:List Value} (r:Vals (bs.map V.bl) its) {i:Nat} {v:Value} (e:its.toArray[i]?=some v):v=.bool (bs.getD i false):=by
 have e':its[i]?=some v:=by simpa using e
 have hl:=r.length
 rw [List.length_map] at hl
 have hi:i < its.length:=(List.getElem?_eq_some_iff.mp e').1
 have hb:bs[i]?=some (bs[i]'(by omega)):=List.getElem?_eq_getElem _
 obtain ⟨u,e1,r1⟩:=r.get (i:=i) (x:=.bl (bs[i]'(by omega))) (by rw [List.getElem?_map,hb];rfl)
 rw [e'] at e1;cases e1
 rw [List.getD_eq_getElem?_getD,hb]
 exact r1
theorem ZqO {bs:List Bool}:(List.range bs.length).all (fun i=>bs.getD i false)=bs.all id:=by
 rw [Bool.eq_iff_iff]
 simp only [List.all_eq_true,List.mem_range,id]
 constructor
 ·intro h b hb
  obtain ⟨i,hi,e⟩:=List.mem_iff_getElem.mp hb
  have:=h i hi
  rw [List.getD_eq_getElem?_getD,List.getElem?_eq_getElem hi] at this
  rw [← e];exact this
 ·intro h i hi
  rw [List.getD_eq_getElem?_getD,List.getElem?_eq_getElem hi]
  exact h _ (List.getElem_mem hi)
theorem Zsm {bs:List Bool}:(List.range bs.length).any (fun i=>bs.getD i false)=bs.any id:=by
 rw [Bool.eq_iff_iff]
 simp only [List.any_eq_true,List.mem_range,id]
 constructor
 ·rintro ⟨i,hi,h⟩
  rw [List.getD_eq_getElem?_getD,List.getElem?_eq_getElem hi] at h
  exact ⟨_,List.getElem_mem hi,h⟩
 ·rintro ⟨b,hb,h⟩
  obtain ⟨i,hi,e⟩:=List.mem_iff_getElem.mp hb
  exact ⟨i,hi,by rw [List.getD_eq_getElem?_getD,List.getElem?_eq_getElem hi,Option.getD_some,e];exact h⟩
section
variable {X:Cx}
theorem Zru (hc:X.calm=true):CallR X (.builtin "all") (fun xs H Q=>∃ (p:Addr) (bs:List Bool),xs=[.ref p]∧SqL X.K H p (bs.map V.bl)∧Q (.bl (bs.all id)) H):=by
 intro pins s σ H xs us Q I r h
 obtain ⟨p,bs,rfl,hq,q⟩:=h
 obtain ⟨u,rfl,rx⟩:=Zlf r
 cases rx
 obtain ⟨its,r',pl,hz⟩:=I.list hq
 have hl:=r'.length
 rw [List.length_map] at hl
 obtain ⟨o,n,e,_⟩:=id pl
 refine call_all_walk (wpAny_pyIter_list pl.isList ⟨s.heap.objs.size,_,_,_,_,_,fun i=>bs.getD i false,rfl,Walks.list (A:=X.A.in1) (I.ok.hd hc) _ p (Nat.ne_of_lt (Heap.lt_size e)) its.toArray,
  ⟨⟨_,Heap.get?_push_size _ rfl,rfl,rfl⟩,pl.isList.push _⟩,fun i v s Q E hp hq=>by rw [ZlM r' hp];exact wpAny_truthy_bool hq,fun h' tk k=>?_⟩)
 refine ⟨.bl (bs.all id),H,I.kept (t':=tk) fun b o e=>k b o (by simpa using Nat.ne_of_lt (Heap.lt_size e)) (Heap.get?_push_of_some _ e),?_,q⟩
 show Value.bool _=_
 rw [List.size_toArray,← hl,ZqO]
theorem ZqI (hc:X.calm=true):CallR X (.builtin "any") (fun xs H Q=>∃ (p:Addr) (bs:List Bool),xs=[.ref p]∧SqL X.K H p (bs.map V.bl)∧Q (.bl (bs.any id)) H):=by
 intro pins s σ H xs us Q I r h
 obtain ⟨p,bs,rfl,hq,q⟩:=h
 obtain ⟨u,rfl,rx⟩:=Zlf r
 cases rx
 obtain ⟨its,r',pl,hz⟩:=I.list hq
 have hl:=r'.length
 rw [List.length_map] at hl
 obtain ⟨o,n,e,_⟩:=id pl
 refine call_any_walk (wpAny_pyIter_list pl.isList ⟨s.heap.objs.size,_,_,_,_,_,fun i=>bs.getD i false,rfl,Walks.list (A:=X.A.in1) (I.ok.hd hc) _ p (Nat.ne_of_lt (Heap.lt_size e)) its.toArray,
  ⟨⟨_,Heap.get?_push_size _ rfl,rfl,rfl⟩,pl.isList.push _⟩,fun i v s Q E hp hq=>by rw [ZlM r' hp];exact wpAny_truthy_bool hq,fun h' tk k=>?_⟩)
 refine ⟨.bl (bs.any id),H,I.kept (t':=tk) fun b o e=>k b o (by simpa using Nat.ne_of_lt (Heap.lt_size e)) (Heap.get?_push_of_some _ e),?_,q⟩
 show Value.bool _=_
 rw [List.size_toArray,← hl,Zsm]
end
abbrev RWc:=List W→Hw→Kw→Prop
def RWc.M (r:RWc):Prop:=∀ ws G (Q Q':Kw),(∀ w G',Q w G'→Q' w G')→r ws G Q→r ws G Q'
def gB (r:RWc) (gs:GA):GE:=fun ω G Q=>gs ω G fun ws G1=>r ws G1 Q
theorem ZBw {r:RWc} {gs:GA} (mr:r.M) (ms:gs.M):GE.M (gB r gs):=fun ω G Q Q' h q=>ms _ _ _ _ (fun ws G1 z=>mr _ _ _ _ h z) q
theorem ZBu {r:RWc} {r1:List V→Hp→VK→Prop} {gs:GA} (mr:r.M) (ms:gs.M) (hr:∀ ws vs G H Q,TrL K H vs ws→RelH K H G→r ws G (dn K H Q)→r1 vs H Q) (σ:St) (H:Hp) (Q:VK) (h:up K (gB r gs) σ H Q):tCB r1 (upA K gs) σ H Q:=by
 obtain ⟨ω,G,ts,rh,q⟩:=h
 exact ⟨ω,G,ts,rh,ms _ _ _ _ (fun ws G1 z vs H1 m t r1'=>hr ws vs G1 H1 Q t r1' (mr _ _ _ _ (fun w G' y=>Zcz m y) z)) q⟩
section
variable {X:Cx} {x:Str} {p pos:Pos} {e:Expr} {es:List Expr} {gs:GA} {r:RWc} {r1:List V→Hp→VK→Prop} {id T:String}
theorem Zx2 (hc:CallR X (.builtin id) r1) (mr:r.M) (hr:∀ ws vs G H Q,TrL X.K H vs ws→RelH X.K H G→r ws G (dn X.K H Q)→r1 vs H Q) (hg:Gl X x) (hm:X.mg x=none) (hv:bootBuiltins x=some (.builtin id)) (hn:x≠"__name__") (hdb:(x==("__debug__":Str))=false)
  (he:starEach (e::es) X.env=(false,eval e X.env)::starEach es X.env) (hpl:(backTo pos (starEach es X.env)).any (·.1)=false) (ha:Am X (e::es) gs):Em X (.Call (.Name x p) (e::es) [] pos) (gB r gs) :=
 ⟨Zbn (Ztn hc hg hm hv ha.p hn hdb he hpl) (ZBu mr ha.m hr),ZBw mr ha.m⟩
theorem ZyF (hc:CallR X (.type T) r1) (mr:r.M) (hr:∀ ws vs G H Q,TrL X.K H vs ws→RelH X.K H G→r ws G (dn X.K H Q)→r1 vs H Q) (hg:Gl X x) (hm:X.mg x=none) (hv:bootBuiltins x=some (.type T)) (hn:x≠"__name__") (hdb:(x==("__debug__":Str))=false)
  (he:starEach (e::es) X.env=(false,eval e X.env)::starEach es X.env) (hpl:(backTo pos (starEach es X.env)).any (·.1)=false) (ha:Am X (e::es) gs):Em X (.Call (.Name x p) (e::es) [] pos) (gB r gs) :=
 ⟨Zbn (ZrS hc hg hm hv ha.p hn hdb he hpl) (ZBu mr ha.m hr),ZBw mr ha.m⟩
end
def rF (f:List W→Hw→Option W):RWc:=fun ws G Q=>opt (f ws G) fun w=>Q w G
theorem ZyG {f:List W→Hw→Option W}:RWc.M (rF f):=fun ws G Q Q' h q=>Zvh (fun w z=>h _ _ z) q
def Zm6:List W→Option (List Bool)
 | []=>some []
 | .bl b::r=>(Zm6 r).map (b::·)
 | _=>none
theorem Zlx:∀ {ws:List W} {bs:List Bool} {vs:List V},Zm6 ws=some bs→TrL K H vs ws→vs=bs.map V.bl
 | [],bs,vs,e,t=>by cases e;cases t;rfl
 | w::ws,bs,vs,e,t=>by
  cases t with
  | cons tw t =>
   cases w with
   | bl b =>
    unfold Zm6 at e
    cases z:Zm6 ws with
    | none=>rw [z] at e;cases e
    | some bs' =>
     rw [z] at e;cases e
     rw [ZnJ tw,Zlx z t];rfl
   | _=>cases e
def Zj2 (G:Hw) (w:W):Option (List W):=match w with
 | .ref a=>(match G a with | some (.lst xs)=>some xs | _=>none)
 | _=>none
theorem ZfU {G:Hw} {w:W} {xs:List W} {v:V} (r:RelH K H G) (t:Tr K H v w) (e:Zj2 G w=some xs):∃ a vs,v=.ref a∧w=.ref a∧G a=some (.lst xs)∧H a=some (.lst vs)∧TrL K H vs xs:=by
 cases t with
 | ref a =>
  unfold Zj2 at e;dsimp only at e
  cases z:G a with
  | none=>rw [z] at e;cases e
  | some o =>
   rw [z] at e
   cases o with
   | lst ys=>cases e;obtain ⟨vs,e1,t1⟩:=r a _ z;exact ⟨a,vs,rfl,rfl,z,e1,t1⟩
   | exc C=>cases e
   | ins C fs=>cases e
   | dct kvs=>cases e
 | _=>cases e
def Ze9 (ws:List W) (G:Hw):Option W:=match ws with | [w]=>(Zj2 G w).bind fun xs=>(Zm6 xs).map fun bs=>.bl (bs.all id) | _=>none
def Zhy (ws:List W) (G:Hw):Option W:=match ws with | [w]=>(Zj2 G w).bind fun xs=>(Zm6 xs).map fun bs=>.bl (bs.any id) | _=>none
theorem ZwW (ws:List W) (vs:List V) (G:Hw) (H:Hp) (Q:VK) (t:TrL K H vs ws) (r:RelH K H G) (q:rF Ze9 ws G (dn K H Q)):∃ (p:Addr) (bs:List Bool),vs=[.ref p]∧SqL K H p (bs.map V.bl)∧Q (.bl (bs.all id)) H:=by
 obtain ⟨w,e,q'⟩:=Zfx q
 unfold Ze9 at e
 split at e
 ·rename_i w0
  cases t with
  | cons tw t =>
   cases t
   obtain ⟨xs,e1,e2⟩:=Option.bind_eq_some_iff.mp e
   obtain ⟨bs,e3,e4⟩:=Option.map_eq_some_iff.mp e2
   obtain ⟨a,us,rfl,rfl,_,e5,t5⟩:=ZfU r tw e1
   subst e4
   have:=Zlx e3 t5
   subst this
   exact ⟨a,bs,rfl,SqL.of e5,q' _ H .refl (.bl _) r⟩
 ·cases e
theorem Zv9 (ws:List W) (vs:List V) (G:Hw) (H:Hp) (Q:VK) (t:TrL K H vs ws) (r:RelH K H G) (q:rF Zhy ws G (dn K H Q)):∃ (p:Addr) (bs:List Bool),vs=[.ref p]∧SqL K H p (bs.map V.bl)∧Q (.bl (bs.any id)) H:=by
 obtain ⟨w,e,q'⟩:=Zfx q
 unfold Zhy at e
 split at e
 ·rename_i w0
  cases t with
  | cons tw t =>
   cases t
   obtain ⟨xs,e1,e2⟩:=Option.bind_eq_some_iff.mp e
   obtain ⟨bs,e3,e4⟩:=Option.map_eq_some_iff.mp e2
   obtain ⟨a,us,rfl,rfl,_,e5,t5⟩:=ZfU r tw e1
   subst e4
   have:=Zlx e3 t5
   subst this
   exact ⟨a,bs,rfl,SqL.of e5,q' _ H .refl (.bl _) r⟩
 ·cases e
def ZfV (w:W) (G:Hw):Option W:=match w with
 | .tup xs=>some (.int xs.length)
 | .rol xs=>some (.int xs.length)
 | .str z=>if z.length≤sizeLine then some (.int z.length) else none
 | .ref a=>(match G a with | some (.lst xs)=>some (.int xs.length) | _=>none)
 | _=>none
def Zec (ws:List W) (G:Hw):Option W:=match ws with | [w]=>ZfV w G | _=>none
theorem Zvp (ws:List W) (vs:List V) (G:Hw) (H:Hp) (Q:VK) (t:TrL K H vs ws) (r:RelH K H G) (q:rF Zec ws G (dn K H Q)):∃ x n,vs=[x]∧ZBx K x H n∧Q (.int n) H:=by
 obtain ⟨w,e,q'⟩:=Zfx q
 unfold Zec at e
 split at e
 ·cases t with
  | cons tw t =>
   cases t
   cases tw with
   | tup h l=>cases e;exact ⟨_,_,rfl,.inr ⟨_,h,rfl⟩,by rw [l.length];exact q' _ H .refl (.int _) r⟩
   | rol h l=>cases e;exact ⟨_,_,rfl,.inl ⟨_,h.sq,rfl⟩,by rw [l.length];exact q' _ H .refl (.int _) r⟩
   | str z =>
    unfold ZfV at e;dsimp only at e
    split at e
    ·rename_i hz;cases e;exact ⟨_,_,rfl,⟨hz,rfl⟩,q' _ H .refl (.int _) r⟩
    ·cases e
   | ref a =>
    unfold ZfV at e;dsimp only at e
    cases z:G a with
    | none=>rw [z] at e;cases e
    | some o =>
     rw [z] at e
     cases o with
     | exc C=>cases e
     | ins C fs=>cases e
     | dct kvs=>cases e
     | lst xs =>
      cases e
      obtain ⟨us,e1,t1⟩:=r a _ z
      exact ⟨_,_,rfl,.inl ⟨_,SqL.of e1,rfl⟩,by rw [t1.length];exact q' _ H .refl (.int _) r⟩
   | _=>cases e
 ·cases e
mutual
def eqD:W→W→Option Bool
 | .tup xs,.tup ys=>ZjY xs ys
 | .non,.non=>some true
 | .bl a,.bl b=>some (a==b)
 | .bl a,.int b=>some ((if a then 1 else 0)==b)
 | .int a,.bl b=>some (a==(if b then 1 else 0))
 | .int a,.int b=>some (a==b)
 | .str a,.str b=>some (a==b)
 | .non,.int _=>some false
 | .int _,.non=>some false
 | .int _,.str _=>some false
 | .str _,.int _=>some false
 | .bl _,.str _=>some false
 | .str _,.bl _=>some false
 | .non,.str _=>some false
 | .str _,.non=>some false
 | .non,.bl _=>some false
 | .bl _,.non=>some false
 | .tup _,.str _=>some false
 | .str _,.tup _=>some false
 | .tup _,.bl _=>some false
 | .bl _,.tup _=>some false
 | _,_=>none
def ZjY:List W→List W→Option Bool
 | [],[]=>some true
 | [],_::_=>some false
 | _::_,[]=>some false
 | x::xs,y::ys=>match eqD x y,ZjY xs ys with
  | some a,some b=>some (a&&b)
  | _,_=>none
end
mutual
def dpW:W→Nat
 | .tup xs=>dpL xs+1
 | _=>0
def dpL:List W→Nat
 | []=>0
 | x::xs=>max (dpW x) (dpL xs)
end
def ZrH:W→Option V
 | .non=>some .non
 | .bl b=>some (.bl b)
 | .int i=>some (.int i)
 | .str x=>some (.str x)
 | _=>none
theorem Zo7 {v:V} {w:W} {f:V} (t:Tr K H v w) (e:ZrH w=some f):v=f∧ZjM v=true:=by
 cases t <;> first | cases e;exact ⟨rfl,rfl⟩ | cases e
theorem ZiL:∀ {xs ys:List W} {b:Bool},ZjY xs ys=some b→∃ e:Nat→Bool,(∀ (i:Nat) x y,xs[i]?=some x→ys[i]?=some y→eqD x y=some (e i))∧b=((List.range (min xs.length ys.length)).all e&&xs.length==ys.length)
 | [],[],b,h=>by
  cases (show some true=some b from h)
  exact ⟨fun _=>true,fun i x y h1 h2=>by simp at h1,by simp⟩
 | [],_::_,b,h=>by
  cases (show some false=some b from h)
  exact ⟨fun _=>true,fun i x y h1 h2=>by simp at h1,by simp⟩
 | _::_,[],b,h=>by
  cases (show some false=some b from h)
  exact ⟨fun _=>true,fun i x y h1 h2=>by simp at h2,by simp⟩
 | x::xs,y::ys,b,h=>by
  have h':(match eqD x y,ZjY xs ys with | some a,some b=>some (a&&b) | _,_=>none)=some b:=by rw [← h];rfl
  cases e1:eqD x y with
  | none=>rw [e1] at h';cases h'
  | some a =>
   cases e2:ZjY xs ys with
   | none=>rw [e1,e2] at h';cases h'
   | some c =>
    rw [e1,e2] at h'
    cases h'
    obtain ⟨f,hf,hc⟩:=ZiL e2
    refine ⟨fun i=>match i with | 0=>a | j+1=>f j,fun i x' y' h1 h2=>?_,?_⟩
    ·cases i with
     | zero=>simp at h1 h2;subst h1;subst h2;exact e1
     | succ j=>exact hf j x' y' (by simpa using h1) (by simpa using h2)
    ·have em:min (x::xs).length (y::ys).length=min xs.length ys.length+1:=by simp only [List.length_cons];omega
     rw [em,List.range_succ_eq_map,List.all_cons,List.all_map,hc]
     have e5:((x::xs).length==(y::ys).length)=(xs.length==ys.length):=by simp
     rw [e5,Bool.and_assoc]
     rfl
theorem Zpg:∀ (xs:List W),(∀ x∈xs,eqD x x=some true∨eqD x x=none)→ZjY xs xs=some true∨ZjY xs xs=none
 | [],_=>.inl rfl
 | x::xs,h=>by
  have e:ZjY (x::xs) (x::xs)=(match eqD x x,ZjY xs xs with | some a,some b=>some (a&&b) | _,_=>none):=rfl
  rw [e]
  rcases h x List.mem_cons_self with h1 | h1
  ·rcases Zpg xs (fun y hy=>h y (List.mem_cons_of_mem _ hy)) with h2 | h2
   ·rw [h1,h2];exact .inl rfl
   ·rw [h1,h2];exact .inr rfl
  ·rw [h1];exact .inr rfl
theorem Zr8:∀ (x:W),eqD x x=some true∨eqD x x=none
 | .non=>.inl rfl
 | .bl b=>.inl (by show some (b==b)=_;simp)
 | .int b=>.inl (by show some (b==b)=_;simp)
 | .str b=>.inl (by show some (b==b)=_;simp)
 | .tup xs=>Zpg xs (fun x _=>Zr8 x)
 | .rol _=>.inr rfl
 | .ref _=>.inr rfl
theorem Zg2:∀ {xs:List W} {x:W},x∈xs→dpW x≤dpL xs
 | y::xs,x,h=>by
  have e:dpL (y::xs)=max (dpW y) (dpL xs):=rfl
  rw [e]
  rcases List.mem_cons.mp h with rfl | h
  ·exact Nat.le_max_left ..
  ·exact Nat.le_trans (Zg2 h) (Nat.le_max_right ..)
theorem Zpo:∀ (ws:List W) (ys:List W) (vs:List V),(∀ (v:V) (w y:W),w∈ws→Tr K H v w→Tr K H v y→eqD w y≠none→w=y)→TrL K H vs ws→TrL K H vs ys→ZjY ws ys≠none→ws=ys:=by
 intro ws
 induction ws with
 | nil =>
  intro ys vs _ l l' _
  cases l
  cases l'
  rfl
 | cons w ws ih =>
  intro ys vs h l l' ne
  cases l with
  | cons t l =>
   cases l' with
   | @cons _ y _ ys t' l' =>
    have e:ZjY (w::ws) (y::ys)=(match eqD w y,ZjY ws ys with | some a,some b=>some (a&&b) | _,_=>none):=rfl
    have h1:eqD w y≠none:=fun z=>ne (by rw [e,z])
    have h2:ZjY ws ys≠none:=fun z=>ne (by rw [e,z];cases eqD w y <;> rfl)
    rw [h _ w y List.mem_cons_self t t' h1,ih ys _ (fun v w y hm=>h v w y (List.mem_cons_of_mem _ hm)) l l' h2]
theorem ZzJ {X:Cx} {pins:List (Addr×Obj)} {σ:St} {H:Hp} {s:Shared} (I:Inv X pins σ H s) (n:Nat):∀ (v:V) (w y:W),dpW w < n→Tr X.K H v w→Tr X.K H v y→eqD w y≠none→w=y:=by
 induction n with
 | zero=>intro v w y h;exact absurd h (Nat.not_lt_zero _)
 | succ n ih =>
  intro v w y h tw ty ne
  cases tw with
  | tup hq l =>
   rename_i a vs ws
   generalize hv:V.ref a=vr at ty
   cases ty with
   | tup hq' l' =>
    cases hv
    have e:=I.tuple_inj hq hq'
    subst e
    have hd2:dpL ws+1 < n+1:=h
    rw [Zpo ws _ _ (fun v w y hm=>ih v w y (by have:=Zg2 hm;omega)) l l' ne]
   | rol _ _=>exact absurd rfl ne
   | ref _=>exact absurd rfl ne
   | non=>cases hv
   | bl _=>cases hv
   | int _=>cases hv
   | str _=>cases hv
  | rol _ _=>exact absurd (by cases y <;> rfl) ne
  | ref _=>exact absurd (by cases y <;> rfl) ne
  | non=>cases ty;rfl
  | bl _=>cases ty;rfl
  | int _=>cases ty;rfl
  | str _=>cases ty;rfl
theorem ZrR {X:Cx} {pins:List (Addr×Obj)} {σ:St} {H:Hp} {s:Shared} (I:Inv X pins σ H s) (n:Nat):∀ (w y:W) (v u:V) (vv uu:Value) (b:Bool) (A:Around),dpW w < n→Tr X.K H v w→Tr X.K H u y→RelV v vv→RelV u uu→eqD w y=some b→A.units+n < cLine→SeqAt.EqAt A s vv uu b:=by
 induction n with
 | zero=>intro w _ _ _ _ _ _ _ h;exact absurd h (Nat.not_lt_zero _)
 | succ n ih =>
  intro w y v u vv uu b A h tw ty rv ru e hu
  cases tw with
  | tup hq l =>
   cases ty with
   | tup hq' l' =>
    rename_i a vs ws a' us ys
    cases rv
    cases ru
    by_cases haa:a=a'
    ·subst haa
     have ew:=ZzJ I (dpW (.tup ws)+1) _ _ _ (Nat.lt_succ_self _) (.tup hq l) (.tup hq' l') (by rw [e];simp)
     cases ew
     rcases Zr8 (.tup ws) with z | z
     ·rw [e] at z;cases z;exact SeqAt.EqAt.same _
     ·rw [e] at z;cases z
    ·obtain ⟨its,r1,p1,_⟩:=I.tuple hq
     obtain ⟨its',r2,p2,_⟩:=I.tuple hq'
     obtain ⟨f,hf,hb⟩:=ZiL (show ZjY ws ys=some b from e)
     have l1:=r1.length
     have l2:=r2.length
     have l3:=l.length
     have l4:=l'.length
     refine SeqAt.EqAt.of_refs haa ?_
     have key:=SeqAt.RcAt.tuples (A:=A) (s:=s) (e:=f) (show s.heap.IsTuple a its.toArray from p1) (show s.heap.IsTuple a' its'.toArray from p2) (by omega) (fun j h1 h2=>?_)
     ·rw [hb]
      walk_at "pq"
      walk_at "pp"
      rw [e1,e2] at key
      exact key
     ·have j1:j < ws.length:=by rw [List.size_toArray] at h1;omega
      have j2:j < ys.length:=by rw [List.size_toArray] at h2;omega
      obtain ⟨v1,g1,t1⟩:=l.get (List.getElem?_eq_getElem j1)
      obtain ⟨v2,g2,t2⟩:=l'.get (List.getElem?_eq_getElem j2)
      obtain ⟨u1,g3,rr1⟩:=r1.get g1
      obtain ⟨u2,g4,rr2⟩:=r2.get g2
      have eu1:its.toArray[j]=u1:=by
       have z:its[j]?=some its[j]:=List.getElem?_eq_getElem (by omega)
       rw [g3] at z
       have z':=Option.some.inj z
       rw [z'];simp
      have eu2:its'.toArray[j]=u2:=by
       have z:its'[j]?=some its'[j]:=List.getElem?_eq_getElem (by omega)
       rw [g4] at z
       have z':=Option.some.inj z
       rw [z'];simp
      rw [eu1,eu2]
      have hd:dpW (ws[j])≤dpL ws:=Zg2 (List.getElem_mem j1)
      have hd2:dpL ws+1 < n+1:=h
      exact ih _ _ _ _ _ _ _ A.in1 (by omega) t1 t2 rr1 rr2 (hf j _ _ (List.getElem?_eq_getElem j1) (List.getElem?_eq_getElem j2)) (by show A.units+1+n < cLine;omega)
   | str _ =>
    cases e;cases rv;obtain ⟨t,rfl⟩:=ru
    obtain ⟨its,r1,p1,_⟩:=I.tuple hq
    exact SeqAt.EqAt.tuple_str (A:=A) _ _ p1 (by omega)
   | bl _ =>
    cases e;cases rv;cases ru
    obtain ⟨its,r1,p1,_⟩:=I.tuple hq
    exact SeqAt.EqAt.tuple_bool _ p1 (by omega)
   | _=>cases e
  | non=>cases ty <;> cases e <;> exact Zmk rv ru rfl rfl
  | bl c =>
   cases ty with
   | tup hq l =>
    cases e;cases rv;cases ru
    obtain ⟨its,r1,p1,_⟩:=I.tuple hq
    exact SeqAt.EqAt.bool_tuple _ p1 (by omega)
   | _=>cases e <;> exact Zmk rv ru rfl rfl
  | int c=>cases ty <;> cases e <;> exact Zmk rv ru rfl rfl
  | str c =>
   cases ty with
   | tup hq l =>
    cases e;cases ru;obtain ⟨t,rfl⟩:=rv
    obtain ⟨its,r1,p1,_⟩:=I.tuple hq
    exact SeqAt.EqAt.str_tuple (A:=A) _ _ p1 (by omega)
   | _=>cases e <;> exact Zmk rv ru rfl rfl
  | rol _ _=>cases y <;> cases e
  | ref _=>cases y <;> cases e
def rSq (K:PySem.W.Frag) (neg:Bool):R2:=fun v u H Q=>∃ (a b:Addr) (vs us:List V) (ws ys:List W) (c:Bool),v=.ref a∧u=.ref b∧((SqT K H a vs∧SqT K H b us)∨(SqL K H a vs∧SqL K H b us))∧TrL K H vs ws∧TrL K H us ys∧dpL ws < 90∧ZjY ws ys=some c∧Q (.bl (c != neg)) H
section
variable {X:Cx} {pins:List (Addr×Obj)} {σ:St} {H:Hp} {s:Shared}
theorem ZiF (I:Inv X pins σ H s) {A:Around} {vs us:List V} {ws ys:List W} {its its':List Value} (r1:Vals vs its) (r2:Vals us its') (t1:TrL X.K H vs ws) (t2:TrL X.K H us ys) (hd:dpL ws < 90) (hu:A.units+100 < cLine) {f:Nat→Bool}
  (hf:∀ (i:Nat) x y,ws[i]?=some x→ys[i]?=some y→eqD x y=some (f i)) (j:Nat) (h1:j < its.toArray.size) (h2:j < its'.toArray.size):SeqAt.EqAt A.in1 s its.toArray[j] its'.toArray[j] (f j):=by
 have l1:=r1.length
 have l2:=r2.length
 have l3:=t1.length
 have l4:=t2.length
 have j1:j < ws.length:=by rw [List.size_toArray] at h1;omega
 have j2:j < ys.length:=by rw [List.size_toArray] at h2;omega
 obtain ⟨v1,g1,t1'⟩:=t1.get (List.getElem?_eq_getElem j1)
 obtain ⟨v2,g2,t2'⟩:=t2.get (List.getElem?_eq_getElem j2)
 obtain ⟨u1,g3,rr1⟩:=r1.get g1
 obtain ⟨u2,g4,rr2⟩:=r2.get g2
 have eu1:its.toArray[j]=u1:=by
  have z:its[j]?=some its[j]:=List.getElem?_eq_getElem (by omega)
  rw [g3] at z
  rw [Option.some.inj z];simp
 have eu2:its'.toArray[j]=u2:=by
  have z:its'[j]?=some its'[j]:=List.getElem?_eq_getElem (by omega)
  rw [g4] at z
  rw [Option.some.inj z];simp
 rw [eu1,eu2]
 exact ZrR I 99 _ _ _ _ _ _ _ A.in1 (by have:=Zg2 (List.getElem_mem j1);omega) t1' t2' rr1 rr2 (hf j _ _ (List.getElem?_eq_getElem j1) (List.getElem?_eq_getElem j2)) (by show A.units+1+99 < cLine;omega)
end
theorem Zty {X:Cx} (hu:X.A.units+100 < cLine):OpR X (compareOp .Eq) (rSq X.K false):=by
 walk_at "pd"
 obtain ⟨a,b,vs,us,ws,ys,c,rfl,rfl,hq,t1,t2,hd,e,q⟩:=h
 cases rx
 cases ry
 obtain ⟨f,hf,hb⟩:=ZiL e
 have l3:=t1.length
 have l4:=t2.length
 have fin:∀ d:Bool,d=c→EP X pins σ Q (.bool d) s:=fun d hd=>by subst hd;exact ⟨.bl d,H,I,rfl,by simpa using q⟩
 rcases hq with ⟨h1,h2⟩ | ⟨h1,h2⟩
 ·obtain ⟨its,r1,p1,_⟩:=I.tuple h1
  obtain ⟨its',r2,p2,_⟩:=I.tuple h2
  have l1:=r1.length
  have l2:=r2.length
  refine SeqAt.eq_tupleAt (e:=f) (show s.heap.IsTuple a its.toArray from p1) (show s.heap.IsTuple b its'.toArray from p2) (by omega) (ZiF I r1 r2 t1 t2 hd hu hf) (fin _ ?_)
  walk_at "pq"
  walk_at "pp"
  rw [e1,e2,hb]
 ·obtain ⟨its,r1,p1,_⟩:=I.list h1
  obtain ⟨its',r2,p2,_⟩:=I.list h2
  have l1:=r1.length
  have l2:=r2.length
  walk_at "pq"
  walk_at "pp"
  by_cases hl:ws.length=ys.length
  ·refine SeqAt.eq_listAt (e:=f) p1.isList p2.isList (by omega) (by omega) (ZiF I r1 r2 t1 t2 hd hu hf) (fin _ ?_)
   rw [e1,hb,hl];simp
  ·refine SeqAt.eq_list_lengthsAt p1.isList p2.isList (by rw [e1,e2];simpa using hl) (by omega) (fin _ ?_)
   rw [hb];simp [hl]
theorem Zt4 {X:Cx} (hu:X.A.units+100 < cLine):OpR X (compareOp .NotEq) (rSq X.K true):=by
 walk_at "pd"
 obtain ⟨a,b,vs,us,ws,ys,c,rfl,rfl,hq,t1,t2,hd,e,q⟩:=h
 cases rx
 cases ry
 obtain ⟨f,hf,hb⟩:=ZiL e
 have l3:=t1.length
 have l4:=t2.length
 have fin:∀ d:Bool,d=!c→EP X pins σ Q (.bool d) s:=fun d hd=>by subst hd;exact ⟨.bl _,H,I,rfl,by simpa using q⟩
 rcases hq with ⟨h1,h2⟩ | ⟨h1,h2⟩
 ·obtain ⟨its,r1,p1,_⟩:=I.tuple h1
  obtain ⟨its',r2,p2,_⟩:=I.tuple h2
  have l1:=r1.length
  have l2:=r2.length
  refine SeqAt.RcNeAt.tuples (e:=f) (show s.heap.IsTuple a its.toArray from p1) (show s.heap.IsTuple b its'.toArray from p2) (by omega) (ZiF I r1 r2 t1 t2 hd hu hf) _ _ _ _ (fin _ ?_)
  walk_at "pq"
  walk_at "pp"
  rw [e1,e2,hb]
 ·obtain ⟨its,r1,p1,_⟩:=I.list h1
  obtain ⟨its',r2,p2,_⟩:=I.list h2
  have l1:=r1.length
  have l2:=r2.length
  walk_at "pq"
  walk_at "pp"
  by_cases hl:ws.length=ys.length
  ·refine SeqAt.RcNeAt.lists (e:=f) p1.isList p2.isList (by omega) (by omega) (ZiF I r1 r2 t1 t2 hd hu hf) _ _ _ _ (fin _ ?_)
   rw [e1,hb,hl];simp
  ·refine SeqAt.RcNeAt.lists_lengths p1.isList p2.isList (by rw [e1,e2];simpa using hl) (by omega) _ _ _ _ (fin _ ?_)
   rw [hb];simp [hl]
def eqW (x y:W) (G:Hw):Option Bool:=match x,y with
 | .tup xs,.tup ys=>if dpL xs < 90 then ZjY xs ys else none
 | .ref a,.ref b=>(match G a,G b with
  | some (.lst xs),some (.lst ys)=>if dpL xs < 90 then ZjY xs ys else none
  | _,_=>none)
 | .int a,.int b=>some (a==b)
 | .bl a,.bl b=>some (a==b)
 | .str a,.str b=>some (a==b)
 | .non,.non=>some true
 | .int _,.non=>some false
 | .non,.int _=>some false
 | .int _,.str _=>some false
 | .str _,.int _=>some false
 | .bl _,.str _=>some false
 | .str _,.bl _=>some false
 | .non,.str _=>some false
 | .str _,.non=>some false
 | .non,.bl _=>some false
 | .bl _,.non=>some false
 | _,_=>none
def eqF (neg:Bool) (x y:W) (G:Hw):Option W:=(eqW x y G).map fun c=>.bl (c != neg)
theorem ZvU (c:Bool):(c != true)=!c:=by cases c <;> rfl
theorem ZuW (neg:Bool) (x y:W) (v u:V) (G:Hw) (H:Hp) (Q:VK) (tx:Tr K H v x) (ty:Tr K H u y) (r:RelH K H G) (q:Zak (eqF neg) x y G (dn K H Q)):(ZvS v u=true∧Q (.bl (decide (v=u) != neg)) H)∨rSq K neg v u H Q:=by
 obtain ⟨w,e,q'⟩:=Zfx q
 obtain ⟨c,e1,e2⟩:=Option.map_eq_some_iff.mp e
 subst e2
 have qq:=q' (.bl (c != neg)) H .refl (.bl _) r
 have sc:∀ {i j:V},decide (i=j)=c→ZvS i j=true→(ZvS i j=true∧Q (.bl (decide (i=j) != neg)) H)∨rSq K neg i j H Q:=fun {i j} h1 h2=>.inl ⟨h2,by rw [h1];exact qq⟩
 cases tx with
 | tup hq l =>
  cases ty with
  | tup hq' l' =>
   unfold eqW at e1;dsimp only at e1
   split at e1
   ·rename_i hd
    exact .inr ⟨_,_,_,_,_,_,c,rfl,rfl,.inl ⟨hq,hq'⟩,l,l',hd,e1,qq⟩
   ·cases e1
  | _=>cases e1
 | ref a =>
  cases ty with
  | ref b =>
   unfold eqW at e1;dsimp only at e1
   cases ea:G a with
   | none=>rw [ea] at e1;cases e1
   | some oa =>
    cases eb:G b with
    | none=>rw [ea,eb] at e1;cases oa <;> cases e1
    | some ob =>
     rw [ea,eb] at e1
     cases oa <;> cases ob <;> try cases e1
     dsimp only at e1
     split at e1
     ·rename_i hd
      obtain ⟨vs,z1,t1⟩:=r a _ ea
      obtain ⟨us,z2,t2⟩:=r b _ eb
      exact .inr ⟨_,_,_,_,_,_,c,rfl,rfl,.inr ⟨SqL.of z1,SqL.of z2⟩,t1,t2,hd,e1,qq⟩
     ·cases e1
  | _=>cases e1
 | rol _ _=>cases y <;> cases e1
 | non=>cases ty <;> cases e1 <;> exact sc (by simp) rfl
 | bl b=>cases ty <;> cases e1 <;> exact sc (by first | exact Zsa | simp) rfl
 | int b=>cases ty <;> cases e1 <;> exact sc (by first | exact ZnU | simp) rfl
 | str b=>cases ty <;> cases e1 <;> exact sc (by first | exact Zoa | simp) rfl
theorem ZyE {X:Cx} (hu:X.A.units+100 < cLine):OpR X (compareOp .Eq) (fun x y H Q=>(ZvS x y=true∧Q (.bl (decide (x=y) != false)) H)∨rSq X.K false x y H Q):=by
 walk_at "pd"
 rcases h with ⟨h1,h2⟩ | h
 ·exact Zz9 pins s σ H x y v u Q I rx ry ⟨h1,by simpa using h2⟩
 ·exact Zty hu pins s σ H x y v u Q I rx ry h
theorem ZyU {X:Cx} (hu:X.A.units+100 < cLine):OpR X (compareOp .NotEq) (fun x y H Q=>(ZvS x y=true∧Q (.bl (decide (x=y) != true)) H)∨rSq X.K true x y H Q):=by
 walk_at "pd"
 rcases h with ⟨h1,h2⟩ | h
 ·exact ZAx pins s σ H x y v u Q I rx ry ⟨h1,by rw [← ZvU];exact h2⟩
 ·exact Zt4 hu pins s σ H x y v u Q I rx ry h
section
variable {X:Cx} {a b c e:Expr} {es Zch:List Expr} {pos pos' p:Pos} {ga gb gc:GE} {gt gu:GT} {gs:GA}
def Zme (G:Hw) (w:W):Option (List W):=match w with
 | .tup xs=>some xs
 | .rol xs=>some xs
 | .ref a=>(match G a with | some (.lst xs)=>some xs | _=>none)
 | _=>none
theorem Zlm {G:Hw} {w:W} {xs:List W} {v:V} (r:RelH K H G) (t:Tr K H v w) (e:Zme G w=some xs):∃ a vs,v=.ref a∧(SqL K H a vs∨SqT K H a vs)∧TrL K H vs xs:=by
 cases t with
 | tup h l=>cases e;exact ⟨_,_,rfl,.inr h,l⟩
 | rol h l=>cases e;exact ⟨_,_,rfl,.inl h.sq,l⟩
 | ref a =>
  unfold Zme at e;dsimp only at e
  cases z:G a with
  | none=>rw [z] at e;cases e
  | some o =>
   rw [z] at e
   cases o with
   | lst ys=>cases e;obtain ⟨vs,e1,t1⟩:=r a _ z;exact ⟨a,vs,rfl,.inl (SqL.of e1),t1⟩
   | exc C=>cases e
   | ins C fs=>cases e
   | dct kvs=>cases e
 | _=>cases e
def ZnB:List W→Option (List V)
 | []=>some []
 | w::ws=>(ZrH w).bind fun v=>(ZnB ws).map (v::·)
theorem Zoh:∀ {ws:List W} {vs us:List V},ZnB ws=some us→TrL K H vs ws→vs=us∧vs.all ZjM=true
 | [],vs,us,e,t=>by cases e;cases t;exact ⟨rfl,rfl⟩
 | w::ws,vs,us,e,t=>by
  cases t with
  | cons tw t =>
   obtain ⟨f,e1,e2⟩:=Option.bind_eq_some_iff.mp (show (ZrH w).bind (fun v=>(ZnB ws).map (v::·))=some us from e)
   obtain ⟨fs,e3,e4⟩:=Option.map_eq_some_iff.mp e2
   obtain ⟨h1,h2⟩:=Zo7 tw e1
   obtain ⟨h3,h4⟩:=Zoh e3 t
   subst e4
   exact ⟨by rw [h1,h3],by rw [List.all_cons,h2,h4];rfl⟩
def inF (neg:Bool) (x y:W) (G:Hw):Option W:=(ZrH x).bind fun v=>(Zme G y).bind fun xs=>(ZnB xs).map fun us=>.bl (if neg then !inV v us else inV v us)
theorem ZuX (neg:Bool) (x y:W) (v u:V) (G:Hw) (H:Hp) (Q:VK) (tx:Tr K H v x) (ty:Tr K H u y) (r:RelH K H G) (q:Zak (inF neg) x y G (dn K H Q)):rIn K neg v u H Q:=by
 obtain ⟨w,e,q'⟩:=Zfx q
 obtain ⟨f,e1,e2⟩:=Option.bind_eq_some_iff.mp e
 obtain ⟨xs,e3,e4⟩:=Option.bind_eq_some_iff.mp e2
 obtain ⟨us,e5,e6⟩:=Option.map_eq_some_iff.mp e4
 subst e6
 obtain ⟨h1,h2⟩:=Zo7 tx e1
 obtain ⟨a,vs,rfl,hq,t⟩:=Zlm r ty e3
 obtain ⟨h3,h4⟩:=Zoh e5 t
 subst h1;subst h3
 exact ⟨a,vs,rfl,hq,h2,h4,q' _ H .refl (.bl _) r⟩
end
section
variable {X:Cx} {P:Hp→Prop} {a b c e o i:Expr} {sts:List Stmt} {pos pos':Pos} {ga gb gc gv go gi:GE} {gt:GT} {g:GS} {gs:GA}
def ZoM (gt:GT) (g:GS):GS:=fun D ω G=>∃ W:Nat→Sw→Hw→Prop,(∃ m,W m ω G)∧∀ m ω G,W m ω G →
 gt ω G fun b G1=>if b=true then g { nx:=fun ω' G'=>∃ m',m' < m∧W m' ω' G',rt:=D.rt,bk:=D.nx,ct:=fun ω' G'=>∃ m',m' < m∧W m' ω' G' } ω G1 else D.nx ω G1
theorem ZtM (mt:gt.M) (mb:g.M):GS.M (ZoM gt g):=fun ω G D D' h1 h2 h3 h4 ⟨W,w0,turn⟩=>⟨W,w0,fun m ω G w=>mt _ _ _ _ (fun b G1 z=>by
 cases b with
 | true=>exact mb _ _ { nx:=fun ω' G'=>∃ m',m' < m∧W m' ω' G',rt:=D.rt,bk:=D.nx,ct:=fun ω' G'=>∃ m',m' < m∧W m' ω' G' } _ (fun _ _ y=>y) h2 h1 (fun _ _ y=>y) z
 | false=>exact h1 _ _ z) (turn m ω G w)⟩
theorem Zuo (hp:PassesOwn (model X.prog X.w) X.A X.env X.xe) (mt:gt.M) (mb:g.M) (hc:PTw X c gt) (hb:Ztr X P sts g):PSw X P (.While c sts [] pos) (ZoM gt g):=fun B hB =>
 Zgg (Zt3 hp hc (hb B hB)) <| by
  rintro D σ H ⟨ω,G,ts,r,mb0,W,⟨m0,w0⟩,turn⟩
  refine ⟨fun m σ' H'=>Mono X.K B H'∧∃ ω' G',TrSt X.K H' σ' ω'∧RelH X.K H' G'∧W m ω' G',⟨m0,mb0,ω,G,ts,r,w0⟩,?_⟩
  rintro m σ' H' ⟨mm,ω',G',ts',r',w'⟩
  refine ⟨ω',G',ts',r',mt _ _ _ _ (fun b G1 z H1 m1 r1=>?_) (turn m ω' G' w')⟩
  cases b with
  | true =>
   rw [if_pos rfl]
   refine ⟨fun σ2 H2=>∃ m',m' < m∧Mono X.K B H2∧∃ ω2 G2,TrSt X.K H2 σ2 ω2∧RelH X.K H2 G2∧W m' ω2 G2,(by rintro σ2 H2 ⟨m',h1,h2⟩;exact ⟨m',h1,h2⟩),ω',G1,ts'.mono m1,r1,mm.trans m1,?_⟩
   exact mb _ _ { nx:=fun ω' G'=>∃ m',m' < m∧W m' ω' G',rt:=(dnD X.K B D).rt,bk:=(dnD X.K B D).nx,ct:=fun ω' G'=>∃ m',m' < m∧W m' ω' G' } _
    ((by rintro a b ⟨m',h1,h2⟩ σ2 H2 m2 ts2 r2;exact ⟨m',h1,m2,a,b,ts2,r2,h2⟩)) (fun a b y=>y) (fun a b y=>y) ((by rintro a b ⟨m',h1,h2⟩ σ2 H2 m2 ts2 r2;exact ⟨m',h1,m2,a,b,ts2,r2,h2⟩)) z
  | false =>
   rw [if_neg Bool.false_ne_true]
   exact z σ' H1 (mm.trans m1) (ts'.mono m1) r1
theorem Zcw (hp:PassesOwn (model X.prog X.w) X.A X.env X.xe) (hc:Tm X c gt) (hb:Ssm X P sts g):Sm X P (.While c sts [] pos) (ZoM gt g):=⟨Zuo hp hc.m hb.m hc.p hb.p,ZtM hc.m hb.m⟩
def ZpP (ω:Sw) (i:Nat):Option W:=match ω[i]? with | some (some w)=>some w | _=>none
theorem ZvD {σ:St} {ω:Sw} {n:Nat} {w:W} (ts:TrSt K H σ ω) (e:ZpP ω n=some w):∃ v,σ[n]?=some (some v)∧Tr K H v w:=by
 unfold ZpP at e
 split at e
 ·rename_i u z
  cases e
  exact ts.get n _ z
 ·cases e
def Zhp (n:Nat) (r:RW2) (ga:GE):GS:=fun D ω G=>opt (ZpP ω n) fun x=>ga ω G fun y G1=>r x y G1 fun z G2=>D.nx (ω.set n (some z)) G2
theorem Zzw {n:Nat} {r:RW2} (mr:r.M) (ma:ga.M):GS.M (Zhp n r ga):=fun ω G D D' h1 _ _ _ q=>Zvh (fun x q=>ma _ _ _ _ (fun y G1 z=>mr _ _ _ _ _ (fun w G2 z2=>h1 _ _ z2) z) q) q
theorem ZxM {op:Operator} {r:RW2} {r2:R2} {n:Nat} {x:Str} (ho:OpR X (inplaceOp op) r2) (mr:r.M) (hr:∀ (x y:W) (v u:V) (G:Hw) (H:Hp) (Q:VK),Tr X.K H v x→Tr X.K H u y→RelH X.K H G→r x y G (dn X.K H Q)→r2 v u H Q)
  (hN:X.N.Nodup) (hi:X.N[n]?=some x) (hx:Loc X.env.scope x) (hf:X.fn x=true∨X.env.scope.names.lookup x=some .local) (ma:ga.M) (ha:PEw X e ga):PSw X P (.AugAssign (.Name x pos') op e pos) (Zhp n r ga):=fun B hB =>
 Zgg (ZyI hN hi hx ha (fun pins s σ H x y v u Q I r1 r2 h=>ho pins s σ H x y v u Q I r1 r2 h) hf) <| by
  rintro D σ H ⟨ω,G,ts,rh,mb,q⟩
  obtain ⟨w,e1,q⟩:=Zfx q
  obtain ⟨v,e2,t⟩:=ZvD ts e1
  refine ⟨v,e2,ω,G,ts,rh,ma _ _ _ _ (fun y G1 z u H1 m tu r1=>?_) q⟩
  exact hr w y v u G1 H1 _ (t.mono m) tu r1 (mr _ _ _ _ _ (fun w2 G2 z2 v2 H2 m2 t2 r2=>z2 _ H2 ((mb.trans m).trans m2) (((ts.mono m).mono m2).set n t2) r2) z)
def Zcy:RW2:=fun x y G Q=>match x,y with
 | .int i,.int j=>Q (.int (i+j)) G
 | .str a,.str b=>a.length+b.length≤sizeLine∧Q (.str (a++b)) G
 | _,_=>False
theorem Zst:RW2.M Zcy:=fun x y G Q Q' h q=>by
 cases x <;> cases y <;> first | exact q | exact h _ _ q | exact ⟨q.1,h _ _ q.2⟩
theorem ZtI (x y:W) (v u:V) (G:Hw) (H:Hp) (Q:VK) (tx:Tr K H v x) (ty:Tr K H u y) (r:RelH K H G) (q:Zcy x y G (dn K H Q)) :
  (rI0 fun i j=>.int (i+j)) v u H Q∨(∃ i j,v=.str i∧u=.str j∧i.length+j.length≤sizeLine∧Q (.str (i++j)) H):=by
 cases tx with
 | int i=>cases ty <;> first | exact q.elim | exact .inl ⟨_,_,rfl,rfl,q _ H .refl (.int _) r⟩
 | str i=>cases ty <;> first | exact q.elim | exact .inr ⟨_,_,rfl,rfl,q.1,q.2 _ H .refl (.str _) r⟩
 | _=>exact q.elim
def Zj0 (o k v:W) (G:Hw) (Q:Hw→Prop):Prop:=match o,k with
 | .ref a,.int j=>(match G a with
  | some (.lst xs)=>(match ixN xs.length j with | some n=>Q (put G a (.lst (xs.set n v))) | none=>False)
  | _=>False)
 | _,_=>False
theorem Zpe {o k v:W} {G:Hw} {Q:Hw→Prop} (q:Zj0 o k v G Q):∃ a j xs n,o=.ref a∧k=.int j∧G a=some (.lst xs)∧ixN xs.length j=some n∧Q (put G a (.lst (xs.set n v))):=by
 unfold Zj0 at q
 split at q
 ·split at q
  ·rename_i xs e
   split at q
   ·rename_i n e2;exact ⟨_,_,xs,n,rfl,rfl,e,e2,q⟩
   ·exact q.elim
  ·exact q.elim
 ·exact q.elim
theorem Zla {v:W} {G:Hw} {Q:Hw→Prop} {a:Addr} {j:Int} {xs:List W} {n:Nat} (e:G a=some (.lst xs)) (e2:ixN xs.length j=some n) (q:Q (put G a (.lst (xs.set n v)))):Zj0 (.ref a) (.int j) v G Q:=by
 unfold Zj0
 dsimp only
 rw [e]
 dsimp only
 rw [e2]
 exact q
theorem ZwC {o k v:W} {G:Hw} {Q Q':Hw→Prop} (h:∀ G,Q G→Q' G) (q:Zj0 o k v G Q):Zj0 o k v G Q':=by
 obtain ⟨a,j,xs,n,rfl,rfl,e,e2,q⟩:=Zpe q
 exact Zla e e2 (h _ q)
theorem Ztb {o k v:W} {x y u:V} {G:Hw} {Pq:Hw→Prop} {R:Hp→Prop} (tx:Tr K H x v) (ty:Tr K H y o) (tu:Tr K H u k) (r:RelH K H G) (q:Zj0 o k v G Pq) (f:∀ G4 H4,Mono K H H4→RelH K H4 G4→Pq G4→R H4):Zzj y u x H R:=by
 obtain ⟨a,j,xs,n,rfl,rfl,e,e2,q⟩:=Zpe q
 cases ty
 cases tu
 obtain ⟨vs,e3,t⟩:=r a _ e
 exact ⟨a,vs,j,n,rfl,rfl,e3,by rw [t.length];exact e2,f _ _ (Mono.lst e3 _) (r.chg e3 (TrL.set tx n t)) q⟩
def Zce (gv go gi:GE):GS:=fun D ω G=>gv ω G fun v G1=>go ω G1 fun o G2=>gi ω G2 fun k G3=>Zj0 o k v G3 fun G4=>D.nx ω G4
theorem Ztc (mv:gv.M) (mo:go.M) (mi:gi.M):GS.M (Zce gv go gi):=fun ω G D D' h1 _ _ _ q =>
 mv _ _ _ _ (fun v G1 z=>mo _ _ _ _ (fun o G2 z=>mi _ _ _ _ (fun k G3 z=>ZwC (fun G4 z=>h1 _ _ z) z) z) z) q
theorem Zc3 (ha:∀ v,assign (.Subscript o i pos') X.env v=(do
   let ov ← holding [v] (eval o X.env)
   let iv ← holding [v,ov] (eval i X.env)
   standAt pos'
   holding [v,ov,iv] (setItem ov iv v)
   release [v,ov,iv] [])) (hs:swapsWithSole [.Subscript o i pos'] e pos.line X.env=pure false) (hw:swappedStores [.Subscript o i pos'] e X.env=pure none)
  (h1:(assignEach [.Subscript o i pos'] X.env).map (·.2)=[assign (.Subscript o i pos') X.env]) (hv:Em X e gv) (ho:Em X o go) (hi:Em X i gi):Sm X P (.Assign [.Subscript o i pos'] e pos) (Zce gv go gi) :=
 ⟨fun B hB=>Zgg (Zxy hv.p (Zzy ho.p hi.p ZtP ha) hs hw h1) fun D σ H ⟨ω,G,ts,r,mb,q⟩=>⟨ω,G,ts,r,hv.m _ _ _ _ (fun v G1 z x H1 m1 tx r1 =>
  ⟨ω,G1,ts.mono m1,r1,ho.m _ _ _ _ (fun ow G2 z2 y H2 m2 ty r2 =>
   ⟨ω,G2,(ts.mono m1).mono m2,r2,hi.m _ _ _ _ (fun k G3 z3 u H3 m3 tu r3 =>
    Ztb ((tx.mono m2).mono m3) (ty.mono m3) tu r3 z3 (fun G4 H4 m4 r4 q4=>q4 σ H4 ((((mb.trans m1).trans m2).trans m3).trans m4) ((((ts.mono m1).mono m2).mono m3).mono m4) r4)) z2⟩) z⟩) q⟩,Ztc hv.m ho.m hi.m⟩
abbrev GO:=Sw→Hw→(Option Int→Hw→Prop)→Prop
def GO.M (g:GO):Prop:=∀ ω G (Q Q':Option Int→Hw→Prop),(∀ w G',Q w G'→Q' w G')→g ω G Q→g ω G Q'
def dnO (K:PySem.W.Frag) (H:Hp) (Q:Option Int→Hp→Prop):Option Int→Hw→Prop:=fun b G=>∀ H',Mono K H H'→RelH K H' G→Q b H'
def upO (K:PySem.W.Frag) (g:GO):TO:=fun σ H Q=>∃ ω G,TrSt K H σ ω∧RelH K H G∧g ω G (dnO K H Q)
structure Om (X:Cx) (e:Option Expr) (g:GO):Prop where
 p:PO X e (upO X.K g)
 m:g.M
def Zax:GO:=fun _ G Q=>Q none G
def Zbg (ga:GE):GO:=fun ω G Q=>ga ω G fun w G1=>match w with | .int j=>Q (some j) G1 | _=>False
theorem Zej:Om X none Zax:=⟨(by rintro pins s σ H Q I ⟨ω,G,ts,r,q⟩;exact ZvZ pins s σ H Q I (q H .refl r)),fun _ _ _ _ h q=>h _ _ q⟩
theorem Zeh (h:Em X e ga):Om X (some e) (Zbg ga):=⟨fun pins s σ H Q I ⟨ω,G,ts,r,q⟩=>ZwE h.p pins s σ H Q I ⟨ω,G,ts,r,h.m _ _ _ _ (fun w G1 z v H1 m t r1=>by
  cases w with
  | int j=>exact ⟨j,Zzl t,z H1 m r1⟩
  | _=>exact z.elim) q⟩,fun ω G Q Q' hh q=>h.m _ _ _ _ (fun w G1 z=>by cases w <;> first | exact hh _ _ z | exact z) q⟩
def ZnG {α:Type} (xs:List α) (lo hi:Option Int):List α:=(xs.drop (HT.sIx xs.length 0 lo)).take (HT.sIx xs.length xs.length hi - HT.sIx xs.length 0 lo)
def slW (w:W) (lo hi:Option Int) (G:Hw) (Q:Kw):Prop:=match w with
 | .tup xs=>¬ (HT.sIx xs.length 0 lo=0∧HT.sIx xs.length xs.length hi=xs.length)∧Q (.tup (ZnG xs lo hi)) G
 | .rol xs=>∀ p,G p=none→Q (.ref p) (put G p (.lst (ZnG xs lo hi)))
 | .ref a=>(match G a with | some (.lst xs)=>∀ p,G p=none→Q (.ref p) (put G p (.lst (ZnG xs lo hi))) | _=>False)
 | _=>False
theorem Zt7 {w:W} {lo hi:Option Int} {G:Hw} {Q Q':Kw} (h:∀ w G',Q w G'→Q' w G') (q:slW w lo hi G Q):slW w lo hi G Q':=by
 cases w with
 | tup xs=>exact ⟨q.1,h _ _ q.2⟩
 | rol xs=>exact fun p hp=>h _ _ (q p hp)
 | ref a =>
  unfold slW at q ⊢
  dsimp only at q ⊢
  cases e:G a with
  | none=>rw [e] at q;exact q.elim
  | some ob =>
   rw [e] at q
   cases ob with
   | lst xs=>exact fun p hp=>h _ _ (q p hp)
   | exc C=>exact q.elim
   | ins C fs=>exact q.elim
   | dct kvs=>exact q.elim
 | _=>exact q.elim
theorem TrL.cut {vs:List V} {ws:List W} (t:TrL K H vs ws) (lo hi:Option Int):TrL K H (Zuw vs lo hi) (ZnG ws lo hi):=by
 unfold Zuw ZnG
 rw [t.length]
 exact (t.drop _).take _
theorem Zoe {w:W} {v:V} {lo hi:Option Int} {G:Hw} {Q:VK} (t:Tr K H v w) (r:RelH K H G) (q:slW w lo hi G (dn K H Q)):ZAj K v lo hi H Q∨ZAf K v lo hi H Q:=by
 cases t with
 | tup h l =>
  refine .inl ⟨_,_,rfl,h,by rw [l.length];exact q.1,fun p hp=>?_⟩
  exact q.2 _ _ (Mono.new hp _) (.tup (SqT.of Zbq) ((l.cut lo hi).mono (Mono.new hp _))) (r.mono0 hp)
 | rol h l=>exact .inr ⟨_,_,rfl,h.sq,fun p hp=>q p (r.no hp) _ _ (Mono.new hp _) (.ref p) (r.new hp (l.cut lo hi))⟩
 | ref a =>
  unfold slW at q
  dsimp only at q
  cases e:G a with
  | none=>rw [e] at q;exact q.elim
  | some ob =>
   rw [e] at q
   cases ob with
   | lst xs =>
    obtain ⟨vs,e1,l⟩:=r a _ e
    exact .inr ⟨_,_,rfl,SqL.of e1,fun p hp=>q p (r.no hp) _ _ (Mono.new hp _) (.ref p) (r.new hp (l.cut lo hi))⟩
   | exc C=>exact q.elim
   | ins C fs=>exact q.elim
   | dct kvs=>exact q.elim
 | _=>exact q.elim
def gSl (ga:GE) (gl gh:GO):GE:=fun ω G Q=>ga ω G fun w G1=>gl ω G1 fun lo G2=>gh ω G2 fun hi G3=>slW w lo hi G3 Q
theorem ZjV {lo hi:Option Expr} {gl gh:GO} {p2:Pos} (ha:Em X e ga) (hl:Om X lo gl) (hh:Om X hi gh):Em X (.Subscript e (.Slice lo hi none p2) pos) (gSl ga gl gh) :=
 ⟨Zbn (Zoc (SlR.or ZuJ Zsj) ha.p hl.p hh.p) fun σ H Q ⟨ω,G,ts,r,q⟩=>⟨ω,G,ts,r,ha.m _ _ _ _ (fun w G1 z v H1 m1 t r1=>⟨ω,G1,ts.mono m1,r1,hl.m _ _ _ _ (fun l G2 z2 H2 m2 r2 =>
   ⟨ω,G2,(ts.mono m1).mono m2,r2,hh.m _ _ _ _ (fun h G3 z3 H3 m3 r3=>Zoe ((t.mono m2).mono m3) r3 (Zt7 (fun w G' z=>Zcz ((m1.trans m2).trans m3) z) z3)) z2⟩) z⟩) q⟩,
  fun ω G Q Q' h q=>ha.m _ _ _ _ (fun w G1 z=>hl.m _ _ _ _ (fun l G2 z2=>hh.m _ _ _ _ (fun u G3 z3=>Zt7 h z3) z2) z) q⟩
end
abbrev UpW (K:PySem.W.Frag) (r:RW2) (r2:R2):Prop:=∀ (x y:W) (v u:V) (G:Hw) (H:Hp) (Q:VK),Tr K H v x→Tr K H u y→RelH K H G→r x y G (dn K H Q)→r2 v u H Q
structure Cop (X:Cx) (op:CmpOp) (r:RW2):Prop where
 ex:∃ r2,OpR X (compareOp op) r2∧UpW X.K r r2
 m:r.M
def ZbT (a b:Str):Bool:=decide (a.cps.toList < b.cps.toList)
def Ze7 (f:Int→Int→Bool) (g:Str→Str→Bool):RW2:=fun x y G Q=>match x,y with
 | .int i,.int j=>Q (.bl (f i j)) G
 | .str i,.str j=>Q (.bl (g i j)) G
 | _,_=>False
theorem ZuK {f:Int→Int→Bool} {g:Str→Str→Bool}:RW2.M (Ze7 f g):=fun x y G Q Q' h q=>by
 cases x <;> cases y <;> first | exact q | exact h _ _ q
theorem Zsp {f:Int→Int→Bool} {g:Str→Str→Bool}:UpW K (Ze7 f g) (fun x y H Q=>rI0 (fun i j=>.bl (f i j)) x y H Q∨∃ i j,x=.str i∧y=.str j∧Q (.bl (g i j)) H):=fun x y v u G H Q tx ty r q=>by
 cases tx with
 | int i=>cases ty <;> first | exact q.elim | exact .inl ⟨_,_,rfl,rfl,q _ H .refl (.bl _) r⟩
 | str i=>cases ty <;> first | exact q.elim | exact .inr ⟨_,_,rfl,rfl,q _ H .refl (.bl _) r⟩
 | _=>exact q.elim
theorem Zq7 {X:Cx}:OpR X (compareOp .LtE) (fun x y H Q=>∃ i j,x=.str i∧y=.str j∧Q (.bl (!ZbT j i)) H):=by
 walk_at "pd"
 obtain ⟨i,j,rfl,rfl,q⟩:=h
 obtain ⟨t,rfl⟩:=rx
 obtain ⟨t',rfl⟩:=ry
 exact PySem.P.le_str ⟨.bl _,H,I,rfl,q⟩
theorem ZgD {X:Cx}:Cop X .Lt (Ze7 (fun i j=>decide (i < j)) ZbT):=⟨⟨_,OpR.or ZAU Zqe,Zsp⟩,ZuK⟩
theorem Zgo {X:Cx}:Cop X .LtE (Ze7 (fun i j=>decide (i≤j)) (fun a b=>!ZbT b a)):=⟨⟨_,OpR.or ZAz Zq7,Zsp⟩,ZuK⟩
theorem Zgm {X:Cx}:Cop X .Gt (ZeA fun i j=>decide (j < i)):=⟨⟨_,ZAM,Zrf⟩,ZuR⟩
theorem Zgz {X:Cx}:Cop X .GtE (ZeA fun i j=>decide (j≤i)):=⟨⟨_,ZAo,Zrf⟩,ZuR⟩
theorem Zgf {X:Cx} (hu:X.A.units+100 < cLine):Cop X .Eq (Zak (eqF false)):=⟨⟨_,ZyE hu,ZuW false⟩,Zij⟩
theorem Zgv {X:Cx} (hu:X.A.units+100 < cLine):Cop X .NotEq (Zak (eqF true)):=⟨⟨_,ZyU hu,ZuW true⟩,Zij⟩
theorem Zgx {X:Cx}:Cop X .In (Zak (inF false)):=⟨⟨_,ZqE,ZuX false⟩,Zij⟩
theorem Zd6 {X:Cx}:Cop X .NotIn (Zak (inF true)):=⟨⟨_,Zmv,ZuX true⟩,Zij⟩
section
variable {X:Cx} {op op':CmpOp} {r r':RW2} {a b c e:Expr} {es:List Expr} {pos:Pos} {ga gb gc:GE}
theorem ZgJ (C:Cop X op r) (hm:behindInMarks op b=false) (ha:Em X a ga) (hb:Em X b gb):Em X (.Compare a [op] [b] pos) (Zah r ga gb) :=
 let ⟨_,h1,h2⟩:=C.ex
 ⟨ZxO h1 C.m ha.m hb.m h2 ha.p hb.p hm,Ze6 C.m ha.m hb.m⟩
theorem ZfD (C:Cop X op r) (hm:behindInMarks op b=false) (ha:Em X a ga) (hb:Em X b gb):Tm X (.Compare a [op] [b] pos) (gTB (Zah r ga gb)) :=
 let ⟨_,h1,h2⟩:=C.ex
 ⟨ZxU h1 C.m ha.m hb.m h2 ha.p hb.p hm,Zxr (Ze6 C.m ha.m hb.m)⟩
def Zbj (r r':RW2) (ga gb gc:GE):GE:=fun ω G Q=>ga ω G fun x G1=>gb ω G1 fun y G2=>r x y G2 fun z G3=>match z with
 | .bl k=>if k=true then gc ω G3 fun w G4=>r' y w G4 Q else Q (.bl false) G3
 | _=>False
theorem ZlG (mr:r.M) (mr':r'.M) (ma:ga.M) (mb:gb.M) (mc:gc.M):GE.M (Zbj r r' ga gb gc):=fun ω G Q Q' h q =>
 ma _ _ _ _ (fun x G1 z=>mb _ _ _ _ (fun y G2 z=>mr _ _ _ _ _ (fun z1 G3 z=>by
  cases z1 with
  | bl k =>
   cases k with
   | true=>exact mc _ _ _ _ (fun w G4 z=>mr' _ _ _ _ _ h z) z
   | false=>exact h _ _ z
  | _=>exact z) z) z) q
theorem ZoD {r2 r2':R2} (u:UpW K r r2) (u':UpW K r' r2') (mr:r.M) (mr':r'.M) (ma:ga.M) (mb:gb.M) (mc:gc.M) (σ:St) (H:Hp) (Q:VK) (h:up K (Zbj r r' ga gb gc) σ H Q):ZrK r2 r2' (up K ga) (up K gb) (up K gc) σ H Q:=by
 obtain ⟨ω,G,ts,rh,q⟩:=h
 refine ⟨ω,G,ts,rh,ma _ _ _ _ (fun x G1 z1 v H1 m1 tx r1=>⟨ω,G1,ts.mono m1,r1,mb _ _ _ _ (fun y G2 z2 v2 H2 m2 ty r2=>?_) z1⟩) q⟩
 refine u x y v v2 G2 H2 _ (tx.mono m2) ty r2 (mr _ _ _ _ _ (fun k G3 z3 v3 H3 m3 tk r3=>?_) z2)
 cases k with
 | bl k =>
  refine ⟨k,ZnJ tk,?_⟩
  cases k with
  | true =>
   rw [if_pos rfl]
   refine ⟨ω,G3,((ts.mono m1).mono m2).mono m3,r3,mc _ _ _ _ (fun w G4 z4 v4 H4 m4 tw r4=>?_) z3⟩
   exact u' y w v2 v4 G4 H4 Q ((ty.mono m3).mono m4) tw r4 (mr' _ _ _ _ _ (fun w5 G5 z5=>Zcz (((m1.trans m2).trans m3).trans m4) z5) z4)
  | false =>
   rw [if_neg Bool.false_ne_true]
   exact z3 _ H3 ((m1.trans m2).trans m3) (.bl false) r3
 | _=>exact z3.elim
theorem ZcT (C:Cop X op r) (C':Cop X op' r') (hm:lastMarks [op,op'] [b,c]=false) (ha:Em X a ga) (hb:Em X b gb) (hc:Em X c gc):Em X (.Compare a [op,op'] [b,c] pos) (Zbj r r' ga gb gc) :=
 let ⟨_,h1,h2⟩:=C.ex
 let ⟨_,h3,h4⟩:=C'.ex
 ⟨Zbn (Zuh h1 h3 ha.p hb.p hc.p hm) (ZoD h2 h4 C.m C'.m ha.m hb.m hc.m),ZlG C.m C'.m ha.m hb.m hc.m⟩
theorem ZcO (C:Cop X op r) (C':Cop X op' r') (hm:lastMarks [op,op'] [b,c]=false) (ha:Em X a ga) (hb:Em X b gb) (hc:Em X c gc):Tm X (.Compare a [op,op'] [b,c] pos) (gTB (Zbj r r' ga gb gc)) :=
 let ⟨_,h1,h2⟩:=C.ex
 let ⟨_,h3,h4⟩:=C'.ex
 ⟨ZoK (Zt9 h1 h3 ha.p hb.p hc.p hm) fun σ H Q z=>ZoD h2 h4 C.m C'.m ha.m hb.m hc.m σ H _ (ZxQ (ZlG C.m C'.m ha.m hb.m hc.m) z),Zxr (ZlG C.m C'.m ha.m hb.m hc.m)⟩
end
abbrev UpC (K:PySem.W.Frag) (r:RWc) (r1:List V→Hp→VK→Prop):Prop:=∀ ws vs G H Q,TrL K H vs ws→RelH K H G→r ws G (dn K H Q)→r1 vs H Q
structure Blt (X:Cx) (f:Value) (r:RWc):Prop where
 ex:∃ r1,CallR X f r1∧UpC X.K r r1
 m:r.M
section
variable {X:Cx} {x:Str} {p pos:Pos} {e:Expr} {es:List Expr} {gs:GA} {r:RWc} {id T:String}
theorem Za9 (hv:bootBuiltins x=some (.builtin id)) (B:Blt X (.builtin id) r) (hg:Gl X x) (hm:X.mg x=none) (hn:x≠"__name__") (hdb:(x==("__debug__":Str))=false)
  (he:starEach (e::es) X.env=(false,eval e X.env)::starEach es X.env) (hpl:(backTo pos (starEach es X.env)).any (·.1)=false) (ha:Am X (e::es) gs):Em X (.Call (.Name x p) (e::es) [] pos) (gB r gs) :=
 let ⟨_,h1,h2⟩:=B.ex
 Zx2 h1 B.m h2 hg hm hv hn hdb he hpl ha
theorem Zb5 (hv:bootBuiltins x=some (.type T)) (B:Blt X (.type T) r) (hg:Gl X x) (hm:X.mg x=none) (hn:x≠"__name__") (hdb:(x==("__debug__":Str))=false)
  (he:starEach (e::es) X.env=(false,eval e X.env)::starEach es X.env) (hpl:(backTo pos (starEach es X.env)).any (·.1)=false) (ha:Am X (e::es) gs):Em X (.Call (.Name x p) (e::es) [] pos) (gB r gs) :=
 let ⟨_,h1,h2⟩:=B.ex
 ZyF h1 B.m h2 hg hm hv hn hdb he hpl ha
end
theorem Zdz {X:Cx}:Blt X (.builtin "len") (rF Zec):=⟨⟨_,Zs2,Zvp⟩,ZyG⟩
theorem Zb2 {X:Cx} (hc:X.calm=true):Blt X (.builtin "all") (rF Ze9):=⟨⟨_,Zru hc,ZwW⟩,ZyG⟩
theorem Zdf {X:Cx} (hc:X.calm=true):Blt X (.builtin "any") (rF Zhy):=⟨⟨_,ZqI hc,Zv9⟩,ZyG⟩
def ZnN:RWc:=fun ws G Q=>match ws with
 | [w]=>(match Zme G w with | some xs=>∀ p,G p=none→Q (.ref p) (put G p (.lst xs)) | none=>False)
 | _=>False
theorem Zwc:RWc.M ZnN:=fun ws G Q Q' h q=>by
 unfold ZnN at q ⊢
 split at q
 ·split at q
  ·exact fun p hp=>h _ _ (q p hp)
  ·exact q.elim
 ·exact q.elim
theorem ZtZ:UpC K ZnN (fun xs H Q=>∃ p ys,xs=[.ref p]∧(SqL K H p ys∨SqT K H p ys)∧∀ l,H l=none→Q (.ref l) (upd H l (.lst ys))):=fun ws vs G H Q t r q=>by
 unfold ZnN at q
 split at q
 ·rename_i w0
  split at q
  ·rename_i xs e
   cases t with
   | cons tw t =>
    cases t
    obtain ⟨a,us,rfl,hq,l⟩:=Zlm r tw e
    exact ⟨a,us,rfl,hq,fun p hp=>q p (r.no hp) _ _ (Mono.new hp _) (.ref p) (r.new hp l)⟩
  ·exact q.elim
 ·exact q.elim
theorem ZcY {X:Cx}:Blt X (.type "list") ZnN:=⟨⟨_,Zmt,ZtZ⟩,Zwc⟩
def Zke (ws:List W) (G:Hw):Option W:=match ws with | [w]=>(Zme G w).map W.tup | _=>none
theorem ZwG:UpC K (rF Zke) (fun xs H Q=>∃ p ys,xs=[.ref p]∧((SqL K H p ys∧∀ l,H l=none→Q (.ref l) (upd H l (.tup ys)))∨(SqT K H p ys∧Q (.ref p) H))):=fun ws vs G H Q t r q=>by
 obtain ⟨w,e,q'⟩:=Zfx q
 unfold Zke at e
 split at e
 ·obtain ⟨xs,e1,e2⟩:=Option.map_eq_some_iff.mp e
  subst e2
  cases t with
  | cons tw t =>
   cases t
   obtain ⟨a,us,rfl,hq,l⟩:=Zlm r tw e1
   rcases hq with hq | hq
   ·exact ⟨a,us,rfl,.inl ⟨hq,fun p hp=>q' _ _ (Mono.new hp _) (.tup (SqT.of Zbq) (l.mono (Mono.new hp _))) (r.mono0 hp)⟩⟩
   ·exact ⟨a,us,rfl,.inr ⟨hq,q' _ H .refl (.tup hq l) r⟩⟩
 ·cases e
theorem ZbE {X:Cx}:Blt X (.type "tuple") (rF Zke):=⟨⟨_,Zk4,ZwG⟩,ZyG⟩
def ZoT (ws:List W) (_:Hw):Option W:=match ws with | [.int i]=>some (.int i) | [.bl k]=>some (.int (if k then 1 else 0)) | _=>none
theorem Zv2:UpC K (rF ZoT) (fun xs H Q=>(∃ i,xs=[.int i]∧Q (.int i) H)∨∃ k,xs=[.bl k]∧Q (.int (if k then 1 else 0)) H):=fun ws vs G H Q t r q=>by
 obtain ⟨w,e,q'⟩:=Zfx q
 unfold ZoT at e
 split at e
 ·cases e
  cases t with
  | cons tw t=>cases t;cases tw;exact .inl ⟨_,rfl,q' _ H .refl (.int _) r⟩
 ·cases e
  cases t with
  | cons tw t=>cases t;cases tw;exact .inr ⟨_,rfl,q' _ H .refl (.int _) r⟩
 ·cases e
theorem Zek {X:Cx}:Blt X (.type "int") (rF ZoT):=⟨⟨_,Zss,Zv2⟩,ZyG⟩
structure Mth (X:Cx) (T:String) (name:Str) (id:String) (pre:W→Hw→Prop) (r:W→List W→Hw→Kw→Prop):Prop where
 pa:PlainAttrs T
 slot:Slot T name id
 ty:typeOf (.builtin id)=pure (.type "method_descriptor")
 ex:∃ r2,MtR X id r2∧∀ (o:W) (ws:List W) (v:V) (vs:List V) (G:Hw) (H:Hp) (Q:VK),Tr X.K H v o→TrL X.K H vs ws→RelH X.K H G→r o ws G (dn X.K H Q)→r2 v vs H Q
 pr:∀ (o:W) (v:V) (G:Hw) (H:Hp),Tr X.K H v o→RelH X.K H G→pre o G→tyV X.K T v H
 m:∀ o ws G (Q Q':Kw),(∀ w G',Q w G'→Q' w G')→r o ws G Q→r o ws G Q'
def gMt (pre:W→Hw→Prop) (r:W→List W→Hw→Kw→Prop) (go:GE) (gs:GA):GE:=fun ω G Q=>go ω G fun o G1=>pre o G1∧gs ω G1 fun ws G2=>r o ws G2 Q
section
variable {X:Cx} {o e:Expr} {es:List Expr} {go:GE} {gs:GA} {name:Str} {apos cpos:Pos} {T id:String} {pre:W→Hw→Prop} {r:W→List W→Hw→Kw→Prop}
theorem ZaS (M:Mth X T name id pre r) (hbase:attributeBase o name X.env (eval o X.env)=eval o X.env)
  (hfew:((backTo cpos (starEach (e::es) X.env)).all (fun x=>!x.1)&&(backToKw cpos (keywordEach [] X.env)).all (fun x=>x.1.isSome)&&decide ((e::es).length+([]:List Keyword).length+(if ([]:List Keyword).isEmpty then 0 else 1) < 30))=true)
  (hline:(apos.endLine==cpos.line)=true) (hs:starEach (e::es) X.env=(false,eval e X.env)::starEach es X.env) (hplain:(backTo cpos (starEach es X.env)).any (·.1)=false) (ho:Em X o go) (ha:Am X (e::es) gs) :
  Em X (.Call (.Attribute o name apos) (e::es) [] cpos) (gMt pre r go gs) :=
 let ⟨_,h1,h2⟩:=M.ex
 ⟨Zbn (ZAe M.pa M.slot M.ty h1 ho.p ha.p hbase hfew hline hs hplain) fun σ H Q ⟨ω,G,ts,rh,q⟩=>⟨ω,G,ts,rh,ho.m _ _ _ _ (fun ow G1 z v H1 m1 tv r1=>⟨M.pr ow v G1 H1 tv r1 z.1,
   ω,G1,ts.mono m1,r1,ha.m _ _ _ _ (fun ws G2 z2 vs H2 m2 tvs r2=>h2 ow ws v vs G2 H2 Q (tv.mono m2) tvs r2 (M.m _ _ _ _ _ (fun w G' y=>Zcz (m1.trans m2) y) z2)) z.2⟩) q⟩,
  fun ω G Q Q' h q=>ho.m _ _ _ _ (fun ow G1 z=>⟨z.1,ha.m _ _ _ _ (fun ws G2 z2=>M.m _ _ _ _ _ h z2) z.2⟩) q⟩
end
def Zi7 (o:W) (G:Hw):Prop:=∃ xs,Zj2 G o=some xs
theorem Zo6 {o:W} {v:V} {G:Hw} (t:Tr K H v o) (r:RelH K H G) (h:Zi7 o G):tyV K "list" v H:=by
 obtain ⟨xs,e⟩:=h
 obtain ⟨a,vs,rfl,_,_,e1,_⟩:=ZfU r t e
 exact .inl ⟨rfl,_,SqL.of e1⟩
def ZuL (o:W) (G:Hw) (f:List W→Option (List W)) (Q:Kw):Prop:=match o with
 | .ref a=>(match G a with | some (.lst xs)=>(match f xs with | some ys=>Q .non (put G a (.lst ys)) | none=>False) | _=>False)
 | _=>False
theorem Znv {o:W} {G:Hw} {f:List W→Option (List W)} {Q:Kw} (q:ZuL o G f Q):∃ a xs ys,o=.ref a∧G a=some (.lst xs)∧f xs=some ys∧Q .non (put G a (.lst ys)):=by
 unfold ZuL at q
 split at q
 ·split at q
  ·rename_i xs e
   split at q
   ·rename_i ys e2;exact ⟨_,xs,ys,rfl,e,e2,q⟩
   ·exact q.elim
  ·exact q.elim
 ·exact q.elim
theorem Znw {G:Hw} {f:List W→Option (List W)} {Q:Kw} {a:Addr} {xs ys:List W} (e:G a=some (.lst xs)) (e2:f xs=some ys) (q:Q .non (put G a (.lst ys))):ZuL (.ref a) G f Q:=by
 unfold ZuL
 dsimp only
 rw [e]
 dsimp only
 rw [e2]
 exact q
theorem ZuM {o:W} {G:Hw} {f:List W→Option (List W)} {Q Q':Kw} (h:∀ w G',Q w G'→Q' w G') (q:ZuL o G f Q):ZuL o G f Q':=by
 obtain ⟨a,xs,ys,rfl,e,e2,q⟩:=Znv q
 exact Znw e e2 (h _ _ q)
def ZuD (o:W) (ws:List W) (G:Hw) (Q:Kw):Prop:=match ws with
 | [y]=>ZuL o G (fun xs=>if xs.length < sizeLine then some (xs++[y]) else none) Q
 | _=>False
theorem ZbG {X:Cx}:Mth X "list" "append" "list.append" Zi7 ZuD where
 pa:=PySem.F.plainAttrs_list
 slot:=PySem.F.slot_list_append
 ty:=PySem.F.type_list_append
 ex:=⟨_,Zso,fun o ws v vs G H Q tv tvs r q=>by
  unfold ZuD at q
  split at q
  ·obtain ⟨a,xs,ys,rfl,e,e2,q⟩:=Znv q
   split at e2
   ·rename_i hlen
    cases e2
    cases tv
    cases tvs with
    | cons ty t =>
     cases t
     obtain ⟨us,e1,l⟩:=r a _ e
     exact ⟨a,us,_,rfl,rfl,e1,by rw [l.length];exact hlen,q _ _ (Mono.lst e1 _) .non (r.chg e1 (l.append (.cons ty .nil)))⟩
   ·cases e2
  ·exact q.elim⟩
 pr:=fun o v G H t r h=>Zo6 t r h
 m:=fun o ws G Q Q' h q=>by
  unfold ZuD at q ⊢
  split at q
  ·exact ZuM h q
  ·exact q.elim
def Zuf (o:W) (ws:List W) (G:Hw) (Q:Kw):Prop:=match ws with
 | [y]=>ZuL o G (fun xs=>(Zj2 G y).bind fun zs=>if xs.length+zs.length≤sizeLine then some (xs++zs) else none) Q
 | _=>False
theorem Zbr {X:Cx}:Mth X "list" "extend" "list.extend" Zi7 Zuf where
 pa:=PySem.F.plainAttrs_list
 slot:=PySem.F.slot_list_extend
 ty:=PySem.F.type_list_extend
 ex:=⟨_,Zro,fun o ws v vs G H Q tv tvs r q=>by
  unfold Zuf at q
  split at q
  ·obtain ⟨a,xs,ys,rfl,e,e2,q⟩:=Znv q
   obtain ⟨zs,e3,e4⟩:=Option.bind_eq_some_iff.mp e2
   split at e4
   ·rename_i hlen
    cases e4
    cases tv
    cases tvs with
    | cons ty t =>
     cases t
     obtain ⟨us,e1,l⟩:=r a _ e
     obtain ⟨b,ws',rfl,_,_,e5,l5⟩:=ZfU r ty e3
     exact ⟨a,b,us,ws',rfl,rfl,e1,e5,by rw [l.length,l5.length];exact hlen,q _ _ (Mono.lst e1 _) .non (r.chg e1 (l.append l5))⟩
   ·cases e4
  ·exact q.elim⟩
 pr:=fun o v G H t r h=>Zo6 t r h
 m:=fun o ws G Q Q' h q=>by
  unfold Zuf at q ⊢
  split at q
  ·exact ZuM h q
  ·exact q.elim
def Zsd (C:Addr) (E:Addr→Hw→Prop) (gs:GA):GS:=fun _ ω G=>gs ω G fun ws G1=>ws.length≤sizeLine∧E C G1
section
variable {P:Program} {w:World} {mg:Str→Option Value} {base:Heap} {N:List Str} {qual:Str} {scope:Scope} {f:Addr} {cd:Value} {A:Around} {outer:List Env} {s:Shared} {E:XK} {Pb:Hp→Prop}
theorem Zub {x:Str} {C:Addr} {B newId initId:String} {bm:List Value} {np cpos pos:Pos} {e₀:Expr} {Zch:List Expr} {gs:GA} (hm:mg x=some (.ref C)) (q:PySem.W.excIn K C bm newId=true) (FB:ExcBaseFacts B newId initId bm)
  (hg:Gl (cxW P w K mg base N qual scope f cd A outer s H E) x)
  (he:starEach (e₀::Zch) (cxW P w K mg base N qual scope f cd A outer s H E).env=(false,eval e₀ (cxW P w K mg base N qual scope f cd A outer s H E).env)::starEach Zch (cxW P w K mg base N qual scope f cd A outer s H E).env)
  (hplain:(backTo cpos (starEach Zch (cxW P w K mg base N qual scope f cd A outer s H E).env)).any (·.1)=false) (hd:(x==("__debug__":Str))=false) (ha:Am (cxW P w K mg base N qual scope f cd A outer s H E) (e₀::Zch) gs) :
  Sm (cxW P w K mg base N qual scope f cd A outer s H E) Pb (.Raise (some (.Call (.Name x np) (e₀::Zch) [] cpos)) none pos) (Zsd C (dnX K H E) gs):=by
 refine ⟨fun B0 hB0 pins sc σ Hc D I h=>?_,fun ω G D D' _ _ _ _ q=>q⟩
 obtain ⟨ω,G,ts,r,mb,q'⟩:=h
 exact Zuk hg hm q FB ha.p he hplain hd pins sc σ Hc D I ⟨ω,G,ts,r,ha.m _ _ _ _ (fun ws G1 z vs H1 m1 t r1=>⟨by rw [t.length];exact z.1,z.2 H1 ((Un.mono' I.base).trans m1) r1⟩) q'⟩
end
theorem RelH.newX {G:Hw} {p C:Addr} (r:RelH K H G) (hp:H p=none):RelH K (upd H p (.ext (Zix p C))) (put G p (.exc C)):=fun a u e=>by
 by_cases h:a=p
 ·subst h
  rw [Zaf] at e;cases e
  exact Zbq
 ·rw [Zat h] at e
  exact r.mono0 hp a u e
structure ZzV (D D':Ew):Prop where
 nx:∀ a b,D.nx a b→D'.nx a b
 rt:∀ a b,D.rt a b→D'.rt a b
 bk:∀ a b,D.bk a b→D'.bk a b
 ct:∀ a b,D.ct a b→D'.ct a b
theorem GS.M.le {g:GS} (m:g.M) {D D':Ew} (h:ZzV D D') {ω:Sw} {G:Hw} (q:g D ω G):g D' ω G:=m ω G D D' h.nx h.rt h.bk h.ct q
def ZwT (i:Nat) (D:Ew):Ew:={ nx:=fun ω G=>D.nx (ω.set i none) G,rt:=D.rt,bk:=fun ω G=>D.bk (ω.set i none) G,ct:=fun ω G=>D.ct (ω.set i none) G }
def Zx5 (K:PySem.W.Frag) (C0:Addr) (i:Nat) (gb:Xw→GS) (gh:GS):GS:=fun D ω G =>
 gb (fun ω' C G'=>PySem.W.subIn K (.ref C) (.ref C0)=some true∧∀ e,G' e=none→gh (ZwT i D) (ω'.set i (some (.ref e))) (put G' e (.exc C))) D ω G
def Zz5 (K:PySem.W.Frag) (C0:Addr) (i:Nat) (gb:Xw→GS) (gh:GS):GS:=fun D ω G=>∃ D0,ZzV D0 D∧Zx5 K C0 i gb gh D0 ω G
theorem ZyA {X:Cx} {body hbody:List Stmt} {b0:Stmt} {x n:Str} {np hpos pos:Pos} {i:Nat} {C0:Addr} {gb:Xw→GS} {gh:GS} (hmx:X.mg x=some (.ref C0)) (hD:PySem.W.typeIn X.K (.ref C0)=some (.type "type")) (hT:(PySem.W.clsIn X.K C0).isSome=true) (hB:PySem.W.subIn X.K (.ref C0) (.type "BaseException")=some true)
  (hN:X.N.Nodup) (hi:place X.N n=some i) (hn:Zkr X.env.scope n=true) (frm:X.stack=X.env::X.outer) (frl:X.env.frame=some X.env.locals) (hex:X.ex=[]) (hgx:Gl X x) (hdb:(x==("__debug__":Str))=false)
  (hb:∀ (ex:Xw) (pn:List (Addr×Obj)) (xe:Value→Shared→Prop),Zmo (cxT X pn xe) ex→Ssm (cxT X pn xe) (atB X) body (gb ex)) (hh:∀ e,Ssm (cxH X e) (atB X) (b0::hbody) gh) :
  Sm X (atB X) (.Try body [.ExceptHandler (some (.Name x np)) (some n) (b0::hbody) hpos] [] [] pos) (Zz5 X.K C0 i gb gh):=by
 refine ⟨fun B hBB=>?_,(by rintro ω G D D' h1 h2 h3 h4 ⟨D0,le,q⟩;exact ⟨D0,⟨fun a b z=>h1 a b (le.nx a b z),fun a b z=>h2 a b (le.rt a b z),fun a b z=>h3 a b (le.bk a b z),fun a b z=>h4 a b (le.ct a b z)⟩,q⟩)⟩
 have hBB':B=X.H₀:=hBB
 let tb:(St→XK)→TS:=fun Eσ Dn σ H=>∃ (ex:Xw) (D0:Ew) (ω:Sw) (G:Hw),TrSt X.K H σ ω∧RelH X.K H G∧Mono X.K B H ∧
  (∀ σ' C H' ω' G',Mono X.K B H'→TrSt X.K H' σ' ω'→RelH X.K H' G'→ex ω' C G'→Eσ σ' (.ref C) none H')∧ZzV D0 (dnD X.K B Dn)∧gb ex D0 ω G
 have hbody':∀ (Eσ:St→XK) (pn:List (Addr×Obj)) (xe:Value→Shared→Prop),Zjn (CXe X.prog X.w) (cxT X pn xe) Eσ→PSs (cxT X pn xe) body (tb Eσ):=by
  intro Eσ pn xe hp pins s σ H Dn I ⟨ex,D0,ω,G,ts,r,mb,hex',hD0,q⟩
  have pw:Zmo (cxT X pn xe) ex:=by
   intro pins' σ' H1 s1 ev s' I1 ⟨e,C,H',ee,F,C',ω',G',eC,ts',r',q'⟩
   cases eC
   exact hp pins' σ' H1 s1 ev s' I1 ⟨e,C,H',ee,F,hex' σ' C H' ω' G' (by rw [hBB'];exact (Un.mono' I1.base).trans (Un.mono' F.un)) ts' r' q'⟩
  have S:=hb ex pn xe pw
  exact S.p B hBB pins s σ H Dn I ⟨ω,G,ts,r,mb,S.m.le hD0 q⟩
 refine Zgg (Zzi (tb:=tb) (th:=upS X.K B gh) hN (ZoY hi) (Zf4 hn) frm frl hex hgx hmx hD hT hB hbody' (fun e=>(hh e).p B hBB) hdb) fun D σ H zz1=>?_
 obtain ⟨ω,G,ts,r,mb,D0,le,q⟩:=zz1
 refine ⟨_,D0,ω,G,ts,r,mb,fun σ' C H' ω' G' m' ts' r' z=>?_,le,q⟩
 refine ⟨C,rfl,z.1,fun e he=>⟨ω'.set i (some (.ref e)),put G' e (.exc C),(ts'.mono (Mono.new he _)).set i (.ref e),r'.newX he,m'.trans (Mono.new he _),?_⟩⟩
 have lee:ZzV (ZwT i D0) (dnD X.K B { nx:=fun σ2 H2=>D.nx (σ2.set i none) H2,rt:=D.rt,bk:=fun σ2 H2=>D.bk (σ2.set i none) H2,ct:=fun σ2 H2=>D.ct (σ2.set i none) H2 }):=by
  refine ⟨fun a b y σ2 H2 m2 ts2 r2=>?_,fun a b y=>le.rt a b y,fun a b y σ2 H2 m2 ts2 r2=>?_,fun a b y σ2 H2 m2 ts2 r2=>?_⟩
  ·exact le.nx _ _ y (σ2.set i none) H2 m2 (ts2.unset i) r2
  ·exact le.bk _ _ y (σ2.set i none) H2 m2 (ts2.unset i) r2
  ·exact le.ct _ _ y (σ2.set i none) H2 m2 (ts2.unset i) r2
 exact (hh e).m.le lee (z.2 e (r'.no he))
structure DfN (P:Program) (w:World) (K:PySem.W.Frag) (mg:Str→Option Value) (base:Heap) (x:Str) (k n:Nat) (sp:Spw):Prop where
 ex:∃ (f:Addr) (fd:FuncData) (ps:List Str),mg x=some (.ref f)∧PySem.W.keepIn K (.ref f)=true∧Binds K fd ps []∧ps.length=n∧Zw0 P w K mg base CX0 k f fd ps (Zu6 K sp)
 mono:sp.M
section
variable {X:Cx} {e:Expr} {es:List Expr} {pos p:Pos} {gs:GA}
theorem ZsU {x:Str} {k n:Nat} {sp:Spw} (D:DfN X.prog X.w X.K X.mg X.base x k n sp) (hr:Ztm k X.A) (hg:Gl X x) (hdb:(x==("__debug__":Str))=false) (he:starEach (e::es) X.env=(false,eval e X.env)::starEach es X.env) (hpl:(backTo pos (starEach es X.env)).any (·.1)=false)
  (ha:Am X (e::es) gs):Em X (.Call (.Name x p) (e::es) [] pos) (Zai sp (fun _ _ _=>False) gs):=by
 obtain ⟨f,fd,ps,hm,hk,hb,_,F⟩:=D.ex
 refine ⟨Zbn (ZtD F hr hg hm hk hb ha.p hdb he hpl) fun σ H Q zz2=>?_,ZrE D.mono ha.m⟩
 obtain ⟨ω,G,ts,r,q⟩:=zz2
 refine ⟨ω,G,ts,r,ha.m _ _ _ _ (fun ws G1 q1 vs H1 m1 tvs r1=>?_) q⟩
 exact ⟨ws,G1,by rw [List.append_nil];exact tvs,r1,D.mono _ _ _ _ _ _ (fun w G' z=>Zcz m1 z) (fun C G' z=>z.elim) q1⟩
end
def tyN (w:W) (G:Hw):Option String:=match w with
 | .non=>some "NoneType"
 | .bl _=>some "bool"
 | .int _=>some "int"
 | .str _=>some "str"
 | .tup _=>some "tuple"
 | .rol _=>some "list"
 | .ref a=>(match G a with | some (.lst _)=>some "list" | _=>none)
def Zr3 (n T:String):Bool:=n==T||(n=="bool"&&T=="int")
theorem ZgT {n T:String} (hn:n∈["NoneType","bool","int","str","tuple","list"]) (hT:T∈["tuple","list","str","int","bool","dict"]):PySem.W.kitOne K (.type n) (.type T)=some (Zr3 n T):=by
 simp only [List.mem_cons,List.not_mem_nil,or_false] at hn hT
 rcases hn with rfl | rfl | rfl | rfl | rfl | rfl <;> rcases hT with rfl | rfl | rfl | rfl | rfl | rfl <;> kernel_rfl
def ZbH (T:String) (ge:GE):GE:=fun ω G Q=>ge ω G fun w G1=>match tyN w G1 with | some n=>Q (.bl (Zr3 n T)) G1 | none=>False
theorem ZvR {T:String} {ge:GE} (m:ge.M):GE.M (ZbH T ge):=fun ω G Q Q' h q=>m _ _ _ _ (fun w G1 z=>by
 cases e:tyN w G1 with
 | none=>rw [e] at z;exact z
 | some n=>rw [e] at z;exact h _ _ z) q
theorem Zzr {X:Cx} {pins:List (Addr×Obj)} {σ:St} {s:Shared} {v:V} {u:Value} {w:W} {G:Hw} {n T:String} {Q:Value→Shared→Prop} {E:Value→Shared→Prop} (I:Inv X pins σ H s) (rv:RelV v u) (t:Tr X.K H v w) (r:RelH X.K H G) (e:tyN w G=some n)
  (hT:T∈["tuple","list","str","int","bool","dict"]) (h:∀ tk,Q (.bool (Zr3 n T)) { s with toks:=tk }):wpAny (model X.prog X.w) X.A (call (.builtin "isinstance") [u,.type T]) Q E s:=by
 cases t with
 | non=>cases e;cases (show u=Value.none from rv);exact PySem.W.kia_one PySem.W.kitx_none I.kIn True.intro (ZgT (by simp) hT) (fun z=>nomatch z) h
 | bl y=>cases e;cases (show u=Value.bool y from rv);exact PySem.W.kia_one PySem.W.kitx_bool I.kIn True.intro (ZgT (by simp) hT) (fun z=>nomatch z) h
 | int i=>cases e;obtain ⟨t,rfl⟩:=rv;exact PySem.W.kia_one PySem.W.kitx_int I.kIn True.intro (ZgT (by simp) hT) (fun z=>nomatch z) h
 | str y=>cases e;obtain ⟨t,rfl⟩:=rv;exact PySem.W.kia_one PySem.W.kitx_str I.kIn True.intro (ZgT (by simp) hT) (fun z=>nomatch z) h
 | tup hq l =>
  cases e
  cases rv
  obtain ⟨its,_,p,_⟩:=I.tuple hq
  obtain ⟨o,h1,h2,_⟩:=p
  exact PySem.W.kia_one PySem.W.kitx_tuple I.kIn ⟨o,h1,h2⟩ (ZgT (by simp) hT) (fun z=>nomatch z) h
 | rol hq l =>
  cases e
  cases rv
  obtain ⟨its,_,p,_⟩:=I.list hq.sq
  obtain ⟨o,h1,h2,_⟩:=p.isList
  exact PySem.W.kia_one PySem.W.kitx_list I.kIn ⟨o,h1,h2⟩ (ZgT (by simp) hT) (fun z=>nomatch z) h
 | ref a =>
  unfold tyN at e
  dsimp only at e
  cases ea:G a with
  | none=>rw [ea] at e;cases e
  | some o =>
   rw [ea] at e
   cases o with
   | exc C=>cases e
   | ins C fs=>cases e
   | dct kvs=>cases e
   | lst xs =>
    cases e
    cases rv
    obtain ⟨vs,e1,_⟩:=r a _ ea
    obtain ⟨its,_,p,_⟩:=I.list (SqL.of e1)
    obtain ⟨o,h1,h2,_⟩:=p.isList
    exact PySem.W.kia_one PySem.W.kitx_list I.kIn ⟨o,h1,h2⟩ (ZgT (by simp) hT) (fun z=>nomatch z) h
theorem Zor:bootBuiltins "isinstance"=some (.builtin "isinstance"):=by decide +kernel
section
variable {X:Cx} {e:Expr} {p pc pos:Pos} {ge:GE}
theorem Zaw {c:Str} {T:String} (hT:T∈["tuple","list","str","int","bool","dict"]) (hv:bootBuiltins c=some (.type T)) (hmc:X.mg c=none) (hmi:X.mg "isinstance"=none) (hgi:Gl X "isinstance") (hgc:Gl X c) (hn:c≠"__name__") (hd:(c==("__debug__":Str))=false)
  (he:starEach [e,.Name c pc] X.env=[(false,eval e X.env),(false,eval (.Name c pc) X.env)]) (he2:starEach [.Name c pc] X.env=[(false,eval (.Name c pc) X.env)]) (h:Em X e ge):Em X (.Call (.Name "isinstance" p) [e,.Name c pc] [] pos) (ZbH T ge):=by
 refine ⟨fun pins s σ H Q I zz3=>?_,ZvR h.m⟩
 obtain ⟨ω,G,ts,r,q⟩:=zz3
 have pa:PA X [e,.Name c pc] (Zp5 (up X.K ge) (Zp5 (tC (.ty T)) ZzT)):=ZhZ h.p (ZhZ (Zr6 hgc hmc hv rfl hn hd) ZoJ (by rw [he2];rfl)) (by rw [he,he2])
 refine wpAny_Call_Name_kw (ZeW I hgi hmi Zor ?_ (by decide) (by decide))
 refine PyProof.Rows.callWith_builtin1 (thn (pa pos pins s σ H (fun vs H1=>∃ v w G1 n,vs=[v,.ty T]∧Tr X.K H1 v w∧RelH X.K H1 G1∧tyN w G1=some n∧Q (.bl (Zr3 n T)) H1) I ?_) fun us s1 ⟨vs,H1,I1,r1,v,w,G1,n,e1,tv,rr,ey,qq⟩=>?_) (by rw [he,he2]) (by rw [he2];rfl)
 ·refine ⟨ω,G,ts,r,h.m _ _ _ _ (fun w G1 z v H1 m t r1=>?_) q⟩
  cases ey:tyN w G1 with
  | none=>rw [ey] at z;exact z.elim
  | some n=>rw [ey] at z;exact ⟨v,w,G1,n,rfl,t,r1,ey,z _ H1 m (.bl _) r1⟩
 ·subst e1
  obtain ⟨u,u2,rfl,rv,rt⟩:=Ztx r1
  cases rt
  exact Zzr I1 rv tv rr ey hT fun tk=>⟨.bl _,H1,I1.tok tk,rfl,qq⟩
end
structure Zvq (K:PySem.W.Frag) (C:Addr):Prop where
 ga:PySem.W.findIn K (.ref C) "__getattribute__"=some (some (.builtin "BaseException.__getattribute__"))
 gh:PySem.W.findIn K (.ref C) "__getattr__"=some none
 cl:(PySem.W.clsIn K C).isSome=true
 fc:PySem.W.findIn K (.ref C) "__class__"=some (some (.builtin "object.__class__"))
 sp:PySem.W.specialIn K (.builtin "object.__class__") "__get__"=some (some (.builtin "getset_descriptor.__get__"))
 tk:PySem.W.takesIn K (.builtin "object.__class__")=some true
 mr:PySem.W.mroIn K C (.type "object")=some true
 mb:PySem.W.mroIn K C (.type "BaseException")=some true
end L3
namespace L3
open PySem PySem.W PySem.Spec PySem.Calls PyProof.Rows PySem.Builtin PySem.Builtin.ObjectAttr PySem.Builtin.Getset_descriptor
section
variable {prog:Program} {w:World} {A:Around} {E:Value→Shared→Prop} {s:Shared} {K:Frag} {x C:Addr} {name:Str}
theorem Zi2 {M:Model} {h:Heap} (I:L2.Zix x C h):Looks M h (typeOf (.ref x)) (.ref C):=by
 obtain ⟨ox,e,c⟩:=I
 rw [← c];exact (Looks.ld e).andThen .now
theorem Zwj {M:Model} {h:Heap} {a g:Value} (X:K.In h) (ha:findIn K (.ref C) name=some (some a)) (hg:specialIn K a "__get__"=some (some g)) (ht:takesIn K a=some true):Looks M h (find (.ref x) (.ref C) name) (.bind g a):=by
 have L1:=looks_findIn (M:=M) X ha
 have L2:Looks M h (getOf (some a)) (some g):=looks_specialIn X hg
 have L3:Looks M h (dataDescriptor? (some a) (some g)) (some (g,a)):=(looks_takesIn (M:=M) X ht).andThen .now
 exact L1.andThen (L2.andThen (L3.andThen (Looks.tag .now)))
theorem ZvV {R:Result→Shared→Prop} {tp:Value} (X:K.In s.heap) (I:L2.Zix x C s.heap) (hm:mroIn K C (.type "object")=some true)
  (h:R (.ok (.ret (.ref C))) s):codeAny (model prog w) A (.call (.builtin "getset_descriptor.__get__") ⟨[.builtin "object.__class__",.ref x,tp],[]⟩) R s:=by
 obtain ⟨hp,gn,dr,tt,os⟩:=s
 have LT:=Zi2 (M:=model prog w) I
 have LM:=looks_mroIn (M:=model prog w) X hm
 refine codeAny_call_builtin KF.slot_gs.plain KF.entry_gs (KF.slot_gs.check _ _ _ _ _ _ _ _ KF.type_class (KF.args_gs _ _ _) (?_:wpAny _ _ _ _ _ _))
 (unfold Builtin.«getset_descriptor.__get__» descrGet);(rw [dga_obj]);(refine wpAny_bind (wpAny_pure ?_))
 (unfold descrGetter descrCheckInstance descrNameAndClass isInstance);(simp only [KF.owner_class]);(repeat lk)
 refine ⟨Code.quiet_builtin _ (by decide +kernel),(codeAny_builtin KF.entry_class ?_:codeAny _ _ _ _ _)⟩
 (unfold Builtin.«object.__class__» shownTypeOf);(repeat lk)
 exact h
theorem ZtS {M:Model} {nameV:Value} {Q:Unit→Shared→Prop} (X:K.In s.heap) (I:L2.Zix x C s.heap) (hm:mroIn K C (.type "BaseException")=some true) (hq:Q () s) :
  wpAny M A (checkBuiltinCall "BaseException.__getattribute__" ⟨[.ref x,nameV],[]⟩) Q E s:=by
 obtain ⟨hp,gn,dr,tt,os⟩:=s
 have LT:=Zi2 (M:=M) I
 have LM:=looks_mroIn (M:=M) X hm
 have kd:builtinKind "BaseException.__getattribute__"=some .slot:=by decide +kernel
 have sp:splitId "BaseException.__getattribute__"=some ("BaseException","__getattribute__"):=by decide +kernel
 have ao:=F.args_bexc_ga (.ref x) nameV
 simp only [checkBuiltinCall,kd,sp]
 refine wpAny_bind ?_
 unfold isInstance
 repeat lk
 repeat (any_goals (first | assumption | wp_step))
theorem Zv6 {R:Result→Shared→Prop} {tk:Tok} (XC:Zvq K C) (X:K.In s.heap) (I:L2.Zix x C s.heap) (h:R (.ok (.ret (.ref C))) s) :
  codeAny (model prog w) A (.call (.builtin "BaseException.__getattribute__") ⟨[.ref x,.str "__class__" tk],[]⟩) R s:=by
 refine codeAny_call_builtin F.attr_Exception.ga.plain F.entry_bexc_ga (ZtS X I XC.mb ?_)
 obtain ⟨hp,gn,dr,tt,os⟩:=s
 have LT:=Zi2 (M:=model prog w) I
 have LF:=Zwj (M:=model prog w) (x:=x) X XC.fc XC.sp XC.tk
 (unfold Builtin.«object.__getattribute__»)
 repeat (first | with_reducible refine wpAny_call (ZvV X I XC.mr ?_) | lk | wp_step)
 all_goals exact h
theorem Zwd {Q:Option Value→Shared→Prop} (XC:Zvq K C) (X:K.In s.heap) (I:L2.Zix x C s.heap) (h:Q (some (.ref C)) { s with toks:=s.toks+1 }):wpAny (model prog w) A (getAttr? (.ref x) "__class__") Q E s:=by
 obtain ⟨hp,gn,dr,tt,os⟩:=s
 have LT:=Zi2 (M:=model prog w) I
 have LG:=looks_findIn (M:=model prog w) X XC.ga
 have LH:=looks_findIn (M:=model prog w) X XC.gh
 unfold getAttr? getAttrBy? getAttrBy
 refine wpAny_bind (wpAny_mkText (wpAny_bind (wpAny_attempt (wpAny_holding (wpAny_bind (LT.at (wpAny_bind (LG.at (?_:wpAny _ _ _ _ _ _)))))))))
 show wpAny _ _ (getAttrByItsOwn _ _ _ _ _ _) _ _ _
 unfold getAttrByItsOwn callGetattribute boundAndCalled
 refine wpAny_bind ((LH:Looks _ _ (hookBefore (.ref C)) none).at (wpAny_bind (wpAny_attempt (wpAny_holding ?_))))
 show wpAny _ _ (bindSpecial (.builtin "BaseException.__getattribute__") (.ref x) >>= _) _ _ _
 refine wpAny_bind (wpAny_of_eq (F.attr_Exception.ga.bind _) ?_)
 refine wpAny_call (Zv6 (s:=⟨hp,gn,dr,tt+1,os⟩) XC X I ?_)
 first
  | exact wpAny_pure (handed_on rfl (wpAny_pure h))
  | exact wpAny_pure (wpAny_pure h)
  | exact wpAny_pure h
theorem ZyN (XC:Zvq K C):KitX K (.ref x) (.ref C) (L2.Zix x C) where
 ty:=fun _ _ _ I=>Zi2 I
 it:=fun _ _ X _=>by
  have hc:=XC.cl
  unfold clsIn at hc
  split at hc
  ·rename_i _ _ _ _ ho
   intro A' Q' E' s' k q
   unfold isType loadHead
   exact wpAny_bind (wpAny_loadPart (k _ _ (X _ _ ho)) (wpAny_pure q))
  ·cases hc
 ne:=fun h tp dd its n sl X htp=>by
  have hc:=XC.cl
  refine Bool.eq_false_iff.mpr fun q=>?_
  have e:C=tp:=Value.ref.inj (beq_iff_eq.mp q)
  subst e
  unfold clsIn at hc
  split at hc
  ·rename_i _ _ _ _ ho
   have z:=(X _ _ ho).symm.trans htp
   cases z
  ·cases hc
 ca:=fun X I k=>Zwd XC X I k
end
end L3
namespace L3
open PySem PySem.Spec PyProof.Rows L2
variable {K:PySem.W.Frag} {H H' H2:Hp}
def ZhS (K:PySem.W.Frag) (cv:Value) (ge:GE):GE:=fun ω G Q=>ge ω G fun w G1=>match w with
 | .ref a=>(match G1 a with | some (.exc C)=>∃ b,Zvq K C∧PySem.W.kitOne K (.ref C) cv=some b∧Q (.bl b) G1 | _=>False)
 | _=>False
theorem Zvt {cv:Value} {ge:GE} (m:ge.M):GE.M (ZhS K cv ge):=fun ω G Q Q' h q=>m _ _ _ _ (fun w G1 z=>by
 cases w with
 | ref a =>
  dsimp only at z ⊢
  cases e:G1 a with
  | none=>rw [e] at z;exact z
  | some o =>
   rw [e] at z
   cases o with
   | lst xs=>exact z
   | ins C fs=>exact z
   | dct kvs=>exact z
   | exc C=>obtain ⟨b,h1,h2,h3⟩:=z;exact ⟨b,h1,h2,h _ _ h3⟩
 | _=>exact z) q
section
variable {X:Cx} {e:Expr} {p pc pos:Pos} {ge:GE}
theorem ZqG {c:Str} {cv:V} {cu:Value} (rc:RelV cv cu) (hc:PE X (.Name c pc) (tC cv)) (hmi:X.mg "isinstance"=none) (hgi:Gl X "isinstance")
  (he:starEach [e,.Name c pc] X.env=[(false,eval e X.env),(false,eval (.Name c pc) X.env)]) (he2:starEach [.Name c pc] X.env=[(false,eval (.Name c pc) X.env)]) (hcu:∀ u,RelV cv u→u=cu) (h:Em X e ge):Em X (.Call (.Name "isinstance" p) [e,.Name c pc] [] pos) (ZhS X.K cu ge):=by
 refine ⟨fun pins s σ H Q I zz1=>?_,Zvt h.m⟩
 obtain ⟨ω,G,ts,r,q⟩:=zz1
 have pa:PA X [e,.Name c pc] (Zp5 (up X.K ge) (Zp5 (tC cv) ZzT)):=ZhZ h.p (ZhZ hc ZoJ (by rw [he2];rfl)) (by rw [he,he2])
 refine wpAny_Call_Name_kw (ZeW I hgi hmi Zor ?_ (by decide) (by decide))
 refine PyProof.Rows.callWith_builtin1 (thn (pa pos pins s σ H (fun vs H1=>∃ a C b,vs=[.ref a,cv]∧H1 a=some (.ext (Zix a C))∧Zvq X.K C∧PySem.W.kitOne X.K (.ref C) cu=some b∧Q (.bl b) H1) I ?_) fun us s1 ⟨vs,H1,I1,r1,a,C,b,e1,ha,hx,hk,qq⟩=>?_) (by rw [he,he2]) (by rw [he2];rfl)
 ·refine ⟨ω,G,ts,r,h.m _ _ _ _ (fun w G1 z v H1 m t r1=>?_) q⟩
  cases w with
  | ref a =>
   dsimp only at z
   cases eg:G1 a with
   | none=>rw [eg] at z;exact z.elim
   | some o =>
    rw [eg] at z
    cases o with
    | lst xs=>exact z.elim
    | ins C fs=>exact z.elim
    | dct kvs=>exact z.elim
    | exc C =>
     obtain ⟨b,h1,h2,h3⟩:=z
     have z2:H1 a=some (.ext (Zix a C)):=r1 a _ eg
     exact ⟨a,C,b,by rw [Zyw t],z2,h1,h2,h3 _ H1 m (.bl _) r1⟩
  | _=>exact z.elim
 ·subst e1
  obtain ⟨u,u2,rfl,rv,rt⟩:=Ztx r1
  cases rv
  rw [hcu _ rt]
  obtain ⟨h1,_⟩:=I1.hok a _ ha
  exact PySem.W.kia_one (ZyN hx) I1.kIn h1 hk (fun z=>nomatch z) fun tk=>⟨.bl b,H1,I1.tok tk,rfl,qq⟩
theorem ZhU {c:Str} {C:Addr} (hmc:X.mg c=some (.ref C)) (hmi:X.mg "isinstance"=none) (hgi:Gl X "isinstance") (hgc:Gl X c) (hd:(c==("__debug__":Str))=false)
  (he:starEach [e,.Name c pc] X.env=[(false,eval e X.env),(false,eval (.Name c pc) X.env)]) (he2:starEach [.Name c pc] X.env=[(false,eval (.Name c pc) X.env)]) (h:Em X e ge):Em X (.Call (.Name "isinstance" p) [e,.Name c pc] [] pos) (ZhS X.K (.ref C) ge) :=
 ZqG (cv:=.ref C) rfl (Zn9 hgc hmc rfl hd) hmi hgi he he2 (fun _ z=>z) h
theorem ZvK {c:Str} {T:String} (hv:bootBuiltins c=some (.type T)) (hmc:X.mg c=none) (hmi:X.mg "isinstance"=none) (hgi:Gl X "isinstance") (hgc:Gl X c) (hn:c≠"__name__") (hd:(c==("__debug__":Str))=false)
  (he:starEach [e,.Name c pc] X.env=[(false,eval e X.env),(false,eval (.Name c pc) X.env)]) (he2:starEach [.Name c pc] X.env=[(false,eval (.Name c pc) X.env)]) (h:Em X e ge):Em X (.Call (.Name "isinstance" p) [e,.Name c pc] [] pos) (ZhS X.K (.type T) ge) :=
 ZqG (cv:=.ty T) rfl (Zr6 hgc hmc hv rfl hn hd) hmi hgi he he2 (fun _ z=>z) h
end
theorem Zpu {n:Nat} {gd:Hw→Prop} {H1:Hp}:Zv8 K H1 (Itr 0 n) ((List.range n).map fun i:Nat=>W.int i) gd where
 go:=fun i H G m r g hi=>by show i < n;simpa using hi
 yld:=fun i H G x H' m r g y hi=>by
  obtain ⟨e,ex⟩:=y
  subst ex
  have hn:i < n:=by simpa using hi
  refine ZiJ r e ⟨.int i,by simp [hn],?_⟩
  rw [Int.zero_add];exact .int _
 stop:=fun H G m r g=>by show n≤_;simp
def Zdh (gs:GA):GI:=fun ω G R=>gs ω G fun ws G1=>match ws with
 | [.int j]=>-(2 ^ 62)≤j∧j < 2 ^ 62∧R ((List.range j.toNat).map fun i:Nat=>W.int i) yes G1
 | _=>False
theorem Zuj {gs:GA} (m:gs.M):GI.M (Zdh gs):=fun ω G R R' h q=>m _ _ _ _ (fun ws G1 z=>by
 split at z
 ·exact ⟨z.1,z.2.1,h _ _ _ z.2.2⟩
 ·exact z.elim) q
theorem ZcN {X:Cx} {tg a:Expr} {p pos:Pos} {gs:GA} (hm:X.mg "range"=none) (hg:Gl X "range") (hs:starEach [a] X.env=[(false,eval a X.env)]) (ha:Am X [a] gs):Im X tg (.Call (.Name "range" p) [a] [] pos) (Zdh gs):=by
 refine ⟨⟨_,ZqB hg hm ha.p hs,fun σ H ω G R R0 ts r q k=>⟨ω,G,ts,r,ha.m _ _ _ _ (fun ws G1 z vs H1 m t r1=>?_) q⟩⟩,Zuj ha.m⟩
 split at z
 ·cases t with
  | cons tw t=>cases t;cases tw;exact ⟨_,rfl,z.1,z.2.1,k _ _ _ H1 _ z.2.2 m r1 trivial Zpu⟩
 ·exact z.elim
theorem Inv.turneds {X:Cx} {pins:List (Addr×Obj)} {σ:St} {s:Shared} {h':Heap} {t':Nat} {fp:List Addr} (I:Inv X pins σ H s) (hf:∀ b∈fp,Zrv X pins H b) (k:∀ b o,b∉fp→s.heap.get? b=some o→h'.get? b=some o):Inv X pins σ H { s with heap:=h',toks:=t' }:=by
 have nit:∀ b u,H b=some u→b∉fp:=fun b u e z=>by rw [(hf b z).1] at e;cases e
 refine I.step (g':=s.gens) (d':=s.drawn) (ch:=fp) (fun b hb=>⟨(hf b hb).2.2.2.1,(hf b hb).2.1,(hf b hb).2.2.2.2.1,(hf b hb).2.2.2.2.2⟩) (fun b o _ _ hc e _=>k b o hc e) (fun b o _ _ hc e _=>⟨o.slots,k b o hc e⟩) (fun _ _ _ _ n=>n)
  (fun b o hc e=>⟨o,k b o hc e⟩) (fun _ _ e=>e) (fun _ _ _ e=>e) (fun b ps e=>⟨#[],by rw [e];simp⟩) (fun m hm=>?_) (fun b u e=>?_) I.bare
 ·obtain ⟨o,es,ep,ho,r⟩:=hm
  exact ⟨o,es,ep,k _ o (fun z=>(hf _ z).2.1 rfl) ho,r⟩
 ·refine (I.hok b u e).stay (fun c v hc q=>k c v ?_ q) (fun _ q=>q) fun _ _ q=>q
  rcases hc with z | z
  ·rw [z];exact nit b u e
  ·exact nit c _ z
def Itz (K:PySem.W.Frag) (l1 l2:Addr):It :=
 ⟨fun i H=>∃ xs ys,SqL K H l1 xs∧SqL K H l2 ys∧i < xs.length∧i < ys.length,
  fun i H v H'=>∃ T x y,H T=none∧v=.ref T∧H'=upd H T (.tup [x,y])∧∀ xs ys,SqL K H l1 xs→SqL K H l2 ys→xs[i]?=some x∧ys[i]?=some y,
  fun i H=>∃ xs ys,SqL K H l1 xs∧SqL K H l2 ys∧i=min xs.length ys.length⟩
theorem ZsM {P:Program} {w:World} {elts:List Expr} {k:Nat} {tpos:Pos} {z TI TO i1 i2 l1 l2:Addr} (D:ZipApart z TI TO i1 i2 l1 l2) :
  ZsJ P w K (.Tuple elts k tpos) (Itz K l1 l2) [z,TI,TO,i1,i2] z (fun i h=>IsZip h z TI TO .none∧IsPair h TI (.ref i1) (.ref i2)∧(∃ a b,IsPair h TO a b)∧h.IsListIter i1 l1 i∧h.IsListIter i2 l2 i) where
 mem:=by simp
 obj:=fun i h st b hb=>by
  obtain ⟨hz,hTI,⟨a,c,hTO⟩,⟨o1,e1,_,d1⟩,⟨o2,e2,_,d2⟩⟩:=st
  walk_at "pm"
  rcases hb with rfl | rfl | rfl | rfl | rfl
  ·exact ⟨_,hz,fun v z=>by cases z⟩
  ·exact ⟨_,hTI,fun v z=>by cases z⟩
  ·exact ⟨_,hTO,fun v z=>by cases z⟩
  ·exact ⟨o1,e1,fun v z=>by rw [d1] at z;cases z⟩
  ·exact ⟨o2,e2,fun v z=>by rw [d2] at z;cases z⟩
 keep:=fun i h h' st kk=>by
  obtain ⟨hz,hTI,⟨a,c,hTO⟩,h1,h2⟩:=st
  exact ⟨kk z (by simp) _ hz,kk TI (by simp) _ hTI,⟨a,c,kk TO (by simp) _ hTO⟩,h1.at fun o e=>kk i1 (by simp) o e,h2.at fun o e=>kk i2 (by simp) o e⟩
 item:=by
  walk_at "pb"
  subst hP hw hK
  obtain ⟨xs,ys,hx,hy,hix,hiy⟩:=hg
  obtain ⟨its1,r1,pl1,z1⟩:=I.list hx
  obtain ⟨its2,r2,pl2,z2⟩:=I.list hy
  have n1:=r1.length
  have n2:=r2.length
  obtain ⟨hz,hTI,hTO,h1,h2⟩:=st
  have Wk:=WalksT.zip2 (prog:=X.prog) (w:=X.w) (A:=X.A) (I.ok.hd hc) z TI TO i1 i2 l1 l2 D its1.toArray its2.toArray
  refine Wk.item i s _ _ (by simp only [List.size_toArray];omega) ⟨hz,hTI,hTO,h1,h2,pl1.isList,pl2.isList⟩ fun T vals h' tk hPt hT hTup hMid hk=>⟨.ref T,rfl,?_⟩
  refine Wk.go elts k tpos i T _ _ _ hMid fun h2' st2 hk2=>?_
  obtain ⟨v1,v2,g1,g2,rfl⟩:=hPt
  have g1':its1[i]?=some v1:=by simpa using g1
  have g2':its2[i]?=some v2:=by simpa using g2
  have gx:xs[i]?=some xs[i]:=List.getElem?_eq_getElem hix
  have gy:ys[i]?=some ys[i]:=List.getElem?_eq_getElem hiy
  obtain ⟨u1,q1,rv1⟩:=r1.get gx
  obtain ⟨u2,q2,rv2⟩:=r2.get gy
  rw [g1'] at q1;cases q1
  rw [g2'] at q2;cases q2
  have hw1:∀ b,b∉[z,TI,TO,i1,i2]→b∉[z,TO,i1,i2]:=fun b hb hc=>hb (by
   simp only [List.mem_cons,List.not_mem_nil,or_false] at hc ⊢
   rcases hc with h | h | h | h <;> simp [h])
  have I1:Inv X pins σ H { s with heap:=h2',toks:=tk }:=Inv.turneds I hf fun b o hb e=>hk2 b o (hw1 b hb) (hk b o (hw1 b hb) e)
  have hTn:H T=none:=I.hok.fresh hT
  have hTup2:IsTup h2' T #[v1,v2]:=by
   obtain ⟨o,e,c,m,d⟩:=hTup
   exact ⟨o,hk2 _ _ (Wk.apart _ _ _ hMid) e,c,m,d⟩
  have lt:∀ {b:Addr} {o:Obj},s.heap.get? b=some o→b≠T:=fun e q=>absurd (Nat.lt_of_lt_of_le (Heap.lt_size e) hT) (by rw [q];exact Nat.lt_irrefl _)
  have I2:Inv X pins σ (upd H T (.tup [xs[i],ys[i]])) { s with heap:=h2',toks:=tk }:=by
   refine I1.track hTn ?_ (fun x c e=>?_) (fun p hp=>?_) ?_ ⟨by show 2≤sizeLine;decide,[v1,v2],.cons rv1 (.cons rv2 .nil),hTup2⟩
   ·obtain ⟨m,⟨o,es,ep,ho,_⟩,_⟩:=I.loc
    exact Ne.symm (lt ho)
   ·obtain ⟨v,o,ho,_⟩:=I.cell x c e
    exact lt ho
   ·exact lt (I.pin p hp).1
   ·cases e:X.s₀.heap.get? T with
    | none=>rfl
    | some o=>exact absurd (Nat.lt_of_lt_of_le (Heap.lt_size e) (Nat.le_trans I.sz hT)) (Nat.lt_irrefl _)
  refine ⟨.ref T,_,I2,rfl,⟨T,_,_,hTn,rfl,rfl,fun xs' ys' hx' hy'=>?_⟩,⟨st2.1,st2.2.1,st2.2.2.1,st2.2.2.2.1,st2.2.2.2.2.1⟩,fun b hb=>?_⟩
  ·rw [I.list_inj hx' hx,I.list_inj hy' hy];exact ⟨gx,gy⟩
  ·have hb':=(hf b hb).1
   have:b≠T:=by
    obtain ⟨o,e,_⟩:∃ o,s.heap.get? b=some o∧True:=by
     obtain ⟨a,c,hTO'⟩:=hTO
     obtain ⟨o1,e1,_⟩:=h1
     obtain ⟨o2,e2,_⟩:=h2
     walk_at "pm"
     rcases hb with rfl | rfl | rfl | rfl | rfl
     ·exact ⟨_,hz,trivial⟩
     ·exact ⟨_,hTI,trivial⟩
     ·exact ⟨_,hTO',trivial⟩
     ·exact ⟨_,e1,trivial⟩
     ·exact ⟨_,e2,trivial⟩
    exact lt e
   rw [Za8 this];exact hb'
 done:=by
  walk_at "pb"
  subst hP hw hK
  obtain ⟨xs,ys,hx,hy,hi⟩:=hg
  obtain ⟨its1,r1,pl1,z1⟩:=I.list hx
  obtain ⟨its2,r2,pl2,z2⟩:=I.list hy
  have n1:=r1.length
  have n2:=r2.length
  obtain ⟨hz,hTI,hTO,h1,h2⟩:=st
  have Wk:=WalksT.zip2 (prog:=X.prog) (w:=X.w) (A:=X.A) (I.ok.hd hc) z TI TO i1 i2 l1 l2 D its1.toArray its2.toArray
  have hi':i=min its1.toArray.size its2.toArray.size:=by simp only [List.size_toArray];omega
  subst hi'
  refine Wk.done s _ _ ⟨hz,hTI,hTO,h1,h2,pl1.isList,pl2.isList⟩ fun h' tk hk=>⟨rfl,Inv.turneds I hf fun b o hb e=>hk b o (fun hc=>hb ?_) e⟩
  simp only [List.mem_cons,List.not_mem_nil,or_false] at hc ⊢
  rcases hc with h | h | h | h <;> simp [h]
 self:=fun A i s Q E st h=>wpAny_pyIter_zip st.1 h
def ZBN (K:PySem.W.Frag) (ta:TA):TI:=fun σ H R=>ta σ H fun vs H1=>∃ a b xs ys,vs=[.ref a,.ref b]∧SqL K H1 a xs∧SqL K H1 b ys∧R (Itz K a b) H1
theorem ZzB {X:Cx} {a b:Expr} {ta:TA} {p pos tpos:Pos} {elts:List Expr} {k:Nat} (hg:Gl X "zip") (hm:X.mg "zip"=none) (ha:PA X [a,b] ta) (hs:starEach [a,b] X.env=[(false,eval a X.env),(false,eval b X.env)]) (hs2:starEach [b] X.env=[(false,eval b X.env)]) :
  PI X (.Tuple elts k tpos) (.Call (.Name "zip" p) [a,b] [] pos) (ZBN X.K ta):=by
 intro pins s σ H R I h
 refine Call_ (ZeW I hg hm boot_zip (PyProof.Rows.callWith_type1 (thn (ha pos pins s σ H _ I h) fun us s1 zz2=>?_) (by rw [hs,hs2]) (by rw [hs2];rfl)))
 obtain ⟨vs,H1,I1,r1,q1⟩:=zz2
 obtain ⟨l1,l2,xs,ys,e,hx,hy,q⟩:=q1
 subst e
 obtain ⟨u,u2,rfl,ru,ru2⟩:=Ztx r1
 cases ru
 cases ru2
 obtain ⟨its1,_,pl1,_⟩:=I1.list hx
 obtain ⟨its2,_,pl2,_⟩:=I1.list hy
 have a1:l1 < s1.heap.objs.size:=by obtain ⟨_,e,_⟩:=pl1.isList;exact Heap.lt_size e
 have a2:l2 < s1.heap.objs.size:=by obtain ⟨_,e,_⟩:=pl2.isList;exact Heap.lt_size e
 refine call_zip_2 pl1.isList pl2.isList fun h' hz hTI hTO hi1 hi2 hsz hk=>wpAny_pyIter_zip hz ?_
 refine ⟨_,_,_,_,H1,rfl,I1.kept (t':=s1.toks) hk,ZsM (zipApart_new a1 a2),⟨hz,hTI,⟨_,_,hTO⟩,hi1,hi2⟩,fun b hb=>?_,q⟩
 have hge:s1.heap.objs.size≤b:=by
  walk_at "pm"
  rcases hb with rfl | rfl | rfl | rfl | rfl
  ·exact Nat.le_add_right _ 4
  ·exact Nat.le_add_right _ 2
  ·exact Nat.le_add_right _ 3
  ·exact Nat.le_refl _
  ·exact Nat.le_add_right _ 1
 exact I1.fpOk hge (I1.hok.fresh hge)
def rdL (G:Hw) (w:W):Option (List W):=match w with
 | .rol xs=>some xs
 | .ref a=>(match G a with | some (.lst xs)=>some xs | _=>none)
 | _=>none
theorem Zga {G:Hw} {w:W} {xs:List W} {v:V} (r:RelH K H G) (t:Tr K H v w) (e:rdL G w=some xs):∃ a vs,v=.ref a∧SqL K H a vs∧TrL K H vs xs:=by
 cases t with
 | rol h l=>cases e;exact ⟨_,_,rfl,h.sq,l⟩
 | ref a =>
  unfold rdL at e;dsimp only at e
  cases z:G a with
  | none=>rw [z] at e;cases e
  | some o =>
   rw [z] at e
   cases o with
   | lst ys=>cases e;obtain ⟨vs,e1,t1⟩:=r a _ z;exact ⟨a,vs,rfl,SqL.of e1,t1⟩
   | exc C=>cases e
   | ins C fs=>cases e
   | dct kvs=>cases e
 | _=>cases e
def ZlF:List W→List W→List W
 | x::xs,y::ys=>.tup [x,y]::ZlF xs ys
 | _,_=>[]
theorem Zg5:∀ (xs ys:List W),(ZlF xs ys).length=min xs.length ys.length
 | [],_=>by simp [ZlF]
 | _::_,[]=>by simp [ZlF]
 | _::xs,_::ys=>by simp only [ZlF,List.length_cons,Zg5 xs ys];omega
theorem ZlJ:∀ (xs ys:List W) (i:Nat) {x y:W},xs[i]?=some x→ys[i]?=some y→(ZlF xs ys)[i]?=some (.tup [x,y])
 | [],_,_,_,_,h,_=>by simp at h
 | _::_,[],_,_,_,_,h=>by simp at h
 | a::xs,b::ys,0,x,y,h,h'=>by simp at h h';subst h;subst h';rfl
 | a::xs,b::ys,i+1,x,y,h,h'=>by
  have:=ZlJ xs ys i (x:=x) (y:=y) (by simpa using h) (by simpa using h')
  simpa [ZlF] using this
def Zhr (gs:GA):GI:=fun ω G R=>gs ω G fun ws G1=>match ws with
 | [x,y]=>(match rdL G1 x,rdL G1 y with
  | some xs,some ys=>R (ZlF xs ys) (fun G=>rdL G x=some xs∧rdL G y=some ys) G1
  | _,_=>False)
 | _=>False
theorem ZqL {gs:GA} {R:List W→(Hw→Prop)→Hw→Prop} {ws:List W} {G1:Hw} (z:match ws with
 | [x,y]=>(match rdL G1 x,rdL G1 y with
  | some xs,some ys=>R (ZlF xs ys) (fun G=>rdL G x=some xs∧rdL G y=some ys) G1
  | _,_=>False)
 | _=>False):∃ x y xs ys,ws=[x,y]∧rdL G1 x=some xs∧rdL G1 y=some ys∧R (ZlF xs ys) (fun G=>rdL G x=some xs∧rdL G y=some ys) G1:=by
 split at z
 ·rename_i x y
  split at z
  ·rename_i xs ys e1 e2;exact ⟨x,y,xs,ys,rfl,e1,e2,z⟩
  ·exact z.elim
 ·exact z.elim
theorem Zy3 {gs:GA} (m:gs.M):GI.M (Zhr gs):=fun ω G R R' h q=>m _ _ _ _ (fun ws G1 z=>by
 obtain ⟨x,y,xs,ys,rfl,e1,e2,z⟩:=ZqL (gs:=gs) z
 dsimp only
 rw [e1,e2]
 exact h _ _ _ z) q
theorem ZuG {X:Cx} {a b:Expr} {p pos tpos:Pos} {elts:List Expr} {k:Nat} {gs:GA} (hm:X.mg "zip"=none) (hg:Gl X "zip") (hs:starEach [a,b] X.env=[(false,eval a X.env),(false,eval b X.env)]) (hs2:starEach [b] X.env=[(false,eval b X.env)]) (ha:Am X [a,b] gs) :
  Im X (.Tuple elts k tpos) (.Call (.Name "zip" p) [a,b] [] pos) (Zhr gs):=by
 refine ⟨⟨_,ZzB hg hm ha.p hs hs2,fun σ H ω G R R0 ts r q kk=>⟨ω,G,ts,r,ha.m _ _ _ _ (fun ws G1 z vs H1 m t r1=>?_) q⟩⟩,Zy3 ha.m⟩
 obtain ⟨x,y,xs,ys,rfl,e1,e2,z⟩:=ZqL (gs:=gs) z
 cases t with
 | cons tx t =>
  cases t with
  | cons ty t =>
   cases t
   obtain ⟨a1,us1,rfl,hq1,l1⟩:=Zga r1 tx e1
   obtain ⟨a2,us2,rfl,hq2,l2⟩:=Zga r1 ty e2
   refine ⟨a1,a2,us1,us2,rfl,hq1,hq2,kk _ _ _ H1 _ z m r1 ⟨e1,e2⟩ ⟨fun i H3 G3 m3 r3 g3 hi=>?_,fun i H3 G3 v H4 m3 r3 g3 y3 hi=>?_,fun H3 G3 m3 r3 g3=>?_⟩⟩
   ·obtain ⟨b1,vs1,e3,h3,t3⟩:=Zga r3 (tx.mono m3) g3.1
    obtain ⟨b2,vs2,e4,h4,t4⟩:=Zga r3 (ty.mono m3) g3.2
    cases e3;cases e4
    rw [Zg5] at hi
    exact ⟨vs1,vs2,h3,h4,by rw [t3.length];omega,by rw [t4.length];omega⟩
   ·obtain ⟨b1,vs1,e3,h3,t3⟩:=Zga r3 (tx.mono m3) g3.1
    obtain ⟨b2,vs2,e4,h4,t4⟩:=Zga r3 (ty.mono m3) g3.2
    cases e3;cases e4
    obtain ⟨T,v1,v2,hT,rfl,rfl,hv⟩:=y3
    obtain ⟨g1,g2⟩:=hv _ _ h3 h4
    obtain ⟨w1,q1,tw1⟩:=t3.get' g1
    obtain ⟨w2,q2,tw2⟩:=t4.get' g2
    have mn:Mono X.K H3 (upd H3 T (.tup [v1,v2])):=Mono.new hT _
    exact ⟨mn,r3.mono0 hT,_,ZlJ _ _ i q1 q2,.tup (SqT.of Zbq) (.cons (tw1.mono mn) (.cons (tw2.mono mn) .nil))⟩
   ·obtain ⟨b1,vs1,e3,h3,t3⟩:=Zga r3 (tx.mono m3) g3.1
    obtain ⟨b2,vs2,e4,h4,t4⟩:=Zga r3 (ty.mono m3) g3.2
    cases e3;cases e4
    exact ⟨vs1,vs2,h3,h4,by rw [Zg5,t3.length,t4.length]⟩
theorem ZfM:bootBuiltins "len"=some (.builtin "len"):=by decide +kernel
theorem Zdg:bootBuiltins "all"=some (.builtin "all"):=by decide +kernel
theorem Ze3:bootBuiltins "any"=some (.builtin "any"):=by decide +kernel
theorem Zbv:bootBuiltins "list"=some (.type "list"):=by decide +kernel
theorem Za0:bootBuiltins "tuple"=some (.type "tuple"):=by decide +kernel
theorem Zci:bootBuiltins "int"=some (.type "int"):=by decide +kernel
theorem ZgH:bootBuiltins "str"=some (.type "str"):=by decide +kernel
theorem Zd8:bootBuiltins "bool"=some (.type "bool"):=by decide +kernel
theorem Zll:bootBuiltins "ValueError"=some (.type "ValueError"):=by decide +kernel
section
variable {X:Cx} {P:Hp→Prop} {a b c e:Expr} {es:List Expr} {pos pos' p:Pos} {ga gb ge:GE} {gt:GT}
theorem ZsC {x:Str} {i:Nat} (hi:X.N[i]?=some x) (hv:Zxf X.env.scope x=true) (hd:(x==("__debug__":Str))=false) (hc:(x==("__classdict__":Str))=false):Em X (.Name x pos) (Zab i):=⟨Zya hi (Zon hv) hd hc,Zxn⟩
theorem Zpp {x:Str} {i:Nat} (hN:X.N.Nodup) (hi:X.N[i]?=some x) (hx:Zkr X.env.scope x=true) (hs:swapsWith e (some (.Name x pos')) pos.line X.env=pure false) (ha:Em X e ga):Sm X P (.Assign [.Name x pos'] e pos) (Za2 i ga) :=
 ⟨ZzI hN hi (.inl (Zf4 hx)) ha.m ha.p hs (.inr (Zf4 hx)),Zu1 ha.m⟩
theorem ZsB {n:Nat} {x:Str} (hN:X.N.Nodup) (hi:X.N[n]?=some x) (hx:Zkr X.env.scope x=true) (ha:Em X e ga):Sm X P (.AugAssign (.Name x pos') .Add e pos) (Zhp n Zcy ga) :=
 ⟨ZxM (OpR.or Zwx Zn1) Zst ZtI hN hi (.inl (Zf4 hx)) (.inr (Zf4 hx)) ha.m ha.p,Zzw Zst ha.m⟩
def Glb (K:PySem.W.Frag) (mg:Str→Option Value) (x:Str) (w:W):Prop:=∃ v u,mg x=some u∧RelV v u∧∀ H,Tr K H v w
theorem ZaE {x:Str} {w:W} (h:Glb X.K X.mg x w) (hg:Gl X x) (hd:(x==("__debug__":Str))=false):Em X (.Name x pos) (gC w) :=
 let ⟨_,_,h1,h2,h3⟩:=h
 ⟨ZrY hg h1 h2 h3 hd,Zw7⟩
structure Fm (X:Cx) (ifs:List Expr) (g:GT):Prop where
 p:PFw X ifs g
 m:g.M
theorem Zbw:Fm X [] ZfN:=⟨Zys,Zx0⟩
theorem Zge (h:Tm X c gt):Fm X [c] gt:=⟨ZyM h.p,h.m⟩
theorem Zdy {elt tg iter:Expr} {ifs:List Expr} {scope:Scope} {Nc:List Str} {gi:GI} {gg:GG} (hc:X.calm=true) (B:Blk X Nc scope [] (fun _=>List.replicate Nc.length none)) (hs:∀ x,foldedSetIterable iter X.env x=pure x) (hi:Im X tg iter gi)
  (hu:TgU X Nc scope tg gg) (ht:∀ C fp s H,Fm (cxB X Nc scope [] C fp s H) ifs gt) (he:∀ C fp s H,Em (cxB X Nc scope [] C fp s H) elt ge):Em X (.ListComp elt [⟨tg,iter,ifs,0⟩] scope pos) (Zbp gi Nc.length gg gt ge) :=
 have mt:gt.M:=(ht 0 [] X.s₀ X.H₀).m
 have me:ge.M:=(he 0 [] X.s₀ X.H₀).m
 ⟨ZwB hc hi.p B hu mt (fun C fp s H=>(ht C fp s H).p) me (fun C fp s H=>(he C fp s H).p) hs,ZvX hi.m hu.mono mt me⟩
theorem Zg4:Zmo X (fun _ _ _=>False):=(by rintro pins σ H s ev s' I ⟨e,C,H',ee,F,C',ω,G,eC,ts,r,q⟩;exact q.elim)
theorem Zeo {k:Nat} {A:Around} (hr:Room k A):A.units+100 < cLine:=by have:=hr.un;omega
theorem ZAP {k j:Nat} {A:Around} {e:Option Value} (hr:Room k A) (h:j≤k):Ztm j (A.mark e):=⟨by have:=hr.dp;show A.depth+3*j+5 < recursionLimit;omega,by have:=hr.un;show A.units+16*j+200 < cLine;omega⟩
end
def ZdL:List (Str×Int)→Str→W
 | [],_=>.non
 | (x,i)::D,z=>if z=x then .int i else ZdL D z
def ZAb (mg:Str→Option Value) (base:Heap) (x:Str) (D:List (Str×Int)):Prop:=∃ d,mg x=some (.ref d)∧KTD.TextTab base d (D.map fun p=>(p.1,KTD.Dat.flat (.int p.2)))
theorem Zkl:∀ {D:List (Str×Int)} {z:Str} {d:KTD.Dat},KTD.datumAt z (D.map fun p=>(p.1,KTD.Dat.flat (.int p.2)))=some d→∃ i,d=.flat (.int i)∧ZdL D z=.int i
 | [],_,_,h=>by cases h
 | (x,i)::D,z,d,h=>by
  have h':(if decide (z=x)=true then some (KTD.Dat.flat (.int i)) else KTD.datumAt z (D.map fun p=>(p.1,KTD.Dat.flat (.int p.2))))=some d:=h
  unfold ZdL
  by_cases hx:z=x
  ·rw [if_pos (decide_eq_true hx)] at h'
   cases h'
   exact ⟨i,rfl,if_pos hx⟩
  ·rw [if_neg (by simpa using hx)] at h'
   rw [if_neg hx]
   exact Zkl h'
theorem Zkw:∀ {D:List (Str×Int)} {z:Str},KTD.datumAt z (D.map fun p=>(p.1,KTD.Dat.flat (.int p.2)))=none→ZdL D z=.non
 | [],_,_=>rfl
 | (x,i)::D,z,h=>by
  have h':(if decide (z=x)=true then some (KTD.Dat.flat (.int i)) else KTD.datumAt z (D.map fun p=>(p.1,KTD.Dat.flat (.int p.2))))=none:=h
  unfold ZdL
  by_cases hx:z=x
  ·rw [if_pos (decide_eq_true hx)] at h';cases h'
  ·rw [if_neg (by simpa using hx)] at h'
   rw [if_neg hx]
   exact Zkw h'
def ZcI (D:List (Str×Int)) (gk:GE):GE:=fun ω G Q=>gk ω G fun w G1=>match w with | .str z=>Q (ZdL D z) G1 | _=>False
theorem Zb4 {X:Cx} {x:Str} {D:List (Str×Int)} {e:Expr} {p0 apos cpos:Pos} {gk:GE} (h:ZAb X.mg X.base x D) (hg:Gl X x) (hd:(x==("__debug__":Str))=false) (hbase:attributeBase (.Name x p0) "get" X.env (eval (.Name x p0) X.env)=eval (.Name x p0) X.env)
  (hfew:((backTo cpos (starEach [e] X.env)).all (fun x=>!x.1)&&(backToKw cpos (keywordEach [] X.env)).all (fun x=>x.1.isSome)&&decide ([e].length+([]:List Keyword).length+(if ([]:List Keyword).isEmpty then 0 else 1) < 30))=true)
  (hline:(apos.endLine==cpos.line)=true) (hs:starEach [e] X.env=(false,eval e X.env)::starEach [] X.env) (hplain:(backTo cpos (starEach [] X.env)).any (·.1)=false) (hk:Em X e gk) :
  Em X (.Call (.Attribute (.Name x p0) "get" apos) [e] [] cpos) (ZcI D gk):=by
 refine ⟨fun pins s σ H Q I ⟨ω,G,ts,r,q⟩=>?_,fun ω G Q Q' hh q=>hk.m _ _ _ _ (fun w G1 z=>by cases w <;> first | exact hh _ _ z | exact z) q⟩
 obtain ⟨d,hm,T⟩:=h
 have here:KTD.Here X.base s.heap d (D.map fun p=>(p.1,KTD.Dat.flat (.int p.2))):=⟨T,I.bk⟩
 refine wpAny_Call_method_late hbase hfew hline rfl (Zh0 I hg hm ⟨"dict","dict.get",PySem.F.plainAttrs_dict,PySem.F.slot_dict_get,PySem.F.type_dict_get,here.typeIs,here.noDict,?_⟩ hd)
 have pa:PA X [e] (Zp5 (up X.K gk) ZzT):=ZhZ hk.p ZoJ hs
 have hA:=pa cpos pins s σ H (fun vs H1=>∃ z,vs=[.str z]∧∀ v,Tr X.K H1 v (ZdL D z)→Q v H1) I ⟨ω,G,ts,r,hk.m _ _ _ _ (fun w G1 z v H1 m t r1=>by
  cases w with
  | str y=>exact ⟨y,by rw [ZuU t],fun v tv=>z v H1 m tv r1⟩
  | _=>exact z.elim) q⟩
 rw [hs] at hA ⊢
 refine Calls.callWith_builtin (by show (false||(backTo cpos (starEach [] X.env)).any (·.1))=false;rw [hplain] <;> rfl) (Calls.evalArgs_plain ?_)
 refine thn hA fun us s2 zz1=>?_
 obtain ⟨vs,H2,I2,r2,z,e1,q2⟩:=zz1
 subst e1
 obtain ⟨u,rfl,ru⟩:=Zlf r2
 obtain ⟨t,rfl⟩:=ru
 have here2:KTD.Here X.base s2.heap d (D.map fun p=>(p.1,KTD.Dat.flat (.int p.2))):=⟨T,I2.bk⟩
 refine call_meetsIn PySem.F.slot_dict_get here2.typeIs PySem.F.entry_dict_get (PySem.F.args_dict_get_2 _ _) (KTD.meets_get1 (h₀:=X.base) (D:=D.map fun p=>(p.1,KTD.Dat.flat (.int p.2)))) ⟨here2,fun dd v ha hv=>?_,fun hn=>?_⟩
 ·obtain ⟨i,rfl,e2⟩:=Zkl ha
  obtain ⟨t2,rfl⟩:=PyProof.V.Flat.int_inv hv
  exact ⟨.int i,H2,I2.tok _,⟨_,rfl⟩,q2 _ (by rw [e2];exact .int i)⟩
 ·exact ⟨.non,H2,I2.tok _,rfl,q2 _ (by rw [Zkw hn];exact .non)⟩
def Fn (K:PySem.W.Frag) (mg:Str→Option Value) (st:Stmt) (x:Str) (ps:List Str):Prop:=∃ f fd,mg x=some (.ref f)∧Fun K x x st f fd∧Binds K fd ps []
section
variable {P:Program} {w:World} {mg:Str→Option Value} {base:Heap}
theorem Df.le {x:Str} {j k n:Nat} {sp:Spw} (D:Df P w K mg base x j n sp) (h:j≤k):Df P w K mg base x k n sp :=
 ⟨let ⟨f,fd,ps,h1,h2,h3,h4,F⟩:=D.ex;⟨f,fd,ps,h1,h2,h3,h4,F.mono h⟩,D.mono⟩
theorem mk0 {x:Str} {st:Stmt} {N ps:List Str} {k n:Nat} {sp:Spw} {g:GS} (Fx:Fn K mg st x ps) (hn:ps.length=n) (S:Zao N ps (Zac st)) (spm:sp.M) (len:∀ ws G Q E,sp ws G Q E→ws.length=n)
  (hg:∀ {f:Addr} {cdv:Value} {A:Around} {outer:List Env} {s:Shared} {H:Hp} {E:XK},Room k (A.deeper (envOfC x (Zac st) s.heap.objs.size f cdv))→Ssm (cxW P w K mg base N x (Zac st) f cdv A outer s H E).nox (fun B=>B=H) (ZaZ st) g)
  (ok:∀ ws G (Q:Kw) (E:Addr→Hw→Prop),Kw.C Q→sp ws G Q E→g (ZaK Q) (ZaU N ws) G):Df P w K mg base x (k+1) n sp:=by
 obtain ⟨f,fd,h1,F,h3⟩:=Fx
 refine ⟨⟨f,fd,ps,h1,F.kp,h3,hn,?_⟩,spm⟩
 walk_at "pk"
 refine Zum lk hcd S ((by rintro vs H Q E ⟨ws,G,t,r,q⟩;rw [t.length,hn];exact len ws G _ _ q)) fun A outer s H vs Q E hr hsp=>?_
 obtain ⟨ws,G,t,r,q⟩:=hsp
 have D:=hg (cdv:=cdv) (outer:=outer) (H:=H) (E:=E) hr
 refine ⟨_,(D.p H rfl).nox,ZaU N ws,G,ZfR t,r,.refl,?_⟩
 walk_at "pe"
theorem mkX {x:Str} {st:Stmt} {N ps:List Str} {k n:Nat} {sp:Spw} {g:(Addr→Hw→Prop)→GS} (Fx:Fn K mg st x ps) (hn:ps.length=n) (S:Zao N ps (Zac st)) (spm:sp.M) (len:∀ ws G Q E,sp ws G Q E→ws.length=n)
  (hg:∀ {f:Addr} {cdv:Value} {A:Around} {outer:List Env} {s:Shared} {H:Hp} {E:XK},Room k (A.deeper (envOfC x (Zac st) s.heap.objs.size f cdv))→Ssm (cxW P w K mg base N x (Zac st) f cdv A outer s H E) (fun B=>B=H) (ZaZ st) (g (dnX K H E)))
  (ok:∀ ws G (Q:Kw) (E:Addr→Hw→Prop),Kw.C Q→Xc E→sp ws G Q E→g E (ZaK Q) (ZaU N ws) G):Df P w K mg base x (k+1) n sp:=by
 obtain ⟨f,fd,h1,F,h3⟩:=Fx
 refine ⟨⟨f,fd,ps,h1,F.kp,h3,hn,?_⟩,spm⟩
 walk_at "pk"
 refine Zum lk hcd S ((by rintro vs H Q E ⟨ws,G,t,r,q⟩;rw [t.length,hn];exact len ws G _ _ q)) fun A outer s H vs Q E hr hsp=>?_
 obtain ⟨ws,G,t,r,q⟩:=hsp
 have D:=hg (cdv:=cdv) (outer:=outer) (H:=H) (E:=E) hr
 refine ⟨_,D.p H rfl,ZaU N ws,G,ZfR t,r,.refl,?_⟩
 exact D.m _ _ (ZaK (dn K H Q)) _ (fun a b z σ H2 m ts r2=>z _ H2 m Tr.non r2) (fun a b z=>z) (fun a b z=>z.elim) (fun a b z=>z.elim) (ok ws G _ _ Zz1 ZAV q)
theorem mkN {x:Str} {st:Stmt} {N ps:List Str} {k n:Nat} {sp:Spw} {g:GS} (Fx:Fn K mg st x ps) (hn:ps.length=n) (S:Zao N ps (Zac st)) (spm:sp.M) (len:∀ ws G Q E,sp ws G Q E→ws.length=n)
  (hg:∀ {f:Addr} {cdv:Value} {A:Around} {outer:List Env} {s:Shared} {H:Hp},Ssm (cxN P w K mg base N x (Zac st) f cdv A outer s H) (fun B=>B=H) (ZaZ st) g)
  (ok:∀ ws G (Q:Kw) (E:Addr→Hw→Prop),Kw.C Q→sp ws G Q E→g (ZaK Q) (ZaU N ws) G):DfN P w K mg base x (k+1) n sp:=by
 obtain ⟨f,fd,h1,F,h3⟩:=Fx
 refine ⟨⟨f,fd,ps,h1,F.kp,h3,hn,?_⟩,spm⟩
 walk_at "pk"
 refine Zyv lk hcd S ((by rintro vs H Q E ⟨ws,G,t,r,q⟩;rw [t.length,hn];exact len ws G _ _ q)) fun A outer s H vs Q E hsp=>?_
 obtain ⟨ws,G,t,r,q⟩:=hsp
 have D:=hg (f:=f) (cdv:=cdv) (A:=A) (outer:=outer) (s:=s) (H:=H)
 refine ⟨_,D.p H rfl,ZaU N ws,G,ZfR t,r,.refl,?_⟩
 walk_at "pe"
end
end L3
namespace L3
open PySem PySem.Spec PyProof.Rows L2
def Zg3 {α:Type} (n:Nat) (js:List Nat) (l:List (Option α)):List (Option α):=List.replicate n none++js.map fun j=>(l[j]?).getD none
theorem Zlk {α:Type} {n:Nat} {js:List Nat} {l:List (Option α)}:(Zg3 n js l).length=n+js.length:=by simp [Zg3]
theorem Zou {α:Type} {n i:Nat} {js:List Nat} {l:List (Option α)} {v:α} (h:(Zg3 n js l)[i]?=some (some v)):∃ m j,i=n+m∧js[m]?=some j∧l[j]?=some (some v):=by
 unfold Zg3 at h
 by_cases hi:i < n
 ·rw [List.getElem?_append_left (by simpa using hi),List.getElem?_replicate] at h
  split at h <;> cases h
 ·rw [List.getElem?_append_right (by simpa using Nat.le_of_not_lt hi),List.length_replicate,List.getElem?_map] at h
  cases hj:js[i - n]? with
  | none=>rw [hj] at h;cases h
  | some j =>
   rw [hj] at h
   refine ⟨i - n,j,by omega,hj,?_⟩
   have h':(l[j]?).getD none=some v:=Option.some.inj h
   cases e:l[j]? with
   | none=>rw [e] at h';cases h'
   | some o=>rw [e] at h';exact congrArg some h'
theorem ZsP {α:Type} {n m j:Nat} {js:List Nat} {l:List (Option α)} {v:α} (h1:js[m]?=some j) (h2:l[j]?=some (some v)):(Zg3 n js l)[n+m]?=some (some v):=by
 unfold Zg3
 rw [List.getElem?_append_right (by simp),List.length_replicate,List.getElem?_map]
 have:n+m - n=m:=by omega
 rw [this,h1]
 show some ((l[j]?).getD none)=_
 rw [h2];rfl
theorem TrSt.cap {K:PySem.W.Frag} {H:Hp} {σ:St} {ω:Sw} (t:TrSt K H σ ω) (n:Nat) (js:List Nat):TrSt K H (Zg3 n js σ) (Zg3 n js ω):=by
 refine ⟨by rw [Zlk,Zlk],fun i w e=>?_⟩
 obtain ⟨m,j,rfl,h1,h2⟩:=Zou e
 obtain ⟨v,h3,r⟩:=t.get j w h2
 exact ⟨v,ZsP h1 h3,r⟩
def ZlB (env:Env):List (Str×NameKind)→List (Str×Addr)→List (Str×Addr)
 | [],cs=>cs
 | (n,k)::r,cs=>ZlB env r (if k=.free then (n,(env.cells.lookup n).getD 0)::cs else cs)
theorem ZoQ {env:Env}:∀ (l:List (Str×NameKind)) (cs:List (Str×Addr)),(∀ y∈l,y.2=.free→∃ c,env.cells.lookup y.1=some c) →
  (forIn l cs fun (x:Str×NameKind) r=>if (x.2==NameKind.free)=true then do let c ← cellOf env x.1;pure (ForInStep.yield ((x.1,c)::r)) else pure (ForInStep.yield r):Sem (List (Str×Addr)))=pure (ZlB env l cs)
 | [],cs,_=>by simp [ZlB]
 | (n,k)::r,cs,h=>by
  have ih:=fun cs=>ZoQ r cs fun y hy=>h y (List.mem_cons_of_mem _ hy)
  rw [List.forIn_cons]
  by_cases hk:k=.free
  ·obtain ⟨c,hc⟩:=h (n,k) List.mem_cons_self hk
   subst hk
   have e:cellOf env n=pure c:=by unfold cellOf;rw [hc]
   simp only [beq_self_eq_true,if_true,e,pure_bind,ZlB,hc,Option.getD_some]
   exact ih _
  ·have:(k==NameKind.free)=false:=by simpa using hk
   simp only [this,Bool.false_eq_true,if_false,pure_bind,ZlB,hk]
   exact ih _
theorem ZmR {env:Env} {y:Str} {c:Addr}:∀ (l:List (Str×NameKind)) (cs:List (Str×Addr)),(ZlB env l cs).lookup y=some c→cs.lookup y=some c∨((y,NameKind.free)∈l∧c=(env.cells.lookup y).getD 0)
 | [],cs,h=>.inl h
 | (n,k)::r,cs,h=>by
  rcases ZmR r _ h with q | ⟨q1,q2⟩
  ·split at q
   ·rename_i hk
    subst hk
    rw [List.lookup_cons] at q
    split at q
    ·rename_i e
     have e':y=n:=beq_iff_eq.mp e
     subst e'
     exact .inr ⟨List.mem_cons_self,(Option.some.inj q).symm⟩
    ·exact .inl q
   ·exact .inl q
  ·exact .inr ⟨List.mem_cons_of_mem _ q1,q2⟩
theorem ZkM {env:Env} {y:Str}:∀ (l:List (Str×NameKind)) (cs:List (Str×Addr)),(∃ c,cs.lookup y=some c)→∃ c,(ZlB env l cs).lookup y=some c
 | [],cs,h=>h
 | (n,k)::r,cs,h=>ZkM r _ (by
  split
  ·rw [List.lookup_cons]
   split
   ·exact ⟨_,rfl⟩
   ·exact h
  ·exact h)
theorem ZmP {env:Env} {y:Str}:∀ (l:List (Str×NameKind)) (cs:List (Str×Addr)),(y,NameKind.free)∈l→∃ c,(ZlB env l cs).lookup y=some c
 | [],cs,h=>by cases h
 | (n,k)::r,cs,h=>by
  rcases List.mem_cons.mp h with h | h
  ·cases h
   refine ZkM r _ ⟨(env.cells.lookup y).getD 0,?_⟩
   rw [if_pos rfl,List.lookup_cons,beq_self_eq_true]
  ·exact ZmP r _ h
theorem Zja {scope:Scope} {env:Env} {y:Str} {k:NameKind} (nocell:∀ z∈scope.names,z.2≠.cell) (h:(relabel scope env).names.lookup y=some k) (hk:k=.cell∨k=.free):(y,NameKind.free)∈scope.names:=by
 have m:=ZgM h
 unfold relabel at m
 obtain ⟨⟨n,k0⟩,hm,e⟩:=List.mem_map.mp m
 dsimp only at e
 split at e
 ·rename_i hc
  cases e
  simp only [Bool.and_eq_true,beq_iff_eq] at hc
  rw [hc.1.1] at hm
  exact hm
 ·cases e
  rcases hk with rfl | rfl
  ·exact absurd rfl (nocell _ hm)
  ·exact hm
theorem ZdF {env:Env} (hf:env.scope.kind=.function):∀ {names:List (Str×NameKind)} {x:Str},names.lookup x=some .free→env.kindOf x=some .cell →
  (names.map fun (n,k)=>if (k==NameKind.free&&env.scope.kind==.function&&env.kindOf n==some .cell) then (n,NameKind.cell) else (n,k)).lookup x=some .cell
 | [],_,h,_=>by cases h
 | (n,k)::r,x,h,hk=>by
  rw [List.lookup_cons] at h
  rw [List.map_cons]
  split at h
  ·rename_i e
   have e':x=n:=beq_iff_eq.mp e
   subst e'
   cases h
   have c:(NameKind.free==NameKind.free&&env.scope.kind==ScopeKind.function&&env.kindOf x==some NameKind.cell)=true:=by rw [hf,hk];rfl
   dsimp only
   rw [if_pos c,List.lookup_cons,beq_self_eq_true]
  ·rename_i e
   have ih:=ZdF hf (names:=r) h hk
   rw [List.lookup_cons]
   have e2:(x==(if (k==NameKind.free&&env.scope.kind==ScopeKind.function&&env.kindOf n==some NameKind.cell)=true then (n,NameKind.cell) else (n,k)).1)=false:=by
    split <;> exact e
   dsimp only at e2 ⊢
   split
   ·rename_i e3;rw [e2] at e3;cases e3
   ·exact ih
theorem Zxa {X:Cx} {own fr:List Str} {js:List Nat} {scope scX:Scope} {n:Nat} (kind:scope.kind=.function) (names:∀ x∈scope.names,x.2=.local→scope.names.lookup x.1=some .local) (nocell:∀ y∈scope.names,y.2≠.cell)
  (hf:∀ y∈scope.names,y.2=.free→y.1∈fr) (hk:∀ y∈fr,scope.names.lookup y=some .free) (hsc:X.env.scope=scX) (hkx:scX.kind=.function) (hce:X.env.cells=cellsFrom n scX.names []) (hx:∀ y∈fr,scX.names.lookup y=some .cell)
  (hj:js.map (fun j=>X.N[j]?)=fr.map some):Blk X (own++fr) scope (ZlB X.env scope.names []) (Zg3 own.length js):=by
 have cel:∀ y∈fr,∃ c,X.env.cells.lookup y=some c:=fun y hy=>by
  rw [hce]
  exact Zld (hx y hy)
 have frl:js.length=fr.length:=by have:=congrArg List.length hj;simpa using this
 refine ⟨?_,kind,names,nocell,fun y c h=>?_,fun y h=>?_,fun σ i y v h1 h2 h3=>?_,fun σ=>by rw [Zlk,List.length_append,frl]⟩
 ·have:=ZoQ (env:=X.env) scope.names [] fun y hy hy2=>cel _ (hf y hy hy2)
  unfold closureFor
  simp only [bind_pure]
  exact this
 ·rcases ZmR _ _ h with q | ⟨q1,q2⟩
  ·cases q
  ·obtain ⟨c',e⟩:=cel y (hf _ q1 rfl)
   rw [e] at q2 ⊢
   exact congrArg some q2.symm
 ·refine ZmP _ _ ?_
  rcases h with h | h
  ·exact Zja nocell h (.inl rfl)
  ·exact Zja nocell h (.inr rfl)
 ·obtain ⟨m,j,rfl,e1,e2⟩:=Zou h2
  rw [List.getElem?_append_right (by omega)] at h1
  have:own.length+m - own.length=m:=by omega
  rw [this] at h1
  have hy:y∈fr:=List.mem_of_getElem? h1
  have q:=congrArg (fun l=>l[m]?) hj
  simp only [List.getElem?_map,e1,h1,Option.map_some] at q
  have l1:X.env.scope.names.lookup y=some .cell:=by rw [hsc];exact hx y hy
  refine ⟨.inl (ZdF (by rw [hsc];exact hkx) (hk y hy) l1),.inr (.inl l1),(by rw [l1];intro z;cases z),j,Option.some.inj q,e2⟩
def Zbk (gi:GI) (n:Nat) (js:List Nat) (gg:GG) (gt:GT) (ge:GE):GE:=fun ω G Q=>gi ω G fun ws gd G1=>ZbD gd gg gt ge (fun ys G2=>∀ p,G2 p=none→Q (.ref p) (put G2 p (.lst ys))) ws (Zg3 n js ω) G1 []
theorem Zlh {gi:GI} {n:Nat} {js:List Nat} {gg:GG} {gt:GT} {ge:GE} (mi:gi.M) (mg:gg.M) (mt:gt.M) (me:ge.M):GE.M (Zbk gi n js gg gt ge):=fun ω G Q Q' h q =>
 mi _ _ _ _ (fun ws gd G1 z=>ZiO mg mt me (fun ys G2 z p hp=>h _ _ (z p hp)) _ _ _ _ z) q
theorem ZoL {X:Cx} {n:Nat} {js:List Nat} {gi:GI} {gg:GG} {gt:GT} {ge:GE} {wi:TI} {g:TG} (hwi:∀ (σ:St) (H:Hp) (ω:Sw) (G:Hw) (R:List W→(Hw→Prop)→Hw→Prop) (R0:It→Hp→Prop),TrSt X.K H σ ω→RelH X.K H G→gi ω G R →
   (∀ ws gd G1 H1 J,R ws gd G1→Mono X.K H H1→RelH X.K H1 G1→gd G1→Zv8 X.K H1 J ws gd→R0 J H1)→wi σ H R0)
  (hgg:∀ (x:V) (w:W) (σ:St) (ω:Sw) (H:Hp) (G:Hw) (Q:St→Hp→Prop),Tr X.K H x w→TrSt X.K H σ ω→RelH X.K H G→gg w ω G (dnS X.K H Q)→g x σ H Q) (mg:gg.M) (mt:gt.M) (me:ge.M) (σ:St) (H:Hp) (Q:VK) (h:up X.K (Zbk gi n js gg gt ge) σ H Q) :
  ZtU wi (Zg3 n js) g (upT X.K gt) (up X.K ge) σ H Q:=by
 obtain ⟨ω,G,ts,r,q⟩:=h
 refine hwi σ H ω G _ _ ts r q fun ws gd G1 H1 J z m1 r1 hgd wk=>?_
 refine ⟨fun i m σ' H' vs=>m=ws.length - i∧i≤ws.length∧Mono X.K H1 H'∧∃ ω' G' ys,TrSt X.K H' σ' ω'∧RelH X.K H' G'∧TrL X.K H' vs ys∧ZbD gd gg gt ge (fun ys G2=>∀ p,G2 p=none→dn X.K H Q (.ref p) (put G2 p (.lst ys))) (ws.drop i) ω' G' ys,
  ⟨ws.length,by simp,Nat.zero_le _,.refl,_,G1,[],(ts.mono m1).cap n js,r1,.nil,by simpa using z⟩,?_⟩
 rintro i m σ' H' vs ⟨rfl,hle,mm,ω',G',ys,ts',r',tv,q'⟩
 have hgd':=Znl q'
 by_cases hlt:i < ws.length
 ·have hw:∃ w,ws[i]?=some w:=⟨ws[i],by simp [hlt]⟩
  obtain ⟨w0,ew0⟩:=hw
  have ed:ws.drop i=w0::ws.drop (i+1):=by
   obtain ⟨h',e'⟩:=List.getElem?_eq_some_iff.mp ew0
   rw [← e'];exact List.drop_eq_getElem_cons h'
  rw [ed] at q'
  refine .inr ⟨wk.go i H' G' mm r' hgd' hlt,by rw [tv.length];exact q'.2.1,fun σ2 H2 vs2=>Mono X.K H1 H2∧∃ ω2 G2 ys2,TrSt X.K H2 σ2 ω2∧RelH X.K H2 G2∧TrL X.K H2 vs2 ys2∧ZbD gd gg gt ge (fun ys G2=>∀ p,G2 p=none→dn X.K H Q (.ref p) (put G2 p (.lst ys))) (ws.drop (i+1)) ω2 G2 ys2,
   (by rintro σ2 H2 vs2 ⟨y1,y2⟩;exact ⟨ws.length - (i+1),by omega,rfl,hlt,y1,y2⟩),fun x H2 y=>?_⟩
  obtain ⟨my,ry,w,ew,tw⟩:=wk.yld i H' G' x H2 mm r' hgd' y hlt
  have mm:=mm.trans my
  have tv:=tv.mono my
  rw [ew0] at ew;cases ew
  refine hgg x _ σ' ω' _ G' _ tw (ts'.mono my) ry (mg _ _ _ _ _ (fun ω1 G1' z1 σ1 H3 m3 ts3 r3=>?_) q'.2.2)
  refine ⟨ω1,G1',ts3,r3,mt _ _ _ _ (fun b G4 z4 H4 m4 r4=>?_) z1⟩
  cases b with
  | true=>exact ⟨ω1,G4,ts3.mono m4,r4,me _ _ _ _ (fun y5 G5 z5 v5 H5 m5 t5 r5=>⟨((mm.trans m3).trans m4).trans m5,ω1,G5,_,(ts3.mono m4).mono m5,r5,(((tv.mono m3).mono m4).mono m5).append (.cons t5 .nil),z5⟩) z4⟩
  | false=>exact ⟨(mm.trans m3).trans m4,ω1,G4,_,ts3.mono m4,r4,(tv.mono m3).mono m4,z4⟩
 ·have e:i=ws.length:=by omega
  subst e
  rw [List.drop_length] at q'
  exact .inl ⟨wk.stop H' G' mm r' hgd',fun p hp=>q'.2 p (r'.no hp) _ _ ((m1.trans mm).trans (Mono.new hp _)) (.ref p) (r'.new hp tv)⟩
structure TgC (X:Cx) (Nc:List Str) (scope:Scope) (cl:List (Str×Addr)) (tg:Expr) (gg:GG):Prop where
 ex:∃ g:TG,(∀ C fp s H,PG (cxB X Nc scope cl C fp s H) tg g)∧∀ (x:V) (w:W) (σ:St) (ω:Sw) (H:Hp) (G:Hw) (Q:St→Hp→Prop),Tr X.K H x w→TrSt X.K H σ ω→RelH X.K H G→gg w ω G (dnS X.K H Q)→g x σ H Q
 mono:gg.M
theorem Zg8 {X:Cx} {Nc:List Str} {scope:Scope} {cl:List (Str×Addr)} {x:Str} {p:Pos} {i:Nat} (hN:Nc.Nodup) (hi:Nc[i]?=some x) (hx:scope.names.lookup x=some .local):TgC X Nc scope cl (.Name x p) (gNm i) where
 ex:=⟨ZiA i,fun C fp s H=>Zd7 (X:=cxB X Nc scope cl C fp s H) hN hi (.inl (lookup_relabel_local hx)) (.inr (lookup_relabel_local hx)),fun x w σ ω H G Q t ts r q=>q _ H .refl (ts.set i t) r⟩
 mono:=fun _ _ _ _ _ h q=>h _ _ q
theorem ZwN {X:Cx} {Nc:List Str} {scope:Scope} {cl:List (Str×Addr)} {x y:Str} {p p' pos:Pos} {k i j:Nat} (hc:X.calm=true) (hN:Nc.Nodup) (hi:Nc[i]?=some x) (hx:scope.names.lookup x=some .local) (hj:Nc[j]?=some y) (hy:scope.names.lookup y=some .local) :
  TgC X Nc scope cl (.Tuple [.Name x p,.Name y p'] k pos) (Zk8 i j) where
 ex:=⟨L2.ZaI X.K 2 (L2.Zaa (ZiA i) (L2.Zaa (ZiA j) L2.Zag)),fun C fp s H=>Zq3 (X:=cxB X Nc scope cl C fp s H) hc (ZeQ (Zd7 hN hi (.inl (lookup_relabel_local hx)) (.inr (lookup_relabel_local hx))) (ZeQ (Zd7 hN hj (.inl (lookup_relabel_local hy)) (.inr (lookup_relabel_local hy))) ZnV)),
  fun v w σ ω H G Q t ts r q=>by
   unfold Zk8 at q
   split at q
   ·rename_i a b
    cases t with
    | tup h l =>
     cases l with
     | cons ta l =>
      cases l with
      | cons tb l =>
       cases l
       exact ⟨_,_,rfl,h,rfl,_,_,rfl,_,_,rfl,rfl,q _ H .refl ((ts.set i ta).set j tb) r⟩
   ·exact q.elim⟩
 mono:=Zvd
def ZtR (i j k:Nat):GG:=fun w ω G Q=>match w with
 | .tup [a,b,c]=>Q (((ω.set i (some a)).set j (some b)).set k (some c)) G
 | _=>False
theorem Zy4 {i j k:Nat}:GG.M (ZtR i j k):=fun w ω G Q Q' h q=>by
 unfold ZtR at q ⊢
 split
 ·exact h _ _ q
 ·rename_i z
  split at q
  ·exact (z _ _ _ rfl).elim
  ·exact q
theorem Zzs {K:PySem.W.Frag} {i j k:Nat} (v:V) (w:W) (σ:St) (ω:Sw) (H:Hp) (G:Hw) (Q:St→Hp→Prop) (t:Tr K H v w) (ts:TrSt K H σ ω) (r:RelH K H G) (q:ZtR i j k w ω G (dnS K H Q)) :
  L2.ZaI K 3 (L2.Zaa (ZiA i) (L2.Zaa (ZiA j) (L2.Zaa (ZiA k) L2.Zag))) v σ H Q:=by
 unfold ZtR at q
 split at q
 ·cases t with
  | tup h l =>
   cases l with
   | cons ta l =>
    cases l with
    | cons tb l =>
     cases l with
     | cons tc l =>
      cases l
      exact ⟨_,_,rfl,h,rfl,_,_,rfl,_,_,rfl,_,_,rfl,rfl,q _ H .refl (((ts.set i ta).set j tb).set k tc) r⟩
 ·exact q.elim
section
variable {X:Cx} {P:Hp→Prop} {e:Expr} {pos pos':Pos} {ga ge:GE} {gt:GT}
theorem Zpf {elt tg iter:Expr} {ifs:List Expr} {scope:Scope} {Nc:List Str} {n:Nat} {js:List Nat} {cl:List (Str×Addr)} {gi:GI} {gg:GG} (hc:X.calm=true) (B:Blk X Nc scope cl (Zg3 n js)) (hs:∀ x,foldedSetIterable iter X.env x=pure x) (hi:Im X tg iter gi)
  (hu:TgC X Nc scope cl tg gg) (ht:∀ C fp s H,Fm (cxB X Nc scope cl C fp s H) ifs gt) (he:∀ C fp s H,Em (cxB X Nc scope cl C fp s H) elt ge):Em X (.ListComp elt [⟨tg,iter,ifs,0⟩] scope pos) (Zbk gi n js gg gt ge):=by
 have mt:gt.M:=(ht 0 [] X.s₀ X.H₀).m
 have me:ge.M:=(he 0 [] X.s₀ X.H₀).m
 refine ⟨?_,Zlh hi.m hu.mono mt me⟩
 obtain ⟨wi,hwi,hi⟩:=hi.p
 obtain ⟨g,hpg,hgg⟩:=hu.ex
 exact Zbn (Zqx hc hwi B hpg (fun C fp s H=>(ht C fp s H).p) (fun C fp s H=>(he C fp s H).p) hs) (ZoL hi hgg hu.mono mt me)
end
theorem ZcV {X:Cx} {x y z:Str} {p p' p2 pos:Pos} {n i j k:Nat} (hc:X.calm=true) (hN:X.N.Nodup) (hi:X.N[i]?=some x) (hx:Loc X.env.scope x) (hf:X.fn x=true∨X.env.scope.names.lookup x=some .local)
  (hj:X.N[j]?=some y) (hy:Loc X.env.scope y) (hfy:X.fn y=true∨X.env.scope.names.lookup y=some .local) (hk:X.N[k]?=some z) (hz:Loc X.env.scope z) (hfz:X.fn z=true∨X.env.scope.names.lookup z=some .local) :
  TgW X (.Tuple [.Name x p,.Name y p',.Name z p2] n pos) (ZtR i j k) where
 ex:=⟨_,Zq3 hc (ZeQ (Zd7 hN hi hx hf) (ZeQ (Zd7 hN hj hy hfy) (ZeQ (Zd7 hN hk hz hfz) ZnV))),Zzs⟩
 mono:=Zy4
section
variable {prog:Program} {w:World} {A:Around} {E:Value→Shared→Prop} {s:Shared}
theorem Zuc {t b:Addr} {ws:List Value} {Q:Value→Shared→Prop} (ht:IsTup s.heap t #[]) (hb:IsTup s.heap b ws.toArray) (h1:Q (.ref b) s):wpAny (model prog w) A (binaryOp .Add (.ref t) (.ref b)) Q E s:=by
 obtain ⟨⟨cls,dd,data,sl⟩,ho,hc,n,hd⟩:=id ht
 obtain ⟨⟨cls2,dd2,data2,sl2⟩,ho2,hc2,n2,hd2⟩:=id hb
 simp only at hc hd hc2 hd2
 subst hc hd hc2 hd2
 exact concat_meets ⟨_,ho,rfl⟩ ⟨_,ho2,rfl⟩ noFill_tuple_add seq_tuple_add PySem.F.slot_tuple_add PySem.F.entry_tuple_add (PySem.F.args_tuple_add_2 _ _) (tuple_addW0 t b #[] ws.toArray n n2 dd dd2 sl sl2 rfl) ⟨ho,ho2,h1⟩
end
def ZqS (K:PySem.W.Frag):R2:=fun x y H Q=>∃ a b ys,x=.ref a∧y=.ref b∧SqT K H a []∧SqT K H b ys∧Q (.ref b) H
theorem Zte {X:Cx}:OpR X (binaryOp .Add) (ZqS X.K):=by
 walk_at "pd"
 obtain ⟨a,b,ys,rfl,rfl,ha,hb,q⟩:=h
 cases rx
 cases ry
 obtain ⟨its,r1,p1,_⟩:=I.tuple ha
 obtain ⟨its2,r2,p2,_⟩:=I.tuple hb
 cases r1
 exact Zuc p1 p2 ⟨.ref b,H,I,rfl,q⟩
def Zb3:RW2:=fun x y G Q=>match x,y with
 | .tup xs,.tup ys=>xs.length+ys.length≤sizeLine∧Q (.tup (xs++ys)) G
 | x,y=>ZdJ x y G Q
theorem Zbt {xs ys:List W} {G:Hw} {Q:Kw}:Zb3 (.tup xs) (.tup ys) G Q=(xs.length+ys.length≤sizeLine∧Q (.tup (xs++ys)) G):=rfl
theorem Zk7 {x y:W} {G:Hw} {Q:Kw} (hb:¬((∃ xs,x=.tup xs)∧∃ ys,y=.tup ys)):Zb3 x y G Q=ZdJ x y G Q:=by
 cases x <;> cases y <;> first | rfl | exact absurd ⟨⟨_,rfl⟩,⟨_,rfl⟩⟩ hb
theorem Zrw:RW2.M Zb3:=fun x y G Q Q' h q=>by
 by_cases hb:(∃ xs,x=.tup xs)∧∃ ys,y=.tup ys
 ·obtain ⟨⟨xs,rfl⟩,⟨ys,rfl⟩⟩:=hb
  exact ⟨q.1,h _ _ q.2⟩
 ·rw [Zk7 hb] at q ⊢
  exact ZrJ _ _ _ _ _ h q
theorem Zws {X:Cx}:OpR X (binaryOp .Add) (fun x y H Q=>((rI0 fun i j=>.int (i+j)) x y H Q∨(∃ i j,x=.str i∧y=.str j∧i.length+j.length≤sizeLine∧Q (.str (i++j)) H)∨Zxp x y H Q)∨ZqS X.K x y H Q∨Zwn X.K x y H Q):=OpR.or Zqr (OpR.or Zte Zwi)
theorem Ztv {K:PySem.W.Frag} (x y:W) (v u:V) (G:Hw) (H:Hp) (Q:VK) (tx:Tr K H v x) (ty:Tr K H u y) (r:RelH K H G) (q:Zb3 x y G (dn K H Q)) :
  ((rI0 fun i j=>.int (i+j)) v u H Q∨(∃ i j,v=.str i∧u=.str j∧i.length+j.length≤sizeLine∧Q (.str (i++j)) H)∨Zxp v u H Q)∨ZqS K v u H Q∨Zwn K v u H Q:=by
 by_cases hb:(∃ xs,x=.tup xs)∧∃ ys,y=.tup ys
 ·obtain ⟨⟨xs,rfl⟩,⟨ys,rfl⟩⟩:=hb
  rw [Zbt] at q
  cases tx with
  | tup sa la =>
   cases ty with
   | tup sb lb =>
    rename_i a vs b us
    cases la with
    | nil=>exact .inr (.inl ⟨a,b,us,rfl,rfl,sa,sb,by simpa using q.2 _ H .refl (.tup sb lb) r⟩)
    | cons t1 la =>
     refine .inr (.inr ⟨a,b,_,us,rfl,rfl,sa,sb,by simp,?_,fun e=>?_,fun e p hp=>?_⟩)
     ·rw [(TrL.cons t1 la).length,lb.length];exact q.1
     ·subst e
      cases lb
      have:=q.2 (.ref a) H .refl (by simpa using Tr.tup sa (.cons t1 la)) r
      exact this
     ·exact q.2 _ _ (Mono.new hp _) (.tup (SqT.of Zbq) (((TrL.cons t1 la).append lb).mono (Mono.new hp _))) (r.mono0 hp)
 ·refine .inl (ZrV x y v u G H Q tx ty r ?_)
  rwa [Zk7 hb] at q
theorem ZcK {X:Cx} {a b:Expr} {ga gb:GE} {pos:Pos} (ha:Em X a ga) (hb:Em X b gb):Em X (.BinOp a .Add b pos) (Zah Zb3 ga gb):=⟨Zif Zws Zrw ha.m hb.m Ztv ha.p hb.p,Ze6 Zrw ha.m hb.m⟩
end L3
namespace L3
open PySem PySem.Spec PyProof.Rows L2
variable {K:PySem.W.Frag} {H H' H2:Hp}
theorem TrP.lookup {α:Type} [BEq α]:∀ {vs:List (α×V)} {ws:List (α×W)} {f:α} {w:W},TrP K H vs ws→ws.lookup f=some w→∃ v,vs.lookup f=some v∧Tr K H v w
 | _,_,_,_,.nil,e=>by cases e
 | _,_,f,w,.cons (f:=g) r t,e=>by
  rw [List.lookup_cons] at e ⊢
  cases hb:f==g with
  | true=>rw [hb] at e;cases e;exact ⟨_,rfl,r⟩
  | false=>rw [hb] at e;exact t.lookup e
theorem TrP.length {α:Type}:∀ {vs:List (α×V)} {ws:List (α×W)},TrP K H vs ws→vs.length=ws.length
 | _,_,.nil=>rfl
 | _,_,.cons _ t=>congrArg (·+1) t.length
section
variable {X:Cx} {P:Hp→Prop} {o e value:Expr} {es:List Expr} {f m:Str} {C:Addr} {pos pos' tpos apos p:Pos} {ga gv:GE} {gs:GA} {ex:Xw}
theorem Mono.ins {p C dx:Addr} {xs:List (Str×V)} (hp:H p=some (.ins C dx xs)) (o:HO):Mono K H (upd H p o):=Mono.was hp _ (fun _ z=>by cases z) (fun _ _ z=>by cases z)
structure DfM (P:Program) (w:World) (K:PySem.W.Frag) (mg:Str→Option Value) (base:Heap) (C:Addr) (m:Str) (k n:Nat) (sp:Spw):Prop where
 ex:∃ (f:Addr) (fd:FuncData) (ps:List Str),ZBI K C m f∧Binds K fd ps []∧ps.length=n∧FnOk P w K mg base (CXe P w) k f fd ps (Zu6 K sp)
 mono:sp.M
end
section
variable {X:Cx} {P:Hp→Prop} {o e value:Expr} {es:List Expr} {f m:Str} {C:Addr} {pos pos' tpos apos p:Pos} {ga gv:GE} {gs:GA} {ex:Xw}
end
section
variable {P:Program} {w:World} {mg:Str→Option Value} {base:Heap} {C:Addr}
theorem DfM.le {m:Str} {j k n:Nat} {sp:Spw} (D:DfM P w K mg base C m j n sp) (h:j≤k):DfM P w K mg base C m k n sp :=
 ⟨let ⟨f,fd,ps,h1,h2,h3,F⟩:=D.ex;⟨f,fd,ps,h1,h2,h3,F.mono h⟩,D.mono⟩
end
def isStr (o:W) (_:Hw):Prop:=∃ x,o=.str x
theorem Zta {o:W} {v:V} {G:Hw} (t:Tr K H v o) (h:isStr o G):tyV K "str" v H:=by
 obtain ⟨x,rfl⟩:=h
 cases t
 rfl
def ZAE (o:W) (ws:List W) (G:Hw) (Q:Kw):Prop:=match o,ws with
 | .str x,[.str y]=>Q (.bl (Txt.startswith x y)) G
 | .str x,[.str y,.int i]=>Q (.bl (Txt.startswith3 x y i)) G
 | _,_=>False
def Zi3:List W→Option (List Str)
 | []=>some []
 | .str x::ws=>(Zi3 ws).map (x::·)
 | _::_=>none
theorem Zl7 {s:Shared}:∀ {vs:List V} {ws:List W} {ys:List Str} {us:List Value},TrL K H vs ws→Zi3 ws=some ys→Vals vs us→StrsAre us ys
 | _,_,_,_,.nil,e,.nil=>by cases e;exact .nil
 | _,_,_,_,.cons (w:=w) r t,e,.cons rv rvs=>by
  cases w with
  | str x =>
   unfold Zi3 at e
   obtain ⟨zs,e1,rfl⟩:=Option.map_eq_some_iff.mp e
   cases r
   obtain ⟨tk,rfl⟩:=rv
   exact .cons x tk (Zl7 (s:=s) t e1 rvs)
  | _=>cases e
theorem Zj7 (f:α→Str):∀ l:List α,Zi3 (l.map fun a=>.str (f a))=some (l.map f)
 | []=>rfl
 | a::l=>by
  show (Zi3 (l.map fun a=>.str (f a))).map (f a::·)=_
  rw [Zj7 f l];rfl
def ZtE (o:W) (ws:List W) (G:Hw) (Q:Kw):Prop:=∃ x w xs ys,o=.str x∧ws=[w]∧rdL G w=some xs∧Zi3 xs=some ys∧(ys.map (·.length)).sum+ys.length*x.length≤16777216∧Q (.str (Txt.join x ys)) G
def Zxz (K:PySem.W.Frag):V→List V→Hp→VK→Prop:=fun v vs H Q=>∃ x a us ws ys,v=.str x∧vs=[.ref a]∧SqL K H a us∧TrL K H us ws∧Zi3 ws=some ys∧(ys.map (·.length)).sum+ys.length*x.length≤16777216∧Q (.str (Txt.join x ys)) H
theorem Zwz {X:Cx}:MtR X "str.join" (Zxz X.K):=by
 intro pins s σ H x vs v us Q I rx rv h
 obtain ⟨x,a,us',ws,ys,rfl,rfl,sq,t,e,hw,q⟩:=h
 obtain ⟨tk,rfl⟩:=rx
 obtain ⟨u,rfl,ru⟩:=rv.one
 cases ru
 obtain ⟨its,r,pl,_⟩:=I.list sq
 refine join_list pl.isList ?_ hw fun t' k=>⟨.str _,H,I.tok k,⟨t',rfl⟩,q⟩
 have:=Zl7 (s:=s) t e r
 simpa using this
theorem ZcW {X:Cx}:Mth X "str" "join" "str.join" isStr ZtE where
 pa:=PySem.F.plainAttrs_str
 slot:=PySem.F.slot_str_join
 ty:=PySem.F.type_str_join
 ex:=⟨_,Zwz,fun o ws v vs G H Q tv tvs r q=>by
  obtain ⟨x,w,xs,ys,rfl,rfl,e1,e2,hw,q⟩:=q
  cases tv
  cases tvs with
  | cons t1 tvs =>
   cases tvs
   obtain ⟨a,us,rfl,sq,tl⟩:=Zga r t1 e1
   exact ⟨x,a,us,xs,ys,rfl,rfl,sq,tl,e2,hw,q _ H .refl (.str _) r⟩⟩
 pr:=fun o v G H t r h=>Zta t h
 m:=(by rintro o ws G Q Q' h ⟨x,w,xs,ys,h1,h2,h3,h4,h5,q⟩;exact ⟨x,w,xs,ys,h1,h2,h3,h4,h5,h _ _ q⟩)
end L3
namespace HT
open PySem PySem.Spec PyProof.Rows
section
variable {prog:Program} {w:World} {A:Around} {E:Value→Shared→Prop} {s:Shared}
theorem getItem_tuple_whole {t sl:Addr} {items:Array Value} {vl vu:Value} {lo hi:Option Int} {Q:Value→Shared→Prop} (ht:IsTup s.heap t items) (hs:s.heap.IsSliceOf sl vl vu .none) (pl:IsPart vl lo) (pu:IsPart vu hi)
  (hw:sIx items.size 0 lo=0∧sIx items.size items.size hi=items.size) (h:Q (.ref t) s):wpAny (model prog w) A (getItem (.ref t) (.ref sl)) Q E s:=by
 obtain ⟨os,hos,hcs,hds⟩:=id hs
 have hTs:s.TypeIs (.ref sl) "slice":=⟨os,hos,hcs⟩
 unfold getItem
 try with_reducible refine wpAny_holding ?_
 first | refine wpAny_bind (wpAny_pure ?_) | skip
 refine wpAny_bind (wpAny_sequenceKey ht.typeIs (by decide) ?_)
 refine wpAny_bind (wpAny_callSpecial?_slot (name:=Str.ofString "__getitem__") ht.typeIs PyProof.Rows.slot_tuple_getitem
  (wpAny_call_entry PyProof.Rows.slot_tuple_getitem ht.typeIs entry_tuple_getitem ?_ (args_tuple_getitem _ _)))
 show wpAny _ _ (Builtin.Tuple.tupleItemsOf (.ref t) >>= _) _ _ s
 refine wpAny_bind (tupleItemsOf_ ht ?_)
 refine wpAny_bind (wpAny_typeOf hTs ?_)
 rw [if_pos (by decide)]
 refine wpAny_bind (ZeZ hs pl pu ?_)
 have hyes:(((sIx items.size 0 lo:Nat):Int)==0&&(1:Int)==1&&(sIx items.size items.size hi - sIx items.size 0 lo)==items.size)=true:=by
  rw [hw.1,hw.2]
  simp
 show wpAny _ _ (if (((sIx items.size 0 lo:Nat):Int)==0&&(1:Int)==1&&(sIx items.size items.size hi - sIx items.size 0 lo)==items.size)=true then _ else _) _ _ s
 rw [if_pos hyes]
 have hT:=ht.typeIs
 unfold Builtin.Tuple.tupleIsExact
 repeat (any_goals (first | assumption | wp_step))
 exact ⟨_,rfl,wpAny_pure h⟩
end
end HT
namespace L3
open PySem PySem.Spec PyProof.Rows L2
variable {K:PySem.W.Frag} {H H' H2:Hp}
def ZBv (K:PySem.W.Frag):V→Option Int→Option Int→Hp→VK→Prop:=fun x lo hi H Q=>∃ a xs,x=.ref a∧SqT K H a xs∧(HT.sIx xs.length 0 lo=0∧HT.sIx xs.length xs.length hi=xs.length)∧Q (.ref a) H
theorem ZvQ {X:Cx}:SlR X (ZBv X.K):=by
 intro pins s σ H x v vl vu lo hi sl Q I rx hs pl pu h
 obtain ⟨a,xs,rfl,hx,hw,q⟩:=h
 cases rx
 obtain ⟨its,r,ht,hz⟩:=I.tuple hx
 have hlen:its.toArray.size=xs.length:=by rw [List.size_toArray];exact r.length.symm
 refine ⟨"tuple",_,PyProof.Rows.slot_tuple_getitem.lookup,ht.typeIs,?_⟩
 exact HT.getItem_tuple_whole ht hs pl pu (by rw [hlen];exact hw) ⟨.ref a,H,I,rfl,q⟩
def ZBg:V→Option Int→Option Int→Hp→VK→Prop:=fun x lo hi H Q=>∃ z,x=.str z∧z.length≤sizeLine∧Q (.str (Txt.slice z lo hi)) H
theorem ZxC {X:Cx}:SlR X ZBg:=by
 intro pins s σ H x v vl vu lo hi sl Q I rx hs pl pu h
 obtain ⟨z,rfl,hz,q⟩:=h
 obtain ⟨t,rfl⟩:=rx
 obtain ⟨os,hos,hcs,hds⟩:=id hs
 refine ⟨"str",_,F.slot_str_getitem.lookup,typeIs_str _ _ _,?_⟩
 have fin:∀ t' k,EP X pins σ Q (.str (Txt.slice z lo hi) t') { s with toks:=k }:=fun t' k=>⟨.str _,H,I.tok k,⟨t',rfl⟩,q⟩
 cases pl with
 | none =>
  cases pu with
  | none=>exact wpAny_getItem_str_slice (l:=none) (u:=none) (st:=none) ⟨os,hos,hcs,hds⟩ rfl (post_val_or_str ⟨Nat.le_trans (Txt.slice_le z _ _) hz,fin⟩)
  | int j u=>exact wpAny_getItem_str_slice (l:=none) (u:=some (j,u)) (st:=none) ⟨os,hos,hcs,hds⟩ rfl (post_val_or_str ⟨Nat.le_trans (Txt.slice_le z _ _) hz,fin⟩)
 | int i u =>
  cases pu with
  | none=>exact wpAny_getItem_str_slice (l:=some (i,u)) (u:=none) (st:=none) ⟨os,hos,hcs,hds⟩ rfl (post_val_or_str ⟨Nat.le_trans (Txt.slice_le z _ _) hz,fin⟩)
  | int j u2=>exact wpAny_getItem_str_slice (l:=some (i,u)) (u:=some (j,u2)) (st:=none) ⟨os,hos,hcs,hds⟩ rfl (post_val_or_str ⟨Nat.le_trans (Txt.slice_le z _ _) hz,fin⟩)
def slA (w:W) (lo hi:Option Int) (G:Hw) (Q:Kw):Prop:=match w with
 | .tup xs=>Q (.tup (ZnG xs lo hi)) G
 | .str z=>z.length≤sizeLine∧Q (.str (Txt.slice z lo hi)) G
 | w=>slW w lo hi G Q
theorem ZzE {w:W} {lo hi:Option Int} {G:Hw} {Q Q':Kw} (h:∀ w G',Q w G'→Q' w G') (q:slA w lo hi G Q):slA w lo hi G Q':=by
 cases w with
 | tup xs=>exact h _ _ q
 | str z=>exact ⟨q.1,h _ _ q.2⟩
 | non=>exact False.elim q
 | bl b=>exact False.elim q
 | int i=>exact False.elim q
 | rol xs=>exact Zt7 (w:=.rol xs) (lo:=lo) (hi:=hi) (G:=G) h q
 | ref a=>exact Zt7 (w:=.ref a) (lo:=lo) (hi:=hi) (G:=G) h q
theorem Zxi {w:W} {v:V} {lo hi:Option Int} {G:Hw} {Q:VK} (t:Tr K H v w) (r:RelH K H G) (q:slA w lo hi G (dn K H Q)):((ZAj K v lo hi H Q∨ZAf K v lo hi H Q)∨ZBv K v lo hi H Q)∨ZBg v lo hi H Q:=by
 cases t with
 | tup h l =>
  rename_i a vs ws
  by_cases hw:HT.sIx ws.length 0 lo=0∧HT.sIx ws.length ws.length hi=ws.length
  ·refine .inl (.inr ⟨a,vs,rfl,h,by rw [l.length];exact hw,?_⟩)
   refine q _ H .refl ?_ r
   have e:ZnG ws lo hi=ws:=by unfold ZnG;rw [hw.1,hw.2];simp
   rw [e]
   exact .tup h l
  ·exact .inl (.inl (Zoe (.tup h l) r ⟨hw,q⟩))
 | str z=>exact .inr ⟨z,rfl,q.1,q.2 _ H .refl (.str _) r⟩
 | non=>exact False.elim q
 | bl b=>exact False.elim q
 | int i=>exact False.elim q
 | rol h l=>exact .inl (.inl (Zoe (.rol h l) r q))
 | ref a=>exact .inl (.inl (Zoe (.ref a) r q))
section
variable {X:Cx} {a b e:Expr} {ga gb:GE} {pos:Pos}
def Zgr (ga:GE) (gl gh:GO):GE:=fun ω G Q=>ga ω G fun w G1=>gl ω G1 fun lo G2=>gh ω G2 fun hi G3=>slA w lo hi G3 Q
theorem ZgG {lo hi:Option Expr} {gl gh:GO} {p2:Pos} (ha:Em X e ga) (hl:Om X lo gl) (hh:Om X hi gh):Em X (.Subscript e (.Slice lo hi none p2) pos) (Zgr ga gl gh) :=
 ⟨Zbn (Zoc (SlR.or (SlR.or (SlR.or ZuJ Zsj) ZvQ) ZxC) ha.p hl.p hh.p) fun σ H Q ⟨ω,G,ts,r,q⟩=>⟨ω,G,ts,r,ha.m _ _ _ _ (fun w G1 z v H1 m1 t r1=>⟨ω,G1,ts.mono m1,r1,hl.m _ _ _ _ (fun l G2 z2 H2 m2 r2 =>
   ⟨ω,G2,(ts.mono m1).mono m2,r2,hh.m _ _ _ _ (fun h G3 z3 H3 m3 r3=>Zxi ((t.mono m2).mono m3) r3 (ZzE (fun w G' z=>Zcz ((m1.trans m2).trans m3) z) z3)) z2⟩) z⟩) q⟩,
  fun ω G Q Q' h q=>ha.m _ _ _ _ (fun w G1 z=>hl.m _ _ _ _ (fun l G2 z2=>hh.m _ _ _ _ (fun u G3 z3=>ZzE h z3) z2) z) q⟩
end
theorem StrsAre.len:∀ {vs:List Value} {ys:List Str},StrsAre vs ys→vs.length=ys.length
 | _,_,.nil=>rfl
 | _,_,.cons _ _ r=>congrArg (·+1) (StrsAre.len r)
section
variable {prog:Program} {w:World} {A:Around} {E:Value→Shared→Prop} {s:Shared}
end
theorem ZiH {X:Cx} {P:Hp→Prop} {elt tg iter:Expr} {ifs:List Expr} {scope:Scope} {pos pos' spos:Pos} {i:Nat} {x:Str} {Nc:List Str} {n:Nat} {js:List Nat} {cl:List (Str×Addr)} {gi:GI} {gg:GG} {gt:GT} {ge:GE} (hN:X.N.Nodup) (hix:X.N[i]?=some x) (hx:Zkr X.env.scope x=true)
  (hsw:swapsWith (.ListComp elt [⟨tg,iter,ifs,0⟩] scope pos) (some (.Name x pos')) spos.line X.env=pure true) (hc:X.calm=true) (B:Blk X Nc scope cl (Zg3 n js)) (hs:∀ x,foldedSetIterable iter X.env x=pure x) (hi:Im X tg iter gi)
  (hu:TgC X Nc scope cl tg gg) (ht:∀ C fp s H,Fm (cxB X Nc scope cl C fp s H) ifs gt) (he:∀ C fp s H,Em (cxB X Nc scope cl C fp s H) elt ge) :
  Sm X P (.Assign [.Name x pos'] (.ListComp elt [⟨tg,iter,ifs,0⟩] scope pos) spos) (Za2 i (Zbk gi n js gg gt ge)):=by
 have mt:gt.M:=(ht 0 [] X.s₀ X.H₀).m
 have me:ge.M:=(he 0 [] X.s₀ X.H₀).m
 refine ⟨fun B0 hB=>?_,Zu1 (Zlh hi.m hu.mono mt me)⟩
 obtain ⟨wi,hwi,hi'⟩:=hi.p
 obtain ⟨g,hpg,hgg⟩:=hu.ex
 refine Zgg (Zpq (tt:=upT X.K gt) (te:=up X.K ge) hN hix (Zf4 hx) hsw hc hwi B hpg (fun C fp s H=>(ht C fp s H).p) (fun C fp s H=>(he C fp s H).p) hs) fun D σ H zz2=>?_
 obtain ⟨ω,G,ts,r,mb,q⟩:=zz2
 refine ZoL hi' hgg hu.mono mt me σ H _ ⟨ω,G,ts,r,Zlh hi.m hu.mono mt me _ _ _ _ (fun w G1 z v H1 m t r1=>?_) q⟩
 exact z _ H1 (mb.trans m) ((ts.mono m).set i t) r1
section
variable {X:Cx} {CX:CXT} {k:Nat} {f:Addr} {fd:FuncData} {ps:List Str} {sp:Sp} {Eσ:St→XK} {x:Str} {p pos:Pos} {e:Expr} {es:List Expr} {t:TA}
theorem Zxw {E:Value→Shared→Prop} {pins:List (Addr×Obj)} {s:Shared} {σ:St} {H:Hp} {i:Nat} {x:Str} {v:V} {pos:Pos} {Q:Value→Shared→Prop} (I:Inv X pins σ H s) (hN:X.N[i]?=some x) (hv:Vis X.env.scope x) (e:σ[i]?=some (some v)) (hd:(x==("__debug__":Str))=false) (hcd:(x==("__classdict__":Str))=false)
  (fin:∀ u,RelV v u→Q u s):wpAny (model X.prog X.w) X.A (eval (.Name x pos) X.env) Q E s:=by
 obtain ⟨m,hn,hl⟩:=I.loc
 obtain ⟨u,r,l⟩:=hl i x v hN e hv
 rcases l with ⟨hk,hm⟩ | ⟨hk,c,hc,hcell⟩
 ·exact wpAny_Name (wpAny_loadName_local I.ok.kind hk hn hm (fin u r)) hd
 ·rcases hk with hk | hk
  ·exact wpAny_Name (wpAny_loadName_cell I.ok.kind hk hc hcell (fin u r)) hd
  ·exact wpAny_Name (wpAny_loadName_free I.ok.kind hk hc hcell (fin u r) hcd) hd
theorem ZtV {i:Nat} (F:FnOk X.prog X.w X.K X.mg X.base CX k f fd ps sp) (hr:Room k X.A) (hN:X.N[i]?=some x) (hv:Vis X.env.scope x) (hk:PySem.W.keepIn X.K (.ref f)=true) (hb:Binds X.K fd ps []) (hx:Zjn CX X Eσ)
  (ha:PA X (e::es) t) (hdb:(x==("__debug__":Str))=false) (hcd:(x==("__classdict__":Str))=false) (he:starEach (e::es) X.env=(false,eval e X.env)::starEach es X.env) (hpl:(backTo pos (starEach es X.env)).any (·.1)=false) :
  PE X (.Call (.Name x p) (e::es) [] pos) (fun σ H Q=>σ[i]?=some (some (.ref f))∧Zvb sp [] Eσ t σ H Q):=by
 intro pins s σ H Q I ⟨hi,h⟩
 refine wpAny_Call_Name_kw (Zxw I hN hv hi hdb hcd fun u hu=>?_)
 cases hu
 walk_at "pf"
 have r2:Vals (vs++[]) (us++[]):=r.append .nil
 have hl:(us++[]).length=ps.length:=by rw [← r2.length];exact F.len _ _ _ _ q
 refine wpAny_call (codeAny_mono (F.run X.A X.stack s1 H1 ⟨us,[]⟩ (us++[]) (vs++[]) Q (Eσ σ) hr I1.env0 (hb s1 us I1.kIn hl) r2 q) fun r s' hq=>?_)
 cases r with
 | error e=>exact hx pins σ H1 s1 e s' I1 hq
 | ok fl =>
  cases fl with
  | ret u=>exact I1.after hq
  | next=>exact False.elim hq
  | brk=>exact False.elim hq
  | cont=>exact False.elim hq
end
def fAt (mg:Str→Option Value) (x:Str):Addr:=match mg x with | some (.ref f)=>f | _=>0
theorem Zu8 {mg:Str→Option Value} {x:Str} {f:Addr} (h:mg x=some (.ref f)):fAt mg x=f:=by unfold fAt;rw [h]
section
variable {X:Cx} {e:Expr} {es:List Expr} {pos p:Pos} {ga gb:GE} {gs:GA} {ex:Xw}
def ZeV (i:Nat) (f:Addr) (sp:Spw) (ex:Xw) (gs:GA):GE:=fun ω G Q=>ω[i]?=some (some (.ref f))∧gs ω G fun ws G1=>sp ws G1 Q (ex ω)
theorem Ztz {i:Nat} {f:Addr} {sp:Spw} (m:sp.M) (ms:gs.M):GE.M (ZeV i f sp ex gs):=fun ω G Q Q' h q=>⟨q.1,ms _ _ _ _ (fun ws G1 q1=>m _ _ _ _ _ _ h (fun _ _ z=>z) q1) q.2⟩
theorem Zus {i:Nat} {x y:Str} {k n:Nat} {sp:Spw} (D:Df X.prog X.w X.K X.mg X.base y k n sp) (hr:Room k X.A) (hN:X.N[i]?=some x) (hv:Vis X.env.scope x) (hp:Zmo X ex) (ms:gs.M) (ha:PAw X (e::es) gs)
  (hdb:(x==("__debug__":Str))=false) (hcd:(x==("__classdict__":Str))=false) (he:starEach (e::es) X.env=(false,eval e X.env)::starEach es X.env) (hpl:(backTo pos (starEach es X.env)).any (·.1)=false) :
  PEw X (.Call (.Name x p) (e::es) [] pos) (ZeV i (fAt X.mg y) sp ex gs):=by
 obtain ⟨f,fd,ps,hm,hk,hb,_,F⟩:=D.ex
 rw [Zu8 hm]
 refine Zbn (ZtV F hr hN hv hk hb hp ha hdb hcd he hpl) fun σ H Q zz1=>?_
 obtain ⟨ω,G,ts,r,q0,q⟩:=zz1
 obtain ⟨v,ev,tv⟩:=ts.get i _ q0
 cases tv
 refine ⟨ev,ω,G,ts,r,ms _ _ _ _ (fun ws G1 q1 vs H1 m1 tvs r1=>?_) q⟩
 refine ⟨ws,G1,by rw [List.append_nil];exact tvs,r1,D.mono _ _ _ _ _ _ (fun w G' z=>Zcz m1 z) (fun C G' z H2 m2 r2=>?_) q1⟩
 exact ⟨C,ω,G',rfl,(ts.mono m1).mono m2,r2,z⟩
theorem Zo5 {i:Nat} {x y:Str} {k n:Nat} {sp:Spw} (D:Df X.prog X.w X.K X.mg X.base y k n sp) (hr:Room k X.A) (hi:place X.N x=some i) (hv:Zxf X.env.scope x=true) (hp:Zmo X ex) (hdb:(x==("__debug__":Str))=false) (hcd:(x==("__classdict__":Str))=false) (he:starEach (e::es) X.env=(false,eval e X.env)::starEach es X.env) (hpl:(backTo pos (starEach es X.env)).any (·.1)=false)
  (ha:Am X (e::es) gs):Em X (.Call (.Name x p) (e::es) [] pos) (ZeV i (fAt X.mg y) sp ex gs):=⟨Zus D hr (ZoY hi) (Zon hv) hp ha.m ha.p hdb hcd he hpl,Ztz D.mono ha.m⟩
theorem Zyk {x:Str} {k n:Nat} {sp:Spw} (D:Df X.prog X.w X.K X.mg X.base x k n sp) (hg:Gl X x) (hd:(x==("__debug__":Str))=false):Em X (.Name x pos) (gC (.ref (fAt X.mg x))):=by
 obtain ⟨f,fd,ps,hm,hk,hb,_,F⟩:=D.ex
 rw [Zu8 hm]
 exact ⟨ZrY (v:=.ref f) hg hm rfl (fun H=>.ref f) hd,Zw7⟩
end
end L3
namespace L3
open PySem PySem.Spec PyProof.Rows L2
namespace Tb
def hop (M:Nat):Nat→Nat→Nat
 | 0,i=>i
 | n+1,i=>hop M n ((i*5+1) % M)
def cover (M:Nat):Bool:=(List.range M).all fun i=>(List.range M).all fun j=>(List.range M).any fun n=>hop M n i==j
theorem cover8:cover 8=true:=by decide +kernel
theorem cover16:cover 16=true:=by decide +kernel
theorem cover32:cover 32=true:=by decide +kernel
theorem cover64:cover 64=true:=by decide +kernel
theorem Zs7 {M i j:Nat} (h:cover M=true) (hi:i < M) (hj:j < M):∃ n,n < M∧hop M n i=j:=by
 unfold cover at h
 have h1:=List.all_eq_true.mp h i (List.mem_range.mpr hi)
 have h2:=List.all_eq_true.mp h1 j (List.mem_range.mpr hj)
 obtain ⟨n,hn,e⟩:=List.any_eq_true.mp h2
 exact ⟨n,List.mem_range.mp hn,by simpa using e⟩
theorem ZlN {mask:Nat} {owner:Array (Option Nat)} {fuel i p:Nat} (h:SetTable.layClean.free mask owner (fuel+1) i p=none) :
  (owner.getD i (some 0)).isSome=true∧SetTable.layClean.free mask owner fuel ((i*5+1+p / 32) % (mask+1)) (p / 32)=none:=by
 unfold SetTable.layClean.free at h
 have hr:0 < SetTable.runEnd mask i+1 - i:=by unfold SetTable.runEnd;split <;> omega
 cases hf:(List.range (SetTable.runEnd mask i+1 - i)).find? fun k=>(owner.getD (i+k) (some 0)).isNone with
 | some k=>rw [hf] at h;cases h
 | none =>
  rw [hf] at h
  refine ⟨?_,h⟩
  have hz:=List.find?_eq_none.mp hf 0 (List.mem_range.mpr hr)
  rw [Nat.add_zero] at hz
  cases hg:owner.getD i (some 0) with
  | some b=>rfl
  | none=>rw [hg] at hz;exact absurd rfl hz
theorem ZmA {mask:Nat} {owner:Array (Option Nat)}:∀ (n fuel i:Nat),SetTable.layClean.free mask owner (n+fuel) i 0=none→∀ m,m < n→(owner.getD (hop (mask+1) m i) (some 0)).isSome=true
 | 0,fuel,i,h,m,hm=>by omega
 | n+1,fuel,i,h,m,hm=>by
  rw [show n+1+fuel=(n+fuel)+1 by omega] at h
  obtain ⟨h1,h2⟩:=ZlN h
  simp only [Nat.zero_div,Nat.add_zero] at h2
  cases m with
  | zero=>exact h1
  | succ m=>exact ZmA n fuel _ h2 m (by omega)
theorem Znn {mask:Nat} {owner:Array (Option Nat)}:∀ (n fuel i p:Nat),SetTable.layClean.free mask owner (n+fuel) i p=none→i < mask+1→∃ i',i' < mask+1∧SetTable.layClean.free mask owner fuel i' (p / 32 ^ n)=none
 | 0,fuel,i,p,h,hi=>⟨i,hi,by rw [Nat.zero_add] at h;simpa using h⟩
 | n+1,fuel,i,p,h,hi=>by
  rw [show n+1+fuel=(n+fuel)+1 by omega] at h
  obtain ⟨_,h2⟩:=ZlN h
  obtain ⟨i',hi',h3⟩:=Znn n fuel _ _ h2 (Nat.mod_lt _ (by omega))
  refine ⟨i',hi',?_⟩
  rw [Nat.div_div_eq_div_mul,show 32*32 ^ n=32 ^ (n+1) by rw [Nat.pow_succ,Nat.mul_comm]] at h3
  exact h3
theorem Zvz {mask:Nat} {owner:Array (Option Nat)} {i p:Nat} (hc:cover (mask+1)=true) (hi:i < mask+1) (hp:p < 2 ^ 64) (he:∃ j,j < mask+1∧owner.getD j (some 0)=none):(SetTable.layClean.free mask owner (SetTable.turns mask) i p).isSome=true:=by
 cases h:SetTable.layClean.free mask owner (SetTable.turns mask) i p with
 | some j=>rfl
 | none =>
  exfalso
  rw [show SetTable.turns mask=13+((mask+1)+1) by unfold SetTable.turns;omega] at h
  obtain ⟨i',hi',h2⟩:=Znn 13 _ i p h hi
  rw [Nat.div_eq_of_lt (Nat.lt_of_lt_of_le hp (by decide))] at h2
  have h3:=ZmA (mask+1) 1 i' h2
  obtain ⟨j,hj,e⟩:=he
  obtain ⟨n,hn,en⟩:=Zs7 hc hi' hj
  have:=h3 n hn
  rw [en,e] at this
  cases this
theorem ZrL {mask:Nat} {owner:Array (Option Nat)} (hs:owner.size=mask+1):∀ (fuel i p j:Nat),SetTable.layClean.free mask owner fuel i p=some j→i < mask+1→j < mask+1∧owner.getD j (some 0)=none
 | 0,i,p,j,h,hi=>by unfold SetTable.layClean.free at h;cases h
 | fuel+1,i,p,j,h,hi=>by
  unfold SetTable.layClean.free at h
  cases hf:(List.range (SetTable.runEnd mask i+1 - i)).find? fun k=>(owner.getD (i+k) (some 0)).isNone with
  | none =>
   rw [hf] at h
   exact ZrL hs fuel _ _ j h (Nat.mod_lt _ (by omega))
  | some k =>
   rw [hf] at h
   cases h
   have h1:=List.find?_some hf
   have h2:owner.getD (i+k) (some 0)=none:=by simpa using h1
   refine ⟨?_,h2⟩
   refine Nat.lt_of_not_le fun hge=>?_
   rw [Array.getD_eq_getD_getElem?,Array.getElem?_eq_none (by omega)] at h2
   cases h2
theorem ZlK {α:Type} (x:α):∀ {l:List (Option α)} {j:Nat},l[j]?=some none→((l.set j (some x)).filterMap id).Perm (x::l.filterMap id)
 | [],j,h=>by simp at h
 | a::l,0,h=>by
  simp only [List.getElem?_cons_zero,Option.some.injEq] at h
  subst h
  exact List.Perm.refl _
 | a::l,j+1,h=>by
  simp only [List.getElem?_cons_succ] at h
  rw [List.set_cons_succ]
  cases a with
  | none=>exact ZlK x h
  | some b =>
   show (b::(l.set j (some x)).filterMap id).Perm (x::b::l.filterMap id)
   exact ((ZlK x h).cons b).trans (List.Perm.swap x b _)
theorem Zmb:∀ {l:List (Option Nat)},(l.filterMap id).length < l.length→∃ j,j < l.length∧l[j]?=some none
 | [],h=>by simp at h
 | none::l,h=>⟨0,by simp,rfl⟩
 | some a::l,h=>by
  have h':(l.filterMap id).length+1 < l.length+1:=h
  obtain ⟨j,hj,e⟩:=Zmb (l:=l) (by omega)
  exact ⟨j+1,by simp;omega,by simpa using e⟩
structure Lay (M k:Nat) (owner:Array (Option Nat)):Prop where
 sz:owner.size=M
 pm:(owner.toList.filterMap id).Perm (List.range k)
theorem Zt2 {mask k:Nat} {owner:Array (Option Nat)} (hc:cover (mask+1)=true) (L:Lay (mask+1) k owner) (hk:k < mask+1) (h:Int) :
  ∃ j,SetTable.layClean.free mask owner (SetTable.turns mask) (SetTable.bits h % (mask+1)) (SetTable.bits h)=some j∧Lay (mask+1) (k+1) (owner.setIfInBounds j (some k)):=by
 have hb:SetTable.bits h < 2 ^ 64:=by
  unfold SetTable.bits
  have:=Int.emod_lt_of_pos h (show (0:Int) < 2 ^ 64 by decide)
  have:=Int.emod_nonneg h (show (2 ^ 64:Int)≠0 by decide)
  omega
 have hl:(owner.toList.filterMap id).length=k:=by rw [L.pm.length_eq,List.length_range]
 obtain ⟨j,hj,e⟩:=Zmb (l:=owner.toList) (by rw [hl,Array.length_toList,L.sz];exact hk)
 have hj':j < mask+1:=by rw [Array.length_toList,L.sz] at hj;exact hj
 have hi:SetTable.bits h % (mask+1) < mask+1:=Nat.mod_lt _ (by omega)
 have hs:=Zvz (owner:=owner) (i:=SetTable.bits h % (mask+1)) hc hi hb ⟨j,hj',by
  rw [Array.getD_eq_getD_getElem?]
  rw [Array.getElem?_toList] at e
  rw [e];rfl⟩
 obtain ⟨j2,e2⟩:=Option.isSome_iff_exists.mp hs
 obtain ⟨h1,h2⟩:=ZrL L.sz _ _ _ _ e2 hi
 refine ⟨j2,e2,⟨by rw [Array.size_setIfInBounds];exact L.sz,?_⟩⟩
 have h3:owner.toList[j2]?=some none:=by
  rw [Array.getElem?_toList]
  rw [Array.getD_eq_getD_getElem?] at h2
  have h4:j2 < owner.size:=by rw [L.sz];exact h1
  rw [Array.getElem?_eq_getElem h4] at h2 ⊢
  exact congrArg some h2
 rw [Array.toList_setIfInBounds]
 refine (ZlK k h3).trans ?_
 rw [List.range_succ]
 exact ((L.pm.cons k).trans (List.perm_append_singleton k _).symm)
theorem ZrN {mask:Nat} (hc:cover (mask+1)=true):∀ (hs:List Int) (k:Nat) (owner:Array (Option Nat)),Lay (mask+1) k owner→k+hs.length≤mask+1 →
  ∃ o',(hs.foldl (fun (acc:Option (Array (Option Nat)×Nat)) h=>do
   let (owner,k) ← acc
   let j ← SetTable.layClean.free mask owner (SetTable.turns mask) (SetTable.bits h % (mask+1)) (SetTable.bits h)
   pure (owner.setIfInBounds j (some k),k+1)) (some (owner,k)))=some (o',k+hs.length)∧Lay (mask+1) (k+hs.length) o'
 | [],k,owner,L,_=>⟨owner,rfl,L⟩
 | h::hs,k,owner,L,hk=>by
  simp only [List.length_cons] at hk
  obtain ⟨j,e,L2⟩:=Zt2 hc L (by omega) h
  obtain ⟨o',e2,L3'⟩:=ZrN hc hs (k+1) _ L2 (by omega)
  refine ⟨o',?_,by rw [List.length_cons,show k+(hs.length+1)=k+1+hs.length by omega];exact L3'⟩
  rw [List.foldl_cons]
  show hs.foldl _ (some (owner,k) >>= fun x=>_)=_
  rw [Option.bind_eq_bind,Option.bind_some]
  dsimp only
  rw [e]
  rw [Option.bind_eq_bind,Option.bind_some]
  rw [List.length_cons,show k+(hs.length+1)=k+1+hs.length by omega]
  exact e2
theorem ZvM (M:Nat):Lay M 0 (Array.replicate M none):=⟨by simp,by simp⟩
theorem Zt5 {mask:Nat} (hc:cover (mask+1)=true) (hs:Array Int) (hn:hs.size≤mask+1):∃ o',SetTable.layClean mask hs=some o'∧Lay (mask+1) hs.size o':=by
 obtain ⟨o',e,L⟩:=ZrN hc hs.toList 0 _ (ZvM (mask+1)) (by simpa using hn)
 refine ⟨o',?_,by simpa using L⟩
 unfold SetTable.layClean
 rw [← Array.foldl_toList]
 rw [e];rfl
theorem ZoE {M:Nat} {owner:Array (Option Nat)} (h:owner.size=M):(((List.range M).filterMap fun j=>(owner.getD j none).map (j,·)).map (·.2))=owner.toList.filterMap id:=by
 have e:owner.toList=(List.range M).map fun j=>owner.getD j none:=by
  apply List.ext_getElem?
  intro i
  rw [List.getElem?_map,Array.getElem?_toList]
  by_cases hi:i < M
  ·have h2:i < owner.size:=by omega
   rw [List.getElem?_range hi,Array.getElem?_eq_getElem h2,Option.map_some,Array.getD_eq_getD_getElem?,Array.getElem?_eq_getElem h2];rfl
  ·rw [Array.getElem?_eq_none (by omega),List.getElem?_eq_none (by simp;omega)];rfl
 rw [e,List.filterMap_map,List.map_filterMap]
 congr 1
 funext j
 show Option.map (·.2) (Option.map (j,·) (owner.getD j none))=owner.getD j none
 cases owner.getD j none <;> rfl
theorem ZsT {M:Nat} {owner:Array (Option Nat)} (h:owner.size=M):((List.range M).filterMap fun j=>(owner.getD j none).map (j,·)).length=(owner.toList.filterMap id).length:=by
 rw [← ZoE h,List.length_map]
theorem laid_ok {mask:Nat} (hc:cover (mask+1)=true) (f m:Nat) (l p:Bool) (hs:Array Int) (hn:hs.size≤mask+1) :
  ∃ t order,SetTable.laid mask f m l p hs=some (t,order)∧order.toList.Perm (List.range hs.size)∧t.mask=mask∧t.place.size=hs.size∧t.dummies=#[]∧t.led=l∧t.plain=p:=by
 obtain ⟨o',e,L⟩:=Zt5 hc hs hn
 unfold SetTable.laid
 rw [e]
 refine ⟨_,_,rfl,?_,rfl,?_,rfl,rfl,rfl⟩
 ·rw [List.toList_toArray,ZoE L.sz];exact L.pm
 ·rw [List.size_toArray,List.length_map,ZsT L.sz,L.pm.length_eq,List.length_range]
theorem order_perm {α:Type} (es:Array α) (order:Array Nat) (h:order.toList.Perm (List.range es.size)):(order.filterMap (es[·]?)).toList.Perm es.toList:=by
 rw [Array.toList_filterMap]
 refine (h.filterMap _).trans ?_
 rw [show (List.range es.size).filterMap (fun x=>es[x]?)=es.toList from ?_]
 have:∀ (l:List α),(List.range l.length).filterMap (fun x=>l[x]?)=l:=fun l=>by
  induction l with
  | nil=>rfl
  | cons a l ih =>
   rw [List.length_cons,List.range_succ_eq_map,List.filterMap_cons]
   simp only [List.getElem?_cons_zero,List.filterMap_map]
   congr 1
 have h2:=this es.toList
 rw [Array.length_toList] at h2
 simpa only [Array.getElem?_toList] using h2
end Tb
def bt (w:World):Bool:=w.params.followText "set-order"
structure Tab (w:World) (es:Array (Int×Value)) (t:SetTable) (ks:List Str):Prop where
 el:∀ e∈es.toList,∃ x u,e=(hashStr w x,Value.str x u)
 pm:(es.toList.map fun e=>strOf e.2).Perm ks
 nd:ks.Nodup
 ft:t.fits es.size=true
 ld:bt w=false→t.led=true
 pl:t.plain=true→ks=[]
def SS (w:World) (h:Heap) (a:Addr) (ks:List Str):Prop:=∃ o es ep t,h.get? a=some o∧o.ExactSet∧o.data=.set es ep t∧Tab w es t ks
namespace Tab
variable {w:World} {es es':Array (Int×Value)} {t t':SetTable} {ks ks':List Str}
theorem len (T:Tab w es t ks):es.size=ks.length:=by
 have:=T.pm.length_eq
 rw [List.length_map,Array.length_toList] at this
 exact this
theorem elems (prog:Program) (T:Tab w es t ks):ElemsOf (strKind prog w) es.toList:=fun e he=>by
 obtain ⟨x,u,rfl⟩:=T.el e he
 exact ⟨⟨x,by show Value.isStrOf x (.str x u)=true;simp [Value.isStrOf],rfl⟩,rfl⟩
theorem perm (T:Tab w es t ks) (p:es'.toList.Perm es.toList) (f:t'.fits es'.size=true) (l:bt w=false→t'.led=true) (q:t'.plain=true→ks=[]):Tab w es' t' ks :=
 ⟨fun e he=>T.el e (p.mem_iff.mp he),(p.map _).trans T.pm,T.nd,f,l,q⟩
theorem mem (T:Tab w es t ks) (k:Str):k∈ks↔∃ e∈es.toList,Value.isStrOf k e.2=true:=by
 rw [← T.pm.mem_iff,List.mem_map]
 constructor
 ·rintro ⟨e,he,rfl⟩
  obtain ⟨x,u,rfl⟩:=T.el e he
  exact ⟨_,he,by show Value.isStrOf x (.str x u)=true;simp [Value.isStrOf]⟩
 ·rintro ⟨e,he,h⟩
  obtain ⟨x,u,rfl⟩:=T.el e he
  refine ⟨_,he,?_⟩
  obtain ⟨t,e2⟩:=Value.isStrOf_shape h
  injection e2
end Tab
theorem ZnS (t:SetTable) (n:Nat):(t.orStandIn n).led=t.led:=by
 unfold SetTable.orStandIn
 split <;> rfl
theorem Zw3 (t:SetTable) (es:Array (Int×Value)) (h:Int) (x:Value):(layNew t es h x).2.1.led=t.led:=by
 unfold layNew
 split
 ·exact ZnS _ _
 ·rfl
theorem Zre (t:SetTable) (es:Array (Int×Value)) (n:Nat):(relayAll t es n).2.1.led=t.led∧((relayAll t es n).2.1.plain=true→t.plain=true):=by
 unfold relayAll
 split
 ·rename_i t' order e
  dsimp only
  split
  ·unfold SetTable.relaid SetTable.laid at e
   simp only [Option.bind_eq_bind,Option.bind_eq_some_iff] at e
   obtain ⟨o,_,e⟩:=e
   cases e
   exact ⟨rfl,id⟩
  ·exact ⟨rfl,fun h=>by cases h⟩
 ·exact ⟨rfl,fun h=>by cases h⟩
section
variable {prog:Program} {w:World} {A:Around} {E:Value→Shared→Prop} {s:Shared}
theorem ZfW {h:Heap} {a:Addr} {o:Obj} {es es':Array (Int×Value)} {ep:Nat} {t t':SetTable} {ks:List Str} (ho:h.get? a=some o) (hx:o.ExactSet) (hd:o.data=.set es ep t) (T:Tab w es' t' ks) :
  (h.update a (Obj.putSet es' t')).get? a=some { o with data:=.set es' (ep+1) t' }∧SS w (h.update a (Obj.putSet es' t')) a ks:=by
 have hg:(h.update a (Obj.putSet es' t')).get? a=some { o with data:=.set es' (ep+1) t' }:=by
  have hz:=Heap.get?_update_self (Obj.putSet es' t') ho (by rw [putSet_of es' t' hd];rfl)
  rw [putSet_of es' t' hd] at hz
  exact hz
 exact ⟨hg,_,es',ep+1,t',hg,hx,rfl,T⟩
theorem ZwO {es es1:Array (Int×Value)} {t t1:SetTable} {ks:List Str} {k:Str} {u:Tok} (T:Tab w es t ks) (hk:k∉ks) (p:es1.toList.Perm (es.toList++[(hashStr w k,Value.str k u)])) (f:t1.fits es1.size=true) (l:t1.led=t.led) (q:t1.plain=false):Tab w es1 t1 (k::ks):=by
 refine ⟨fun e he=>?_,?_,List.nodup_cons.mpr ⟨hk,T.nd⟩,f,fun h=>by rw [l];exact T.ld h,fun h=>by rw [q] at h;cases h⟩
 ·rcases List.mem_append.mp (p.mem_iff.mp he) with he | he
  ·exact T.el e he
  ·exact ⟨k,u,List.mem_singleton.mp he⟩
 ·refine (p.map _).trans ?_
  rw [List.map_append]
  exact (List.perm_append_singleton k _).trans (T.pm.cons k)
theorem Zuz {a:Addr} {ks:List Str} {k:Str} {u:Tok} {Q:Bool→Shared→Prop} (hS:SS w s.heap a ks) (hn:ks.length+1 < scanBound)
  (h:∀ h' b,Heap.SameBut a s.heap h'→SS w h' a (if k∈ks then ks else k::ks)→Q b { s with heap:=h' }):wpAny (model prog w) A (setAddHashed a (.str k u) (hashStr w k)) Q E s:=by
 obtain ⟨o,es,ep,t,ho,hx,hd,T⟩:=hS
 have hel:=T.elems prog
 have hkey:(strKind prog w).is k (.str k u)=true:=by show Value.isStrOf k (.str k u)=true;simp [Value.isStrOf]
 have hsc:(Value.str k u).scannable=true:=rfl
 have hsz:=T.len
 have hb:es.size < scanBound:=by omega
 unfold setAddHashed setAddHashedIn
 refine wpAny_holding (wpAny_bind (wpAny_setState_of ho hd T.ft ?_))
 dsimp only
 rw [byScan_of hsc hb hel,if_pos rfl]
 refine wpAny_bind ?_
 unfold setAddByScan
 refine wpAny_bind (wpAny_rule ?_)
 refine wpAny_bind (wpAny_setScan_of (knd:=strKind prog w) hkey ho hd T.ft hel ?_)
 have hgave:∀ (b:Bool) {s₁:Shared} {Q':Unit→Shared→Prop},Q' () s₁→wpAny (model prog w) A (match b with | true=>rule "set.scan.the-table-gave-way" | false=>pure ()) Q' E s₁:=fun b s₁ Q' z=>by
  cases b
  ·exact wpAny_pure z
  ·exact wpAny_rule z
 cases hr:List.findIdx? (fun e=>(strKind prog w).is k e.2) es.toList with
 | some j =>
  obtain ⟨hj,hpj,_⟩:=List.findIdx?_eq_some_iff_getElem.mp hr
  have hin:k∈ks:=(T.mem k).mpr ⟨_,List.getElem_mem hj,hpj⟩
  have hz:=h s.heap false (Heap.SameBut.refl a s.heap) (by rw [if_pos hin];exact ⟨o,es,ep,t,ho,hx,hd,T⟩)
  exact wpAny_pure (wpAny_pure hz)
 | none =>
  have hout:k∉ks:=fun hin=>by
   obtain ⟨e,he,hp⟩:=(T.mem k).mp hin
   have hz:=List.findIdx?_eq_none_iff.mp hr e he
   exact Bool.noConfusion (hz.symm.trans hp)
  have hperm:=layNew_perm t es (hashStr w k) (.str k u)
  have hfits:=layNew_fits t es (hashStr w k) (.str k u)
  have hled:=Zw3 t es (hashStr w k) (.str k u)
  rw [if_neg hout] at h
  dsimp only
  show wpAny (model prog w) A _ _ E s
  have hhash:(strKind prog w).hash k=hashStr w k:=rfl
  revert hperm hfits hled
  generalize layNew t es (hashStr w k) (.str k u)=L
  obtain ⟨es1,t1,dm,gv⟩:=L
  intro hperm hfits hled
  dsimp only at hperm hfits hled ⊢
  rw [Array.toList_push] at hperm
  refine wpAny_bind (hgave _ ?_)
  have hz1:es1.size=es.size+1:=by rw [← Array.length_toList,hperm.length_eq,List.length_append,Array.length_toList];rfl
  have fin:∀ t2:SetTable,t2.fits es1.size=true→t2.led=t.led→t2.plain=false→wpAny (model prog w) A (do
    storeSet a es1 t2
    if (!dm&&t2.tooFull)=true then do
      (match (relayAll t2 es1 (SetTable.grown es1.size)).2.2 with | true=>rule "set.scan.the-table-gave-way" | false=>pure ())
      storeSet a (relayAll t2 es1 (SetTable.grown es1.size)).1 (relayAll t2 es1 (SetTable.grown es1.size)).2.1
      pure (some true)
     else pure (some true)) (fun r s'=>wpAny (model prog w) A (match r with | some added=>pure added | none=>setAddHashedIn a (.str k u) (hashStr w k) 99999) Q E s') E s:=fun t2 f2 l2 p2=>by
   have T2:Tab w es1 t2 (k::ks):=ZwO T hout hperm f2 l2 p2
   refine wpAny_bind (wpAny_storeSet_of ho hd ?_ (fits_of_scanBound (by omega)))
   obtain ⟨ho1,hS1⟩:=ZfW ho hx hd T2
   have b1:=Heap.SameBut.update s.heap a (Obj.putSet es1 t2)
   split
   ·have hp:=relayAll_perm t2 es1 (SetTable.grown es1.size)
    have hf:=relayAll_fits t2 es1 (SetTable.grown es1.size)
    have hg:=Zre t2 es1 (SetTable.grown es1.size)
    have T3:=T2.perm hp hf (fun z=>by rw [hg.1,l2];exact T.ld z) (fun z=>by rw [hg.2 z] at p2;cases p2)
    refine wpAny_bind (hgave _ ?_)
    refine wpAny_bind (wpAny_storeSet_of ho1 rfl ?_ (fits_of_scanBound (by rw [T3.len,← T2.len];omega)))
    obtain ⟨_,hS2⟩:=ZfW ho1 hx rfl T3
    exact wpAny_pure (wpAny_pure (h _ _ (b1.trans (Heap.SameBut.update _ a _)) hS2))
   ·exact wpAny_pure (wpAny_pure (h _ _ b1 hS1))
  split
  ·refine wpAny_bind ?_
   rw [hashByValue_scannable 8 hsc]
   refine wpAny_pure ?_
   exact fin _ (SetTable.fits_plain_off hfits) hled rfl
  ·rename_i hpl
   refine wpAny_bind (wpAny_pure ?_)
   exact fin _ hfits hled (by simpa using hpl)
end
section
variable {prog:Program} {w:World} {A:Around} {E:Value→Shared→Prop} {s:Shared}
theorem SS.kept {h h':Heap} {a:Addr} {ks:List Str} (S:SS w h a ks) (k:∀ o,h.get? a=some o→h'.get? a=some o):SS w h' a ks:=by
 obtain ⟨o,es,ep,t,ho,r⟩:=S
 exact ⟨o,es,ep,t,k o ho,r⟩
theorem SS.nd {h:Heap} {a:Addr} {ks:List Str} (S:SS w h a ks):ks.Nodup:=by
 obtain ⟨o,es,ep,t,ho,_,_,T⟩:=S
 exact T.nd
theorem ZoW {h:Heap} {a:Addr} (led:Bool) (hl:bt w=false→led=true) (ho:h.get? a=some { cls:=.type "set",dict:=none,data:=.set #[] 0 (.fresh 0 0 led) }):SS w h a [] :=
 ⟨_,#[],0,_,ho,⟨rfl,rfl,rfl⟩,rfl,⟨fun e he=>by simp at he,List.Perm.refl _,List.nodup_nil,rfl,hl,fun _=>rfl⟩⟩
theorem ZwQ {R:Result→Shared→Prop} {I:Addr} {fp wr:List Addr} {G:Array GenState→Array GenState→Prop} {n:Nat} {P:Nat→Value→Prop} {St:Nat→Shared→Prop} (W:WalksS prog w A.in1 I fp wr G n P St) {S:Addr} (hSf:S∉fp)
  {val:Nat→Str} (hval:∀ i v,P i v→∃ t,v=.str (val i) t):∀ (k i:Nat) (s:Shared) (ks:List Str),n - i=k→i≤n→St i s→SS w s.heap S ks→ks.length+k < scanBound →
   (∀ s' ks',Moved (S::wr) G s s'→SS w s'.heap S ks'→(∀ x,x∈ks'↔x∈ks∨∃ j,i≤j∧j < n∧val j=x)→R (.ok (.ret .none)) s') →
   codeAny (model prog w) A (.builtin "set.update.loop" ⟨[.ref S,.ref I],[]⟩) R s:=by
 have hSw:S∉wr:=fun z=>hSf (W.sub _ z)
 have hsub:∀ b∈wr,b∈S::wr:=fun b z=>List.mem_cons_of_mem _ z
 intro k
 induction k with
 | zero =>
  intro i s ks hk hi hst hS _ hR
  obtain rfl:i=n:=by omega
  refine codeAny_builtin PyProof.Rows.F.entry_set_update_loop ?_
  rw [Around.under_plainId PyProof.Rows.F.plain_set_update_loop _]
  refine wpAny_bind (m:=pyNext (.ref I)) (W.done s _ _ hst fun s' hm=>?_)
  refine wpAny_pure (hR s' ks (hm.mono hsub) (hS.kept fun o e=>hm.heap S o hSw e) fun x=>⟨.inl,?_⟩)
  rintro (h | ⟨j,h1,h2,_⟩)
  ·exact h
  ·omega
 | succ k ih =>
  intro i s ks hk hi hst hS hn hR
  have hlt:i < n:=by omega
  refine codeAny_builtin PyProof.Rows.F.entry_set_update_loop ?_
  rw [Around.under_plainId PyProof.Rows.F.plain_set_update_loop _]
  refine wpAny_bind (m:=pyNext (.ref I)) (W.item i s _ _ hlt hst fun v s1 hP hst1 hm=>?_)
  obtain ⟨t,rfl⟩:=hval i v hP
  have hS1:SS w s1.heap S ks:=hS.kept fun o e=>hm.heap S o hSw e
  refine wpAny_bind (m:=holding [Value.str (val i) t] (setAdd S (.str (val i) t))) (wpAny_holding ?_)
  unfold setAdd
  refine wpAny_holding (wpAny_bind ((strKind prog w).pyHash (k:=val i) (by show Value.isStrOf (val i) (.str (val i) t)=true;simp [Value.isStrOf]) ?_))
  refine Zuz (s:={ s1 with toks:=s1.toks+1 }) hS1 (by omega) fun h' b hsb hS2=>?_
  refine wpAny_pure ⟨plainId_quiet PyProof.Rows.F.plain_set_update_loop _,ih (i+1) _ _ (by omega) hlt (W.frame _ s1 _ _ hst1 (Nat.le_succ _) fun c hc o e=>?_) hS2 ?_ fun s2 ks' hm2 hS3 hx=>?_⟩
  ·rw [hsb.2 c fun z:c=S=>hSf (by rw [← z];exact hc)];exact e
  ·split
   ·omega
   ·rw [List.length_cons];omega
  ·refine hR s2 ks' (Moved.trans W.gtrans ((hm.mono hsub).then_heap (Nat.le_succ _) fun c o hc e=>?_) hm2) hS3 fun x=>(hx x).trans ?_
   ·rw [hsb.2 c fun z:c=S=>hc (by rw [z];exact List.mem_cons_self)];exact e
   ·have hmem:x∈(if val i∈ks then ks else val i::ks)↔x∈ks∨val i=x:=by
     split
     ·rename_i hin
      exact ⟨.inl,fun z=>z.elim id fun e=>e▸hin⟩
     ·rw [List.mem_cons]
      exact ⟨fun z=>z.elim (fun e=>.inr e.symm) .inl,fun z=>z.elim .inr fun e=>.inl e.symm⟩
    rw [hmem]
    constructor
    ·rintro ((h | h) | ⟨j,h1,h2,h3⟩)
     ·exact .inl h
     ·exact .inr ⟨i,Nat.le_refl _,hlt,h⟩
     ·exact .inr ⟨j,by omega,h2,h3⟩
    ·rintro (h | ⟨j,h1,h2,h3⟩)
     ·exact .inl (.inl h)
     ·by_cases e:j=i
      ·subst e;exact .inl (.inr h3)
      ·exact .inr ⟨j,by omega,h2,h3⟩
end
abbrev Zbh (led:Bool):Obj:={ cls:=.type "set",dict:=none,data:=.set #[] 0 (.fresh 0 0 led) }
section
variable {prog:Program} {w:World} {A:Around} {E:Value→Shared→Prop} {s:Shared}
theorem Zv3 {Q:Value→Shared→Prop} (h:∀ led:Bool,(bt w=false→led=true)→Q (.ref s.heap.objs.size) { s with heap:=s.heap.push (Zbh led) }):wpAny (model prog w) A (newSet (.type "set")) Q E s:=by
 unfold newSet setsByText
 walk_at "pc"
 simp only [newObj]
 refine wpAny_bind (wpAny_alloc (wpAny_pure (h _ fun z=>?_)))
 show (!(bt w))=true
 rw [z];rfl
theorem Zs0 (a:Value) {Q:Value→Shared→Prop} (h:∀ led:Bool,(bt w=false→led=true)→Q (.ref s.heap.objs.size) { s with heap:=s.heap.push (Zbh led) }) :
  codeAny (model prog w) A (.call (.builtin "set.__new__") ⟨[.type "set",a],[]⟩) (wants Q E) s:=by
 refine codeAny_of_tree (?_:wpAny _ A.in1 (do checkBuiltinCall "set.__new__" ⟨[.type "set",a],[]⟩;again (.builtin "set.__new__" ⟨[.type "set",a],[]⟩)) _ _ s)
 refine wpAny_bind (wpAny_of_eq (PySem.F.newCall_set_1 a) (wpAny_pure ⟨plainId_quiet PySem.F.plain_set_new _,codeAny_builtin PySem.F.entry_set_new ?_⟩))
 rw [Around.under_plainId PySem.F.plain_set_new _];unfold Builtin.«set.__new__» Builtin.Frozenset.newClass
 have hq:=sub_set_self
 obtain ⟨hp,g,d,tk,os⟩:=s
 dsimp only
 wp_walk
 refine wpAny_askSetting (wpAny_pure ?_)
 simp only [newObj]
 refine wpAny_bind (wpAny_alloc (wpAny_pure (wpAny_pure (h _ fun z=>?_))))
 show (!(bt w))=true
 rw [z];rfl
theorem Zqo:∀ {vs:List Value} {xs:List Str},StrsAre vs xs→∀ (i:Nat) (v:Value),vs[i]?=some v→∃ t,v=.str (xs.getD i (Str.ofString "")) t
 | _,_,.nil,i,v,h=>by simp at h
 | _,_,.cons x t r,0,v,h=>⟨t,by simp at h;exact h.symm⟩
 | _,_,.cons x t r,i+1,v,h=>Zqo r i v (by simpa using h)
set_option maxHeartbeats 3200000 in
theorem Zof {l:Addr} {items:Array Value} {xs:List Str} {Q:Value→Shared→Prop} (hh:A.handled=none) (hl:s.heap.IsList l items) (hi:StrsAre items.toList xs) (hb:items.size < scanBound)
  (h:∀ (h':Heap) (tk:Nat) (ks:List Str),SS w h' s.heap.objs.size ks→(∀ x,x∈ks↔x∈xs)→(∀ b o,b < s.heap.objs.size→s.heap.get? b=some o→h'.get? b=some o)→Q (.ref s.heap.objs.size) { s with heap:=h',toks:=tk }) :
  wpAny (model prog w) A (call (.type "set") [.ref l]) Q E s:=by
 obtain ⟨c,tl,hmro⟩:=PySem.F.called_set.mro
 have hmade:=PySem.F.called_set.made
 have hsub:=PySem.F.called_set.sub
 refine wpAny_call (codeAny_of_tree (?_:wpAny _ _ (callAny (.type "set") _) _ _ _))
 refine wpAny_pure ⟨Code.quiet_builtin _ (by decide +kernel),codeAny_builtin PySem.F.entry_type_call ?_⟩
 rw [Around.under_plain (weight_type_call_type "set" [.ref l] []) rfl]
 have h1:=PySem.F.called_set.notType
 have h2:=PySem.F.called_set.canCreate
 have hct:=PySem.F.typeCall_set_1 (.ref l)
 (repeat (any_goals (first | assumption | wp_step)))
 refine codeAny_mono (Zs0 (.ref l) (E:=E) (Q:=fun obj s₁=>∃ led:Bool,(bt w=false→led=true)∧obj=.ref s.heap.objs.size∧s₁={ s with heap:=s.heap.push (Zbh led) }) fun led z=>⟨led,z,rfl,rfl⟩) fun r s₁ hr=>?_
 match r,hr with
 | .error e,hr=>exact hr
 | .ok .next,hr=>exact hr.elim
 | .ok .brk,hr=>exact hr.elim
 | .ok .cont,hr=>exact hr.elim
 | .ok (.ret obj),hr =>
  obtain ⟨led,hled,rfl,rfl⟩:=hr
  have hS:(s.heap.push (Zbh led)).get? s.heap.objs.size=some (Zbh led):=Heap.get?_push_size _ rfl
  have hT:Shared.TypeIs { s with heap:=s.heap.push (Zbh led) } (.ref s.heap.objs.size) "set":=⟨_,hS,rfl⟩
  have hli:=PySem.F.called_set.init.lookup
  have hbi:=PySem.F.called_set.init.bind (.ref s.heap.objs.size)
  (repeat (any_goals (first | assumption | wp_step)))
  refine codeAny_mono (codeAny_call_builtin (R:=wants (fun r s₂=>r=.none∧∃ h' tk ks,s₂={ s with heap:=h',toks:=tk }∧SS w h' s.heap.objs.size ks∧(∀ x,x∈ks↔x∈xs)∧(∀ b o,b < s.heap.objs.size→s.heap.get? b=some o→h'.get? b=some o)) E) PySem.F.called_set.init.plain PySem.F.entry_set_init (check_set_init_1 hT ?_)) fun r₂ s₂ hr₂=>?_
  ·obtain ⟨ol,hol,hcl,nl,hdl⟩:=hl
   obtain ⟨ocls,odict,odata,oslots⟩:=ol
   simp only at hcl hdl
   subst hcl hdl
   have hol':(s.heap.push (Zbh led)).get? l=some { cls:=.type "list",dict:=odict,data:=.seq items nl,slots:=oslots }:=Heap.get?_push_of_some _ hol
   have hs1:=PySem.F.sub_list_set
   have hs2:=PySem.F.sub_list_frozenset
   have hne:(Value.type "list"==Value.type "dict")=false:=by decide
   have hl1:(s.heap.push (Zbh led)).IsList l items:=⟨_,hol',rfl,nl,rfl⟩
   unfold Builtin.«set.__init__» noKeywords Builtin.Frozenset.updateFrom
   generalize hPI:pyIter=PI
   wp_walk
   subst hPI
   refine wpAny_pyIter_list hl1 (wpAny_bind (wpAny_runValue ?_))
   have hlS:l < s.heap.objs.size:=Heap.lt_size hol
   have hneI:l≠(s.heap.push (Zbh led)).objs.size:=by rw [Heap.size_push];exact Nat.ne_of_lt (Nat.lt_succ_of_lt hlS)
   have hSf:s.heap.objs.size∉[(s.heap.push (Zbh led)).objs.size,l]:=by
    rw [Heap.size_push]
    simp only [List.mem_cons,List.not_mem_nil,or_false,not_or]
    exact ⟨Nat.ne_of_lt (Nat.lt_succ_self _),Nat.ne_of_gt hlS⟩
   have hval:∀ (i:Nat) (v:Value),items[i]?=some v→∃ t,v=.str (xs.getD i (Str.ofString "")) t:=fun i v hv=>Zqo hi i v (by rw [Array.getElem?_toList];exact hv)
   have hxl:items.size=xs.length:=by rw [← Array.length_toList];exact hi.length
   refine ZwQ ((Walks.list (by simp [hh]) _ l hneI items).toS) hSf hval (items.size - 0) 0 _ [] (by omega) (Nat.zero_le _) ⟨⟨_,Heap.get?_push_size _ rfl,rfl,rfl⟩,hl1.push _⟩ ?_ (by simp only [List.length_nil];omega) ?_
   ·exact ZoW led hled (Heap.get?_push_of_some _ hS)
   ·intro s' ks hm hS' hx
    obtain ⟨h',g',d',tk',os'⟩:=s'
    obtain rfl:g'=s.gens:=hm.gens
    obtain rfl:d'=s.drawn:=hm.drawn
    obtain rfl:os'=s.os:=hm.os
    refine wpAny_pure (wpAny_pure ⟨rfl,h',tk',ks,rfl,hS',fun x=>(hx x).trans ?_,fun b o hb e=>?_⟩)
    ·constructor
     ·rintro (z | ⟨j,_,hj,e⟩)
      ·cases z
      ·rw [← e]
       rw [List.getD_eq_getElem?_getD,List.getElem?_eq_getElem (by omega)]
       exact List.getElem_mem _
     ·intro hx
      obtain ⟨j,hj,e⟩:=List.getElem_of_mem hx
      refine .inr ⟨j,Nat.zero_le _,by omega,?_⟩
      rw [List.getD_eq_getElem?_getD,List.getElem?_eq_getElem hj]
      exact e
    ·refine hm.heap b o ?_ (Heap.get?_push_of_some _ (Heap.get?_push_of_some _ e))
     simp only [List.mem_cons,List.not_mem_nil,or_false,not_or]
     rw [Heap.size_push]
     exact ⟨Nat.ne_of_lt hb,Nat.ne_of_lt (Nat.lt_succ_of_lt hb)⟩
  ·match r₂,hr₂ with
   | .error e,hr₂=>exact hr₂
   | .ok .next,hr₂=>exact hr₂.elim
   | .ok .brk,hr₂=>exact hr₂.elim
   | .ok .cont,hr₂=>exact hr₂.elim
   | .ok (.ret r),hr₂ =>
    obtain ⟨rfl,h',tk,ks,rfl,hS',hx,hk'⟩:=hr₂
    (repeat (any_goals (first | assumption | wp_step)))
    exact h _ _ _ hS' hx hk'
end
theorem ZtH {n:Nat} (h:n < 64):(SetTable.sizeAbove n=8∨SetTable.sizeAbove n=16∨SetTable.sizeAbove n=32∨SetTable.sizeAbove n=64)∧n < SetTable.sizeAbove n:=by
 have:∀ m:Fin 64,(SetTable.sizeAbove m.1=8∨SetTable.sizeAbove m.1=16∨SetTable.sizeAbove m.1=32∨SetTable.sizeAbove m.1=64)∧m.1 < SetTable.sizeAbove m.1:=by decide +kernel
 exact this ⟨n,h⟩
theorem Zjs {n:Nat} (h:n < 64):Tb.cover (SetTable.sizeAbove n - 1+1)=true∧n < SetTable.sizeAbove n∧SetTable.sizeAbove n≤64:=by
 obtain ⟨h1,h2⟩:=ZtH h
 rcases h1 with e | e | e | e <;> rw [e] at h2 ⊢
 ·exact ⟨Tb.cover8,h2,by decide⟩
 ·exact ⟨Tb.cover16,h2,by decide⟩
 ·exact ⟨Tb.cover32,h2,by decide⟩
 ·exact ⟨Tb.cover64,h2,by decide⟩
theorem Zsy {t:SetTable} {n:Nat} (h1:t.place.size=n) (h2:t.dummies=#[]) (h3:n≤t.mask):t.fits n=true:=by
 unfold SetTable.fits SetTable.fill
 rw [h2,h1]
 simp
 exact h3
section
variable {prog:Program} {w:World} {A:Around} {E:Value→Shared→Prop} {s:Shared}
theorem Zoj {es:Array (Int×Value)} {t:SetTable} {ks:List Str} (T:Tab w es t ks) {mask f m:Nat} {l p:Bool} (hc:Tb.cover (mask+1)=true) (hn:ks.length≤mask) (hl:bt w=false→l=true) (hp:p=true→ks=[]) :
  ∃ t' order,SetTable.laid mask f m l p (es.map (·.1))=some (t',order)∧(order.filterMap (es[·]?)).size=es.size∧Tab w (order.filterMap (es[·]?)) t' ks:=by
 have hz:=T.len
 obtain ⟨t',order,e,hpm,e1,e2,e3,e4,e5⟩:=Tb.laid_ok hc f m l p (es.map (·.1)) (by rw [Array.size_map];omega)
 rw [Array.size_map] at hpm e2
 have hq:=Tb.order_perm es order hpm
 have hsz:(order.filterMap (es[·]?)).size=es.size:=by rw [← Array.length_toList,hq.length_eq,Array.length_toList]
 refine ⟨t',order,e,hsz,T.perm hq ?_ (fun z=>by rw [e4];exact hl z) fun z=>hp (by rw [← e5];exact z)⟩
 rw [hsz]
 exact Zsy e2 e3 (by rw [e1];omega)
theorem ZsX {a:Addr} {ks:List Str} {n:Nat} {Q:Unit→Shared→Prop} (hS:SS w s.heap a ks) (hn:n < 64) (hk:ks.length≤n)
  (h:∀ h',Heap.SameBut a s.heap h'→SS w h' a ks→Q () { s with heap:=h' }):wpAny (model prog w) A (setRelay a n) Q E s:=by
 obtain ⟨o,es,ep,t,ho,hx,hd,T⟩:=hS
 obtain ⟨hc,h1,h2⟩:=Zjs hn
 have hz:=T.len
 unfold setRelay
 walk_at "pv"
 dsimp only
 rw [if_neg (by have:(64:Nat)≤sizeLine:=by decide
                omega)]
 obtain ⟨t',order,e,hsz,T'⟩:=Zoj (f:=t.finger) (m:=t.movedTo (SetTable.sizeAbove n - 1)) (l:=t.led) (p:=t.plain) T hc (by omega) T.ld T.pl
 refine wpAny_bind ?_
 unfold SetTable.relaid
 rw [e]
 show wpAny (model prog w) A (if ((order.filterMap (es[·]?)).size != es.size)=true then _ else pure (order.filterMap (es[·]?),t')) _ E s
 rw [if_neg (by rw [hsz];simp)]
 refine wpAny_pure (wpAny_storeSet_of ho hd ?_ (fits_of_scanBound (by rw [hsz];unfold scanBound;omega)))
 exact h _ (Heap.SameBut.update s.heap a _) (ZfW ho hx hd T').2
theorem Zvg {a:Addr} {ks:List Str} {n:Nat} {Q:Unit→Shared→Prop} (hS:SS w s.heap a ks) (hn:ks.length+n < 32)
  (h:∀ h',Heap.SameBut a s.heap h'→SS w h' a ks→Q () { s with heap:=h' }):wpAny (model prog w) A (setRoomFor a n) Q E s:=by
 have hS':=hS
 obtain ⟨o,es,ep,t,ho,hx,hd,T⟩:=hS
 have hz:=T.len
 unfold setRoomFor
 walk_at "pv"
 have hp:t.place.size=es.size:=by
  have:=T.ft
  unfold SetTable.fits at this
  simp only [Bool.and_eq_true,beq_iff_eq] at this
  exact this.1
 dsimp only
 unfold SetTable.roomFor
 split
 ·rename_i v e
  split at e
  ·cases e
   exact ZsX hS' (by omega) (by omega) h
  ·cases e
 ·exact wpAny_pure (h s.heap (Heap.SameBut.refl a s.heap) hS')
end
theorem ZhT {α:Type}:∀ (l:List α) (i:Nat) (h:i < l.length),(l[i]::l.eraseIdx i).Perm l
 | a::l,0,h=>List.Perm.refl _
 | a::l,i+1,h=>by
  have h':i < l.length:=Nat.lt_of_succ_lt_succ h
  exact (List.Perm.swap a (l[i]'h') (l.eraseIdx i)).trans ((ZhT l i h').cons a)
theorem ZrU {α:Type} (next:Nat→Nat):∀ (n k:Nat) (left:List α) (out:Array α),left.length=n→(pickOrder.go next n k left out).toList.Perm (out.toList++left)
 | 0,k,left,out,h=>by
  obtain rfl:=List.length_eq_zero_iff.mp h
  rw [List.append_nil]
  exact List.Perm.refl _
 | n+1,k,left,out,h=>by
  have hlt:next k % left.length < left.length:=Nat.mod_lt _ (by omega)
  unfold pickOrder.go
  rw [List.getElem?_eq_getElem hlt]
  dsimp only
  refine (ZrU next n (k+1) _ _ (by rw [List.length_eraseIdx_of_lt hlt];omega)).trans ?_
  rw [Array.toList_push,List.append_assoc]
  refine List.Perm.append_left _ ?_
  exact ZhT left _ hlt
theorem Zmh {α:Type} (next:Nat→Nat) (xs:Array α):(pickOrder next xs).toList.Perm xs.toList:=by
 have:=ZrU next xs.size 0 xs.toList #[] (by simp)
 unfold pickOrder
 simpa using this
section
variable {prog:Program} {w:World} {A:Around} {E:Value→Shared→Prop} {s:Shared}
theorem Zle {Q:Option Bool×Unit→Shared→Prop} {f:Int×Value→Option Bool×Unit→Sem (ForInStep (Option Bool×Unit))} (hf:∀ e,(∃ x u,e=(hashStr w x,Value.str x u))→f e (none,())=pure (ForInStep.yield (none,()))) :
  ∀ (l:List (Int×Value)),(∀ e∈l,∃ x u,e=(hashStr w x,Value.str x u))→Q (none,()) s→wpAny (model prog w) A (forIn l (none,()) f) Q E s
 | [],_,q=>wpAny_pure q
 | e::l,h,q=>by
  rw [List.forIn_cons,hf e (h e List.mem_cons_self)]
  exact wpAny_bind (wpAny_pure (Zle hf l (fun x hx=>h x (List.mem_cons_of_mem _ hx)) q))
theorem Zt1 {a b:Addr} {ka kb:List Str} {Q:Bool→Shared→Prop} (ha:SS w s.heap a ka) (hb:SS w s.heap b kb) (q:Q true s):wpAny (model prog w) A (setsQuiet [a,b]) Q E s:=by
 obtain ⟨oa,ea,pa,ta,ho,hx,hd,T⟩:=ha
 obtain ⟨ob,eb,pb,tb,ho2,hx2,hd2,T2⟩:=hb
 have hyield:∀ e:Int×Value,(∃ x u,e=(hashStr w x,Value.str x u))→True:=fun _ _=>trivial
 unfold setsQuiet
 refine wpAny_bind ?_
 rw [List.forIn_cons]
 refine wpAny_bind (wpAny_bind (wpAny_setEntries_of ho hd T.ft ?_))
 rw [← Array.forIn_toList]
 refine wpAny_bind (Zle (w:=w) (fun e he=>?_) ea.toList T.el (wpAny_pure ?_))
 ·obtain ⟨x,u,rfl⟩:=he;rfl
 dsimp only
 rw [List.forIn_cons]
 refine wpAny_bind (wpAny_bind (wpAny_setEntries_of ho2 hd2 T2.ft ?_))
 rw [← Array.forIn_toList]
 refine wpAny_bind (Zle (w:=w) (fun e he=>?_) eb.toList T2.el (wpAny_pure ?_))
 ·obtain ⟨x,u,rfl⟩:=he;rfl
 dsimp only
 rw [List.forIn_nil]
 exact wpAny_pure (wpAny_pure q)
theorem Zw4 {o f:Addr} {ko ks:List Str} {ob:Obj} {es:Array (Int×Value)} {ep:Nat} {t:SetTable} {Q:Array (Int×Value)→Shared→Prop} (ho:s.heap.get? o=some ob) (hx:ob.ExactSet) (hd:ob.data=.set es ep t) (T:Tab w es t ko) (hf:SS w s.heap f ks) (hk:ks.length < scanBound)
  (h:∀ h' l,Heap.SameBut f s.heap h'→SS w h' f ks→l.toList.Perm es.toList→Q l { s with heap:=h' }):wpAny (model prog w) A (setWalkUnseen o [f] (some f)) Q E s:=by
 have hz:=T.len
 have hall:bt w=true∨es.size≤1→wpAny (model prog w) A (setWalk o) Q E s:=fun hw=>by
  unfold setWalk
  walk_at "pv"
  dsimp only
  unfold setsByText
  walk_at "pc"
  show wpAny (model prog w) A (if bt w=true then _ else _) Q E s
  by_cases hb:bt w=true
  ·rw [if_pos hb]
   exact wpAny_bind (wpAny_askSetting (wpAny_pure (h s.heap _ (Heap.SameBut.refl _ _) hf (Zmh _ _))))
  ·rw [if_neg hb]
   have h1:es.size≤1:=hw.resolve_left hb
   show wpAny (model prog w) A (if (!t.plain&&decide (es.size > 1))=true then _ else _) Q E s
   rw [if_neg (by have:¬ es.size > 1:=by omega
                  simp [this])]
   refine wpAny_bind ?_
   show wpAny (model prog w) A (if (!t.led&&decide (es.size > 1))=true then _ else pure ()) _ E s
   rw [if_neg (by have:¬ es.size > 1:=by omega
                  simp [this])]
   exact wpAny_pure (wpAny_pure (h s.heap _ (Heap.SameBut.refl _ _) hf (List.Perm.refl _)))
 unfold setWalkUnseen
 walk_at "pv"
 dsimp only
 unfold setsByText
 walk_at "pc"
 show wpAny (model prog w) A (if (bt w||t.led&&t.plain||decide (es.size≤1))=true then _ else _) Q E s
 by_cases hc:(bt w||t.led&&t.plain||decide (es.size≤1))=true
 ·rw [if_pos hc]
  refine hall ?_
  simp only [Bool.or_eq_true,Bool.and_eq_true,decide_eq_true_eq] at hc
  rcases hc with (hc | hc) | hc
  ·exact .inl hc
  ·have:=T.pl hc.2
   subst this
   exact .inr (by rw [hz];decide)
  ·exact .inr hc
 ·rw [if_neg hc]
  simp only [Bool.or_eq_true,Bool.and_eq_true,decide_eq_true_eq,not_or] at hc
  have hb:bt w=false:=by simpa using hc.1.1
  refine wpAny_bind (Zt1 ⟨ob,es,ep,t,ho,hx,hd,T⟩ hf ?_)
  rw [if_neg (by decide)]
  refine wpAny_bind (wpAny_rule ?_)
  have hf':=hf
  obtain ⟨of,ef,pf,tf,hof,hxf,hdf,Tf⟩:=hf
  refine wpAny_bind (wpAny_setState_of hof hdf Tf.ft ?_)
  dsimp only
  split
  ·refine wpAny_bind (wpAny_storeSet_of hof hdf ?_ ?_)
   ·refine wpAny_pure (h _ _ (Heap.SameBut.update s.heap f _) (ZfW hof hxf hdf (Tf.perm (List.Perm.refl _) ?_ (fun _=>?_) fun z=>?_)).2 (List.Perm.refl _))
    ·cases tf;exact Tf.ft
    ·show (tf.led&&t.led)=true
     rw [Tf.ld hb,T.ld hb];rfl
    ·refine Tf.pl ?_
     have z':(tf.plain&&t.plain)=true:=z
     simp only [Bool.and_eq_true] at z'
     exact z'.1
   ·exact fits_of_scanBound (by rw [Tf.len];exact hk)
  ·exact wpAny_pure (h _ _ (Heap.SameBut.refl _ _) hf' (List.Perm.refl _))
theorem ZqU {a o:Addr} {ob:Obj} {es:Array (Int×Value)} {ep:Nat} {t:SetTable} (hne:o≠a) (hd:ob.data=.set es ep t) (hf:t.fits es.size=true) {each:Sem Unit} (he:∀ (s':Shared) (Q':Unit→Shared→Prop),s'.heap.get? o=some ob→Q' () s'→wpAny (model prog w) A each Q' E s') {f:Int×Value→PUnit→Sem (ForInStep PUnit)}
  (hbody:∀ x u,f (hashStr w x,Value.str x u) PUnit.unit=(do let _ ← holding [Value.str x u] (setAddHashed a (Value.str x u) (hashStr w x));each;let r ← setState o;if (r.2.1 != ep)=true then (do unsupported "set.changed-during-merge";pure (ForInStep.yield PUnit.unit)) else pure (ForInStep.yield PUnit.unit))) :
  ∀ (l:List (Int×Value)) (s:Shared) (ks:List Str) (Q:PUnit→Shared→Prop),(∀ e∈l,∃ x u,e=(hashStr w x,Value.str x u))→s.heap.get? o=some ob→SS w s.heap a ks→ks.length+l.length < scanBound →
   (∀ h' ks',Heap.SameBut a s.heap h'→SS w h' a ks'→(∀ x,x∈ks'↔x∈ks∨x∈l.map fun e=>strOf e.2)→Q PUnit.unit { s with heap:=h' })→wpAny (model prog w) A (forIn l PUnit.unit f) Q E s
 | [],s,ks,Q,_,_,hS,_,h=>wpAny_pure (h s.heap ks (Heap.SameBut.refl _ _) hS fun x=>⟨.inl,fun z=>z.elim id fun z=>by cases z⟩)
 | e::l,s,ks,Q,hel,ho,hS,hn,h=>by
  obtain ⟨x,u,rfl⟩:=hel e List.mem_cons_self
  simp only [List.length_cons] at hn
  rw [List.forIn_cons,hbody x u]
  refine wpAny_bind (wpAny_bind (wpAny_holding (Zuz hS (by omega) fun h1 b hsb hS1=>?_)))
  have ho1:h1.get? o=some ob:=by rw [hsb.2 o hne];exact ho
  refine wpAny_bind (he _ _ ho1 (wpAny_bind (wpAny_setState_of ho1 hd hf ?_)))
  rw [if_neg (by simp)]
  refine wpAny_pure (ZqU hne hd hf he hbody l _ _ Q (fun y hy=>hel y (List.mem_cons_of_mem _ hy)) ho1 hS1 (by split <;> (try rw [List.length_cons]) <;> omega) fun h2 ks' hsb2 hS2 hx=>?_)
  refine h h2 ks' (hsb.trans hsb2) hS2 fun y=>(hx y).trans ?_
  rw [List.map_cons,List.mem_cons]
  show _↔y∈ks∨y=x∨_
  have hm:y∈(if x∈ks then ks else x::ks)↔y∈ks∨y=x:=by
   split
   ·rename_i hin
    exact ⟨.inl,fun z=>z.elim id fun e=>e▸hin⟩
   ·rw [List.mem_cons]
    exact ⟨fun z=>z.elim .inr .inl,fun z=>z.elim .inr .inl⟩
  rw [hm,or_assoc]
end
section
variable {prog:Program} {w:World} {A:Around} {E:Value→Shared→Prop} {s:Shared}
structure Bare (led:Bool) (n:Nat) (t:SetTable):Prop where
 pl:t.place=#[]
 dm:t.dummies=#[]
 cv:Tb.cover (t.mask+1)=true
 rm:n≤t.mask
 ld:t.led=led
theorem Bare.fits {led:Bool} {n:Nat} {t:SetTable} (B:Bare led n t):t.fits 0=true:=Zsy (by rw [B.pl];rfl) B.dm (Nat.zero_le _)
theorem Zsh {a:Addr} {led:Bool} {n:Nat} {Q:Unit→Shared→Prop} (ha:s.heap.get? a=some (Zbh led)) (hn:n < 16)
  (h:∀ h' ep t,Heap.SameBut a s.heap h'→h'.get? a=some { Zbh led with data:=.set #[] ep t }→Bare led n t→Q () { s with heap:=h' }):wpAny (model prog w) A (setRoomFor a n) Q E s:=by
 unfold setRoomFor
 refine wpAny_bind (wpAny_setState_of ha rfl rfl ?_)
 show wpAny (model prog w) A (match (if (0+n)*5≥7*3 then some ((0+n)*2) else none) with | some v=>setRelay a v | _=>pure ()) Q E s
 by_cases hc:(0+n)*5≥7*3
 ·rw [if_pos hc]
  obtain ⟨hcv,h1,h2⟩:=Zjs (n:=(0+n)*2) (by omega)
  dsimp only
  unfold setRelay
  refine wpAny_bind (wpAny_setState_of ha rfl rfl ?_)
  dsimp only
  rw [if_neg (by have:(64:Nat)≤sizeLine:=by decide
                 omega)]
  obtain ⟨t',order,e,hpm,e1,e2,e3,e4,e5⟩:=Tb.laid_ok hcv (SetTable.fresh 0 0 led).finger ((SetTable.fresh 0 0 led).movedTo (SetTable.sizeAbove ((0+n)*2) - 1)) (SetTable.fresh 0 0 led).led (SetTable.fresh 0 0 led).plain (Array.map (·.1) (#[]:Array (Int×Value))) (by simp)
  refine wpAny_bind ?_
  unfold SetTable.relaid
  rw [e]
  have hord:order=#[]:=by
   have:=hpm.length_eq
   simp at this
   exact this
  subst hord
  show wpAny (model prog w) A (pure ((#[]:Array Nat).filterMap ((#[]:Array (Int×Value))[·]?),t')) _ E s
  refine wpAny_pure (wpAny_storeSet_of ha rfl ?_ (Nat.zero_le _))
  refine h _ 1 t' (Heap.SameBut.update s.heap a _) ?_ ⟨?_,e3,by rw [e1];exact hcv,by rw [e1];omega,e4⟩
  ·have hz:=Heap.get?_update_self (Obj.putSet #[] t') ha (by rw [putSet_of #[] t' rfl];rfl)
   rw [putSet_of #[] t' rfl] at hz
   exact hz
  ·exact Array.eq_empty_of_size_eq_zero (by rw [e2];simp)
 ·rw [if_neg hc]
  exact wpAny_pure (h s.heap 0 _ (Heap.SameBut.refl _ _) ha ⟨rfl,rfl,Tb.cover8,by show n≤7;omega,rfl⟩)
theorem Zkk {a o:Addr} {led:Bool} {ko:List Str} {each:Sem Unit} {Q:Unit→Shared→Prop} (hne:o≠a) (ha:s.heap.get? a=some (Zbh led)) (hl:bt w=false→led=true) (hS:SS w s.heap o ko) (hn:ko.length < 16)
  (h:∀ h',Heap.SameBut a s.heap h'→SS w h' a ko→(ko=[]→h'.get? a=some (Zbh led))→Q () { s with heap:=h' }):wpAny (model prog w) A (setMerge a o each) Q E s:=by
 obtain ⟨ob,es,ep,t,ho,hx,hd,T⟩:=hS
 have hz:=T.len
 unfold setMerge
 rw [if_neg (by simp only [beq_iff_eq];exact fun z=>hne z.symm)]
 walk_at "pv"
 dsimp only
 by_cases hem:es.isEmpty=true
 ·rw [if_pos hem]
  have:ko=[]:=by
   rw [Array.isEmpty_iff] at hem
   subst hem
   exact List.length_eq_zero_iff.mp hz.symm
  subst this
  exact wpAny_pure (h s.heap (Heap.SameBut.refl _ _) (ZoW led hl ha) fun _=>ha)
 ·rw [if_neg hem]
  have hko:ko≠[]:=fun z=>by
   subst z
   exact hem (by rw [Array.isEmpty_iff];exact Array.eq_empty_of_size_eq_zero hz)
  refine wpAny_bind (Zsh ha (by omega) fun h1 ep1 t1 hsb ha1 B=>?_)
  refine wpAny_bind (wpAny_setState_of ha1 rfl B.fits ?_)
  dsimp only
  have hld:bt w=false→(t1.led&&t.led)=true:=fun z=>by rw [B.ld,hl z,T.ld z];rfl
  have hpl:(t1.plain&&t.plain)=true→ko=[]:=fun z=>by
   simp only [Bool.and_eq_true] at z
   exact T.pl z.2
  have hfill:(t1.fill != 0)=false:=by unfold SetTable.fill;rw [B.pl,B.dm];rfl
  unfold SetTable.road
  rw [hfill]
  walk_at "py"
  by_cases hr:(t1.mask==t.mask&&t.dummies.isEmpty)=true
  ·rw [if_pos hr]
   dsimp only
   refine wpAny_storeSet_of ha1 rfl ?_ (fits_of_scanBound (by unfold scanBound;omega))
   refine h _ (hsb.trans (Heap.SameBut.update h1 a _)) (ZfW ha1 ⟨rfl,rfl,rfl⟩ rfl (T.perm (List.Perm.refl _) ?_ hld hpl)).2 fun z=>absurd z hko
   have:=T.ft
   cases t
   exact this
  ·rw [if_neg hr]
   dsimp only
   obtain ⟨t',order,e,hsz,T'⟩:=Zoj (f:=t1.finger) (m:=t1.moves) T B.cv (by have:=B.rm;omega) hld hpl
   refine wpAny_bind ?_
   rw [e]
   show wpAny (model prog w) A (if ((order.filterMap (es[·]?)).size != es.size)=true then _ else pure (order.filterMap (es[·]?),t')) _ E _
   rw [if_neg (by rw [hsz];simp)]
   refine wpAny_pure (wpAny_storeSet_of ha1 rfl ?_ (fits_of_scanBound (by rw [hsz];unfold scanBound;omega)))
   exact h _ (hsb.trans (Heap.SameBut.update h1 a _)) (ZfW ha1 ⟨rfl,rfl,rfl⟩ rfl T').2 fun z=>absurd z hko
theorem Zpm {a o:Addr} {ks ko:List Str} {each:Sem Unit} {Q:Unit→Shared→Prop} (hne:o≠a) (hk:ks≠[]) (hA:SS w s.heap a ks) (hS:SS w s.heap o ko) (hn:ks.length+ko.length < 32)
  (he:∀ ob,s.heap.get? o=some ob→∀ (s':Shared) (Q':Unit→Shared→Prop),s'.heap.get? o=some ob→Q' () s'→wpAny (model prog w) A each Q' E s')
  (h:∀ h' ks',Heap.SameBut a s.heap h'→SS w h' a ks'→(∀ x,x∈ks'↔x∈ks∨x∈ko)→Q () { s with heap:=h' }):wpAny (model prog w) A (setMerge a o each) Q E s:=by
 obtain ⟨ob,es,ep,t,ho,hx,hd,T⟩:=hS
 have hz:=T.len
 have he:=he ob ho
 unfold setMerge
 rw [if_neg (by simp only [beq_iff_eq];exact fun z=>hne z.symm)]
 walk_at "pv"
 dsimp only
 by_cases hem:es.isEmpty=true
 ·rw [if_pos hem]
  have:ko=[]:=by
   rw [Array.isEmpty_iff] at hem
   subst hem
   exact List.length_eq_zero_iff.mp hz.symm
  subst this
  exact wpAny_pure (h s.heap ks (Heap.SameBut.refl _ _) hA fun x=>⟨.inl,fun z=>z.elim id fun z=>by cases z⟩)
 ·rw [if_neg hem]
  refine wpAny_bind (Zvg hA (by omega) fun h1 hsb hA1=>?_)
  have hA1':=hA1
  obtain ⟨oa,ea,pa,ta,hoa,hxa,hda,Ta⟩:=hA1
  refine wpAny_bind (wpAny_setState_of hoa hda Ta.ft ?_)
  dsimp only
  have hfill:(ta.fill != 0)=true:=by
   have hp:=Ta.ft
   unfold SetTable.fits at hp
   simp only [Bool.and_eq_true,beq_iff_eq] at hp
   have hl:=Ta.len
   have:ks.length≠0:=fun z=>hk (List.length_eq_zero_iff.mp z)
   unfold SetTable.fill
   simp only [bne_iff_ne,ne_eq]
   omega
  unfold SetTable.road
  rw [hfill]
  simp only [if_true]
  have ho1:h1.get? o=some ob:=by rw [hsb.2 o hne];exact ho
  refine wpAny_bind (Zw4 ho1 hx hd T hA1' (by unfold scanBound;omega) fun h2 l hsb2 hA2 hp=>?_)
  have ho2:h2.get? o=some ob:=by rw [hsb2.2 o hne];exact ho1
  rw [← Array.forIn_toList]
  refine wpAny_bind (ZqU hne hd T.ft he (fun x u=>rfl) l.toList _ ks _ (fun e hm=>T.el e (hp.mem_iff.mp hm)) ho2 hA2 ?_ fun h3 ks' hsb3 hA3 hx=>?_)
  ·have hl:l.toList.length=es.size:=hp.length_eq.trans Array.length_toList
   rw [hl];unfold scanBound;omega
  ·refine wpAny_pure (h h3 ks' ((hsb.trans hsb2).trans hsb3) hA3 fun x=>(hx x).trans ?_)
   rw [((hp.map _).trans T.pm).mem_iff]
end
theorem ZsS:entryFor table "set.__or__"=some Builtin.«frozenset.__or__»:=entryFor_alias (id':="frozenset.__or__") (by kernel_rfl) rfl (by decide +kernel) (by kernel_rfl)
section
variable {prog:Program} {w:World} {A:Around} {E:Value→Shared→Prop} {s:Shared}
theorem SS.ty {a:Addr} {ks:List Str} (S:SS w s.heap a ks):s.TypeIs (.ref a) "set":=by
 obtain ⟨o,es,ep,t,ho,hx,_⟩:=S
 exact ⟨o,ho,hx.1⟩
theorem ZnY {a:Addr} {Q:Bool→Shared→Prop} (hT:s.TypeIs (.ref a) "set") (q:Q true s):wpAny (model prog w) A (Builtin.Frozenset.isAnySet (.ref a)) Q E s:=by
 unfold Builtin.Frozenset.isAnySet
 refine wpAny_bind (wpAny_isInstance hT sub_set_self ?_)
 exact wpAny_pure q
theorem SS.new {a:Addr} {ks:List Str} (S:SS w s.heap a ks) (o:Obj):SS w (s.heap.push o) a ks:=S.kept fun _ e=>Heap.get?_push_of_some _ e
theorem SS.lt {a:Addr} {ks:List Str} (S:SS w s.heap a ks):a < s.heap.objs.size:=by
 obtain ⟨o,es,ep,t,ho,_⟩:=S
 exact Heap.lt_size ho
theorem SS.same {h h':Heap} {a b:Addr} {ks:List Str} (S:SS w h a ks) (hne:a≠b) (hsb:Heap.SameBut b h h'):SS w h' a ks:=S.kept fun o e=>by rw [hsb.2 a hne];exact e
theorem ZAc {a b:Addr} {ka kb:List Str} {Q:Value→Shared→Prop} (hab:a≠b) (ha:SS w s.heap a ka) (hb:SS w s.heap b kb) (hna:ka.length < 16) (hnb:kb.length < 16)
  (h:∀ h' ks,SS w h' s.heap.objs.size ks→(∀ x,x∈ks↔x∈ka∨x∈kb)→(∀ c o,c < s.heap.objs.size→s.heap.get? c=some o→h'.get? c=some o)→Q (.ref s.heap.objs.size) { s with heap:=h' }) :
  wpAny (model prog w) A (binaryOp .BitOr (.ref a) (.ref b)) Q E s:=by
 refine wpAny_binaryOp_same (op:=.BitOr) (T:="set") ha.ty hb.ty PySem.F.fills_set_or PySem.F.slot_set_or (wpAny_call_entry PySem.F.slot_set_or ha.ty ZsS ?_ (PySem.F.args_set_or_2 _ _))
 unfold Builtin.«frozenset.__or__»
 refine wpAny_bind (m:=Builtin.Frozenset.slot1 "__or__" ⟨[.ref a,.ref b],[]⟩) ?_
 unfold Builtin.Frozenset.slot1
 refine wpAny_bind (wpAny_pure (a:=(Value.ref a,[Value.ref b])) ?_)
 refine wpAny_pure ?_
 refine wpAny_bind (m:=(Builtin.Frozenset.isAnySet (.ref a) <&&> Builtin.Frozenset.isAnySet (.ref b))) ?_
 refine wpAny_bind (ZnY ha.ty (ZnY hb.ty ?_))
 rw [if_neg (by decide)]
 refine wpAny_bind (m:=Builtin.Frozenset.addrOf (.ref a)) (wpAny_pure ?_)
 refine wpAny_bind ?_
 refine wpAny_bind (m:=Builtin.Frozenset.copyOf a) ?_
 unfold Builtin.Frozenset.copyOf Builtin.Frozenset.baseOf
 refine wpAny_bind (wpAny_bind (wpAny_isInstance ha.ty sub_set_self (wpAny_pure ?_)))
 rw [if_pos rfl]
 refine wpAny_bind (Zv3 fun led hled=>?_)
 refine wpAny_bind (wpAny_pure ?_)
 have hne:∀ {c:Addr},c < s.heap.objs.size→c≠s.heap.objs.size:=fun z=>Nat.ne_of_lt z
 have hfr:(s.heap.push (Zbh led)).get? s.heap.objs.size=some (Zbh led):=Heap.get?_push_size _ rfl
 refine wpAny_bind (Zkk (s:={ s with heap:=s.heap.push (Zbh led) }) (hne ha.lt) hfr hled (ha.new _) hna fun h1 hsb hS1 hnil=>?_)
 refine wpAny_pure ?_
 show wpAny (model prog w) A.in1 (if (Value.ref b != Value.ref a)=true then _ else _) _ E _
 rw [if_pos (by simp only [bne_iff_ne,ne_eq,Value.ref.injEq];exact fun z=>hab z.symm)]
 refine wpAny_bind (m:=Builtin.Frozenset.addrOf _) (wpAny_pure ?_)
 have hb1:SS w h1 b kb:=(hb.new (Zbh led)).same (hne hb.lt) hsb
 have hT1:Shared.TypeIs { s with heap:=h1 } (.ref b) "set":=SS.ty (s:={ s with heap:=h1 }) hb1
 have keep:∀ h2,Heap.SameBut s.heap.objs.size h1 h2→∀ c o,c < s.heap.objs.size→s.heap.get? c=some o→h2.get? c=some o:=fun h2 hsb2 c o hc e=>by
  rw [hsb2.2 c (hne hc),hsb.2 c (hne hc)]
  exact Heap.get?_push_of_some _ e
 refine wpAny_bind (wpAny_holding ?_)
 unfold Builtin.Frozenset.updateFrom
 refine wpAny_bind (ZnY hT1 ?_)
 rw [if_pos rfl]
 refine wpAny_bind (m:=Builtin.Frozenset.addrOf (.ref b)) (wpAny_pure ?_)
 unfold Builtin.Frozenset.merge
 have hb1':=hb1
 obtain ⟨ob,es,ep,t,ho,hx,hd,T⟩:=hb1
 refine wpAny_bind (wpAny_setEpoch_of ho hd T.ft ?_)
 have fin:∀ h2 ks,Heap.SameBut s.heap.objs.size h1 h2→SS w h2 s.heap.objs.size ks→(∀ x,x∈ks↔x∈ka∨x∈kb)→Q (.ref s.heap.objs.size) { s with heap:=h2 }:=fun h2 ks hsb2 hS2 hx=>h h2 ks hS2 hx (keep h2 hsb2)
 by_cases hk:ka=[]
 ·subst hk
  refine Zkk (s:={ s with heap:=h1 }) (hne hb.lt) (hnil rfl) hled hb1' hnb fun h2 hsb2 hS2 _=>?_
  refine wpAny_pure (wpAny_pure ⟨_,rfl,by simp,fin h2 kb hsb2 hS2 fun x=>⟨.inr,fun z=>z.elim (fun z=>by cases z) id⟩⟩)
 ·refine Zpm (s:={ s with heap:=h1 }) (hne hb.lt) hk hS1 hb1' (by omega) (fun ob' ho' s' Q' ho2 q'=>?_) fun h2 ks hsb2 hS2 hx=>?_
  ·have e:ob'=ob:=by
    have:=ho'.symm.trans ho
    exact Option.some.inj this
   subst e
   unfold Builtin.Frozenset.unchanged
   refine wpAny_bind (wpAny_setEpoch_of ho2 hd T.ft ?_)
   rw [if_neg (by simp)]
   exact wpAny_pure q'
  ·exact wpAny_pure (wpAny_pure ⟨_,rfl,by simp,fin h2 ks hsb2 hS2 hx⟩)
end
theorem ZgX:Slot "set_iterator" "__next__" "set_iterator.__next__":=.of (owner:="set_iterator") (n:="__next__") (by rw [typeLookup_type,builtinLookup_eq_fast];kernel_rfl) (by decide +kernel) (by decide +kernel) (by decide +kernel) (by first | exact .inl (by decide +kernel) | exact .inr (by decide +kernel)) (by rw [isSubtype_type];kernel_rfl)
theorem Zr0:Slot "set" "__iter__" "set.__iter__":=.of (owner:="set") (n:="__iter__") (by rw [typeLookup_type,builtinLookup_eq_fast];kernel_rfl) (by decide +kernel) (by decide +kernel) (by decide +kernel) (by first | exact .inl (by decide +kernel) | exact .inr (by decide +kernel)) (by rw [isSubtype_type];kernel_rfl)
theorem Zop:entryFor table "set_iterator.__next__"=some Builtin.«set_iterator.__next__»:=entryFor_of_fast (by kernel_rfl)
theorem ZsV:entryFor table "set.__iter__"=some Builtin.«frozenset.__iter__»:=entryFor_alias (id':="frozenset.__iter__") (by kernel_rfl) rfl (by decide +kernel) (by kernel_rfl)
theorem Zr2 (a:Value):argsOk "set_iterator.__next__" ⟨[a],[]⟩:=by unfold argsOk;kernel_rfl
theorem Zv5 (a:Value):argsOk "set.__iter__" ⟨[a],[]⟩:=by unfold argsOk;kernel_rfl
section
variable {prog:Program} {w:World} {A:Around} {E:Value→Shared→Prop} {s:Shared}
theorem ZAA {src:Source} {n:Nat} {Q:Nat→Shared→Prop} (hn:n≠0) (h:∀ i d,i < n→Q i { s with drawn:=d }):wpAny (model prog w) A (choose src n) Q E s :=
 fun _ _ _=>⟨hn,h _ _ (Nat.mod_lt _ (Nat.pos_of_ne_zero hn))⟩
theorem Zrt {α:Type}:∀ (n:Nat) (xs:List α) (s:Shared) (Q:List α→Shared→Prop),xs.length=n→(∀ ys d,ys.Perm xs→Q ys { s with drawn:=d })→wpAny (model prog w) A (drawOrder n xs) Q E s
 | 0,xs,s,Q,h,q=>by
  obtain rfl:=List.length_eq_zero_iff.mp h
  exact wpAny_pure (q [] s.drawn (List.Perm.refl _))
 | n+1,[],s,Q,h,q=>by cases h
 | n+1,x::xs,s,Q,h,q=>by
  unfold drawOrder
  refine wpAny_bind (ZAA (by simp) fun i d hi=>?_)
  rw [List.getElem?_eq_getElem hi]
  dsimp only
  refine wpAny_bind (Zrt n _ _ _ (by rw [List.length_eraseIdx_of_lt hi];simpa using h) fun ys d' hp=>?_)
  exact wpAny_pure (q _ d' ((hp.cons _).trans (ZhT _ i hi)))
abbrev Itr (first:Value) (i:Nat) (a:Addr) (n ep:Nat):Obj:={ cls:=.type "set_iterator",data:=.fields #[first,.int i 0,.ref a,.int n 0,.int ep 0] }
inductive Md (w:World) (a T:Addr) (es:Array (Int×Value)) (ep:Nat) (t:SetTable) (l:List (Int×Value)) (h:Heap):Value→Nat→Prop where
 | drawn {ps:List Nat} {oT:Obj} {c i:Nat}:h.get? T=some oT→oT.data=.seq (ps.map fun p:Nat=>rawInt p).toArray c→ps.length=l.length→(∀ (j p:Nat),ps[j]?=some p→∃ e,es[p]?=some e∧l[j]?=some e)→Md w a T es ep t l h (.ref T) i
 | text {k i:Nat}:bt w=true→l=(pickOrder (w.params.setOrder a ep) es).toList→Md w a T es ep t l h (.int k 0) i
 | few {k i:Nat}:bt w=false→t.led=true→es.size≤1→l=es.toList→(i=0→k=0)→(∀ j:Nat,i=1→t.place[0]?=some j→k=j+1)→Md w a T es ep t l h (.int k 0) i
structure Wk (w:World) (it a T:Addr) (ob:Obj) (es:Array (Int×Value)) (ep:Nat) (t:SetTable) (l:List (Int×Value)) (i:Nat) (h:Heap):Prop where
 st:∃ first,h.get? it=some (Itr first i a es.size ep)∧Md w a T es ep t l h first i
 ob:h.get? a=some ob
theorem Md.at {w:World} {a T:Addr} {es:Array (Int×Value)} {ep:Nat} {t:SetTable} {l:List (Int×Value)} {h h':Heap} {v:Value} {i:Nat} (M:Md w a T es ep t l h v i) (k:∀ o,h.get? T=some o→h'.get? T=some o):Md w a T es ep t l h' v i:=by
 cases M with
 | drawn h1 h2 h3 h4=>exact .drawn (k _ h1) h2 h3 h4
 | text h1 h2=>exact .text h1 h2
 | few h1 h2 h3 h4 h5 h6=>exact .few h1 h2 h3 h4 h5 h6
theorem ZqP {h:Heap} {it a:Addr} {first:Value} {i n ep:Nat} (e:h.get? it=some (Itr first i a n ep)) (j:Nat):(h.update it (Obj.mapFields (·.setIfInBounds 1 (rawInt j)))).get? it=some (Itr first j a n ep):=by
 have hz:=Heap.get?_update_self (Obj.mapFields (·.setIfInBounds 1 (rawInt j))) e (Obj.isFreed_of_fields (Obj.data_mapFields rfl _))
 rw [hz];rfl
theorem ZiK {h:Heap} {it a:Addr} {first:Value} {i n ep:Nat} (e:h.get? it=some (Itr first i a n ep)) (v:Value):(h.update it (Obj.mapFields (·.setIfInBounds 0 v))).get? it=some (Itr v i a n ep):=by
 have hz:=Heap.get?_update_self (Obj.mapFields (·.setIfInBounds 0 v)) e (Obj.isFreed_of_fields (Obj.data_mapFields rfl _))
 rw [hz];rfl
end
section
variable {prog:Program} {w:World} {A:Around} {E:Value→Shared→Prop} {s:Shared}
theorem ZmW (j k:Nat):SetTable.below #[j] k=if j < k then 1 else 0:=by
 show SetTable.below.go #[j] k 1 0 1=_
 unfold SetTable.below.go
 simp only [Nat.zero_lt_one,if_true]
 show (if j < k then SetTable.below.go #[j] k 0 1 1 else SetTable.below.go #[j] k 0 0 0)=_
 rfl
theorem ZiI {α:Type} {xs:Array α} (h:xs.size≤1):xs=#[]∨∃ x,xs=#[x]:=by
 obtain ⟨l⟩:=xs
 match l,h with
 | [],_=>exact .inl rfl
 | [x],_=>exact .inr ⟨x,rfl⟩
theorem Zra {it a T:Addr} {ob:Obj} {es:Array (Int×Value)} {ep:Nat} {t:SetTable} {ks:List Str} {l:List (Int×Value)} {i:Nat} {e:Int×Value} {Q:Option Value→Shared→Prop} (hx:ob.ExactSet) (hd:ob.data=.set es ep t) (Tb:Tab w es t ks) (hia:a≠it) (hiT:T≠it) (S:Wk w it a T ob es ep t l i s.heap) (hl:l[i]?=some e)
  (hQ:∀ h',Wk w it a T ob es ep t l (i+1) h'→Heap.SameBut it s.heap h'→Q (some e.2) { s with heap:=h' }):wpAny (model prog w) A (pyNext (.ref it)) Q E s:=by
 obtain ⟨⟨first,hi,M⟩,ho⟩:=S
 have hT:s.TypeIs (.ref it) "set_iterator":=⟨_,hi,rfl⟩
 unfold pyNext
 refine wpAny_bind (wpAny_attempt (wpAny_callSpecial?_slot (name:=Str.ofString "__next__") hT ZgX (wpAny_call_entry ZgX hT Zop ?_ (Zr2 _))))
 unfold Builtin.«set_iterator.__next__»
 refine wpAny_bind (wpAny_pure (a:=(Value.ref it,([]:List Value))) ?_)
 refine wpAny_bind (wpAny_fieldsOf hi rfl ?_)
 dsimp only
 refine wpAny_bind (wpAny_setEntries_of ho hd Tb.ft ?_)
 rw [if_neg (by simp)]
 have two:∀ (v:Value),Md w a T es ep t l s.heap v (i+1)→Q (some e.2) { s with heap:=(s.heap.update it (Obj.mapFields (·.setIfInBounds 0 v))).update it (Obj.mapFields (·.setIfInBounds 1 (rawInt (i+1)))) }:=fun v M'=>by
  have sb:=(Heap.SameBut.update s.heap it (Obj.mapFields (·.setIfInBounds 0 v))).trans (Heap.SameBut.update _ it (Obj.mapFields (·.setIfInBounds 1 (rawInt (i+1)))))
  refine hQ _ ⟨⟨v,ZqP (ZiK hi v) (i+1),M'.at fun o z=>by rw [sb.2 T hiT];exact z⟩,by rw [sb.2 a hia];exact ho⟩ sb
 cases M with
 | drawn h1 h2 h3 h4 =>
  rename_i ps oT c
  obtain ⟨p,hp⟩:∃ p,ps[i]?=some p:=by
   obtain ⟨hlt,_⟩:=List.getElem?_eq_some_iff.mp hl
   exact ⟨_,List.getElem?_eq_getElem (by omega)⟩
  obtain ⟨e',he,hl'⟩:=h4 i p hp
  obtain rfl:e'=e:=Option.some.inj (hl'.symm.trans hl)
  dsimp only
  refine wpAny_bind (wpAny_seqItems h1 h2 ?_)
  dsimp only
  have hq:(ps.map fun p:Nat=>rawInt p).toArray[(Int.ofNat i).toNat]?=some (rawInt p):=by
   simp [hp]
  have hq':(ps.map fun p:Nat=>rawInt p).toArray[((i:Int)).toNat]?=some (.int (p:Int) 0):=hq
  rw [hq']
  dsimp only
  refine wpAny_bind ?_
  unfold setNextDrawn
  walk_at "pu"
  dsimp only
  rw [if_neg (by simp)]
  rw [show ((p:Int)).toNat=p from Int.toNat_natCast p,he]
  dsimp only
  refine wpAny_pure (wpAny_bind (wpAny_setField hi rfl (by simp) (wpAny_pure ⟨_,rfl,wpAny_pure ?_⟩)))
  have sb:=Heap.SameBut.update s.heap it (Obj.mapFields (·.setIfInBounds 1 (rawInt (i+1))))
  exact hQ _ ⟨⟨_,ZqP hi (i+1),.drawn (by rw [sb.2 T hiT];exact h1) h2 h3 h4⟩,by rw [sb.2 a hia];exact ho⟩ sb
 | text h1 h2 =>
  rename_i k
  dsimp only
  refine wpAny_bind ?_
  unfold setNext
  walk_at "pu"
  dsimp only
  unfold setsByText
  walk_at "pc"
  walk_at "po"
  rw [if_pos h1,if_neg (by simp)]
  unfold setWalk
  refine wpAny_bind (wpAny_bind (wpAny_setState_of ho hd Tb.ft ?_))
  dsimp only
  unfold setsByText
  walk_at "pc"
  walk_at "po"
  rw [if_pos h1]
  refine wpAny_bind (wpAny_askSetting (wpAny_pure ?_))
  subst h2
  rw [Array.getElem?_toList] at hl
  show wpAny (model prog w) _ (pure (((pickOrder (w.params.setOrder a ep) es)[((i:Int)).toNat]?).map _)) _ _ s
  rw [show ((i:Int)).toNat=i from Int.toNat_natCast i,hl]
  refine wpAny_pure ?_
  dsimp only [Option.map_some]
  walk_at "px"
  refine wpAny_bind (wpAny_setField (ZiK hi _) rfl (by simp) (wpAny_pure ⟨_,rfl,wpAny_pure ?_⟩))
  exact two _ (.text h1 rfl)
 | few h1 h2 h3 h4 h5 h6 =>
  rename_i k
  subst h4
  rw [Array.getElem?_toList] at hl
  have hft:=Tb.ft
  rcases ZiI h3 with z | ⟨x,z⟩
  ·rw [z] at hl;simp at hl
  ·rw [z] at hl
   have hi0:i=0:=by
    obtain ⟨hlt,_⟩:=Array.getElem?_eq_some_iff.mp hl
    simpa using hlt
   subst hi0
   obtain rfl:x=e:=by simpa using hl
   obtain rfl:=h5 rfl
   have hps:t.place.size=1:=by
    unfold SetTable.fits at hft
    rw [z] at hft
    simp only [Bool.and_eq_true,beq_iff_eq] at hft
    exact hft.1
   obtain ⟨j,hj⟩:∃ j,t.place=#[j]:=by
    rcases ZiI (by omega:t.place.size≤1) with q | q
    ·rw [q] at hps;cases hps
    ·exact q
   dsimp only
   refine wpAny_bind ?_
   unfold setNext
   walk_at "pu"
   dsimp only
   unfold setsByText
   walk_at "pc"
   walk_at "po"
   rw [if_neg (by rw [h1];decide)]
   show wpAny (model prog w) _ (if (!t.plain&&decide (es.size > 1))=true then _ else _) _ _ s
   rw [if_neg (by have:¬ es.size > 1:=by omega
                  simp [this])]
   refine wpAny_bind ?_
   show wpAny (model prog w) _ (if (!t.led&&!es.isEmpty)=true then _ else pure ()) _ _ s
   rw [if_neg (by rw [h2];simp)]
   refine wpAny_pure ?_
   show wpAny (model prog w) _ (pure (match es[SetTable.below t.place 0]?,t.place[SetTable.below t.place 0]? with | some (_,x),some j=>some (x,j+1) | _,_=>none)) _ _ s
   rw [hj,ZmW,if_neg (by omega),z]
   refine wpAny_pure ?_
   walk_at "px"
   refine wpAny_bind (wpAny_setField (ZiK hi _) rfl (by simp) (wpAny_pure ⟨_,rfl,wpAny_pure ?_⟩))
   refine two _ (.few (k:=j+1) h1 h2 h3 rfl (fun q=>by cases q) fun j' _ q=>?_)
   rw [hj] at q
   have:j=j':=by simpa using q
   omega
end
section
variable {prog:Program} {w:World} {A:Around} {E:Value→Shared→Prop} {s:Shared}
theorem ZnW {it:Addr} {h0 h1:Heap} {R:Fin→Shared→Prop} {Q:Option Value→Shared→Prop} (hh:A.handled=none) (x:Heap.ExtBut it h0 h1) (hQ:∀ h',Heap.ExtBut it h0 h'→Q none { s with heap:=h' }) :
  wpAny (model prog w) A.in1 (do let e ← newExc (.type "StopIteration") [];raiseNew e) R (fun e s'=>wpAny (model prog w) A (do let b ← isInstance e (.type "StopIteration");if b=true then pure none else throw e) Q E s') { s with heap:=h1 }:=by
 refine wpAny_bind ?_
 simp only [newExc,newTuple]
 refine wpAny_bind (wpAny_newObj_type ?_ (by size_fits))
 refine wpAny_bind (m:=firstArgMember _ _) (wpAny_of_eq (a:=Value.none) (by first | rfl | (simp only [firstArgMember];rfl)) (wpAny_newObj_type ?_ (by size_fits)))
 simp only [raiseNew]
 refine wpAny_bind (wpAny_handled ?_)
 rw [show A.in1.handled=none from hh]
 refine wpAny_bind (wpAny_pure (wpAny_throw ?_));refine wpAny_bind (wpAny_isInstance (T:="StopIteration") (b:=true) ⟨_,Heap.get?_push_size _ rfl,rfl⟩ isSubtype_stop ?_)
 exact wpAny_pure (hQ _ ((x.push _).push _))
theorem Zqn {it a T:Addr} {ob:Obj} {es:Array (Int×Value)} {ep:Nat} {t:SetTable} {ks:List Str} {l:List (Int×Value)} {i:Nat} {Q:Option Value→Shared→Prop} (hh:A.handled=none) (hx:ob.ExactSet) (hd:ob.data=.set es ep t) (Tb:Tab w es t ks) (S:Wk w it a T ob es ep t l i s.heap) (hl:l.length=i) (hes:es.size=i)
  (hQ:∀ h',Heap.ExtBut it s.heap h'→Q none { s with heap:=h' }):wpAny (model prog w) A (pyNext (.ref it)) Q E s:=by
 obtain ⟨⟨first,hi,M⟩,ho⟩:=S
 have hT:s.TypeIs (.ref it) "set_iterator":=⟨_,hi,rfl⟩
 unfold pyNext
 refine wpAny_bind (wpAny_attempt (wpAny_callSpecial?_slot (name:=Str.ofString "__next__") hT ZgX (wpAny_call_entry ZgX hT Zop ?_ (Zr2 _))))
 unfold Builtin.«set_iterator.__next__»
 refine wpAny_bind (wpAny_pure (a:=(Value.ref it,([]:List Value))) ?_)
 refine wpAny_bind (wpAny_fieldsOf hi rfl ?_)
 dsimp only
 refine wpAny_bind (wpAny_setEntries_of ho hd Tb.ft ?_)
 rw [if_neg (by simp)]
 have e1:((i:Int)).toNat=i:=Int.toNat_natCast i
 cases M with
 | drawn h1 h2 h3 h4 =>
  rename_i ps oT c
  dsimp only
  refine wpAny_bind (wpAny_seqItems h1 h2 ?_)
  dsimp only
  have hq:(ps.map fun p:Nat=>rawInt p).toArray[((i:Int)).toNat]?=none:=by
   rw [e1];simp;omega
  rw [hq]
  dsimp only
  walk_at "px"
  refine wpAny_bind (wpAny_setField (ZiK hi _) rfl (by simp) ?_)
  exact ZnW hh ((Heap.SameBut.update s.heap it (Obj.mapFields (·.setIfInBounds 0 (rawInt 0)))).trans (Heap.SameBut.update _ it _)).extBut hQ
 | text h1 h2 =>
  rename_i k
  dsimp only
  refine wpAny_bind ?_
  unfold setNext
  walk_at "pu"
  dsimp only
  unfold setsByText
  walk_at "pc"
  walk_at "po"
  rw [if_pos h1,if_neg (by simp)]
  unfold setWalk
  refine wpAny_bind (wpAny_bind (wpAny_setState_of ho hd Tb.ft ?_))
  dsimp only
  unfold setsByText
  walk_at "pc"
  walk_at "po"
  rw [if_pos h1]
  refine wpAny_bind (wpAny_askSetting (wpAny_pure ?_))
  show wpAny (model prog w) _ (pure (((pickOrder (w.params.setOrder a ep) es)[((i:Int)).toNat]?).map _)) _ _ s
  have hn:(pickOrder (w.params.setOrder a ep) es)[i]?=none:=by
   rw [← Array.getElem?_toList,← h2]
   exact List.getElem?_eq_none (by omega)
  rw [e1,hn]
  refine wpAny_pure ?_
  dsimp only [Option.map_none]
  walk_at "px"
  exact ZnW hh (Heap.SameBut.update s.heap it _).extBut hQ
 | few h1 h2 h3 h4 h5 h6 =>
  rename_i k
  have hft:=Tb.ft
  have hnone:es[SetTable.below t.place k]?=none:=by
   refine Array.getElem?_eq_none ?_
   rcases ZiI h3 with z | ⟨x,z⟩
   ·rw [z];exact Nat.zero_le _
   ·have hps:t.place.size=1:=by
     unfold SetTable.fits at hft
     rw [z] at hft
     simp only [Bool.and_eq_true,beq_iff_eq] at hft
     exact hft.1
    obtain ⟨j,hj⟩:∃ j,t.place=#[j]:=by
     rcases ZiI (by omega:t.place.size≤1) with q | q
     ·rw [q] at hps;cases hps
     ·exact q
    have hi1:i=1:=by rw [← hes,z];rfl
    have:=h6 j hi1 (by rw [hj];rfl)
    rw [hj,this,ZmW,if_pos (by omega),z]
    exact Nat.le_refl _
  dsimp only
  refine wpAny_bind ?_
  unfold setNext
  walk_at "pu"
  dsimp only
  unfold setsByText
  walk_at "pc"
  walk_at "po"
  rw [if_neg (by rw [h1];decide)]
  show wpAny (model prog w) _ (if (!t.plain&&decide (es.size > 1))=true then _ else _) _ _ s
  rw [if_neg (by have:¬ es.size > 1:=by omega
                 simp [this])]
  refine wpAny_bind ?_
  show wpAny (model prog w) _ (if (!t.led&&!es.isEmpty)=true then _ else pure ()) _ _ s
  rw [if_neg (by rw [h2];simp)]
  refine wpAny_pure ?_
  show wpAny (model prog w) _ (pure (match es[SetTable.below t.place ((k:Int)).toNat]?,t.place[SetTable.below t.place ((k:Int)).toNat]? with | some (_,x),some j=>some (x,j+1) | _,_=>none)) _ _ s
  rw [show ((k:Int)).toNat=k from Int.toNat_natCast k,hnone]
  refine wpAny_pure ?_
  walk_at "px"
  exact ZnW hh (Heap.SameBut.update s.heap it _).extBut hQ
theorem Zrc:Slot "set_iterator" "__iter__" "set_iterator.__iter__":=.of (owner:="set_iterator") (n:="__iter__") (by rw [typeLookup_type,builtinLookup_eq_fast];kernel_rfl) (by decide +kernel) (by decide +kernel) (by decide +kernel) (by first | exact .inl (by decide +kernel) | exact .inr (by decide +kernel)) (by rw [isSubtype_type];kernel_rfl)
theorem Ztu:entryFor table "set_iterator.__iter__"=some Builtin.«dict_keyiterator.__iter__»:=entryFor_alias (id':="dict_keyiterator.__iter__") (by kernel_rfl) rfl (by decide +kernel) (by kernel_rfl)
theorem ZwF (a:Value):argsOk "set_iterator.__iter__" ⟨[a],[]⟩:=by unfold argsOk;kernel_rfl
theorem Zsg {it a T:Addr} {ob:Obj} {es:Array (Int×Value)} {ep:Nat} {t:SetTable} {ks:List Str} {l:List (Int×Value)} (hh:A.handled=none) (hx:ob.ExactSet) (hd:ob.data=.set es ep t) (Tb:Tab w es t ks) (hia:a≠it) (hiT:T≠it) (hl:l.length=es.size) :
  Walks prog w A it [it,a,T] [it] es.size (fun i v=>∃ e,l[i]?=some e∧v=e.2) (fun i h=>Wk w it a T ob es ep t l i h) where
 sub:=fun b hb=>by simp at hb;simp [hb]
 frame:=fun _ _ _ st hk=>by
  obtain ⟨⟨first,hi,M⟩,ho⟩:=st
  exact ⟨⟨first,hk it (by simp) _ hi,M.at fun o e=>hk T (by simp) o e⟩,hk a (by simp) _ ho⟩
 item:=fun i s Q E hi st hQ=>by
  obtain ⟨e,he⟩:∃ e,l[i]?=some e:=⟨_,List.getElem?_eq_getElem (by omega)⟩
  refine Zra hx hd Tb hia hiT st he fun h' W hs'=>?_
  exact hQ _ h' s.toks ⟨e,he,rfl⟩ W (fun b o hb z=>hs'.extBut b o (fun h=>hb (by simp [h])) z)
 done:=fun s Q E st hQ=>Zqn hh hx hd Tb st hl rfl fun h' he'=>hQ h' s.toks fun b o hb e=>he' b o (fun h=>hb (by simp [h])) e
 self:=fun _ s Q E st hQ=>by
  obtain ⟨⟨first,hi,M⟩,ho⟩:=st
  have hT:s.TypeIs (.ref it) "set_iterator":=⟨_,hi,rfl⟩
  refine wpAny_pyIter_slot hT Zrc (wpAny_call_entry Zrc hT Ztu (wpAny_pure ⟨_,rfl,"set_iterator",_,hT,ZgX.lookup,hQ⟩) (ZwF _))
end
theorem ZuP {α:Type} {es:Array α}:∀ {ys:List Nat},(∀ p∈ys,p < es.size)→(ys.filterMap (es[·]?)).length=ys.length∧∀ (j p:Nat),ys[j]?=some p→∃ e,es[p]?=some e∧(ys.filterMap (es[·]?))[j]?=some e
 | [],_=>⟨rfl,fun j p h=>by simp at h⟩
 | y::ys,h=>by
  have hy:es[y]?=some (es[y]'(h y List.mem_cons_self)):=Array.getElem?_eq_getElem _
  obtain ⟨h1,h2⟩:=ZuP (ys:=ys) fun p hp=>h p (List.mem_cons_of_mem _ hp)
  rw [List.filterMap_cons,hy]
  refine ⟨by simp [h1],fun j p hj=>?_⟩
  cases j with
  | zero =>
   simp only [List.getElem?_cons_zero,Option.some.injEq] at hj
   subst hj
   exact ⟨_,hy,rfl⟩
  | succ j =>
   simp only [List.getElem?_cons_succ] at hj ⊢
   exact h2 j p hj
section
variable {prog:Program} {w:World} {A:Around} {E:Value→Shared→Prop} {s:Shared}
theorem ZsY {a:Addr} {ob:Obj} {es:Array (Int×Value)} {ep:Nat} {t:SetTable} {ks:List Str} {Q:Value→Shared→Prop} (ho:s.heap.get? a=some ob) (hx:ob.ExactSet) (hd:ob.data=.set es ep t) (Tb:Tab w es t ks) (hn:ks.length < scanBound)
  (h:∀ it T l h' d,s.heap.objs.size≤it→T≠it→(T=a∨s.heap.objs.size≤T)→(∀ c o,s.heap.get? c=some o→h'.get? c=some o)→Wk w it a T ob es ep t l 0 h'→l.Perm es.toList→T < h'.objs.size→it < h'.objs.size→Q (.ref it) { s with heap:=h',drawn:=d }):wpAny (model prog w) A (pyIter (.ref a)) Q E s:=by
 have hT:s.TypeIs (.ref a) "set":=⟨ob,ho,hx.1⟩
 have hlt:a < s.heap.objs.size:=Heap.lt_size ho
 have hz:=Tb.len
 refine wpAny_pyIter_slot hT Zr0 (wpAny_call_entry Zr0 hT ZsV ?_ (Zv5 _))
 unfold Builtin.«frozenset.__iter__»
 refine wpAny_bind (m:=Builtin.Frozenset.slot0 "__iter__" ⟨[.ref a],[]⟩) (wpAny_pure (a:=a) ?_)
 refine wpAny_bind (m:=Builtin.Frozenset.sizeOf a) (wpAny_bind (wpAny_setEntries_of ho hd Tb.ft (wpAny_pure ?_)))
 refine wpAny_bind ?_
 unfold setDrawn
 walk_at "pu"
 dsimp only
 unfold setsByText
 walk_at "pc"
 show wpAny (model prog w) _ (pure (!(bt w)&&(!t.plain&&decide (es.size > 1)))) _ _ s
 refine wpAny_pure ?_
 by_cases hc:(!(bt w)&&(!t.plain&&decide (es.size > 1)))=true
 ·rw [if_pos hc]
  refine wpAny_bind (Zrt es.size (List.range es.size) s _ (List.length_range) fun ys d hp=>?_)
  have hyl:ys.length=es.size:=by rw [hp.length_eq,List.length_range]
  refine wpAny_bind (wpAny_newTuple (items:=ys.map fun i:Nat=>rawInt i) ?_ (by rw [List.length_map,hyl,hz];exact fits_of_scanBound hn))
  refine wpAny_bind (wpAny_setEpoch_of (s:={ s with heap:=s.heap.push _,drawn:=d }) (Heap.get?_push_of_some _ ho) hd Tb.ft ?_)
  simp only [newFields]
  refine wpAny_bind (wpAny_newObj_type ?_ (by show (5:Nat)≤sizeLine+2;decide))
  refine wpAny_pure ⟨_,rfl,"set_iterator",_,⟨_,Heap.get?_push_size _ rfl,rfl⟩,ZgX.lookup,?_⟩
  obtain ⟨hpl,hpj⟩:=ZuP (es:=es) (ys:=ys) fun p z=>List.mem_range.mp (hp.mem_iff.mp z)
  have hperm:(ys.filterMap (es[·]?)).Perm es.toList:=by
   have hz2:=L3.Tb.order_perm es ys.toArray (by simpa using hp)
   simpa using hz2
  refine h _ s.heap.objs.size (ys.filterMap (es[·]?)) _ d ?_ ?_ (.inr (Nat.le_refl _)) (fun c o e=>Heap.get?_push_of_some _ (Heap.get?_push_of_some _ e)) ⟨⟨_,Heap.get?_push_size _ rfl,.drawn (Heap.get?_push_of_some _ (Heap.get?_push_size _ rfl)) rfl hpl.symm hpj⟩,Heap.get?_push_of_some _ (Heap.get?_push_of_some _ ho)⟩ hperm ?_ ?_
  ·rw [Heap.size_push];exact Nat.le_succ _
  ·rw [Heap.size_push];exact Nat.ne_of_lt (Nat.lt_succ_self _)
  ·rw [Heap.size_push,Heap.size_push];exact Nat.lt_succ_of_lt (Nat.lt_succ_self _)
  ·simp only [Heap.size_push];exact Nat.lt_succ_self _
 ·rw [if_neg hc]
  refine wpAny_bind (wpAny_pure ?_)
  refine wpAny_bind (wpAny_setEpoch_of ho hd Tb.ft ?_)
  simp only [newFields]
  refine wpAny_bind (wpAny_newObj_type ?_ (by show (5:Nat)≤sizeLine+2;decide))
  refine wpAny_pure ⟨_,rfl,"set_iterator",_,⟨_,Heap.get?_push_size _ rfl,rfl⟩,ZgX.lookup,?_⟩
  have fin:∀ l,l.Perm es.toList→Md w a a es ep t l (s.heap.push (Itr (rawInt 0) 0 a es.size ep)) (rawInt 0) 0→Q (.ref s.heap.objs.size) { s with heap:=s.heap.push (Itr (rawInt 0) 0 a es.size ep) }:=fun l hp M =>
   h _ a l _ s.drawn (Nat.le_refl _) (Nat.ne_of_lt hlt) (.inl rfl) (fun c o e=>Heap.get?_push_of_some _ e) ⟨⟨_,Heap.get?_push_size _ rfl,M⟩,Heap.get?_push_of_some _ ho⟩ hp (by rw [Heap.size_push];exact Nat.lt_succ_of_lt hlt) (by rw [Heap.size_push];exact Nat.lt_succ_self _)
  by_cases hb:bt w=true
  ·exact fin _ (Zmh _ _) (.text (k:=0) hb rfl)
  ·have hb':bt w=false:=by simpa using hb
   have h1:es.size≤1:=by
    rw [hb'] at hc
    simp only [Bool.not_false,Bool.true_and,Bool.and_eq_true,decide_eq_true_eq,not_and] at hc
    cases hpl:t.plain with
    | true=>have:=Tb.pl hpl;subst this;rw [hz];decide
    | false=>have:=hc (by rw [hpl];rfl);omega
   exact fin es.toList (List.Perm.refl _) (.few (k:=0) hb' (Tb.ld hb') h1 rfl (fun _=>rfl) fun j z=>by cases z)
end
theorem ZtY:Slot "set" "__len__" "set.__len__":=.of (owner:="set") (n:="__len__") (by rw [typeLookup_type,builtinLookup_eq_fast];kernel_rfl) (by decide +kernel) (by decide +kernel) (by decide +kernel) (by first | exact .inl (by decide +kernel) | exact .inr (by decide +kernel)) (by rw [isSubtype_type];kernel_rfl)
section
variable {prog:Program} {w:World} {A:Around} {E:Value→Shared→Prop} {s:Shared}
theorem ZtX {a:Addr} {Q:Bool→Shared→Prop} (hT:s.TypeIs (.ref a) "set") (q:Q false s):wpAny (model prog w) A (Builtin.List.listLengthHint (.ref a)) Q E s:=by
 unfold Builtin.List.listLengthHint
 refine wpAny_bind (wpAny_specialOf hT ZtY.lookup ?_)
 have hs:splitId "set.__len__"=some ("set","__len__"):=by kernel_rfl
 dsimp only
 rw [hs]
 dsimp only
 refine wpAny_bind (wpAny_isInstance hT sub_set_self ?_)
 rw [if_neg (by decide)]
 show wpAny (model prog w) A (if _=true then _ else _) Q E s
 rw [if_pos (by decide +kernel)]
 refine wpAny_bind (wpAny_typeOf hT ?_)
 exact wpAny_pure q
theorem ZnE {a:Addr} {ks:List Str} {Q:List Value→Shared→Prop} (hh:A.handled=none) (hS:SS w s.heap a ks) (hn:ks.length < scanBound)
  (h:∀ (s':Shared) (vs:List Value) (xs:List Str),StrsAre vs xs→xs.Perm ks→(∀ c o,c < s.heap.objs.size→s.heap.get? c=some o→s'.heap.get? c=some o)→s'.gens=s.gens→s'.os=s.os→s.heap.objs.size≤s'.heap.objs.size→Q vs s'):wpAny (model prog w) A (collect (.ref a)) Q E s:=by
 have hS':=hS
 obtain ⟨ob,es,ep,t,ho,hx,hd,T⟩:=hS
 have hz:=T.len
 have hlt:a < s.heap.objs.size:=Heap.lt_size ho
 unfold collect
 refine wpAny_bind (wpAny_runValue (codeAny_builtin PySem.F.entry_proto_collect ?_));rw [Around.under_plainId PySem.F.plain_proto_collect _]
 refine wpAny_bind (m:=newList []) (wpAny_newList ?_ (Nat.zero_le _))
 refine wpAny_pure ⟨plainId_quiet PySem.F.plain_list_iadd _,codeAny_builtin PySem.F.entry_list_iadd ?_⟩;rw [Around.under_plainId PySem.F.plain_list_iadd _]
 have hne:s.heap.objs.size≠a:=Ne.symm (Nat.ne_of_lt hlt)
 have ho1:(s.heap.push (seqObj "list" #[] 0)).get? a=some ob:=Heap.get?_push_of_some _ ho
 have hT1:Shared.TypeIs { s with heap:=s.heap.push (seqObj "list" #[] 0) } (.ref a) "set":=⟨ob,ho1,hx.1⟩
 refine (?_:wpAny (model prog w) A.in1 (Builtin.List.listExtendWith (.ref s.heap.objs.size) (.ref a) (.ref s.heap.objs.size)) _ _ { s with heap:=s.heap.push (seqObj "list" #[] 0) })
 unfold Builtin.List.listExtendWith
 refine wpAny_bind (wpAny_typeOf hT1 ?_)
 have c1:Builtin.List.listSameRef (.ref s.heap.objs.size) (.ref a)=false:=by simp [Builtin.List.listSameRef,hne]
 have c2:(Value.type "set"==Value.type "list")=false:=by decide
 have c3:(Value.type "set"==Value.type "tuple")=false:=by decide
 simp only [c1,c2,c3,Bool.or_false,Bool.false_eq_true,if_false]
 refine wpAny_bind (ZsY ho1 hx hd T hn fun it Tp l h' d hit hTit hTa keep W hp hTl hil=>?_)
 obtain ⟨⟨first,hi,M⟩,hob⟩:=id W
 have hT2:Shared.TypeIs { s with heap:=h',drawn:=d } (.ref a) "set":=⟨ob,hob,hx.1⟩
 refine wpAny_bind (wpAny_holding (ZtX hT2 ?_))
 refine (?_:wpAny (model prog w) A.in1 (rule "list.extend.makes-room" >>= fun _=>Builtin.List.listTouch (.ref s.heap.objs.size) >>= fun _=>again (.builtin "list.extend.loop" ⟨[.ref s.heap.objs.size,.ref it,.ref s.heap.objs.size],[]⟩)) _ _ { s with heap:=h',drawn:=d })
 refine wpAny_bind (wpAny_rule ?_)
 have hS0:h'.get? s.heap.objs.size=some (seqObj "list" #[] 0):=keep _ _ (Heap.get?_push_size _ rfl)
 refine wpAny_bind (m:=Builtin.List.listTouch (.ref s.heap.objs.size)) (wpAny_bind (m:=updateSeq s.heap.objs.size (·.push .none)) (wpAny_updateSeq (s:={ s with heap:=h',drawn:=d }) hS0 rfl ?_))
 have hS2:=Heap.get?_update_self (Obj.mapSeq (·.push Value.none)) hS0 rfl
 refine (?_:wpAny (model prog w) A.in1 (updateSeq s.heap.objs.size (·.pop)) _ _ _)
 refine wpAny_updateSeq hS2 rfl ?_
 have hS3:=Heap.get?_update_self (Obj.mapSeq (·.pop)) hS2 rfl
 have hit0:s.heap.objs.size < it:=by rw [Heap.size_push] at hit;exact hit
 have hTs:s.heap.objs.size≠Tp:=by
  rcases hTa with e | e
  ·rw [e];exact hne
  ·rw [Heap.size_push] at e;exact Nat.ne_of_lt e
 have hSf:s.heap.objs.size∉[it,a,Tp]:=by
  simp only [List.mem_cons,List.not_mem_nil,or_false,not_or]
  exact ⟨Nat.ne_of_lt hit0,hne,hTs⟩
 have hai:a≠it:=Nat.ne_of_lt (Nat.lt_trans hlt hit0)
 have hll:l.length=es.size:=by rw [hp.length_eq,Array.length_toList]
 have WS:=(Zsg (prog:=prog) (w:=w) (A:=A.in1) (by simp [hh]) hx hd T hai hTit hll).toS
 have oth:∀ b o,b≠s.heap.objs.size→h'.get? b=some o→((h'.update s.heap.objs.size (Obj.mapSeq (·.push Value.none))).update s.heap.objs.size (Obj.mapSeq (·.pop))).get? b=some o :=
  fun b o hb e=>(Heap.get?_update_other _ _ (Ne.symm hb)).trans ((Heap.get?_update_other _ _ (Ne.symm hb)).trans e)
 refine wpAny_pure ⟨plainId_quiet PySem.F.plain_extend_loop _,codeAny_extend_loopS WS (fits_of_scanBound (by rw [hz];exact hn)) _ hSf _ es.size 0 _ _ _ rfl (Nat.zero_le _)
  ⟨⟨first,oth _ _ (Ne.symm (Nat.ne_of_lt hit0)) hi,M.at fun o e=>oth _ _ (Ne.symm hTs) e⟩,oth _ _ (Ne.symm hne) hob⟩ hS3 (ItemsOf.nil _) fun s' acc c hm hS' hacc=>?_⟩
 refine wpAny_bind (m:=load s.heap.objs.size) (wpAny_load hS' (wpAny_pure ?_))
 have hvs:acc.toList=l.map (·.2):=by
  apply List.ext_getElem?
  intro i
  rw [List.getElem?_map,Array.getElem?_toList]
  by_cases hi':i < acc.size
  ·obtain ⟨e,he,hv⟩:=hacc.2 i _ (Array.getElem?_eq_getElem hi')
   rw [Array.getElem?_eq_getElem hi',he,hv];rfl
  ·rw [Array.getElem?_eq_none (by omega),List.getElem?_eq_none (by rw [hll,← hacc.1];omega)];rfl
 have hall:∀ v∈l.map (·.2),∃ x t,v=Value.str x t:=fun v hv=>by
  obtain ⟨e,he,rfl⟩:=List.mem_map.mp hv
  obtain ⟨x,u,rfl⟩:=T.el e (hp.mem_iff.mp he)
  exact ⟨x,u,rfl⟩
 refine h s' acc.toList ((l.map (·.2)).map strOf) (by rw [hvs];exact strsAre_map _ hall) ?_ (fun b o hb e=>?_) hm.gens hm.os ?_
 ·rw [List.map_map]
  exact ((hp.map _).trans T.pm)
 ·refine hm.heap b o ?_ (oth b o (Nat.ne_of_lt hb) (keep b o (Heap.get?_push_of_some _ e)))
  simp only [List.mem_cons,List.not_mem_nil,or_false,not_or]
  exact ⟨Nat.ne_of_lt hb,Nat.ne_of_lt (Nat.lt_trans hb hit0)⟩
 ·exact Nat.le_of_lt (Heap.lt_size hS')
theorem ZpR {a:Addr} {ks:List Str} {Q:Value→Shared→Prop} (hh:A.handled=none) (hS:SS w s.heap a ks) (hn:ks.length < 64)
  (h:∀ (s':Shared) (p:Addr) (vs:List Value) (xs:List Str) (e:Nat),s.heap.objs.size≤p→s'.heap.get? p=some (seqObj "list" vs.toArray e)→StrsAre vs xs→xs.Perm ks→sortedS xs=true→(∀ c o,c < s.heap.objs.size→s.heap.get? c=some o→s'.heap.get? c=some o)→s'.gens=s.gens→s'.os=s.os→Q (.ref p) s') :
  wpAny (model prog w) A (call (.builtin "sorted") [.ref a]) Q E s:=by
 refine Calls.call_function_entry kind_sorted plain_sorted entry_sorted (args_sorted1 _) ?_;unfold Builtin.«sorted»
 refine wpAny_bind (m:=checkCount "sorted" 1 1 _) (wpAny_pure ?_)
 refine wpAny_bind (ZnE (by simp [hh]) hS (by unfold scanBound;omega) fun s1 vs xs hv hp keep hg hos hsz=>?_)
 have hvl:vs.length < 64:=by rw [hv.length,hp.length_eq];exact hn
 refine wpAny_bind (wpAny_newList ?_ (by have:(64:Nat)≤sizeLine:=by decide
                                         omega))
 have hoL:(s1.heap.push (seqObj "list" vs.toArray 0)).get? s1.heap.objs.size=some (seqObj "list" vs.toArray 0):=Heap.get?_push_size _ rfl
 refine wpAny_bind (wpAny_holding (wpAny_call_entry slot_list_sort ⟨_,hoL,rfl⟩ entry_list_sort (list_sort_treeK (s:={ s1 with heap:=s1.heap.push (seqObj "list" vs.toArray 0) }) strKind_oneLt hoL hv.keysOf (fun v1 v2 r e=>keyKind_strs (by rw [← e];exact hv)) hvl fun st' a1 a2=>⟨_,rfl,?_⟩) (args_list_sort _)))
 obtain ⟨xs',hv',hp',hs'⟩:=sorted_out_str hv a1 a2
 obtain ⟨e,he⟩:=sortedHeap_at (n:=0) (vs:=vs) (out:=(arrOf st').map (·.2)) hoL
 refine wpAny_pure ⟨_,rfl,h _ _ ((arrOf st').map (·.2)).toList xs' e hsz (by rw [Array.toArray_toList];exact he) hv' (hp'.trans hp) hs' (fun c o hc z=>?_) hg hos⟩
 rw [sortedHeap_old (Nat.ne_of_lt (Nat.lt_of_lt_of_le hc hsz)) (by rw [Heap.size_push];exact Nat.lt_succ_of_lt (Nat.lt_of_lt_of_le hc hsz))]
 exact Heap.get?_push_of_some _ (keep c o hc z)
end
end L3
namespace L3
open PySem PySem.Spec PyProof.Rows L2
variable {K:PySem.W.Frag} {H H' H2:Hp}
theorem Zi9:∀ {xs:List Str} {its:List Value},Vals (xs.map V.str) its→StrsAre its xs
 | [],_,.nil=>.nil
 | x::xs,_,.cons r rs=>by
  obtain ⟨t,rfl⟩:=r
  exact .cons x t (Zi9 rs)
theorem ZlW:∀ {xs:List Str} {its:List Value},StrsAre its xs→Vals (xs.map V.str) its
 | [],_,.nil=>.nil
 | x::xs,_,.cons _ t rs=>.cons ⟨t,rfl⟩ (ZlW rs)
theorem Zes {α:Type} [BEq α] [LawfulBEq α]:∀ {ks xs:List α},ks.Nodup→(∀ x∈ks,x∈xs)→ks.length≤xs.length
 | [],xs,_,_=>Nat.zero_le _
 | k::ks,xs,hn,h=>by
  have hk:=List.nodup_cons.mp hn
  have hin:k∈xs:=h k List.mem_cons_self
  have h1:=Zes (xs:=xs.erase k) hk.2 fun x hx=>(List.mem_erase_of_ne (fun e=>hk.1 (by rw [← e];exact hx))).mpr (h x (List.mem_cons_of_mem _ hx))
  rw [List.length_erase_of_mem hin] at h1
  have:0 < xs.length:=List.length_pos_of_mem hin
  rw [List.length_cons];omega
section
variable {X:Cx} {e eb:Expr} {p1 p2 p3 q1 q2 q3 qb:Pos} {ta tb:TE}
theorem ZnZ {A:Around} {E:Value→Shared→Prop} {s:Shared} {pos:Pos} {Q:List Value→Shared→Prop} (hs:starEach [e] X.env=(false,eval e X.env)::starEach [] X.env) (h:wpAny (model X.prog X.w) A (eval e X.env) (fun v s1=>Q [v] s1) E s):wpAny (model X.prog X.w) A (spliced (backTo pos (starEach [e] X.env))) Q E s:=by
 rw [hs]
 refine Calls.spliced_cons (wpAny_mono h (fun v s1 q=>?_) fun _ _ z=>z)
 exact Calls.spliced_nil q
def Zym (K:PySem.W.Frag) (ta tb:TE):TE:=fun σ H Q=>ta σ H fun x H1=>∃ (p:Addr) (xs:List Str),x=.ref p∧SqL K H1 p (xs.map V.str)∧xs.length < 16∧tb σ H1 fun y H2=>∃ (q:Addr) (ys:List Str),y=.ref q∧SqL K H2 q (ys.map V.str)∧ys.length < 16 ∧
 ∀ (zs:List Str) (r:Addr),zs.Nodup→sortedS zs=true→(∀ x,x∈zs↔x∈xs∨x∈ys)→H2 r=none→Q (.ref r) (upd H2 r (.lst (zs.map V.str)))
theorem ZsO (hc:X.calm=true) (n1:X.mg "sorted"=none) (n2:X.mg "set"=none) (g1:Gl X "sorted") (g2:Gl X "set") (h1:starEach [e] X.env=(false,eval e X.env)::starEach [] X.env) (h2:starEach [eb] X.env=(false,eval eb X.env)::starEach [] X.env)
  (h3:starEach [.BinOp (.Call (.Name "set" p1) [e] [] q1) .BitOr (.Call (.Name "set" p2) [eb] [] q2) qb] X.env=(false,eval (.BinOp (.Call (.Name "set" p1) [e] [] q1) .BitOr (.Call (.Name "set" p2) [eb] [] q2) qb) X.env)::starEach [] X.env) (ha:PE X e ta) (hb:PE X eb tb) :
  PE X (.Call (.Name "sorted" p3) [.BinOp (.Call (.Name "set" p1) [e] [] q1) .BitOr (.Call (.Name "set" p2) [eb] [] q2) qb] [] q3) (Zym X.K ta tb):=by
 intro pins s σ H Q I h
 have bS:bootBuiltins "sorted"=some (.builtin "sorted"):=by decide +kernel
 have bT:bootBuiltins "set"=some (.type "set"):=by decide +kernel
 have hh:X.A.handled=none:=I.ok.hd hc
 refine wpAny_Call_Name_kw (ZeW I g1 n1 bS ?_)
 refine PyProof.Rows.callWith_builtin1 (ZnZ h3 ?_) h3 rfl
 refine wpAny_BinOp ?_
 refine wpAny_Call_Name_kw (ZeW I g2 n2 bT ?_)
 refine PyProof.Rows.callWith_type1 (ZnZ h1 ?_) h1 rfl
 refine thn (ha pins s σ H _ I h) fun v s1 zz1=>?_
 obtain ⟨x,H1,I1,r1,p,xs,ex,hq,hn,q1⟩:=zz1
 subst ex
 cases r1
 obtain ⟨its,rv,pl,hz⟩:=I1.list hq
 have hil:its.length=xs.length:=by have:=rv.length;rw [List.length_map] at this;exact this.symm
 refine Zof hh pl.isList (by simpa using Zi9 rv) (by rw [List.size_toArray,hil];unfold scanBound;omega) fun h' tk ka hA hxa keep=>?_
 have hA':=hA
 obtain ⟨oa,esA,epA,tA,hoA,hxA,hdA,TA⟩:=hA
 have I2:Inv X pins σ H1 { s1 with heap:=h',toks:=tk }:=I1.kept fun b u z=>keep b u (Heap.lt_size z) z
 have I3:Inv X (pins++[(s1.heap.objs.size,oa)]) σ H1 { s1 with heap:=h',toks:=tk }:=I2.pins_of fun p hp=>by
  rcases List.mem_append.mp hp with hp | hp
  ·exact I2.pin p (List.mem_append_right _ hp)
  ·have e:=List.mem_singleton.mp hp
   subst e
   exact ⟨hoA,I1.hok.fresh (Nat.le_refl _),Ne.symm (Nat.ne_of_lt I1.lt),I1.nofs (Nat.le_refl _),fun v z=>by rw [hdA] at z;cases z⟩
 refine wpAny_Call_Name_kw (ZeW I3 g2 n2 bT ?_)
 refine PyProof.Rows.callWith_type1 (ZnZ h2 ?_) h2 rfl
 refine thn (hb _ _ σ H1 _ I3 q1) fun v2 s2 zz2=>?_
 obtain ⟨y,H2,I4,r2,q,ys,ey,hq2,hn2,q2⟩:=zz2
 subst ey
 cases r2
 have hoA2:s2.heap.get? s1.heap.objs.size=some oa:=(I4.pin (s1.heap.objs.size,oa) (List.mem_append_right _ (List.mem_append_right _ (List.mem_singleton.mpr rfl)))).1
 have I5:Inv X pins σ H2 s2:=I4.unpinned
 obtain ⟨its2,rv2,pl2,hz2⟩:=I5.list hq2
 have hil2:its2.length=ys.length:=by have:=rv2.length;rw [List.length_map] at this;exact this.symm
 refine Zof hh pl2.isList (by simpa using Zi9 rv2) (by rw [List.size_toArray,hil2];unfold scanBound;omega) fun h'' tk2 kb hB hxb keep2=>?_
 have hA2:SS X.w h'' s1.heap.objs.size ka:=⟨oa,esA,epA,tA,keep2 _ _ (Heap.lt_size hoA2) hoA2,hxA,hdA,TA⟩
 have lka:ka.length < 16:=Nat.lt_of_le_of_lt (Zes hA'.nd fun x hx=>(hxa x).mp hx) hn
 have lkb:kb.length < 16:=Nat.lt_of_le_of_lt (Zes hB.nd fun x hx=>(hxb x).mp hx) hn2
 refine ZAc (s:={ s2 with heap:=h'',toks:=tk2 }) (Nat.ne_of_lt (Heap.lt_size hoA2)) hA2 hB lka lkb fun h3 kc hC hxc keep3=>?_
 have lkc:kc.length < 64:=by
  have:=Zes (xs:=ka++kb) hC.nd fun x hx=>List.mem_append.mpr ((hxc x).mp hx)
  rw [List.length_append] at this
  omega
 refine ZpR hh hC lkc fun s' r vs zs en hr hget hv hp hs keep4 hg hos=>?_
 have z1:s2.heap.objs.size < h''.objs.size:=SS.lt (s:={ s2 with heap:=h'' }) hB
 have z2:h''.objs.size < h3.objs.size:=SS.lt (s:={ s2 with heap:=h3 }) hC
 have hr2:s2.heap.objs.size≤r:=Nat.le_of_lt (Nat.lt_of_lt_of_le (Nat.lt_trans z1 z2) hr)
 have kall:∀ b u,s2.heap.get? b=some u→s'.heap.get? b=some u:=fun b u z=>by
  have y1:=keep2 b u (Heap.lt_size z) z
  have y2:=keep3 b u (Heap.lt_size y1) y1
  exact keep4 b u (Heap.lt_size y2) y2
 have hzl:zs.length≤sizeLine:=by
  have:(64:Nat)≤sizeLine:=by decide
  rw [hp.length_eq];omega
 have J:Inv X pins σ (upd H2 r (.lst (zs.map V.str))) { s2 with heap:=s'.heap,toks:=s'.toks }:=I5.laid (t':=s'.toks) kall hr2 (show ObjOk X.prog X.w _ s'.heap r (.lst (zs.map V.str)) from ⟨by rw [List.length_map];exact hzl,vs,en,ZlW hv,hget⟩)
 refine ⟨.ref r,_,⟨J.ok,by rw [hos];exact J.os,by rw [hg];exact J.bare,J.base,J.loc,J.cell,J.free,J.freeC,J.pin,J.hok,J.len⟩,rfl,q2 zs r (hp.nodup_iff.mpr hC.nd) hs (fun x=>?_) (I5.hok.fresh hr2)⟩
 rw [hp.mem_iff,hxc,hxa,hxb]
def Zfu (ga gb:GE):GE:=fun ω G Q=>ga ω G fun x G1=>∃ xs:List Str,Zj2 G1 x=some (xs.map W.str)∧xs.length < 16∧gb ω G1 fun y G2=>∃ ys:List Str,Zj2 G2 y=some (ys.map W.str)∧ys.length < 16 ∧
 ∀ (zs:List Str) (p:Addr),zs.Nodup→sortedS zs=true→(∀ x,x∈zs↔x∈xs∨x∈ys)→G2 p=none→Q (.ref p) (put G2 p (.lst (zs.map W.str)))
theorem Zul {ga gb:GE} (ma:ga.M) (mb:gb.M):GE.M (Zfu ga gb):=fun ω G Q Q' h q=>ma _ _ _ _ ((by rintro x G1 ⟨xs,h1,h2,q1⟩;exact ⟨xs,h1,h2,mb _ _ _ _ ((by rintro y G2 ⟨ys,h3,h4,q2⟩;exact ⟨ys,h3,h4,fun zs p a b c d=>h _ _ (q2 zs p a b c d)⟩)) q1⟩)) q
theorem ZnA:∀ {xs:List Str} {vs:List V},TrL K H vs (xs.map W.str)→vs=xs.map V.str
 | [],_,.nil=>rfl
 | x::xs,_,.cons t ts=>by
  cases t
  rw [ZnA ts];rfl
theorem ZqK:∀ (xs:List Str),TrL K H (xs.map V.str) (xs.map W.str)
 | []=>.nil
 | x::xs=>.cons (.str x) (ZqK xs)
theorem ZcP {ga gb:GE} (hc:X.calm=true) (n1:X.mg "sorted"=none) (n2:X.mg "set"=none) (g1:Gl X "sorted") (g2:Gl X "set") (h1:starEach [e] X.env=(false,eval e X.env)::starEach [] X.env) (h2:starEach [eb] X.env=(false,eval eb X.env)::starEach [] X.env)
  (h3:starEach [.BinOp (.Call (.Name "set" p1) [e] [] q1) .BitOr (.Call (.Name "set" p2) [eb] [] q2) qb] X.env=(false,eval (.BinOp (.Call (.Name "set" p1) [e] [] q1) .BitOr (.Call (.Name "set" p2) [eb] [] q2) qb) X.env)::starEach [] X.env) (ha:Em X e ga) (hb:Em X eb gb) :
  Em X (.Call (.Name "sorted" p3) [.BinOp (.Call (.Name "set" p1) [e] [] q1) .BitOr (.Call (.Name "set" p2) [eb] [] q2) qb] [] q3) (Zfu ga gb):=by
 refine ⟨Zbn (ZsO hc n1 n2 g1 g2 h1 h2 h3 ha.p hb.p) fun σ H Q zz3=>?_,Zul ha.m hb.m⟩
 obtain ⟨ω,G,ts,rh,q⟩:=zz3
 refine ⟨ω,G,ts,rh,ha.m _ _ _ _ (fun x G1 zz4 v H1 m1 tx r1=>?_) q⟩
 obtain ⟨xs,hx,hn,q1⟩:=zz4
 obtain ⟨a,vs,rfl,rfl,hG,hH,tv⟩:=ZfU r1 tx hx
 obtain rfl:=ZnA tv
 refine ⟨a,xs,rfl,.inl (.inl hH),hn,ω,G1,ts.mono m1,r1,hb.m _ _ _ _ (fun y G2 zz5 u H2 m2 ty r2=>?_) q1⟩
 obtain ⟨ys,hy,hn2,q2⟩:=zz5
 obtain ⟨b,us,rfl,rfl,hG2,hH2,tu⟩:=ZfU r2 ty hy
 obtain rfl:=ZnA tu
 refine ⟨b,ys,rfl,.inl (.inl hH2),hn2,fun zs r z1 z2 z3 z4=>?_⟩
 exact q2 zs r z1 z2 z3 (r2.no z4) _ _ (m1.trans (m2.trans (Mono.new z4 _))) (.ref r) (r2.new z4 (ZqK zs))
end
end L3
namespace L3
open PySem PySem.Spec PyProof.Rows L2
section
variable {prog:Program} {w:World} {A:Around} {E:Value→Shared→Prop} {s:Shared}
theorem ZhJ {it l:Addr} {i:Nat} {xs:Array Value} {x:Value} {Q:Value→Shared→Prop} (u:s.heap.IsTupleIter it l i) (v:s.heap.IsTuple l xs) (hx:xs[i]?=some x) (hQ:∀ h',h'.IsTupleIter it l (i+1)→Heap.SameBut it s.heap h'→Q x { s with heap:=h' }) :
  wpAny (model prog w) A (Builtin.SmallTypes.nextOf (.ref it)) Q E s:=by
 obtain ⟨oi,ei,ci,di⟩:=id u
 obtain ⟨ol,el,_,nl,dl⟩:=v
 unfold Builtin.SmallTypes.nextOf
 refine wpAny_bind (wpAny_callSpecial?_slot (name:=Str.ofString "__next__") u.typeIs PySem.F.slot_tuple_iterator_next (wpAny_call_entry PySem.F.slot_tuple_iterator_next u.typeIs PySem.F.entry_tuple_iterator_next ?_ (PySem.F.args_tuple_iterator_next_1 _)))
 refine wpAny_bind (m:=field (.ref it) 0) (wpAny_field ei di (x:=.ref l) rfl ?_)
 show wpAny (model prog w) _ (if (Value.ref l==Value.none)=true then _ else _) _ E s
 rw [if_neg (show ¬ ((Value.ref l==Value.none)=true) from Bool.false_ne_true)];refine wpAny_bind (m:=field (.ref it) 1) (wpAny_field ei di (x:=.int i 0) rfl ?_)
 refine wpAny_bind (m:=seqItems? (.ref l)) (wpAny_seqItems el dl ?_)
 simp only [Int.toNat_natCast];rw [hx]
 refine wpAny_bind (wpAny_setField ei di (by simp) (wpAny_pure ⟨x,rfl,wpAny_pure (hQ _ ⟨_,Heap.get?_update_self _ ei (Obj.isFreed_of_fields (Obj.data_mapFields di _)),(Obj.cls_mapFields ..).trans ci,?_⟩ (Heap.SameBut.update ..))⟩))
 rw [Obj.data_mapFields di];simp [rawInt]
theorem Zsb {it l:Addr} {i:Nat} {xs:Array Value} {Q:Value→Shared→Prop} (hh:A.handled=none) (u:s.heap.IsTupleIter it l i) (v:s.heap.IsTuple l xs) (hx:xs[i]?=none)
  (hE:∀ h' e,Heap.ExtBut it s.heap h'→(∃ o,h'.get? e=some o∧o.cls=.type "StopIteration")→E (.ref e) { s with heap:=h' }):wpAny (model prog w) A (Builtin.SmallTypes.nextOf (.ref it)) Q E s:=by
 obtain ⟨oi,ei,ci,di⟩:=id u
 obtain ⟨ol,el,_,nl,dl⟩:=v
 unfold Builtin.SmallTypes.nextOf
 refine wpAny_bind (wpAny_callSpecial?_slot (name:=Str.ofString "__next__") u.typeIs PySem.F.slot_tuple_iterator_next (wpAny_call_entry PySem.F.slot_tuple_iterator_next u.typeIs PySem.F.entry_tuple_iterator_next ?_ (PySem.F.args_tuple_iterator_next_1 _)))
 refine wpAny_bind (m:=field (.ref it) 0) (wpAny_field ei di (x:=.ref l) rfl ?_)
 show wpAny (model prog w) _ (if (Value.ref l==Value.none)=true then _ else _) _ E s
 rw [if_neg (show ¬ ((Value.ref l==Value.none)=true) from Bool.false_ne_true)];refine wpAny_bind (m:=field (.ref it) 1) (wpAny_field ei di (x:=.int i 0) rfl ?_)
 refine wpAny_bind (m:=seqItems? (.ref l)) (wpAny_seqItems el dl ?_)
 simp only [Int.toNat_natCast];rw [hx]
 refine wpAny_bind (wpAny_rule (wpAny_bind (wpAny_setField ei di (by simp) ?_)));refine wpAny_bind (m:=newExc (.type "StopIteration") []) ?_
 simp only [newExc,newTuple]
 refine wpAny_bind (wpAny_newObj_type ?_ (by size_fits));refine wpAny_bind (m:=firstArgMember _ _) (wpAny_of_eq (a:=Value.none) (by first | rfl | (simp only [firstArgMember];rfl)) (wpAny_newObj_type ?_ (by size_fits)))
 simp only [raiseNew]
 refine wpAny_bind (wpAny_handled ?_);rw [show A.in1.handled=none from hh]
 refine wpAny_bind (wpAny_pure (wpAny_throw ?_))
 exact hE _ _ (((Heap.SameBut.update ..).extBut.push _).push _) ⟨_,Heap.get?_push_size _ rfl,rfl⟩
theorem Zwm {z TI TO i1 i2 l1 l2:Addr} {k1 k2:Nat} {xs ys:Array Value} {x y a b:Value} {Q:Value→Shared→Prop} (D:ZipApart z TI TO i1 i2 l1 l2) (hz:IsZip s.heap z TI TO .none) (hTI:IsPair s.heap TI (.ref i1) (.ref i2)) (hTO:IsPair s.heap TO a b)
  (u1:s.heap.IsTupleIter i1 l1 k1) (u2:s.heap.IsTupleIter i2 l2 k2) (v1:s.heap.IsTuple l1 xs) (v2:s.heap.IsTuple l2 ys) (hx:xs[k1]?=some x) (hy:ys[k2]?=some y)
  (hQ:∀ h',IsZip h' z TI TO (rawInt s.heap.objs.size)→IsPair h' TO x y→h'.IsTupleIter i1 l1 (k1+1)→h'.IsTupleIter i2 l2 (k2+1)→IsPair h' s.heap.objs.size x y→(∀ c o,c≠z→c≠TO→c≠i1→c≠i2→s.heap.get? c=some o→h'.get? c=some o)→Q (.ref s.heap.objs.size) { s with heap:=h' }) :
  wpAny (model prog w) A (Builtin.«zip.__next__» ⟨[.ref z],[]⟩) (fun fin s'=>∃ v,fin=.done (.ret v)∧Q v s') E s:=by
 refine wpAny_bind (m:=field (.ref z) 2) (wpAny_field hz rfl (x:=.bool false) rfl ?_)
 refine wpAny_bind (m:=field (.ref z) 3) (wpAny_field hz rfl (x:=.ref TI) rfl (wpAny_bind (m:=seqItems? (.ref TI)) (wpAny_seqItems hTI rfl ?_)))
 refine wpAny_bind (m:=Builtin.SmallTypes.ownedTupleIsFree (.ref z)) ?_
 unfold Builtin.SmallTypes.ownedTupleIsFree
 refine wpAny_bind (m:=field (.ref z) 0) (wpAny_field hz rfl (x:=.none) rfl (wpAny_pure ?_));simp only [if_true]
 refine wpAny_bind (wpAny_rule (wpAny_bind (wpAny_field hz rfl (x:=.ref TO) rfl (wpAny_bind (wpAny_setField_rec hz (by simp) fun h₁ hz₁ hs₁=>?_)))))
 replace hz₁:IsZip h₁ z TI TO .ellipsis:=hz₁
 refine wpAny_bind ?_
 walk_at "ps"
 refine wpAny_bind (wpAny_bind (wpAny_onRaise ?_));refine wpAny_bind (m:=Builtin.SmallTypes.nextOf (.ref i1)) ?_
 refine ZhJ (u1.extBut hs₁.extBut D.i1z) (v1.extBut hs₁.extBut D.l1z) hx fun h₂ w1 hs₂=>wpAny_pure ?_
 have hTO₂:IsPair h₂ TO a b:=hs₂.extBut _ _ D.TOi1 (hs₁.extBut _ _ D.TOz hTO)
 refine wpAny_bind (wpAny_seqItems hTO₂ rfl (wpAny_bind (wpAny_updateSeq_pair hTO₂ fun h₃ hTO₃ hs₃=>?_)))
 replace hTO₃:IsPair h₃ TO x b:=hTO₃
 refine wpAny_bind (wpAny_letGo (wpAny_pure ?_));refine wpAny_bind (wpAny_bind (wpAny_onRaise ?_));refine wpAny_bind (m:=Builtin.SmallTypes.nextOf (.ref i2)) ?_
 refine ZhJ (((u2.extBut hs₁.extBut D.i2z).extBut hs₂.extBut D.i12.symm).extBut hs₃.extBut D.TOi2.symm) (((v2.extBut hs₁.extBut D.l2z).extBut hs₂.extBut D.l2i1).extBut hs₃.extBut D.l2TO) hy fun h₄ w2 hs₄=>wpAny_pure ?_
 have hTO₄:IsPair h₄ TO x b:=hs₄.extBut _ _ D.TOi2 hTO₃
 refine wpAny_bind (wpAny_seqItems hTO₄ rfl (wpAny_bind (wpAny_updateSeq_pair hTO₄ fun h₅ hTO₅ hs₅=>?_)))
 replace hTO₅:IsPair h₅ TO x y:=hTO₅
 refine wpAny_bind (wpAny_letGo (wpAny_pure (wpAny_pure ?_)));refine wpAny_bind (wpAny_seqItems hTO₅ rfl (wpAny_bind (wpAny_newTuple ?_ (by show (2:Nat)≤sizeLine;decide))))
 have hsz:h₅.objs.size=s.heap.objs.size:=by rw [hs₅.1,hs₄.1,hs₃.1,hs₂.1,hs₁.1]
 have hz₅:IsZip h₅ z TI TO .ellipsis:=hs₅.extBut _ _ D.TOz.symm (hs₄.extBut _ _ D.i2z.symm (hs₃.extBut _ _ D.TOz.symm (hs₂.extBut _ _ D.i1z.symm hz₁)))
 have w1':h₅.IsTupleIter i1 l1 (k1+1):=((w1.extBut hs₃.extBut D.TOi1.symm).extBut hs₄.extBut D.i12).extBut hs₅.extBut D.TOi1.symm
 have w2':h₅.IsTupleIter i2 l2 (k2+1):=w2.extBut hs₅.extBut D.TOi2.symm
 refine wpAny_bind (m:=Builtin.SmallTypes.ownedTupleHandOut (.ref z) (.ref h₅.objs.size)) ?_
 unfold Builtin.SmallTypes.ownedTupleHandOut
 have hz₆:IsZip (h₅.push { cls:=.type "tuple",data:=.seq #[x,y] }) z TI TO .ellipsis:=Heap.get?_push_of_some _ hz₅
 refine wpAny_bind (wpAny_setField_rec hz₆ (by simp) fun h₇ hz₇ hs₇=>?_)
 replace hz₇:IsZip h₇ z TI TO (rawInt h₅.objs.size):=hz₇
 refine wpAny_setField_rec hz₇ (by simp) fun h₈ hz₈ hs₈=>?_
 replace hz₈:IsZip h₈ z TI TO (rawInt h₅.objs.size):=hz₈
 have zlt:h₅.objs.size≠z:=Nat.ne_of_gt (Heap.lt_size hz₅)
 have upp:∀ c o,c≠z→h₅.get? c=some o→h₈.get? c=some o:=fun c o c1 e=>hs₈.extBut _ _ c1 (hs₇.extBut _ _ c1 (Heap.get?_push_of_some _ e))
 have hT₈:IsPair h₈ h₅.objs.size x y:=hs₈.extBut _ _ zlt (hs₇.extBut _ _ zlt (Heap.get?_push_size _ rfl))
 rw [hsz] at hz₈ hT₈
 refine wpAny_pure ⟨_,rfl,(?_:Q (.ref h₅.objs.size) _)⟩
 rw [hsz]
 obtain ⟨o1,e1,r1⟩:=w1'
 obtain ⟨o2,e2,r2⟩:=w2'
 exact hQ h₈ hz₈ (upp _ _ D.TOz hTO₅) ⟨o1,upp _ _ D.i1z e1,r1⟩ ⟨o2,upp _ _ D.i2z e2,r2⟩ hT₈ fun c o c1 c2 c3 c4 e=>upp c o c1 (hs₅.extBut _ _ c2 (hs₄.extBut _ _ c4 (hs₃.extBut _ _ c2 (hs₂.extBut _ _ c3 (hs₁.extBut _ _ c1 e)))))
theorem Zyd {z TI TO i1 i2 l1 l2:Addr} {k1 k2:Nat} {xs ys:Array Value} {a b:Value} {Q:Fin→Shared→Prop} (hh:A.handled=none) (D:ZipApart z TI TO i1 i2 l1 l2) (hz:IsZip s.heap z TI TO .none) (hTI:IsPair s.heap TI (.ref i1) (.ref i2)) (hTO:IsPair s.heap TO a b)
  (u1:s.heap.IsTupleIter i1 l1 k1) (u2:s.heap.IsTupleIter i2 l2 k2) (v1:s.heap.IsTuple l1 xs) (v2:s.heap.IsTuple l2 ys) (hend:xs[k1]?=none∨ys[k2]?=none)
  (hE:∀ h' e,(∀ c o,c≠z→c≠TO→c≠i1→c≠i2→s.heap.get? c=some o→h'.get? c=some o)→(∃ o,h'.get? e=some o∧o.cls=.type "StopIteration")→E (.ref e) { s with heap:=h' }):wpAny (model prog w) A (Builtin.«zip.__next__» ⟨[.ref z],[]⟩) Q E s:=by
 refine wpAny_bind (m:=field (.ref z) 2) (wpAny_field hz rfl (x:=.bool false) rfl ?_)
 refine wpAny_bind (m:=field (.ref z) 3) (wpAny_field hz rfl (x:=.ref TI) rfl (wpAny_bind (m:=seqItems? (.ref TI)) (wpAny_seqItems hTI rfl ?_)))
 refine wpAny_bind (m:=Builtin.SmallTypes.ownedTupleIsFree (.ref z)) ?_
 unfold Builtin.SmallTypes.ownedTupleIsFree
 refine wpAny_bind (m:=field (.ref z) 0) (wpAny_field hz rfl (x:=.none) rfl (wpAny_pure ?_));simp only [if_true]
 refine wpAny_bind (wpAny_rule (wpAny_bind (wpAny_field hz rfl (x:=.ref TO) rfl (wpAny_bind (wpAny_setField_rec hz (by simp) fun h₁ hz₁ hs₁=>?_)))))
 replace hz₁:IsZip h₁ z TI TO .ellipsis:=hz₁
 refine wpAny_bind ?_
 walk_at "ps"
 refine wpAny_bind (wpAny_bind (wpAny_onRaise ?_));refine wpAny_bind (m:=Builtin.SmallTypes.nextOf (.ref i1)) ?_
 cases hx:xs[k1]? with
 | none =>
  refine Zsb hh (u1.extBut hs₁.extBut D.i1z) (v1.extBut hs₁.extBut D.l1z) hx fun h₂ e hs₂ zz1=>?_
  obtain ⟨oe,hoe,hce⟩:=zz1
  have hz₂:IsZip h₂ z TI TO .ellipsis:=hs₂ _ _ D.i1z.symm hz₁
  have hez:e≠z:=fun q=>by subst q;rw [hz₂] at hoe;cases hoe;simp at hce
  exact wpAny_setField_rec hz₂ (by simp) fun h₃ _ hs₃=>hE h₃ e (fun c o c1 _ c3 _ q=>hs₃.extBut _ _ c1 (hs₂ _ _ c3 (hs₁.extBut _ _ c1 q))) ⟨oe,hs₃.extBut _ _ hez hoe,hce⟩
 | some x =>
  have hy:ys[k2]?=none:=by
   rcases hend with q | q
   ·rw [hx] at q;cases q
   ·exact q
  refine ZhJ (u1.extBut hs₁.extBut D.i1z) (v1.extBut hs₁.extBut D.l1z) hx fun h₂ w1 hs₂=>wpAny_pure ?_
  have hTO₂:IsPair h₂ TO a b:=hs₂.extBut _ _ D.TOi1 (hs₁.extBut _ _ D.TOz hTO)
  refine wpAny_bind (wpAny_seqItems hTO₂ rfl (wpAny_bind (wpAny_updateSeq_pair hTO₂ fun h₃ hTO₃ hs₃=>?_)))
  refine wpAny_bind (wpAny_letGo (wpAny_pure ?_));refine wpAny_bind (wpAny_bind (wpAny_onRaise ?_));refine wpAny_bind (m:=Builtin.SmallTypes.nextOf (.ref i2)) ?_
  refine Zsb hh (((u2.extBut hs₁.extBut D.i2z).extBut hs₂.extBut D.i12.symm).extBut hs₃.extBut D.TOi2.symm) (((v2.extBut hs₁.extBut D.l2z).extBut hs₂.extBut D.l2i1).extBut hs₃.extBut D.l2TO) hy fun h₄ e hs₄ zz2=>?_
  obtain ⟨oe,hoe,hce⟩:=zz2
  have hz₄:IsZip h₄ z TI TO .ellipsis:=hs₄ _ _ D.i2z.symm (hs₃.extBut _ _ D.TOz.symm (hs₂.extBut _ _ D.i1z.symm hz₁))
  have hez:e≠z:=fun q=>by subst q;rw [hz₄] at hoe;cases hoe;simp at hce
  exact wpAny_setField_rec hz₄ (by simp) fun h₅ _ hs₅=>hE h₅ e (fun c o c1 c2 c3 c4 q=>hs₅.extBut _ _ c1 (hs₄ _ _ c4 (hs₃.extBut _ _ c2 (hs₂.extBut _ _ c3 (hs₁.extBut _ _ c1 q))))) ⟨oe,hs₅.extBut _ _ hez hoe,hce⟩
end
end L3
namespace L3
open PySem PySem.Spec PyProof.Rows L2
variable {K:PySem.W.Frag} {H H' H2:Hp}
section
variable {prog:Program} {w:World} {A:Around} {E:Value→Shared→Prop} {s:Shared}
theorem tat {h h':Heap} {a t:Addr} {i:Nat} (x:h.IsTupleIter a t i) (k:∀ o,h.get? a=some o→h'.get? a=some o):h'.IsTupleIter a t i:=by
 obtain ⟨o,e,r⟩:=x
 exact ⟨o,k o e,r⟩
theorem ZzY {h h':Heap} {a:Addr} {xs:Array Value} (x:h.IsTuple a xs) (k:∀ o,h.get? a=some o→h'.get? a=some o):h'.IsTuple a xs:=by
 obtain ⟨o,e,r⟩:=x
 exact ⟨o,k o e,r⟩
theorem Zkp (hh:A.handled=none) (z TI TO i1 i2 l1 l2:Addr) (D:ZipApart z TI TO i1 i2 l1 l2) (xs ys:Array Value):WalksT prog w A z [z,TI,TO,i1,i2,l1,l2] [z,TO,i1,i2] (min xs.size ys.size) (fun i vals=>∃ x y,xs[i]?=some x∧ys[i]?=some y∧vals=#[x,y])
   (fun i h=>IsZip h z TI TO .none∧IsPair h TI (.ref i1) (.ref i2)∧(∃ a b,IsPair h TO a b)∧h.IsTupleIter i1 l1 i∧h.IsTupleIter i2 l2 i∧h.IsTuple l1 xs∧h.IsTuple l2 ys)
   (fun i T h=>IsZip h z TI TO (rawInt T)∧IsPair h TI (.ref i1) (.ref i2)∧(∃ a b,IsPair h TO a b)∧h.IsTupleIter i1 l1 (i+1)∧h.IsTupleIter i2 l2 (i+1)∧h.IsTuple l1 xs∧h.IsTuple l2 ys∧T≠z∧T≠TO∧T≠i1∧T≠i2) where
 sub:=fun c hc=>by simp at hc ⊢;rcases hc with rfl | rfl | rfl | rfl <;> simp
 frame:=fun i h h' st kk=>by
  obtain ⟨hz,hTI,⟨a,b,hTO⟩,h1,h2,g1,g2⟩:=st
  exact ⟨kk z (by simp) _ hz,kk TI (by simp) _ hTI,⟨a,b,kk TO (by simp) _ hTO⟩,tat h1 fun o e=>kk i1 (by simp) o e,tat h2 fun o e=>kk i2 (by simp) o e,ZzY g1 fun o e=>kk l1 (by simp) o e,ZzY g2 fun o e=>kk l2 (by simp) o e⟩
 item:=fun i s Q E hi st hQ=>by
  obtain ⟨hz,hTI,⟨a,b,hTO⟩,h1,h2,g1,g2⟩:=st
  have ix:i < xs.size:=Nat.lt_of_lt_of_le hi (Nat.min_le_left ..)
  have iy:i < ys.size:=Nat.lt_of_lt_of_le hi (Nat.min_le_right ..)
  have hT:s.TypeIs (.ref z) "zip":=⟨_,hz,rfl⟩
  have lt:∀ {c o},s.heap.get? c=some o→s.heap.objs.size≠c:=fun e=>Nat.ne_of_gt (Heap.lt_size e)
  unfold pyNext
  refine wpAny_bind (wpAny_attempt (wpAny_callSpecial?_slot (name:=Str.ofString "__next__") hT PySem.F.slot_zip_next (wpAny_call_entry PySem.F.slot_zip_next hT PySem.F.entry_zip_next (Zwm D hz hTI hTO h1 h2 g1 g2 (Array.getElem?_eq_getElem ix) (Array.getElem?_eq_getElem iy) fun h' a1 a2 a3 a4 a5 hk=>wpAny_pure ?_) (PySem.F.args_zip_next_1 _))))
  exact hQ s.heap.objs.size #[xs[i],ys[i]] h' s.toks ⟨_,_,Array.getElem?_eq_getElem ix,Array.getElem?_eq_getElem iy,rfl⟩ (Nat.le_refl _) ⟨_,a5,rfl,_,rfl⟩ ⟨a1,hk _ _ D.TIz D.TITO D.TIi1 D.TIi2 hTI,⟨_,_,a2⟩,a3,a4,ZzY g1 fun o e=>hk _ o D.l1z D.l1TO D.l1i1 D.l1i2 e,ZzY g2 fun o e=>hk _ o D.l2z D.l2TO D.l2i1 D.l2i2 e,lt hz,lt hTO,(by obtain ⟨_,e,_⟩:=h1;exact lt e),(by obtain ⟨_,e,_⟩:=h2;exact lt e)⟩ fun c o hc e=>hk c o (fun x=>hc (by simp [x])) (fun x=>hc (by simp [x])) (fun x=>hc (by simp [x])) (fun x=>hc (by simp [x])) e
 go:=fun elts k pos i T s Q E hm hQ=>by
  obtain ⟨hz,hTI,⟨a,b,hTO⟩,h1,h2,g1,g2,_⟩:=hm
  exact wpAny_letOwnedTupleGo_zip hz fun h' hz' hs'=>hQ h' ⟨hz',hs'.extBut _ _ D.TIz hTI,⟨a,b,hs'.extBut _ _ D.TOz hTO⟩,h1.extBut hs'.extBut D.i1z,h2.extBut hs'.extBut D.i2z,g1.extBut hs'.extBut D.l1z,g2.extBut hs'.extBut D.l2z⟩ fun c o hc e=>hs'.extBut _ _ (fun x=>hc (by simp [x])) e
 apart:=fun i T h hm hT=>by
  obtain ⟨_,_,_,_,_,_,_,t1,t2,t3,t4⟩:=hm
  simp at hT
  rcases hT with e | e | e | e
  ·exact t1 e
  ·exact t2 e
  ·exact t3 e
  ·exact t4 e
 done:=fun s Q E st hQ=>by
  obtain ⟨hz,hTI,⟨a,b,hTO⟩,h1,h2,g1,g2⟩:=st
  have hend:xs[min xs.size ys.size]?=none∨ys[min xs.size ys.size]?=none:=by
   rcases Nat.le_total xs.size ys.size with q | q
   ·exact .inl (Array.getElem?_eq_none (by omega))
   ·exact .inr (Array.getElem?_eq_none (by omega))
  have hT:s.TypeIs (.ref z) "zip":=⟨_,hz,rfl⟩
  unfold pyNext
  refine wpAny_bind (wpAny_attempt (wpAny_callSpecial?_slot (name:=Str.ofString "__next__") hT PySem.F.slot_zip_next (wpAny_call_entry PySem.F.slot_zip_next hT PySem.F.entry_zip_next (Zyd hh D hz hTI hTO h1 h2 g1 g2 hend fun h' e hk he=>?_) (PySem.F.args_zip_next_1 _))))
  obtain ⟨o,ho,hc⟩:=he
  exact wpAny_bind (wpAny_isInstance (T:="StopIteration") (b:=true) ⟨o,ho,hc⟩ isSubtype_stop (wpAny_pure (hQ h' s.toks fun c o hc e=>hk c o (fun x=>hc (by simp [x])) (fun x=>hc (by simp [x])) (fun x=>hc (by simp [x])) (fun x=>hc (by simp [x])) e)))
 self:=fun i s Q E st hQ=>wpAny_pyIter_zip st.1 hQ
abbrev zT1 (h:Heap) (l1:Addr):Heap:=h.push { cls:=.type "tuple_iterator",data:=.fields #[.ref l1,.int 0 0] }
abbrev zT2 (h:Heap) (l1 l2:Addr):Heap:=(zT1 h l1).push { cls:=.type "tuple_iterator",data:=.fields #[.ref l2,.int 0 0] }
abbrev zT3 (h:Heap) (l1 l2:Addr):Heap:=(zT2 h l1 l2).push { cls:=.type "tuple",data:=.seq #[.ref h.objs.size,.ref (zT1 h l1).objs.size] }
abbrev zT4 (h:Heap) (l1 l2:Addr):Heap:=(zT3 h l1 l2).push { cls:=.type "tuple",data:=.seq #[.none,.none] }
abbrev zT5 (h:Heap) (l1 l2:Addr):Heap:=(zT4 h l1 l2).push { cls:=.type "zip",data:=.fields #[.none,.bool false,.bool false,.ref (zT2 h l1 l2).objs.size,.ref (zT3 h l1 l2).objs.size] }
theorem Zti (l1 l2:Addr) (xs ys:Array Value):Meets (Builtin.«zip.__new__» ⟨[.type "zip",.ref l1,.ref l2],[]⟩) (fun _ R s=>s.heap.IsTuple l1 xs∧s.heap.IsTuple l2 ys∧R (.ok (.ret (.ref (zT4 s.heap l1 l2).objs.size))) { s with heap:=zT5 s.heap l1 l2 }) :=
 .of_wp fun prog w A R s h=>by
  obtain ⟨hp,g,d,tk,os⟩:=s
  obtain ⟨u1,u2,h⟩:=h
  have hsub:=sub_zip
  have hL1:Heap.IsTuple (Shared.heap ⟨hp,g,d,tk,os⟩) l1 xs:=u1
  have hL2:Heap.IsTuple (Shared.heap ⟨hp.push { cls:=.type "tuple_iterator",data:=.fields #[.ref l1,.int 0 0] },g,d,tk,os⟩) l2 ys:=Heap.IsTuple.push u2 _
  wp_walk using wpAny_pyIter_tuple hL1,wpAny_pyIter_tuple hL2
  exact ⟨_,rfl,h⟩
theorem ZqF {l1 l2:Addr} {xs ys:Array Value} {Q:Value→Shared→Prop} (u1:s.heap.IsTuple l1 xs) (u2:s.heap.IsTuple l2 ys)
  (h:∀ h',IsZip h' (s.heap.objs.size+4) (s.heap.objs.size+2) (s.heap.objs.size+3) .none→IsPair h' (s.heap.objs.size+2) (.ref s.heap.objs.size) (.ref (s.heap.objs.size+1))→IsPair h' (s.heap.objs.size+3) .none .none→h'.IsTupleIter s.heap.objs.size l1 0→h'.IsTupleIter (s.heap.objs.size+1) l2 0→h'.objs.size=s.heap.objs.size+5→(∀ c o,s.heap.get? c=some o→h'.get? c=some o)→Q (.ref (s.heap.objs.size+4)) { s with heap:=h' }) :
  wpAny (model prog w) A (call (.type "zip") [.ref l1,.ref l2]) Q E s:=by
 refine callType_new PySem.F.called_zip (by decide) (PySem.F.typeCall_zip_2 _ _) (PySem.F.newCall_zip_2 _ _) (fun obj=>PySem.F.args_object_init_3 obj _ _) PySem.F.entry_zip_new (Zti l1 l2 xs ys) ⟨u1,u2,?_⟩
 have z1:(zT1 s.heap l1).objs.size=s.heap.objs.size+1:=Heap.size_push ..
 have z2:(zT2 s.heap l1 l2).objs.size=s.heap.objs.size+2:=by rw [Heap.size_push,z1]
 have z3:(zT3 s.heap l1 l2).objs.size=s.heap.objs.size+3:=by rw [Heap.size_push,z2]
 have z4:(zT4 s.heap l1 l2).objs.size=s.heap.objs.size+4:=by rw [Heap.size_push,z3]
 have z5:(zT5 s.heap l1 l2).objs.size=s.heap.objs.size+5:=by rw [Heap.size_push,z4]
 have g5:(zT5 s.heap l1 l2).get? (zT4 s.heap l1 l2).objs.size=some _:=Heap.get?_push_size _ rfl
 have g4:(zT5 s.heap l1 l2).get? (zT3 s.heap l1 l2).objs.size=some _:=Heap.get?_push_of_some _ (Heap.get?_push_size _ rfl)
 have g3:(zT5 s.heap l1 l2).get? (zT2 s.heap l1 l2).objs.size=some _:=Heap.get?_push_of_some _ (Heap.get?_push_of_some _ (Heap.get?_push_size _ rfl))
 have g2:(zT5 s.heap l1 l2).get? (zT1 s.heap l1).objs.size=some _:=Heap.get?_push_of_some _ (Heap.get?_push_of_some _ (Heap.get?_push_of_some _ (Heap.get?_push_size _ rfl)))
 have g1:(zT5 s.heap l1 l2).get? s.heap.objs.size=some _:=Heap.get?_push_of_some _ (Heap.get?_push_of_some _ (Heap.get?_push_of_some _ (Heap.get?_push_of_some _ (Heap.get?_push_size _ rfl))))
 rw [z2,z3,z4] at g5
 rw [z1,z2] at g3
 rw [z3] at g4
 rw [z1] at g2
 rw [z4]
 exact ⟨⟨_,g5,rfl⟩,h _ g5 g3 g4 ⟨_,g1,rfl,rfl⟩ ⟨_,g2,rfl,rfl⟩ z5 fun c o x=>Heap.get?_push_of_some _ (Heap.get?_push_of_some _ (Heap.get?_push_of_some _ (Heap.get?_push_of_some _ (Heap.get?_push_of_some _ x))))⟩
end
def ZBy (K:PySem.W.Frag) (l1 l2:Addr):It :=
 ⟨fun i H=>∃ xs ys,SqT K H l1 xs∧SqT K H l2 ys∧i < xs.length∧i < ys.length,
  fun i H v H'=>∃ T x y,H T=none∧v=.ref T∧H'=upd H T (.tup [x,y])∧∀ xs ys,SqT K H l1 xs→SqT K H l2 ys→xs[i]?=some x∧ys[i]?=some y,
  fun i H=>∃ xs ys,SqT K H l1 xs∧SqT K H l2 ys∧i=min xs.length ys.length⟩
theorem Zse {P:Program} {w:World} {elts:List Expr} {k:Nat} {tpos:Pos} {z TI TO i1 i2 l1 l2:Addr} (D:ZipApart z TI TO i1 i2 l1 l2) :
  ZsJ P w K (.Tuple elts k tpos) (ZBy K l1 l2) [z,TI,TO,i1,i2] z (fun i h=>IsZip h z TI TO .none∧IsPair h TI (.ref i1) (.ref i2)∧(∃ a b,IsPair h TO a b)∧h.IsTupleIter i1 l1 i∧h.IsTupleIter i2 l2 i) where
 mem:=by simp
 obj:=fun i h st b hb=>by
  obtain ⟨hz,hTI,⟨a,c,hTO⟩,⟨o1,e1,_,d1⟩,⟨o2,e2,_,d2⟩⟩:=st
  walk_at "pm"
  rcases hb with rfl | rfl | rfl | rfl | rfl
  ·exact ⟨_,hz,fun v z=>by cases z⟩
  ·exact ⟨_,hTI,fun v z=>by cases z⟩
  ·exact ⟨_,hTO,fun v z=>by cases z⟩
  ·exact ⟨o1,e1,fun v z=>by rw [d1] at z;cases z⟩
  ·exact ⟨o2,e2,fun v z=>by rw [d2] at z;cases z⟩
 keep:=fun i h h' st kk=>by
  obtain ⟨hz,hTI,⟨a,c,hTO⟩,h1,h2⟩:=st
  exact ⟨kk z (by simp) _ hz,kk TI (by simp) _ hTI,⟨a,c,kk TO (by simp) _ hTO⟩,h1.at fun o e=>kk i1 (by simp) o e,h2.at fun o e=>kk i2 (by simp) o e⟩
 item:=by
  walk_at "pb"
  subst hP hw hK
  obtain ⟨xs,ys,hx,hy,hix,hiy⟩:=hg
  obtain ⟨its1,r1,pl1,z1⟩:=I.tuple hx
  obtain ⟨its2,r2,pl2,z2⟩:=I.tuple hy
  have n1:=r1.length
  have n2:=r2.length
  obtain ⟨hz,hTI,hTO,h1,h2⟩:=st
  have Wk:=Zkp (prog:=X.prog) (w:=X.w) (A:=X.A) (I.ok.hd hc) z TI TO i1 i2 l1 l2 D its1.toArray its2.toArray
  refine Wk.item i s _ _ (by simp only [List.size_toArray];omega) ⟨hz,hTI,hTO,h1,h2,pl1,pl2⟩ fun T vals h' tk hPt hT hTup hMid hk=>⟨.ref T,rfl,?_⟩
  refine Wk.go elts k tpos i T _ _ _ hMid fun h2' st2 hk2=>?_
  obtain ⟨v1,v2,g1,g2,rfl⟩:=hPt
  have g1':its1[i]?=some v1:=by simpa using g1
  have g2':its2[i]?=some v2:=by simpa using g2
  have gx:xs[i]?=some xs[i]:=List.getElem?_eq_getElem hix
  have gy:ys[i]?=some ys[i]:=List.getElem?_eq_getElem hiy
  obtain ⟨u1,q1,rv1⟩:=r1.get gx
  obtain ⟨u2,q2,rv2⟩:=r2.get gy
  rw [g1'] at q1;cases q1
  rw [g2'] at q2;cases q2
  have hw1:∀ b,b∉[z,TI,TO,i1,i2]→b∉[z,TO,i1,i2]:=fun b hb hc=>hb (by
   simp only [List.mem_cons,List.not_mem_nil,or_false] at hc ⊢
   rcases hc with h | h | h | h <;> simp [h])
  have I1:Inv X pins σ H { s with heap:=h2',toks:=tk }:=Inv.turneds I hf fun b o hb e=>hk2 b o (hw1 b hb) (hk b o (hw1 b hb) e)
  have hTn:H T=none:=I.hok.fresh hT
  have hTup2:IsTup h2' T #[v1,v2]:=by
   obtain ⟨o,e,c,m,d⟩:=hTup
   exact ⟨o,hk2 _ _ (Wk.apart _ _ _ hMid) e,c,m,d⟩
  have lt:∀ {b:Addr} {o:Obj},s.heap.get? b=some o→b≠T:=fun e q=>absurd (Nat.lt_of_lt_of_le (Heap.lt_size e) hT) (by rw [q];exact Nat.lt_irrefl _)
  have I2:Inv X pins σ (upd H T (.tup [xs[i],ys[i]])) { s with heap:=h2',toks:=tk }:=by
   refine I1.track hTn ?_ (fun x c e=>?_) (fun p hp=>?_) ?_ ⟨by show 2≤sizeLine;decide,[v1,v2],.cons rv1 (.cons rv2 .nil),hTup2⟩
   ·obtain ⟨m,⟨o,es,ep,ho,_⟩,_⟩:=I.loc
    exact Ne.symm (lt ho)
   ·obtain ⟨v,o,ho,_⟩:=I.cell x c e
    exact lt ho
   ·exact lt (I.pin p hp).1
   ·cases e:X.s₀.heap.get? T with
    | none=>rfl
    | some o=>exact absurd (Nat.lt_of_lt_of_le (Heap.lt_size e) (Nat.le_trans I.sz hT)) (Nat.lt_irrefl _)
  refine ⟨.ref T,_,I2,rfl,⟨T,_,_,hTn,rfl,rfl,fun xs' ys' hx' hy'=>?_⟩,⟨st2.1,st2.2.1,st2.2.2.1,st2.2.2.2.1,st2.2.2.2.2.1⟩,fun b hb=>?_⟩
  ·rw [I.tuple_inj hx' hx,I.tuple_inj hy' hy];exact ⟨gx,gy⟩
  ·have hb':=(hf b hb).1
   have:b≠T:=by
    obtain ⟨o,e,_⟩:∃ o,s.heap.get? b=some o∧True:=by
     obtain ⟨a,c,hTO'⟩:=hTO
     obtain ⟨o1,e1,_⟩:=h1
     obtain ⟨o2,e2,_⟩:=h2
     walk_at "pm"
     rcases hb with rfl | rfl | rfl | rfl | rfl
     ·exact ⟨_,hz,trivial⟩
     ·exact ⟨_,hTI,trivial⟩
     ·exact ⟨_,hTO',trivial⟩
     ·exact ⟨_,e1,trivial⟩
     ·exact ⟨_,e2,trivial⟩
    exact lt e
   rw [Za8 this];exact hb'
 done:=by
  walk_at "pb"
  subst hP hw hK
  obtain ⟨xs,ys,hx,hy,hi⟩:=hg
  obtain ⟨its1,r1,pl1,z1⟩:=I.tuple hx
  obtain ⟨its2,r2,pl2,z2⟩:=I.tuple hy
  have n1:=r1.length
  have n2:=r2.length
  obtain ⟨hz,hTI,hTO,h1,h2⟩:=st
  have Wk:=Zkp (prog:=X.prog) (w:=X.w) (A:=X.A) (I.ok.hd hc) z TI TO i1 i2 l1 l2 D its1.toArray its2.toArray
  have hi':i=min its1.toArray.size its2.toArray.size:=by simp only [List.size_toArray];omega
  subst hi'
  refine Wk.done s _ _ ⟨hz,hTI,hTO,h1,h2,pl1,pl2⟩ fun h' tk hk=>⟨rfl,Inv.turneds I hf fun b o hb e=>hk b o (fun hc=>hb ?_) e⟩
  simp only [List.mem_cons,List.not_mem_nil,or_false] at hc ⊢
  rcases hc with h | h | h | h <;> simp [h]
 self:=fun A i s Q E st h=>wpAny_pyIter_zip st.1 h
def ZAs (K:PySem.W.Frag) (ta:TA):TI:=fun σ H R=>ta σ H fun vs H1=>∃ a b xs ys,vs=[.ref a,.ref b]∧SqT K H1 a xs∧SqT K H1 b ys∧R (ZBy K a b) H1
theorem ZwK {X:Cx} {a b:Expr} {ta:TA} {p pos tpos:Pos} {elts:List Expr} {k:Nat} (hg:Gl X "zip") (hm:X.mg "zip"=none) (ha:PA X [a,b] ta) (hs:starEach [a,b] X.env=[(false,eval a X.env),(false,eval b X.env)]) (hs2:starEach [b] X.env=[(false,eval b X.env)]) :
  PI X (.Tuple elts k tpos) (.Call (.Name "zip" p) [a,b] [] pos) (ZAs X.K ta):=by
 intro pins s σ H R I h
 refine Call_ (ZeW I hg hm boot_zip (PyProof.Rows.callWith_type1 (thn (ha pos pins s σ H _ I h) fun us s1 zz1=>?_) (by rw [hs,hs2]) (by rw [hs2];rfl)))
 obtain ⟨vs,H1,I1,r1,q1⟩:=zz1
 obtain ⟨l1,l2,xs,ys,e,hx,hy,q⟩:=q1
 subst e
 obtain ⟨u,u2,rfl,ru,ru2⟩:=Ztx r1
 cases ru
 cases ru2
 obtain ⟨its1,_,pl1,_⟩:=I1.tuple hx
 obtain ⟨its2,_,pl2,_⟩:=I1.tuple hy
 have a1:l1 < s1.heap.objs.size:=by obtain ⟨_,e,_⟩:=pl1;exact Heap.lt_size e
 have a2:l2 < s1.heap.objs.size:=by obtain ⟨_,e,_⟩:=pl2;exact Heap.lt_size e
 refine ZqF pl1 pl2 fun h' hz hTI hTO hi1 hi2 hsz hk=>wpAny_pyIter_zip hz ?_
 refine ⟨_,_,_,_,H1,rfl,I1.kept (t':=s1.toks) hk,Zse (zipApart_new a1 a2),⟨hz,hTI,⟨_,_,hTO⟩,hi1,hi2⟩,fun b hb=>?_,q⟩
 have hge:s1.heap.objs.size≤b:=by
  walk_at "pm"
  rcases hb with rfl | rfl | rfl | rfl | rfl
  ·exact Nat.le_add_right _ 4
  ·exact Nat.le_add_right _ 2
  ·exact Nat.le_add_right _ 3
  ·exact Nat.le_refl _
  ·exact Nat.le_add_right _ 1
 exact I1.fpOk hge (I1.hok.fresh hge)
def Zf9 (gs:GA):GI:=fun ω G R=>gs ω G fun ws G1=>∃ xs ys,ws=[.tup xs,.tup ys]∧R (ZlF xs ys) yes G1
theorem Zwl {gs:GA} (m:gs.M):GI.M (Zf9 gs):=fun ω G R R' h q=>m _ _ _ _ ((by rintro ws G1 ⟨xs,ys,e,z⟩;exact ⟨xs,ys,e,h _ _ _ z⟩)) q
theorem ZlY {v:V} {xs:List W} (t:Tr K H v (.tup xs)):∃ a vs,v=.ref a∧SqT K H a vs∧TrL K H vs xs:=by
 cases t with
 | tup h l=>exact ⟨_,_,rfl,h,l⟩
theorem Znz {X:Cx} {a b:Expr} {p pos tpos:Pos} {elts:List Expr} {k:Nat} {gs:GA} (hm:X.mg "zip"=none) (hg:Gl X "zip") (hs:starEach [a,b] X.env=[(false,eval a X.env),(false,eval b X.env)]) (hs2:starEach [b] X.env=[(false,eval b X.env)]) (ha:Am X [a,b] gs) :
  Im X (.Tuple elts k tpos) (.Call (.Name "zip" p) [a,b] [] pos) (Zf9 gs):=by
 refine ⟨⟨_,ZwK hg hm ha.p hs hs2,fun σ H ω G R R0 ts r q kk=>⟨ω,G,ts,r,ha.m _ _ _ _ (fun ws G1 z vs H1 m t r1=>?_) q⟩⟩,Zwl ha.m⟩
 obtain ⟨xs,ys,rfl,z⟩:=z
 cases t with
 | cons tx t =>
  cases t with
  | cons ty t =>
   cases t
   obtain ⟨a1,us1,rfl,hq1,l1⟩:=ZlY tx
   obtain ⟨a2,us2,rfl,hq2,l2⟩:=ZlY ty
   refine ⟨a1,a2,us1,us2,rfl,hq1,hq2,kk _ _ _ H1 _ z m r1 trivial ⟨fun i H3 G3 m3 r3 g3 hi=>?_,fun i H3 G3 v H4 m3 r3 g3 y3 hi=>?_,fun H3 G3 m3 r3 g3=>?_⟩⟩
   ·rw [Zg5] at hi
    exact ⟨us1,us2,m3.tup _ _ hq1,m3.tup _ _ hq2,by rw [l1.length];omega,by rw [l2.length];omega⟩
   ·obtain ⟨T,v1,v2,hT,rfl,rfl,hv⟩:=y3
    obtain ⟨g1,g2⟩:=hv _ _ (m3.tup _ _ hq1) (m3.tup _ _ hq2)
    obtain ⟨w1,q1,tw1⟩:=(l1.mono m3).get' g1
    obtain ⟨w2,q2,tw2⟩:=(l2.mono m3).get' g2
    have mn:Mono X.K H3 (upd H3 T (.tup [v1,v2])):=Mono.new hT _
    exact ⟨mn,r3.mono0 hT,_,ZlJ _ _ i q1 q2,.tup (SqT.of Zbq) (.cons (tw1.mono mn) (.cons (tw2.mono mn) .nil))⟩
   ·exact ⟨us1,us2,m3.tup _ _ hq1,m3.tup _ _ hq2,by rw [Zg5,l1.length,l2.length]⟩
end L3
namespace L3
open PySem PySem.Spec PyProof.Rows L2
theorem nA {a b:Nat} (h:a≠b):@Ne Addr a b:=h
abbrev Znq (h:Heap) (T:Addr) (a b c:Value):Prop:=h.get? T=some { cls:=.type "tuple",data:=.seq #[a,b,c] }
section
variable {prog:Program} {w:World} {A:Around} {E:Value→Shared→Prop} {s:Shared}
theorem ZAr {T:Addr} {a b c x:Value} {k:Nat} {Q:Unit→Shared→Prop} (hT:Znq s.heap T a b c)
  (h:∀ h',h'.get? T=some { cls:=.type "tuple",data:=.seq ((#[a,b,c]:Array Value).setIfInBounds k x) }→Heap.SameBut T s.heap h'→Q () { s with heap:=h' }) :
  wpAny (model prog w) A (updateSeq T (·.setIfInBounds k x)) Q E s:=by
 refine wpAny_updateSeq hT rfl (h _ ?_ (Heap.SameBut.update ..))
 rw [Heap.get?_update_self _ hT rfl];simp [Obj.mapSeq]
def St3 (n l1 l2 l3:Nat) (f0:Value) (i:Nat) (h:Heap):Prop:=IsZip h (n+5) (n+3) (n+4) f0∧Znq h (n+3) (.ref n) (.ref (n+1)) (.ref (n+2))∧(∃ a b c,Znq h (n+4) a b c)∧h.IsListIter n l1 i∧h.IsListIter (n+1) l2 i∧h.IsListIter (n+2) l3 i
end
end L3
namespace L3
open PySem PySem.Spec PyProof.Rows L2
variable {K:PySem.W.Frag} {H H' H2:Hp}
section
variable {prog:Program} {w:World} {A:Around} {E:Value→Shared→Prop} {s:Shared}
theorem St3.at {n l1 l2 l3:Nat} {f0:Value} {i:Nat} {h h':Heap} (st:St3 n l1 l2 l3 f0 i h) (k:∀ (c:Nat) o,n≤c→c≤n+5→h.get? c=some o→h'.get? c=some o):St3 n l1 l2 l3 f0 i h':=by
 obtain ⟨hz,hTI,⟨a,b,c,hTO⟩,u1,u2,u3⟩:=st
 exact ⟨k _ _ (by omega) (by omega) hz,k _ _ (by omega) (by omega) hTI,⟨a,b,c,k _ _ (by omega) (by omega) hTO⟩,u1.at fun o e=>k _ o (by omega) (by omega) e,u2.at fun o e=>k _ o (by omega) (by omega) e,u3.at fun o e=>k _ o (by omega) (by omega) e⟩
theorem tc3 (a b c:Value):checkTypeCall "zip" ⟨[a,b,c],[]⟩=pure ():=by kernel_rfl
theorem nc3 (a b c:Value):checkBuiltinCall "zip.__new__" ⟨[.type "zip",a,b,c],[]⟩=pure ():=by kernel_rfl
theorem oi4 (a b c d:Value):argsOk "object.__init__" ⟨[a,b,c,d],[]⟩:=by
 unfold argsOk
 rw [signature?_of (o:=['t','c','e','j','b','o']) (n:=['_','_','t','i','n','i','_','_']) (id:="object.__init__") (by kernel_rfl) PySem.F.owner_object]
 kernel_rfl
end
theorem in6 {n b:Nat} (h:b∈[n+5,n+3,n+4,n,n+1,n+2]):n≤b∧b≤n+5:=by
 have h':b=n+5∨b=n+3∨b=n+4∨b=n∨b=n+1∨b=n+2:=by simpa using h
 omega
theorem of6 {n b:Nat} (h1:n≤b) (h2:b≤n+5):b∈[n+5,n+3,n+4,n,n+1,n+2]:=by
 have h':b=n+5∨b=n+3∨b=n+4∨b=n∨b=n+1∨b=n+2:=by omega
 simpa using h'
theorem no6 {n b:Nat} (h:b∉[n+5,n+3,n+4,n,n+1,n+2]):b < n∨n+5 < b:=by
 rcases Nat.lt_or_ge b n with z | z
 ·exact .inl z
 ·exact .inr (Nat.lt_of_not_le fun q=>h (of6 z q))
theorem ZAB {a b c:V} {us:List Value} (h:Vals [a,b,c] us):∃ u v w,us=[u,v,w]∧RelV a u∧RelV b v∧RelV c w:=by
 cases h with
 | cons h1 h =>
  cases h with
  | cons h2 h =>
   cases h with
   | cons h3 h=>cases h;exact ⟨_,_,_,rfl,h1,h2,h3⟩
def ZlH:List W→List W→List W→List W
 | x::xs,y::ys,z::zs=>.tup [x,y,z]::ZlH xs ys zs
 | _,_,_=>[]
theorem ZlI:∀ (xs ys zs:List W),ys.length=xs.length→zs.length=xs.length→(ZlH xs ys zs).length=xs.length
 | [],_,_,_,_=>by simp [ZlH]
 | _::xs,y::ys,z::zs,h,h'=>by
  simp only [List.length_cons] at h h'
  simp only [ZlH,List.length_cons,ZlI xs ys zs (by omega) (by omega)]
 | _::xs,[],_,h,_=>by simp at h
 | _::xs,_::_,[],_,h=>by simp at h
theorem ZoU:∀ (xs ys zs:List W) (i:Nat) {x y z:W},xs[i]?=some x→ys[i]?=some y→zs[i]?=some z→(ZlH xs ys zs)[i]?=some (.tup [x,y,z])
 | [],_,_,_,_,_,_,h,_,_=>by simp at h
 | _::_,[],_,_,_,_,_,_,h,_=>by simp at h
 | _::_,_::_,[],_,_,_,_,_,_,h=>by simp at h
 | a::xs,b::ys,c::zs,0,x,y,z,h,h',h''=>by simp at h h' h'';subst h;subst h';subst h'';rfl
 | a::xs,b::ys,c::zs,i+1,x,y,z,h,h',h''=>by
  have:=ZoU xs ys zs i (x:=x) (y:=y) (z:=z) (by simpa using h) (by simpa using h') (by simpa using h'')
  simpa [ZlH] using this
def ZvW (x:W):List W→Option Bool
 | []=>some false
 | w::ws=>if dpW w < 90 then (match eqD w x,ZvW x ws with | some a,some b=>some (a||b) | _,_=>none) else none
theorem Zr1 {x:W}:∀ {ws:List W} {b:Bool},ZvW x ws=some b→∃ e:Nat→Bool,(∀ (j:Nat) w,ws[j]?=some w→eqD w x=some (e j)∧dpW w < 90)∧(b=true↔∃ j,j < ws.length∧e j=true)
 | [],b,h=>by
  cases h
  exact ⟨fun _=>false,fun j w e=>by simp at e,by simp⟩
 | w::ws,b,h=>by
  unfold ZvW at h
  split at h
  ·rename_i hd
   split at h
   ·rename_i c d e1 e2
    cases h
    obtain ⟨e,h1,h2⟩:=Zr1 e2
    refine ⟨fun j=>match j with | 0=>c | j+1=>e j,fun j u hu=>?_,?_⟩
    ·cases j with
     | zero=>simp only [List.getElem?_cons_zero,Option.some.injEq] at hu;subst hu;exact ⟨e1,hd⟩
     | succ j=>exact h1 j u (by simpa using hu)
    ·rw [Bool.or_eq_true,h2]
     constructor
     ·rintro (z | ⟨j,hj,z⟩)
      ·exact ⟨0,by simp,z⟩
      ·exact ⟨j+1,by simpa using hj,z⟩
     ·rintro ⟨j,hj,z⟩
      cases j with
      | zero=>exact .inl z
      | succ j=>exact .inr ⟨j,by simpa using hj,z⟩
   ·cases h
  ·cases h
def inT (x y:W) (G:Hw):Option W:=(rdL G y).bind fun ws=>(ZvW x ws).map .bl
def ZBn (K:PySem.W.Frag):R2:=fun v u H Q=>∃ p vs ws x b,u=.ref p∧SqL K H p vs∧TrL K H vs ws∧Tr K H v x∧ZvW x ws=some b∧Q (.bl b) H
open Classical in
theorem ZzM {X:Cx} (hu:X.A.units+100 < cLine):OpR X (compareOp .In) (ZBn X.K):=by
 walk_at "pd"
 obtain ⟨p,vs,ws,xw,b,rfl,hq,tl,tx,e,q⟩:=h
 cases ry
 obtain ⟨its,r,pl,hz⟩:=I.list hq
 obtain ⟨f,hf,hb⟩:=Zr1 e
 have l1:=r.length
 have l2:=tl.length
 have at':∀ (i:Nat) (z:Value),its[i]?=some z→SeqAt.EqAt X.A.in1 s z v (f i):=fun i z hi=>by
  have hlt:i < its.length:=by
   rcases Nat.lt_or_ge i its.length with h | h
   ·exact h
   ·rw [List.getElem?_eq_none h] at hi;cases hi
  have gv:vs[i]?=some (vs[i]'(by omega)):=List.getElem?_eq_getElem _
  obtain ⟨z',g',rz⟩:=r.get gv
  rw [hi] at g';cases g'
  obtain ⟨w,gw,tw⟩:=tl.get' gv
  obtain ⟨h1,h2⟩:=hf i w gw
  exact ZrR I 99 _ _ _ _ _ _ _ X.A.in1 (by omega) tw tx rz rx h1 (by show X.A.units+1+99 < cLine;omega)
 refine SeqAt.in_listAt (fun z=>decide (∃ i,its[i]?=some z∧f i=true)) pl.isList (fun z hz'=>?_) ⟨.bl b,H,I,?_,q⟩
 ·have hm:z∈its:=by simpa using hz'
  obtain ⟨i,hi,rfl⟩:=List.getElem_of_mem hm
  have gi:its[i]?=some its[i]:=List.getElem?_eq_getElem hi
  by_cases h:∃ j,its[j]?=some its[i]∧f j=true
  ·obtain ⟨j,g,hj⟩:=h
   have:=at' j _ g
   rw [hj] at this
   rw [decide_eq_true ⟨j,g,hj⟩];exact this
  ·have:=at' i _ gi
   rw [decide_eq_false h]
   cases hfi:f i with
   | false=>rw [hfi] at this;exact this
   | true=>exact absurd ⟨i,gi,hfi⟩ h
 ·show RelV (.bl b) (.bool _)
  have:(its.toArray.any fun z=>decide (∃ i,its[i]?=some z∧f i=true))=b:=by
   rw [Bool.eq_iff_iff,hb]
   simp only [List.any_toArray,List.any_eq_true,decide_eq_true_eq]
   constructor
   ·rintro ⟨z,hz',i,hi,hfi⟩
    refine ⟨i,?_,hfi⟩
    rcases Nat.lt_or_ge i its.length with h | h
    ·omega
    ·rw [List.getElem?_eq_none h] at hi;cases hi
   ·rintro ⟨j,hj,hfj⟩
    have hj':j < its.length:=by omega
    exact ⟨its[j],List.getElem_mem hj',j,List.getElem?_eq_getElem hj',hfj⟩
  rw [this];rfl
theorem Zyn (x y:W) (v u:V) (G:Hw) (H:Hp) (Q:VK) (tx:Tr K H v x) (ty:Tr K H u y) (r:RelH K H G) (q:Zak inT x y G (dn K H Q)):ZBn K v u H Q:=by
 obtain ⟨w,e,q'⟩:=Zfx q
 obtain ⟨ws,e1,e2⟩:=Option.bind_eq_some_iff.mp e
 obtain ⟨b,e3,e4⟩:=Option.map_eq_some_iff.mp e2
 subst e4
 obtain ⟨a,vs,rfl,hq,t⟩:=Zga r ty e1
 exact ⟨a,vs,ws,x,b,rfl,hq,t,tx,e3,q' _ H .refl (.bl _) r⟩
theorem Zen {X:Cx} (hu:X.A.units+100 < cLine):Cop X .In (Zak inT):=⟨⟨_,ZzM hu,Zyn⟩,Zij⟩
def Zs5 (w:W):Bool:=match w with | .non=>true | _=>false
def isF (neg:Bool) (x y:W) (_:Hw):Option W:=match y with | .non=>some (.bl (Zs5 x != neg)) | _=>none
theorem ZvA {v:V} {x:W} (t:Tr K H v x):decide (v=.non)=Zs5 x:=by cases t <;> rfl
theorem Ztk {u:V} (t:Tr K H u .non):u=.non:=by cases t;rfl
theorem ZyZ (neg:Bool) (x y:W) (v u:V) (G:Hw) (H:Hp) (Q:VK) (tx:Tr K H v x) (ty:Tr K H u y) (r:RelH K H G) (q:Zak (isF neg) x y G (dn K H Q)):u=.non∧Q (.bl (Zs5 x != neg)) H:=by
 obtain ⟨w,e,q'⟩:=Zfx q
 cases y with
 | non=>cases e;exact ⟨Ztk ty,q' _ H .refl (.bl _) r⟩
 | _=>cases e
theorem ZdI {X:Cx}:Cop X .IsNot (Zak (isF true)):=⟨⟨_,Zwq,fun x y v u G H Q tx ty r q=>by
 obtain ⟨h1,h2⟩:=ZyZ true x y v u G H Q tx ty r q
 refine ⟨h1,?_⟩
 rw [ZvA tx];simpa using h2⟩,Zij⟩
section
variable {prog:Program} {w:World} {A:Around} {E:Value→Shared→Prop} {s:Shared}
def St3T (n l1 l2 l3:Nat) (f0:Value) (i:Nat) (h:Heap):Prop:=IsZip h (n+5) (n+3) (n+4) f0∧Znq h (n+3) (.ref n) (.ref (n+1)) (.ref (n+2))∧(∃ a b c,Znq h (n+4) a b c)∧h.IsTupleIter n l1 i∧h.IsTupleIter (n+1) l2 i∧h.IsTupleIter (n+2) l3 i
theorem Zun {n l1 l2 l3:Nat} {k:Nat} {xs ys vs:Array Value} {x y v:Value} {Q:Value→Shared→Prop} (a1:l1 < n) (a2:l2 < n) (a3:l3 < n) (st:St3T n l1 l2 l3 .none k s.heap) (v1:s.heap.IsTuple l1 xs) (v2:s.heap.IsTuple l2 ys) (v3:s.heap.IsTuple l3 vs)
  (hx:xs[k]?=some x) (hy:ys[k]?=some y) (hv:vs[k]?=some v)
  (hQ:∀ h',St3T n l1 l2 l3 (rawInt s.heap.objs.size) (k+1) h'→Znq h' s.heap.objs.size x y v→(∀ (c:Nat) o,c < n∨n+5 < c→s.heap.get? c=some o→h'.get? c=some o)→Q (.ref s.heap.objs.size) { s with heap:=h' }) :
  wpAny (model prog w) A (Builtin.«zip.__next__» ⟨[.ref (n+5)],[]⟩) (fun fin s'=>∃ v,fin=.done (.ret v)∧Q v s') E s:=by
 obtain ⟨hz,hTI,⟨a,b,c,hTO⟩,u1,u2,u3⟩:=st
 refine wpAny_bind (m:=field (.ref (n+5)) 2) (wpAny_field hz rfl (x:=.bool false) rfl ?_)
 refine wpAny_bind (m:=field (.ref (n+5)) 3) (wpAny_field hz rfl (x:=.ref (n+3)) rfl (wpAny_bind (m:=seqItems? (.ref (n+3))) (wpAny_seqItems hTI rfl ?_)))
 refine wpAny_bind (m:=Builtin.SmallTypes.ownedTupleIsFree (.ref (n+5))) ?_
 unfold Builtin.SmallTypes.ownedTupleIsFree
 refine wpAny_bind (m:=field (.ref (n+5)) 0) (wpAny_field hz rfl (x:=.none) rfl (wpAny_pure ?_));simp only [if_true]
 refine wpAny_bind (wpAny_rule (wpAny_bind (wpAny_field hz rfl (x:=.ref (n+4)) rfl (wpAny_bind (wpAny_setField_rec hz (by simp) fun h₁ hz₁ hs₁=>?_)))))
 replace hz₁:IsZip h₁ (n+5) (n+3) (n+4) .ellipsis:=hz₁
 refine wpAny_bind ?_
 walk_at "ps"
 have e1:=hs₁.extBut
 refine wpAny_bind (wpAny_bind (wpAny_onRaise ?_));refine wpAny_bind (m:=Builtin.SmallTypes.nextOf (.ref n)) ?_
 refine ZhJ (u1.extBut e1 (nA (by omega))) (v1.extBut e1 (nA (by omega))) hx fun h₂ w1 hs₂=>wpAny_pure ?_
 have e2:=hs₂.extBut
 have t2:Znq h₂ (n+4) a b c:=e2 _ _ (nA (by omega)) (e1 _ _ (nA (by omega)) hTO)
 refine wpAny_bind (wpAny_seqItems t2 rfl (wpAny_bind (ZAr t2 fun h₃ t3 hs₃=>?_)))
 replace t3:Znq h₃ (n+4) x b c:=t3
 have e3:=hs₃.extBut
 refine wpAny_bind (wpAny_letGo (wpAny_pure ?_));refine wpAny_bind (wpAny_bind (wpAny_onRaise ?_));refine wpAny_bind (m:=Builtin.SmallTypes.nextOf (.ref (n+1))) ?_
 refine ZhJ (((u2.extBut e1 (nA (by omega))).extBut e2 (nA (by omega))).extBut e3 (nA (by omega))) (((v2.extBut e1 (nA (by omega))).extBut e2 (nA (by omega))).extBut e3 (nA (by omega))) hy fun h₄ w2 hs₄=>wpAny_pure ?_
 have e4:=hs₄.extBut
 have t4:Znq h₄ (n+4) x b c:=e4 _ _ (nA (by omega)) t3
 refine wpAny_bind (wpAny_seqItems t4 rfl (wpAny_bind (ZAr t4 fun h₅ t5 hs₅=>?_)))
 replace t5:Znq h₅ (n+4) x y c:=t5
 have e5:=hs₅.extBut
 refine wpAny_bind (wpAny_letGo (wpAny_pure ?_));refine wpAny_bind (wpAny_bind (wpAny_onRaise ?_));refine wpAny_bind (m:=Builtin.SmallTypes.nextOf (.ref (n+2))) ?_
 refine ZhJ (((((u3.extBut e1 (nA (by omega))).extBut e2 (nA (by omega))).extBut e3 (nA (by omega))).extBut e4 (nA (by omega))).extBut e5 (nA (by omega))) (((((v3.extBut e1 (nA (by omega))).extBut e2 (nA (by omega))).extBut e3 (nA (by omega))).extBut e4 (nA (by omega))).extBut e5 (nA (by omega))) hv fun h₆ w3 hs₆=>wpAny_pure ?_
 have e6:=hs₆.extBut
 have t6:Znq h₆ (n+4) x y c:=e6 _ _ (nA (by omega)) t5
 refine wpAny_bind (wpAny_seqItems t6 rfl (wpAny_bind (ZAr t6 fun h₇ t7 hs₇=>?_)))
 replace t7:Znq h₇ (n+4) x y v:=t7
 have e7:=hs₇.extBut
 refine wpAny_bind (wpAny_letGo (wpAny_pure (wpAny_pure ?_)));refine wpAny_bind (wpAny_seqItems t7 rfl (wpAny_bind (wpAny_newTuple ?_ (by show (3:Nat)≤sizeLine;decide))))
 have hsz:h₇.objs.size=s.heap.objs.size:=by rw [hs₇.1,hs₆.1,hs₅.1,hs₄.1,hs₃.1,hs₂.1,hs₁.1]
 have up:∀ (c:Nat) o,c < n∨n+5 < c∨c=n+3→s.heap.get? c=some o→h₇.get? c=some o:=fun c o hc e=>e7 _ _ (nA (by omega)) (e6 _ _ (nA (by omega)) (e5 _ _ (nA (by omega)) (e4 _ _ (nA (by omega)) (e3 _ _ (nA (by omega)) (e2 _ _ (nA (by omega)) (e1 _ _ (nA (by omega)) e))))))
 have z7:IsZip h₇ (n+5) (n+3) (n+4) .ellipsis:=e7 _ _ (nA (by omega)) (e6 _ _ (nA (by omega)) (e5 _ _ (nA (by omega)) (e4 _ _ (nA (by omega)) (e3 _ _ (nA (by omega)) (e2 _ _ (nA (by omega)) hz₁)))))
 have y1:h₇.IsTupleIter n l1 (k+1):=((((w1.extBut e3 (nA (by omega))).extBut e4 (nA (by omega))).extBut e5 (nA (by omega))).extBut e6 (nA (by omega))).extBut e7 (nA (by omega))
 have y2:h₇.IsTupleIter (n+1) l2 (k+1):=((w2.extBut e5 (nA (by omega))).extBut e6 (nA (by omega))).extBut e7 (nA (by omega))
 have y3:h₇.IsTupleIter (n+2) l3 (k+1):=w3.extBut e7 (nA (by omega))
 refine wpAny_bind (m:=Builtin.SmallTypes.ownedTupleHandOut (.ref (n+5)) (.ref h₇.objs.size)) ?_
 unfold Builtin.SmallTypes.ownedTupleHandOut
 have z8:IsZip (h₇.push { cls:=.type "tuple",data:=.seq #[x,y,v] }) (n+5) (n+3) (n+4) .ellipsis:=Heap.get?_push_of_some _ z7
 refine wpAny_bind (wpAny_setField_rec z8 (by simp) fun h₉ z9 hs₉=>?_)
 replace z9:IsZip h₉ (n+5) (n+3) (n+4) (rawInt h₇.objs.size):=z9
 refine wpAny_setField_rec z9 (by simp) fun k₁ zk hk₁=>?_
 replace zk:IsZip k₁ (n+5) (n+3) (n+4) (rawInt h₇.objs.size):=zk
 have zlt:n+5 < h₇.objs.size:=Heap.lt_size z7
 have upp:∀ c o,c≠n+5→h₇.get? c=some o→k₁.get? c=some o:=fun c o c1 e=>hk₁.extBut _ _ c1 (hs₉.extBut _ _ c1 (Heap.get?_push_of_some _ e))
 have hT:Znq k₁ h₇.objs.size x y v:=hk₁.extBut _ _ (nA (by omega)) (hs₉.extBut _ _ (nA (by omega)) (Heap.get?_push_size _ rfl))
 rw [hsz] at zk hT
 refine wpAny_pure ⟨_,rfl,(?_:Q (.ref h₇.objs.size) _)⟩
 rw [hsz]
 exact hQ k₁ ⟨zk,upp _ _ (nA (by omega)) (up _ _ (.inr (.inr rfl)) hTI),⟨_,_,_,upp _ _ (nA (by omega)) t7⟩,tat y1 fun o e=>upp _ o (nA (by omega)) e,tat y2 fun o e=>upp _ o (nA (by omega)) e,tat y3 fun o e=>upp _ o (nA (by omega)) e⟩ hT fun c o hc e=>upp c o (nA (by omega)) (up c o (by omega) e)
theorem Zvm {n l1 l2 l3:Nat} {k:Nat} {xs:Array Value} {Q:Fin→Shared→Prop} (hh:A.handled=none) (a1:l1 < n) (st:St3T n l1 l2 l3 .none k s.heap) (v1:s.heap.IsTuple l1 xs) (hx:xs[k]?=none)
  (hE:∀ h' e,(∀ (c:Nat) o,c < n∨n+5 < c→s.heap.get? c=some o→h'.get? c=some o)→(∃ o,h'.get? e=some o∧o.cls=.type "StopIteration")→E (.ref e) { s with heap:=h' }):wpAny (model prog w) A (Builtin.«zip.__next__» ⟨[.ref (n+5)],[]⟩) Q E s:=by
 obtain ⟨hz,hTI,⟨a,b,c,hTO⟩,u1,u2,u3⟩:=st
 refine wpAny_bind (m:=field (.ref (n+5)) 2) (wpAny_field hz rfl (x:=.bool false) rfl ?_)
 refine wpAny_bind (m:=field (.ref (n+5)) 3) (wpAny_field hz rfl (x:=.ref (n+3)) rfl (wpAny_bind (m:=seqItems? (.ref (n+3))) (wpAny_seqItems hTI rfl ?_)))
 refine wpAny_bind (m:=Builtin.SmallTypes.ownedTupleIsFree (.ref (n+5))) ?_
 unfold Builtin.SmallTypes.ownedTupleIsFree
 refine wpAny_bind (m:=field (.ref (n+5)) 0) (wpAny_field hz rfl (x:=.none) rfl (wpAny_pure ?_));simp only [if_true]
 refine wpAny_bind (wpAny_rule (wpAny_bind (wpAny_field hz rfl (x:=.ref (n+4)) rfl (wpAny_bind (wpAny_setField_rec hz (by simp) fun h₁ hz₁ hs₁=>?_)))))
 replace hz₁:IsZip h₁ (n+5) (n+3) (n+4) .ellipsis:=hz₁
 refine wpAny_bind ?_
 walk_at "ps"
 have e1:=hs₁.extBut
 refine wpAny_bind (wpAny_bind (wpAny_onRaise ?_));refine wpAny_bind (m:=Builtin.SmallTypes.nextOf (.ref n)) ?_
 refine Zsb hh (u1.extBut e1 (nA (by omega))) (v1.extBut e1 (nA (by omega))) hx fun h₂ e hs₂ he=>?_
 obtain ⟨oe,hoe,hce⟩:=he
 have hz₂:IsZip h₂ (n+5) (n+3) (n+4) .ellipsis:=hs₂ _ _ (nA (by omega)) hz₁
 have hez:e≠n+5:=fun q=>by subst q;rw [hz₂] at hoe;cases hoe;simp at hce
 exact wpAny_setField_rec hz₂ (by simp) fun h₃ _ hs₃=>hE h₃ e (fun c o c1 q=>hs₃.extBut _ _ (nA (by omega)) (hs₂ _ _ (nA (by omega)) (e1 _ _ (nA (by omega)) q))) ⟨oe,hs₃.extBut _ _ hez hoe,hce⟩
theorem St3T.at {n l1 l2 l3:Nat} {f0:Value} {i:Nat} {h h':Heap} (st:St3T n l1 l2 l3 f0 i h) (k:∀ (c:Nat) o,n≤c→c≤n+5→h.get? c=some o→h'.get? c=some o):St3T n l1 l2 l3 f0 i h':=by
 obtain ⟨hz,hTI,⟨a,b,c,hTO⟩,u1,u2,u3⟩:=st
 exact ⟨k _ _ (by omega) (by omega) hz,k _ _ (by omega) (by omega) hTI,⟨a,b,c,k _ _ (by omega) (by omega) hTO⟩,tat u1 fun o e=>k _ o (by omega) (by omega) e,tat u2 fun o e=>k _ o (by omega) (by omega) e,tat u3 fun o e=>k _ o (by omega) (by omega) e⟩
abbrev ztL (h:Heap) (l:Addr):Heap:=h.push { cls:=.type "tuple_iterator",data:=.fields #[.ref l,.int 0 0] }
abbrev ZyV (h:Heap) (l1 l2 l3:Addr):Heap:=ztL (ztL (ztL h l1) l2) l3
abbrev Zz3 (h:Heap) (l1 l2 l3:Addr):Heap:=(ZyV h l1 l2 l3).push { cls:=.type "tuple",data:=.seq #[.ref h.objs.size,.ref (ztL h l1).objs.size,.ref (ztL (ztL h l1) l2).objs.size] }
abbrev ZzS (h:Heap) (l1 l2 l3:Addr):Heap:=(Zz3 h l1 l2 l3).push { cls:=.type "tuple",data:=.seq #[.none,.none,.none] }
abbrev ZuO (h:Heap) (l1 l2 l3:Addr):Heap:=(ZzS h l1 l2 l3).push { cls:=.type "zip",data:=.fields #[.none,.bool false,.bool false,.ref (ZyV h l1 l2 l3).objs.size,.ref (Zz3 h l1 l2 l3).objs.size] }
theorem ZrA (l1 l2 l3:Addr) (xs ys vs:Array Value):Meets (Builtin.«zip.__new__» ⟨[.type "zip",.ref l1,.ref l2,.ref l3],[]⟩) (fun _ R s=>s.heap.IsTuple l1 xs∧s.heap.IsTuple l2 ys∧s.heap.IsTuple l3 vs∧R (.ok (.ret (.ref (ZzS s.heap l1 l2 l3).objs.size))) { s with heap:=ZuO s.heap l1 l2 l3 }) :=
 .of_wp fun prog w A R s h=>by
  obtain ⟨hp,g,d,tk,os⟩:=s
  obtain ⟨u1,u2,u3,h⟩:=h
  have hsub:=sub_zip
  have hL1:Heap.IsTuple (Shared.heap ⟨hp,g,d,tk,os⟩) l1 xs:=u1
  have hL2:Heap.IsTuple (Shared.heap ⟨hp.push { cls:=.type "tuple_iterator",data:=.fields #[.ref l1,.int 0 0] },g,d,tk,os⟩) l2 ys:=Heap.IsTuple.push u2 _
  have hL3:Heap.IsTuple (Shared.heap ⟨(hp.push { cls:=.type "tuple_iterator",data:=.fields #[.ref l1,.int 0 0] }).push { cls:=.type "tuple_iterator",data:=.fields #[.ref l2,.int 0 0] },g,d,tk,os⟩) l3 vs:=Heap.IsTuple.push (Heap.IsTuple.push u3 _) _
  wp_walk using wpAny_pyIter_tuple hL1,wpAny_pyIter_tuple hL2,wpAny_pyIter_tuple hL3
  exact ⟨_,rfl,h⟩
theorem Zpy {l1 l2 l3:Addr} {xs ys vs:Array Value} {Q:Value→Shared→Prop} (u1:s.heap.IsTuple l1 xs) (u2:s.heap.IsTuple l2 ys) (u3:s.heap.IsTuple l3 vs)
  (h:∀ h',St3T s.heap.objs.size l1 l2 l3 .none 0 h'→(∀ c o,s.heap.get? c=some o→h'.get? c=some o)→Q (.ref (s.heap.objs.size+5)) { s with heap:=h' }) :
  wpAny (model prog w) A (call (.type "zip") [.ref l1,.ref l2,.ref l3]) Q E s:=by
 refine callType_new PySem.F.called_zip (by decide) (tc3 _ _ _) (nc3 _ _ _) (fun obj=>oi4 obj _ _ _) PySem.F.entry_zip_new (ZrA l1 l2 l3 xs ys vs) ⟨u1,u2,u3,?_⟩
 have q1:(ztL s.heap l1).objs.size=s.heap.objs.size+1:=Heap.size_push ..
 have q2:(ztL (ztL s.heap l1) l2).objs.size=s.heap.objs.size+2:=by rw [Heap.size_push,q1]
 have q3:(ZyV s.heap l1 l2 l3).objs.size=s.heap.objs.size+3:=by rw [Heap.size_push,q2]
 have q4:(Zz3 s.heap l1 l2 l3).objs.size=s.heap.objs.size+4:=by rw [Heap.size_push,q3]
 have q5:(ZzS s.heap l1 l2 l3).objs.size=s.heap.objs.size+5:=by rw [Heap.size_push,q4]
 have up:∀ {c:Addr} {o:Obj},(ZyV s.heap l1 l2 l3).get? c=some o→(ZuO s.heap l1 l2 l3).get? c=some o:=fun e=>Heap.get?_push_of_some _ (Heap.get?_push_of_some _ (Heap.get?_push_of_some _ e))
 have g6:(ZuO s.heap l1 l2 l3).get? (ZzS s.heap l1 l2 l3).objs.size=some _:=Heap.get?_push_size _ rfl
 have g5:(ZuO s.heap l1 l2 l3).get? (Zz3 s.heap l1 l2 l3).objs.size=some _:=Heap.get?_push_of_some _ (Heap.get?_push_size _ rfl)
 have g4:(ZuO s.heap l1 l2 l3).get? (ZyV s.heap l1 l2 l3).objs.size=some _:=Heap.get?_push_of_some _ (Heap.get?_push_of_some _ (Heap.get?_push_size _ rfl))
 have g3:(ZuO s.heap l1 l2 l3).get? (ztL (ztL s.heap l1) l2).objs.size=some _:=up (Heap.get?_push_size _ rfl)
 have g2:(ZuO s.heap l1 l2 l3).get? (ztL s.heap l1).objs.size=some _:=up (Heap.get?_push_of_some _ (Heap.get?_push_size _ rfl))
 have g1:(ZuO s.heap l1 l2 l3).get? s.heap.objs.size=some _:=up (Heap.get?_push_of_some _ (Heap.get?_push_of_some _ (Heap.get?_push_size _ rfl)))
 rw [q3,q4,q5] at g6
 rw [q1,q2,q3] at g4
 rw [q4] at g5
 rw [q2] at g3
 rw [q1] at g2
 rw [q5]
 exact ⟨⟨_,g6,rfl⟩,h _ ⟨g6,g4,⟨_,_,_,g5⟩,⟨_,g1,rfl,rfl⟩,⟨_,g2,rfl,rfl⟩,⟨_,g3,rfl,rfl⟩⟩ fun c o x=>up (Heap.get?_push_of_some _ (Heap.get?_push_of_some _ (Heap.get?_push_of_some _ x)))⟩
end
def ZBe (K:PySem.W.Frag) (l1 l2 l3:Addr):It :=
 ⟨fun i H=>∃ xs ys vs,SqT K H l1 xs∧SqT K H l2 ys∧SqT K H l3 vs∧ys.length=xs.length∧vs.length=xs.length∧i < xs.length,
  fun i H v H'=>∃ T x y z,H T=none∧v=.ref T∧H'=upd H T (.tup [x,y,z])∧∀ xs ys vs,SqT K H l1 xs→SqT K H l2 ys→SqT K H l3 vs→xs[i]?=some x∧ys[i]?=some y∧vs[i]?=some z,
  fun i H=>∃ xs,SqT K H l1 xs∧i=xs.length⟩
theorem ZpN {P:Program} {w:World} {elts:List Expr} {k:Nat} {tpos:Pos} {n l1 l2 l3:Nat} (a1:l1 < n) (a2:l2 < n) (a3:l3 < n) :
  ZsJ P w K (.Tuple elts k tpos) (ZBe K l1 l2 l3) [n+5,n+3,n+4,n,n+1,n+2] (n+5) (St3T n l1 l2 l3 .none) where
 mem:=List.mem_cons_self
 obj:=fun i h st b hb=>by
  obtain ⟨hz,hTI,⟨a,c,d,hTO⟩,⟨o1,e1,_,d1⟩,⟨o2,e2,_,d2⟩,⟨o3,e3,_,d3⟩⟩:=st
  walk_at "pm"
  rcases hb with rfl | rfl | rfl | rfl | rfl | rfl
  ·exact ⟨_,hz,fun v z=>by cases z⟩
  ·exact ⟨_,hTI,fun v z=>by cases z⟩
  ·exact ⟨_,hTO,fun v z=>by cases z⟩
  ·exact ⟨o1,e1,fun v z=>by rw [d1] at z;cases z⟩
  ·exact ⟨o2,e2,fun v z=>by rw [d2] at z;cases z⟩
  ·exact ⟨o3,e3,fun v z=>by rw [d3] at z;cases z⟩
 keep:=fun i h h' st kk=>st.at fun c o c1 c2 e=>kk c (of6 c1 c2) o e
 item:=by
  walk_at "pb"
  subst hP hw hK
  obtain ⟨xs,ys,vs,hx,hy,hv,ly,lv,hi⟩:=hg
  obtain ⟨its1,r1,pl1,z1⟩:=I.tuple hx
  obtain ⟨its2,r2,pl2,z2⟩:=I.tuple hy
  obtain ⟨its3,r3,pl3,z3⟩:=I.tuple hv
  have gx:xs[i]?=some xs[i]:=List.getElem?_eq_getElem hi
  have gy:ys[i]?=some (ys[i]'(by omega)):=List.getElem?_eq_getElem _
  have gv:vs[i]?=some (vs[i]'(by omega)):=List.getElem?_eq_getElem _
  obtain ⟨v1,q1,rv1⟩:=r1.get gx
  obtain ⟨v2,q2,rv2⟩:=r2.get gy
  obtain ⟨v3,q3,rv3⟩:=r3.get gv
  have hT:s.TypeIs (.ref (n+5)) "zip":=⟨_,st.1,rfl⟩
  unfold pyNext
  refine wpAny_bind (wpAny_attempt (wpAny_callSpecial?_slot (name:=Str.ofString "__next__") hT PySem.F.slot_zip_next (wpAny_call_entry PySem.F.slot_zip_next hT PySem.F.entry_zip_next (Zun a1 a2 a3 st pl1 pl2 pl3 (by simpa using q1) (by simpa using q2) (by simpa using q3) fun h' st' hTup hk=>wpAny_pure ⟨.ref s.heap.objs.size,rfl,?_⟩) (PySem.F.args_zip_next_1 _))))
  refine wpAny_letOwnedTupleGo_zip st'.1 fun h2' hz' hs'=>?_
  have e':=hs'.extBut
  have hsz:(n+5:Nat) < s.heap.objs.size:=Heap.lt_size st.1
  have hnT:∀ b:Addr,b∈[n+5,n+3,n+4,n,n+1,n+2]→b≠s.heap.objs.size:=fun b hb=>nA (a:=b) (by have:=in6 (b:=b) hb;omega)
  have st2:St3T n l1 l2 l3 .none (i+1) h2':=by
   obtain ⟨_,hTI,⟨a,c,d,hTO⟩,u1,u2,u3⟩:=st'
   exact ⟨hz',e' _ _ (nA (by omega)) hTI,⟨a,c,d,e' _ _ (nA (by omega)) hTO⟩,u1.extBut e' (nA (by omega)),u2.extBut e' (nA (by omega)),u3.extBut e' (nA (by omega))⟩
  have I1:Inv X pins σ H { s with heap:=h2' }:=Inv.turneds I hf fun b o hb e=>e' _ _ (fun z=>hb (by rw [z];exact List.mem_cons_self)) (hk b o (no6 hb) e)
  have hTn:H s.heap.objs.size=none:=I.hok.fresh (Nat.le_refl _)
  have hTup2:IsTup h2' s.heap.objs.size #[v1,v2,v3]:=⟨_,e' _ _ (nA (by omega)) hTup,rfl,_,rfl⟩
  have lt:∀ {b:Addr} {o:Obj},s.heap.get? b=some o→b≠s.heap.objs.size:=fun e q=>absurd (Heap.lt_size e) (by rw [q];exact Nat.lt_irrefl _)
  have I2:Inv X pins σ (upd H s.heap.objs.size (.tup [xs[i],ys[i]'(by omega),vs[i]'(by omega)])) { s with heap:=h2' }:=by
   refine I1.track hTn ?_ (fun x c e=>?_) (fun p hp=>?_) ?_ ⟨by show 3≤sizeLine;decide,[v1,v2,v3],.cons rv1 (.cons rv2 (.cons rv3 .nil)),hTup2⟩
   ·obtain ⟨m,⟨o,es,ep,ho,_⟩,_⟩:=I.loc
    exact Ne.symm (lt ho)
   ·obtain ⟨v,o,ho,_⟩:=I.cell x c e
    exact lt ho
   ·exact lt (I.pin p hp).1
   ·cases e:X.s₀.heap.get? s.heap.objs.size with
    | none=>rfl
    | some o=>exact absurd (Nat.lt_of_lt_of_le (Heap.lt_size e) I.sz) (Nat.lt_irrefl _)
  refine ⟨.ref s.heap.objs.size,_,I2,rfl,⟨_,_,_,_,hTn,rfl,rfl,fun xs' ys' vs' hx' hy' hv'=>?_⟩,st2,fun b hb=>?_⟩
  ·rw [I.tuple_inj hx' hx,I.tuple_inj hy' hy,I.tuple_inj hv' hv];exact ⟨gx,gy,gv⟩
  ·rw [Za8 (hnT b hb)];exact (hf b hb).1
 done:=by
  walk_at "pb"
  subst hP hw hK
  obtain ⟨xs,hx,hi⟩:=hg
  obtain ⟨its1,r1,pl1,z1⟩:=I.tuple hx
  have n1:=r1.length
  have hT:s.TypeIs (.ref (n+5)) "zip":=⟨_,st.1,rfl⟩
  unfold pyNext
  refine wpAny_bind (wpAny_attempt (wpAny_callSpecial?_slot (name:=Str.ofString "__next__") hT PySem.F.slot_zip_next (wpAny_call_entry PySem.F.slot_zip_next hT PySem.F.entry_zip_next (Zvm (I.ok.hd hc) a1 st pl1 (by simp;omega) fun h' e hk he=>?_) (PySem.F.args_zip_next_1 _))))
  obtain ⟨o,ho,hc'⟩:=he
  exact wpAny_bind (wpAny_isInstance (T:="StopIteration") (b:=true) ⟨o,ho,hc'⟩ isSubtype_stop (wpAny_pure ⟨rfl,Inv.turneds I hf fun b o hb e=>hk b o (no6 hb) e⟩))
 self:=fun A i s Q E st h=>wpAny_pyIter_zip st.1 h
def ZyB (K:PySem.W.Frag) (ta:TA):TI:=fun σ H R=>ta σ H fun vs H1=>∃ a b c xs ys zs,vs=[.ref a,.ref b,.ref c]∧SqT K H1 a xs∧SqT K H1 b ys∧SqT K H1 c zs∧R (ZBe K a b c) H1
theorem Zue {X:Cx} {a b c:Expr} {ta:TA} {p pos tpos:Pos} {elts:List Expr} {k:Nat} (hg:Gl X "zip") (hm:X.mg "zip"=none) (ha:PA X [a,b,c] ta) (hs:starEach [a,b,c] X.env=[(false,eval a X.env),(false,eval b X.env),(false,eval c X.env)]) (hs2:starEach [b,c] X.env=[(false,eval b X.env),(false,eval c X.env)]) :
  PI X (.Tuple elts k tpos) (.Call (.Name "zip" p) [a,b,c] [] pos) (ZyB X.K ta):=by
 intro pins s σ H R I h
 refine Call_ (ZeW I hg hm boot_zip (PyProof.Rows.callWith_type1 (thn (ha pos pins s σ H _ I h) fun us s1 zz2=>?_) (by rw [hs,hs2]) (by rw [hs2];rfl)))
 obtain ⟨vs,H1,I1,r1,q1⟩:=zz2
 obtain ⟨l1,l2,l3,xs,ys,zs,e,hx,hy,hz,q⟩:=q1
 subst e
 obtain ⟨u,u2,u3,rfl,ru,ru2,ru3⟩:=ZAB r1
 cases ru
 cases ru2
 cases ru3
 obtain ⟨its1,_,pl1,_⟩:=I1.tuple hx
 obtain ⟨its2,_,pl2,_⟩:=I1.tuple hy
 obtain ⟨its3,_,pl3,_⟩:=I1.tuple hz
 have a1:l1 < s1.heap.objs.size:=by obtain ⟨_,e,_⟩:=pl1;exact Heap.lt_size e
 have a2:l2 < s1.heap.objs.size:=by obtain ⟨_,e,_⟩:=pl2;exact Heap.lt_size e
 have a3:l3 < s1.heap.objs.size:=by obtain ⟨_,e,_⟩:=pl3;exact Heap.lt_size e
 refine Zpy pl1 pl2 pl3 fun h' st hk=>wpAny_pyIter_zip st.1 ?_
 refine ⟨_,_,_,_,H1,rfl,I1.kept (t':=s1.toks) hk,ZpN a1 a2 a3,st,fun b hb=>?_,q⟩
 have hge:s1.heap.objs.size≤b:=(in6 (b:=b) hb).1
 exact I1.fpOk hge (I1.hok.fresh hge)
def Zkq (gs:GA):GI:=fun ω G R=>gs ω G fun ws G1=>∃ xs ys zs,ws=[.tup xs,.tup ys,.tup zs]∧ys.length=xs.length∧zs.length=xs.length∧R (ZlH xs ys zs) yes G1
theorem ZsR {gs:GA} (m:gs.M):GI.M (Zkq gs):=fun ω G R R' h q=>m _ _ _ _ (by rintro ws G1 ⟨xs,ys,zs,e,n1,n2,r⟩;exact ⟨xs,ys,zs,e,n1,n2,h _ _ _ r⟩) q
theorem Zoo {X:Cx} {a b c:Expr} {p pos tpos:Pos} {elts:List Expr} {k:Nat} {gs:GA} (hm:X.mg "zip"=none) (hg:Gl X "zip") (hs:starEach [a,b,c] X.env=[(false,eval a X.env),(false,eval b X.env),(false,eval c X.env)]) (hs2:starEach [b,c] X.env=[(false,eval b X.env),(false,eval c X.env)]) (ha:Am X [a,b,c] gs) :
  Im X (.Tuple elts k tpos) (.Call (.Name "zip" p) [a,b,c] [] pos) (Zkq gs):=by
 refine ⟨⟨_,Zue hg hm ha.p hs hs2,fun σ H ω G R R0 ts r q kk=>⟨ω,G,ts,r,ha.m _ _ _ _ (fun ws G1 z vs H1 m t r1=>?_) q⟩⟩,ZsR ha.m⟩
 obtain ⟨xs,ys,zs,rfl,n1,n2,z⟩:=z
 cases t with
 | cons tx t =>
  cases t with
  | cons ty t =>
   cases t with
   | cons tv t =>
    cases t
    obtain ⟨c1,us1,rfl,hq1,l1⟩:=ZlY tx
    obtain ⟨c2,us2,rfl,hq2,l2⟩:=ZlY ty
    obtain ⟨c3,us3,rfl,hq3,l3⟩:=ZlY tv
    refine ⟨c1,c2,c3,us1,us2,us3,rfl,hq1,hq2,hq3,kk _ _ _ H1 _ z m r1 trivial ⟨fun i H3 G3 m3 r3 g3 hi=>?_,fun i H3 G3 u H4 m3 r3 g3 y3 hi=>?_,fun H3 G3 m3 r3 g3=>?_⟩⟩
    ·rw [ZlI _ _ _ n1 n2] at hi
     exact ⟨us1,us2,us3,m3.tup _ _ hq1,m3.tup _ _ hq2,m3.tup _ _ hq3,by rw [l1.length,l2.length];exact n1,by rw [l1.length,l3.length];exact n2,by rw [l1.length];exact hi⟩
    ·obtain ⟨T,v1,v2,v3,hT,rfl,rfl,hv⟩:=y3
     obtain ⟨g1,g2,g4⟩:=hv _ _ _ (m3.tup _ _ hq1) (m3.tup _ _ hq2) (m3.tup _ _ hq3)
     obtain ⟨w1,q1,tw1⟩:=(l1.mono m3).get' g1
     obtain ⟨w2,q2,tw2⟩:=(l2.mono m3).get' g2
     obtain ⟨w3,q3,tw3⟩:=(l3.mono m3).get' g4
     have mn:Mono X.K H3 (upd H3 T (.tup [v1,v2,v3])):=Mono.new hT _
     exact ⟨mn,r3.mono0 hT,_,ZoU _ _ _ i q1 q2 q3,.tup (SqT.of Zbq) (.cons (tw1.mono mn) (.cons (tw2.mono mn) (.cons (tw3.mono mn) .nil)))⟩
    ·exact ⟨us1,m3.tup _ _ hq1,by rw [ZlI _ _ _ n1 n2,l1.length]⟩
section
variable {prog:Program} {w:World} {A:Around} {E:Value→Shared→Prop} {s:Shared}
theorem ZyX {δ:Type} {R:δ→Value→Prop} {h₀:Heap} {a:Addr} {D:List (Str×δ)} {k:Str} {tk:Tok} {dd:δ} {Q:Option Value→Shared→Prop} (T:KTD.TabOf R h₀ a D) (hk:∀ b o,h₀.get? b=some o→s.heap.get? b=some o) (hD:KTD.datumAt k D=some dd)
  (h1:∀ v,R dd v→Q (some v) { s with toks:=s.toks+1 }):wpAny (model prog w) A (dictGet a (.str k tk)) Q E s:=by
 obtain ⟨_,o,es,ep,ho,hc,hd,hr⟩:=T
 have ho':=hk _ _ ho
 obtain ⟨v,hv,hR⟩:=hr.find_some hD
 have hq:=h1 v hR
 unfold dictGet
 try with_reducible refine wpAny_holding ?_
 refine wpAny_bind (wpAny_pyHash_str (wpAny_bind (KTD.kt_dictFind_strs (s:={ s with toks:=s.toks+1 }) ho' hd ?_ ?_)))
 ·obtain ⟨l⟩:=es
  simpa using hr.exact
 have hf:findBy (fun k v=>v.isStr k) es k=some v:=by
  obtain ⟨l⟩:=es
  simpa [findBy] using hv
 rw [findBy_of_findIdx?] at hf
 cases hi:es.findIdx? fun e=>e.key.isStr k with
 | none=>rw [hi] at hf;cases hf
 | some i =>
  rw [hi] at hf
  refine wpAny_bind (wpAny_dictEntries (s:={ s with toks:=s.toks+1 }) ho' hd (wpAny_pure ?_))
  have hf':es[i]?.map (·.val)=some v:=hf
  rw [hf'];exact hq
end
def ZA7 (K:PySem.W.Frag) (mg:Str→Option Value) (base:Heap) (x:Str) (D:List (Str×List Str)):Prop:=∃ d,mg x=some (.ref d)∧KTD.TabOf (fun ss v=>∃ a,v=.ref a∧∀ H:Hp,SqT K H a (ss.map V.str)) base d D
def Zsw (D:List (Str×List Str)) (gk:GE):GE:=fun ω G Q=>gk ω G fun w G1=>match w with | .str z=>∃ ss,KTD.datumAt z D=some ss∧Q (.tup (ss.map W.str)) G1 | _=>False
theorem Zo0 (H:Hp):∀ ss:List Str,TrL K H (ss.map V.str) (ss.map W.str)
 | []=>.nil
 | s::ss=>.cons (.str _) (Zo0 H ss)
theorem ZqN {X:Cx} {x:Str} {D:List (Str×List Str)} {e:Expr} {p0 pos:Pos} {gk:GE} (h:ZA7 X.K X.mg X.base x D) (hg:Gl X x) (hd:(x==("__debug__":Str))=false) (hs:Zk9 e) (hk:Em X e gk) :
  Em X (.Subscript (.Name x p0) e pos) (Zsw D gk):=by
 refine ⟨fun pins s σ H Q I zz=>?_,fun ω G Q Q' hh q=>hk.m _ _ _ _ (fun w G1 z=>by
  cases w with
  | str y=>obtain ⟨ss,h1,h2⟩:=z;exact ⟨ss,h1,hh _ _ h2⟩
  | _=>exact z) q⟩
 obtain ⟨ω,G,ts,r,q⟩:=zz
 obtain ⟨d,hm,T⟩:=h
 refine Subscript_ (Zz2 (R:=fun xv yv H2=>xv=.ref d∧∃ z ss,yv=.str z∧KTD.datumAt z D=some ss∧∀ v,Tr X.K H2 v (.tup (ss.map W.str))→Q v H2) (Zn9 (v:=.ref d) hg hm rfl hd) hk.p I ?_ fun v u s2 xv yv H2 I2 rx ry q2=>?_)
 ·exact ⟨ω,G,ts,r,hk.m _ _ _ _ (fun w G1 z v H1 m t r1=>by
   cases w with
   | str y=>obtain ⟨ss,h1,h2⟩:=z;exact ⟨rfl,y,ss,ZuU t,h1,fun v tv=>h2 v H1 m tv r1⟩
   | _=>exact z.elim) q⟩
 ·obtain ⟨rfl,z,ss,rfl,hD,q3⟩:=q2
  cases rx
  obtain ⟨t,rfl⟩:=ry
  have hT:s2.TypeIs (.ref d) "dict":=by
   obtain ⟨_,o,_,_,ho,hc,_⟩:=T
   exact ⟨o,I2.bk _ _ ho,hc.1⟩
  refine subscriptTail_builtin hT PySem.F.slot_dict_getitem.lookup ?_ (hs _ _) (fun _=>rfl)
  unfold getItem
  try with_reducible refine wpAny_holding ?_
  refine wpAny_bind (wpAny_sequenceKey hT (by decide) ?_)
  refine wpAny_bind (wpAny_callSpecial?_slot (name:=Str.ofString "__getitem__") hT PySem.F.slot_dict_getitem (wpAny_call_entry PySem.F.slot_dict_getitem hT PySem.F.entry_dict_getitem ?_ (PySem.F.args_dict_getitem_2 _ _)))
  show wpAny _ _ (dictGet d (.str z t) >>= _) _ _ s2
  refine wpAny_bind (ZyX T I2.bk hD ?_)
  rintro v ⟨a,rfl,hq⟩
  exact wpAny_pure ⟨_,rfl,wpAny_pure ⟨.ref a,H2,I2.tok _,rfl,q3 _ (.tup (hq H2) (Zo0 H2 ss))⟩⟩
theorem Zwv {h base:Heap} {mg:Str→Option Value} (X:K.In h) (G:h.Ns mainGlobals mg) (B:K.In base) {x:Str} {d:Addr} {o:Obj} {es:Array DictEntry} {ep:Nat} {D:List (Str×List Str)} (e:PySem.W.nsIn K mainGlobals x=some (some (.ref d))) (l:K.lookup d=some o)
  (hd:(d==sysModules)=false) (hx:o.ExactDict) (ho:o.data=.dict es ep) (hr:KTD.Rows (fun ss v=>∃ a,v=.ref a∧∀ H:Hp,SqT K H a (ss.map V.str)) es.toList D):ZA7 K mg base x D :=
 ⟨d,PySem.W.mg_of X G e,hd,o,es,ep,B _ _ l,hx,ho,hr⟩
theorem Zq0 {e:DictEntry} {x:Str} {t:Tok} {a:Addr} {ts:List (Str×Tok)} {dd:Option Addr} {n:Nat} {sl:Array (Option Value)} {es:List DictEntry} {D:List (Str×List Str)} (h1:e.key=.str x t) (h2:e.val=.ref a) (l:K.lookup a=some ⟨.type "tuple",dd,.seq ((ts.map fun p=>Value.str p.1 p.2).toArray) n,sl⟩) (hz:ts.length≤1000)
  (r:KTD.Rows (fun ss v=>∃ a,v=.ref a∧∀ H:Hp,SqT K H a (ss.map V.str)) es D):KTD.Rows (fun ss v=>∃ a,v=.ref a∧∀ H:Hp,SqT K H a (ss.map V.str)) (e::es) ((x,ts.map (·.1))::D):=by
 refine .cons h1 ⟨a,h2,fun H=>.inr ⟨_,_,n,l,rfl,rfl,?_,?_⟩⟩ r
 ·simp only [List.size_toArray,List.length_map]
  exact Nat.le_trans hz (by decide)
 ·have vs:∀ ts:List (Str×Tok),Vals ((ts.map (·.1)).map V.str) (ts.map fun p=>Value.str p.1 p.2):=fun ts=>by
   induction ts with
   | nil=>exact .nil
   | cons p ts ih=>exact .cons ⟨p.2,rfl⟩ ih
  simpa using vs ts
end L3
namespace L3
open PySem PySem.Spec PyProof.Rows L2
abbrev Zy8 (h:Heap) (z TI TO:Addr) (f0:Value) (b:Bool):Prop:=h.get? z=some { cls:=.type "zip",dict:=none,data:=.fields #[f0,.bool b,.bool false,.ref TI,.ref TO],slots:=#[] }
section
variable {prog:Program} {w:World} {A:Around} {E:Value→Shared→Prop} {s:Shared}
def Hd3 (n l1 l2 l3 i:Nat) (h:Heap):Prop:=(∃ (T:Nat) (o:Obj) (b:Bool),Zy8 h (n+5) (n+3) (n+4) (rawInt T) b∧h.get? T=some o∧(T < n∨n+5 < T))∧Znq h (n+3) (.ref n) (.ref (n+1)) (.ref (n+2))∧h.IsListIter n l1 i∧h.IsListIter (n+1) l2 i∧h.IsListIter (n+2) l3 i
def Cm3 (n l1 l2 l3 i:Nat) (h:Heap):Prop:=(i=0∧St3 n l1 l2 l3 .none 0 h)∨Hd3 n l1 l2 l3 i h
theorem Cm3.zip {n l1 l2 l3 i:Nat} {h:Heap} (st:Cm3 n l1 l2 l3 i h):∃ o,h.get? (n+5)=some o∧o.cls=.type "zip":=by
 rcases st with ⟨_,st⟩ | st
 ·exact ⟨_,st.1,rfl⟩
 ·obtain ⟨⟨T,o,b,hz,_⟩,_⟩:=st
  exact ⟨_,hz,rfl⟩
end
section
variable {prog:Program} {w:World} {A:Around} {E:Value→Shared→Prop} {s:Shared}
end
end L3
namespace L3
open PySem PySem.Spec PyProof.Rows L2
variable {K:PySem.W.Frag} {H H' H2:Hp}
section
variable {prog:Program} {w:World} {A:Around} {E:Value→Shared→Prop} {s:Shared}
def St3M (n l1 l2 l3:Nat) (f0:Value) (i:Nat) (h:Heap):Prop:=IsZip h (n+5) (n+3) (n+4) f0∧Znq h (n+3) (.ref n) (.ref (n+1)) (.ref (n+2))∧(∃ a b c,Znq h (n+4) a b c)∧h.IsListIter n l1 i∧h.IsTupleIter (n+1) l2 i∧h.IsTupleIter (n+2) l3 i
theorem St3M.at {n l1 l2 l3:Nat} {f0:Value} {i:Nat} {h h':Heap} (st:St3M n l1 l2 l3 f0 i h) (k:∀ (c:Nat) o,n≤c→c≤n+5→h.get? c=some o→h'.get? c=some o):St3M n l1 l2 l3 f0 i h':=by
 obtain ⟨hz,hTI,⟨a,b,c,hTO⟩,u1,u2,u3⟩:=st
 exact ⟨k _ _ (by omega) (by omega) hz,k _ _ (by omega) (by omega) hTI,⟨a,b,c,k _ _ (by omega) (by omega) hTO⟩,u1.at fun o e=>k _ o (by omega) (by omega) e,tat u2 fun o e=>k _ o (by omega) (by omega) e,tat u3 fun o e=>k _ o (by omega) (by omega) e⟩
end
end L3
namespace L3
open PySem PySem.Spec PyProof.Rows L2
section
variable {prog:Program} {w:World} {A:Around} {E:Value→Shared→Prop} {s:Shared}
end
section
variable {prog:Program} {w:World} {A:Around} {E:Value→Shared→Prop} {s:Shared}
end
section
variable {prog:Program} {w:World} {A:Around} {E:Value→Shared→Prop} {s:Shared}
end
section
variable {X:Cx} {e:Expr} {p1 p3 q1 q3:Pos} {ta:TE}
end
end L3
namespace L3
open PySem PySem.Spec PyProof.Rows L2
variable {K:PySem.W.Frag} {H H' H2:Hp}
section
variable {X:Cx} {e:Expr} {p pc pd pt pos:Pos} {ge:GE}
end
end L3
namespace L3
open PySem PySem.Spec PyProof.Rows L2
def ev {α:Type} (lt:Nat→Nat→Bool) (n:Nat):PySem.W.KasT α→Option α
 | .ret a=>some a
 | .ask i j k=>if i≠j∧i < n∧j < n then ev lt n (k (lt i j)) else none
section
variable {prog:Program} {w:World} {A:Around} {E:Value→Shared→Prop} {s:Shared}
end
end L3
namespace L3
open PySem PySem.Spec PyProof.Rows L2
variable {K:PySem.W.Frag} {H H' H2:Hp}
end L3
namespace L2
open PySem PySem.Spec PyProof.Rows
end L2
namespace L3
open PySem PySem.Spec PyProof.Rows L2
section
variable {prog:Program} {w:World} {A:Around} {E:Value→Shared→Prop} {s:Shared}
theorem Ziy:fillsNumberSlot (.type "tuple") "mul"=pure false :=
 PySem.fillsNumberSlot_seq (id:="tuple.__mul__") (r:=some (.builtin "tuple.__rmul__")) PySem.F.slot_tuple_mul.lookup (by decide +kernel) PySem.F.slot_tuple_rmul.lookup (by decide +kernel)
theorem ZmC:seqRepeat? (.type "tuple")=pure (some (.builtin "tuple.__mul__")):=by
 unfold seqRepeat?
 rw [PySem.seqSlot_of (T:="tuple") (name:="__mul__") (id:="tuple.__mul__") PySem.F.slot_tuple_mul.lookup (by decide +kernel),PySem.seqSlot_of (T:="tuple") (name:="__rmul__") (id:="tuple.__rmul__") PySem.F.slot_tuple_rmul.lookup (by decide +kernel)]
 rfl
theorem ZpD (a:Int) (t:Tok) (l:Addr) (items:Array Value) (n:Nat) (d:Option Addr) (sl:Array (Option Value)) :
  Meets (Builtin.«int.__rmul__» ⟨[.int a t,.ref l],[]⟩) (fun _ R s=>s.heap.get? l=some { cls:=.type "tuple",dict:=d,data:=.seq items n,slots:=sl }∧R (.ok (.ret Value.notImplemented)) s) :=
 .of_wp fun prog w A R s h=>by obtain ⟨hp,g,d,tk,os⟩:=s;obtain ⟨hl,h⟩:=h;wp_walk;exact ⟨_,rfl,h⟩
theorem Zp0 (l:Addr) (v:Value) (n:Nat) (d:Option Addr) (sl:Array (Option Value)) (u:Tok) :
  Meets (Builtin.«tuple.__mul__» ⟨[.ref l,.int 2 u],[]⟩) (fun _ R s=>s.heap.get? l=some { cls:=.type "tuple",dict:=d,data:=.seq #[v] n,slots:=sl }∧R (.ok (.ret (Value.ref s.heap.objs.size))) { s with heap:=s.heap.push { cls:=Value.type "tuple",data:=Data.seq #[v,v] },toks:=s.toks }) :=
 .of_wp fun prog w A R s h=>by
  obtain ⟨hp,g,d,tk,os⟩:=s;obtain ⟨hl,h⟩:=h
  wp_walk
  exact ⟨_,rfl,h⟩
end
def Zn8 (x y:W) (G:Hw) (Q:Kw):Prop:=match x,y with
 | .tup [u],.int k=>k=2∧Q (.tup [u,u]) G
 | _,_=>False
theorem Zqq:RW2.M Zn8:=fun x y G Q Q' h q=>by
 unfold Zn8 at q ⊢
 split at q
 ·exact ⟨q.1,h _ _ q.2⟩
 ·exact q.elim
def Zxv (K:PySem.W.Frag):R2:=fun x y H Q=>∃ a v,x=.ref a∧y=.int 2∧SqT K H a [v]∧∀ p,H p=none→Q (.ref p) (upd H p (.tup [v,v]))
theorem ZvH {X:Cx}:OpR X (binaryOp .Mult) (Zxv X.K):=by
 walk_at "pd"
 obtain ⟨a,v,rfl,rfl,ha,q⟩:=h
 cases rx
 obtain ⟨t,rfl⟩:=ry
 obtain ⟨its,r1,p1,_⟩:=I.tuple ha
 obtain ⟨v0,rfl,rv⟩:=Zlf r1
 obtain ⟨⟨cls,dd,data,sl⟩,ho,hc,n,hd⟩:=id p1
 simp only at hc hd
 subst hc hd
 refine wpAny_binaryOp_repeat_ref (T:="tuple") (U:="int") (by decide) ⟨_,ho,rfl⟩ (fun s'=>typeIs_int s' 2 t) Ziy PySem.F.fills_int_mul PySem.F.slot_int_rmul ZmC PySem.F.slot_int_index.lookup
  (call_meets PySem.F.slot_int_rmul (typeIs_int s 2 t) PySem.F.entry_int_rmul (PySem.F.args_int_rmul_2 _ _) (ZpD 2 t a _ n dd sl)
   ⟨ho,rfl,⟨_,ho,rfl⟩,call_meets PySem.F.slot_tuple_mul ⟨_,ho,rfl⟩ PySem.F.entry_tuple_mul (PySem.F.args_tuple_mul_2 _ _) (Zp0 a v0 n dd sl t) ⟨ho,?_⟩⟩)
 refine ⟨.ref s.heap.objs.size,_,I.laid (t':=s.toks) (o:=.tup [v,v]) (fun b ob q=>Heap.get?_push_of_some _ q) (Nat.le_refl _) ?_,rfl,q _ (I.hok.fresh (Nat.le_refl _))⟩
 exact ⟨(show 2≤sizeLine by decide),[v0,v0],.cons rv (.cons rv .nil),IsTup.new _ _⟩
theorem ZtN {K:PySem.W.Frag} (x y:W) (v u:V) (G:Hw) (H:Hp) (Q:VK) (tx:Tr K H v x) (ty:Tr K H u y) (r:RelH K H G) (q:Zn8 x y G (dn K H Q)):Zxv K v u H Q:=by
 unfold Zn8 at q
 split at q
 ·obtain ⟨rfl,q⟩:=q
  cases tx with
  | tup sa la =>
   cases ty with
   | int _ =>
    cases la with
    | cons t1 la =>
     cases la
     exact ⟨_,_,rfl,rfl,sa,fun p hp=>q _ _ (Mono.new hp _) (.tup (SqT.of Zbq) ((TrL.cons t1 (.cons t1 .nil)).mono (Mono.new hp _))) (r.mono0 hp)⟩
 ·exact q.elim
theorem Zww {X:Cx} {a b:Expr} {ga gb:GE} {pos:Pos} (ha:Em X a ga) (hb:Em X b gb):Em X (.BinOp a .Mult b pos) (Zah Zn8 ga gb):=⟨Zif ZvH Zqq ha.m hb.m ZtN ha.p hb.p,Ze6 Zqq ha.m hb.m⟩
section
variable {α:Type} {x y z:α} {xs:List α}
theorem Zbo:atI (x::xs) 0=some x:=Zjv (j:=0) (xs:=x::xs) rfl
theorem Zcj:atI (x::y::xs) 1=some y:=Zjv (j:=1) (xs:=x::y::xs) rfl
theorem Zcd:atI (x::y::z::xs) 2=some z:=Zjv (j:=2) (xs:=x::y::z::xs) rfl
end
theorem Zae {w:W} {f:W→Prop}:opt (some w) f=f w:=rfl
theorem Zbm {G:Hw} {p:Addr} {o:HW} (h:G p=none):Sub G (put G p o):=Sub.refl.put h
theorem ZbV {G G':Hw} {p:Addr} {o:HW} (s:Sub G G') (h:G' p=none):Sub G (put G' p o):=s.trans (Zbm h)
theorem Zg0 {G:Hw} {p:Addr} {o o':HW}:put (put G p o) p o'=put G p o':=by
 funext b;unfold put;split <;> rfl
theorem Zdc {G:Hw} {p:Addr} {xs:List W} (h:G p=some (.lst xs)):Zj2 G (.ref p)=some xs:=by unfold Zj2;dsimp only;rw [h]
theorem ZnL {G:Hw} {p:Addr} {xs:List W} (h:G p=some (.lst xs)):Zme G (.ref p)=some xs:=by unfold Zme;dsimp only;rw [h]
theorem Zhs {G:Hw} {p:Addr} {xs:List W} (h:G p=some (.lst xs)):rdL G (.ref p)=some xs:=by unfold rdL;dsimp only;rw [h]
theorem Zpb {G:Hw} {p:Addr} {xs:List W} {i:Int} (h:G p=some (.lst xs)):ixW (.ref p) (.int i) G=atI xs i:=by unfold ixW;dsimp only;rw [h]
theorem Zcq:∀ bs:List Bool,Zm6 (bs.map W.bl)=some bs
 | []=>rfl
 | b::bs=>by show (Zm6 (bs.map W.bl)).map (b::·)=_;rw [Zcq bs];rfl
theorem ZkP:∀ bs:List Str,ZnB (bs.map W.str)=some (bs.map V.str)
 | []=>rfl
 | b::bs=>by show (ZrH (.str b)).bind (fun v=>(ZnB (bs.map W.str)).map (v::·))=_;rw [ZkP bs];rfl
theorem Zk5 (s:Str):∀ bs:List Str,inV (.str s) (bs.map V.str)=bs.any (·==s)
 | []=>rfl
 | b::bs=>by
  show (eqV (.str b) (.str s)||inV (.str s) (bs.map V.str))=_
  rw [Zk5 s bs];rfl
theorem Zpw {gd:Hw→Prop} {ge:GE} {R:List W→Hw→Prop} {f:W→W} {G:Hw} (hgd:gd G):∀ (ws:List W) (o:Option W) (ys:List W),(∀ x∈ws,∀ Q:Kw,Q (f x) G→ge [some x] G Q) →
  ys.length+ws.length≤sizeLine→R (ys++ws.map f) G→ZbD gd (gNm 0) ZfN ge R ws [o] G ys
 | [],o,ys,_,_,r=>⟨hgd,by simpa using r⟩
 | x::ws,o,ys,h,hl,r=>by
  walk_at "pn"
  show ge [some x] G fun y G3=>ZbD gd (gNm 0) ZfN ge R ws [some x] G3 (ys++[y])
  refine h x List.mem_cons_self _ (Zpw hgd ws (some x) (ys++[f x]) (fun y hy=>h y (List.mem_cons_of_mem _ hy)) ?_ ?_)
  ·simp only [List.length_append,List.length_cons,List.length_nil] at hl ⊢;omega
  ·simpa [List.append_assoc] using r
theorem ZyQ {gd:Hw→Prop} {ge:GE} {R:List W→Hw→Prop} {f:W→W→W} {G:Hw} (hgd:gd G):∀ (ws:List (W×W)) (o o':Option W) (ys:List W),(∀ x∈ws,∀ Q:Kw,Q (f x.1 x.2) G→ge [some x.1,some x.2] G Q) →
  ys.length+ws.length≤sizeLine→R (ys++ws.map fun x=>f x.1 x.2) G→ZbD gd (Zk8 0 1) ZfN ge R (ws.map fun x=>W.tup [x.1,x.2]) [o,o'] G ys
 | [],o,o',ys,_,_,r=>⟨hgd,by simpa using r⟩
 | x::ws,o,o',ys,h,hl,r=>by
  walk_at "pn"
  show ge [some x.1,some x.2] G fun y G3=>ZbD gd (Zk8 0 1) ZfN ge R (ws.map fun x=>W.tup [x.1,x.2]) [some x.1,some x.2] G3 (ys++[y])
  refine h x List.mem_cons_self _ (ZyQ hgd ws (some x.1) (some x.2) (ys++[f x.1 x.2]) (fun y hy=>h y (List.mem_cons_of_mem _ hy)) ?_ ?_)
  ·simp only [List.length_append,List.length_cons,List.length_nil] at hl ⊢;omega
  ·simpa [List.append_assoc] using r
theorem Zhq:∀ (xs ys:List W),ZlF xs ys=(xs.zip ys).map fun x=>W.tup [x.1,x.2]
 | [],_=>by simp [ZlF]
 | _::_,[]=>by simp [ZlF]
 | x::xs,y::ys=>by simp [ZlF,Zhq xs ys]
def spR {α:Type} (A:α→List W→Hw→Prop) (f:α→W):Spw:=fun ws G Q _=>∃ x,A x ws G∧Q (f x) G
theorem ZbY {α:Type} {A:α→List W→Hw→Prop} {f:α→W}:Spw.M (spR A f):=(by rintro ws G Q Q' E E' h _ ⟨x,h1,q⟩;exact ⟨x,h1,h _ _ q⟩)
def spL {α:Type} (A:α→List W→Hw→Prop) (f:α→List W):Spw:=fun ws G Q _=>∃ x,A x ws G∧∀ p,G p=none→Q (.ref p) (put G p (.lst (f x)))
theorem Zrl {α:Type} {A:α→List W→Hw→Prop} {f:α→List W}:Spw.M (spL A f):=(by rintro ws G Q Q' E E' h _ ⟨x,h1,q⟩;exact ⟨x,h1,fun p hp=>h _ _ (q p hp)⟩)
theorem ZjW {α:Type} (xs:List α):ZnG xs (some 1) none=xs.drop 1:=by
 have e:HT.sIx xs.length 0 (some 1)=min 1 xs.length:=HT.sIx_nat xs.length 0 1
 unfold ZnG
 rw [e,HT.sIx_none]
 cases xs with
 | nil=>rfl
 | cons x xs =>
  have e1:min 1 (x::xs).length=1:=by simp only [List.length_cons];omega
  rw [e1]
  show (xs.take ((xs.length+1) - 1))=xs
  rw [Nat.add_sub_cancel,List.take_length]
theorem ZrX {α:Type} (x:α) (xs:List α):¬ (HT.sIx (x::xs).length 0 (some 1)=0∧HT.sIx (x::xs).length (x::xs).length none=(x::xs).length):=by
 have e:HT.sIx (x::xs).length 0 (some 1)=min 1 (x::xs).length:=HT.sIx_nat (x::xs).length 0 1
 intro h
 have:=h.1
 rw [e] at this
 simp only [List.length_cons] at this
 omega
theorem Zyc {G:Hw} {p:Addr} {xs:List W} {lo hi:Option Int} {Q:Kw} (h:G p=some (.lst xs)) (q:∀ p1,G p1=none→Q (.ref p1) (put G p1 (.lst (ZnG xs lo hi)))):slW (.ref p) lo hi G Q:=by
 unfold slW
 dsimp only
 rw [h]
 exact q
theorem ZaO {G:Hw} {p q:Addr} {o:HW} (h:G p=some o) (h':G q=none):p≠q:=by intro e;rw [e,h'] at h;cases h
theorem Za3 {n:Nat} (h:n≤100000):n≤sizeLine:=Nat.le_trans h (by decide)
theorem ZsZ {n:Nat} (h:n≤100000):n < sizeLine:=Nat.lt_of_le_of_lt h (by decide)
section
variable {P:Program} {w:World} {K:PySem.W.Frag} {mg:Str→Option Value} {base:Heap}
theorem ok0 {x:Str} {st:Stmt} {f:Addr} {fd:FuncData} {N ps:List Str} {k:Nat} {sp:Spw} {g:GS} (F:Fun K x x st f fd) (S:Zao N ps (Zac st)) (len:∀ ws G Q E,sp ws G Q E→ws.length=ps.length)
  (hg:∀ {f:Addr} {cdv:Value} {A:Around} {outer:List Env} {s:Shared} {H:Hp} {E:XK},Room k (A.deeper (envOfC x (Zac st) s.heap.objs.size f cdv))→Ssm (cxW P w K mg base N x (Zac st) f cdv A outer s H E).nox (fun B=>B=H) (ZaZ st) g)
  (ok:∀ ws G (Q:Kw) (E:Addr→Hw→Prop),Kw.C Q→sp ws G Q E→g (ZaK Q) (ZaU N ws) G):FnOk P w K mg base (CXe P w) (k+1) f fd ps (Zu6 K sp):=by
 walk_at "pk"
 refine Zum lk hcd S ((by rintro vs H Q E ⟨ws,G,t,r,q⟩;rw [t.length];exact len ws G _ _ q)) fun A outer s H vs Q E hr hsp=>?_
 obtain ⟨ws,G,t,r,q⟩:=hsp
 have D:=hg (cdv:=cdv) (outer:=outer) (H:=H) (E:=E) hr
 refine ⟨_,(D.p H rfl).nox,ZaU N ws,G,ZfR t,r,.refl,?_⟩
 walk_at "pe"
end
def Zui:Spw:=fun ws _ Q _=>∃ ns:List Int,ws=[.rol (ns.map W.int)]∧ns.length≤63∧∀ G',Q (.bl true) G'
theorem Zoy {K:PySem.W.Frag} {H:Hp}:∀ ns:List Int,TrL K H (ns.map V.int) (ns.map W.int)
 | []=>.nil
 | n::ns=>.cons (.int n) (Zoy ns)
theorem ZrI {K:PySem.W.Frag} {H:Hp} {a:Addr} {ns:List Int} (hl:ns.length≤63) (hO:ZzX H) (hS:SqL K H a (ns.map V.int)):Zu6 K Zui [.ref a] H (fun v _=>v=.bl true) (fun _ _ _=>False):=by
 have ro:RoL K H a (ns.map V.int):=by
  rcases hS with (h | ⟨o,h⟩) | h
  ·rcases hO a with z | ⟨o,xs,z⟩
   ·rw [z] at h;cases h
   ·rw [z] at h;cases h
  ·exact .inl ⟨o,h⟩
  ·exact .inr h
 exact ⟨[.rol (ns.map W.int)],fun _=>none,.cons (.rol ro (Zoy ns)) .nil,(fun a o e=>by cases e),ns,rfl,hl,fun G' v H' m t r=>ZnJ t⟩
theorem Zs8 {P:Program} {w:World} {H:Hp} {s:Shared} {e:Value} {s':Shared} (h:CXe P w [] H s (fun _ _ _=>False) e s'):False:=by
 obtain ⟨_,_,_,_,_,q⟩:=h
 exact q
section
variable {K:PySem.W.Frag} {h:Heap} {mg:Str→Option Value} (X:K.In h) (G:h.Ns mainGlobals mg)
include X G
theorem ZAN {x:Str} {st:Stmt} {ps:List Str} {f:Addr} {oc:Value} {od an:Option Addr} {osl:Array (Option Value)} {kV doc pm cdv ct:Value} (e1:PySem.W.nsIn K mainGlobals x=some (some (.ref f)))
  (l:K.lookup f=some ⟨oc,od,.func (PySem.W.fnOf x x (ZfK st) (ZaZ st) (Zac st) .none kV doc pm an cdv ct),osl⟩) (c:PySem.W.codeIn K cdv x=true) (k:PySem.W.keepIn K (.ref f)=true)
  (b:∀ (kV doc pm:Value) (an:Option Addr) (cdv ct:Value) (us:List Value),us.length=ps.length→bindArgs (PySem.W.fnOf x x (ZfK st) (ZaZ st) (Zac st) .none kV doc pm an cdv ct) ⟨us,[]⟩=pure (ps.zip us)):Fn K mg st x ps :=
 ⟨f,_,PySem.W.mg_of X G e1,ZuI l c k,(ZuI l c k).binds b⟩
theorem ZnR {x:Str} {i:Int} {t:Tok} (e:PySem.W.nsIn K mainGlobals x=some (some (.int i t))):Glb K mg x (.int i):=⟨.int i,.int i t,PySem.W.mg_of X G e,⟨t,rfl⟩,fun H=>.int i⟩
theorem ZvG {x:Str} {d:Addr} {ts:List (Str×Tok)} {dd:Option Addr} {n:Nat} {sl:Array (Option Value)} (e:PySem.W.nsIn K mainGlobals x=some (some (.ref d))) (l:K.lookup d=some ⟨.type "tuple",dd,.seq ((ts.map fun p=>Value.str p.1 p.2).toArray) n,sl⟩) (hz:ts.length≤1000) :
  Glb K mg x (.tup (ts.map fun p=>.str p.1)):=by
 have vs:∀ ts:List (Str×Tok),Vals (ts.map fun p=>V.str p.1) (ts.map fun p=>Value.str p.1 p.2):=fun ts=>by
  induction ts with
  | nil=>exact .nil
  | cons p ts ih=>exact .cons ⟨p.2,rfl⟩ ih
 have tr:∀ (H:Hp) (ts:List (Str×Tok)),TrL K H (ts.map fun p=>V.str p.1) (ts.map fun p=>W.str p.1):=fun H ts=>by
  induction ts with
  | nil=>exact .nil
  | cons p ts ih=>exact .cons (.str _) ih
 refine ⟨.ref d,.ref d,PySem.W.mg_of X G e,rfl,fun H=>.tup (.inr ⟨_,_,n,l,rfl,rfl,?_,by simpa using vs ts⟩) (tr H ts)⟩
 simp only [List.size_toArray,List.length_map]
 exact Nat.le_trans hz (by decide)
end
theorem ZxA {K:PySem.W.Frag} {h base:Heap} {mg:Str→Option Value} (X:K.In h) (G:h.Ns mainGlobals mg) (B:K.In base) {x:Str} {d:Addr} {o:Obj} {es:Array DictEntry} {ep:Nat} {D:List (Str×Int)} (e:PySem.W.nsIn K mainGlobals x=some (some (.ref d))) (l:K.lookup d=some o)
  (hd:(d==sysModules)=false) (hx:o.ExactDict) (ho:o.data=.dict es ep) (hr:KTD.Rows (KTD.Dat.At base) es.toList (D.map fun p=>(p.1,KTD.Dat.flat (.int p.2)))):ZAb mg base x D :=
 ⟨d,PySem.W.mg_of X G e,hd,o,es,ep,B _ _ l,hx,ho,hr⟩
theorem Zms {K:PySem.W.Frag} {C D:Addr} {b:Bool} (hne:(Value.ref C==Value.ref D)=false) (h0:(PySem.W.clsIn K D).isSome=true) (h1:PySem.W.typeIn K (.ref D)=some (.type "type")) (h2:PySem.W.subIn K (.ref C) (.ref D)=some b):PySem.W.kitOne K (.ref C) (.ref D)=some b:=by
 unfold PySem.W.kitOne PySem.W.kitCls
 rw [if_neg (by rw [hne];exact Bool.false_ne_true)]
 dsimp only
 rw [if_pos (by rw [h0,h1];rfl)]
 exact h2
theorem Zt6 {K:PySem.W.Frag} {C:Addr}:PySem.W.kitOne K (.ref C) (.ref C)=some true:=by
 unfold PySem.W.kitOne
 rw [if_pos (by simp)]
theorem ZxG {K:PySem.W.Frag} {C:Addr} {T:String} {b:Bool} (hm:PySem.W.kitMeta T=true) (h2:PySem.W.subIn K (.ref C) (.type T)=some b):PySem.W.kitOne K (.ref C) (.type T)=some b:=by
 unfold PySem.W.kitOne PySem.W.kitCls
 rw [if_neg (by intro h;cases beq_iff_eq.mp h)]
 dsimp only
 rw [if_pos hm]
 exact h2
theorem ZAX {l:PySem.W.OpenLaw} {q:Program} {loose:List Str} {XP:(Str→Option Value)→Heap→Prop} {YP:World→Heap→Prop} {d:DefRec} {K:Params→PySem.W.Frag} {k:Nat} (hr:Room k callerA) (hn:l.most=some 63) (hdf:d.params.defaults=[])
  (hY:∀ (w:World) (h:Heap),YP w h→(K w.params).In h)
  (F:∀ (w:World) (mg:Str→Option Value) (fa:Addr) (h:Heap),(K w.params).In h→h.Ns mainGlobals mg→mg d.name=some (.ref fa) →
   ∃ fd:FuncData,(∀ (s:Shared) (u:Value),BindsTo s fd ⟨[u],[]⟩ [("script",u)])∧∀ base:Heap,(K w.params).In base→base.Ns mainGlobals mg→FnOk l.prog w (K w.params) mg base (CXe l.prog w) k fa fd ["script"] (Zu6 (K w.params) Zui)) :
  PySem.W.WalkO q loose XP YP l.row.toRowW d [] (fun f vs=>PySem.call f vs) :=
 L2.ZwP (n:=63) (k:=k) (x:="script") (CX:=fun w=>CXe l.prog w) (sp:=fun w=>Zu6 (K w.params) Zui) hn (by decide) hdf hr hY F (fun w H a ns hl hO hS=>ZrI hl hO hS) fun w H s e s' z=>Zs8 z
theorem ZgK {α:Type} {o:Option α} {x:α} (h:o=some x):o.isSome=true:=by rw [h];rfl
theorem ln0 {us:List Value} (h:us.length=0):us=[]:=List.length_eq_zero_iff.mp h
theorem ln1 {us:List Value} {n:Nat} (h:us.length=n+1):∃ a r,us=a::r∧r.length=n:=by
 cases us with
 | nil=>cases h
 | cons a r=>exact ⟨a,r,rfl,Nat.succ.inj h⟩
end L3
namespace KL
open PySem L2 L3
mutual
inductive Kd where
 | any | num | truth
 | to (a b:Kd) | box (a:Kd) | row (fs:Fs) (o:Bool)
inductive Fs where
 | nil | cons (n:Str) (m:Bool) (k:Kd) (r:Fs)
end
def mark (m:Bool):Str:=if m then "must" else "may"
mutual
def Kd.enc:Kd→W
 | .any=>.tup [.str "any"]
 | .num=>.tup [.str "num"]
 | .truth=>.tup [.str "truth"]
 | .to a b=>.tup [.str "to",a.enc,b.enc]
 | .box a=>.tup [.str "box",a.enc]
 | .row fs o=>.tup [.str "row",.tup fs.enc,.bl o]
def Fs.enc:Fs→List W
 | .nil=>[]
 | .cons n m k r=>.tup [.str n,.str (mark m),k.enc]::r.enc
end
def Fs.kinds:Fs→List Kd
 | .nil=>[]
 | .cons _ _ k r=>k::r.kinds
def Fs.names:Fs→List Str
 | .nil=>[]
 | .cons n _ _ r=>n::r.names
def Kd.kids:Kd→List Kd
 | .to a b=>[a,b]
 | .box a=>[a]
 | .row fs _=>fs.kinds
 | _=>[]
mutual
def Kd.cnt:Kd→Nat
 | .to a b=>1+(a.cnt+b.cnt)
 | .box a=>1+a.cnt
 | .row fs _=>1+fs.cnt
 | _=>1
def Fs.cnt:Fs→Nat
 | .nil=>0
 | .cons _ _ k r=>k.cnt+r.cnt
end
mutual
def Kd.dp:Kd→Nat
 | .to a b=>1+max a.dp b.dp
 | .box a=>1+a.dp
 | .row fs _=>1+fs.dp
 | _=>1
def Fs.dp:Fs→Nat
 | .nil=>0
 | .cons _ _ k r=>max k.dp r.dp
end
mutual
def Kd.all:Kd→List Kd
 | .to a b=>.to a b::(a.all++b.all)
 | .box a=>.box a::a.all
 | .row fs o=>.row fs o::fs.all
 | .any=>[.any]
 | .num=>[.num]
 | .truth=>[.truth]
def Fs.all:Fs→List Kd
 | .nil=>[]
 | .cons _ _ k r=>k.all++r.all
end
def ZhC:List Kd→Nat
 | []=>0
 | k::r=>k.cnt+ZhC r
def dpL:List Kd→Nat
 | []=>0
 | k::r=>max k.dp (dpL r)
theorem Zsx:∀ fs:Fs,fs.cnt=ZhC fs.kinds
 | .nil=>rfl
 | .cons _ _ k r=>by show k.cnt+r.cnt=k.cnt+ZhC r.kinds;rw [Zsx r]
theorem ZzF:∀ fs:Fs,fs.dp=dpL fs.kinds
 | .nil=>rfl
 | .cons _ _ k r=>by show max k.dp r.dp=max k.dp (dpL r.kinds);rw [ZzF r]
theorem ZuN:∀ fs:Fs,fs.all=fs.kinds.flatMap Kd.all
 | .nil=>rfl
 | .cons _ _ k r=>by show k.all++r.all=(k::r.kinds).flatMap Kd.all;rw [ZuN r,List.flatMap_cons]
theorem Zhx (k:Kd):k.cnt=1+ZhC k.kids:=by
 cases k with
 | to a b=>show 1+(a.cnt+b.cnt)=1+(a.cnt+(b.cnt+0));omega
 | box a=>show 1+a.cnt=1+(a.cnt+0);omega
 | row fs o=>show 1+fs.cnt=1+ZhC fs.kinds;rw [Zsx]
 | _=>rfl
theorem Zlz (k:Kd):k.dp=1+dpL k.kids:=by
 cases k with
 | to a b=>show 1+max a.dp b.dp=1+max a.dp (max b.dp 0);omega
 | box a=>show 1+a.dp=1+max a.dp 0;omega
 | row fs o=>show 1+fs.dp=1+dpL fs.kinds;rw [ZzF]
 | _=>rfl
theorem ZoX (k:Kd):k.all=k::k.kids.flatMap Kd.all:=by
 cases k with
 | to a b=>show Kd.to a b::(a.all++b.all)=Kd.to a b::[a,b].flatMap Kd.all;simp [List.flatMap_cons]
 | box a=>show Kd.box a::a.all=Kd.box a::[a].flatMap Kd.all;simp [List.flatMap_cons]
 | row fs o=>show Kd.row fs o::fs.all=Kd.row fs o::fs.kinds.flatMap Kd.all;rw [ZuN]
 | _=>rfl
theorem ZiY:∀ (l m:List Kd),ZhC (l++m)=ZhC l+ZhC m
 | [],m=>by simp [ZhC]
 | k::l,m=>by show k.cnt+ZhC (l++m)=k.cnt+ZhC l+ZhC m;rw [ZiY l m];omega
theorem Zkv:∀ (l m:List Kd),dpL (l++m)=max (dpL l) (dpL m)
 | [],m=>by simp [dpL]
 | k::l,m=>by show max k.dp (dpL (l++m))=max (max k.dp (dpL l)) (dpL m);rw [Zkv l m];omega
theorem Zq6 (k:Kd):1≤k.cnt:=by rw [Zhx];omega
theorem ZgI (k:Kd):1≤k.dp:=by rw [Zlz];omega
theorem Zkh:∀ l:List Kd,ZhC l=l.length+ZhC (l.flatMap Kd.kids)
 | []=>rfl
 | k::l=>by
  show k.cnt+ZhC l=(l.length+1)+ZhC ((k::l).flatMap Kd.kids)
  rw [List.flatMap_cons,ZiY,Zkh l,Zhx k];omega
theorem Zl8:∀ l:List Kd,l≠[]→dpL l=1+dpL (l.flatMap Kd.kids)
 | [],h=>absurd rfl h
 | [k],_=>by
  show max k.dp 0=1+dpL ([k].flatMap Kd.kids)
  rw [List.flatMap_cons,List.flatMap_nil,List.append_nil,Zlz];omega
 | k::k'::l,_=>by
  have ih:=Zl8 (k'::l) (by simp)
  show max k.dp (dpL (k'::l))=1+dpL ((k::k'::l).flatMap Kd.kids)
  rw [List.flatMap_cons,Zkv,ih,Zlz k];omega
theorem ZoN:∀ l:List Kd,l.length≤ZhC l
 | []=>Nat.le_refl _
 | k::l=>by have:=ZoN l;have:=Zq6 k;show l.length+1≤k.cnt+ZhC l;omega
theorem Zo9:∀ {l:List Kd} {k:Kd},k∈l→k.cnt≤ZhC l
 | k'::l,k,h=>by
  show k.cnt≤k'.cnt+ZhC l
  rcases List.mem_cons.mp h with rfl | h
  ·omega
  ·have:=Zo9 h;omega
theorem Zg2:∀ {l:List Kd} {k:Kd},k∈l→k.dp≤dpL l
 | k'::l,k,h=>by
  show k.dp≤max k'.dp (dpL l)
  rcases List.mem_cons.mp h with rfl | h
  ·omega
  ·have:=Zg2 h;omega
theorem Zjh {k c:Kd} (h:c∈k.kids):c.dp+1≤k.dp:=by rw [Zlz k];have:=Zg2 h;omega
theorem ZuB:∀ fs:Fs,fs.enc.length=fs.kinds.length
 | .nil=>rfl
 | .cons _ _ k r=>by show r.enc.length+1=r.kinds.length+1;rw [ZuB r]
theorem ZnD:∀ (n:Nat) (k:Kd),k.dp≤n→k.all.length=k.cnt:=by
 intro n
 induction n with
 | zero=>intro k h;have:=ZgI k;omega
 | succ n ih =>
  intro k h
  have key:∀ l:List Kd,(∀ c∈l,c.dp≤n)→(l.flatMap Kd.all).length=ZhC l:=by
   intro l
   induction l with
   | nil=>intro _;rfl
   | cons c l ih2 =>
    intro hl
    rw [List.flatMap_cons,List.length_append,ih c (hl c List.mem_cons_self),ih2 (fun d hd=>hl d (List.mem_cons_of_mem _ hd))];rfl
  rw [ZoX,List.length_cons,key k.kids (fun c hc=>by have:=Zjh hc;omega),Zhx];omega
theorem ZkW (k:Kd):k.all.length=k.cnt:=ZnD k.dp k (Nat.le_refl _)
def Kd.unk:Kd→Bool
 | .any=>true
 | .row _ o=>o
 | _=>false
def Kd.fb:Kd→Bool
 | .to _ _=>true
 | .box _=>true
 | _=>false
def Kd.known (k:Kd):Bool:=!(k.all.any Kd.unk)
def Kd.data (k:Kd):Bool:=!(k.all.any Kd.fb)
def Kd.hd:Kd→Str
 | .any=>"any"
 | .num=>"num"
 | .truth=>"truth"
 | .to _ _=>"to"
 | .box _=>"box"
 | .row _ _=>"row"
def Kd.own:Kd→List Str
 | .row _ o=>if o then ["row","open"] else ["row"]
 | k=>[k.hd]
def Zhk (z:Str):Bool:=!ZbT z "a"&&!ZbT "z" z
def Zda (n:Str):Bool:=decide (1≤n.length)&&decide (n.length≤8)&&n.cps.toList.all fun c=>Zhk ⟨#[c]⟩
def Zkj:List Str→Bool
 | a::b::r=>ZbT a b&&Zkj (b::r)
 | _=>true
mutual
def Kd.ok:Kd→Bool
 | .to a b=>a.ok&&b.ok
 | .box a=>a.ok
 | .row fs _=>Zkj fs.names&&fs.ok
 | _=>true
def Fs.ok:Fs→Bool
 | .nil=>true
 | .cons n _ k r=>Zda n&&k.ok&&r.ok
end
theorem ZgS:∀ {fs:Fs},fs.ok=true→∀ c∈fs.kinds,c.ok=true
 | .nil,_,c,hc=>by cases hc
 | .cons n m k r,h,c,hc=>by
  have h':(Zda n&&k.ok&&r.ok)=true:=h
  walk_at "ph"
  rcases List.mem_cons.mp hc with rfl | hc
  ·exact h'.1.2
  ·exact ZgS h'.2 c hc
theorem Zk2 {k:Kd} (h:k.ok=true):∀ c∈k.kids,c.ok=true:=by
 intro c hc
 cases k with
 | to a b =>
  have h':(a.ok&&b.ok)=true:=h
  walk_at "ph"
  have hc':c=a∨c=b:=by simpa [Kd.kids] using hc
  rcases hc' with rfl | rfl
  ·exact h'.1
  ·exact h'.2
 | box a=>have hc':c=a:=by simpa [Kd.kids] using hc
          subst hc';exact h
 | row fs o =>
  have h':(Zkj fs.names&&fs.ok)=true:=h
  walk_at "ph"
  exact ZgS h'.2 c hc
 | _=>cases hc
open PySem PySem.Spec PyProof.Rows L2 L3
abbrev ZcE:Stmt:=top 33
abbrev Zfr:Stmt:=top 34
abbrev Zjq:Stmt:=top 32
abbrev ZhH:Stmt:=top 31
abbrev Zfp:Stmt:=top 30
abbrev ZhP:Stmt:=top 29
abbrev Zd5:Stmt:=top 28
abbrev Zed:Stmt:=top 26
abbrev ZdY:Stmt:=top 25
abbrev ZiQ:Stmt:=top 24
abbrev Zc5:Stmt:=top 22
abbrev Zh1:Stmt:=top 27
abbrev Zew:Stmt:=top 14
abbrev Zdd:Stmt:=top 21
abbrev Zff:Stmt:=top 20
abbrev ZeE:Stmt:=top 19
abbrev ZhD:Stmt:=top 15
abbrev ZhB:Stmt:=top 16
abbrev ZdB:Stmt:=top 17
abbrev Zct:Stmt:=top 23
abbrev ZdE:Stmt:=top 49
abbrev Zdi:Stmt:=top 48
abbrev Zjj:Stmt:=top 47
abbrev Zc9:Stmt:=top 42
abbrev Zs9:Stmt:=top 50
abbrev ZcB:Stmt:=top 53
abbrev ZdD:Stmt:=top 52
abbrev ZhQ:Stmt:=top 51
abbrev Zdx:Stmt:=top 55
abbrev ZhM:Stmt:=top 54
abbrev Zcu:Stmt:=top 44
abbrev ZfO:Stmt:=top 45
abbrev ZiN:Stmt:=top 18
abbrev ZcJ:Stmt:=top 58
abbrev ZcZ:Stmt:=top 57
abbrev Zje:Stmt:=top 56
abbrev ZqA:Stmt:=top 43
abbrev ZcF:Stmt:=top 61
abbrev ZcU:Stmt:=top 60
abbrev ZiP:Stmt:=top 59
abbrev Zhj:Stmt:=top 46
abbrev ZdC:Stmt:=top 39
abbrev Zdq:Stmt:=top 38
abbrev ZiT:Stmt:=top 37
abbrev Zc6:Stmt:=top 36
abbrev Zfh:Stmt:=top 63
abbrev ZgQ:Stmt:=top 64
abbrev ZgN:Stmt:=top 65
abbrev ZdT:Stmt:=top 66
abbrev Zd9:Stmt:=top 67
abbrev Zc7:Stmt:=top 68
abbrev ZfI:Stmt:=top 69
abbrev ZpI:Stmt:=top 70
def ZaQ:List (Str×Int):=[("any",1),("num",1),("truth",1),("to",3),("box",2),("row",3)]
def Zg9:List (Str×List Str):=[("any",[]),("num",[]),("truth",[]),("to",["in","out"]),("box",["inside"])]
structure Adr where
 CastError:Addr
 NoKind:Addr
 NoTerm:Addr
 BadUse:Addr
 NoValue:Addr
 NoNumber:Addr
 BadNote:Addr
structure Fns (K:PySem.W.Frag) (mg:Str→Option Value):Prop where
 ZhE:Fn K mg ZcE "is_small_letter" ["sign"]
 Zm9:Fn K mg Zfr "names_rise" ["names"]
 Zqy:Fn K mg Zjq "is_name" ["thing"]
 Zpn:Fn K mg ZhH "is_field" ["thing"]
 Znk:Fn K mg Zfp "are_fields" ["thing"]
 ZpF:Fn K mg ZhP "has_form" ["thing"]
 ZjK:Fn K mg Zd5 "kinds_within" ["kind"]
 ZjL:Fn K mg Zed "layer_within" ["layer","things_within"]
 ZlV:Fn K mg ZdY "is_made_of" ["thing","is_formed","things_within","most","deepest"]
 ZrQ:Fn K mg ZiQ "is_kind" ["thing"]
 Znj:Fn K mg Zc5 "check_kind" ["thing"]
 ZkU:Fn K mg Zh1 "kinds_in" ["kind"]
 ZpM:Fn K mg Zew "parts_in" ["kind"]
 ZiC:Fn K mg Zdd "leaves_unknown" ["kind"]
 Zsf:Fn K mg Zff "is_data" ["kind"]
 ZpO:Fn K mg ZeE "is_known" ["kind"]
 ZpY:Fn K mg ZhD "entry_of" ["row","name"]
 ZpV:Fn K mg ZhB "names_of" ["row"]
 Zi5:Fn K mg ZdB "names_of_both" ["one","other"]
 ZkZ:Fn K mg Zct "check_kinds" ["one","other"]
 Zjk:Fn K mg ZdE "is_less_entry" ["one","other"]
 Zlb:Fn K mg Zdi "is_less_row" ["one","other"]
 Zl3:Fn K mg Zjj "is_less" ["one","other"]
 Zm0:Fn K mg Zc9 "knows_less" ["one","other"]
 Zs6:Fn K mg Zs9 "behind" ["step","path"]
 Zhv:Fn K mg ZcB "clash_of_entries" ["one","other"]
 Zji:Fn K mg ZdD "clash_of_rows" ["one","other"]
 ZkA:Fn K mg ZhQ "clash_of" ["one","other"]
 Zjz:Fn K mg Zdx "clash_at_name" ["one","other","path"]
 Zj6:Fn K mg ZhM "clash_at" ["one","other","path"]
 Zk6:Fn K mg Zcu "first_clash" ["one","other"]
 Zrp:Fn K mg ZfO "clashes" ["one","other","path"]
 ZsN:Fn K mg ZiN "row_of" ["names","entries","is_open"]
 ZhY:Fn K mg ZcJ "meet_of_entries" ["one","other"]
 Zj3:Fn K mg ZcZ "meet_of_rows" ["one","other"]
 Zng:Fn K mg Zje "meet_of" ["one","other"]
 ZAi:Fn K mg ZqA "met" ["one","other"]
 ZhW:Fn K mg ZcF "join_of_entries" ["one","other"]
 ZjJ:Fn K mg ZcU "join_of_rows" ["one","other"]
 ZmI:Fn K mg ZiP "join_of" ["one","other"]
 ZtC:Fn K mg Zhj "joined" ["one","other"]
 ZiW:Fn K mg ZdC "field_written" ["field"]
 Zlt:Fn K mg Zdq "row_written" ["row"]
 ZmK:Fn K mg ZiT "written" ["kind"]
 ZmO:Fn K mg Zc6 "kind_shown" ["kind"]
 Znd:Fn K mg Zfh "_law_state" ["script","k"]
 Zny:Fn K mg ZgQ "_law_take" ["state","many"]
 ZgL:Fn K mg ZgN "_law_kind" ["state","deep"]
 Zmu:Fn K mg ZdT "_law_which" ["e"]
 ZjU:Fn K mg Zd9 "_law_no_kind" ["state","kind"]
 ZmY:Fn K mg Zc7 "_law_asked" ["way","one","other"]
 Zmm:Fn K mg ZfI "_law_flags" ["way","one","other"]
 Zz4:Fn K mg ZpI "law" ["script"]
structure Bls (mg:Str→Option Value):Prop where
 Znh:mg "ValueError"=none
 Zf8:mg "all"=none
 ZiD:mg "any"=none
 ZgC:mg "bool"=none
 ZeH:mg "int"=none
 Zad:mg "isinstance"=none
 Zjm:mg "len"=none
 Zcg:mg "list"=none
 Zem:mg "range"=none
 Zj4:mg "set"=none
 Za6:mg "sorted"=none
 ZjN:mg "str"=none
 Zbl:mg "tuple"=none
 Zn6:mg "zip"=none
structure Tx (K:PySem.W.Frag) (mg:Str→Option Value) (base:Heap) (a:Adr):Prop extends Fns K mg,Bls mg where
 ZjD:mg "CastError"=some (.ref a.CastError)
 Zk1:mg "NoKind"=some (.ref a.NoKind)
 Zot:mg "NoTerm"=some (.ref a.NoTerm)
 Zo8:mg "BadUse"=some (.ref a.BadUse)
 Zmf:mg "NoValue"=some (.ref a.NoValue)
 Zkn:mg "NoNumber"=some (.ref a.NoNumber)
 Zmp:mg "BadNote"=some (.ref a.BadNote)
 ZfS:PySem.W.excIn K a.NoKind [.type "ValueError",.type "Exception",.type "BaseException",.type "object"] "ValueError.__new__"=true
 ZcL:PySem.W.typeIn K (.ref a.CastError)=some (.type "type")
 ZcH:(PySem.W.clsIn K a.CastError).isSome=true
 ZcD:PySem.W.subIn K (.ref a.CastError) (.type "BaseException")=some true
 Zcc:Glb K mg "MARKS" (.tup [(.str "must"),(.str "may")])
 ZaL:Glb K mg "MOST_DEPTH" (.int 8)
 ZaM:Glb K mg "MOST_KINDS" (.int 40)
 ZaB:Glb K mg "MOST_LETTERS" (.int 8)
 ZbP:ZAb mg base "LENGTHS" ZaQ
 Znu:ZA7 K mg base "STEPS" Zg9
 Zkc:PySem.W.subIn K (.ref a.NoKind) (.ref a.CastError)=some true
 Zdb:Zvq K a.NoKind
 Zog:PySem.W.kitOne K (.ref a.NoKind) (.ref a.NoKind)=some true
 Zom:PySem.W.kitOne K (.ref a.NoKind) (.ref a.NoTerm)=some false
 Zos:PySem.W.kitOne K (.ref a.NoKind) (.ref a.BadUse)=some false
 Zl6:PySem.W.kitOne K (.ref a.NoKind) (.ref a.NoValue)=some false
 ZkI:PySem.W.kitOne K (.ref a.NoKind) (.ref a.NoNumber)=some false
 ZmB:PySem.W.kitOne K (.ref a.NoKind) (.ref a.BadNote)=some false
 Zh8:PySem.W.kitOne K (.ref a.NoKind) (.type "ValueError")=some true
def Dn (P:Program) (w:World) (K:PySem.W.Frag) (mg:Str→Option Value) (base:Heap) (N:List Str) (x:Str) (st:Stmt) (k:Nat) (g:GS):Prop:=∀ {f:Addr} {cdv:Value} {A:Around} {outer:List Env} {s:Shared} {H:Hp} {E:XK},Room k (A.deeper (envOfC x (Zac st) s.heap.objs.size f cdv))→Ssm (cxW P w K mg base N x (Zac st) f cdv A outer s H E).nox (fun B=>B=H) (ZaZ st) g
theorem mk0 {P:Program} {w:World} {K:PySem.W.Frag} {mg:Str→Option Value} {base:Heap} {x:Str} {st:Stmt} {N ps:List Str} {k n:Nat} {sp:Spw} {g:GS} (Fx:Fn K mg st x ps) (hn:ps.length=n) (S:Zao N ps (Zac st)) (spm:sp.M) (len:∀ ws G Q E,sp ws G Q E→ws.length=n) (hg:Dn P w K mg base N x st k g) (ok:∀ ws G (Q:Kw) (E:Addr→Hw→Prop),Kw.C Q→sp ws G Q E→g (ZaK Q) (ZaU N ws) G):Df P w K mg base x (k+1) n sp:=L3.mk0 Fx hn S spm len hg ok
set_option hygiene false in
local macro_rules | `(tactic| walk_at "s") => `(tactic| exact ⟨rfl, rfl, rfl, by decide +kernel, rfl, by decide +kernel, by decide +kernel⟩)
set_option hygiene false in
local macro_rules | `(tactic| walk_at "c") => `(tactic| first | exact Zgf hu | exact Zgv hu | exact Zgx | exact Zd6 | exact Zgm | exact ZgD | exact Zgz | exact Zgo | exact cop_is | exact ZdI | exact Zen hu | exact cop_nInT hu | exact cop_nInU hu | exact cop_isB | exact cop_inN hu)
set_option hygiene false in
local macro_rules | `(tactic| walk_at "b") => `(tactic| first | refine Za9 Zdg (Zb2 rfl) rfl T.Zf8 (by decide) rfl rfl rfl ?_ | refine Za9 Ze3 (Zdf rfl) rfl T.ZiD (by decide) rfl rfl rfl ?_ | refine Zb5 Zci (Zek) rfl T.ZeH (by decide) rfl rfl rfl ?_ | refine Za9 ZfM (Zdz) rfl T.Zjm (by decide) rfl rfl rfl ?_ | refine Zb5 Zbv (ZcY) rfl T.Zcg (by decide) rfl rfl rfl ?_ | refine Za9 bt_sorted (blt_sorted) rfl T.Za6 (by decide) rfl rfl rfl ?_ | refine Zb5 Za0 (ZbE) rfl T.Zbl (by decide) rfl rfl rfl ?_ | refine Zaw (T := "tuple") (by decide) Za0 T.Zbl T.Zad rfl rfl (by decide) rfl rfl rfl ?_ | refine Zaw (T := "list") (by decide) Zbv T.Zcg T.Zad rfl rfl (by decide) rfl rfl rfl ?_ | refine Zaw (T := "str") (by decide) ZgH T.ZjN T.Zad rfl rfl (by decide) rfl rfl rfl ?_ | refine Zaw (T := "int") (by decide) Zci T.ZeH T.Zad rfl rfl (by decide) rfl rfl rfl ?_ | refine Zaw (T := "bool") (by decide) Zd8 T.ZgC T.Zad rfl rfl (by decide) rfl rfl rfl ?_ | refine ZcP rfl T.Za6 T.Zj4 rfl rfl rfl rfl rfl ?_ ?_ | refine Zb4 T.ZbP rfl rfl rfl rfl rfl rfl rfl ?_ | refine ZaS ZbG rfl rfl rfl rfl rfl ?_ ?_ | refine ZaS Zbr rfl rfl rfl rfl rfl ?_ ?_ | refine ZaS ZcW rfl rfl rfl rfl rfl ?_ ?_ | refine ZaS mth_get rfl rfl rfl rfl rfl ?_ ?_ | exact ZaE T.Zcc rfl rfl | exact ZaE T.ZaL rfl rfl | exact ZaE T.ZaM rfl rfl | exact ZaE T.ZaB rfl rfl)
set_option hygiene false in
local macro_rules | `(tactic| walk_at "v") => `(tactic| (first | (show Am _ _ _; first | exact Zbx | refine ZaH rfl ?_ ?_) | (show Em _ _ _; first | exact ZsC rfl rfl rfl rfl | exact Zfz | exact Zfn | refine ZjZ (fun _ _ => rfl) ?_ ?_ | refine ZaA (by assumption) (hr.mono (by assumption)) rfl Zg4 rfl rfl rfl ?_ | refine ZfC ?_ | refine Zez ?_ | exact ZjR | refine ZgJ (by walk_at "c") rfl ?_ ?_ | refine ZcK ?_ ?_ | refine Zgk ?_ ?_ | refine Zgy ?_ ?_ | refine Zgt ?_ ?_ | refine em_mulA ?_ ?_ | refine Zea ?_ ?_ | refine Zgu ?_ ?_ | walk_at "b" | exact Zfi | refine Zgd ?_ ?_ ?_ | refine Zfd ?_ ?_ | refine ZjX ?_ ?_ | refine Zfl ?_ | refine ZeY ?_ | refine ZfQ ?_ ?_ | refine ZgG ?_ ?_ ?_ | refine ZjV ?_ ?_ ?_ | refine ZcT (by walk_at "c") (by walk_at "c") rfl ?_ ?_ ?_) | (show Tm _ _ _; first | refine ZfD (by walk_at "c") rfl ?_ ?_ | refine Ze5 ?_ | refine Zeg ?_ | refine Ze1 (fun _ => rfl) ?_ | refine ZcO (by walk_at "c") (by walk_at "c") rfl ?_ ?_ ?_) | (show Ssm _ _ _ _; first | refine Zaj ?_ ?_ | exact Zco | refine Zas ?_) | (show Sm _ _ _ _; first | refine Zbi ?_ | refine Zpp hN rfl rfl rfl ?_ | refine ZdK ?_ ?_ ?_ | refine ZaP rfl ?_ | refine ZeD PassesOwn.never rfl (fun _ => rfl) ?_ ?_ ?_ | refine Zcw PassesOwn.never ?_ ?_ | refine ZsB hN rfl rfl ?_ | refine Zc3 (fun _ => rfl) rfl rfl rfl ?_ ?_ ?_ | refine sm_asg rfl rfl rfl ?_ ?_ | refine sm_sc hN rfl rfl rfl rfl ?_ | exact sm_pass | exact sm_never) | (show Wm _ _ _; first | refine Zgh ?_ ?_ | refine ZjT ?_ ?_ | refine Zei ?_ | refine Zgw ?_) | (show Im _ _ _ _; first | refine im_seq ?_ | refine Ze2 (fun _ _ => rfl) ?_ | refine ZcN T.Zem rfl rfl ?_) | (show Om _ _ _; first | exact Zej | refine Zeh ?_) | (show Fm _ _ _; first | exact Zbw | refine Zge ?_) | exact Zbu hN rfl (.inl rfl) (.inr rfl) | exact ZcV rfl hN rfl (.inl rfl) (.inr rfl) rfl (.inl rfl) (.inr rfl) rfl (.inl rfl) (.inr rfl) | exact tg_two rfl hN rfl (.inl rfl) (.inr rfl) rfl (.inl rfl) (.inr rfl) | exact Zbu hN rfl (.inr rfl) (.inl rfl)) <;> walk_at "v")
set_option hygiene false in
local macro_rules | `(tactic| walk_at "z") => `(tactic| (intro f cdv A outer s H E hr; have hu := Zeo hr; walk_at "v"))
variable {P:Program} {w:World} {K:PySem.W.Frag} {mg:Str→Option Value} {base:Heap} {a:Adr}
abbrev Zex:List Str:=["sign"]
theorem Zet:Zao Zex ["sign"] (Zac ZcE):=by walk_at "s"
def Zeq:GS:=(ZaD (Zbj (Ze7 (fun i j=>decide (i≤j)) (fun a b=>!ZbT b a)) (Ze7 (fun i j=>decide (i≤j)) (fun a b=>!ZbT b a)) (gC (.str "a")) (Zab 0) (gC (.str "z"))))
theorem ZhN {k:Nat} (T:Tx K mg base a):Dn P w K mg base Zex "is_small_letter" ZcE k (Zeq):=by
 have hN:=Zet.nd
 walk_at "z"
abbrev Zh7:List Str:=["names"]
theorem Zie:Zao Zh7 ["names"] (Zac Zfr):=by walk_at "s"
def Zio:GS:=(ZaD (gB (rF Ze9) (Zaa (Zbp (Zhr (Zaa (Zab 0) (Zaa (gSl (Zab 0) (Zbg (gC (.int 1))) Zax) Zag))) 2 (Zk8 0 1) ZfN (Zah (Ze7 (fun i j=>decide (i < j)) ZbT) (Zab 0) (Zab 1))) Zag)))
theorem ZmN {k:Nat} (T:Tx K mg base a):Dn P w K mg base Zh7 "names_rise" Zfr k (Zio):=fun {f cdv A outer s H E} hr =>
 have hu:=Zeo hr
 have hN:=Zie.nd
 (Zas (Zbi (Za9 Zdg (Zb2 rfl) rfl T.Zf8 (by decide) rfl rfl rfl (ZaH rfl (Zdy (Nc:=["one","other"]) rfl (ZrF rfl (by decide +kernel) (by decide +kernel)) (fun _=>rfl) (ZuG T.Zn6 rfl rfl rfl (by walk_at "v")) (Zlr (i:=0) (j:=1) rfl (by decide) rfl rfl rfl rfl) (fun C fp s1 H1=>Zbw) (fun C fp s1 H1=>(by walk_at "v"))) Zbx))))
abbrev Zjf:List Str:=["thing"]
theorem ZmG:Zao Zjf ["thing"] (Zac Zjq):=by walk_at "s"
def ZfF (ZbI:Spw):GS:=(Zar (gIf (gOr (gNt (Zd3 (ZbH "str" (Zab 0)))) (gNt (gTB (Zbj (Ze7 (fun i j=>decide (i≤j)) (fun a b=>!ZbT b a)) (Ze7 (fun i j=>decide (i≤j)) (fun a b=>!ZbT b a)) (gC (.int 1)) (gB (rF Zec) (Zaa (Zab 0) Zag)) (gC (.int 8)))))) (ZaD (gC (.bl false))) Zaq) (ZaD (gB (rF Ze9) (Zaa (Zbp (Zbf (Zab 0)) 1 (gNm 0) ZfN (Zai ZbI XF (Zaa (Zab 0) Zag))) Zag))))
theorem Zqh {k:Nat} (T:Tx K mg base a) {Zb0:Nat} {ZbI:Spw} (Zpz:Df P w K mg base "is_small_letter" Zb0 1 ZbI) (ZpZ:Zb0≤k):Dn P w K mg base Zjf "is_name" Zjq k (ZfF ZbI):=fun {f cdv A outer s H E} hr =>
 have hu:=Zeo hr
 have hN:=ZmG.nd
 (Zaj (by walk_at "v") (Zas (Zbi (Za9 Zdg (Zb2 rfl) rfl T.Zf8 (by decide) rfl rfl rfl (ZaH rfl (Zdy (Nc:=["sign"]) rfl (ZrF rfl (by decide +kernel) (by decide +kernel)) (fun _=>rfl) (by walk_at "v") (ZeT (i:=0) (by decide) rfl rfl) (fun C fp s1 H1=>Zbw) (fun C fp s1 H1=>(by walk_at "v"))) Zbx)))))
abbrev ZkS:List Str:=["thing"]
theorem Zko:Zao ZkS ["thing"] (Zac ZhH):=by walk_at "s"
def ZkT (Zf6:Spw):GS:=(Zar (gIf (gOr (gNt (Zd3 (ZbH "tuple" (Zab 0)))) (gTB (Zah (Zak (eqF true)) (gB (rF Zec) (Zaa (Zab 0) Zag)) (gC (.int 3))))) (ZaD (gC (.bl false))) Zaq) (ZaD (ZbC (Zai Zf6 XF (Zaa (Zah (Zak ixW) (Zab 0) (gC (.int 0))) Zag)) (Zah (Zak (inF false)) (Zah (Zak ixW) (Zab 0) (gC (.int 1))) (gC (.tup [(.str "must"),(.str "may")]))))))
theorem ZpT {k:Nat} (T:Tx K mg base a) {ZhA:Nat} {Zf6:Spw} (ZxR:Df P w K mg base "is_name" ZhA 1 Zf6) (Zyp:ZhA≤k):Dn P w K mg base ZkS "is_field" ZhH k (ZkT Zf6):=by
 have hN:=Zko.nd
 walk_at "z"
abbrev Zih:List Str:=["thing"]
theorem Zh2:Zao Zih ["thing"] (Zac Zfp):=by walk_at "s"
def Zin (ZeR:Spw) (Zdk:Spw):GS:=(Zar (gIf (gNt (Zd3 (ZbH "tuple" (Zab 0)))) (ZaD (gC (.bl false))) Zaq) (ZaD (ZbC (gB (rF Ze9) (Zaa (Zbp (Zbf (Zab 0)) 1 (gNm 0) ZfN (Zai ZeR XF (Zaa (Zab 0) Zag))) Zag)) (Zai Zdk XF (Zaa (Zbp (Zbf (Zab 0)) 1 (gNm 0) ZfN (Zah (Zak ixW) (Zab 0) (gC (.int 0)))) Zag)))))
theorem ZlZ {k:Nat} (T:Tx K mg base a) {Zf7:Nat} {ZeR:Spw} (Zxg:Df P w K mg base "is_field" Zf7 1 ZeR) (Zxh:Zf7≤k) {ZdP:Nat} {Zdk:Spw} (ZmZ:Df P w K mg base "names_rise" ZdP 1 Zdk) (Znb:ZdP≤k):Dn P w K mg base Zih "are_fields" Zfp k (Zin ZeR Zdk):=fun {f cdv A outer s H E} hr =>
 have hu:=Zeo hr
 have hN:=Zh2.nd
 (Zaj (by walk_at "v") (Zas (Zbi (Zfd (Za9 Zdg (Zb2 rfl) rfl T.Zf8 (by decide) rfl rfl rfl (ZaH rfl (Zdy (Nc:=["part"]) rfl (ZrF rfl (by decide +kernel) (by decide +kernel)) (fun _=>rfl) (by walk_at "v") (ZeT (i:=0) (by decide) rfl rfl) (fun C fp s1 H1=>Zbw) (fun C fp s1 H1=>(by walk_at "v"))) Zbx)) (Zfl (ZaA ZmZ (hr.mono Znb) rfl Zg4 rfl rfl rfl (ZaH rfl (Zdy (Nc:=["part"]) rfl (ZrF rfl (by decide +kernel) (by decide +kernel)) (fun _=>rfl) (by walk_at "v") (ZeT (i:=0) (by decide) rfl rfl) (fun C fp s1 H1=>Zbw) (fun C fp s1 H1=>(by walk_at "v"))) Zbx)))))))
local macro_rules | `(tactic| walk_at "rd") => `(tactic| ((try dsimp only [Zar,gIf,ZaD,Za2,ZaT,Zaq,Zab,gC,Zah,gTB,Zd3,gNt,ZfE,gOr,ZbC,Zf0,ZcC,ZgV,L3.ZaI,Zb1,L3.Zaa,L3.Zag,Zai,gB,rF,Zak,ZbH,gMt,Zhp,Zbj,Ze7,ZeA,ZbF,L3.ZdJ,Zcy,gSl,Zbg,Zax,Zbp,Zbf,Zhr,ZaK,ZaU,List.map_cons,List.map_nil,List.length_cons,List.length_nil,List.cons_append,List.nil_append,List.getElem?_cons_zero,List.getElem?_cons_succ,List.set_cons_zero,List.set_cons_succ,List.replicate,ZeM,tyN,Zae,Zbo,Zcj,Zcd,ixW,eqF,eqW,Zec,ZfV,Ze9,Zhy,List.getElem?_nil]); (try simp only [Zar,gIf,ZaD,Za2,ZaT,Zaq,Zab,gC,Zah,gTB,Zd3,gNt,ZfE,gOr,ZbC,Zf0,ZcC,ZgV,L3.ZaI,Zb1,L3.Zaa,L3.Zag,Zai,gB,rF,Zak,ZbH,gMt,Zhp,Zbj,Ze7,ZeA,ZbF,L3.ZdJ,Zcy,gSl,Zbg,Zax,Zbp,Zbf,Zhr,ZaK,ZaU,List.map_cons,List.map_nil,List.length_cons,List.length_nil,List.cons_append,List.nil_append,List.getElem?_cons_zero,List.getElem?_cons_succ,List.set_cons_zero,List.set_cons_succ,List.replicate,ZeM,tyN,Zae,Zbo,Zcj,Zcd,ixW,eqF,eqW,Zec,ZfV,Ze9,Zhy,List.getElem?_nil])))
abbrev ZoF:Spw:=spR (fun (z:Str) ws _=>ws=[.str z]) fun z=>.bl (Zhk z)
theorem Zb0 (T:Tx K mg base a):Df P w K mg base "is_small_letter" 1 1 ZoF:=by
 refine mk0 T.ZhE rfl Zet ZbY ((by rintro ws G Q E ⟨z,e,_⟩;rw [e];rfl)) (ZhN T) fun ws G Q E hC q=>?_
 obtain ⟨z,rfl,q⟩:=q
 unfold Zeq
 walk_at "rd"
 dsimp only at q
 unfold Zhk at q
 refine Zzg (fun h=>?_) (fun h=>?_)
 ·rw [h] at q;simpa using q
 ·rw [Bool.eq_false_iff.mpr h] at q;simpa using q
theorem Zox:∀ ns:List Str,Zkj ns=((ns.zip (ns.drop 1)).map fun x=>ZbT x.1 x.2).all id
 | []=>rfl
 | [_]=>rfl
 | a::b::r=>by
  show (ZbT a b&&Zkj (b::r))=_
  rw [Zox (b::r)];rfl
abbrev Zzq:Spw:=spR (fun (ns:List Str) ws G=>∃ p,ws=[.ref p]∧G p=some (.lst (ns.map W.str))∧ns.length≤1000) fun ns=>.bl (Zkj ns)
def ltW (x y:W):W:=match x,y with | .str a,.str b=>.bl (ZbT a b) | _,_=>.non
theorem ZdP (T:Tx K mg base a):Df P w K mg base "names_rise" 1 1 Zzq:=by
 refine mk0 T.Zm9 rfl Zie ZbY ((by rintro ws G Q E ⟨ns,⟨p,e,_⟩,_⟩;rw [e];rfl)) (ZmN T) fun ws G Q E hC q=>?_
 obtain ⟨ns,⟨p,rfl,hp,hl⟩,q⟩:=q
 unfold Zio
 walk_at "rd"
 refine Zyc hp fun p1 h1=>?_
 have hne:=ZaO hp h1
 have e1:rdL (put G p1 (.lst (ZnG (ns.map W.str) (some 1) none))) (.ref p)=some (ns.map W.str):=Zhs (by rw [Zat hne];exact hp)
 have e2:rdL (put G p1 (.lst (ZnG (ns.map W.str) (some 1) none))) (.ref p1)=some (ZnG (ns.map W.str) (some 1) none):=Zhs Zaf
 simp only [e1,e2]
 rw [ZjW,← List.map_drop,Zhq,List.zip_map,List.map_map]
 have e3:((fun x:W×W=>W.tup [x.1,x.2])∘Prod.map W.str W.str)=(fun x:W×W=>W.tup [x.1,x.2])∘fun x:Str×Str=>(W.str x.1,W.str x.2):=rfl
 rw [e3,← List.map_map]
 refine ZyQ (f:=ltW) ⟨by rw [ZjW,← List.map_drop] at e1;exact e1,by rw [ZjW,← List.map_drop] at e2;exact e2⟩ _ none none [] (fun x hx Q' q'=>?_) ?_ ?_
 ·obtain ⟨y,hy,rfl⟩:=List.mem_map.mp hx
  exact q'
 ·rw [List.length_map,List.length_zip]
  exact Za3 (by simp only [List.length_nil];omega)
 ·intro p2 h2
  rw [List.map_map]
  have e4:((fun x:W×W=>ltW x.1 x.2)∘fun x:Str×Str=>(W.str x.1,W.str x.2))=W.bl∘fun x:Str×Str=>ZbT x.1 x.2:=rfl
  rw [e4,← List.map_map,List.nil_append]
  walk_at "pi"
  rw [← Zox]
  exact hC _ _ _ (ZbV (Zbm h1) h2) q
def ZBr (x:W):W:=match x with | .str z=>.bl (Zhk z) | _=>.non
abbrev Zka:List Str:=["thing"]
theorem ZkJ:Zao Zka ["thing"] (Zac ZhP):=by walk_at "s"
def Zkz (Zdn:Spw):GS:=(Zar (gIf (gOr (gNt (Zd3 (ZbH "tuple" (Zab 0)))) (gOr (gTB (Zah (Zak (eqF false)) (gB (rF Zec) (Zaa (Zab 0) Zag)) (gC (.int 0)))) (gNt (Zd3 (ZbH "str" (Zah (Zak ixW) (Zab 0) (gC (.int 0)))))))) (ZaD (gC (.bl false))) Zaq) (Zar (gIf (gTB (Zah (Zak (eqF true)) (gB (rF Zec) (Zaa (Zab 0) Zag)) (ZcI ZaQ (Zah (Zak ixW) (Zab 0) (gC (.int 0)))))) (ZaD (gC (.bl false))) Zaq) (ZaD (Zf0 (Zah (Zak (eqF true)) (Zah (Zak ixW) (Zab 0) (gC (.int 0))) (gC (.str "row"))) (ZbC (Zai Zdn XF (Zaa (Zah (Zak ixW) (Zab 0) (gC (.int 1))) Zag)) (ZbH "bool" (Zah (Zak ixW) (Zab 0) (gC (.int 2)))))))))
theorem ZpG {k:Nat} (T:Tx K mg base a) {ZdS:Nat} {Zdn:Spw} (ZuT:Df P w K mg base "are_fields" ZdS 1 Zdn) (ZuY:ZdS≤k):Dn P w K mg base Zka "has_form" ZhP k (Zkz Zdn):=by
 have hN:=ZkJ.nd
 walk_at "z"
abbrev Zgl:List Str:=["kind"]
theorem Zgj:Zao Zgl ["kind"] (Zac Zd5):=by walk_at "s"
def Zgq:GS:=(Zar (gIf (gTB (Zah (Zak (eqF false)) (Zah (Zak ixW) (Zab 0) (gC (.int 0))) (gC (.str "row")))) (ZaD (Zbp (Zbf (Zah (Zak ixW) (Zab 0) (gC (.int 1)))) 1 (gNm 0) ZfN (Zah (Zak ixW) (Zab 0) (gC (.int 2))))) Zaq) (ZaD (gB (ZnN) (Zaa (gSl (Zab 0) (Zbg (gC (.int 1))) Zax) Zag))))
theorem ZjP {k:Nat} (T:Tx K mg base a):Dn P w K mg base Zgl "kinds_within" Zd5 k (Zgq):=fun {f cdv A outer s H E} hr =>
 have hu:=Zeo hr
 have hN:=Zgj.nd
 (Zaj (ZdK (by walk_at "v") (Zas (Zbi (Zdy (Nc:=["field"]) rfl (ZrF rfl (by decide +kernel) (by decide +kernel)) (fun _=>rfl) (by walk_at "v") (ZeT (i:=0) (by decide) rfl rfl) (fun C fp s1 H1=>Zbw) (fun C fp s1 H1=>(by walk_at "v"))))) Zco) (by walk_at "v"))
abbrev Zgi:List Str:=["layer","things_within","found","thing"]
theorem ZgE:Zao Zgi ["layer","things_within"] (Zac Zed):=by walk_at "s"
def ZgF (mg:Str→Option Value) (ZaC:Spw):GS:=(Zar (Za2 2 (Zb1 Zag)) (Zar (Ze8 (Zbf (Zab 0)) (gNm 3) (ZaT (gMt Zi7 Zuf (Zab 2) (Zaa (ZeV 1 (fAt mg "kinds_within") ZaC XF (Zaa (Zab 3) Zag)) Zag)))) (ZaD (Zab 2))))
theorem ZjI {k:Nat} (T:Tx K mg base a) {ZaN:Nat} {ZaC:Spw} (Zc0:Df P w K mg base "kinds_within" ZaN 1 ZaC) (Zee:ZaN≤k):Dn P w K mg base Zgi "layer_within" Zed k (ZgF mg ZaC):=fun {f cdv A outer s H E} hr =>
 have hu:=Zeo hr
 have hN:=ZgE.nd
 (Zaj (by walk_at "v") (Zaj (ZeD PassesOwn.never rfl (fun _=>rfl) (by walk_at "v") (by walk_at "v") (Zas (ZaP rfl (ZaS Zbr rfl rfl rfl rfl rfl (by walk_at "v") (ZaH rfl (Zo5 (i:=1) Zc0 (hr.mono Zee) rfl rfl Zg4 rfl rfl rfl rfl (by walk_at "v")) Zbx))))) (by walk_at "v")))
abbrev Zia:List Str:=["thing","is_formed","things_within","most","deepest","layer","count","depth"]
theorem Zh9:Zao Zia ["thing","is_formed","things_within","most","deepest"] (Zac ZdY):=by walk_at "s"
def Zh4 (mg:Str→Option Value) (ZbR:Spw) (Zcs:Spw):GS:=(Zar (Za2 5 (Zb1 (Zaa (Zab 0) Zag))) (Zar (Za2 6 (gC (.int 0))) (Zar (Za2 7 (gC (.int 0))) (Zar (ZoM (gTB (Zah (ZeA fun i j=>decide (j < i)) (gB (rF Zec) (Zaa (Zab 5) Zag)) (gC (.int 0)))) (Zar (Zhp 6 Zcy (gB (rF Zec) (Zaa (Zab 5) Zag))) (Zar (Zhp 7 Zcy (gC (.int 1))) (Zar (gIf (gOr (gTB (Zah (ZeA fun i j=>decide (j < i)) (Zab 6) (Zab 3))) (gTB (Zah (ZeA fun i j=>decide (j < i)) (Zab 7) (Zab 4)))) (ZaD (gC (.bl false))) Zaq) (Zar (gIf (gNt (Zd3 (gB (rF Ze9) (Zaa (Zbk (Zbf (Zab 5)) 1 [1] (gNm 0) ZfN (ZeV 1 (fAt mg "has_form") ZbR XF (Zaa (Zab 0) Zag))) Zag)))) (ZaD (gC (.bl false))) Zaq) (Za2 5 (Zai Zcs XF (Zaa (Zab 5) (Zaa (Zab 2) Zag))))))))) (ZaD (gC (.bl true)))))))
theorem Zne {k:Nat} (T:Tx K mg base a) {Zcf:Nat} {ZbR:Spw} (ZhL:Df P w K mg base "has_form" Zcf 1 ZbR) (Zky:Zcf≤k) {ZcS:Nat} {Zcs:Spw} (Zsz:Df P w K mg base "layer_within" ZcS 2 Zcs) (ZsI:ZcS≤k):Dn P w K mg base Zia "is_made_of" ZdY k (Zh4 mg ZbR Zcs):=fun {f cdv A outer s H E} hr =>
 have hu:=Zeo hr
 have hN:=Zh9.nd
 (Zaj (by walk_at "v") (Zaj (by walk_at "v") (Zaj (by walk_at "v") (Zaj (Zcw PassesOwn.never (by walk_at "v") (Zaj (by walk_at "v") (Zaj (by walk_at "v") (Zaj (by walk_at "v") (Zaj (ZdK (Ze5 (Ze1 (fun _=>rfl) (Za9 Zdg (Zb2 rfl) rfl T.Zf8 (by decide) rfl rfl rfl (ZaH rfl (Zpf rfl (Zxa (own:=["part"]) (fr:=["is_formed"]) (js:=[1]) (scX:=Zac ZdY) (n:=s.heap.objs.size+1) rfl (by decide +kernel) (by decide +kernel) (by decide +kernel) (by decide +kernel) rfl rfl rfl (by decide +kernel) rfl) (fun _=>rfl) (by walk_at "v") (Zg8 (i:=0) (by decide) rfl rfl) (fun C fp s1 H1=>Zbw) (fun C fp s1 H1=>(Zo5 (i:=1) ZhL (hr.mono Zky) rfl rfl Zg4 rfl rfl rfl rfl (by walk_at "v")))) Zbx)))) (by walk_at "v") Zco) (by walk_at "v")))))) (by walk_at "v")))))
abbrev Zmg:List Str:=["thing"]
theorem ZlQ:Zao Zmg ["thing"] (Zac ZiQ):=by walk_at "s"
def Zl5 (mg:Str→Option Value) (ZbR:Spw) (ZaC:Spw) (Zdt:Spw):GS:=(ZaD (Zai Zdt XF (Zaa (Zab 0) (Zaa (gC (.ref (fAt mg "has_form"))) (Zaa (gC (.ref (fAt mg "kinds_within"))) (Zaa (gC (.int 40)) (Zaa (gC (.int 8)) Zag)))))))
theorem Zsi {k:Nat} (T:Tx K mg base a) {Zcf:Nat} {ZbR:Spw} (ZhL:Df P w K mg base "has_form" Zcf 1 ZbR) (Zky:Zcf≤k) {ZaN:Nat} {ZaC:Spw} (Zc0:Df P w K mg base "kinds_within" ZaN 1 ZaC) (Zee:ZaN≤k) {ZdR:Nat} {Zdt:Spw} (Znm:Df P w K mg base "is_made_of" ZdR 5 Zdt) (Zmr:ZdR≤k):Dn P w K mg base Zmg "is_kind" ZiQ k (Zl5 mg ZbR ZaC Zdt):=fun {f cdv A outer s H E} hr =>
 have hu:=Zeo hr
 have hN:=ZlQ.nd
 (Zas (Zbi (ZaA Znm (hr.mono Zmr) rfl Zg4 rfl rfl rfl (ZaH rfl (by walk_at "v") (ZaH rfl (Zyk ZhL rfl rfl) (ZaH rfl (Zyk Zc0 rfl rfl) (by walk_at "v")))))))
abbrev Zik:List Str:=["thing"]
theorem Ziv:Zao Zik ["thing"] (Zac Zc5):=by walk_at "s"
def Zfa (K:PySem.W.Frag) (a:Adr) (Zf3:Spw) (E:Addr→Hw→Prop):GS:=(gIf (gNt (Zd3 (Zai Zf3 (fun _=>E) (Zaa (Zab 0) Zag)))) (Zsd a.NoKind E (Zaa (gC (.str "this is no kind")) Zag)) Zaq)
theorem Zmn {k:Nat} (T:Tx K mg base a) {Zhz:Nat} {Zf3:Spw} (Zr7:Df P w K mg base "is_kind" Zhz 1 Zf3) (Zrq:Zhz≤k) {f:Addr} {cdv:Value} {A:Around} {outer:List Env} {s:Shared} {H:Hp} {E:XK} (hr:Room k (A.deeper (envOfC "check_kind" (Zac Zc5) s.heap.objs.size f cdv))):Ssm (cxW P w K mg base Zik "check_kind" (Zac Zc5) f cdv A outer s H E) (fun B=>B=H) (ZaZ Zc5) (Zfa K a Zf3 (dnX K H E)) :=
 have hu:=Zeo hr
 have hN:=Ziv.nd
 (Zas (ZdK (Ze5 (Ze1 (fun _=>rfl) (ZaA Zr7 (hr.mono Zrq) rfl Zay rfl rfl rfl (by walk_at "v")))) (Zas (Zub T.Zk1 T.ZfS PySem.F.excBase_ValueError rfl rfl rfl rfl (by walk_at "v"))) Zco))
local macro_rules | `(tactic| walk_at "rd") => `(tactic| ((try dsimp only [Zar,gIf,ZaD,Za2,ZaT,Zaq,Zab,gC,Zah,gTB,Zd3,gNt,ZfE,gOr,ZbC,Zf0,ZcC,ZgV,L3.ZaI,Zb1,L3.Zaa,L3.Zag,Zai,gB,rF,Zak,ZbH,gMt,Zhp,ZpP,Zbj,Ze7,ZeA,ZbF,L3.ZdJ,Zcy,gSl,Zbg,Zax,Zbp,Zbf,Zhr,Zdh,Ze8,ZcI,Zce,ZaK,ZaU,List.map_cons,List.map_nil,List.length_cons,List.length_nil,List.cons_append,List.nil_append,List.getElem?_cons_zero,List.getElem?_cons_succ,List.set_cons_zero,List.set_cons_succ,List.replicate,ZeM,tyN,Zae,Zbo,Zcj,Zcd,ixW,eqF,eqW,Zec,ZfV,Ze9,Zhy,Zke,ZoT,List.getElem?_nil]); (try simp only [Zar,gIf,ZaD,Za2,ZaT,Zaq,Zab,gC,Zah,gTB,Zd3,gNt,ZfE,gOr,ZbC,Zf0,ZcC,ZgV,L3.ZaI,Zb1,L3.Zaa,L3.Zag,Zai,gB,rF,Zak,ZbH,gMt,Zhp,ZpP,Zbj,Ze7,ZeA,ZbF,L3.ZdJ,Zcy,gSl,Zbg,Zax,Zbp,Zbf,Zhr,Zdh,Ze8,ZcI,Zce,ZaK,ZaU,List.map_cons,List.map_nil,List.length_cons,List.length_nil,List.cons_append,List.nil_append,List.getElem?_cons_zero,List.getElem?_cons_succ,List.set_cons_zero,List.set_cons_succ,List.replicate,ZeM,tyN,Zae,Zbo,Zcj,Zcd,ixW,eqF,eqW,Zec,ZfV,Ze9,Zhy,Zke,ZoT,List.getElem?_nil])))
def Zxc:W→Bool
 | .str z=>decide (z.length≤1000)
 | .bl _=>true
 | .tup _=>true
 | _=>false
def nmW:W→Bool
 | .str z=>Zda z
 | _=>false
abbrev ZBO:Spw:=spR (fun (w:W) ws _=>ws=[w]∧Zxc w=true) fun w=>.bl (nmW w)
theorem ZBE:Zr3 "str" "str"=true:=by decide
theorem ZsA:Zr3 "tuple" "tuple"=true:=by decide
theorem ZBt:Zr3 "bool" "str"=false:=by decide
theorem ZBl:Zr3 "tuple" "str"=false:=by decide
theorem ZAv:Zr3 "str" "tuple"=false:=by decide
theorem ZAd:Zr3 "bool" "tuple"=false:=by decide
theorem Zvr {z:Str} {G:Hw} {Q:Kw} (hz:z.length≤100000) (hC:Kw.C Q) (q:Q (.bl (Zda z)) G):ZfF ZoF (ZaK Q) (ZaU Zjf [.str z]) G:=by
 unfold ZfF
 walk_at "rd"
 have hz':z.length≤sizeLine:=Za3 hz
 have b1:Zr3 "str" "str"=true:=by decide
 simp only [b1,hz',if_true,Zae,Bool.not_true,Bool.false_eq_true,if_false]
 unfold Zda at q
 by_cases h1:1≤z.length
 ·by_cases h8:z.length≤8
  ·have d1:(1:Int)≤(z.length:Int):=by omega
   have d8:(z.length:Int)≤8:=by omega
   simp only [d1,d8,decide_true,if_true,Bool.not_true,Bool.false_eq_true,if_false]
   refine Zpw (f:=ZBr) trivial (ZjA z) none [] (fun x hx Q' q'=>?_) ?_ ?_
   ·obtain ⟨c,hc,rfl⟩:=List.mem_map.mp hx
    exact ⟨_,rfl,q'⟩
   ·rw [ZjA,List.length_map]
    exact Za3 (by show 0+z.cps.toList.length≤100000;rw [Nat.zero_add];simpa [Str.length] using hz)
   ·intro p hp
    have e5:(ZjA z).map ZBr=(z.cps.toList.map fun c=>Zhk ⟨#[c]⟩).map W.bl:=by
     unfold ZjA;rw [List.map_map,List.map_map];rfl
    rw [List.nil_append,e5]
    walk_at "pi"
    rw [List.all_map]
    simp only [h1,h8,decide_true,Bool.true_and] at q
    exact hC _ _ _ (Zbm hp) q
  ·have d1:(1:Int)≤(z.length:Int):=by omega
   have d8:¬ (z.length:Int)≤8:=by omega
   simp only [h1,h8,decide_true,decide_false,Bool.true_and,Bool.false_and] at q
   simp only [d1,d8,decide_true,decide_false,if_true,Bool.not_false,Bool.false_eq_true,if_false]
   exact q
 ·have d1:¬ (1:Int)≤(z.length:Int):=by omega
  simp only [h1,decide_false,Bool.false_and] at q
  simp only [d1,decide_false,if_true,Bool.not_false,Bool.false_eq_true,if_false]
  exact q
theorem ZhA (T:Tx K mg base a):Df P w K mg base "is_name" 2 1 ZBO:=by
 refine mk0 T.Zqy rfl ZmG ZbY (fun ws G Q E ⟨z,⟨e,_⟩,_⟩=>by rw [e];rfl) (Zqh T (Zb0 T) (Nat.le_refl _)) fun ws G Q E hC q=>?_
 obtain ⟨w,⟨rfl,hw⟩,q⟩:=q
 dsimp only at q
 cases w with
 | str z =>
  have hz:z.length≤1000:=of_decide_eq_true hw
  exact Zvr (by omega) hC q
 | bl b =>
  unfold ZfF
  walk_at "rd"
  simp only [ZBt,Bool.not_false,if_true]
  exact q
 | tup xs =>
  unfold ZfF
  walk_at "rd"
  simp only [ZBl,Bool.not_false,if_true]
  exact q
 | non=>cases hw
 | int i=>cases hw
 | rol xs=>cases hw
 | ref r=>cases hw
def flB:W→Bool
 | .str _=>true
 | .bl _=>true
 | _=>false
def Zx3:W→Bool
 | .str z=>z=="must"||z=="may"
 | _=>false
theorem ZwA {x:W} (h:flB x=true) (G:Hw):inF false x (.tup [.str "must",.str "may"]) G=some (.bl (Zx3 x)):=by
 cases x with
 | str z =>
  show some (W.bl (inV (.str z) [.str "must",.str "may"]))=some (W.bl (z=="must"||z=="may"))
  have e:inV (.str z) (([("must":Str),"may"]:List Str).map V.str)=([("must":Str),"may"]:List Str).any (·==z):=Zk5 _ _
  refine congrArg (fun b=>some (W.bl b)) (Eq.trans e ?_)
  show (("must":Str)==z||(("may":Str)==z||false))=_
  rw [Bool.or_false,BEq.comm (a:=("must":Str)),BEq.comm (a:=("may":Str))]
 | bl b=>rfl
 | non=>cases h
 | int i=>cases h
 | rol xs=>cases h
 | ref r=>cases h
 | tup xs=>cases h
def okF:W→Bool
 | .str _=>true
 | .bl _=>true
 | .tup xs=>match xs with
  | [x,y,_]=>Zxc x&&flB y
  | _=>true
 | _=>false
def fdF:W→Bool
 | .tup xs=>match xs with
  | [x,y,_]=>nmW x&&Zx3 y
  | _=>false
 | _=>false
abbrev ZCa:Spw:=spR (fun (w:W) ws _=>ws=[w]∧okF w=true) fun w=>.bl (fdF w)
theorem Zf7 (T:Tx K mg base a):Df P w K mg base "is_field" 3 1 ZCa:=by
 refine mk0 T.Zpn rfl Zko ZbY (fun ws G Q E ⟨x,⟨e,_⟩,_⟩=>by rw [e];rfl) (ZpT T (ZhA T) (Nat.le_refl _)) fun ws G Q E hC q=>?_
 obtain ⟨w,⟨rfl,hw⟩,q⟩:=q
 dsimp only at q
 unfold ZkT
 cases w with
 | str z=>walk_at "rd";simp only [ZAv,Bool.not_false,if_true];exact q
 | bl z=>walk_at "rd";simp only [ZAd,Bool.not_false,if_true];exact q
 | non=>cases hw
 | int i=>cases hw
 | rol xs=>cases hw
 | ref r=>cases hw
 | tup xs =>
  rcases xs with _ | ⟨x,_ | ⟨y,_ | ⟨z,_ | ⟨u,r⟩⟩⟩⟩
  ·walk_at "rd";simp only [ZsA,Bool.not_true,Bool.false_eq_true,if_false];exact q
  ·walk_at "rd";simp only [ZsA,Bool.not_true,Bool.false_eq_true,if_false];exact q
  ·walk_at "rd";simp only [ZsA,Bool.not_true,Bool.false_eq_true,if_false];exact q
  ·have hw':(Zxc x&&flB y)=true:=hw
   simp only [Bool.and_eq_true] at hw'
   have q':Q (.bl (nmW x&&Zx3 y)) G:=q
   walk_at "rd";simp only [ZsA,Bool.not_true,Bool.false_eq_true,if_false]
   refine ⟨x,⟨rfl,hw'.1⟩,?_⟩
   dsimp only
   cases hn:nmW x with
   | false=>rw [hn] at q';exact q'
   | true =>
    rw [hn] at q'
    simp only [if_true]
    rw [ZwA hw'.2,Zae]
    exact q'
  ·have e:((((x::y::z::u::r).length:Nat):Int)==3)=false:=by
    rw [beq_eq_false_iff_ne];simp only [List.length_cons];omega
   show Zar _ _ (ZaK Q) [some (.tup (x::y::z::u::r))] G
   simp only [Zar,gIf,gOr,gNt,Zd3,ZbH,gTB,Zah,gB,rF,Zak,Zab,gC,ZaD,L3.Zaa,L3.Zag,List.getElem?_cons_zero,tyN,ZeM,Zec,ZfV,Zae,eqF,eqW,ZsA,e,Option.map_some,Bool.not_true,Bool.false_eq_true,if_false,show (false != true)=true from rfl,if_true]
   exact q
def ZzQ:W→Bool
 | .str _=>true
 | .bl _=>true
 | .tup xs=>decide (xs.length≤1000)&&xs.all okF
 | _=>false
def nmS:W→Str
 | .tup (.str n::_)=>n
 | _=>""
def arF:W→Bool
 | .tup xs=>xs.all fdF&&Zkj (xs.map nmS)
 | _=>false
abbrev ZA0:Spw:=spR (fun (w:W) ws _=>ws=[w]∧ZzQ w=true) fun w=>.bl (arF w)
def Zm5 (x:W):W:=match x with | .tup (n::_)=>n | _=>.non
theorem Zn3 {x:W} (h:fdF x=true):∃ n y z,x=.tup [.str n,y,z]∧Zda n=true:=by
 cases x with
 | tup xs =>
  rcases xs with _ | ⟨x,_ | ⟨y,_ | ⟨z,_ | ⟨u,r⟩⟩⟩⟩ <;> first | (cases h;done) | skip
  have h':(nmW x&&Zx3 y)=true:=h
  walk_at "ph"
  cases x with
  | str n=>exact ⟨n,y,z,rfl,h'.1⟩
  | non=>cases h'.1
  | int i=>cases h'.1
  | rol xs=>cases h'.1
  | ref r=>cases h'.1
  | tup xs=>cases h'.1
  | bl xs=>cases h'.1
 | non=>cases h
 | int i=>cases h
 | rol xs=>cases h
 | ref r=>cases h
 | str xs=>cases h
 | bl xs=>cases h
theorem ZqT:∀ {xs:List W},(∀ x∈xs,fdF x=true)→xs.map Zm5=(xs.map nmS).map W.str
 | [],_=>rfl
 | x::xs,h=>by
  obtain ⟨n,y,z,rfl,_⟩:=Zn3 (h x List.mem_cons_self)
  rw [List.map_cons,List.map_cons,List.map_cons,ZqT fun y hy=>h y (List.mem_cons_of_mem _ hy)];rfl
theorem ZdS (T:Tx K mg base a):Df P w K mg base "are_fields" 4 1 ZA0:=by
 refine mk0 T.Znk rfl Zh2 ZbY (fun ws G Q E ⟨x,⟨e,_⟩,_⟩=>by rw [e];rfl) (ZlZ T (Zf7 T) (Nat.le_refl _) (ZdP T) (by omega)) fun ws G Q E hC q=>?_
 obtain ⟨w,⟨rfl,hw⟩,q⟩:=q
 dsimp only at q
 unfold Zin
 cases w with
 | str z=>walk_at "rd";simp only [ZAv,Bool.not_false,if_true];exact q
 | bl z=>walk_at "rd";simp only [ZAd,Bool.not_false,if_true];exact q
 | non=>cases hw
 | int i=>cases hw
 | rol xs=>cases hw
 | ref r=>cases hw
 | tup xs =>
  have hw':(decide (xs.length≤1000)&&xs.all okF)=true:=hw
  simp only [Bool.and_eq_true,decide_eq_true_eq,List.all_eq_true] at hw'
  have q':Q (.bl (xs.all fdF&&Zkj (xs.map nmS))) G:=q
  walk_at "rd"
  simp only [ZsA,Bool.not_true,Bool.false_eq_true,if_false]
  refine Zpw (f:=fun x=>.bl (fdF x)) trivial xs none [] (fun x hx Q' q'=>?_) (by simp only [List.length_nil];exact Za3 (by omega)) ?_
  ·exact ⟨x,⟨rfl,hw'.2 x hx⟩,q'⟩
  ·intro p hp
   rw [List.nil_append,show (fun x:W=>W.bl (fdF x))=W.bl∘fdF from rfl,← List.map_map]
   walk_at "pi"
   rw [List.all_map,show (id∘fdF)=fdF from rfl]
   cases ha:xs.all fdF with
   | false=>rw [ha] at q';exact hC _ _ _ (Zbm hp) q'
   | true =>
    rw [ha] at q'
    have ha':=List.all_eq_true.mp ha
    simp only [if_true]
    refine Zpw (f:=Zm5) trivial xs none [] (fun x hx Q' q'=>?_) (by simp only [List.length_nil];exact Za3 (by omega)) ?_
    ·obtain ⟨n,y,z,rfl,_⟩:=Zn3 (ha' x hx)
     show Zah (Zak ixW) (Zab 0) (gC (.int 0)) [some (W.tup [.str n,y,z])] _ Q'
     walk_at "rd"
     exact q'
    ·intro p2 hp2
     rw [List.nil_append,ZqT ha']
     refine ⟨xs.map nmS,⟨p2,rfl,Zaf,by rw [List.length_map];omega⟩,?_⟩
     exact hC _ _ _ (ZbV (Zbm hp) hp2) q'
def ZiB (n:Nat):W→Bool
 | .int i=>(n:Int)==i
 | _=>false
theorem ZyY (D:List (Str×Int)) (h:Str) (n:Nat) (G:Hw):eqF true (.int (n:Int)) (ZdL D h) G=some (.bl (!ZiB n (ZdL D h))):=by
 induction D with
 | nil=>rfl
 | cons x D ih =>
  obtain ⟨y,i⟩:=x
  unfold ZdL
  by_cases e:h=y
  ·rw [if_pos e]
   show some (W.bl (((n:Int)==i) != true))=_
   rw [ZvU];rfl
  ·rw [if_neg e];exact ih
def ZzR:W→Bool
 | .bl _=>true
 | _=>false
def rwF:List W→Bool
 | [f,o]=>arF f&&ZzR o
 | _=>false
def Zw6:List W→Bool
 | [f,o]=>ZzQ f&&Zxc o
 | _=>true
def hF:W→Bool
 | .tup (.str h::r)=>ZiB (r.length+1) (ZdL ZaQ h)&&(h != "row"||rwF r)
 | _=>false
def okL:W→Bool
 | .str _=>true
 | .bl _=>true
 | .tup []=>true
 | .tup (.str h::r)=>decide (r.length≤1000)&&(h != "row"||Zw6 r)
 | .tup (.bl _::r)=>true
 | .tup (.tup _::r)=>true
 | _=>false
abbrev ZB1:Spw:=spR (fun (w:W) ws _=>ws=[w]∧okL w=true) fun w=>.bl (hF w)
theorem ZwU:ZdL ZaQ "row"=.int 3:=by kernel_rfl
theorem Zn7 {r:List W} (h:ZiB (r.length+1) (ZdL ZaQ "row")=true):∃ f o,r=[f,o]:=by
 rw [ZwU] at h
 have h':((r.length+1:Nat):Int)=3:=eq_of_beq h
 rcases r with _ | ⟨x,_ | ⟨y,_ | ⟨z,r⟩⟩⟩
 ·simp at h'
 ·simp at h'
 ·exact ⟨x,y,rfl⟩
 ·simp only [List.length_cons] at h';omega
theorem Zcf (T:Tx K mg base a):Df P w K mg base "has_form" 5 1 ZB1:=by
 refine mk0 T.ZpF rfl ZkJ ZbY (fun ws G Q E ⟨x,⟨e,_⟩,_⟩=>by rw [e];rfl) (ZpG T (ZdS T) (Nat.le_refl _)) fun ws G Q E hC q=>?_
 obtain ⟨w,⟨rfl,hw⟩,q⟩:=q
 dsimp only at q
 unfold Zkz
 cases w with
 | str z=>walk_at "rd";simp only [ZAv,Bool.not_false,if_true];exact q
 | bl z=>walk_at "rd";simp only [ZAd,Bool.not_false,if_true];exact q
 | non=>cases hw
 | int i=>cases hw
 | rol xs=>cases hw
 | ref r=>cases hw
 | tup xs =>
  cases xs with
  | nil=>walk_at "rd";simp only [ZsA,Bool.not_true,Bool.false_eq_true,if_false];exact q
  | cons x r =>
   have e0:((((x::r).length:Nat):Int)==0)=false:=by rw [beq_eq_false_iff_ne];simp only [List.length_cons];omega
   cases x with
   | non=>cases hw
   | int i=>cases hw
   | rol xs=>cases hw
   | ref r=>cases hw
   | bl b =>
    show Zar _ _ (ZaK Q) [some (.tup (.bl b::r))] G
    simp only [Zar,gIf,gOr,gNt,Zd3,ZbH,gTB,Zah,gB,rF,Zak,Zab,gC,ZaD,L3.Zaa,L3.Zag,List.getElem?_cons_zero,tyN,ZeM,Zec,ZfV,Zae,eqF,eqW,ZsA,e0,Option.map_some,Bool.not_true,Bool.false_eq_true,if_false,show (false != false)=false from rfl,ixW,Zbo,ZBt,Bool.not_false,if_true]
    exact q
   | tup b =>
    show Zar _ _ (ZaK Q) [some (.tup (.tup b::r))] G
    simp only [Zar,gIf,gOr,gNt,Zd3,ZbH,gTB,Zah,gB,rF,Zak,Zab,gC,ZaD,L3.Zaa,L3.Zag,List.getElem?_cons_zero,tyN,ZeM,Zec,ZfV,Zae,eqF,eqW,ZsA,e0,Option.map_some,Bool.not_true,Bool.false_eq_true,if_false,show (false != false)=false from rfl,ixW,Zbo,ZBl,Bool.not_false,if_true]
    exact q
   | str h =>
    have hw':(decide (r.length≤1000)&&(h != "row"||Zw6 r))=true:=hw
    have q':Q (.bl (ZiB (r.length+1) (ZdL ZaQ h)&&(h != "row"||rwF r))) G:=q
    have el:=ZyY ZaQ h (r.length+1) G
    show Zar _ _ (ZaK Q) [some (.tup (.str h::r))] G
    simp only [Zar,gIf,gOr,gNt,Zd3,ZbH,gTB,Zah,gB,rF,Zak,Zab,gC,ZaD,Zaq,L3.Zaa,L3.Zag,List.getElem?_cons_zero,tyN,ZeM,Zec,ZfV,Zae,ZsA,Bool.not_true,Bool.false_eq_true,if_false,ixW,Zbo,ZBE,ZcI]
    rw [show eqF false (.int (((W.str h::r).length:Nat):Int)) (.int 0) G=some (.bl false) by
     show some (W.bl (((((W.str h::r).length:Nat):Int)==0) != false))=_
     rw [e0];rfl,Zae]
    walk_at "py"
    rw [show ((W.str h::r).length:Nat)=r.length+1 from rfl,el,Zae]
    cases hl:ZiB (r.length+1) (ZdL ZaQ h) with
    | false=>rw [hl] at q';exact q'
    | true =>
     rw [hl] at q'
     simp only [Bool.not_true,Bool.false_eq_true,if_false,Zf0,ZbC,Zah,Zak,Zab,gC,List.getElem?_cons_zero,ixW,Zbo,Zae,eqF,eqW,Option.map_some,ZvU]
     cases hr:(h=="row") with
     | false =>
      have:(h != "row")=true:=by show (!(h=="row"))=true;rw [hr];rfl
      rw [this] at q'
      exact q'
     | true =>
      obtain rfl:=eq_of_beq hr
      obtain ⟨f,o,rfl⟩:=Zn7 hl
      have hk:(ZzQ f&&Zxc o)=true:=by simpa [Zw6] using hw'
      simp only [Bool.and_eq_true] at hk
      have q2:Q (.bl (arF f&&ZzR o)) G:=by simpa [rwF] using q'
      simp only [ZeM,Bool.not_true,Bool.false_eq_true,if_false,Zai,L3.Zaa,L3.Zag,Zah,Zak,Zab,gC,List.getElem?_cons_zero,ixW,Zcj,Zcd,Zae,ZbH]
      refine ⟨f,⟨rfl,hk.1⟩,?_⟩
      dsimp only
      cases hf:arF f with
      | false=>rw [hf] at q2;exact q2
      | true =>
       rw [hf] at q2
       simp only [ZeM,if_true]
       cases o with
       | bl b=>exact q2
       | str b=>exact q2
       | tup b=>exact q2
       | non=>cases hk.2
       | int i=>cases hk.2
       | rol xs=>cases hk.2
       | ref r=>cases hk.2
local macro_rules | `(tactic| walk_at "rd") => `(tactic| ((try dsimp only [Zar,gIf,ZaD,Za2,ZaT,Zaq,Zab,gC,Zah,gTB,Zd3,gNt,ZfE,gOr,ZbC,Zf0,ZcC,ZgV,L3.ZaI,Zb1,L3.Zaa,L3.Zag,Zai,gB,rF,Zak,ZbH,gMt,Zhp,ZpP,Zbj,Ze7,ZeA,ZbF,L3.ZdJ,Zcy,gSl,Zbg,Zax,Zbp,Zbf,Zhr,Zdh,Ze8,ZcI,Zce,ZeV,Zbk,Zg3,ZaK,ZaU,List.map_cons,List.map_nil,List.length_cons,List.length_nil,List.cons_append,List.nil_append,List.getElem?_cons_zero,List.getElem?_cons_succ,List.set_cons_zero,List.set_cons_succ,List.replicate,ZeM,tyN,Zae,Zbo,Zcj,Zcd,ixW,eqF,eqW,Zec,ZfV,Ze9,Zhy,Zke,ZoT,List.getElem?_nil]); (try simp only [Zar,gIf,ZaD,Za2,ZaT,Zaq,Zab,gC,Zah,gTB,Zd3,gNt,ZfE,gOr,ZbC,Zf0,ZcC,ZgV,L3.ZaI,Zb1,L3.Zaa,L3.Zag,Zai,gB,rF,Zak,ZbH,gMt,Zhp,ZpP,Zbj,Ze7,ZeA,ZbF,L3.ZdJ,Zcy,gSl,Zbg,Zax,Zbp,Zbf,Zhr,Zdh,Ze8,ZcI,Zce,ZeV,Zbk,Zg3,ZaK,ZaU,List.map_cons,List.map_nil,List.length_cons,List.length_nil,List.cons_append,List.nil_append,List.getElem?_cons_zero,List.getElem?_cons_succ,List.set_cons_zero,List.set_cons_succ,List.replicate,ZeM,tyN,Zae,Zbo,Zcj,Zcd,ixW,eqF,eqW,Zec,ZfV,Ze9,Zhy,Zke,ZoT,List.getElem?_nil])))
def Zfe (x:W):W:=match x with | .tup [_,_,k]=>k | _=>.non
def Zc8:W→List W
 | .tup (.str h::r)=>if h="row" then (match r with | .tup fs::_=>fs.map Zfe | _=>[]) else r
 | _=>[]
theorem Zuv {w:W} (h:hF w=true):∃ t r,w=.tup (.str t::r)∧ZiB (r.length+1) (ZdL ZaQ t)=true∧(t="row"→rwF r=true):=by
 unfold hF at h
 split at h
 ·rename_i t r
  simp only [Bool.and_eq_true] at h
  refine ⟨t,r,rfl,h.1,fun e=>?_⟩
  subst e
  simpa using h.2
 ·cases h
theorem ZqY {f:W} (h:arF f=true):∃ fs,f=.tup fs∧∀ x∈fs,fdF x=true:=by
 unfold arF at h
 split at h
 ·rename_i xs
  simp only [Bool.and_eq_true,List.all_eq_true] at h
  exact ⟨xs,rfl,h.1⟩
 ·cases h
theorem Zqf {w:W} (h:hF w=true) (ho:okL w=true):(Zc8 w).length≤1000:=by
 obtain ⟨t,r,rfl,hl,hr⟩:=Zuv h
 have ho':(decide (r.length≤1000)&&(t != "row"||Zw6 r))=true:=ho
 simp only [Bool.and_eq_true,decide_eq_true_eq] at ho'
 show (if t="row" then _ else r).length≤1000
 by_cases e:t="row"
 ·rw [if_pos e]
  subst e
  obtain ⟨f,o,rfl⟩:=Zn7 hl
  have hr':(arF f&&ZzR o)=true:=hr rfl
  simp only [Bool.and_eq_true] at hr'
  obtain ⟨fs,rfl,_⟩:=ZqY hr'.1
  have hk:(ZzQ (.tup fs)&&Zxc o)=true:=by simpa [Zw6] using ho'.2
  simp only [Bool.and_eq_true] at hk
  have hk':(decide (fs.length≤1000)&&fs.all okF)=true:=hk.1
  simp only [Bool.and_eq_true,decide_eq_true_eq] at hk'
  show (fs.map Zfe).length≤1000
  rw [List.length_map];exact hk'.1
 ·rw [if_neg e];exact ho'.1
abbrev ZBp:Spw:=spL (fun (w:W) ws _=>ws=[w]∧hF w=true∧okL w=true) Zc8
theorem ZaN (T:Tx K mg base a):Df P w K mg base "kinds_within" 1 1 ZBp:=by
 refine mk0 T.ZjK rfl Zgj Zrl (fun ws G Q E ⟨x,⟨e,_⟩,_⟩=>by rw [e];rfl) (ZjP T) fun ws G Q E hC q=>?_
 obtain ⟨w,⟨rfl,hf,ho⟩,q⟩:=q
 have hkl:=Zqf hf ho
 obtain ⟨t,r,rfl,hl,hr⟩:=Zuv hf
 unfold Zgq
 by_cases e:t="row"
 ·subst e
  obtain ⟨f,o,rfl⟩:=Zn7 hl
  have hr':(arF f&&ZzR o)=true:=hr rfl
  simp only [Bool.and_eq_true] at hr'
  obtain ⟨fs,rfl,hfs⟩:=ZqY hr'.1
  have hkl':fs.length≤1000:=by
   have:(fs.map Zfe).length≤1000:=hkl
   rwa [List.length_map] at this
  walk_at "rd"
  refine Zpw (f:=Zfe) trivial fs none [] (fun x hx Q' q'=>?_) (by simp only [List.length_nil];exact Za3 (by omega)) ?_
  ·obtain ⟨n,b,k,rfl,_⟩:=Zn3 (hfs x hx)
   show Zah (Zak ixW) (Zab 0) (gC (.int 2)) [some (W.tup [.str n,b,k])] _ Q'
   walk_at "rd"
   exact q'
  ·rw [List.nil_append]
   exact q
 ·have e1:(t=="row")=false:=by simpa using e
  have ek:Zc8 (.tup (.str t::r))=r:=if_neg e
  rw [ek] at q
  simp only [Zar,gIf,gTB,Zah,Zak,Zab,gC,ZaU,List.map_cons,List.map_nil,List.length_cons,List.length_nil,List.cons_append,List.nil_append,List.replicate,List.getElem?_cons_zero,ixW,Zbo,Zae,eqF,eqW,e1,Option.map_some,show (false != false)=false from rfl,Bool.false_eq_true,if_false,Zaq]
  walk_at "rd"
  refine ⟨ZrX _ _,?_⟩
  show ZnN [.tup (ZnG (.str t::r) (some 1) none)] G Q
  rw [ZjW]
  exact q
theorem ZuS {G:Hw} {p r:Addr} {xs zs:List W} {Q:Kw} (hp:G p=some (.lst xs)) (hr:G r=some (.lst zs)) (hl:xs.length+zs.length≤sizeLine) (q:Q .non (put G p (.lst (xs++zs)))):Zuf (.ref p) [.ref r] G Q:=by
 unfold Zuf
 refine Znw hp ?_ q
 rw [Zdc hr,Option.bind_some,if_pos hl]
theorem ZiM {G:Hw} {p:Addr} {xs:List W} (h:G p=some (.lst xs)):Zi7 (.ref p) G:=⟨xs,Zdc h⟩
abbrev Zwo (mg:Str→Option Value):Spw:=spL (fun (l:List W) ws G=>∃ p,ws=[.ref p,.ref (fAt mg "kinds_within")]∧G p=some (.lst l)∧l.length≤40∧∀ x∈l,hF x=true∧okL x=true) fun l=>l.flatMap Zc8
theorem Zpa {D:Ew} {p q0 fw:Addr} {items:List W}:∀ (l:List W) (o:Option W) (k0:W) (G:Hw) (acc:List W),acc.length+1000*l.length≤90000→(∀ x∈l,hF x=true∧okL x=true)→p≠q0→G p=some (.lst acc)→G q0=some (.lst items) →
  (∀ ω G',(∃ o',ω=[some k0,some (.ref fw),some (.ref p),o'])→G' p=some (.lst (acc++l.flatMap Zc8))→(∀ b,b≠p→∀ u,G b=some u→G' b=some u)→D.nx ω G') →
  Zev (holds q0 items) (gNm 3) (ZaT (gMt Zi7 Zuf (Zab 2) (L3.Zaa (ZeV 1 fw ZBp XF (L3.Zaa (Zab 3) L3.Zag)) L3.Zag))) D l [some k0,some (.ref fw),some (.ref p),o] G
 | [],o,k0,G,acc,_,_,hne,hp,hq,fin=>⟨hq,fin _ G ⟨o,rfl⟩ (by simpa using hp) fun _ _ _ h=>h⟩
 | c::l,o,k0,G,acc,hl,hx,hne,hp,hq,fin=>by
  have hc:=hx c List.mem_cons_self
  have hk:=Zqf hc.1 hc.2
  have hll:acc.length+1000*(l.length+1)≤90000:=hl
  refine ⟨hq,?_⟩
  show ZaT _ _ [some k0,some (.ref fw),some (.ref p),some c] G
  walk_at "rd"
  refine ⟨ZiM hp,trivial,c,⟨rfl,hc⟩,fun r hr=>?_⟩
  have hpr:=ZaO hp hr
  have hqr:=ZaO hq hr
  refine ZuS (by rw [Zat hpr];exact hp) Zaf (Za3 (by omega)) ?_
  refine Zpa l (some c) k0 _ (acc++Zc8 c) (by rw [List.length_append];omega) (fun y hy=>hx y (List.mem_cons_of_mem _ hy)) hne Zaf ?_ ?_
  ·rw [Zat (Ne.symm hne),Zat hqr];exact hq
  ·intro ω G' hω h1 h2
   refine fin ω G' hω (by rw [h1,List.flatMap_cons,List.append_assoc]) fun b hb u hu=>h2 b hb u ?_
   rw [Zat hb,Zat (ZaO hu hr)];exact hu
theorem ZcS (T:Tx K mg base a):Df P w K mg base "layer_within" 2 2 (Zwo mg):=by
 refine mk0 T.ZjL rfl ZgE Zrl (fun ws G Q E ⟨x,⟨p,e,_⟩,_⟩=>by rw [e];rfl) (ZjI T (ZaN T) (by omega)) fun ws G Q E hC q=>?_
 obtain ⟨l,⟨q0,rfl,hq,hl,hx⟩,q⟩:=q
 unfold ZgF
 walk_at "rd"
 refine ⟨by decide,fun p hp=>?_⟩
 have hne:p≠q0:=Ne.symm (ZaO hq hp)
 have hq':put G p (.lst []) q0=some (.lst l):=by rw [Zat (Ne.symm hne)];exact hq
 simp only [hq']
 refine Zpa l none (.ref q0) _ [] (by simp only [List.length_nil];omega) hx hne Zaf hq' ?_
 intro ω G' hω h1 h2
 obtain ⟨o',rfl⟩:=hω
 simp only [List.getElem?_cons_zero,List.getElem?_cons_succ]
 rw [List.nil_append] at h1
 have hs:Sub (put G p (.lst (l.flatMap Zc8))) G':=fun b u hu=>by
  by_cases hb:b=p
  ·subst hb
   rw [Zaf] at hu;cases hu
   exact h1
  ·rw [Zat hb] at hu
   exact h2 b hb u (by rw [Zat hb];exact hu)
 exact hC _ _ _ hs (q p hp)
def OKW:Nat→W→Prop
 | 0,w=>okL w=true
 | n+1,w=>okL w=true∧(hF w=true→∀ c∈Zc8 w,OKW n c)
theorem OKW.ok:∀ {n:Nat} {w:W},OKW n w→okL w=true
 | 0,_,h=>h
 | _+1,_,h=>h.1
def mdW:Nat→Nat→List W→Bool
 | _,_,[]=>true
 | 0,_,_::_=>false
 | n+1,c,x::l=>if 40 < c+(x::l).length then false else if (x::l).all hF then mdW n (c+(x::l).length) ((x::l).flatMap Zc8) else false
def isK (w:W):Bool:=mdW 8 0 [w]
theorem ZsL {α:Type} {enc f:α→W} {gd:Hw→Prop} {ge:GE} {R:List W→Hw→Prop} {G:Hw} {cst:Sw} (hgd:gd G):∀ (l:List α) (o:Option W) (ys:List W),(∀ x∈l,∀ Q:Kw,Q (f x) G→ge (some (enc x)::cst) G Q) →
  ys.length+l.length≤sizeLine→R (ys++l.map f) G→ZbD gd (gNm 0) ZfN ge R (l.map enc) (o::cst) G ys
 | [],o,ys,_,_,r=>⟨hgd,by simpa using r⟩
 | x::l,o,ys,h,hl,r=>by
  walk_at "pn"
  show ge (some (enc x)::cst) G fun y G3=>ZbD gd (gNm 0) ZfN ge R (l.map enc) (some (enc x)::cst) G3 (ys++[y])
  refine h x List.mem_cons_self _ (ZsL hgd l (some (enc x)) (ys++[f x]) (fun y hy=>h y (List.mem_cons_of_mem _ hy)) ?_ ?_)
  ·simp only [List.length_append,List.length_cons,List.length_nil] at hl ⊢;omega
  ·simpa [List.append_assoc] using r
abbrev Zzo (mg:Str→Option Value):Spw:=spR (fun (w:W) ws _=>ws=[w,.ref (fAt mg "has_form"),.ref (fAt mg "kinds_within"),.int 40,.int 8]∧OKW 7 w) fun w=>.bl (isK w)
theorem ZdR (T:Tx K mg base a):Df P w K mg base "is_made_of" 6 5 (Zzo mg):=by
 refine mk0 T.ZlV rfl Zh9 ZbY (fun ws G Q E ⟨x,⟨e,_⟩,_⟩=>by rw [e];rfl) (Zne T (Zcf T) (Nat.le_refl _) (ZcS T) (by omega)) fun ws G Q E hC q=>?_
 obtain ⟨k,⟨rfl,ho⟩,q⟩:=q
 dsimp only at q
 unfold Zh4
 walk_at "rd"
 refine ⟨by decide,fun p hp=>?_⟩
 refine ⟨fun m ω G'=>∃ (l:List W) (p:Addr) (c d:Nat),ω=[some k,some (.ref (fAt mg "has_form")),some (.ref (fAt mg "kinds_within")),some (.int 40),some (.int 8),some (.ref p),some (.int c),some (.int d)]∧G' p=some (.lst l)∧Sub G G'∧mdW (8 - d) c l=isK k∧(d≤7→∀ x∈l,OKW (7 - d) x)∧c≤40∧d≤8∧m=9 - d,⟨9,[k],p,0,0,rfl,Zaf,Zbm hp,rfl,?_,by omega,by omega,rfl⟩,?_⟩
 ·intro _ x hx;rw [List.mem_singleton.mp hx];exact ho
 rintro m ω G1 ⟨l,p,c,d,rfl,hl,hs,e1,hok,h40,h8,rfl⟩
 walk_at "rd"
 simp only [hl,Zae]
 cases l with
 | nil =>
  have d0:¬ ((0:Int) < ((([]:List W).length:Nat):Int)):=by simp
  simp only [d0,decide_false,Bool.false_eq_true,if_false]
  have hg:isK k=true:=by rw [← e1];cases (8 - d) <;> rfl
  rw [hg] at q
  exact hC _ _ _ hs q
 | cons x l =>
  have d0:(0:Int) < (((x::l).length:Nat):Int):=by simp only [List.length_cons];omega
  simp only [d0,decide_true,if_true,hl,Zae]
  have b40:decide ((40:Int) < (c:Int)+(((x::l).length:Nat):Int))=decide (40 < c+(x::l).length):=by
   rw [decide_eq_decide];omega
  have b8:decide ((8:Int) < (d:Int)+1)=decide (8 < d+1):=by
   rw [decide_eq_decide];omega
  rw [b40,b8]
  by_cases g8:8 < d+1
  ·have hg:isK k=false:=by
    rw [← e1,show 8 - d=0 by omega];rfl
   rw [hg] at q
   by_cases g40:40 < c+(x::l).length
   ·simp only [g40,decide_true,if_true]
    exact hC _ _ _ hs q
   ·simp only [g40,g8,decide_true,decide_false,if_true,Bool.false_eq_true,if_false]
    exact hC _ _ _ hs q
  ·have em:mdW (8 - d) c (x::l)=if 40 < c+(x::l).length then false else if (x::l).all hF then mdW (8 - (d+1)) (c+(x::l).length) ((x::l).flatMap Zc8) else false:=by
    rw [show 8 - d=(8 - (d+1))+1 by omega];rfl
   rw [em] at e1
   by_cases g40:40 < c+(x::l).length
   ·rw [if_pos g40] at e1
    rw [← e1] at q
    simp only [g40,decide_true,if_true]
    exact hC _ _ _ hs q
   ·rw [if_neg g40] at e1
    simp only [g40,g8,decide_false,Bool.false_eq_true,if_false]
    have hok':=hok (by omega)
    have hid:(x::l).map id=x::l:=List.map_id _
    rw [← hid]
    refine ZsL (enc:=id) (f:=fun z=>.bl (hF z)) (cst:=[some (.ref (fAt mg "has_form"))]) (by rw [hid];exact hl) (x::l) none [] (fun z hz Q' q'=>?_) (by exact Za3 (by simp only [List.length_nil];omega)) ?_
    ·exact ⟨rfl,z,⟨rfl,(hok' z hz).ok⟩,q'⟩
    ·intro p1 hp1
     rw [List.nil_append,show (fun z:W=>W.bl (hF z))=W.bl∘hF from rfl,← List.map_map]
     walk_at "pi"
     rw [List.all_map,show (id∘hF)=hF from rfl]
     cases ha:(x::l).all hF with
     | false =>
      rw [ha] at e1
      rw [← e1] at q
      simp only [Bool.not_false,if_true]
      exact hC _ _ _ (ZbV hs hp1) q
     | true =>
      rw [ha,if_pos rfl] at e1
      have ha':=List.all_eq_true.mp ha
      simp only [Bool.not_true,Bool.false_eq_true,if_false]
      refine ⟨x::l,⟨p,rfl,by rw [Zat (ZaO hl hp1)];exact hl,by omega,fun y hy=>⟨ha' y hy,(hok' y hy).ok⟩⟩,fun p2 hp2=>?_⟩
      refine ⟨9 - (d+1),by omega,(x::l).flatMap Zc8,p2,c+(x::l).length,d+1,?_,Zaf,?_,e1,?_,by omega,by omega,rfl⟩
      ·rw [hid];simp only [Int.natCast_add,Int.natCast_one]
      ·exact ZbV (ZbV hs hp1) hp2
      ·intro hd y hy
       obtain ⟨z,hz,hy⟩:=List.mem_flatMap.mp hy
       have hz':=hok' z hz
       rw [show 7 - d=(7 - (d+1))+1 by omega] at hz'
       exact hz'.2 (ha' z hz) y hy
abbrev Zva:Spw:=spR (fun (w:W) ws _=>ws=[w]∧OKW 7 w) fun w=>.bl (isK w)
theorem Zhz (T:Tx K mg base a):Df P w K mg base "is_kind" 7 1 Zva:=by
 refine mk0 T.ZrQ rfl ZlQ ZbY (fun ws G Q E ⟨x,⟨e,_⟩,_⟩=>by rw [e];rfl) (Zsi T (Zcf T) (by omega) (ZaN T) (by omega) (ZdR T) (Nat.le_refl _)) fun ws G Q E hC q=>?_
 obtain ⟨k,⟨rfl,ho⟩,q⟩:=q
 unfold Zl5
 walk_at "rd"
 exact ⟨k,⟨rfl,ho⟩,q⟩
abbrev Zrh (C:Addr):Spw:=fun ws G Q E=>∃ w:W,(ws=[w]∧OKW 7 w)∧(isK w=true→Q .non G)∧(isK w=false→E C G)
theorem ZwS {C:Addr}:Spw.M (Zrh C):=fun ws G Q Q' E E' h h' ⟨k,h1,q1,q2⟩=>⟨k,h1,fun z=>h _ _ (q1 z),fun z=>h' _ _ (q2 z)⟩
theorem Zql {C:Addr}:∀ ws G Q E,Zrh C ws G Q E→ws.length=1:=fun ws G Q E ⟨k,⟨e,_⟩,_⟩=>by rw [e];rfl
theorem Zaz (T:Tx K mg base a):Df P w K mg base "check_kind" 8 1 (Zrh a.NoKind):=by
 refine mkX T.Znj rfl Ziv ZwS Zql (g:=fun E=>Zfa K a Zva E) (Zmn T (Zhz T) (Nat.le_refl _)) fun ws G Q E hC hX q=>?_
 obtain ⟨k,⟨rfl,ho⟩,q1,q2⟩:=q
 unfold Zfa
 walk_at "rd"
 refine ⟨k,⟨rfl,ho⟩,?_⟩
 dsimp only
 cases hg:isK k with
 | true =>
  simp only [Bool.not_true,Bool.false_eq_true,if_false]
  exact q1 hg
 | false =>
  simp only [Bool.not_false,if_true]
  unfold Zsd
  walk_at "rd"
  exact ⟨by decide,q2 hg⟩
local macro_rules | `(tactic| walk_at "rd") => `(tactic| ((try dsimp only [Zar,gIf,ZaD,Za2,ZaT,Zaq,Zab,gC,Zah,gTB,Zd3,gNt,ZfE,gOr,ZbC,Zf0,ZcC,ZgV,L3.ZaI,Zb1,L3.Zaa,L3.Zag,Zai,gB,rF,Zak,ZbH,gMt,Zhp,ZpP,Zbj,Ze7,ZeA,ZbF,L3.ZdJ,Zcy,gSl,Zbg,Zax,Zbp,Zbf,Zhr,Zdh,Ze8,ZcI,Zce,ZaK,ZaU,List.map_cons,List.map_nil,List.length_cons,List.length_nil,List.cons_append,List.nil_append,List.getElem?_cons_zero,List.getElem?_cons_succ,List.set_cons_zero,List.set_cons_succ,List.replicate,ZeM,tyN,Zae,Zbo,Zcj,Zcd,ixW,eqF,eqW,Zec,ZfV,Ze9,Zhy,Zke,ZoT,List.getElem?_nil]); (try simp only [Zar,gIf,ZaD,Za2,ZaT,Zaq,Zab,gC,Zah,gTB,Zd3,gNt,ZfE,gOr,ZbC,Zf0,ZcC,ZgV,L3.ZaI,Zb1,L3.Zaa,L3.Zag,Zai,gB,rF,Zak,ZbH,gMt,Zhp,ZpP,Zbj,Ze7,ZeA,ZbF,L3.ZdJ,Zcy,gSl,Zbg,Zax,Zbp,Zbf,Zhr,Zdh,Ze8,ZcI,Zce,ZaK,ZaU,List.map_cons,List.map_nil,List.length_cons,List.length_nil,List.cons_append,List.nil_append,List.getElem?_cons_zero,List.getElem?_cons_succ,List.set_cons_zero,List.set_cons_succ,List.replicate,ZeM,tyN,Zae,Zbo,Zcj,Zcd,ixW,eqF,eqW,Zec,ZfV,Ze9,Zhy,Zke,ZoT,List.getElem?_nil])))
theorem ZhR {n:Str} (h:Zda n=true):n.length≤8:=by
 unfold Zda at h
 simp only [Bool.and_eq_true,decide_eq_true_eq] at h
 exact h.1.2
theorem ZwX (k:Kd):∃ xs,k.enc=.tup (.str k.hd::xs):=by cases k <;> exact ⟨_,rfl⟩
theorem Zm2:∀ fs:Fs,fs.enc.map Zm5=fs.names.map W.str
 | .nil=>rfl
 | .cons n m k r=>by show W.str n::r.enc.map Zm5=W.str n::r.names.map W.str;rw [Zm2 r]
theorem Ziu:∀ fs:Fs,fs.names.length=fs.enc.length
 | .nil=>rfl
 | .cons n m k r=>by show r.names.length+1=r.enc.length+1;rw [Ziu r]
theorem Zp4 (fs:Fs):fs.enc.length≤fs.cnt:=by rw [ZuB,Zsx];exact ZoN _
theorem Zsv:∀ {fs:Fs} {x:W},x∈fs.enc→∃ n b k,x=.tup [.str n,.str (mark b),k]
 | .nil,x,h=>by cases h
 | .cons n m k r,x,h=>by
  rcases List.mem_cons.mp h with rfl | h
  ·exact ⟨n,m,k.enc,rfl⟩
  ·exact Zsv h
abbrev Zh6:List Str:=["script","k","cell"]
theorem Zh5:Zao Zh6 ["script","k"] (Zac Zfh):=by walk_at "s"
def Zim:GS:=(Zar (Za2 2 (gC (.int 0))) (Zar (gIf (gTB (Zah (Ze7 (fun i j=>decide (i < j)) ZbT) (Zab 1) (gB (rF Zec) (Zaa (Zab 0) Zag)))) (Za2 2 (Zah (Zak ixW) (Zab 0) (Zab 1))) Zaq) (Zar (gIf (gTB (Zah (ZeA fun i j=>decide (j≤i)) (Zab 2) (Zah (ZbF Zvw fun i j=>i ^ j.toNat) (gC (.int 10)) (gC (.int 18))))) (ZaD (Zb1 (Zaa (Zah (ZbF (fun _ _=>True) fun i j=>i - j) (Zab 2) (Zah (ZbF Zvw fun i j=>i ^ j.toNat) (gC (.int 10)) (gC (.int 18)))) (Zaa (gC (.int 1)) Zag)))) Zaq) (ZaD (Zb1 (Zaa (Zah (ZbF (fun _ j=>0 < j) fun i j=>i % j) (Zah (ZdJ) (Zab 2) (Zah (ZbF CMul fun i j=>i*j) (gC (.int 7919)) (Zab 1))) (gC (.int 2147483647))) (Zaa (gC (.int 0)) Zag)))))))
theorem Zno {k:Nat} (T:Tx K mg base a):Dn P w K mg base Zh6 "_law_state" Zfh k (Zim):=by
 have hN:=Zh5.nd
 walk_at "z"
abbrev Zjw:List Str:=["state","many","mixed","found"]
theorem Zjx:Zao Zjw ["state","many"] (Zac ZgQ):=by walk_at "s"
def ZiU:GS:=(Zar (gIf (ZfE (gTB (Zah (Zak (eqF false)) (Zah (Zak ixW) (Zab 0) (gC (.int 1))) (gC (.int 1)))) (gTB (Zah (ZeA fun i j=>decide (j < i)) (Zah (Zak ixW) (Zab 0) (gC (.int 0))) (gC (.int 0))))) (Zar (Za2 3 (Zah (ZbF (fun _ j=>0 < j) fun i j=>i % j) (Zah (Zak ixW) (Zab 0) (gC (.int 0))) (Zab 1))) (Zar (Zce (Zah (ZbF Zxd fun i j=>i / j) (Zah (Zak ixW) (Zab 0) (gC (.int 0))) (Zab 1)) (Zab 0) (gC (.int 0))) (ZaD (Zab 3)))) Zaq) (Zar (Zce (gC (.int 0)) (Zab 0) (gC (.int 1))) (Zar (Zce (Zah (ZbF (fun _ j=>0 < j) fun i j=>i % j) (Zah (ZdJ) (Zah (ZbF CMul fun i j=>i*j) (Zah (Zak ixW) (Zab 0) (gC (.int 0))) (gC (.int 48271))) (gC (.int 69621))) (gC (.int 2147483647))) (Zab 0) (gC (.int 0))) (Zar (Za2 2 (Zah (ZbF (fun _ j=>0 < j) fun i j=>i % j) (Zah (ZdJ) (Zah (ZbF CMul fun i j=>i*j) (Zah (Zak ixW) (Zab 0) (gC (.int 0))) (Zah (Zak ixW) (Zab 0) (gC (.int 0)))) (Zah (ZbF CMul fun i j=>i*j) (gC (.int 16807)) (Zah (Zak ixW) (Zab 0) (gC (.int 0))))) (gC (.int 2147483629)))) (Zar (Za2 2 (Zah (ZbF (fun _ j=>0 < j) fun i j=>i % j) (Zah (ZdJ) (Zah (ZbF CMul fun i j=>i*j) (Zab 2) (Zab 2)) (Zah (ZbF CMul fun i j=>i*j) (gC (.int 39373)) (Zab 2))) (gC (.int 2147483587)))) (ZaD (Zah (ZbF (fun _ j=>0 < j) fun i j=>i % j) (Zah (ZbF Zxd fun i j=>i / j) (Zab 2) (gC (.int 8))) (Zab 1))))))))
theorem ZnM {k:Nat} (T:Tx K mg base a):Dn P w K mg base Zjw "_law_take" ZgQ k (ZiU):=by
 have hN:=Zjx.nd
 walk_at "z"
abbrev ZgR:List Str:=["state","deep","way","fields","name","pick"]
theorem ZgP:Zao ZgR ["state","deep"] (Zac ZgN):=by walk_at "s"
def ZeU (ZaR:Spw) (ZaY:Spw):GS:=(Zar (Za2 2 (Zai ZaR XF (Zaa (Zab 0) (Zaa (Zah (ZdJ) (gC (.int 6)) (Zah (ZbF CMul fun i j=>i*j) (gC (.int 4)) (gB (rF ZoT) (Zaa (Zah (ZeA fun i j=>decide (j < i)) (Zab 1) (gC (.int 0))) Zag)))) Zag)))) (Zar (gIf (gTB (Zah (Ze7 (fun i j=>decide (i < j)) ZbT) (Zab 2) (gC (.int 6)))) (ZaD (Zah (Zak ixW) (Zb1 (Zaa (ZaI (Zaa (gC (.str "any")) Zag)) (Zaa (ZaI (Zaa (gC (.str "num")) Zag)) (Zaa (ZaI (Zaa (gC (.str "truth")) Zag)) Zag)))) (Zah (ZbF Zxd fun i j=>i / j) (Zab 2) (gC (.int 2))))) Zaq) (Zar (gIf (gTB (Zah (Zak (eqF false)) (Zab 2) (gC (.int 6)))) (ZaD (ZaI (Zaa (gC (.str "to")) (Zaa (Zai ZaY XF (Zaa (Zab 0) (Zaa (Zah (ZbF (fun _ _=>True) fun i j=>i - j) (Zab 1) (gC (.int 1))) Zag))) (Zaa (Zai ZaY XF (Zaa (Zab 0) (Zaa (Zah (ZbF (fun _ _=>True) fun i j=>i - j) (Zab 1) (gC (.int 1))) Zag))) Zag))))) Zaq) (Zar (gIf (gTB (Zah (Zak (eqF false)) (Zab 2) (gC (.int 7)))) (ZaD (ZaI (Zaa (gC (.str "box")) (Zaa (Zai ZaY XF (Zaa (Zab 0) (Zaa (Zah (ZbF (fun _ _=>True) fun i j=>i - j) (Zab 1) (gC (.int 1))) Zag))) Zag)))) Zaq) (Zar (Za2 3 (Zb1 Zag)) (Zar (Ze8 (Zbf (Zb1 (Zaa (gC (.str "a")) (Zaa (gC (.str "b")) (Zaa (gC (.str "cc")) Zag))))) (gNm 4) (Zar (Za2 5 (Zai ZaR XF (Zaa (Zab 0) (Zaa (gC (.int 4)) Zag)))) (gIf (gTB (Zah (ZeA fun i j=>decide (j < i)) (Zab 5) (gC (.int 1)))) (ZaT (gMt Zi7 ZuD (Zab 3) (Zaa (ZaI (Zaa (Zab 4) (Zaa (Zah (Zak ixW) (Zb1 (Zaa (gC (.str "must")) (Zaa (gC (.str "may")) Zag))) (Zah (ZbF (fun _ _=>True) fun i j=>i - j) (Zab 5) (gC (.int 2)))) (Zaa (Zai ZaY XF (Zaa (Zab 0) (Zaa (Zah (ZbF (fun _ _=>True) fun i j=>i - j) (Zab 1) (gC (.int 1))) Zag))) Zag)))) Zag))) Zaq))) (ZaD (ZaI (Zaa (gC (.str "row")) (Zaa (gB (rF Zke) (Zaa (Zab 3) Zag)) (Zaa (Zah (Zak (eqF false)) (Zai ZaR XF (Zaa (Zab 0) (Zaa (gC (.int 3)) Zag))) (gC (.int 0))) Zag)))))))))))
theorem Zjb {k:Nat} (T:Tx K mg base a) {Zbz:Nat} {ZaR:Spw} (ZnO:Df P w K mg base "_law_take" Zbz 2 ZaR) (ZnP:Zbz≤k) {ZbO:Nat} {ZaY:Spw} (Znx:Df P w K mg base "_law_kind" ZbO 2 ZaY) (Znt:ZbO≤k):Dn P w K mg base ZgR "_law_kind" ZgN k (ZeU ZaR ZaY):=by
 have hN:=ZgP.nd
 walk_at "z"
theorem Zto {ns:List Int} {k:Int} (h0:0≤k) (h:k < (ns.length:Int)):∃ v:Int,atI (ns.map W.int) k=some (.int v):=by
 have hk:k.toNat < ns.length:=by omega
 have ek:k=((k.toNat:Nat):Int):=by omega
 refine ⟨ns[k.toNat],?_⟩
 have q:atI (ns.map W.int) ((k.toNat:Nat):Int)=some (.int ns[k.toNat]):=Zjv (by rw [List.getElem?_map,List.getElem?_eq_getElem hk] <;> rfl)
 rw [← ek] at q
 exact q
def ZqQ:Spw:=fun ws G Q _=>∃ (ns:List Int) (k:Int),ws=[.rol (ns.map W.int),.int k]∧0≤k∧k≤1000∧∀ p (x y:Int),G p=none→Q (.ref p) (put G p (.lst [.int x,.int y]))
theorem Zrd:Spw.M ZqQ:=(by rintro ws G Q Q' E E' h _ ⟨ns,k,h1,h2,h3,q⟩;exact ⟨ns,k,h1,h2,h3,fun p x y hp=>h _ _ (q p x y hp)⟩)
theorem Zvf:Zvw 10 18:=⟨by decide,by decide,by decide⟩
theorem ZdW (T:Tx K mg base a):Df P w K mg base "_law_state" 1 2 ZqQ:=by
 refine mk0 T.Znd rfl Zh5 Zrd ((by rintro ws G Q E ⟨ns,k,e,_⟩;rw [e];rfl)) (Zno T) fun ws G Q E hC q=>?_
 obtain ⟨ns,k,rfl,h0,h1,q⟩:=q
 unfold Zim
 have fin:∀ x:Int,(Zar (gIf (gTB (Zah (ZeA fun i j=>decide (j≤i)) (Zab 2) (Zah (ZbF Zvw fun i j=>i ^ j.toNat) (gC (.int 10)) (gC (.int 18))))) (ZaD (Zb1 (L3.Zaa (Zah (ZbF (fun _ _=>True) fun i j=>i - j) (Zab 2) (Zah (ZbF Zvw fun i j=>i ^ j.toNat) (gC (.int 10)) (gC (.int 18)))) (L3.Zaa (gC (.int 1)) L3.Zag)))) Zaq) (ZaD (Zb1 (L3.Zaa (Zah (ZbF (fun _ j=>0 < j) fun i j=>i % j) (Zah (L3.ZdJ) (Zab 2) (Zah (ZbF CMul fun i j=>i*j) (gC (.int 7919)) (Zab 1))) (gC (.int 2147483647))) (L3.Zaa (gC (.int 0)) L3.Zag))))) (ZaK Q) [some (.rol (ns.map W.int)),some (.int k),some (.int x)] G:=fun x=>by
  walk_at "rd"
  refine ⟨Zvf,?_⟩
  refine Zzg (fun h=>?_) (fun h=>?_)
  ·exact ⟨Zvf,trivial,by decide,fun p hp=>q p _ _ hp⟩
  ·exact ⟨.inl ⟨by decide,by decide⟩,by decide,by decide,fun p hp=>q p _ _ hp⟩
 show Zar (Za2 2 (gC (.int 0))) (Zar _ _) (ZaK Q) [some (.rol (ns.map W.int)),some (.int k),none] G
 by_cases hk:k < ((ns.map W.int).length:Int)
 ·obtain ⟨v,e⟩:=Zto h0 (by simpa using hk)
  have z:=fin v
  simp only [Zar,Za2,gC,gIf,gTB,Zah,Ze7,gB,rF,Zec,ZfV,L3.Zaa,L3.Zag,Zab,List.getElem?_cons_zero,List.getElem?_cons_succ,List.set_cons_zero,List.set_cons_succ,Zae,hk,decide_true,if_true,Zak,ixW,e] at z ⊢
  exact z
 ·have z:=fin 0
  simp only [Zar,Za2,gC,gIf,gTB,Zah,Ze7,gB,rF,Zec,ZfV,L3.Zaa,L3.Zag,Zab,List.getElem?_cons_zero,List.getElem?_cons_succ,List.set_cons_zero,List.set_cons_succ,Zae,hk,decide_false,Bool.false_eq_true,if_false,Zaq] at z ⊢
  exact z
def Zpc:Spw:=fun ws G Q _=>∃ (s:Addr) (m x y:Int),ws=[.ref s,.int m]∧0 < m∧m < 1073741824∧G s=some (.lst [.int x,.int y])∧∀ r x' y':Int,0≤r→r < m→Q (.int r) (put G s (.lst [.int x',.int y']))
theorem Zs3:Spw.M Zpc:=(by rintro ws G Q Q' E E' h _ ⟨s,m,x,y,h1,h2,h3,h4,q⟩;exact ⟨s,m,x,y,h1,h2,h3,h4,fun r x' y' a b=>h _ _ (q r x' y' a b)⟩)
theorem ZAm (n:Nat):ixN (n+1) 0=some 0:=by unfold ixN;rw [if_pos (Int.le_refl 0),if_pos (by omega)];rfl
theorem ZAH (n:Nat):ixN (n+2) 1=some 1:=by unfold ixN;rw [if_pos (by decide),if_pos (by omega)];rfl
theorem ZqZ {G:Hw} {s:Addr} {x y v:W} {Q:Hw→Prop} (h:G s=some (.lst [x,y])) (q:Q (put G s (.lst [v,y]))):Zj0 (.ref s) (.int 0) v G Q:=Zla h (ZAm 1) q
theorem Zwy {G:Hw} {s:Addr} {x y v:W} {Q:Hw→Prop} (h:G s=some (.lst [x,y])) (q:Q (put G s (.lst [x,v]))):Zj0 (.ref s) (.int 1) v G Q:=Zla h (ZAH 0) q
theorem ix0 {G:Hw} {s:Addr} {x y:W} (h:G s=some (.lst [x,y])):ixW (.ref s) (.int 0) G=some x:=by rw [Zpb h];exact Zbo
theorem ix1 {G:Hw} {s:Addr} {x y:W} (h:G s=some (.lst [x,y])):ixW (.ref s) (.int 1) G=some y:=by rw [Zpb h];exact Zcj
theorem ZqV {x m:Int} (h0:0≤x) (h1:x < m) (hm:m≤2147483647):-(2 ^ 64) < x∧x < 2 ^ 64:=by
 have:(2:Int) ^ 64=18446744073709551616:=by decide
 rw [this];omega
theorem Zbz (T:Tx K mg base a):Df P w K mg base "_law_take" 1 2 Zpc:=by
 refine mk0 T.Zny rfl Zjx Zs3 ((by rintro ws G Q E ⟨s,m,x,y,e,_⟩;rw [e];rfl)) (ZnM T) fun ws G Q E hC q=>?_
 obtain ⟨s,m,x,y,rfl,hm0,hm1,hs,q⟩:=q
 unfold ZiU
 have tail:(Zar (Zce (gC (.int 0)) (Zab 0) (gC (.int 1))) (Zar (Zce (Zah (ZbF (fun _ j=>0 < j) fun i j=>i % j) (Zah (L3.ZdJ) (Zah (ZbF CMul fun i j=>i*j) (Zah (Zak ixW) (Zab 0) (gC (.int 0))) (gC (.int 48271))) (gC (.int 69621))) (gC (.int 2147483647))) (Zab 0) (gC (.int 0))) (Zar (Za2 2 (Zah (ZbF (fun _ j=>0 < j) fun i j=>i % j) (Zah (L3.ZdJ) (Zah (ZbF CMul fun i j=>i*j) (Zah (Zak ixW) (Zab 0) (gC (.int 0))) (Zah (Zak ixW) (Zab 0) (gC (.int 0)))) (Zah (ZbF CMul fun i j=>i*j) (gC (.int 16807)) (Zah (Zak ixW) (Zab 0) (gC (.int 0))))) (gC (.int 2147483629)))) (Zar (Za2 2 (Zah (ZbF (fun _ j=>0 < j) fun i j=>i % j) (Zah (L3.ZdJ) (Zah (ZbF CMul fun i j=>i*j) (Zab 2) (Zab 2)) (Zah (ZbF CMul fun i j=>i*j) (gC (.int 39373)) (Zab 2))) (gC (.int 2147483587)))) (ZaD (Zah (ZbF (fun _ j=>0 < j) fun i j=>i % j) (Zah (ZbF Zxd fun i j=>i / j) (Zab 2) (gC (.int 8))) (Zab 1))))))) (ZaK Q) [some (.ref s),some (.int m),none,none] G:=by
  simp only [Zar,Zce,gC,Zab,List.getElem?_cons_zero,List.getElem?_cons_succ]
  refine Zwy hs ?_
  have h1:put G s (.lst [.int x,.int 0]) s=some (.lst [.int x,.int 0]):=Zaf
  simp only [Zah,ZbF,L3.ZdJ,Zak,gC,Zab,List.getElem?_cons_zero,List.getElem?_cons_succ,ix0 h1,Zae]
  refine ⟨.inr ⟨by decide,by decide⟩,by decide,?_⟩
  refine ZqZ h1 ?_
  rw [Zg0]
  generalize hx2:(x*48271+69621) % 2147483647=x2
  have b0:0≤x2:=by rw [← hx2];exact Int.emod_nonneg _ (by decide)
  have b1:x2 < 2147483647:=by rw [← hx2];exact Int.emod_lt_of_pos _ (by decide)
  have h2:put G s (.lst [.int x2,.int 0]) s=some (.lst [.int x2,.int 0]):=Zaf
  simp only [Za2,Zah,ZbF,L3.ZdJ,Zak,gC,Zab,List.getElem?_cons_zero,List.getElem?_cons_succ,List.set_cons_zero,List.set_cons_succ,ix0 h2,Zae,ZaD,ZaK]
  refine ⟨.inl (ZqV b0 b1 (by decide)),.inl ⟨by decide,by decide⟩,by decide,?_⟩
  generalize hx3:(x2*x2+16807*x2) % 2147483629=x3
  have c0:0≤x3:=by rw [← hx3];exact Int.emod_nonneg _ (by decide)
  have c1:x3 < 2147483629:=by rw [← hx3];exact Int.emod_lt_of_pos _ (by decide)
  refine ⟨.inl (ZqV c0 c1 (by decide)),.inl ⟨by decide,by decide⟩,(show (0:Int) < 2147483587 by decide),?_⟩
  refine ⟨⟨by decide,by decide⟩,hm0,?_⟩
  exact q _ _ _ (Int.emod_nonneg _ (by omega)) (Int.emod_lt_of_pos _ hm0)
 show Zar (gIf _ _ Zaq) _ (ZaK Q) [some (.ref s),some (.int m),none,none] G
 simp only [Zar,gIf,ZfE,gTB,Zah,Zak,ZeA,Zab,gC,List.getElem?_cons_zero,List.getElem?_cons_succ,ix1 hs,ix0 hs,Zae,eqF,eqW,Option.map_some] at tail ⊢
 refine Zzg (fun h=>?_) (fun h=>?_)
 ·refine Zzg (fun h2=>?_) (fun h2=>?_)
  ·simp only [Za2,Zce,Zah,ZbF,Zak,Zab,gC,ZaD,ZaK,List.getElem?_cons_zero,List.getElem?_cons_succ,List.set_cons_zero,List.set_cons_succ,ix0 hs,Zae]
   refine ⟨hm0,?_⟩
   simp only [Zar,Zce,Zah,ZbF,Zak,Zab,gC,ZaD,List.getElem?_cons_zero,List.getElem?_cons_succ,List.set_cons_zero,List.set_cons_succ,ix0 hs,Zae]
   refine ⟨⟨hm0,hm1⟩,?_⟩
   refine ZqZ hs ?_
   exact q _ _ _ (Int.emod_nonneg _ (by omega)) (Int.emod_lt_of_pos _ hm0)
  ·exact tail
 ·walk_at "py"
  exact tail
theorem ZlC {x:Str} {st:Stmt} {ps:List Str} {k:Nat} {sp:Spw} (Fx:Fn K mg st x ps) (m:sp.M) (no:∀ ws G Q E,¬ sp ws G Q E):Df P w K mg base x k ps.length sp:=by
 obtain ⟨f,fd,h1,F,h3⟩:=Fx
 exact ⟨⟨f,fd,_,h1,F.kp,h3,rfl,⟨(by rintro vs H Q E ⟨ws,G,t,r,q⟩;exact absurd q (no _ _ _ _)),(by rintro A outer s H args us vs Q E _ _ _ _ ⟨ws,G,t,r,q⟩;exact absurd q (no _ _ _ _))⟩⟩,m⟩
theorem Zu2 {G:Hw} {p:Addr} {xs:List W} {y:W} {Q:Kw} (hp:G p=some (.lst xs)) (hl:xs.length < sizeLine) (q:Q .non (put G p (.lst (xs++[y])))):ZuD (.ref p) [y] G Q:=by
 unfold ZuD
 refine Znw hp ?_ q
 rw [if_pos hl]
def Nn:Nat→Nat
 | 0=>1
 | n+1=>1+3*Nn n
def abc:List Str:=["a","b","cc"]
mutual
def Kd.abc:Kd→Bool
 | .to x y=>x.abc&&y.abc
 | .box x=>x.abc
 | .row fs _=>fs.abc
 | _=>true
def Fs.abc:Fs→Bool
 | .nil=>true
 | .cons n _ k r=>KL.abc.contains n&&k.abc&&r.abc
end
def gen (n:Nat) (k:Kd):Prop:=k.ok=true∧k.dp≤n+1∧k.cnt≤Nn n∧k.abc=true
theorem Zx4:∀ n,1≤Nn n
 | 0=>Nat.le_refl _
 | n+1=>by show 1≤1+3*Nn n;omega
def ZlL (x:Str×Bool×Kd):W:=.tup [.str x.1,.str (mark x.2.1),x.2.2.enc]
def ofL:List (Str×Bool×Kd)→Fs
 | []=>.nil
 | x::l=>.cons x.1 x.2.1 x.2.2 (ofL l)
theorem ZnF:∀ l,(ofL l).enc=l.map ZlL
 | []=>rfl
 | x::l=>by show ZlL x::(ofL l).enc=ZlL x::l.map ZlL;rw [ZnF l]
theorem ZlP:∀ l,(ofL l).names=l.map (·.1)
 | []=>rfl
 | x::l=>by show x.1::(ofL l).names=x.1::l.map (·.1);rw [ZlP l]
theorem ZuA {n:Nat}:∀ l:List (Str×Bool×Kd),(∀ y∈l,gen n y.2.2)→(ofL l).dp≤n+1
 | [],_=>Nat.zero_le _
 | x::l,h=>by
  have h1:=(h x List.mem_cons_self).2.1
  have h2:=ZuA l fun y hy=>h y (List.mem_cons_of_mem _ hy)
  show max x.2.2.dp (ofL l).dp≤n+1;omega
theorem Zsk {n:Nat}:∀ l:List (Str×Bool×Kd),(∀ y∈l,gen n y.2.2)→(ofL l).cnt≤l.length*Nn n
 | [],_=>Nat.zero_le _
 | x::l,h=>by
  have h1:=(h x List.mem_cons_self).2.2.1
  have h2:=Zsk l fun y hy=>h y (List.mem_cons_of_mem _ hy)
  show x.2.2.cnt+(ofL l).cnt≤(l.length+1)*Nn n
  rw [Nat.add_mul];omega
theorem Zu4 {n:Nat}:∀ l:List (Str×Bool×Kd),(∀ y∈l,gen n y.2.2)→(∀ y∈l,Zda y.1=true)→(ofL l).ok=true
 | [],_,_=>rfl
 | x::l,h,h'=>by
  show (Zda x.1&&x.2.2.ok&&(ofL l).ok)=true
  rw [h' x List.mem_cons_self,(h x List.mem_cons_self).1,Zu4 l (fun y hy=>h y (List.mem_cons_of_mem _ hy)) (fun y hy=>h' y (List.mem_cons_of_mem _ hy))];rfl
theorem ZqH:∀ {ns:List Str},ns.Pairwise (fun x y=>ZbT x y=true)→Zkj ns=true
 | [],_=>rfl
 | [_],_=>rfl
 | x::y::r,h=>by
  show (ZbT x y&&Zkj (y::r))=true
  cases h with
  | cons h1 h2=>rw [h1 y List.mem_cons_self,ZqH h2];rfl
theorem Zyo:abc.Pairwise (fun x y=>ZbT x y=true):=by decide +kernel
theorem Zza:∀ n∈abc,Zda n=true:=by decide +kernel
theorem ZqD {n:Nat}:∀ l:List (Str×Bool×Kd),(∀ y∈l,gen n y.2.2)→(∀ y∈l,y.1∈abc)→(ofL l).abc=true
 | [],_,_=>rfl
 | x::l,h,h'=>by
  show (abc.contains x.1&&x.2.2.abc&&(ofL l).abc)=true
  rw [List.contains_iff_mem.mpr (h' x List.mem_cons_self),(h x List.mem_cons_self).2.2.2,ZqD l (fun y hy=>h y (List.mem_cons_of_mem _ hy)) (fun y hy=>h' y (List.mem_cons_of_mem _ hy))];rfl
theorem Zv0 {n:Nat} {l:List (Str×Bool×Kd)} {o:Bool} (h:(l.map (·.1)).Sublist abc) (hg:∀ y∈l,gen n y.2.2):gen (n+1) (.row (ofL l) o):=by
 have hl:l.length≤3:=by have:=h.length_le;rw [List.length_map] at this;exact this
 refine ⟨?_,?_,?_,ZqD l hg fun y hy=>h.subset (List.mem_map_of_mem hy)⟩
 ·show (Zkj (ofL l).names&&(ofL l).ok)=true
  rw [ZlP,ZqH (Zyo.sublist h),Zu4 l hg fun y hy=>Zza _ (h.subset (List.mem_map_of_mem hy))];rfl
 ·have:=ZuA l hg;show 1+(ofL l).dp≤n+1+1;omega
 ·have h1:=Zsk l hg
  have h2:l.length*Nn n≤3*Nn n:=Nat.mul_le_mul_right _ hl
  show 1+(ofL l).cnt≤1+3*Nn n;omega
theorem ZzP {n:Nat} {x y:Kd} (hx:gen n x) (hy:gen n y):gen (n+1) (.to x y):=by
 refine ⟨?_,?_,?_,by show (x.abc&&y.abc)=true;rw [hx.2.2.2,hy.2.2.2];rfl⟩
 ·show (x.ok&&y.ok)=true;rw [hx.1,hy.1];rfl
 ·have:=hx.2.1;have:=hy.2.1;show 1+max x.dp y.dp≤n+1+1;omega
 ·have:=hx.2.2.1;have:=hy.2.2.1;show 1+(x.cnt+y.cnt)≤1+3*Nn n;omega
theorem ZvJ {n:Nat} {x:Kd} (hx:gen n x):gen (n+1) (.box x):=by
 refine ⟨hx.1,?_,?_,hx.2.2.2⟩
 ·have:=hx.2.1;show 1+x.dp≤n+1+1;omega
 ·have:=hx.2.2.1;show 1+x.cnt≤1+3*Nn n;omega
theorem ZoG {n:Nat} {k:Kd} (h:k=.any∨k=.num∨k=.truth):gen n k:=by
 have:=Zx4 n
 rcases h with rfl | rfl | rfl <;> exact ⟨rfl,Nat.succ_le_succ (Nat.zero_le _),this,rfl⟩
def Zp6 (n:Nat):Spw:=fun ws G Q _=>∃ (s:Addr) (x y:Int),ws=[.ref s,.int n]∧G s=some (.lst [.int x,.int y])∧∀ k x' y',gen n k→Q k.enc (put G s (.lst [.int x',.int y']))
theorem ZrT {n:Nat}:Spw.M (Zp6 n):=(by rintro ws G Q Q' E E' h _ ⟨s,x,y,h1,h2,q⟩;exact ⟨s,x,y,h1,h2,fun k x' y' g=>h _ _ (q k x' y' g)⟩)
theorem Zlq {n:Nat} {D:Ew} {s p q0:Addr} {d:Int} {way:W} {items:List W} (hd:d - 1=(n:Int)):∀ (xs:List Str) (o4 o5:Option W) (G:Hw) (l:List (Str×Bool×Kd)) (x y:Int),G s=some (.lst [.int x,.int y])→G p=some (.lst (l.map ZlL))→G q0=some (.lst items)→p≠s→q0≠s→q0≠p→l.length+xs.length≤100 →
  (∀ ω G' l2 x' y',(∃ u v,ω=[some (.ref s),some (.int d),some way,some (.ref p),u,v])→G' s=some (.lst [.int x',.int y'])→G' p=some (.lst ((l++l2).map ZlL))→(∀ b,b≠s→b≠p→∀ u,G b=some u→G' b=some u)→(l2.map (·.1)).Sublist xs→(∀ z∈l2,gen n z.2.2)→D.nx ω G') →
  Zev (holds q0 items) (gNm 4) (Zar (Za2 5 (Zai Zpc XF (L3.Zaa (Zab 0) (L3.Zaa (gC (.int 4)) L3.Zag)))) (gIf (gTB (Zah (ZeA fun i j=>decide (j < i)) (Zab 5) (gC (.int 1)))) (ZaT (gMt Zi7 ZuD (Zab 3) (L3.Zaa (L3.ZaI (L3.Zaa (Zab 4) (L3.Zaa (Zah (Zak ixW) (Zb1 (L3.Zaa (gC (.str "must")) (L3.Zaa (gC (.str "may")) L3.Zag))) (Zah (ZbF (fun _ _=>True) fun i j=>i - j) (Zab 5) (gC (.int 2)))) (L3.Zaa (Zai (Zp6 n) XF (L3.Zaa (Zab 0) (L3.Zaa (Zah (ZbF (fun _ _=>True) fun i j=>i - j) (Zab 1) (gC (.int 1))) L3.Zag))) L3.Zag)))) L3.Zag))) Zaq)) D (xs.map W.str) [some (.ref s),some (.int d),some way,some (.ref p),o4,o5] G
 | [],o4,o5,G,l,x,y,hs,hp,hq,_,_,_,_,fin=>⟨hq,fin _ G [] x y ⟨o4,o5,rfl⟩ hs (by rw [List.append_nil];exact hp) (fun b _ _ u h=>h) (.refl _) (by intro z hz;cases hz)⟩
 | nm::xs,o4,o5,G,l,x,y,hs,hp,hq,nps,nqs,nqp,hl,fin=>by
  refine ⟨hq,?_⟩
  show Zar _ _ _ [some (.ref s),some (.int d),some way,some (.ref p),some (.str nm),o5] G
  walk_at "rd"
  refine ⟨s,4,x,y,rfl,by decide,by decide,hs,fun r x1 y1 r0 r1=>?_⟩
  have g1s:put G s (.lst [.int x1,.int y1]) s=some (.lst [.int x1,.int y1]):=Zaf
  have g1p:put G s (.lst [.int x1,.int y1]) p=some (.lst (l.map ZlL)):=by rw [Zat nps];exact hp
  have g1q:put G s (.lst [.int x1,.int y1]) q0=some (.lst items):=by rw [Zat nqs];exact hq
  have hlx:l.length+(xs.length+1)≤100:=hl
  refine Zzg (fun h=>?_) (fun h=>?_)
  ·have h1:1 < r:=of_decide_eq_true h
   refine ⟨ZiM g1p,by decide,fun p2 hp2=>?_⟩
   have n2:s≠p2:=ZaO g1s hp2
   have n3:p≠p2:=ZaO g1p hp2
   have n4:q0≠p2:=ZaO g1q hp2
   have mk:∃ b:Bool,atI [W.str "must",W.str "may"] (r - 2)=some (.str (mark b)):=by
    have:r - 2=0∨r - 2=1:=by omega
    rcases this with e | e
    ·exact ⟨true,by rw [e];exact Zbo⟩
    ·exact ⟨false,by rw [e];exact Zcj⟩
   obtain ⟨b,eb⟩:=mk
   refine ⟨trivial,?_⟩
   simp only [Zaf,eb,Zae]
   refine ⟨trivial,s,x1,y1,by rw [hd],by rw [Zat n2];exact g1s,fun k x2 y2 hk=>?_⟩
   refine ⟨(show 3≤sizeLine by decide),?_⟩
   have g3p:put (put (put G s (.lst [.int x1,.int y1])) p2 (.lst [.str "must",.str "may"])) s (.lst [.int x2,.int y2]) p=some (.lst (l.map ZlL)):=by rw [Zat nps,Zat n3];exact g1p
   refine Zu2 g3p (by rw [List.length_map];exact ZsZ (by omega)) ?_
   have ee:l.map ZlL++[W.tup [.str nm,.str (mark b),k.enc]]=(l++[(nm,b,k)]).map ZlL:=by rw [List.map_append];rfl
   rw [ee]
   refine Zlq hd xs _ _ _ (l++[(nm,b,k)]) x2 y2 (by rw [Zat (Ne.symm nps)];exact Zaf) Zaf ?_ nps nqs nqp (by rw [List.length_append];simp only [List.length_cons,List.length_nil];omega) ?_
   ·rw [Zat nqp,Zat nqs,Zat n4];exact g1q
   ·intro ω G' l2 x' y' hω f1 f2 f3 f4 f5
    refine fin ω G' ((nm,b,k)::l2) x' y' hω f1 (by rw [f2,List.append_assoc];rfl) (fun c c1 c2 u hu=>f3 c c1 c2 u ?_) (f4.cons_cons nm) ?_
    ·have hc:put G s (.lst [.int x1,.int y1]) c=some u:=by rw [Zat c1];exact hu
     rw [Zat c2,Zat c1,Zat (ZaO hc hp2)];exact hc
    ·intro z hz
     rcases List.mem_cons.mp hz with rfl | hz
     ·exact hk
     ·exact f5 z hz
  ·refine Zlq hd xs _ _ _ l x1 y1 g1s g1p g1q nps nqs nqp (by omega) ?_
   intro ω G' l2 x' y' hω f1 f2 f3 f4 f5
   exact fin ω G' l2 x' y' hω f1 f2 (fun c c1 c2 u hu=>f3 c c1 c2 u (by rw [Zat c1];exact hu)) (f4.cons nm) f5
def ZzZ:Spw:=fun _ _ _ _=>False
theorem Zuu:Spw.M ZzZ:=fun _ _ _ _ _ _ _ _ q=>q
theorem ZrZ {r:Int} (h0:0≤r) (h6:r < 6):∃ k:Kd,(k=.any∨k=.num∨k=.truth)∧atI [W.tup [.str "any"],W.tup [.str "num"],W.tup [.str "truth"]] (r / 2)=some k.enc:=by
 have:r / 2=0∨r / 2=1∨r / 2=2:=by omega
 rcases this with e | e | e
 ·exact ⟨.any,.inl rfl,by rw [e];exact Zbo⟩
 ·exact ⟨.num,.inr (.inl rfl),by rw [e];exact Zcj⟩
 ·exact ⟨.truth,.inr (.inr rfl),by rw [e];exact Zcd⟩
theorem Zmz (T:Tx K mg base a):Df P w K mg base "_law_kind" 2 2 (Zp6 0):=by
 refine mk0 T.ZgL rfl ZgP ZrT ((by rintro ws G Q E ⟨s,x,y,e,_⟩;rw [e];rfl)) (Zjb T (Zbz T) (Nat.le_refl _) (ZlC (sp:=ZzZ) (k:=0) T.ZgL Zuu fun _ _ _ _ h=>h) (by omega)) fun ws G Q E hC q=>?_
 obtain ⟨s,x,y,rfl,hs,q⟩:=q
 unfold ZeU
 walk_at "rd"
 refine ⟨.inl ⟨by decide,by decide⟩,s,_,x,y,rfl,by decide,by decide,hs,fun r x1 y1 r0 r1=>?_⟩
 have r6:r < 6:=r1
 simp only [r6,decide_true,if_true]
 obtain ⟨k,hk,ek⟩:=ZrZ r0 r6
 refine ⟨by decide,by decide,by decide,by decide,fun p hp=>⟨⟨by decide,by decide⟩,?_⟩⟩
 simp only [Zaf,ek,Zae]
 exact hC _ _ _ (Zbm hp) (q k x1 y1 (ZoG hk))
theorem Zwk {n:Nat}:∀ ws G (Q:Kw) (E:Addr→Hw→Prop),Kw.C Q→Zp6 (n+1) ws G Q E→ZeU Zpc (Zp6 n) (ZaK Q) (ZaU ZgR ws) G:=by
  intro ws G Q E hC q
  obtain ⟨s,x,y,rfl,hs,q⟩:=q
  unfold ZeU
  walk_at "rd"
  have hd:((n+1:Nat):Int) - 1=(n:Int):=by omega
  have d0:(0:Int) < ((n+1:Nat):Int):=by omega
  simp only [d0,decide_true,if_true]
  refine ⟨.inl ⟨by decide,by decide⟩,s,_,x,y,rfl,by decide,by decide,hs,fun r x1 y1 r0 r1=>?_⟩
  have g1s:put G s (.lst [.int x1,.int y1]) s=some (.lst [.int x1,.int y1]):=Zaf
  by_cases r6:r < 6
  ·simp only [r6,decide_true,if_true]
   obtain ⟨k,hk,ek⟩:=ZrZ r0 r6
   refine ⟨by decide,by decide,by decide,by decide,fun p hp=>⟨⟨by decide,by decide⟩,?_⟩⟩
   simp only [Zaf,ek,Zae]
   exact hC _ _ _ (Zbm hp) (q k x1 y1 (ZoG hk))
  ·simp only [r6,decide_false,Bool.false_eq_true,if_false,Option.map_some,Zae]
   by_cases e6:r=6
   ·subst e6
    refine ⟨trivial,s,x1,y1,by rw [hd],g1s,fun k1 x2 y2 hk1=>?_⟩
    refine ⟨trivial,s,x2,y2,by rw [hd],Zaf,fun k2 x3 y3 hk2=>⟨by decide,?_⟩⟩
    rw [Zg0,Zg0]
    exact q (.to k1 k2) x3 y3 (ZzP hk1 hk2)
   ·have b6:(r==6)=false:=by simpa using e6
    simp only [b6,bne_self_eq_false,Bool.false_eq_true,if_false]
    by_cases e7:r=7
    ·subst e7
     refine ⟨trivial,s,x1,y1,by rw [hd],g1s,fun k1 x2 y2 hk1=>⟨by decide,?_⟩⟩
     rw [Zg0]
     exact q (.box k1) x2 y2 (ZvJ hk1)
    ·have b7:(r==7)=false:=by simpa using e7
     simp only [b7,bne_self_eq_false,Bool.false_eq_true,if_false]
     refine ⟨by decide,fun p hp=>?_⟩
     have nps:p≠s:=Ne.symm (ZaO g1s hp)
     refine ⟨by decide,fun q0 hq0=>?_⟩
     have g2s:put (put G s (.lst [.int x1,.int y1])) p (.lst []) s=some (.lst [.int x1,.int y1]):=by rw [Zat (Ne.symm nps)];exact g1s
     have nqs:q0≠s:=Ne.symm (ZaO g2s hq0)
     have nqp:q0≠p:=Ne.symm (ZaO Zaf hq0)
     simp only [Zaf]
     refine Zlq (n:=n) hd abc none none _ [] x1 y1 (by rw [Zat (Ne.symm nqs)];exact g2s) (by rw [Zat (Ne.symm nqp)];exact Zaf) Zaf nps nqs nqp (by decide) ?_
     intro ω G' l2 x' y' hω f1 f2 f3 f4 f5
     obtain ⟨u,v,rfl⟩:=hω
     rw [List.nil_append] at f2
     have hseq:Zme G' (.ref p)=some (l2.map ZlL):=ZnL f2
     walk_at "rd"
     simp only [hseq,Option.map_some,Zae]
     refine ⟨s,3,x',y',rfl,by decide,by decide,f1,fun r2 x2 y2 _ _=>?_⟩
     simp only [Option.map_some,Zae]
     refine ⟨by decide,?_⟩
     rw [← ZnF]
     refine hC _ _ _ (fun b u hu=>?_) (q (.row (ofL l2) ((r2==0) != false)) x2 y2 (Zv0 f4 f5))
     by_cases hb:b=s
     ·subst hb
      rw [Zaf] at hu ⊢;exact hu
     ·rw [Zat hb] at hu ⊢
      have hbp:b≠p:=by
       intro z;subst z
       rw [Zat hb] at hp;rw [hp] at hu;cases hu
      have hbq:b≠q0:=by
       intro z;subst z
       rw [Zat hbp,Zat hb] at hq0;rw [hq0] at hu;cases hu
      exact f3 b hb hbp u (by rw [Zat hbq,Zat hbp,Zat hb];exact hu)
theorem ZbO (T:Tx K mg base a):∀ n:Nat,Df P w K mg base "_law_kind" (n+2) 2 (Zp6 n)
 | 0=>Zmz T
 | n+1=>mk0 T.ZgL rfl ZgP ZrT ((by rintro ws G Q E ⟨s,x,y,e,_⟩;rw [e];rfl)) (Zjb T (Zbz T) (by omega) (ZbO T n) (Nat.le_refl _)) Zwk
local macro_rules | `(tactic| walk_at "rd") => `(tactic| ((try dsimp only [Zar,gIf,ZaD,Za2,ZaT,Zaq,Zab,gC,Zah,gTB,Zd3,gNt,ZfE,gOr,ZbC,Zf0,ZcC,ZgV,L3.ZaI,Zb1,L3.Zaa,L3.Zag,Zai,gB,rF,Zak,ZbH,gMt,Zhp,Zbj,Ze7,ZeA,ZbF,L3.ZdJ,Zcy,gSl,Zbg,Zax,Zbp,Zbf,Zhr,ZaK,ZaU,List.map_cons,List.map_nil,List.length_cons,List.length_nil,List.cons_append,List.nil_append,List.getElem?_cons_zero,List.getElem?_cons_succ,List.set_cons_zero,List.set_cons_succ,List.replicate,ZeM,tyN,Zae,Zbo,Zcj,Zcd,ixW,eqF,eqW,Zec,ZfV,Ze9,Zhy,List.getElem?_nil]); (try simp only [Zar,gIf,ZaD,Za2,ZaT,Zaq,Zab,gC,Zah,gTB,Zd3,gNt,ZfE,gOr,ZbC,Zf0,ZcC,ZgV,L3.ZaI,Zb1,L3.Zaa,L3.Zag,Zai,gB,rF,Zak,ZbH,gMt,Zhp,Zbj,Ze7,ZeA,ZbF,L3.ZdJ,Zcy,gSl,Zbg,Zax,Zbp,Zbf,Zhr,ZaK,ZaU,List.map_cons,List.map_nil,List.length_cons,List.length_nil,List.cons_append,List.nil_append,List.getElem?_cons_zero,List.getElem?_cons_succ,List.set_cons_zero,List.set_cons_succ,List.replicate,ZeM,tyN,Zae,Zbo,Zcj,Zcd,ixW,eqF,eqW,Zec,ZfV,Ze9,Zhy,List.getElem?_nil])))
def Fs.find:Fs→Str→Option (Bool×Kd)
 | .nil,_=>none
 | .cons n m k r,x=>if n=x then some (m,k) else r.find x
inductive En where
 | free | nope | told (m:Bool) (k:Kd)
def En.enc:En→W
 | .free=>.tup [.str "free"]
 | .nope=>.tup [.str "none"]
 | .told m k=>.tup [.str (mark m),k.enc]
def ent (fs:Fs) (o:Bool) (x:Str):En:=match fs.find x with | some (m,k)=>.told m k | none=>if o then .free else .nope
theorem ZkY:∀ {fs:Fs} {x:Str} {m:Bool} {k:Kd},fs.find x=some (m,k)→k∈fs.kinds∧x∈fs.names
 | .nil,x,m,k,h=>by cases h
 | .cons n m' k' r,x,m,k,h=>by
  unfold Fs.find at h
  split at h
  ·rename_i e
   cases h
   subst e
   exact ⟨List.mem_cons_self,List.mem_cons_self⟩
  ·obtain ⟨h1,h2⟩:=ZkY h
   exact ⟨List.mem_cons_of_mem _ h1,List.mem_cons_of_mem _ h2⟩
theorem find_some:∀ {fs:Fs} {x:Str},x∈fs.names→∃ m k,fs.find x=some (m,k)
 | .nil,x,h=>by cases h
 | .cons n m' k' r,x,h=>by
  unfold Fs.find
  split
  ·exact ⟨m',k',rfl⟩
  ·rename_i e
   rcases List.mem_cons.mp h with z | z
   ·exact absurd z.symm e
   ·exact find_some z
theorem Zm8 (a:Str):ZbT a a=false:=by
 unfold ZbT
 exact decide_eq_false (List.lt_irrefl _)
theorem Zvl {a b c:Str} (h1:ZbT a b=true) (h2:ZbT b c=true):ZbT a c=true:=by
 unfold ZbT at h1 h2 ⊢
 exact decide_eq_true (List.lt_trans (of_decide_eq_true h1) (of_decide_eq_true h2))
theorem ZoV:∀ {ns:List Str},Zkj ns=true→ns.Pairwise (fun x y=>ZbT x y=true)
 | [],_=>.nil
 | [_],_=>.cons (fun _ h=>by cases h) .nil
 | x::y::r,h=>by
  have h':(ZbT x y&&Zkj (y::r))=true:=h
  walk_at "ph"
  have ih:=ZoV h'.2
  refine .cons (fun z hz=>?_) ih
  rcases List.mem_cons.mp hz with rfl | hz
  ·exact h'.1
  ·exact Zvl h'.1 ((List.pairwise_cons.mp ih).1 z hz)
theorem Zoi:∀ {xs ys:List Str},xs.Pairwise (fun x y=>ZbT x y=true)→ys.Pairwise (fun x y=>ZbT x y=true)→(∀ x,x∈xs↔x∈ys)→xs=ys
 | [],[],_,_,_=>rfl
 | [],y::ys,_,_,h=>by cases (h y).mpr List.mem_cons_self
 | x::xs,[],_,_,h=>by cases (h x).mp List.mem_cons_self
 | x::xs,y::ys,hx,hy,h=>by
  obtain ⟨a1,a2⟩:=List.pairwise_cons.mp hx
  obtain ⟨b1,b2⟩:=List.pairwise_cons.mp hy
  have e:x=y:=by
   rcases List.mem_cons.mp ((h x).mp List.mem_cons_self) with e | e
   ·exact e
   ·rcases List.mem_cons.mp ((h y).mpr List.mem_cons_self) with e' | e'
    ·exact e'.symm
    ·have:=Zvl (a1 y e') (b1 x e)
     rw [Zm8] at this
     cases this
  subst e
  congr 1
  refine Zoi a2 b2 fun z=>⟨fun hz=>?_,fun hz=>?_⟩
  ·rcases List.mem_cons.mp ((h z).mp (List.mem_cons_of_mem _ hz)) with e | e
   ·subst e;have:=a1 _ hz;rw [Zm8] at this;cases this
   ·exact e
  ·rcases List.mem_cons.mp ((h z).mpr (List.mem_cons_of_mem _ hz)) with e | e
   ·subst e;have:=b1 _ hz;rw [Zm8] at this;cases this
   ·exact e
theorem Zqz {fs:Fs} {o:Bool} (h:(Kd.row fs o).ok=true):fs.names.Pairwise (fun x y=>ZbT x y=true)∧∀ c∈fs.kinds,c.ok=true:=by
 have h':(Zkj fs.names&&fs.ok)=true:=h
 walk_at "ph"
 exact ⟨ZoV h'.1,ZgS h'.2⟩
theorem ZtO {fs:Fs} {o:Bool} {x:Str} (h:x∈fs.names):∃ m k,ent fs o x=.told m k∧fs.find x=some (m,k):=by
 obtain ⟨m,k,e⟩:=find_some h
 exact ⟨m,k,by unfold ent;rw [e],e⟩
abbrev Zku:List Str:=["row","name","field"]
theorem ZkR:Zao Zku ["row","name"] (Zac ZhD):=by walk_at "s"
def ZkN:GS:=(Zar (Ze8 (Zbf (Zah (Zak ixW) (Zab 0) (gC (.int 1)))) (gNm 2) (gIf (gTB (Zah (Zak (eqF false)) (Zah (Zak ixW) (Zab 2) (gC (.int 0))) (Zab 1))) (ZaD (ZaI (Zaa (Zah (Zak ixW) (Zab 2) (gC (.int 1))) (Zaa (Zah (Zak ixW) (Zab 2) (gC (.int 2))) Zag)))) Zaq)) (ZaD (ZgV (Zd3 (Zah (Zak ixW) (Zab 0) (gC (.int 2)))) (ZaI (Zaa (gC (.str "free")) Zag)) (ZaI (Zaa (gC (.str "none")) Zag)))))
theorem Zpv {k:Nat} (T:Tx K mg base a):Dn P w K mg base Zku "entry_of" ZhD k (ZkN):=by
 have hN:=ZkR.nd
 walk_at "z"
abbrev Zkb:List Str:=["row"]
theorem ZkO:Zao Zkb ["row"] (Zac ZhB):=by walk_at "s"
def ZkC:GS:=(ZaD (Zbp (Zbf (Zah (Zak ixW) (Zab 0) (gC (.int 1)))) 1 (gNm 0) ZfN (Zah (Zak ixW) (Zab 0) (gC (.int 0)))))
theorem ZpH {k:Nat} (T:Tx K mg base a):Dn P w K mg base Zkb "names_of" ZhB k (ZkC):=fun {f cdv A outer s H E} hr =>
 have hu:=Zeo hr
 have hN:=ZkO.nd
 (Zas (Zbi (Zdy (Nc:=["field"]) rfl (ZrF rfl (by decide +kernel) (by decide +kernel)) (fun _=>rfl) (by walk_at "v") (ZeT (i:=0) (by decide) rfl rfl) (fun C fp s1 H1=>Zbw) (fun C fp s1 H1=>(by walk_at "v")))))
abbrev ZfG:List Str:=["one","other"]
theorem ZfH:Zao ZfG ["one","other"] (Zac ZdB):=by walk_at "s"
def Zfb (ZdA:Spw):GS:=(ZaD (Zfu (Zai ZdA XF (Zaa (Zab 0) Zag)) (Zai ZdA XF (Zaa (Zab 1) Zag))))
theorem Zi0 {k:Nat} (T:Tx K mg base a) {Zf2:Nat} {ZdA:Spw} (Zxb:Df P w K mg base "names_of" Zf2 1 ZdA) (Zw5:Zf2≤k):Dn P w K mg base ZfG "names_of_both" ZdB k (Zfb ZdA):=by
 have hN:=ZfH.nd
 walk_at "z"
abbrev Zht:List Str:=["one","other"]
theorem Zhb:Zao Zht ["one","other"] (Zac Zct):=by walk_at "s"
def ZeN (Zan:Spw) (E:Addr→Hw→Prop):GS:=(Zar (ZaT (Zai Zan (fun _=>E) (Zaa (Zab 0) Zag))) (ZaT (Zai Zan (fun _=>E) (Zaa (Zab 1) Zag))))
theorem Zlv {k:Nat} (T:Tx K mg base a) {Zaz:Nat} {Zan:Spw} (Zbe:Df P w K mg base "check_kind" Zaz 1 Zan) (Zbc:Zaz≤k) {f:Addr} {cdv:Value} {A:Around} {outer:List Env} {s:Shared} {H:Hp} {E:XK} (hr:Room k (A.deeper (envOfC "check_kinds" (Zac Zct) s.heap.objs.size f cdv))):Ssm (cxW P w K mg base Zht "check_kinds" (Zac Zct) f cdv A outer s H E) (fun B=>B=H) (ZaZ Zct) (ZeN Zan (dnX K H E)) :=
 have hu:=Zeo hr
 have hN:=Zhb.nd
 (Zaj (ZaP rfl (ZaA Zbe (hr.mono Zbc) rfl Zay rfl rfl rfl (by walk_at "v"))) (Zas (ZaP rfl (ZaA Zbe (hr.mono Zbc) rfl Zay rfl rfl rfl (by walk_at "v")))))
local macro_rules | `(tactic| walk_at "rd") => `(tactic| ((try dsimp only [Zgr,Zbk,Zf9,Zfu,Zbt,Zg3,Zar,gIf,ZaD,Za2,ZaT,Zaq,Zab,gC,Zah,gTB,Zd3,gNt,ZfE,gOr,ZbC,Zf0,ZcC,ZgV,L3.ZaI,Zb1,L3.Zaa,L3.Zag,Zai,gB,rF,Zak,ZbH,gMt,Zhp,Zbj,Ze7,ZeA,ZbF,L3.ZdJ,Zcy,gSl,Zbg,Zax,Zbp,Zbf,Zhr,Ze8,ZaK,ZaU,List.map_cons,List.map_nil,List.length_cons,List.length_nil,List.cons_append,List.nil_append,List.getElem?_cons_zero,List.getElem?_cons_succ,List.set_cons_zero,List.set_cons_succ,List.replicate,ZeM,tyN,Zae,Zbo,Zcj,Zcd,ixW,eqF,eqW,Zec,ZfV,Ze9,Zhy,List.getElem?_nil]); (try simp only [Zgr,Zbk,Zf9,Zfu,Zbt,Zg3,Zar,gIf,ZaD,Za2,ZaT,Zaq,Zab,gC,Zah,gTB,Zd3,gNt,ZfE,gOr,ZbC,Zf0,ZcC,ZgV,L3.ZaI,Zb1,L3.Zaa,L3.Zag,Zai,gB,rF,Zak,ZbH,gMt,Zhp,Zbj,Ze7,ZeA,ZbF,L3.ZdJ,Zcy,gSl,Zbg,Zax,Zbp,Zbf,Zhr,Ze8,ZaK,ZaU,List.map_cons,List.map_nil,List.length_cons,List.length_nil,List.cons_append,List.nil_append,List.getElem?_cons_zero,List.getElem?_cons_succ,List.set_cons_zero,List.set_cons_succ,List.replicate,ZeM,tyN,Zae,Zbo,Zcj,Zcd,ixW,eqF,eqW,Zec,ZfV,Ze9,Zhy,List.getElem?_nil])))
theorem Zde (k:Kd) (G:Hw):ixW k.enc (.int 0) G=some (.str k.hd):=by
 obtain ⟨xs,e⟩:=ZwX k
 rw [e];exact Zbo
abbrev Zg1:Spw:=spR (fun (x:Fs×Bool×Str) ws _=>ws=[(Kd.row x.1 x.2.1).enc,.str x.2.2]) fun x=>(ent x.1 x.2.1 x.2.2).enc
theorem Zkf {D:Ew} {G:Hw} {x:Str} {row:W}:∀ (fs:Fs) (o':Option W),(∀ m k,fs.find x=some (m,k)→D.rt (.tup [.str (mark m),k.enc]) G)→(fs.find x=none→∀ o'',D.nx [some row,some (.str x),o''] G) →
  Zev yes (gNm 2) (gIf (gTB (Zah (Zak (eqF false)) (Zah (Zak ixW) (Zab 2) (gC (.int 0))) (Zab 1))) (ZaD (L3.ZaI (L3.Zaa (Zah (Zak ixW) (Zab 2) (gC (.int 1))) (L3.Zaa (Zah (Zak ixW) (Zab 2) (gC (.int 2))) L3.Zag)))) Zaq) D fs.enc [some row,some (.str x),o'] G
 | .nil,o',_,h=>⟨trivial,h rfl o'⟩
 | .cons n m k r,o',h1,h2=>by
  refine ⟨trivial,?_⟩
  show gIf _ _ Zaq _ [some row,some (.str x),some (.tup [.str n,.str (mark m),k.enc])] G
  walk_at "rd"
  simp only [Option.map_some,Zae]
  by_cases hx:n=x
  ·subst hx
   simp only [beq_self_eq_true,bne_iff_ne,ne_eq,Bool.true_eq_false,not_false_eq_true,if_true]
   exact ⟨by decide,h1 _ _ (by unfold Fs.find;rw [if_pos rfl])⟩
  ·have e:(n==x)=false:=by simpa using hx
   simp only [e,bne_self_eq_false,Bool.false_eq_true,if_false]
   refine Zkf r _ (fun m' k' hv=>h1 m' k' ?_) (fun hn=>h2 ?_)
   ·unfold Fs.find;rw [if_neg hx];exact hv
   ·unfold Fs.find;rw [if_neg hx];exact hn
theorem ZaJ (T:Tx K mg base a):Df P w K mg base "entry_of" 1 2 Zg1:=by
 refine mk0 T.ZpY rfl ZkR ZbY (fun ws G Q E ⟨x,e,_⟩=>by rw [e];rfl) (Zpv T) fun ws G Q E hC q=>?_
 obtain ⟨⟨fs,o,x⟩,rfl,q⟩:=q
 dsimp only at q
 unfold ZkN
 simp only [Kd.enc]
 walk_at "rd"
 refine Zkf fs none (fun m k hv=>?_) (fun hn o''=>?_)
 ·unfold ent at q;rw [hv] at q;exact q
 ·unfold ent at q;rw [hn] at q
  simp only [List.getElem?_cons_zero,List.getElem?_cons_succ,Zcd,Zae]
  cases o with
  | true=>exact ⟨by decide,q⟩
  | false=>exact ⟨by decide,q⟩
abbrev Zvi:Spw:=spL (fun (x:Fs×Bool) ws _=>ws=[(Kd.row x.1 x.2).enc]∧x.1.names.length≤100) fun x=>x.1.names.map W.str
theorem Zf2 (T:Tx K mg base a):Df P w K mg base "names_of" 1 1 Zvi:=by
 refine mk0 T.ZpV rfl ZkO Zrl (fun ws G Q E ⟨x,⟨e,_⟩,_⟩=>by rw [e];rfl) (ZpH T) fun ws G Q E hC q=>?_
 obtain ⟨⟨fs,o⟩,⟨rfl,hl⟩,q⟩:=q
 have hl':fs.enc.length≤100:=by rw [← Ziu];exact hl
 unfold ZkC
 simp only [Kd.enc]
 walk_at "rd"
 refine Zpw (f:=Zm5) trivial fs.enc none [] (fun x hx Q' q'=>?_) (by simp only [List.length_nil];exact Za3 (by omega)) ?_
 ·obtain ⟨n,b,k,rfl⟩:=Zsv hx
  show Zah (Zak ixW) (Zab 0) (gC (.int 0)) [some (W.tup [.str n,.str (mark b),k])] _ Q'
  walk_at "rd"
  exact q'
 ·rw [List.nil_append,Zm2]
  exact q
def Zo1:Spw:=fun ws G Q _=>∃ (fs gs:Fs) (o p:Bool),ws=[(Kd.row fs o).enc,(Kd.row gs p).enc]∧fs.names.length < 16∧gs.names.length < 16∧∀ (zs:List Str) (r:Addr),zs.Nodup→sortedS zs=true→(∀ x,x∈zs↔x∈fs.names∨x∈gs.names)→G r=none→Q (.ref r) (put G r (.lst (zs.map W.str)))
theorem ZtB:Spw.M Zo1:=fun ws G Q Q' E E' h _ ⟨fs,gs,o,p,h1,h2,h3,q⟩=>⟨fs,gs,o,p,h1,h2,h3,fun zs r a b c d=>h _ _ (q zs r a b c d)⟩
theorem Zav (T:Tx K mg base a):Df P w K mg base "names_of_both" 2 2 Zo1:=by
 refine mk0 T.Zi5 rfl ZfH ZtB (fun ws G Q E ⟨_,_,_,_,e,_⟩=>by rw [e];rfl) (Zi0 T (Zf2 T) (Nat.le_refl _)) fun ws G Q E hC q=>?_
 obtain ⟨fs,gs,o,p,rfl,h1,h2,q⟩:=q
 unfold Zfb
 walk_at "rd"
 refine ⟨(fs,o),⟨rfl,by dsimp only;omega⟩,fun p1 hp1=>?_⟩
 refine ⟨fs.names,Zdc Zaf,h1,(gs,p),⟨rfl,by dsimp only;omega⟩,fun p2 hp2=>?_⟩
 refine ⟨gs.names,Zdc Zaf,h2,fun zs r z1 z2 z3 z4=>?_⟩
 have hr2:r≠p2:=fun e=>by subst e;rw [Zaf] at z4;cases z4
 rw [Zat hr2] at z4
 have hr1:r≠p1:=fun e=>by subst e;rw [Zaf] at z4;cases z4
 rw [Zat hr1] at z4
 exact hC _ _ _ ((ZbV (Zbm hp1) hp2).put2) (q zs r z1 z2 z3 z4)
def wf (k:Kd):Prop:=k.ok=true∧k.abc=true
theorem ZoH:∀ {fs:Fs},fs.abc=true→(∀ c∈fs.kinds,c.abc=true)∧∀ x∈fs.names,x∈abc
 | .nil,_=>⟨fun c h=>(by cases h),fun c h=>(by cases h)⟩
 | .cons n m k r,h=>by
  have h':(abc.contains n&&k.abc&&r.abc)=true:=h
  walk_at "ph"
  obtain ⟨i1,i2⟩:=ZoH h'.2
  refine ⟨fun c hc=>?_,fun x hx=>?_⟩
  ·rcases List.mem_cons.mp hc with rfl | hc
   ·exact h'.1.2
   ·exact i1 c hc
  ·rcases List.mem_cons.mp hx with rfl | hx
   ·exact List.contains_iff_mem.mp h'.1.1
   ·exact i2 x hx
theorem Zq4 {k:Kd} (h:k.abc=true):∀ c∈k.kids,c.abc=true:=by
 cases k with
 | to x y =>
  have h':(x.abc&&y.abc)=true:=h
  walk_at "ph"
  intro c hc
  simp only [Kd.kids,List.mem_cons,List.not_mem_nil,or_false] at hc
  rcases hc with rfl | rfl
  ·exact h'.1
  ·exact h'.2
 | box x =>
  intro c hc
  simp only [Kd.kids,List.mem_cons,List.not_mem_nil,or_false] at hc
  subst hc;exact h
 | row fs o=>exact (ZoH h).1
 | any=>intro c hc;simp [Kd.kids] at hc
 | num=>intro c hc;simp [Kd.kids] at hc
 | truth=>intro c hc;simp [Kd.kids] at hc
theorem Zrr {k c:Kd} (h:wf k) (hc:c∈k.kids):wf c:=⟨Zk2 h.1 c hc,Zq4 h.2 c hc⟩
theorem Zd2 {fs:Fs} {o:Bool} (h:wf (.row fs o)):fs.names.length < 16:=by
 have hn:fs.names.Nodup:=(Zqz h.1).1.imp fun z e=>by subst e;rw [Zm8] at z;cases z
 have:=Zes hn (ZoH h.2).2
 have e:abc.length=3:=rfl
 omega
def En.hd:En→Str
 | .free=>"free"
 | .nope=>"none"
 | .told m _=>mark m
theorem Ziq (e:En) (G:Hw):ixW e.enc (.int 0) G=some (.str e.hd):=by cases e <;> exact Zbo
theorem Zhc {x y:W} {s t:Str} {e:GE} {Zch:GS} {D:Ew} {ω:Sw} {G:Hw} (h0:ω[0]?=some (some x)) (h1:ω[1]?=some (some y)) (e0:ixW x (.int 0) G=some (.str s)) (e1:ixW y (.int 0) G=some (.str t)) (h:if s=t then Zch D ω G else e ω G D.rt) :
  Zar (gIf (gTB (Zah (Zak (eqF true)) (Zah (Zak ixW) (Zab 0) (gC (.int 0))) (Zah (Zak ixW) (Zab 1) (gC (.int 0))))) (ZaD e) Zaq) Zch D ω G:=by
 simp only [Zar,gIf,gTB,Zah,Zak,Zab,h0,h1,gC,ZaD,Zaq]
 rw [e0,Zae,e1,Zae]
 simp only [eqF,eqW,Option.map_some,Zae]
 by_cases z:s=t
 ·rw [if_pos z] at h
  have:(s==t)=true:=by simp [z]
  simp only [this,bne_self_eq_false,Bool.false_eq_true,if_false]
  exact h
 ·rw [if_neg z] at h
  have:(s==t)=false:=by simp [z]
  simp only [this,show (false != true)=true from rfl,if_true]
  exact h
theorem Zln (m:Bool):mark m≠"free"∧mark m≠"none"∧(("free":Str)≠"none"):=by cases m <;> decide +kernel
theorem Zjg {k:Kd} {e:GE} {Zch:GS} {D:Ew} {ω:Sw} {G:Hw} (h1:ω[0]?=some (some k.enc)) (h:if k.hd="row" then e ω G D.rt else Zch D ω G) :
  Zar (gIf (gTB (Zah (Zak (eqF false)) (Zah (Zak ixW) (Zab 0) (gC (.int 0))) (gC (.str "row")))) (ZaD e) Zaq) Zch D ω G:=by
 simp only [Zar,gIf,gTB,Zah,Zak,Zab,h1,gC,ZaD,Zaq]
 rw [Zde]
 simp only [Zae,eqF,eqW,Option.map_some]
 by_cases z:k.hd="row"
 ·rw [if_pos z] at h
  simp only [z,beq_self_eq_true,show (true != false)=true from rfl,if_true]
  exact h
 ·rw [if_neg z] at h
  have:(k.hd=="row")=false:=by simpa using z
  simp only [this,bne_self_eq_false,Bool.false_eq_true,if_false]
  exact h
theorem ZmU {k:Kd} (h:k.hd="row"):∃ fs o,k=.row fs o:=by
 cases k <;> first | exact ⟨_,_,rfl⟩ | exact absurd h (by simp only [Kd.hd];decide)
theorem Zlp {x y:W} {s a b:Str} {e:GE} {Zch:GS} {D:Ew} {ω:Sw} {G:Hw} (h0:ω[0]?=some (some x)) (h1:ω[1]?=some (some y)) (e0:ixW x (.int 0) G=some (.str a)) (e1:ixW y (.int 0) G=some (.str b)) (h:if a=s∨b=s then e ω G D.rt else Zch D ω G) :
  Zar (gIf (gTB (Zah (Zak (inF false)) (gC (.str s)) (L3.ZaI (L3.Zaa (Zah (Zak ixW) (Zab 0) (gC (.int 0))) (L3.Zaa (Zah (Zak ixW) (Zab 1) (gC (.int 0))) L3.Zag))))) (ZaD e) Zaq) Zch D ω G:=by
 simp only [Zar,gIf,gTB,Zah,Zak,Zab,h0,h1,gC,ZaD,Zaq,L3.ZaI,L3.Zaa,L3.Zag]
 rw [e0,Zae,e1,Zae]
 refine ⟨(show 2≤sizeLine by decide),?_⟩
 have ei:inF false (.str s) (.tup [.str a,.str b]) G=some (.bl ([a,b].any (·==s))):=by
  unfold inF
  show (ZnB ([a,b].map W.str)).map (fun us=>W.bl (if false=true then !inV (.str s) us else inV (.str s) us))=_
  rw [ZkP]
  show some (W.bl (inV (.str s) ([a,b].map V.str)))=_
  rw [Zk5]
 rw [ei,Zae]
 by_cases z:a=s∨b=s
 ·rw [if_pos z] at h
  have:[a,b].any (·==s)=true:=by simpa using z
  rw [this];exact h
 ·rw [if_neg z] at h
  have:[a,b].any (·==s)=false:=by
   rw [List.any_eq_false]
   intro c hc
   simp only [List.mem_cons,List.not_mem_nil,or_false] at hc
   rcases hc with rfl | rfl
   ·simpa using fun q=>z (.inl q)
   ·simpa using fun q=>z (.inr q)
  rw [this];exact h
theorem Zsq {α:Type} {e1 e2 f:α→W} {gd:Hw→Prop} {ge:GE} {R:List W→Hw→Prop} {G:Hw} (hgd:gd G):∀ (l:List α) (o o':Option W) (ys:List W),(∀ x∈l,∀ Q:Kw,Q (f x) G→ge [some (e1 x),some (e2 x)] G Q) →
  ys.length+l.length≤sizeLine→R (ys++l.map f) G→ZbD gd (Zk8 0 1) ZfN ge R (l.map fun x=>W.tup [e1 x,e2 x]) [o,o'] G ys
 | [],o,o',ys,_,_,r=>⟨hgd,by simpa using r⟩
 | x::l,o,o',ys,h,hl,r=>by
  walk_at "pn"
  show ge [some (e1 x),some (e2 x)] G fun y G3=>ZbD gd (Zk8 0 1) ZfN ge R (l.map fun x=>W.tup [e1 x,e2 x]) [some (e1 x),some (e2 x)] G3 (ys++[y])
  refine h x List.mem_cons_self _ (Zsq hgd l _ _ (ys++[f x]) (fun y hy=>h y (List.mem_cons_of_mem _ hy)) ?_ ?_)
  ·simp only [List.length_append,List.length_cons,List.length_nil] at hl ⊢;omega
  ·simpa [List.append_assoc] using r
theorem Zyj {fs:Fs} {o:Bool} {x:Str} {m:Bool} {k:Kd} (e:ent fs o x=.told m k):k∈fs.kinds:=by
 unfold ent at e
 cases q:fs.find x with
 | none=>rw [q] at e;cases o <;> cases e
 | some p=>rw [q] at e;cases e;exact (ZkY q).1
mutual
theorem ZkG:∀ k:Kd,dpW k.enc≤3*k.dp
 | .any=>by show 1≤3*1;omega
 | .num=>by show 1≤3*1;omega
 | .truth=>by show 1≤3*1;omega
 | .to x y=>by have:=ZkG x;have:=ZkG y;show max 0 (max (dpW x.enc) (max (dpW y.enc) 0))+1≤3*(1+max x.dp y.dp);omega
 | .box x=>by have:=ZkG x;show max 0 (max (dpW x.enc) 0)+1≤3*(1+x.dp);omega
 | .row fs o=>by have:=Zq9 fs;show max 0 (max (L3.dpL fs.enc+1) (max 0 0))+1≤3*(1+fs.dp);omega
theorem Zq9:∀ fs:Fs,L3.dpL fs.enc≤3*fs.dp+1
 | .nil=>Nat.zero_le _
 | .cons n m k r=>by
  have:=ZkG k
  have:=Zq9 r
  show max (max 0 (max 0 (max (dpW k.enc) 0))+1) (L3.dpL r.enc)≤3*max k.dp r.dp+1;omega
end
abbrev Zkg:List Str:=["kind","found","inner"]
theorem Zj8:Zao Zkg ["kind"] (Zac Zh1):=by walk_at "s"
def ZkV (ZaC:Spw) (ZaF:Spw):GS:=(Zar (Za2 1 (Zb1 (Zaa (Zab 0) Zag))) (Zar (Ze8 (Zbf (Zai ZaC XF (Zaa (Zab 0) Zag))) (gNm 2) (ZaT (gMt Zi7 Zuf (Zab 1) (Zaa (Zai ZaF XF (Zaa (Zab 2) Zag)) Zag)))) (ZaD (Zab 1))))
theorem Zpk {k:Nat} (T:Tx K mg base a) {ZaN:Nat} {ZaC:Spw} (Zc0:Df P w K mg base "kinds_within" ZaN 1 ZaC) (Zee:ZaN≤k) {ZaX:Nat} {ZaF:Spw} (Zdw:Df P w K mg base "kinds_in" ZaX 1 ZaF) (Zdv:ZaX≤k):Dn P w K mg base Zkg "kinds_in" Zh1 k (ZkV ZaC ZaF):=by
 have hN:=Zj8.nd
 walk_at "z"
abbrev Zki:List Str:=["kind"]
theorem ZkD:Zao Zki ["kind"] (Zac Zew):=by walk_at "s"
def ZhG (Zan:Spw) (ZaF:Spw) (E:Addr→Hw→Prop):GS:=(Zar (ZaT (Zai Zan (fun _=>E) (Zaa (Zab 0) Zag))) (ZaD (gB (rF Zec) (Zaa (Zai ZaF (fun _=>E) (Zaa (Zab 0) Zag)) Zag))))
theorem Zpr {k:Nat} (T:Tx K mg base a) {Zaz:Nat} {Zan:Spw} (Zbe:Df P w K mg base "check_kind" Zaz 1 Zan) (Zbc:Zaz≤k) {ZaX:Nat} {ZaF:Spw} (Zdw:Df P w K mg base "kinds_in" ZaX 1 ZaF) (Zdv:ZaX≤k) {f:Addr} {cdv:Value} {A:Around} {outer:List Env} {s:Shared} {H:Hp} {E:XK} (hr:Room k (A.deeper (envOfC "parts_in" (Zac Zew) s.heap.objs.size f cdv))):Ssm (cxW P w K mg base Zki "parts_in" (Zac Zew) f cdv A outer s H E) (fun B=>B=H) (ZaZ Zew) (ZhG Zan ZaF (dnX K H E)) :=
 have hu:=Zeo hr
 have hN:=ZkD.nd
 (Zaj (ZaP rfl (ZaA Zbe (hr.mono Zbc) rfl Zay rfl rfl rfl (by walk_at "v"))) (Zas (Zbi (Za9 ZfM (Zdz) rfl T.Zjm (by decide) rfl rfl rfl (ZaH rfl (ZaA Zdw (hr.mono Zdv) rfl Zay rfl rfl rfl (by walk_at "v")) Zbx)))))
abbrev Ze0:List Str:=["kind"]
theorem Ze4:Zao Ze0 ["kind"] (Zac Zdd):=by walk_at "s"
def ZeX:GS:=(ZaD (Zf0 (Zah (Zak (eqF false)) (Zah (Zak ixW) (Zab 0) (gC (.int 0))) (gC (.str "any"))) (ZbC (Zah (Zak (eqF false)) (Zah (Zak ixW) (Zab 0) (gC (.int 0))) (gC (.str "row"))) (Zah (Zak ixW) (Zab 0) (gC (.int 2))))))
theorem Ziz {k:Nat} (T:Tx K mg base a):Dn P w K mg base Ze0 "leaves_unknown" Zdd k (ZeX):=by
 have hN:=Ze4.nd
 walk_at "z"
abbrev ZlR:List Str:=["kind"]
theorem ZmF:Zao ZlR ["kind"] (Zac Zff):=by walk_at "s"
def Zju (Zan:Spw) (ZaF:Spw) (E:Addr→Hw→Prop):GS:=(Zar (ZaT (Zai Zan (fun _=>E) (Zaa (Zab 0) Zag))) (ZaD (ZcC (gB (rF Zhy) (Zaa (Zbp (Zbf (Zai ZaF (fun _=>E) (Zaa (Zab 0) Zag))) 1 (gNm 0) ZfN (Zah (Zak (inF false)) (Zah (Zak ixW) (Zab 0) (gC (.int 0))) (ZaI (Zaa (gC (.str "to")) (Zaa (gC (.str "box")) Zag))))) Zag)))))
theorem Zq8 {k:Nat} (T:Tx K mg base a) {Zaz:Nat} {Zan:Spw} (Zbe:Df P w K mg base "check_kind" Zaz 1 Zan) (Zbc:Zaz≤k) {ZaX:Nat} {ZaF:Spw} (Zdw:Df P w K mg base "kinds_in" ZaX 1 ZaF) (Zdv:ZaX≤k) {f:Addr} {cdv:Value} {A:Around} {outer:List Env} {s:Shared} {H:Hp} {E:XK} (hr:Room k (A.deeper (envOfC "is_data" (Zac Zff) s.heap.objs.size f cdv))):Ssm (cxW P w K mg base ZlR "is_data" (Zac Zff) f cdv A outer s H E) (fun B=>B=H) (ZaZ Zff) (Zju Zan ZaF (dnX K H E)) :=
 have hu:=Zeo hr
 have hN:=ZmF.nd
 (Zaj (ZaP rfl (ZaA Zbe (hr.mono Zbc) rfl Zay rfl rfl rfl (by walk_at "v"))) (Zas (Zbi (ZeY (Za9 Ze3 (Zdf rfl) rfl T.ZiD (by decide) rfl rfl rfl (ZaH rfl (Zdy (Nc:=["part"]) rfl (ZrF rfl (by decide +kernel) (by decide +kernel)) (fun _=>rfl) (Ze2 (fun _ _=>rfl) (ZaA Zdw (hr.mono Zdv) rfl Zay rfl rfl rfl (by walk_at "v"))) (ZeT (i:=0) (by decide) rfl rfl) (fun C fp s1 H1=>Zbw) (fun C fp s1 H1=>(by walk_at "v"))) Zbx))))))
abbrev Zkd:List Str:=["kind"]
theorem ZkL:Zao Zkd ["kind"] (Zac ZeE):=by walk_at "s"
def ZhI (Zan:Spw) (ZaF:Spw) (ZbZ:Spw) (E:Addr→Hw→Prop):GS:=(Zar (ZaT (Zai Zan (fun _=>E) (Zaa (Zab 0) Zag))) (ZaD (ZcC (gB (rF Zhy) (Zaa (Zbp (Zbf (Zai ZaF (fun _=>E) (Zaa (Zab 0) Zag))) 1 (gNm 0) ZfN (Zai ZbZ XF (Zaa (Zab 0) Zag))) Zag)))))
theorem ZpK {k:Nat} (T:Tx K mg base a) {Zaz:Nat} {Zan:Spw} (Zbe:Df P w K mg base "check_kind" Zaz 1 Zan) (Zbc:Zaz≤k) {ZaX:Nat} {ZaF:Spw} (Zdw:Df P w K mg base "kinds_in" ZaX 1 ZaF) (Zdv:ZaX≤k) {Zb8:Nat} {ZbZ:Spw} (Zqb:Df P w K mg base "leaves_unknown" Zb8 1 ZbZ) (Zqd:Zb8≤k) {f:Addr} {cdv:Value} {A:Around} {outer:List Env} {s:Shared} {H:Hp} {E:XK} (hr:Room k (A.deeper (envOfC "is_known" (Zac ZeE) s.heap.objs.size f cdv))):Ssm (cxW P w K mg base Zkd "is_known" (Zac ZeE) f cdv A outer s H E) (fun B=>B=H) (ZaZ ZeE) (ZhI Zan ZaF ZbZ (dnX K H E)) :=
 have hu:=Zeo hr
 have hN:=ZkL.nd
 (Zaj (ZaP rfl (ZaA Zbe (hr.mono Zbc) rfl Zay rfl rfl rfl (by walk_at "v"))) (Zas (Zbi (ZeY (Za9 Ze3 (Zdf rfl) rfl T.ZiD (by decide) rfl rfl rfl (ZaH rfl (Zdy (Nc:=["part"]) rfl (ZrF rfl (by decide +kernel) (by decide +kernel)) (fun _=>rfl) (Ze2 (fun _ _=>rfl) (ZaA Zdw (hr.mono Zdv) rfl Zay rfl rfl rfl (by walk_at "v"))) (ZeT (i:=0) (by decide) rfl rfl) (fun C fp s1 H1=>Zbw) (fun C fp s1 H1=>(by walk_at "v"))) Zbx))))))
local macro_rules | `(tactic| walk_at "rd") => `(tactic| ((try dsimp only [Zar,gIf,ZaD,Za2,ZaT,Zaq,Zab,gC,Zah,gTB,Zd3,gNt,ZfE,gOr,ZbC,Zf0,ZcC,ZgV,L3.ZaI,Zb1,L3.Zaa,L3.Zag,Zai,gB,rF,Zak,ZbH,gMt,Zhp,ZpP,Zbj,Ze7,ZeA,ZbF,L3.ZdJ,Zcy,gSl,Zbg,Zax,Zbp,Zbf,Zhr,Zdh,Ze8,ZcI,Zce,ZeV,Zbk,Zg3,ZaK,ZaU,List.map_cons,List.map_nil,List.length_cons,List.length_nil,List.cons_append,List.nil_append,List.getElem?_cons_zero,List.getElem?_cons_succ,List.set_cons_zero,List.set_cons_succ,List.replicate,ZeM,tyN,Zae,Zbo,Zcj,Zcd,ixW,eqF,eqW,Zec,ZfV,Ze9,Zhy,Zke,ZoT,List.getElem?_nil]); (try simp only [Zar,gIf,ZaD,Za2,ZaT,Zaq,Zab,gC,Zah,gTB,Zd3,gNt,ZfE,gOr,ZbC,Zf0,ZcC,ZgV,L3.ZaI,Zb1,L3.Zaa,L3.Zag,Zai,gB,rF,Zak,ZbH,gMt,Zhp,ZpP,Zbj,Ze7,ZeA,ZbF,L3.ZdJ,Zcy,gSl,Zbg,Zax,Zbp,Zbf,Zhr,Zdh,Ze8,ZcI,Zce,ZeV,Zbk,Zg3,ZaK,ZaU,List.map_cons,List.map_nil,List.length_cons,List.length_nil,List.cons_append,List.nil_append,List.getElem?_cons_zero,List.getElem?_cons_succ,List.set_cons_zero,List.set_cons_succ,List.replicate,ZeM,tyN,Zae,Zbo,Zcj,Zcd,ixW,eqF,eqW,Zec,ZfV,Ze9,Zhy,Zke,ZoT,List.getElem?_nil])))
theorem ZwL:∀ {fs:Fs},fs.ok=true→∀ x∈fs.enc,fdF x=true∧okF x=true
 | .nil,_,x,h=>by cases h
 | .cons n m k r,ho,x,h=>by
  have h':(Zda n&&k.ok&&r.ok)=true:=ho
  walk_at "ph"
  rcases List.mem_cons.mp h with rfl | h
  ·have hl:n.length≤8:=ZhR h'.1.1
   constructor
   ·show (Zda n&&Zx3 (.str (mark m)))=true
    rw [h'.1.1];cases m <;> decide +kernel
   ·show (decide (n.length≤1000)&&true)=true
    rw [decide_eq_true (by omega)];rfl
  ·exact ZwL h'.2 x h
theorem ZuV:∀ fs:Fs,fs.enc.map nmS=fs.names
 | .nil=>rfl
 | .cons n m k r=>by show n::r.enc.map nmS=n::r.names;rw [ZuV r]
theorem Zok:∀ fs:Fs,fs.enc.map Zfe=fs.kinds.map Kd.enc
 | .nil=>rfl
 | .cons n m k r=>by show k.enc::r.enc.map Zfe=k.enc::r.kinds.map Kd.enc;rw [Zok r]
theorem Zzm {fs:Fs} (h:fs.ok=true) (hr:Zkj fs.names=true):arF (.tup fs.enc)=true:=by
 show (fs.enc.all fdF&&Zkj (fs.enc.map nmS))=true
 rw [ZuV,hr,List.all_eq_true.mpr fun x hx=>(ZwL h x hx).1];rfl
theorem ZyJ {h:Str} {r:List W} (h1:ZiB (r.length+1) (ZdL ZaQ h)=true) (h2:(h != "row")=true):hF (.tup (.str h::r))=true:=by
 show (ZiB (r.length+1) (ZdL ZaQ h)&&(h != "row"||rwF r))=true
 rw [h1,h2];rfl
theorem ZuQ {h:Str} {r:List W} (h1:r.length≤1000) (h2:(h != "row")=true):okL (.tup (.str h::r))=true:=by
 show (decide (r.length≤1000)&&(h != "row"||Zw6 r))=true
 rw [decide_eq_true h1,h2];rfl
theorem ZgO {h:Str} {r:List W} (e:h≠"row"):Zc8 (.tup (.str h::r))=r:=if_neg e
theorem ZrO {fs:List W} {r:List W}:Zc8 (.tup (.str "row"::.tup fs::r))=fs.map Zfe:=by
 show (if ("row":Str)="row" then fs.map Zfe else (.tup fs::r))=_
 exact if_pos rfl
theorem Zu0 {k:Kd} (h:k.ok=true):hF k.enc=true:=by
 cases k with
 | any=>decide +kernel
 | num=>decide +kernel
 | truth=>decide +kernel
 | to x y =>
  exact ZyJ (h:="to") (r:=[x.enc,y.enc]) (show ZiB 3 (ZdL ZaQ "to")=true by decide +kernel) (by decide +kernel)
 | box x =>
  exact ZyJ (h:="box") (r:=[x.enc]) (show ZiB 2 (ZdL ZaQ "box")=true by decide +kernel) (by decide +kernel)
 | row fs o =>
  have h':(Zkj fs.names&&fs.ok)=true:=h
  walk_at "ph"
  show (ZiB 3 (ZdL ZaQ "row")&&(("row":Str) != "row"||(arF (.tup fs.enc)&&true)))=true
  rw [show ZiB 3 (ZdL ZaQ "row")=true by decide +kernel,Zzm h'.2 h'.1];simp
theorem ZnC {k:Kd} (h:k.ok=true) (hc:k.cnt≤1000):okL k.enc=true:=by
 cases k with
 | any=>decide +kernel
 | num=>decide +kernel
 | truth=>decide +kernel
 | to x y =>
  exact ZuQ (h:="to") (r:=[x.enc,y.enc]) (show 2≤1000 by decide) (by decide +kernel)
 | box x =>
  exact ZuQ (h:="box") (r:=[x.enc]) (show 1≤1000 by decide) (by decide +kernel)
 | row fs o =>
  have h':(Zkj fs.names&&fs.ok)=true:=h
  walk_at "ph"
  have hc':1+fs.cnt≤1000:=hc
  have hl:=Zp4 fs
  show (decide (2≤1000)&&(("row":Str) != "row"||((decide (fs.enc.length≤1000)&&fs.enc.all okF)&&true)))=true
  rw [decide_eq_true (show fs.enc.length≤1000 by omega),List.all_eq_true.mpr fun x hx=>(ZwL h'.2 x hx).2];simp
theorem ZjB (k:Kd):Zc8 k.enc=k.kids.map Kd.enc:=by
 cases k with
 | any=>exact ZgO (h:="any") (r:=[]) (by decide +kernel)
 | num=>exact ZgO (h:="num") (r:=[]) (by decide +kernel)
 | truth=>exact ZgO (h:="truth") (r:=[]) (by decide +kernel)
 | to x y=>exact ZgO (h:="to") (r:=[x.enc,y.enc]) (by decide +kernel)
 | box x=>exact ZgO (h:="box") (r:=[x.enc]) (by decide +kernel)
 | row fs o=>exact (ZrO (fs:=fs.enc) (r:=[.bl o])).trans (Zok fs)
theorem Zk3:∀ (n:Nat) {k:Kd},k.ok=true→k.cnt≤1000→OKW n k.enc
 | 0,k,h,hc=>ZnC h hc
 | n+1,k,h,hc=>by
  refine ⟨ZnC h hc,fun _ c hm=>?_⟩
  rw [ZjB] at hm
  obtain ⟨d,hd,rfl⟩:=List.mem_map.mp hm
  have:=Zo9 hd
  have:=Zhx k
  exact Zk3 n (Zk2 h d hd) (by omega)
theorem Zu5:∀ (n c:Nat) (l:List Kd),(∀ k∈l,k.ok=true)→c≤40→mdW n c (l.map Kd.enc)=decide (c+ZhC l≤40∧dpL l≤n)
 | n,c,[],_,hc=>by
  have e:mdW n c []=true:=by cases n <;> rfl
  show mdW n c []=_
  rw [e];exact (decide_eq_true ⟨hc,Nat.zero_le _⟩).symm
 | 0,c,x::l,_,hc=>by
  show false=_
  have:1≤dpL (x::l):=by have h1:=ZgI x;show 1≤max x.dp (dpL l);omega
  exact (decide_eq_false (fun z=>by omega)).symm
 | n+1,c,x::l,ho,hc=>by
  have h1:=Zkh (x::l)
  have h2:=Zl8 (x::l) (by simp)
  have hl:((x::l).map Kd.enc).length=(x::l).length:=List.length_map _
  show (if 40 < c+((x::l).map Kd.enc).length then false else if ((x::l).map Kd.enc).all hF then mdW n (c+((x::l).map Kd.enc).length) (((x::l).map Kd.enc).flatMap Zc8) else false)=_
  rw [hl]
  by_cases g:40 < c+(x::l).length
  ·rw [if_pos g];exact (decide_eq_false (fun z=>by omega)).symm
  ·have ha:((x::l).map Kd.enc).all hF=true:=by
    rw [List.all_map];exact List.all_eq_true.mpr fun k hk=>Zu0 (ho k hk)
   have ef:((x::l).map Kd.enc).flatMap Zc8=((x::l).flatMap Kd.kids).map Kd.enc:=by
    rw [List.flatMap_map,List.map_flatMap];congr 1;funext k;exact ZjB k
   rw [if_neg g,ha,if_pos rfl,ef,Zu5 n _ _ (fun k hk=>by
    obtain ⟨z,hz,hk⟩:=List.mem_flatMap.mp hk
    exact Zk2 (ho z hz) k hk) (by omega),decide_eq_decide]
   omega
def ZBf (k:Kd):Bool:=decide (k.cnt≤40∧k.dp≤8)
theorem ZnQ {k:Kd} (h:k.ok=true):isK k.enc=ZBf k:=by
 have e:=Zu5 8 0 [k] (fun x hx=>by rw [List.mem_singleton.mp hx];exact h) (by omega)
 refine Eq.trans e ?_
 unfold ZBf
 rw [decide_eq_decide]
 have e1:ZhC [k]=k.cnt+0:=rfl
 have e2:dpL [k]=max k.dp 0:=rfl
 omega
def bdW:Nat→W→Bool
 | 0,w=>!hF w
 | d+1,w=>!hF w||(Zc8 w).any (bdW d)
theorem ZzH:∀ (d n c:Nat) (l:List W) {w:W},w∈l→bdW d w=true→mdW n c l=false
 | d,n,c,[],w,h,_=>by cases h
 | d,0,c,x::l,w,_,_=>rfl
 | d,n+1,c,x::l,w,h,hb=>by
  show (if 40 < c+(x::l).length then false else if (x::l).all hF then mdW n (c+(x::l).length) ((x::l).flatMap Zc8) else false)=false
  by_cases g:40 < c+(x::l).length
  ·rw [if_pos g]
  ·rw [if_neg g]
   cases ha:(x::l).all hF with
   | false=>rfl
   | true =>
    have hw:=List.all_eq_true.mp ha w h
    rw [if_pos rfl]
    cases d with
    | zero=>have hb':(!hF w)=true:=hb;rw [hw] at hb';cases hb'
    | succ d =>
     have hb':(!hF w||(Zc8 w).any (bdW d))=true:=hb
     rw [hw] at hb'
     obtain ⟨v,hv,hv2⟩:=List.any_eq_true.mp (by simpa using hb')
     exact ZzH d n _ _ (List.mem_flatMap.mpr ⟨w,h,hv⟩) hv2
theorem Zpd {d:Nat} {w:W} (h:bdW d w=true):isK w=false:=ZzH d 8 0 [w] List.mem_cons_self h
def bad (w:W):Prop:=OKW 7 w∧isK w=false
theorem ZeF {k:Kd} (h:gen 2 k):OKW 7 k.enc∧isK k.enc=true∧wf k∧k.dp≤3∧k.cnt≤40:=by
 have hc:k.cnt≤40:=Nat.le_trans h.2.2.1 (by decide)
 have hd:k.dp≤3:=h.2.1
 refine ⟨Zk3 7 h.1 (by omega),?_,⟨h.1,h.2.2.2⟩,hd,hc⟩
 rw [ZnQ h.1]
 exact decide_eq_true ⟨hc,by omega⟩
abbrev ZBo (n:Nat):Spw:=spL (fun (k:Kd) ws _=>ws=[k.enc]∧k.ok=true∧k.dp≤n∧k.cnt≤1000) fun k=>k.all.map Kd.enc
theorem ZqC {n:Nat} {D:Ew} {p q0:Addr} {items:List W}:∀ (l:List Kd) (o:Option W) (k0:W) (G:Hw) (acc:List W),(∀ c∈l,c.ok=true∧c.dp≤n)→acc.length+ZhC l≤20000→ZhC l≤1000→p≠q0→G p=some (.lst acc)→G q0=some (.lst items) →
  (∀ ω G',(∃ o',ω=[some k0,some (.ref p),o'])→G' p=some (.lst (acc++(l.flatMap Kd.all).map Kd.enc))→(∀ b,b≠p→∀ u,G b=some u→G' b=some u)→D.nx ω G') →
  Zev (holds q0 items) (gNm 2) (ZaT (gMt Zi7 Zuf (Zab 1) (L3.Zaa (Zai (ZBo n) XF (L3.Zaa (Zab 2) L3.Zag)) L3.Zag))) D (l.map Kd.enc) [some k0,some (.ref p),o] G
 | [],o,k0,G,acc,_,_,_,hne,hp,hq,fin=>⟨hq,fin _ G ⟨o,rfl⟩ (by simpa using hp) fun _ _ _ h=>h⟩
 | c::l,o,k0,G,acc,hd,hl,hc,hne,hp,hq,fin=>by
  have hcc:c.cnt+ZhC l≤1000:=hc
  have hll:acc.length+(c.cnt+ZhC l)≤20000:=hl
  have hdc:=hd c List.mem_cons_self
  refine ⟨hq,?_⟩
  show ZaT _ _ [some k0,some (.ref p),some c.enc] G
  walk_at "rd"
  refine ⟨ZiM hp,c,⟨rfl,hdc.1,hdc.2,by omega⟩,fun r hr=>?_⟩
  have hpr:=ZaO hp hr
  have hqr:=ZaO hq hr
  refine ZuS (by rw [Zat hpr];exact hp) Zaf (by rw [List.length_map,ZkW];exact Za3 (by omega)) ?_
  refine ZqC l (some c.enc) k0 _ (acc++c.all.map Kd.enc) (fun d hd'=>hd d (List.mem_cons_of_mem _ hd')) (by rw [List.length_append,List.length_map,ZkW];omega) (by omega) hne Zaf ?_ ?_
  ·rw [Zat (Ne.symm hne),Zat hqr];exact hq
  ·intro ω G' hω h1 h2
   refine fin ω G' hω (by rw [h1,List.flatMap_cons,List.map_append,List.append_assoc]) fun b hb u hu=>h2 b hb u ?_
   rw [Zat hb,Zat (ZaO hu hr)];exact hu
theorem ZaX (T:Tx K mg base a):∀ n:Nat,Df P w K mg base "kinds_in" (n+1) 1 (ZBo n)
 | 0=>ZlC T.ZkU Zrl fun ws G Q E ⟨k,⟨_,_,hd,_⟩,_⟩=>by have:=ZgI k;omega
 | n+1=>by
  refine mk0 T.ZkU rfl Zj8 Zrl (fun ws G Q E ⟨x,⟨e,_⟩,_⟩=>by rw [e];rfl) (Zpk T (ZaN T) (by omega) (ZaX T n) (Nat.le_refl _)) fun ws G Q E hC q=>?_
  obtain ⟨k,⟨rfl,ho,hd,hc⟩,q⟩:=q
  have hk:=Zhx k
  unfold ZkV
  walk_at "rd"
  refine ⟨by decide,fun p hp=>?_⟩
  refine ⟨k.enc,⟨rfl,Zu0 ho,ZnC ho hc⟩,fun q0 hq0=>?_⟩
  rw [ZjB]
  have hne:p≠q0:=ZaO Zaf hq0
  simp only [Zaf]
  refine ZqC k.kids none k.enc _ [k.enc] (fun c hc'=>⟨Zk2 ho c hc',by have:=Zjh hc';omega⟩) (by simp only [List.length_cons,List.length_nil];omega) (by omega) hne (by rw [Zat hne];exact Zaf) Zaf ?_
  intro ω G' hω h1 h2
  obtain ⟨o',rfl⟩:=hω
  simp only [List.getElem?_cons_zero,List.getElem?_cons_succ]
  have hs:Sub (put G p (.lst (k.all.map Kd.enc))) G':=fun b u hu=>by
   by_cases hb:b=p
   ·subst hb
    rw [Zaf] at hu;cases hu
    rw [h1,ZoX,List.map_cons];rfl
   ·rw [Zat hb] at hu
    refine h2 b hb u ?_
    rw [Zat (fun z=>by subst z;rw [Zat hb] at hq0;rw [hq0] at hu;cases hu),Zat hb];exact hu
  exact hC _ _ _ hs (q p hp)
abbrev Zfw:List Str:=["one","other"]
theorem Zfk:Zao Zfw ["one","other"] (Zac ZdE):=by walk_at "s"
def Zfv (Za5:Spw):GS:=(Zar (gIf (gTB (Zah (Zak (eqF false)) (Zah (Zak ixW) (Zab 0) (gC (.int 0))) (gC (.str "free")))) (ZaD (gC (.bl true))) Zaq) (Zar (gIf (gTB (Zah (Zak (eqF true)) (Zah (Zak ixW) (Zab 0) (gC (.int 0))) (Zah (Zak ixW) (Zab 1) (gC (.int 0))))) (ZaD (gC (.bl false))) Zaq) (ZaD (Zf0 (Zah (Zak (eqF false)) (Zah (Zak ixW) (Zab 0) (gC (.int 0))) (gC (.str "none"))) (Zai Za5 XF (Zaa (Zah (Zak ixW) (Zab 0) (gC (.int 1))) (Zaa (Zah (Zak ixW) (Zab 1) (gC (.int 1))) Zag)))))))
theorem Zjp {k:Nat} (T:Tx K mg base a) {ZbM:Nat} {Za5:Spw} (ZiS:Df P w K mg base "is_less" ZbM 2 Za5) (Zjc:ZbM≤k):Dn P w K mg base Zfw "is_less_entry" ZdE k (Zfv Za5):=by
 have hN:=Zfk.nd
 walk_at "z"
abbrev Zhf:List Str:=["one","other","names"]
theorem Zhd:Zao Zhf ["one","other"] (Zac Zdi):=by walk_at "s"
def Zg6 (Zam:Spw) (Zap:Spw) (Zca:Spw):GS:=(Zar (gIf (ZfE (Zd3 (Zah (Zak ixW) (Zab 1) (gC (.int 2)))) (gNt (Zd3 (Zah (Zak ixW) (Zab 0) (gC (.int 2)))))) (ZaD (gC (.bl false))) Zaq) (Zar (Za2 2 (Zai Zam XF (Zaa (Zab 0) (Zaa (Zab 1) Zag)))) (ZaD (gB (rF Ze9) (Zaa (Zbk (Zbf (Zab 2)) 1 [0,1] (gNm 0) ZfN (Zai Zca XF (Zaa (Zai Zap XF (Zaa (Zab 1) (Zaa (Zab 0) Zag))) (Zaa (Zai Zap XF (Zaa (Zab 2) (Zaa (Zab 0) Zag))) Zag)))) Zag)))))
theorem Zk0 {k:Nat} (T:Tx K mg base a) {Zav:Nat} {Zam:Spw} (ZdG:Df P w K mg base "names_of_both" Zav 2 Zam) (ZdH:Zav≤k) {ZaJ:Nat} {Zap:Spw} (Zf5:Df P w K mg base "entry_of" ZaJ 2 Zap) (Zf1:ZaJ≤k) {Zcn:Nat} {Zca:Spw} (ZrD:Df P w K mg base "is_less_entry" Zcn 2 Zca) (Zr4:Zcn≤k):Dn P w K mg base Zhf "is_less_row" Zdi k (Zg6 Zam Zap Zca):=fun {f cdv A outer s H E} hr =>
 have hu:=Zeo hr
 have hN:=Zhd.nd
 (Zaj (by walk_at "v") (Zaj (by walk_at "v") (Zas (Zbi (Za9 Zdg (Zb2 rfl) rfl T.Zf8 (by decide) rfl rfl rfl (ZaH rfl (Zpf rfl (Zxa (own:=["name"]) (fr:=["one","other"]) (js:=[0,1]) (scX:=Zac Zdi) (n:=s.heap.objs.size+1) rfl (by decide +kernel) (by decide +kernel) (by decide +kernel) (by decide +kernel) rfl rfl rfl (by decide +kernel) rfl) (fun _=>rfl) (by walk_at "v") (Zg8 (i:=0) (by decide) rfl rfl) (fun C fp s1 H1=>Zbw) (fun C fp s1 H1=>(by walk_at "v"))) Zbx))))))
abbrev Zmd:List Str:=["one","other"]
theorem ZmE:Zao Zmd ["one","other"] (Zac Zjj):=by walk_at "s"
def Zl2 (Zc4:Spw) (Za5:Spw):GS:=(Zar (gIf (gTB (Zah (Zak (eqF false)) (Zah (Zak ixW) (Zab 0) (gC (.int 0))) (gC (.str "any")))) (ZaD (gC (.bl true))) Zaq) (Zar (gIf (gTB (Zah (Zak (eqF true)) (Zah (Zak ixW) (Zab 0) (gC (.int 0))) (Zah (Zak ixW) (Zab 1) (gC (.int 0))))) (ZaD (gC (.bl false))) Zaq) (Zar (gIf (gTB (Zah (Zak (eqF false)) (Zah (Zak ixW) (Zab 0) (gC (.int 0))) (gC (.str "row")))) (ZaD (Zai Zc4 XF (Zaa (Zab 0) (Zaa (Zab 1) Zag)))) Zaq) (ZaD (gB (rF Ze9) (Zaa (Zbp (Zf9 (Zaa (Zgr (Zab 0) (Zbg (gC (.int 1))) Zax) (Zaa (Zgr (Zab 1) (Zbg (gC (.int 1))) Zax) Zag))) 2 (Zk8 0 1) ZfN (Zai Za5 XF (Zaa (Zab 0) (Zaa (Zab 1) Zag)))) Zag))))))
theorem ZrP {k:Nat} (T:Tx K mg base a) {Zdu:Nat} {Zc4:Spw} (Zts:Df P w K mg base "is_less_row" Zdu 2 Zc4) (Ztl:Zdu≤k) {ZbM:Nat} {Za5:Spw} (ZiS:Df P w K mg base "is_less" ZbM 2 Za5) (Zjc:ZbM≤k):Dn P w K mg base Zmd "is_less" Zjj k (Zl2 Zc4 Za5):=fun {f cdv A outer s H E} hr =>
 have hu:=Zeo hr
 have hN:=ZmE.nd
 (Zaj (by walk_at "v") (Zaj (by walk_at "v") (Zaj (by walk_at "v") (Zas (Zbi (Za9 Zdg (Zb2 rfl) rfl T.Zf8 (by decide) rfl rfl rfl (ZaH rfl (Zdy (Nc:=["left","right"]) rfl (ZrF rfl (by decide +kernel) (by decide +kernel)) (fun _=>rfl) (Znz T.Zn6 rfl rfl rfl (by walk_at "v")) (Zlr (i:=0) (j:=1) rfl (by decide) rfl rfl rfl rfl) (fun C fp s1 H1=>Zbw) (fun C fp s1 H1=>(by walk_at "v"))) Zbx)))))))
abbrev Zig:List Str:=["one","other"]
theorem Zil:Zao Zig ["one","other"] (Zac Zc9):=by walk_at "s"
def ZfJ (Zal:Spw) (Za5:Spw) (E:Addr→Hw→Prop):GS:=(Zar (ZaT (Zai Zal (fun _=>E) (Zaa (Zab 0) (Zaa (Zab 1) Zag)))) (ZaD (Zai Za5 (fun _=>E) (Zaa (Zab 0) (Zaa (Zab 1) Zag)))))
theorem ZmL {k:Nat} (T:Tx K mg base a) {Zau:Nat} {Zal:Spw} (Zbb:Df P w K mg base "check_kinds" Zau 2 Zal) (Zba:Zau≤k) {ZbM:Nat} {Za5:Spw} (ZiS:Df P w K mg base "is_less" ZbM 2 Za5) (Zjc:ZbM≤k) {f:Addr} {cdv:Value} {A:Around} {outer:List Env} {s:Shared} {H:Hp} {E:XK} (hr:Room k (A.deeper (envOfC "knows_less" (Zac Zc9) s.heap.objs.size f cdv))):Ssm (cxW P w K mg base Zig "knows_less" (Zac Zc9) f cdv A outer s H E) (fun B=>B=H) (ZaZ Zc9) (ZfJ Zal Za5 (dnX K H E)) :=
 have hu:=Zeo hr
 have hN:=Zil.nd
 (Zaj (ZaP rfl (ZaA Zbb (hr.mono Zba) rfl Zay rfl rfl rfl (by walk_at "v"))) (Zas (Zbi (ZaA ZiS (hr.mono Zjc) rfl Zay rfl rfl rfl (by walk_at "v")))))
abbrev ZdM:List Str:=["one","other"]
theorem ZdN:Zao ZdM ["one","other"] (Zac ZcB):=by walk_at "s"
def ZdU (ZaG:Spw):GS:=(Zar (gIf (gTB (Zah (Zak (inF false)) (gC (.str "free")) (ZaI (Zaa (Zah (Zak ixW) (Zab 0) (gC (.int 0))) (Zaa (Zah (Zak ixW) (Zab 1) (gC (.int 0))) Zag))))) (ZaD (gC .non)) Zaq) (Zar (gIf (gTB (Zah (Zak (eqF true)) (Zah (Zak ixW) (Zab 0) (gC (.int 0))) (Zah (Zak ixW) (Zab 1) (gC (.int 0))))) (ZaD (ZaI Zag)) Zaq) (ZaD (ZgV (gTB (Zah (Zak (eqF false)) (Zah (Zak ixW) (Zab 0) (gC (.int 0))) (gC (.str "none")))) (gC .non) (Zai ZaG XF (Zaa (Zah (Zak ixW) (Zab 0) (gC (.int 1))) (Zaa (Zah (Zak ixW) (Zab 1) (gC (.int 1))) Zag)))))))
theorem Zhu {k:Nat} (T:Tx K mg base a) {Za1:Nat} {ZaG:Spw} (Zer:Df P w K mg base "clash_of" Za1 2 ZaG) (ZeG:Za1≤k):Dn P w K mg base ZdM "clash_of_entries" ZcB k (ZdU ZaG):=by
 have hN:=ZdN.nd
 walk_at "z"
abbrev Zft:List Str:=["one","other","name","found"]
theorem ZfP:Zao Zft ["one","other"] (Zac ZdD):=by walk_at "s"
def Zfo (Zam:Spw) (Zap:Spw) (Zby:Spw) (Zcp:Spw):GS:=(Zar (Ze8 (Zbf (Zai Zam XF (Zaa (Zab 0) (Zaa (Zab 1) Zag)))) (gNm 2) (Zar (Za2 3 (Zai Zby XF (Zaa (Zai Zap XF (Zaa (Zab 0) (Zaa (Zab 2) Zag))) (Zaa (Zai Zap XF (Zaa (Zab 1) (Zaa (Zab 2) Zag))) Zag)))) (gIf (gTB (Zah (Zak (isF true)) (Zab 3) (gC .non))) (ZaD (Zai Zcp XF (Zaa (Zab 2) (Zaa (Zab 3) Zag)))) Zaq))) (ZaD (gC .non)))
theorem Zi1 {k:Nat} (T:Tx K mg base a) {Zav:Nat} {Zam:Spw} (ZdG:Df P w K mg base "names_of_both" Zav 2 Zam) (ZdH:Zav≤k) {ZaJ:Nat} {Zap:Spw} (Zf5:Df P w K mg base "entry_of" ZaJ 2 Zap) (Zf1:ZaJ≤k) {ZbK:Nat} {Zby:Spw} (Zpi:Df P w K mg base "clash_of_entries" ZbK 2 Zby) (ZoC:ZbK≤k) {k_behind:Nat} {Zcp:Spw} (Zup:Df P w K mg base "behind" k_behind 2 Zcp) (Zs1:k_behind≤k):Dn P w K mg base Zft "clash_of_rows" ZdD k (Zfo Zam Zap Zby Zcp):=by
 have hN:=ZfP.nd
 walk_at "z"
abbrev ZkF:List Str:=["one","other","step","left","right","found"]
theorem ZkK:Zao ZkF ["one","other"] (Zac ZhQ):=by walk_at "s"
def ZkB (Zb7:Spw) (ZaG:Spw) (Zcp:Spw):GS:=(Zar (gIf (gTB (Zah (Zak (inF false)) (gC (.str "any")) (ZaI (Zaa (Zah (Zak ixW) (Zab 0) (gC (.int 0))) (Zaa (Zah (Zak ixW) (Zab 1) (gC (.int 0))) Zag))))) (ZaD (gC .non)) Zaq) (Zar (gIf (gTB (Zah (Zak (eqF true)) (Zah (Zak ixW) (Zab 0) (gC (.int 0))) (Zah (Zak ixW) (Zab 1) (gC (.int 0))))) (ZaD (ZaI Zag)) Zaq) (Zar (gIf (gTB (Zah (Zak (eqF false)) (Zah (Zak ixW) (Zab 0) (gC (.int 0))) (gC (.str "row")))) (ZaD (Zai Zb7 XF (Zaa (Zab 0) (Zaa (Zab 1) Zag)))) Zaq) (Zar (Ze8 (Zkq (Zaa (Zsw Zg9 (Zah (Zak ixW) (Zab 0) (gC (.int 0)))) (Zaa (Zgr (Zab 0) (Zbg (gC (.int 1))) Zax) (Zaa (Zgr (Zab 1) (Zbg (gC (.int 1))) Zax) Zag)))) (ZtR 2 3 4) (Zar (Za2 5 (Zai ZaG XF (Zaa (Zab 3) (Zaa (Zab 4) Zag)))) (gIf (gTB (Zah (Zak (isF true)) (Zab 5) (gC .non))) (ZaD (Zai Zcp XF (Zaa (Zab 2) (Zaa (Zab 5) Zag)))) Zaq))) (ZaD (gC .non))))))
theorem ZpW {k:Nat} (T:Tx K mg base a) {Zcr:Nat} {Zb7:Spw} (ZqJ:Df P w K mg base "clash_of_rows" Zcr 2 Zb7) (Zsr:Zcr≤k) {Za1:Nat} {ZaG:Spw} (Zer:Df P w K mg base "clash_of" Za1 2 ZaG) (ZeG:Za1≤k) {k_behind:Nat} {Zcp:Spw} (Zup:Df P w K mg base "behind" k_behind 2 Zcp) (Zs1:k_behind≤k):Dn P w K mg base ZkF "clash_of" ZhQ k (ZkB Zb7 ZaG Zcp):=fun {f cdv A outer s H E} hr =>
 have hu:=Zeo hr
 have hN:=ZkK.nd
 (Zaj (by walk_at "v") (Zaj (by walk_at "v") (Zaj (by walk_at "v") (Zaj (ZeD PassesOwn.never rfl (fun _=>rfl) (Zoo T.Zn6 rfl rfl rfl (ZaH rfl (ZqN T.Znu rfl rfl (fun _ _=>rfl) (by walk_at "v")) (by walk_at "v"))) (by walk_at "v") (by walk_at "v")) (by walk_at "v")))))
abbrev ZfL:List Str:=["one","other","path"]
theorem Zfy:Zao ZfL ["one","other","path"] (Zac Zdx):=by walk_at "s"
def ZfA (ZaV:Spw):GS:=(Zar (gIf (gTB (Zah (Zak (inF false)) (gC (.str "free")) (ZaI (Zaa (Zah (Zak ixW) (Zab 0) (gC (.int 0))) (Zaa (Zah (Zak ixW) (Zab 1) (gC (.int 0))) Zag))))) (ZaD (gC (.bl false))) Zaq) (Zar (gIf (gTB (Zah (Zak (eqF true)) (Zah (Zak ixW) (Zab 0) (gC (.int 0))) (Zah (Zak ixW) (Zab 1) (gC (.int 0))))) (ZaD (Zah (Zak (eqF false)) (Zab 2) (ZaI Zag))) Zaq) (ZaD (ZbC (Zah (Zak (eqF true)) (Zah (Zak ixW) (Zab 0) (gC (.int 0))) (gC (.str "none"))) (Zai ZaV XF (Zaa (Zah (Zak ixW) (Zab 0) (gC (.int 1))) (Zaa (Zah (Zak ixW) (Zab 1) (gC (.int 1))) (Zaa (Zab 2) Zag))))))))
theorem Zjo {k:Nat} (T:Tx K mg base a) {Zbs:Nat} {ZaV:Spw} (ZhK:Df P w K mg base "clash_at" Zbs 3 ZaV) (ZhF:Zbs≤k):Dn P w K mg base ZfL "clash_at_name" Zdx k (ZfA ZaV):=by
 have hN:=Zfy.nd
 walk_at "z"
abbrev ZkH:List Str:=["one","other","path","step","left","right"]
theorem Zj5:Zao ZkH ["one","other","path"] (Zac ZhM):=by walk_at "s"
def ZkQ (Zap:Spw) (Zcb:Spw) (ZaV:Spw):GS:=(Zar (gIf (gTB (Zah (Zak (eqF true)) (Zah (Zak ixW) (Zab 0) (gC (.int 0))) (Zah (Zak ixW) (Zab 1) (gC (.int 0))))) (ZaD (ZbC (Zah (Zak (eqF false)) (Zab 2) (ZaI Zag)) (Zah (Zak (inF true)) (gC (.str "any")) (ZaI (Zaa (Zah (Zak ixW) (Zab 0) (gC (.int 0))) (Zaa (Zah (Zak ixW) (Zab 1) (gC (.int 0))) Zag)))))) Zaq) (Zar (gIf (gTB (Zah (Zak (eqF false)) (Zab 2) (ZaI Zag))) (ZaD (gC (.bl false))) Zaq) (Zar (gIf (gTB (Zah (Zak (eqF false)) (Zah (Zak ixW) (Zab 0) (gC (.int 0))) (gC (.str "row")))) (ZaD (Zai Zcb XF (Zaa (Zai Zap XF (Zaa (Zab 0) (Zaa (Zah (Zak ixW) (Zab 2) (gC (.int 0))) Zag))) (Zaa (Zai Zap XF (Zaa (Zab 1) (Zaa (Zah (Zak ixW) (Zab 2) (gC (.int 0))) Zag))) (Zaa (Zgr (Zab 2) (Zbg (gC (.int 1))) Zax) Zag))))) Zaq) (Zar (Ze8 (Zkq (Zaa (Zsw Zg9 (Zah (Zak ixW) (Zab 0) (gC (.int 0)))) (Zaa (Zgr (Zab 0) (Zbg (gC (.int 1))) Zax) (Zaa (Zgr (Zab 1) (Zbg (gC (.int 1))) Zax) Zag)))) (ZtR 3 4 5) (gIf (gTB (Zah (Zak (eqF false)) (Zab 3) (Zah (Zak ixW) (Zab 2) (gC (.int 0))))) (ZaD (Zai ZaV XF (Zaa (Zab 4) (Zaa (Zab 5) (Zaa (Zgr (Zab 2) (Zbg (gC (.int 1))) Zax) Zag))))) Zaq)) (ZaD (gC (.bl false)))))))
theorem Zp2 {k:Nat} (T:Tx K mg base a) {ZaJ:Nat} {Zap:Spw} (Zf5:Df P w K mg base "entry_of" ZaJ 2 Zap) (Zf1:ZaJ≤k) {Zcl:Nat} {Zcb:Spw} (Zqk:Df P w K mg base "clash_at_name" Zcl 3 Zcb) (ZrC:Zcl≤k) {Zbs:Nat} {ZaV:Spw} (ZhK:Df P w K mg base "clash_at" Zbs 3 ZaV) (ZhF:Zbs≤k):Dn P w K mg base ZkH "clash_at" ZhM k (ZkQ Zap Zcb ZaV):=fun {f cdv A outer s H E} hr =>
 have hu:=Zeo hr
 have hN:=Zj5.nd
 (Zaj (by walk_at "v") (Zaj (by walk_at "v") (Zaj (by walk_at "v") (Zaj (ZeD PassesOwn.never rfl (fun _=>rfl) (Zoo T.Zn6 rfl rfl rfl (ZaH rfl (ZqN T.Znu rfl rfl (fun _ _=>rfl) (by walk_at "v")) (by walk_at "v"))) (by walk_at "v") (by walk_at "v")) (by walk_at "v")))))
abbrev Zhg:List Str:=["one","other"]
theorem Zhe:Zao Zhg ["one","other"] (Zac Zcu):=by walk_at "s"
def ZeL (Zal:Spw) (ZaG:Spw) (E:Addr→Hw→Prop):GS:=(Zar (ZaT (Zai Zal (fun _=>E) (Zaa (Zab 0) (Zaa (Zab 1) Zag)))) (ZaD (Zai ZaG (fun _=>E) (Zaa (Zab 0) (Zaa (Zab 1) Zag)))))
theorem ZkX {k:Nat} (T:Tx K mg base a) {Zau:Nat} {Zal:Spw} (Zbb:Df P w K mg base "check_kinds" Zau 2 Zal) (Zba:Zau≤k) {Za1:Nat} {ZaG:Spw} (Zer:Df P w K mg base "clash_of" Za1 2 ZaG) (ZeG:Za1≤k) {f:Addr} {cdv:Value} {A:Around} {outer:List Env} {s:Shared} {H:Hp} {E:XK} (hr:Room k (A.deeper (envOfC "first_clash" (Zac Zcu) s.heap.objs.size f cdv))):Ssm (cxW P w K mg base Zhg "first_clash" (Zac Zcu) f cdv A outer s H E) (fun B=>B=H) (ZaZ Zcu) (ZeL Zal ZaG (dnX K H E)) :=
 have hu:=Zeo hr
 have hN:=Zhe.nd
 (Zaj (ZaP rfl (ZaA Zbb (hr.mono Zba) rfl Zay rfl rfl rfl (by walk_at "v"))) (Zas (Zbi (ZaA Zer (hr.mono ZeG) rfl Zay rfl rfl rfl (by walk_at "v")))))
abbrev ZmH:List Str:=["one","other","path"]
theorem ZmQ:Zao ZmH ["one","other","path"] (Zac ZfO):=by walk_at "s"
def ZiR (Zal:Spw) (ZaV:Spw) (E:Addr→Hw→Prop):GS:=(Zar (ZaT (Zai Zal (fun _=>E) (Zaa (Zab 0) (Zaa (Zab 1) Zag)))) (ZaD (Zai ZaV (fun _=>E) (Zaa (Zab 0) (Zaa (Zab 1) (Zaa (Zab 2) Zag))))))
theorem Zrs {k:Nat} (T:Tx K mg base a) {Zau:Nat} {Zal:Spw} (Zbb:Df P w K mg base "check_kinds" Zau 2 Zal) (Zba:Zau≤k) {Zbs:Nat} {ZaV:Spw} (ZhK:Df P w K mg base "clash_at" Zbs 3 ZaV) (ZhF:Zbs≤k) {f:Addr} {cdv:Value} {A:Around} {outer:List Env} {s:Shared} {H:Hp} {E:XK} (hr:Room k (A.deeper (envOfC "clashes" (Zac ZfO) s.heap.objs.size f cdv))):Ssm (cxW P w K mg base ZmH "clashes" (Zac ZfO) f cdv A outer s H E) (fun B=>B=H) (ZaZ ZfO) (ZiR Zal ZaV (dnX K H E)) :=
 have hu:=Zeo hr
 have hN:=ZmQ.nd
 (Zaj (ZaP rfl (ZaA Zbb (hr.mono Zba) rfl Zay rfl rfl rfl (by walk_at "v"))) (Zas (Zbi (ZaA ZhK (hr.mono ZhF) rfl Zay rfl rfl rfl (by walk_at "v")))))
local macro_rules | `(tactic| walk_at "rd") => `(tactic| ((try dsimp only [Zgr,Zbk,Zf9,Zfu,Zbt,Zg3,Zar,gIf,ZaD,Za2,ZaT,Zaq,Zab,gC,Zah,gTB,Zd3,gNt,ZfE,gOr,ZbC,Zf0,ZcC,ZgV,L3.ZaI,Zb1,L3.Zaa,L3.Zag,Zai,gB,rF,Zak,ZbH,gMt,Zhp,Zbj,Ze7,ZeA,ZbF,L3.ZdJ,Zcy,gSl,Zbg,Zax,Zbp,Zbf,Zhr,Ze8,ZaK,ZaU,List.map_cons,List.map_nil,List.length_cons,List.length_nil,List.cons_append,List.nil_append,List.getElem?_cons_zero,List.getElem?_cons_succ,List.set_cons_zero,List.set_cons_succ,List.replicate,ZeM,tyN,Zae,Zbo,Zcj,Zcd,ixW,eqF,eqW,Zec,ZfV,Ze9,Zhy,List.getElem?_nil]); (try simp only [Zgr,Zbk,Zf9,Zfu,Zbt,Zg3,Zar,gIf,ZaD,Za2,ZaT,Zaq,Zab,gC,Zah,gTB,Zd3,gNt,ZfE,gOr,ZbC,Zf0,ZcC,ZgV,L3.ZaI,Zb1,L3.Zaa,L3.Zag,Zai,gB,rF,Zak,ZbH,gMt,Zhp,Zbj,Ze7,ZeA,ZbF,L3.ZdJ,Zcy,gSl,Zbg,Zax,Zbp,Zbf,Zhr,Ze8,ZaK,ZaU,List.map_cons,List.map_nil,List.length_cons,List.length_nil,List.cons_append,List.nil_append,List.getElem?_cons_zero,List.getElem?_cons_succ,List.set_cons_zero,List.set_cons_succ,List.replicate,ZeM,tyN,Zae,Zbo,Zcj,Zcd,ixW,eqF,eqW,Zec,ZfV,Ze9,Zhy,List.getElem?_nil])))
theorem Zu3 (T:Tx K mg base a):Df P w K mg base "behind" 1 2 ZzZ:=ZlC (sp:=ZzZ) (k:=1) T.Zs6 Zuu fun _ _ _ _ h=>h
theorem Zm7 {fs:Fs} {o:Bool} {zs:List Str} (z3:∀ x,x∈zs↔x∈fs.names∨x∈fs.names) {x:Str} (hx:x∈zs):∃ m k,ent fs o x=.told m k∧k∈fs.kinds:=by
 obtain ⟨m,k,e,f⟩:=ZtO (o:=o) (((z3 x).mp hx).elim id id)
 exact ⟨m,k,e,(ZkY f).1⟩
theorem Zv1 {fs:Fs} {o:Bool} (w1:wf (.row fs o)) {zs:List Str} (z1:zs.Nodup) (z3:∀ x,x∈zs↔x∈fs.names∨x∈fs.names):zs.length≤16:=by
 have:=Zes (xs:=fs.names) z1 fun x hx=>((z3 x).mp hx).elim id id
 have h1:=Zd2 w1
 omega
abbrev ZA6 (n:Nat):Spw:=spR (fun (k:Kd) ws _=>ws=[k.enc,k.enc]∧wf k∧k.dp≤n) fun _=>.bl true
abbrev Zwe (n:Nat):Spw:=spR (fun (x:Bool×Kd) ws _=>ws=[(En.told x.1 x.2).enc,(En.told x.1 x.2).enc]∧wf x.2∧x.2.dp≤n) fun _=>.bl true
abbrev Zz6 (n:Nat):Spw:=spR (fun (x:Fs×Bool) ws _=>ws=[(Kd.row x.1 x.2).enc,(Kd.row x.1 x.2).enc]∧wf (.row x.1 x.2)∧(Kd.row x.1 x.2).dp≤n+1) fun _=>.bl true
theorem Zcn (T:Tx K mg base a) {j n:Nat} (D:Df P w K mg base "is_less" j 2 (ZA6 n)):Df P w K mg base "is_less_entry" (j+1) 2 (Zwe n):=by
 refine mk0 T.Zjk rfl Zfk ZbY (fun ws G Q E ⟨x,⟨e,_⟩,_⟩=>by rw [e];rfl) (Zjp T D (Nat.le_refl _)) fun ws G Q E hC q=>?_
 obtain ⟨⟨m,k⟩,⟨rfl,h1,h2⟩,q⟩:=q
 dsimp only at h1 h2 q
 unfold Zfv
 cases m <;> (simp only [En.enc,mark];walk_at "rd";exact ⟨k,⟨rfl,h1,h2⟩,q⟩)
theorem Zdu (T:Tx K mg base a) {j n:Nat} (hj:2≤j) (D:Df P w K mg base "is_less_entry" j 2 (Zwe n)):Df P w K mg base "is_less_row" (j+1) 2 (Zz6 n):=by
 refine mk0 T.Zlb rfl Zhd ZbY (fun ws G Q E ⟨x,⟨e,_⟩,_⟩=>by rw [e];rfl) (Zk0 T (Zav T) hj (ZaJ T) (by omega) D (Nat.le_refl _)) fun ws G Q E hC q=>?_
 obtain ⟨⟨fs,o⟩,⟨rfl,w1,hd⟩,q⟩:=q
 dsimp only at w1 hd q
 have fin:(Zar (Za2 2 (Zai Zo1 XF (L3.Zaa (Zab 0) (L3.Zaa (Zab 1) L3.Zag)))) (ZaD (gB (rF Ze9) (L3.Zaa (Zbk (Zbf (Zab 2)) 1 [0,1] (gNm 0) ZfN (Zai (Zwe n) XF (L3.Zaa (Zai Zg1 XF (L3.Zaa (Zab 1) (L3.Zaa (Zab 0) L3.Zag))) (L3.Zaa (Zai Zg1 XF (L3.Zaa (Zab 2) (L3.Zaa (Zab 0) L3.Zag))) L3.Zag)))) L3.Zag)))) (ZaK Q) [some (Kd.row fs o).enc,some (Kd.row fs o).enc,none] G:=by
  walk_at "rd"
  refine ⟨fs,fs,o,o,rfl,Zd2 w1,Zd2 w1,fun zs r z1 z2 z3 z4=>?_⟩
  simp only [Zaf]
  have hzl:=Zv1 w1 z1 z3
  refine ZsL (enc:=W.str) (f:=fun _=>.bl true) (cst:=[some (Kd.row fs o).enc,some (Kd.row fs o).enc]) Zaf zs none [] (fun x hx Q' q'=>?_) (by simp only [List.length_nil];exact Za3 (by omega)) ?_
  ·obtain ⟨m,k,e,hk⟩:=Zm7 (o:=o) z3 hx
   have hk':=Zjh (k:=.row fs o) (c:=k) hk
   show Zai _ _ _ [some (.str x),some (Kd.row fs o).enc,some (Kd.row fs o).enc] _ Q'
   walk_at "rd"
   refine ⟨(fs,o,x),rfl,(fs,o,x),rfl,(m,k),⟨?_,Zrr w1 hk,by dsimp only;omega⟩,q'⟩
   dsimp only;rw [e]
  ·intro p1 hp1
   rw [List.nil_append,show (fun _:Str=>W.bl true)=W.bl∘(fun _=>true) from rfl,← List.map_map]
   walk_at "pi"
   have hall:(zs.map fun _=>true).all id=true:=by simp
   rw [hall]
   exact hC _ _ _ (ZbV (Zbm z4) hp1) q
 unfold Zg6
 show Zar (gIf _ _ Zaq) _ (ZaK Q) [some (Kd.row fs o).enc,some (Kd.row fs o).enc,none] G
 cases o with
 | false =>
  simp only [Zar,gIf,ZfE,Zd3,Zah,Zak,Zab,gC,List.getElem?_cons_zero,List.getElem?_cons_succ,Kd.enc,ixW,Zcd,Zae,ZeM,Zaq,Bool.false_eq_true,if_false] at fin ⊢
  exact fin
 | true =>
  simp only [Zar,gIf,ZfE,Zd3,gNt,Zah,Zak,Zab,gC,List.getElem?_cons_zero,List.getElem?_cons_succ,Kd.enc,ixW,Zcd,Zae,ZeM,Zaq,Bool.not_true,Bool.false_eq_true,if_true,if_false] at fin ⊢
  exact fin
theorem Zud {n:Nat} {G:Hw} {Q:Kw} {xs:List Kd} (hC:Kw.C Q) (hl:xs.length≤100) (hx:∀ p∈xs,wf p∧p.dp≤n) (q:Q (.bl true) G) :
  ZbD yes (Zk8 0 1) ZfN (Zai (ZA6 n) XF (L3.Zaa (Zab 0) (L3.Zaa (Zab 1) L3.Zag))) (fun zs G2=>∀ p,G2 p=none→opt (Ze9 [.ref p] (put G2 p (.lst zs))) fun v=>Q v (put G2 p (.lst zs))) (ZlF (xs.map Kd.enc) (xs.map Kd.enc)) [none,none] G []:=by
 have e3:ZlF (xs.map Kd.enc) (xs.map Kd.enc)=xs.map fun x=>W.tup [x.enc,x.enc]:=by
  rw [Zhq,List.zip_map',List.map_map];rfl
 rw [e3]
 refine Zsq (e1:=Kd.enc) (e2:=Kd.enc) (f:=fun _=>.bl true) trivial xs none none [] (fun x hx' Q' q'=>?_) (by simp only [List.length_nil];exact Za3 (by omega)) fun p hp=>?_
 ·show Zai _ _ _ [some x.enc,some x.enc] G Q'
  walk_at "rd"
  exact ⟨x,⟨rfl,hx x hx'⟩,q'⟩
 rw [List.nil_append,show (fun _:Kd=>W.bl true)=W.bl∘(fun _=>true) from rfl,← List.map_map]
 simp only [Ze9,Zdc Zaf,Option.bind_some,Zcq,Option.map_some,Zae]
 have hall:(xs.map fun _=>true).all id=true:=by simp
 rw [hall]
 exact hC _ _ _ (Zbm hp) q
theorem ZgW {k:Kd} {n:Nat} (w:wf k) (hd:k.dp≤n+1):∀ c∈k.kids,wf c∧c.dp≤n:=fun c hc=>⟨Zrr w hc,by have:=Zjh hc;omega⟩
theorem Zo3 {k:Kd} (h:k.hd≠"row"):k.enc=.tup (.str k.hd::k.kids.map Kd.enc)∧k.kids.length≤2:=by
 cases k <;> first | exact ⟨rfl,by simp [Kd.kids]⟩ | exact absurd rfl h
theorem ZbM (T:Tx K mg base a):∀ n:Nat,Df P w K mg base "is_less" (3*n+2) 2 (ZA6 n)
 | 0=>ZlC T.Zl3 ZbY fun ws G Q E ⟨x,⟨_,_,h⟩,_⟩=>by have:=ZgI x;omega
 | n+1=>by
  have D:=ZbM T n
  have DR:=Zdu T (by omega) (Zcn T D)
  refine mk0 (k:=3*n+4) T.Zl3 rfl ZmE ZbY (fun ws G Q E ⟨x,⟨e,_⟩,_⟩=>by rw [e];rfl) (ZrP T DR (Nat.le_refl _) D (by omega)) fun ws G Q E hC q=>?_
  obtain ⟨k,⟨rfl,w1,hd⟩,q⟩:=q
  dsimp only at q
  unfold Zl2
  show Zar (gIf _ _ Zaq) _ (ZaK Q) [some k.enc,some k.enc] G
  simp only [Zar,gIf,gTB,Zah,Zak,Zab,gC,ZaD,List.getElem?_cons_zero,List.getElem?_cons_succ,Zde,Zae,eqF,eqW,Option.map_some,Zaq]
  by_cases ha:k.hd="any"
  ·have:(k.hd=="any")=true:=by simp [ha]
   rw [this];exact q
  have h1:(k.hd=="any")=false:=by simpa using ha
  simp only [h1,beq_self_eq_true,bne_self_eq_false,Bool.false_eq_true,if_false]
  by_cases hr:k.hd="row"
  ·obtain ⟨fs,o,rfl⟩:=ZmU hr
   exact ⟨(fs,o),⟨rfl,w1,hd⟩,q⟩
  ·have h2:(k.hd=="row")=false:=by simpa using hr
   obtain ⟨ek,hk⟩:=Zo3 hr
   simp only [h2,bne_self_eq_false,Bool.false_eq_true,if_false]
   rw [ek]
   simp only [gB,rF,L3.Zaa,L3.Zag,Zbp,Zf9,Zgr,Zbg,Zax,Zab,gC,List.getElem?_cons_zero,List.getElem?_cons_succ,slA,ZjW,List.drop_succ_cons,List.drop_zero,List.replicate]
   exact ⟨_,_,rfl,Zud (xs:=k.kids) hC (by omega) (ZgW w1 hd) q⟩
abbrev ZAK (n:Nat):Spw:=spR (fun (k:Kd) ws _=>ws=[k.enc,k.enc]∧wf k∧k.dp≤n) fun _=>.non
abbrev Zw1 (n:Nat):Spw:=spR (fun (x:Bool×Kd) ws _=>ws=[(En.told x.1 x.2).enc,(En.told x.1 x.2).enc]∧wf x.2∧x.2.dp≤n) fun _=>.non
abbrev ZAL (n:Nat):Spw:=spR (fun (x:Fs×Bool) ws _=>ws=[(Kd.row x.1 x.2).enc,(Kd.row x.1 x.2).enc]∧wf (.row x.1 x.2)∧(Kd.row x.1 x.2).dp≤n+1) fun _=>.non
theorem ZbK (T:Tx K mg base a) {j n:Nat} (D:Df P w K mg base "clash_of" j 2 (ZAK n)):Df P w K mg base "clash_of_entries" (j+1) 2 (Zw1 n):=by
 refine mk0 T.Zhv rfl ZdN ZbY (fun ws G Q E ⟨x,⟨e,_⟩,_⟩=>by rw [e];rfl) (Zhu T D (Nat.le_refl _)) fun ws G Q E hC q=>?_
 obtain ⟨⟨m,k⟩,⟨rfl,h1,h2⟩,q⟩:=q
 dsimp only at h1 h2 q
 unfold ZdU
 show Zar (gIf _ _ Zaq) _ (ZaK Q) [some (En.told m k).enc,some (En.told m k).enc] G
 refine Zlp rfl rfl (Ziq (.told m k) G) (Ziq (.told m k) G) ?_
 rw [if_neg (fun z=>z.elim (Zln m).1 (Zln m).1)]
 refine Zhc rfl rfl (Ziq (.told m k) G) (Ziq (.told m k) G) ?_
 rw [if_pos rfl]
 have hm:(mark m=="none")=false:=by simpa using (Zln m).2.1
 simp only [ZaD,ZgV,gTB,Zah,Zak,Zab,gC,En.enc,List.getElem?_cons_zero,List.getElem?_cons_succ,ixW,Zbo,Zcj,Zae,eqF,eqW,hm,Option.map_some,bne_self_eq_false,Bool.false_eq_true,if_false,Zai,L3.Zaa,L3.Zag,ZaK]
 exact ⟨k,⟨rfl,h1,h2⟩,q⟩
abbrev Zw8 (i:Nat) (e:GE):GS:=gIf (gTB (Zah (Zak (isF true)) (Zab i) (gC .non))) (ZaD e) Zaq
theorem ZlU {i:Nat} {ge e:GE} {D:Ew} {ω:Sw} {G:Hw} (hi:i < ω.length) (hg:∀ Q:Kw,Q .non G→ge ω G Q) (h:D.nx (ω.set i (some .non)) G):Zar (Za2 i ge) (Zw8 i e) D ω G:=by
 refine hg _ ?_
 have gi:(ω.set i (some .non))[i]?=some (some .non):=by rw [List.getElem?_set_self hi]
 simp only [Zw8,gIf,gTB,Zah,Zak,Zab,gi,gC,isF,Zae,ZaD,Zaq]
 exact h
theorem ZqW {n:Nat} {D:Ew} {gd:Hw→Prop} {G:Hw} {fs:Fs} {o:Bool} {e:GE} (hgd:gd G):∀ (xs:List Str) (o2 o3:Option W),(∀ x∈xs,∃ m k,ent fs o x=.told m k∧wf k∧k.dp≤n)→(∀ o2 o3,D.nx [some (Kd.row fs o).enc,some (Kd.row fs o).enc,o2,o3] G) →
  Zev gd (gNm 2) (Zar (Za2 3 (Zai (Zw1 n) XF (L3.Zaa (Zai Zg1 XF (L3.Zaa (Zab 0) (L3.Zaa (Zab 2) L3.Zag))) (L3.Zaa (Zai Zg1 XF (L3.Zaa (Zab 1) (L3.Zaa (Zab 2) L3.Zag))) L3.Zag)))) (Zw8 3 e)) D (xs.map W.str) [some (Kd.row fs o).enc,some (Kd.row fs o).enc,o2,o3] G
 | [],o2,o3,_,h=>⟨hgd,h o2 o3⟩
 | x::xs,o2,o3,hs,h=>by
  refine ⟨hgd,?_⟩
  show Zar (Za2 3 _) (Zw8 3 e) _ [some (Kd.row fs o).enc,some (Kd.row fs o).enc,some (.str x),o3] G
  obtain ⟨m,k,e1,e2,e3⟩:=hs x List.mem_cons_self
  refine ZlU (by simp) (fun Q hQ=>?_) (ZqW hgd xs _ _ (fun y hy=>hs y (List.mem_cons_of_mem _ hy)) h)
  simp only [Zai,L3.Zaa,L3.Zag,Zab,List.getElem?_cons_zero,List.getElem?_cons_succ]
  refine ⟨(fs,o,x),rfl,(fs,o,x),rfl,(m,k),⟨?_,e2,e3⟩,hQ⟩
  dsimp only;rw [e1]
theorem Zcr (T:Tx K mg base a) {j n:Nat} (hj:2≤j) (D:Df P w K mg base "clash_of_entries" j 2 (Zw1 n)):Df P w K mg base "clash_of_rows" (j+1) 2 (ZAL n):=by
 refine mk0 T.Zji rfl ZfP ZbY (fun ws G Q E ⟨x,⟨e,_⟩,_⟩=>by rw [e];rfl) (Zi1 T (Zav T) hj (ZaJ T) (by omega) D (Nat.le_refl _) (Zu3 T) (by omega)) fun ws G Q E hC q=>?_
 obtain ⟨⟨fs,o⟩,⟨rfl,w1,hd⟩,q⟩:=q
 dsimp only at w1 hd q
 unfold Zfo
 show Zar (Ze8 _ _ _) _ (ZaK Q) [some (Kd.row fs o).enc,some (Kd.row fs o).enc,none,none] G
 simp only [Zar,Ze8,Zbf,Zai,Zab,L3.Zaa,L3.Zag,List.getElem?_cons_zero,List.getElem?_cons_succ]
 refine ⟨fs,fs,o,o,rfl,Zd2 w1,Zd2 w1,fun zs r z1 z2 z3 z4=>?_⟩
 simp only [Zaf]
 refine ZqW (gd:=fun G'=>G' r=some (.lst (zs.map W.str))) Zaf zs none none (fun x hx=>?_) (fun o2 o3=>?_)
 ·obtain ⟨m,k,e,hk⟩:=Zm7 (o:=o) z3 hx
  exact ⟨m,k,e,(ZgW w1 hd k hk)⟩
 ·exact hC _ _ _ (Zbm z4) q
theorem ZlD {α:Type} (f g h:α→W):∀ xs:List α,ZlH (xs.map f) (xs.map g) (xs.map h)=xs.map fun x=>W.tup [f x,g x,h x]
 | []=>rfl
 | x::xs=>by show _::ZlH (xs.map f) (xs.map g) (xs.map h)=_;rw [ZlD f g h xs];rfl
theorem Zph {k:Kd} (h:k.hd≠"row"):∃ us:List (Str×Kd),KTD.datumAt k.hd Zg9=some (us.map (·.1))∧k.enc=.tup (.str k.hd::us.map fun u=>u.2.enc)∧∀ u∈us,u.2∈k.kids:=by
 cases k with
 | any=>exact ⟨[],rfl,rfl,fun u hu=>by cases hu⟩
 | num=>exact ⟨[],rfl,rfl,fun u hu=>by cases hu⟩
 | truth=>exact ⟨[],rfl,rfl,fun u hu=>by cases hu⟩
 | to x y=>exact ⟨[("in",x),("out",y)],rfl,rfl,fun u hu=>by simp only [List.mem_cons,List.not_mem_nil,or_false] at hu;rcases hu with rfl | rfl <;> simp [Kd.kids]⟩
 | box x=>exact ⟨[("inside",x)],rfl,rfl,fun u hu=>by simp only [List.mem_cons,List.not_mem_nil,or_false] at hu;subst hu;simp [Kd.kids]⟩
 | row fs o=>exact absurd rfl h
theorem Zqg {n:Nat} {D:Ew} {G:Hw} {w0 w1:Option W} {e:GE}:∀ (xs:List (Str×Kd)) (o2 o3 o4 o5:Option W),(∀ u∈xs,wf u.2∧u.2.dp≤n)→(∀ o2 o3 o4 o5,D.nx [w0,w1,o2,o3,o4,o5] G) →
  Zev yes (ZtR 2 3 4) (Zar (Za2 5 (Zai (ZAK n) XF (L3.Zaa (Zab 3) (L3.Zaa (Zab 4) L3.Zag)))) (Zw8 5 e)) D (xs.map fun u=>W.tup [.str u.1,u.2.enc,u.2.enc]) [w0,w1,o2,o3,o4,o5] G
 | [],o2,o3,o4,o5,_,h=>⟨trivial,h o2 o3 o4 o5⟩
 | u::xs,o2,o3,o4,o5,hs,h=>by
  refine ⟨trivial,?_⟩
  show Zar (Za2 5 _) (Zw8 5 e) _ [w0,w1,some (.str u.1),some u.2.enc,some u.2.enc,o5] G
  refine ZlU (by simp) (fun Q hQ=>?_) (Zqg xs _ _ _ _ (fun y hy=>hs y (List.mem_cons_of_mem _ hy)) h)
  simp only [Zai,L3.Zaa,L3.Zag,Zab,List.getElem?_cons_zero,List.getElem?_cons_succ]
  exact ⟨u.2,⟨rfl,hs u List.mem_cons_self⟩,hQ⟩
theorem Za1 (T:Tx K mg base a):∀ n:Nat,Df P w K mg base "clash_of" (3*n+2) 2 (ZAK n)
 | 0=>ZlC T.ZkA ZbY fun ws G Q E ⟨x,⟨_,_,h⟩,_⟩=>by have:=ZgI x;omega
 | n+1=>by
  have D:=Za1 T n
  have DR:=Zcr T (by omega) (ZbK T D)
  refine mk0 (k:=3*n+4) T.ZkA rfl ZkK ZbY (fun ws G Q E ⟨x,⟨e,_⟩,_⟩=>by rw [e];rfl) (ZpW T DR (Nat.le_refl _) D (by omega) (Zu3 T) (by omega)) fun ws G Q E hC q=>?_
  obtain ⟨k,⟨rfl,w1,hd⟩,q⟩:=q
  dsimp only at q
  unfold ZkB
  show Zar (gIf _ _ Zaq) _ (ZaK Q) [some k.enc,some k.enc,none,none,none,none] G
  refine Zlp rfl rfl (Zde k G) (Zde k G) ?_
  by_cases ha:k.hd="any"∨k.hd="any"
  ·rw [if_pos ha];exact q
  rw [if_neg ha]
  refine Zhc rfl rfl (Zde k G) (Zde k G) ?_
  rw [if_pos rfl]
  refine Zjg (k:=k) rfl ?_
  by_cases hr:k.hd="row"
  ·rw [if_pos hr]
   obtain ⟨fs,o,rfl⟩:=ZmU hr
   exact ⟨(fs,o),⟨rfl,w1,hd⟩,q⟩
  ·rw [if_neg hr]
   obtain ⟨us,e1,e2,e3⟩:=Zph hr
   rw [e2]
   walk_at "pl"
   refine ⟨_,e1,_,_,_,rfl,by simp,by simp,?_⟩
   rw [List.map_map]
   have ez:=ZlD (fun u:Str×Kd=>W.str u.1) (fun u=>u.2.enc) (fun u=>u.2.enc) us
   rw [show (W.str∘fun x:Str×Kd=>x.1)=fun u:Str×Kd=>W.str u.1 from rfl,ez]
   refine Zqg us none none none none (fun u hu=>ZgW w1 hd _ (e3 u hu)) (fun o2 o3 o4 o5=>?_)
   exact q
theorem Zod:∀ p:List Str,L3.dpL (p.map W.str)=0
 | []=>rfl
 | x::p=>by show max 0 (L3.dpL (p.map W.str))=0;rw [Zod p];rfl
theorem ZyK (p:List Str) (G:Hw):eqF false (.tup (p.map W.str)) (.tup []) G=some (.bl p.isEmpty):=by
 have:eqW (.tup (p.map W.str)) (.tup []) G=some p.isEmpty:=by
  show (if L3.dpL (p.map W.str) < 90 then ZjY (p.map W.str) [] else none)=_
  rw [Zod,if_pos (by decide)]
  cases p <;> rfl
 unfold eqF
 rw [this]
 cases p.isEmpty <;> rfl
abbrev ZzW (n:Nat):Spw:=spR (fun (x:Kd×List Str) ws _=>ws=[x.1.enc,x.1.enc,.tup (x.2.map W.str)]∧wf x.1∧x.1.dp≤n) fun _=>.bl false
abbrev ZAC (n:Nat):Spw:=spR (fun (x:En×List Str) ws _=>ws=[x.1.enc,x.1.enc,.tup (x.2.map W.str)]∧∀ m k,x.1=.told m k→wf k∧k.dp≤n) fun _=>.bl false
theorem Zcl (T:Tx K mg base a) {j n:Nat} (D:Df P w K mg base "clash_at" j 3 (ZzW n)):Df P w K mg base "clash_at_name" (j+1) 3 (ZAC n):=by
 refine mk0 T.Zjz rfl Zfy ZbY (fun ws G Q E ⟨x,⟨e,_⟩,_⟩=>by rw [e];rfl) (Zjo T D (Nat.le_refl _)) fun ws G Q E hC q=>?_
 obtain ⟨⟨e,p⟩,⟨rfl,h⟩,q⟩:=q
 dsimp only at h q
 unfold ZfA
 show Zar (gIf _ _ Zaq) _ (ZaK Q) [some e.enc,some e.enc,some (.tup (p.map W.str))] G
 refine Zlp rfl rfl (Ziq e G) (Ziq e G) ?_
 by_cases hf:e.hd="free"∨e.hd="free"
 ·rw [if_pos hf];exact q
 ·rw [if_neg hf]
  refine Zhc rfl rfl (Ziq e G) (Ziq e G) ?_
  rw [if_pos rfl]
  cases e with
  | free=>exact absurd (.inl rfl) hf
  | nope =>
   simp only [ZaD,ZbC,Zah,Zak,Zab,gC,En.enc,List.getElem?_cons_zero,List.getElem?_cons_succ,ixW,Zbo,Zae,eqF,eqW,beq_self_eq_true,Option.map_some,bne_self_eq_false,Bool.false_eq_true,if_false,ZaK]
   exact q
  | told m k =>
   have hm:(mark m=="none")=false:=by simpa using (Zln m).2.1
   simp only [ZaD,ZbC,Zah,Zak,Zab,gC,En.enc,List.getElem?_cons_zero,List.getElem?_cons_succ,ixW,Zbo,Zcj,Zae,eqF,eqW,hm,Option.map_some,show (false != true)=true from rfl,if_true,Zai,L3.Zaa,L3.Zag,ZaK]
   exact ⟨(k,p),⟨rfl,h m k rfl⟩,q⟩
abbrev gAK (sp:Spw):GS:=gIf (gTB (Zah (Zak (eqF false)) (Zab 3) (Zah (Zak ixW) (Zab 2) (gC (.int 0))))) (ZaD (Zai sp XF (L3.Zaa (Zab 4) (L3.Zaa (Zab 5) (L3.Zaa (Zgr (Zab 2) (Zbg (gC (.int 1))) Zax) L3.Zag))))) Zaq
theorem Zqt {n:Nat} {D:Ew} {G:Hw} {w0 w1:Option W} {x:Str} {p:List Str}:∀ (xs:List (Str×Kd)) (o3 o4 o5:Option W),(∀ u∈xs,wf u.2∧u.2.dp≤n) →
  D.rt (.bl false) G→(∀ o3 o4 o5,D.nx [w0,w1,some (.tup ((x::p).map W.str)),o3,o4,o5] G) →
  Zev yes (ZtR 3 4 5) (gAK (ZzW n)) D (xs.map fun u=>W.tup [.str u.1,u.2.enc,u.2.enc]) [w0,w1,some (.tup ((x::p).map W.str)),o3,o4,o5] G
 | [],o3,o4,o5,_,_,h=>⟨trivial,h o3 o4 o5⟩
 | u::xs,o3,o4,o5,hs,hb,h=>by
  refine ⟨trivial,?_⟩
  show gAK (ZzW n) _ [w0,w1,some (.tup ((x::p).map W.str)),some (.str u.1),some u.2.enc,some u.2.enc] G
  simp only [gIf,gTB,Zah,Zak,Zab,gC,List.map_cons,List.getElem?_cons_zero,List.getElem?_cons_succ,ixW,Zbo,Zae,eqF,eqW,Option.map_some]
  by_cases z:u.1=x
  ·have hz:(u.1==x)=true:=by simp [z]
   simp only [hz,show (true != false)=true from rfl,if_true,ZaD,Zai,L3.Zaa,L3.Zag,Zab,Zgr,Zbg,Zax,gC,List.getElem?_cons_zero,List.getElem?_cons_succ,slA,ZjW,List.drop_succ_cons,List.drop_zero]
   exact ⟨(u.2,p),⟨rfl,hs u List.mem_cons_self⟩,hb⟩
  ·have hz:(u.1==x)=false:=by simpa using z
   simp only [hz,bne_self_eq_false,Bool.false_eq_true,if_false,Zaq]
   exact Zqt xs _ _ _ (fun v hv=>hs v (List.mem_cons_of_mem _ hv)) hb h
theorem Zbs (T:Tx K mg base a):∀ n:Nat,Df P w K mg base "clash_at" (2*n+2) 3 (ZzW n)
 | 0=>ZlC T.Zj6 ZbY fun ws G Q E ⟨x,⟨_,_,h⟩,_⟩=>by have:=ZgI x.1;omega
 | n+1=>by
  have D:=Zbs T n
  have DE:=Zcl T D
  refine mk0 (k:=2*n+3) T.Zj6 rfl Zj5 ZbY (fun ws G Q E ⟨x,⟨e,_⟩,_⟩=>by rw [e];rfl) (Zp2 T (ZaJ T) (by omega) DE (Nat.le_refl _) D (by omega)) fun ws G Q E hC q=>?_
  obtain ⟨⟨k,p⟩,⟨rfl,w1,hd⟩,q⟩:=q
  dsimp only at w1 hd q
  unfold ZkQ
  show Zar (gIf _ _ Zaq) _ (ZaK Q) [some k.enc,some k.enc,some (.tup (p.map W.str)),none,none,none] G
  refine Zhc rfl rfl (Zde k G) (Zde k G) ?_
  rw [if_pos rfl]
  simp only [Zar,gIf,gTB,Zah,Zab,L3.ZaI,L3.Zag,Zak,List.getElem?_cons_zero,List.getElem?_cons_succ]
  refine ⟨by decide,?_⟩
  rw [ZyK,Zae]
  cases p with
  | nil=>exact q
  | cons x p =>
   simp only [List.isEmpty_cons,Bool.false_eq_true,if_false,Zaq]
   refine Zjg (k:=k) rfl ?_
   by_cases hr:k.hd="row"
   ·rw [if_pos hr]
    obtain ⟨fs,o,rfl⟩:=ZmU hr
    simp only [Zai,L3.Zaa,L3.Zag,Zah,Zab,gC,Zak,List.getElem?_cons_zero,List.getElem?_cons_succ,List.map_cons,ixW,Zbo,Zae,Zgr,Zbg,Zax,slA,ZjW,List.drop_succ_cons,List.drop_zero]
    exact ⟨(fs,o,x),rfl,(fs,o,x),rfl,(ent fs o x,p),⟨rfl,fun m k u1=>ZgW w1 hd k (Zyj u1)⟩,q⟩
   ·rw [if_neg hr]
    obtain ⟨us,e1,e2,e3⟩:=Zph hr
    rw [e2]
    walk_at "pl"
    refine ⟨_,e1,_,_,_,rfl,by simp,by simp,?_⟩
    rw [List.map_map]
    have ez:=ZlD (fun u:Str×Kd=>W.str u.1) (fun u=>u.2.enc) (fun u=>u.2.enc) us
    rw [show (W.str∘fun x:Str×Kd=>x.1)=fun u:Str×Kd=>W.str u.1 from rfl,ez]
    refine Zqt us none none none (fun u hu=>ZgW w1 hd _ (e3 u hu)) q (fun o3 o4 o5=>?_)
    exact q
abbrev ZoP:List Str:=["names","entries","is_open","fields"]
theorem ZlE:Zao ZoP ["names","entries","is_open"] (Zac ZiN):=by walk_at "s"
def Zob:GS:=(Zar (Za2 3 (Zbk (Zhr (Zaa (Zab 0) (Zaa (Zab 1) Zag))) 2 [] (Zk8 0 1) (gTB (Zah (Zak (eqF true)) (Zab 1) (ZaI (Zaa (gC (.str "free")) Zag)))) (Zah (Zb3) (ZaI (Zaa (Zab 0) Zag)) (Zab 1)))) (ZaD (ZaI (Zaa (gC (.str "row")) (Zaa (gB (rF Zke) (Zaa (Zab 3) Zag)) (Zaa (Zab 2) Zag))))))
theorem Ztd {k:Nat} (T:Tx K mg base a):Dn P w K mg base ZoP "row_of" ZiN k (Zob):=fun {f cdv A outer s H E} hr =>
 have hu:=Zeo hr
 have hN:=ZlE.nd
 (Zaj (ZiH (i:=3) ZlE.nd rfl rfl rfl rfl (Zxa (own:=["name","entry"]) (fr:=[]) (js:=[]) (scX:=Zac ZiN) (n:=s.heap.objs.size+1) rfl (by decide +kernel) (by decide +kernel) (by decide +kernel) (by decide +kernel) rfl rfl rfl (by decide +kernel) rfl) (fun _=>rfl) (ZuG T.Zn6 rfl rfl rfl (by walk_at "v")) (ZwN (i:=0) (j:=1) rfl (by decide) rfl rfl rfl rfl) (fun C fp s1 H1=>(by walk_at "v")) (fun C fp s1 H1=>(by walk_at "v"))) (by walk_at "v"))
abbrev Zep:List Str:=["one","other"]
theorem ZeI:Zao Zep ["one","other"] (Zac ZcJ):=by walk_at "s"
def ZeC (Za4:Spw):GS:=(Zar (gIf (gTB (Zah (Zak (eqF false)) (Zah (Zak ixW) (Zab 0) (gC (.int 0))) (gC (.str "free")))) (ZaD (Zab 1)) Zaq) (Zar (gIf (gTB (Zah (Zak (eqF false)) (Zah (Zak ixW) (Zab 1) (gC (.int 0))) (gC (.str "free")))) (ZaD (Zab 0)) Zaq) (ZaD (ZaI (Zaa (Zah (Zak ixW) (Zab 0) (gC (.int 0))) (Zaa (Zai Za4 XF (Zaa (Zah (Zak ixW) (Zab 0) (gC (.int 1))) (Zaa (Zah (Zak ixW) (Zab 1) (gC (.int 1))) Zag))) Zag))))))
theorem ZhO {k:Nat} (T:Tx K mg base a) {ZbU:Nat} {Za4:Spw} (Zjd:Df P w K mg base "meet_of" ZbU 2 Za4) (ZiZ:ZbU≤k):Dn P w K mg base Zep "meet_of_entries" ZcJ k (ZeC Za4):=by
 have hN:=ZeI.nd
 walk_at "z"
abbrev Zgb:List Str:=["one","other","names","entries"]
theorem Zeb:Zao Zgb ["one","other"] (Zac ZcZ):=by walk_at "s"
def Zgp (Zam:Spw) (Zap:Spw) (ZbJ:Spw) (Zcx:Spw):GS:=(Zar (Za2 2 (Zai Zam XF (Zaa (Zab 0) (Zaa (Zab 1) Zag)))) (Zar (Za2 3 (Zbk (Zbf (Zab 2)) 1 [0,1] (gNm 0) ZfN (Zai ZbJ XF (Zaa (Zai Zap XF (Zaa (Zab 1) (Zaa (Zab 0) Zag))) (Zaa (Zai Zap XF (Zaa (Zab 2) (Zaa (Zab 0) Zag))) Zag))))) (ZaD (Zai Zcx XF (Zaa (Zab 2) (Zaa (Zab 3) (Zaa (ZbC (Zah (Zak ixW) (Zab 0) (gC (.int 2))) (Zah (Zak ixW) (Zab 1) (gC (.int 2)))) Zag)))))))
theorem ZjQ {k:Nat} (T:Tx K mg base a) {Zav:Nat} {Zam:Spw} (ZdG:Df P w K mg base "names_of_both" Zav 2 Zam) (ZdH:Zav≤k) {ZaJ:Nat} {Zap:Spw} (Zf5:Df P w K mg base "entry_of" ZaJ 2 Zap) (Zf1:ZaJ≤k) {ZbX:Nat} {ZbJ:Spw} (Zps:Df P w K mg base "meet_of_entries" ZbX 2 ZbJ) (Zpx:ZbX≤k) {ZdO:Nat} {Zcx:Spw} (Zs4:Df P w K mg base "row_of" ZdO 3 Zcx) (Zuq:ZdO≤k):Dn P w K mg base Zgb "meet_of_rows" ZcZ k (Zgp Zam Zap ZbJ Zcx):=fun {f cdv A outer s H E} hr =>
 have hu:=Zeo hr
 have hN:=Zeb.nd
 (Zaj (by walk_at "v") (Zaj (ZiH (i:=3) Zeb.nd rfl rfl rfl rfl (Zxa (own:=["name"]) (fr:=["one","other"]) (js:=[0,1]) (scX:=Zac ZcZ) (n:=s.heap.objs.size+1) rfl (by decide +kernel) (by decide +kernel) (by decide +kernel) (by decide +kernel) rfl rfl rfl (by decide +kernel) rfl) (fun _=>rfl) (by walk_at "v") (Zg8 (i:=0) (by decide) rfl rfl) (fun C fp s1 H1=>Zbw) (fun C fp s1 H1=>(by walk_at "v"))) (by walk_at "v")))
abbrev ZlO:List Str:=["one","other"]
theorem Zni:Zao ZlO ["one","other"] (Zac Zje):=by walk_at "s"
def ZmM (Zcm:Spw) (Za4:Spw):GS:=(Zar (gIf (gTB (Zah (Zak (eqF false)) (Zah (Zak ixW) (Zab 0) (gC (.int 0))) (gC (.str "any")))) (ZaD (Zab 1)) Zaq) (Zar (gIf (gTB (Zah (Zak (eqF false)) (Zah (Zak ixW) (Zab 1) (gC (.int 0))) (gC (.str "any")))) (ZaD (Zab 0)) Zaq) (Zar (gIf (gTB (Zah (Zak (eqF false)) (Zah (Zak ixW) (Zab 0) (gC (.int 0))) (gC (.str "row")))) (ZaD (Zai Zcm XF (Zaa (Zab 0) (Zaa (Zab 1) Zag)))) Zaq) (ZaD (Zah (Zb3) (ZaI (Zaa (Zah (Zak ixW) (Zab 0) (gC (.int 0))) Zag)) (gB (rF Zke) (Zaa (Zbp (Zf9 (Zaa (Zgr (Zab 0) (Zbg (gC (.int 1))) Zax) (Zaa (Zgr (Zab 1) (Zbg (gC (.int 1))) Zax) Zag))) 2 (Zk8 0 1) ZfN (Zai Za4 XF (Zaa (Zab 0) (Zaa (Zab 1) Zag)))) Zag)))))))
theorem Zrg {k:Nat} (T:Tx K mg base a) {ZcX:Nat} {Zcm:Spw} (ZsF:Df P w K mg base "meet_of_rows" ZcX 2 Zcm) (ZsK:ZcX≤k) {ZbU:Nat} {Za4:Spw} (Zjd:Df P w K mg base "meet_of" ZbU 2 Za4) (ZiZ:ZbU≤k):Dn P w K mg base ZlO "meet_of" Zje k (ZmM Zcm Za4):=fun {f cdv A outer s H E} hr =>
 have hu:=Zeo hr
 have hN:=Zni.nd
 (Zaj (by walk_at "v") (Zaj (by walk_at "v") (Zaj (by walk_at "v") (Zas (Zbi (ZcK (by walk_at "v") (Zb5 Za0 (ZbE) rfl T.Zbl (by decide) rfl rfl rfl (ZaH rfl (Zdy (Nc:=["left","right"]) rfl (ZrF rfl (by decide +kernel) (by decide +kernel)) (fun _=>rfl) (Znz T.Zn6 rfl rfl rfl (by walk_at "v")) (Zlr (i:=0) (j:=1) rfl (by decide) rfl rfl rfl rfl) (fun C fp s1 H1=>Zbw) (fun C fp s1 H1=>(by walk_at "v"))) Zbx))))))))
abbrev Zyr:List Str:=["one","other"]
theorem Zxt:Zao Zyr ["one","other"] (Zac ZqA):=by walk_at "s"
def Zvj (Zal:Spw) (ZaG:Spw) (Za4:Spw) (E:Addr→Hw→Prop):GS:=(Zar (ZaT (Zai Zal (fun _=>E) (Zaa (Zab 0) (Zaa (Zab 1) Zag)))) (Zar (gIf (gTB (Zah (Zak (isF true)) (Zai ZaG (fun _=>E) (Zaa (Zab 0) (Zaa (Zab 1) Zag))) (gC .non))) (ZaD (gC .non)) Zaq) (ZaD (Zai Za4 (fun _=>E) (Zaa (Zab 0) (Zaa (Zab 1) Zag))))))
theorem ZAJ {k:Nat} (T:Tx K mg base a) {Zau:Nat} {Zal:Spw} (Zbb:Df P w K mg base "check_kinds" Zau 2 Zal) (Zba:Zau≤k) {Za1:Nat} {ZaG:Spw} (Zer:Df P w K mg base "clash_of" Za1 2 ZaG) (ZeG:Za1≤k) {ZbU:Nat} {Za4:Spw} (Zjd:Df P w K mg base "meet_of" ZbU 2 Za4) (ZiZ:ZbU≤k) {f:Addr} {cdv:Value} {A:Around} {outer:List Env} {s:Shared} {H:Hp} {E:XK} (hr:Room k (A.deeper (envOfC "met" (Zac ZqA) s.heap.objs.size f cdv))):Ssm (cxW P w K mg base Zyr "met" (Zac ZqA) f cdv A outer s H E) (fun B=>B=H) (ZaZ ZqA) (Zvj Zal ZaG Za4 (dnX K H E)) :=
 have hu:=Zeo hr
 have hN:=Zxt.nd
 (Zaj (ZaP rfl (ZaA Zbb (hr.mono Zba) rfl Zay rfl rfl rfl (by walk_at "v"))) (Zaj (ZdK (ZfD ZdI rfl (ZaA Zer (hr.mono ZeG) rfl Zay rfl rfl rfl (by walk_at "v")) Zfi) (by walk_at "v") Zco) (Zas (Zbi (ZaA Zjd (hr.mono ZiZ) rfl Zay rfl rfl rfl (by walk_at "v"))))))
abbrev Zeu:List Str:=["one","other"]
theorem ZeB:Zao Zeu ["one","other"] (Zac ZcF):=by walk_at "s"
def ZeJ (Za7:Spw):GS:=(Zar (gIf (gTB (Zah (Zak (eqF true)) (Zah (Zak ixW) (Zab 0) (gC (.int 0))) (Zah (Zak ixW) (Zab 1) (gC (.int 0))))) (ZaD (ZaI (Zaa (gC (.str "free")) Zag))) Zaq) (ZaD (ZaI (Zaa (Zah (Zak ixW) (Zab 0) (gC (.int 0))) (Zaa (Zai Za7 XF (Zaa (Zah (Zak ixW) (Zab 0) (gC (.int 1))) (Zaa (Zah (Zak ixW) (Zab 1) (gC (.int 1))) Zag))) Zag)))))
theorem ZhV {k:Nat} (T:Tx K mg base a) {ZbN:Nat} {Za7:Spw} (ZjC:Df P w K mg base "join_of" ZbN 2 Za7) (Zi6:ZbN≤k):Dn P w K mg base Zeu "join_of_entries" ZcF k (ZeJ Za7):=by
 have hN:=ZeB.nd
 walk_at "z"
abbrev Zgs:List Str:=["one","other","names","entries"]
theorem Zef:Zao Zgs ["one","other"] (Zac ZcU):=by walk_at "s"
def ZgB (Zam:Spw) (Zap:Spw) (ZbL:Spw) (Zcx:Spw):GS:=(Zar (Za2 2 (Zai Zam XF (Zaa (Zab 0) (Zaa (Zab 1) Zag)))) (Zar (Za2 3 (Zbk (Zbf (Zab 2)) 1 [0,1] (gNm 0) ZfN (Zai ZbL XF (Zaa (Zai Zap XF (Zaa (Zab 1) (Zaa (Zab 0) Zag))) (Zaa (Zai Zap XF (Zaa (Zab 2) (Zaa (Zab 0) Zag))) Zag))))) (ZaD (Zai Zcx XF (Zaa (Zab 2) (Zaa (Zab 3) (Zaa (Zf0 (Zah (Zak ixW) (Zab 0) (gC (.int 2))) (Zf0 (Zah (Zak ixW) (Zab 1) (gC (.int 2))) (Zah (Zak inT) (ZaI (Zaa (gC (.str "free")) Zag)) (Zab 3)))) Zag)))))))
theorem Zj1 {k:Nat} (T:Tx K mg base a) {Zav:Nat} {Zam:Spw} (ZdG:Df P w K mg base "names_of_both" Zav 2 Zam) (ZdH:Zav≤k) {ZaJ:Nat} {Zap:Spw} (Zf5:Df P w K mg base "entry_of" ZaJ 2 Zap) (Zf1:ZaJ≤k) {ZbW:Nat} {ZbL:Spw} (Zqa:Df P w K mg base "join_of_entries" ZbW 2 ZbL) (ZpE:ZbW≤k) {ZdO:Nat} {Zcx:Spw} (Zs4:Df P w K mg base "row_of" ZdO 3 Zcx) (Zuq:ZdO≤k):Dn P w K mg base Zgs "join_of_rows" ZcU k (ZgB Zam Zap ZbL Zcx):=fun {f cdv A outer s H E} hr =>
 have hu:=Zeo hr
 have hN:=Zef.nd
 (Zaj (by walk_at "v") (Zaj (ZiH (i:=3) Zef.nd rfl rfl rfl rfl (Zxa (own:=["name"]) (fr:=["one","other"]) (js:=[0,1]) (scX:=Zac ZcU) (n:=s.heap.objs.size+1) rfl (by decide +kernel) (by decide +kernel) (by decide +kernel) (by decide +kernel) rfl rfl rfl (by decide +kernel) rfl) (fun _=>rfl) (by walk_at "v") (Zg8 (i:=0) (by decide) rfl rfl) (fun C fp s1 H1=>Zbw) (fun C fp s1 H1=>(by walk_at "v"))) (by walk_at "v")))
abbrev ZmV:List Str:=["one","other"]
theorem ZlT:Zao ZmV ["one","other"] (Zac ZiP):=by walk_at "s"
def Zm1 (Zcv:Spw) (Za7:Spw):GS:=(Zar (gIf (gTB (Zah (Zak (eqF true)) (Zah (Zak ixW) (Zab 0) (gC (.int 0))) (Zah (Zak ixW) (Zab 1) (gC (.int 0))))) (ZaD (ZaI (Zaa (gC (.str "any")) Zag))) Zaq) (Zar (gIf (gTB (Zah (Zak (eqF false)) (Zah (Zak ixW) (Zab 0) (gC (.int 0))) (gC (.str "row")))) (ZaD (Zai Zcv XF (Zaa (Zab 0) (Zaa (Zab 1) Zag)))) Zaq) (ZaD (Zah (Zb3) (ZaI (Zaa (Zah (Zak ixW) (Zab 0) (gC (.int 0))) Zag)) (gB (rF Zke) (Zaa (Zbp (Zf9 (Zaa (Zgr (Zab 0) (Zbg (gC (.int 1))) Zax) (Zaa (Zgr (Zab 1) (Zbg (gC (.int 1))) Zax) Zag))) 2 (Zk8 0 1) ZfN (Zai Za7 XF (Zaa (Zab 0) (Zaa (Zab 1) Zag)))) Zag))))))
theorem Zqp {k:Nat} (T:Tx K mg base a) {Zc1:Nat} {Zcv:Spw} (ZsG:Df P w K mg base "join_of_rows" Zc1 2 Zcv) (ZsE:Zc1≤k) {ZbN:Nat} {Za7:Spw} (ZjC:Df P w K mg base "join_of" ZbN 2 Za7) (Zi6:ZbN≤k):Dn P w K mg base ZmV "join_of" ZiP k (Zm1 Zcv Za7):=fun {f cdv A outer s H E} hr =>
 have hu:=Zeo hr
 have hN:=ZlT.nd
 (Zaj (by walk_at "v") (Zaj (by walk_at "v") (Zas (Zbi (ZcK (by walk_at "v") (Zb5 Za0 (ZbE) rfl T.Zbl (by decide) rfl rfl rfl (ZaH rfl (Zdy (Nc:=["left","right"]) rfl (ZrF rfl (by decide +kernel) (by decide +kernel)) (fun _=>rfl) (Znz T.Zn6 rfl rfl rfl (by walk_at "v")) (Zlr (i:=0) (j:=1) rfl (by decide) rfl rfl rfl rfl) (fun C fp s1 H1=>Zbw) (fun C fp s1 H1=>(by walk_at "v"))) Zbx)))))))
abbrev Zo4:List Str:=["one","other"]
theorem ZoA:Zao Zo4 ["one","other"] (Zac Zhj):=by walk_at "s"
def Zlu (Zal:Spw) (Za7:Spw) (E:Addr→Hw→Prop):GS:=(Zar (ZaT (Zai Zal (fun _=>E) (Zaa (Zab 0) (Zaa (Zab 1) Zag)))) (ZaD (Zai Za7 (fun _=>E) (Zaa (Zab 0) (Zaa (Zab 1) Zag)))))
theorem ZtJ {k:Nat} (T:Tx K mg base a) {Zau:Nat} {Zal:Spw} (Zbb:Df P w K mg base "check_kinds" Zau 2 Zal) (Zba:Zau≤k) {ZbN:Nat} {Za7:Spw} (ZjC:Df P w K mg base "join_of" ZbN 2 Za7) (Zi6:ZbN≤k) {f:Addr} {cdv:Value} {A:Around} {outer:List Env} {s:Shared} {H:Hp} {E:XK} (hr:Room k (A.deeper (envOfC "joined" (Zac Zhj) s.heap.objs.size f cdv))):Ssm (cxW P w K mg base Zo4 "joined" (Zac Zhj) f cdv A outer s H E) (fun B=>B=H) (ZaZ Zhj) (Zlu Zal Za7 (dnX K H E)) :=
 have hu:=Zeo hr
 have hN:=ZoA.nd
 (Zaj (ZaP rfl (ZaA Zbb (hr.mono Zba) rfl Zay rfl rfl rfl (by walk_at "v"))) (Zas (Zbi (ZaA ZjC (hr.mono Zi6) rfl Zay rfl rfl rfl (by walk_at "v")))))
def Fs.toL:Fs→List (Str×Bool×Kd)
 | .nil=>[]
 | .cons n m k r=>(n,m,k)::r.toL
theorem Zr9:∀ fs:Fs,fs.enc=fs.toL.map ZlL
 | .nil=>rfl
 | .cons n m k r=>by show _::r.enc=_::r.toL.map ZlL;rw [Zr9 r];rfl
theorem Zjl:∀ fs:Fs,fs.names=fs.toL.map (·.1)
 | .nil=>rfl
 | .cons n m k r=>by show _::r.names=_::r.toL.map _;rw [Zjl r]
theorem Zl0:∀ {fs:Fs} {u:Str×Bool×Kd},u∈fs.toL→u.2.2∈fs.kinds
 | .nil,u,h=>by cases h
 | .cons n m k r,u,h=>by
  rcases List.mem_cons.mp h with rfl | h
  ·exact List.mem_cons_self
  ·exact List.mem_cons_of_mem _ (Zl0 h)
theorem ZoB:∀ {fs:Fs} {x:Str} {m:Bool} {k:Kd},fs.names.Pairwise (fun x y=>ZbT x y=true)→(x,m,k)∈fs.toL→fs.find x=some (m,k)
 | .nil,x,m,k,_,h=>by cases h
 | .cons n m' k' r,x,m,k,hp,h=>by
  have hp':(n::r.names).Pairwise (fun x y=>ZbT x y=true):=hp
  obtain ⟨a1,a2⟩:=List.pairwise_cons.mp hp'
  unfold Fs.find
  rcases List.mem_cons.mp h with e | h
  ·cases e;rw [if_pos rfl]
  ·have hx:x∈r.names:=by rw [Zjl];exact List.mem_map.mpr ⟨_,h,rfl⟩
   rw [if_neg (fun e=>by subst e;have:=a1 _ hx;rw [Zm8] at this;cases this)]
   exact ZoB a2 h
theorem ZuF:∀ fs:Fs,ofL fs.toL=fs
 | .nil=>rfl
 | .cons n m k r=>by show Fs.cons n m k (ofL r.toL)=_;rw [ZuF r]
theorem ZyC:∀ x∈abc,∀ y∈abc,ltCps y.cps.toList x.cps.toList=false→x≠y→ZbT x y=true:=by decide +kernel
theorem Zzu:∀ (p:Str) (r:List Str),risingS p r=true→p∈abc→(∀ x∈r,x∈abc)→(p::r).Nodup→(p::r).Pairwise (fun x y=>ZbT x y=true)
 | p,[],_,_,_,_=>.cons (fun _ h=>by cases h) .nil
 | p,x::r,h,hp,hr,hn=>by
  have h':(!ltCps x.cps.toList p.cps.toList&&risingS x r)=true:=h
  simp only [Bool.and_eq_true,Bool.not_eq_true'] at h'
  obtain ⟨n1,n2⟩:=List.nodup_cons.mp hn
  have ih:=Zzu x r h'.2 (hr x List.mem_cons_self) (fun z hz=>hr z (List.mem_cons_of_mem _ hz)) n2
  have hpx:=ZyC p hp x (hr x List.mem_cons_self) h'.1 fun e=>n1 (by rw [e];exact List.mem_cons_self)
  refine .cons (fun z hz=>?_) ih
  rcases List.mem_cons.mp hz with rfl | hz
  ·exact hpx
  ·exact Zvl hpx ((List.pairwise_cons.mp ih).1 z hz)
abbrev spD (n:Nat):Spw:=spR (fun (k:Kd) ws _=>ws=[k.enc,k.enc]∧wf k∧k.dp≤n) Kd.enc
abbrev ZxW (n:Nat):Spw:=spR (fun (x:Bool×Kd) ws _=>ws=[(En.told x.1 x.2).enc,(En.told x.1 x.2).enc]∧wf x.2∧x.2.dp≤n) fun x=>(En.told x.1 x.2).enc
abbrev ZBq (n:Nat):Spw:=spR (fun (x:Fs×Bool) ws _=>ws=[(Kd.row x.1 x.2).enc,(Kd.row x.1 x.2).enc]∧wf (.row x.1 x.2)∧(Kd.row x.1 x.2).dp≤n+1) fun x=>(Kd.row x.1 x.2).enc
theorem Zwp {m:Bool} {k:Kd} (hd:k.dp≤20) (G:Hw):eqW (.tup [.str (mark m),k.enc]) (.tup [.str "free"]) G=some false:=by
 have h:=ZkG k
 show (if max 0 (max (dpW k.enc) 0) < 90 then ZjY [.str (mark m),k.enc] [.str "free"] else none)=_
 rw [if_pos (by omega)]
 show (match some (mark m=="free"),some false with | some a,some b=>some (a&&b) | _,_=>none)=some false
 simp
theorem Zoq {gd:Hw→Prop} {R:List W→Hw→Prop} {G:Hw} (hgd:gd G):∀ (us:List (Str×Bool×Kd)) (o o':Option W) (ys:List W),(∀ u∈us,u.2.2.dp≤20) →
  ys.length+us.length≤sizeLine→R (ys++us.map ZlL) G→ZbD gd (Zk8 0 1) (gTB (Zah (Zak (eqF true)) (Zab 1) (L3.ZaI (L3.Zaa (gC (.str "free")) L3.Zag)))) (Zah Zb3 (L3.ZaI (L3.Zaa (Zab 0) L3.Zag)) (Zab 1)) R (us.map fun u=>W.tup [.str u.1,(En.told u.2.1 u.2.2).enc]) [o,o'] G ys
 | [],o,o',ys,_,_,r=>⟨hgd,by simpa using r⟩
 | (x,m,k)::us,o,o',ys,h,hl,r=>by
  have hl':ys.length+(us.length+1)≤sizeLine:=hl
  refine ⟨hgd,by omega,?_⟩
  simp only [Zk8,List.set_cons_zero,List.set_cons_succ,gTB,Zah,Zab,L3.ZaI,L3.Zaa,L3.Zag,gC,Zak,List.getElem?_cons_zero,List.getElem?_cons_succ]
  refine ⟨by decide,?_⟩
  have hk:k.dp≤20:=h (x,m,k) List.mem_cons_self
  have e1:eqF true (En.told m k).enc (.tup [.str "free"]) G=some (.bl true):=by unfold eqF;rw [show (En.told m k).enc=.tup [.str (mark m),k.enc] from rfl,Zwp hk];rfl
  rw [e1]
  simp only [Zae,if_true]
  refine ⟨(show 1≤sizeLine by decide),?_⟩
  rw [show (En.told m k).enc=.tup [.str (mark m),k.enc] from rfl,Zbt]
  refine ⟨(show 1+2≤sizeLine by decide),?_⟩
  refine Zoq hgd us _ _ _ (fun u hu=>h u (List.mem_cons_of_mem _ hu)) (by simp only [List.length_append,List.length_cons,List.length_nil];omega) ?_
  simpa [ZlL,List.append_assoc] using r
abbrev Zzz:Spw:=spR (fun (x:List (Str×Bool×Kd)×Addr×Addr×Bool) ws G=>ws=[.ref x.2.1,.ref x.2.2.1,.bl x.2.2.2]∧G x.2.1=some (.lst (x.1.map fun u=>W.str u.1))∧G x.2.2.1=some (.lst (x.1.map fun u=>(En.told u.2.1 u.2.2).enc))∧x.1.length≤100∧∀ u∈x.1,u.2.2.dp≤20) fun x=>(Kd.row (ofL x.1) x.2.2.2).enc
theorem Zhs {G:Hw} {p:Addr} {xs:List W} (h:G p=some (.lst xs)):rdL G (.ref p)=some xs:=by unfold rdL;dsimp only;rw [h]
theorem ZdO (T:Tx K mg base a):Df P w K mg base "row_of" 1 3 Zzz:=by
 refine mk0 T.ZsN rfl ZlE ZbY (fun ws G Q E ⟨x,⟨e,_⟩,_⟩=>by rw [e];rfl) (Ztd T) fun ws G Q E hC q=>?_
 obtain ⟨⟨us,p1,p2,b⟩,⟨rfl,h1,h2,hl,hk⟩,q⟩:=q
 dsimp only at h1 h2 hl hk q
 unfold Zob
 show Zar (Za2 3 _) _ (ZaK Q) [some (.ref p1),some (.ref p2),some (.bl b),none] G
 simp only [Zar,Za2,Zbk,Zhr,L3.Zaa,L3.Zag,Zab,List.getElem?_cons_zero,List.getElem?_cons_succ,Zhs h1,Zhs h2]
 have ez:ZlF (us.map fun u=>W.str u.1) (us.map fun u=>(En.told u.2.1 u.2.2).enc)=us.map fun u=>W.tup [.str u.1,(En.told u.2.1 u.2.2).enc]:=by
  rw [Zhq,List.zip_map',List.map_map];rfl
 rw [ez]
 refine Zoq (G:=G) ⟨Zhs h1,Zhs h2⟩ us none none [] hk (by simp only [List.length_nil];exact Za3 (by omega)) fun p hp=>?_
 simp only [ZaD,L3.ZaI,L3.Zaa,L3.Zag,gC,gB,rF,Zab,List.set_cons_zero,List.set_cons_succ,List.getElem?_cons_zero,List.getElem?_cons_succ,Zke,ZnL Zaf,Option.map_some,Zae,ZaK,List.nil_append]
 refine ⟨(show 3≤sizeLine by decide),?_⟩
 have e:(Kd.row (ofL us) b).enc=.tup [.str "row",.tup (us.map ZlL),.bl b]:=by rw [← ZnF];rfl
 rw [e] at q
 exact hC _ _ _ (Zbm hp) q
theorem Zpj {fs:Fs} {o:Bool} (w1:wf (.row fs o)) {zs:List Str} (z1:zs.Nodup) (z2:sortedS zs=true) (z3:∀ x,x∈zs↔x∈fs.names∨x∈fs.names):zs=fs.names:=by
 have ha:∀ x∈zs,x∈abc:=fun x hx=>(ZoH w1.2).2 x (((z3 x).mp hx).elim id id)
 refine Zoi ?_ (Zqz w1.1).1 fun x=>by rw [z3,or_self]
 cases zs with
 | nil=>exact .nil
 | cons x r=>exact Zzu x r z2 (ha x List.mem_cons_self) (fun z hz=>ha z (List.mem_cons_of_mem _ hz)) z1
theorem Ztp {fs:Fs} {o:Bool} (w1:wf (.row fs o)):∃ us:List (Str×Bool×Kd),fs=ofL us∧fs.names=us.map (·.1)∧(∀ u∈us,u.2.2∈fs.kinds)∧∀ u∈us,ent fs o u.1=.told u.2.1 u.2.2:=by
 refine ⟨fs.toL,(ZuF fs).symm,Zjl fs,fun u hu=>Zl0 hu,fun u hu=>?_⟩
 unfold ent
 rw [ZoB (Zqz w1.1).1 (show (u.1,u.2.1,u.2.2)∈fs.toL from hu)]
abbrev gRw (sp:Spw) (e:GE):GS:=Zar (Za2 2 (Zai Zo1 XF (L3.Zaa (Zab 0) (L3.Zaa (Zab 1) L3.Zag)))) (Zar (Za2 3 (Zbk (Zbf (Zab 2)) 1 [0,1] (gNm 0) ZfN (Zai sp XF (L3.Zaa (Zai Zg1 XF (L3.Zaa (Zab 1) (L3.Zaa (Zab 0) L3.Zag))) (L3.Zaa (Zai Zg1 XF (L3.Zaa (Zab 2) (L3.Zaa (Zab 0) L3.Zag))) L3.Zag))))) (ZaD (Zai Zzz XF (L3.Zaa (Zab 2) (L3.Zaa (Zab 3) (L3.Zaa e L3.Zag))))))
theorem ZyS {n:Nat} {fs:Fs} {o:Bool} {G:Hw} {Q:Kw} {e:GE} (hC:Kw.C Q) (w1:wf (.row fs o)) (hd:(Kd.row fs o).dp≤n+1) (hn:n≤19) (q:Q (Kd.row fs o).enc G)
  (he:∀ (us:List (Str×Bool×Kd)) (r r2:Addr) (G2:Hw) (Q':Kw),(∀ u∈us,u.2.2.dp≤20)→G2 r2=some (.lst (us.map fun u=>(En.told u.2.1 u.2.2).enc))→Q' (.bl o) G2→e [some (Kd.row fs o).enc,some (Kd.row fs o).enc,some (.ref r),some (.ref r2)] G2 Q'):gRw (ZxW n) e (ZaK Q) [some (Kd.row fs o).enc,some (Kd.row fs o).enc,none,none] G:=by
 obtain ⟨us,e1,e2,e3,e4⟩:=Ztp w1
 have hl:=Zd2 w1
 have hul:us.length < 16:=by rw [e2,List.length_map] at hl;exact hl
 have hk:∀ u∈us,u.2.2.dp≤20:=fun u hu=>by have:=Zjh (k:=.row fs o) (c:=u.2.2) (e3 u hu);omega
 simp only [gRw,Zar,Za2,Zai,Zab,L3.Zaa,L3.Zag,List.getElem?_cons_zero,List.getElem?_cons_succ,List.set_cons_zero,List.set_cons_succ]
 refine ⟨fs,fs,o,o,rfl,Zd2 w1,Zd2 w1,fun zs r z1 z2 z3 z4=>?_⟩
 have hz:=Zpj w1 z1 z2 z3
 have hz':zs.map W.str=us.map fun u=>W.str u.1:=by rw [hz,e2,List.map_map];rfl
 rw [hz']
 simp only [Zbk,Zbf,Zab,List.getElem?_cons_zero,List.getElem?_cons_succ,Zg3,List.map_cons,List.map_nil,List.replicate,List.cons_append,List.nil_append,Zaf]
 refine ZsL (enc:=fun u:Str×Bool×Kd=>W.str u.1) (f:=fun u=>(En.told u.2.1 u.2.2).enc) (cst:=[some (Kd.row fs o).enc,some (Kd.row fs o).enc]) Zaf us none [] (fun u hu Q' q'=>?_) (by simp only [List.length_nil];exact Za3 (by omega)) fun r2 hr2=>?_
 ·show Zai _ _ _ [some (.str u.1),some (Kd.row fs o).enc,some (Kd.row fs o).enc] _ Q'
  walk_at "rd"
  refine ⟨(fs,o,u.1),rfl,(fs,o,u.1),rfl,(u.2.1,u.2.2),⟨?_,ZgW w1 hd _ (e3 u hu)⟩,q'⟩
  dsimp only;rw [e4 u hu]
 ·rw [List.nil_append]
  have nrr:r≠r2:=ZaO Zaf hr2
  have hsub:=ZbV (o:=.lst (us.map fun u=>(En.told u.2.1 u.2.2).enc)) (Zbm z4) hr2
  simp only [ZaD,Zai,L3.Zaa,L3.Zag,Zab,List.getElem?_cons_zero,List.getElem?_cons_succ,List.set_cons_zero,List.set_cons_succ,ZaK]
  refine he us r r2 _ _ hk Zaf ?_
  refine ⟨(us,r,r2,o),⟨rfl,by dsimp only;rw [Zat nrr];exact Zaf,Zaf,by dsimp only;omega,hk⟩,?_⟩
  dsimp only
  rw [← e1]
  exact hC _ _ _ hsub q
abbrev gJ (sp:Spw):GE:=Zah Zb3 (L3.ZaI (L3.Zaa (Zah (Zak ixW) (Zab 0) (gC (.int 0))) L3.Zag)) (gB (rF Zke) (L3.Zaa (Zbp (Zf9 (L3.Zaa (Zgr (Zab 0) (Zbg (gC (.int 1))) Zax) (L3.Zaa (Zgr (Zab 1) (Zbg (gC (.int 1))) Zax) L3.Zag))) 2 (Zk8 0 1) ZfN (Zai sp XF (L3.Zaa (Zab 0) (L3.Zaa (Zab 1) L3.Zag)))) L3.Zag))
theorem ZzO {n:Nat} {k:Kd} {ω:Sw} {G:Hw} {Q:Kw} (h0:ω[0]?=some (some k.enc)) (h1:ω[1]?=some (some k.enc)) (hC:Kw.C Q) (hr:¬ k.hd="row") (hw:wf k) (hd:k.dp≤n+1) (q:Q k.enc G):gJ (spD n) ω G Q:=by
 obtain ⟨ek,hk⟩:=Zo3 hr
 rw [ek] at h0 h1 q
 unfold gJ
 simp only [Zah,L3.ZaI,L3.Zaa,L3.Zag,Zab,h0,h1,gC,Zak,ixW,Zbo,Zae,gB,Zbp,Zf9,Zgr,Zbg,Zax,slA,ZjW,List.drop_succ_cons,List.drop_zero]
 refine ⟨(show 1≤sizeLine by decide),_,_,rfl,?_⟩
 have e3:ZlF (k.kids.map Kd.enc) (k.kids.map Kd.enc)=k.kids.map fun x=>W.tup [x.enc,x.enc]:=by
  rw [Zhq,List.zip_map',List.map_map];rfl
 rw [e3]
 refine Zsq (e1:=Kd.enc) (e2:=Kd.enc) (f:=Kd.enc) trivial k.kids none none [] (fun x hx' Q' q'=>?_) (by simp only [List.length_nil];exact Za3 (by omega)) fun p hp=>?_
 ·show Zai _ _ _ [some x.enc,some x.enc] G Q'
  walk_at "rd"
  exact ⟨x,⟨rfl,ZgW hw hd x hx'⟩,q'⟩
 rw [List.nil_append]
 simp only [rF,Zke,ZnL Zaf,Option.map_some,Zae]
 rw [Zbt]
 exact ⟨by simp only [List.length_cons,List.length_nil,List.length_map];exact Za3 (by omega),hC _ _ _ (Zbm hp) q⟩
theorem ZbX (T:Tx K mg base a) {j n:Nat} (D:Df P w K mg base "meet_of" j 2 (spD n)):Df P w K mg base "meet_of_entries" (j+1) 2 (ZxW n):=by
 refine mk0 T.ZhY rfl ZeI ZbY (fun ws G Q E ⟨x,⟨e,_⟩,_⟩=>by rw [e];rfl) (ZhO T D (Nat.le_refl _)) fun ws G Q E hC q=>?_
 obtain ⟨⟨m,k⟩,⟨rfl,h1,h2⟩,q⟩:=q
 dsimp only at h1 h2 q
 unfold ZeC
 cases m <;> (simp only [En.enc,mark] at q ⊢;walk_at "rd";exact ⟨k,⟨rfl,h1,h2⟩,(show 2≤sizeLine by decide),q⟩)
theorem ZbW (T:Tx K mg base a) {j n:Nat} (D:Df P w K mg base "join_of" j 2 (spD n)):Df P w K mg base "join_of_entries" (j+1) 2 (ZxW n):=by
 refine mk0 T.ZhW rfl ZeB ZbY (fun ws G Q E ⟨x,⟨e,_⟩,_⟩=>by rw [e];rfl) (ZhV T D (Nat.le_refl _)) fun ws G Q E hC q=>?_
 obtain ⟨⟨m,k⟩,⟨rfl,h1,h2⟩,q⟩:=q
 dsimp only at h1 h2 q
 unfold ZeJ
 cases m <;> (simp only [En.enc,mark] at q ⊢;walk_at "rd";exact ⟨k,⟨rfl,h1,h2⟩,(show 2≤sizeLine by decide),q⟩)
theorem ZcX (T:Tx K mg base a) {j n:Nat} (hj:2≤j) (hn:n≤19) (D:Df P w K mg base "meet_of_entries" j 2 (ZxW n)):Df P w K mg base "meet_of_rows" (j+1) 2 (ZBq n):=by
 refine mk0 T.Zj3 rfl Zeb ZbY (fun ws G Q E ⟨x,⟨e,_⟩,_⟩=>by rw [e];rfl) (ZjQ T (Zav T) hj (ZaJ T) (by omega) D (Nat.le_refl _) (ZdO T) (by omega)) fun ws G Q E hC q=>?_
 obtain ⟨⟨fs,o⟩,⟨rfl,w1,hd⟩,q⟩:=q
 dsimp only at w1 hd q
 unfold Zgp
 refine ZyS hC w1 hd hn q fun us r r2 G2 Q' _ _ q'=>?_
 simp only [ZbC,Zah,Zak,Zab,gC,List.getElem?_cons_zero,List.getElem?_cons_succ,Kd.enc,ixW,Zcd,Zae,ZeM]
 cases o <;> exact q'
theorem Zoz:∀ us:List (Str×Bool×Kd),(∀ u∈us,u.2.2.dp≤20)→ZvW (.tup [.str "free"]) (us.map fun u=>(En.told u.2.1 u.2.2).enc)=some false
 | [],_=>rfl
 | (x,m,k)::us,h=>by
  have ih:=Zoz us fun y hy=>h y (List.mem_cons_of_mem _ hy)
  have hd:k.dp≤20:=h (x,m,k) List.mem_cons_self
  rw [List.map_cons]
  unfold ZvW
  have h3:=ZkG k
  have e1:eqD (En.told m k).enc (.tup [.str "free"])=some false:=by
   show (match some (mark m=="free"),some false with | some a,some b=>some (a&&b) | _,_=>none)=some false
   simp
  have h4:dpW (En.told m k).enc < 90:=by show max 0 (max (dpW k.enc) 0)+1 < 90;omega
  rw [if_pos h4,e1,ih];rfl
theorem Zc1 (T:Tx K mg base a) {j n:Nat} (hj:2≤j) (hn:n≤19) (D:Df P w K mg base "join_of_entries" j 2 (ZxW n)):Df P w K mg base "join_of_rows" (j+1) 2 (ZBq n):=by
 refine mk0 T.ZjJ rfl Zef ZbY (fun ws G Q E ⟨x,⟨e,_⟩,_⟩=>by rw [e];rfl) (Zj1 T (Zav T) hj (ZaJ T) (by omega) D (Nat.le_refl _) (ZdO T) (by omega)) fun ws G Q E hC q=>?_
 obtain ⟨⟨fs,o⟩,⟨rfl,w1,hd⟩,q⟩:=q
 dsimp only at w1 hd q
 unfold ZgB
 refine ZyS hC w1 hd hn q fun us r r2 G2 Q' hk h2 q'=>?_
 simp only [Zf0,Zah,Zak,Zab,gC,L3.ZaI,L3.Zaa,L3.Zag,List.getElem?_cons_zero,List.getElem?_cons_succ,Kd.enc,ixW,Zcd,Zae,ZeM]
 cases o with
 | true=>exact q'
 | false =>
  refine ⟨(show 1≤sizeLine by decide),?_⟩
  have ei:inT (.tup [.str "free"]) (.ref r2) G2=some (.bl false):=by
   unfold inT
   rw [Zhs h2,Option.bind_some,Zoz us hk];rfl
  rw [ei]
  exact q'
theorem ZbU (T:Tx K mg base a):∀ n:Nat,n≤20→Df P w K mg base "meet_of" (3*n+2) 2 (spD n)
 | 0,_=>ZlC T.Zng ZbY fun ws G Q E ⟨x,⟨_,_,h⟩,_⟩=>by have:=ZgI x;omega
 | n+1,hn=>by
  have D:=ZbU T n (by omega)
  have DR:=ZcX T (by omega) (by omega) (ZbX T D)
  refine mk0 (k:=3*n+4) T.Zng rfl Zni ZbY (fun ws G Q E ⟨x,⟨e,_⟩,_⟩=>by rw [e];rfl) (Zrg T DR (Nat.le_refl _) D (by omega)) fun ws G Q E hC q=>?_
  obtain ⟨k,⟨rfl,w1,hd⟩,q⟩:=q
  unfold ZmM
  show Zar (gIf _ _ Zaq) (Zar (gIf _ _ Zaq) (Zar (gIf _ _ Zaq) (ZaD (gJ (spD n))))) (ZaK Q) [some k.enc,some k.enc] G
  simp only [Zar,gIf,gTB,Zah,Zak,Zab,gC,ZaD,List.getElem?_cons_zero,List.getElem?_cons_succ,Zde,Zae,eqF,eqW,Option.map_some,Zaq]
  by_cases ha:k.hd="any"
  ·have:(k.hd=="any")=true:=by simp [ha]
   rw [this];exact q
  have h1:(k.hd=="any")=false:=by simpa using ha
  simp only [h1,bne_self_eq_false,Bool.false_eq_true,if_false]
  by_cases hr:k.hd="row"
  ·obtain ⟨fs,o,rfl⟩:=ZmU hr
   exact ⟨(fs,o),⟨rfl,w1,hd⟩,q⟩
  ·have h2:(k.hd=="row")=false:=by simpa using hr
   simp only [h2,bne_self_eq_false,Bool.false_eq_true,if_false]
   exact ZzO rfl rfl hC hr w1 hd q
theorem ZbN (T:Tx K mg base a):∀ n:Nat,n≤20→Df P w K mg base "join_of" (3*n+2) 2 (spD n)
 | 0,_=>ZlC T.ZmI ZbY fun ws G Q E ⟨x,⟨_,_,h⟩,_⟩=>by have:=ZgI x;omega
 | n+1,hn=>by
  have D:=ZbN T n (by omega)
  have DR:=Zc1 T (by omega) (by omega) (ZbW T D)
  refine mk0 (k:=3*n+4) T.ZmI rfl ZlT ZbY (fun ws G Q E ⟨x,⟨e,_⟩,_⟩=>by rw [e];rfl) (Zqp T DR (Nat.le_refl _) D (by omega)) fun ws G Q E hC q=>?_
  obtain ⟨k,⟨rfl,w1,hd⟩,q⟩:=q
  unfold Zm1
  show Zar (gIf _ _ Zaq) (Zar (gIf _ _ Zaq) (ZaD (gJ (spD n)))) (ZaK Q) [some k.enc,some k.enc] G
  refine Zhc rfl rfl (Zde k G) (Zde k G) ?_
  rw [if_pos rfl]
  refine Zjg (k:=k) rfl ?_
  by_cases hr:k.hd="row"
  ·rw [if_pos hr]
   obtain ⟨fs,o,rfl⟩:=ZmU hr
   exact ⟨(fs,o),⟨rfl,w1,hd⟩,q⟩
  ·rw [if_neg hr]
   exact ZzO rfl rfl hC hr w1 hd q
abbrev Zfq:List Str:=["field","sign"]
theorem Zfg:Zao Zfq ["field"] (Zac ZdC):=by walk_at "s"
def ZfB (ZaW:Spw):GS:=(Zar (Za2 1 (ZgV (gTB (Zah (Zak (eqF false)) (Zah (Zak ixW) (Zab 0) (gC (.int 1))) (gC (.str "must")))) (gC (.str "")) (gC (.str "?")))) (ZaD (Zah (Zb3) (Zah (Zb3) (Zah (Zb3) (Zah (Zak ixW) (Zab 0) (gC (.int 0))) (Zab 1)) (gC (.str ": "))) (Zai ZaW XF (Zaa (Zah (Zak ixW) (Zab 0) (gC (.int 2))) Zag)))))
theorem Zi4 {k:Nat} (T:Tx K mg base a) {ZbQ:Nat} {ZaW:Spw} (ZjF:Df P w K mg base "written" ZbQ 1 ZaW) (Zi8:ZbQ≤k):Dn P w K mg base Zfq "field_written" ZdC k (ZfB ZaW):=by
 have hN:=Zfg.nd
 walk_at "z"
abbrev Zha:List Str:=["row","pieces"]
theorem ZeP:Zao Zha ["row"] (Zac Zdq):=by walk_at "s"
def Zhi (Zb9:Spw):GS:=(Zar (Za2 1 (Zbk (Zbf (Zah (Zak ixW) (Zab 0) (gC (.int 1)))) 1 [] (gNm 0) ZfN (Zai Zb9 XF (Zaa (Zab 0) Zag)))) (Zar (gIf (Zd3 (Zah (Zak ixW) (Zab 0) (gC (.int 2)))) (ZaT (gMt Zi7 ZuD (Zab 1) (Zaa (gC (.str "..")) Zag))) Zaq) (ZaD (Zah (Zb3) (Zah (Zb3) (gC (.str "{")) (gMt isStr ZtE (gC (.str ", ")) (Zaa (Zab 1) Zag))) (gC (.str "}"))))))
theorem Zlg {k:Nat} (T:Tx K mg base a) {ZcA:Nat} {Zb9:Spw} (Zqm:Df P w K mg base "field_written" ZcA 1 Zb9) (Zsu:ZcA≤k):Dn P w K mg base Zha "row_written" Zdq k (Zhi Zb9):=fun {f cdv A outer s H E} hr =>
 have hu:=Zeo hr
 have hN:=ZeP.nd
 (Zaj (ZiH (i:=1) ZeP.nd rfl rfl rfl rfl (Zxa (own:=["field"]) (fr:=[]) (js:=[]) (scX:=Zac Zdq) (n:=s.heap.objs.size+1) rfl (by decide +kernel) (by decide +kernel) (by decide +kernel) (by decide +kernel) rfl rfl rfl (by decide +kernel) rfl) (fun _=>rfl) (by walk_at "v") (Zg8 (i:=0) (by decide) rfl rfl) (fun C fp s1 H1=>Zbw) (fun C fp s1 H1=>(by walk_at "v"))) (by walk_at "v"))
abbrev Zl9:List Str:=["kind"]
theorem Zma:Zao Zl9 ["kind"] (Zac ZiT):=by walk_at "s"
def Zmc (ZaW:Spw) (ZcQ:Spw):GS:=(Zar (gIf (gTB (Zah (Zak (eqF false)) (Zah (Zak ixW) (Zab 0) (gC (.int 0))) (gC (.str "to")))) (ZaD (Zah (Zb3) (Zah (Zb3) (Zah (Zb3) (Zah (Zb3) (gC (.str "(")) (Zai ZaW XF (Zaa (Zah (Zak ixW) (Zab 0) (gC (.int 1))) Zag))) (gC (.str " > "))) (Zai ZaW XF (Zaa (Zah (Zak ixW) (Zab 0) (gC (.int 2))) Zag))) (gC (.str ")")))) Zaq) (Zar (gIf (gTB (Zah (Zak (eqF false)) (Zah (Zak ixW) (Zab 0) (gC (.int 0))) (gC (.str "box")))) (ZaD (Zah (Zb3) (Zah (Zb3) (gC (.str "[")) (Zai ZaW XF (Zaa (Zah (Zak ixW) (Zab 0) (gC (.int 1))) Zag))) (gC (.str "]")))) Zaq) (Zar (gIf (gTB (Zah (Zak (eqF false)) (Zah (Zak ixW) (Zab 0) (gC (.int 0))) (gC (.str "row")))) (ZaD (Zai ZcQ XF (Zaa (Zab 0) Zag))) Zaq) (ZaD (Zah (Zak ixW) (Zab 0) (gC (.int 0)))))))
theorem Zrj {k:Nat} (T:Tx K mg base a) {ZbQ:Nat} {ZaW:Spw} (ZjF:Df P w K mg base "written" ZbQ 1 ZaW) (Zi8:ZbQ≤k) {Zdm:Nat} {ZcQ:Spw} (ZtG:Df P w K mg base "row_written" Zdm 1 ZcQ) (ZsW:Zdm≤k):Dn P w K mg base Zl9 "written" ZiT k (Zmc ZaW ZcQ):=by
 have hN:=Zma.nd
 walk_at "z"
abbrev Zii:List Str:=["kind"]
theorem Zh3:Zao Zii ["kind"] (Zac Zc6):=by walk_at "s"
def Zfs (Zan:Spw) (ZaW:Spw) (E:Addr→Hw→Prop):GS:=(Zar (ZaT (Zai Zan (fun _=>E) (Zaa (Zab 0) Zag))) (ZaD (Zai ZaW (fun _=>E) (Zaa (Zab 0) Zag))))
theorem Zml {k:Nat} (T:Tx K mg base a) {Zaz:Nat} {Zan:Spw} (Zbe:Df P w K mg base "check_kind" Zaz 1 Zan) (Zbc:Zaz≤k) {ZbQ:Nat} {ZaW:Spw} (ZjF:Df P w K mg base "written" ZbQ 1 ZaW) (Zi8:ZbQ≤k) {f:Addr} {cdv:Value} {A:Around} {outer:List Env} {s:Shared} {H:Hp} {E:XK} (hr:Room k (A.deeper (envOfC "kind_shown" (Zac Zc6) s.heap.objs.size f cdv))):Ssm (cxW P w K mg base Zii "kind_shown" (Zac Zc6) f cdv A outer s H E) (fun B=>B=H) (ZaZ Zc6) (Zfs Zan ZaW (dnX K H E)) :=
 have hu:=Zeo hr
 have hN:=Zh3.nd
 (Zaj (ZaP rfl (ZaA Zbe (hr.mono Zbc) rfl Zay rfl rfl rfl (by walk_at "v"))) (Zas (Zbi (ZaA ZjF (hr.mono Zi8) rfl Zay rfl rfl rfl (by walk_at "v")))))
local macro_rules | `(tactic| walk_at "rd") => `(tactic| ((try dsimp only [Zgr,Zbk,Zbt,Zg3,Zar,gIf,ZaD,Za2,ZaT,Zaq,Zab,gC,Zah,gTB,Zd3,gNt,ZfE,gOr,ZbC,Zf0,ZcC,ZgV,L3.ZaI,Zb1,L3.Zaa,L3.Zag,Zai,gB,rF,Zak,ZbH,gMt,Zhp,Zbj,Ze7,ZeA,ZbF,L3.ZdJ,Zcy,gSl,Zbg,Zax,Zbp,Zbf,Zhr,ZaK,ZaU,List.map_cons,List.map_nil,List.length_cons,List.length_nil,List.cons_append,List.nil_append,List.getElem?_cons_zero,List.getElem?_cons_succ,List.set_cons_zero,List.set_cons_succ,List.replicate,ZeM,tyN,Zae,Zbo,Zcj,Zcd,ixW,eqF,eqW,Zec,ZfV,Ze9,Zhy,List.getElem?_nil]); (try simp only [Zgr,Zbk,Zbt,Zg3,Zar,gIf,ZaD,Za2,ZaT,Zaq,Zab,gC,Zah,gTB,Zd3,gNt,ZfE,gOr,ZbC,Zf0,ZcC,ZgV,L3.ZaI,Zb1,L3.Zaa,L3.Zag,Zai,gB,rF,Zak,ZbH,gMt,Zhp,Zbj,Ze7,ZeA,ZbF,L3.ZdJ,Zcy,gSl,Zbg,Zax,Zbp,Zbf,Zhr,ZaK,ZaU,List.map_cons,List.map_nil,List.length_cons,List.length_nil,List.cons_append,List.nil_append,List.getElem?_cons_zero,List.getElem?_cons_succ,List.set_cons_zero,List.set_cons_succ,List.replicate,ZeM,tyN,Zae,Zbo,Zcj,Zcd,ixW,eqF,eqW,Zec,ZfV,Ze9,Zhy,List.getElem?_nil])))
def ZzU (m:Bool):Str:=if m then "" else "?"
def ZpJ (o:Bool):List Str:=if o then [".."] else []
mutual
def Kd.txt:Kd→Str
 | .any=>"any"
 | .num=>"num"
 | .truth=>"truth"
 | .to x y=>"("++x.txt++" > "++y.txt++")"
 | .box x=>"["++x.txt++"]"
 | .row fs o=>"{"++Txt.join ", " (fs.pcs++ZpJ o)++"}"
def Fs.pcs:Fs→List Str
 | .nil=>[]
 | .cons n m k r=>(n++ZzU m++": "++k.txt)::r.pcs
end
def pc (x:Str×Bool×Kd):Str:=x.1++ZzU x.2.1++": "++x.2.2.txt
theorem Znr:∀ fs:Fs,fs.pcs=fs.toL.map pc
 | .nil=>rfl
 | .cons n m k r=>by show _::r.pcs=_::r.toL.map pc;rw [Znr r];rfl
theorem ZqR:∀ {fs:Fs},fs.ok=true→∀ x∈fs.toL,Zda x.1=true∧x.2.2.ok=true
 | .nil,_,x,hx=>by cases hx
 | .cons n m k r,h,x,hx=>by
  have h':(Zda n&&k.ok&&r.ok)=true:=h
  walk_at "ph"
  rcases List.mem_cons.mp hx with rfl | hx
  ·exact h'.1
  ·exact ZqR h'.2 x hx
theorem ZuC:∀ {fs:Fs} {n:Nat},fs.dp≤n→∀ x∈fs.toL,x.2.2.dp≤n
 | .nil,_,_,x,hx=>by cases hx
 | .cons n m k r,j,h,x,hx=>by
  have h':max k.dp r.dp≤j:=h
  rcases List.mem_cons.mp hx with rfl | hx
  ·show k.dp≤j;omega
  ·exact ZuC (n:=j) (by omega) x hx
theorem Zq1:∀ {fs:Fs},∀ x∈fs.toL,x.2.2.cnt≤fs.cnt
 | .nil,x,hx=>by cases hx
 | .cons n m k r,x,hx=>by
  show x.2.2.cnt≤k.cnt+r.cnt
  rcases List.mem_cons.mp hx with rfl | hx
  ·show k.cnt≤_;omega
  ·have:=Zq1 x hx;omega
theorem Zqw:∀ fs:Fs,fs.toL.length≤fs.cnt
 | .nil=>Nat.le_refl _
 | .cons n m k r=>by
  show r.toL.length+1≤k.cnt+r.cnt
  have:=Zqw r
  have:=Zq6 k
  omega
theorem ZbS (a b:Str):(a++b).length=a.length+b.length:=Str.length_append a b
theorem Zn4 (sep:Str) (l:List Str):Txt.join sep l=Str.join sep l:=StrLaws.glued_eq_join sep l
theorem ZlA (sep:Str):∀ l:List Str,(Str.join sep l).length≤(l.map (·.length)).sum+l.length*sep.length
 | []=>by simp [Str.join,Str.length,Str.empty]
 | [x]=>by simp [Str.join]
 | x::y::r=>by
  show (x++sep++Str.join sep (y::r)).length≤_
  rw [ZbS,ZbS]
  have:=ZlA sep (y::r)
  simp only [List.map_cons,List.sum_cons,List.length_cons,Nat.add_mul,Nat.one_mul] at this ⊢
  omega
theorem ZoO (m:Bool):(ZzU m).length≤1:=by cases m <;> decide
mutual
theorem Zfc:∀ {k:Kd},k.ok=true→k.txt.length+13≤33*k.cnt
 | .any,_=>by decide
 | .num,_=>by decide
 | .truth,_=>by decide
 | .to x y,h=>by
  have h':(x.ok&&y.ok)=true:=h
  walk_at "ph"
  have h1:=Zfc h'.1
  have h2:=Zfc h'.2
  show (("(":Str)++x.txt++(" > ":Str)++y.txt++(")":Str)).length+13≤33*(1+(x.cnt+y.cnt))
  simp only [ZbS]
  have e1:("(":Str).length=1:=rfl
  have e2:(" > ":Str).length=3:=rfl
  have e3:(")":Str).length=1:=rfl
  omega
 | .box x,h=>by
  have h1:=Zfc (k:=x) h
  show (("[":Str)++x.txt++("]":Str)).length+13≤33*(1+x.cnt)
  simp only [ZbS]
  have e1:("[":Str).length=1:=rfl
  have e3:("]":Str).length=1:=rfl
  omega
 | .row fs o,h=>by
  have h':(Zkj fs.names&&fs.ok)=true:=h
  walk_at "ph"
  have h1:=Zn0 h'.2
  show (("{":Str)++Txt.join ", " (fs.pcs++ZpJ o)++("}":Str)).length+13≤33*(1+fs.cnt)
  rw [Zn4]
  simp only [ZbS]
  have e1:("{":Str).length=1:=rfl
  have e3:("}":Str).length=1:=rfl
  have hj:=ZlA (", ":Str) (fs.pcs++ZpJ o)
  have e4:(", ":Str).length=2:=rfl
  rw [List.map_append,List.sum_append,List.length_append,e4] at hj
  have hx:((ZpJ o).map (·.length)).sum+(ZpJ o).length*2≤4:=by cases o <;> decide
  omega
theorem Zn0:∀ {fs:Fs},fs.ok=true→(fs.pcs.map (·.length)).sum+fs.pcs.length*2≤33*fs.cnt
 | .nil,_=>by decide
 | .cons n m k r,h=>by
  have h':(Zda n&&k.ok&&r.ok)=true:=h
  walk_at "ph"
  have h1:=Zfc h'.1.2
  have h2:=Zn0 h'.2
  have h3:=ZhR h'.1.1
  have h4:=ZoO m
  show (((n++ZzU m++(": ":Str)++k.txt)::r.pcs).map (·.length)).sum+(r.pcs.length+1)*2≤33*(k.cnt+r.cnt)
  rw [List.map_cons,List.sum_cons]
  simp only [ZbS]
  have e1:(": ":Str).length=2:=rfl
  omega
end
theorem Zb6 {n:Nat} (h:n≤100000):n≤sizeLine:=Nat.le_trans h (by decide)
theorem Zyq {α:Type} {enc f:α→W} {gd:Hw→Prop} {ge:GE} {R:List W→Hw→Prop} {G:Hw} (hgd:gd G):∀ (l:List α) (o:Option W) (ys:List W),(∀ x∈l,∀ Q:Kw,Q (f x) G→ge [some (enc x)] G Q) →
  ys.length+l.length≤sizeLine→R (ys++l.map f) G→ZbD gd (gNm 0) ZfN ge R (l.map enc) [o] G ys
 | [],o,ys,_,_,r=>⟨hgd,by simpa using r⟩
 | x::l,o,ys,h,hl,r=>by
  walk_at "pn"
  show ge [some (enc x)] G fun y G3=>ZbD gd (gNm 0) ZfN ge R (l.map enc) [some (enc x)] G3 (ys++[y])
  refine h x List.mem_cons_self _ (Zyq hgd l (some (enc x)) (ys++[f x]) (fun y hy=>h y (List.mem_cons_of_mem _ hy)) ?_ ?_)
  ·simp only [List.length_append,List.length_cons,List.length_nil] at hl ⊢;omega
  ·simpa [List.append_assoc] using r
abbrev Zwb (n:Nat):Spw:=spR (fun (k:Kd) ws _=>ws=[k.enc]∧k.ok=true∧k.dp≤n∧k.cnt≤1000) fun k=>.str k.txt
abbrev ZuZ (n:Nat):Spw:=spR (fun (x:Str×Bool×Kd) ws _=>ws=[ZlL x]∧Zda x.1=true∧x.2.2.ok=true∧x.2.2.dp≤n∧x.2.2.cnt≤1000) fun x=>.str (pc x)
abbrev Zyi (n:Nat):Spw:=spR (fun (x:Fs×Bool) ws _=>ws=[(Kd.row x.1 x.2).enc]∧(Kd.row x.1 x.2).ok=true∧(Kd.row x.1 x.2).dp≤n+1∧(Kd.row x.1 x.2).cnt≤1000) fun x=>.str (Kd.row x.1 x.2).txt
theorem ZcA (T:Tx K mg base a) {j n:Nat} (D:Df P w K mg base "written" j 1 (Zwb n)):Df P w K mg base "field_written" (j+1) 1 (ZuZ n):=by
 refine mk0 T.ZiW rfl Zfg ZbY (fun ws G Q E ⟨x,⟨e,_⟩,_⟩=>by rw [e];rfl) (Zi4 T D (Nat.le_refl _)) fun ws G Q E hC q=>?_
 obtain ⟨⟨nm,m,k⟩,⟨rfl,hn,ho,hd,hc⟩,q⟩:=q
 have h1:=Zfc ho
 have h2:=ZhR hn
 have h3:=ZoO m
 have e1:(": ":Str).length=2:=rfl
 unfold ZfB ZlL
 walk_at "rd"
 have key:∀ (z:Str),z.length≤1→Q (.str (nm++z++": "++k.txt)) G→nm.length+z.length≤sizeLine∧(nm++z).length+(": ":Str).length≤sizeLine∧Zwb n [k.enc] G (fun y G2=>Zb3 (W.str (nm++z++": ")) y G2 Q) fun _ _=>False:=fun z hz q=>by
  dsimp only at h1 h2 hd ho hc
  refine ⟨Zb6 (by omega),Zb6 (by rw [ZbS];omega),k,⟨rfl,ho,hd,hc⟩,?_⟩
  exact ⟨Zb6 (by rw [ZbS,ZbS];omega),q⟩
 cases m with
 | true =>
  have e:(mark true==("must":Str))=true:=by decide +kernel
  simp only [e,Option.map_some,Zae,show (true != false)=true from rfl,if_true]
  exact key "" (by decide) q
 | false =>
  have e:(mark false==("must":Str))=false:=by decide +kernel
  simp only [e,Option.map_some,Zae,bne_self_eq_false,Bool.false_eq_true,if_false]
  exact key "?" (by decide) q
theorem ZAR {G:Hw} {p:Addr} {ys:List Str} {sep:Str} {Q:Kw} (h:G p=some (.lst (ys.map W.str))) (hw:(ys.map (·.length)).sum+ys.length*sep.length≤16777216) (q:Q (.str (Txt.join sep ys)) G):ZtE (.str sep) [.ref p] G Q :=
 ⟨sep,.ref p,_,ys,rfl,rfl,Zhs h,Zj7 id ys▸(by simp),hw,q⟩
theorem Zdm (T:Tx K mg base a) {j n:Nat} (D:Df P w K mg base "field_written" j 1 (ZuZ n)):Df P w K mg base "row_written" (j+1) 1 (Zyi n):=by
 refine mk0 T.Zlt rfl ZeP ZbY (fun ws G Q E ⟨x,⟨e,_⟩,_⟩=>by rw [e];rfl) (Zlg T D (Nat.le_refl _)) fun ws G Q E hC q=>?_
 obtain ⟨⟨fs,o⟩,⟨rfl,ho,hd,hc⟩,q⟩:=q
 dsimp only at ho hd hc q
 have ho':(Zkj fs.names&&fs.ok)=true:=ho
 simp only [Bool.and_eq_true] at ho'
 have hd':1+fs.dp≤n+1:=hd
 have hc':1+fs.cnt≤1000:=hc
 have hp:=Zn0 ho'.2
 have hl:=Zqw fs
 unfold Zhi
 simp only [Kd.enc]
 walk_at "rd"
 have fin:∀ (G':Hw) (p:Addr),G' p=some (.lst ((fs.pcs++ZpJ o).map W.str))→Sub G G'→isStr (W.str ", ") G'∧ZtE (W.str ", ") [W.ref p] G' fun y G2=>Zb3 (W.str "{") y G2 fun x G1=>Zb3 x (W.str "}") G1 Q:=fun G' p h sb=>by
  have e4:(", ":Str).length=2:=rfl
  have hx:((ZpJ o).map (·.length)).sum+(ZpJ o).length*2≤4:=by cases o <;> decide
  have hj:=ZlA (", ":Str) (fs.pcs++ZpJ o)
  have hs:((fs.pcs++ZpJ o).map (·.length)).sum+(fs.pcs++ZpJ o).length*(", ":Str).length≤33*fs.cnt+4:=by
   rw [List.map_append,List.sum_append,List.length_append,e4];omega
  have e1:("{":Str).length=1:=rfl
  have e3:("}":Str).length=1:=rfl
  refine ⟨⟨_,rfl⟩,ZAR h (by omega) ?_⟩
  refine ⟨Zb6 (by rw [Zn4,e1];omega),Zb6 (by rw [ZbS,Zn4,e1,e3];omega),?_⟩
  exact hC _ _ _ sb q
 rw [Zr9]
 refine Zyq (f:=fun x=>.str (pc x)) trivial fs.toL none [] (fun x hx Q' q'=>?_) (by simp only [List.length_nil];exact Zb6 (by omega)) fun p hp1=>?_
 ·exact ⟨x,⟨rfl,(ZqR ho'.2 x hx).1,(ZqR ho'.2 x hx).2,ZuC (by omega) x hx,Nat.le_trans (Zq1 x hx) (by omega)⟩,q'⟩
 ·have e:[]++fs.toL.map (fun x=>W.str (pc x))=fs.pcs.map W.str:=by rw [Znr,List.map_map];rfl
  rw [e]
  have hz:(fs.pcs.map W.str).length < sizeLine:=Nat.lt_of_le_of_lt (m:=1000) (by rw [List.length_map,Znr,List.length_map];omega) (by decide)
  cases o with
  | true =>
   simp only [if_true]
   refine ⟨ZiM Zaf,Zu2 Zaf hz ?_⟩
   rw [Zg0]
   exact fin _ p (by rw [Zaf];simp [ZpJ]) (Sub.refl.put hp1)
  | false =>
   walk_at "py"
   exact fin _ p (by rw [Zaf];simp [ZpJ]) (Sub.refl.put hp1)
theorem n1:(("box":Str)==("to":Str))=false:=by decide +kernel
theorem n2:(("row":Str)==("to":Str))=false:=by decide +kernel
theorem n3:(("row":Str)==("box":Str))=false:=by decide +kernel
theorem b1:(true != false)=true:=rfl
theorem b2:(false != false)=false:=rfl
theorem ZbQ (T:Tx K mg base a):∀ n:Nat,Df P w K mg base "written" (3*n+1) 1 (Zwb n)
 | 0=>ZlC T.ZmK ZbY fun ws G Q E ⟨k,⟨_,_,h,_⟩,_⟩=>by have:=ZgI k;omega
 | n+1=>by
  have D:=ZbQ T n
  have DF:=ZcA T D
  have DR:=Zdm T DF
  refine mk0 (k:=3*n+3) T.ZmK rfl Zma ZbY (fun ws G Q E ⟨x,⟨e,_⟩,_⟩=>by rw [e];rfl) (Zrj T D (by omega) DR (by omega)) fun ws G Q E hC q=>?_
  obtain ⟨k,⟨rfl,ho,hd,hc⟩,q⟩:=q
  unfold Zmc
  cases k with
  | any=>simp only [Kd.enc];walk_at "rd";exact q
  | num=>simp only [Kd.enc];walk_at "rd";exact q
  | truth=>simp only [Kd.enc];walk_at "rd";exact q
  | to x y =>
   have ho':(x.ok&&y.ok)=true:=ho
   simp only [Bool.and_eq_true] at ho'
   have hd':1+max x.dp y.dp≤n+1:=hd
   have hc':1+(x.cnt+y.cnt)≤1000:=hc
   have h1:=Zfc ho'.1
   have h2:=Zfc ho'.2
   have e1:("(":Str).length=1:=rfl
   have e2:(" > ":Str).length=3:=rfl
   have e3:(")":Str).length=1:=rfl
   simp only [Kd.enc];walk_at "rd"
   walk_at "pr"
   refine ⟨x,⟨rfl,ho'.1,by omega,by omega⟩,Zb6 (by omega),Zb6 (by rw [ZbS];omega),y,⟨rfl,ho'.2,by omega,by omega⟩,Zb6 (by rw [ZbS,ZbS];omega),Zb6 (by rw [ZbS,ZbS,ZbS];omega),q⟩
  | box x =>
   have hd':1+x.dp≤n+1:=hd
   have hc':1+x.cnt≤1000:=hc
   have h1:=Zfc (k:=x) ho
   have e1:("[":Str).length=1:=rfl
   have e3:("]":Str).length=1:=rfl
   simp only [Kd.enc];walk_at "rd"
   walk_at "pr"
   exact ⟨x,⟨rfl,ho,by omega,by omega⟩,Zb6 (by omega),Zb6 (by rw [ZbS];omega),q⟩
  | row fs o =>
   simp only [Kd.enc];walk_at "rd"
   walk_at "pr"
   exact ⟨(fs,o),⟨rfl,ho,hd,hc⟩,q⟩
local macro_rules | `(tactic| walk_at "rd") => `(tactic| ((try dsimp only [Zar,gIf,ZaD,Za2,ZaT,Zaq,Zab,gC,Zah,gTB,Zd3,gNt,ZfE,gOr,ZbC,Zf0,ZcC,ZgV,L3.ZaI,Zb1,L3.Zaa,L3.Zag,Zai,gB,rF,Zak,ZbH,gMt,Zhp,ZpP,Zbj,Ze7,ZeA,ZbF,L3.ZdJ,Zcy,gSl,Zbg,Zax,Zbp,Zbf,Zhr,Zdh,Ze8,ZcI,Zce,ZeV,Zbk,Zg3,ZaK,ZaU,List.map_cons,List.map_nil,List.length_cons,List.length_nil,List.cons_append,List.nil_append,List.getElem?_cons_zero,List.getElem?_cons_succ,List.set_cons_zero,List.set_cons_succ,List.replicate,ZeM,tyN,Zae,Zbo,Zcj,Zcd,ixW,eqF,eqW,Zec,ZfV,Ze9,Zhy,Zke,ZoT,List.getElem?_nil]); (try simp only [Zar,gIf,ZaD,Za2,ZaT,Zaq,Zab,gC,Zah,gTB,Zd3,gNt,ZfE,gOr,ZbC,Zf0,ZcC,ZgV,L3.ZaI,Zb1,L3.Zaa,L3.Zag,Zai,gB,rF,Zak,ZbH,gMt,Zhp,ZpP,Zbj,Ze7,ZeA,ZbF,L3.ZdJ,Zcy,gSl,Zbg,Zax,Zbp,Zbf,Zhr,Zdh,Ze8,ZcI,Zce,ZeV,Zbk,Zg3,ZaK,ZaU,List.map_cons,List.map_nil,List.length_cons,List.length_nil,List.cons_append,List.nil_append,List.getElem?_cons_zero,List.getElem?_cons_succ,List.set_cons_zero,List.set_cons_succ,List.replicate,ZeM,tyN,Zae,Zbo,Zcj,Zcd,ixW,eqF,eqW,Zec,ZfV,Ze9,Zhy,Zke,ZoT,List.getElem?_nil])))
def Zn5 (C:Addr):Spw:=fun ws G Q E=>(∃ k,ws=[k.enc]∧gen 2 k∧∀ v,Q v G)∨(∃ w,ws=[w]∧bad w∧E C G)
theorem Zlw {C:Addr}:Spw.M (Zn5 C):=fun ws G Q Q' E E' h h' q=>q.elim (fun ⟨k,h1,h2,q⟩=>.inl ⟨k,h1,h2,fun v=>h _ _ (q v)⟩) (fun ⟨w,h1,h2,q⟩=>.inr ⟨w,h1,h2,h' _ _ q⟩)
theorem Zhh {C:Addr}:∀ ws G Q E,Zn5 C ws G Q E→ws.length=1:=fun ws G Q E q=>q.elim (fun ⟨k,h1,_⟩=>by rw [h1];rfl) (fun ⟨w,h1,_⟩=>by rw [h1];rfl)
theorem ZjG {C:Addr} {w:W} {G:Hw} {Q:Kw} {E:Addr→Hw→Prop} (h1:OKW 7 w) (h2:isK w=true) (q:Q .non G):Zrh C [w] G Q E:=⟨w,⟨rfl,h1⟩,fun _=>q,fun z=>by rw [h2] at z;cases z⟩
theorem Zkt {C:Addr} {w:W} {G:Hw} {Q:Kw} {E:Addr→Hw→Prop} (h:bad w) (q:E C G):Zrh C [w] G Q E:=⟨w,⟨rfl,h.1⟩,(fun z=>by rw [h.2] at z;cases z),fun _=>q⟩
theorem ZfZ (T:Tx K mg base a):Df P w K mg base "parts_in" 10 1 (Zn5 a.NoKind):=by
 refine mkX T.ZpM rfl ZkD Zlw Zhh (g:=fun E=>ZhG _ _ E) (Zpr T (Zaz T) (by omega) (ZaX T 8) (by omega)) fun ws G Q E hC hX q=>?_
 unfold ZhG
 rcases q with ⟨k,rfl,hk,q⟩ | ⟨w,rfl,hw,q⟩
 ·obtain ⟨o1,o2,wk,d3,c40⟩:=ZeF hk
  walk_at "rd"
  refine ZjG o1 o2 ⟨k,⟨rfl,wk.1,by omega,by omega⟩,fun p hp=>?_⟩
  simp only [Zaf,Zae]
  exact hC _ _ _ (Zbm hp) (q _)
 ·walk_at "rd"
  exact Zkt hw q
theorem Zb8 (T:Tx K mg base a):Df P w K mg base "leaves_unknown" 1 1 (spR (fun (k:Kd) ws _=>ws=[k.enc]) fun k=>.bl k.unk):=by
 refine mk0 T.ZiC rfl Ze4 ZbY (fun ws G Q E ⟨x,e,_⟩=>by rw [e];rfl) (Ziz T) fun ws G Q E hC q=>?_
 obtain ⟨k,rfl,q⟩:=q
 unfold ZeX
 cases k <;> (simp only [Kd.enc];walk_at "rd";exact q)
theorem ZvP {gd:Hw→Prop} {ge:GE} {R:List W→Hw→Prop} {f:Kd→W} {G:Hw} (hgd:gd G):∀ (ks:List Kd) (o:Option W) (ys:List W),(∀ k∈ks,∀ Q:Kw,Q (f k) G→ge [some k.enc] G Q) →
  ys.length+ks.length≤sizeLine→R (ys++ks.map f) G→ZbD gd (gNm 0) ZfN ge R (ks.map Kd.enc) [o] G ys
 | [],o,ys,_,_,r=>⟨hgd,by simpa using r⟩
 | x::ks,o,ys,h,hl,r=>by
  walk_at "pn"
  show ge [some x.enc] G fun y G3=>ZbD gd (gNm 0) ZfN ge R (ks.map Kd.enc) [some x.enc] G3 (ys++[y])
  refine h x List.mem_cons_self _ (ZvP hgd ks (some x.enc) (ys++[f x]) (fun y hy=>h y (List.mem_cons_of_mem _ hy)) ?_ ?_)
  ·simp only [List.length_append,List.length_cons,List.length_nil] at hl ⊢;omega
  ·simpa [List.append_assoc] using r
theorem ZfX (T:Tx K mg base a):Df P w K mg base "is_known" 10 1 (Zn5 a.NoKind):=by
 refine mkX T.ZpO rfl ZkL Zlw Zhh (g:=fun E=>ZhI _ _ _ E) (ZpK T (Zaz T) (by omega) (ZaX T 8) (by omega) (Zb8 T) (by omega)) fun ws G Q E hC hX q=>?_
 unfold ZhI
 rcases q with ⟨k,rfl,hk,q⟩ | ⟨w,rfl,hw,q⟩
 ·obtain ⟨o1,o2,wk,d3,c40⟩:=ZeF hk
  walk_at "rd"
  refine ZjG o1 o2 ⟨k,⟨rfl,wk.1,by omega,by omega⟩,fun p hp=>?_⟩
  simp only [Zaf]
  refine ZvP (f:=fun k=>.bl k.unk) Zaf k.all none [] (fun y hy Q' q'=>⟨y,rfl,q'⟩) (by rw [ZkW];exact Za3 (by simp only [List.length_nil];omega)) fun p1 hp1=>?_
  rw [List.nil_append,show (fun k:Kd=>W.bl k.unk)=W.bl∘Kd.unk from rfl,← List.map_map]
  walk_at "pi"
  exact hC _ _ _ (ZbV (Zbm hp) hp1) (q _)
 ·walk_at "rd"
  exact Zkt hw q
theorem ZAY (k:Kd) (G:Hw):inF false (.str k.hd) (.tup [.str "to",.str "box"]) G=some (.bl k.fb):=by cases k <;> kernel_rfl
theorem Zhw (T:Tx K mg base a):Df P w K mg base "is_data" 10 1 (Zn5 a.NoKind):=by
 refine mkX T.Zsf rfl ZmF Zlw Zhh (g:=fun E=>Zju _ _ E) (Zq8 T (Zaz T) (by omega) (ZaX T 8) (by omega)) fun ws G Q E hC hX q=>?_
 unfold Zju
 rcases q with ⟨k,rfl,hk,q⟩ | ⟨w,rfl,hw,q⟩
 ·obtain ⟨o1,o2,wk,d3,c40⟩:=ZeF hk
  walk_at "rd"
  refine ZjG o1 o2 ⟨k,⟨rfl,wk.1,by omega,by omega⟩,fun p hp=>?_⟩
  simp only [Zaf]
  refine ZvP (f:=fun k=>.bl k.fb) Zaf k.all none [] (fun y hy Q' q'=>?_) (by rw [ZkW];exact Za3 (by simp only [List.length_nil];omega)) fun p1 hp1=>?_
  ·show Zah (Zak (inF false)) (Zah (Zak ixW) (Zab 0) (gC (.int 0))) (L3.ZaI (L3.Zaa (gC (.str "to")) (L3.Zaa (gC (.str "box")) L3.Zag))) [some y.enc] _ Q'
   simp only [Zah,Zak,Zab,gC,L3.ZaI,L3.Zaa,L3.Zag,List.getElem?_cons_zero,Zde,Zae]
   refine ⟨by decide,?_⟩
   rw [ZAY]
   exact q'
  rw [List.nil_append,show (fun k:Kd=>W.bl k.fb)=W.bl∘Kd.fb from rfl,← List.map_map]
  walk_at "pi"
  exact hC _ _ _ (ZbV (Zbm hp) hp1) (q _)
 ·walk_at "rd"
  exact Zkt hw q
theorem ZdX (T:Tx K mg base a):Df P w K mg base "kind_shown" 30 1 (Zn5 a.NoKind):=by
 refine mkX (k:=29) T.ZmO rfl Zh3 Zlw Zhh (g:=fun E=>Zfs _ _ E) (Zml T (Zaz T) (by omega) (ZbQ T 8) (by omega)) fun ws G Q E hC hX q=>?_
 unfold Zfs
 rcases q with ⟨k,rfl,hk,q⟩ | ⟨w,rfl,hw,q⟩
 ·obtain ⟨o1,o2,wk,d3,c40⟩:=ZeF hk
  walk_at "rd"
  exact ZjG o1 o2 ⟨k,⟨rfl,wk.1,by omega,by omega⟩,q _⟩
 ·walk_at "rd"
  exact Zkt hw q
def ZBh (w1 w2:W):Prop:=bad w1∧OKW 7 w2∨(OKW 7 w1∧isK w1=true)∧bad w2
abbrev Zrk (C:Addr):Spw:=fun ws G Q E=>(∃ k,ws=[k.enc,k.enc]∧gen 2 k∧Q .non G)∨(∃ w1 w2,ws=[w1,w2]∧ZBh w1 w2∧E C G)
theorem ZtW {C:Addr}:Spw.M (Zrk C):=fun ws G Q Q' E E' h h' q=>q.elim (fun ⟨k,h1,h2,q⟩=>.inl ⟨k,h1,h2,h _ _ q⟩) (fun ⟨w1,w2,h1,h2,q⟩=>.inr ⟨w1,w2,h1,h2,h' _ _ q⟩)
theorem Zp3 {C:Addr}:∀ ws G Q E,Zrk C ws G Q E→ws.length=2:=fun ws G Q E q=>q.elim (fun ⟨k,h1,_⟩=>by rw [h1];rfl) (fun ⟨w1,w2,h1,_⟩=>by rw [h1];rfl)
theorem Zau (T:Tx K mg base a):Df P w K mg base "check_kinds" 9 2 (Zrk a.NoKind):=by
 refine mkX T.ZkZ rfl Zhb ZtW Zp3 (g:=fun E=>ZeN _ E) (Zlv T (Zaz T) (Nat.le_refl _)) fun ws G Q E hC hX q=>?_
 unfold ZeN
 walk_at "pt"
 ·obtain ⟨o1,o2,wk,d3,c40⟩:=ZeF hk
  walk_at "rd"
  exact ZjG o1 o2 (ZjG o1 o2 q)
 ·walk_at "rd"
  rcases hw with ⟨h1,h2⟩ | ⟨h1,h2⟩
  ·exact Zkt h1 q
  ·exact ZjG h1.1 h1.2 (Zkt h2 q)
def ZlX (C:Addr) (ps:List W):Spw:=fun ws G Q E=>(∃ k,ws=k.enc::k.enc::ps∧gen 2 k∧∀ v,Q v G)∨(∃ w1 w2,ws=w1::w2::ps∧ZBh w1 w2∧E C G)
theorem Zjt {C:Addr} {ps:List W}:Spw.M (ZlX C ps):=fun ws G Q Q' E E' h h' q=>q.elim (fun ⟨k,h1,h2,q⟩=>.inl ⟨k,h1,h2,fun v=>h _ _ (q v)⟩) (fun ⟨w1,w2,h1,h2,q⟩=>.inr ⟨w1,w2,h1,h2,h' _ _ q⟩)
theorem Zfj {C:Addr} {ps:List W}:∀ ws G Q E,ZlX C ps ws G Q E→ws.length=ps.length+2:=fun ws G Q E q=>q.elim (fun ⟨k,h1,_⟩=>by rw [h1];rfl) (fun ⟨w1,w2,h1,_⟩=>by rw [h1];rfl)
theorem Zd1 (T:Tx K mg base a):Df P w K mg base "knows_less" 30 2 (ZlX a.NoKind []):=by
 refine mkX (k:=29) T.Zm0 rfl Zil Zjt Zfj (g:=fun E=>ZfJ _ _ E) (ZmL T (Zau T) (by omega) (ZbM T 8) (by omega)) fun ws G Q E hC hX q=>?_
 unfold ZfJ
 walk_at "pt"
 ·obtain ⟨o1,o2,wk,d3,c40⟩:=ZeF hk
  walk_at "rd"
  exact .inl ⟨k,rfl,hk,k,⟨rfl,wk,by omega⟩,q _⟩
 ·walk_at "rd"
  exact .inr ⟨w1,w2,rfl,hw,q⟩
theorem Zdo (T:Tx K mg base a):Df P w K mg base "first_clash" 30 2 (ZlX a.NoKind []):=by
 refine mkX (k:=29) T.Zk6 rfl Zhe Zjt Zfj (g:=fun E=>ZeL _ _ E) (ZkX T (Zau T) (by omega) (Za1 T 8) (by omega)) fun ws G Q E hC hX q=>?_
 unfold ZeL
 walk_at "pt"
 ·obtain ⟨o1,o2,wk,d3,c40⟩:=ZeF hk
  walk_at "rd"
  exact .inl ⟨k,rfl,hk,k,⟨rfl,wk,by omega⟩,q _⟩
 ·walk_at "rd"
  exact .inr ⟨w1,w2,rfl,hw,q⟩
theorem Zhl (T:Tx K mg base a):Df P w K mg base "clashes" 30 3 (ZlX a.NoKind [.tup [.str "a"]]):=by
 refine mkX (k:=29) T.Zrp rfl ZmQ Zjt Zfj (g:=fun E=>ZiR _ _ E) (Zrs T (Zau T) (by omega) (Zbs T 8) (by omega)) fun ws G Q E hC hX q=>?_
 unfold ZiR
 walk_at "pt"
 ·obtain ⟨o1,o2,wk,d3,c40⟩:=ZeF hk
  walk_at "rd"
  exact .inl ⟨k,rfl,hk,(k,["a"]),⟨rfl,wk,by dsimp only;omega⟩,q _⟩
 ·walk_at "rd"
  exact .inr ⟨w1,w2,rfl,hw,q⟩
theorem ZiG (T:Tx K mg base a):Df P w K mg base "joined" 30 2 (ZlX a.NoKind []):=by
 refine mkX (k:=29) T.ZtC rfl ZoA Zjt Zfj (g:=fun E=>Zlu _ _ E) (ZtJ T (Zau T) (by omega) (ZbN T 8 (by omega)) (by omega)) fun ws G Q E hC hX q=>?_
 unfold Zlu
 walk_at "pt"
 ·obtain ⟨o1,o2,wk,d3,c40⟩:=ZeF hk
  walk_at "rd"
  exact .inl ⟨k,rfl,hk,k,⟨rfl,wk,by omega⟩,q _⟩
 ·walk_at "rd"
  exact .inr ⟨w1,w2,rfl,hw,q⟩
theorem ZtL (T:Tx K mg base a):Df P w K mg base "met" 30 2 (ZlX a.NoKind []):=by
 refine mkX (k:=29) T.ZAi rfl Zxt Zjt Zfj (g:=fun E=>Zvj _ _ _ E) (ZAJ T (Zau T) (by omega) (Za1 T 8) (by omega) (ZbU T 8 (by omega)) (by omega)) fun ws G Q E hC hX q=>?_
 unfold Zvj
 walk_at "pt"
 ·obtain ⟨o1,o2,wk,d3,c40⟩:=ZeF hk
  walk_at "rd"
  refine .inl ⟨k,rfl,hk,k,⟨rfl,wk,by omega⟩,?_⟩
  simp only [isF,Zs5,Zae,bne_self_eq_false,Bool.false_eq_true,if_false]
  exact ⟨k,⟨rfl,wk,by omega⟩,q _⟩
 ·walk_at "rd"
  exact .inr ⟨w1,w2,rfl,hw,q⟩
abbrev Zib:List Str:=["e","flags"]
theorem Zic:Zao Zib ["e"] (Zac ZdT):=by walk_at "s"
def Zip (K:PySem.W.Frag) (a:Adr):GS:=(Zar (Za2 1 (Zb1 (Zaa (ZhS K (.ref a.NoKind) (Zab 0)) (Zaa (ZhS K (.ref a.NoTerm) (Zab 0)) (Zaa (ZhS K (.ref a.BadUse) (Zab 0)) (Zaa (ZhS K (.ref a.NoValue) (Zab 0)) Zag)))))) (ZaD (Zah (ZdJ) (Zab 1) (Zb1 (Zaa (ZhS K (.ref a.NoNumber) (Zab 0)) (Zaa (ZhS K (.ref a.BadNote) (Zab 0)) (Zaa (ZhS K (.type "ValueError") (Zab 0)) Zag)))))))
theorem Znc {k:Nat} (T:Tx K mg base a) {f:Addr} {cdv:Value} {A:Around} {outer:List Env} {s:Shared} {H:Hp} {E:XK}:Ssm (cxN P w K mg base Zib "_law_which" (Zac ZdT) f cdv A outer s H) (fun B=>B=H) (ZaZ ZdT) (Zip K a) :=
 (Zaj (Zpp (i:=1) Zic.nd rfl rfl rfl (Zez (ZaH rfl (ZhU T.Zk1 T.Zad rfl rfl rfl rfl rfl (by walk_at "v")) (ZaH rfl (ZhU T.Zot T.Zad rfl rfl rfl rfl rfl (by walk_at "v")) (ZaH rfl (ZhU T.Zo8 T.Zad rfl rfl rfl rfl rfl (by walk_at "v")) (ZaH rfl (ZhU T.Zmf T.Zad rfl rfl rfl rfl rfl (by walk_at "v")) Zbx)))))) (Zas (Zbi (ZfQ (by walk_at "v") (Zez (ZaH rfl (ZhU T.Zkn T.Zad rfl rfl rfl rfl rfl (by walk_at "v")) (ZaH rfl (ZhU T.Zmp T.Zad rfl rfl rfl rfl rfl (by walk_at "v")) (ZaH rfl (ZvK Zll T.Znh T.Zad rfl rfl (by decide) rfl rfl rfl (by walk_at "v")) Zbx))))))))
abbrev Zgn:List Str:=["state","kind","way","num","some","bad","k"]
theorem Zel:Zao Zgn ["state","kind"] (Zac Zd9):=by walk_at "s"
def Zgc (ZaR:Spw):GS:=(Zar (Za2 2 (Zai ZaR XF (Zaa (Zab 0) (Zaa (gC (.int 12)) Zag)))) (Zar (Za2 3 (ZaI (Zaa (gC (.str "num")) Zag))) (Zar (Za2 4 (Zb1 (Zaa (ZaI Zag) (Zaa (ZaI (Zaa (gC (.str "no")) Zag)) (Zaa (ZaI (Zaa (gC (.str "num")) (Zaa (Zab 3) Zag))) (Zaa (ZaI (Zaa (gC (.str "to")) (Zaa (Zab 3) Zag))) (Zaa (ZaI (Zaa (gC (.str "to")) (Zaa (Zab 3) (Zaa (Zab 3) (Zaa (Zab 3) Zag))))) (Zaa (ZaI (Zaa (gC (.str "box")) Zag)) (Zaa (ZaI (Zaa (gC (.str "box")) (Zaa (Zab 3) (Zaa (Zab 3) Zag)))) (Zaa (ZaI (Zaa (gC (.str "row")) (Zaa (ZaI Zag) Zag))) Zag)))))))))) (Zar (Za2 4 (Zah (Zb3) (Zab 4) (Zb1 (Zaa (ZaI (Zaa (gC (.str "row")) (Zaa (ZaI (Zaa (ZaI (Zaa (gC (.str "b")) (Zaa (gC (.str "must")) (Zaa (Zab 3) Zag)))) (Zaa (ZaI (Zaa (gC (.str "a")) (Zaa (gC (.str "must")) (Zaa (Zab 3) Zag)))) Zag))) (Zaa (gC (.bl true)) Zag)))) (Zaa (ZaI (Zaa (gC (.str "row")) (Zaa (Zah (Zn8) (ZaI (Zaa (ZaI (Zaa (gC (.str "a")) (Zaa (gC (.str "must")) (Zaa (Zab 3) Zag)))) Zag)) (gC (.int 2))) (Zaa (gC (.bl false)) Zag)))) Zag))))) (Zar (Za2 4 (Zah (Zb3) (Zab 4) (Zb1 (Zaa (ZaI (Zaa (gC (.str "row")) (Zaa (ZaI (Zaa (ZaI (Zaa (gC (.str "A")) (Zaa (gC (.str "must")) (Zaa (Zab 3) Zag)))) Zag)) (Zaa (gC (.bl true)) Zag)))) (Zaa (ZaI (Zaa (gC (.str "row")) (Zaa (ZaI (Zaa (ZaI (Zaa (gC (.str "")) (Zaa (gC (.str "must")) (Zaa (Zab 3) Zag)))) Zag)) (Zaa (gC (.bl true)) Zag)))) (Zaa (ZaI (Zaa (gC (.str "row")) (Zaa (ZaI (Zaa (ZaI Zag) Zag)) (Zaa (gC (.bl false)) Zag)))) Zag)))))) (Zar (Za2 4 (Zah (Zb3) (Zab 4) (Zb1 (Zaa (ZaI (Zaa (gC (.str "row")) (Zaa (ZaI (Zaa (ZaI (Zaa (gC (.str "a")) (Zaa (gC (.str "some")) (Zaa (Zab 3) Zag)))) Zag)) (Zaa (gC (.bl true)) Zag)))) (Zaa (ZaI (Zaa (gC (.str "row")) (Zaa (ZaI (Zaa (ZaI (Zaa (gC (.str "abcdefghi")) (Zaa (gC (.str "may")) (Zaa (Zab 3) Zag)))) Zag)) (Zaa (gC (.bl true)) Zag)))) (Zaa (ZaI (Zaa (gC (.str "any")) (Zaa (gC (.str "any")) Zag))) Zag)))))) (Zar (Za2 4 (Zah (Zb3) (Zab 4) (Zb1 (Zaa (ZaI (Zaa (gC (.str "row")) (Zaa (ZaI (Zaa (ZaI (Zaa (gC (.str "a")) (Zaa (gC (.str "must")) Zag))) Zag)) (Zaa (gC (.bl true)) Zag)))) (Zaa (ZaI (Zaa (gC (.str "row")) (Zaa (ZaI (Zaa (ZaI (Zaa (gC (.str "a")) (Zaa (gC (.str "may")) (Zaa (Zab 3) (Zaa (Zab 3) Zag))))) Zag)) (Zaa (gC (.bl true)) Zag)))) (Zaa (ZaI (Zaa (gC (.str "row")) (Zaa (ZaI Zag) (Zaa (gC (.str "True")) Zag)))) Zag)))))) (Zar (Za2 4 (Zah (Zb3) (Zab 4) (Zb1 (Zaa (ZaI (Zaa (gC (.str "row")) (Zaa (ZaI (Zaa (ZaI (Zaa (gC (.str "a")) (Zaa (gC (.str "must")) (Zaa (gC (.str "num")) Zag)))) Zag)) (Zaa (gC (.bl true)) Zag)))) (Zaa (ZaI (Zaa (gC (.str "box")) (Zaa (gC (.str "num")) Zag))) (Zaa (ZaI (Zaa (gC (.str "to")) (Zaa (gC (.str "num")) (Zaa (Zab 3) Zag)))) (Zaa (ZaI (Zaa (gC (.str "row")) (Zaa (gC (.str "a")) (Zaa (gC (.bl true)) Zag)))) Zag))))))) (Zar (Za2 4 (Zah (Zb3) (Zab 4) (Zb1 (Zaa (ZaI (Zaa (gC (.str "row")) (Zaa (ZaI (Zaa (gC (.str "a")) Zag)) (Zaa (gC (.bl false)) Zag)))) (Zaa (ZaI (Zaa (gC (.str "true")) (Zaa (gC (.bl true)) Zag))) (Zaa (ZaI (Zaa (gC (.str "box")) (Zaa (gC (.bl true)) Zag))) (Zaa (ZaI (Zaa (gC (.str "to")) (Zaa (gC (.bl true)) (Zaa (Zab 3) Zag)))) (Zaa (ZaI (Zaa (gC (.str "row")) (Zaa (gC (.bl true)) (Zaa (gC (.bl true)) Zag)))) Zag)))))))) (Zar (Za2 4 (Zah (Zb3) (Zab 4) (Zb1 (Zaa (ZaI (Zaa (gC (.str "row")) (Zaa (ZaI (Zaa (gC (.bl true)) Zag)) (Zaa (gC (.bl false)) Zag)))) (Zaa (ZaI (Zaa (gC (.str "row")) (Zaa (ZaI (Zaa (ZaI (Zaa (gC (.str "a")) (Zaa (gC (.str "must")) (Zaa (gC (.bl false)) Zag)))) Zag)) (Zaa (gC (.bl true)) Zag)))) (Zaa (ZaI (Zaa (gC (.bl true)) Zag)) (Zaa (ZaI (Zaa (gC (.str "to")) (Zaa (Zab 3) (Zaa (gC (.bl false)) Zag)))) Zag))))))) (Zar (Za2 4 (Zah (Zb3) (Zab 4) (Zb1 (Zaa (ZaI (Zaa (gC (.str "row")) (Zaa (ZaI (Zaa (ZaI (Zaa (gC (.bl true)) (Zaa (gC (.str "may")) (Zaa (Zab 3) Zag)))) Zag)) (Zaa (gC (.bl true)) Zag)))) (Zaa (ZaI (Zaa (gC (.str "row")) (Zaa (ZaI (Zaa (ZaI (Zaa (gC (.str "a")) (Zaa (gC (.bl true)) (Zaa (Zab 3) Zag)))) Zag)) (Zaa (gC (.bl false)) Zag)))) Zag))))) (Zar (Za2 5 (Zah (Zak ixW) (Zab 4) (Zai ZaR XF (Zaa (Zab 0) (Zaa (gB (rF Zec) (Zaa (Zab 4) Zag)) Zag))))) (Zar (gIf (gTB (Zah (Zak (eqF false)) (Zab 2) (gC (.int 0)))) (Zar (Ze8 (Zdh (Zaa (gC (.int 8)) Zag)) (gNm 6) (Za2 1 (ZaI (Zaa (gC (.str "box")) (Zaa (Zab 1) Zag))))) (ZaD (Zab 1))) Zaq) (Zar (gIf (gTB (Zah (Zak (eqF false)) (Zab 2) (gC (.int 1)))) (Zar (Ze8 (Zdh (Zaa (gC (.int 6)) Zag)) (gNm 6) (Za2 1 (ZaI (Zaa (gC (.str "to")) (Zaa (Zab 1) (Zaa (Zab 1) Zag)))))) (ZaD (Zab 1))) Zaq) (ZaD (Zah (Zak ixW) (Zb1 (Zaa (Zab 5) (Zaa (ZaI (Zaa (gC (.str "box")) (Zaa (Zab 5) Zag))) (Zaa (ZaI (Zaa (gC (.str "to")) (Zaa (Zab 1) (Zaa (Zab 5) Zag)))) (Zaa (ZaI (Zaa (gC (.str "row")) (Zaa (ZaI (Zaa (ZaI (Zaa (gC (.str "a")) (Zaa (gC (.str "may")) (Zaa (Zab 5) Zag)))) Zag)) (Zaa (gC (.bl true)) Zag)))) Zag))))) (Zai ZaR XF (Zaa (Zab 0) (Zaa (gC (.int 4)) Zag)))))))))))))))))))
theorem ZjS {k:Nat} (T:Tx K mg base a) {Zbz:Nat} {ZaR:Spw} (ZnO:Df P w K mg base "_law_take" Zbz 2 ZaR) (ZnP:Zbz≤k):Dn P w K mg base Zgn "_law_no_kind" Zd9 k (Zgc ZaR):=fun {f cdv A outer s H E} hr =>
 have hu:=Zeo hr
 have hN:=Zel.nd
 (Zaj (by walk_at "v") (Zaj (by walk_at "v") (Zaj (by walk_at "v") (Zaj (Zpp (i:=4) Zel.nd rfl rfl rfl (ZcK (by walk_at "v") (Zez (ZaH rfl (by walk_at "v") (ZaH rfl (ZfC (ZaH rfl Zfn (ZaH rfl (Zww (by walk_at "v") Zfz) (by walk_at "v")))) Zbx))))) (by walk_at "v")))))
abbrev Zit:List Str:=["way","one","other"]
theorem Ziw:Zao Zit ["way","one","other"] (Zac Zc7):=by walk_at "s"
def Zfm (ZeK:Spw) (ZeS:Spw) (ZfT:Spw) (Zdl:Spw) (Zdj:Spw) (ZoR:Spw) (Zg7:Spw) (Zc2:Spw) (ZfY:Spw) (E:Addr→Hw→Prop):GS:=(gIf (gTB (Zah (Zak (eqF false)) (Zab 0) (gC (.int 0)))) (ZaT (Zai ZeK (fun _=>E) (Zaa (Zab 1) Zag))) (gIf (gTB (Zah (Zak (eqF false)) (Zab 0) (gC (.int 1)))) (ZaT (Zai ZeS (fun _=>E) (Zaa (Zab 1) Zag))) (gIf (gTB (Zah (Zak (eqF false)) (Zab 0) (gC (.int 2)))) (ZaT (Zai ZfT (fun _=>E) (Zaa (Zab 1) Zag))) (gIf (gTB (Zah (Zak (eqF false)) (Zab 0) (gC (.int 3)))) (ZaT (Zai Zdl (fun _=>E) (Zaa (Zab 1) Zag))) (gIf (gTB (Zah (Zak (eqF false)) (Zab 0) (gC (.int 4)))) (ZaT (Zai Zdj (fun _=>E) (Zaa (Zab 1) (Zaa (Zab 2) Zag)))) (gIf (gTB (Zah (Zak (eqF false)) (Zab 0) (gC (.int 5)))) (ZaT (Zai ZoR (fun _=>E) (Zaa (Zab 1) (Zaa (Zab 2) Zag)))) (gIf (gTB (Zah (Zak (eqF false)) (Zab 0) (gC (.int 6)))) (ZaT (Zai Zg7 (fun _=>E) (Zaa (Zab 1) (Zaa (Zab 2) Zag)))) (gIf (gTB (Zah (Zak (eqF false)) (Zab 0) (gC (.int 7)))) (ZaT (Zai Zc2 (fun _=>E) (Zaa (Zab 1) (Zaa (Zab 2) Zag)))) (ZaT (Zai ZfY (fun _=>E) (Zaa (Zab 1) (Zaa (Zab 2) (Zaa (ZaI (Zaa (gC (.str "a")) Zag)) Zag)))))))))))))
theorem Zl4 {k:Nat} (T:Tx K mg base a) {ZfZ:Nat} {ZeK:Spw} (Zp1:Df P w K mg base "parts_in" ZfZ 1 ZeK) (ZpQ:ZfZ≤k) {ZfX:Nat} {ZeS:Spw} (ZpS:Df P w K mg base "is_known" ZfX 1 ZeS) (Zp7:ZfX≤k) {Zhw:Nat} {ZfT:Spw} (Zq5:Df P w K mg base "is_data" Zhw 1 ZfT) (Zqv:Zhw≤k) {ZdX:Nat} {Zdl:Spw} (ZmT:Df P w K mg base "kind_shown" ZdX 1 Zdl) (Zmj:ZdX≤k) {Zd1:Nat} {Zdj:Spw} (Zmy:Df P w K mg base "knows_less" Zd1 2 Zdj) (Zm4:Zd1≤k) {ZtL:Nat} {ZoR:Spw} (Zz7:Df P w K mg base "met" ZtL 2 ZoR) (h_met:ZtL≤k) {ZiG:Nat} {Zg7:Spw} (Zth:Df P w K mg base "joined" ZiG 2 Zg7) (ZsQ:ZiG≤k) {Zdo:Nat} {Zc2:Spw} (Zlo:Df P w K mg base "first_clash" Zdo 2 Zc2) (Zlj:Zdo≤k) {Zhl:Nat} {ZfY:Spw} (ZrM:Df P w K mg base "clashes" Zhl 3 ZfY) (Zrb:Zhl≤k) {f:Addr} {cdv:Value} {A:Around} {outer:List Env} {s:Shared} {H:Hp} {E:XK} (hr:Room k (A.deeper (envOfC "_law_asked" (Zac Zc7) s.heap.objs.size f cdv))):Ssm (cxW P w K mg base Zit "_law_asked" (Zac Zc7) f cdv A outer s H E) (fun B=>B=H) (ZaZ Zc7) (Zfm ZeK ZeS ZfT Zdl Zdj ZoR Zg7 Zc2 ZfY (dnX K H E)) :=
 have hu:=Zeo hr
 have hN:=Ziw.nd
 (Zas (ZdK (by walk_at "v") (Zas (ZaP rfl (ZaA Zp1 (hr.mono ZpQ) rfl Zay rfl rfl rfl (by walk_at "v")))) (Zas (ZdK (by walk_at "v") (Zas (ZaP rfl (ZaA ZpS (hr.mono Zp7) rfl Zay rfl rfl rfl (by walk_at "v")))) (Zas (ZdK (by walk_at "v") (Zas (ZaP rfl (ZaA Zq5 (hr.mono Zqv) rfl Zay rfl rfl rfl (by walk_at "v")))) (Zas (ZdK (by walk_at "v") (Zas (ZaP rfl (ZaA ZmT (hr.mono Zmj) rfl Zay rfl rfl rfl (by walk_at "v")))) (Zas (ZdK (by walk_at "v") (Zas (ZaP rfl (ZaA Zmy (hr.mono Zm4) rfl Zay rfl rfl rfl (by walk_at "v")))) (Zas (ZdK (by walk_at "v") (Zas (ZaP rfl (ZaA Zz7 (hr.mono h_met) rfl Zay rfl rfl rfl (by walk_at "v")))) (Zas (ZdK (by walk_at "v") (Zas (ZaP rfl (ZaA Zth (hr.mono ZsQ) rfl Zay rfl rfl rfl (by walk_at "v")))) (Zas (ZdK (by walk_at "v") (Zas (ZaP rfl (ZaA Zlo (hr.mono Zlj) rfl Zay rfl rfl rfl (by walk_at "v")))) (Zas (ZaP rfl (ZaA ZrM (hr.mono Zrb) rfl Zay rfl rfl rfl (by walk_at "v"))))))))))))))))))))
abbrev Zir:List Str:=["way","one","other","flags","e"]
theorem ZdV:Zao Zir ["way","one","other"] (Zac ZfI):=by walk_at "s"
def Zis (K:PySem.W.Frag) (a:Adr) (Zdr:Spw) (Zdp:Spw):GS:=(Zar (Za2 3 (Zb1 Zag)) (Zar (Zz5 K a.CastError 4 (fun ex=>(ZaT (Zai Zdr ex (Zaa (Zab 0) (Zaa (Zab 1) (Zaa (Zab 2) Zag)))))) (Za2 3 (Zai Zdp XF (Zaa (Zab 4) Zag)))) (ZaD (Zab 3))))
theorem Zmx {k:Nat} (T:Tx K mg base a) {ZdZ:Nat} {Zdr:Spw} (Zl1:Df P w K mg base "_law_asked" ZdZ 3 Zdr) (Znp:ZdZ≤k) {Zd4:Nat} {Zdp:Spw} (Zmi:DfN P w K mg base "_law_which" Zd4 1 Zdp) (Znf:Zd4≤k):Dn P w K mg base Zir "_law_flags" ZfI k (Zis K a Zdr Zdp):=fun {f cdv A outer s H E} hr =>
 have hu:=Zeo hr
 have hN:=ZdV.nd
 (Zaj (by walk_at "v") (Zaj (ZyA (i:=4) T.ZjD T.ZcL T.ZcH T.ZcD ZdV.nd rfl rfl rfl rfl rfl rfl rfl (fun ex pn xe hp=>(Zas (ZaP rfl (ZaA Zl1 (hr.mono Znp) rfl hp rfl rfl rfl (by walk_at "v"))))) (fun e=>(Zas (Zpp (i:=3) ZdV.nd rfl rfl rfl (ZsU Zmi (ZAP hr Znf) rfl rfl rfl rfl (by walk_at "v")))))) (by walk_at "v")))
abbrev ZyH:List Str:=["script","state","kind","bad","due","way"]
theorem Zyf:Zao ZyH ["script"] (Zac ZpI):=by walk_at "s"
def ZzL (Zds:Spw) (ZaY:Spw) (Zck:Spw) (ZbA:Spw):GS:=(Zar (Za2 1 (Zai Zds XF (Zaa (Zab 0) (Zaa (gC (.int 0)) Zag)))) (Zar (Za2 2 (Zai ZaY XF (Zaa (Zab 1) (Zaa (gC (.int 2)) Zag)))) (Zar (Za2 3 (Zai Zck XF (Zaa (Zab 1) (Zaa (Zab 2) Zag)))) (Zar (Za2 4 (Zb1 (Zaa (gC (.bl true)) (Zaa (gC (.bl false)) (Zaa (gC (.bl false)) (Zaa (gC (.bl false)) (Zaa (gC (.bl false)) (Zaa (gC (.bl false)) (Zaa (gC (.bl true)) Zag))))))))) (Zar (Ze8 (Zdh (Zaa (gC (.int 9)) Zag)) (gNm 5) (Zar (gIf (gOr (gTB (Zah (Zak (eqF true)) (Zai ZbA XF (Zaa (Zab 5) (Zaa (Zab 3) (Zaa (Zab 2) Zag)))) (Zab 4))) (gOr (gTB (Zah (Zak (eqF true)) (Zai ZbA XF (Zaa (Zab 5) (Zaa (Zab 3) (Zaa (Zab 3) Zag)))) (Zab 4))) (gTB (Zah (Zak (eqF true)) (Zai ZbA XF (Zaa (Zab 5) (Zaa (Zab 2) (Zaa (Zab 2) Zag)))) (Zb1 Zag))))) (ZaD (gC (.bl false))) Zaq) (gIf (ZfE (gTB (Zah (ZeA fun i j=>decide (j < i)) (Zab 5) (gC (.int 3)))) (gTB (Zah (Zak (eqF true)) (Zai ZbA XF (Zaa (Zab 5) (Zaa (Zab 2) (Zaa (Zab 3) Zag)))) (Zab 4)))) (ZaD (gC (.bl false))) Zaq))) (ZaD (gC (.bl true))))))))
theorem ZAt {k:Nat} (T:Tx K mg base a) {ZdW:Nat} {Zds:Spw} (Zve:Df P w K mg base "_law_state" ZdW 2 Zds) (ZuH:ZdW≤k) {ZbO:Nat} {ZaY:Spw} (Znx:Df P w K mg base "_law_kind" ZbO 2 ZaY) (Znt:ZbO≤k) {ZcR:Nat} {Zck:Spw} (ZsH:Df P w K mg base "_law_no_kind" ZcR 2 Zck) (ZsD:ZcR≤k) {ZdQ:Nat} {ZbA:Spw} (ZuE:Df P w K mg base "_law_flags" ZdQ 3 ZbA) (Zu9:ZdQ≤k) {f:Addr} {cdv:Value} {A:Around} {outer:List Env} {s:Shared} {H:Hp} {E:XK} (hr:Room k (A.deeper (envOfC "law" (Zac ZpI) s.heap.objs.size f cdv))):Ssm (cxW P w K mg base ZyH "law" (Zac ZpI) f cdv A outer s H E).nox (fun B=>B=H) (ZaZ ZpI) (ZzL Zds ZaY Zck ZbA) :=
 have hu:=Zeo hr
 have hN:=Zyf.nd
 (by walk_at "v")
local macro_rules | `(tactic| walk_at "rd") => `(tactic| ((try dsimp only [Zgr,Zbk,Zf9,Zfu,Zbt,Zg3,Zar,gIf,ZaD,Za2,ZaT,Zaq,Zab,gC,Zah,gTB,Zd3,gNt,ZfE,gOr,ZbC,Zf0,ZcC,ZgV,L3.ZaI,Zb1,L3.Zaa,L3.Zag,Zai,gB,rF,Zak,ZbH,gMt,Zhp,Zbj,Ze7,ZeA,ZbF,L3.ZdJ,Zcy,gSl,Zbg,Zax,Zbp,Zbf,Zhr,Ze8,ZaK,ZaU,List.map_cons,List.map_nil,List.length_cons,List.length_nil,List.cons_append,List.nil_append,List.getElem?_cons_zero,List.getElem?_cons_succ,List.set_cons_zero,List.set_cons_succ,List.replicate,ZeM,tyN,Zae,Zbo,Zcj,Zcd,ixW,eqF,eqW,Zec,ZfV,Ze9,Zhy,List.getElem?_nil]); (try simp only [Zgr,Zbk,Zf9,Zfu,Zbt,Zg3,Zar,gIf,ZaD,Za2,ZaT,Zaq,Zab,gC,Zah,gTB,Zd3,gNt,ZfE,gOr,ZbC,Zf0,ZcC,ZgV,L3.ZaI,Zb1,L3.Zaa,L3.Zag,Zai,gB,rF,Zak,ZbH,gMt,Zhp,Zbj,Ze7,ZeA,ZbF,L3.ZdJ,Zcy,gSl,Zbg,Zax,Zbp,Zbf,Zhr,Ze8,ZaK,ZaU,List.map_cons,List.map_nil,List.length_cons,List.length_nil,List.cons_append,List.nil_append,List.getElem?_cons_zero,List.getElem?_cons_succ,List.set_cons_zero,List.set_cons_succ,List.replicate,ZeM,tyN,Zae,Zbo,Zcj,Zcd,ixW,eqF,eqW,Zec,ZfV,Ze9,Zhy,List.getElem?_nil])))
def Zsn (a:Adr):Spw:=fun ws G Q _=>∃ e:Addr,ws=[.ref e]∧G e=some (.exc a.NoKind)∧∀ p,G p=none→Q (.ref p) (put G p (.lst [.bl true,.bl false,.bl false,.bl false,.bl false,.bl false,.bl true]))
theorem Zsl:Spw.M (Zsn a):=fun ws G Q Q' E E' h _ ⟨e,h1,h2,q⟩=>⟨e,h1,h2,fun p hp=>h _ _ (q p hp)⟩
theorem ZgU {G:Hw} {e C:Addr} {cv:Value} {b:Bool} {Q:Kw} {ω:Sw} (he:G e=some (.exc C)) (hω:ω[0]?=some (some (.ref e))) (hx:Zvq K C) (hk:PySem.W.kitOne K (.ref C) cv=some b) (q:Q (.bl b) G):ZhS K cv (Zab 0) ω G Q:=by
 unfold ZhS Zab
 rw [hω]
 dsimp only
 rw [he]
 exact ⟨b,hx,hk,q⟩
theorem Zd4 (T:Tx K mg base a):DfN P w K mg base "_law_which" 1 1 (Zsn a):=by
 refine mkN T.Zmu rfl Zic Zsl (fun ws G Q E ⟨e,h,_⟩=>by rw [h];rfl) (Znc (k:=0) (E:=fun _ _ _=>True) T) fun ws G Q E hC q=>?_
 obtain ⟨e,rfl,he,q⟩:=q
 unfold Zip
 show Zar (Za2 1 (Zb1 _)) (ZaD _) (ZaK Q) [some (.ref e),none] G
 simp only [Zar,Za2,Zb1,L3.Zaa,L3.Zag,ZaD,ZaK]
 refine ZgU he rfl T.Zdb T.Zog (ZgU he rfl T.Zdb T.Zom (ZgU he rfl T.Zdb T.Zos (ZgU he rfl T.Zdb T.Zl6 ?_)))
 refine ⟨by decide,fun p hp=>?_⟩
 have ne:e≠p:=ZaO he hp
 have he2:put G p (.lst [.bl true,.bl false,.bl false,.bl false]) e=some (.exc a.NoKind):=by rw [Zat ne];exact he
 simp only [Zah,Zab,Zb1,L3.Zaa,L3.Zag,List.getElem?_cons_zero,List.getElem?_cons_succ,List.set_cons_zero,List.set_cons_succ]
 refine ZgU he2 rfl T.Zdb T.ZkI (ZgU he2 rfl T.Zdb T.ZmB (ZgU he2 rfl T.Zdb T.Zh8 ?_))
 refine ⟨by decide,fun p2 hp2=>?_⟩
 have n2:p≠p2:=ZaO Zaf hp2
 unfold L3.ZdJ
 have e1:put (put G p (.lst [.bl true,.bl false,.bl false,.bl false])) p2 (.lst [.bl false,.bl false,.bl true]) p=some (.lst [.bl true,.bl false,.bl false,.bl false]):=by rw [Zat n2];exact Zaf
 simp only [e1,Zaf]
 refine ⟨by decide,fun p3 hp3=>?_⟩
 have h3:G p3=none:=by
  cases z:G p3 with
  | none=>rfl
  | some u =>
   have a1:p3≠p:=by intro q;subst q;rw [hp] at z;cases z
   have a2:put G p (.lst [.bl true,.bl false,.bl false,.bl false]) p3=some u:=by rw [Zat a1];exact z
   have a3:p3≠p2:=ZaO a2 hp2
   rw [Zat a3,a2] at hp3;cases hp3
 refine hC _ _ _ (fun b u hu=>?_) (q p3 h3)
 by_cases hb:b=p3
 ·subst hb;rw [Zaf] at hu ⊢;exact hu
 ·rw [Zat hb] at hu ⊢
  have hb1:b≠p:=ZaO hu hp
  have hb2:put G p (.lst [.bl true,.bl false,.bl false,.bl false]) b=some u:=by rw [Zat hb1];exact hu
  rw [Zat (ZaO hb2 hp2)];exact hb2
theorem Zqj {G:Hw} {p q:Addr} {o:HW} (h:put G p o q=none):G q=none:=by
 by_cases hq:q=p
 ·subst hq;rw [Zaf] at h;cases h
 ·rw [Zat hq] at h;exact h
theorem Ztg {G G1:Hw} {p:Addr} {o:HW} (s:Sub G G1):Sub (put G p o) (put G1 p o):=Sub.put2 s
abbrev ZjH:W:=.tup [.str "num"]
abbrev bd1:List W:=[.tup [],.tup [.str "no"],.tup [.str "num",ZjH],.tup [.str "to",ZjH],.tup [.str "to",ZjH,ZjH,ZjH],.tup [.str "box"],.tup [.str "box",ZjH,ZjH],.tup [.str "row",.tup []]]
abbrev bd2:List W:=[.tup [.str "row",.tup [.tup [.str "b",.str "must",ZjH],.tup [.str "a",.str "must",ZjH]],.bl true],.tup [.str "row",.tup [.tup [.str "a",.str "must",ZjH],.tup [.str "a",.str "must",ZjH]],.bl false]]
abbrev bd3:List W:=[.tup [.str "row",.tup [.tup [.str "A",.str "must",ZjH]],.bl true],.tup [.str "row",.tup [.tup [.str "",.str "must",ZjH]],.bl true],.tup [.str "row",.tup [.tup []],.bl false]]
abbrev bd4:List W:=[.tup [.str "row",.tup [.tup [.str "a",.str "some",ZjH]],.bl true],.tup [.str "row",.tup [.tup [.str "abcdefghi",.str "may",ZjH]],.bl true],.tup [.str "any",.str "any"]]
abbrev bd5:List W:=[.tup [.str "row",.tup [.tup [.str "a",.str "must"]],.bl true],.tup [.str "row",.tup [.tup [.str "a",.str "may",ZjH,ZjH]],.bl true],.tup [.str "row",.tup [],.str "True"]]
abbrev bd6:List W:=[.tup [.str "row",.tup [.tup [.str "a",.str "must",.str "num"]],.bl true],.tup [.str "box",.str "num"],.tup [.str "to",.str "num",ZjH],.tup [.str "row",.str "a",.bl true]]
abbrev bd7:List W:=[.tup [.str "row",.tup [.str "a"],.bl false],.tup [.str "true",.bl true],.tup [.str "box",.bl true],.tup [.str "to",.bl true,ZjH],.tup [.str "row",.bl true,.bl true]]
abbrev bd8:List W:=[.tup [.str "row",.tup [.bl true],.bl false],.tup [.str "row",.tup [.tup [.str "a",.str "must",.bl false]],.bl true],.tup [.bl true],.tup [.str "to",ZjH,.bl false]]
abbrev bd9:List W:=[.tup [.str "row",.tup [.tup [.bl true,.str "may",ZjH]],.bl true],.tup [.str "row",.tup [.tup [.str "a",.bl true,ZjH]],.bl false]]
def Zqc:List W:=bd1++bd2++bd3++bd4++bd5++bd6++bd7++bd8++bd9
def okB:Nat→W→Bool
 | 0,w=>okL w
 | n+1,w=>okL w&&(!hF w||(Zc8 w).all (okB n))
theorem Zx8:∀ {n:Nat} {w:W},okB n w=true→OKW n w
 | 0,_,h=>h
 | n+1,w,h=>by
  have h':(okL w&&(!hF w||(Zc8 w).all (okB n)))=true:=h
  walk_at "ph"
  refine ⟨h'.1,fun hf c hc=>?_⟩
  have z:=h'.2
  rw [hf] at z
  exact Zx8 (List.all_eq_true.mp (by simpa using z) c hc)
theorem OKW.down:∀ {n:Nat} {w:W},OKW (n+1) w→OKW n w
 | 0,_,h=>h.1
 | n+1,_,h=>⟨h.1,fun hf c hc=>(h.2 hf c hc).down⟩
theorem Zli:Zqc.length=34:=by decide +kernel
theorem Ztq:(Zqc.all fun w=>bdW 1 w&&okB 7 w)=true:=by decide +kernel
theorem Zhn {w:W} (h:w∈Zqc):bdW 1 w=true∧OKW 7 w:=by
 have z:=List.all_eq_true.mp Ztq w h
 simp only [Bool.and_eq_true] at z
 exact ⟨z.1,Zx8 z.2⟩
theorem ZAn {w:W} (h:w∈Zqc):bad w:=⟨(Zhn h).2,Zpd (Zhn h).1⟩
theorem Zvs {w v:W} {d:Nat} (hk:v∈Zc8 w) (h:bdW d v=true):bdW (d+1) w=true:=by
 show (!hF w||(Zc8 w).any (bdW d))=true
 rw [List.any_eq_true.mpr ⟨v,hk,h⟩,Bool.or_true]
theorem Zol (w:W):Zc8 (.tup [.str "box",w])=[w]:=ZgO (h:="box") (r:=[w]) (by decide +kernel)
theorem Zrx (v w:W):Zc8 (.tup [.str "to",v,w])=[v,w]:=ZgO (h:="to") (r:=[v,w]) (by decide +kernel)
theorem ZoS (w:W):Zc8 (.tup [.str "row",.tup [.tup [.str "a",.str "may",w]],.bl true])=[w]:=ZrO (fs:=[.tup [.str "a",.str "may",w]]) (r:=[.bl true])
theorem ZvN {w:W} (h:w∈Zqc):bad (.tup [.str "box",w]):=by
 obtain ⟨h1,h2⟩:=Zhn h
 refine ⟨⟨rfl,fun _ c hc=>?_⟩,Zpd (Zvs (by rw [Zol];exact List.mem_singleton.mpr rfl) h1)⟩
 rw [Zol] at hc
 rw [List.mem_singleton.mp hc];exact h2.down
theorem Zxq {k:Kd} {w:W} (hk:gen 2 k) (h:w∈Zqc):bad (.tup [.str "to",k.enc,w]):=by
 obtain ⟨h1,h2⟩:=Zhn h
 refine ⟨⟨rfl,fun _ c hc=>?_⟩,Zpd (Zvs (by rw [Zrx];exact List.mem_cons_of_mem _ (List.mem_singleton.mpr rfl)) h1)⟩
 rw [Zrx] at hc
 simp only [List.mem_cons,List.not_mem_nil,or_false] at hc
 rcases hc with rfl | rfl
 ·exact (ZeF hk).1.down
 ·exact h2.down
theorem Zwg {w:W} (h:w∈Zqc):bad (.tup [.str "row",.tup [.tup [.str "a",.str "may",w]],.bl true]):=by
 obtain ⟨h1,h2⟩:=Zhn h
 refine ⟨⟨rfl,fun _ c hc=>?_⟩,Zpd (Zvs (by rw [ZoS];exact List.mem_singleton.mpr rfl) h1)⟩
 rw [ZoS] at hc
 rw [List.mem_singleton.mp hc];exact h2.down
def bx:Nat→Kd→Kd
 | 0,k=>k
 | n+1,k=>bx n (.box k)
theorem Zxk:∀ (n:Nat) (k:Kd),(bx n k).ok=k.ok∧(bx n k).cnt=n+k.cnt∧(bx n k).dp=n+k.dp
 | 0,k=>⟨rfl,(Nat.zero_add _).symm,(Nat.zero_add _).symm⟩
 | n+1,k=>by
  obtain ⟨h1,h2,h3⟩:=Zxk n (.box k)
  have e1:(Kd.box k).cnt=1+k.cnt:=rfl
  have e2:(Kd.box k).dp=1+k.dp:=rfl
  exact ⟨h1,by show (bx n (.box k)).cnt=_;omega,by show (bx n (.box k)).dp=_;omega⟩
def tx:Nat→Kd→Kd
 | 0,k=>k
 | n+1,k=>tx n (.to k k)
theorem ZwV:∀ (n:Nat) {k:Kd},k.ok=true→(tx n k).ok=true
 | 0,_,h=>h
 | n+1,k,h=>ZwV n (k:=.to k k) (by show (k.ok&&k.ok)=true;rw [h];rfl)
theorem ZyL {k:Kd} (hk:gen 2 k):bad (bx 8 k).enc:=by
 obtain ⟨h1,h2,h3⟩:=Zxk 8 k
 have hc:=(ZeF hk).2.2.2.2
 have hp:=ZgI k
 refine ⟨Zk3 7 (by rw [h1];exact hk.1) (by omega),?_⟩
 rw [ZnQ (by rw [h1];exact hk.1)]
 exact decide_eq_false fun z=>by omega
theorem Zuy:∀ (n:Nat) (k:Kd),(tx n k).cnt+1=2 ^ n*(k.cnt+1)
 | 0,k=>by show k.cnt+1=1*(k.cnt+1);omega
 | n+1,k=>by
  have h:=Zuy n (.to k k)
  have e:(Kd.to k k).cnt=1+(k.cnt+k.cnt):=rfl
  show (tx n (.to k k)).cnt+1=2 ^ (n+1)*(k.cnt+1)
  rw [h,e,Nat.pow_succ,Nat.mul_assoc]
  congr 1;omega
theorem ZyR {k:Kd} (hk:gen 2 k):bad (tx 6 k).enc:=by
 have hc:k.cnt≤13:=Nat.le_trans hk.2.2.1 (by decide)
 have e:=Zuy 6 k
 have h6:2 ^ 6=64:=by decide
 rw [h6] at e
 refine ⟨Zk3 7 (ZwV 6 hk.1) (by omega),?_⟩
 rw [ZnQ (ZwV 6 hk.1)]
 exact decide_eq_false fun z=>by omega
theorem Zd0 {p:Addr} {xs ys:List W} {ga:GA} {Zch:GS} {D:Ew} {ω:Sw} {G:Hw} (h0:ω[4]?=some (some (.ref p))) (hx:G p=some (.lst xs)) (hl:xs.length+ys.length≤100) (hg:∀ R:List W→Hw→Prop,R ys G→ga ω G R) (h:∀ r G',Sub G G'→G' r=some (.lst (xs++ys))→Zch D (ω.set 4 (some (.ref r))) G'):Zar (Za2 4 (Zah Zb3 (Zab 4) (Zb1 ga))) Zch D ω G:=by
 simp only [Zar,Za2,Zah,Zab,h0,Zb1]
 refine hg _ ⟨Za3 (by omega),fun q hq=>?_⟩
 have ne:p≠q:=ZaO hx hq
 have e1:put G q (.lst ys) p=some (.lst xs):=by rw [Zat ne];exact hx
 rw [Zk7 (fun z=>by obtain ⟨⟨u,hu⟩,_⟩:=z;cases hu)]
 unfold L3.ZdJ
 simp only [e1,Zaf]
 exact ⟨Za3 (by omega),fun r hr=>h r _ (ZbV (Zbm hq) hr) Zaf⟩
theorem Ztw {ys:List W} {ga:GA} {Zch:GS} {D:Ew} {ω:Sw} {G:Hw} (hl:ys.length≤100) (hg:∀ R:List W→Hw→Prop,R ys G→ga ω G R) (h:∀ r G',Sub G G'→G' r=some (.lst ys)→Zch D (ω.set 4 (some (.ref r))) G'):Zar (Za2 4 (Zb1 ga)) Zch D ω G:=by
 simp only [Zar,Za2,Zb1]
 exact hg _ ⟨Za3 (by omega),fun q hq=>h q _ (Zbm hq) Zaf⟩
theorem ZeO {i:Nat} {ge:GE} {Zch:GS} {D:Ew} {ω:Sw} {G:Hw} (h:ge ω G fun w G1=>Zch D (ω.set i (some w)) G1):Zar (Za2 i ge) Zch D ω G:=h
theorem ZrB {D:Ew} {G:Hw} {w0 w2 w3 w4 w5:Option W}:∀ (is:List W) (k:Kd) (o6:Option W),(∀ o6,D.nx [w0,some (bx is.length k).enc,w2,w3,w4,w5,o6] G) →
  Zev yes (gNm 6) (Za2 1 (L3.ZaI (L3.Zaa (gC (.str "box")) (L3.Zaa (Zab 1) L3.Zag)))) D is [w0,some k.enc,w2,w3,w4,w5,o6] G
 | [],k,o6,h=>⟨trivial,h o6⟩
 | i::is,k,o6,h=>by
  refine ⟨trivial,?_⟩
  show Za2 1 _ _ [w0,some k.enc,w2,w3,w4,w5,some i] G
  simp only [Za2,L3.ZaI,L3.Zaa,L3.Zag,gC,Zab,List.getElem?_cons_zero,List.getElem?_cons_succ,List.set_cons_zero,List.set_cons_succ]
  exact ⟨(show 2≤sizeLine by decide),ZrB is (.box k) _ h⟩
theorem ZrW {D:Ew} {G:Hw} {w0 w2 w3 w4 w5:Option W}:∀ (is:List W) (k:Kd) (o6:Option W),(∀ o6,D.nx [w0,some (tx is.length k).enc,w2,w3,w4,w5,o6] G) →
  Zev yes (gNm 6) (Za2 1 (L3.ZaI (L3.Zaa (gC (.str "to")) (L3.Zaa (Zab 1) (L3.Zaa (Zab 1) L3.Zag))))) D is [w0,some k.enc,w2,w3,w4,w5,o6] G
 | [],k,o6,h=>⟨trivial,h o6⟩
 | i::is,k,o6,h=>by
  refine ⟨trivial,?_⟩
  show Za2 1 _ _ [w0,some k.enc,w2,w3,w4,w5,some i] G
  simp only [Za2,L3.ZaI,L3.Zaa,L3.Zag,gC,Zab,List.getElem?_cons_zero,List.getElem?_cons_succ,List.set_cons_zero,List.set_cons_succ]
  exact ⟨(show 3≤sizeLine by decide),ZrW is (.to k k) _ h⟩
def Zzf:Spw:=fun ws G Q _=>∃ (s:Addr) (x y:Int) (k:Kd),ws=[.ref s,k.enc]∧gen 2 k∧G s=some (.lst [.int x,.int y])∧∀ w x' y',bad w→Q w (put G s (.lst [.int x',.int y']))
theorem Zv4:Spw.M Zzf:=fun ws G Q Q' E E' h _ ⟨s,x,y,k,h1,h2,h3,q⟩=>⟨s,x,y,k,h1,h2,h3,fun w x' y' z=>h _ _ (q w x' y' z)⟩
theorem Zu7 {xs:List W} {i:Int} (h0:0≤i) (h:i < (xs.length:Int)):∃ w∈xs,atI xs i=some w:=by
 have hk:i.toNat < xs.length:=by omega
 have ek:i=((i.toNat:Nat):Int):=by omega
 refine ⟨xs[i.toNat],List.getElem_mem hk,?_⟩
 have q:atI xs ((i.toNat:Nat):Int)=some xs[i.toNat]:=Zjv (List.getElem?_eq_getElem hk)
 rw [← ek] at q
 exact q
local macro_rules | `(tactic| walk_at "lg") => `(tactic| (simp only [L3.ZaI, L3.Zaa, L3.Zag, gC, Zab, Zah, Zn8, List.getElem?_cons_zero, List.getElem?_cons_succ, List.length_cons, List.length_nil]; repeat refine ⟨by decide, ?_⟩))
theorem ZcM {i j:Int} {n:Nat} {s t:GS} {D:Ew} {ω:Sw} {G:Hw} (h0:ω[n]?=some (some (.int i))) (h:if i=j then s D ω G else t D ω G):gIf (gTB (Zah (Zak (eqF false)) (Zab n) (gC (.int j)))) s t D ω G:=by
 simp only [gIf,gTB,Zah,Zak,Zab,h0,gC,eqF,eqW,Option.map_some,Zae]
 by_cases z:i=j
 ·rw [if_pos z] at h
  have:(i==j)=true:=by simp [z]
  rw [this];exact h
 ·rw [if_neg z] at h
  have:(i==j)=false:=by simp [z]
  rw [this];exact h
theorem ZcR (T:Tx K mg base a):Df P w K mg base "_law_no_kind" 2 2 Zzf:=by
 refine mk0 (k:=1) T.ZjU rfl Zel Zv4 (fun ws G Q E ⟨s,x,y,k,e,_⟩=>by rw [e];rfl) (ZjS T (Zbz T) (Nat.le_refl _)) fun ws G Q E hC q=>?_
 obtain ⟨s,x,y,k,rfl,hk,hs,q⟩:=q
 unfold Zgc
 show Zar (Za2 2 _) _ (ZaK Q) [some (.ref s),some k.enc,none,none,none,none,none] G
 refine ZeO ?_
 refine ⟨s,12,x,y,rfl,by decide,by decide,hs,fun way x1 y1 r0 r1=>?_⟩
 walk_at "pa"
 refine ZeO ?_
 refine ⟨(show 1≤sizeLine by decide),?_⟩
 walk_at "pa"
 refine Ztw (ys:=bd1) (by decide) (fun R hR=>?_) fun p1 G1 s1 e1=>?_
 ·walk_at "lg"
  exact hR
 walk_at "pa"
 refine Zd0 (xs:=bd1) (ys:=bd2) rfl e1 (by decide) (fun R hR=>?_) fun p2 G2 s2 e2=>?_
 ·walk_at "lg"
  exact hR
 walk_at "pa"
 refine Zd0 (xs:=bd1++bd2) (ys:=bd3) rfl e2 (by decide) (fun R hR=>?_) fun p3 G3 s3 e3=>?_
 ·walk_at "lg"
  exact hR
 walk_at "pa"
 refine Zd0 (xs:=bd1++bd2++bd3) (ys:=bd4) rfl e3 (by decide) (fun R hR=>?_) fun p4 G4 s4 e4=>?_
 ·walk_at "lg"
  exact hR
 walk_at "pa"
 refine Zd0 (xs:=bd1++bd2++bd3++bd4) (ys:=bd5) rfl e4 (by decide) (fun R hR=>?_) fun p5 G5 s5 e5=>?_
 ·walk_at "lg"
  exact hR
 walk_at "pa"
 refine Zd0 (xs:=bd1++bd2++bd3++bd4++bd5) (ys:=bd6) rfl e5 (by decide) (fun R hR=>?_) fun p6 G6 s6 e6=>?_
 ·walk_at "lg"
  exact hR
 walk_at "pa"
 refine Zd0 (xs:=bd1++bd2++bd3++bd4++bd5++bd6) (ys:=bd7) rfl e6 (by decide) (fun R hR=>?_) fun p7 G7 s7 e7=>?_
 ·walk_at "lg"
  exact hR
 walk_at "pa"
 refine Zd0 (xs:=bd1++bd2++bd3++bd4++bd5++bd6++bd7) (ys:=bd8) rfl e7 (by decide) (fun R hR=>?_) fun p8 G8 s8 e8=>?_
 ·walk_at "lg"
  exact hR
 walk_at "pa"
 refine Zd0 (xs:=bd1++bd2++bd3++bd4++bd5++bd6++bd7++bd8) (ys:=bd9) rfl e8 (by decide) (fun R hR=>?_) fun p9 G9 s9 e9=>?_
 ·walk_at "lg"
  exact hR
 walk_at "pa"
 have sb:Sub (put G s (.lst [.int x1,.int y1])) G9:=((((((((s1.trans s2).trans s3).trans s4).trans s5).trans s6).trans s7).trans s8).trans s9)
 have e9':G9 p9=some (.lst Zqc):=e9
 have hs9:G9 s=some (.lst [.int x1,.int y1]):=sb s _ Zaf
 have hne:p9≠s:=fun z=>by
  rw [z,hs9] at e9'
  have e0:Zqc=[.int x1,.int y1]:=by injection e9' with e9';injection e9' with e9';exact e9'.symm
  have:=Zli
  rw [e0] at this
  cases this
 refine ZeO ?_
 simp only [Zah,Zak,Zab,Zai,L3.Zaa,L3.Zag,gB,rF,List.getElem?_cons_zero,List.getElem?_cons_succ,Zec,ZfV,e9',Zae]
 refine ⟨s,Zqc.length,x1,y1,rfl,by rw [Zli];decide,by rw [Zli];decide,hs9,fun r x2 y2 q0 q1=>?_⟩
 obtain ⟨b,hb,hat⟩:=Zu7 (xs:=Zqc) q0 q1
 have ep:put G9 s (.lst [.int x2,.int y2]) p9=some (.lst Zqc):=by rw [Zat hne];exact e9'
 rw [Zpb ep,hat,Zae]
 walk_at "pa"
 have sb2:∀ {x y:Int},Sub (put G s (.lst [.int x,.int y])) (put G9 s (.lst [.int x,.int y])):=fun {x y}=>by
  have:=Sub.put2 (a:=s) (o:=.lst [.int x,.int y]) sb
  rwa [Zg0] at this
 simp only [Zar]
 refine ZcM (n:=2) rfl ?_
 by_cases h0:way=0
 ·rw [if_pos h0]
  refine ⟨by decide,by decide,?_⟩
  refine ZrB _ k none fun o6=>?_
  rw [List.length_map,List.length_range]
  exact hC _ _ _ sb2 (q _ _ _ (ZyL hk))
 rw [if_neg h0]
 simp only [Zaq]
 refine ZcM (n:=2) rfl ?_
 by_cases h1:way=1
 ·rw [if_pos h1]
  refine ⟨by decide,by decide,?_⟩
  refine ZrW _ k none fun o6=>?_
  rw [List.length_map,List.length_range]
  exact hC _ _ _ sb2 (q _ _ _ (ZyR hk))
 rw [if_neg h1]
 simp only [Zaq,ZaD,Zah,Zb1,L3.ZaI,L3.Zaa,L3.Zag,gC,Zab,List.getElem?_cons_zero,List.getElem?_cons_succ,List.length_cons,List.length_nil,Zai]
 repeat refine ⟨by decide,?_⟩
 intro p hp
 have e0:put (put G9 s (.lst [.int x2,.int y2])) p (.lst [b,.tup [.str "box",b],.tup [.str "to",k.enc,b],.tup [.str "row",.tup [.tup [.str "a",.str "may",b]],.bl true]]) s=some (.lst [.int x2,.int y2]):=by rw [Zat (ZaO Zaf hp)];exact Zaf
 refine ⟨s,4,x2,y2,rfl,by decide,by decide,e0,fun r2 x3 y3 u0 u1=>?_⟩
 obtain ⟨v,hv,hat2⟩:=Zu7 (xs:=[b,.tup [.str "box",b],.tup [.str "to",k.enc,b],.tup [.str "row",.tup [.tup [.str "a",.str "may",b]],.bl true]]) u0 u1
 rw [show Zak ixW (.ref p) (.int r2) _ _=opt (ixW (.ref p) (.int r2) _) _ from rfl,Zpb (by rw [Zat (Ne.symm (ZaO Zaf hp))];exact Zaf),hat2,Zae]
 have hbad:bad v:=by
  simp only [List.mem_cons,List.not_mem_nil,or_false] at hv
  rcases hv with rfl | rfl | rfl | rfl
  ·exact ZAn hb
  ·exact ZvN hb
  ·exact Zxq hk hb
  ·exact Zwg hb
 have sb3:=Sub.put2 (a:=s) (o:=.lst [.int x3,.int y3]) (ZbV (o:=.lst [b,.tup [.str "box",b],.tup [.str "to",k.enc,b],.tup [.str "row",.tup [.tup [.str "a",.str "may",b]],.bl true]]) (sb2 (x:=x2) (y:=y2)) hp)
 rw [Zg0] at sb3
 exact hC _ _ _ sb3 (q _ _ _ hbad)
def cond (a:Adr) (i:Int) (w1 w2:W) (A B:Prop):Prop:=(∃ k,w1=k.enc∧w2=k.enc∧gen 2 k∧A)∨((bad w1∧OKW 7 w2)∧B)∨(3 < i∧(OKW 7 w1∧isK w1=true)∧bad w2∧B)
theorem cond.imp {a:Adr} {i:Int} {w1 w2:W} {A B A' B':Prop} (h1:A→A') (h2:B→B') (h:cond a i w1 w2 A B):cond a i w1 w2 A' B':=by
 rcases h with ⟨k,e1,e2,g,z⟩ | ⟨h,z⟩ | ⟨h,g,g2,z⟩
 ·exact .inl ⟨k,e1,e2,g,h1 z⟩
 ·exact .inr (.inl ⟨h,h2 z⟩)
 ·exact .inr (.inr ⟨h,g,g2,h2 z⟩)
def ZvE (a:Adr):Spw:=fun ws G Q E=>∃ (i:Int) (w1 w2:W),ws=[.int i,w1,w2]∧0≤i∧i≤8∧cond a i w1 w2 (Q .non G) (E a.NoKind G)
theorem Zvx:Spw.M (ZvE a):=fun ws G Q Q' E E' h h' ⟨i,w1,w2,e,h0,h8,q⟩=>⟨i,w1,w2,e,h0,h8,q.imp (h _ _) (h' _ _)⟩
theorem Zqu:∀ ws G Q E,ZvE a ws G Q E→ws.length=3:=fun ws G Q E ⟨i,w1,w2,e,_⟩=>by rw [e];rfl
theorem ZoI {i:Int} {w1 w2:W} {G:Hw} {Q:Kw} {E:Addr→Hw→Prop} {w0:Option W} (hi:i≤3) (q:cond a i w1 w2 (Q .non G) (E a.NoKind G)):ZaT (Zai (Zn5 a.NoKind) (fun _=>E) (L3.Zaa (Zab 1) L3.Zag)) (ZaK Q) [w0,some w1,some w2] G:=by
 simp only [ZaT,Zai,L3.Zaa,L3.Zag,Zab,List.getElem?_cons_zero,List.getElem?_cons_succ,ZaK]
 rcases q with ⟨k,e1,e2,g,z⟩ | ⟨h,z⟩ | ⟨h,g,g2,z⟩
 ·exact .inl ⟨k,by rw [e1],g,fun _=>z⟩
 ·exact .inr ⟨w1,rfl,h.1,z⟩
 ·omega
theorem ZmX {i:Int} {w1 w2:W} {G:Hw} {Q:Kw} {E:Addr→Hw→Prop} (ps:List W) (q:cond a i w1 w2 (Q .non G) (E a.NoKind G)):ZlX a.NoKind ps (w1::w2::ps) G (fun _ G1=>Q .non G1) E:=by
 rcases q with ⟨k,e1,e2,g,z⟩ | ⟨h,z⟩ | ⟨h,g,g2,z⟩
 ·exact .inl ⟨k,by rw [e1,e2],g,fun _=>z⟩
 ·exact .inr ⟨w1,w2,rfl,.inl h,z⟩
 ·exact .inr ⟨w1,w2,rfl,.inr ⟨g,g2⟩,z⟩
theorem ZdZ (T:Tx K mg base a):Df P w K mg base "_law_asked" 31 3 (ZvE a):=by
 refine mkX (k:=30) T.ZmY rfl Ziw Zvx Zqu (g:=fun E=>Zfm _ _ _ _ _ _ _ _ _ E) (Zl4 T (ZfZ T) (by omega) (ZfX T) (by omega) (Zhw T) (by omega) (ZdX T) (by omega) (Zd1 T) (by omega) (ZtL T) (by omega) (ZiG T) (by omega) (Zdo T) (by omega) (Zhl T) (by omega)) fun ws G Q E hC hX q=>?_
 obtain ⟨i,w1,w2,rfl,h0,h8,q⟩:=q
 unfold Zfm
 show gIf _ _ _ (ZaK Q) [some (.int i),some w1,some w2] G
 refine ZcM (n:=0) rfl ?_
 by_cases z:i=0
 ·rw [if_pos z];exact ZoI (by omega) q
 rw [if_neg z]
 refine ZcM (n:=0) rfl ?_
 by_cases z1:i=1
 ·rw [if_pos z1];exact ZoI (by omega) q
 rw [if_neg z1]
 refine ZcM (n:=0) rfl ?_
 by_cases z2:i=2
 ·rw [if_pos z2];exact ZoI (by omega) q
 rw [if_neg z2]
 refine ZcM (n:=0) rfl ?_
 by_cases z3:i=3
 ·rw [if_pos z3];exact ZoI (by omega) q
 rw [if_neg z3]
 refine ZcM (n:=0) rfl ?_
 by_cases z4:i=4
 ·rw [if_pos z4];exact ZmX [] q
 rw [if_neg z4]
 refine ZcM (n:=0) rfl ?_
 by_cases z5:i=5
 ·rw [if_pos z5];exact ZmX [] q
 rw [if_neg z5]
 refine ZcM (n:=0) rfl ?_
 by_cases z6:i=6
 ·rw [if_pos z6];exact ZmX [] q
 rw [if_neg z6]
 refine ZcM (n:=0) rfl ?_
 by_cases z7:i=7
 ·rw [if_pos z7];exact ZmX [] q
 rw [if_neg z7]
 exact ⟨(show 1≤sizeLine by decide),ZmX [.tup [.str "a"]] q⟩
abbrev due:List W:=[.bl true,.bl false,.bl false,.bl false,.bl false,.bl false,.bl true]
def Zw9 (a:Adr):Spw:=fun ws G Q _=>∃ (i:Int) (w1 w2:W),ws=[.int i,w1,w2]∧0≤i∧i≤8∧cond a i w1 w2 (∀ p,G p=none→Q (.ref p) (put G p (.lst []))) (∀ p,G p=none→Q (.ref p) (put G p (.lst due)))
theorem ZxY:Spw.M (Zw9 a):=fun ws G Q Q' E E' h h' ⟨i,w1,w2,e,h0,h8,q⟩=>⟨i,w1,w2,e,h0,h8,q.imp (fun z p hp=>h _ _ (z p hp)) (fun z p hp=>h _ _ (z p hp))⟩
theorem ZdQ (T:Tx K mg base a):Df P w K mg base "_law_flags" 32 3 (Zw9 a):=by
 refine mk0 (k:=31) T.Zmm rfl ZdV ZxY (fun ws G Q E ⟨i,w1,w2,e,_⟩=>by rw [e];rfl) (Zmx T (ZdZ T) (by omega) (Zd4 T) (by omega)) fun ws G Q E hC q=>?_
 obtain ⟨i,w1,w2,rfl,h0,h8,q⟩:=q
 unfold Zis
 show Zar (Za2 3 (Zb1 _)) (Zar (Zz5 _ _ _ _ _) (ZaD _)) (ZaK Q) [some (.int i),some w1,some w2,none,none] G
 simp only [Zar,Za2,Zb1,L3.Zag,List.set_cons_zero,List.set_cons_succ]
 refine ⟨by decide,fun p0 hp0=>?_⟩
 refine ⟨_,⟨fun _ _ z=>z,fun _ _ z=>z,fun _ _ z=>z,fun _ _ z=>z⟩,?_⟩
 simp only [Zx5,Za2,ZaT,Zai,L3.Zaa,L3.Zag,Zab,List.getElem?_cons_zero,List.getElem?_cons_succ,List.set_cons_zero,List.set_cons_succ]
 refine ⟨i,w1,w2,rfl,h0,h8,q.imp (fun z=>?_) (fun z=>?_)⟩
 ·exact z p0 hp0
 ·refine ⟨T.Zkc,fun e he=>?_⟩
  refine ⟨e,rfl,Zaf,fun p hp=>?_⟩
  simp only [ZwT,ZaD,Zab,ZaK,List.getElem?_cons_zero,List.getElem?_cons_succ,List.set_cons_zero,List.set_cons_succ]
  exact hC _ _ _ (Ztg (ZbV (Zbm hp0) he)) (z p (Zqj (Zqj hp)))
theorem ZiE {G:Hw} {p r:Addr} {xs:List W} (h1:G p=some (.lst xs)) (h2:G r=some (.lst xs)) (hd:L3.dpL xs < 90) (he:ZjY xs xs=some true):eqF true (.ref p) (.ref r) G=some (.bl false):=by
 have:eqW (.ref p) (.ref r) G=some true:=by
  unfold eqW
  simp only [h1,h2]
  rw [if_pos hd,he]
 unfold eqF
 rw [this];rfl
abbrev gL1 (a:Adr):GS:=gIf (gOr (gTB (Zah (Zak (eqF true)) (Zai (Zw9 a) XF (L3.Zaa (Zab 5) (L3.Zaa (Zab 3) (L3.Zaa (Zab 2) L3.Zag)))) (Zab 4))) (gOr (gTB (Zah (Zak (eqF true)) (Zai (Zw9 a) XF (L3.Zaa (Zab 5) (L3.Zaa (Zab 3) (L3.Zaa (Zab 3) L3.Zag)))) (Zab 4))) (gTB (Zah (Zak (eqF true)) (Zai (Zw9 a) XF (L3.Zaa (Zab 5) (L3.Zaa (Zab 2) (L3.Zaa (Zab 2) L3.Zag)))) (Zb1 L3.Zag))))) (ZaD (gC (.bl false))) Zaq
abbrev gL2 (a:Adr):GS:=gIf (ZfE (gTB (Zah (ZeA fun i j=>decide (j < i)) (Zab 5) (gC (.int 3)))) (gTB (Zah (Zak (eqF true)) (Zai (Zw9 a) XF (L3.Zaa (Zab 5) (L3.Zaa (Zab 2) (L3.Zaa (Zab 3) L3.Zag)))) (Zab 4)))) (ZaD (gC (.bl false))) Zaq
theorem Zlc {D:Ew} {k:Kd} {b:W} {pd:Addr} {w0 w1:Option W} (hk:gen 2 k) (hb:bad b):∀ (is:List Nat) (o:Option W) (G:Hw),(∀ i∈is,i≤8)→G pd=some (.lst due)→(∀ o G',D.nx [w0,w1,some k.enc,some b,some (.ref pd),o] G') →
  Zev yes (gNm 5) (Zar (gL1 a) (gL2 a)) D (is.map fun i:Nat=>W.int i) [w0,w1,some k.enc,some b,some (.ref pd),o] G
 | [],o,G,_,_,h=>⟨trivial,h o G⟩
 | i::is,o,G,hi,hd,h=>by
  refine ⟨trivial,?_⟩
  show Zar (gL1 a) (gL2 a) _ [w0,w1,some k.enc,some b,some (.ref pd),some (.int i)] G
  have h0:(0:Int)≤(i:Int):=by omega
  have h8:(i:Int)≤8:=by have:=hi i List.mem_cons_self;omega
  obtain ⟨o1,o2,wk,d3,c40⟩:=ZeF hk
  have hdue:L3.dpL due < 90:=by decide
  have heq:ZjY due due=some true:=by decide
  simp only [Zar,gL1,gIf,gOr,gTB,Zah,Zak,Zai,L3.Zaa,L3.Zag,Zab,List.getElem?_cons_zero,List.getElem?_cons_succ]
  refine ⟨i,b,k.enc,rfl,h0,h8,.inr (.inl ⟨⟨hb,o1⟩,fun p1 hp1=>?_⟩)⟩
  have n1:put G p1 (.lst due) pd=some (.lst due):=by rw [Zat (ZaO hd hp1)];exact hd
  show opt (eqF true (.ref p1) (.ref pd) (put G p1 (.lst due))) _
  rw [ZiE Zaf n1 hdue heq,Zae]
  walk_at "py"
  refine ⟨i,b,b,rfl,h0,h8,.inr (.inl ⟨⟨hb,hb.1⟩,fun p2 hp2=>?_⟩)⟩
  have n2:put (put G p1 (.lst due)) p2 (.lst due) pd=some (.lst due):=by rw [Zat (ZaO n1 hp2)];exact n1
  show opt (eqF true (.ref p2) (.ref pd) (put (put G p1 (.lst due)) p2 (.lst due))) _
  rw [ZiE Zaf n2 hdue heq,Zae]
  walk_at "py"
  refine ⟨i,k.enc,k.enc,rfl,h0,h8,.inl ⟨k,rfl,rfl,hk,fun p3 hp3=>?_⟩⟩
  have n3:put (put (put G p1 (.lst due)) p2 (.lst due)) p3 (.lst []) pd=some (.lst due):=by rw [Zat (ZaO n2 hp3)];exact n2
  simp only [Zb1,List.length_nil]
  refine ⟨by decide,fun p4 hp4=>?_⟩
  have n4:put (put (put (put G p1 (.lst due)) p2 (.lst due)) p3 (.lst [])) p4 (.lst []) pd=some (.lst due):=by rw [Zat (ZaO n3 hp4)];exact n3
  have m4:put (put (put (put G p1 (.lst due)) p2 (.lst due)) p3 (.lst [])) p4 (.lst []) p3=some (.lst []):=by rw [Zat (ZaO Zaf hp4)];exact Zaf
  show opt (eqF true (.ref p3) (.ref p4) (put (put (put (put G p1 (.lst due)) p2 (.lst due)) p3 (.lst [])) p4 (.lst []))) _
  rw [ZiE m4 Zaf (by decide) rfl,Zae]
  generalize put (put (put (put G p1 (.lst due)) p2 (.lst due)) p3 (.lst [])) p4 (.lst [])=G4 at n4 ⊢
  simp only [Bool.false_eq_true,if_false,Zaq,gL2,gIf,ZfE,gTB,Zah,ZeA,Zak,Zai,L3.Zaa,L3.Zag,Zab,gC,List.getElem?_cons_zero,List.getElem?_cons_succ]
  by_cases z:(3:Int) < (i:Int)
  ·simp only [z,decide_true,if_true]
   refine ⟨i,k.enc,b,rfl,h0,h8,.inr (.inr ⟨z,⟨o1,o2⟩,hb,fun p5 hp5=>?_⟩)⟩
   have n5:put G4 p5 (.lst due) pd=some (.lst due):=by rw [Zat (ZaO n4 hp5)];exact n4
   show opt (eqF true (.ref p5) (.ref pd) (put G4 p5 (.lst due))) _
   rw [ZiE Zaf n5 hdue heq,Zae]
   walk_at "py"
   exact Zlc hk hb is _ _ (fun j hj=>hi j (List.mem_cons_of_mem _ hj)) n5 h
  ·simp only [z,decide_false,Bool.false_eq_true,if_false]
   exact Zlc hk hb is _ _ (fun j hj=>hi j (List.mem_cons_of_mem _ hj)) n4 h
theorem ZAQ (T:Tx K mg base a) {f:Addr} {fd:FuncData} (F:Fun K "law" "law" ZpI f fd):FnOk P w K mg base (CXe P w) 33 f fd ["script"] (Zu6 K Zui):=by
 refine ok0 F Zyf (fun ws G Q E ⟨ns,e,_⟩=>by rw [e];rfl) (ZAt (k:=32) T (ZdW T) (by omega) (ZbO T 2) (by omega) (ZcR T) (by omega) (ZdQ T) (by omega)) fun ws G Q E hC q=>?_
 obtain ⟨ns,rfl,hns,q⟩:=q
 unfold ZzL
 show Zar (Za2 1 _) _ (ZaK Q) [some (.rol (ns.map W.int)),none,none,none,none,none] G
 refine ZeO ?_
 refine ⟨ns,0,rfl,by decide,by decide,fun s x y hs=>?_⟩
 walk_at "pa"
 refine ZeO ?_
 refine ⟨s,x,y,rfl,Zaf,fun k x1 y1 hk=>?_⟩
 walk_at "pa"
 refine ZeO ?_
 refine ⟨s,x1,y1,k,rfl,hk,Zaf,fun b x2 y2 hb=>?_⟩
 walk_at "pa"
 generalize put _ s (.lst [.int x2,.int y2])=G2
 refine ZeO ?_
 simp only [Zb1,L3.Zaa,L3.Zag,gC,List.length_cons,List.length_nil,List.set_cons_zero,List.set_cons_succ]
 refine ⟨by decide,fun pd hpd=>?_⟩
 simp only [Zar,Ze8,Zdh,L3.Zaa,L3.Zag,gC]
 refine ⟨by decide,by decide,?_⟩
 refine Zlc hk hb (List.range 9) none _ (fun i hi=>by have:=List.mem_range.mp hi;omega) Zaf fun o G'=>?_
 exact q _
theorem ZpB {base:Heap} {e:DictEntry} {x:Str} {i:Int} {t u:Tok} {es:List DictEntry} {D:List (Str×KTD.Dat)} (h1:e.key=.str x t) (h2:e.val=.int i u) (r:KTD.Rows (KTD.Dat.At base) es D):KTD.Rows (KTD.Dat.At base) (e::es) ((x,KTD.Dat.flat (.int i))::D) :=
 .cons h1 (by rw [h2];exact PyProof.V.Flat.int i u) r
theorem Zz8 {K:PySem.W.Frag} {h:Heap} {mg:Str→Option Value} (X:K.In h) (G:h.Ns mainGlobals mg) (FF:Fns K mg) (NN:Bls mg) {c_CastError c_NoKind c_NoTerm c_BadUse c_NoValue c_NoNumber c_BadNote:Addr} {z_MARKS:Addr} {w0_MARKS w1_MARKS:Tok} {dd_MARKS:Option Addr} {nn_MARKS:Nat} {sl_MARKS:Array (Option Value)} {w_MOST_DEPTH:Tok} {w_MOST_KINDS:Tok} {w_MOST_LETTERS:Tok} {z_LENGTHS:Addr} {ep_LENGTHS:Nat} {e0_LENGTHS e1_LENGTHS e2_LENGTHS e3_LENGTHS e4_LENGTHS e5_LENGTHS:DictEntry} {a0_LENGTHS b0_LENGTHS:Tok} {a1_LENGTHS b1_LENGTHS:Tok} {a2_LENGTHS b2_LENGTHS:Tok} {a3_LENGTHS b3_LENGTHS:Tok} {a4_LENGTHS b4_LENGTHS:Tok} {a5_LENGTHS b5_LENGTHS:Tok} {z_STEPS:Addr} {ep_STEPS:Nat} {s0:DictEntry} {st0:Tok} {sa0:Addr} {sd0:Option Addr} {sn0:Nat} {sl0:Array (Option Value)} {s1:DictEntry} {st1:Tok} {sa1:Addr} {sd1:Option Addr} {sn1:Nat} {sl1:Array (Option Value)} {s2:DictEntry} {st2:Tok} {sa2:Addr} {sd2:Option Addr} {sn2:Nat} {sl2:Array (Option Value)} {s3:DictEntry} {st3:Tok} {sa3:Addr} {sd3:Option Addr} {sn3:Nat} {sl3:Array (Option Value)} {sw3_0:Tok} {sw3_1:Tok} {s4:DictEntry} {st4:Tok} {sa4:Addr} {sd4:Option Addr} {sn4:Nat} {sl4:Array (Option Value)} {sw4_0:Tok} {d_CastError d_NoKind d_NoTerm d_BadUse d_NoValue d_NoNumber d_BadNote:ClassData}
  (e_CastError:PySem.W.nsIn K mainGlobals "CastError"=some (some (.ref c_CastError)))
  (e_NoKind:PySem.W.nsIn K mainGlobals "NoKind"=some (some (.ref c_NoKind)))
  (e_NoTerm:PySem.W.nsIn K mainGlobals "NoTerm"=some (some (.ref c_NoTerm)))
  (e_BadUse:PySem.W.nsIn K mainGlobals "BadUse"=some (some (.ref c_BadUse)))
  (e_NoValue:PySem.W.nsIn K mainGlobals "NoValue"=some (some (.ref c_NoValue)))
  (e_NoNumber:PySem.W.nsIn K mainGlobals "NoNumber"=some (some (.ref c_NoNumber)))
  (e_BadNote:PySem.W.nsIn K mainGlobals "BadNote"=some (some (.ref c_BadNote)))
  (Zcc:PySem.W.nsIn K mainGlobals "MARKS"=some (some (.ref z_MARKS)))
  (l_MARKS:K.lookup z_MARKS=some ⟨.type "tuple",dd_MARKS,.seq #[.str "must" w0_MARKS,.str "may" w1_MARKS] nn_MARKS,sl_MARKS⟩)
  (ZaL:PySem.W.nsIn K mainGlobals "MOST_DEPTH"=some (some (.int 8 w_MOST_DEPTH)))
  (ZaM:PySem.W.nsIn K mainGlobals "MOST_KINDS"=some (some (.int 40 w_MOST_KINDS)))
  (ZaB:PySem.W.nsIn K mainGlobals "MOST_LETTERS"=some (some (.int 8 w_MOST_LETTERS)))
  (v_LENGTHS:PySem.W.nsIn K mainGlobals "LENGTHS"=some (some (.ref z_LENGTHS)))
  (l_LENGTHS:K.lookup z_LENGTHS=some ⟨.type "dict",none,.dict #[e0_LENGTHS,e1_LENGTHS,e2_LENGTHS,e3_LENGTHS,e4_LENGTHS,e5_LENGTHS] ep_LENGTHS,#[]⟩)
  (u_LENGTHS:(z_LENGTHS==sysModules)=false)
  (a0_LENGTHS_:e0_LENGTHS.key=.str "any" a0_LENGTHS)
  (b0_LENGTHS_:e0_LENGTHS.val=.int 1 b0_LENGTHS)
  (a1_LENGTHS_:e1_LENGTHS.key=.str "num" a1_LENGTHS)
  (b1_LENGTHS_:e1_LENGTHS.val=.int 1 b1_LENGTHS)
  (a2_LENGTHS_:e2_LENGTHS.key=.str "truth" a2_LENGTHS)
  (b2_LENGTHS_:e2_LENGTHS.val=.int 1 b2_LENGTHS)
  (a3_LENGTHS_:e3_LENGTHS.key=.str "to" a3_LENGTHS)
  (b3_LENGTHS_:e3_LENGTHS.val=.int 3 b3_LENGTHS)
  (a4_LENGTHS_:e4_LENGTHS.key=.str "box" a4_LENGTHS)
  (b4_LENGTHS_:e4_LENGTHS.val=.int 2 b4_LENGTHS)
  (a5_LENGTHS_:e5_LENGTHS.key=.str "row" a5_LENGTHS)
  (b5_LENGTHS_:e5_LENGTHS.val=.int 3 b5_LENGTHS)
  (v_STEPS:PySem.W.nsIn K mainGlobals "STEPS"=some (some (.ref z_STEPS)))
  (l_STEPS:K.lookup z_STEPS=some ⟨.type "dict",none,.dict #[s0,s1,s2,s3,s4] ep_STEPS,#[]⟩)
  (u_STEPS:(z_STEPS==sysModules)=false)
  (ka0:s0.key=.str "any" st0)
  (kb0:s0.val=.ref sa0)
  (kc0:K.lookup sa0=some ⟨.type "tuple",sd0,.seq #[] sn0,sl0⟩)
  (ka1:s1.key=.str "num" st1)
  (kb1:s1.val=.ref sa1)
  (kc1:K.lookup sa1=some ⟨.type "tuple",sd1,.seq #[] sn1,sl1⟩)
  (ka2:s2.key=.str "truth" st2)
  (kb2:s2.val=.ref sa2)
  (kc2:K.lookup sa2=some ⟨.type "tuple",sd2,.seq #[] sn2,sl2⟩)
  (ka3:s3.key=.str "to" st3)
  (kb3:s3.val=.ref sa3)
  (kc3:K.lookup sa3=some ⟨.type "tuple",sd3,.seq #[.str "in" sw3_0,.str "out" sw3_1] sn3,sl3⟩)
  (ka4:s4.key=.str "box" st4)
  (kb4:s4.val=.ref sa4)
  (kc4:K.lookup sa4=some ⟨.type "tuple",sd4,.seq #[.str "inside" sw4_0] sn4,sl4⟩)
  (ZfS:PySem.W.excIn K c_NoKind [.type "ValueError",.type "Exception",.type "BaseException",.type "object"] "ValueError.__new__"=true)
  (ZcH:PySem.W.clsIn K c_CastError=some d_CastError)
  (k_NoKind:PySem.W.clsIn K c_NoKind=some d_NoKind)
  (k_NoTerm:PySem.W.clsIn K c_NoTerm=some d_NoTerm)
  (k_BadUse:PySem.W.clsIn K c_BadUse=some d_BadUse)
  (k_NoValue:PySem.W.clsIn K c_NoValue=some d_NoValue)
  (k_NoNumber:PySem.W.clsIn K c_NoNumber=some d_NoNumber)
  (k_BadNote:PySem.W.clsIn K c_BadNote=some d_BadNote)
  (ZcL:PySem.W.typeIn K (.ref c_CastError)=some (.type "type"))
  (t_NoTerm:PySem.W.typeIn K (.ref c_NoTerm)=some (.type "type"))
  (t_BadUse:PySem.W.typeIn K (.ref c_BadUse)=some (.type "type"))
  (t_NoValue:PySem.W.typeIn K (.ref c_NoValue)=some (.type "type"))
  (t_NoNumber:PySem.W.typeIn K (.ref c_NoNumber)=some (.type "type"))
  (t_BadNote:PySem.W.typeIn K (.ref c_BadNote)=some (.type "type"))
  (ZcD:PySem.W.subIn K (.ref c_CastError) (.type "BaseException")=some true)
  (s_CastError:PySem.W.subIn K (.ref c_NoKind) (.ref c_CastError)=some true)
  (s_NoTerm:PySem.W.subIn K (.ref c_NoKind) (.ref c_NoTerm)=some false)
  (u_NoTerm:(Value.ref c_NoKind==Value.ref c_NoTerm)=false)
  (s_BadUse:PySem.W.subIn K (.ref c_NoKind) (.ref c_BadUse)=some false)
  (u_BadUse:(Value.ref c_NoKind==Value.ref c_BadUse)=false)
  (s_NoValue:PySem.W.subIn K (.ref c_NoKind) (.ref c_NoValue)=some false)
  (u_NoValue:(Value.ref c_NoKind==Value.ref c_NoValue)=false)
  (s_NoNumber:PySem.W.subIn K (.ref c_NoKind) (.ref c_NoNumber)=some false)
  (u_NoNumber:(Value.ref c_NoKind==Value.ref c_NoNumber)=false)
  (s_BadNote:PySem.W.subIn K (.ref c_NoKind) (.ref c_BadNote)=some false)
  (u_BadNote:(Value.ref c_NoKind==Value.ref c_BadNote)=false)
  (s_ValueError:PySem.W.subIn K (.ref c_NoKind) (.type "ValueError")=some true)
  (y1:PySem.W.findIn K (.ref c_NoKind) "__getattribute__"=some (some (.builtin "BaseException.__getattribute__")))
  (y2:PySem.W.findIn K (.ref c_NoKind) "__getattr__"=some none)
  (y4:PySem.W.findIn K (.ref c_NoKind) "__class__"=some (some (.builtin "object.__class__")))
  (y5:PySem.W.specialIn K (.builtin "object.__class__") "__get__"=some (some (.builtin "getset_descriptor.__get__")))
  (y6:PySem.W.takesIn K (.builtin "object.__class__")=some true)
  (y7:PySem.W.mroIn K c_NoKind (.type "object")=some true)
  (y8:PySem.W.mroIn K c_NoKind (.type "BaseException")=some true)
 :
  ∃ a:Adr,∀ base:Heap,K.In base→Tx K mg base a:=by
 refine ⟨⟨c_CastError,c_NoKind,c_NoTerm,c_BadUse,c_NoValue,c_NoNumber,c_BadNote⟩,fun base B=>?_⟩
 exact {
  toFns:=FF
  toBls:=NN
  ZjD:=PySem.W.mg_of X G e_CastError
  Zk1:=PySem.W.mg_of X G e_NoKind
  Zot:=PySem.W.mg_of X G e_NoTerm
  Zo8:=PySem.W.mg_of X G e_BadUse
  Zmf:=PySem.W.mg_of X G e_NoValue
  Zkn:=PySem.W.mg_of X G e_NoNumber
  Zmp:=PySem.W.mg_of X G e_BadNote
  Zcc:=ZvG X G (ts:=[("must",w0_MARKS),("may",w1_MARKS)]) Zcc l_MARKS (by simp)
  ZaL:=ZnR X G ZaL
  ZaM:=ZnR X G ZaM
  ZaB:=ZnR X G ZaB
  ZbP:=ZxA X G B v_LENGTHS l_LENGTHS u_LENGTHS ⟨rfl,rfl,rfl⟩ rfl (ZpB a0_LENGTHS_ b0_LENGTHS_ (ZpB a1_LENGTHS_ b1_LENGTHS_ (ZpB a2_LENGTHS_ b2_LENGTHS_ (ZpB a3_LENGTHS_ b3_LENGTHS_ (ZpB a4_LENGTHS_ b4_LENGTHS_ (ZpB a5_LENGTHS_ b5_LENGTHS_ .nil))))))
  Znu:=Zwv X G B v_STEPS l_STEPS u_STEPS ⟨rfl,rfl,rfl⟩ rfl (Zq0 (ts:=[]) ka0 kb0 kc0 (by simp) (Zq0 (ts:=[]) ka1 kb1 kc1 (by simp) (Zq0 (ts:=[]) ka2 kb2 kc2 (by simp) (Zq0 (ts:=[("in",sw3_0),("out",sw3_1)]) ka3 kb3 kc3 (by simp) (Zq0 (ts:=[("inside",sw4_0)]) ka4 kb4 kc4 (by simp) .nil)))))
  ZfS:=ZfS
  ZcL:=ZcL
  ZcH:=ZgK ZcH
  ZcD:=ZcD
  Zkc:=s_CastError
  Zdb:=⟨y1,y2,ZgK k_NoKind,y4,y5,y6,y7,y8⟩
  Zog:=Zt6
  Zom:=Zms u_NoTerm (ZgK k_NoTerm) t_NoTerm s_NoTerm
  Zos:=Zms u_BadUse (ZgK k_BadUse) t_BadUse s_BadUse
  Zl6:=Zms u_NoValue (ZgK k_NoValue) t_NoValue s_NoValue
  ZkI:=Zms u_NoNumber (ZgK k_NoNumber) t_NoNumber s_NoNumber
  ZmB:=Zms u_BadNote (ZgK k_BadNote) t_BadNote s_BadNote
  Zh8:=ZxG (by decide +kernel) s_ValueError }
end KL
open PySem PySem.W PyProof.Rows
set_option hygiene false in
local macro_rules | `(tactic| walk_at "fb") => `(tactic| (intro _ _ _ _ _ _ us hl; first | (obtain rfl := L3.ln0 hl; rfl) | (obtain ⟨_, _, rfl, g0⟩ := L3.ln1 hl; first | (obtain rfl := L3.ln0 g0; rfl) | (obtain ⟨_, _, rfl, g1⟩ := L3.ln1 g0; first | (obtain rfl := L3.ln0 g1; rfl) | (obtain ⟨_, _, rfl, g2⟩ := L3.ln1 g1; first | (obtain rfl := L3.ln0 g2; rfl) | (obtain ⟨_, _, rfl, g3⟩ := L3.ln1 g2; first | (obtain rfl := L3.ln0 g3; rfl) | (obtain ⟨_, _, rfl, g4⟩ := L3.ln1 g3; obtain rfl := L3.ln0 g4; rfl)))))))
set_option hygiene false in
local macro_rules | `(tactic| walk_at "fk") => `(tactic| (dsimp only [L2.KOf]; refine' L3.ZAN KX G ?e ?l ?c ?k ?b; (case e => k_is); (case l => k_is); (case c => k_is); (case k => k_is); (case b => walk_at "fb")))
set_option maxRecDepth 100000 in
set_option maxHeartbeats 0 in
theorem PySem.Challenge.cw_castwright_k02_no_kinds_holds : PySem.Challenge.rw_castwright_k02_no_kinds.Holds := by
 show KL.rwS.Holds
 w_on;o_law
 refine holds_open (r:=KL.rwS.row) (q:=KL.vwS) (loose:=["LENGTHS","STEPS"]) (N:=6778)
  (Yf:=(kHook KL.KF KL.KL KL.kfe).obs) (Ya:=(kHook KL.KF KL.KL KL.kfe).val) (YP:=(kHook KL.KF KL.KL KL.kfe).says)
  (Xt:=fun s=>xlAt KL.vwS [] s&&recOk (RowW.records KL.rwS.row.toRowW) s)
  (XP:=XL KL.vwS []) ?hl (kHook KL.KF KL.KL KL.kfe).of (kHook KL.KF KL.KL KL.kfe).keeps ?g1 XL.keeps rfl rfl rfl ?g2 rfl
  ?g3 (by decide +kernel) ?g4 ?hw ?hc
 case g1=>exact fun s e=>xl_of s (Bool.and_eq_true_iff.mp e).1
 case g2=>exact fun s e=>recFacts_of (Bool.and_eq_true_iff.mp e).2
 case g3=>first | assumption | decide +kernel
 case g4=>exact ⟨rfl,rfl,rfl,rfl,rfl,by decide +kernel⟩
 case hw=>w_witness2
 case hl=>exact byRow2 "special-get-raises" KL.lbf KL.lbt
 k_fill
 refine L3.ZAX (l:=KL.rwS) (k:=33) ⟨rfl,by decide,by decide⟩ rfl rfl (fun w h Y=>PySem.W.kIn_of Y) ?F
 case F =>
  intro w mg fa h KX G hmg
  have FF:KL.Fns (L2.KOf KX) mg:=by constructor <;> walk_at "fk"
  have NN:KL.Bls mg:=by constructor <;> exact PySem.W.mg_none_of KX G (by k_is)
  have T:∃ a:KL.Adr,∀ base:Heap,(L2.KOf KX).In base→KL.Tx (L2.KOf KX) mg base a:=by
   dsimp only [L2.KOf] at *
   refine' KL.Zz8 KX G FF NN ?e_CastError ?e_NoKind ?e_NoTerm ?e_BadUse ?e_NoValue ?e_NoNumber ?e_BadNote ?Zcc ?l_MARKS ?ZaL ?ZaM ?ZaB ?v_LENGTHS ?l_LENGTHS ?u_LENGTHS ?a0_LENGTHS_ ?b0_LENGTHS_ ?a1_LENGTHS_ ?b1_LENGTHS_ ?a2_LENGTHS_ ?b2_LENGTHS_ ?a3_LENGTHS_ ?b3_LENGTHS_ ?a4_LENGTHS_ ?b4_LENGTHS_ ?a5_LENGTHS_ ?b5_LENGTHS_ ?v_STEPS ?l_STEPS ?u_STEPS ?ka0 ?kb0 ?kc0 ?ka1 ?kb1 ?kc1 ?ka2 ?kb2 ?kc2 ?ka3 ?kb3 ?kc3 ?ka4 ?kb4 ?kc4 ?ZfS ?ZcH ?k_NoKind ?k_NoTerm ?k_BadUse ?k_NoValue ?k_NoNumber ?k_BadNote ?ZcL ?t_NoTerm ?t_BadUse ?t_NoValue ?t_NoNumber ?t_BadNote ?ZcD ?s_CastError ?s_NoTerm ?u_NoTerm ?s_BadUse ?u_BadUse ?s_NoValue ?u_NoValue ?s_NoNumber ?u_NoNumber ?s_BadNote ?u_BadNote ?s_ValueError ?y1 ?y2 ?y4 ?y5 ?y6 ?y7 ?y8
   (case e_CastError=>k_is)
   (case e_NoKind=>k_is)
   (case e_NoTerm=>k_is)
   (case e_BadUse=>k_is)
   (case e_NoValue=>k_is)
   (case e_NoNumber=>k_is)
   (case e_BadNote=>k_is)
   (case Zcc=>k_is)
   (case l_MARKS=>k_is)
   (case ZaL=>k_is)
   (case ZaM=>k_is)
   (case ZaB=>k_is)
   (case v_LENGTHS=>k_is)
   (case l_LENGTHS=>k_is)
   (case u_LENGTHS=>decide)
   (case a0_LENGTHS_=>exact rfl)
   (case b0_LENGTHS_=>exact rfl)
   (case a1_LENGTHS_=>exact rfl)
   (case b1_LENGTHS_=>exact rfl)
   (case a2_LENGTHS_=>exact rfl)
   (case b2_LENGTHS_=>exact rfl)
   (case a3_LENGTHS_=>exact rfl)
   (case b3_LENGTHS_=>exact rfl)
   (case a4_LENGTHS_=>exact rfl)
   (case b4_LENGTHS_=>exact rfl)
   (case a5_LENGTHS_=>exact rfl)
   (case b5_LENGTHS_=>exact rfl)
   (case v_STEPS=>k_is)
   (case l_STEPS=>k_is)
   (case u_STEPS=>decide)
   (case ka0=>exact rfl)
   (case kb0=>exact rfl)
   (case kc0=>k_is)
   (case ka1=>exact rfl)
   (case kb1=>exact rfl)
   (case kc1=>k_is)
   (case ka2=>exact rfl)
   (case kb2=>exact rfl)
   (case kc2=>k_is)
   (case ka3=>exact rfl)
   (case kb3=>exact rfl)
   (case kc3=>k_is)
   (case ka4=>exact rfl)
   (case kb4=>exact rfl)
   (case kc4=>k_is)
   (case ZfS=>k_exc)
   (case ZcH=>k_is)
   (case k_NoKind=>k_is)
   (case k_NoTerm=>k_is)
   (case k_BadUse=>k_is)
   (case k_NoValue=>k_is)
   (case k_NoNumber=>k_is)
   (case k_BadNote=>k_is)
   (case ZcL=>k_is)
   (case t_NoTerm=>k_is)
   (case t_BadUse=>k_is)
   (case t_NoValue=>k_is)
   (case t_NoNumber=>k_is)
   (case t_BadNote=>k_is)
   (case ZcD=>k_is)
   (case s_CastError=>k_is)
   (case s_NoTerm=>k_is)
   (case u_NoTerm=>decide)
   (case s_BadUse=>k_is)
   (case u_BadUse=>decide)
   (case s_NoValue=>k_is)
   (case u_NoValue=>decide)
   (case s_NoNumber=>k_is)
   (case u_NoNumber=>decide)
   (case s_BadNote=>k_is)
   (case u_BadNote=>decide)
   (case s_ValueError=>k_is)
   (case y1=>k_is)
   (case y2=>k_is)
   (case y4=>k_is)
   (case y5=>k_is)
   (case y6=>k_is)
   (case y7=>k_is)
   (case y8=>k_is)
  obtain ⟨a,T⟩:=T
  obtain ⟨f,fd,hm,F,_⟩:=FF.Zz4
  have e0:=hmg.symm.trans hm
  cases e0
  walk_at "pk"
  exact ⟨_,fun s u=>.of_eq rfl,fun base kb nb=>KL.ZAQ (T base kb) F⟩
