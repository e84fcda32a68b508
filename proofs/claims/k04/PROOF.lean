import PyProof.Rows.All
import Wide.All
import Wide.FinOn
import Lean
import PyProof.EqAt
import PyProof.EqKinds
import PyProof.TupleCall
import PyProof.AttrMissHeap
import KE.KDictOf
import PyProof.SetRoads
import PyProof.CollectWalk
import PyProof.ZipIter
import PyProof.TupleIter
import PyProof.NeKinds
import PyProof.DictStraight
import PyProof.WalksMore
import KE.KDictList
import KE.KSortTup
import KE.KItemsList
import PyProof.EnumMake
import PyProof.EnumStmt
import PyProof.EnumFor
import PyProof.Rows.EnumRows
import KE.KFromBytes
import KE.KIsAll
import KE.KItem
import KE.KSortAsk
import KE.KTab
import KE.KxBytes
import Open.Claim
import Open.Fast
import Open.FastLooks
import Open.FastTabs
import Open.Head
import Open.Line
import Open.Recs
import Open.Row
import Open.Strs
import OpenK.KCall
import OpenK.KCls
import OpenK.KDescr
import OpenK.KFacts
import OpenK.KGet
import OpenK.KLine
import OpenK.KMake
import OpenK.KMore
import OpenK.KOwn
import OpenK.KRaise
import OpenK.KWalk
import OpenK.Peek
import PySem.Challenge.RW_castwright_k04_texts_that_write_no_kind
set_option Elab.async false
set_option linter.all false
set_option maxRecDepth 100000
set_option maxHeartbeats 4000000
set_option compiler.extract_closed false
noncomputable section
abbrev Yb:=@List.getElem?_cons_zero
abbrev Yc:=@List.getElem?_cons_succ
abbrev Yd:=@List.mem_cons_of_mem
abbrev Ye:=@List.mem_cons_self
abbrev Yg:=@List.length_cons
abbrev Yh:=@List.length_map
abbrev Yi:=@List.length_nil
abbrev Yj:=@List.length_append
abbrev Yk:=@List.set_cons_zero
abbrev Yl:=@List.set_cons_succ
abbrev Ym:=@List.map_cons
abbrev Yn:=@List.size_toArray
abbrev Yo:=@List.mem_cons
abbrev Yp:=@List.getElem?_eq_getElem
abbrev Yq:=@Bool.false_eq_true
abbrev Yr:=@Nat.le_refl
abbrev Ys:=@Nat.ne_of_lt
abbrev Yt:=@Nat.le_trans
abbrev Yu:=@Nat.lt_of_lt_of_le
abbrev Yv:=@List.append_assoc
abbrev Yw:=@List.nil_append
abbrev Yx:=@List.append_nil
abbrev Yy:=@List.map_append
abbrev Yz:=@List.mem_append
abbrev YA:=@List.mem_singleton
abbrev YB:=@List.map_map
abbrev YC:=@List.mem_map
abbrev YD:=@Option.map_some
abbrev YE:=@Option.some.inj
abbrev YF:=@Bool.not_true
abbrev YG:=@Bool.and_eq_true
abbrev YH:=@decide_eq_true
abbrev YI:=@List.getElem?_append_left
abbrev YJ:=@Nat.lt_irrefl
abbrev YK:=@List.mem_append_left
abbrev YL:=@List.mem_append_right
abbrev YM:=@Bool.not_false
abbrev YN:=@List.getElem?_map
abbrev YO:=@decide_eq_true_eq
abbrev YQ:=@Option.map_eq_some_iff
abbrev YR:=@Array.length_toList
abbrev YS:=@Bool.false_ne_true
abbrev YT:=@Nat.zero_le
abbrev YU:=@Ne.symm
abbrev YV:=@List.getElem?_eq_some_iff
abbrev YW:=@Nat.le_add_right
abbrev YX:=@List.not_mem_nil
abbrev YY:=@List.getD_eq_getElem?_getD
abbrev YZ:=@List.flatMap_cons
abbrev Qa:=@Option.bind_eq_some_iff
abbrev Qb:=@PyProof.Rows.callWith_type1
abbrev Qc:=@List.getElem_mem
abbrev Qd:=@False.elim
abbrev Qe:=@Bool.and_eq_true_iff
abbrev Qf:=@congrArg
abbrev Qg:=@of_decide_eq_true
abbrev Qh:=@decide_eq_false
abbrev Qi:=@absurd
open PySem in
abbrev Qj:=@wpAny_bind
open PySem in
abbrev Qk:=@wpAny_pure
open PySem in
abbrev Ql:=@Heap.get?_push_of_some
open PySem in
abbrev Qm:=@Heap.lt_size
open PySem in
abbrev Qn:=@Heap.get?_push_size
open PySem in
abbrev Qo:=@Heap.size_push
set_option hygiene false in
local macro_rules | `(tactic| walk_at "pa")=>`(tactic| (simp only [Ak,Aa,gC,Ab,Ad,Yk,Yl,Yb,Yc]))
set_option hygiene false in
local macro_rules | `(tactic| walk_at "pb")=>`(tactic| (simp only [Ak,Ac,Ab,Ad,Aa,gC,Yk,Yl,Yb,Yc]))
set_option hygiene false in
local macro_rules | `(tactic| walk_at "pc")=>`(tactic| (simp only [Option.isSome_none,show (false != false)=false from rfl,Yq,if_false,Al,Ae,gIf,gTB,Ac,Af,Aa,gC,Yb,Yc,Cz,Aq]))
set_option hygiene false in
local macro_rules | `(tactic| walk_at "pd")=>`(tactic| (simp only [Option.isSome_some,YF,Yq,if_false,Al,Ag,Ap,Ab,Ad,Ac,Af,Aa,gC,Yb,Yc,ixW,Bv,Bw,Aq]))
set_option hygiene false in
local macro_rules | `(tactic| walk_at "pe")=>`(tactic| (simp only [Ae,gIf,gTB,Ac,AT,Aa,gC,Yb,Yc]))
set_option hygiene false in
local macro_rules | `(tactic| walk_at "pf")=>`(tactic| (exact d.fpOk (Yr _) (d.hok.fresh (Yr _))))
set_option hygiene false in
local macro_rules | `(tactic| walk_at "pg")=>`(tactic| (rcases Yo.mp h with rfl | h))
set_option hygiene false in
local macro_rules | `(tactic| walk_at "ph")=>`(tactic| (rw [if_neg (by simp only [YO];lia)]))
namespace L2
open PySem PySem.Spec PyProof.Rows
def AW(s:Stmt)(j:Nat):Stmt:=match s with
 | .ClassDef _ _ _ body _ _ _ _ _ _ _=>body.getD j (.Pass ⟨0,0,0,0⟩)
 | _=>.Pass ⟨0,0,0,0⟩
def Bj(s:Stmt):Arguments:=match s with
 | .FunctionDef _ a _ _ _ _ _ _ _ _=>a
 | _=>{posonlyargs:=[],args:=[],vararg:=none,kwonlyargs:=[],kw_defaults:=[],kwarg:=none,defaults:=[]}
def AC(s:Stmt):List Stmt:=match s with
 | .FunctionDef _ _ b _ _ _ _ _ _ _=>b
 | _=>[]
def Aj(s:Stmt):Scope:=match s with
 | .FunctionDef _ _ _ _ _ _ sc _ _ _=>sc
 | _=>{kind:=.function,names:=[],isGenerator:=false,isCoroutine:=false}
end L2
namespace KV
open PySem PySem.Spec PyProof.Rows L2
 def top (i:Nat):Stmt:=PySem.Challenge.pw_castwright_k04_texts_that_write_no_kind.main.body.getD i (.Pass ⟨0,0,0,0⟩)
abbrev pwS:Program:=PySem.Challenge.pw_castwright_k04_texts_that_write_no_kind
abbrev rwS:PySem.W.OpenLaw:=PySem.Challenge.rw_castwright_k04_texts_that_write_no_kind
noncomputable def vwS:Program:=PySem.W.view pwS [0,2,3,4,5,6,7,8,10,11,12,13,14,15,16,17,18,19,20,21,22,23,24,26,28,29,30,31,32,33,35,36,37,38,39,40,41,42,43,44,45,46,47,48,49,50,51,52]
abbrev en(P:Params)(k:Str)(t:Tok)(v:Value):DictEntry:=⟨PyData.keyHash P k,.str k t,v⟩
abbrev co(n:Str)(a l g r f e:Nat)(x y:Value)(z t u:Nat):Obj:=.mk (.type "code") Option.none (.fields #[.str n a,.str n (a+1),.str "/claim/cut.py" (a+2),.int l 0,.int g 0,.int 0 0,.int 0 0,.int 3 0,.ref r,.bool Bool.true,.int f 0,.ref e,.none,x,y,.ref z,.int t 0,.int l 0,.str "/claim/cut.py" u]) #[]
abbrev fo(n:Str)(s:Stmt)(q:Str)(t c:Nat):Obj:=.mk (.type "function") Option.none (.func (PySem.W.fnOf n n (Bj s) (AC s) (Aj s) .none .none .none (.str q t) Option.none (.ref c) .none)) #[]
noncomputable def KF:Params->PySem.W.Frag:=λP=>
 (nat_lit 2,.mk .none Option.none (.dict #[]) #[])::
 (nat_lit 3,.mk (.type "dict") Option.none (.dict #[en P "__name__" 165 (.str "law_castwright_k04_texts_that_write_no_kind" 553),en P "__doc__" 166 .none,en P "__package__" 167 .none,en P "__loader__" 168 (.builtin "__main__.__loader__#opaque"),en P "__spec__" 169 .none,en P "__annotations__" 170 (.ref 6),en P "__builtins__" 171 (.ref 4),en P "__file__" 173 (.str "/claim/cut.py" 172),en P "__cached__" 174 .none,en P "_wall" 193 (.ref 21),en P "CastError" 213 (.ref 31),en P "NoKind" 229 (.ref 44),en P "NoTerm" 245 (.ref 56),en P "BadUse" 270 (.ref 75),en P "NoValue" 286 (.ref 87),en P "NoNumber" 302 (.ref 99),en P "BadNote" 318 (.ref 111),en P "MOST_KINDS" 322 (.int 40 321),en P "MOST_DEPTH" 324 (.int 8 323),en P "MOST_LETTERS" 326 (.int 8 325),en P "MARKS" 329 (.ref 114),en P "LENGTHS" 348 (.ref 115),en P "is_kind" 355 (.ref 122),en P "is_made_of" 361 (.ref 127),en P "layer_within" 371 (.ref 134),en P "kinds_within" 377 (.ref 139),en P "has_form" 384 (.ref 146),en P "are_fields" 390 (.ref 151),en P "is_field" 397 (.ref 158),en P "is_name" 403 (.ref 163),en P "is_small_letter" 410 (.ref 170),en P "names_rise" 416 (.ref 175),en P "Reader" 494 (.ref 234),en P "kind_read" 505 (.ref 245),en P "kind_from" 514 (.ref 252),en P "function_from" 524 (.ref 259),en P "box_from" 533 (.ref 266),en P "row_from" 542 (.ref 273),en P "field_from" 552 (.ref 280),en P "_law_state" 563 (.ref 287),en P "_law_take" 573 (.ref 294),en P "_law_kind" 585 (.ref 301),en P "_law_which" 593 (.ref 308),en P "_law_renamed" 599 (.ref 313),en P "_law_some_names" 607 (.ref 320),en P "_law_text" 613 (.ref 325),en P "_law_inner" 619 (.ref 330),en P "_law_count" 625 (.ref 335),en P "_law_deep" 631 (.ref 340),en P "_law_heads" 640 (.ref 347),en P "_law_read" 653 (.ref 354),en P "_law_fields" 666 (.ref 361),en P "_law_due" 674 (.ref 368),en P "_law_odd" 680 (.ref 373),en P "_law_spoiled" 694 (.ref 380),en P "_law_told" 703 (.ref 387),en P "law" 717 (.ref 394)] 57) #[])::
 (nat_lit 20,co "_wall" 187 1 1 15 181 16 (.ref 17) (.ref 18) 19 191 192)::
 (nat_lit 21,fo "_wall" (top 0) "__main__" 164 20)::
 (nat_lit 22,.mk (.type "tuple") Option.none (.seq #[.type "ValueError"]) #[])::
 (nat_lit 29,.mk (.type "tuple") Option.none (.seq #[]) #[])::
 (nat_lit 30,.mk (.type "dict") Option.none (.dict #[en P "__module__" 203 (.str "castwright.errors" 194),en P "__firstlineno__" 207 (.int 5 206),en P "__static_attributes__" 208 (.ref 29),en P "__weakref__" 210 (.ref 32),en P "__doc__" 211 .none] 3) #[])::
 (nat_lit 31,.mk (.type "type") Option.none (.cls (.mk "CastError" [.type "ValueError"] [.ref 31,.type "ValueError",.type "Exception",.type "BaseException",.type "object"] 30 "CastError" Bool.true [] [.ref 44,.ref 56,.ref 75,.ref 87,.ref 99,.ref 111] Bool.false Option.none Bool.false)) #[Option.some (.ref 22),Option.none,Option.some (.str "CastError" 196),Option.some (.str "CastError" 204),Option.some (.builtin "ValueError.__new__"),Option.some (.bool Bool.true)])::
 (nat_lit 32,.mk (.type "getset_descriptor") Option.none (.fields #[.str "__weakref__" 209,.ref 31,.builtin "ExceptionGroup.__weakref__",.none]) #[])::
 (nat_lit 35,.mk (.type "tuple") Option.none (.seq #[.ref 31]) #[])::
 (nat_lit 42,.mk (.type "tuple") Option.none (.seq #[]) #[])::
 (nat_lit 43,.mk (.type "dict") Option.none (.dict #[en P "__module__" 221 (.str "castwright.errors" 194),en P "__firstlineno__" 225 (.int 7 224),en P "__static_attributes__" 226 (.ref 42),en P "__doc__" 227 .none] 2) #[])::
 (nat_lit 44,.mk (.type "type") Option.none (.cls (.mk "NoKind" [.ref 31] [.ref 44,.ref 31,.type "ValueError",.type "Exception",.type "BaseException",.type "object"] 43 "NoKind" Bool.true [] [] Bool.false Option.none Bool.false)) #[Option.some (.ref 35),Option.none,Option.some (.str "NoKind" 214),Option.some (.str "NoKind" 222),Option.some (.builtin "ValueError.__new__"),Option.some (.bool Bool.true)])::
 (nat_lit 47,.mk (.type "tuple") Option.none (.seq #[.ref 31]) #[])::
 (nat_lit 54,.mk (.type "tuple") Option.none (.seq #[]) #[])::
 (nat_lit 55,.mk (.type "dict") Option.none (.dict #[en P "__module__" 237 (.str "castwright.errors" 194),en P "__firstlineno__" 241 (.int 9 240),en P "__static_attributes__" 242 (.ref 54),en P "__doc__" 243 .none] 2) #[])::
 (nat_lit 56,.mk (.type "type") Option.none (.cls (.mk "NoTerm" [.ref 31] [.ref 56,.ref 31,.type "ValueError",.type "Exception",.type "BaseException",.type "object"] 55 "NoTerm" Bool.true [] [] Bool.false Option.none Bool.false)) #[Option.some (.ref 47),Option.none,Option.some (.str "NoTerm" 230),Option.some (.str "NoTerm" 238),Option.some (.builtin "ValueError.__new__"),Option.some (.bool Bool.true)])::
 (nat_lit 59,.mk (.type "tuple") Option.none (.seq #[.ref 31]) #[])::
 (nat_lit 71,.mk (.type "code") Option.none (.fields #[.str "__init__" 258,.str "BadUse.__init__" 259,.str "/claim/cut.py" 260,.int 13 0,.int 2 0,.int 0 0,.int 0 0,.int 3 0,.ref 66,.bool Bool.true,.int 181 0,.ref 67,.none,.ref 68,.ref 69,.ref 70,.int 263 0,.int 13 0,.str "/claim/cut.py" 264]) #[])::
 (nat_lit 72,.mk (.type "function") Option.none (.func (PySem.W.fnOf "__init__" "BadUse.__init__" (Bj (AW (top 5) 0)) (AC (AW (top 5) 0)) (Aj (AW (top 5) 0)) .none .none .none (.str "castwright.errors" 194) Option.none (.ref 71) .none)) #[])::
 (nat_lit 73,.mk (.type "tuple") Option.none (.seq #[.str "path" 266]) #[])::
 (nat_lit 74,.mk (.type "dict") Option.none (.dict #[en P "__module__" 253 (.str "castwright.errors" 194),en P "__firstlineno__" 257 (.int 11 256),en P "__init__" 265 (.ref 72),en P "__static_attributes__" 267 (.ref 73),en P "__doc__" 268 .none] 2) #[])::
 (nat_lit 75,.mk (.type "type") Option.none (.cls (.mk "BadUse" [.ref 31] [.ref 75,.ref 31,.type "ValueError",.type "Exception",.type "BaseException",.type "object"] 74 "BadUse" Bool.true [] [] Bool.false Option.none Bool.false)) #[Option.some (.ref 59),Option.none,Option.some (.str "BadUse" 246),Option.some (.str "BadUse" 254),Option.some (.builtin "ValueError.__new__"),Option.some (.bool Bool.true)])::
 (nat_lit 78,.mk (.type "tuple") Option.none (.seq #[.ref 31]) #[])::
 (nat_lit 85,.mk (.type "tuple") Option.none (.seq #[]) #[])::
 (nat_lit 86,.mk (.type "dict") Option.none (.dict #[en P "__module__" 278 (.str "castwright.errors" 194),en P "__firstlineno__" 282 (.int 15 281),en P "__static_attributes__" 283 (.ref 85),en P "__doc__" 284 .none] 2) #[])::
 (nat_lit 87,.mk (.type "type") Option.none (.cls (.mk "NoValue" [.ref 31] [.ref 87,.ref 31,.type "ValueError",.type "Exception",.type "BaseException",.type "object"] 86 "NoValue" Bool.true [] [] Bool.false Option.none Bool.false)) #[Option.some (.ref 78),Option.none,Option.some (.str "NoValue" 271),Option.some (.str "NoValue" 279),Option.some (.builtin "ValueError.__new__"),Option.some (.bool Bool.true)])::
 (nat_lit 90,.mk (.type "tuple") Option.none (.seq #[.ref 31]) #[])::
 (nat_lit 97,.mk (.type "tuple") Option.none (.seq #[]) #[])::
 (nat_lit 98,.mk (.type "dict") Option.none (.dict #[en P "__module__" 294 (.str "castwright.errors" 194),en P "__firstlineno__" 298 (.int 17 297),en P "__static_attributes__" 299 (.ref 97),en P "__doc__" 300 .none] 2) #[])::
 (nat_lit 99,.mk (.type "type") Option.none (.cls (.mk "NoNumber" [.ref 31] [.ref 99,.ref 31,.type "ValueError",.type "Exception",.type "BaseException",.type "object"] 98 "NoNumber" Bool.true [] [] Bool.false Option.none Bool.false)) #[Option.some (.ref 90),Option.none,Option.some (.str "NoNumber" 287),Option.some (.str "NoNumber" 295),Option.some (.builtin "ValueError.__new__"),Option.some (.bool Bool.true)])::
 (nat_lit 102,.mk (.type "tuple") Option.none (.seq #[.ref 31]) #[])::
 (nat_lit 109,.mk (.type "tuple") Option.none (.seq #[]) #[])::
 (nat_lit 110,.mk (.type "dict") Option.none (.dict #[en P "__module__" 310 (.str "castwright.errors" 194),en P "__firstlineno__" 314 (.int 19 313),en P "__static_attributes__" 315 (.ref 109),en P "__doc__" 316 .none] 2) #[])::
 (nat_lit 111,.mk (.type "type") Option.none (.cls (.mk "BadNote" [.ref 31] [.ref 111,.ref 31,.type "ValueError",.type "Exception",.type "BaseException",.type "object"] 110 "BadNote" Bool.true [] [] Bool.false Option.none Bool.false)) #[Option.some (.ref 102),Option.none,Option.some (.str "BadNote" 303),Option.some (.str "BadNote" 311),Option.some (.builtin "ValueError.__new__"),Option.some (.bool Bool.true)])::
 (nat_lit 114,.mk (.type "tuple") Option.none (.seq #[.str "must" 327,.str "may" 328]) #[])::
 (nat_lit 115,.mk (.type "dict") Option.none (.dict #[en P "any" 330 (.int 1 331),en P "num" 332 (.int 1 333),en P "truth" 334 (.int 1 335),en P "to" 336 (.int 3 337),en P "box" 338 (.int 2 339),en P "row" 340 (.int 3 341)] 6) #[])::
 (nat_lit 121,co "is_kind" 349 27 1 116 181 117 (.ref 118) (.ref 119) 120 353 354)::
 (nat_lit 122,fo "is_kind" (top 15) "castwright.kinds" 319 121)::
 (nat_lit 126,co "is_made_of" 356 29 5 123 181 124 .none .none 125 359 360)::
 (nat_lit 127,fo "is_made_of" (top 16) "castwright.kinds" 319 126)::
 (nat_lit 133,co "layer_within" 362 42 2 128 181 129 (.ref 130) (.ref 131) 132 369 370)::
 (nat_lit 134,fo "layer_within" (top 17) "castwright.kinds" 319 133)::
 (nat_lit 138,co "kinds_within" 372 47 1 135 181 136 .none .none 137 375 376)::
 (nat_lit 139,fo "kinds_within" (top 18) "castwright.kinds" 319 138)::
 (nat_lit 145,co "has_form" 378 51 1 140 181 141 (.ref 142) (.ref 143) 144 382 383)::
 (nat_lit 146,fo "has_form" (top 19) "castwright.kinds" 319 145)::
 (nat_lit 150,co "are_fields" 385 57 1 147 181 148 .none .none 149 388 389)::
 (nat_lit 151,fo "are_fields" (top 20) "castwright.kinds" 319 150)::
 (nat_lit 157,co "is_field" 391 61 1 152 181 153 (.ref 154) (.ref 155) 156 395 396)::
 (nat_lit 158,fo "is_field" (top 21) "castwright.kinds" 319 157)::
 (nat_lit 162,co "is_name" 398 65 1 159 181 160 .none .none 161 401 402)::
 (nat_lit 163,fo "is_name" (top 22) "castwright.kinds" 319 162)::
 (nat_lit 169,co "is_small_letter" 404 69 1 164 181 165 (.ref 166) (.ref 167) 168 408 409)::
 (nat_lit 170,fo "is_small_letter" (top 23) "castwright.kinds" 319 169)::
 (nat_lit 174,co "names_rise" 411 71 1 171 181 172 .none .none 173 414 415)::
 (nat_lit 175,fo "names_rise" (top 24) "castwright.kinds" 319 174)::
 (nat_lit 188,.mk (.type "code") Option.none (.fields #[.str "__init__" 431,.str "Reader.__init__" 432,.str "/claim/cut.py" 433,.int 76 0,.int 2 0,.int 0 0,.int 0 0,.int 3 0,.ref 183,.bool Bool.true,.int 181 0,.ref 184,.none,.ref 185,.ref 186,.ref 187,.int 436 0,.int 76 0,.str "/claim/cut.py" 437]) #[])::
 (nat_lit 189,.mk (.type "function") Option.none (.func (PySem.W.fnOf "__init__" "Reader.__init__" (Bj (AW (top 26) 0)) (AC (AW (top 26) 0)) (Aj (AW (top 26) 0)) .none .none .none (.str "castwright.reader" 417) Option.none (.ref 188) .none)) #[])::
 (nat_lit 195,.mk (.type "code") Option.none (.fields #[.str "sees" 439,.str "Reader.sees" 440,.str "/claim/cut.py" 441,.int 80 0,.int 2 0,.int 0 0,.int 0 0,.int 3 0,.ref 190,.bool Bool.true,.int 181 0,.ref 191,.none,.ref 192,.ref 193,.ref 194,.int 444 0,.int 80 0,.str "/claim/cut.py" 445]) #[])::
 (nat_lit 196,.mk (.type "function") Option.none (.func (PySem.W.fnOf "sees" "Reader.sees" (Bj (AW (top 26) 1)) (AC (AW (top 26) 1)) (Aj (AW (top 26) 1)) .none .none .none (.str "castwright.reader" 417) Option.none (.ref 195) .none)) #[])::
 (nat_lit 202,.mk (.type "code") Option.none (.fields #[.str "takes" 447,.str "Reader.takes" 448,.str "/claim/cut.py" 449,.int 83 0,.int 2 0,.int 0 0,.int 0 0,.int 3 0,.ref 197,.bool Bool.true,.int 181 0,.ref 198,.none,.ref 199,.ref 200,.ref 201,.int 452 0,.int 83 0,.str "/claim/cut.py" 453]) #[])::
 (nat_lit 203,.mk (.type "function") Option.none (.func (PySem.W.fnOf "takes" "Reader.takes" (Bj (AW (top 26) 2)) (AC (AW (top 26) 2)) (Aj (AW (top 26) 2)) .none .none .none (.str "castwright.reader" 417) Option.none (.ref 202) .none)) #[])::
 (nat_lit 209,.mk (.type "code") Option.none (.fields #[.str "wants" 455,.str "Reader.wants" 456,.str "/claim/cut.py" 457,.int 89 0,.int 2 0,.int 0 0,.int 0 0,.int 3 0,.ref 204,.bool Bool.true,.int 181 0,.ref 205,.none,.ref 206,.ref 207,.ref 208,.int 460 0,.int 89 0,.str "/claim/cut.py" 461]) #[])::
 (nat_lit 210,.mk (.type "function") Option.none (.func (PySem.W.fnOf "wants" "Reader.wants" (Bj (AW (top 26) 3)) (AC (AW (top 26) 3)) (Aj (AW (top 26) 3)) .none .none .none (.str "castwright.reader" 417) Option.none (.ref 209) .none)) #[])::
 (nat_lit 216,.mk (.type "code") Option.none (.fields #[.str "wants_end" 463,.str "Reader.wants_end" 464,.str "/claim/cut.py" 465,.int 93 0,.int 1 0,.int 0 0,.int 0 0,.int 3 0,.ref 211,.bool Bool.true,.int 181 0,.ref 212,.none,.ref 213,.ref 214,.ref 215,.int 467 0,.int 93 0,.str "/claim/cut.py" 468]) #[])::
 (nat_lit 217,.mk (.type "function") Option.none (.func (PySem.W.fnOf "wants_end" "Reader.wants_end" (Bj (AW (top 26) 4)) (AC (AW (top 26) 4)) (Aj (AW (top 26) 4)) .none .none .none (.str "castwright.reader" 417) Option.none (.ref 216) .none)) #[])::
 (nat_lit 223,.mk (.type "code") Option.none (.fields #[.str "word" 470,.str "Reader.word" 471,.str "/claim/cut.py" 472,.int 97 0,.int 1 0,.int 0 0,.int 0 0,.int 3 0,.ref 218,.bool Bool.true,.int 181 0,.ref 219,.none,.ref 220,.ref 221,.ref 222,.int 475 0,.int 97 0,.str "/claim/cut.py" 476]) #[])::
 (nat_lit 224,.mk (.type "function") Option.none (.func (PySem.W.fnOf "word" "Reader.word" (Bj (AW (top 26) 5)) (AC (AW (top 26) 5)) (Aj (AW (top 26) 5)) .none .none .none (.str "castwright.reader" 417) Option.none (.ref 223) .none)) #[])::
 (nat_lit 230,.mk (.type "code") Option.none (.fields #[.str "figures" 478,.str "Reader.figures" 479,.str "/claim/cut.py" 480,.int 103 0,.int 1 0,.int 0 0,.int 0 0,.int 3 0,.ref 225,.bool Bool.true,.int 181 0,.ref 226,.none,.ref 227,.ref 228,.ref 229,.int 482 0,.int 103 0,.str "/claim/cut.py" 483]) #[])::
 (nat_lit 231,.mk (.type "function") Option.none (.func (PySem.W.fnOf "figures" "Reader.figures" (Bj (AW (top 26) 6)) (AC (AW (top 26) 6)) (Aj (AW (top 26) 6)) .none .none .none (.str "castwright.reader" 417) Option.none (.ref 230) .none)) #[])::
 (nat_lit 232,.mk (.type "tuple") Option.none (.seq #[.str "place" 485,.str "text" 486]) #[])::
 (nat_lit 233,.mk (.type "dict") Option.none (.dict #[en P "__module__" 426 (.str "castwright.reader" 417),en P "__firstlineno__" 430 (.int 74 429),en P "__init__" 438 (.ref 189),en P "sees" 446 (.ref 196),en P "takes" 454 (.ref 203),en P "wants" 462 (.ref 210),en P "wants_end" 469 (.ref 217),en P "word" 477 (.ref 224),en P "figures" 484 (.ref 231),en P "__static_attributes__" 487 (.ref 232),en P "__dict__" 489 (.ref 235),en P "__weakref__" 491 (.ref 236),en P "__doc__" 492 .none] 4) #[])::
 (nat_lit 234,.mk (.type "type") Option.none (.cls (.mk "Reader" [.type "object"] [.ref 234,.type "object"] 233 "Reader" Bool.true [] [] Bool.false Option.none Bool.false)) #[Option.none,Option.none,Option.some (.str "Reader" 419),Option.some (.str "Reader" 427),Option.some (.builtin "object.__new__"),Option.some (.bool Bool.true)])::
 (nat_lit 235,.mk (.type "getset_descriptor") Option.none (.fields #[.str "__dict__" 488,.ref 234,.builtin "function.__dict__",.builtin "function.__dict__#set"]) #[])::
 (nat_lit 236,.mk (.type "getset_descriptor") Option.none (.fields #[.str "__weakref__" 490,.ref 234,.builtin "ExceptionGroup.__weakref__",.none]) #[])::
 (nat_lit 244,co "kind_read" 497 106 1 239 181 240 (.ref 241) (.ref 242) 243 503 504)::
 (nat_lit 245,fo "kind_read" (top 28) "castwright.kindnotes" 495 244)::
 (nat_lit 251,co "kind_from" 506 113 2 246 181 247 (.ref 248) (.ref 249) 250 512 513)::
 (nat_lit 252,fo "kind_from" (top 29) "castwright.kindnotes" 495 251)::
 (nat_lit 258,co "function_from" 515 126 2 253 181 254 (.ref 255) (.ref 256) 257 522 523)::
 (nat_lit 259,fo "function_from" (top 30) "castwright.kindnotes" 495 258)::
 (nat_lit 265,co "box_from" 525 132 2 260 181 261 (.ref 262) (.ref 263) 264 531 532)::
 (nat_lit 266,fo "box_from" (top 31) "castwright.kindnotes" 495 265)::
 (nat_lit 272,co "row_from" 534 136 2 267 181 268 (.ref 269) (.ref 270) 271 540 541)::
 (nat_lit 273,fo "row_from" (top 32) "castwright.kindnotes" 495 272)::
 (nat_lit 279,co "field_from" 543 147 2 274 181 275 (.ref 276) (.ref 277) 278 550 551)::
 (nat_lit 280,fo "field_from" (top 33) "castwright.kindnotes" 495 279)::
 (nat_lit 286,co "_law_state" 555 153 2 281 181 282 (.ref 283) (.ref 284) 285 561 562)::
 (nat_lit 287,fo "_law_state" (top 35) "law_castwright_k04_texts_that_write_no_kind" 553 286)::
 (nat_lit 293,co "_law_take" 564 160 2 288 181 289 (.ref 290) (.ref 291) 292 571 572)::
 (nat_lit 294,fo "_law_take" (top 36) "law_castwright_k04_texts_that_write_no_kind" 553 293)::
 (nat_lit 300,co "_law_kind" 574 170 2 295 181 296 (.ref 297) (.ref 298) 299 583 584)::
 (nat_lit 301,fo "_law_kind" (top 37) "law_castwright_k04_texts_that_write_no_kind" 553 300)::
 (nat_lit 307,co "_law_which" 586 184 1 302 181 303 (.ref 304) (.ref 305) 306 591 592)::
 (nat_lit 308,fo "_law_which" (top 38) "law_castwright_k04_texts_that_write_no_kind" 553 307)::
 (nat_lit 312,co "_law_renamed" 594 187 2 309 181 310 .none .none 311 597 598)::
 (nat_lit 313,fo "_law_renamed" (top 39) "law_castwright_k04_texts_that_write_no_kind" 553 312)::
 (nat_lit 319,co "_law_some_names" 600 194 1 314 181 315 (.ref 316) (.ref 317) 318 605 606)::
 (nat_lit 320,fo "_law_some_names" (top 40) "law_castwright_k04_texts_that_write_no_kind" 553 319)::
 (nat_lit 324,co "_law_text" 608 197 1 321 181 322 .none .none 323 611 612)::
 (nat_lit 325,fo "_law_text" (top 41) "law_castwright_k04_texts_that_write_no_kind" 553 324)::
 (nat_lit 329,co "_law_inner" 614 206 1 326 181 327 .none .none 328 617 618)::
 (nat_lit 330,fo "_law_inner" (top 42) "law_castwright_k04_texts_that_write_no_kind" 553 329)::
 (nat_lit 334,co "_law_count" 620 210 1 331 181 332 .none .none 333 623 624)::
 (nat_lit 335,fo "_law_count" (top 43) "law_castwright_k04_texts_that_write_no_kind" 553 334)::
 (nat_lit 353,co "_law_read" 641 221 3 348 181 349 (.ref 350) (.ref 351) 352 651 652)::
 (nat_lit 354,fo "_law_read" (top 46) "law_castwright_k04_texts_that_write_no_kind" 553 353)::
 (nat_lit 360,co "_law_fields" 654 244 3 355 181 356 (.ref 357) (.ref 358) 359 664 665)::
 (nat_lit 361,fo "_law_fields" (top 47) "law_castwright_k04_texts_that_write_no_kind" 553 360)::
 (nat_lit 367,co "_law_due" 667 272 1 362 181 363 (.ref 364) (.ref 365) 366 672 673)::
 (nat_lit 368,fo "_law_due" (top 48) "law_castwright_k04_texts_that_write_no_kind" 553 367)::
 (nat_lit 372,co "_law_odd" 675 277 1 369 181 370 .none .none 371 678 679)::
 (nat_lit 373,fo "_law_odd" (top 49) "law_castwright_k04_texts_that_write_no_kind" 553 372)::
 (nat_lit 379,co "_law_spoiled" 681 287 2 374 181 375 (.ref 376) (.ref 377) 378 692 693)::
 (nat_lit 380,fo "_law_spoiled" (top 50) "law_castwright_k04_texts_that_write_no_kind" 553 379)::
 (nat_lit 386,co "_law_told" 695 307 1 381 181 382 (.ref 383) (.ref 384) 385 701 702)::
 (nat_lit 387,fo "_law_told" (top 51) "law_castwright_k04_texts_that_write_no_kind" 553 386)::
 (nat_lit 393,co "law" 704 314 1 388 181 389 (.ref 390) (.ref 391) 392 715 716)::
 (nat_lit 394,fo "law" (top 52) "law_castwright_k04_texts_that_write_no_kind" 553 393)::
 []
noncomputable def KL:List Addr:=2::3::20::21::22::29::30::31::32::35::42::43::44::47::54::55::56::59::71::72::73::74::75::78::85::86::87::90::97::98::99::102::109::110::111::114::115::121::122::126::127::133::134::138::139::145::146::150::151::157::158::162::163::169::170::174::175::188::189::195::196::202::203::209::210::216::217::223::224::230::231::232::233::234::235::236::244::245::251::252::258::259::265::266::272::273::279::280::286::287::293::294::300::301::307::308::312::313::319::320::324::325::329::330::334::335::353::354::360::361::367::368::372::373::379::380::386::387::393::394::[]
theorem kfe(P:Params):KL=(KF P).map (·.1):=by kernel_rfl
section
open PySem.W
abbrev OE(w:World):=openEnds treeTable pwS w 6396
abbrev FS(s:Shared):=openSeen vwS ["LENGTHS"] (importedModules pwS.main.body) (λs=>xlAt vwS [] s&&recOk (RowW.records rwS.row.toRowW) s) true s
abbrev OB(s:Shared):=(kHook KF KL kfe).obs s
abbrev VA(w:World):=(kHook KF KL kfe).val w
abbrev GD:=openGood vwS ["LENGTHS"]
abbrev LB(w:World):Prop:=(OE w).map (λs=>(FS s,OB s))=some (GD,VA w)
theorem mpp{α β γ:Type}{o:Option α}{f:α->β}{g:α->γ}{a:β}{b:γ}(h1:o.map f=some a)(h2:o.map g=some b):o.map (λs=>(f s,g s))=some (a,b):=by
 cases o with
 | none=>cases h1
 | some s=>exact Qf some (Prod.ext (YE h1) (YE h2))
theorem mpl{α β γ:Type}{o:Option α}{f:α->β}{g:α->γ}{a:β}{b:γ}(h:o.map (λs=>(f s,g s))=some (a,b)):o.map f=some a:=by
 cases o with
 | none=>cases h
 | some s=>exact Qf some (Prod.ext_iff.mp (YE h)).1
theorem mpr{α β γ:Type}{o:Option α}{f:α->β}{g:α->γ}{a:β}{b:γ}(h:o.map (λs=>(f s,g s))=some (a,b)):o.map g=some b:=by
 cases o with
 | none=>cases h
 | some s=>exact Qf some (Prod.ext_iff.mp (YE h)).2
theorem mpb{α:Type}{o:Option α}{k a b c d e f:α->Bool}(h1:o.map k=some true)(h2:o.map (λs=>a s&&b s&&c s&&d s&&e s&&f s)=some true):o.map (λs=>k s&&a s&&b s&&c s&&d s&&e s&&f s)=some true:=by
 cases o with
 | none=>cases h1
 | some s =>
  have x:k s=true:=YE h1
  have y:(a s&&b s&&c s&&d s&&e s&&f s)=true:=YE h2
  refine Qf some ?_
  show(k s&&a s&&b s&&c s&&d s&&e s&&f s)=true
  rw[x];exact y
theorem SI(w:World):(OE (w.withFollow "special-get-raises" false)).map (λs=>OB s)=some (VA (w.withFollow "special-get-raises" false)):=by kernel_rfl
theorem SJ(w:World):(OE (w.withFollow "special-get-raises" false)).map (λs=>seen ((recsOf vwS).map (·.name)) (ownsOf vwS) [] {s with gens:=#[]})=some (expectedOf vwS):=by kernel_rfl
theorem LL(w:World):(OE (w.withFollow "special-get-raises" false)).map (λs=>(s.heap.bltView,tabsOk vwS s))=some ((bltViewBooted,true)):=by kernel_rfl
theorem SK(w:World):(OE (w.withFollow "special-get-raises" false)).map (λs=>s.heap.keysOk (looseW vwS ["LENGTHS"]) ((recsOf vwS).map (·.name)) ((litsOf vwS).map (·.1)) ((clssOf vwS (looseW vwS ["LENGTHS"])).map (·.name)))=some (true):=by kernel_rfl
theorem SL(w:World):(OE (w.withFollow "special-get-raises" false)).map (λs=>s.heap.accountedOkI (importedModules pwS.main.body)&&s.heap.isNs mainGlobals&&s.heap.isNs builtinsNs&&tablesOk vwS s.heap&&(xlAt vwS [] s&&recOk (RowW.records rwS.row.toRowW) s)&&(s.gens.size==0))=some (true):=by kernel_rfl
theorem SM(w:World):(OE (w.withFollow "special-get-raises" false)).map (λs=>(pinSeenD vwS (drecsOf vwS) s,plainSeenE vwS (looseW vwS ["LENGTHS"]) s,plainSeenD vwS ["LENGTHS"] s,wideSeen vwS s,clsSeenW vwS ["LENGTHS"] s))=some ((pinGoodD (drecsOf vwS),plainGoodE vwS (looseW vwS ["LENGTHS"]),plainGoodD vwS ["LENGTHS"],wideGood vwS,clsGoodW vwS ["LENGTHS"])):=by kernel_rfl
theorem lbf(w:World):LB (w.withFollow "special-get-raises" false):=mpp (mpp (SJ w) (mpp (mpl (LL w)) (mpp (mpb (SK w) (SL w)) (mpp (mpr (LL w)) (SM w))))) (SI w)
theorem SN(w:World):(OE (w.withFollow "special-get-raises" true)).map (λs=>OB s)=some (VA (w.withFollow "special-get-raises" true)):=by kernel_rfl
theorem SO(w:World):(OE (w.withFollow "special-get-raises" true)).map (λs=>seen ((recsOf vwS).map (·.name)) (ownsOf vwS) [] {s with gens:=#[]})=some (expectedOf vwS):=by kernel_rfl
theorem LN(w:World):(OE (w.withFollow "special-get-raises" true)).map (λs=>(s.heap.bltView,tabsOk vwS s))=some ((bltViewBooted,true)):=by kernel_rfl
theorem SQ(w:World):(OE (w.withFollow "special-get-raises" true)).map (λs=>s.heap.keysOk (looseW vwS ["LENGTHS"]) ((recsOf vwS).map (·.name)) ((litsOf vwS).map (·.1)) ((clssOf vwS (looseW vwS ["LENGTHS"])).map (·.name)))=some (true):=by kernel_rfl
theorem SR(w:World):(OE (w.withFollow "special-get-raises" true)).map (λs=>s.heap.accountedOkI (importedModules pwS.main.body)&&s.heap.isNs mainGlobals&&s.heap.isNs builtinsNs&&tablesOk vwS s.heap&&(xlAt vwS [] s&&recOk (RowW.records rwS.row.toRowW) s)&&(s.gens.size==0))=some (true):=by kernel_rfl
theorem SU(w:World):(OE (w.withFollow "special-get-raises" true)).map (λs=>(pinSeenD vwS (drecsOf vwS) s,plainSeenE vwS (looseW vwS ["LENGTHS"]) s,plainSeenD vwS ["LENGTHS"] s,wideSeen vwS s,clsSeenW vwS ["LENGTHS"] s))=some ((pinGoodD (drecsOf vwS),plainGoodE vwS (looseW vwS ["LENGTHS"]),plainGoodD vwS ["LENGTHS"],wideGood vwS,clsGoodW vwS ["LENGTHS"])):=by kernel_rfl
theorem lbt(w:World):LB (w.withFollow "special-get-raises" true):=mpp (mpp (SO w) (mpp (mpl (LN w)) (mpp (mpb (SQ w) (SR w)) (mpp (mpr (LN w)) (SU w))))) (SN w)
end
end KV
namespace L2
open PySem PySem.Spec PyProof.Rows
abbrev Key:=Sum Int Str
def LP:Key->Value->Bool
 | .inl k,v=>Value.isInt k v
 | .inr x,v=>Value.isStrOf x v
def SV(w:World):Key->Int
 | .inl k=>hashInt k
 | .inr x=>hashStr w x
theorem C8:∀{k:Key}{v:Value},LP k v=true->(∃ i t,k=Sum.inl i/\v=Value.int i t)\/(∃ x t,k=Sum.inr x/\v=Value.str x t)
 | .inl i,v,h=>by
  obtain⟨t,e⟩:=Value.isInt_shape (k:=i) (v:=v) h
  exact .inl ⟨i,t,rfl,e⟩
 | .inr x,v,h=>by
  obtain⟨t,e⟩:=Value.isStrOf_shape (x:=x) (v:=v) h
  exact .inr ⟨x,t,rfl,e⟩
theorem SW(a b:Int):decide ((Sum.inl a:Key)=Sum.inl b)=(a==b):=by
 by_cases e:a=b
 ·subst e;simp
 ·have h:¬ (Sum.inl a:Key)=Sum.inl b:=λq=>e (Sum.inl.inj q)
  rw[Qh h]
  exact(beq_eq_false_iff_ne.mpr e).symm
theorem SX(a b:Str):decide ((Sum.inr a:Key)=Sum.inr b)=decide (a=b):=by
 by_cases e:a=b
 ·subst e;simp
 ·have h:¬ (Sum.inr a:Key)=Sum.inr b:=λq=>e (Sum.inr.inj q)
  rw[Qh h,Qh e]
theorem SY(a:Int)(b:Str):decide ((Sum.inl a:Key)=Sum.inr b)=false:=Qh (λq=>nomatch q)
theorem SZ(a:Str)(b:Int):decide ((Sum.inr a:Key)=Sum.inl b)=false:=Qh (λq=>nomatch q)
def IQ(prog:Program)(w:World):PySem.KeyKind prog w Key where
 is:=LP
 hash:=SV w
 inj:=λv a b ha hb=>by
  rcases C8 ha with⟨i,t,rfl,rfl⟩|⟨x,t,rfl,rfl⟩
  ·rcases C8 hb with⟨j,u,rfl,e⟩|⟨y,u,rfl,e⟩
   ·injection e with e1 _;rw[e1]
   ·exact nomatch e
  ·rcases C8 hb with⟨j,u,rfl,e⟩|⟨y,u,rfl,e⟩
   ·exact nomatch e
   ·injection e with e1 _;rw[e1]
 byValue:=λk v h=>by
  rcases C8 h with⟨i,t,rfl,rfl⟩|⟨x,t,rfl,rfl⟩ <;> rfl
 pyHash:=λhv h=>by
  rcases C8 hv with⟨i,t,rfl,rfl⟩|⟨x,t,rfl,rfl⟩
  ·exact wpAny_pyHash_int h
  ·exact wpAny_pyHash_str h
 eqBool:=λhu hv h=>by
  rcases C8 hu with⟨i,t,rfl,rfl⟩|⟨x,t,rfl,rfl⟩
  ·rcases C8 hv with⟨j,u,rfl,rfl⟩|⟨y,u,rfl,rfl⟩
   ·rw[SW]at h;exact wpAny_eqBool_int h
   ·rw[SY]at h;exact SeqAt.EqAt.int_str i t y u _ _ _ _ h
  ·rcases C8 hv with⟨j,u,rfl,rfl⟩|⟨y,u,rfl,rfl⟩
   ·rw[SZ]at h;exact SeqAt.EqAt.str_int x t j u _ _ _ _ h
   ·rw[SX]at h;exact wpAny_eqBool_str h
 «strs»:=λk x t v h=>by
  rcases C8 h with⟨i,u,rfl,e⟩|⟨y,u,rfl,e⟩
  ·exact nomatch e
  ·injection e with e1 _
   subst e1
   cases v <;> rfl
inductive V where
 | non | bl (b:Bool)| int (i:Int)| str (x:Str)| byt (b:Array UInt8)| flt (b:UInt64)| ref (a:Addr)| ty (n:String)
 deriving DecidableEq
def RelV:V->Value->Prop
 | .non,u=>u=Value.none
 | .bl b,u=>u=Value.bool b
 | .int i,u=>∃ t,u=Value.int i t
 | .str x,u=>∃ t,u=Value.str x t
 | .byt b,u=>∃ t,u=Value.bytes b t
 | .flt b,u=>∃ t,u=Value.float b t
 | .ref a,u=>u=Value.ref a
 | .ty n,u=>u=Value.type n
abbrev Vals:List V->List Value->Prop:=Paired RelV
variable {us:List Value}
theorem Vals.length{xs:List V}(r:Vals xs us):xs.length=us.length:=Paired.length r
theorem Vals.get:∀{xs:List V}{us:List Value}{i:Nat}{x:V},Vals xs us->xs[i]?=some x->∃ u,us[i]?=some u/\RelV x u
 | _,_,_,_,.nil,e=>by simp at e
 | _,_,0,_,.cons r _,e=>by simp at e;subst e;exact⟨_,rfl,r⟩
 | _,_,i+1,x,.cons _ t,e=>by
  obtain⟨u,h1,h2⟩:=Vals.get (i:=i) (x:=x) t (by simpa using e)
  exact⟨u,by simpa using h1,h2⟩
theorem Vals.set{x:V}{u:Value}(r:RelV x u):∀{xs:List V}{us:List Value}(i:Nat),Vals xs us->Vals (xs.set i x) (us.set i u)
 | _,_,_,.nil=>.nil
 | _,_,0,.cons _ t=>.cons r t
 | _,_,i+1,.cons q t=>.cons q (Vals.set r i t)
theorem Vals.append:∀{xs ys:List V}{us a:List Value},Vals xs us->Vals ys a->Vals (xs++ys) (us++a)
 | _,_,_,_,.nil,s=>s
 | _,_,_,_,.cons r t,s=>.cons r (Vals.append t s)
theorem Vals.take:∀{xs:List V}{us:List Value}(n:Nat),Vals xs us->Vals (xs.take n) (us.take n)
 | _,_,0,_=>.nil
 | _,_,_+1,.nil=>.nil
 | _,_,n+1,.cons r t=>.cons r (Vals.take n t)
theorem Vals.drop:∀{xs:List V}{us:List Value}(n:Nat),Vals xs us->Vals (xs.drop n) (us.drop n)
 | _,_,0,r=>r
 | _,_,_+1,.nil=>.nil
 | _,_,n+1,.cons _ t=>Vals.drop n t
theorem Vals.none_of:∀{xs:List V}{us:List Value}{i:Nat},Vals xs us->xs[i]?=none->us[i]?=none:=λ{xs us i}r e=>by
 have h1:=r.length
 have h2:xs.length<=i:=List.getElem?_eq_none_iff.mp e
 exact List.getElem?_eq_none_iff.mpr (by lia)
def RelO:Option V->Option Value->Prop
 | some v,some u=>RelV v u
 | none,none=>True
 | _,_=>False
def KV{κ:Type}:List (κ×V)->List (κ×Value)->Prop:=Paired λ(p:κ×V)(q:κ×Value)=>p.1=q.1/\RelV p.2 q.2
def kV:Key->V
 | .inl i=>.int i
 | .inr x=>.str x
inductive HO where
 | lst (xs:List V)
 | tup (xs:List V)
 | dK (kvs:List (Key×V))| dT (kvs:List (List Key×V))
 | set (S:Int->Bool) (n:Nat)
 | ins (C dx:Addr) (fs:List (Str×V))
 | own (x:Addr)
 | xd (fs:List (Str×V))
 | met (f x:Addr)
 | rng (lo hi:Int)
 | frz (o:Obj) (u:HO)
 | tbl (ps:Array Value)
 | ext (φ:Heap->Prop)
abbrev Hp:=Addr->Option HO
def upd(H:Hp)(a:Addr)(o:HO):Hp:=λb=>if b=a then some o else H b
variable {H:Hp}{a:Addr}{o:HO}
theorem BP:upd H a o a=some o:=by unfold upd;rw[if_pos rfl]
variable {b:Addr}
theorem AQ(h:b≠a):upd H a o b=H b:=by unfold upd;rw[if_neg h]
theorem DY(h:H a=some o)(h':H b=none):a≠b:=by
 intro e;subst e;rw[h]at h';cases h'
def TupP(h:Heap)(a:Addr)(items:Array Value):Prop:=∃ o,h.get? a=some o/\o.cls=.type "tuple"/\o.dict=none/\∃ n,o.data=.seq items n
theorem TupP.new(h:Heap)(items:Array Value):TupP (h.push {cls:=.type "tuple",data:=.seq items}) h.objs.size items:=⟨_,Qn _ rfl,rfl,rfl,_,rfl⟩
variable {h:Heap}
theorem TupP.up{items:Array Value}(x:TupP h a items):IsTup h a items:=let⟨o,e,c,_,d⟩:=x;⟨o,e,c,d⟩
section
variable (P:Program) (w:World)
def ObjOk(H:Hp)(h:Heap)(a:Addr):HO->Prop
 | .lst xs=>xs.length<=sizeLine/\∃(its:List Value)(n:Nat),Vals xs its/\h.get? a=some {cls:=.type "list",data:=.seq its.toArray n}
 | .tup xs=>xs.length<=sizeLine/\∃ its:List Value,Vals xs its/\TupP h a its.toArray
 | .dK kvs=>kvs.length<=sizeLine/\(a==sysModules)=false/\∃ vs,KV kvs vs/\h.DictOf (IQ P w) a vs
 | .dT kvs=>kvs.length<=sizeLine/\(a==sysModules)=false/\∃ xs:List (List Key×Addr×Value),
   Paired (λ(p:List Key×V)(q:List Key×Addr×Value)=>p.1=q.1/\H q.2.1=some (.tup (p.1.map kV))/\RelV p.2 q.2.2) kvs xs/\
   ∃ o es ep,h.get? a=some o/\o.ExactDict/\o.data=.dict es ep/\es.toList=xs.map (entryOfKey (tupleKind (IQ P w)))/\(xs.map (·.1)).Nodup
 | .set S n=>h.SetOf (intKind P w) a S n
 | .ins C dx fs=>H dx=some (.own a)/\fs.length<=1000/\dx≠a/\h.get? a=some (PySem.W.instObj C dx)/\
   ∃ mA,h.Ns1 dx mA/\(∀ f,RelO (fs.lookup f) (mA f))/\PySem.Within mA (fs.map (·.1))
 | .own _=>∃ o,h.get? a=some o
 | .xd fs=>∃ mA,h.Ns1 a mA/\∀ f,RelO (fs.lookup f) (mA f)
 | .rng lo hi=>∃ t u v,h.get? a=some {cls:=.type "range",data:=.fields #[.int lo t,.int hi u,.int 1 v]}
 | .frz o u=>h.get? a=some o/\ObjOk H h a u
 | .tbl ps=>h.get? a=some {cls:=.none,data:=.fields ps}
 | .met f x=>h.get? a=some (PySem.W.methodObj (.ref f) (.ref x))
 | .ext φ=>φ h/\(∃ o,h.get? a=some o)/\∀ h1 h2:Heap,φ h1->(∀ o,h1.get? a=some o->h2.get? a=some o)->φ h2
def HOk(H:Hp)(h:Heap):Prop:=∀ a o,H a=some o->ObjOk P w H h a o
end
section
variable {P:Program} {w:World} {H H':Hp} {h h':Heap} {a:Addr} {o:HO}
theorem ObjOk.lt(x:ObjOk P w H h a o):a < h.objs.size:=by
 cases o with
 | lst xs=>obtain⟨_,_,_,_,e⟩:=x;exact Qm e
 | tup xs=>obtain⟨_,_,_,p⟩:=x;exact p.up.lt
 | dK b=>obtain⟨_,_,_,_,o,_,_,e,_⟩:=x;exact Qm e
 | dT b=>obtain⟨_,_,_,_,o,_,_,e,_⟩:=x;exact Qm e
 | set S n=>obtain⟨o,_,_,_,e,_⟩:=x;exact Qm e
 | ins C dx fs=>obtain⟨_,_,_,e,_⟩:=x;exact Qm e
 | own y=>obtain⟨_,e⟩:=x;exact Qm e
 | xd fs=>obtain⟨_,⟨_,_,_,e,_⟩,_⟩:=x;exact Qm e
 | rng lo hi=>obtain⟨_,_,_,e⟩:=x;exact Qm e
 | frz c u=>obtain⟨e,_⟩:=x;exact Qm e
 | tbl ps=>exact Qm (show h.get? a=some _ from x)
 | met f y=>exact Qm (show h.get? a=some _ from x)
 | ext φ=>obtain⟨_,⟨_,e⟩,_⟩:=x;exact Qm e
theorem Paired.mapP{α β:Type}{F G:α->β->Prop}:∀{d:List α}{c:List β},Paired F d c->(∀ a b,F a b->G a b)->Paired G d c
 | _,_,.nil,_=>.nil
 | _,_,.cons r t,f=>.cons (f _ _ r) (Paired.mapP t f)
theorem ObjOk.stay(x:ObjOk P w H h a o)(k:∀ b u,(b=a\/H b=some (.own a))->h.get? b=some u->h'.get? b=some u)
  (D:∀ b,H b=some (.own a)->H' b=some (.own a)) (A:∀ b xs,H b=some (.tup xs)->H' b=some (.tup xs)):ObjOk P w H' h' a o:=by
 induction o with
 | lst xs=>obtain⟨z,j,n,r,e⟩:=x;exact⟨z,j,n,r,k _ _ (.inl rfl) e⟩
 | tup xs=>obtain⟨z,j,r,g,e,c⟩:=x;exact⟨z,j,r,g,k _ _ (.inl rfl) e,c⟩
 | dK m=>obtain⟨z,y,E,r,g,es,i,e,c⟩:=x;exact⟨z,y,E,r,g,es,i,k _ _ (.inl rfl) e,c⟩
 | dT m =>
  obtain⟨z,y,xs,r,g,es,i,e,c⟩:=x
  exact⟨z,y,xs,Paired.mapP r λp q z=>⟨z.1,A _ _ z.2.1,z.2.2⟩,g,es,i,k _ _ (.inl rfl) e,c⟩
 | set S n=>obtain⟨g,es,i,t,e,c⟩:=x;exact⟨g,es,i,t,k _ _ (.inl rfl) e,c⟩
 | ins C dx fs =>
  obtain⟨d,z,ne,e,mA,⟨l,es,i,s,c⟩,r⟩:=x
  exact⟨D _ d,z,ne,k _ _ (.inl rfl) e,mA,⟨l,es,i,k _ _ (.inr d) s,c⟩,r⟩
 | own y=>obtain⟨g,e⟩:=x;exact⟨g,k _ _ (.inl rfl) e⟩
 | xd fs=>obtain⟨mA,⟨l,es,i,e,c⟩,r⟩:=x;exact⟨mA,⟨l,es,i,k _ _ (.inl rfl) e,c⟩,r⟩
 | rng lo hi=>obtain⟨t,u,v,e⟩:=x;exact⟨t,u,v,k _ _ (.inl rfl) e⟩
 | frz g u B=>obtain⟨e,q⟩:=x;exact⟨k _ _ (.inl rfl) e,B q⟩
 | tbl ps =>
  have e:h.get? a=some {cls:=.none,data:=.fields ps}:=x
  show h'.get? a=some {cls:=.none,data:=.fields ps}
  exact k a _ (.inl rfl) e
 | met f y =>
  have e:h.get? a=some (PySem.W.methodObj (.ref f) (.ref y)):=x
  show h'.get? a=some (PySem.W.methodObj (.ref f) (.ref y))
  exact k a _ (.inl rfl) e
 | ext φ=>obtain⟨p,⟨o,e⟩,st⟩:=x;exact⟨st _ _ p λo q=>k _ _ (.inl rfl) q,⟨o,k _ _ (.inl rfl) e⟩,st⟩
theorem HOk.lt(x:HOk P w H h)(e:H a=some o):a < h.objs.size:=(x a o e).lt
theorem HOk.fresh(x:HOk P w H h)(e:h.objs.size<=a):H a=none:=by
 cases q:H a with
 | none=>rfl
 | some u=>exact Qi (Yu (x.lt q) e) (YJ _)
theorem HOk.kept(x:HOk P w H h)(k:∀ b u,h.get? b=some u->h'.get? b=some u):HOk P w H h':=λa o e=>
 (x a o e).stay (λb u _ q=>k b u q) (λ_ q=>q) λ_ _ q=>q
theorem HOk.laid(x:HOk P w H h)(k:∀ b u,h.get? b=some u->h'.get? b=some u)(g:h.objs.size<=a)(new:ObjOk P w (upd H a o) h' a o):HOk P w (upd H a o) h':=λb u e=>by
 have f:=x.fresh g
 by_cases d:b=a
 ·subst d;rw[BP]at e;cases e;exact new
 ·rw[AQ d]at e
  exact(x b u e).stay (λc v _ q=>k c v q) (λc q=>by rw[AQ (DY q f)];exact q) λc xs q=>by rw[AQ (DY q f)];exact q
end
def Rd(H:Hp)(a:Addr)(u:HO):Prop:=H a=some u\/∃ o,H a=some (.frz o u)
theorem Rd.of{u:HO}(h:H a=some u):Rd H a u:=.inl h
variable {P:Program}{w:World}
theorem Rd.ok{u:HO}(r:Rd H a u)(x:HOk P w H h):ObjOk P w H h a u:=by
 rcases r with r |⟨o,r⟩
 ·exact x a u r
 ·obtain⟨_,q⟩:=x a _ r
  exact q
def Mut:Option HO->Prop
 | some (.lst _)=>True
 | some (.dK _)=>True
 | some (.dT _)=>True
 | some (.set _ _)=>True
 | some (.ins _ _ _)=>True
 | some (.ext _)=>True
 | _=>False
section
variable {P:Program} {w:World} {H:Hp} {h h':Heap} {x e:Addr} {o':HO}
theorem HOk.write(ok:HOk P w H h)(g:Mut (H x))(m:e=x\/H e=some (.own x))(k:∀ b u,b≠e->h.get? b=some u->h'.get? b=some u)(j:∃ u,h'.get? e=some u)
  (new:ObjOk P w (upd H x o') h' x o'):HOk P w (upd H x o') h':=λb u q=>by
 have d:∀ c y,H c=some (.own y)->c≠x:=λc y r z=>by subst z;rw[r]at g;exact g
 have f:∀ c xs,H c=some (.tup xs)->c≠x:=λc xs r z=>by subst z;rw[r]at g;exact g
 by_cases i:b=x
 ·subst i;rw[BP]at q;cases q;exact new
 ·rw[AQ i]at q
  by_cases a:b=e
  ·have l:H b=some (.own x):=by
    rcases m with z | z
    ·exact Qi (a.trans z) i
    ·rw[a];exact z
   rw[q]at l;cases l
   obtain⟨v,n⟩:=j
   exact⟨v,by rw[a];exact n⟩
  ·refine(ok b u q).stay (λc v hc r=>k c v ?_ r) (λc r=>by rw[AQ (d c b r)];exact r) λc xs r=>by rw[AQ (f c xs r)];exact r
   rcases hc with rfl | hc
   ·exact a
   ·rintro rfl
    rcases m with z | z
    ·exact d c b hc z
    ·rw[hc]at z;cases z;exact i rfl
end
structure Un(fs ex:List Addr)(H H':Hp)(h h':Heap):Prop where
 keep:∀ b o,h.get? b=some o->H b=none->b∉fs->b∉ex->h'.get? b=some o
 slot:∀ b o,h.get? b=some o->H b=none->b∈fs->b∉ex->∃ sl,h'.get? b=some {o with slots:=sl}
 free:∀ b o,h.get? b=some o->H b=none->b∉ex->H' b=none
 there:∀ b o,h.get? b=some o->b∉ex->∃ o',h'.get? b=some o'
 tups:∀ b xs,H b=some (.tup xs)->H' b=some (.tup xs)
 frzs:∀ b o u,H b=some (.frz o u)->H' b=some (.frz o u)
 tbls:∀ b ps,H b=some (.tbl ps)->∃ more,H' b=some (.tbl (ps++more))
section
variable {fs fs' ex ex':List Addr} {H H1 H2:Hp} {h h1 h2 h':Heap} {a x e:Addr} {o:HO}
theorem Un.any(u:Un fs ex H H1 h h1){a:Obj}(q:h.get? b=some a)(n:H b=none)(d:b∉ex):∃ e,h1.get? b=some {a with slots:=e}:=by
 by_cases c:b∈fs
 ·exact u.slot b a q n c d
 ·exact⟨a.slots,u.keep b a q n c d⟩
theorem Un.trans(a:Un fs ex H H1 h h1)(b:Un fs ex H1 H2 h1 h2):Un fs ex H H2 h h2 where
 keep:=λc e q n hc d=>b.keep c e (a.keep c e q n hc d) (a.free c e q n d) hc d
 slot:=λc e q n hc d=>by
  obtain⟨l,f⟩:=a.slot c e q n hc d
  obtain⟨i,g⟩:=b.slot c _ f (a.free c e q n d) hc d
  exact⟨i,g⟩
 free:=λc e q n d=>by
  obtain⟨o',f⟩:=a.there c e q d
  exact b.free c o' f (a.free c e q n d) d
 there:=λc e q d=>by
  obtain⟨o',f⟩:=a.there c e q d
  exact b.there c o' f d
 tups:=λc xs q=>b.tups c xs (a.tups c xs q)
 frzs:=λc e xs q=>b.frzs c e xs (a.frzs c e xs q)
 tbls:=λc ps q=>by
  obtain⟨k,f⟩:=a.tbls c ps q
  obtain⟨j,g⟩:=b.tbls c _ f
  exact⟨k++j,by rw[g,Array.append_assoc]⟩
theorem Un.kept(k:∀ b u,h.get? b=some u->h'.get? b=some u):Un fs ex H H h h' :=
 ⟨λb a q _ _ _=>k b a q,λb a q _ _ _=>⟨a.slots,k b a q⟩,λ_ _ _ n _=>n,λb a q _=>⟨a,k b a q⟩,λ_ _ q=>q,λ_ _ _ q=>q,λ_ ps q=>⟨#[],by rw[q];simp⟩⟩
theorem Un.refl:Un fs ex H H h h:=Un.kept λ_ _ q=>q
theorem Un.laid(k:∀ b u,h.get? b=some u->h'.get? b=some u)(d:h.objs.size<=a)(c:H a=none):Un fs ex H (upd H a o) h h' where
 keep:=λb u q _ _ _=>k b u q
 slot:=λb u q _ _ _=>⟨u.slots,k b u q⟩
 free:=λb u q n _=>by rw[AQ (Ys (Yu (Qm q) d))];exact n
 there:=λb u q _=>⟨u,k b u q⟩
 tups:=λb xs q=>by rw[AQ (DY q c)];exact q
 frzs:=λb u xs q=>by rw[AQ (DY q c)];exact q
 tbls:=λb ps q=>⟨#[],by rw[AQ (DY q c),q];simp⟩
theorem Un.write(c:Mut (H x))(j:e=x\/H e=some (.own x))(k:∀ b u,b≠e->h.get? b=some u->h'.get? b=some u)(d:∃ u,h'.get? e=some u):Un fs ex H (upd H x o) h h':=by
 have g:∀ b,H b=none->b≠x:=λb n z=>by subst z;rw[n]at c;exact c
 have i:∀ b,H b=none->b≠e:=λb n z=>by
  subst z
  rcases j with r | r
  ·exact g b n r
  ·rw[n]at r;cases r
 have f:∀ b u,H b=some u->¬ Mut (some u)->b≠x:=λb u q nm z=>by subst z;rw[q]at c;exact nm c
 refine⟨λb u q n _ _=>k b u (i b n) q,λb u q n _ _=>⟨u.slots,k b u (i b n) q⟩,λb u q n _=>by rw[AQ (g b n)];exact n,λb u q _=>?_,
  λb xs q=>by rw[AQ (f b _ q λz=>z)];exact q,λb u xs q=>by rw[AQ (f b _ q λz=>z)];exact q,λb ps q=>⟨#[],by rw[AQ (f b _ q λz=>z),q];simp⟩⟩
 by_cases a:b=e
 ·subst a;exact d
 ·exact⟨u,k b u a q⟩
theorem Un.mono(u:Un fs ex H H1 h h1)(f:∀ b∈fs,b∈fs')(d:∀ b∈ex,b∈ex'):Un fs' ex' H H1 h h1 :=
 ⟨λb c q n e a=>u.keep b c q n (λz=>e (f b z)) λz=>a (d b z),λ_ _ q n _ a=>u.any q n λz=>a (d _ z),λb c q n a=>u.free b c q n λz=>a (d b z),λb c q a=>u.there b c q λz=>a (d b z),u.tups,u.frzs,u.tbls⟩
end
def trk(h:Heap)(H:Hp):List Addr:=(List.range h.objs.size).filter λa=>(H a).isSome
def C9(h:Heap)(H:Hp):Heap:=PySem.W.hideAll h (trk h H)
theorem S0(h:Heap)(H:Hp):(C9 h H).objs.size=h.objs.size:=PySem.W.hideAll_size _ _
theorem S1{o:Obj}(e:h.get? b=some o)(n:H b=none):(C9 h H).get? b=some o :=
 PySem.W.hideAll_get _ e λa=>by
  have q:(H b).isSome=true:=(List.mem_filter.mp a).2
  rw[n]at q;simp at q
theorem S2{o:Obj}(e:(C9 h H).get? b=some o):h.get? b=some o/\H b=none:=by
 have a:h.get? b=some o:=PySem.W.of_hideAll (trk h H) e
 refine⟨a,?_⟩
 cases q:H b with
 | none=>rfl
 | some x =>
  have c:b∈trk h H:=List.mem_filter.mpr ⟨List.mem_range.mpr (Qm a),by simp[q]⟩
  have z:(C9 h H).get? b=none:=PySem.W.hideAll_none (trk h H) c
  rw[z]at e;cases e
def S3(g h:Heap)(L:Addr):List (Addr×Obj):=(List.range h.objs.size).filterMap λa=>if a=L\/(g.get? a).isSome=true then none else(h.get? a).map λo=>(a,o)
def Au(g h:Heap)(L d:Addr):List (Addr×Obj):=(S3 g h L).filter λp=>decide (p.1≠d)
structure Mod(K:PySem.W.Frag)(mg:Str->Option Value)(base:Heap):Prop where
 kin:K.In base
 glob:base.Ns mainGlobals mg
 blt:∃ mb,base.Ns builtinsNs mb/\∀ x:Str,x≠"__name__"->mb x=bootBuiltins x
 nolimit:base.NoLimit
structure Cx where
 prog:Program
 w:World
 K:PySem.W.Frag
 mg:Str->Option Value
 base:Heap
 A:Around
 N:List Str
 s₀:Shared
 H₀:Hp
 env:Env
 outer:List Env
 stack:List Env
 ex:List Addr
 fn:Str->Bool
 calm:Bool
 pn:List (Addr×Obj)
 xe:Value->Shared->Prop
def frs(l:List Env):List Addr:=l.filterMap (·.frame)
abbrev Cx.fs(X:Cx):List Addr:=frs X.outer
def Vis(sc:Scope)(x:Str):Prop:=sc.names.lookup x=some .local\/sc.names.lookup x=some .cell\/sc.names.lookup x=some .free
def Loc(sc:Scope)(x:Str):Prop:=sc.names.lookup x=some .local\/sc.names.lookup x=some .cell
def LQ(env:Env)(h:Heap)(m:Str->Option Value)(x:Str)(u:Value):Prop :=
 (env.kindOf x=some .local/\m x=some u)\/((env.kindOf x=some .cell\/env.kindOf x=some .free)/\∃ c,env.cells.lookup x=some c/\h.IsCell c (some u))
structure Cx.Ok(X:Cx):Prop where
 mod:Mod X.K X.mg X.base
 kind:X.env.scope.kind=.function
 glob:X.env.globals=mainGlobals
 blt:X.env.builtins=builtinsNs
 above:X.s₀.heap.objs.size<=X.env.locals
 inj:∀ x y c,X.env.cells.lookup x=some c->X.env.cells.lookup y=some c->x=y
 has:∀ x,(X.env.kindOf x=some .cell\/X.env.kindOf x=some .free)->∃ c,X.env.cells.lookup x=some c
 cab:∀ x c,X.fn x=true->X.env.cells.lookup x=some c->X.s₀.heap.objs.size<=c
 hd:X.calm=true->X.A.handled=none
 frames:X.A.frames=some X.stack
 stk:X.stack=X.outer\/(X.stack=X.env::X.outer/\X.env.frame=some X.env.locals)
 exf:∀ b∈X.ex,b≠X.env.locals/\∀ x c,X.env.cells.lookup x=some c->c≠b
 bs:∀ b o,X.base.get? b=some o->X.s₀.heap.get? b=some o/\X.H₀ b=none
 bsz:X.base.objs.size<=X.s₀.heap.objs.size
 noex:∀ b o,X.base.get? b=some o->b∉X.ex
 exfs:∀ b∈X.ex,b∉X.fs
 funs:X.s₀.heap.FunFrames X.base X.outer
 frf:∀ b∈X.fs,X.H₀ b=none
structure Inv(X:Cx)(pins:List (Addr×Obj))(σ:List (Option V))(H:Hp)(s:Shared):Prop where
 ok:X.Ok
 os:s.os=X.s₀.os
 bare:AllBare s.gens
 base:Un X.fs X.ex X.H₀ H X.s₀.heap s.heap
 loc:∃ m,s.heap.Ns X.env.locals m/\∀(i:Nat)(x:Str)(v:V),X.N[i]?=some x->σ[i]?=some (some v)->Vis X.env.scope x->∃ u,RelV v u/\LQ X.env s.heap m x u
 cell:∀ x c,X.env.cells.lookup x=some c->∃ v,s.heap.IsCell c v
 free:H X.env.locals=none
 freeC:∀ x c,X.env.cells.lookup x=some c->H c=none
 pin:∀ p∈X.pn++pins,s.heap.get? p.1=some p.2/\H p.1=none/\p.1≠X.env.locals/\p.1∉X.fs/\∀ v,p.2.data≠.cell v
 hok:HOk X.prog X.w H s.heap
 len:σ.length=X.N.length
section
variable {X:Cx} {pins:List (Addr×Obj)} {σ:List (Option V)} {H H':Hp} {s:Shared} {h':Heap}
theorem Cx.Ok.nofr(ok:X.Ok){o:Obj}(e:X.base.get? b=some o):b∉X.fs:=λa=>by
 have:=(ok.funs.mem a).1
 rw[e]at this;cases this
theorem Inv.bs(I:Inv X pins σ H s):∀ b o,X.base.get? b=some o->s.heap.get? b=some o/\H b=none:=λb o e=>
 ⟨I.base.keep b o (I.ok.bs b o e).1 (I.ok.bs b o e).2 (I.ok.nofr e) (I.ok.noex b o e),I.base.free b o (I.ok.bs b o e).1 (I.ok.bs b o e).2 (I.ok.noex b o e)⟩
theorem Inv.bk(I:Inv X pins σ H s):∀ b o,X.base.get? b=some o->s.heap.get? b=some o:=λb o e=>(I.bs b o e).1
theorem Inv.mod(I:Inv X pins σ H s):Mod X.K X.mg X.base:=I.ok.mod
theorem Inv.kIn(I:Inv X pins σ H s):X.K.In s.heap:=I.ok.mod.kin.keeps I.bk
theorem Inv.nolimit(I:Inv X pins σ H s):s.heap.NoLimit:=I.ok.mod.nolimit.keeps I.bk
theorem Inv.fr(I:Inv X pins σ H s):∃ m,Fr X.base X.env.locals s.heap m :=
 let⟨m,hn,_⟩:=I.loc
 ⟨m,hn,I.bk,Yt I.ok.bsz I.ok.above⟩
theorem Inv.lt(I:Inv X pins σ H s):X.env.locals < s.heap.objs.size:=let⟨_,hn,_⟩:=I.loc;hn.lt
theorem Inv.sz(I:Inv X pins σ H s):X.s₀.heap.objs.size<=s.heap.objs.size:=Yt I.ok.above (Nat.le_of_lt I.lt)
theorem Inv.nofs(I:Inv X pins σ H s)(h:s.heap.objs.size<=a):a∉X.fs:=λc=>by
 obtain⟨_,o,b,_⟩:=I.ok.funs.mem c
 exact Qi (Yu (Qm b) (Yt I.sz h)) (YJ _)
theorem Inv.cne(I:Inv X pins σ H s):∀ x c,X.env.cells.lookup x=some c->c≠X.env.locals:=λx c e z=>by
 obtain⟨v,o,d,hd⟩:=I.cell x c e
 obtain⟨m,⟨o',es,f,a,b,_⟩,_⟩:=I.loc
 rw[z,a]at d;cases d;rw[b]at hd;cases hd
theorem Inv.funs(I:Inv X pins σ H s):s.heap.FunFrames X.base X.outer:=by
 have all:∀(l:List Env),(∀ b∈frs l,b∈X.fs)->X.s₀.heap.FunFrames X.base l->s.heap.FunFrames X.base l:=by
  intro l
  induction l with
  | nil=>intro _ _;trivial
  | cons env r h =>
   intro f hl
   obtain⟨g,⟨L,o,d,k,j,hd⟩,i⟩:=hl
   have a:L∈X.fs:=f L (by unfold frs;rw[List.filterMap_cons,d];exact Ye)
   obtain⟨m,e⟩:=I.base.slot L o j (I.ok.frf L a) a λz=>I.ok.exfs L z a
   exact⟨g,⟨L,_,d,k,e,hd⟩,h (λb c=>f b (by unfold frs;rw[List.filterMap_cons,d];exact Yd _ c)) i⟩
 exact all X.outer (λ_ c=>c) I.ok.funs
theorem Inv.stack(I:Inv X pins σ H s):s.heap.FunFrames X.base X.stack:=by
 rcases I.ok.stk with e |⟨e,b⟩
 ·rw[e];exact I.funs
 ·rw[e]
  obtain⟨m,a,_⟩:=I.loc
  refine .cons (by rw[I.ok.kind];decide) b a ?_ I.funs
  exact Heap.get?_none_of_le (Yt I.ok.bsz I.ok.above)
theorem Inv.stkSub(I:Inv X pins σ H s):∀ b∈frs X.stack,b∈X.env.locals::X.fs:=λb a=>by
 rcases I.ok.stk with e |⟨e,c⟩
 ·rw[e]at a;exact Yd _ a
 ·rw[e]at a
  unfold frs at a
  rw[List.filterMap_cons,c]at a
  exact a
theorem Inv.stkFree(I:Inv X pins σ H s):∀ b∈frs X.stack,H b=none:=λb a=>by
 rcases Yo.mp (I.stkSub b a)with e | a
 ·rw[e];exact I.free
 ·obtain⟨_,o,c,_⟩:=I.ok.funs.mem a
  exact I.base.free b o c (I.ok.frf b a) λz=>I.ok.exfs b z a
variable {g':Array GenState}{t':Nat}{d':Drawn}{ch:List Addr}
theorem Inv.step(I:Inv X pins σ H s)
  (h:∀ b∈ch,(b∈X.ex\/X.s₀.heap.objs.size<=b)/\b≠X.env.locals/\(∀ x c,X.env.cells.lookup x=some c->c≠b)/\∀ p∈X.pn++pins,p.1≠b)
  (keep:∀ b o,b≠X.env.locals->b∉X.fs->b∉ch->s.heap.get? b=some o->H b=none->h'.get? b=some o)
  (slot:∀ b o,b≠X.env.locals->b∈X.fs->b∉ch->s.heap.get? b=some o->H b=none->∃ F,h'.get? b=some {o with slots:=F}) (free:∀ b o,b∉ch->s.heap.get? b=some o->H b=none->H' b=none)
  (there:∀ b o,b∉ch->s.heap.get? b=some o->∃ o',h'.get? b=some o')
  (tups:∀ b xs,H b=some (.tup xs)->H' b=some (.tup xs)) (frzs:∀ b o u,H b=some (.frz o u)->H' b=some (.frz o u)) (tbls:∀ b ps,H b=some (.tbl ps)->∃ B,H' b=some (.tbl (ps++B)))
  (ns:∀ m,s.heap.Ns X.env.locals m->h'.Ns X.env.locals m) (hok:HOk X.prog X.w H' h') (Q:AllBare g'):
  Inv X pins σ H' {s with heap:=h',gens:=g',drawn:=d',toks:=t'}:=by
 have E:∀ b o,X.s₀.heap.get? b=some o->b≠X.env.locals:=λb o e=>Ys (Yu (Qm e) I.ok.above)
 have j:∀ b o,X.s₀.heap.get? b=some o->b∉X.ex->b∉ch:=λb o e a y=>by
  rcases(h b y).1 with z | z
  ·exact a z
  ·exact Qi (Yu (Qm e) z) (YJ _)
 have g:∀ x c,X.env.cells.lookup x=some c->∀ v,s.heap.IsCell c v->h'.IsCell c v:=by
  rintro x c e v ⟨o,A,hd⟩
  have f:c∉ch:=λz=>(h c z).2.2.1 x c e rfl
  by_cases hc:c∈X.fs
  ·obtain⟨F,q⟩:=slot c o (I.cne x c e) hc f A (I.freeC x c e)
   exact⟨_,q,hd⟩
  ·exact⟨o,keep c o (I.cne x c e) hc f A (I.freeC x c e),hd⟩
 refine⟨I.ok,I.os,Q,⟨λb o e n y a=>?_,λb o e n y a=>?_,λb o e n a=>?_,λb o e a=>?_,λb xs e=>tups b xs (I.base.tups b xs e),λb o xs e=>frzs b o xs (I.base.frzs b o xs e),λb ps e=>?_⟩,?_,λx c e=>?_,?_,λx c e=>?_,λp J=>?_,hok,I.len⟩
 ·exact keep b o (E b o e) y (j b o e a) (I.base.keep b o e n y a) (I.base.free b o e n a)
 ·obtain⟨F,t⟩:=I.base.slot b o e n y a
  obtain⟨G,D⟩:=slot b _ (E b o e) y (j b o e a) t (I.base.free b o e n a)
  exact⟨G,D⟩
 ·obtain⟨o',t⟩:=I.base.there b o e a
  exact free b o' (j b o e a) t (I.base.free b o e n a)
 ·obtain⟨o',t⟩:=I.base.there b o e a
  exact there b o' (j b o e a) t
 ·obtain⟨O,t⟩:=I.base.tbls b ps e
  obtain⟨N,D⟩:=tbls b _ t
  exact⟨O++N,by rw[D,Array.append_assoc]⟩
 ·obtain⟨m,P,hl⟩:=I.loc
  refine⟨m,ns m P,λi x v t D L=>?_⟩
  obtain⟨u,r,l⟩:=hl i x v t D L
  refine⟨u,r,?_⟩
  rcases l with l |⟨k,c,e,z⟩
  ·exact .inl l
  ·exact .inr ⟨k,c,e,g x c e _ z⟩
 ·obtain⟨v,z⟩:=I.cell x c e
  exact⟨v,g x c e v z⟩
 ·obtain⟨m,⟨o,_,_,A,_⟩,_⟩:=I.loc
  exact free _ o (λz=>(h _ z).2.1 rfl) A I.free
 ·obtain⟨v,o,A,hd⟩:=I.cell x c e
  exact free c o (λz=>(h c z).2.2.1 x c e rfl) A (I.freeC x c e)
 ·obtain⟨e,n,ne,K,d⟩:=I.pin p J
  have f:p.1∉ch:=λz=>(h p.1 z).2.2.2 p J rfl
  exact⟨keep p.1 p.2 ne K f e n,free p.1 p.2 f e n,ne,K,d⟩
theorem Inv.un(I:Inv X pins σ H s)(u:Un X.fs [] H H' s.heap h')(hok:HOk X.prog X.w H' h'):Inv X pins σ H' {s with heap:=h',toks:=t'}:=by
 obtain⟨m,⟨o,es,k,f,r⟩,_⟩:=id I.loc
 obtain⟨i,g⟩:=u.any f I.free (by simp)
 exact I.step (g':=s.gens) (d':=s.drawn) (ch:=[]) (λ_ z=>nomatch z) (λb o _ d _ e n=>u.keep b o e n d (by simp)) (λb o _ d _ e n=>u.slot b o e n d (by simp)) (λb o _ e n=>u.free b o e n (by simp)) (λb o _ e=>u.there b o e (by simp)) u.tups u.frzs u.tbls (λj h=>by
  obtain⟨o',es',c,a,r'⟩:=h
  rw[f]at a;cases a
  exact⟨_,es',c,g,r'⟩) hok I.bare
theorem Inv.call(I:Inv X pins σ H s)(u:Un (frs X.stack) ch H H' s.heap h')(hok:HOk X.prog X.w H' h')(j:AllBare g')
  (a:∀ b∈ch,(b∈X.ex\/X.s₀.heap.objs.size<=b)/\b≠X.env.locals/\(∀ x c,X.env.cells.lookup x=some c->c≠b)/\∀ p∈X.pn++pins,p.1≠b):
  Inv X pins σ H' {s with heap:=h',gens:=g',drawn:=d',toks:=t'}:=by
 obtain⟨m,⟨o,es,t,h,r⟩,_⟩:=id I.loc
 obtain⟨l,f⟩:=u.any h I.free λz=>(a _ z).2.1 rfl
 exact I.step (ch:=ch) a (λb o f i hc e n=>u.keep b o e n (λz=>(Yo.mp (I.stkSub b z)).elim f i) hc) (λb o _ _ hc e n=>u.any e n hc) (λb o hc e n=>u.free b o e n hc) (λb o hc e=>u.there b o e hc) u.tups u.frzs u.tbls (λq k=>by
  obtain⟨o',es',g,d,r'⟩:=k
  rw[h]at d;cases d
  exact⟨_,es',g,f,r'⟩) hok j
theorem Inv.turned{it:Addr}(I:Inv X pins σ H s)(k:∀ b o,b≠it->s.heap.get? b=some o->h'.get? b=some o)(h:H it=none)(d:it≠X.env.locals)
  (h1:it∈X.ex\/X.s₀.heap.objs.size<=it) (h2:∀ x c,X.env.cells.lookup x=some c->c≠it) (i:∀ p∈X.pn++pins,p.1≠it):Inv X pins σ H {s with heap:=h',toks:=t'}:=by
 have a:∀ b u,H b=some u->b≠it:=λb u e z=>by rw[z,h]at e;cases e
 refine I.step (g':=s.gens) (d':=s.drawn) (ch:=[it]) (λb f=>?_) (λb o _ _ hc e _=>k b o (λz=>hc (by simp[z])) e) (λb o _ _ hc e _=>⟨o.slots,k b o (λz=>hc (by simp[z])) e⟩) (λ_ _ _ _ n=>n)
  (λb o hc e=>⟨o,k b o (λz=>hc (by simp[z])) e⟩) (λ_ _ e=>e) (λ_ _ _ e=>e) (λb ps e=>⟨#[],by rw[e];simp⟩) (λm l=>?_) (λb u e=>?_) I.bare
 ·have e:b=it:=by simpa using f
  subst e
  exact⟨h1,d,h2,i⟩
 ·obtain⟨o,es,j,g,r⟩:=l
  exact⟨o,es,j,k _ o (YU d) g,r⟩
 ·refine(I.hok b u e).stay (λc v hc q=>k c v ?_ q) (λ_ q=>q) λ_ _ q=>q
  rcases hc with z | z
  ·rw[z];exact a b u e
  ·exact a c _ z
theorem Inv.tok(I:Inv X pins σ H s)(t:Nat):Inv X pins σ H {s with toks:=t}:=I.un (h':=s.heap) (t':=t) Un.refl I.hok
theorem Inv.kept(I:Inv X pins σ H s)(k:∀ b u,s.heap.get? b=some u->h'.get? b=some u):Inv X pins σ H {s with heap:=h',toks:=t'}:=I.un (Un.kept k) (I.hok.kept k)
theorem Inv.laid(I:Inv X pins σ H s)(k:∀ b u,s.heap.get? b=some u->h'.get? b=some u)(c:s.heap.objs.size<=a)(new:ObjOk X.prog X.w (upd H a o) h' a o):
  Inv X pins σ (upd H a o) {s with heap:=h',toks:=t'}:=I.un (Un.laid k c (I.hok.fresh c)) (I.hok.laid k c new)
theorem Inv.write{x e:Addr}(I:Inv X pins σ H s)(c:Mut (H x))(d:e=x\/H e=some (.own x))(k:∀ b u,b≠e->s.heap.get? b=some u->h'.get? b=some u)(a:∃ u,h'.get? e=some u)
  (new:ObjOk X.prog X.w (upd H x o) h' x o):Inv X pins σ (upd H x o) {s with heap:=h',toks:=t'}:=I.un (Un.write c d k a) (I.hok.write c d k a new)
theorem Inv.pins_of{a:List (Addr×Obj)}(I:Inv X pins σ H s)(h:∀ p∈a,s.heap.get? p.1=some p.2/\H p.1=none/\p.1≠X.env.locals/\p.1∉X.fs/\∀ v,p.2.data≠.cell v):Inv X a σ H s :=
 ⟨I.ok,I.os,I.bare,I.base,I.loc,I.cell,I.free,I.freeC,λp b=>(Yz.mp b).elim (λz=>I.pin p (YK _ z)) (h p),I.hok,I.len⟩
variable {i:Nat}{x:Str}
theorem IR{N:List Str}(d:N.Nodup){j:Nat}(a:N[i]?=some x)(b:N[j]?=some x):i=j:=by
 obtain⟨h1,e⟩:=YV.mp a
 obtain⟨h2,c⟩:=YV.mp b
 exact(List.getElem_inj d).mp (e.trans c.symm)
variable {A:Around}{E:Value->Shared->Prop}{v:V}{u:Value}{Q:Unit->Shared->Prop}
theorem S4{M:Model}(I:Inv X pins σ H s)(hN:X.N.Nodup)(hi:X.N[i]?=some x)(l:Loc X.env.scope x)(r:RelV v u)
  (h:∀ s',Inv X pins (σ.set i (some v)) H s'->(∃ a,Heap.SameBut a s.heap s'.heap/\(a=X.env.locals\/X.env.cells.lookup x=some a))->Q () s') (hf:X.fn x=true\/X.env.scope.names.lookup x=some .local:=by first | exact .inl rfl | exact .inr rfl | assumption):wpAny M A (storeName X.env x u) Q E s:=by
 obtain⟨m,hn,hl⟩:=id I.loc
 have K:(X.env.scope.kind==.class||(X.env.scope.kind==.module&&X.env.locals != X.env.globals))=false:=by rw[I.ok.kind];rfl
 have hiσ:i < σ.length:=by rw[I.len];exact(YV.mp hi).1
 have cne:=I.cne
 have tracked:∀{a:Addr}{h':Heap},(∃ o,s.heap.get? a=some o/\H a=none)->Heap.SameBut a s.heap h'->HOk X.prog X.w H h':=λ{a h'}ha f b ob e=>by
  obtain⟨_,_,t⟩:=ha
  refine(I.hok b ob e).stay (λc S hc q=>(f.2 c ?_).trans q) (λ_ q=>q) λ_ _ q=>q
  rintro rfl
  rcases hc with rfl | hc
  ·rw[t]at e;cases e
  ·rw[t]at hc;cases hc
 rcases l with D | D
 ·refine wpAny_storeName_local D hn (λh' Z f=>?_) K
  obtain⟨oL,_,_,hoL,_⟩:=id hn
  refine h _ ⟨I.ok,I.os,I.bare,⟨λb o e n J l=>?_,λb o e n J l=>?_,I.base.free,λb o e l=>?_,I.base.tups,I.base.frzs,I.base.tbls⟩,⟨_,Z,λj y v' g B Y=>?_⟩,λy c e=>?_,I.free,I.freeC,λp hp=>?_,tracked ⟨oL,hoL,I.free⟩ f,by simpa using I.len⟩ ⟨_,f,.inl rfl⟩
  ·exact(f.2 b (Ys (Yu (Qm e) I.ok.above))).trans (I.base.keep b o e n J l)
  ·obtain⟨sl,g⟩:=I.base.slot b o e n J l
   exact⟨sl,(f.2 b (Ys (Yu (Qm e) I.ok.above))).trans g⟩
  ·obtain⟨o',g⟩:=I.base.there b o e l
   exact⟨o',(f.2 b (Ys (Yu (Qm e) I.ok.above))).trans g⟩
  ·by_cases G:j=i
   ·subst G
    rw[hi]at g;cases g
    rw[List.getElem?_set_self hiσ]at B
    cases B
    exact⟨u,r,.inl ⟨D,by simp⟩⟩
   ·rw[List.getElem?_set_ne (YU G)]at B
    obtain⟨U,r',q⟩:=hl j y v' g B Y
    refine⟨U,r',?_⟩
    rcases q with⟨k,e⟩|⟨k,c,e,z⟩
    ·refine .inl ⟨k,?_⟩
     have:y≠x:=λe=>G (IR hN g (e▸hi))
     simp[this,e]
    ·exact .inr ⟨k,c,e,z.sameBut f (cne y c e)⟩
  ·obtain⟨S,z⟩:=I.cell y c e
   exact⟨S,z.sameBut f (cne y c e)⟩
  ·obtain⟨e,n,ne,nf,d⟩:=I.pin p hp
   exact⟨(f.2 p.1 ne).trans e,n,ne,nf,d⟩
 ·have F:X.fn x=true:=by
   rcases hf with z | z
   ·exact z
   ·rw[z]at D;cases D
  obtain⟨c,hc⟩:=I.ok.has x (.inl D)
  obtain⟨S,z⟩:=I.cell x c hc
  refine wpAny_storeName_cell I.ok.kind D hc z (λh' P f=>?_)
  obtain⟨oc,O,R⟩:=id z
  refine h {s with heap:=h'} ⟨I.ok,I.os,I.bare,⟨λb o e n J l=>?_,λb o e n J l=>?_,I.base.free,λb o e l=>?_,I.base.tups,I.base.frzs,I.base.tbls⟩,⟨m,hn.sameBut f (YU (cne x c hc)),λj y v' g B Y=>?_⟩,λy T e=>?_,I.free,I.freeC,λp hp=>?_,tracked ⟨oc,O,I.freeC x c hc⟩ f,by simpa using I.len⟩ ⟨c,f,.inr hc⟩
  ·exact(f.2 b (Ys (Yu (Qm e) (I.ok.cab x c F hc)))).trans (I.base.keep b o e n J l)
  ·obtain⟨sl,g⟩:=I.base.slot b o e n J l
   exact⟨sl,(f.2 b (Ys (Yu (Qm e) (I.ok.cab x c F hc)))).trans g⟩
  ·obtain⟨o',g⟩:=I.base.there b o e l
   exact⟨o',(f.2 b (Ys (Yu (Qm e) (I.ok.cab x c F hc)))).trans g⟩
  ·by_cases G:j=i
   ·subst G
    rw[hi]at g;cases g
    rw[List.getElem?_set_self hiσ]at B
    cases B
    exact⟨u,r,.inr ⟨.inl D,c,hc,P⟩⟩
   ·rw[List.getElem?_set_ne (YU G)]at B
    obtain⟨U,r',q⟩:=hl j y v' g B Y
    refine⟨U,r',?_⟩
    rcases q with q |⟨k,T,e,z'⟩
    ·exact .inl q
    ·refine .inr ⟨k,T,e,z'.sameBut f ?_⟩
     rintro rfl
     exact G (IR hN g (I.ok.inj _ _ _ e hc▸hi))
  ·by_cases L:T=c
   ·subst L;exact⟨_,P⟩
   ·obtain⟨w2,z2⟩:=I.cell y T e
    exact⟨w2,z2.sameBut f L⟩
  ·obtain⟨e,n,ne,nf,d⟩:=I.pin p hp
   refine⟨(f.2 p.1 ?_).trans e,n,ne,nf,d⟩
   intro q
   rw[q,O]at e
   have q':oc=p.2:=YE e
   exact d S (by rw[<- q'];exact R)
theorem Fk{M:Model}(I:Inv X pins σ H s)(a:X.N.Nodup)(hi:X.N[i]?=some x)(c:Loc X.env.scope x)(r:RelV v u)
  (h:∀ s',Inv X pins (σ.set i (some v)) H s'->Q () s') (b:X.fn x=true\/X.env.scope.names.lookup x=some .local:=by first | exact .inl rfl | exact .inr rfl | assumption):wpAny M A (storeName X.env x u) Q E s :=
 S4 I a hi c r (λs' d _=>h s' d) b
theorem Inv.call'{s':Shared}(I:Inv X pins σ H s)(d:s'.os=s.os)(u:Un (frs X.stack) ch H H' s.heap s'.heap)(hok:HOk X.prog X.w H' s'.heap)(f:AllBare s'.gens)
  (a:∀ b∈ch,(b∈X.ex\/X.s₀.heap.objs.size<=b)/\b≠X.env.locals/\(∀ x c,X.env.cells.lookup x=some c->c≠b)/\∀ p∈X.pn++pins,p.1≠b):Inv X pins σ H' s':=by
 obtain⟨h',g',d',t',o'⟩:=s'
 have e:o'=s.os:=d
 subst e
 exact I.call (g':=g') (t':=t') (d':=d') u hok f a
end
abbrev XK:=Value->Option Addr->Hp->Prop
abbrev St:=List (Option V)
abbrev VK:=V->Hp->Prop
abbrev TE:=St->Hp->VK->Prop
abbrev TT:=St->Hp->(Bool->Hp->Prop)->Prop
abbrev TA:=St->Hp->(List V->Hp->Prop)->Prop
structure EA where
 nx:St->Hp->Prop
 rt:VK
 bk:St->Hp->Prop:=λ_ _=>False
 ct:St->Hp->Prop:=λ_ _=>False
abbrev TS:=EA->St->Hp->Prop
def EP(X:Cx)(pins:List (Addr×Obj))(σ:St)(Q:VK)(u:Value)(s':Shared):Prop:=∃ v H',Inv X pins σ H' s'/\RelV v u/\Q v H'
def TP(X:Cx)(pins:List (Addr×Obj))(σ:St)(Q:Bool->Hp->Prop)(b:Bool)(s':Shared):Prop:=∃ H',Inv X pins σ H' s'/\Q b H'
def AP(X:Cx)(pins:List (Addr×Obj))(σ:St)(Q:List V->Hp->Prop)(us:List Value)(s':Shared):Prop:=∃ vs H',Inv X pins σ H' s'/\Vals vs us/\Q vs H'
def SP(X:Cx)(pins:List (Addr×Obj))(D:EA)(f:Flow)(s':Shared):Prop :=
 match f with
 | .next=>∃ σ' H',Inv X pins σ' H' s'/\D.nx σ' H'
 | .brk=>∃ σ' H',Inv X pins σ' H' s'/\D.bk σ' H'
 | .cont=>∃ σ' H',Inv X pins σ' H' s'/\D.ct σ' H'
 | .ret u=>∃ v σ' H',Inv X pins σ' H' s'/\RelV v u/\D.rt v H'
def PE(X:Cx)(e:Expr)(t:TE):Prop :=
 ∀(pins:List (Addr×Obj))(s:Shared)(σ:St)(H:Hp)(Q:VK),Inv X pins σ H s->t σ H Q->wpAny (model X.prog X.w) X.A (eval e X.env) (EP X pins σ Q) X.xe s
def PT(X:Cx)(e:Expr)(t:TT):Prop :=
 ∀(pins:List (Addr×Obj))(s:Shared)(σ:St)(H:Hp)(Q:Bool->Hp->Prop),Inv X pins σ H s->t σ H Q->wpAny (model X.prog X.w) X.A (isTrue e X.env (eval e X.env)) (TP X pins σ Q) X.xe s
def PW(X:Cx)(e:Expr)(t:TT):Prop :=
 ∀(whole:Sem Value)(pins:List (Addr×Obj))(s:Shared)(σ:St)(H:Hp)(Q:Bool->Hp->Prop),Inv X pins σ H s->t σ H Q->wpAny (model X.prog X.w) X.A (isTrue e X.env whole) (TP X pins σ Q) X.xe s
variable {X:Cx}
theorem PW.pt{e:Expr}{t:TT}(h:PW X e t):PT X e t:=h _
def PA(X:Cx)(es:List Expr)(t:TA):Prop :=
 ∀(pos:Pos)(pins:List (Addr×Obj))(s:Shared)(σ:St)(H:Hp)(Q:List V->Hp->Prop),Inv X pins σ H s->t σ H Q->wpAny (model X.prog X.w) X.A (spliced (backTo pos (starEach es X.env))) (AP X pins σ Q) X.xe s
def PS(X:Cx)(st:Stmt)(t:TS):Prop :=
 ∀(pins:List (Addr×Obj))(s:Shared)(σ:St)(H:Hp)(D:EA),Inv X pins σ H s->t D σ H->wpAny (model X.prog X.w) X.A (exec st X.env) (SP X pins D) X.xe s
def PSs(X:Cx)(st:List Stmt)(t:TS):Prop :=
 ∀(pins:List (Addr×Obj))(s:Shared)(σ:St)(H:Hp)(D:EA),Inv X pins σ H s->t D σ H->wpAny (model X.prog X.w) X.A (execs st X.env) (SP X pins D) X.xe s
variable {A:Around}{E:Value->Shared->Prop}{s:Shared}
theorem thn{α:Type}{t:Sem α}{Q b:α->Shared->Prop}{M:Model}(h:wpAny M A t Q E s)(c:∀ a s,Q a s->b a s):wpAny M A t b E s:=wpAny_mono h c λ_ _ x=>x
section
variable {X:Cx}
variable {pins:List (Addr×Obj)}{σ:St}
theorem bin{a b:Expr}{ta tb:TE}(j:PE X a ta)(m:PE X b tb){R:V->V->Hp->Prop}(I:Inv X pins σ H s)(h:ta σ H λx H1=>tb σ H1 λy H2=>R x y H2)
  {α:Type} {Q:α->Shared->Prop} {f:Value->Value->Sem α}
  (n:∀ v u e x y H2,Inv X pins σ H2 e->RelV x v->RelV y u->R x y H2->wpAny (model X.prog X.w) X.A (f v u) Q X.xe e):
  wpAny (model X.prog X.w) X.A (eval a X.env) (λv d=>wpAny (model X.prog X.w) X.A (eval b X.env) (λu c=>wpAny (model X.prog X.w) X.A (f v u) Q X.xe c) X.xe d) X.xe s:=by
 refine thn (j pins s σ H _ I h) λv o g=>?_
 obtain⟨x,H1,l,r1,q1⟩:=g
 refine thn (m pins o σ H1 _ l q1) λu e i=>?_
 obtain⟨y,H2,p,k,q2⟩:=i
 exact n v u e x y H2 p r1 k q2
def S5(i:Nat):TE:=λσ H Q=>∃ v,σ[i]?=some (some v)/\Q v H
def tC(v:V):TE:=λ_ H Q=>Q v H
variable {x:Str}{pos:Pos}
theorem S6{i:Nat}(g:X.N[i]?=some x)(j:Vis X.env.scope x)(hd:(x==("__debug__":Str))=false:=by decide)(f:(x==("__classdict__":Str))=false:=by decide):PE X (.Name x pos) (S5 i):=by
 intro pins s σ H Q I h
 obtain⟨v,e,h⟩:=h
 obtain⟨m,k,hl⟩:=I.loc
 obtain⟨u,r,l⟩:=hl i x v g e j
 have d:EP X pins σ Q u s:=⟨v,H,I,r,h⟩
 rcases l with⟨b,n⟩|⟨b,c,hc,a⟩
 ·exact wpAny_Name (wpAny_loadName_local I.ok.kind b k n d) hd
 ·rcases b with b | b
  ·exact wpAny_Name (wpAny_loadName_cell I.ok.kind b hc a d) hd
  ·exact wpAny_Name (wpAny_loadName_free I.ok.kind b hc a d f) hd
theorem S7{i j pos}:PE X (.Constant (.int i) j pos) (tC (.int i)):=λ_ _ _ H _ I h=>wpAny_Constant_int ⟨.int i,H,I.tok _,⟨_,rfl⟩,h⟩
theorem S8{b j pos}:PE X (.Constant (.bool b) j pos) (tC (.bl b)):=λ_ _ _ H _ I h=>Constant_bool ⟨.bl b,H,I,rfl,h⟩
theorem S9{j pos}:PE X (.Constant .none j pos) (tC .non):=λ_ _ _ H _ I h=>Constant_none ⟨.non,H,I,rfl,h⟩
theorem Ta{x j pos}:PE X (.Constant (.str x) j pos) (tC (.str x)):=λ_ _ _ H _ I h=>Calls.Constant_str ⟨.str x,H,I.tok _,⟨_,rfl⟩,h⟩
def Gl(X:Cx)(x:Str):Prop:=X.env.kindOf x=some .globalImplicit
variable {u:Value}{Q:Value->Shared->Prop}
theorem DZ(I:Inv X pins σ H s)(a:Gl X x)(b:X.mg x=some u)(h:Q u s)
  (hd:(x==("__debug__":Str))=false:=by decide):wpAny (model X.prog X.w) X.A (eval (.Name x pos) X.env) Q E s :=
 Calls.Name_function_global I.ok.kind a (Calls.loadGlobal_global (by rw[I.ok.glob];exact I.mod.glob.keeps I.bk) b h) hd
theorem D1(I:Inv X pins σ H s)(b:Gl X x)(d:X.mg x=none)(a:bootBuiltins x=some u)(h:Q u s)
  (c:x≠"__name__":=by decide) (hd:(x==("__debug__":Str))=false:=by decide):wpAny (model X.prog X.w) X.A (eval (.Name x pos) X.env) Q E s:=by
 obtain⟨mb,h1,h2⟩:=I.mod.blt
 exact Calls.Name_function_global I.ok.kind b (Calls.loadGlobal_builtin (by rw[I.ok.glob];exact I.mod.glob.keeps I.bk) d (by rw[I.ok.blt];exact h1.keeps I.bk) ((h2 x c).trans a) h) hd
variable {v:V}
theorem LR(a:Gl X x)(b:X.mg x=some u)(r:RelV v u)(hd:(x==("__debug__":Str))=false:=by decide):PE X (.Name x pos) (tC v):=
 λ_ _ _ H _ I h=>DZ I a b ⟨v,H,I,r,h⟩ hd
theorem LS(b:Gl X x)(d:X.mg x=none)(a:bootBuiltins x=some u)(r:RelV v u)(c:x≠"__name__":=by decide)(hd:(x==("__debug__":Str))=false:=by decide):PE X (.Name x pos) (tC v):=
 λ_ _ _ H _ I h=>D1 I b d a ⟨v,H,I,r,h⟩ c hd
def t2I(ta tb:TE)(k:Int->Int->Hp->Prop):St->Hp->Prop:=λσ H=>ta σ H λx H1=>tb σ H1 λy H2=>∃ i j,x=.int i/\y=.int j/\k i j H2
def Tc(ta tb:TE):TE:=λσ H Q=>t2I ta tb (λi j H2=>Q (.int (i - j)) H2) σ H
variable {a b:Expr} {ta tb:TE} {pos:Pos}
theorem AY(c:PE X a ta)(e:PE X b tb):PE X (.BinOp a .Sub b pos) (Tc ta tb):=by
 intro pins s σ H Q I h
 refine wpAny_BinOp (bin c e I h λv u k x y H2 f g d q=>?_)
 obtain⟨i,j,rfl,rfl,q⟩:=q
 obtain⟨t,rfl⟩:=g
 obtain⟨t',rfl⟩:=d
 exact sub_int ⟨.int _,H2,f.tok _,⟨_,rfl⟩,q⟩
variable {tA tB':TT} {Au:List Expr}
def Td(t u:TT):TT:=λσ H Q=>t σ H λc H1=>if c=true then u σ H1 Q else Q false H1
def tOr(t u:TT):TT:=λσ H Q=>t σ H λc H1=>if c=true then Q true H1 else u σ H1 Q
def Te(t:TT):TT:=λσ H Q=>t σ H λc H1=>Q (!c) H1
theorem Tf(b:PT X a tA):PW X (.BoolOp .And [a] pos) tA:=by
 intro d pins s σ H Q I h
 refine isTrue_and (thn (b pins s σ H Q I h) λc f e=>?_)
 cases c with
 | true=>exact isTrue_and_nil e
 | false=>exact e
theorem Tg(b:PT X a tA):PW X (.BoolOp .Or [a] pos) tA:=by
 intro d pins s σ H Q I h
 refine isTrue_or (thn (b pins s σ H Q I h) λc f e=>?_)
 cases c with
 | false=>exact isTrue_or_nil e
 | true=>exact e
theorem Th(f:PT X a tA)(i:PW X (.BoolOp .And (b::Au) pos) tB'):PW X (.BoolOp .And (a::b::Au) pos) (Td tA tB'):=by
 intro g pins s σ H Q I h
 refine isTrue_and (thn (f pins s σ H _ I h) λc j d=>?_)
 obtain⟨H1,e,q1⟩:=d
 cases c with
 | true=>exact i g pins j σ H1 Q e q1
 | false=>exact⟨H1,e,q1⟩
theorem Ti(f:PT X a tA)(i:PW X (.BoolOp .Or (b::Au) pos) tB'):PW X (.BoolOp .Or (a::b::Au) pos) (tOr tA tB'):=by
 intro g pins s σ H Q I h
 refine isTrue_or (thn (f pins s σ H _ I h) λc j d=>?_)
 obtain⟨H1,e,q1⟩:=d
 cases c with
 | true=>exact⟨H1,e,q1⟩
 | false=>exact i g pins j σ H1 Q e q1
theorem Tj(b:PT X a tA):PT X (.UnaryOp .Not a pos) (Te tA):=by
 intro pins s σ H Q I h
 exact isTrue_not (b pins s σ H (λc H1=>Q (!c) H1) I h)
def Tl(ta tb:TE):TE:=λσ H Q=>ta σ H λx H1=>∃ c,x=.bl c/\if c=true then tb σ H1 Q else Q (.bl false) H1
def Tn(ta tb:TE):TE:=λσ H Q=>ta σ H λx H1=>∃ c,x=.bl c/\if c=true then Q (.bl true) H1 else tb σ H1 Q
theorem To{op}{t:TE}(h:PE X a t):PE X (.BoolOp op [a] pos) t:=λpins s σ H Q I hw=>BoolOp_one (h pins s σ H Q I hw)
theorem Tp(f:PE X a ta)(g:PE X (.BoolOp .And (b::Au) pos) tb):PE X (.BoolOp .And (a::b::Au) pos) (Tl ta tb):=by
 intro pins s σ H Q I h
 refine BoolOp_and (thn (f pins s σ H _ I h) λv i d=>?_)
 obtain⟨x,H1,e,r1,q1⟩:=d
 obtain⟨c,rfl,q1⟩:=q1
 cases r1
 refine wpAny_truthy_bool ?_
 cases c with
 | true=>exact g pins i σ H1 Q e q1
 | false=>exact⟨.bl false,H1,e,rfl,q1⟩
theorem Tq(f:PE X a ta)(g:PE X (.BoolOp .Or (b::Au) pos) tb):PE X (.BoolOp .Or (a::b::Au) pos) (Tn ta tb):=by
 intro pins s σ H Q I h
 refine BoolOp_or (thn (f pins s σ H _ I h) λv i d=>?_)
 obtain⟨x,H1,e,r1,q1⟩:=d
 obtain⟨c,rfl,q1⟩:=q1
 cases r1
 refine wpAny_truthy_bool ?_
 cases c with
 | false=>exact g pins i σ H1 Q e q1
 | true=>exact⟨.bl true,H1,e,rfl,q1⟩
def tIf(t:TT)(ta tb:TE):TE:=λσ H Q=>t σ H λc H1=>if c=true then ta σ H1 Q else tb σ H1 Q
theorem Ts{c:Expr}(hc:PT X c tA)(i:PE X a ta)(j:PE X b tb):PE X (.IfExp c a b pos) (tIf tA ta tb):=by
 intro pins s σ H Q I h
 refine wpAny_IfExp (thn (hc pins s σ H _ I h) λd g e=>?_)
 obtain⟨H1,f,q1⟩:=e
 cases d with
 | true=>exact i pins g σ H1 Q f q1
 | false=>exact j pins g σ H1 Q f q1
end
def SqL(K:PySem.W.Frag)(H:Hp)(a:Addr)(xs:List V):Prop :=
 Rd H a (.lst xs)\/
  ∃(o:Obj)(its:Array Value)(n:Nat),K.lookup a=some o/\o.cls=.type "list"/\o.dict=none/\o.data=.seq its n/\its.size<=sizeLine/\Vals xs its.toList
def SqT(K:PySem.W.Frag)(H:Hp)(a:Addr)(xs:List V):Prop :=
 Rd H a (.tup xs)\/
  ∃(o:Obj)(its:Array Value)(n:Nat),K.lookup a=some o/\o.cls=.type "tuple"/\o.dict=none/\o.data=.seq its n/\its.size<=sizeLine/\Vals xs its.toList
def Tt:Value->Option V
 | .none=>some .non
 | .bool b=>some (.bl b)
 | .int i _=>some (.int i)
 | .str x _=>some (.str x)
 | .bytes b _=>some (.byt b)
 | .float b _=>some (.flt b)
 | .ref a=>some (.ref a)
 | .type n=>some (.ty n)
 | _=>none
variable {x:V}{u:Value}
theorem RelV.abs(r:RelV x u):Tt u=some x:=by
 cases x with
 | non=>cases r;rfl
 | bl _=>cases r;rfl
 | int _=>obtain⟨t,rfl⟩:=r;rfl
 | str _=>obtain⟨t,rfl⟩:=r;rfl
 | byt _=>obtain⟨t,rfl⟩:=r;rfl
 | flt _=>obtain⟨t,rfl⟩:=r;rfl
 | ref _=>cases r;rfl
 | ty _=>cases r;rfl
theorem RelV.inj{y:V}(r:RelV x u)(q:RelV y u):x=y:=YE (r.abs.symm.trans q.abs)
theorem Vals.inj:∀{xs ys:List V}{us:List Value},Vals xs us->Vals ys us->xs=ys
 | _,_,_,.nil,.nil=>rfl
 | _,_,_,.cons r t,.cons r' t'=>by rw[r.inj r',Vals.inj t t']
section
variable {X:Cx} {pins:List (Addr×Obj)} {σ:St} {H:Hp} {s:Shared} {a:Addr} {xs ys:List V}
variable {K:PySem.W.Frag}
theorem SqL.of(h:H a=some (.lst xs)):SqL K H a xs:=.inl (.inl h)
theorem SqT.of(h:H a=some (.tup xs)):SqT K H a xs:=.inl (.inl h)
theorem Inv.list(I:Inv X pins σ H s)(h:SqL X.K H a xs):∃ b:List Value,Vals xs b/\PlainL s.heap a b.toArray/\xs.length<=sizeLine:=by
 rcases h with h |⟨o,b,n,c,hc,hd,d,f,r⟩
 ·obtain⟨z,b,n,r,e⟩:=h.ok I.hok
  exact⟨b,r,⟨_,n,e,rfl,rfl,rfl⟩,z⟩
 ·refine⟨b.toList,r,⟨o,n,I.kIn a o c,hc,hd,by simpa using d⟩,?_⟩
  have e:=r.length
  simp only[YR]at e
  lia
theorem Inv.tupP(I:Inv X pins σ H s)(h:SqT X.K H a xs):∃ b:List Value,Vals xs b/\TupP s.heap a b.toArray/\xs.length<=sizeLine:=by
 rcases h with h |⟨o,b,n,c,hc,hd,d,f,r⟩
 ·obtain⟨z,b,r,p⟩:=h.ok I.hok
  exact⟨b,r,p,z⟩
 ·refine⟨b.toList,r,⟨o,I.kIn a o c,hc,hd,n,by simpa using d⟩,?_⟩
  have e:=r.length
  simp only[YR]at e
  lia
theorem Inv.tuple(I:Inv X pins σ H s)(h:SqT X.K H a xs):∃ b:List Value,Vals xs b/\IsTup s.heap a b.toArray/\xs.length<=sizeLine :=
 let⟨b,r,p,z⟩:=I.tupP h
 ⟨b,r,p.up,z⟩
theorem Inv.list_inj(I:Inv X pins σ H s)(h:SqL X.K H a xs)(h':SqL X.K H a ys):xs=ys:=by
 obtain⟨c,r,⟨o,n,e,_,_,d⟩,_⟩:=I.list h
 obtain⟨b,r',⟨o',i,g,_,_,f⟩,_⟩:=I.list h'
 rw[e]at g;cases g
 rw[d]at f
 injection f with d1 _
 have:c=b:=by simpa using Qf Array.toList d1
 subst this
 exact r.inj r'
theorem Inv.tuple_inj(I:Inv X pins σ H s)(h:SqT X.K H a xs)(h':SqT X.K H a ys):xs=ys:=by
 obtain⟨c,r,⟨o,e,_,n,d⟩,_⟩:=I.tuple h
 obtain⟨b,r',⟨o',g,_,i,f⟩,_⟩:=I.tuple h'
 rw[e]at g;cases g
 rw[d]at f
 injection f with d1 _
 have:c=b:=by simpa using Qf Array.toList d1
 subst this
 exact r.inj r'
end
abbrev Cx.wish(X:Cx)(E:Value->Shared->Prop):Cx:={X with xe:=E}
abbrev Cx.nox(X:Cx):Cx:=X.wish λ_ _=>False
theorem Cx.Ok.wish(ok:X.Ok)(E:Value->Shared->Prop):(X.wish E).Ok :=
 ⟨ok.mod,ok.kind,ok.glob,ok.blt,ok.above,ok.inj,ok.has,ok.cab,ok.hd,ok.frames,ok.stk,ok.exf,ok.bs,ok.bsz,ok.noex,ok.exfs,ok.funs,ok.frf⟩
theorem Cx.Ok.unwish(ok:(X.wish E).Ok):X.Ok :=
 ⟨ok.mod,ok.kind,ok.glob,ok.blt,ok.above,ok.inj,ok.has,ok.cab,ok.hd,ok.frames,ok.stk,ok.exf,ok.bs,ok.bsz,ok.noex,ok.exfs,ok.funs,ok.frf⟩
section
variable {X:Cx} {pins:List (Addr×Obj)} {σ:St} {H:Hp} {s:Shared} {E:Value->Shared->Prop}
theorem Inv.wish(I:Inv X pins σ H s)(E:Value->Shared->Prop):Inv (X.wish E) pins σ H s:=⟨I.ok.wish E,I.os,I.bare,I.base,I.loc,I.cell,I.free,I.freeC,I.pin,I.hok,I.len⟩
theorem Inv.unwish(I:Inv (X.wish E) pins σ H s):Inv X pins σ H s:=⟨I.ok.unwish,I.os,I.bare,I.base,I.loc,I.cell,I.free,I.freeC,I.pin,I.hok,I.len⟩
theorem SP.unwish{D:EA}{f:Flow}{s':Shared}(h:SP (X.wish E) pins D f s'):SP X pins D f s':=by
 cases f with
 | next=>obtain⟨σ',H',I,q⟩:=h;exact⟨σ',H',I.unwish,q⟩
 | brk=>obtain⟨σ',H',I,q⟩:=h;exact⟨σ',H',I.unwish,q⟩
 | cont=>obtain⟨σ',H',I,q⟩:=h;exact⟨σ',H',I.unwish,q⟩
 | ret u=>obtain⟨v,σ',H',I,r,q⟩:=h;exact⟨v,σ',H',I.unwish,r,q⟩
variable {e:Expr}
theorem PE.nox{t:TE}(h:PE X.nox e t):PE X e t:=λpins s σ H Q I hw=>
 wpAny_mono (h pins s σ H Q (I.wish _) hw) ((by rintro _ _ ⟨v,H',a,r,q⟩;exact⟨v,H',a.unwish,r,q⟩)) λ_ _ z=>Qd z
theorem PT.nox{t:TT}(h:PT X.nox e t):PT X e t:=λpins s σ H Q I hw=>
 wpAny_mono (h pins s σ H Q (I.wish _) hw) ((by rintro _ _ ⟨H',a,q⟩;exact⟨H',a.unwish,q⟩)) λ_ _ z=>Qd z
theorem PSs.nox{st:List Stmt}{t:TS}(h:PSs X.nox st t):PSs X st t:=λpins s σ H D I hw=>
 wpAny_mono (h pins s σ H D (I.wish _) hw) (λ_ _ q=>q.unwish) λ_ _ z=>Qd z
end
section
variable {X:Cx} {st:Stmt} {Au:List Stmt} {t u:TS} {e:Expr} {te:TE} {pos:Pos}
def Tu:TS:=λD σ H=>D.nx σ H
def Tv(t u:TS):TS:=λD σ H=>t {D with nx:=u D} σ H
theorem Tw:PSs X [] Tu:=λ_ _ σ H _ I h=>wpAny_execs_nil ⟨σ,H,I,h⟩
theorem Tz(h1:PS X st t)(h2:PSs X Au u):PSs X (st::Au) (Tv t u):=by
 intro pins s σ H D I h
 refine wpAny_execs_cons (thn (h1 pins s σ H {D with nx:=u D} I h) λf b q=>?_)
 cases f with
 | next =>
  obtain⟨σ',H',a,q⟩:=q
  exact h2 pins b σ' H' D a q
 | ret v=>exact q
 | brk=>exact q
 | cont=>exact q
theorem TB(h1:PS X st t):PSs X [st] t:=by
 intro pins s σ H D I h
 refine wpAny_execs_cons (thn (h1 pins s σ H D I h) λf a q=>?_)
 cases f with
 | next=>exact wpAny_execs_nil q
 | ret v=>exact q
 | brk=>exact q
 | cont=>exact q
theorem Inv.quiet{pins:List (Addr×Obj)}{σ:St}(I:Inv X pins σ H s):interactive X.env=false:=by simp[interactive,I.ok.kind]
def TC(te:TE):TS:=λD σ H=>te σ H λ_ H1=>D.nx σ H1
theorem TD(c:PE X e te)(a:swapsWith e none pos.line X.env=pure false:=by rfl):PS X (.Expr e pos) (TC te):=by
 intro pins s σ H D I h
 exact wpAny_Expr_any (thn (c pins s σ H _ I h) (by rintro v d ⟨x,H1,b,r1,q1⟩;exact⟨σ,H1,b,q1⟩)) I.quiet a
def TF(te:TE):TS:=λD σ H=>te σ H D.rt
theorem TH(b:PE X e te):PS X (.Return (some e) pos) (TF te):=by
 intro pins s σ H D I h
 exact wpAny_Return_some (thn (b pins s σ H _ I h) (by rintro v c ⟨x,H1,a,r1,q1⟩;exact⟨x,σ,H1,a,r1,q1⟩))
def TJ(c:TT)(t u:TS):TS:=λD σ H=>c σ H λb H1=>if b=true then t D σ H1 else u D σ H1
theorem TK{c:Expr}{a b:List Stmt}{tc:TT}(hc:PT X c tc)(i:PSs X a t)(j:PSs X b u):PS X (.If c a b pos) (TJ tc t u):=by
 intro pins s σ H D I h
 refine wpAny_If (thn (hc pins s σ H _ I h) λd g e=>?_)
 obtain⟨H1,f,q1⟩:=e
 cases d with
 | true=>exact i pins g σ H1 D f q1
 | false=>exact j pins g σ H1 D f q1
end
abbrev TG:=V->St->Hp->(St->Hp->Prop)->Prop
abbrev TGs:=List V->St->Hp->(St->Hp->Prop)->Prop
def PG(X:Cx)(target:Expr)(t:TG):Prop :=
 ∀(pins:List (Addr×Obj))(s:Shared)(σ:St)(H:Hp)(v:V)(u:Value)(Q:St->Hp->Prop),Inv X pins σ H s->RelV v u->t v σ H Q->
  wpAny (model X.prog X.w) X.A (assign target X.env u) (λ_ s'=>∃ σ' H',Inv X pins σ' H' s'/\Q σ' H') X.xe s
def PGs(X:Cx)(ts:List Expr)(t:TGs):Prop :=
 ∀(pins:List (Addr×Obj))(s:Shared)(σ:St)(H:Hp)(vs:List V)(us:List Value)(Q:St->Hp->Prop),Inv X pins σ H s->Vals vs us->t vs σ H Q->
  wpAny (model X.prog X.w) X.A (assignInOrder ((assignEach ts X.env).map (·.2)) us) (λ_ s'=>∃ σ' H',Inv X pins σ' H' s'/\Q σ' H') X.xe s
abbrev IS:=V->V->V->Hp->(Hp->Prop)->Prop
def LU(X:Cx)(t:IS):Prop :=
 ∀(pins:List (Addr×Obj))(s:Shared)(σ:St)(H:Hp)(o i v:V)(ov iv u:Value)(Q:Hp->Prop),Inv X pins σ H s->RelV o ov->RelV i iv->RelV v u->t o i v H Q->
  wpAny (model X.prog X.w) X.A (setItem ov iv u) (λ_ s'=>∃ H',Inv X pins σ H' s'/\Q H') X.xe s
abbrev TIp:=V->V->Hp->VK->Prop
def PIp(X:Cx)(op:Operator)(t:TIp):Prop :=
 ∀(pins:List (Addr×Obj))(s:Shared)(σ:St)(H:Hp)(x y:V)(v u:Value)(Q:VK),Inv X pins σ H s->RelV x v->RelV y u->t x y H Q->
  wpAny (model X.prog X.w) X.A (inplaceOp op v u) (EP X pins σ Q) X.xe s
section
variable {X:Cx} {pos:Pos}
def B9(i:Nat):TG:=λv σ H Q=>Q (σ.set i (some v)) H
variable {i:Nat}
theorem CA{x:Str}(a:X.N.Nodup)(hi:X.N[i]?=some x)(c:Loc X.env.scope x)(b:X.fn x=true\/X.env.scope.names.lookup x=some .local:=by first | exact .inl rfl | exact .inr rfl | assumption):PG X (.Name x pos) (B9 i):=by
 intro pins s σ H v u Q I r h
 exact wpAny_assign_Name (Fk I a hi c r (λs' d=>⟨_,H,d,h⟩) b)
def Ch:TGs:=λvs σ H Q=>vs=[]/\Q σ H
def BT(t:TG)(u:TGs):TGs:=λvs σ H Q=>∃ v r,vs=v::r/\t v σ H λσ' H'=>u r σ' H' Q
theorem IT:PGs X [] Ch:=by
 intro pins s σ H b a Q I r h
 obtain⟨e,h⟩:=h
 subst e
 cases r
 exact assignInOrder_nil ⟨σ,H,I,h⟩
variable {e:Expr}{es:List Expr}
theorem Do{t:TG}{u:TGs}(h1:PG X e t)(h2:PGs X es u)
  (f:(assignEach (e::es) X.env).map (·.2)=assign e X.env::(assignEach es X.env).map (·.2):=by rfl):PGs X (e::es) (BT t u):=by
 intro pins s σ H j i Q I r h
 obtain⟨v,k,c,h⟩:=h
 subst c
 cases r with
 | cons r g =>
  rw[f]
  refine assignInOrder_cons (thn (h1 pins s σ H _ _ _ I r h) λ_ d a=>?_)
  obtain⟨σ1,H1,b,q1⟩:=a
  exact h2 pins d σ1 H1 _ _ Q b g q1
def Cl(K:PySem.W.Frag)(n:Nat)(t:TGs):TG:=λv σ H Q=>∃ a xs,v=.ref a/\SqT K H a xs/\xs.length=n/\t xs σ H Q
theorem IU{k:Nat}{t:TGs}{n:Nat}(hc:X.calm=true)(h:PGs X es t)
  (m:(assignEach es X.env).length=n:=by rfl) (c:(assignEach es X.env).findIdx? (·.1)=none:=by rfl):PG X (.Tuple es k pos) (Cl X.K n t):=by
 intro pins s σ H v u Q I r hw
 obtain⟨a,xs,l,j,hl,hw⟩:=hw
 subst l
 cases r
 obtain⟨p,d,f,q⟩:=I.tuple j
 refine assign_Tuple_tuple (I.ok.hd hc) f (by simp[m,<- hl,d.length]) c λh' g=>?_
 have i:Inv X pins σ H {s with heap:=h'}:=I.kept (t':=s.toks) λb o e=>g b o (Ys (Qm e)) e
 exact h pins _ σ H xs _ Q i (by simpa using d) hw
def TL(to ti:TE)(t:IS):TG:=λv σ H Q=>to σ H λo H1=>ti σ H1 λi H2=>t o i v H2 λH3=>Q σ H3
theorem TN{o i:Expr}{to f:TE}{t:IS}(n:PE X o to)(hi:PE X i f)(q:LU X t)
  (g:∀ v,assign (.Subscript o i pos) X.env v=(do
   let a <- holding [v] (eval o X.env)
   let e <- holding [v,a] (eval i X.env)
   standAt pos
   holding [v,a,e] (setItem a e v)
   release [v,a,e] []):=by intro _;rfl):PG X (.Subscript o i pos) (TL to f t):=by
 intro pins s σ H v u Q I r h
 rw[g]
 refine Qj (wpAny_holding (thn (n pins s σ H _ I h) λa p d=>?_))
 obtain⟨x,H1,l,r1,q1⟩:=d
 refine Qj (wpAny_holding (thn (hi pins p σ H1 _ l q1) λe z c=>?_))
 obtain⟨y,H2,w,j,q2⟩:=c
 refine Qj (wpAny_standAt (Qj (wpAny_holding (thn (q pins z σ H2 x y v a e u _ w r1 j r q2) λ_ A b=>?_))))
 obtain⟨k,m,q3⟩:=b
 exact wpAny_release ⟨σ,k,m,q3⟩
def IV(te:TE)(g:TG):TS:=λD σ H=>te σ H λx H1=>g x σ H1 D.nx
variable {te:TE}
theorem TQ{tg:Expr}{g:TG}(i:PE X e te)(c:PG X tg g)(f:swapsWithSole [tg] e pos.line X.env=pure false:=by rfl)(hw:swappedStores [tg] e X.env=pure none:=by rfl)
  (h1:(assignEach [tg] X.env).map (·.2)=[assign tg X.env]:=by rfl):PS X (.Assign [tg] e pos) (IV te g):=by
 intro pins s σ H D I h
 refine wpAny_Assign_stores (thn (i pins s σ H _ I h) λv d a=>?_) f hw
 obtain⟨x,H1,b,r1,q1⟩:=a
 rw[h1]
 exact thn (c pins d σ H1 x v _ b r1 q1) λ_ j q=>q
variable {pos':Pos}
theorem TR{x:Str}(b:X.N.Nodup)(hi:X.N[i]?=some x)(c:Loc X.env.scope x)(k:PE X e te)(g:swapsWith e (some (.Name x pos')) pos.line X.env=pure false:=by rfl)(f:X.fn x=true\/X.env.scope.names.lookup x=some .local:=by first | exact .inl rfl | exact .inr rfl | assumption):
  PS X (.Assign [.Name x pos'] e pos) (IV te (B9 i)):=by
 intro pins s σ H D I h
 refine wpAny_Assign_Name (thn (k pins s σ H _ I h) λv l a=>?_) g
 obtain⟨y,H1,d,r1,q1⟩:=a
 exact Fk d b hi c r1 (λm j=>⟨_,H1,j,q1⟩) f
def TU(i:Nat)(te:TE)(ti:TIp):TS:=λD σ H=>∃ x,σ[i]?=some (some x)/\te σ H λy H1=>ti x y H1 λz H2=>D.nx (σ.set i (some z)) H2
theorem TV{x:Str}{op:Operator}{p:TIp}(K:X.N.Nodup)(hi:X.N[i]?=some x)(o:Loc X.env.scope x)(Q:PE X e te)(O:PIp X op p)(F:X.fn x=true\/X.env.scope.names.lookup x=some .local:=by first | exact .inl rfl | exact .inr rfl | assumption):
  PS X (.AugAssign (.Name x pos') op e pos) (TU i te p):=by
 intro pins s σ H D I h
 obtain⟨v,L,h⟩:=h
 obtain⟨m,P,hl⟩:=I.loc
 have n:Vis X.env.scope x:=by rcases o with k | k;exact .inl k;exact .inr (.inl k)
 obtain⟨u,r,l⟩:=hl i x v hi L n
 refine wpAny_AugAssign_Name ?_
 have go:wpAny (model X.prog X.w) X.A (eval e X.env) (λw d=>wpAny (model X.prog X.w) X.A (inplaceOp op u w) (λr j=>wpAny (model X.prog X.w) X.A (storeName X.env x r) (λ_=>SP X pins D .next) X.xe j) X.xe d) X.xe s:=by
  refine thn (Q pins s σ H _ I h) λw G f=>?_
  obtain⟨y,H1,q,r1,q1⟩:=f
  refine thn (O pins G σ H1 v y u w _ q r r1 q1) λz T g=>?_
  obtain⟨S,H2,E,J,q2⟩:=g
  exact Fk E K hi o J (λR t=>⟨_,H2,t,q2⟩) F
 rcases l with⟨a,B⟩|⟨a,c,hc,b⟩
 ·exact wpAny_loadName_local I.ok.kind a P B go
 ·rcases a with a | a
  ·exact wpAny_loadName_cell I.ok.kind a hc b go
  ·rcases o with k | k
   ·have:X.env.scope.names.lookup x=some .free:=a
    rw[k]at this;cases this
   ·have:X.env.scope.names.lookup x=some .free:=a
    rw[k]at this;cases this
end
section
variable {X:Cx} {pos:Pos}
def TX(c:TT)(tb:TS):TS:=λD σ H=>∃ W:Nat->St->Hp->Prop,(∃ m,W m σ H)/\∀ m σ H,W m σ H->
 c σ H λb H1=>if b=true then ∃ N:St->Hp->Prop,(∀ σ' H',N σ' H'->∃ m',m' < m/\W m' σ' H')/\tb {D with nx:=N,ct:=N,bk:=D.nx} σ H1 else D.nx σ H1
theorem TY{c:Expr}{body:List Stmt}{tc:TT}{tb:TS}(m:PassesOwn (model X.prog X.w) X.A X.env X.xe)(hc:PT X c tc)(y:PSs X body tb):PS X (.While c body [] pos) (TX tc tb):=by
 intro pins s σ H D I h
 obtain⟨W,⟨u,q⟩,e⟩:=h
 refine wpAny_While (codeAny_whileLoop (λn s'=>∃ σ' H',Inv X pins σ' H' s'/\W n σ' H') ?_ u ⟨σ,H,I,q⟩)
 rintro n x ⟨σ1,H1,t,r⟩
 refine wpAny_passesOwn m (thn (hc pins x σ1 H1 _ t (e n σ1 H1 r)) λb z d=>?_)
 obtain⟨H2,o,q2⟩:=d
 cases b with
 | true =>
  obtain⟨N,p,q2⟩:=q2
  rw[if_pos rfl]
  refine wpAny_passesOwn m (thn (y pins z σ1 H2 _ o q2) λf B q3=>?_)
  cases f with
  | next =>
   obtain⟨σ3,a,g,j⟩:=q3
   obtain⟨k,l,i⟩:=p σ3 a j
   exact⟨k,l,σ3,a,g,i⟩
  | cont =>
   obtain⟨σ3,a,g,j⟩:=q3
   obtain⟨k,l,i⟩:=p σ3 a j
   exact⟨k,l,σ3,a,g,i⟩
  | brk=>exact q3
  | ret v=>exact q3
 | false =>
  rw[if_neg YS]
  exact wpAny_execs_nil ⟨σ1,H2,o,q2⟩
end
structure It where
 go:Nat->Hp->Prop
 yld:Nat->Hp->V->Hp->Prop
 stop:Nat->Hp->Prop
def CB(X:Cx)(pins:List (Addr×Obj))(H:Hp)(b:Addr):Prop :=
 H b=none/\b≠X.env.locals/\b∉X.fs/\(b∈X.ex\/X.s₀.heap.objs.size<=b)/\(∀ x c,X.env.cells.lookup x=some c->c≠b)/\∀ p∈X.pn++pins,p.1≠b
theorem Inv.fpOk{pins:List (Addr×Obj)}{σ:St}{H':Hp}(I:Inv X pins σ H s)(a:s.heap.objs.size<=b)(d:H' b=none):CB X pins H' b:=by
 refine⟨d,Nat.ne_of_gt (Yu I.lt a),I.nofs a,.inr (Yt I.sz a),λx c e z=>?_,λp f z=>?_⟩
 ·obtain⟨v,q⟩:=I.cell x c e
  exact Qi (Yu q.lt (by rw[z];exact a)) (YJ _)
 ·exact Qi (Yu (Qm (I.pin p f).1) (by rw[z];exact a)) (YJ _)
structure Dp(P:Program)(w:World)(K:PySem.W.Frag)(tg:Expr)(J:It)(fp:List Addr)(it:Addr)(tn:Nat->Heap->Prop):Prop where
 mem:it∈fp
 obj:∀ i h,tn i h->∀ b∈fp,∃ o,h.get? b=some o/\∀ v,o.data≠.cell v
 keep:∀ i h h',tn i h->(∀ b∈fp,∀ o,h.get? b=some o->h'.get? b=some o)->tn i h'
 item:∀(X:Cx),X.prog=P->X.w=w->X.K=K->X.calm=true->∀(i:Nat)(pins:List (Addr×Obj))(s:Shared)(σ:St)(H:Hp)(E:Value->Shared->Prop),Inv X pins σ H s->(∀ b∈fp,CB X pins H b)->tn i s.heap->J.go i H->
  wpAny (model P w) X.A (pyNext (.ref it)) (λr s1=>∃ u,r=some u/\
   wpAny (model P w) X.A (letOwnedTupleGo tg (.ref it) u) (λ_ s2=>∃ x H',Inv X pins σ H' s2/\RelV x u/\J.yld i H x H'/\tn (i+1) s2.heap/\∀ b∈fp,H' b=none) E s1) E s
 done:∀(X:Cx),X.prog=P->X.w=w->X.K=K->X.calm=true->∀(i:Nat)(pins:List (Addr×Obj))(s:Shared)(σ:St)(H:Hp)(E:Value->Shared->Prop),Inv X pins σ H s->(∀ b∈fp,CB X pins H b)->tn i s.heap->J.stop i H->
  wpAny (model P w) X.A (pyNext (.ref it)) (λr s1=>r=none/\Inv X pins σ H s1) E s
 self:∀(A:Around)(i:Nat)(s:Shared)(Q:Value->Shared->Prop)(E:Value->Shared->Prop),tn i s.heap->Q (.ref it) s->wpAny (model P w) A (pyIter (.ref it)) Q E s
abbrev TI:=St->Hp->(It->Hp->Prop)->Prop
def PIE(X:Cx)(pins:List (Addr×Obj))(σ:St)(tg:Expr)(R:It->Hp->Prop)(itv:Value)(s2:Shared):Prop :=
 ∃(it:Addr)(fp:List Addr)(tn:Nat->Heap->Prop)(J:It)(H':Hp),itv=.ref it/\Inv X pins σ H' s2/\Dp X.prog X.w X.K tg J fp it tn/\tn 0 s2.heap/\(∀ b∈fp,CB X pins H' b)/\R J H'
def PI(X:Cx)(tg iter:Expr)(wi:TI):Prop :=
 ∀(pins:List (Addr×Obj))(s:Shared)(σ:St)(H:Hp)(R:It->Hp->Prop),Inv X pins σ H s->wi σ H R->
  wpAny (model X.prog X.w) X.A (eval iter X.env) (λv s1=>wpAny (model X.prog X.w) X.A (pyIter v) (PIE X pins σ tg R) X.xe s1) X.xe s
variable {tg:Expr}
theorem IW{M:Model}{it:Addr}{o:Obj}{n:String}{vs:Array Value}{Q:Unit->Shared->Prop}(b:s.heap.get? it=some o)(hc:o.cls=.type n)(hd:o.data=.fields vs)
  (c:["enumerate","zip","dict_itemiterator","dict_reverseitemiterator","odict_iterator","itertools.zip_longest","itertools.pairwise"].contains n=false) (a:Q () s):wpAny M A (letOwnedTupleGo tg (.ref it) u) Q E s:=by
 unfold letOwnedTupleGo
 cases tg <;> first
  | exact Qk a
  |(cases u <;> first
    | exact Qk a
    |(refine Qj (wpAny_load b ?_)
      rw[hc,hd]
      show wpAny M A (if(["enumerate","zip","dict_itemiterator","dict_reverseitemiterator","odict_iterator","itertools.zip_longest","itertools.pairwise"].contains n&&vs[0]?==some (rawInt _))=true then _ else _) Q E s
      rw[if_neg (by intro h;rw[c,Bool.false_and]at h;cases h)]
      exact Qk a))
def Itl(K:PySem.W.Frag)(a:Addr):It :=
 ⟨λi H=>∃ xs x,SqL K H a xs/\xs[i]?=some x,λi H x H'=>H'=H/\∀ xs,SqL K H a xs->xs[i]?=some x,λi H=>∃ xs,SqL K H a xs/\xs.length<=i⟩
def Itt(K:PySem.W.Frag)(a:Addr):It :=
 ⟨λi H=>∃ xs x,SqT K H a xs/\xs[i]?=some x,λi H x H'=>H'=H/\∀ xs,SqT K H a xs->xs[i]?=some x,λi H=>∃ xs,SqT K H a xs/\xs.length<=i⟩
def Itr(lo:Int)(n:Nat):It:=⟨λi _=>i < n,λi H x H'=>H'=H/\x=.int (lo+i),λi _=>n<=i⟩
variable {K:PySem.W.Frag}
theorem LV(a it:Addr):Dp P w K tg (Itl K a) [it] it (λi h=>h.IsListIter it a i) where
 mem:=by simp
 obj:=λi h st b f=>by
  have e:b=it:=by simpa using f
  subst e
  obtain⟨o,e,c,d⟩:=st
  exact⟨o,e,λv z=>by rw[d]at z;cases z⟩
 keep:=λi h h' st k=>st.at λo e=>k it (by simp) o e
 item:=by
  intro X n hw q hc i pins s σ H E I l st D
  subst n hw q
  obtain⟨xs,x,j,y⟩:=D
  obtain⟨F,m,p,S⟩:=I.list j
  obtain⟨u,R,O⟩:=m.get y
  obtain⟨r,A,Q,B,t,G⟩:=l it (by simp)
  refine wpAny_pyNext_list_item st p.isList (x:=u) (by simpa using R) λh' g N=>?_
  have J:Inv X pins σ H {s with heap:=h'}:=I.turned (t':=s.toks) (λb o f e=>(N.2 b f).trans e) r A B t G
  obtain⟨o,e,c,d⟩:=id g
  exact⟨u,rfl,IW (s:={s with heap:=h'}) e c d (by decide) ⟨x,H,J,O,⟨rfl,λys L=>by rw[I.list_inj L j];exact y⟩,g,λb f=>(l b f).1⟩⟩
 done:=by
  intro X n hw q hc i pins s σ H E I l st D
  subst n hw q
  obtain⟨xs,j,y⟩:=D
  obtain⟨F,m,p,S⟩:=I.list j
  obtain⟨r,A,Q,B,t,G⟩:=l it (by simp)
  have hl:=m.length
  exact wpAny_pyNext_list_end (I.ok.hd hc) st p.isList (by simp;lia) λh' eb=>⟨rfl,I.turned (t':=s.toks) (λb o f e=>eb b o f e) r A B t G⟩
 self:=λ_ _ _ _ _ st h=>wpAny_pyIter_listiter st h
theorem LX(a it:Addr):Dp P w K tg (Itt K a) [it] it (λi h=>h.IsTupleIter it a i) where
 mem:=by simp
 obj:=λi h st b f=>by
  have e:b=it:=by simpa using f
  subst e
  obtain⟨o,e,c,d⟩:=st
  exact⟨o,e,λv z=>by rw[d]at z;cases z⟩
 keep:=λi h h' st k=>st.at λo e=>k it (by simp) o e
 item:=by
  intro X q hw r hc i pins s σ H E I m st F
  subst q hw r
  obtain⟨xs,x,l,A⟩:=F
  obtain⟨g,n,p,S⟩:=I.tuple l
  obtain⟨u,R,O⟩:=n.get A
  obtain⟨t,B,Q,D,y,G⟩:=m it (by simp)
  refine wpAny_pyNext_tuple_item st (show s.heap.IsTuple a g.toArray from p) (x:=u) (by simpa using R) λh' j N=>?_
  have J:Inv X pins σ H {s with heap:=h'}:=I.turned (t':=s.toks) (λb o f e=>(N.2 b f).trans e) t B D y G
  obtain⟨o,e,c,d⟩:=id j
  exact⟨u,rfl,IW (s:={s with heap:=h'}) e c d (by decide) ⟨x,H,J,O,⟨rfl,λys L=>by rw[I.tuple_inj L l];exact A⟩,j,λb f=>(m b f).1⟩⟩
 done:=by
  intro X q hw r hc i pins s σ H E I m st F
  subst q hw r
  obtain⟨xs,l,A⟩:=F
  obtain⟨g,n,p,S⟩:=I.tuple l
  obtain⟨t,B,Q,D,y,G⟩:=m it (by simp)
  have hl:=n.length
  exact wpAny_pyNext_tuple_end (I.ok.hd hc) st (show s.heap.IsTuple a g.toArray from p) (by simp;lia) λh' eb=>⟨rfl,I.turned (t':=s.toks) (λb o f e=>eb b o f e) t B D y G⟩
 self:=λ_ _ _ _ _ st h=>wpAny_pyIter_tupleiter st h
theorem TZ(it:Addr)(lo:Int)(n:Nat):Dp P w K tg (Itr lo n) [it] it (λi h=>IsRangeIter h it (lo+(i:Nat)*1) ((n:Int) -(i:Nat)) 1) where
 mem:=by simp
 obj:=λi h st b a=>by
  have e:b=it:=by simpa using a
  subst e
  exact⟨_,st,λv z=>by
   have B:Data.fields _=Data.cell v:=z
   cases B⟩
 keep:=λi h h' st k=>k it (by simp) _ st
 item:=by
  intro X l hw j hc i pins s σ H E I d st m
  subst l hw j
  obtain⟨q,f,A,g,p,r⟩:=d it (by simp)
  have W:=Walks.range (prog:=X.prog) (w:=X.w) (I.ok.hd hc) it lo 1 n
  refine W.item i s _ _ m st λv h' tk x c u=>?_
  obtain⟨t,rfl⟩:=x
  have y:Inv X pins σ H {s with heap:=h',toks:=tk}:=I.turned (λb o a e=>u b o (by simpa using a) e) q f g p r
  refine⟨_,rfl,IW (s:={s with heap:=h',toks:=tk}) (n:="range_iterator") c rfl rfl (by decide) ⟨.int (lo+i),H,y,⟨t,?_⟩,⟨rfl,rfl⟩,c,λb a=>(d b a).1⟩⟩
  rw[Int.mul_one]
 done:=by
  intro X l hw j hc i pins s σ H E I d st m
  subst l hw j
  obtain⟨q,f,A,g,p,r⟩:=d it (by simp)
  exact wpAny_pyNext_range_end (I.ok.hd hc) st (by have:n<=i:=m;lia) λh' eb=>⟨rfl,I.turned (t':=s.toks) (λb o a e=>eb b o a e) q f g p r⟩
 self:=λ_ _ _ _ _ st h=>wpAny_pyIter_rangeiter st h
section
variable {X:Cx} {tg:Expr}
variable {pins:List (Addr×Obj)}{σ:St}
theorem T1{R:It->Hp->Prop}{lo hi:Int}{t u v:Tok}{tk:Nat}(I:Inv X pins σ H s)(h1:-(2 ^ 62)<=lo)(h2:lo < 2 ^ 62)(h:-(2 ^ 62)<=hi)(d:hi < 2 ^ 62)
  (q:R (Itr lo (hi - lo).toNat) H):wpAny (model X.prog X.w) X.A (pyIter (.ref s.heap.objs.size)) (PIE X pins σ tg R) E {s with heap:=s.heap.push {cls:=.type "range",data:=.fields #[.int lo t,.int hi u,.int 1 v]},toks:=tk}:=by
 refine wpAny_pyIter_range (IsRange.new ..) (small_one h1 h2 h d) ?_
 have a:Inv X pins σ H {s with heap:=s.heap.push {cls:=.type "range",data:=.fields #[.int lo t,.int hi u,.int 1 v]},toks:=tk}:=I.kept λb o e=>Ql _ e
 refine⟨(s.heap.push {cls:=.type "range",data:=.fields #[.int lo t,.int hi u,.int 1 v]}).objs.size,[(s.heap.push {cls:=.type "range",data:=.fields #[.int lo t,.int hi u,.int 1 v]}).objs.size],_,_,H,rfl,
  a.kept (t':=tk) λb o e=>Ql _ e,TZ _ lo (hi - lo).toNat,?_,λb g=>?_,q⟩
 ·have f:lo+((0:Nat):Int)*1=lo:=by simp
  have c:(((hi - lo).toNat:Nat):Int) -((0:Nat):Int)=Builtin.Range.rangeSize lo hi 1:=by rw[rangeSize_one];split <;> lia
  show IsRangeIter _ _ (lo+((0:Nat):Int)*1) ((((hi - lo).toNat:Nat):Int) -((0:Nat):Int)) 1
  rw[f,c]
  exact Qn _ rfl
 ·have e:b=(s.heap.push {cls:=.type "range",data:=.fields #[.int lo t,.int hi u,.int 1 v]}).objs.size:=by simpa using g
  subst e
  exact a.fpOk (Yr _) (a.hok.fresh (Yr _))
def T2(ta:TA):TI:=λσ H R=>ta σ H λvs H1=>∃ j:Int,vs=[.int j]/\-(2 ^ 62)<=j/\j < 2 ^ 62/\R (Itr 0 j.toNat) H1
variable {pos:Pos}
theorem T3{a:Expr}{ta:TA}{p:Pos}(f:Gl X "range")(k:X.mg "range"=none)(c:PA X [a] ta)(g:starEach [a] X.env=[(false,eval a X.env)]:=by rfl):PI X tg (.Call (.Name "range" p) [a] [] pos) (T2 ta):=by
 intro pins s σ H R I h
 refine Call_ (D1 I f k boot_range (Qb (thn (c pos pins s σ H _ I h) λl m b=>?_) g rfl))
 obtain⟨n,H1,d,r1,q1⟩:=b
 obtain⟨j,e,q1,q2,q⟩:=q1
 subst e
 cases r1 with
 | cons r i =>
  cases i
  obtain⟨t,rfl⟩:=r
  exact call_range_1 (T1 d (by lia) (by lia) q1 q2 (by simpa using q))
def T4(wi:TI)(g:TG)(tb:TS):TS:=λD σ H=>wi σ H λJ H1=>∃ W:Nat->Nat->St->Hp->Prop,(∃ m,W 0 m σ H1)/\∀ i m σ H,W i m σ H->
 (J.stop i H/\D.nx σ H)\/(J.go i H/\∃ N:St->Hp->Prop,(∀ σ' H',N σ' H'->∃ m',m' < m/\W (i+1) m' σ' H')/\∀ x H',J.yld i H x H'->g x σ H' λσ2 H2=>tb {D with nx:=N,ct:=N,bk:=D.nx} σ2 H2)
def EB(fp:List Addr)(h:Heap):List (Addr×Obj):=fp.filterMap λb=>(h.get? b).map λo=>(b,o)
variable {fp:List Addr}
theorem Fl{o:Obj}(a:b∈fp)(e:h.get? b=some o):(b,o)∈EB fp h:=List.mem_filterMap.mpr ⟨b,a,by rw[e];rfl⟩
theorem T5{p:Addr×Obj}(d:p∈EB fp h):p.1∈fp/\h.get? p.1=some p.2:=by
 obtain⟨b,a,e⟩:=List.mem_filterMap.mp d
 cases q:h.get? b with
 | none=>rw[q]at e;cases e
 | some o =>
  rw[q]at e
  have c:(b,o)=p:=YE e
  subst c
  exact⟨a,q⟩
theorem Inv.pinned(I:Inv X pins σ H s)(k:∀ b∈fp,CB X pins H b)(i:∀ b∈fp,∃ o,s.heap.get? b=some o/\∀ v,o.data≠.cell v):Inv X (pins++EB fp s.heap) σ H s :=
 I.pins_of λp j=>(Yz.mp j).elim (λz=>I.pin p (YL _ z)) λz=>by
  obtain⟨a,e⟩:=T5 z
  obtain⟨h,f,g,_⟩:=k p.1 a
  obtain⟨o,c,d⟩:=i p.1 a
  rw[e]at c;cases c
  exact⟨e,h,f,g,d⟩
theorem Inv.unpinned{pl:List (Addr×Obj)}(I:Inv X (pins++pl) σ H s):Inv X pins σ H s:=I.pins_of λp a=>I.pin p (YL _ (YK _ a))
theorem T6{iter:Expr}{body:List Stmt}{wi:TI}{g:TG}{tb:TS}(q:PassesOwn (model X.prog X.w) X.A X.env X.xe)(hc:X.calm=true)(hi:PI X tg iter wi)(hg:PG X tg g)(j:PSs X body tb)
  (hs:∀ x,foldedSetIterable iter X.env x=pure x:=by intro _;rfl):PS X (.For tg iter body [] pos) (T4 wi g tb):=by
 intro pins s σ H D I h
 refine wpAny_For (thn (hi pins s σ H _ I h) λv s1 h1=>thn h1 λitv s2 h2=>?_) hs
 obtain⟨it,G,tn,J,H2,e,I2,T,P,f2,W,⟨m0,w0⟩,E⟩:=h2
 subst e
 have c:∀{H':Hp},(∀ b∈G,H' b=none)->∀ b∈G,CB X pins H' b:=λhn b j=>⟨hn b j,(f2 b j).2⟩
 refine codeAny_forLoop_any (λn s'=>∃ i σ' H',Inv X pins σ' H' s'/\tn i s'.heap/\(∀ b∈G,H' b=none)/\W i n σ' H') ?_ m0 ⟨0,σ,H2,I2,P,λb j=>(f2 b j).1,w0⟩
 rintro n Z ⟨i,σ3,O,Y,B,K,w3⟩
 rcases E i n σ3 O w3 with⟨stop,qn⟩|⟨go,N,hN,step⟩
 ·refine wpAny_passesOwn q (thn (T.done X rfl rfl rfl hc i pins Z σ3 O X.xe Y (c K) B stop) λr s4 L=>?_)
  obtain⟨Q,I4⟩:=L
  subst Q
  exact wpAny_execs_nil ⟨σ3,O,I4,qn⟩
 ·refine wpAny_passesOwn q (thn (T.item X rfl rfl rfl hc i pins Z σ3 O X.xe Y (c K) B go) λr s4 t=>?_)
  obtain⟨u,Q,h4⟩:=t
  subst Q
  refine wpAny_passesOwn q (thn h4 λ_ s5 F=>?_)
  obtain⟨x,H5,I5,r5,y5,p,S⟩:=F
  have R:=I5.pinned (c S) (T.obj _ _ p)
  refine wpAny_passesOwn q (thn (hg _ s5 σ3 H5 x u _ R r5 (step x H5 y5)) λ_ s6 z=>?_)
  obtain⟨σ6,H6,I6,q6⟩:=z
  refine wpAny_passesOwn q (thn (j _ s6 σ6 H6 _ I6 q6) λf U q7=>?_)
  have k:∀{σ7:St}{a:Hp},Inv X (pins++EB G s5.heap) σ7 a U->N σ7 a->∃ m,m < n/\∃ i σ' H',Inv X pins σ' H' U/\tn i U.heap/\(∀ b∈G,H' b=none)/\W i m σ' H':=λ{σ7 a}l y=>by
   obtain⟨m',hm,w7⟩:=hN σ7 a y
   refine⟨m',hm,i+1,σ7,a,l.unpinned,T.keep _ _ _ p λb j o e=>(l.pin (b,o) (YL _ (YL _ (Fl j e)))).1,λb j=>?_,w7⟩
   obtain⟨o,e,d⟩:=T.obj _ _ p b j
   exact(l.pin (b,o) (YL _ (YL _ (Fl j e)))).2.1
  cases f with
  | next=>obtain⟨σ7,a,l,y⟩:=q7;exact k l y
  | cont=>obtain⟨σ7,a,l,y⟩:=q7;exact k l y
  | brk=>obtain⟨σ7,a,l,q7⟩:=q7;exact⟨σ7,a,l.unpinned,q7⟩
  | ret v=>obtain⟨x7,σ7,a,l,r7,q7⟩:=q7;exact⟨x7,σ7,a,l.unpinned,r7,q7⟩
end
abbrev R2:=V->V->Hp->VK->Prop
def OpR(X:Cx)(f:Value->Value->Sem Value)(r:R2):Prop :=
 ∀(pins:List (Addr×Obj))(s:Shared)(σ:St)(H:Hp)(x y:V)(v u:Value)(Q:VK),Inv X pins σ H s->RelV x v->RelV y u->r x y H Q->
  wpAny (model X.prog X.w) X.A (f v u) (EP X pins σ Q) X.xe s
def UnR(X:Cx)(f:Value->Sem Value)(r:V->Hp->VK->Prop):Prop :=
 ∀(pins:List (Addr×Obj))(s:Shared)(σ:St)(H:Hp)(x:V)(v:Value)(Q:VK),Inv X pins σ H s->RelV x v->r x H Q->
  wpAny (model X.prog X.w) X.A (f v) (EP X pins σ Q) X.xe s
def CallR(X:Cx)(f:Value)(r:List V->Hp->VK->Prop):Prop :=
 ∀(pins:List (Addr×Obj))(s:Shared)(σ:St)(H:Hp)(xs:List V)(us:List Value)(Q:VK),Inv X pins σ H s->Vals xs us->r xs H Q->
  wpAny (model X.prog X.w) X.A (call f us) (EP X pins σ Q) X.xe s
def T7(X:Cx)(r:V->Hp->(Bool->Hp->Prop)->Prop):Prop :=
 ∀(pins:List (Addr×Obj))(s:Shared)(σ:St)(H:Hp)(x:V)(v:Value)(Q:Bool->Hp->Prop),Inv X pins σ H s->RelV x v->r x H Q->
  wpAny (model X.prog X.w) X.A (truthy v) (TP X pins σ Q) X.xe s
def tOp(r:R2)(ta tb:TE):TE:=λσ H Q=>ta σ H λx H1=>tb σ H1 λy H2=>r x y H2 Q
def tUn(r:V->Hp->VK->Prop)(ta:TE):TE:=λσ H Q=>ta σ H λx H1=>r x H1 Q
def rI(C:Int->Int->Prop)(g:Int->Int->V):R2:=λx y H Q=>∃ i j,x=.int i/\y=.int j/\C i j/\Q (g i j) H
def rI0(g:Int->Int->V):R2:=λx y H Q=>∃ i j,x=.int i/\y=.int j/\Q (g i j) H
def rU(g:Int->V):V->Hp->VK->Prop:=λx H Q=>∃ i,x=.int i/\Q (g i) H
section
variable {X:Cx} {a b c:Expr} {ta tb tc:TE} {pos:Pos}
variable {f:Value->Value->Sem Value}
theorem IX(j:PE X a ta)(m:PE X b tb){pins:List (Addr×Obj)}{σ:St}{R:V->V->Hp->Prop}(I:Inv X pins σ H s)
  (h:ta σ H λx H1=>tb σ H1 λy H2=>R x y H2) {Q:Value->Shared->Prop} 
  (n:∀ v u i x y H2,Inv X pins σ H2 i->RelV x v->RelV y u->R x y H2->wpAny (model X.prog X.w) X.A (f v u) Q X.xe i):
  wpAny (model X.prog X.w) X.A (eval a X.env) (λv e=>wpAny (model X.prog X.w) X.A (eval b X.env) (λu c=>wpAny (model X.prog X.w) X.A (f v u) Q X.xe c) X.xe e) X.xe s:=by
 refine thn (j pins s σ H _ I h) λv o g=>?_
 obtain⟨x,H1,l,r1,q1⟩:=g
 refine thn (m pins o σ H1 _ l q1) λu i d=>?_
 obtain⟨y,H2,p,k,q2⟩:=d
 exact n v u i x y H2 p r1 k q2
theorem T8{op:Operator}{r:R2}(e:OpR X (binaryOp op) r)(c:PE X a ta)(f:PE X b tb):PE X (.BinOp a op b pos) (tOp r ta tb):=by
 intro pins s σ H Q I h
 exact wpAny_BinOp (IX c f I h λv u j x y H2 g i d q=>e pins j σ H2 x y v u Q g i d q)
theorem T9{op:UnaryOp}{r:V->Hp->VK->Prop}(b:UnR X (unaryOp op) r)(c:PE X a ta):PE X (.UnaryOp op a pos) (tUn r ta):=by
 intro pins s σ H Q I h
 exact UnaryOp_ (thn (c pins s σ H _ I h) (by rintro v d ⟨x,H1,e,r1,q1⟩;exact b pins d σ H1 x v Q e r1 q1))
variable {g:Int->Int->Int}
theorem opI{C:Int->Int->Prop}
  (a:∀(i j:Int)(t u:Tok)(s:Shared)(Q:Value->Shared->Prop)(E:Value->Shared->Prop),C i j->Q (.int (g i j) s.toks) {s with toks:=s.toks+1}->wpAny (model X.prog X.w) X.A (f (.int i t) (.int j u)) Q E s):
  OpR X f (rI C λi j=>.int (g i j)):=by
 intro pins s σ H x y v u Q I c b h
 obtain⟨i,j,rfl,rfl,hc,q⟩:=h
 obtain⟨t,rfl⟩:=c
 obtain⟨t',rfl⟩:=b
 exact a i j t t' s _ _ hc ⟨.int (g i j),H,I.tok _,⟨_,rfl⟩,q⟩
theorem LY
  (a:∀(i j:Int)(t u:Tok)(s:Shared)(Q:Value->Shared->Prop)(E:Value->Shared->Prop),Q (.int (g i j) s.toks) {s with toks:=s.toks+1}->wpAny (model X.prog X.w) X.A (f (.int i t) (.int j u)) Q E s):
  OpR X f (rI0 λi j=>.int (g i j)):=by
 intro pins s σ H x y v u Q I c b h
 obtain⟨i,j,rfl,rfl,q⟩:=h
 obtain⟨t,rfl⟩:=c
 obtain⟨t',rfl⟩:=b
 exact a i j t t' s _ _ ⟨.int (g i j),H,I.tok _,⟨_,rfl⟩,q⟩
theorem Gd{g:Int->Int->Bool}
  (a:∀(i j:Int)(t u:Tok)(s:Shared)(Q:Value->Shared->Prop)(E:Value->Shared->Prop),Q (.bool (g i j)) s->wpAny (model X.prog X.w) X.A (f (.int i t) (.int j u)) Q E s):
  OpR X f (rI0 λi j=>.bl (g i j)):=by
 intro pins s σ H x y v u Q I c b h
 obtain⟨i,j,rfl,rfl,q⟩:=h
 obtain⟨t,rfl⟩:=c
 obtain⟨t',rfl⟩:=b
 exact a i j t t' s _ _ ⟨.bl (g i j),H,I,rfl,q⟩
theorem Ua{x y:Int}(a:0 < y)(h:y < 1267650600228229401496703205376):Builtin.divisionGoesByPylong x y=false:=by
 refine PyProof.noPylong_of_log2 ?_
 have h1:y.natAbs≠0:=by lia
 have h2:y.natAbs.log2 < 100:=(Nat.log2_lt h1).mpr (by lia)
 lia
def EC(i j:Int):Prop:=0 < j/\j < 1267650600228229401496703205376
def D2(i j:Int):Prop:=0<=j/\j<=1000000/\i.natAbs < 2 ^ 64
def CMul(i j:Int):Prop:=(-(2 ^ 64) < i/\i < 2 ^ 64)\/(-(2 ^ 64) < j/\j < 2 ^ 64)
theorem CMul.ok{i j:Int}(h:CMul i j):IntMulOk i j:=by
 rcases h with⟨h1,h2⟩|⟨h1,h2⟩
 ·exact .of_left (intBits_le_64 h1 h2)
 ·exact .of_right (intBits_le_64 h1 h2)
theorem Ub:OpR X (binaryOp .Add) (rI0 λi j=>.int (i+j)):=LY λ_ _ _ _ _ _ _ q=>add_int q
theorem LZ:OpR X (binaryOp .Mult) (rI CMul λi j=>.int (i*j)):=opI λ_ _ _ _ _ _ _ hc q=>mul_int q hc.ok
theorem Uc:OpR X (binaryOp .FloorDiv) (rI EC λi j=>.int (i / j)):=opI λi j _ _ _ _ _ hc q=>by
 have h1:(0:Int) < j:=hc.1
 have h2:j < 1267650600228229401496703205376:=hc.2
 exact floordiv_int (by lia) (by rw[Int.fdiv_eq_ediv_of_nonneg i (by lia)];exact q) (.inl (Ua h1 h2))
theorem Ud:OpR X (binaryOp .Mod) (rI (λ_ j=>0 < j) λi j=>.int (i % j)):=opI λi j _ _ _ _ _ hc q=>by
 have h1:(0:Int) < j:=hc
 exact mod_int' (by lia) (by rw[Int.fmod_eq_emod_of_nonneg i (by lia)];exact q)
theorem Ue:OpR X (binaryOp .Pow) (rI D2 λi j=>.int (i ^ j.toNat)):=opI λ_ _ _ _ _ _ _ hc q=>pow_int_small hc.1 hc.2.1 hc.2.2 q
theorem Ug:OpR X (inplaceOp .Add) (rI0 λi j=>.int (i+j)):=LY λ_ _ _ _ _ _ _ q=>iadd_int q
theorem unI{f:Value->Sem Value}{g:Int->Int}
  (a:∀(i:Int)(t:Tok)(s:Shared)(Q:Value->Shared->Prop)(E:Value->Shared->Prop),Q (.int (g i) s.toks) {s with toks:=s.toks+1}->wpAny (model X.prog X.w) X.A (f (.int i t)) Q E s):
  UnR X f (rU λi=>.int (g i)):=by
 intro pins s σ H x v Q I b h
 obtain⟨i,rfl,q⟩:=h
 obtain⟨t,rfl⟩:=b
 exact a i t s _ _ ⟨.int (g i),H,I.tok _,⟨_,rfl⟩,q⟩
theorem Uh:UnR X (unaryOp .USub) (rU λi=>.int (-i)):=unI λ_ _ _ _ _ q=>neg_int q
end
def D3:V->V->Bool
 | .non,.non=>true | .non,.int _=>true | .int _,.non=>true | .non,.bl _=>true | .bl _,.non=>true | .non,.str _=>true | .str _,.non=>true
 | .int _,.int _=>true | .bl _,.bl _=>true | .str _,.str _=>true | .byt _,.byt _=>true
 | .int _,.str _=>true | .str _,.int _=>true | .bl _,.str _=>true | .str _,.bl _=>true
 | _,_=>false
def rEq:R2:=λx y H Q=>D3 x y=true/\Q (.bl (decide (x=y))) H
def rNe:R2:=λx y H Q=>D3 x y=true/\Q (.bl (!decide (x=y))) H
theorem IY{i j:Int}:decide (V.int i=V.int j)=(i==j):=by
 rw[Bool.eq_iff_iff]
 simp
theorem IZ{i j:Bool}:decide (V.bl i=V.bl j)=(i==j):=by
 rw[Bool.eq_iff_iff]
 simp
theorem Ja{i j:Str}:decide (V.str i=V.str j)=(i==j):=by
 rw[Bool.eq_iff_iff]
 simp
theorem L0{i j:Array UInt8}:decide (V.byt i=V.byt j)=(i.toList==j.toList):=by
 rw[Bool.eq_iff_iff]
 cases i
 cases j
 simp
section
variable {X:Cx} {a b c:Expr} {ta tb tc:TE} {pos:Pos}
theorem AR{pins:List (Addr×Obj)}{σ:St}{Q:VK}{k a:Bool}(I:Inv X pins σ H s)(q:Q (.bl k) H)(e:k=a):EP X pins σ Q (.bool a) s:=by
 subst e
 exact⟨.bl k,H,I,rfl,q⟩
theorem Ui:OpR X (compareOp .Eq) rEq:=by
 intro pins s σ H x y v u Q I c a h
 obtain⟨b,q⟩:=h
 cases x with
 | non =>
  cases c
  cases y with
  | non=>cases a;exact PySem.EqNone.eq_none_none (AR I q (by simp))
  | bl j=>cases a;exact PySem.EqNone.eq_none_bool (AR I q (by simp))
  | int j=>obtain⟨t',rfl⟩:=a;exact PySem.EqNone.eq_none_int (AR I q (by simp))
  | str j=>obtain⟨t',rfl⟩:=a;exact PySem.EqNone.eq_none_str (AR I q (by simp))
  | _=>exact Qi (show false=true from b) YS
 | bl i =>
  cases c
  cases y with
  | non=>cases a;exact PySem.EqNone.eq_bool_none (AR I q (by simp))
  | bl j=>cases a;exact eq_bool (AR I q IZ)
  | str j=>obtain⟨t',rfl⟩:=a;exact PySem.EqMixed.eq_bool_str (AR I q (by simp))
  | _=>exact Qi (show false=true from b) YS
 | int i =>
  obtain⟨t,rfl⟩:=c
  cases y with
  | non=>cases a;exact PySem.EqNone.eq_int_none (AR I q (by simp))
  | int j=>obtain⟨t',rfl⟩:=a;exact eq_int (AR I q IY)
  | str j=>obtain⟨t',rfl⟩:=a;exact PySem.EqMixed.eq_int_str (AR I q (by simp))
  | _=>exact Qi (show false=true from b) YS
 | str i =>
  obtain⟨t,rfl⟩:=c
  cases y with
  | non=>cases a;exact PySem.EqNone.eq_str_none (AR I q (by simp))
  | bl j=>cases a;exact PySem.EqMixed.eq_str_bool (AR I q (by simp))
  | int j=>obtain⟨t',rfl⟩:=a;exact PySem.EqMixed.eq_str_int (AR I q (by simp))
  | str j=>obtain⟨t',rfl⟩:=a;exact eq_str (AR I q Ja)
  | _=>exact Qi (show false=true from b) YS
 | byt i =>
  obtain⟨t,rfl⟩:=c
  cases y with
  | byt j=>obtain⟨t',rfl⟩:=a;exact PySem.W.eq_bytes (AR I q L0)
  | _=>exact Qi (show false=true from b) YS
 | _=>cases y <;> exact Qi (show false=true from b) YS
theorem Uj:OpR X (compareOp .NotEq) rNe:=by
 intro pins s σ H x y v u Q I c a h
 obtain⟨b,q⟩:=h
 cases x with
 | non =>
  cases c
  cases y with
  | non=>cases a;exact PySem.EqNone.ne_none_none (AR I q (by simp))
  | bl j=>cases a;exact PySem.EqNone.ne_none_bool (AR I q (by simp))
  | int j=>obtain⟨t',rfl⟩:=a;exact PySem.EqNone.ne_none_int (AR I q (by simp))
  | str j=>obtain⟨t',rfl⟩:=a;exact PySem.EqNone.ne_none_str (AR I q (by simp))
  | _=>exact Qi (show false=true from b) YS
 | bl i =>
  cases c
  cases y with
  | non=>cases a;exact PySem.EqNone.ne_bool_none (AR I q (by simp))
  | bl j=>cases a;exact ne_bool (AR I q (Qf not IZ))
  | str j=>obtain⟨t',rfl⟩:=a;exact PySem.EqMixed.ne_bool_str (AR I q (by simp))
  | _=>exact Qi (show false=true from b) YS
 | int i =>
  obtain⟨t,rfl⟩:=c
  cases y with
  | non=>cases a;exact PySem.EqNone.ne_int_none (AR I q (by simp))
  | int j=>obtain⟨t',rfl⟩:=a;exact ne_int (AR I q (Qf not IY))
  | str j=>obtain⟨t',rfl⟩:=a;exact PySem.EqMixed.ne_int_str (AR I q (by simp))
  | _=>exact Qi (show false=true from b) YS
 | str i =>
  obtain⟨t,rfl⟩:=c
  cases y with
  | non=>cases a;exact PySem.EqNone.ne_str_none (AR I q (by simp))
  | bl j=>cases a;exact PySem.EqMixed.ne_str_bool (AR I q (by simp))
  | int j=>obtain⟨t',rfl⟩:=a;exact PySem.EqMixed.ne_str_int (AR I q (by simp))
  | str j=>obtain⟨t',rfl⟩:=a;exact ne_str (AR I q (Qf not Ja))
  | _=>exact Qi (show false=true from b) YS
 | byt i =>
  obtain⟨t,rfl⟩:=c
  cases y with
  | byt j=>obtain⟨t',rfl⟩:=a;exact PySem.W.ne_bytes (AR I q (Qf not L0))
  | _=>exact Qi (show false=true from b) YS
 | _=>cases y <;> exact Qi (show false=true from b) YS
theorem Uk:OpR X (compareOp .Lt) (rI0 λi j=>.bl (decide (i < j))):=Gd λ_ _ _ _ _ _ _ q=>lt_int q
theorem Ul:OpR X (compareOp .LtE) (rI0 λi j=>.bl (decide (i<=j))):=Gd λ_ _ _ _ _ _ _ q=>le_int q
theorem Um:OpR X (compareOp .Gt) (rI0 λi j=>.bl (decide (j < i))):=Gd λ_ _ _ _ _ _ _ q=>gt_int q
theorem L1:OpR X (compareOp .GtE) (rI0 λi j=>.bl (decide (j<=i))):=Gd λ_ _ _ _ _ _ _ q=>ge_int q
theorem Uo:OpR X (compareOp .Lt) (λx y H Q=>∃ i j,x=.str i/\y=.str j/\Q (.bl (decide (i.cps.toList < j.cps.toList))) H):=by
 intro pins s σ H x y v u Q I b a h
 obtain⟨i,j,rfl,rfl,q⟩:=h
 obtain⟨t,rfl⟩:=b
 obtain⟨t',rfl⟩:=a
 exact lt_str (AR I q rfl)
theorem Up:OpR X (compareOp .In) (λx y H Q=>∃ i j,x=.str i/\y=.str j/\Q (.bl (!(Builtin.Str.occurrences j i 0 j.length 1).isEmpty)) H):=by
 intro pins s σ H x y v u Q I b a h
 obtain⟨i,j,rfl,rfl,q⟩:=h
 obtain⟨t,rfl⟩:=b
 obtain⟨t',rfl⟩:=a
 exact in_str (AR I q rfl)
theorem Uq:OpR X (compareOp .Is) (λx y H Q=>y=.non/\Q (.bl (decide (x=.non))) H):=by
 intro pins s σ H x y v u Q I a b h
 obtain⟨rfl,q⟩:=h
 cases b
 refine is_none_gen (AR I q ?_)
 cases x <;> first
  |(cases a;rfl)
  |(obtain⟨t,rfl⟩:=a;rfl)
variable {r r':R2}
theorem OpR.or{f:Value->Value->Sem Value}(h:OpR X f r)(h':OpR X f r'):OpR X f (λx y H Q=>r x y H Q\/r' x y H Q):=by
 intro pins s σ H x y v u Q I b a q
 rcases q with q | q
 ·exact h pins s σ H x y v u Q I b a q
 ·exact h' pins s σ H x y v u Q I b a q
variable {op:CmpOp}
theorem e8(b:Expr)(h:op≠.In:=by decide)(h2:op≠.NotIn:=by decide):behindInMarks op b=false:=by
 have c:(op==CmpOp.In)=false:=by cases op <;> first | rfl | exact Qi rfl h
 have a:(op==CmpOp.NotIn)=false:=by cases op <;> first | rfl | exact Qi rfl h2
 cases b <;> simp[behindInMarks,c,a]
theorem Ur(e:OpR X (compareOp op) r)(c:PE X a ta)(f:PE X b tb)(k:behindInMarks op b=false):PE X (.Compare a [op] [b] pos) (tOp r ta tb):=by
 intro pins s σ H Q I h
 exact wpAny_Compare1 (IX c f I h λv u j x y H2 g i d q=>e pins j σ H2 x y v u Q g i d q) k
def L4(t:TE):TT:=λσ H Q=>t σ H λx H'=>∃ k,x=.bl k/\Q k H'
theorem Us(l:OpR X (compareOp op) r)(d:PE X a ta)(m:PE X b tb)(t:behindInMarks op b=false):PT X (.Compare a [op] [b] pos) (L4 (tOp r ta tb)):=by
 intro pins s σ H Q I h
 refine wpAny_isTrue_Compare1 (thn (d pins s σ H _ I h) λv o⟨x,H1,j,r1,q1⟩=>thn (m pins o σ H1 _ j q1) λu q⟨y,H2,p,g,q2⟩=>
  thn (l pins q σ H2 x y v u _ p r1 g q2) λc w⟨z,i,n,f,k,e,q3⟩=>?_) t
 subst e
 cases f
 exact wpAny_truthy_bool ⟨i,n,q3⟩
def Jb(r r':R2)(ta tb tc:TE):TE:=λσ H Q=>ta σ H λx H1=>tb σ H1 λy H2=>r x y H2 λz H3=>∃ k,z=.bl k/\
 (if k=true then tc σ H3 λw' H4=>r' y w' H4 Q else Q (.bl false) H3)
variable {op':CmpOp}
theorem Ut(E:OpR X (compareOp op) r)(f:OpR X (compareOp op') r')(p:PE X a ta)(F:PE X b tb)(hc:PE X c tc)
  (K:lastMarks [op,op'] [b,c]=false:=by with_unfolding_all rfl):PE X (.Compare a [op,op'] [b,c] pos) (Jb r r' ta tb tc):=by
 intro pins s σ H Q I h
 refine Compare_chain (thn (p pins s σ H _ I h) λv t⟨x,H1,m,r1,q1⟩=>chain_link (thn (F pins t σ H1 _ m q1) λu J⟨y,H2,o,j,q2⟩=>
  thn (E pins J σ H2 x y v u _ o r1 j q2) λd q⟨z,g,i,A,k,e,q3⟩=>?_)) K
 subst e
 cases A
 refine wpAny_truthy_bool ?_
 cases k with
 | false=>exact ite_ff ⟨.bl false,g,i,rfl,q3⟩
 | true=>exact ite_tt (chain_last (thn (hc pins q σ g _ i q3) (by rintro l n ⟨G,w,D,B,q4⟩;exact f pins n σ w y G u l Q D j B q4)))
theorem Uu(K:OpR X (compareOp op) r)(f:OpR X (compareOp op') r')(p:PE X a ta)(L:PE X b tb)(hc:PE X c tc)
  (S:lastMarks [op,op'] [b,c]=false:=by with_unfolding_all rfl):PT X (.Compare a [op,op'] [b,c] pos) (L4 (Jb r r' ta tb tc)):=by
 intro pins s σ H Q I h
 refine isTrue_chain (thn (p pins s σ H _ I h) λv t⟨x,H1,m,r1,q1⟩=>test_link (thn (L pins t σ H1 _ m q1) λu R⟨y,H2,o,j,q2⟩=>
  thn (K pins R σ H2 x y v u _ o r1 j q2) λd q⟨z,g,i,D,k,e,q3⟩=>?_)) S
 subst e
 cases D
 refine wpAny_truthy_bool ?_
 cases k with
 | false =>
  obtain⟨T,F,A⟩:=q3
  cases F
  exact ite_ff ⟨g,i,A⟩
 | true =>
  refine ite_tt (test_last (thn (hc pins q σ g _ i q3) λl n⟨N,w,G,E,q4⟩=>thn (f pins n σ w y N u l _ G j E q4) λU Y⟨z2,O,J,P,Z,B,q5⟩=>?_))
  subst B
  cases P
  exact wpAny_truthy_bool ⟨O,J,q5⟩
def Jc(K:PySem.W.Frag)(x:V)(H:Hp)(k:Bool):Prop :=
 match x with
 | .non=>k=false
 | .bl b=>k=b
 | .int i=>k=(i != 0)
 | .str y=>y.length<=sizeLine/\k=((y.length:Int) != 0)
 | .byt y=>y.size<=sizeLine/\k=((y.size:Int) != 0)
 | .ref p=>(∃ xs,SqL K H p xs/\k=!xs.isEmpty)\/(∃ xs,SqT K H p xs/\k=!xs.isEmpty)\/∃ kvs,H p=some (.dK kvs)/\k=!kvs.isEmpty
 | _=>False
theorem Uv{κ:Type}{a:List (κ×V)}{vs:List (κ×Value)}(r:KV a vs):(!vs.isEmpty)=!a.isEmpty:=by
 cases r <;> rfl
theorem L5{xs:List V}{a:List Value}(r:Vals xs a):(!a.toArray.isEmpty)=!xs.isEmpty:=by
 cases r <;> simp
theorem ED:(sizeLine:Nat) < 2 ^ 63:=by rw[sizeLine_eq];decide
theorem Uw:T7 X (λx H Q=>∃ k,Jc X.K x H k/\Q k H):=by
 intro pins s σ H x v Q I f h
 obtain⟨k,e,q⟩:=h
 have hl:=ED
 have z:sizeLine=16777216:=sizeLine_eq
 cases x with
 | non =>
  cases f
  have a:k=false:=e
  subst a
  exact truthy_none ⟨H,I,q⟩
 | bl b =>
  cases f
  have a:k=b:=e
  subst a
  exact wpAny_truthy_bool ⟨H,I,q⟩
 | int i =>
  obtain⟨t,rfl⟩:=f
  have a:k=(i != 0):=e
  subst a
  exact PySem.P.truthy_int ⟨H,I,q⟩
 | str y =>
  obtain⟨t,rfl⟩:=f
  obtain⟨u,a⟩:y.length<=sizeLine/\k=((y.length:Int) != 0):=e
  subst a
  exact PySem.P.truthy_str (by lia) ⟨H,I.tok _,q⟩
 | byt y =>
  obtain⟨t,rfl⟩:=f
  obtain⟨u,a⟩:y.size<=sizeLine/\k=((y.size:Int) != 0):=e
  subst a
  exact PySem.W.truthy_bytes (by lia) ⟨H,I.tok _,q⟩
 | ref p =>
  cases f
  have a:(∃ xs,SqL X.K H p xs/\k=!xs.isEmpty)\/(∃ xs,SqT X.K H p xs/\k=!xs.isEmpty)\/∃ c,H p=some (.dK c)/\k=!c.isEmpty:=e
  rcases a with⟨xs,g,a⟩|⟨xs,g,a⟩|⟨c,g,a⟩
  ·subst a
   obtain⟨l,r,pl,n⟩:=I.list g
   have d:=r.length
   exact wpAny_truthy_list pl.isList (by simp only[Yn];lia) ⟨H,I.tok _,by rw[L5 r];exact q⟩
  ·subst a
   obtain⟨l,r,pl,n⟩:=I.tuple g
   have d:=r.length
   exact truthy_tuple pl (by simp only[Yn];lia) ⟨H,I.tok _,by rw[L5 r];exact q⟩
  ·subst a
   obtain⟨n,o,j,r,m⟩:c.length<=sizeLine/\(p==sysModules)=false/\∃ j,KV c j/\s.heap.DictOf (IQ X.prog X.w) p j:=I.hok p _ g
   have d:c.length=j.length:=Paired.length r
   exact wpAny_truthy_dict o m (by lia) ⟨H,I.tok _,by rw[Uv r];exact q⟩
 | _=>exact(show False from e).elim
theorem Ux(c:PE X a ta)(f:∀ b,isTrue a X.env b=(do let v <- b;standAt a.pos;holding [v] (truthy v))):
  PT X a (λσ H Q=>ta σ H λx H'=>∃ k,Jc X.K x H' k/\Q k H'):=by
 intro pins s σ H Q I h
 exact isTrue_plain (thn (c pins s σ H _ I h) (by rintro v e ⟨x,H1,d,r1,q1⟩;exact Uw pins e σ H1 x v Q d r1 q1)) (f _)
theorem Uy:OpR X (binaryOp .Add) (λx y H Q=>∃ i j,x=.str i/\y=.str j/\i.length+j.length<=sizeLine/\Q (.str (i++j)) H):=by
 intro pins s σ H x y v u Q I c a h
 obtain⟨i,j,rfl,rfl,b,q⟩:=h
 obtain⟨t,rfl⟩:=c
 obtain⟨t',rfl⟩:=a
 exact add_str (λt' tk=>⟨.str (i++j),H,I.tok _,⟨_,rfl⟩,q⟩) b
theorem Uz:OpR X (inplaceOp .Add) (λx y H Q=>∃ i j,x=.str i/\y=.str j/\i.length+j.length<=sizeLine/\Q (.str (i++j)) H):=by
 intro pins s σ H x y v u Q I c a h
 obtain⟨i,j,rfl,rfl,b,q⟩:=h
 obtain⟨t,rfl⟩:=c
 obtain⟨t',rfl⟩:=a
 exact iadd_str (λt' tk=>⟨.str (i++j),H,I.tok _,⟨_,rfl⟩,q⟩) b
theorem Dq(r:Vals [x] us):∃ u,us=[u]/\RelV x u:=by
 cases r with
 | cons r1 a=>cases a;exact⟨_,rfl,r1⟩
theorem Ge{y:V}(r:Vals [x,y] us):∃ u a,us=[u,a]/\RelV x u/\RelV y a:=by
 cases r with
 | cons r1 b =>
  cases b with
  | cons c d=>cases d;exact⟨_,_,rfl,r1,c⟩
theorem UA:CallR X (.type "int") (λxs H Q=>(∃ i,xs=[.int i]/\Q (.int i) H)\/∃ k,xs=[.bl k]/\Q (.int (if k then 1 else 0)) H):=by
 intro pins s σ H xs a Q I r h
 rcases h with⟨i,rfl,q⟩|⟨k,rfl,q⟩
 ·obtain⟨u,rfl,t,rfl⟩:=Dq r
  exact call_int_int ⟨.int i,H,I,⟨_,rfl⟩,q⟩
 ·obtain⟨u,rfl,r1⟩:=Dq r
  cases r1
  exact call_int_bool ⟨.int (if k then 1 else 0),H,I.tok _,⟨_,rfl⟩,q⟩
def L6(K:PySem.W.Frag)(x:V)(H:Hp)(n:Nat):Prop :=
 match x with
 | .str y=>y.length<=sizeLine/\n=y.length
 | .byt y=>y.size<=sizeLine/\n=y.size
 | .ref p=>(∃ xs,SqL K H p xs/\n=xs.length)\/∃ xs,SqT K H p xs/\n=xs.length
 | _=>False
theorem UB:CallR X (.builtin "len") (λxs H Q=>∃ x n,xs=[x]/\L6 X.K x H n/\Q (.int n) H):=by
 intro pins s σ H xs j Q I r h
 obtain⟨x,n,rfl,e,q⟩:=h
 obtain⟨u,rfl,f⟩:=Dq r
 have hl:=ED
 have k:sizeLine=16777216:=sizeLine_eq
 cases x with
 | str y =>
  obtain⟨t,rfl⟩:=f
  obtain⟨i,b⟩:y.length<=sizeLine/\n=y.length:=e
  subst b
  exact len_str (by lia) ⟨.int _,H,I.tok _,⟨_,rfl⟩,q⟩
 | byt y =>
  obtain⟨t,rfl⟩:=f
  obtain⟨i,b⟩:y.size<=sizeLine/\n=y.size:=e
  subst b
  exact PySem.W.len_bytes (by lia) ⟨.int _,H,I.tok _,⟨_,rfl⟩,q⟩
 | ref p =>
  cases f
  have b:(∃ xs,SqL X.K H p xs/\n=xs.length)\/∃ xs,SqT X.K H p xs/\n=xs.length:=e
  rcases b with⟨xs,c,b⟩|⟨xs,c,b⟩
  ·subst b
   obtain⟨d,r',pl,g⟩:=I.list c
   have a:=r'.length
   exact Calls.call_len_list pl.isList (by simp only[Yn];lia) ⟨.int xs.length,H,I.tok _,⟨_,by simp only[Yn];rw[a]⟩,q⟩
  ·subst b
   obtain⟨d,r',pl,g⟩:=I.tuple c
   have a:=r'.length
   exact len_tuple pl (by simp only[Yn];lia) ⟨.int xs.length,H,I.tok _,⟨_,by simp only[Yn];rw[a]⟩,q⟩
 | _=>exact(show False from e).elim
end
structure ObjM(h:Heap)(x dx C:Addr)(mA:Str->Option Value):Prop where
 obj:h.get? x=some (PySem.W.instObj C dx)
 ns:h.Ns1 dx mA
 ne:dx≠x
variable {dx:Addr}{mA:Str->Option Value}
theorem UC(n:h.Ns1 dx mA):∃ c,h.get? dx=some c/\∀ name,PySem.W.lookIn name c=some (mA name):=by
 obtain⟨o,es,k,i,hd,d,_,j⟩:=n
 refine⟨o,i,λname=>?_⟩
 have e:=j name
 unfold nsFind findBy at e
 rw[<- Array.find?_toList]at e
 unfold PySem.W.lookIn
 rw[hd]
 dsimp only
 split
 ·rename_i y q
  rw[q]at e
  exact Qf some e
 ·rename_i q
  rw[q]at e
  have a:es.toList.any (·.refKey)=false:=by
   rw[List.any_eq_false]
   intro y g
   obtain⟨z,t,b⟩:=d y (Array.mem_toList_iff.mp g)
   simp[DictEntry.refKey,b]
  have f:¬ es.toList.any (·.refKey)=true:=by rw[a];exact YS
  rw[if_neg f]
  exact Qf some e
theorem ObjM.look{x C:Addr}(I:ObjM h x dx C mA):∃ a,PySem.W.InstAt h x (PySem.W.instObj C dx) C (some a)/\∀ name,PySem.W.lookIn name a=some (mA name):=
 let⟨a,ho,hl⟩:=UC I.ns
 ⟨a,⟨I.obj,rfl,rfl,ho⟩,hl⟩
section
variable {prog:Program} {w:World} {A:Around} {E:Value->Shared->Prop} {s:Shared} {K:PySem.W.Frag} {x dx C f:Addr} {mA:Str->Option Value} {name:Str} {v:Value}
theorem UD{a:Bool}{Q:Value->Shared->Prop}(X:K.In s.heap)(I:ObjM s.heap x dx C mA)(f:PySem.W.plainGet K C name=true)(e:PySem.W.hasDictIn K C=true)
  (c:PySem.W.findIn K (.ref C) name=some none) (d:mA name=some v) (b:PySem.W.handedIn v=true) (h:Q v {s with toks:=s.toks+1}):
  wpAny (model prog w) A (getAttr (.ref x) name a) Q E s:=by
 obtain⟨g,J,hl⟩:=I.look
 exact PySem.W.get_value X J (PySem.W.plainGet_of f).1 (PySem.W.findObj_own e c rfl (by rw[hl,d])) b h
theorem UE{pl:Sem Bool}{Q:Value×List Value->Shared->Prop}(X:K.In s.heap)(I:ObjM s.heap x dx C mA)(a:PySem.W.plainGet K C name=true)
  (e:PySem.W.findIn K (.ref C) name=some (some (.ref f))) (b:PySem.W.isFn K (.ref f)=true) (c:mA name=none) (h:Q (.ref f,[.ref x]) s):
  wpAny (model prog w) A (getMethod (.ref x) name pl) Q E s:=by
 obtain⟨d,J,hl⟩:=I.look
 exact PySem.W.method_fn X J (PySem.W.plainGet_of a).1 (PySem.W.plainGet_of a).2 e (beq_iff_eq.mp b) (by show(PySem.W.lookIn name d).map (·.isSome)=some false;rw[hl,c];rfl) h
theorem UF{ns:List Str}{Q:Unit->Shared->Prop}(X:K.In s.heap)(I:ObjM s.heap x dx C mA)
  (q:PySem.W.findIn K (.ref C) "__setattr__"=some (some (.builtin "object.__setattr__"))) (n:PySem.W.plainOver K C=true) (k:PySem.W.takerIn K C name=some none) (l:PySem.W.hasDictIn K C=true)
  (hw:PySem.Within mA ns) (j:ns.length<=sizeLine)
  (h:∀ h',ObjM h' x dx C (λy=>if y=name then some v else mA y)->Heap.SameBut dx s.heap h'->Q () {s with heap:=h',toks:=s.toks+2}):
  wpAny (model prog w) A (setAttr (.ref x) name v) Q E s:=by
 obtain⟨u,J,hl⟩:=I.look
 refine PySem.W.set_plain X J q (PySem.W.osa_open (s:={s with toks:=s.toks+1}) (r:=none) X J n k λb=>?_)
 obtain⟨cd,hc,f⟩:=PySem.W.any_some l
 have m:s.heap.get? x=some ⟨.ref C,some dx,.plain,#[]⟩:=I.obj
 refine Qj (Qk (Qj (Qj (wpAny_loadPart m (Qj (PySem.W.Looks.here (s:={s with toks:=s.toks+1}) (PySem.W.looks_clsIn X hc) ?_))))))
 rw[f]
 refine Qk (a:=some dx) (Qj (Qk (Qj ?_)))
 refine wpAny_nsSet1 (s:={s with toks:=s.toks+1}) I.ns λh' c d=>?_
 obtain⟨t,o,p,e,g,i⟩:=c.count (PySem.Within.cons name v hw)
 refine Qj (wpAny_lookBehind e (by rw[g];exact pastItsLine_dict (Yt i (by rw[Yg];lia))) ?_)
 exact Qk (h _ ⟨(d.2 _ (YU I.ne)).trans I.obj,c,I.ne⟩ d)
theorem UG{R:Result->Shared->Prop}{vs:List Value}{a:List (Str×Value)}(X:K.In s.heap)(c:PySem.W.makesIn K C=true)
  (hi:PySem.W.findIn K (.ref C) "__init__"=some (some (.ref f))) (b:PySem.W.typeIn K (.ref f)=some (.type "function"))
  (h:codeAny (model prog w) (A.under (.builtin "type.__call__" ⟨.ref C::vs,a⟩)) (.call (.ref f) ⟨.ref (s.heap.objs.size+1)::vs,a⟩) (PySem.W.InitBack (s.heap.objs.size+1) R)
   {s with heap:=(s.heap.push PySem.W.emptyDict).push (PySem.W.instObj C s.heap.objs.size)}):
  codeAny (model prog w) A (.call (.ref C) ⟨vs,a⟩) R s:=by
 obtain⟨e,g,d,t,os⟩:=s
 exact PySem.W.make_core (PySem.W.makes_of X c) (PySem.W.looks_findIn X hi) (λself=>PySem.W.bind_fn X self b) (.inl rfl) h
end
def putF(f:Str)(v:V):List (Str×V)->List (Str×V)
 | []=>[(f,v)]
 |(g,x)::r=>if g=f then(g,v)::r else(g,x)::putF f v r
theorem L7(f g:Str)(v:V):∀ fs:List (Str×V),(putF f v fs).lookup g=if g=f then some v else fs.lookup g
 | []=>by
  show List.lookup g [(f,v)]=_
  by_cases h:g=f
  ·have a:(g==f)=true:=beq_iff_eq.mpr h
   simp only[List.lookup,a,if_pos h]
  ·have a:(g==f)=false:=beq_eq_false_iff_ne.mpr h
   simp only[List.lookup,a,if_neg h]
 |(k,x)::r=>by
  have c:=L7 f g v r
  rw[show putF f v ((k,x)::r)=(if k=f then(k,v)::r else(k,x)::putF f v r)from rfl]
  by_cases b:k=f
  ·rw[if_pos b]
   by_cases h:g=k
   ·have a:(g==k)=true:=beq_iff_eq.mpr h
    simp only[List.lookup,a,if_pos (h.trans b)]
   ·have a:(g==k)=false:=beq_eq_false_iff_ne.mpr h
    simp only[List.lookup,a,if_neg (λe:g=f=>h (e.trans b.symm))]
  ·rw[if_neg b]
   by_cases h:g=k
   ·have a:(g==k)=true:=beq_iff_eq.mpr h
    simp only[List.lookup,a,if_neg (λe:g=f=>b (h.symm.trans e))]
   ·have a:(g==k)=false:=beq_eq_false_iff_ne.mpr h
    simp only[List.lookup,a]
    exact c
theorem Jd(f:Str)(v:V):∀ fs:List (Str×V),f∈(putF f v fs).map (·.1)/\∀ g,g∈fs.map (·.1)->g∈(putF f v fs).map (·.1)
 | []=>⟨by simp[putF],λg h=>by simp at h⟩
 |(k,x)::r=>by
  obtain⟨i1,i2⟩:=Jd f v r
  rw[show putF f v ((k,x)::r)=(if k=f then(k,v)::r else(k,x)::putF f v r)from rfl]
  by_cases a:k=f
  ·rw[if_pos a]
   subst a
   exact⟨by simp,λg h=>by simpa using h⟩
  ·rw[if_neg a]
   refine⟨?_,λg h=>?_⟩
   ·rw[Ym]
    exact Yd _ i1
   ·rw[Ym]at h ⊢
    rcases Yo.mp h with e | e
    ·exact Yo.mpr (.inl e)
    ·exact Yd _ (i2 g e)
theorem L8(f:Str)(v:V):∀ fs:List (Str×V),(putF f v fs).length<=fs.length+1
 | []=>by simp[putF]
 |(k,x)::r=>by
  have b:=L8 f v r
  rw[show putF f v ((k,x)::r)=(if k=f then(k,v)::r else(k,x)::putF f v r)from rfl]
  by_cases a:k=f
  ·rw[if_pos a,Yg,Yg];lia
  ·rw[if_neg a,Yg,Yg];lia
variable {v:V}
theorem RelO.some_of{o:Option Value}(r:RelO (some v) o):∃ u,o=some u/\RelV v u:=by
 cases o with
 | none=>exact(show False from r).elim
 | some u=>exact⟨u,rfl,r⟩
theorem RelO.none_of{o:Option Value}(r:RelO none o):o=none:=by
 cases o with
 | none=>rfl
 | some u=>exact(show False from r).elim
theorem UH(r:RelV v u):PySem.W.handedIn u=true:=by
 cases v with
 | non=>cases(show u=Value.none from r);rfl
 | bl b=>cases(show u=Value.bool b from r);rfl
 | int i=>obtain⟨t,e⟩:=(show ∃ t,u=Value.int i t from r);cases e;rfl
 | str x=>obtain⟨t,e⟩:=(show ∃ t,u=Value.str x t from r);cases e;rfl
 | byt b=>obtain⟨t,e⟩:=(show ∃ t,u=Value.bytes b t from r);cases e;rfl
 | flt b=>obtain⟨t,e⟩:=(show ∃ t,u=Value.float b t from r);cases e;rfl
 | ref a=>cases(show u=Value.ref a from r);rfl
 | ty n=>cases(show u=Value.type n from r);rfl
section
variable {P:Program} {w:World} {H H':Hp} {h h':Heap} {a C dx:Addr} {fs fs':List (Str×V)}
theorem Je(hok:HOk P w H h)(e:H a=some (.ins C dx fs)):∃ mA,ObjM h a dx C mA/\(∀ f,RelO (fs.lookup f) (mA f))/\PySem.Within mA (fs.map (·.1))/\fs.length<=1000/\H dx=some (.own a):=by
 obtain⟨d,z,ne,b,mA,n,r,q⟩:=(show ObjOk P w H h a (.ins C dx fs)from hok a _ e)
 exact⟨mA,⟨b,n,ne⟩,r,q,z,d⟩
end
structure Cls(K:PySem.W.Frag)(C:Addr):Prop where
 pg:PySem.W.plainGet K C Str.empty=true
 hd:PySem.W.hasDictIn K C=true
 po:PySem.W.plainOver K C=true
 sa:PySem.W.findIn K (.ref C) "__setattr__"=some (some (.builtin "object.__setattr__"))
theorem Cls.get{C:Addr}(c:Cls K C)(f:Str):PySem.W.plainGet K C f=true:=c.pg
def NoAttr(K:PySem.W.Frag)(C:Addr)(f:Str):Prop:=PySem.W.findIn K (.ref C) f=some none
theorem NoAttr.taker{C:Addr}{f:Str}(n:NoAttr K C f):PySem.W.takerIn K C f=some none:=by
 unfold PySem.W.takerIn
 rw[show PySem.W.findIn K (.ref C) f=some none from n]
 rfl
structure Jf(K:PySem.W.Frag)(C:Addr)(m:Str)(f:Addr):Prop where
 at_:PySem.W.findIn K (.ref C) m=some (some (.ref f))
 fn:PySem.W.isFn K (.ref f)=true
 kp:PySem.W.keepIn K (.ref f)=true
section
variable {X:Cx} {pins:List (Addr×Obj)} {σ:St} {H:Hp} {s:Shared} {a C dx:Addr} {fs:List (Str×V)} {f:Str} {v:V} {A:Around} {E:Value->Shared->Prop}
variable {Q:Value->Shared->Prop}
theorem L9{b:Bool}(I:Inv X pins σ H s)(e:H a=some (.ins C dx fs))(c:Cls X.K C)(n:NoAttr X.K C f)(l:fs.lookup f=some v)
  (h:∀ u s',Inv X pins σ H s'->RelV v u->Q u s'):wpAny (model X.prog X.w) A (getAttr (.ref a) f b) Q E s:=by
 obtain⟨mA,O,r,_,_,_⟩:=Je I.hok e
 obtain⟨u,g,d⟩:=RelO.some_of (v:=v) (o:=mA f) (by rw[<- l];exact r f)
 exact UD I.kIn O (c.get f) c.hd n g (UH d) (h u _ (I.tok _) d)
theorem Ma{m:Str}{g:Addr}{pl:Sem Bool}{Q:Value×List Value->Shared->Prop}(I:Inv X pins σ H s)(e:H a=some (.ins C dx fs))(c:Cls X.K C)(k:Jf X.K C m g)(l:fs.lookup m=none)
  (h:Q (.ref g,[.ref a]) s):wpAny (model X.prog X.w) A (getMethod (.ref a) m pl) Q E s:=by
 obtain⟨mA,O,r,_,_,_⟩:=Je I.hok e
 have b:mA m=none:=RelO.none_of (by rw[<- l];exact r m)
 exact UE I.kIn O (c.get m) k.at_ k.fn b h
theorem Mb{y:V}{Q:Unit->Shared->Prop}(I:Inv X pins σ H s)(e:H a=some (.ins C dx fs))(c:Cls X.K C)(n:NoAttr X.K C f)(hl:fs.length < 1000)(m:RelV y u)
  (h:∀ s',Inv X pins σ (upd H a (.ins C dx (putF f y fs))) s'->Q () s'):wpAny (model X.prog X.w) A (setAttr (.ref a) f u) Q E s:=by
 obtain⟨mA,O,r,j,_,i⟩:=Je I.hok e
 have l:(fs.map (·.1)).length<=sizeLine:=by rw[Yh,sizeLine_eq];lia
 refine UF I.kIn O c.sa c.po n.taker c.hd j l λh' d k=>h _ ?_
 have hd:∃ o,h'.get? dx=some o:=let⟨o,_,_,e',_⟩:=d.ns;⟨o,e'⟩
 refine I.write (x:=a) (e:=dx) (by rw[e];exact True.intro) (.inr i) (λb q p z=>(k.2 b p).trans z) hd ?_
 refine⟨by rw[AQ O.ne];exact i,?_,O.ne,d.obj,_,d.ns,λg=>?_,λg t=>?_⟩
 ·have:=L8 f y fs;lia
 ·show RelO ((putF f y fs).lookup g) (if g=f then some u else mA g)
  rw[L7]
  by_cases q:g=f
  ·rw[if_pos q,if_pos q];exact m
  ·rw[if_neg q,if_neg q];exact r g
 ·by_cases q:g=f
  ·rw[q];exact(Jd f y fs).1
  ·refine(Jd f y fs).2 g (j g λz=>t ?_)
   show(if g=f then some u else mA g)=none
   rw[if_neg q];exact z
theorem Inv.made(I:Inv X pins σ H s):Inv X pins σ (upd (upd H s.heap.objs.size (.own (s.heap.objs.size+1))) (s.heap.objs.size+1) (.ins C s.heap.objs.size []))
  {s with heap:=(s.heap.push PySem.W.emptyDict).push (PySem.W.instObj C s.heap.objs.size)}:=by
 have c:(s.heap.push PySem.W.emptyDict).get? s.heap.objs.size=some PySem.W.emptyDict:=Qn s.heap rfl
 have d:((s.heap.push PySem.W.emptyDict).push (PySem.W.instObj C s.heap.objs.size)).get? (s.heap.objs.size+1)=some (PySem.W.instObj C s.heap.objs.size):=by
  have:=Qn (s.heap.push PySem.W.emptyDict) (o:=PySem.W.instObj C s.heap.objs.size) rfl
  rwa [Qo]at this
 have h:(s.heap.push PySem.W.emptyDict).Ns s.heap.objs.size (λ_=>none):=⟨PySem.W.emptyDict,#[],_,c,rfl,(λe i=>Qi i (by simp)),λ_=>rfl⟩
 have g:=I.laid (a:=s.heap.objs.size) (o:=.own (s.heap.objs.size+1)) (h':=s.heap.push PySem.W.emptyDict) (t':=s.toks) (λb u q=>Ql _ q) (Yr _) ⟨_,c⟩
 refine g.laid (a:=s.heap.objs.size+1) (o:=.ins C s.heap.objs.size []) (t':=s.toks) (λb u q=>Ql _ q) (Nat.le_of_eq (Qo _ _)) ?_
 have ne:s.heap.objs.size≠s.heap.objs.size+1:=Ys (Nat.lt_succ_self _)
 refine⟨by rw[AQ ne,BP],YT _,ne,d,λ_=>none,(Heap.Ns1.of_empty h).at λo q=>Ql _ q,λ_=>True.intro,λy f=>Qi rfl f⟩
theorem UI{prog:Program}{env:Env}{e:Expr}{pos:Pos}(b:attributeBase e f env (eval e env)=eval e env)
  (h:wpAny (model prog w) A (eval e env) (λo a=>wpAny (model prog w) A (getAttr o f true) Q E a) E s):wpAny (model prog w) A (eval (.Attribute e f pos) env) Q E s :=
 Attribute_any_ h (by rw[arm_eval_Attribute,b])
end
def UJ(K:PySem.W.Frag)(ta:TE)(f:Str):TE:=λσ H Q=>ta σ H λx H1=>∃ a C dx fs v,x=.ref a/\H1 a=some (.ins C dx fs)/\Cls K C/\NoAttr K C f/\fs.lookup f=some v/\Q v H1
def UK(K:PySem.W.Frag)(ta tv:TE)(f:Str):TS:=λD σ H=>tv σ H λy H1=>ta σ H1 λx H2=>∃ a C dx fs,x=.ref a/\H2 a=some (.ins C dx fs)/\Cls K C/\NoAttr K C f/\fs.length < 1000/\
 D.nx σ (upd H2 a (.ins C dx (putF f y fs)))
def Mc(X:Cx)(op:Operator)(rd:V->V->Hp->VK->Prop):Prop :=
 ∀(pins:List (Addr×Obj))(s:Shared)(σ:St)(H:Hp)(x y:V)(u v:Value)(Q:VK),Inv X pins σ H s->RelV x u->RelV y v->rd x y H Q->wpAny (model X.prog X.w) X.A (inplaceOp op u v) (EP X pins σ Q) X.xe s
def UL(K:PySem.W.Frag)(ta tv:TE)(rd:V->V->Hp->VK->Prop)(f:Str):TS:=λD σ H=>ta σ H λx H1=>∃ a C dx fs v,x=.ref a/\H1 a=some (.ins C dx fs)/\Cls K C/\NoAttr K C f/\fs.lookup f=some v/\
 tv σ H1 λy H2=>rd v y H2 λz H3=>∃ dx' fs',H3 a=some (.ins C dx' fs')/\fs'.length < 1000/\D.nx σ (upd H3 a (.ins C dx' (putF f z fs')))
section
variable {X:Cx} {o e value:Expr} {f:Str} {pos pos' tpos:Pos} {ta tv:TE}
theorem UM(o:PE X e ta)(j:attributeBase e f X.env (eval e X.env)=eval e X.env):PE X (.Attribute e f pos) (UJ X.K ta f):=by
 intro pins s σ H Q I h
 refine UI j (thn (o pins s σ H _ I h) λu r b=>?_)
 obtain⟨x,H1,i,m,a,C,dx,fs,v,ex,d,c,n,l,q⟩:=b
 subst ex
 obtain rfl:u=Value.ref a:=m
 exact L9 i d c n l λp t k g=>⟨v,H1,k,g,q⟩
theorem UN(b:PE X o ta)(g:PE X value tv)(p:swapsWith value (some (.Attribute o f pos')) pos.line X.env=pure false):PS X (.Assign [.Attribute o f pos'] value pos) (UK X.K ta tv f):=by
 intro pins s σ H D I h
 refine plainObj_wpAny_Assign_Attribute (thn (g pins s σ H _ I h) λu m⟨y,H1,j,e,q⟩=>thn (b pins m σ H1 _ j q) λi w⟨x,H2,r,t,a,C,dx,fs,ex,d,c,n,l,q2⟩=>?_) p
 subst ex
 obtain rfl:i=Value.ref a:=t
 exact Mb r d c n l e λv k=>⟨σ,_,k,q2⟩
theorem UO{op:Operator}{e:V->V->Hp->VK->Prop}(r:PE X o ta)(i:PE X value tv)(hop:Mc X op e):PS X (.AugAssign (.Attribute o f tpos) op value pos) (UL X.K ta tv e f):=by
 intro pins s σ H D I h
 refine wpAny_AugAssign_AttributeAny (thn (r pins s σ H _ I h) λj S b=>?_)
 obtain⟨x,H1,k,E,a,C,dx,fs,v,ex,F,c,n,l,q⟩:=b
 subst ex
 obtain rfl:j=Value.ref a:=E
 refine L9 k F c n l λu O p w=>thn (i pins O σ H1 _ p q) λA t⟨y,H2,m,g,q3⟩=>thn (hop pins t σ H2 v y u A _ m w g q3) ?_
 rintro R Q ⟨z,P,G,B,N,fs',d,J,q4⟩
 exact Mb G d c n J B λT L=>⟨σ,_,L,q4⟩
def Cn:V->V->Hp->VK->Prop:=λx y H Q=>∃ i j,x=.int i/\y=.int j/\Q (.int (i+j)) H
theorem UP:Mc X .Add Cn:=by
 rintro pins s σ H x y u v Q I b a ⟨i,j,rfl,rfl,q⟩
 obtain⟨t,rfl⟩:=(show ∃ t,u=Value.int i t from b)
 obtain⟨t',rfl⟩:=(show ∃ t',v=Value.int j t' from a)
 exact PyProof.Rows.iadd_int ⟨.int (i+j),H,I.tok _,⟨_,rfl⟩,q⟩
end
section
variable {X:Cx} {pins:List (Addr×Obj)} {σ:St} {H:Hp} {s:Shared} {A:Around} {E:Value->Shared->Prop} {Q:Value->Shared->Prop} {c:Value} {b:Bool}
end
structure Room(k:Nat)(A:Around):Prop where
 hd:A.handled=none
 dp:A.depth+3*k+5 < recursionLimit
 un:A.units+16*k+200 < cLine
variable {j k:Nat}
theorem Room.mono(r:Room k A)(h:j<=k):Room j A:=⟨r.hd,by have:=r.dp;lia,by have:=r.un;lia⟩
theorem Room.deeper(r:Room (k+1) A)(env:Env):Room k (A.deeper env):=
 ⟨r.hd,by have:=r.dp;show A.depth+1+3*k+5 < _;lia,by have:=r.un;show A.units+3+16*k+200 < _;lia⟩
theorem Room.in1(r:Room (k+1) A):Room k A.in1 :=
 ⟨r.hd,by have:=r.dp;show A.depth+3*k+5 < _;lia,by have:=r.un;show A.units+1+16*k+200 < _;lia⟩
theorem UQ{C:Addr}{a:List (Str×Value)}:(A.under (.builtin "type.__call__" ⟨.ref C::us,a⟩)).depth=A.depth+1:=by
 first | rfl | simp[Around.under,Code.weight,Code.isCreation,Code.isGuard,Code.isCaller,Code.frames,Code.isFrame,guardIds]
theorem UR{C:Addr}{a:List (Str×Value)}:(A.under (.builtin "type.__call__" ⟨.ref C::us,a⟩)).units=A.units+1:=by
 first | rfl | simp[Around.under,Code.cUnits,Code.frames,Code.isFrame]
theorem Room.make(r:Room (k+1) A)(C:Addr)(us:List Value)(a:List (Str×Value)):Room k (A.under (.builtin "type.__call__" ⟨.ref C::us,a⟩)):=
 ⟨r.hd,by have:=r.dp;rw[UQ];lia,by have:=r.un;rw[UR];lia⟩
theorem Room.depth(r:Room k A):A.depth < recursionLimit:=by have:=r.dp;lia
theorem Room.units(r:Room k A):A.units+64 < cLine:=by have:=r.un;lia
def Gf:TA:=λ_ H Q=>Q [] H
def EE(ta:TE)(tr:TA):TA:=λσ H Q=>ta σ H λx H1=>tr σ H1 λxs H2=>Q (x::xs) H2
section
variable {X:Cx} {e:Expr} {es:List Expr} {te:TE} {t:TA} {pos:Pos}
theorem Gg:PA X [] Gf:=λ_ _ _ _ H Q I h=>Calls.spliced_nil ⟨[],H,I,.nil,h⟩
theorem EF(b:PE X e te)(d:PA X es t)(i:starEach (e::es) X.env=(false,eval e X.env)::starEach es X.env:=by rfl):PA X (e::es) (EE te t):=by
 intro pos pins s σ H Q I h
 rw[i]
 show wpAny _ _ (spliced ((false,eval e X.env)::backTo pos (starEach es X.env))) _ _ s
 refine Calls.spliced_cons (thn (b pins s σ H _ I h) λu g a=>?_)
 obtain⟨x,H1,f,r1,q1⟩:=a
 exact thn (d pos pins g σ H1 _ f q1) (by rintro k l ⟨xs,H2,j,c,q2⟩;exact⟨x::xs,H2,j,.cons r1 c,q2⟩)
def US(t:TA):TE:=λσ H Q=>t σ H λxs H1=>xs.length<=sizeLine/\∀ p,H1 p=none->Q (.ref p) (upd H1 p (.tup xs))
def UT(t:TA):TE:=λσ H Q=>t σ H λxs H1=>xs.length<=sizeLine/\∀ p,H1 p=none->Q (.ref p) (upd H1 p (.lst xs))
theorem UU{x1}(h:PA X es t):PE X (.Tuple es x1 pos) (US t):=by
 intro pins s σ H Q I f
 refine wpAny_Tuple_spliced (thn (h pos pins s σ H _ I f) λd a⟨xs,H1,c,r,z,q⟩=>⟨by rw[<- r.length];exact z,?_⟩)
 have g:H1 a.heap.objs.size=none:=c.hok.fresh (Yr _)
 refine⟨.ref a.heap.objs.size,upd H1 a.heap.objs.size (.tup xs),c.laid (t':=a.toks) (λb u e=>Ql _ e) (Yr _) ?_,rfl,q _ g⟩
 exact⟨z,d,r,⟨_,Qn _ rfl,rfl,rfl,_,rfl⟩⟩
theorem UV(h:PA X es t):PE X (.List es pos) (UT t):=by
 intro pins s σ H Q I f
 refine wpAny_List_spliced (thn (h pos pins s σ H _ I f) λd a⟨xs,H1,c,r,z,q⟩=>⟨by rw[<- r.length];exact z,?_⟩)
 have g:H1 a.heap.objs.size=none:=c.hok.fresh (Yr _)
 refine⟨.ref a.heap.objs.size,upd H1 a.heap.objs.size (.lst xs),c.laid (t':=a.toks) (λb u e=>Ql _ e) (Yr _) ?_,rfl,q _ g⟩
 exact⟨z,d,0,r,Qn _ rfl⟩
end
abbrev Sp:=List V->Hp->VK->XK->Prop
abbrev CXT:=List Env->Hp->Shared->XK->Value->Shared->Prop
structure Env0(P:Program)(w:World)(K:PySem.W.Frag)(mg:Str->Option Value)(base:Heap)(A:Around)(outer:List Env)(s:Shared)(H:Hp):Prop where
 frames:A.frames=some outer
 mod:Mod K mg base
 bs:∀ b o,base.get? b=some o->s.heap.get? b=some o/\H b=none
 bsz:base.objs.size<=s.heap.objs.size
 funs:s.heap.FunFrames base outer
 frf:∀ b∈frs outer,H b=none
 hok:HOk P w H s.heap
 bare:AllBare s.gens
def CE(outer:List Env)(P:Program)(w:World)(H:Hp)(s:Shared)(Q:VK)(u:Value)(s':Shared):Prop :=
 ∃ v H',s'.os=s.os/\AllBare s'.gens/\Un (frs outer) [] H H' s.heap s'.heap/\HOk P w H' s'.heap/\RelV v u/\Q v H'
def CR(CX:CXT)(outer:List Env)(P:Program)(w:World)(H:Hp)(s:Shared)(Q:VK)(E:XK)(r:Result)(s':Shared):Prop :=
 match r with
 | .ok (.ret u)=>CE outer P w H s Q u s'
 | .ok _=>False
 | .error e=>CX outer H s E e s'
structure FnOk(P:Program)(w:World)(K:PySem.W.Frag)(mg:Str->Option Value)(base:Heap)(CX:CXT)(k:Nat)(f:Addr)(fd:FuncData)(ps:List Str)(sp:Sp):Prop where
 len:∀ vs H Q E,sp vs H Q E->vs.length=ps.length
 run:∀(A:Around)(outer:List Env)(s:Shared)(H:Hp)(args:Args)(us:List Value)(vs:List V)(Q:VK)(E:XK),Room k A->Env0 P w K mg base A outer s H->BindsTo s fd args (ps.zip us)->Vals vs us->sp vs H Q E->
  codeAny (model P w) A (.call (.ref f) args) (CR CX outer P w H s Q E) s
variable {mg:Str->Option Value}{base:Heap}{CX:CXT}{f:Addr}{fd:FuncData}{ps:List Str}{sp:Sp}
theorem FnOk.mono(F:FnOk P w K mg base CX j f fd ps sp)(h:j<=k):
  FnOk P w K mg base CX k f fd ps sp:=⟨F.len,λA outer s H a b c Q E d=>F.run A outer s H a b c Q E (d.mono h)⟩
theorem FnOk.imp{b:Sp}(F:FnOk P w K mg base CX k f fd ps sp)
  (h:∀ vs H Q E,b vs H Q E->sp vs H Q E):FnOk P w K mg base CX k f fd ps b :=
 ⟨λvs H Q E q=>F.len vs H Q E (h _ _ _ _ q),λA outer s H a c vs Q E e j g d i=>F.run A outer s H a c vs Q E e j g d (h _ _ _ _ i)⟩
variable {outer:List Env}
theorem Env0.make(e:Env0 P w K mg base A outer s H)(C:Addr)(us:List Value)(a:List (Str×Value)):
  Env0 P w K mg base (A.under (.builtin "type.__call__" ⟨.ref C::us,a⟩)) outer s H:=⟨by first | exact e.frames |(simpa[Around.under,Code.envs,Code.isFrame,pushEnvs]using e.frames),e.mod,e.bs,e.bsz,e.funs,e.frf,e.hok,e.bare⟩
theorem Env0.in1(e:Env0 P w K mg base A outer s H):
  Env0 P w K mg base A.in1 outer s H:=⟨e.frames,e.mod,e.bs,e.bsz,e.funs,e.frf,e.hok,e.bare⟩
section
variable {X:Cx} {pins:List (Addr×Obj)} {σ:St} {H:Hp} {s s':Shared}
theorem Inv.env0(I:Inv X pins σ H s):Env0 X.prog X.w X.K X.mg X.base X.A X.stack s H :=
 ⟨I.ok.frames,I.ok.mod,I.bs,Yt I.ok.bsz I.sz,I.stack,I.stkFree,I.hok,I.bare⟩
theorem Inv.after{Q:VK}(I:Inv X pins σ H s)(h:CE X.stack X.prog X.w H s Q u s'):EP X pins σ Q u s':=by
 obtain⟨v,H',os,bare,un,hok,r,q⟩:=h
 obtain⟨c,g,d,t,a⟩:=s'
 obtain rfl:a=s.os:=os
 exact⟨v,H',I.call (h':=c) (g':=g) (d':=d) (t':=t) (ch:=[]) un hok bare (λb z=>Qi z (by simp)),r,q⟩
end
def UW(sp:Sp)(dvs:List V)(E:XK)(t:TA):TE:=λσ H Q=>t σ H λvs H1=>sp (vs++dvs) H1 Q E
def Binds(K:PySem.W.Frag)(fd:FuncData)(ps:List Str)(ds:List Value):Prop :=
 ∀(s:Shared)(us:List Value),K.In s.heap->(us++ds).length=ps.length->BindsTo s fd ⟨us,[]⟩ (ps.zip (us++ds))
theorem Binds.all(h:∀ us:List Value,us.length=ps.length->bindArgs fd ⟨us,[]⟩=pure (ps.zip us)):Binds K fd ps []:=λs us _ hl=>by
 rw[Yx]at hl ⊢
 exact .of_eq (h us hl)
def UX(CX:CXT)(X:Cx)(E:XK):Prop:=∀(pins:List (Addr×Obj))(σ:St)(H:Hp)(s:Shared)(e:Value)(s':Shared),Inv X pins σ H s->CX X.stack H s E e s'->X.xe e s'
section
variable {X:Cx} {CX:CXT} {k:Nat} {f C:Addr} {fd:FuncData} {ps:List Str} {sp:Sp} {dvs:List V} {ds:List Value} {E:XK} {x m:Str} {p pos apos:Pos} {e o:Expr} {es:List Expr} {ta:TE} {t:TA}
structure Mk(K:PySem.W.Frag)(C f:Addr):Prop where
 makes:PySem.W.makesIn K C=true
 init:PySem.W.findIn K (.ref C) "__init__"=some (some (.ref f))
 fn:PySem.W.isFn K (.ref f)=true
 kp:PySem.W.keepIn K (.ref C)=true
end
section
variable {X:Cx} {CX:CXT} {k:Nat} {f C:Addr} {fd:FuncData} {ps ks:List Str} {sp:Sp} {E:XK} {x m:Str} {p pos apos kpos:Pos} {e o:Expr} {es:List Expr} {kws:List Keyword} {te ta:TE} {t tk:TA} {nm:Option Str}
variable {g:List Value->List Value->List Value} {gV:List V->List V->List V}
end
structure Ay(N P:List Str)(sc:Scope):Prop where
 kind:sc.kind=.function
 co:sc.isCoroutine=false
 gen:sc.isGenerator=false
 nd:N.Nodup
 pre:N.take P.length=P
 par:∀ x∈P,sc.names.lookup x=some .local\/sc.names.lookup x=some .cell
 nofree:∀ y∈sc.names,y.2≠.free
theorem Me{kindOf:Str->Option NameKind}{x:Str}:∀{binds:List (Str×Value)}{m:Str->Option Value},(∀ v,(x,v)∉binds)->bindL kindOf binds m x=m x
 | [],_,_=>rfl
 |(n,v)::r,m,h=>by
  unfold bindL
  rw[Me λw hw=>h w (Yd _ hw)]
  split
  ·have:x≠n:=by rintro rfl;exact h v Ye
   simp[this]
  ·rfl
theorem Mf{kindOf:Str->Option NameKind}{x:Str}:∀{binds:List (Str×Value)}{m:Str->Option Value},(∀ v,(x,v)∉binds)->bindC kindOf binds m x=m x
 | [],_,_=>rfl
 |(n,v)::r,m,h=>by
  unfold bindC
  rw[Mf λw hw=>h w (Yd _ hw)]
  split
  ·rfl
  ·have:x≠n:=by rintro rfl;exact h v Ye
   simp[this]
theorem Mg{kindOf:Str->Option NameKind}{x:Str}{v:Value}:∀{P:List Str}{vs:List Value}{i:Nat}{m:Str->Option Value},P.Nodup->P[i]?=some x->vs[i]?=some v->kindOf x=some .local->
  bindL kindOf (P.zip vs) m x=some v
 | [],_,_,_,_,h,_,_=>by simp at h
 | _::_,[],_,_,_,_,h,_=>by simp at h
 | p::P,w::vs,0,m,nd,h1,h2,a=>by
  simp at h1 h2;subst h1;subst h2
  show bindL kindOf ((p,w)::P.zip vs) m p=_
  unfold bindL
  rw[Me λv b=>(List.nodup_cons.mp nd).1 (List.of_mem_zip b).1,if_pos a]
  simp
 | p::P,w::vs,i+1,m,nd,h1,h2,a=>by
  show bindL kindOf ((p,w)::P.zip vs) m x=_
  unfold bindL
  exact Mg (i:=i) (List.nodup_cons.mp nd).2 (by simpa using h1) (by simpa using h2) a
theorem Mh{kindOf:Str->Option NameKind}{x:Str}{v:Value}:∀{P:List Str}{vs:List Value}{i:Nat}{m:Str->Option Value},P.Nodup->P[i]?=some x->vs[i]?=some v->kindOf x≠some .local->
  bindC kindOf (P.zip vs) m x=some v
 | [],_,_,_,_,h,_,_=>by simp at h
 | _::_,[],_,_,_,_,h,_=>by simp at h
 | p::P,w::vs,0,m,nd,h1,h2,a=>by
  simp at h1 h2;subst h1;subst h2
  show bindC kindOf ((p,w)::P.zip vs) m p=_
  unfold bindC
  rw[Mf λv b=>(List.nodup_cons.mp nd).1 (List.of_mem_zip b).1,if_neg a]
  simp
 | p::P,w::vs,i+1,m,nd,h1,h2,a=>by
  show bindC kindOf ((p,w)::P.zip vs) m x=_
  unfold bindC
  exact Mh (i:=i) (List.nodup_cons.mp nd).2 (by simpa using h1) (by simpa using h2) a
def BQ(N:List Str)(vs:List V):St:=vs.map some++List.replicate (N.length - vs.length) none
def A6(CX:CXT)(P:Program)(w:World)(K:PySem.W.Frag)(mg:Str->Option Value)(base:Heap)(N:List Str)(qual:Str)(scope:Scope)(f:Addr)(cd:Value)(A:Around)(outer:List Env)(s:Shared)(H:Hp)(E:XK):Cx where
 prog:=P
 w:=w
 K:=K
 mg:=mg
 base:=base
 A:=A.deeper (envOfC qual scope s.heap.objs.size f cd)
 N:=N
 s₀:=s
 H₀:=H
 env:=envOfC qual scope s.heap.objs.size f cd
 outer:=outer
 stack:=envOfC qual scope s.heap.objs.size f cd::outer
 ex:=[]
 calm:=true
 fn:=λ_=>true
 pn:=[]
 xe:=λe s'=>wpAny (model P w) (A.deeper (envOfC qual scope s.heap.objs.size f cd)) (leaving (envOfC qual scope s.heap.objs.size f cd) e) (λ_ s''=>CX outer H s E e s'') (λe' s''=>CX outer H s E e' s'') s'
theorem Jg{a:Scope}{n:Nat}{x:Str}(h:a.names.lookup x=some .cell):∃ c,(cellsFrom n a.names []).lookup x=some c:=by
 have q:=PySem.W.cellsFrom_some a.names n [] (.inl h)
 exact Option.isSome_iff_exists.mp q
variable {N:List Str}{qual:Str}{scope:Scope}
theorem Mi{cd:Value}{B:Shared}{E:XK}{vs:List V}
  (S:Ay N ps scope) (hd:A.handled=none) (d:Env0 P w K mg base A outer s H) (hl:vs.length=ps.length) (r:Vals vs us)
  (x:InCallC s s.heap.objs.size (bindL (envOfC qual scope s.heap.objs.size f cd).kindOf (ps.zip us) λ_=>none) (cellsFrom (s.heap.objs.size+1) scope.names []) (bindC (envOfC qual scope s.heap.objs.size f cd).kindOf (ps.zip us) λ_=>none) B):
  Inv (A6 CX P w K mg base N qual scope f cd A outer s H E) [] (BQ N vs) H B:=by
 have F:ps.length<=N.length:=by have:=Qf List.length S.pre;rw[List.length_take]at this;lia
 obtain⟨h1,tk,rfl,o⟩:=x.done
 have g:∀ b:Addr,b∉(A6 CX P w K mg base N qual scope f cd A outer s H E).ex:=λb z=>Qi (show b∈([]:List Addr)from z) (by simp)
 refine⟨⟨d.mod,S.kind,rfl,rfl,Yr _,λy z c h1 h2=>?_,λy j=>?_,λy c _ h=>?_,λ_=>hd,Around.frames_deeper d.frames,.inr ⟨rfl,rfl⟩,λb z=>Qi z (g b),d.bs,d.bsz,λb _ _=>g b,λb z=>Qi z (g b),d.funs,d.frf⟩,
  rfl,d.bare,Un.kept o,⟨_,x.toInCall.ns,λi y v h1 h2 I=>?_⟩,λy c h=>⟨_,x.cell y c h⟩,d.hok.fresh (Yr _),λy c h=>?_,λp m=>Qi (show p∈([]:List (Addr×Obj))from m) (by simp),d.hok.kept o,?_⟩
 ·exact name_of_addr x.apart (PySem.mem_of_lookup h1) (PySem.mem_of_lookup h2)
 ·have j:scope.names.lookup y=some .cell\/scope.names.lookup y=some .free:=j
  rcases j with j | j
  ·exact Jg j
  ·exact Qi rfl (S.nofree _ (PySem.mem_of_lookup j))
 ·exact Nat.le_of_lt (x.above y c (PySem.mem_of_lookup h))
 ·have hi:i < vs.length:=by
   unfold BQ at h2
   by_cases hi:i < vs.length
   ·exact hi
   ·rw[List.getElem?_append_right (by simpa using hi)]at h2
    rw[List.getElem?_replicate]at h2
    split at h2 <;> cases h2
  have D:vs[i]?=some v:=by
   unfold BQ at h2
   rw[YI (by simpa using hi),YN]at h2
   cases e:vs[i]? with
   | none=>rw[e]at h2;cases h2
   | some a=>rw[e]at h2;cases h2;rfl
  obtain⟨u,t,G⟩:=r.get D
  have m:ps[i]?=some y:=by
   rw[<- S.pre,List.getElem?_take_of_lt (by lia)];exact h1
  have l:ps.Nodup:=by rw[<- S.pre];exact S.nd.sublist (List.take_sublist _ _)
  refine⟨u,G,?_⟩
  rcases S.par y (List.mem_of_getElem? m)with k | k
  ·exact .inl ⟨k,Mg l m t k⟩
  ·obtain⟨c,e⟩:=Jg (n:=s.heap.objs.size+1) k
   refine .inr ⟨.inl k,c,e,?_⟩
   have q:=x.cell y c e
   rw[Mh l m t (by show scope.names.lookup y≠_;rw[k];decide)]at q
   exact q
 ·exact d.hok.fresh (Nat.le_of_lt (x.above y c (PySem.mem_of_lookup h)))
 ·unfold BQ
  show _=N.length
  rw[Yj,Yh,List.length_replicate]
  lia
theorem EG{name:Str}{params:Arguments}{body:List Stmt}{D kV g pm cdv ct U:Value}{L od:Option Addr}
  {m:Array (Option Value)}   (O:K.lookup f=some ⟨U,od,.func (PySem.W.fnOf name qual params body scope D kV g pm L cdv ct),m⟩) (B:PySem.W.codeIn K cdv qual=true) (S:Ay N ps scope)
  (len:∀ vs H Q E,sp vs H Q E->vs.length=ps.length)
  (c:∀(A:Around)(outer:List Env)(s:Shared)(H:Hp)(vs:List V)(Q:VK)(E:XK),Room k (A.deeper (envOfC qual scope s.heap.objs.size f cdv))->sp vs H Q E->
   ∃ t,PSs (A6 CX P w K mg base N qual scope f cdv A outer s H E) body t/\t {nx:=λ_ H'=>Q .non H',rt:=Q} (BQ N vs) H):
  FnOk P w K mg base CX (k+1) f (PySem.W.fnOf name qual params body scope D kV g pm L cdv ct) ps sp:=by
 refine⟨len,λA outer s H G X vs Q E p h hb r i=>?_⟩
 have hl:=len _ _ _ _ i
 have KX:K.In s.heap:=h.mod.kin.keeps λb o e=>(h.bs b o e).1
 have z:s.heap.NoLimit:=h.mod.nolimit.keeps λb o e=>(h.bs b o e).1
 have a:∀ y∈ps.zip X,scope.names.lookup y.1=some .local\/(scope.names.lookup y.1=some .cell/\((cellsFrom (s.heap.objs.size+1) scope.names []).lookup y.1).isSome=true):=by
  rintro⟨n,v⟩ T
  rcases S.par n (List.of_mem_zip T).1 with q | q
  ·exact .inl q
  ·exact .inr ⟨q,PySem.W.cellsFrom_some _ _ _ (.inl q)⟩
 refine codeAny_call_function p.depth (KX _ _ O) rfl S.co S.gen rfl (PySem.W.codeRec_of KX B) (hb _ _ _ _ ?_)
 refine wpAny_newFunctionEnv_cells S.kind a λenv he F x=>?_
 subst he
 refine⟨z.keeps x.toInCall.keep,codeAny_func ?_⟩
 obtain⟨t,Z,R⟩:=c A outer s H vs Q E (p.deeper _) i
 have I:Inv (A6 CX P w K mg base N qual scope f cdv A outer s H E) [] (BQ N vs) H F:=Mi S p.hd h hl r x
 refine wpAny_mono (Z [] F (BQ N vs) H _ I R) (λY s' d=>?_) λe s' d=>d
 have j:∀{σ':St}{H':Hp}{v:V}{u:Value},Inv (A6 CX P w K mg base N qual scope f cdv A outer s H E) [] σ' H' s'->RelV v u->Q v H'->CE outer P w H s Q u s' :=
  λ{σ' H' v u}J l q=>⟨v,H',J.os,J.bare,J.base,J.hok,l,q⟩
 cases Y with
 | ret u =>
  obtain⟨v,σ',H',J,l,q⟩:=d
  exact j J l q
 | next =>
  obtain⟨σ',H',J,q⟩:=d
  exact j (v:=V.non) (u:=Value.none) J rfl q
 | brk =>
  obtain⟨_,_,_,q⟩:=d
  exact Qd q
 | cont =>
  obtain⟨_,_,_,q⟩:=d
  exact Qd q
section
variable {X:Cx} {x:Str} {p pos:Pos} {e:Expr} {es:List Expr} {t:TA} {id T:String} {r:List V->Hp->VK->Prop}
def tCB(r:List V->Hp->VK->Prop)(t:TA):TE:=λσ H Q=>t σ H λvs H1=>r vs H1 Q
theorem UY(hc:CallR X (.builtin id) r)(j:Gl X x)(k:X.mg x=none)(f:bootBuiltins x=some (.builtin id))(d:PA X (e::es) t)(i:x≠"__name__":=by decide)(a:(x==("__debug__":Str))=false:=by decide)
  (n:starEach (e::es) X.env=(false,eval e X.env)::starEach es X.env:=by rfl) (b:(backTo pos (starEach es X.env)).any (·.1)=false:=by rfl):PE X (.Call (.Name x p) (e::es) [] pos) (tCB r t):=by
 intro pins s σ H Q I h
 refine wpAny_Call_Name_kw (D1 I j k f ?_ i a)
 exact PyProof.Rows.callWith_builtin1 (thn (d pos pins s σ H _ I h) (by rintro c l ⟨m,H1,g,r1,q1⟩;exact hc pins l σ H1 m c Q g r1 q1)) n b
theorem UZ(hc:CallR X (.type T) r)(j:Gl X x)(k:X.mg x=none)(f:bootBuiltins x=some (.type T))(d:PA X (e::es) t)(i:x≠"__name__":=by decide)(a:(x==("__debug__":Str))=false:=by decide)
  (n:starEach (e::es) X.env=(false,eval e X.env)::starEach es X.env:=by rfl) (b:(backTo pos (starEach es X.env)).any (·.1)=false:=by rfl):PE X (.Call (.Name x p) (e::es) [] pos) (tCB r t):=by
 intro pins s σ H Q I h
 refine wpAny_Call_Name_kw (D1 I j k f ?_ i a)
 exact Qb (thn (d pos pins s σ H _ I h) (by rintro c l ⟨m,H1,g,r1,q1⟩;exact hc pins l σ H1 m c Q g r1 q1)) n b
end
end L2
namespace HT
open PySem PyProof.Rows
section
open PySem.SeqAt
open PySem.AutoSeq1 (wpAny_loadPart')
open PySem.MeetsSeq PySem.MeetsSeq2 PySem.MeetsSeq3
end
section
variable {prog:Program} {w:World} {A:Around} {E:Value->Shared->Prop} {s:Shared}
variable {t:Addr}{Q:Value->Shared->Prop}
theorem cat_tup{b:Addr}{vs a:List Value}(r:IsTup s.heap t vs.toArray)(u:IsTup s.heap b a.toArray)(m:vs≠[])
  (h1:a=[]->Q (.ref t) s) (h2:a≠[]->Q (.ref s.heap.objs.size) {s with heap:=s.heap.push {cls:=.type "tuple",data:=.seq (vs++a).toArray}})
  (j:vs.length+a.length<=sizeLine):wpAny (model prog w) A (binaryOp .Add (.ref t) (.ref b)) Q E s:=by
 obtain⟨⟨cls,o,data,l⟩,i,hc,n,hd⟩:=id r
 obtain⟨⟨q,g,k,f⟩,c,h,p,d⟩:=id u
 simp only at hc hd h d
 subst hc hd h d
 have e:vs.toArray++a.toArray=(vs++a).toArray:=by simp
 by_cases hw:a=[]
 ·exact concat_meets ⟨_,i,rfl⟩ ⟨_,c,rfl⟩ noFill_tuple_add seq_tuple_add PySem.F.slot_tuple_add PySem.F.entry_tuple_add (PySem.F.args_tuple_add_2 _ _)
   (tuple_addW1 t b vs.toArray a.toArray n p o g l f (by simpa using m) (by simp[hw])) ⟨i,c,h1 hw⟩
 ·refine concat_meets ⟨_,i,rfl⟩ ⟨_,c,rfl⟩ noFill_tuple_add seq_tuple_add PySem.F.slot_tuple_add PySem.F.entry_tuple_add (PySem.F.args_tuple_add_2 _ _)
   (tuple_addW2 t b vs.toArray a.toArray n p o g l f (by simpa using m) (by simpa using hw) (by rw[Yn,Yn];exact j)) ⟨i,c,?_⟩
  rw[e]
  exact h2 hw
def sIx(n d:Nat):Option Int->Nat
 | none=>d
 | some v=>if v < 0 then(v+(n:Int)).toNat else min v.toNat n
theorem sIx_none(n d:Nat):sIx n d none=d:=rfl
theorem sIx_nat(n d k:Nat):sIx n d (some (k:Int))=min k n:=by
 show(if(k:Int) < 0 then((k:Int)+(n:Int)).toNat else min (k:Int).toNat n)=min k n
 rw[if_neg (by lia),Int.toNat_natCast]
theorem U0(n d:Nat)(hd:d<=n)(o:Option Int):sIx n d o<=n:=by
 cases o with
 | none=>exact hd
 | some v =>
  show(if v < 0 then(v+(n:Int)).toNat else min v.toNat n)<=n
  by_cases a:v < 0
  ·rw[if_pos a];lia
  ·rw[if_neg a];exact Nat.min_le_right _ _
theorem Mj(v:Int)(n d:Nat):(if v < 0 then max (v+(n:Int)) 0 else min v (n:Int))=((sIx n d (some v):Nat):Int):=by
 show(if v < 0 then max (v+(n:Int)) 0 else min v (n:Int))=(((if v < 0 then(v+(n:Int)).toNat else min v.toNat n):Nat):Int)
 by_cases a:v < 0
 ·simp only[if_pos a];lia
 ·simp only[if_neg a];lia
theorem U1(lo hi:Option Int)(n:Nat):Builtin.Slice.sliceAdjust lo hi 1 (n:Int)=(((sIx n 0 lo:Nat):Int),((sIx n n hi:Nat):Int)):=by
 have h1:¬ ((1:Int) < 0):=by lia
 unfold Builtin.Slice.sliceAdjust
 simp only[h1,if_false]
 refine Prod.ext ?_ ?_
 ·cases lo with
  | none=>rfl
  | some v=>exact Mj v n 0
 ·cases hi with
  | none=>rfl
  | some v=>exact Mj v n n
theorem U2(i j:Nat):Builtin.Slice.slicePlaces (i:Int) (j:Int) 1=j - i:=by
 unfold Builtin.Slice.slicePlaces
 have h1:(1:Int) > 0:=by lia
 simp only[h1,if_true,Int.ediv_one]
 split <;> lia
theorem Ml{v:Value}{o:Option Int}{Q:Option Int->Shared->Prop}(p:IsPart v o)(h:Q o s):wpAny (model prog w) A (Builtin.Slice.slicePartIndex v) Q E s:=by
 cases p with
 | none=>exact slicePart_none h
 | int i t=>exact slicePart_int h
variable {lo hi:Option Int}
theorem Mm{e:Addr}{c d:Value}{n:Nat}{Q:Int×Int×Nat->Shared->Prop}(g:s.heap.IsSliceOf e c d .none)(pl:IsPart c lo)(f:IsPart d hi)
  (h:Q (((sIx n 0 lo:Nat):Int),1,sIx n n hi - sIx n 0 lo) s):wpAny (model prog w) A (Builtin.Slice.sliceApplied (.ref e) (pure (n:Int))) Q E s:=by
 obtain⟨os,a,i,b⟩:=id g
 unfold Builtin.Slice.sliceApplied Builtin.Slice.sliceFields
 refine Qj (Qj (wpAny_field a b (x:=c) rfl (Qj (wpAny_field a b (x:=d) rfl (Qj (wpAny_field a b (x:=.none) rfl (Qk ?_)))))))
 refine Qj (slicePart_none ?_)
 show wpAny _ _ (if((1:Int)==0)=true then _ else _) _ _ s
 rw[if_neg (by decide)]
 refine Qj (Ml pl (Qj (Ml f (Qj (Qk ?_)))))
 show wpAny _ _ (match Builtin.Slice.sliceAdjust lo hi 1 (n:Int)with |(lo,hi)=>pure (lo,(1:Int),Builtin.Slice.slicePlaces lo hi 1)) _ _ s
 rw[U1 lo hi n]
 show wpAny _ _ (pure (((sIx n 0 lo:Nat):Int),(1:Int),Builtin.Slice.slicePlaces ((sIx n 0 lo:Nat):Int) ((sIx n n hi:Nat):Int) 1)) _ _ s
 rw[U2]
 exact Qk h
theorem U3(xs:Array Value)(i k:Nat):((List.range k).filterMap λ(m:Nat)=>xs[((i:Int)+(m:Int)*1).toNat]?).toArray=((xs.toList.drop i).take k).toArray:=by
 have e:(λ(m:Nat)=>xs[((i:Int)+(m:Int)*1).toNat]?)=λm=>xs[i+m]?:=by
  funext m
  have:((i:Int)+(m:Int)*1).toNat=i+m:=by lia
  rw[this]
 rw[e]
 have:=pick_run xs i k
 rw[List.filterMap_map]at this
 have a:((λx=>xs[x]?)∘λx=>i+x)=λm=>xs[i+m]?:=rfl
 rw[a]at this
 rw[this]
theorem getItem_tuple_cut{c:Addr}{items:Array Value}{i k:Value}(b:IsTup s.heap t items)(j:s.heap.IsSliceOf c i k .none)(pl:IsPart i lo)(n:IsPart k hi)
  (hw:¬ (sIx items.size 0 lo=0/\sIx items.size items.size hi=items.size))
  (h:Q (.ref s.heap.objs.size) {s with heap:=s.heap.push {cls:=.type "tuple",data:=.seq ((items.toList.drop (sIx items.size 0 lo)).take (sIx items.size items.size hi - sIx items.size 0 lo)).toArray}})
  (l:items.size<=sizeLine):wpAny (model prog w) A (getItem (.ref t) (.ref c)) Q E s:=by
 have a:sizeOk (.seq ((items.toList.drop (sIx items.size 0 lo)).take (sIx items.size items.size hi - sIx items.size 0 lo)).toArray):=by
  show((items.toList.drop (sIx items.size 0 lo)).take (sIx items.size items.size hi - sIx items.size 0 lo)).toArray.size<=sizeLine
  rw[Yn,List.length_take,List.length_drop,YR]
  lia
 have p:sIx items.size items.size hi<=items.size:=U0 _ _ (Yr _) hi
 obtain⟨os,d,f,o⟩:=id j
 have g:s.TypeIs (.ref c) "slice":=⟨os,d,f⟩
 unfold getItem
 try with_reducible refine wpAny_holding ?_
 first | refine Qj (Qk ?_)| skip
 refine Qj (wpAny_sequenceKey b.typeIs (by decide) ?_)
 refine Qj (wpAny_callSpecial?_slot (name:=Str.ofString "__getitem__") b.typeIs PyProof.Rows.slot_tuple_getitem
  (wpAny_call_entry PyProof.Rows.slot_tuple_getitem b.typeIs entry_tuple_getitem ?_ (args_tuple_getitem _ _)))
 show wpAny _ _ (Builtin.Tuple.tupleItemsOf (.ref t) >>=_) _ _ s
 refine Qj (tupleItemsOf_ b ?_)
 refine Qj (wpAny_typeOf g ?_)
 rw[if_pos (by decide)]
 refine Qj (Mm j pl n ?_)
 have e:¬ ((((sIx items.size 0 lo:Nat):Int)==0&&(1:Int)==1&&(sIx items.size items.size hi - sIx items.size 0 lo)==items.size)=true):=by
  intro q
  rw[YG,YG]at q
  have q1:((sIx items.size 0 lo:Nat):Int)=0:=eq_of_beq q.1.1
  have q2:sIx items.size items.size hi - sIx items.size 0 lo=items.size:=eq_of_beq q.2
  exact hw ⟨by lia,by lia⟩
 show wpAny _ _ (if(((sIx items.size 0 lo:Nat):Int)==0&&(1:Int)==1&&(sIx items.size items.size hi - sIx items.size 0 lo)==items.size)=true then _ else _) _ _ s
 rw[if_neg e,U3]
 first
  | exact Qj (m:=Builtin.Tuple.tupleExact _) (wpAny_newObj_type (Qk ⟨_,rfl,Qk h⟩) a)
  | exact Qj (m:=Builtin.Tuple.tupleExact _) (wpAny_newObj_type (Qj (Qk (Qk ⟨_,rfl,Qk h⟩))) a)
  | exact Qj (Qj (m:=Builtin.Tuple.tupleExact _) (wpAny_newObj_type (Qk (Qk ⟨_,rfl,Qk h⟩)) a))
  | exact Qj (Qj (m:=Builtin.Tuple.tupleExact _) (wpAny_newObj_type (Qk ⟨_,rfl,Qk h⟩) a))
end
end HT
namespace L2
open PySem PySem.Spec PyProof.Rows
abbrev TO:=St->Hp->(Option Int->Hp->Prop)->Prop
def PO(X:Cx)(e:Option Expr)(t:TO):Prop :=
 ∀(pins:List (Addr×Obj))(s:Shared)(σ:St)(H:Hp)(Q:Option Int->Hp->Prop),Inv X pins σ H s->t σ H Q->
  wpAny (model X.prog X.w) X.A (evalPart e X.env) (λu s'=>∃ o H',Inv X pins σ H' s'/\IsPart u o/\Q o H') X.xe s
def U4:TO:=λ_ H Q=>Q none H
def U5(t:TE):TO:=λσ H Q=>t σ H λx H1=>∃ i,x=.int i/\Q (some i) H1
section
variable {X:Cx} {e:Expr} {te:TE} {lo hi:Option Expr} {tl th:TO} {pos p2:Pos}
theorem U6:PO X none U4:=by
 intro pins s σ H Q I h
 rw[evalPart_none]
 exact Qk ⟨none,H,I,.none,h⟩
theorem U7(h:PE X e te):PO X (some e) (U5 te):=by
 intro pins s σ H Q I hw
 rw[evalPart_some]
 refine thn (h pins s σ H _ I hw) λu c a=>?_
 obtain⟨x,H1,b,r1,q1⟩:=a
 obtain⟨i,rfl,q⟩:=q1
 obtain⟨t,rfl⟩:=r1
 exact⟨some i,H1,b,.int i t,q⟩
def SlR(X:Cx)(r:V->Option Int->Option Int->Hp->VK->Prop):Prop :=
 ∀(pins:List (Addr×Obj))(s:Shared)(σ:St)(H:Hp)(x:V)(v vl vu:Value)(lo hi:Option Int)(sl:Addr)(Q:VK),Inv X pins σ H s->RelV x v->s.heap.IsSliceOf sl vl vu .none->IsPart vl lo->IsPart vu hi->r x lo hi H Q->
  ∃ T id,typeLookup (.type T) "__getitem__"=pure (some (.builtin id))/\s.TypeIs v T/\wpAny (model X.prog X.w) X.A (getItem v (.ref sl)) (EP X pins σ Q) X.xe s
variable {r:V->Option Int->Option Int->Hp->VK->Prop}
theorem SlR.or{r':V->Option Int->Option Int->Hp->VK->Prop}(h:SlR X r)(h':SlR X r'):SlR X (λx lo hi H Q=>r x lo hi H Q\/r' x lo hi H Q):=by
 intro pins s σ H x v c f lo hi a Q I e d pl b q
 rcases q with q | q
 ·exact h pins s σ H x v c f lo hi a Q I e d pl b q
 ·exact h' pins s σ H x v c f lo hi a Q I e d pl b q
def tSl(r:V->Option Int->Option Int->Hp->VK->Prop)(te:TE)(tl th:TO):TE:=λσ H Q=>te σ H λx H1=>tl σ H1 λl H2=>th σ H2 λu H3=>r x l u H3 Q
theorem Mn(n:SlR X r)(E:PE X e te)(hl:PO X lo tl)(p:PO X hi th):PE X (.Subscript e (.Slice lo hi none p2) pos) (tSl r te tl th):=by
 intro pins s σ H Q I h
 refine Subscript_ (thn (E pins s σ H _ I h) λv o c=>?_)
 obtain⟨x,H1,j,r1,q1⟩:=c
 refine wpAny_Slice (thn (hl pins o σ H1 _ j q1) λf D⟨l,H2,m,pl,q2⟩=>thn (p pins D σ H2 _ m q2) λd a⟨u,g,k,i,q3⟩=>?_)
 rw[evalPart_none]
 refine Qk ?_
 have y:Inv X pins σ g {a with heap:=a.heap.push {cls:=.type "slice",data:=.fields #[f,d,.none]}}:=k.kept (t':=a.toks) λb F q=>Ql _ q
 obtain⟨T,id,z,t,B⟩:=n pins {a with heap:=a.heap.push {cls:=.type "slice",data:=.fields #[f,d,.none]}} σ g x v f d l u a.heap.objs.size Q y r1 (Heap.IsSliceOf.new ..) pl i q3
 show wpAny (model X.prog X.w) X.A (subscriptTail e (.Slice lo hi none p2) v (.ref a.heap.objs.size)) (EP X pins σ Q) X.xe {a with heap:=a.heap.push {cls:=.type "slice",data:=.fields #[f,d,.none]}}
 exact tail_any (ops:=[.ref a.heap.objs.size,v]) t z B (by with_unfolding_all rfl)
def Dr(xs:List V)(lo hi:Option Int):List V:=(xs.drop (HT.sIx xs.length 0 lo)).take (HT.sIx xs.length xs.length hi - HT.sIx xs.length 0 lo)
theorem Mo(xs:List V)(lo hi:Option Int):(Dr xs lo hi).length<=xs.length:=by
 unfold Dr
 rw[List.length_take,List.length_drop]
 lia
def Jh(K:PySem.W.Frag):V->Option Int->Option Int->Hp->VK->Prop:=λx lo hi H Q=>∃ a xs,x=.ref a/\SqT K H a xs/\
 ¬ (HT.sIx xs.length 0 lo=0/\HT.sIx xs.length xs.length hi=xs.length)/\∀ p,H p=none->Q (.ref p) (upd H p (.tup (Dr xs lo hi)))
theorem Mp:SlR X (Jh X.K):=by
 intro pins s σ H x v n p lo hi l Q I k j pl i h
 obtain⟨a,xs,rfl,g,hw,q⟩:=h
 cases k
 obtain⟨d,r,f,e⟩:=I.tuple g
 have c:d.toArray.size=xs.length:=by rw[Yn];exact r.length.symm
 refine⟨"tuple",_,PyProof.Rows.slot_tuple_getitem.lookup,f.typeIs,?_⟩
 refine HT.getItem_tuple_cut f j pl i (by rw[c];exact hw) ?_ (by rw[c];exact e)
 rw[c]
 refine⟨.ref s.heap.objs.size,_,I.laid (t':=s.toks) (o:=.tup (Dr xs lo hi)) (λb m q=>Ql _ q) (Yr _) ?_,rfl,q _ (I.hok.fresh (Yr _))⟩
 exact⟨Yt (Mo xs lo hi) e,_,(r.drop (HT.sIx xs.length 0 lo)).take (HT.sIx xs.length xs.length hi - HT.sIx xs.length 0 lo),TupP.new _ _⟩
def Ji(K:PySem.W.Frag):R2:=λx y H Q=>∃ a b xs ys,x=.ref a/\y=.ref b/\SqT K H a xs/\SqT K H b ys/\xs≠[]/\xs.length+ys.length<=sizeLine/\
 (ys=[]->Q (.ref a) H)/\(ys≠[]->∀ p,H p=none->Q (.ref p) (upd H p (.tup (xs++ys))))
theorem Vals.nil_iff{xs:List V}{us:List Value}(r:Vals xs us):us=[]↔xs=[]:=by
 cases r with
 | nil=>simp
 | cons _ _=>simp
theorem U8:OpR X (binaryOp .Add) (Ji X.K):=by
 intro pins s σ H x y v u Q I l g h
 obtain⟨a,b,xs,ys,rfl,rfl,f,j,i,d,q1,q2⟩:=h
 cases l
 cases g
 obtain⟨k,r1,p1,_⟩:=I.tuple f
 obtain⟨e,c,p2,_⟩:=I.tuple j
 refine HT.cat_tup p1 p2 (λz=>i (r1.nil_iff.mp z)) (λz=>⟨.ref a,H,I,rfl,q1 (c.nil_iff.mp z)⟩) (λz=>?_) (by rw[<- r1.length,<- c.length];exact d)
 refine⟨.ref s.heap.objs.size,_,I.laid (t':=s.toks) (o:=.tup (xs++ys)) (λb m q=>Ql _ q) (Yr _) ?_,rfl,q2 (λw=>z (c.nil_iff.mpr w)) _ (I.hok.fresh (Yr _))⟩
 exact⟨by rw[Yj];exact d,_,r1.append c,TupP.new _ _⟩
end
def ixN(n:Nat)(i:Int):Option Nat:=if 0<=i then(if i < n then some i.toNat else none)else if -(n:Int)<=i then some (i+n).toNat else none
def atI{α:Type}(xs:List α)(i:Int):Option α:=(ixN xs.length i).bind λj=>xs[j]?
variable {i:Int}{j:Nat}
theorem Mq{n:Nat}(h:ixN n i=some j):seqIndex? i n=some j/\j < n/\-(n:Int)<=i/\i < n:=by
 unfold ixN at h
 by_cases a:0<=i
 ·rw[if_pos a]at h
  by_cases h1:i < n
  ·rw[if_pos h1]at h
   have e:i.toNat=j:=YE h
   exact⟨by rw[seqIndex_of a h1,e],by lia,by lia,h1⟩
  ·rw[if_neg h1]at h;cases h
 ·rw[if_neg a]at h
  by_cases h1:-(n:Int)<=i
  ·rw[if_pos h1]at h
   have e:(i+n).toNat=j:=YE h
   exact⟨by rw[seqIndex_neg (by lia) h1,e],by lia,h1,by lia⟩
  ·rw[if_neg h1]at h;cases h
theorem Jj{α:Type}{xs:List α}{v:α}(h:atI xs i=some v):∃ j,seqIndex? i xs.length=some j/\xs[j]?=some v/\j < xs.length/\-(xs.length:Int)<=i/\i < xs.length:=by
 unfold atI at h
 cases e:ixN xs.length i with
 | none=>rw[e]at h;cases h
 | some j =>
  rw[e]at h
  obtain⟨h1,h2,a,b⟩:=Mq e
  exact⟨j,h1,h,h2,a,b⟩
theorem Da{α:Type}{xs:List α}{v:α}(h:xs[j]?=some v):atI xs (j:Int)=some v:=by
 have a:j < xs.length:=(YV.mp h).1
 have e:ixN xs.length (j:Int)=some j:=by
  unfold ixN
  rw[if_pos (by lia),if_pos (by lia)];simp
 unfold atI;rw[e];exact h
theorem U9{α:Type}(xs:List α)(v:α):atI (xs++[v]) (-1)=some v:=by
 have hl:(xs++[v]).length=xs.length+1:=by simp
 have e:ixN (xs++[v]).length (-1)=some xs.length:=by
  unfold ixN
  rw[hl,if_neg (by decide),if_pos (by lia)]
  congr 1
  lia
 unfold atI
 rw[e]
 show(xs++[v])[xs.length]?=some v
 simp
def Jk(b:Expr):Prop:=∀ o i,subscripted b false o i=operate [o,i] (getItem o i)
def IxR(X:Cx)(r:R2):Prop :=
 ∀(value slice:Expr)(pins:List (Addr×Obj))(s:Shared)(σ:St)(H:Hp)(x y:V)(v u:Value)(Q:VK),Inv X pins σ H s->RelV x v->RelV y u->r x y H Q->
  subscripted slice false v u=operate [v,u] (getItem v u)->wpAny (model X.prog X.w) X.A (subscriptTail value slice v u) (EP X pins σ Q) X.xe s
def MtR(X:Cx)(id:String)(r:V->List V->Hp->VK->Prop):Prop :=
 ∀(pins:List (Addr×Obj))(s:Shared)(σ:St)(H:Hp)(x:V)(xs:List V)(v:Value)(us:List Value)(Q:VK),Inv X pins σ H s->RelV x v->Vals xs us->r x xs H Q->
  wpAny (model X.prog X.w) X.A (call (.builtin id) (v::us)) (EP X pins σ Q) X.xe s
section
variable {X:Cx} {a b:Expr} {ta tb:TE} {pos:Pos}
variable {r:R2}
theorem IxR.or{r':R2}(h:IxR X r)(h':IxR X r'):IxR X (λx y H Q=>r x y H Q\/r' x y H Q):=by
 intro value slice pins s σ H x y v u Q I b a q c
 rcases q with q | q
 ·exact h value slice pins s σ H x y v u Q I b a q c
 ·exact h' value slice pins s σ H x y v u Q I b a q c
theorem MtR.or{id:String}{r r':V->List V->Hp->VK->Prop}(h:MtR X id r)(h':MtR X id r'):MtR X id (λx xs H Q=>r x xs H Q\/r' x xs H Q):=by
 intro pins s σ H x xs v a Q I b rs q
 rcases q with q | q
 ·exact h pins s σ H x xs v a Q I b rs q
 ·exact h' pins s σ H x xs v a Q I b rs q
theorem Va(e:IxR X r)(c:PE X a ta)(f:PE X b tb)(g:Jk b):PE X (.Subscript a b pos) (tOp r ta tb):=by
 intro pins s σ H Q I h
 exact Subscript_ (IX c f I h λv u k x y H2 i j d q=>e a b pins k σ H2 x y v u Q i j d q (g _ _))
def Jl(K:PySem.W.Frag):R2:=λx y H Q=>∃ p xs i v,x=.ref p/\y=.int i/\SqL K H p xs/\atI xs i=some v/\Q v H
def Jm(K:PySem.W.Frag):R2:=λx y H Q=>∃ p xs i v,x=.ref p/\y=.int i/\SqT K H p xs/\atI xs i=some v/\Q v H
def Jn:R2:=λx y H Q=>∃ z i c,x=.str z/\y=.int i/\z.length<=sizeLine/\atI z.cps.toList i=some c/\Q (.str ⟨#[c]⟩) H
theorem Vb:IxR X (Jl X.K):=by
 intro value slice pins s σ H x y v u Q I o l h f
 obtain⟨p,xs,i,z,rfl,rfl,n,A,q⟩:=h
 cases o
 obtain⟨t,rfl⟩:=l
 obtain⟨d,r,pl,B⟩:=I.list n
 obtain⟨j,h1,h2,E,k,m⟩:=Jj A
 obtain⟨w,e,c⟩:=r.get h2
 have hl:=r.length
 have D:=ED
 have a:EP X pins σ Q w s:=⟨z,H,I,c,q⟩
 by_cases g:0<=i
 ·have b:i.toNat=j:=by
   rw[seqIndex_of g m]at h1
   exact YE h1
  exact item_listR pl.isList g (by lia) (by rw[b];simpa using e) a f
 ·have b:(i+(d.toArray.size:Int)).toNat=j:=by
   rw[seqIndex_neg (by lia) k]at h1
   rw[Yn,<- hl]
   exact YE h1
  exact subscriptTail_builtinR (x:=w) pl.isList.typeIs slot_list_getitem.lookup
   (wpAny_getItem_list_neg (Q:=λr s'=>r=w/\EP X pins σ Q r s') pl.isList (by lia) (by rw[Yn] <;> lia) (by lia) (by rw[b];simpa using e) ⟨rfl,a⟩) f
theorem Vc:IxR X (Jm X.K):=by
 intro value slice pins s σ H x y v u Q I k c h f
 obtain⟨p,xs,i,z,rfl,rfl,e,l,q⟩:=h
 cases k
 obtain⟨t,rfl⟩:=c
 obtain⟨g,r,pl,m⟩:=I.tuple e
 obtain⟨j,h1,h2,B,n,o⟩:=Jj l
 obtain⟨w,d,b⟩:=r.get h2
 have hl:=r.length
 have A:=ED
 have a:EP X pins σ Q w s:=⟨z,H,I,b,q⟩
 exact subscriptTail_builtinR (x:=w) pl.typeIs slot_tuple_getitem.lookup
  (getItem_tuple (j:=j) (Q:=λr s'=>r=w/\EP X pins σ Q r s') pl (by lia) (by lia) (by rw[Yn,<- hl];exact h1) (by simpa using d) ⟨rfl,a⟩) f
theorem Vd:IxR X Jn:=by
 intro value slice pins s σ H x y v u Q I k d h g
 obtain⟨z,i,c,rfl,rfl,m,l,q⟩:=h
 obtain⟨t,rfl⟩:=k
 obtain⟨t',rfl⟩:=d
 obtain⟨j,h1,h2,o,b,e⟩:=Jj l
 have hl:z.cps.toList.length=z.length:=by simp[Str.length]
 rw[hl]at h1 b e
 have n:=ED
 exact tail_any (typeIs_str s z t) slot_str_getitem.lookup (getItem_str (c:=c) (by
  have f:decide (i < -(2 ^ 63:Int))=false:=Qh (by lia)
  have a:decide (i>=2 ^ 63)=false:=Qh (by lia)
  rw[f,a,Bool.or_false]) (by rw[h1];simpa using h2) ⟨.str ⟨#[c]⟩,H,I.tok _,⟨_,rfl⟩,q⟩) g
theorem Ve(a:List Value)(n j:Nat)(u:Value):Obj.mapSeq (·.setIfInBounds j u) {cls:=.type "list",data:=.seq a.toArray n}={cls:=.type "list",data:=.seq (a.set j u).toArray n}:=by
 simp[Obj.mapSeq]
variable {pins:List (Addr×Obj)}{σ:St}{H:Hp}{s:Shared}{p:Addr}{xs:List V}
theorem Inv.lst(I:Inv X pins σ H s)(h:H p=some (.lst xs)):
  ∃(a:List Value)(n:Nat),Vals xs a/\s.heap.get? p=some {cls:=.type "list",data:=.seq a.toArray n}/\xs.length<=sizeLine:=by
 obtain⟨z,a,n,r,e⟩:=I.hok p _ h
 exact⟨a,n,r,e,z⟩
theorem Inv.lstUpd{ys:List V}{a its':List Value}{n c:Nat}{f:Obj->Obj}(I:Inv X pins σ H s)(h:H p=some (.lst xs))
  (i:s.heap.get? p=some {cls:=.type "list",data:=.seq a.toArray n}) (d:f {cls:=.type "list",data:=.seq a.toArray n}={cls:=.type "list",data:=.seq its'.toArray c}) (r:Vals ys its') (g:ys.length<=sizeLine) (t:Nat):
  Inv X pins σ (upd H p (.lst ys)) {s with heap:=s.heap.update p f,toks:=t}:=by
 have e:(s.heap.update p f).get? p=some {cls:=.type "list",data:=.seq its'.toArray c}:=by
  rw[Heap.get?_update_self f i (by rw[d] <;> rfl),d]
 refine I.write (x:=p) (e:=p) (by rw[h];trivial) (.inl rfl) (λb u j q=>(Heap.get?_update_other _ _ (YU j)).trans q) ⟨_,e⟩ ?_
 exact⟨g,its',c,r,e⟩
def Mr:V->V->V->Hp->(Hp->Prop)->Prop:=λo i v H Q=>∃ p xs k j,o=.ref p/\i=.int k/\H p=some (.lst xs)/\ixN xs.length k=some j/\Q (upd H p (.lst (xs.set j v)))
theorem Vf:LU X Mr:=by
 intro pins s σ H o i v B A u Q I m z y h
 obtain⟨p,xs,k,j,rfl,rfl,e,w,q⟩:=h
 cases m
 obtain⟨t,rfl⟩:=z
 obtain⟨a,n,r,c,x⟩:=I.lst e
 obtain⟨h1,h2,f,d⟩:=Mq w
 have hl:=r.length
 have D:=ED
 have g:Inv X pins σ (upd H p (.lst (xs.set j v))) {s with heap:=s.heap.update p (Obj.mapSeq (·.setIfInBounds j u))}:=
  I.lstUpd e c (Ve a n j u) (r.set y j) (by rw[List.length_set];exact x) s.toks
 by_cases l:0<=k
 ·have b:k.toNat=j:=by
   rw[seqIndex_of l d]at h1
   exact YE h1
  exact PySem.W.ki_setAt c l (by lia) (by rw[Yn,<- hl];exact d) (by rw[b];exact⟨_,g,q⟩)
 ·have b:(k+(a.toArray.size:Int)).toNat=j:=by
   rw[seqIndex_neg (by lia) f]at h1
   rw[Yn,<- hl]
   exact YE h1
  exact PySem.W.ki_setBack c (by lia) (by rw[Yn,<- hl];exact f) (by lia) (by rw[b];exact⟨_,g,q⟩)
theorem Vg(lo hi:Option Int)(n:Nat):(sliceBounds lo hi none n).1=((HT.sIx n 0 lo:Nat):Int)/\(sliceBounds lo hi none n).2.1=((HT.sIx n n hi:Nat):Int)/\(sliceBounds lo hi none n).2.2=1:=by
 refine⟨?_,?_,rfl⟩
 ·cases lo with
  | none=>simp[sliceBounds,HT.sIx]
  | some i =>
   simp only[sliceBounds,HT.sIx,Option.getD_none,show(1:Int) > 0 by decide,if_true]
   by_cases h:i < 0
   ·simp only[h,if_true] <;> lia
   ·simp only[h,if_false] <;> lia
 ·cases hi with
  | none=>simp[sliceBounds,HT.sIx]
  | some i =>
   simp only[sliceBounds,HT.sIx,Option.getD_none,show(1:Int) > 0 by decide,if_true]
   by_cases h:i < 0
   ·simp only[h,if_true] <;> lia
   ·simp only[h,if_false] <;> lia
theorem Vh(a:List Value)(lo hi:Option Int):slicePick a.toArray lo hi none=((a.drop (HT.sIx a.length 0 lo)).take (HT.sIx a.length a.length hi - HT.sIx a.length 0 lo)).toArray:=by
 obtain⟨h1,h2,b⟩:=Vg lo hi a.toArray.size
 unfold slicePick
 rw[h1,h2,b]
 simp only[sliceRange_one,pick_run,Yn] <;> rfl
def Jo(K:PySem.W.Frag):V->Option Int->Option Int->Hp->VK->Prop:=λx lo hi H Q=>∃ a xs,x=.ref a/\SqL K H a xs/\∀ p,H p=none->Q (.ref p) (upd H p (.lst (Dr xs lo hi)))
theorem Ms:SlR X (Jo X.K):=by
 intro pins s σ H x v n p lo hi l Q I k i pl g h
 obtain⟨a,xs,rfl,f,q⟩:=h
 cases k
 obtain⟨j,r,d,e⟩:=I.list f
 have c:=r.length
 refine⟨"list",_,slot_list_getitem.lookup,d.isList.typeIs,?_⟩
 refine wpAny_getItem_list_slice d.isList i pl g .none (by simp) ?_ (by rw[Yn] <;> lia)
 rw[Vh,<- c]
 refine⟨.ref s.heap.objs.size,_,I.laid (t':=s.toks) (o:=.lst (Dr xs lo hi)) (λb m q=>Ql _ q) (Yr _) ?_,rfl,q _ (I.hok.fresh (Yr _))⟩
 exact⟨Yt (Mo xs lo hi) e,_,0,(r.drop (HT.sIx xs.length 0 lo)).take (HT.sIx xs.length xs.length hi - HT.sIx xs.length 0 lo),Qn _ rfl⟩
def CP:V->Bool
 | .non=>true
 | .bl _=>true
 | .int _=>true
 | .str _=>true
 | _=>false
def eqV:V->V->Bool
 | .non,.non=>true
 | .bl a,.bl b=>a==b
 | .bl a,.int b=>(if a then 1 else 0)==b
 | .int a,.bl b=>a==(if b then 1 else 0)
 | .int a,.int b=>a==b
 | .str a,.str b=>a==b
 | _,_=>false
variable {y x:V}{u v:Value}
theorem Fo{A:Around}(d:RelV y u)(c:RelV x v)(f:CP y=true)(e:CP x=true):SeqAt.EqAt A s u v (eqV y x):=by
 cases y with
 | non =>
  cases d
  cases x with
  | non=>cases c;exact SeqAt.EqAt.same _
  | bl b=>cases c;exact SeqAt.EqAt.none_bool b
  | int b=>obtain⟨t,rfl⟩:=c;exact SeqAt.EqAt.none_int b t
  | str b=>obtain⟨t,rfl⟩:=c;exact SeqAt.EqAt.none_str b t
  | _=>exact Qi (show false=true from e) YS
 | bl a =>
  cases d
  cases x with
  | non=>cases c;exact SeqAt.EqAt.bool_none a
  | bl b=>cases c;exact SeqAt.EqAt.bool_bool a b
  | int b=>obtain⟨t,rfl⟩:=c;exact SeqAt.EqAt.bool_int a b t
  | str b=>obtain⟨t,rfl⟩:=c;exact SeqAt.EqAt.bool_str a b t
  | _=>exact Qi (show false=true from e) YS
 | int a =>
  obtain⟨t',rfl⟩:=d
  cases x with
  | non=>cases c;exact SeqAt.EqAt.int_none a t'
  | bl b=>cases c;exact SeqAt.EqAt.int_bool a t' b
  | int b=>obtain⟨t,rfl⟩:=c;exact SeqAt.EqAt.int_int a t' b t
  | str b=>obtain⟨t,rfl⟩:=c;exact SeqAt.EqAt.int_str a t' b t
  | _=>exact Qi (show false=true from e) YS
 | str a =>
  obtain⟨t',rfl⟩:=d
  cases x with
  | non=>cases c;exact SeqAt.EqAt.str_none a t'
  | bl b=>cases c;exact SeqAt.EqAt.str_bool a t' b
  | int b=>obtain⟨t,rfl⟩:=c;exact SeqAt.EqAt.str_int a t' b t
  | str b=>obtain⟨t,rfl⟩:=c;exact SeqAt.EqAt.str_str a t' b t
  | _=>exact Qi (show false=true from e) YS
 | _=>exact Qi (show false=true from f) YS
def eqU(x:V)(u:Value):Bool:=match u with
 | .none=>eqV .non x
 | .bool b=>eqV (.bl b) x
 | .int i _=>eqV (.int i) x
 | .str z _=>eqV (.str z) x
 | _=>false
theorem Mt(r:RelV y u)(f:CP y=true):eqU x u=eqV y x:=by
 cases y with
 | non=>cases r;rfl
 | bl b=>cases r;rfl
 | int i=>obtain⟨t,rfl⟩:=r;rfl
 | str z=>obtain⟨t,rfl⟩:=r;rfl
 | _=>exact Qi (show false=true from f) YS
theorem Fp{x:V}:∀{xs:List V}{us:List Value},Vals xs us->xs.all CP=true->us.any (eqU x)=xs.any λy=>eqV y x
 | _,_,.nil,_=>rfl
 | y::xs,u::us,.cons r t,f=>by
  rw[List.all_cons,YG]at f
  rw[List.any_cons,List.any_cons,Mt r f.1,Fp t f.2]
theorem Fq{A:Around}{s:Shared}{x:V}{v:Value}(c:RelV x v)(b:CP x=true):∀{xs:List V}{us:List Value},Vals xs us->xs.all CP=true->∀ u∈us,SeqAt.EqAt A s u v (eqU x u)
 | _,_,.nil,_=>λu a=>by cases a
 | y::xs,u::us,.cons r t,f=>λd a=>by
  rw[List.all_cons,YG]at f
  rcases Yo.mp a with rfl | a
  ·rw[Mt r f.1];exact Fo r c f.1 b
  ·exact Fq c b t f.2 d a
def inV(x:V)(xs:List V):Bool:=xs.any λy=>eqV y x
def rIn(K:PySem.W.Frag)(neg:Bool):R2:=λx y H Q=>∃ p xs,y=.ref p/\(SqL K H p xs\/SqT K H p xs)/\CP x=true/\xs.all CP=true/\Q (.bl (if neg then !inV x xs else inV x xs)) H
theorem Vi:OpR X (compareOp .In) (rIn X.K false):=by
 intro pins s σ H x y v u Q I d f h
 obtain⟨p,xs,rfl,b,c,fs,q⟩:=h
 cases f
 rcases b with b | b
 ·obtain⟨a,r,pl,e⟩:=I.list b
  refine SeqAt.in_listAt (eqU x) pl.isList (λw hw=>Fq d c r fs w (by simpa using hw)) ⟨.bl _,H,I,rfl,?_⟩
  rw[show a.toArray.any (eqU x)=a.any (eqU x) by simp,Fp r fs]
  exact q
 ·obtain⟨a,r,pl,e⟩:=I.tuple b
  refine SeqAt.in_tupleAt (eqU x) pl (λw hw=>Fq d c r fs w (by simpa using hw)) ⟨.bl _,H,I,rfl,?_⟩
  rw[show a.toArray.any (eqU x)=a.any (eqU x) by simp,Fp r fs]
  exact q
theorem Vj:OpR X (compareOp .NotIn) (rIn X.K true):=by
 intro pins s σ H x y v u Q I d f h
 obtain⟨p,xs,rfl,b,c,fs,q⟩:=h
 cases f
 rcases b with b | b
 ·obtain⟨a,r,pl,e⟩:=I.list b
  refine SeqAt.notIn_listAt (eqU x) pl.isList (λw hw=>Fq d c r fs w (by simpa using hw)) ⟨.bl _,H,I,rfl,?_⟩
  rw[show a.toArray.any (eqU x)=a.any (eqU x) by simp,Fp r fs]
  exact q
 ·obtain⟨a,r,pl,e⟩:=I.tuple b
  refine SeqAt.notIn_tupleAt (eqU x) pl (λw hw=>Fq d c r fs w (by simpa using hw)) ⟨.bl _,H,I,rfl,?_⟩
  rw[show a.toArray.any (eqU x)=a.any (eqU x) by simp,Fp r fs]
  exact q
theorem CallR.or{f:Value}{r r':List V->Hp->VK->Prop}(h:CallR X f r)(h':CallR X f r'):CallR X f (λxs H Q=>r xs H Q\/r' xs H Q):=by
 intro pins s σ H xs a Q I rs q
 rcases q with q | q
 ·exact h pins s σ H xs a Q I rs q
 ·exact h' pins s σ H xs a Q I rs q
theorem Vk:CallR X (.type "list") (λxs H Q=>∃ p ys,xs=[.ref p]/\(SqL X.K H p ys\/SqT X.K H p ys)/\∀ l,H l=none->Q (.ref l) (upd H l (.lst ys))):=by
 intro pins s σ H xs m Q I r h
 obtain⟨p,ys,rfl,g,q⟩:=h
 obtain⟨u,rfl,k⟩:=Dq r
 cases k
 have f:∀(a:List Value),Vals ys a->ys.length<=sizeLine->∀(h':Heap)(c:Nat),(∀ b o',s.heap.get? b=some o'->h'.get? b=some o')->
   h'.get? s.heap.objs.size=some {cls:=.type "list",dict:=none,data:=.seq a.toArray c,slots:=#[]}->EP X pins σ Q (.ref s.heap.objs.size) {s with heap:=h'}:=λa r' d h' c kp e=>
  ⟨.ref s.heap.objs.size,_,I.laid (t':=s.toks) kp (Yr _) (show ObjOk X.prog X.w _ h' _ (.lst ys)from⟨d,a,c,r',e⟩),rfl,q _ (I.hok.fresh (Yr _))⟩
 rcases g with g | g
 ·obtain⟨a,r',pl,d⟩:=I.list g
  have i:=r'.length
  obtain⟨o,j,hc,n,hd⟩:=pl.isList
  exact call_list_seq p (.inl rfl) j hc hd (λh' c kp e=>f a r' d h' c kp e) (by simp only[Yn] <;> lia)
 ·obtain⟨a,r',pl,d⟩:=I.tuple g
  have i:=r'.length
  obtain⟨o,j,hc,n,hd⟩:=pl
  exact call_list_seq p (.inr rfl) j hc hd (λh' c kp e=>f a r' d h' c kp e) (by simp only[Yn] <;> lia)
theorem Vl:CallR X (.type "tuple") (λxs H Q=>∃ p ys,xs=[.ref p]/\((SqL X.K H p ys/\∀ l,H l=none->Q (.ref l) (upd H l (.tup ys)))\/(SqT X.K H p ys/\Q (.ref p) H))):=by
 intro pins s σ H xs k Q I r h
 obtain⟨p,ys,rfl,h⟩:=h
 obtain⟨u,rfl,j⟩:=Dq r
 cases j
 rcases h with⟨c,q⟩|⟨c,q⟩
 ·obtain⟨a,r',pl,d⟩:=I.list c
  have g:=r'.length
  refine call_tuple_list pl.isList (λh' kp=>?_) (by simp only[Yn] <;> lia)
  have f:Inv X pins σ H {s with heap:=h'}:=I.kept (t':=s.toks) kp
  have i:Inv X pins σ (upd H h'.objs.size (.tup ys)) {s with heap:=h'.push {cls:=.type "tuple",data:=.seq a.toArray}}:=
   f.laid (t':=s.toks) (λb o e=>Ql _ e) (Yr _) (show ObjOk X.prog X.w _ _ _ (.tup ys)from⟨d,a,r',TupP.new _ _⟩)
  exact⟨.ref h'.objs.size,_,i,rfl,q _ (f.hok.fresh (Yr _))⟩
 ·obtain⟨a,r',pl,d⟩:=I.tuple c
  exact call_tuple_same pl ⟨.ref p,H,I,rfl,q⟩
def tyV(K:PySem.W.Frag)(T:String)(x:V)(H:Hp):Prop:=match x with
 | .str _=>T="str"
 | .int _=>T="int"
 | .ref p=>(T="list"/\∃ xs,SqL K H p xs)\/(T="tuple"/\∃ o,K.lookup p=some o/\o.cls=.type "tuple"/\o.dict=none)\/
   (T="dict"/\((∃ kvs,H p=some (.dK kvs))\/∃ kvs,H p=some (.dT kvs)))\/(T="set"/\∃ S n,H p=some (.set S n))
 | _=>False
theorem Vm{T:String}(I:Inv X pins σ H s)(r:RelV x v)(ty:tyV X.K T x H):
  s.TypeIs v T/\∀ a,v=.ref a->∃ g,s.heap.get? a=some g/\g.dict=none:=by
 cases x with
 | str z =>
  obtain⟨t,rfl⟩:=r
  cases(show T="str" from ty)
  exact⟨typeIs_str s z t,λ_ e=>nomatch e⟩
 | int i =>
  obtain⟨t,rfl⟩:=r
  cases(show T="int" from ty)
  exact⟨typeIs_int s i t,λ_ e=>nomatch e⟩
 | ref p =>
  cases r
  rcases ty with⟨rfl,xs,h⟩|⟨rfl,o,b,hc,hd⟩|⟨rfl,b⟩|⟨rfl,S,n,b⟩
  ·obtain⟨j,_,pl,_⟩:=I.list h
   refine⟨pl.isList.typeIs,λa e=>?_⟩
   cases e
   obtain⟨o,n,e,c,hd,_⟩:=pl
   exact⟨o,e,hd⟩
  ·refine⟨⟨o,I.kIn p o b,hc⟩,λa e=>?_⟩
   cases e
   exact⟨o,I.kIn _ o b,hd⟩
  ·have z:∃ o,s.heap.get? p=some o/\o.ExactDict:=by
    rcases b with⟨f,b⟩|⟨f,b⟩
    ·obtain⟨_,_,_,_,o,_,_,e,ex,_⟩:=I.hok p _ b
     exact⟨o,e,ex⟩
    ·obtain⟨_,_,_,_,o,_,_,e,ex,_⟩:=I.hok p _ b
     exact⟨o,e,ex⟩
   obtain⟨o,e,ex⟩:=z
   refine⟨⟨o,e,ex.1⟩,λa d=>?_⟩
   cases d
   exact⟨o,e,ex.2.1⟩
  ·obtain⟨o,_,_,_,e,ex,_⟩:=I.hok p _ b
   refine⟨⟨o,e,ex.1⟩,λa d=>?_⟩
   cases d
   exact⟨o,e,ex.2.1⟩
 | _=>exact Qd ty
def tBM(K:PySem.W.Frag)(T:String)(r:V->List V->Hp->VK->Prop)(to:TE)(t:TA):TE:=λσ H Q=>to σ H λx H1=>tyV K T x H1/\t σ H1 λxs H2=>r x xs H2 Q
variable {o e:Expr} {es:List Expr} {to:TE} {t:TA} {name:Str} {apos cpos:Pos} {T id:String} {r:V->List V->Hp->VK->Prop}
theorem Vn(pa:PlainAttrs T)(slot:Slot T name id)(f:typeOf (.builtin id)=pure (.type "method_descriptor"))(y:MtR X id r)(m:PE X o to)(k:PA X (e::es) t)
  (a:attributeBase o name X.env (eval o X.env)=eval o X.env:=by rfl)
  (c:((backTo cpos (starEach (e::es) X.env)).all (λx=>!x.1)&&(backToKw cpos (keywordEach [] X.env)).all (λx=>x.1.isSome)
   && decide ((e::es).length+([]:List Keyword).length+(if([]:List Keyword).isEmpty then 0 else 1) < 30))=true:=by rfl)
  (b:(apos.endLine==cpos.line)=true:=by rfl) (p:starEach (e::es) X.env=(false,eval e X.env)::starEach es X.env:=by rfl) (hplain:(backTo cpos (starEach es X.env)).any (·.1)=false:=by rfl):
  PE X (.Call (.Attribute o name apos) (e::es) [] cpos) (tBM X.K T r to t):=by
 intro pins s σ H Q I h
 refine wpAny_Call_method_late a c b rfl (thn (m pins s σ H _ I h) λv n d=>?_)
 obtain⟨x,H1,i,r1,ty,q1⟩:=d
 obtain⟨h1,h2⟩:=Vm i r1 ty
 refine⟨T,id,pa,slot,f,h1,h2,?_⟩
 have g:=k cpos pins n σ H1 _ i q1
 rw[p]at g ⊢
 refine Calls.callWith_builtin (by show(false||(backTo cpos (starEach es X.env)).any (·.1))=false;rw[hplain] <;> rfl) (Calls.evalArgs_plain ?_)
 exact thn g (by rintro j w ⟨u,H2,q,l,q2⟩;exact y pins w σ H2 x u v j Q q r1 l q2)
end
def MtM(X:Cx)(id:String)(r:V->List V->Hp->VK->Prop):Prop :=
 ∀(pins:List (Addr×Obj))(s:Shared)(σ:St)(H:Hp)(x:V)(xs:List V)(v:Value)(us:List Value)(Q:VK),Inv X pins σ H s->RelV x v->Vals xs us->r x xs H Q->
  wpAny (model X.prog X.w) X.A (call (.builtin id) (v::us)) (EP X pins σ Q) X.xe s
theorem Vals.one:∀{x:V}{us:List Value},Vals [x] us->∃ u,us=[u]/\RelV x u
 | _,_,.cons r .nil=>⟨_,rfl,r⟩
theorem Vals.two:∀{x y:V}{us:List Value},Vals [x,y] us->∃ u v,us=[u,v]/\RelV x u/\RelV y v
 | _,_,_,.cons r (.cons q .nil)=>⟨_,_,rfl,r,q⟩
theorem Vals.zero:∀{us:List Value},Vals [] us->us=[]
 | _,.nil=>rfl
theorem Vals.rep{xs:List V}{us:List Value}(h:Vals xs us):∀ k:Nat,Vals (List.replicate k xs).flatten (List.replicate k us).flatten
 | 0=>.nil
 | k+1=>by
  rw[List.replicate_succ,List.replicate_succ,List.flatten_cons,List.flatten_cons]
  exact Vals.append h (Vals.rep h k)
theorem Mu(b:List Value):∀(k:Nat)(a:List Value),
  List.foldl (λd f=>d++f) a.toArray (List.replicate k b.toArray)=(a++(List.replicate k b).flatten).toArray
 | 0,a=>by simp
 | k+1,a=>by
  have e:a.toArray++b.toArray=(a++b).toArray:=by simp
  have c:(a++b)++(List.replicate k b).flatten=a++(List.replicate (k+1) b).flatten:=by
   rw[List.replicate_succ,List.flatten_cons,Yv]
  rw[<- c,<- Mu b k (a++b),<- e,List.replicate_succ,List.foldl_cons]
section
variable {X:Cx} {pins:List (Addr×Obj)} {σ:St} {H:Hp} {s:Shared} {l b:Addr} {xs ys zs:List V}
variable {a:List Value}{n t':Nat}
theorem Inv.lset{its':List Value}{f:Array Value->Array Value}(I:Inv X pins σ H s)(i:H l=some (.lst xs))
  (e:s.heap.get? l=some {cls:=.type "list",data:=.seq a.toArray n}) (h:f a.toArray=its'.toArray) (c:Vals ys its') (b:ys.length<=sizeLine):
  Inv X pins σ (upd H l (.lst ys)) {s with heap:=s.heap.update l (Obj.mapSeq f),toks:=t'}:=by
 have q:=PySem.IsL.update e f
 rw[h]at q
 refine I.write (x:=l) (e:=l) (by rw[i];exact trivial) (.inl rfl) (λj u d g=>(Heap.get?_update_other s.heap (Obj.mapSeq f) (YU d)).trans g) ⟨_,q⟩ ?_
 exact⟨b,its',_,c,q⟩
theorem Inv.lnew(I:Inv X pins σ H s)(c:Vals ys a)(b:ys.length<=sizeLine):
  Inv X pins σ (upd H s.heap.objs.size (.lst ys)) {s with heap:=s.heap.push {cls:=.type "list",data:=.seq a.toArray},toks:=t'}:=
 I.laid (λ_ _ q=>Ql _ q) (Yr _) ⟨b,a,0,c,Qn _ rfl⟩
theorem Inv.fresh(I:Inv X pins σ H s):H s.heap.objs.size=none:=I.hok.fresh (Yr _)
theorem Inv.lstM(I:Inv X pins σ H s)(b:H l=some (.lst xs)):xs.length<=sizeLine/\∃(a:List Value)(n:Nat),Vals xs a/\xs.length=a.length/\s.heap.get? l=some {cls:=.type "list",data:=.seq a.toArray n}:=by
 obtain⟨z,a,n,r,e⟩:=I.hok l _ b
 exact⟨z,a,n,r,r.length,e⟩
theorem Mv(h:n<=sizeLine):Builtin.List.listTooLong n=false:=by
 unfold Builtin.List.listTooLong
 exact Qh (by lia)
end
section
variable {X:Cx}
def Vo:V->List V->Hp->VK->Prop:=λx vs H Q=>∃ l xs y,x=.ref l/\vs=[y]/\H l=some (.lst xs)/\xs.length < sizeLine/\Q .non (upd H l (.lst (xs++[y])))
theorem Vp:MtM X "list.append" Vo:=by
 intro pins s σ H x j v g Q I f d h
 obtain⟨l,xs,y,rfl,rfl,b,i,q⟩:=h
 cases f
 obtain⟨u,rfl,c⟩:=d.one
 obtain⟨z,a,n,r,hl,e⟩:=I.lstM b
 refine call_meets F.slot_list_append ⟨_,e,rfl⟩ F.entry_list_append (F.args_list_append_2 _ _) (PySem.list_append l a.toArray n u (by rw[Yn];lia)) ⟨e,?_⟩
 refine⟨.non,_,I.lset (its':=a++[u]) b e (by simp) (r.append (.cons c .nil)) ?_,rfl,q⟩
 rw[Yj,List.length_singleton]
 lia
def Vq:V->List V->Hp->VK->Prop:=λx vs H Q=>∃ l b xs zs,x=.ref l/\vs=[.ref b]/\H l=some (.lst xs)/\H b=some (.lst zs)/\xs.length+zs.length<=sizeLine/\Q .non (upd H l (.lst (xs++zs)))
theorem Vr:MtM X "list.extend" Vq:=by
 intro pins s σ H x B v y Q I w m h
 obtain⟨l,b,xs,zs,rfl,rfl,g,t,A,q⟩:=h
 cases w
 obtain⟨u,rfl,j⟩:=m.one
 cases j
 obtain⟨z,c,n,r,hl,e⟩:=I.lstM g
 obtain⟨D,a,o,k,p,i⟩:=I.lstM t
 have f:c.toArray.size+a.toArray.size<=sizeLine:=by rw[Yn,Yn];lia
 have d:¬ (!c.toArray.isEmpty&&Builtin.List.listTooLong (c.toArray.size+a.toArray.size))=true:=by
  rw[Mv f,Bool.and_false]
  exact YS
 refine call_meets F.slot_list_extend ⟨_,e,rfl⟩ F.entry_list_extend (F.args_list_extend_2 _ _)
  (AutoSeq1.list_extend_list_list_0 l c.toArray n b a.toArray o d (by rw[Yn];lia) (by lia)) ⟨e,i,?_⟩
 refine⟨.non,_,I.lset (its':=c++a) g e (by simp) (r.append k) ?_,rfl,q⟩
 rw[Yj]
 lia
def Ft:R2:=λx y H Q=>∃ l b xs zs,x=.ref l/\y=.ref b/\H l=some (.lst xs)/\H b=some (.lst zs)/\xs.length+zs.length<=sizeLine/\∀ p,H p=none->Q (.ref p) (upd H p (.lst (xs++zs)))
theorem Vs:OpR X (binaryOp .Add) Ft:=by
 intro pins s σ H x y v u Q I o i h
 obtain⟨l,b,xs,zs,rfl,rfl,m,k,p,q⟩:=h
 cases o
 cases i
 obtain⟨z,c,n,r,hl,e⟩:=I.lstM m
 obtain⟨t,a,w,g,j,d⟩:=I.lstM k
 refine PySem.P.add_list e d ?_ (by rw[Yn,Yn];lia)
 have f:c.toArray++a.toArray=(c++a).toArray:=by simp
 rw[f]
 exact⟨.ref _,_,I.lnew (t':=s.toks) (r.append g) (by rw[Yj];lia),rfl,q _ I.fresh⟩
def Mw:R2:=λx y H Q=>∃ l k xs,x=.ref l/\y=.int k/\H l=some (.lst xs)/\-(2 ^ 63)<=k/\k < 2 ^ 63/\xs.length*k.toNat<=sizeLine/\
 ∀ p,H p=none->Q (.ref p) (upd H p (.lst (List.replicate k.toNat xs).flatten))
theorem Vt{α:Type}(xs:List α)(k:Nat):(List.replicate k xs).flatten.length=k*xs.length:=by
 induction k with
 | zero=>simp
 | succ k a=>rw[List.replicate_succ,List.flatten_cons,Yj,a,Nat.succ_mul,Nat.add_comm]
theorem Vu:OpR X (binaryOp .Mult) Mw:=by
 intro pins s σ H x y v u Q I D w h
 obtain⟨l,k,xs,rfl,rfl,B,h1,h2,p,q⟩:=h
 cases D
 obtain⟨t,rfl⟩:=w
 obtain⟨z,b,n,r,hl,e⟩:=I.lstM B
 have g:b.toArray.size*k.toNat<=sizeLine:=by rw[Yn,<- hl];exact p
 have d:¬ b.toArray.size*k.toNat >(2 ^ 63 - 1) / 8:=by
  have:(sizeLine:Nat)<=(2 ^ 63 - 1) / 8:=by decide
  lia
 have i:¬ (!Builtin.List.listFitsIndex k)=true:=by
  rw[fitsIndex_both h1 h2]
  exact YS
 have c:¬ Builtin.List.listTooLong (b.toArray.size*k.toNat)=true:=by
  rw[Mv g]
  exact YS
 have f:List.foldl (λj o=>j++o) #[] (List.replicate (if b.toArray.isEmpty=true then 0 else k.toNat) b.toArray)=(List.replicate k.toNat b).flatten.toArray:=by
  have A:∀ m:Nat,List.foldl (λj o=>j++o) #[] (List.replicate m b.toArray)=(List.replicate m b).flatten.toArray:=λm=>by
   have:=Mu b m []
   rw[Yw]at this
   exact this
  rw[A]
  cases b with
  | nil=>simp
  | cons a r'=>rw[if_neg (by simp)]
 refine wpAny_binaryOp_repeat_ref (T:="list") (U:="int") (by decide) ⟨_,e,rfl⟩ (λs'=>typeIs_int s' k t) noFill_list_mul F.fills_int_mul F.slot_int_rmul repeat_list F.slot_int_index.lookup
  (call_meets F.slot_int_rmul (typeIs_int s k t) F.entry_int_rmul (F.args_int_rmul_2 _ _) (int___rmul___int_list k t l b.toArray n)
   ⟨e,rfl,⟨_,e,rfl⟩,call_meets F.slot_list_mul ⟨_,e,rfl⟩ F.entry_list_mul (F.args_list_mul_2 _ _) (AutoListH.list___mul___list_int_3 l b.toArray n k t i d c) ⟨e,?_⟩⟩)
 rw[f]
 exact⟨.ref _,_,I.lnew (t':=s.toks) (r.rep k.toNat) (by rw[Vt,Nat.mul_comm];exact p),rfl,q _ I.fresh⟩
end
section
variable {prog:Program} {w:World} {A:Around} {E:Value->Shared->Prop} {s:Shared}
end
section
variable {X:Cx}
end
end L2
namespace Att
open PySem PySem.W PySem.Calls PyProof.Rows
variable {P:Params}{h:Heap}
theorem Vv:∀(ns:List Int)(vs:List Value),WellAll P h vs (ns.map WData.int)->IntsAre vs ns:=by
 intro ns
 induction ns with
 | nil =>
  intro vs w
  rw[List.map_nil]at w
  cases w
  exact .nil
 | cons n ns c =>
  intro vs w
  rw[Ym]at w
  cases w with
  | cons a b =>
   cases a
   exact .cons _ _ (c _ b)
variable {l:OpenLaw}{n:Nat}
theorem Vw(s:l.most=some n){args:List WData}{c:List Value}
  (b:l.row.toRowW.claim.pre args=true) (j:WellAll P h c args):
  ∃ a vs ns,c=[Value.ref a]/\args=[WData.list (ns.map WData.int)]/\h.get? a=some {cls:=.type "list",data:=.seq vs.toArray}/\IntsAre vs ns/\ns.length<=n:=by
 have k:WShape.hasAll [] args [.list .int]=true:=(pre_splitW b).1
 have hc:l.pre.holds [] {args:=args}=true:=(pre_splitW b).2
 obtain⟨d,r,rfl,h1,h2⟩:=hasAllW_cons k
 obtain rfl:=hasAllW_nil h2
 obtain⟨xs,rfl,t⟩:=hasW_list h1
 obtain⟨ns,rfl⟩:=items_int t
 have f:ns.length<=n:=by
  unfold OpenLaw.pre at hc
  have g:(WTm.not (.lt (.lit (.int (n:Int))) (.len (.arg 0)))).holds [] {args:=[.list (ns.map .int)]}=true:=by
   have g:=(holds_andW hc).1
   rw[s]at g
   exact g
  have i:=condW_of g (w_not (w_lt w_lit (w_len_list (w_arg rfl))))
  rw[Yh]at i
  refine Nat.le_of_not_lt λq=>?_
  have u:(n:Int) <((ns.length:Nat):Int):=by lia
  first
   |(rw[YH u]at i;exact Qi i (by decide))
   |(simp at i;lia)
 cases j with
 | cons o m =>
  cases m
  cases o with
  | list p e=>exact⟨_,_,ns,rfl,rfl,p,Vv ns _ e,f⟩
theorem Vx(l:OpenLaw)(args:List WData):l.row.toRowW.claim.post args (.bool true) args=true :=
 postW_of (r:=l.row.toRowW) (X:=(true==true))
  (show WShape.has [] (.bool true) .bool=true by first | rfl | decide | simp[WShape.has,WShape.arms,WShape.armsAll])
  (show(WTm.eq .res (.lit (.bool true))).value [] {args:=args,res:=some (.bool true),after:=args}=some (.bool (true==true))from w_eq_bool (w_res rfl) w_lit) rfl
theorem attach_call{q:Program}{loose:List Str}{XP:(Str->Option Value)->Heap->Prop}{YP:World->Heap->Prop}{d:DefRec}
  (H:l.most=some n) (m:d.params.defaults=[])
  (call:∀(w:World)(s₀ b:Shared)(mg mb:Str->Option Value)(j:Addr)(o:Obj)(pm cd c:Value)(a:Addr)(vs:List Value)(ns:List Int),
   Ground q loose [] XP w s₀ mg mb b.heap->YP w b.heap->
   b.heap.get? j=some o->o.data=.func (docDef d.name d.params d.body d.scope pm cd c)->b.heap.CodeRec cd d.name->mg d.name=some (.ref j)->
   b.heap.get? a=some {cls:=.type "list",data:=.seq vs.toArray}->IntsAre vs ns->ns.length<=n->b.gens=#[]->
   codeAny (model l.prog w) callerA (.call (.ref j) ⟨[.ref a],[]⟩) (λr s'=>r=.ok (.ret (.bool true))/\OldK b.heap s'.heap/\s'.os=b.os/\AllBare s'.gens) b):
  WalkO q loose XP YP l.row.toRowW d [] (λf vs=>PySem.call f vs):=by
 intro w s₀ b mg mb G Y j o pm cd c A kV E hd s t p I u x K g v B k F
 obtain rfl:A=.none:=Dflts.none t m
 obtain rfl:kV=.none:=Dflts.noKw t
 obtain⟨a,vs,ns,rfl,rfl,i,e,h⟩:=Vw H g k
 refine enter_call (codeAny_mono (call w s₀ b mg mb j o pm cd c a vs ns G Y E (fd_plain hd) s p i e h I) λr s' y=>?_)
 obtain⟨rfl,h2,z,D⟩:=y
 exact⟨.inl ⟨.bool true,.bool true,[],rfl,λ_=>rfl,.bool true,Vx l _,λ_=>⟨List.Pairwise.nil,λ_ J=>(nomatch J)⟩⟩,h2,z,D⟩
section
variable {prog:Program} {w:World} {A:Around} {E:Value->Shared->Prop} {s:Shared} {K:Frag}
end
end Att
namespace L2
open PySem PySem.Spec PyProof.Rows
theorem Mx:∀{vs:List Value}{ns:List Int},IntsAre vs ns->Vals (ns.map V.int) vs
 | _,_,.nil=>.nil
 | _,_,.cons n t h=>.cons ⟨t,rfl⟩ (Mx h)
def Gh(H:Hp):Prop:=∀ b,H b=none\/∃ o xs,H b=some (.frz o (.lst xs))
variable {K:PySem.W.Frag}{k:Nat}{a:Addr}{x:Str}
theorem Vy{P:Program}{w:World}{mg mb:Str->Option Value}{CX:CXT}{Q:Addr}{fd:FuncData}{sp:Sp}{c:Shared}{vs:List Value}{ns:List Int}
  (KX:K.In c.heap) (l:c.heap.Ns mainGlobals mg) (f:c.heap.Ns builtinsNs mb) (G:∀ x:Str,x≠"__name__"->mb x=bootBuiltins x) (A:c.heap.NoLimit) (hg:c.gens=#[])
  (E:c.heap.get? a=some {cls:=.type "list",data:=.seq vs.toArray}) (hi:IntsAre vs ns) (hl:ns.length<=sizeLine) (Y:Room k callerA)
  (F:∀ base:Heap,K.In base->base.Ns mainGlobals mg->FnOk P w K mg base CX k Q fd [x] sp) (j:∀(s:Shared)(u:Value),BindsTo s fd ⟨[u],[]⟩ [(x,u)])
  (I:∀ H:Hp,Gh H->SqL K H a (ns.map V.int)->sp [.ref a] H (λv _=>v=.bl true) λ_ _ _=>False)
  (O:∀ H e s',CX [] H c (λ_ _ _=>False) e s'->False):
  codeAny (model P w) callerA (.call (.ref Q) ⟨[.ref a],[]⟩) (λr s'=>r=.ok (.ret (.bool true))/\OldK c.heap s'.heap/\s'.os=c.os/\AllBare s'.gens) c:=by
 have R:=Mx hi
 have B:=hi.length
 have i:∀ H:Hp,Gh H->SqL K H a (ns.map V.int)->HOk P w H c.heap->(∀ b,H b≠none->b=a)->(H a≠none->K.lookup a=none)->
   codeAny (model P w) callerA (.call (.ref Q) ⟨[.ref a],[]⟩) (λr s'=>r=.ok (.ret (.bool true))/\OldK c.heap s'.heap/\s'.os=c.os/\AllBare s'.gens) c:=by
  intro H S hS hok T Z
  have base_of:∀{b:Addr}{o:Obj},c.heap.get? b=some o->H b=none->(C9 c.heap H).get? b=some o:=λe n=>S1 e n
  have J:∀{b:Addr}{o:Obj}{es:Array DictEntry}{p:Nat},c.heap.get? b=some o->o.data=.dict es p->H b=none:=λ{b o es p}e d=>by
   cases q:H b with
   | none=>rfl
   | some u =>
    have L:b=a:=T b (by rw[q];simp)
    subst L
    rw[E]at e;cases e
    have X:Data.seq vs.toArray _=Data.dict es p:=d
    cases X
  have g:∀{b:Addr}{m:Str->Option Value},c.heap.Ns b m->(C9 c.heap H).Ns b m:=λ{b m}⟨o,es,p,e,d,r⟩=>⟨o,es,p,base_of e (J e d),d,r⟩
  have t:K.In (C9 c.heap H):=λb o e=>base_of (KX b o e) (by
   cases q:H b with
   | none=>rfl
   | some u =>
    have L:b=a:=T b (by rw[q];simp)
    subst L
    rw[Z (by rw[q];simp)]at e;cases e)
  have hM:Mod K mg (C9 c.heap H):=⟨t,g l,⟨mb,g f,G⟩,let⟨mc,h1,h2⟩:=A;⟨mc,g h1,h2⟩⟩
  have e0:Env0 P w K mg (C9 c.heap H) callerA [] c H:=⟨rfl,hM,λb o e=>S2 e,Nat.le_of_eq (S0 _ _),trivial,λb f=>Qi (show b∈([]:List Addr)from f) (by simp),hok,.of_eq hg⟩
  refine codeAny_mono ((F _ t (g l)).run callerA [] c H ⟨[.ref a],[]⟩ [.ref a] [.ref a] _ _ Y e0 (j c (.ref a)) (.cons rfl .nil) (I H S hS)) λr s' h=>?_
  cases r with
  | error e=>exact(O H e s' h).elim
  | ok fl =>
   cases fl with
   | next=>exact Qd h
   | brk=>exact Qd h
   | cont=>exact Qd h
   | ret u =>
    obtain⟨v,H',os,bare,un,y,r',q⟩:=h
    have q':v=.bl true:=q
    subst q'
    obtain rfl:u=Value.bool true:=r'
    refine⟨rfl,OldK.of_keep λb o e=>?_,os,bare⟩
    cases q:H b with
    | none=>exact un.keep b o e q (by intro z;exact Qi (show b∈([]:List Addr)from z) (by simp)) (by simp)
    | some u =>
     rcases S b with z |⟨ob,xs,z⟩
     ·rw[q]at z;cases z
     ·have z2:=un.frzs b ob _ z
      obtain⟨U,_⟩:=hok b _ z
      obtain⟨e2,_⟩:=y b _ z2
      rw[e]at U;cases U
      exact e2
 cases N:K.lookup a with
 | some o =>
  have e:=KX a o N
  rw[E]at e
  cases e
  refine i (λ_=>none) (λ_=>.inl rfl) (.inr ⟨_,vs.toArray,_,N,rfl,rfl,rfl,by rw[Yn,B];exact hl,by simpa using R⟩) (λb u z=>by have D:(none:Option HO)=some u:=z;cases D) (λb z=>Qi rfl z) λz=>Qi rfl z
 | none =>
  refine i (λb=>if b=a then some (.frz {cls:=.type "list",data:=.seq vs.toArray} (.lst (ns.map V.int)))else none) (λb=>?_) (.inl (.inr ⟨{cls:=.type "list",data:=.seq vs.toArray},if_pos rfl⟩)) (λb u z=>?_) (λb z=>?_) λ_=>N
  ·by_cases f:b=a
   ·exact .inr ⟨_,_,if_pos f⟩
   ·exact .inl (if_neg f)
  ·by_cases f:b=a
   ·have D:=(if_pos f).symm.trans z
    cases D
    subst f
    exact⟨E,by rw[Yh];exact hl,vs,_,R,E⟩
   ·have D:=(if_neg f).symm.trans z
    cases D
  ·by_cases f:b=a
   ·exact f
   ·exact Qi (if_neg f) z
abbrev KOf{K:PySem.W.Frag}{h:Heap}(_:K.In h):PySem.W.Frag:=K
theorem Vz{l:PySem.W.OpenLaw}{n:Nat}{q:Program}{loose:List Str}{XP:(Str->Option Value)->Heap->Prop}{YP:World->Heap->Prop}{d:DefRec}{K:Params->PySem.W.Frag}{CX:World->CXT}{sp:World->Sp}
  (L:l.most=some n) (r:n<=sizeLine) (z:d.params.defaults=[]) (D:Room k callerA)
  (P:∀(w:World)(h:Heap),YP w h->(K w.params).In h)
  (F:∀(w:World)(mg:Str->Option Value)(p:Addr)(h:Heap),(K w.params).In h->h.Ns mainGlobals mg->mg d.name=some (.ref p)->
   ∃ fd:FuncData,(∀(s:Shared)(u:Value),BindsTo s fd ⟨[u],[]⟩ [(x,u)])/\
    ∀ base:Heap,(K w.params).In base->base.Ns mainGlobals mg->FnOk l.prog w (K w.params) mg base (CX w) k p fd [x] (sp w))
  (t:∀(w:World)(H:Hp)(a:Addr)(ns:List Int),ns.length<=n->Gh H->SqL (K w.params) H a (ns.map V.int)->sp w [.ref a] H (λv _=>v=.bl true) λ_ _ _=>False)
  (y:∀(w:World)(H:Hp)(s:Shared)(e:Value)(s':Shared),CX w [] H s (λ_ _ _=>False) e s'->False):
  PySem.W.WalkO q loose XP YP l.row.toRowW d [] (λf vs=>PySem.call f vs):=by
 refine Att.attach_call L z λw s₀ j mg mb p o pm cd B a vs ns G Y R hd Q A m i c N=>?_
 have KX:=P w _ Y
 obtain⟨fd,J,O⟩:=F w mg p _ KX G.T.g A
 exact Vy KX G.T.g G.T.b G.T.builtins G.T.nolimit N m i (Yt c r) D O J (λH E I=>t w H a ns c E I) λH e s'=>y w H j e s'
abbrev CX0:CXT:=λ_ _ _ _ _ _=>False
abbrev E0:XK:=λ_ _ _=>False
structure Fun(K:PySem.W.Frag)(x qual:Str)(st:Stmt)(f:Addr)(fd:FuncData):Prop where
 ex:∃(oc:Value)(od:Option Addr)(kV doc pm:Value)(an:Option Addr)(cdv ct:Value)(osl:Array (Option Value)),
  fd=PySem.W.fnOf x qual (Bj st) (AC st) (Aj st) .none kV doc pm an cdv ct/\K.lookup f=some ⟨oc,od,.func fd,osl⟩/\PySem.W.codeIn K cdv qual=true
 kp:PySem.W.keepIn K (.ref f)=true
section
variable {P:Program} {w:World} {K:PySem.W.Frag} {mg:Str->Option Value} {base:Heap}
variable {qual:Str}{st:Stmt}{f:Addr}{fd:FuncData}{ps:List Str}
theorem Fun.ok{N:List Str}{sp:Sp}(F:Fun K x qual st f fd)(S:Ay N ps (Aj st))(len:∀ vs H Q E,sp vs H Q E->vs.length=ps.length)
  (a:∀(cdv:Value)(A:Around)(outer:List Env)(s:Shared)(H:Hp)(vs:List V)(Q:VK)(E:XK),Room k (A.deeper (envOfC qual (Aj st) s.heap.objs.size f cdv))->sp vs H Q E->
   ∃ t,PSs (A6 CX0 P w K mg base N qual (Aj st) f cdv A outer s H E).nox (AC st) t/\t {nx:=λ_ H'=>Q .non H',rt:=Q} (BQ N vs) H):FnOk P w K mg base CX0 (k+1) f fd ps sp:=by
 obtain⟨l,j,kV,i,pm,m,cdv,ct,g,rfl,e,c⟩:=F.ex
 refine EG e c S len λA outer s H vs Q E d b=>?_
 obtain⟨t,h,q⟩:=a cdv A outer s H vs Q E d b
 exact⟨t,h.nox,q⟩
theorem Fun.binds(F:Fun K x qual st f fd)
  (h:∀(kV a pm:Value)(b:Option Addr)(cdv ct:Value)(us:List Value),us.length=ps.length->bindArgs (PySem.W.fnOf x qual (Bj st) (AC st) (Aj st) .none kV a pm b cdv ct) ⟨us,[]⟩=pure (ps.zip us)):Binds K fd ps []:=by
 obtain⟨i,e,kV,a,pm,b,cdv,ct,c,rfl,g,d⟩:=F.ex
 exact .all (h kV a pm b cdv ct)
theorem My{g:Value}{e d:Option Addr}{b:Array (Option Value)}{kV a pm cdv ct:Value}(l:K.lookup f=some ⟨g,e,.func (PySem.W.fnOf x qual (Bj st) (AC st) (Aj st) .none kV a pm d cdv ct),b⟩)
  (c:PySem.W.codeIn K cdv qual=true) (k:PySem.W.keepIn K (.ref f)=true):Fun K x qual st f (PySem.W.fnOf x qual (Bj st) (AC st) (Aj st) .none kV a pm d cdv ct):=⟨⟨g,e,kV,a,pm,d,cdv,ct,b,rfl,l,c⟩,k⟩
end
section
variable {X:Cx}
end
theorem Ds{c A B:Prop}[Decidable c](h1:c->A)(h2:¬ c->B):if c then A else B:=by
 by_cases h:c
 ·rw[if_pos h]
  exact h1 h
 ·rw[if_neg h]
  exact h2 h
def Same(H H':Hp):Prop:=∀ b o,H b=some o->H' b=some o
theorem Same.refl(H:Hp):Same H H:=λ_ _ h=>h
variable {H:Hp}
theorem Same.trans{H1 H2:Hp}(a:Same H H1)(b:Same H1 H2):Same H H2:=λc o h=>b c o (a c o h)
variable {H':Hp}
theorem Same.free(e:Same H H'){l:Addr}(h:H' l=Option.none):H l=Option.none:=by
 cases q:H l with
 | none=>rfl
 | some o =>
  rw[e l o q]at h
  cases h
theorem Same.seq{xs:List V}(e:Same H H')(h:SqL K H a xs):SqL K H' a xs:=by
 rcases h with(h |⟨o,h⟩)| h
 ·exact .inl (.inl (e _ _ h))
 ·exact .inl (.inr ⟨o,e _ _ h⟩)
 ·exact .inr h
end L2
namespace L3
open PySem PySem.Spec PyProof.Rows L2
namespace Tb
def hop(M:Nat):Nat->Nat->Nat
 | 0,i=>i
 | n+1,i=>hop M n ((i*5+1) % M)
def cover(M:Nat):Bool:=(List.range M).all λi=>(List.range M).all λj=>(List.range M).any λn=>hop M n i==j
end Tb
def bt(w:World):Bool:=w.params.followText "set-order"
structure Tab(w:World)(es:Array (Int×Value))(t:SetTable)(ks:List Str):Prop where
 el:∀ e∈es.toList,∃ x u,e=(hashStr w x,Value.str x u)
 pm:(es.toList.map λe=>strOf e.2).Perm ks
 nd:ks.Nodup
 ft:t.fits es.size=true
 ld:bt w=false->t.led=true
 pl:t.plain=true->ks=[]
def SS(w:World)(h:Heap)(a:Addr)(ks:List Str):Prop:=∃ o es ep t,h.get? a=some o/\o.ExactSet/\o.data=.set es ep t/\Tab w es t ks
namespace Tab
variable {w:World} {es es':Array (Int×Value)} {t t':SetTable} {ks ks':List Str}
theorem len(T:Tab w es t ks):es.size=ks.length:=by
 have:=T.pm.length_eq
 rw[Yh,YR]at this
 exact this
theorem mem(T:Tab w es t ks)(k:Str):k∈ks↔∃ e∈es.toList,Value.isStrOf k e.2=true:=by
 rw[<- T.pm.mem_iff,YC]
 constructor
 ·rintro⟨e,a,rfl⟩
  obtain⟨x,u,rfl⟩:=T.el e a
  exact⟨_,a,by show Value.isStrOf x (.str x u)=true;simp[Value.isStrOf]⟩
 ·rintro⟨e,a,h⟩
  obtain⟨x,u,rfl⟩:=T.el e a
  refine⟨_,a,?_⟩
  obtain⟨t,b⟩:=Value.isStrOf_shape h
  injection b
end Tab
section
variable {prog:Program} {w:World} {A:Around} {E:Value->Shared->Prop} {s:Shared}
end
section
variable {prog:Program} {w:World} {A:Around} {E:Value->Shared->Prop} {s:Shared}
variable {h:Heap}{a:Addr}{ks:List Str}
theorem SS.kept{h':Heap}(S:SS w h a ks)(k:∀ o,h.get? a=some o->h'.get? a=some o):SS w h' a ks:=by
 obtain⟨o,es,c,t,b,r⟩:=S
 exact⟨o,es,c,t,k o b,r⟩
theorem SS.nd(S:SS w h a ks):ks.Nodup:=by
 obtain⟨o,es,c,t,b,_,_,T⟩:=S
 exact T.nd
end
section
variable {prog:Program} {w:World} {A:Around} {E:Value->Shared->Prop} {s:Shared}
end
section
variable {prog:Program} {w:World} {A:Around} {E:Value->Shared->Prop} {s:Shared}
end
section
variable {prog:Program} {w:World} {A:Around} {E:Value->Shared->Prop} {s:Shared}
end
section
variable {prog:Program} {w:World} {A:Around} {E:Value->Shared->Prop} {s:Shared}
end
end L3
namespace L2
open PySem PySem.Spec PyProof.Rows
section
variable {prog:Program} {w:World} {A:Around} {R:Result->Shared->Prop} {s:Shared}
theorem VB{elt target iter:Expr}{ifs:List Expr}{scope:Scope}{pos:Pos}{it k:Value}{env:Env}{E':Value->Shared->Prop}(I:Nat->Shared->Prop)
  (l:∀ e s',E' e s'->notedBy (model prog w) A env (λe s'=>R (.error e) s') e s')
  (q:∀ n s,I n s->wpAny (model prog w) A (pyNext it) (λr b=>match r with
   | none=>R (.ok .next) b
   | some v=>wpAny (model prog w) A (letOwnedTupleGo target it v) (λ_ s₁'=>wpAny (model prog w) A (assign target env v) (λ_ f=>
     wpAny (model prog w) A (forIn ifs true λc r=>if r=true then do let ok <- isTrue c env (eval c env);pure (ForInStep.yield ok)else pure (ForInStep.yield r)) (λok a=>
      if ok=true then wpAny (model prog w) A (eval elt env) (λx d=>
       wpAny (model prog w) A (call (.builtin "list.append") [k,x]) (λ_ g=>∃ m,m < n/\I m g) E' d) E' a
      else ∃ m,m < n/\I m a) E' f) E' s₁') E' b) E' s)
  (n:Nat) (h:I n s):
  codeAny (model prog w) A (.compLoop (.ListComp elt [⟨target,iter,ifs,0⟩] scope pos) 0 it k env) R s:=by
 refine codeAny_loop rfl I (λn s u=>?_) n h
 show wpAny _ A ((compTurn (.ListComp elt [⟨target,iter,ifs,0⟩] scope pos) 0 it k env).onRaise (λx=>do noteFrame x env;theTreesLotGoes x)) _ _ s
 refine wpAny_noted ?_
 rw[compTurn_list]
 refine Qj (wpAny_standAt (Qj (wpAny_mono (q n s u) (λr b j=>?_) l)))
 cases r with
 | none=>exact Qk j
 | some v =>
  refine Qj (wpAny_mono j (λ_ s₁' h₁'=>?_) l)
  refine Qj (wpAny_mono h₁' (λ_ f p=>Qj (wpAny_mono p (λok a i=>?_) l)) l)
  cases ok with
  | false=>exact Qk ⟨rfl,i⟩
  | true =>
   exact Qj (Qj (wpAny_mono i (λx d o=>Qj (wpAny_mono o (λ_ g t=>Qk (Qk ⟨rfl,t⟩)) l)) l))
end
def PF(X:Cx)(ifs:List Expr)(t:TT):Prop :=
 ∀(pins:List (Addr×Obj))(s:Shared)(σ:St)(H:Hp)(Q:Bool->Hp->Prop),Inv X pins σ H s->t σ H Q->
  wpAny (model X.prog X.w) X.A (forIn ifs true λc r=>if r=true then do let ok <- isTrue c X.env (eval c X.env);pure (ForInStep.yield ok)else pure (ForInStep.yield r)) (TP X pins σ Q) X.xe s
def VC:TT:=λ_ H Q=>Q true H
variable {X:Cx}
theorem VD:PF X [] VC:=λ_ _ _ H _ I h=>wpAny_tests_nil ⟨H,I,h⟩
def cxB(X:Cx)(Nc:List Str)(scope:Scope)(cl:List (Str×Addr))(C:Addr)(fp:List Addr)(s:Shared)(H:Hp):Cx :=
 {X with N:=Nc,s₀:=s,H₀:=H,env:=compEnvC scope cl C X.env,outer:=X.stack,ex:=fp,fn:=λ_=>false,pn:=[],xe:=λ_ _=>False}
structure Blk(X:Cx)(Nc:List Str)(scope:Scope)(cl:List (Str×Addr))(cap:St->St):Prop where
 clos:closureFor scope X.env=pure cl
 kind:scope.kind=.function
 names:∀ x∈scope.names,x.2=.local->scope.names.lookup x.1=some .local
 nocell:∀ y∈scope.names,y.2≠.cell
 sub:∀ y c,cl.lookup y=some c->X.env.cells.lookup y=some c
 has:∀ y,((relabel scope X.env).names.lookup y=some .cell\/(relabel scope X.env).names.lookup y=some .free)->∃ c,cl.lookup y=some c
 take:∀(σ:St)(i:Nat)(y:Str)(v:V),Nc[i]?=some y->(cap σ)[i]?=some (some v)->Vis (relabel scope X.env) y->
  ((relabel scope X.env).names.lookup y=some .cell\/(relabel scope X.env).names.lookup y=some .free)/\Vis X.env.scope y/\X.env.scope.names.lookup y≠some .local/\∃ j:Nat,X.N[j]?=some y/\σ[j]?=some (some v)
 len:∀ σ:St,(cap σ).length=Nc.length
variable {scope:Scope}
theorem VE{env:Env}(h:∀ y∈scope.names,y.2≠.free):relabel scope env=scope:=by
 unfold relabel
 rw[map_eq_self (l:=scope.names) (λx a=>by
  obtain⟨n,k⟩:=x
  have:(k==NameKind.free)=false:=by simpa using h _ a
  simp[this])]
variable {x:Str}
theorem Jp{names:List (Str×NameKind)}{k:NameKind}(h:names.lookup x=some k):(x,k)∈names:=PySem.mem_of_lookup h
theorem Dt{Nc:List Str}(kind:scope.kind=.function)(all:∀ y∈scope.names,y.2≠.free/\y.2≠.cell)(names:∀ x∈scope.names,x.2=.local->scope.names.lookup x.1=some .local):
  Blk X Nc scope [] (λ_=>List.replicate Nc.length none) where
 clos:=closureFor_none λx b=>(all x b).1
 kind:=kind
 names:=names
 nocell:=λy d=>(all y d).2
 sub:=λy c h=>by cases h
 has:=λy h=>by
  rw[VE λz a=>(all z a).1]at h
  rcases h with h | h
  ·exact Qi rfl (all _ (Jp h)).2
  ·exact Qi rfl (all _ (Jp h)).1
 take:=λσ i y v h1 h2 e=>by
  rw[List.getElem?_replicate]at h2
  split at h2 <;> cases h2
 len:=λσ=>List.length_replicate ..
def cOk(cap:St->St)(g:TG)(tt:TT)(te:TE)(K:List V->Hp->Prop)(σ:St)(J:It)(H1:Hp):Prop :=
 ∃ W:Nat->Nat->St->Hp->List V->Prop,(∃ m,W 0 m (cap σ) H1 [])/\∀ i m σ' H' ys,W i m σ' H' ys->
  (J.stop i H'/\K ys H')\/
  (J.go i H'/\ys.length < sizeLine/\∃ N:St->Hp->List V->Prop,(∀ σ2 H2 ys2,N σ2 H2 ys2->∃ m',m' < m/\W (i+1) m' σ2 H2 ys2)/\
   ∀ x H2,J.yld i H' x H2->g x σ' H2 λσ3 H3=>tt σ3 H3 λb H4=>if b=true then te σ3 H4 λy H5=>N σ3 H5 (ys++[y])else N σ3 H4 ys)
def Gi(wi:TI)(cap:St->St)(g:TG)(tt:TT)(te:TE):TE:=λσ H Q=>wi σ H λJ H1=>cOk cap g tt te (λys H'=>∀ a,H' a=none->Q (.ref a) (upd H' a (.lst ys))) σ J H1
section
variable {X:Cx} {elt tg iter:Expr} {ifs:List Expr} {scope:Scope} {pos:Pos} {g:TG} {tt:TT} {te:TE} {Nc:List Str} {cap:St->St} {cl:List (Str×Addr)}
theorem Mz(hc:X.calm=true)(B:Blk X Nc scope cl cap)(hg:∀ C fp s H,PG (cxB X Nc scope cl C fp s H) tg g)(ht:∀ C fp s H,PF (cxB X Nc scope cl C fp s H) ifs tt)(he:∀ C fp s H,PE (cxB X Nc scope cl C fp s H) elt te)
  {pins:List (Addr×Obj)} {σ:St} {H2:Hp} {P:Shared} {E:Value->Shared->Prop} {RR:Value->Addr->Result->Shared->Prop} {J:It} {fp:List Addr} {it:Addr} {tn:Nat->Heap->Prop} {K:List V->Hp->Prop}
  (F:Inv X pins σ H2 P) (T:Dp X.prog X.w X.K tg J fp it tn) (st2:tn 0 P.heap) (f2:∀ b∈fp,CB X pins H2 b) (w2:cOk cap g tt te K σ J H2)
  (fin:∀(D C:Addr)(s':Shared)(H':Hp)(ys:List V)(oC:Obj),H' D=none->K ys H'->Inv X pins σ (upd H' D (.lst ys)) s'->CB X pins (upd H' D (.lst ys)) C->s'.heap.get? C=some oC->(∀ v,oC.data≠.cell v)->(∃ m,s'.heap.Ns C m)->RR (.ref D) C (.ok .next) s'):
  wpAny (model X.prog X.w) X.A (newList []) (λacc s₃=>wpAny (model X.prog X.w) X.A (newFunctionEnv scope X.env.globals cl [] X.env.qual none .none (some X.env)) (λcenv s₄=>
   codeAny (model X.prog X.w) X.A (.compStart (.ListComp elt [⟨tg,iter,ifs,0⟩] scope pos) 0 (.ref it) acc {cenv with scope:=relabel scope X.env}) (RR acc cenv.locals) s₄) E s₃) E P:=by
 refine wpAny_newObj_type (wpAny_newFunctionEnv B.nocell (by intro y hy;simp at hy) (λU G t=>?_) B.kind)
 dsimp only at G t ⊢
 generalize hP2:P.heap.push {cls:=.type "list",dict:=none,data:=.seq ([]:List Value).toArray}=P2 at G t ⊢
 generalize L:P.heap.objs.size=D at G t ⊢
 have hCs:P2.objs.size=D+1:=by rw[<- hP2,Qo,L]
 generalize hCC:P2.objs.size=C at G t hCs ⊢
 have hDC:D≠C:=Ys (by rw[hCs];exact Nat.lt_succ_self _)
 have R:∀ b:Addr,b < D->b≠C:=λb h=>Ys (by rw[hCs];exact Nat.lt_succ_of_lt h)
 have leC:D<=C:=by rw[hCs];exact Nat.le_succ _
 have old:∀ b o,P.heap.get? b=some o->U.get? b=some o:=λb o e=>by
  have f:=Qm e
  rw[L]at f
  refine t.extBut b o (R b f) (Ql _ ?_)
  rw[<- hP2]
  exact Ql _ e
 have hacc:U.get? D=some {cls:=.type "list",data:=.seq #[]}:=by
  refine t.extBut D _ hDC (Ql _ ?_)
  rw[<- hP2,<- L]
  exact Qn _ rfl
 have lt2:∀ b o,P.heap.get? b=some o->b < D:=λb o e=>by rw[<- L];exact Qm e
 have S:∀ b∈fp,b < D:=λb f=>by
  obtain⟨o,e,_⟩:=T.obj _ _ st2 b f
  exact lt2 b o e
 have celt:∀ x c,X.env.cells.lookup x=some c->c < D:=λx c e=>by
  obtain⟨v,z⟩:=F.cell x c e
  rw[<- L]
  exact z.lt
 have Q:∀ p∈X.pn++pins,p.1 < D:=λp hp=>lt2 _ _ (F.pin p hp).1
 have fstk:∀ b∈fp,b∉frs X.stack:=λb f z=>(Yo.mp (F.stkSub b z)).elim (f2 b f).2.1 (f2 b f).2.2.1
 have hDn:H2 D=none:=F.hok.fresh (by rw[L];exact Yr _)
 have hCn:H2 C=none:=F.hok.fresh (by rw[L];exact leC)
 have sz0:X.s₀.heap.objs.size<=D:=by rw[<- L];exact F.sz
 let Xc:=cxB X Nc scope cl C fp P H2
 have okc:Xc.Ok:=by
  refine⟨F.ok.mod,?_,F.ok.glob,F.ok.blt,?_,λx y c h1 h2=>F.ok.inj x y c (B.sub x c h1) (B.sub y c h2),λx hx=>B.has x hx,(λx c h=>by cases h),F.ok.hd,F.ok.frames,.inl rfl,?_,F.bs,Yt F.ok.bsz F.sz,?_,fstk,F.stack,F.stkFree⟩
  ·exact B.kind
  ·show P.heap.objs.size<=C
   rw[L];exact leC
  ·intro b f
   refine⟨?_,λx c e=>?_⟩
   ·exact R b (S b f)
   ·exact(f2 b f).2.2.2.2.1 x c (B.sub x c e)
  ·intro b o e f
   rcases(f2 b f).2.2.2.1 with z | z
   ·exact F.ok.noex b o e z
   ·exact Qi (Yu (Qm (F.ok.bs b o e).1) z) (YJ _)
 have I0:∀ tk,Inv Xc (X.pn++pins) (cap σ) H2 {P with heap:=U,toks:=tk}:=λtk=>by
  refine⟨okc,rfl,F.bare,Un.kept old,⟨_,G,λi y v h1 h2 h3=>?_⟩,λx c e=>?_,hCn,λx c e=>F.freeC x c (B.sub x c e),λp hp=>?_,F.hok.kept old,B.len σ⟩
  ·obtain⟨k1,k2,k3,j,k4,k5⟩:=B.take σ i y v h1 h2 h3
   obtain⟨m,hn,hl⟩:=F.loc
   obtain⟨u,r,l⟩:=hl j y v k4 k5 k2
   refine⟨u,r,.inr ⟨k1,?_⟩⟩
   rcases l with⟨l,_⟩|⟨_,c,e,z⟩
   ·exact Qi l k3
   ·obtain⟨c',e'⟩:=B.has y k1
    have:=B.sub y c' e'
    rw[e]at this;cases this
    obtain⟨oc,ec,dc⟩:=z
    exact⟨c,e',oc,old _ _ ec,dc⟩
  ·obtain⟨v,oc,ec,dc⟩:=F.cell x c (B.sub x c e)
   exact⟨v,oc,old _ _ ec,dc⟩
  ·have Y:p∈X.pn++pins:=by simpa[Xc,cxB]using hp
   obtain⟨e,n,ne,nf,d⟩:=F.pin p Y
   exact⟨old _ _ e,n,R _ (Q p Y),λz=>(Yo.mp (F.stkSub _ z)).elim ne nf,d⟩
 have fpc:∀{H':Hp}{o:Obj},(∀ b∈fp,H' b=none)->∀ b∈fp,CB Xc ((X.pn++pins)++[(D,o)]) H' b:=λ{H' o}hn b f=>by
  refine⟨hn b f,R b (S b f),fstk b f,.inl f,λx c e=>(f2 b f).2.2.2.2.1 x c (B.sub x c e),λp hp=>?_⟩
  ·have Y:p∈X.pn++pins\/p=(D,o):=by
    rcases Yz.mp hp with z | z
    ·cases z
    ·rcases Yz.mp z with z | z
     ·exact .inl z
     ·exact .inr (YA.mp z)
   rcases Y with z | z
   ·exact(f2 b f).2.2.2.2.2 p z
   ·subst z
    exact Nat.ne_of_gt (S b f)
 obtain⟨W,⟨m0,w0⟩,turn⟩:=w2
 have loop:∀ tk,codeAny (model X.prog X.w) X.A (.compLoop (.ListComp elt [⟨tg,iter,ifs,0⟩] scope pos) 0 (.ref it) (.ref D) Xc.env) (RR (.ref D) C) {P with heap:=U,toks:=tk}:=by
  intro tk
  refine VB (E':=λ_ _=>False)
   (λn s'=>∃(i:Nat)(σ':St)(H':Hp)(ys:List V)(I:List Value)(k:Nat),Inv Xc (X.pn++pins) σ' H' s'/\tn i s'.heap/\(∀ b∈fp,H' b=none)/\H' D=none/\s'.heap.get? D=some {cls:=.type "list",data:=.seq I.toArray k}/\
    Vals ys I/\ys.length<=sizeLine/\W i n σ' H' ys) (λ_ _ z=>z.elim) ?_ m0
   ⟨0,cap σ,H2,[],[],0,I0 tk,T.keep _ _ _ st2 λb _ o e=>old b o e,λb f=>(f2 b f).1,hDn,hacc,.nil,YT _,w0⟩
  rintro n s3 ⟨i,σ3,Z,ys,I,k,I3,st3,fr3,hD3,o3,rv3,hz3,w3⟩
  have I3':Inv Xc ((X.pn++pins)++[(D,{cls:=.type "list",data:=.seq I.toArray k})]) σ3 Z s3:=I3.pins_of λp hp=>by
   have Y:p∈X.pn++pins\/p=(D,{cls:=.type "list",data:=.seq I.toArray k}):=by
    rcases Yz.mp hp with z | z
    ·exact .inl z
    ·exact .inr (YA.mp z)
   rcases Y with z | z
   ·exact I3.pin p (by simpa[Xc,cxB]using z)
   ·subst z
    refine⟨o3,hD3,hDC,λz=>?_,(λv z=>by cases z)⟩
    ·obtain⟨_,o,ho,_⟩:=F.stack.mem z
     exact Qi (lt2 _ _ ho) (YJ _)
  rcases turn i n σ3 Z ys w3 with⟨stop,qn⟩|⟨go,hlt,N,hN,step⟩
  ·refine thn (T.done Xc rfl rfl rfl hc i _ s3 σ3 Z _ I3' (fpc fr3) st3 stop) λr s4 zz1=>?_
   obtain⟨hr,I4⟩:=zz1
   subst hr
   have pD:=I4.pin (D,{cls:=.type "list",data:=.seq I.toArray k}) (by simp)
   obtain⟨m4,hn4,_⟩:=I4.loc
   obtain⟨oC,es,ep,eC,dC,rC⟩:=id hn4
   have hD4:Z D=none:=hD3
   have hC4:Z C=none:=I4.free
   have O:∀ b u,Z b=some u->upd Z D (.lst ys) b=some u:=λb u e=>by rw[AQ (DY e hD4)];exact e
   have un:Un (frs X.stack) fp H2 (upd Z D (.lst ys)) P.heap s4.heap:=by
    have u:=I4.base
    refine⟨u.keep,u.slot,λb o e n hx=>?_,u.there,λb xs e=>O _ _ (u.tups b xs e),λb o v e=>O _ _ (u.frzs b o v e),λb ps e=>?_⟩
    ·rw[AQ (Ys (lt2 b o e))]
     exact u.free b o e n hx
    ·obtain⟨more,q⟩:=u.tbls b ps e
     exact⟨more,O _ _ q⟩
   have hok:HOk X.prog X.w (upd Z D (.lst ys)) s4.heap:=λb u e=>by
    by_cases f:b=D
    ·subst f
     rw[BP]at e;cases e
     exact⟨hz3,I,k,rv3,pD.1⟩
    ·rw[AQ f]at e
     exact(I4.hok b u e).stay (λ_ _ _ q=>q) (λc q=>O _ _ q) λc xs q=>O _ _ q
   have I5:Inv X pins σ (upd Z D (.lst ys)) s4:=F.call' (ch:=fp) I4.os un hok I4.bare λb f=>⟨(f2 b f).2.2.2.1,(f2 b f).2.1,(f2 b f).2.2.2.2.1,(f2 b f).2.2.2.2.2⟩
   refine fin D C s4 Z ys oC hD4 qn I5 ⟨?_,?_,λz=>?_,.inr (Yt sz0 leC),λx c e=>?_,λp hp=>?_⟩ eC (λv z=>by rw[dC]at z;cases z) ⟨m4,hn4⟩
   ·rw[AQ (YU hDC)];exact hC4
   ·have:=F.lt
    rw[L]at this
    exact YU (R _ this)
   ·exact F.nofs (a:=C) (by rw[L];exact leC) z
   ·exact R _ (celt x c e)
   ·exact R _ (Q p hp)
  ·refine thn (T.item Xc rfl rfl rfl hc i _ s3 σ3 Z _ I3' (fpc fr3) st3 go) λr s4 zz2=>?_
   obtain⟨u,hr,h4⟩:=zz2
   subst hr
   refine thn h4 λ_ s5 zz3=>?_
   obtain⟨x,H5,I5,r5,y5,st5,fr5⟩:=zz3
   have I5':=I5.pinned (fpc fr5) (T.obj _ _ st5)
   refine thn (hg C fp P H2 _ s5 σ3 H5 x u _ I5' r5 (step x H5 y5)) λ_ s6 zz4=>?_
   obtain⟨σ6,H6,I6,q6⟩:=zz4
   refine thn (ht C fp P H2 _ s6 σ6 H6 _ I6 q6) λok s7 zz5=>?_
   obtain⟨H7,I7,q7⟩:=zz5
   have again:∀{σ8:St}{H8:Hp}{s8:Shared},Inv Xc (((X.pn++pins)++[(D,{cls:=.type "list",data:=.seq I.toArray k})])++EB fp s5.heap) σ8 H8 s8->
     tn (i+1) s8.heap/\(∀ b∈fp,H8 b=none)/\s8.heap.get? D=some {cls:=.type "list",data:=.seq I.toArray k}/\H8 D=none:=λ{σ8 H8 s8}I8=>by
    refine⟨T.keep _ _ _ st5 λb f o e=>(I8.pin (b,o) (YL _ (YL _ (Fl f e)))).1,λb f=>?_,?_⟩
    ·obtain⟨o,e,d⟩:=T.obj _ _ st5 b f
     exact(I8.pin (b,o) (YL _ (YL _ (Fl f e)))).2.1
    ·have:=I8.pin (D,{cls:=.type "list",data:=.seq I.toArray k}) (by simp)
     exact⟨this.1,this.2.1⟩
   cases ok with
   | false =>
    rw[if_neg YS]at q7 ⊢
    obtain⟨m',hm,w7⟩:=hN _ _ _ q7
    obtain⟨t7,f7,o7,d7⟩:=again I7
    exact⟨m',hm,i+1,σ6,H7,ys,I,k,I7.unpinned.unpinned,t7,f7,d7,o7,rv3,hz3,w7⟩
   | true =>
    rw[if_pos rfl]at q7 ⊢
    refine thn (he C fp P H2 _ s7 σ6 H7 _ I7 q7) λy s8 zz6=>?_
    obtain⟨yv,H8,I8,r8,q8⟩:=zz6
    obtain⟨m',hm,w8⟩:=hN _ _ _ q8
    obtain⟨t8,f8,o8,d8⟩:=again I8
    have hlen:=rv3.length
    refine wpAny_list_append_plain (s:=s8) (items:=I.toArray) ⟨k,o8⟩ (λh9 zz7 sb9=>?_) (by rw[Yn];lia)
    obtain⟨k9,l9⟩:=zz7
    have I9:Inv Xc (X.pn++pins) σ6 H8 {s8 with heap:=h9}:=by
     refine I8.unpinned.unpinned.turned (t':=s8.toks) (λb o f e=>(sb9.2 b f).trans e) d8 ?_ (.inr ?_) (λx c e=>?_) λp hp=>?_
     ·exact hDC
     ·show P.heap.objs.size<=D
      rw[L];exact Yr _
     ·exact Ys (celt x c (B.sub x c e))
     ·exact Ys (Q p (by simpa[Xc,cxB]using hp))
    refine⟨m',hm,i+1,σ6,H8,ys++[yv],I++[y],k9,I9,?_,f8,d8,?_,rv3.append (.cons r8 .nil),?_,w8⟩
    ·refine T.keep _ _ _ t8 λb f o e=>?_
     exact(sb9.2 b (Ys (S b f))).trans e
    ·rw[l9]
     simp
    ·rw[Yj,List.length_singleton]
     lia
 have env_eq:Xc.env=compEnvC scope cl C X.env:=rfl
 exact codeAny_compStart_list (loop _) (T.self _ 0 _ _ _ (T.keep _ _ _ st2 λb _ o e=>old b o e) (loop _))
theorem MA{d:TI}(hc:X.calm=true)(hi:PI X tg iter d)(B:Blk X Nc scope cl cap)(K:∀ C fp s H,PG (cxB X Nc scope cl C fp s H) tg g)(u:∀ C fp s H,PF (cxB X Nc scope cl C fp s H) ifs tt)(O:∀ C fp s H,PE (cxB X Nc scope cl C fp s H) elt te)
  (r:∀ x,foldedSetIterable iter X.env x=pure x:=by intro _;rfl):PE X (.ListComp elt [⟨tg,iter,ifs,0⟩] scope pos) (Gi d cap g tt te):=by
 intro pins s σ H Q I h
 rw[eval_ListComp]
 refine wpAny_comprehension_free (use:=none) rfl r B.clos B.kind B.names (thn (hi pins s σ H _ I h) λv S h1=>thn h1 λn s2 h2=>?_)
 obtain⟨R,fp,Y,J,H2,e,i,T,a,p,y⟩:=h2
 subst e
 refine Mz (RR:=λc C=>compPost (model X.prog X.w) X.A X.xe none (EP X pins σ Q) c C) hc B K u O i T a p y ?_
 intro D C s' H' ys U j q f F Z P ⟨m,G⟩
 obtain⟨k,t,_,z,L,N⟩:=F
 exact⟨m,G,λh' l=>⟨.ref D,_,f.turned (t':=s'.toks) (λb o E e=>(l.2 b E).trans e) k t z L N,rfl,q D j⟩⟩
theorem VF{K:TI}{i:Nat}{pos' a:Pos}(hN:X.N.Nodup)(f:X.N[i]?=some x)(G:X.env.scope.names.lookup x=some .local)(l:swapsWith (.ListComp elt [⟨tg,iter,ifs,0⟩] scope pos) (some (.Name x pos')) a.line X.env=pure true)
  (hc:X.calm=true) (hi:PI X tg iter K) (B:Blk X Nc scope cl cap) (hg:∀ C fp s H,PG (cxB X Nc scope cl C fp s H) tg g) (ht:∀ C fp s H,PF (cxB X Nc scope cl C fp s H) ifs tt) (he:∀ C fp s H,PE (cxB X Nc scope cl C fp s H) elt te)
  (hs:∀ x,foldedSetIterable iter X.env x=pure x:=by intro _;rfl):PS X (.Assign [.Name x pos'] (.ListComp elt [⟨tg,iter,ifs,0⟩] scope pos) a) (IV (Gi K cap g tt te) (B9 i)):=by
 intro pins s σ H z I h
 rw[exec_Assign_Name_used _ _ _ _ l]
 refine Qj (wpAny_standAt (Qj ?_))
 show wpAny _ X.A (do let _ <- comprehension (.ListComp elt [⟨tg,iter,ifs,0⟩] scope pos) scope X.env _ (newList []) false (eval iter X.env) (some (assign (.Name x pos') X.env))) _ _ s
 refine Qj (wpAny_mono (wpAny_comprehension_free (use:=some (assign (.Name x pos') X.env)) (Q:=λ_ s'=>SP X pins z .next s') rfl hs B.clos B.kind B.names
  (thn (hi pins s σ H _ I h) λv s1 h1=>thn h1 λitv s2 h2=>?_)) (λ_ s' U=>Qk (Qk U)) λ_ _ e=>e)
 obtain⟨it,fp,tn,J,H2,e,Z,T,j,f2,w2⟩:=h2
 subst e
 refine Mz (RR:=λr C=>compPost (model X.prog X.w) X.A X.xe (some (assign (.Name x pos') X.env)) (λ_ s'=>SP X pins z .next s') r C) hc B hg ht he Z T j f2 w2 ?_
 intro D C s' H' ys n hD q Y F p S ⟨m,hn⟩
 obtain⟨E,O,t,L,P,R⟩:=F
 have Ip:Inv X (pins++EB [C] s'.heap) σ (upd H' D (.lst ys)) s':=Y.pinned (fp:=[C]) (λb d=>by
  have e:b=C:=by simpa using d
  subst e
  exact⟨E,O,t,L,P,R⟩) λb d=>by
   have e:b=C:=by simpa using d
   subst e
   exact⟨n,p,S⟩
 show wpAny _ X.A (assign (.Name x pos') X.env (.ref D)) _ _ _
 refine wpAny_assign_Name (Fk Ip hN f (.inl G) (v:=.ref D) rfl (λs3 y=>?_) (.inr G))
 have pC:=y.pin (C,n) (YL _ (YL _ (Fl (by simp) p)))
 obtain⟨oC',es,ep,c,k,u⟩:=hn
 rw[p]at c;cases c
 refine⟨m,⟨n,es,ep,pC.1,k,u⟩,λh' sb=>⟨_,_,y.unpinned.turned (t':=s3.toks) (λb o d e=>(sb.2 b d).trans e) E O L P R,q D hD⟩⟩
end
variable {P:Program}{w:World}{H:Hp}{h:Heap}{o:HO}
theorem ObjOk.at{a:Addr}(x:ObjOk P w H h a o):∃ u,h.get? a=some u:=by
 cases o with
 | lst xs=>obtain⟨_,_,_,_,e⟩:=x;exact⟨_,e⟩
 | tup xs=>obtain⟨_,_,_,c,e,_⟩:=x;exact⟨_,e⟩
 | dK b=>obtain⟨_,_,_,_,o,_,_,e,_⟩:=x;exact⟨_,e⟩
 | dT b=>obtain⟨_,_,_,_,o,_,_,e,_⟩:=x;exact⟨_,e⟩
 | set S n=>obtain⟨o,_,_,_,e,_⟩:=x;exact⟨_,e⟩
 | ins C dx fs=>obtain⟨_,_,_,e,_⟩:=x;exact⟨_,e⟩
 | own y=>obtain⟨_,e⟩:=x;exact⟨_,e⟩
 | xd fs=>obtain⟨_,⟨_,_,_,e,_⟩,_⟩:=x;exact⟨_,e⟩
 | rng lo hi=>obtain⟨_,_,_,e⟩:=x;exact⟨_,e⟩
 | frz c u=>obtain⟨e,_⟩:=x;exact⟨_,e⟩
 | tbl ps=>exact⟨_,(show h.get? a=some _ from x)⟩
 | met f y=>exact⟨_,(show h.get? a=some _ from x)⟩
 | ext φ=>obtain⟨_,⟨_,e⟩,_⟩:=x;exact⟨_,e⟩
structure Fly(P:Program)(w:World)(outer:List Env)(H0:Hp)(s0:Shared)(H':Hp)(e C:Addr)(s':Shared):Prop where
 os:s'.os=s0.os
 bare:AllBare s'.gens
 un:Un (frs outer) [] H0 H' s0.heap s'.heap
 hok:HOk P w H' s'.heap
 fly:∃(B:Heap)(a0:Value),Heap.FlyingW B outer e (.ref C) a0 s'.heap/\∀ b,b∉frs outer->((∃ o,s0.heap.get? b=some o)\/H' b≠none)->∃ o,B.get? b=some o
 new:s0.heap.get? e=none
 free:H' e=none
def CXe(P:Program)(w:World):CXT:=λouter H0 s0 E ev s'=>∃(e C:Addr)(H':Hp),ev=.ref e/\Fly P w outer H0 s0 H' e C s'/\E (.ref C) none H'
variable {outer:List Env}{h1 h':Heap}
theorem MB{v H':Hp}{j B:Heap}(un:Un (frs outer) [] v H' j h1)(hok:HOk P w H' h1)(d:∀ b∈frs outer,H' b=none)
  (r:∀ b∈frs outer,∃ o,h1.get? b=some o/\∀ vs,o.data≠.fields vs) (y:B.StaysIn h1) (p:∀ b,b∉frs outer->((∃ o,j.get? b=some o)\/H' b≠none)->∃ o,B.get? b=some o)
  (st:B.StaysIn h') (up:h1.UpToSlots h'):Un (frs outer) [] v H' j h'/\HOk P w H' h':=by
 have exact_:∀ b o,b∉frs outer->((∃ o,j.get? b=some o)\/H' b≠none)->h1.get? b=some o->h'.get? b=some o:=λb o c k e=>by
  obtain⟨o',t⟩:=p b c k
  have:=y b o' t
  rw[e]at this;cases this
  exact st b _ t
 refine⟨⟨λb o q n c f=>exact_ b o c (.inl ⟨o,q⟩) (un.keep b o q n c f),λb o q n c f=>?_,un.free,λb o q f=>?_,un.tups,un.frzs,un.tbls⟩,λa o e=>?_⟩
 ·obtain⟨A,i⟩:=un.slot b o q n c f
  obtain⟨x,h,l⟩:=r b c
  rw[i]at h;cases h
  obtain⟨g,m⟩:=up b _ i l
  exact⟨g,m⟩
 ·obtain⟨o',i⟩:=un.there b o q f
  by_cases c:b∈frs outer
  ·obtain⟨x,h,l⟩:=r b c
   obtain⟨g,m⟩:=up b _ h l
   exact⟨_,m⟩
  ·exact⟨o',exact_ b o' c (.inl ⟨o,q⟩) i⟩
 ·refine(hok a o e).stay (λb u c q=>?_) (λ_ q=>q) λ_ _ q=>q
  have s:H' b≠none:=by
   rcases c with rfl | c
   ·rw[e];simp
   ·rw[c];simp
  exact exact_ b u (λz=>s (d b z)) (.inr s) q
section
variable {X:Cx} {pins:List (Addr×Obj)} {σ:St} {H H':Hp} {s s':Shared} {e C:Addr}
theorem Fly.inv(I:Inv X pins σ H s)(F:Fly X.prog X.w X.stack H s H' e C s'){B:Heap}{g:Value}(f:Heap.FlyingW B X.stack e (.ref C) g s'.heap)
  (d:∀ b,b∉frs X.stack->((∃ o,s.heap.get? b=some o)\/H' b≠none)->∃ o,B.get? b=some o) (st:B.StaysIn h') (up:s'.heap.UpToSlots h'):Inv X pins σ H' {s' with heap:=h'}:=by
 have a:∀ b∈frs X.stack,H' b=none:=λb c=>by
  obtain⟨_,o,h,_⟩:=I.stack.mem c
  exact F.un.free b o h (I.stkFree b c) (by simp)
 obtain⟨u,k⟩:=MB F.un F.hok a (λb c=>(f.2.2.1.mem c).2) f.1 d st up
 exact I.call' (s':={s' with heap:=h'}) (ch:=[]) F.os u k F.bare (λb z=>Qi z (by simp))
end
variable {K:PySem.W.Frag}{mg:Str->Option Value}{base:Heap}{N:List Str}{qual:Str}{f:Addr}{cd:Value}{A:Around}{s:Shared}{E:XK}
theorem VG:
  UX (CXe P w) (A6 (CXe P w) P w K mg base N qual scope f cd A outer s H E) E:=by
 intro pins σ Hc r ev s' I ⟨e,C,H',n,F,q⟩
 subst n
 obtain⟨B,m,l,h⟩:=F.fly
 show wpAny _ _ (leaving _ (.ref e)) _ _ s'
 refine wpAny_leaves_onW I.ok.frames rfl l λh' g up=>?_
 have c:=F.inv I l h g.1 up
 refine⟨e,C,H',rfl,⟨c.os,c.bare,c.base,c.hok,⟨B,m,g,λb p d=>?_⟩,?_,F.free⟩,q⟩
 ·have j:b∉frs (A6 (CXe P w) P w K mg base N qual scope f cd A outer s H E).stack:=λz=>by
   rcases Yo.mp (c.stkSub b z)with a | a
   ·rcases d with⟨o,k⟩| i
    ·have h1:=Qm k
     have h2:=I.ok.above
     rw[a]at h1
     exact Qi (Yu h1 h2) (YJ _)
    ·rw[a]at i;exact i c.free
   ·exact p a
  refine h b j ?_
  rcases d with⟨o,k⟩| i
  ·exact .inl (I.base.there b o k (by intro z;cases z))
  ·exact .inr i
 ·cases z:s.heap.get? e with
  | none=>rfl
  | some o =>
   obtain⟨o',a⟩:=I.base.there e o z (by intro z;cases z)
   rw[F.new]at a;cases a
variable {pins:List (Addr×Obj)}{σ:St}{e:Addr}
theorem VH
    {Hc:Hp} {g:Shared}  {C:Addr} {vs:List Value} (I:Inv (A6 (CXe P w) P w K mg base N qual scope f cd A outer s H E) pins σ Hc g) (h:Heap.MadeExcOf g.heap h1 e (.ref C) vs) (q:E (.ref C) none Hc):
  (A6 (CXe P w) P w K mg base N qual scope f cd A outer s H E).xe (.ref e) {g with heap:=h1}:=by
 have p:∀ env∈(A6 (CXe P w) P w K mg base N qual scope f cd A outer s H E).stack,∀ b,env.frame=some b->b∈frs (A6 (CXe P w) P w K mg base N qual scope f cd A outer s H E).stack:=λenv B b j=>List.mem_filterMap.mpr ⟨env,B,j⟩
 show wpAny _ _ (leaving _ (.ref e)) _ _ _
 refine wpAny_leaves_madeW (base:=PySem.W.hideAll g.heap (frs (A6 (CXe P w) P w K mg base N qual scope f cd A outer s H E).stack)) I.ok.frames rfl (λb o z=>PySem.W.of_hideAll _ z) (PySem.W.funFrames_hide I.stack p) h λh' t y x v up=>?_
 have m:∀ b,b∉frs (A6 (CXe P w) P w K mg base N qual scope f cd A outer s H E).stack->((∃ o,g.heap.get? b=some o)\/Hc b≠none)->∃ o,(PySem.W.hideAll g.heap (frs (A6 (CXe P w) P w K mg base N qual scope f cd A outer s H E).stack)).get? b=some o:=λb j c=>by
  have:∃ o,g.heap.get? b=some o:=by
   rcases c with z | z
   ·exact z
   ·cases a:Hc b with
    | none=>exact Qi a z
    | some o=>exact(I.hok b o a).at
  obtain⟨o,i⟩:=this
  exact⟨o,PySem.W.hideAll_get _ i j⟩
 obtain⟨u,k⟩:=MB (P:=P) (w:=w) (Un.kept h.keeps) (I.hok.kept h.keeps) I.stkFree (λb j=>by
  obtain⟨_,o,i,d⟩:=I.stack.mem j
  exact⟨o,h.keeps _ _ i,d⟩) (λb o z=>h.keeps _ _ (PySem.W.of_hideAll _ z)) m y.1 up
 have l:=I.call' (s':={g with heap:=h'}) (ch:=[]) rfl u k I.bare (λb z=>Qi z (by simp))
 have en:Hc e=none:=by
  cases z:Hc e with
  | none=>rfl
  | some o =>
   obtain⟨o',a⟩:=(I.hok e o z).at
   rw[h.new]at a;cases a
 refine⟨e,C,Hc,rfl,⟨l.os,l.bare,l.base,l.hok,⟨_,_,y,λb j c=>?_⟩,?_,en⟩,q⟩
 ·have r:b∉frs (A6 (CXe P w) P w K mg base N qual scope f cd A outer s H E).stack:=λz=>by
   rcases Yo.mp (l.stkSub b z)with a | a
   ·rcases c with⟨o,i⟩| n
    ·have h1:=Qm i
     have h2:=I.ok.above
     rw[a]at h1
     exact Qi (Yu h1 h2) (YJ _)
    ·rw[a]at n;exact n l.free
   ·exact j a
  refine m b r ?_
  rcases c with⟨o,i⟩| n
  ·exact .inl (I.base.there b o i (by intro z;cases z))
  ·exact .inr n
 ·cases z:s.heap.get? e with
  | none=>rfl
  | some o =>
   obtain⟨o',a⟩:=I.base.there e o z (by intro z;cases z)
   rw[h.new]at a;cases a
theorem VI{C:Addr}{c:List Value}{a:String}(X:K.In h)(q:PySem.W.excIn K C c a=true):
  ∃ bm N nm q bs hdct sn sub ab col dd k0 k1 k2 k3 k5 mN,h.get? C=some (excClassObj nm q C N bs bm hdct sn sub ab col dd k0 k1 k2 k3 k5 a)/\h.Ns N mN/\mN "__init__"=none/\OwnTail h c bm:=by
 unfold PySem.W.excIn at q
 split at q
 ·rename_i dd cd f m
  split at q
  ·rename_i p bm k0 k1 k2 k3 n k5 g i
   simp only[YG,beq_iff_eq,Bool.not_eq_true']at q
   obtain⟨⟨⟨⟨⟨rfl,rfl⟩,b⟩,j⟩,hok⟩,d⟩:=q
   obtain⟨nm,bs,o,ns,qn,hd,sn,sub,ab,col,k⟩:=cd
   dsimp only at g b hok d
   subst g b
   have e:f=#[k0,k1,k2,k3,some (.builtin n),k5]:=by
    obtain⟨l⟩:=f
    simp only at i
    rw[i]
   subst e
   exact⟨bm,ns,nm,qn,bs,hd,sn,sub,ab,col,dd,k0,k1,k2,k3,k5,_,X _ _ m,.of_isNs (PySem.W.isNs_of_in X hok),PySem.W.nsMap_none_of_in X hok d,PySem.W.tail_of_in X j⟩
  ·cases q
 ·cases q
def VJ(C:Addr)(E:XK)(t:TA):TS:=λ_ σ H=>t σ H λvs H1=>vs.length<=sizeLine/\E (.ref C) none H1
section
variable {P:Program} {w:World} {K:PySem.W.Frag} {mg:Str->Option Value} {base:Heap} {N:List Str} {qual:Str} {scope:Scope} {f:Addr} {cd:Value} {A:Around} {outer:List Env} {s:Shared} {H:Hp} {E:XK}
theorem VL{C:Addr}{B b initId:String}{bm:List Value}{y cpos pos:Pos}{a:Expr}{Au:List Expr}{t:TA}
  (v:Gl (A6 (CXe P w) P w K mg base N qual scope f cd A outer s H E) x) (l:mg x=some (.ref C)) (q:PySem.W.excIn K C bm b=true) (FB:ExcBaseFacts B b initId bm)
  (m:PA (A6 (CXe P w) P w K mg base N qual scope f cd A outer s H E) (a::Au) t)
  (k:starEach (a::Au) (A6 (CXe P w) P w K mg base N qual scope f cd A outer s H E).env=(false,eval a (A6 (CXe P w) P w K mg base N qual scope f cd A outer s H E).env)::starEach Au (A6 (CXe P w) P w K mg base N qual scope f cd A outer s H E).env:=by rfl)
  (hplain:(backTo cpos (starEach Au (A6 (CXe P w) P w K mg base N qual scope f cd A outer s H E).env)).any (·.1)=false:=by rfl) (hd:(x==("__debug__":Str))=false:=by decide):
  PS (A6 (CXe P w) P w K mg base N qual scope f cd A outer s H E) (.Raise (some (.Call (.Name x y) (a::Au) [] cpos)) none pos) (VJ C E t):=by
 intro pins z σ Hc D I h
 obtain⟨tl,u,nm,n,bs,hdct,sn,sub,ab,col,dd,k0,k1,k2,k3,k5,mN,r,p,i,T⟩:=VI I.ok.mod.kin q
 refine wpAny_Raise_call_subT (C:=C) (nm:=nm) (q:=n) (N:=u) (bs:=bs) (bm:=tl) (hdct:=hdct) (sn:=sn) (sub:=sub) (ab:=ab) (col:=col) (dd:=dd) (k0:=k0) (k1:=k1) (k2:=k2) (k3:=k3) (k5:=k5)
  FB (mN:=mN) (T.hasType FB.hasBase) (I.ok.hd rfl) (by rw[k];show(false||(backTo cpos (starEach Au _)).any (·.1))=false;rw[hplain];rfl) i (DZ I v l ⟨rfl,?_⟩ hd)
 have c:=m cpos pins z σ Hc _ I h
 rw[k]at c ⊢
 refine Calls.evalArgs_plain (thn c λo J j=>?_)
 obtain⟨G,H1,d,r1,F,q1⟩:=j
 exact⟨rfl,by have:=r1.length;show o.length<=_;lia,d.bk _ _ r,p.keeps d.bk,T.keeps d.bk,λh' e g=>VH d g q1⟩
end
variable {D:Addr}
theorem VM{M:Model}{E:Value->Shared->Prop}{C:Addr}{i:Obj}{b:Bool}{Q:Bool->Shared->Prop}(X:K.In s.heap)(y:s.heap.get? e=some i)(a:i.cls=.ref C)
  (m:PySem.W.typeIn K (.ref D)=some (.type "type")) (f:(PySem.W.clsIn K D).isSome=true) (p:PySem.W.subIn K (.ref D) (.type "BaseException")=some true) (r:PySem.W.subIn K (.ref C) (.ref D)=some b) (h:Q b s):
  wpAny M A (excMatches (.ref e) (.ref D)) Q E s:=by
 obtain⟨c,g,d,t,os⟩:=s
 have x:PySem.W.Looks M c (isInstance (.ref D) (.type "tuple")) false:=(PySem.W.looks_typeIn X m).andThen (PySem.W.Looks.of_pure tc_notTuple)
 have n:PySem.W.Looks M c (isType (.ref D)) true:=by
  unfold PySem.W.clsIn at f
  split at f
  ·rename_i B z w u v
   intro G H F s' k q
   unfold isType loadHead
   exact Qj (wpAny_loadPart (k _ _ (X _ _ v)) (Qk q))
  ·cases f
 have o:PySem.W.Looks M c (isExcClass (.ref D)) true:=by
  unfold isExcClass
  refine n.andThen ?_
  rw[if_pos rfl]
  exact PySem.W.looks_subIn X p
 have l:PySem.W.Looks M c (typeOf (.ref e)) (.ref C):=by
  rw[<- a]
  exact(PySem.W.Looks.ld y).andThen .now
 have j:=PySem.W.looks_subIn (M:=M) X r
 unfold excMatches
 refine Qj (x.at ?_)
 rw[if_neg YS]
 show wpAny M A (forIn [Value.ref D] PUnit.unit _ >>=_) Q E _
 rw[List.forIn_cons]
 refine Qj (Qj (Qj (o.at ?_)))
 rw[if_neg (by decide)]
 refine Qk ?_
 refine Qk ?_
 refine Qj (l.at ?_)
 rw[List.forIn_cons]
 refine Qj (Qj (Qj (j.at ?_)))
 cases b with
 | true =>
  rw[if_pos rfl]
  exact Qk (Qk (Qk h))
 | false =>
  rw[if_neg YS]
  exact Qk (Qk (Qk h))
variable {i:Nat}{n:Str}
theorem Inv.gone{w:Option Value}{m:Str->Option Value}{tk:Nat}(I:Inv X pins σ H s)(E:X.N.Nodup)(hi:X.N[i]?=some n)
  (O:s.heap.Ns X.env.locals m) (hl:∀(i:Nat)(x:Str)(v:V),X.N[i]?=some x->σ[i]?=some (some v)->Vis X.env.scope x->∃ u,RelV v u/\LQ X.env s.heap m x u) (t:h'.Ns X.env.locals (λx=>if x=n then w else m x)) (a:Heap.SameBut X.env.locals s.heap h'):
  Inv X pins (σ.set i none) H {s with heap:=h',toks:=tk}:=by
 have cne:=I.cne
 have hiσ:i < σ.length:=by rw[I.len];exact(YV.mp hi).1
 refine⟨I.ok,I.os,I.bare,⟨λb o e n r g=>?_,λb o e n r g=>?_,I.base.free,λb o e g=>?_,I.base.tups,I.base.frzs,I.base.tbls⟩,⟨_,t,λj y L f h F=>?_⟩,λy c e=>?_,I.free,I.freeC,λp G=>?_,λb J e=>?_,by simpa using I.len⟩
 ·exact(a.2 b (Ys (Yu (Qm e) I.ok.above))).trans (I.base.keep b o e n r g)
 ·obtain⟨D,f⟩:=I.base.slot b o e n r g
  exact⟨D,(a.2 b (Ys (Yu (Qm e) I.ok.above))).trans f⟩
 ·obtain⟨o',f⟩:=I.base.there b o e g
  exact⟨o',(a.2 b (Ys (Yu (Qm e) I.ok.above))).trans f⟩
 ·by_cases l:j=i
  ·subst l
   rw[List.getElem?_set_self hiσ]at h
   cases h
  ·rw[List.getElem?_set_ne (YU l)]at h
   obtain⟨B,r',q⟩:=hl j y L f h F
   refine⟨B,r',?_⟩
   rcases q with⟨k,e⟩|⟨k,c,e,z⟩
   ·refine .inl ⟨k,?_⟩
    have:y≠n:=λe=>l (IR E f (e▸hi))
    simp[this,e]
   ·exact .inr ⟨k,c,e,z.sameBut a (cne y c e)⟩
 ·obtain⟨A,z⟩:=I.cell y c e
  exact⟨A,z.sameBut a (cne y c e)⟩
 ·obtain⟨e,n,ne,K,d⟩:=I.pin p G
  exact⟨(a.2 p.1 ne).trans e,n,ne,K,d⟩
 ·refine(I.hok b J e).stay (λc A hc q=>(a.2 c ?_).trans q) (λ_ q=>q) λ_ _ q=>q
  rintro rfl
  rcases hc with hc | hc
  ·rw[<- hc,I.free]at e;cases e
  ·rw[I.free]at hc;cases hc
theorem Inv.track(I:Inv X pins σ H s)(k:H e=none)(h:e≠X.env.locals)(hc:∀ x c,X.env.cells.lookup x=some c->c≠e)(j:∀ p∈X.pn++pins,p.1≠e)
  (l:X.s₀.heap.get? e=none) (ok:ObjOk X.prog X.w (upd H e o) s.heap e o):Inv X pins σ (upd H e o) s:=by
 have a:∀ b u,H b=some u->upd H e o b=some u:=λb u z=>by rw[AQ (DY z k)];exact z
 refine⟨I.ok,I.os,I.bare,⟨I.base.keep,I.base.slot,λb f z n i=>?_,I.base.there,λb xs z=>a _ _ (I.base.tups b xs z),λb f u z=>a _ _ (I.base.frzs b f u z),λb ps z=>?_⟩,I.loc,I.cell,?_,λx c z=>?_,λp z=>?_,λb u z=>?_,I.len⟩
 ·rw[AQ (λq=>by rw[q,l]at z;cases z)]
  exact I.base.free b f z n i
 ·obtain⟨d,q⟩:=I.base.tbls b ps z
  exact⟨d,a _ _ q⟩
 ·rw[AQ (YU h)];exact I.free
 ·rw[AQ (hc x c z)];exact I.freeC x c z
 ·obtain⟨q1,q2,q3⟩:=I.pin p z
  exact⟨q1,by rw[AQ (j p z)];exact q2,q3⟩
 ·by_cases g:b=e
  ·subst g
   rw[BP]at z;cases z
   exact ok
  ·rw[AQ g]at z
   exact(I.hok b u z).stay (λ_ _ _ q=>q) (λc q=>a _ _ q) λc xs q=>a _ _ q
def cxH(X:Cx)(e:Addr):Cx:={X with A:=X.A.mark (some (.ref e)),calm:=false,xe:=λ_ _=>False}
theorem Inv.toH(I:Inv X pins σ H s):Inv (cxH X e) pins σ H s :=
 ⟨⟨I.ok.mod,I.ok.kind,I.ok.glob,I.ok.blt,I.ok.above,I.ok.inj,I.ok.has,I.ok.cab,(λz=>by cases z),I.ok.frames,I.ok.stk,I.ok.exf,I.ok.bs,I.ok.bsz,I.ok.noex,I.ok.exfs,I.ok.funs,I.ok.frf⟩,I.os,I.bare,I.base,I.loc,I.cell,I.free,I.freeC,I.pin,I.hok,I.len⟩
theorem Inv.ofH(ok:X.Ok)(I:Inv (cxH X e) pins σ H s):Inv X pins σ H s :=
 ⟨ok,I.os,I.bare,I.base,I.loc,I.cell,I.free,I.freeC,I.pin,I.hok,I.len⟩
def cxT(X:Cx)(pn:List (Addr×Obj))(xe:Value->Shared->Prop):Cx:={X with pn:=pn,xe:=xe}
variable {xe:Value->Shared->Prop}
theorem Inv.toT(I:Inv X pins σ H s):Inv (cxT X (X.pn++pins) xe) [] σ H s :=
 ⟨⟨I.ok.mod,I.ok.kind,I.ok.glob,I.ok.blt,I.ok.above,I.ok.inj,I.ok.has,I.ok.cab,I.ok.hd,I.ok.frames,I.ok.stk,I.ok.exf,I.ok.bs,I.ok.bsz,I.ok.noex,I.ok.exfs,I.ok.funs,I.ok.frf⟩,I.os,I.bare,I.base,I.loc,I.cell,I.free,I.freeC,(λp a=>I.pin p (by simpa[cxT]using a)),I.hok,I.len⟩
theorem Inv.ofT{a:List (Addr×Obj)}(ok:X.Ok)(I:Inv (cxT X (X.pn++pins) xe) a σ H s):Inv X pins σ H s :=
 ⟨ok,I.os,I.bare,I.base,I.loc,I.cell,I.free,I.freeC,(λp b=>I.pin p (YK _ b)),I.hok,I.len⟩
def Cj(e C:Addr):Heap->Prop:=λh=>∃ ox,h.get? e=some ox/\ox.cls=.ref C
def D4(CX:CXT)(X:Cx)(Eσ:St->XK):Prop:=∀(pins:List (Addr×Obj))(σ:St)(H:Hp)(s:Shared)(e:Value)(s':Shared),Inv X pins σ H s->CX X.stack H s (Eσ σ) e s'->X.xe e s'
def VN(K:PySem.W.Frag)(D:Addr)(i:Nat)(tb:(St->XK)->TS)(th:TS):TS:=λDn σ H=>
 tb (λσ' Cv _ H'=>∃ C,Cv=.ref C/\PySem.W.subIn K (.ref C) (.ref D)=some true/\∀ e,H' e=none->
  th {nx:=λσ2 H2=>Dn.nx (σ2.set i none) H2,rt:=Dn.rt,bk:=λσ2 H2=>Dn.bk (σ2.set i none) H2,ct:=λσ2 H2=>Dn.ct (σ2.set i none) H2} (σ'.set i (some (.ref e))) (upd H' e (.ext (Cj e C)))) Dn σ H
variable {body:List Stmt}
theorem VO{j:List Stmt}{b0:Stmt}{np J pos:Pos}{tb:(St->XK)->TS}{th:TS}(hN:X.N.Nodup)(hi:X.N[i]?=some n)(hn:X.env.scope.names.lookup n=some .local)
  (frm:X.stack=X.env::X.outer) (frl:X.env.frame=some X.env.locals) (hex:X.ex=[]) (hgx:Gl X x) (hmx:X.mg x=some (.ref D)) (hD:PySem.W.typeIn X.K (.ref D)=some (.type "type")) (hT:(PySem.W.clsIn X.K D).isSome=true) (hB:PySem.W.subIn X.K (.ref D) (.type "BaseException")=some true)
  (hb:∀(Eσ:St->XK)(pn:List (Addr×Obj))(xe:Value->Shared->Prop),D4 (CXe X.prog X.w) (cxT X pn xe) Eσ->PSs (cxT X pn xe) body (tb Eσ)) (hh:∀ e,PSs (cxH X e) (b0::j) th) (hdb:(x==("__debug__":Str))=false:=by decide):
  PS X (.Try body [.ExceptHandler (some (.Name x np)) (some n) (b0::j) J] [] [] pos) (VN X.K D i tb th):=by
 intro pins s σ H Dn I h
 refine wpAny_Try_except ?_
 let T:Value->Shared->Prop:=λev E=>wpAny (model X.prog X.w) X.A (noteFrame ev X.env) (λ_ Z=>wpAny (model X.prog X.w) X.A (setFlight ev none) (λ_ s₃=>
  wpAny (model X.prog X.w) X.A (handleBy ev X.env [.ExceptHandler (some (.Name x np)) (some n) (b0::j) J]) (SP X pins Dn) X.xe s₃) X.xe Z) X.xe E
 have ok:=I.ok
 refine wpAny_mono (hb _ (X.pn++pins) T ?_ [] s σ H Dn I.toT h) (λf E q=>?_) (λev E q=>q)
 ·intro pins' σ' H' s' ev G Y hcx
  obtain⟨e,C,H2,rfl,F,C',eC,hsub,q⟩:=hcx
  cases eC
  show T (.ref e) G
  obtain⟨B,a0,fl,cov⟩:=F.fly
  have fr:X.A.frames=some (X.env::X.outer):=by rw[<- frm];exact ok.frames
  have fl':Heap.FlyingW B (X.env::X.outer) e (.ref C) a0 G.heap:=by rw[<- frm];exact fl
  refine wpAny_looks_onW fr frl fl' λh₄ t l=>?_
  refine wpAny_landsW t λh₅ d L=>?_
  have I5:Inv X pins σ' H2 {G with heap:=h₅}:=Inv.ofT ok (F.inv Y fl cov d.1 (l.trans L))
  obtain⟨ob,hob,hobc⟩:=d.there
  refine wpAny_handleBy_cons (codeAny_handlers_test (DZ (X:=cxH X e) I5.toH hgx hmx ?_ hdb)) (by intro q;cases q)
  refine VM I5.kIn hob hobc hD hT hB hsub ?_
  refine codeAny_handlers_suite_as ?_
  refine lands_againW d λQ y R=>?_
  have I6:Inv X pins σ' H2 {G with heap:=Q}:=Inv.ofT ok (F.inv Y fl cov y.1 ((l.trans L).trans R))
  have old:∀ b o,s'.heap.get? b=some o->b≠e:=λb o z w=>by rw[w,F.new]at z;cases z
  obtain⟨oe,hoe,hoec⟩:=y.there
  have I7:Inv X pins σ' (upd H2 e (.ext (Cj e C))) {G with heap:=Q}:=by
   refine I6.track F.free ?_ (λx c z=>?_) (λp z=>?_) ?_ ⟨⟨oe,hoe,hoec⟩,⟨oe,hoe⟩,(by rintro g1 g2 ⟨ox,z1,z2⟩ k;exact⟨ox,k _ z1,z2⟩)⟩
   ·obtain⟨m,hm,_⟩:=Y.loc
    obtain⟨o,es,ep,ho,_⟩:=hm
    exact(old _ _ ho).symm
   ·obtain⟨v,o,ho,_⟩:=Y.cell x c z
    exact old _ _ ho
   ·exact old _ _ (Y.pin p (YK _ z)).1
   ·cases z:X.s₀.heap.get? e with
    | none=>rfl
    | some o =>
     obtain⟨o',e1⟩:=Y.base.there e o z (λw=>by
      have w':e∈X.ex:=w
      rw[hex]at w';cases w')
     rw[F.new]at e1;cases e1
  refine Fk (X:=cxH X e) I7.toH hN hi (.inl hn) (v:=.ref e) rfl (λs8 I8=>?_) (.inr hn)
  refine wpAny_mono (hh e pins s8 _ _ _ I8 (q e F.free)) (λf s9 q9=>?_) (λ_ _ z=>z.elim)
  have O:∀{σ9:St}{U:Hp}{K9:Shared->Prop},Inv (cxH X e) pins σ9 U s9->(∀ a,Inv X pins (σ9.set i none) U a->K9 a)->
    wpAny (model X.prog X.w) X.A (do bindName X.env n .none;unbindBehindTheSuite X.env n J) (λ_ a=>K9 a) X.xe s9:=λ{σ9 U K9}P k9=>by
   have I9':=Inv.ofH ok P
   obtain⟨m,hm,hl⟩:=id I9'.loc
   refine wpAny_nameGoes_keeps hn hm (by rw[ok.kind];rfl) λh' v hn' hs=>k9 _ (I9'.gone hN hi hm hl hn' hs)
  cases f with
  | next=>obtain⟨σ9,U,P,q9⟩:=q9;exact O P λa g=>⟨_,_,g,q9⟩
  | brk=>obtain⟨σ9,U,P,q9⟩:=q9;exact O P λa g=>⟨_,_,g,q9⟩
  | cont=>obtain⟨σ9,U,P,q9⟩:=q9;exact O P λa g=>⟨_,_,g,q9⟩
  | ret u=>obtain⟨v,σ9,U,P,r9,q9⟩:=q9;exact O P λa g=>⟨v,_,_,g,r9,q9⟩
 ·cases f with
  | next=>obtain⟨σ',H',S,q⟩:=q;exact wpAny_execs_nil ⟨σ',H',Inv.ofT ok S,q⟩
  | brk=>obtain⟨σ',H',S,q⟩:=q;exact⟨σ',H',Inv.ofT ok S,q⟩
  | cont=>obtain⟨σ',H',S,q⟩:=q;exact⟨σ',H',Inv.ofT ok S,q⟩
  | ret u=>obtain⟨v,σ',H',S,r,q⟩:=q;exact⟨v,σ',H',Inv.ofT ok S,r,q⟩
def MC(sp:Sp)(dvs:List V)(Eσ:St->XK)(t:TA):TE:=λσ H Q=>t σ H λvs H1=>sp (vs++dvs) H1 Q (Eσ σ)
section
variable {X:Cx} {CX:CXT} {k:Nat} {f:Addr} {fd:FuncData} {ps:List Str} {sp:Sp} {dvs:List V} {ds:List Value} {Eσ:St->XK} {x:Str} {p pos:Pos} {e:Expr} {es:List Expr} {t:TA}
theorem VP(F:FnOk X.prog X.w X.K X.mg X.base CX k f fd ps sp)(o:Room k X.A)(z:Gl X x)(B:X.mg x=some (.ref f))(n:PySem.W.keepIn X.K (.ref f)=true)(y:Binds X.K fd ps ds)(hd:Vals dvs ds)(v:D4 CX X Eσ)
  (m:PA X (e::es) t) (d:(x==("__debug__":Str))=false:=by decide) (E:starEach (e::es) X.env=(false,eval e X.env)::starEach es X.env:=by rfl) (g:(backTo pos (starEach es X.env)).any (·.1)=false:=by rfl):
  PE X (.Call (.Name x p) (e::es) [] pos) (MC sp dvs Eσ t):=by
 intro pins s σ H Q I h
 refine wpAny_Call_Name_kw (DZ I z B ?_ d)
 refine PySem.W.callWith_K (h₀:=X.base) I.ok.mod.kin n (thn (m pos pins s σ H _ I h) λa i⟨l,H1,b,r,q⟩=>⟨b.kIn,?_⟩) E g
 have j:Vals (l++dvs) (a++ds):=r.append hd
 have hl:(a++ds).length=ps.length:=by rw[<- j.length];exact F.len _ _ _ _ q
 refine wpAny_call (codeAny_mono (F.run X.A X.stack i H1 ⟨a,[]⟩ (a++ds) (l++dvs) Q (Eσ σ) o b.env0 (y i a b.kIn hl) j q) λr s' c=>?_)
 cases r with
 | error e=>exact v pins σ H1 i e s' b c
 | ok D =>
  cases D with
  | ret u=>exact b.after c
  | next=>exact Qd c
  | brk=>exact Qd c
  | cont=>exact Qd c
end
structure Gj(k:Nat)(A:Around):Prop where
 dp:A.depth+3*k+5 < recursionLimit
 un:A.units+16*k+200 < cLine
structure Jq(P:Program)(w:World)(K:PySem.W.Frag)(mg:Str->Option Value)(base:Heap)(CX:CXT)(k:Nat)(f:Addr)(fd:FuncData)(ps:List Str)(sp:Sp):Prop where
 len:∀ vs H Q E,sp vs H Q E->vs.length=ps.length
 run:∀(A:Around)(outer:List Env)(s:Shared)(H:Hp)(args:Args)(us:List Value)(vs:List V)(Q:VK)(E:XK),Gj k A->Env0 P w K mg base A outer s H->BindsTo s fd args (ps.zip us)->Vals vs us->sp vs H Q E->
  codeAny (model P w) A (.call (.ref f) args) (CR CX outer P w H s Q E) s
def cxN(P:Program)(w:World)(K:PySem.W.Frag)(mg:Str->Option Value)(base:Heap)(N:List Str)(qual:Str)(scope:Scope)(f:Addr)(cd:Value)(A:Around)(outer:List Env)(s:Shared)(H:Hp):Cx :=
 {A6 CX0 P w K mg base N qual scope f cd A outer s H E0 with calm:=false,xe:=λ_ _=>False}
theorem VQ{CX:CXT}{k:Nat}{name:Str}{params:Arguments}{G kV i pm cdv ct Y:Value}{O od:Option Addr}
  {p:Array (Option Value)} {ps:List Str} {sp:Sp} (R:K.lookup f=some ⟨Y,od,.func (PySem.W.fnOf name qual params body scope G kV i pm O cdv ct),p⟩) (F:PySem.W.codeIn K cdv qual=true) (S:Ay N ps scope)
  (len:∀ vs H Q E,sp vs H Q E->vs.length=ps.length)
  (g:∀(A:Around)(outer:List Env)(s:Shared)(H:Hp)(vs:List V)(Q:VK)(E:XK),sp vs H Q E->∃ t,PSs (cxN P w K mg base N qual scope f cdv A outer s H) body t/\t {nx:=λ_ H'=>Q .non H',rt:=Q} (BQ N vs) H):
  Jq P w K mg base CX (k+1) f (PySem.W.fnOf name qual params body scope G kV i pm O cdv ct) ps sp:=by
 refine⟨len,λA outer s H L Z vs Q E X c hb r j=>?_⟩
 have hl:=len _ _ _ _ j
 have KX:K.In s.heap:=c.mod.kin.keeps λb o e=>(c.bs b o e).1
 have D:s.heap.NoLimit:=c.mod.nolimit.keeps λb o e=>(c.bs b o e).1
 have d:∀ y∈ps.zip Z,scope.names.lookup y.1=some .local\/(scope.names.lookup y.1=some .cell/\((cellsFrom (s.heap.objs.size+1) scope.names []).lookup y.1).isSome=true):=by
  rintro⟨n,v⟩ U
  rcases S.par n (List.of_mem_zip U).1 with q | q
  ·exact .inl q
  ·exact .inr ⟨q,PySem.W.cellsFrom_some _ _ _ (.inl q)⟩
 refine codeAny_call_function (by have:=X.dp;lia) (KX _ _ R) rfl S.co S.gen rfl (PySem.W.codeRec_of KX F) (hb _ _ _ _ ?_)
 refine wpAny_newFunctionEnv_cells S.kind d λenv he B x=>?_
 subst he
 refine⟨D.keeps x.toInCall.keep,codeAny_func ?_⟩
 obtain⟨t,ht,T⟩:=g A outer s H vs Q E j
 have e1:Env0 P w K mg base {A with handled:=none} outer s H:=⟨c.frames,c.mod,c.bs,c.bsz,c.funs,c.frf,c.hok,c.bare⟩
 have a:Inv (A6 CX0 P w K mg base N qual scope f cdv {A with handled:=none} outer s H E0) [] (BQ N vs) H B:=Mi S rfl e1 hl r x
 have I:Inv (cxN P w K mg base N qual scope f cdv A outer s H) [] (BQ N vs) H B :=
  ⟨⟨a.ok.mod,a.ok.kind,a.ok.glob,a.ok.blt,a.ok.above,a.ok.inj,a.ok.has,a.ok.cab,(λz=>by cases z),Around.frames_deeper c.frames,a.ok.stk,a.ok.exf,a.ok.bs,a.ok.bsz,a.ok.noex,a.ok.exfs,a.ok.funs,a.ok.frf⟩,a.os,a.bare,a.base,a.loc,a.cell,a.free,a.freeC,a.pin,a.hok,a.len⟩
 refine wpAny_mono (ht [] B (BQ N vs) H _ I T) (λfl s' h=>?_) λe s' h=>h.elim
 have l:∀{σ':St}{H':Hp}{v:V}{u:Value},Inv (cxN P w K mg base N qual scope f cdv A outer s H) [] σ' H' s'->RelV v u->Q v H'->CE outer P w H s Q u s' :=
  λ{σ' H' v u}J m q=>⟨v,H',J.os,J.bare,J.base,J.hok,m,q⟩
 cases fl with
 | ret u =>
  obtain⟨v,σ',H',J,m,q⟩:=h
  exact l J m q
 | next =>
  obtain⟨σ',H',J,q⟩:=h
  exact l (v:=V.non) (u:=Value.none) J rfl q
 | brk =>
  obtain⟨_,_,_,q⟩:=h
  exact Qd q
 | cont =>
  obtain⟨_,_,_,q⟩:=h
  exact Qd q
section
variable {X:Cx} {k:Nat} {f:Addr} {fd:FuncData} {ps:List Str} {sp:Sp} {x:Str} {p pos:Pos} {e:Expr} {es:List Expr} {t:TA}
theorem VR(F:Jq X.prog X.w X.K X.mg X.base CX0 k f fd ps sp)(o:Gj k X.A)(y:Gl X x)(z:X.mg x=some (.ref f))(n:PySem.W.keepIn X.K (.ref f)=true)(v:Binds X.K fd ps [])
  (m:PA X (e::es) t) (d:(x==("__debug__":Str))=false:=by decide) (D:starEach (e::es) X.env=(false,eval e X.env)::starEach es X.env:=by rfl) (g:(backTo pos (starEach es X.env)).any (·.1)=false:=by rfl):
  PE X (.Call (.Name x p) (e::es) [] pos) (UW sp [] E0 t):=by
 intro pins s σ H Q I h
 refine wpAny_Call_Name_kw (DZ I y z ?_ d)
 refine PySem.W.callWith_K (h₀:=X.base) I.ok.mod.kin n (thn (m pos pins s σ H _ I h) λa j⟨l,H1,c,r,q⟩=>⟨c.kIn,?_⟩) D g
 have i:Vals (l++[]) (a++[]):=r.append .nil
 have hl:(a++[]).length=ps.length:=by rw[<- i.length];exact F.len _ _ _ _ q
 refine wpAny_call (codeAny_mono (F.run X.A X.stack j H1 ⟨a,[]⟩ (a++[]) (l++[]) Q E0 o c.env0 (v j a c.kIn hl) i q) λr s' b=>?_)
 cases r with
 | error e=>exact Qd b
 | ok B =>
  cases B with
  | ret u=>exact c.after b
  | next=>exact Qd b
  | brk=>exact Qd b
  | cont=>exact Qd b
end
end L2
namespace L3
open PySem PySem.Spec PyProof.Rows L2
abbrev St:=L2.St
inductive W where
 | non | bl (b:Bool)| int (i:Int)| str (x:Str)| tup (xs:List W)| rol (xs:List W)| ref (a:Addr)
inductive HW where
 | lst (xs:List W)| exc (C:Addr)| ins (C:Addr) (fs:List (Str×W))| dct (kvs:List (Key×W))
abbrev Sw:=List (Option W)
abbrev Hw:=Addr->Option HW
def put(H:Hw)(a:Addr)(o:HW):Hw:=λb=>if b=a then some o else H b
variable {a:Addr}{o:HW}
theorem An{H:Hw}:put H a o a=some o:=by unfold put;rw[if_pos rfl]
theorem AH{H:Hw}{b:Addr}(h:b≠a):put H a o b=H b:=by unfold put;rw[if_neg h]
section
variable (K:PySem.W.Frag)
def RoL(H:Hp)(a:Addr)(xs:List V):Prop:=(∃ o,H a=some (.frz o (.lst xs)))\/
 ∃(o:Obj)(its:Array Value)(n:Nat),K.lookup a=some o/\o.cls=.type "list"/\o.dict=none/\o.data=.seq its n/\its.size<=sizeLine/\Vals xs its.toList
theorem RoL.sq{H:Hp}{xs:List V}(h:RoL K H a xs):SqL K H a xs:=by
 rcases h with⟨o,h⟩| h
 ·exact .inl (.inr ⟨o,h⟩)
 ·exact .inr h
mutual
inductive Tr(H:Hp):V->W->Prop where
 | non:Tr H .non .non
 | bl (b:Bool):Tr H (.bl b) (.bl b)
 | int (i:Int):Tr H (.int i) (.int i)
 | str (x:Str):Tr H (.str x) (.str x)
 | tup {a:Addr} {vs:List V} {ws:List W}:SqT K H a vs->TrL H vs ws->Tr H (.ref a) (.tup ws)
 | rol {a:Addr} {vs:List V} {ws:List W}:RoL K H a vs->TrL H vs ws->Tr H (.ref a) (.rol ws)
 | ref (a:Addr):Tr H (.ref a) (.ref a)
inductive TrL(H:Hp):List V->List W->Prop where
 | nil:TrL H [] []
 | cons {v:V} {w:W} {vs:List V} {ws:List W}:Tr H v w->TrL H vs ws->TrL H (v::vs) (w::ws)
end
inductive TrP{α:Type}(H:Hp):List (α×V)->List (α×W)->Prop where
 | nil:TrP H [] []
 | cons {f:α} {v:V} {w:W} {vs:List (α×V)} {ws:List (α×W)}:Tr K H v w->TrP H vs ws->TrP H ((f,v)::vs) ((f,w)::ws)
structure Mono(H H':Hp):Prop where
 tup:∀ a vs,SqT K H a vs->SqT K H' a vs
 rol:∀ a vs,RoL K H a vs->RoL K H' a vs
def RelO2(H:Hp)(a:Addr):HW->Prop
 | .lst ws=>∃ vs,H a=some (.lst vs)/\TrL K H vs ws
 | .exc C=>H a=some (.ext (Cj a C))
 | .ins C ws=>∃ dx vs,H a=some (.ins C dx vs)/\TrP K H vs ws
 | .dct ws=>∃ vs,H a=some (.dK vs)/\TrP K H vs ws
def RelH(H:Hp)(G:Hw):Prop:=∀ a o,G a=some o->RelO2 K H a o
structure TrSt(H:Hp)(σ:St)(ω:Sw):Prop where
 len:σ.length=ω.length
 get:∀(i:Nat)(w:W),ω[i]?=some (some w)->∃ v,σ[i]?=some (some v)/\Tr K H v w
end
variable {K:PySem.W.Frag} {H H' H2:Hp}
theorem Mono.refl:Mono K H H:=⟨λ_ _ h=>h,λ_ _ h=>h⟩
theorem Mono.trans(m:Mono K H H')(c:Mono K H' H2):Mono K H H2:=⟨λa b h=>c.tup a b (m.tup a b h),λa b h=>c.rol a b (m.rol a b h)⟩
mutual
theorem Tr.mono(m:Mono K H H'){v:V}{w:W}(t:Tr K H v w):Tr K H' v w:=by
 cases t with
 | non=>exact .non
 | bl b=>exact .bl b
 | int i=>exact .int i
 | str x=>exact .str x
 | tup h l=>exact .tup (m.tup _ _ h) (TrL.mono m l)
 | rol h l=>exact .rol (m.rol _ _ h) (TrL.mono m l)
 | ref a=>exact .ref a
theorem TrL.mono(m:Mono K H H'){vs:List V}{a:List W}(t:TrL K H vs a):TrL K H' vs a:=by
 cases t with
 | nil=>exact .nil
 | cons h l=>exact .cons (Tr.mono m h) (TrL.mono m l)
end
theorem TrP.mono{α:Type}(m:Mono K H H'):∀{vs:List (α×V)}{a:List (α×W)},TrP K H vs a->TrP K H' vs a
 | _,_,.nil=>.nil
 | _,_,.cons r t=>.cons (r.mono m) (TrP.mono m t)
theorem RelO2.mono(m:Mono K H H')(e:H' a=H a):∀{o:HW},RelO2 K H a o->RelO2 K H' a o
 | .lst c,⟨b,z,t⟩=>⟨b,e.trans z,t.mono m⟩
 | .exc C,z=>(e.trans z:H' a=_)
 | .ins C c,⟨dx,b,z,t⟩=>⟨dx,b,e.trans z,t.mono m⟩
 | .dct c,⟨b,z,t⟩=>⟨b,e.trans z,t.mono m⟩
theorem RelO2.some:∀{o:HW},RelO2 K H a o->H a≠none
 | .lst c,⟨b,z,t⟩,q=>by rw[q]at z;cases z
 | .exc C,z,q=>by rw[show H a=_ from z]at q;cases q
 | .ins C c,⟨dx,b,z,t⟩,q=>by rw[q]at z;cases z
 | .dct c,⟨b,z,t⟩,q=>by rw[q]at z;cases z
variable {σ:St}{ω:Sw}
theorem TrSt.mono(m:Mono K H H')(t:TrSt K H σ ω):TrSt K H' σ ω:=⟨t.len,λi w e=>let⟨v,e',r⟩:=t.get i w e;⟨v,e',r.mono m⟩⟩
variable {v:V}{w:W}
theorem TrSt.set(t:TrSt K H σ ω)(i:Nat)(r:Tr K H v w):TrSt K H (σ.set i (some v)) (ω.set i (some w)):=by
 refine⟨by simp[t.len],λj u e=>?_⟩
 by_cases h:i=j
 ·subst h
  by_cases hl:i < ω.length
  ·rw[List.getElem?_set_self hl]at e
   cases e
   exact⟨v,List.getElem?_set_self (by rw[t.len];exact hl),r⟩
  ·rw[List.getElem?_eq_none (by simp;lia)]at e;cases e
 ·rw[List.getElem?_set_ne h]at e
  obtain⟨b,a,r'⟩:=t.get j u e
  exact⟨b,by rw[List.getElem?_set_ne h];exact a,r'⟩
theorem TrSt.unset(t:TrSt K H σ ω)(i:Nat):TrSt K H (σ.set i none) (ω.set i none):=by
 refine⟨by simp[t.len],λj u e=>?_⟩
 by_cases h:i=j
 ·subst h
  by_cases hl:i < ω.length
  ·rw[List.getElem?_set_self hl]at e;cases e
  ·rw[List.getElem?_eq_none (by simp;lia)]at e;cases e
 ·rw[List.getElem?_set_ne h]at e
  obtain⟨b,a,r'⟩:=t.get j u e
  exact⟨b,by rw[List.getElem?_set_ne h];exact a,r'⟩
theorem TrL.length:∀{vs:List V}{a:List W},TrL K H vs a->vs.length=a.length
 | _,_,.nil=>rfl
 | _,_,.cons _ t=>Qf (·+1) t.length
theorem TrL.get:∀{vs:List V}{a:List W}{i:Nat}{w:W},TrL K H vs a->a[i]?=some w->∃ v,vs[i]?=some v/\Tr K H v w
 | _,_,_,_,.nil,e=>by simp at e
 | _,_,0,_,.cons r _,e=>by simp at e;subst e;exact⟨_,rfl,r⟩
 | _,_,i+1,w,.cons _ t,e=>by
  obtain⟨v,h1,h2⟩:=TrL.get (i:=i) (w:=w) t (by simpa using e)
  exact⟨v,by simpa using h1,h2⟩
theorem TrL.get':∀{vs:List V}{a:List W}{i:Nat}{v:V},TrL K H vs a->vs[i]?=some v->∃ w,a[i]?=some w/\Tr K H v w
 | _,_,_,_,.nil,e=>by simp at e
 | _,_,0,_,.cons r _,e=>by simp at e;subst e;exact⟨_,rfl,r⟩
 | _,_,i+1,v,.cons _ t,e=>by
  obtain⟨w,h1,h2⟩:=TrL.get' (i:=i) (v:=v) t (by simpa using e)
  exact⟨w,by simpa using h1,h2⟩
theorem TrL.append:∀{vs a:List V}{c b:List W},TrL K H vs c->TrL K H a b->TrL K H (vs++a) (c++b)
 | _,_,_,_,.nil,s=>s
 | _,_,_,_,.cons r t,s=>.cons r (t.append s)
theorem TrL.set{v:V}{w:W}(r:Tr K H v w):∀{vs:List V}{a:List W}(i:Nat),TrL K H vs a->TrL K H (vs.set i v) (a.set i w)
 | _,_,_,.nil=>.nil
 | _,_,0,.cons _ t=>.cons r t
 | _,_,i+1,.cons q t=>.cons q (TrL.set r i t)
theorem TrL.take:∀{vs:List V}{a:List W}(n:Nat),TrL K H vs a->TrL K H (vs.take n) (a.take n)
 | _,_,0,_=>.nil
 | _,_,_+1,.nil=>.nil
 | _,_,n+1,.cons r t=>.cons r (TrL.take n t)
theorem TrL.drop:∀{vs:List V}{a:List W}(n:Nat),TrL K H vs a->TrL K H (vs.drop n) (a.drop n)
 | _,_,0,r=>r
 | _,_,_+1,.nil=>.nil
 | _,_,n+1,.cons _ t=>TrL.drop n t
variable {vs:List V}
theorem Jr{b:Addr}{o:HO}(h:SqT K H a vs)(d:∀ xs,H b≠some (.tup xs))(f:∀ c xs,H b≠some (.frz c (.tup xs))):SqT K (upd H b o) a vs:=by
 rcases h with(h |⟨c,h⟩)| h
 ·exact .inl (.inl (by rw[AQ (λe=>d _ (e▸h))];exact h))
 ·exact .inl (.inr ⟨c,by rw[AQ (λe=>f _ _ (e▸h))];exact h⟩)
 ·exact .inr h
theorem Js{b:Addr}{o:HO}(h:RoL K H a vs)(d:∀ c u,H b≠some (.frz c u)):RoL K (upd H b o) a vs:=by
 rcases h with⟨c,h⟩| h
 ·exact .inl ⟨c,by rw[AQ (λe=>d _ _ (e▸h))];exact h⟩
 ·exact .inr h
variable {p:Addr}
theorem Mono.new(b:H p=none)(o:HO):Mono K H (upd H p o):=
 ⟨λa d h=>Jr h (λxs e=>by rw[b]at e;cases e) (λc xs e=>by rw[b]at e;cases e),λa d h=>Js h (λc xs e=>by rw[b]at e;cases e)⟩
variable {xs:List V}
theorem Mono.lst(b:H p=some (.lst xs))(o:HO):Mono K H (upd H p o):=
 ⟨λa d h=>Jr h (λxs e=>by rw[b]at e;cases e) (λc xs e=>by rw[b]at e;cases e),λa d h=>Js h (λc xs e=>by rw[b]at e;cases e)⟩
theorem Mono.was{o':HO}(b:H p=some o')(o:HO)(h1:∀ xs,o'≠.tup xs)(h2:∀ c u,o'≠.frz c u):Mono K H (upd H p o):=
 ⟨λa d h=>Jr h (λxs e=>by rw[b]at e;exact h1 _ (YE e)) (λc xs e=>by rw[b]at e;exact h2 _ _ (YE e)),λa d h=>Js h (λc xs e=>by rw[b]at e;exact h2 _ _ (YE e))⟩
variable {G:Hw}
theorem RelH.no(r:RelH K H G)(a:H p=none):G p=none:=by
 cases e:G p with
 | none=>rfl
 | some o=>exact Qi a (r p o e).some
theorem RelH.mono0{o:HO}(r:RelH K H G)(b:H p=none):RelH K (upd H p o) G:=λa u e=>
 have q:=r a u e
 q.mono (Mono.new b o) (AQ (by rintro rfl;exact q.some b))
theorem RelH.laid{o:HO}{u:HW}(r:RelH K H G)(m:Mono K H (upd H p o))(t:RelO2 K (upd H p o) p u):RelH K (upd H p o) (put G p u):=λa b e=>by
 by_cases h:a=p
 ·subst h
  rw[An]at e;cases e
  exact t
 ·rw[AH h]at e
  exact(r a _ e).mono m (AQ h)
variable {b:List W}
theorem RelH.new(r:RelH K H G)(a:H p=none)(t:TrL K H vs b):RelH K (upd H p (.lst vs)) (put G p (.lst b)):=
 r.laid (Mono.new a _) ⟨vs,BP,t.mono (Mono.new a _)⟩
theorem RelH.chg(r:RelH K H G)(a:H p=some (.lst xs))(t:TrL K H vs b):RelH K (upd H p (.lst vs)) (put G p (.lst b)):=
 r.laid (Mono.lst a _) ⟨vs,BP,t.mono (Mono.lst a _)⟩
theorem RelH.chgI{C dx:Addr}{xs vs:List (Str×V)}{a:List (Str×W)}(r:RelH K H G)(b:H p=some (.ins C dx xs))(t:TrP K H vs a):RelH K (upd H p (.ins C dx vs)) (put G p (.ins C a)):=
 have m:Mono K H (upd H p (.ins C dx vs)):=Mono.was b _ (λ_ z=>by cases z) (λ_ _ z=>by cases z)
 r.laid m ⟨dx,vs,BP,t.mono m⟩
abbrev Kw:=W->Hw->Prop
abbrev GE:=Sw->Hw->Kw->Prop
abbrev GT:=Sw->Hw->(Bool->Hw->Prop)->Prop
abbrev GA:=Sw->Hw->(List W->Hw->Prop)->Prop
structure Ew where
 nx:Sw->Hw->Prop
 rt:Kw
 bk:Sw->Hw->Prop
 ct:Sw->Hw->Prop
abbrev GS:=Ew->Sw->Hw->Prop
abbrev GG:=W->Sw->Hw->(Sw->Hw->Prop)->Prop
def GE.M(g:GE):Prop:=∀ ω G(Q Q':Kw),(∀ w G',Q w G'->Q' w G')->g ω G Q->g ω G Q'
def GT.M(g:GT):Prop:=∀ ω G(Q Q':Bool->Hw->Prop),(∀ w G',Q w G'->Q' w G')->g ω G Q->g ω G Q'
def GA.M(g:GA):Prop:=∀ ω G(Q Q':List W->Hw->Prop),(∀ w G',Q w G'->Q' w G')->g ω G Q->g ω G Q'
def GS.M(g:GS):Prop:=∀ ω G(D D':Ew),(∀ a b,D.nx a b->D'.nx a b)->(∀ a b,D.rt a b->D'.rt a b)->(∀ a b,D.bk a b->D'.bk a b)->(∀ a b,D.ct a b->D'.ct a b)->g D ω G->g D' ω G
def GG.M(g:GG):Prop:=∀ w ω G(Q Q':Sw->Hw->Prop),(∀ a b,Q a b->Q' a b)->g w ω G Q->g w ω G Q'
def dn(K:PySem.W.Frag)(H:Hp)(Q:VK):Kw:=λw G=>∀ v H',Mono K H H'->Tr K H' v w->RelH K H' G->Q v H'
def dnT(K:PySem.W.Frag)(H:Hp)(Q:Bool->Hp->Prop):Bool->Hw->Prop:=λb G=>∀ H',Mono K H H'->RelH K H' G->Q b H'
def dnA(K:PySem.W.Frag)(H:Hp)(Q:List V->Hp->Prop):List W->Hw->Prop:=λws G=>∀ vs H',Mono K H H'->TrL K H' vs ws->RelH K H' G->Q vs H'
def dnS(K:PySem.W.Frag)(H:Hp)(Q:St->Hp->Prop):Sw->Hw->Prop:=λω G=>∀ σ H',Mono K H H'->TrSt K H' σ ω->RelH K H' G->Q σ H'
def dnD(K:PySem.W.Frag)(H:Hp)(D:EA):Ew:=⟨dnS K H D.nx,dn K H D.rt,dnS K H D.bk,dnS K H D.ct⟩
theorem BH{Q:VK}(m:Mono K H H')(q:dn K H Q w G):dn K H' Q w G:=λv H2 a t r=>q v H2 (m.trans a) t r
theorem MD{Q:Bool->Hp->Prop}(m:Mono K H H'){w:Bool}(q:dnT K H Q w G):dnT K H' Q w G:=λH2 a r=>q H2 (m.trans a) r
theorem VS{Q:St->Hp->Prop}(m:Mono K H H'){w:Sw}(q:dnS K H Q w G):dnS K H' Q w G:=λv H2 a t r=>q v H2 (m.trans a) t r
def up(K:PySem.W.Frag)(g:GE):TE:=λσ H Q=>∃ ω G,TrSt K H σ ω/\RelH K H G/\g ω G (dn K H Q)
def upT(K:PySem.W.Frag)(g:GT):TT:=λσ H Q=>∃ ω G,TrSt K H σ ω/\RelH K H G/\g ω G (dnT K H Q)
def upA(K:PySem.W.Frag)(g:GA):TA:=λσ H Q=>∃ ω G,TrSt K H σ ω/\RelH K H G/\g ω G (dnA K H Q)
def upS(K:PySem.W.Frag)(B:Hp)(g:GS):TS:=λD σ H=>∃ ω G,TrSt K H σ ω/\RelH K H G/\Mono K B H/\g (dnD K B D) ω G
variable {X:Cx}{e:Expr}
theorem AY{t t':TE}(h:PE X e t)(i:∀ σ H Q,t' σ H Q->t σ H Q):PE X e t':=λpins s σ H Q I q=>h pins s σ H Q I (i σ H Q q)
theorem Gk{t t':TT}(h:PT X e t)(i:∀ σ H Q,t' σ H Q->t σ H Q):PT X e t':=λpins s σ H Q I q=>h pins s σ H Q I (i σ H Q q)
theorem ME{e:List Expr}{t t':TA}(h:PA X e t)(i:∀ σ H Q,t' σ H Q->t σ H Q):PA X e t':=λpos pins s σ H Q I q=>h pos pins s σ H Q I (i σ H Q q)
variable {t t':TS}
theorem Ck{e:Stmt}(h:PS X e t)(i:∀ D σ H,t' D σ H->t D σ H):PS X e t':=λpins s σ H D I q=>h pins s σ H D I (i D σ H q)
theorem Jt{e:List Stmt}(h:PSs X e t)(i:∀ D σ H,t' D σ H->t D σ H):PSs X e t':=λpins s σ H D I q=>h pins s σ H D I (i D σ H q)
section
variable {X:Cx} {a b c e:Expr} {es:List Expr} {pos:Pos} {ga gb gc:GE} {gt:GT} {gs:GA}
abbrev PEw(X:Cx)(e:Expr)(g:GE):Prop:=PE X e (up X.K g)
abbrev PTw(X:Cx)(e:Expr)(g:GT):Prop:=PT X e (upT X.K g)
abbrev PAw(X:Cx)(es:List Expr)(g:GA):Prop:=PA X es (upA X.K g)
abbrev PSw(X:Cx)(P:Hp->Prop)(st:Stmt)(g:GS):Prop:=∀ B,P B->PS X st (upS X.K B g)
abbrev Dc(X:Cx)(P:Hp->Prop)(st:List Stmt)(g:GS):Prop:=∀ B,P B->PSs X st (upS X.K B g)
abbrev MF:Hp->Prop:=λ_=>True
abbrev atB(X:Cx):Hp->Prop:=λB=>B=X.H₀
def gC(w:W):GE:=λ_ G Q=>Q w G
def Aa(i:Nat):GE:=λω G Q=>match ω[i]? with | some (some w)=>Q w G | _=>False
theorem EH:GE.M (gC w):=λ_ _ _ _ h q=>h _ _ q
variable {i:Nat}
theorem VT:GE.M (Aa i):=λω G Q a h q=>by
 have z:Aa i ω G Q=(match ω[i]? with | some (some w)=>Q w G | _=>False):=rfl
 have b:Aa i ω G a=(match ω[i]? with | some (some w)=>a w G | _=>False):=rfl
 rw[z]at q
 rw[b]
 cases e:ω[i]? with
 | none=>rw[e]at q;exact q
 | some o =>
  cases o with
  | none=>rw[e]at q;exact q
  | some w=>rw[e]at q;exact h _ _ q
variable {x:Str}
theorem VU(c:X.N[i]?=some x)(b:Vis X.env.scope x)(hd:(x==("__debug__":Str))=false)(a:(x==("__classdict__":Str))=false):PEw X (.Name x pos) (Aa i):=
 AY (S6 c b hd a) <| by
  rintro σ H Q ⟨ω,G,d,r,q⟩
  unfold Aa at q
  split at q
  ·rename_i w z
   obtain⟨v,e,t⟩:=d.get i w z
   exact⟨v,e,q v H .refl t r⟩
  ·exact q.elim
theorem VV{i:Int}{j}:PEw X (.Constant (.int i) j pos) (gC (.int i)):=AY S7 (by rintro σ H Q ⟨ω,G,a,r,q⟩;exact q _ H .refl (.int i) r)
theorem VW{i:Bool}{j}:PEw X (.Constant (.bool i) j pos) (gC (.bl i)):=AY S8 (by rintro σ H Q ⟨ω,G,a,r,q⟩;exact q _ H .refl (.bl i) r)
theorem VX{j}:PEw X (.Constant .none j pos) (gC .non):=AY S9 (by rintro σ H Q ⟨ω,G,a,r,q⟩;exact q _ H .refl .non r)
theorem VY{i:Str}{j}:PEw X (.Constant (.str i) j pos) (gC (.str i)):=AY Ta (by rintro σ H Q ⟨ω,G,a,r,q⟩;exact q _ H .refl (.str i) r)
theorem MG{u:Value}(b:Gl X x)(c:X.mg x=some u)(a:RelV v u)(t:∀ H,Tr X.K H v w)(hd:(x==("__debug__":Str))=false):PEw X (.Name x pos) (gC w):=
 AY (LR b c a hd) (by rintro σ H Q ⟨ω,G,d,r,q⟩;exact q _ H .refl (t H) r)
abbrev RW2:=W->W->Hw->Kw->Prop
def RW2.M(r:RW2):Prop:=∀ x y G(Q Q':Kw),(∀ w G',Q w G'->Q' w G')->r x y G Q->r x y G Q'
def Ac(r:RW2)(ga gb:GE):GE:=λω G Q=>ga ω G λx G1=>gb ω G1 λy G2=>r x y G2 Q
variable {r:RW2}
theorem Cm(mr:r.M)(a:ga.M)(mb:gb.M):GE.M (Ac r ga gb):=λω G Q c h q=>a _ _ _ _ (λx d q1=>mb _ _ _ _ (λy b q2=>mr _ _ _ _ _ h q2) q1) q
variable {r2:R2}
theorem Gm(mr:r.M)(i:ga.M)(mb:gb.M)
  (g:∀(x y:W)(v u:V)(G:Hw)(H:Hp)(Q:VK),Tr K H v x->Tr K H u y->RelH K H G->r x y G (dn K H Q)->r2 v u H Q) (σ:St) (H:Hp) (Q:VK) (h:up K (Ac r ga gb) σ H Q):tOp r2 (up K ga) (up K gb) σ H Q:=by
 obtain⟨ω,G,d,f,q⟩:=h
 refine⟨ω,G,d,f,i _ _ _ _ (λx j q1 v H1 c k r1=>?_) q⟩
 refine⟨ω,j,d.mono c,r1,mb _ _ _ _ (λy e q2 u H2 b ty a=>?_) q1⟩
 exact g x y v u e H2 Q (k.mono b) ty a (mr _ _ _ _ _ (λw l z=>BH (c.trans b) z) q2)
theorem Du{op:Operator}(e:OpR X (binaryOp op) r2)(mr:r.M)(f:ga.M)(mb:gb.M)(d:∀(x y:W)(v u:V)(G:Hw)(H:Hp)(Q:VK),Tr X.K H v x->Tr X.K H u y->RelH X.K H G->r x y G (dn X.K H Q)->r2 v u H Q)
  (c:PEw X a ga) (g:PEw X b gb):PEw X (.BinOp a op b pos) (Ac r ga gb):=AY (T8 e c g) (Gm mr f mb d)
theorem VZ{op:CmpOp}(e:OpR X (compareOp op) r2)(mr:r.M)(f:ga.M)(mb:gb.M)(d:∀(x y:W)(v u:V)(G:Hw)(H:Hp)(Q:VK),Tr X.K H v x->Tr X.K H u y->RelH X.K H G->r x y G (dn X.K H Q)->r2 v u H Q)
  (c:PEw X a ga) (g:PEw X b gb) (h:behindInMarks op b=false):PEw X (.Compare a [op] [b] pos) (Ac r ga gb):=AY (Ur e c g h) (Gm mr f mb d)
theorem V0(e:IxR X r2)(mr:r.M)(f:ga.M)(mb:gb.M)(d:∀(x y:W)(v u:V)(G:Hw)(H:Hp)(Q:VK),Tr X.K H v x->Tr X.K H u y->RelH X.K H G->r x y G (dn X.K H Q)->r2 v u H Q)
  (c:PEw X a ga) (g:PEw X b gb) (h:Jk b):PEw X (.Subscript a b pos) (Ac r ga gb):=AY (Va e c g h) (Gm mr f mb d)
end
abbrev Xw:=Sw->Addr->Hw->Prop
abbrev XF:Xw:=λ_ _ _=>False
def upX(K:PySem.W.Frag)(ex:Xw):St->XK:=λσ Cv _ H'=>∃ C ω G,Cv=.ref C/\TrSt K H' σ ω/\RelH K H' G/\ex ω C G
abbrev CC(X:Cx)(ex:Xw):Prop:=D4 (CXe X.prog X.w) X (upX X.K ex)
theorem Un.mono'{fs b:List Addr}{h h':Heap}(u:Un fs b H H' h h'):Mono K H H':=by
 refine⟨λa c q=>?_,λa c q=>?_⟩
 ·rcases q with(q |⟨o,q⟩)| q
  ·exact .inl (.inl (u.tups a c q))
  ·exact .inl (.inr ⟨o,u.frzs a o _ q⟩)
  ·exact .inr q
 ·rcases q with⟨o,q⟩| q
  ·exact .inl ⟨o,u.frzs a o _ q⟩
  ·exact .inr q
abbrev Spw:=List W->Hw->Kw->(Addr->Hw->Prop)->Prop
def dnX(K:PySem.W.Frag)(H:Hp)(E:XK):Addr->Hw->Prop:=λC G'=>∀ H',Mono K H H'->RelH K H' G'->E (.ref C) none H'
def B2(K:PySem.W.Frag)(sp:Spw):Sp:=λvs H Q E=>∃ ws G,TrL K H vs ws/\RelH K H G/\sp ws G (dn K H Q) (dnX K H E)
def Spw.M(sp:Spw):Prop:=∀ ws G(Q Q':Kw)(E E':Addr->Hw->Prop),(∀ w G',Q w G'->Q' w G')->(∀ w G',E w G'->E' w G')->sp ws G Q E->sp ws G Q' E'
structure Df(P:Program)(w:World)(K:PySem.W.Frag)(mg:Str->Option Value)(base:Heap)(x:Str)(k n:Nat)(sp:Spw):Prop where
 ex:∃(f:Addr)(fd:FuncData)(ps:List Str),mg x=some (.ref f)/\PySem.W.keepIn K (.ref f)=true/\Binds K fd ps []/\ps.length=n/\FnOk P w K mg base (CXe P w) k f fd ps (B2 K sp)
 mono:sp.M
section
variable {X:Cx} {e:Expr} {es:List Expr} {pos p:Pos} {ga gb:GE} {gs:GA} {ex:Xw}
def Ad:GA:=λ_ G Q=>Q [] G
def Ab(g:GE)(gs:GA):GA:=λω G Q=>g ω G λx G1=>gs ω G1 λxs G2=>Q (x::xs) G2
theorem MH:GA.M Ad:=λ_ _ _ _ h q=>h _ _ q
theorem V1(b:ga.M)(a:gs.M):GA.M (Ab ga gs):=λω G Q d h q=>b _ _ _ _ (λx e q1=>a _ _ _ _ (λxs c q2=>h _ _ q2) q1) q
theorem V2:PAw X [] Ad:=ME Gg (by rintro σ H Q ⟨ω,G,a,r,q⟩;exact q [] H .refl .nil r)
theorem V3(j:ga.M)(i:gs.M)(g:PEw X e ga)(l:PAw X es gs)(b:starEach (e::es) X.env=(false,eval e X.env)::starEach es X.env:=by rfl):PAw X (e::es) (Ab ga gs):=
 ME (EF g l b) (by rintro σ H Q ⟨ω,G,f,r,q⟩;exact⟨ω,G,f,r,j _ _ _ _ (λx k q1 v H1 d m r1=>⟨ω,k,f.mono d,r1,i _ _ _ _ (λxs n q2 o H2 c a h=>q2 _ H2 (d.trans c) (.cons (m.mono c) a) h) q1⟩) q⟩)
def Ak(sp:Spw)(ex:Xw)(gs:GA):GE:=λω G Q=>gs ω G λws G1=>sp ws G1 Q (ex ω)
variable {sp:Spw}
theorem MI(m:sp.M)(a:gs.M):GE.M (Ak sp ex gs):=λω G Q b h q=>a _ _ _ _ (λd c q1=>m _ _ _ _ _ _ h (λ_ _ z=>z) q1) q
theorem V4{x:Str}{k n:Nat}(D:Df X.prog X.w X.K X.mg X.base x k n sp)(o:Room k X.A)(I:Gl X x)(j:CC X ex)(m:gs.M)(l:PAw X (e::es) gs)
  (b:(x==("__debug__":Str))=false:=by decide) (B:starEach (e::es) X.env=(false,eval e X.env)::starEach es X.env:=by rfl) (d:(backTo pos (starEach es X.env)).any (·.1)=false:=by rfl):
  PEw X (.Call (.Name x p) (e::es) [] pos) (Ak sp ex gs):=by
 obtain⟨f,fd,ps,J,y,E,_,F⟩:=D.ex
 refine AY (VP F o I J y E .nil j l b B d) λσ H Q c=>?_
 obtain⟨ω,G,i,r,q⟩:=c
 refine⟨ω,G,i,r,m _ _ _ _ (λu v q1 L H1 h a r1=>?_) q⟩
 refine⟨u,v,by rw[Yx];exact a,r1,D.mono _ _ _ _ _ _ (λw g z=>BH h z) (λC g z H2 s t=>?_) q1⟩
 exact⟨C,ω,g,rfl,(i.mono h).mono s,t,z⟩
end
def AZ(N:List Str)(ws:List W):Sw:=ws.map some++List.replicate (N.length - ws.length) none
variable {N:List Str}
theorem EI{a:List W}(t:TrL K H vs a):TrSt K H (L2.BQ N vs) (AZ N a):=by
 have hl:=t.length
 refine⟨by simp[L2.BQ,AZ,hl],λi w e=>?_⟩
 unfold AZ at e
 by_cases hi:i < a.length
 ·rw[YI (by simpa using hi),YN]at e
  cases z:a[i]? with
  | none=>rw[z]at e;cases e
  | some c =>
   rw[z]at e
   cases e
   obtain⟨v,b,r⟩:=t.get z
   exact⟨v,by unfold L2.BQ;rw[YI (by simp;lia),YN,b];rfl,r⟩
 ·rw[List.getElem?_append_right (by simpa using hi),List.getElem?_replicate]at e
  split at e <;> cases e
def Sub(G G':Hw):Prop:=∀ a o,G a=some o->G' a=some o
theorem Sub.refl:Sub G G:=λ_ _ h=>h
theorem Sub.trans{e d:Hw}(a:Sub G e)(b:Sub e d):Sub G d:=λc o h=>b c o (a c o h)
theorem Sub.put{b:Hw}(h:Sub G b)(d:G a=none):Sub G (put b a o):=λc u z=>by
 rw[AH (λe=>by rw[e,d]at z;cases z)]
 exact h c u z
theorem Sub.put2{b:Hw}(h:Sub G b):Sub (L3.put G a o) (L3.put b a o):=λc u z=>by
 by_cases e:c=a
 ·subst e;rw[An]at z ⊢;exact z
 ·rw[AH e]at z ⊢;exact h c u z
theorem RelH.sub{b:Hw}(r:RelH K H b)(s:Sub G b):RelH K H G:=λa o e=>r a o (s a o e)
def Kw.C(Q:Kw):Prop:=∀ w G G',Sub G G'->Q w G->Q w G'
def Xc(E:Addr->Hw->Prop):Prop:=∀ w G G',Sub G G'->E w G->E w G'
theorem EJ{Q:VK}:Kw.C (dn K H Q):=λw G a s q v H2 m t r=>q v H2 m t (r.sub s)
theorem MJ{E:XK}:Xc (dnX K H E):=λw G a s q H2 m r=>q H2 m (r.sub s)
def Ax(Q:Kw):Ew:=⟨λ_ G=>Q .non G,Q,λ_ _=>False,λ_ _=>False⟩
section
variable {P:Program} {w:World} {mg:Str->Option Value} {base:Heap}
abbrev cxW(P:Program)(w:World)(K:PySem.W.Frag)(mg:Str->Option Value)(base:Heap)(N:List Str)(qual:Str)(scope:Scope)(f:Addr)(cd:Value)(A:Around)(outer:List Env)(s:Shared)(H:Hp)(E:XK):Cx :=
 A6 (CXe P w) P w K mg base N qual scope f cd A outer s H E
theorem A2{qual:Str}{scope:Scope}{f:Addr}{cd:Value}{A:Around}{outer:List Env}{s:Shared}{E:XK}:CC (cxW P w K mg base N qual scope f cd A outer s H E) (λ_=>dnX K H E):=by
 intro pins σ Hc c ev s' I ⟨e,C,H',b,F,g,ω,G,a,d,r,q⟩
 cases a
 refine VG pins σ Hc c ev s' I ⟨e,C,H',b,F,q H' ?_ r⟩
 exact(Un.mono' I.base).trans (Un.mono' F.un)
end
section
variable {X:Cx} {a b c e:Expr} {st:Stmt} {sts sts':List Stmt} {pos pos':Pos} {ga gb gc:GE} {gt gu:GT} {g1 g2:GS} {ex:Xw} {P:Hp->Prop}
def Al:GS:=λD ω G=>D.nx ω G
def Ae(g1 g2:GS):GS:=λD ω G=>g1 {D with nx:=g2 D} ω G
theorem V5:GS.M Al:=λ_ _ _ _ h _ _ _ q=>h _ _ q
theorem V6(d:g1.M)(c:g2.M):GS.M (Ae g1 g2):=λω G D e h1 h2 b a q=>d _ _ {D with nx:=g2 D} _ (λ_ _ z=>c _ _ _ _ h1 h2 b a z) h2 b a q
theorem V7:Dc X P [] Al:=λB b=>Jt Tw (by rintro D σ H ⟨ω,G,a,r,mb,q⟩;exact q σ H mb a r)
theorem V8(c:g1.M)(f:g2.M)(h1:PSw X P st g1)(h2:Dc X P sts g2):Dc X P (st::sts) (Ae g1 g2):=λB b=>
 Jt (Tz (h1 B b) (h2 B b)) (by rintro D σ H ⟨ω,G,e,r,mb,q⟩;exact⟨ω,G,e,r,mb,c _ _ {dnD X.K B D with nx:=g2 (dnD X.K B D)} _ (λω' d z σ' H' m a r'=>⟨ω',d,a,r',m,z⟩) (λ_ _ z=>z) (λ_ _ z=>z) (λ_ _ z=>z) q⟩)
theorem V9(h1:PSw X P st g1):Dc X P [st] g1:=λB a=>Jt (TB (h1 B a)) λD σ H z=>z
def Ai(i:Nat)(ga:GE):GS:=λD ω G=>ga ω G λw G1=>D.nx (ω.set i (some w)) G1
variable {i:Nat}
theorem MK(a:ga.M):GS.M (Ai i ga):=λω G D b h _ _ _ q=>a _ _ _ _ (λ_ _ z=>h _ _ z) q
theorem Wa{x:Str}(c:X.N.Nodup)(hi:X.N[i]?=some x)(d:Loc X.env.scope x)(f:ga.M)(b:PEw X e ga)(h:swapsWith e (some (.Name x pos')) pos.line X.env=pure false)(g:X.fn x=true\/X.env.scope.names.lookup x=some .local):
  PSw X P (.Assign [.Name x pos'] e pos) (Ai i ga):=λB j=>
 Ck (TR c hi d b h g) (by rintro D σ H ⟨ω,G,a,r,mb,q⟩;exact⟨ω,G,a,r,f _ _ _ _ (λw k z v H1 m t r1=>z _ H1 (mb.trans m) ((a.mono m).set i t) r1) q⟩)
def Ag(ga:GE):GS:=λD ω G=>ga ω G D.rt
theorem Wb(a:ga.M):GS.M (Ag ga):=λω G D b _ h _ _ q=>a _ _ _ _ (λ_ _ z=>h _ _ z) q
theorem Wc(b:ga.M)(a:PEw X e ga):PSw X P (.Return (some e) pos) (Ag ga):=λB d=>Ck (TH a) (by rintro D σ H ⟨ω,G,c,r,mb,q⟩;exact⟨ω,G,c,r,b _ _ _ _ (λw f z v H1 m t r1=>z v H1 (mb.trans m) t r1) q⟩)
def AF(ga:GE):GS:=λD ω G=>ga ω G λ_ G1=>D.nx ω G1
theorem Wd(a:ga.M):GS.M (AF ga):=λω G D b h _ _ _ q=>a _ _ _ _ (λ_ _ z=>h _ _ z) q
theorem We(c:ga.M)(b:PEw X e ga)(d:swapsWith e none pos.line X.env=pure false):PSw X P (.Expr e pos) (AF ga):=λB f=>
 Ck (TD b d) (by rintro D σ H ⟨ω,G,a,r,mb,q⟩;exact⟨ω,G,a,r,c _ _ _ _ (λw g z v H1 m t r1=>z _ H1 (mb.trans m) (a.mono m) r1) q⟩)
def gIf(gt:GT)(g1 g2:GS):GS:=λD ω G=>gt ω G λb G1=>if b=true then g1 D ω G1 else g2 D ω G1
theorem Wf(f:gt.M)(e:g1.M)(d:g2.M):GS.M (gIf gt g1 g2):=λω G D g h1 h2 c a q=>f _ _ _ _ (λb h z=>by
 cases b with
 | true=>exact e _ _ _ _ h1 h2 c a z
 | false=>exact d _ _ _ _ h1 h2 c a z) q
theorem Wg(f:gt.M)(h:g1.M)(g:g2.M)(hc:PTw X c gt)(h1:Dc X P sts g1)(h2:Dc X P sts' g2):PSw X P (.If c sts sts' pos) (gIf gt g1 g2):=λB d=>
 Ck (TK hc (h1 B d) (h2 B d)) λD σ H⟨ω,G,a,r,mb,q⟩=>⟨ω,G,a,r,f _ _ _ _ (λb e z H1 m r1=>by
  cases b with
  | true=>exact⟨ω,e,a.mono m,r1,mb.trans m,z⟩
  | false=>exact⟨ω,e,a.mono m,r1,mb.trans m,z⟩) q⟩
def gTB(g:GE):GT:=λω G Q=>g ω G λw G1=>match w with | .bl b=>Q b G1 | _=>False
theorem ML(m:ga.M):GT.M (gTB ga):=λω G Q a h q=>m _ _ _ _ (λw b z=>by
 cases w <;> first | exact h _ _ z | exact z) q
theorem EK{b:Bool}(t:Tr K H v (.bl b)):v=.bl b:=by cases t;rfl
theorem MM{b:Int}(t:Tr K H v (.int b)):v=.int b:=by cases t;rfl
theorem Wh{b:Str}(t:Tr K H v (.str b)):v=.str b:=by cases t;rfl
theorem EL{a:Addr}(t:Tr K H v (.ref a)):v=.ref a:=by cases t;rfl
theorem MN(m:ga.M){f:Bool->Hp->Prop}(h:upT K (gTB ga) σ H f):up K ga σ H (λx H1=>∃ k,x=.bl k/\f k H1):=by
 obtain⟨ω,G,c,r,q⟩:=h
 refine⟨ω,G,c,r,m _ _ _ _ (λw d z v H1 a t r1=>?_) q⟩
 cases w with
 | bl b=>exact⟨b,EK t,z H1 a r1⟩
 | _=>exact z.elim
theorem Wi{op:CmpOp}{r:RW2}{r2:R2}(f:OpR X (compareOp op) r2)(mr:r.M)(c:ga.M)(mb:gb.M)(e:∀(x y:W)(v u:V)(G:Hw)(H:Hp)(Q:VK),Tr X.K H v x->Tr X.K H u y->RelH X.K H G->r x y G (dn X.K H Q)->r2 v u H Q)
  (d:PEw X a ga) (g:PEw X b gb) (h:behindInMarks op b=false):PTw X (.Compare a [op] [b] pos) (gTB (Ac r ga gb)):=
 Gk (Us f d g h) λσ H Q z=>Gm mr c mb e σ H _ (MN (Cm mr c mb) z)
def A7(w:W)(G:Hw):Option Bool:=match w with
 | .non=>some false
 | .bl b=>some b
 | .int i=>some (i != 0)
 | .tup xs=>some (!xs.isEmpty)
 | .rol xs=>some (!xs.isEmpty)
 | .ref a=>match G a with | some (.lst xs)=>some (!xs.isEmpty)| _=>none
 | .str _=>none
def AM(g:GE):GT:=λω G Q=>g ω G λw G1=>match A7 w G1 with | some b=>Q b G1 | none=>False
theorem Wj(m:ga.M):GT.M (AM ga):=λω G Q c h q=>m _ _ _ _ (λw a z=>by
 cases e:A7 w a with
 | none=>rw[e]at z;exact z
 | some b=>rw[e]at z;exact h _ _ z) q
theorem Ju:∀{vs:List V}{a:List W},TrL K H vs a->vs.isEmpty=a.isEmpty
 | _,_,.nil=>rfl
 | _,_,.cons _ _=>rfl
theorem Wk{b:Bool}(t:Tr K H v w)(r:RelH K H G)(e:A7 w G=some b):Jc K v H b:=by
 cases t with
 | non=>cases e;rfl
 | bl c=>cases e;rfl
 | int i=>cases e;rfl
 | str x=>cases e
 | tup h l=>cases e;exact .inr (.inl ⟨_,h,by rw[Ju l]⟩)
 | rol h l=>cases e;exact .inl ⟨_,h.sq,by rw[Ju l]⟩
 | ref a =>
  unfold A7 at e
  dsimp only at e
  cases z:G a with
  | none=>rw[z]at e;cases e
  | some o =>
   rw[z]at e
   cases o with
   | exc C=>cases e
   | ins C fs=>cases e
   | dct f=>cases e
   | lst xs =>
    cases e
    obtain⟨d,g,l⟩:=r a _ z
    exact .inl ⟨d,SqL.of g,by rw[Ju l]⟩
theorem Wl(f:ga.M)(d:PEw X e ga)(i:∀ a,isTrue e X.env a=(do let v <- a;standAt e.pos;holding [v] (truthy v)):=by intro _;rfl):PTw X e (AM ga):=
 Gk (Ux d i) λσ H Q⟨ω,G,h,r,q⟩=>⟨ω,G,h,r,f _ _ _ _ (λw g z v H1 m t r1=>by
  cases c:A7 w g with
  | none=>rw[c]at z;exact z.elim
  | some b=>rw[c]at z;exact⟨b,Wk t r1 c,z H1 m r1⟩) q⟩
def gNt(g:GT):GT:=λω G Q=>g ω G λb G1=>Q (!b) G1
theorem Wn(m:gt.M):GT.M (gNt gt):=λω G Q a h q=>m _ _ _ _ (λw b z=>h _ _ z) q
theorem Wo(b:PTw X a gt):PTw X (.UnaryOp .Not a pos) (gNt gt):=Gk (Tj b) λσ H Q z=>z
abbrev PWw(X:Cx)(e:Expr)(g:GT):Prop:=PW X e (upT X.K g)
theorem Gn{t t':TT}(h:PW X e t)(i:∀ σ H Q,t' σ H Q->t σ H Q):PW X e t':=λa pins s σ H Q I q=>h a pins s σ H Q I (i σ H Q q)
def Bh(g1 g2:GT):GT:=λω G Q=>g1 ω G λb G1=>if b=true then g2 ω G1 Q else Q false G1
def gOr(g1 g2:GT):GT:=λω G Q=>g1 ω G λb G1=>if b=true then Q true G1 else g2 ω G1 Q
theorem Wp(c:gt.M)(a:gu.M):GT.M (Bh gt gu):=λω G Q d h q=>c _ _ _ _ (λb e z=>by
 cases b with
 | true=>exact a _ _ _ _ h z
 | false=>exact h _ _ z) q
theorem Wq(c:gt.M)(a:gu.M):GT.M (gOr gt gu):=λω G Q d h q=>c _ _ _ _ (λb e z=>by
 cases b with
 | true=>exact h _ _ z
 | false=>exact a _ _ _ _ h z) q
variable {Au:List Expr}
theorem Wr(b:PTw X a gt):PWw X (.BoolOp .And [a] pos) gt:=Gn (Tf b) λσ H Q z=>z
theorem Ws(b:PTw X a gt):PWw X (.BoolOp .Or [a] pos) gt:=Gn (Tg b) λσ H Q z=>z
theorem Wu(f:gt.M)(d:gu.M)(e:PTw X a gt)(g:PWw X (.BoolOp .And (b::Au) pos) gu):PWw X (.BoolOp .And (a::b::Au) pos) (Bh gt gu):=
 Gn (Th e g) λσ H Q⟨ω,G,c,r,q⟩=>⟨ω,G,c,r,f _ _ _ _ (λb h z H1 m r1=>by
  cases b with
  | true=>exact⟨ω,h,c.mono m,r1,d _ _ _ _ (λ_ _ z=>MD m z) z⟩
  | false=>exact z H1 m r1) q⟩
theorem Wv(f:gt.M)(d:gu.M)(e:PTw X a gt)(g:PWw X (.BoolOp .Or (b::Au) pos) gu):PWw X (.BoolOp .Or (a::b::Au) pos) (gOr gt gu):=
 Gn (Ti e g) λσ H Q⟨ω,G,c,r,q⟩=>⟨ω,G,c,r,f _ _ _ _ (λb h z H1 m r1=>by
  cases b with
  | true=>exact z H1 m r1
  | false=>exact⟨ω,h,c.mono m,r1,d _ _ _ _ (λ_ _ z=>MD m z) z⟩) q⟩
variable {op:BoolOp}
theorem Ww{vs:List Expr}(h:PWw X (.BoolOp op vs pos) gt):PTw X (.BoolOp op vs pos) gt:=PW.pt h
def BI(ga gb:GE):GE:=λω G Q=>ga ω G λx G1=>match x with | .bl c=>if c=true then gb ω G1 Q else Q (.bl false) G1 | _=>False
def B3(ga gb:GE):GE:=λω G Q=>ga ω G λx G1=>match x with | .bl c=>if c=true then Q (.bl true) G1 else gb ω G1 Q | _=>False
def BR(gt:GT)(ga gb:GE):GE:=λω G Q=>gt ω G λc G1=>if c=true then ga ω G1 Q else gb ω G1 Q
theorem Wx(a:ga.M)(mb:gb.M):GE.M (BI ga gb):=λω G Q b h q=>a _ _ _ _ (λx d z=>by
 cases x with
 | bl c =>
  cases c with
  | true=>exact mb _ _ _ _ h z
  | false=>exact h _ _ z
 | _=>exact z) q
theorem Wy(a:ga.M)(mb:gb.M):GE.M (B3 ga gb):=λω G Q b h q=>a _ _ _ _ (λx d z=>by
 cases x with
 | bl c =>
  cases c with
  | true=>exact h _ _ z
  | false=>exact mb _ _ _ _ h z
 | _=>exact z) q
theorem Wz(b:gt.M)(a:ga.M)(mb:gb.M):GE.M (BR gt ga gb):=λω G Q d h q=>b _ _ _ _ (λc e z=>by
 cases c with
 | true=>exact a _ _ _ _ h z
 | false=>exact mb _ _ _ _ h z) q
theorem WA(h:PEw X a ga):PEw X (.BoolOp op [a] pos) ga:=To h
theorem WB(g:ga.M)(mb:gb.M)(e:PEw X a ga)(f:PEw X (.BoolOp .And (b::Au) pos) gb):PEw X (.BoolOp .And (a::b::Au) pos) (BI ga gb):=
 AY (Tp e f) λσ H Q⟨ω,G,d,r,q⟩=>⟨ω,G,d,r,g _ _ _ _ (λx h z v H1 m t r1=>by
  cases x with
  | bl c =>
   refine⟨c,EK t,?_⟩
   cases c with
   | true=>exact⟨ω,h,d.mono m,r1,mb _ _ _ _ (λ_ _ z=>BH m z) z⟩
   | false=>exact z _ H1 m (.bl false) r1
  | _=>exact z.elim) q⟩
theorem WC(g:ga.M)(mb:gb.M)(e:PEw X a ga)(f:PEw X (.BoolOp .Or (b::Au) pos) gb):PEw X (.BoolOp .Or (a::b::Au) pos) (B3 ga gb):=
 AY (Tq e f) λσ H Q⟨ω,G,d,r,q⟩=>⟨ω,G,d,r,g _ _ _ _ (λx h z v H1 m t r1=>by
  cases x with
  | bl c =>
   refine⟨c,EK t,?_⟩
   cases c with
   | true=>exact z _ H1 m (.bl true) r1
   | false=>exact⟨ω,h,d.mono m,r1,mb _ _ _ _ (λ_ _ z=>BH m z) z⟩
  | _=>exact z.elim) q⟩
theorem WD(i:gt.M)(h:ga.M)(mb:gb.M)(hc:PTw X c gt)(f:PEw X a ga)(g:PEw X b gb):PEw X (.IfExp c a b pos) (BR gt ga gb):=
 AY (Ts hc f g) λσ H Q⟨ω,G,d,r,q⟩=>⟨ω,G,d,r,i _ _ _ _ (λc e z H1 m r1=>by
  cases c with
  | true=>exact⟨ω,e,d.mono m,r1,h _ _ _ _ (λ_ _ z=>BH m z) z⟩
  | false=>exact⟨ω,e,d.mono m,r1,mb _ _ _ _ (λ_ _ z=>BH m z) z⟩) q⟩
variable {es:List Expr} {gs:GA}
def Ap(gs:GA):GE:=λω G Q=>gs ω G λws G1=>ws.length<=sizeLine/\Q (.tup ws) G1
def As(gs:GA):GE:=λω G Q=>gs ω G λws G1=>ws.length<=sizeLine/\∀ p,G1 p=none->Q (.ref p) (put G1 p (.lst ws))
theorem WE(m:gs.M):GE.M (Ap gs):=λω G Q a h q=>m _ _ _ _ (λc b z=>⟨z.1,h _ _ z.2⟩) q
theorem WF(m:gs.M):GE.M (As gs):=λω G Q b h q=>m _ _ _ _ (λd c z=>⟨z.1,λp a=>h _ _ (z.2 p a)⟩) q
theorem WG{x1}(m:gs.M)(h:PAw X es gs):PEw X (.Tuple es x1 pos) (Ap gs):=
 AY (UU h) λσ H Q⟨ω,G,c,r,q⟩=>⟨ω,G,c,r,m _ _ _ _ (λd e z f H1 b t r1=>⟨by rw[t.length];exact z.1,λp a=>
  z.2 _ _ (b.trans (Mono.new a _)) (.tup (SqT.of BP) (t.mono (Mono.new a _))) (r1.mono0 a)⟩) q⟩
theorem WH(m:gs.M)(h:PAw X es gs):PEw X (.List es pos) (As gs):=
 AY (UV h) λσ H Q⟨ω,G,c,r,q⟩=>⟨ω,G,c,r,m _ _ _ _ (λd e z f H1 b t r1=>⟨by rw[t.length];exact z.1,λp a=>
  z.2 p (r1.no a) _ _ (b.trans (Mono.new a _)) (.ref p) (r1.new a t)⟩) q⟩
end
def CD(z:Str):List V:=z.cps.toList.map λc=>V.str ⟨#[c]⟩
def Itk(xs:List V):It:=⟨λi _=>i < xs.length,λi H x H'=>H'=H/\xs[i]?=some x,λi _=>xs.length<=i⟩
variable {P:Program}{tg:Expr}
theorem WI{w:World}(D:∀ it u,letOwnedTupleGo tg it u=pure ())(it:Addr)(z:Str)(t:Tok):Dp P w K tg (Itk (CD z)) [it] it (λi h=>h.IsStrIter it "str_ascii_iterator" z t i) where
 mem:=by simp
 obj:=λi h st b a=>by
  have e:b=it:=by simpa using a
  subst e
  obtain⟨o,e,c,d⟩:=st
  exact⟨o,e,λv z=>by rw[d]at z;cases z⟩
 keep:=λi h h' st k=>by
  obtain⟨o,e,c,d⟩:=st
  exact⟨o,k it (by simp) o e,c,d⟩
 item:=by
  intro X p hw n hc i pins s σ H E I f st q
  subst p hw n
  obtain⟨x,j,J,l,r,y⟩:=f it (by simp)
  have W:=Walks.strAscii (prog:=X.prog) (w:=X.w) (I.ok.hd hc) it z t
  have hi:i < z.cps.size:=by simpa[CD,Itk]using q
  refine W.item i s _ _ hi st λv h' tk F g B=>?_
  obtain⟨c,t',m,rfl⟩:=F
  have G:Inv X pins σ H {s with heap:=h',toks:=tk}:=I.turned (λb o a e=>B b o (by simpa using a) e) x j l r y
  exact⟨_,rfl,wpAny_of_eq (D _ _) ⟨.str ⟨#[c]⟩,H,G,⟨_,rfl⟩,⟨rfl,by simp[CD,m]⟩,g,λb a=>(f b a).1⟩⟩
 done:=by
  intro X p hw n hc i pins s σ H E I f st q
  subst p hw n
  obtain⟨x,j,J,l,r,y⟩:=f it (by simp)
  have hi:z.cps.size<=i:=by simpa[CD,Itk]using q
  exact wpAny_pyNext_ascii_end (I.ok.hd hc) st (by simp[hi]) λh' eb=>⟨rfl,I.turned (t':=s.toks) (λb o a e=>eb b o a e) x j l r y⟩
 self:=λA i s Q E st h=>wpAny_pyIter_striter_ascii st h
theorem WJ{w:World}(D:∀ it u,letOwnedTupleGo tg it u=pure ())(it:Addr)(z:Str)(t:Tok):Dp P w K tg (Itk (CD z)) [it] it (λi h=>h.IsStrIter it "str_iterator" z t i) where
 mem:=by simp
 obj:=λi h st b a=>by
  have e:b=it:=by simpa using a
  subst e
  obtain⟨o,e,c,d⟩:=st
  exact⟨o,e,λv z=>by rw[d]at z;cases z⟩
 keep:=λi h h' st k=>by
  obtain⟨o,e,c,d⟩:=st
  exact⟨o,k it (by simp) o e,c,d⟩
 item:=by
  intro X p hw n hc i pins s σ H E I f st q
  subst p hw n
  obtain⟨x,j,J,l,r,y⟩:=f it (by simp)
  have W:=Walks.strWide (prog:=X.prog) (w:=X.w) (I.ok.hd hc) it z t
  have hi:i < z.cps.size:=by simpa[CD,Itk]using q
  refine W.item i s _ _ hi st λv h' tk F g B=>?_
  obtain⟨c,t',m,rfl⟩:=F
  have G:Inv X pins σ H {s with heap:=h',toks:=tk}:=I.turned (λb o a e=>B b o (by simpa using a) e) x j l r y
  exact⟨_,rfl,wpAny_of_eq (D _ _) ⟨.str ⟨#[c]⟩,H,G,⟨_,rfl⟩,⟨rfl,by simp[CD,m]⟩,g,λb a=>(f b a).1⟩⟩
 done:=by
  intro X p hw n hc i pins s σ H E I f st q
  subst p hw n
  obtain⟨x,j,J,l,r,y⟩:=f it (by simp)
  have hi:z.cps.size<=i:=by simpa[CD,Itk]using q
  exact wpAny_pyNext_wide_end (I.ok.hd hc) st (by simp[hi]) λh' eb=>⟨rfl,I.turned (t':=s.toks) (λb o a e=>eb b o a e) x j l r y⟩
 self:=λA i s Q E st h=>wpAny_pyIter_striter_wide st h
def WK(K:PySem.W.Frag)(tl:TE):TI:=λσ H R=>tl σ H λx H1=>(∃ a,x=.ref a/\(∃ xs,SqL K H1 a xs)/\R (Itl K a) H1)\/(∃ a,x=.ref a/\(∃ xs,SqT K H1 a xs)/\R (Itt K a) H1)\/(∃ z,x=.str z/\R (Itk (CD z)) H1)
variable {l:Expr}
theorem WL{tl:TE}(m:∀ it u,letOwnedTupleGo tg it u=pure ())(hl:PE X l tl):PI X tg l (WK X.K tl):=by
 intro pins s σ H R I h
 refine thn (hl pins s σ H _ I h) λv c i=>?_
 obtain⟨x,H1,d,r1,q1⟩:=i
 rcases q1 with⟨a,e,⟨xs,j⟩,q⟩|⟨a,e,⟨xs,j⟩,q⟩|⟨z,e,q⟩
 ·subst e
  cases r1
  obtain⟨g,w,p,r⟩:=d.list j
  refine wpAny_pyIter_list p.isList ?_
  refine⟨c.heap.objs.size,[c.heap.objs.size],_,_,H1,rfl,d.kept (t':=c.toks) λb o e=>Ql _ e,LV a _,⟨_,Qn _ rfl,rfl,rfl⟩,λb f=>?_,q⟩
  have e:b=c.heap.objs.size:=by simpa using f
  subst e
  walk_at "pf"
 ·subst e
  cases r1
  obtain⟨g,w,p,r⟩:=d.tuple j
  refine wpAny_pyIter_tuple (show c.heap.IsTuple a g.toArray from p) ?_
  refine⟨c.heap.objs.size,[c.heap.objs.size],_,_,H1,rfl,d.kept (t':=c.toks) λb o e=>Ql _ e,LX a _,⟨_,Qn _ rfl,rfl,rfl⟩,λb f=>?_,q⟩
  have e:b=c.heap.objs.size:=by simpa using f
  subst e
  walk_at "pf"
 ·subst e
  obtain⟨t,rfl⟩:=r1
  have n:∀ b∈[c.heap.objs.size],CB X pins H1 b:=λb f=>by
   have e:b=c.heap.objs.size:=by simpa using f
   subst e
   walk_at "pf"
  cases k:z.cps.all (· < 128)
  ·exact wpAny_pyIter_wide k ⟨c.heap.objs.size,[c.heap.objs.size],_,_,H1,rfl,d.kept (t':=c.toks) λb o e=>Ql _ e,WJ m _ z t,⟨_,Qn _ rfl,rfl,rfl⟩,n,q⟩
  ·exact wpAny_pyIter_ascii k ⟨c.heap.objs.size,[c.heap.objs.size],_,_,H1,rfl,d.kept (t':=c.toks) λb o e=>Ql _ e,WI m _ z t,⟨_,Qn _ rfl,rfl,rfl⟩,n,q⟩
abbrev GI:=Sw->Hw->(List W->(Hw->Prop)->Hw->Prop)->Prop
def GI.M(g:GI):Prop:=∀ ω G(R R':List W->(Hw->Prop)->Hw->Prop),(∀ ws gd G',R ws gd G'->R' ws gd G')->g ω G R->g ω G R'
def Co(z:Str):List W:=z.cps.toList.map λc=>W.str ⟨#[c]⟩
theorem WM{z:Str}:TrL K H (CD z) (Co z):=by
 unfold CD Co
 generalize z.cps.toList=l
 induction l with
 | nil=>exact .nil
 | cons c l a=>exact .cons (.str _) a
def yes:Hw->Prop:=λ_=>True
def holds(a:Addr)(ws:List W):Hw->Prop:=λG=>G a=some (.lst ws)
def AU(ga:GE):GI:=λω G R=>ga ω G λw G1=>match w with
 | .tup ws=>R ws yes G1
 | .rol ws=>R ws yes G1
 | .str z=>R (Co z) yes G1
 | .ref a=>match G1 a with | some (.lst ws)=>R ws (holds a ws) G1 | _=>False
 | _=>False
variable {ga:GE}
theorem WN(m:ga.M):GI.M (AU ga):=λω G R f h q=>m _ _ _ _ (λw d z=>by
 cases w with
 | tup b=>exact h _ _ _ z
 | rol b=>exact h _ _ _ z
 | str x=>exact h _ _ _ z
 | ref a =>
  dsimp only at z ⊢
  cases e:d a with
  | none=>rw[e]at z;exact z
  | some o =>
   rw[e]at z
   cases o with
   | lst b=>exact h _ _ _ z
   | exc C=>exact z
   | ins C fs=>exact z
   | dct c=>exact z
 | _=>exact z) q
structure D5(K:PySem.W.Frag)(H1:Hp)(J:It)(ws:List W)(gd:Hw->Prop):Prop where
 go:∀(i:Nat)(H:Hp)(G:Hw),Mono K H1 H->RelH K H G->gd G->i < ws.length->J.go i H
 yld:∀(i:Nat)(H:Hp)(G:Hw)(x:V)(H':Hp),Mono K H1 H->RelH K H G->gd G->J.yld i H x H'->i < ws.length->Mono K H H'/\RelH K H' G/\∃ w,ws[i]?=some w/\Tr K H' x w
 stop:∀(H:Hp)(G:Hw),Mono K H1 H->RelH K H G->gd G->J.stop ws.length H
variable {i:Nat}
theorem Gp{x:V}{a:List W}(r:RelH K H G)(e:H'=H)(h:∃ w,a[i]?=some w/\Tr K H x w):Mono K H H'/\RelH K H' G/\∃ w,a[i]?=some w/\Tr K H' x w:=by
 subst e;exact⟨.refl,r,h⟩
variable {c:Hw->Prop}{H1:Hp}
theorem Gq(h:∀ H G,Mono K H1 H->RelH K H G->c G->∃ vs,SqL K H a vs/\TrL K H vs b):D5 K H1 (Itl K a) b c where
 go:=λi H G m r g hi=>by
  obtain⟨vs,q,t⟩:=h H G m r g
  have hl:=t.length
  exact⟨vs,vs[i]'(by lia),q,by simp⟩
 yld:=λi H G x H' m r g y hi=>by
  obtain⟨vs,q,t⟩:=h H G m r g
  obtain⟨w,e,d⟩:=t.get' (y.2 vs q)
  exact Gp r y.1 ⟨w,e,d⟩
 stop:=λH G m r g=>by
  obtain⟨vs,q,t⟩:=h H G m r g
  exact⟨vs,q,Nat.le_of_eq t.length⟩
theorem MO{d:Hw->Prop}(q:SqT K H1 a vs)(t:TrL K H1 vs b):D5 K H1 (Itt K a) b d where
 go:=λi H G m r g hi=>by
  have hl:=t.length
  exact⟨vs,vs[i]'(by lia),m.tup _ _ q,by simp⟩
 yld:=λi H G x H' m r g y hi=>by
  obtain⟨w,e,c⟩:=(t.mono m).get' (y.2 vs (m.tup _ _ q))
  exact Gp r y.1 ⟨w,e,c⟩
 stop:=λH G m r g=>⟨vs,m.tup _ _ q,Nat.le_of_eq t.length⟩
theorem WO{a:List W}(t:TrL K H1 vs a):D5 K H1 (Itk vs) a c where
 go:=λi H G m r g hi=>by show i < vs.length;rw[t.length];exact hi
 yld:=λi H G x H' m r g y hi=>by
  obtain⟨w,e,b⟩:=(t.mono m).get' y.2
  exact Gp r y.1 ⟨w,e,b⟩
 stop:=λH G m r g=>by show vs.length<=a.length;exact Nat.le_of_eq t.length
def PIw(X:Cx)(tg l:Expr)(gi:GI):Prop:=∃ wi:TI,PI X tg l wi/\∀(σ:St)(H:Hp)(ω:Sw)(G:Hw)(R:List W->(Hw->Prop)->Hw->Prop)(R0:It->Hp->Prop),TrSt X.K H σ ω->RelH X.K H G->gi ω G R->
 (∀ ws gd G1 H1 J,R ws gd G1->Mono X.K H H1->RelH X.K H1 G1->gd G1->D5 X.K H1 J ws gd->R0 J H1)->wi σ H R0
theorem WP(g:∀ it u,letOwnedTupleGo tg it u=pure ())(p:ga.M)(hl:PEw X l ga):PIw X tg l (AU ga):=by
 refine⟨_,WL g hl,λσ H ω G R B A r q k=>⟨ω,G,A,r,p _ _ _ _ (λw y z v H1 m t r1=>?_) q⟩⟩
 cases t with
 | tup h l=>exact .inr (.inl ⟨_,rfl,⟨_,h⟩,k _ _ _ H1 _ z m r1 trivial (MO h l)⟩)
 | rol h l=>exact .inl ⟨_,rfl,⟨_,h.sq⟩,k _ _ _ H1 _ z m r1 trivial (Gq λH2 f c _ _=>⟨_,(c.rol _ _ h).sq,l.mono c⟩)⟩
 | str x=>exact .inr (.inr ⟨x,rfl,k _ _ _ H1 _ z m r1 trivial (WO WM)⟩)
 | ref a =>
  dsimp only at z
  cases e:y a with
  | none=>rw[e]at z;exact z.elim
  | some o =>
   rw[e]at z
   cases o with
   | exc C=>exact z.elim
   | ins C fs=>exact z.elim
   | dct s=>exact z.elim
   | lst D =>
    obtain⟨d,n,E⟩:=r1 a _ e
    exact .inl ⟨a,rfl,⟨d,SqL.of n⟩,k _ _ _ H1 _ z m r1 e (Gq λH2 f c j g2=>let⟨d,e2,t2⟩:=j a _ g2;⟨d,SqL.of e2,t2⟩)⟩
 | non=>exact z.elim
 | bl b=>exact z.elim
 | int i=>exact z.elim
structure TgW(X:Cx)(tg:Expr)(gg:GG):Prop where
 ex:∃ g:TG,PG X tg g/\∀(x:V)(w:W)(σ:St)(ω:Sw)(H:Hp)(G:Hw)(Q:St->Hp->Prop),Tr X.K H x w->TrSt X.K H σ ω->RelH X.K H G->gg w ω G (dnS X.K H Q)->g x σ H Q
 mono:gg.M
def gNm(i:Nat):GG:=λw ω G Q=>Q (ω.set i (some w)) G
variable {x:Str}
theorem MP{p:Pos}(a:X.N.Nodup)(hi:X.N[i]?=some x)(c:Loc X.env.scope x)(b:X.fn x=true\/X.env.scope.names.lookup x=some .local):TgW X (.Name x p) (gNm i) where
 ex:=⟨_,CA a hi c b,λx w σ ω H G Q t d r q=>q _ H .refl (d.set i t) r⟩
 mono:=λ_ _ _ _ _ h q=>h _ _ q
def D6(i j:Nat):GG:=λw ω G Q=>match w with | .tup [a,b]=>Q ((ω.set i (some a)).set j (some b)) G | _=>False
def BS(gd:Hw->Prop)(gg:GG)(gb:GS)(D:Ew):List W->Sw->Hw->Prop
 | [],ω,G=>gd G/\D.nx ω G
 | x::xs,ω,G=>gd G/\gg x ω G λω1 G1=>gb {nx:=BS gd gg gb D xs,rt:=D.rt,bk:=D.nx,ct:=BS gd gg gb D xs} ω1 G1
def Bq(gi:GI)(gg:GG)(gb:GS):GS:=λD ω G=>gi ω G λws gd G1=>BS gd gg gb D ws ω G1
theorem Jv{d:Hw->Prop}{c:GG}{gb:GS}(mg:c.M)(mb:gb.M){D e:Ew}(h1:∀ a b,D.nx a b->e.nx a b)(h2:∀ a b,D.rt a b->e.rt a b):∀(f:List W)(ω:Sw)(G:Hw),BS d c gb D f ω G->BS d c gb e f ω G
 | [],ω,G,q=>⟨q.1,h1 _ _ q.2⟩
 | x::xs,ω,G,q=>⟨q.1,mg _ _ _ _ _ (λω1 g z=>mb _ _ {nx:=BS d c gb D xs,rt:=D.rt,bk:=D.nx,ct:=BS d c gb D xs} _ (λa b y=>Jv mg mb h1 h2 xs a b y) h2 h1 (λa b y=>Jv mg mb h1 h2 xs a b y) z) q.2⟩
variable {gi:GI}{gb:GS}
theorem WQ{a:GG}(d:gi.M)(mg:a.M)(mb:gb.M):GS.M (Bq gi a gb):=λω G D g h1 h2 h e q=>d _ _ _ _ (λb f c z=>Jv mg mb h1 h2 b ω c z) q
variable {D:Ew}
theorem WR{b:Hw->Prop}{c:GG}{a:List W}(q:BS b c gb D a ω G):b G:=by
 cases a with
 | nil=>exact q.1
 | cons w a=>exact q.1
variable {iter:Expr}{body:List Stmt}{pos:Pos}
theorem WS{P:Hp->Prop}{p:GG}(hp:PassesOwn (model X.prog X.w) X.A X.env X.xe)(hc:X.calm=true)(mi:gi.M)(mb:gb.M)(hi:PIw X tg iter gi)(hg:TgW X tg p)(hb:Dc X MF body gb)
  (hs:∀ x,foldedSetIterable iter X.env x=pure x:=by intro _;rfl):PSw X P (.For tg iter body [] pos) (Bq gi p gb):=by
 intro B hB
 obtain⟨wi,t,hi⟩:=hi
 obtain⟨g,E,L⟩:=hg.ex
 have mg:=hg.mono
 have T:PSs X body (λD σ H=>∃ R,upS X.K R gb D σ H):=(by rintro pins s σ H D I ⟨R,z⟩;exact hb R trivial pins s σ H D I z)
 refine Ck (T6 hp hc t E T hs) λD σ H u=>?_
 obtain⟨ω,G,ts,r,v,q⟩:=u
 refine hi σ H ω G _ _ ts r q λd gd G1 H1 J z Z r1 hgd F=>?_
 have k:=v.trans Z
 refine⟨λi m σ' H'=>m=d.length - i/\i<=d.length/\Mono X.K H1 H'/\∃ ω' j,TrSt X.K H' σ' ω'/\RelH X.K H' j/\BS gd p gb (dnD X.K B D) (d.drop i) ω' j,⟨d.length,by simp,YT _,.refl,ω,G1,ts.mono Z,r1,by simpa using z⟩,?_⟩
 rintro i m σ' H' ⟨rfl,hle,f,ω',j,n,r',o⟩
 have c:=WR o
 by_cases l:i < d.length
 ·refine .inr ⟨F.go i H' j f r' c l,λσ2 H2=>Mono X.K H1 H2/\∃ ω2 U,TrSt X.K H2 σ2 ω2/\RelH X.K H2 U/\BS gd p gb (dnD X.K B D) (d.drop (i+1)) ω2 U,
   (by rintro σ2 H2 ⟨y1,y2⟩;exact⟨d.length -(i+1),by lia,rfl,l,y1,y2⟩),λx H2 y=>?_⟩
  obtain⟨Y,ry,w,ew,tw⟩:=F.yld i H' j x H2 f r' c y l
  have f:=f.trans Y
  have ed:d.drop i=w::d.drop (i+1):=by
   obtain⟨h',e'⟩:=YV.mp ew
   rw[<- e'];exact List.drop_eq_getElem_cons h'
  rw[ed]at o
  refine L x w σ' ω' _ j _ tw (n.mono Y) ry (mg _ _ _ _ _ (λω1 S z1 σ1 H3 m3 O r3=>?_) o.2)
  exact⟨H1,ω1,S,O,r3,f.trans m3,mb _ _ _ _ (λa b y σ4 H4 Q h N=>⟨Q,a,b,h,N,y⟩) (λa b y=>BH k y) (λa b y=>VS k y) (λa b y σ4 H4 Q h N=>⟨Q,a,b,h,N,y⟩) z1⟩
 ·have e:i=d.length:=by lia
  subst e
  rw[List.drop_length]at o
  exact .inl ⟨F.stop H' j f r' c,o.2 σ' H' (k.trans f) n r'⟩
def Be(gd:Hw->Prop)(gg:GG)(gt:GT)(ge:GE)(R:List W->Hw->Prop):List W->Sw->Hw->List W->Prop
 | [],_,G,ys=>gd G/\R ys G
 | x::xs,ω,G,ys=>gd G/\ys.length < sizeLine/\gg x ω G λω1 G1=>gt ω1 G1 λb G2=>if b=true then ge ω1 G2 λy G3=>Be gd gg gt ge R xs ω1 G3 (ys++[y])else Be gd gg gt ge R xs ω1 G2 ys
def Bd(gi:GI)(n:Nat)(gg:GG)(gt:GT)(ge:GE):GE:=λω G Q=>gi ω G λws gd G1=>Be gd gg gt ge (λys G2=>∀ p,G2 p=none->Q (.ref p) (put G2 p (.lst ys))) ws (List.replicate n none) G1 []
theorem Gr{f:Hw->Prop}{c:GG}{gt:GT}{ge:GE}(mg:c.M)(e:gt.M)(d:ge.M){R i:List W->Hw->Prop}(h:∀ a b,R a b->i a b):∀(g:List W)(ω:Sw)(G:Hw)(ys:List W),Be f c gt ge R g ω G ys->Be f c gt ge i g ω G ys
 | [],ω,G,ys,q=>⟨q.1,h _ _ q.2⟩
 | x::xs,ω,G,ys,q=>⟨q.1,q.2.1,mg _ _ _ _ _ (λω1 n z=>e _ _ _ _ (λb k j=>by
   cases b with
   | true=>exact d _ _ _ _ (λy l m=>Gr mg e d h xs ω1 l _ m) j
   | false=>exact Gr mg e d h xs ω1 k _ j) z) q.2.2⟩
variable {n:Nat}{gt:GT}{ge:GE}
theorem WT{a:GG}(e:gi.M)(mg:a.M)(d:gt.M)(b:ge.M):GE.M (Bd gi n a gt ge):=λω G Q i h q=>
 e _ _ _ _ (λj g k z=>Gr mg d b (λys f z p c=>h _ _ (z p c)) _ _ _ _ z) q
variable {ys:List W}
theorem MQ{b:Hw->Prop}{c:GG}{R:List W->Hw->Prop}{a:List W}(q:Be b c gt ge R a ω G ys):b G:=by
 cases a with
 | nil=>exact q.1
 | cons w a=>exact q.1
def A8:GT:=λ_ G Q=>Q true G
theorem WU:GT.M A8:=λ_ _ _ _ h q=>h _ _ q
abbrev PFw(X:Cx)(ifs:List Expr)(g:GT):Prop:=PF X ifs (upT X.K g)
theorem WV:PFw X [] A8:=(by rintro pins s σ H Q I ⟨ω,G,a,r,q⟩;exact VD pins s σ H Q I (q H .refl r))
theorem WW(h:σ=List.replicate n none):TrSt K H σ (List.replicate n none):=by
 subst h
 refine⟨by simp,λi w e=>?_⟩
 rw[List.getElem?_replicate]at e
 split at e <;> cases e
variable {Nc:List Str}
theorem WX{v:GG}{wi:TI}{g:TG}(E:∀(σ:St)(H:Hp)(ω:Sw)(G:Hw)(R:List W->(Hw->Prop)->Hw->Prop)(R0:It->Hp->Prop),TrSt X.K H σ ω->RelH X.K H G->gi ω G R->
   (∀ a s B H1 J,R a s B->Mono X.K H H1->RelH X.K H1 B->s B->D5 X.K H1 J a s->R0 J H1)->wi σ H R0)
  (N:∀(x:V)(w:W)(σ:St)(ω:Sw)(H:Hp)(G:Hw)(Q:St->Hp->Prop),Tr X.K H x w->TrSt X.K H σ ω->RelH X.K H G->v w ω G (dnS X.K H Q)->g x σ H Q) (mg:v.M) (mt:gt.M) (me:ge.M) (σ:St) (H:Hp) (Q:VK) (h:up X.K (Bd gi Nc.length v gt ge) σ H Q):
  Gi wi (λ_=>List.replicate Nc.length none) g (upT X.K gt) (up X.K ge) σ H Q:=by
 obtain⟨ω,G,ts,r,q⟩:=h
 refine E σ H ω G _ _ ts r q λa s B H1 J z m1 r1 hgd L=>?_
 refine⟨λi m σ' H' U=>m=a.length - i/\i<=a.length/\Mono X.K H1 H'/\∃ ω' l ys,TrSt X.K H' σ' ω'/\RelH X.K H' l/\TrL X.K H' U ys/\Be s v gt ge (λys k=>∀ p,k p=none->dn X.K H Q (.ref p) (put k p (.lst ys))) (a.drop i) ω' l ys,
  ⟨a.length,by simp,YT _,.refl,_,B,[],WW rfl,r1,.nil,by simpa using z⟩,?_⟩
 rintro i m σ' H' U ⟨rfl,hle,j,ω',l,ys,I,r',tv,o⟩
 have c:=MQ o
 by_cases f:i < a.length
 ·have hw:∃ w,a[i]?=some w:=⟨a[i],by simp[f]⟩
  obtain⟨w0,t⟩:=hw
  have ed:a.drop i=w0::a.drop (i+1):=by
   obtain⟨h',e'⟩:=YV.mp t
   rw[<- e'];exact List.drop_eq_getElem_cons h'
  rw[ed]at o
  refine .inr ⟨L.go i H' l j r' c f,by rw[tv.length];exact o.2.1,λσ2 H2 A=>Mono X.K H1 H2/\∃ ω2 k u,TrSt X.K H2 σ2 ω2/\RelH X.K H2 k/\TrL X.K H2 A u/\Be s v gt ge (λys k=>∀ p,k p=none->dn X.K H Q (.ref p) (put k p (.lst ys))) (a.drop (i+1)) ω2 k u,
   (by rintro σ2 H2 A ⟨y1,y2⟩;exact⟨a.length -(i+1),by lia,rfl,f,y1,y2⟩),λx H2 y=>?_⟩
  obtain⟨O,ry,w,Z,tw⟩:=L.yld i H' l x H2 j r' c y f
  have j:=j.trans O
  have tv:=tv.mono O
  rw[t]at Z;cases Z
  refine N x _ σ' ω' _ l _ tw (I.mono O) ry (mg _ _ _ _ _ (λω1 S z1 σ1 H3 D d r3=>?_) o.2.2)
  refine⟨ω1,S,d,r3,mt _ _ _ _ (λb Y T H4 n r4=>?_) z1⟩
  cases b with
  | true=>exact⟨ω1,Y,d.mono n,r4,me _ _ _ _ (λy5 G5 z5 v5 H5 P t5 r5=>⟨((j.trans D).trans n).trans P,ω1,G5,_,(d.mono n).mono P,r5,(((tv.mono D).mono n).mono P).append (.cons t5 .nil),z5⟩) T⟩
  | false=>exact⟨(j.trans D).trans n,ω1,Y,_,d.mono n,r4,(tv.mono D).mono n,T⟩
 ·have e:i=a.length:=by lia
  subst e
  rw[List.drop_length]at o
  exact .inl ⟨L.stop H' l j r' c,λp F=>o.2 p (r'.no F) _ _ ((m1.trans j).trans (Mono.new F _)) (.ref p) (r'.new F tv)⟩
structure TgU(X:Cx)(Nc:List Str)(scope:Scope)(tg:Expr)(gg:GG):Prop where
 ex:∃ g:TG,(∀ C fp s H,PG (cxB X Nc scope [] C fp s H) tg g)/\∀(x:V)(w:W)(σ:St)(ω:Sw)(H:Hp)(G:Hw)(Q:St->Hp->Prop),Tr X.K H x w->TrSt X.K H σ ω->RelH X.K H G->gg w ω G (dnS X.K H Q)->g x σ H Q
 mono:gg.M
variable {scope:Scope}
theorem D7{p:Pos}(c:Nc.Nodup)(hi:Nc[i]?=some x)(a:scope.names.lookup x=some .local):TgU X Nc scope (.Name x p) (gNm i) where
 ex:=⟨B9 i,λC b s H=>CA (X:=cxB X Nc scope [] C b s H) c hi (.inl (lookup_relabel_local a)) (.inr (lookup_relabel_local a)),λx w σ ω H G Q t d r q=>q _ H .refl (d.set i t) r⟩
 mono:=λ_ _ _ _ _ h q=>h _ _ q
variable {j:Nat}
theorem WY:GG.M (D6 i j):=λw ω G Q a h q=>by
 unfold D6 at q ⊢
 split
 ·exact h _ _ q
 ·rename_i z
  split at q
  ·exact(z _ _ rfl).elim
  ·exact q
theorem WZ{y:Str}{p f:Pos}{k:Nat}(hc:X.calm=true)(c:Nc.Nodup)(hi:Nc[i]?=some x)(d:scope.names.lookup x=some .local)(g:Nc[j]?=some y)(e:scope.names.lookup y=some .local):
  TgU X Nc scope (.Tuple [.Name x p,.Name y f] k pos) (D6 i j) where
 ex:=⟨Cl X.K 2 (BT (B9 i) (BT (B9 j) Ch)),λC m s H=>IU (X:=cxB X Nc scope [] C m s H) hc (Do (CA c hi (.inl (lookup_relabel_local d)) (.inr (lookup_relabel_local d))) (Do (CA c g (.inl (lookup_relabel_local e)) (.inr (lookup_relabel_local e))) IT)),
  λv w σ ω H G Q t n r q=>by
   unfold D6 at q
   split at q
   ·rename_i a b
    cases t with
    | tup h l =>
     cases l with
     | cons ta l =>
      cases l with
      | cons tb l =>
       cases l
       exact⟨_,_,rfl,h,rfl,_,_,rfl,_,_,rfl,rfl,q _ H .refl ((n.set i ta).set j tb) r⟩
   ·exact q.elim⟩
 mono:=WY
theorem W0{elt:Expr}{ifs:List Expr}{d:GG}(hc:X.calm=true)(hi:PIw X tg iter gi)(B:Blk X Nc scope [] (λ_=>List.replicate Nc.length none))
  (e:TgU X Nc scope tg d) (j:gt.M) (f:∀ C fp s H,PFw (cxB X Nc scope [] C fp s H) ifs gt) (h:ge.M) (k:∀ C fp s H,PEw (cxB X Nc scope [] C fp s H) elt ge) (i:∀ x,foldedSetIterable iter X.env x=pure x):
  PEw X (.ListComp elt [⟨tg,iter,ifs,0⟩] scope pos) (Bd gi Nc.length d gt ge):=by
 obtain⟨l,b,hi⟩:=hi
 obtain⟨g,c,a⟩:=e.ex
 exact AY (MA hc b B c f k i) (WX hi a e.mono j h)
def Av(C:Int->Int->Prop)(f:Int->Int->Int):RW2:=λx y G Q=>match x,y with
 | .int i,.int j=>C i j/\Q (.int (f i j)) G
 | _,_=>False
theorem CQ{C:Int->Int->Prop}{f:Int->Int->Int}:RW2.M (Av C f):=λx y G Q a h q=>by
 cases x <;> cases y <;> first | exact q | exact⟨q.1,h _ _ q.2⟩
theorem Fu{C:Int->Int->Prop}{f:Int->Int->Int}(x y:W)(v u:V)(G:Hw)(H:Hp)(Q:VK)(a:Tr K H v x)(ty:Tr K H u y)(r:RelH K H G)(q:Av C f x y G (dn K H Q)):rI C (λi j=>.int (f i j)) v u H Q:=by
 cases a <;> first | exact q.elim |(cases ty <;> first | exact q.elim | exact⟨_,_,rfl,rfl,q.1,q.2 _ H .refl (.int _) r⟩)
def A5:RW2:=λx y G Q=>match x,y with
 | .int i,.int j=>Q (.int (i+j)) G
 | .str a,.str b=>a.length+b.length<=sizeLine/\Q (.str (a++b)) G
 | .ref a,.ref b=>(match G a,G b with
  | some (.lst xs),some (.lst ys)=>xs.length+ys.length<=sizeLine/\∀ p,G p=none->Q (.ref p) (put G p (.lst (xs++ys)))
  | _,_=>False)
 | _,_=>False
theorem Jw:RW2.M A5:=λx y G Q g h q=>by
 cases x <;> cases y <;> first | exact q | exact h _ _ q | exact⟨q.1,h _ _ q.2⟩| skip
 rename_i a b
 unfold A5 at q ⊢
 dsimp only at q ⊢
 cases c:G a with
 | none=>rw[c]at q;exact q
 | some d =>
  cases eb:G b with
  | none=>rw[c,eb]at q;cases d <;> exact q
  | some f =>
   rw[c,eb]at q
   cases d <;> cases f <;> first | exact q | exact⟨q.1,λp e=>h _ _ (q.2 p e)⟩
theorem MR:OpR X (binaryOp .Add) (λx y H Q=>(rI0 λi j=>.int (i+j)) x y H Q\/(∃ i j,x=.str i/\y=.str j/\i.length+j.length<=sizeLine/\Q (.str (i++j)) H)\/Ft x y H Q):=OpR.or Ub (OpR.or Uy Vs)
theorem MS(x y:W)(v u:V)(G:Hw)(H:Hp)(Q:VK)(o:Tr K H v x)(ty:Tr K H u y)(r:RelH K H G)(q:A5 x y G (dn K H Q)):
  (rI0 λi j=>.int (i+j)) v u H Q\/(∃ i j,v=.str i/\u=.str j/\i.length+j.length<=sizeLine/\Q (.str (i++j)) H)\/Ft v u H Q:=by
 cases o with
 | int i=>cases ty <;> first | exact q.elim | exact .inl ⟨_,_,rfl,rfl,q _ H .refl (.int _) r⟩
 | str i=>cases ty <;> first | exact q.elim | exact .inr (.inl ⟨_,_,rfl,rfl,q.1,q.2 _ H .refl (.str _) r⟩)
 | ref a =>
  cases ty <;> try exact q.elim
  rename_i b
  unfold A5 at q
  dsimp only at q
  cases c:G a with
  | none=>rw[c]at q;exact q.elim
  | some e =>
   cases eb:G b with
   | none=>rw[c,eb]at q;cases e <;> exact q.elim
   | some n =>
    rw[c,eb]at q
    cases e <;> cases n <;> try exact q.elim
    obtain⟨l,m,f⟩:=r a _ c
    obtain⟨k,h,g⟩:=r b _ eb
    exact .inr (.inr ⟨a,b,l,k,rfl,rfl,m,h,by rw[f.length,g.length];exact q.1,λp d=>q.2 p (r.no d) _ _ (Mono.new d _) (.ref p) (r.new d (f.append g))⟩)
 | _=>exact q.elim
def AT(f:Int->Int->Bool):RW2:=λx y G Q=>match x,y with
 | .int i,.int j=>Q (.bl (f i j)) G
 | _,_=>False
variable {f:Int->Int->Bool}
theorem MT:RW2.M (AT f):=λx y G Q a h q=>by
 cases x <;> cases y <;> first | exact q | exact h _ _ q
theorem MU(x y:W)(v u:V)(G:Hw)(H:Hp)(Q:VK)(a:Tr K H v x)(ty:Tr K H u y)(r:RelH K H G)(q:AT f x y G (dn K H Q)):rI0 (λi j=>.bl (f i j)) v u H Q:=by
 cases a <;> first | exact q.elim |(cases ty <;> first | exact q.elim | exact⟨_,_,rfl,rfl,q _ H .refl (.bl _) r⟩)
def opt(o:Option W)(f:W->Prop):Prop:=match o with | some w=>f w | none=>False
theorem Jx{o:Option W}{f a:W->Prop}(h:∀ w,f w->a w)(q:opt o f):opt o a:=by
 cases o with
 | none=>exact q
 | some w=>exact h _ q
theorem CS{o:Option W}{f:W->Prop}(q:opt o f):∃ w,o=some w/\f w:=by
 cases o with
 | none=>exact q.elim
 | some w=>exact⟨w,rfl,q⟩
def Af(f:W->W->Hw->Option W):RW2:=λx y G Q=>opt (f x y G) λw=>Q w G
theorem Dv{f:W->W->Hw->Option W}:RW2.M (Af f):=λx y G Q a h q=>Jx (λw z=>h _ _ z) q
def ixW(x y:W)(G:Hw):Option W:=match x,y with
 | .tup xs,.int i=>atI xs i
 | .rol xs,.int i=>atI xs i
 | .ref a,.int i=>(match G a with | some (.lst xs)=>atI xs i | _=>none)
 | .str z,.int i=>if z.length<=sizeLine then(atI z.cps.toList i).map λc=>.str ⟨#[c]⟩else none
 | _,_=>none
theorem Jy{a:List W}{i:Int}(t:TrL K H vs a)(e:atI a i=some w):∃ v,atI vs i=some v/\Tr K H v w:=by
 unfold atI at e ⊢
 rw[t.length]
 cases z:ixN a.length i with
 | none=>rw[z]at e;cases e
 | some j =>
  rw[z]at e
  exact t.get e
theorem W1:IxR X (λx y H Q=>Jl X.K x y H Q\/Jm X.K x y H Q\/Jn x y H Q):=IxR.or Vb (IxR.or Vc Vd)
theorem W2(x y:W)(v u:V)(G:Hw)(H:Hp)(Q:VK)(n:Tr K H v x)(ty:Tr K H u y)(r:RelH K H G)(q:Af ixW x y G (dn K H Q)):Jl K v u H Q\/Jm K v u H Q\/Jn v u H Q:=by
 obtain⟨w,e,f⟩:=CS q
 cases ty with
 | int i =>
  cases n with
  | tup h l =>
   obtain⟨j,d,t'⟩:=Jy l e
   exact .inr (.inl ⟨_,_,_,_,rfl,rfl,h,d,f _ H .refl t' r⟩)
  | rol h l =>
   obtain⟨j,d,t'⟩:=Jy l e
   exact .inl ⟨_,_,_,_,rfl,rfl,h.sq,d,f _ H .refl t' r⟩
  | str z =>
   unfold ixW at e;dsimp only at e
   split at e
   ·rename_i k
    cases b:atI z.cps.toList i with
    | none=>rw[b]at e;cases e
    | some c =>
     rw[b]at e;cases e
     exact .inr (.inr ⟨z,i,c,rfl,rfl,k,b,f _ H .refl (.str _) r⟩)
   ·cases e
  | ref a =>
   unfold ixW at e;dsimp only at e
   cases g:G a with
   | none=>rw[g]at e;cases e
   | some o =>
    rw[g]at e
    cases o with
    | exc C=>cases e
    | ins C fs=>cases e
    | dct m=>cases e
    | lst p =>
     obtain⟨s,b,l⟩:=r a _ g
     obtain⟨j,d,t'⟩:=Jy l e
     exact .inl ⟨_,_,_,_,rfl,rfl,SqL.of b,d,f _ H .refl t' r⟩
  | _=>cases e
 | _=>cases x <;> cases e
structure Em(X:Cx)(e:Expr)(g:GE):Prop where
 p:PEw X e g
 m:g.M
structure Tm(X:Cx)(e:Expr)(g:GT):Prop where
 p:PTw X e g
 m:g.M
structure Wm(X:Cx)(e:Expr)(g:GT):Prop where
 p:PWw X e g
 m:g.M
structure Am(X:Cx)(es:List Expr)(g:GA):Prop where
 p:PAw X es g
 m:g.M
structure Sm(X:Cx)(P:Hp->Prop)(s:Stmt)(g:GS):Prop where
 p:PSw X P s g
 m:g.M
structure Ssm(X:Cx)(P:Hp->Prop)(s:List Stmt)(g:GS):Prop where
 p:Dc X P s g
 m:g.M
structure Im(X:Cx)(tg l:Expr)(g:GI):Prop where
 p:PIw X tg l g
 m:g.M
def place(N:List Str)(x:Str):Option Nat:=N.findIdx? (·==x)
theorem MV(h:place N x=some i):N[i]?=some x:=by
 unfold place at h
 obtain⟨hi,e,_⟩:=List.findIdx?_eq_some_iff_getElem.mp h
 rw[Yp hi,eq_of_beq e]
def seen(sc:Scope)(x:Str):Bool:=match sc.names.lookup x with | some .local=>true | some .cell=>true | some .free=>true | _=>false
theorem MW{a:Scope}(h:seen a x=true):Vis a x:=by
 unfold seen at h
 split at h <;> first |(rename_i e;exact .inl e)|(rename_i e;exact .inr (.inl e))|(rename_i e;exact .inr (.inr e))| cases h
def EM(sc:Scope)(x:Str):Bool:=match sc.names.lookup x with | some .local=>true | _=>false
theorem EN{a:Scope}(h:EM a x=true):a.names.lookup x=some .local:=by
 unfold EM at h
 split at h
 ·rename_i e;exact e
 ·cases h
section
variable {X:Cx} {a b c e f:Expr} {es Au:List Expr} {st:Stmt} {sts sts':List Stmt} {pos pos' p:Pos} {ga gb gc:GE} {gt gu:GT} {gs:GA} {g1 g2:GS} {ex:Xw} {P:Hp->Prop}
theorem EO{i:Int}{j}:Em X (.Constant (.int i) j pos) (gC (.int i)):=⟨VV,EH⟩
theorem W3{i:Bool}{j}:Em X (.Constant (.bool i) j pos) (gC (.bl i)):=⟨VW,EH⟩
theorem W4{j}:Em X (.Constant .none j pos) (gC .non):=⟨VX,EH⟩
theorem EQ{i:Str}{j}:Em X (.Constant (.str i) j pos) (gC (.str i)):=⟨VY,EH⟩
theorem W5(d:Em X a ga)(c:Em X b gb):Em X (.BinOp a .Add b pos) (Ac A5 ga gb):=⟨Du MR Jw d.m c.m MS d.p c.p,Cm Jw d.m c.m⟩
theorem W6(d:Em X a ga)(c:Em X b gb):Em X (.BinOp a .Sub b pos) (Ac (Av (λ_ _=>True) λi j=>i - j) ga gb):=
 ⟨Du (r2:=rI (λ_ _=>True) λi j=>.int (i - j)) (opI λ_ _ _ _ _ _ _ _ q=>sub_int q) CQ d.m c.m Fu d.p c.p,Cm CQ d.m c.m⟩
theorem W7(d:Em X a ga)(c:Em X b gb):Em X (.BinOp a .Mult b pos) (Ac (Av CMul λi j=>i*j) ga gb):=⟨Du LZ CQ d.m c.m Fu d.p c.p,Cm CQ d.m c.m⟩
theorem W8(d:Em X a ga)(c:Em X b gb):Em X (.BinOp a .FloorDiv b pos) (Ac (Av EC λi j=>i / j) ga gb):=⟨Du Uc CQ d.m c.m Fu d.p c.p,Cm CQ d.m c.m⟩
theorem W9(d:Em X a ga)(c:Em X b gb):Em X (.BinOp a .Mod b pos) (Ac (Av (λ_ j=>0 < j) λi j=>i % j) ga gb):=⟨Du Ud CQ d.m c.m Fu d.p c.p,Cm CQ d.m c.m⟩
theorem Xa(d:Em X a ga)(c:Em X b gb):Em X (.BinOp a .Pow b pos) (Ac (Av D2 λi j=>i ^ j.toNat) ga gb):=⟨Du Ue CQ d.m c.m Fu d.p c.p,Cm CQ d.m c.m⟩
theorem Gs(e:Jk b)(d:Em X a ga)(c:Em X b gb):Em X (.Subscript a b pos) (Ac (Af ixW) ga gb):=⟨V0 W1 Dv d.m c.m W2 d.p c.p e,Cm Dv d.m c.m⟩
theorem MX{k}(h:Am X es gs):Em X (.Tuple es k pos) (Ap gs):=⟨WG h.m h.p,WE h.m⟩
theorem Jz(h:Am X es gs):Em X (.List es pos) (As gs):=⟨WH h.m h.p,WF h.m⟩
variable {op:BoolOp}
theorem MY(h:Em X a ga):Em X (.BoolOp op [a] pos) ga:=⟨WA h.p,h.m⟩
theorem MZ(d:Em X a ga)(c:Em X (.BoolOp .And (b::Au) pos) gb):Em X (.BoolOp .And (a::b::Au) pos) (BI ga gb):=⟨WB d.m c.m d.p c.p,Wx d.m c.m⟩
theorem Xb(d:Em X a ga)(c:Em X (.BoolOp .Or (b::Au) pos) gb):Em X (.BoolOp .Or (a::b::Au) pos) (B3 ga gb):=⟨WC d.m c.m d.p c.p,Wy d.m c.m⟩
theorem M0(hc:Tm X c gt)(e:Em X a ga)(d:Em X b gb):Em X (.IfExp c a b pos) (BR gt ga gb):=⟨WD hc.m e.m d.m hc.p e.p d.p,Wz hc.m e.m d.m⟩
theorem Bm:Am X [] Ad:=⟨V2,MH⟩
theorem AV(b:starEach (e::es) X.env=(false,eval e X.env)::starEach es X.env)(a:Em X e ga)(c:Am X es gs):Am X (e::es) (Ab ga gs):=⟨V3 a.m c.m a.p c.p b,V1 a.m c.m⟩
theorem BU{k:Nat}{sp:Spw}(D:Df X.prog X.w X.K X.mg X.base x k n sp)(d:Room k X.A)(g:Gl X x)(f:CC X ex)(b:(x==("__debug__":Str))=false)(h:starEach (e::es) X.env=(false,eval e X.env)::starEach es X.env)(c:(backTo pos (starEach es X.env)).any (·.1)=false)
  (a:Am X (e::es) gs):Em X (.Call (.Name x p) (e::es) [] pos) (Ak sp ex gs):=⟨V4 D d g f a.m a.p b h c,MI D.mono a.m⟩
theorem Ca(c:∀ a,isTrue e X.env a=(do let v <- a;standAt e.pos;holding [v] (truthy v)))(b:Em X e ga):Tm X e (AM ga):=⟨Wl b.m b.p c,Wj b.m⟩
theorem ER(b:Tm X a gt):Tm X (.UnaryOp .Not a pos) (gNt gt):=⟨Wo b.p,Wn b.m⟩
theorem JA{vs:List Expr}(h:Wm X (.BoolOp op vs pos) gt):Tm X (.BoolOp op vs pos) gt:=⟨Ww h.p,h.m⟩
theorem JB(h:Tm X a gt):Wm X (.BoolOp .And [a] pos) gt:=⟨Wr h.p,h.m⟩
theorem Xd(h:Tm X a gt):Wm X (.BoolOp .Or [a] pos) gt:=⟨Ws h.p,h.m⟩
theorem JC(d:Tm X a gt)(c:Wm X (.BoolOp .And (b::Au) pos) gu):Wm X (.BoolOp .And (a::b::Au) pos) (Bh gt gu):=⟨Wu d.m c.m d.p c.p,Wp d.m c.m⟩
theorem Xe(d:Tm X a gt)(c:Wm X (.BoolOp .Or (b::Au) pos) gu):Wm X (.BoolOp .Or (a::b::Au) pos) (gOr gt gu):=⟨Wv d.m c.m d.p c.p,Wq d.m c.m⟩
theorem BC:Ssm X P [] Al:=⟨V7,V5⟩
theorem A0(h:Sm X P st g1):Ssm X P [st] g1:=⟨V9 h.p,h.m⟩
theorem Ar(h1:Sm X P st g1)(h2:Ssm X P sts g2):Ssm X P (st::sts) (Ae g1 g2):=⟨V8 h1.m h2.m h1.p h2.p,V6 h1.m h2.m⟩
theorem BJ(a:Em X e ga):Sm X P (.Return (some e) pos) (Ag ga):=⟨Wc a.m a.p,Wb a.m⟩
theorem CF(b:swapsWith e none pos.line X.env=pure false)(a:Em X e ga):Sm X P (.Expr e pos) (AF ga):=⟨We a.m a.p b,Wd a.m⟩
theorem BD(hc:Tm X c gt)(h1:Ssm X P sts g1)(h2:Ssm X P sts' g2):Sm X P (.If c sts sts' pos) (gIf gt g1 g2):=⟨Wg hc.m h1.m h2.m hc.p h1.p h2.p,Wf hc.m h1.m h2.m⟩
theorem Xf(a:∀ it u,letOwnedTupleGo tg it u=pure ())(hl:Em X l ga):Im X tg l (AU ga):=⟨WP a hl.m hl.p,WN hl.m⟩
theorem M1{b:GG}{gb:GS}(d:PassesOwn (model X.prog X.w) X.A X.env X.xe)(hc:X.calm=true)(e:∀ x,foldedSetIterable iter X.env x=pure x)(hi:Im X tg iter gi)(c:TgW X tg b)(a:Ssm X MF sts gb):Sm X P (.For tg iter sts [] pos) (Bq gi b gb):=
 ⟨WS d hc hi.m a.m hi.p c a.p e,WQ hi.m c.mono a.m⟩
end
theorem Xg{bs:List Bool}{a:List Value}(r:Vals (bs.map V.bl) a){v:Value}(e:a.toArray[i]?=some v):v=.bool (bs.getD i false):=by
 have c:a[i]?=some v:=by simpa using e
 have hl:=r.length
 rw[Yh]at hl
 have hi:i < a.length:=(YV.mp c).1
 have b:bs[i]?=some (bs[i]'(by lia)):=Yp _
 obtain⟨u,d,r1⟩:=r.get (i:=i) (x:=.bl (bs[i]'(by lia))) (by rw[YN,b];rfl)
 rw[c]at d;cases d
 rw[YY,b]
 exact r1
theorem Xh{bs:List Bool}:(List.range bs.length).all (λi=>bs.getD i false)=bs.all id:=by
 rw[Bool.eq_iff_iff]
 simp only[List.all_eq_true,List.mem_range,id]
 constructor
 ·intro h b a
  obtain⟨i,hi,e⟩:=List.mem_iff_getElem.mp a
  have:=h i hi
  rw[YY,Yp hi]at this
  rw[<- e];exact this
 ·intro h i hi
  rw[YY,Yp hi]
  exact h _ (Qc hi)
section
variable {X:Cx}
theorem Xi(hc:X.calm=true):CallR X (.builtin "all") (λxs H Q=>∃(p:Addr)(bs:List Bool),xs=[.ref p]/\SqL X.K H p (bs.map V.bl)/\Q (.bl (bs.all id)) H):=by
 intro pins s σ H xs g Q I r h
 obtain⟨p,bs,rfl,a,q⟩:=h
 obtain⟨u,rfl,f⟩:=Dq r
 cases f
 obtain⟨c,r',pl,j⟩:=I.list a
 have hl:=r'.length
 rw[Yh]at hl
 obtain⟨o,n,e,_⟩:=id pl
 refine call_all_walk (wpAny_pyIter_list pl.isList ⟨s.heap.objs.size,_,_,_,_,_,λi=>bs.getD i false,rfl,Walks.list (A:=X.A.in1) (I.ok.hd hc) _ p (Ys (Qm e)) c.toArray,
  ⟨⟨_,Qn _ rfl,rfl,rfl⟩,pl.isList.push _⟩,λi v s Q E d a=>by rw[Xg r' d];exact wpAny_truthy_bool a,λh' tk k=>?_⟩)
 refine⟨.bl (bs.all id),H,I.kept (t':=tk) λb o e=>k b o (by simpa using Ys (Qm e)) (Ql _ e),?_,q⟩
 show Value.bool _=_
 rw[Yn,<- hl,Xh]
theorem Xj{ns:List Int}{a:List Value}(r:Vals (ns.map V.int) a){v:Value}(e:a.toArray[i]?=some v):∃ t,v=.int (ns.getD i 0) t:=by
 have c:a[i]?=some v:=by simpa using e
 have hl:=r.length
 rw[Yh]at hl
 have hi:i < a.length:=(YV.mp c).1
 have b:ns[i]?=some (ns[i]'(by lia)):=Yp _
 obtain⟨u,d,r1⟩:=r.get (i:=i) (x:=.int (ns[i]'(by lia))) (by rw[YN,b];rfl)
 rw[c]at d;cases d
 rw[YY,b]
 exact r1
theorem Xk(hc:X.calm=true):CallR X (.builtin "sum") (λxs H Q=>∃(p:Addr)(ns:List Int),xs=[.ref p]/\SqL X.K H p (ns.map V.int)/\PyProof.Rows.SumFits ns/\Q (.int ns.sum) H):=by
 intro pins s σ H xs w Q I r h
 obtain⟨p,ns,rfl,f,m,q⟩:=h
 obtain⟨u,rfl,t⟩:=Dq r
 cases t
 obtain⟨c,r',pl,x⟩:=I.list f
 have hl:=r'.length
 rw[Yh]at hl
 obtain⟨o,n,e,_⟩:=id pl
 refine call_sum_walk (wpAny_pyIter_list pl.isList ⟨s.heap.objs.size,_,_,_,_,_,λi=>ns.getD i 0,rfl,Walks.list (A:=X.A.in1) (I.ok.hd hc) _ p (Ys (Qm e)) c.toArray,
  ⟨⟨_,Qn _ rfl,rfl,rfl⟩,pl.isList.push _⟩,λb g=>?_,λi v l=>Xj r' l,λj d=>?_,λh' tk t' k=>?_⟩)
 ·rw[Qo]
  rcases Yo.mp g with a | a
  ·rw[a];exact Nat.lt_succ_self _
  ·rw[YA.mp a];exact Nat.lt_succ_of_lt (Qm e)
 ·rw[Yn,<- hl]at d
  have:=m j d
  rw[preSum_getD]
  exact this
 ·refine⟨.int ns.sum,H,I.kept (t':=tk) λb o e=>k b o (by simpa using Ys (Qm e)) (Ql _ e),⟨t',?_⟩,q⟩
  rw[Yn,<- hl,preSum_getD,List.take_length]
end
abbrev RWc:=List W->Hw->Kw->Prop
def RWc.M(r:RWc):Prop:=∀ ws G(Q Q':Kw),(∀ w G',Q w G'->Q' w G')->r ws G Q->r ws G Q'
def gB(r:RWc)(gs:GA):GE:=λω G Q=>gs ω G λws G1=>r ws G1 Q
variable {r:RWc}{gs:GA}
theorem M2(mr:r.M)(a:gs.M):GE.M (gB r gs):=λω G Q b h q=>a _ _ _ _ (λd c z=>mr _ _ _ _ h z) q
theorem M3{r1:List V->Hp->VK->Prop}(mr:r.M)(d:gs.M)(e:∀ a vs G H Q,TrL K H vs a->RelH K H G->r a G (dn K H Q)->r1 vs H Q)(σ:St)(H:Hp)(Q:VK)(h:up K (gB r gs) σ H Q):tCB r1 (upA K gs) σ H Q:=by
 obtain⟨ω,G,g,c,q⟩:=h
 exact⟨ω,G,g,c,d _ _ _ _ (λa f z vs H1 m t b=>e a vs f H1 Q t b (mr _ _ _ _ (λw i y=>BH m y) z)) q⟩
section
variable {X:Cx} {x:Str} {p pos:Pos} {e:Expr} {es:List Expr} {gs:GA} {r:RWc} {r1:List V->Hp->VK->Prop} {id T:String}
theorem Xl(hc:CallR X (.builtin id) r1)(mr:r.M)(h:∀ d vs G H Q,TrL X.K H vs d->RelH X.K H G->r d G (dn X.K H Q)->r1 vs H Q)(j:Gl X x)(k:X.mg x=none)(g:bootBuiltins x=some (.builtin id))(i:x≠"__name__")(b:(x==("__debug__":Str))=false)
  (f:starEach (e::es) X.env=(false,eval e X.env)::starEach es X.env) (c:(backTo pos (starEach es X.env)).any (·.1)=false) (a:Am X (e::es) gs):Em X (.Call (.Name x p) (e::es) [] pos) (gB r gs):=
 ⟨AY (UY hc j k g a.p i b f c) (M3 mr a.m h),M2 mr a.m⟩
theorem Xm(hc:CallR X (.type T) r1)(mr:r.M)(h:∀ d vs G H Q,TrL X.K H vs d->RelH X.K H G->r d G (dn X.K H Q)->r1 vs H Q)(j:Gl X x)(k:X.mg x=none)(g:bootBuiltins x=some (.type T))(i:x≠"__name__")(b:(x==("__debug__":Str))=false)
  (f:starEach (e::es) X.env=(false,eval e X.env)::starEach es X.env) (c:(backTo pos (starEach es X.env)).any (·.1)=false) (a:Am X (e::es) gs):Em X (.Call (.Name x p) (e::es) [] pos) (gB r gs):=
 ⟨AY (UZ hc j k g a.p i b f c) (M3 mr a.m h),M2 mr a.m⟩
end
def rF(f:List W->Hw->Option W):RWc:=λws G Q=>opt (f ws G) λw=>Q w G
theorem Gu{f:List W->Hw->Option W}:RWc.M (rF f):=λb G Q a h q=>Jx (λw z=>h _ _ z) q
def D8:List W->Option (List Bool)
 | []=>some []
 | .bl b::r=>(D8 r).map (b::·)
 | _=>none
theorem M4:∀{a:List W}{bs:List Bool}{vs:List V},D8 a=some bs->TrL K H vs a->vs=bs.map V.bl
 | [],bs,vs,e,t=>by cases e;cases t;rfl
 | w::a,bs,vs,e,t=>by
  cases t with
  | cons c t =>
   cases w with
   | bl b =>
    unfold D8 at e
    cases z:D8 a with
    | none=>rw[z]at e;cases e
    | some d =>
     rw[z]at e;cases e
     rw[EK c,M4 z t];rfl
   | _=>cases e
def D9:List W->Option (List Int)
 | []=>some []
 | .int b::r=>(D9 r).map (b::·)
 | _=>none
theorem M5:∀{a:List W}{bs:List Int}{vs:List V},D9 a=some bs->TrL K H vs a->vs=bs.map V.int
 | [],bs,vs,e,t=>by cases e;cases t;rfl
 | w::a,bs,vs,e,t=>by
  cases t with
  | cons c t =>
   cases w with
   | int b =>
    unfold D9 at e
    cases z:D9 a with
    | none=>rw[z]at e;cases e
    | some d =>
     rw[z]at e;cases e
     rw[MM c,M5 z t];rfl
   | _=>cases e
def Dw(G:Hw)(w:W):Option (List W):=match w with
 | .ref a=>(match G a with | some (.lst xs)=>some xs | _=>none)
 | _=>none
theorem Gv{xs:List W}(r:RelH K H G)(t:Tr K H v w)(e:Dw G w=some xs):∃ a vs,v=.ref a/\w=.ref a/\G a=some (.lst xs)/\H a=some (.lst vs)/\TrL K H vs xs:=by
 cases t with
 | ref a =>
  unfold Dw at e;dsimp only at e
  cases z:G a with
  | none=>rw[z]at e;cases e
  | some o =>
   rw[z]at e
   cases o with
   | lst ys=>cases e;obtain⟨vs,d,b⟩:=r a _ z;exact⟨a,vs,rfl,rfl,z,d,b⟩
   | exc C=>cases e
   | ins C fs=>cases e
   | dct c=>cases e
 | _=>cases e
def BE(ws:List W)(G:Hw):Option W:=match ws with | [w]=>(Dw G w).bind λxs=>(D8 xs).map λbs=>.bl (bs.all id)| _=>none
theorem Xn(b:List W)(vs:List V)(G:Hw)(H:Hp)(Q:VK)(t:TrL K H vs b)(r:RelH K H G)(q:rF BE b G (dn K H Q)):∃(p:Addr)(bs:List Bool),vs=[.ref p]/\SqL K H p (bs.map V.bl)/\Q (.bl (bs.all id)) H:=by
 obtain⟨w,e,k⟩:=CS q
 unfold BE at e
 split at e
 ·rename_i m
  cases t with
  | cons g t =>
   cases t
   obtain⟨xs,f,c⟩:=Qa.mp e
   obtain⟨bs,h,d⟩:=YQ.mp c
   obtain⟨a,l,rfl,rfl,_,j,i⟩:=Gv r g f
   subst d
   have:=M4 h i
   subst this
   exact⟨a,bs,rfl,SqL.of j,k _ H .refl (.bl _) r⟩
 ·cases e
def Dx:RWc:=λws G Q=>match ws with
 | [w]=>(match(Dw G w).bind D9 with | some ns=>PyProof.Rows.SumFits ns/\Q (.int ns.sum) G | none=>False)
 | _=>False
theorem Xo:RWc.M Dx:=λb G Q a h q=>by
 unfold Dx at q ⊢
 split at q
 ·split at q
  ·exact⟨q.1,h _ _ q.2⟩
  ·exact q.elim
 ·exact q.elim
theorem Xp(b:List W)(vs:List V)(G:Hw)(H:Hp)(Q:VK)(t:TrL K H vs b)(r:RelH K H G)(q:Dx b G (dn K H Q)):∃(p:Addr)(ns:List Int),vs=[.ref p]/\SqL K H p (ns.map V.int)/\PyProof.Rows.SumFits ns/\Q (.int ns.sum) H:=by
 unfold Dx at q
 split at q
 ·rename_i j
  split at q
  ·rename_i ns e
   cases t with
   | cons f t =>
    cases t
    obtain⟨xs,d,c⟩:=Qa.mp e
    obtain⟨a,i,rfl,rfl,_,h,g⟩:=Gv r f d
    have:=M5 c g
    subst this
    exact⟨a,ns,rfl,SqL.of h,q.1,q.2 _ H .refl (.int _) r⟩
  ·exact q.elim
 ·exact q.elim
def Bn(w:W)(G:Hw):Option W:=match w with
 | .tup xs=>some (.int xs.length)
 | .rol xs=>some (.int xs.length)
 | .str z=>if z.length<=sizeLine then some (.int z.length)else none
 | .ref a=>(match G a with | some (.lst xs)=>some (.int xs.length)| _=>none)
 | _=>none
def Az(ws:List W)(G:Hw):Option W:=match ws with | [w]=>Bn w G | _=>none
theorem Xq(c:List W)(vs:List V)(G:Hw)(H:Hp)(Q:VK)(t:TrL K H vs c)(r:RelH K H G)(q:rF Az c G (dn K H Q)):∃ x n,vs=[x]/\L6 K x H n/\Q (.int n) H:=by
 obtain⟨w,e,b⟩:=CS q
 unfold Az at e
 split at e
 ·cases t with
  | cons g t =>
   cases t
   cases g with
   | tup h l=>cases e;exact⟨_,_,rfl,.inr ⟨_,h,rfl⟩,by rw[l.length];exact b _ H .refl (.int _) r⟩
   | rol h l=>cases e;exact⟨_,_,rfl,.inl ⟨_,h.sq,rfl⟩,by rw[l.length];exact b _ H .refl (.int _) r⟩
   | str z =>
    unfold Bn at e;dsimp only at e
    split at e
    ·rename_i d;cases e;exact⟨_,_,rfl,⟨d,rfl⟩,b _ H .refl (.int _) r⟩
    ·cases e
   | ref a =>
    unfold Bn at e;dsimp only at e
    cases z:G a with
    | none=>rw[z]at e;cases e
    | some o =>
     rw[z]at e
     cases o with
     | exc C=>cases e
     | ins C fs=>cases e
     | dct i=>cases e
     | lst xs =>
      cases e
      obtain⟨k,f,j⟩:=r a _ z
      exact⟨_,_,rfl,.inl ⟨_,SqL.of f,rfl⟩,by rw[j.length];exact b _ H .refl (.int _) r⟩
   | _=>cases e
 ·cases e
mutual
def eqD:W->W->Option Bool
 | .tup xs,.tup ys=>AX xs ys
 | .non,.non=>some true
 | .bl a,.bl b=>some (a==b)
 | .bl a,.int b=>some ((if a then 1 else 0)==b)
 | .int a,.bl b=>some (a==(if b then 1 else 0))
 | .int a,.int b=>some (a==b)
 | .str a,.str b=>some (a==b)
 | .non,.int _=>some false
 | .int _,.non=>some false
 | .int _,.str _=>some false
 | .str _,.int _=>some false
 | .bl _,.str _=>some false
 | .str _,.bl _=>some false
 | .non,.str _=>some false
 | .str _,.non=>some false
 | .non,.bl _=>some false
 | .bl _,.non=>some false
 | .tup _,.str _=>some false
 | .str _,.tup _=>some false
 | .tup _,.bl _=>some false
 | .bl _,.tup _=>some false
 | .tup _,.int _=>some false
 | .int _,.tup _=>some false
 | _,_=>none
def AX:List W->List W->Option Bool
 | [],[]=>some true
 | [],_::_=>some false
 | _::_,[]=>some false
 | x::xs,y::ys=>match eqD x y,AX xs ys with
  | some a,some b=>some (a&&b)
  | _,_=>none
end
mutual
def dpW:W->Nat
 | .tup xs=>dpL xs+1
 | _=>0
def dpL:List W->Nat
 | []=>0
 | x::xs=>max (dpW x) (dpL xs)
end
def Gw:W->Option V
 | .non=>some .non
 | .bl b=>some (.bl b)
 | .int i=>some (.int i)
 | .str x=>some (.str x)
 | _=>none
theorem M6{f:V}(t:Tr K H v w)(e:Gw w=some f):v=f/\CP v=true:=by
 cases t <;> first | cases e;exact⟨rfl,rfl⟩| cases e
theorem Gx:∀{xs ys:List W}{b:Bool},AX xs ys=some b->∃ e:Nat->Bool,(∀(i:Nat)x y,xs[i]?=some x->ys[i]?=some y->eqD x y=some (e i))/\b=((List.range (min xs.length ys.length)).all e&&xs.length==ys.length)
 | [],[],b,h=>by
  cases(show some true=some b from h)
  exact⟨λ_=>true,λi x y h1 h2=>by simp at h1,by simp⟩
 | [],_::_,b,h=>by
  cases(show some false=some b from h)
  exact⟨λ_=>true,λi x y h1 h2=>by simp at h1,by simp⟩
 | _::_,[],b,h=>by
  cases(show some false=some b from h)
  exact⟨λ_=>true,λi x y h1 h2=>by simp at h2,by simp⟩
 | x::xs,y::ys,b,h=>by
  have h':(match eqD x y,AX xs ys with | some a,some b=>some (a&&b)| _,_=>none)=some b:=by rw[<- h];rfl
  cases d:eqD x y with
  | none=>rw[d]at h';cases h'
  | some a =>
   cases g:AX xs ys with
   | none=>rw[d,g]at h';cases h'
   | some c =>
    rw[d,g]at h'
    cases h'
    obtain⟨f,n,hc⟩:=Gx g
    refine⟨λi=>match i with | 0=>a | j+1=>f j,λi k l h1 h2=>?_,?_⟩
    ·cases i with
     | zero=>simp at h1 h2;subst h1;subst h2;exact d
     | succ j=>exact n j k l (by simpa using h1) (by simpa using h2)
    ·have m:min (x::xs).length (y::ys).length=min xs.length ys.length+1:=by simp only[Yg];lia
     rw[m,List.range_succ_eq_map,List.all_cons,List.all_map,hc]
     have o:((x::xs).length==(y::ys).length)=(xs.length==ys.length):=by simp
     rw[o,Bool.and_assoc]
     rfl
theorem M7:∀(xs:List W),(∀ x∈xs,eqD x x=some true\/eqD x x=none)->AX xs xs=some true\/AX xs xs=none
 | [],_=>.inl rfl
 | x::xs,h=>by
  have e:AX (x::xs) (x::xs)=(match eqD x x,AX xs xs with | some a,some b=>some (a&&b)| _,_=>none):=rfl
  rw[e]
  rcases h x Ye with h1 | h1
  ·rcases M7 xs (λy c=>h y (Yd _ c))with h2 | h2
   ·rw[h1,h2];exact .inl rfl
   ·rw[h1,h2];exact .inr rfl
  ·rw[h1];exact .inr rfl
theorem M8:∀(x:W),eqD x x=some true\/eqD x x=none
 | .non=>.inl rfl
 | .bl b=>.inl (by show some (b==b)=_;simp)
 | .int b=>.inl (by show some (b==b)=_;simp)
 | .str b=>.inl (by show some (b==b)=_;simp)
 | .tup xs=>M7 xs (λx _=>M8 x)
 | .rol _=>.inr rfl
 | .ref _=>.inr rfl
theorem Ea:∀{xs:List W}{x:W},x∈xs->dpW x<=dpL xs
 | y::xs,x,h=>by
  have e:dpL (y::xs)=max (dpW y) (dpL xs):=rfl
  rw[e]
  walk_at "pg"
  ·exact Nat.le_max_left ..
  ·exact Yt (Ea h) (Nat.le_max_right ..)
theorem Xr:∀(c:List W)(ys:List W)(vs:List V),(∀(v:V)(w y:W),w∈c->Tr K H v w->Tr K H v y->eqD w y≠none->w=y)->TrL K H vs c->TrL K H vs ys->AX c ys≠none->c=ys:=by
 intro c
 induction c with
 | nil =>
  intro ys vs _ l d _
  cases l
  cases d
  rfl
 | cons w c f =>
  intro ys vs h l d ne
  cases l with
  | cons t l =>
   cases d with
   | @cons _ y _ ys t' d =>
    have e:AX (w::c) (y::ys)=(match eqD w y,AX c ys with | some a,some b=>some (a&&b)| _,_=>none):=rfl
    have h1:eqD w y≠none:=λz=>ne (by rw[e,z])
    have h2:AX c ys≠none:=λz=>ne (by rw[e,z];cases eqD w y <;> rfl)
    rw[h _ w y Ye t t' h1,f ys _ (λv w y g=>h v w y (Yd _ g)) l d h2]
variable {pins:List (Addr×Obj)}{s:Shared}
theorem Xs(I:Inv X pins σ H s)(n:Nat):∀(v:V)(w y:W),dpW w < n->Tr X.K H v w->Tr X.K H v y->eqD w y≠none->w=y:=by
 induction n with
 | zero=>intro v w y h;exact Qi h (Nat.not_lt_zero _)
 | succ n i =>
  intro v w y h k ty ne
  cases k with
  | tup j l =>
   rename_i a o d
   generalize b:V.ref a=vr at ty
   cases ty with
   | tup c g =>
    cases b
    have e:=I.tuple_inj j c
    subst e
    have f:dpL d+1 < n+1:=h
    rw[Xr d _ _ (λv w y m=>i v w y (by have:=Ea m;lia)) l g ne]
   | rol _ _=>exact Qi rfl ne
   | ref _=>exact Qi rfl ne
   | non=>cases b
   | bl _=>cases b
   | int _=>cases b
   | str _=>cases b
  | rol _ _=>exact Qi (by cases y <;> rfl) ne
  | ref _=>exact Qi (by cases y <;> rfl) ne
  | non=>cases ty;rfl
  | bl _=>cases ty;rfl
  | int _=>cases ty;rfl
  | str _=>cases ty;rfl
theorem Xu(I:Inv X pins σ H s)(n:Nat):∀(w y:W)(v u:V)(B D:Value)(b:Bool)(A:Around),dpW w < n->Tr X.K H v w->Tr X.K H u y->RelV v B->RelV u D->eqD w y=some b->A.units+n < cLine->SeqAt.EqAt A s B D b:=by
 induction n with
 | zero=>intro w _ _ _ _ _ _ _ h;exact Qi h (Nat.not_lt_zero _)
 | succ n R =>
  intro w y v u B D b A h U ty i m e hu
  cases U with
  | tup k l =>
   cases ty with
   | tup q J =>
    rename_i a vs o N us ys
    cases i
    cases m
    by_cases p:a=N
    ·subst p
     have T:=Xs I (dpW (.tup o)+1) _ _ _ (Nat.lt_succ_self _) (.tup k l) (.tup q J) (by rw[e];simp)
     cases T
     rcases M8 (.tup o)with z | z
     ·rw[e]at z;cases z;exact SeqAt.EqAt.same _
     ·rw[e]at z;cases z
    ·obtain⟨d,r1,p1,_⟩:=I.tuple k
     obtain⟨g,P,p2,_⟩:=I.tuple q
     obtain⟨f,Y,hb⟩:=Gx (show AX o ys=some b from e)
     have l1:=r1.length
     have l2:=P.length
     have l3:=l.length
     have l4:=J.length
     refine SeqAt.EqAt.of_refs p ?_
     have key:=SeqAt.RcAt.tuples (A:=A) (s:=s) (e:=f) (show s.heap.IsTuple a d.toArray from p1) (show s.heap.IsTuple N g.toArray from p2) (by lia) (λj h1 h2=>?_)
     ·rw[hb]
      have e1:d.toArray.size=o.length:=by rw[Yn];lia
      have Z:g.toArray.size=ys.length:=by rw[Yn];lia
      rw[e1,Z]at key
      exact key
     ·have r:j < o.length:=by rw[Yn]at h1;lia
      have O:j < ys.length:=by rw[Yn]at h2;lia
      obtain⟨v1,g1,t1⟩:=l.get (Yp r)
      obtain⟨v2,g2,t2⟩:=J.get (Yp O)
      obtain⟨u1,g3,G⟩:=r1.get g1
      obtain⟨S,g4,F⟩:=P.get g2
      have x:d.toArray[j]=u1:=by
       have z:d[j]?=some d[j]:=Yp (by lia)
       rw[g3]at z
       have L:=YE z
       rw[L];simp
      have E:g.toArray[j]=S:=by
       have z:g[j]?=some g[j]:=Yp (by lia)
       rw[g4]at z
       have L:=YE z
       rw[L];simp
      rw[x,E]
      have hd:dpW (o[j])<=dpL o:=Ea (Qc r)
      have Q:dpL o+1 < n+1:=h
      exact R _ _ _ _ _ _ _ A.in1 (by lia) t1 t2 G F (Y j _ _ (Yp r) (Yp O)) (by show A.units+1+n < cLine;lia)
   | str _ =>
    cases e;cases i;obtain⟨t,rfl⟩:=m
    obtain⟨d,r1,p1,_⟩:=I.tuple k
    exact SeqAt.EqAt.tuple_str (A:=A) _ _ p1 (by lia)
   | bl _ =>
    cases e;cases i;cases m
    obtain⟨d,r1,p1,_⟩:=I.tuple k
    exact SeqAt.EqAt.tuple_bool _ p1 (by lia)
   | int _ =>
    cases e;cases i;obtain⟨t,rfl⟩:=m
    obtain⟨d,r1,p1,_⟩:=I.tuple k
    exact SeqAt.EqAt.tuple_int (A:=A) _ _ p1 (by lia)
   | _=>cases e
  | non=>cases ty <;> cases e <;> exact Fo i m rfl rfl
  | bl c =>
   cases ty with
   | tup k l =>
    cases e;cases i;cases m
    obtain⟨d,r1,p1,_⟩:=I.tuple k
    exact SeqAt.EqAt.bool_tuple _ p1 (by lia)
   | _=>cases e <;> exact Fo i m rfl rfl
  | int c =>
   cases ty with
   | tup k l =>
    cases e;cases m;obtain⟨t,rfl⟩:=i
    obtain⟨d,r1,p1,_⟩:=I.tuple k
    exact SeqAt.EqAt.int_tuple (A:=A) _ _ p1 (by lia)
   | _=>cases e <;> exact Fo i m rfl rfl
  | str c =>
   cases ty with
   | tup k l =>
    cases e;cases m;obtain⟨t,rfl⟩:=i
    obtain⟨d,r1,p1,_⟩:=I.tuple k
    exact SeqAt.EqAt.str_tuple (A:=A) _ _ p1 (by lia)
   | _=>cases e <;> exact Fo i m rfl rfl
  | rol _ _=>cases y <;> cases e
  | ref _=>cases y <;> cases e
def rSq(K:PySem.W.Frag)(neg:Bool):R2:=λv u H Q=>∃(a b:Addr)(vs us:List V)(ws ys:List W)(c:Bool),v=.ref a/\u=.ref b/\((SqT K H a vs/\SqT K H b us)\/(SqL K H a vs/\SqL K H b us))/\TrL K H vs ws/\TrL K H us ys/\dpL ws < 90/\AX ws ys=some c/\Q (.bl (c != neg)) H
section
variable {X:Cx} {pins:List (Addr×Obj)} {σ:St} {H:Hp} {s:Shared}
theorem Gy(I:Inv X pins σ H s){A:Around}{us:List V}{a its':List Value}(r1:Vals vs a)(r2:Vals us its')(t1:TrL X.K H vs b)(t2:TrL X.K H us ys)(hd:dpL b < 90)(r:A.units+100 < cLine){f:Nat->Bool}
  (o:∀(i:Nat)x y,b[i]?=some x->ys[i]?=some y->eqD x y=some (f i)) (j:Nat) (h1:j < a.toArray.size) (h2:j < its'.toArray.size):SeqAt.EqAt A.in1 s a.toArray[j] its'.toArray[j] (f j):=by
 have t:=r1.length
 have v:=r2.length
 have w:=t1.length
 have u:=t2.length
 have d:j < b.length:=by rw[Yn]at h1;lia
 have m:j < ys.length:=by rw[Yn]at h2;lia
 obtain⟨q,g1,c⟩:=t1.get (Yp d)
 obtain⟨B,g2,e⟩:=t2.get (Yp m)
 obtain⟨p,g3,l⟩:=r1.get g1
 obtain⟨n,g4,k⟩:=r2.get g2
 have g:a.toArray[j]=p:=by
  have z:a[j]?=some a[j]:=Yp (by lia)
  rw[g3]at z
  rw[YE z];simp
 have h:its'.toArray[j]=n:=by
  have z:its'[j]?=some its'[j]:=Yp (by lia)
  rw[g4]at z
  rw[YE z];simp
 rw[g,h]
 exact Xu I 99 _ _ _ _ _ _ _ A.in1 (by have:=Ea (Qc d);lia) c e l k (o j _ _ (Yp d) (Yp m)) (by show A.units+1+99 < cLine;lia)
end
theorem Xv(w:X.A.units+100 < cLine):OpR X (compareOp .Eq) (rSq X.K false):=by
 intro pins s σ H x y v u Q I D z h
 obtain⟨a,b,G,J,n,ys,c,rfl,rfl,B,p,r,hd,e,q⟩:=h
 cases D
 cases z
 obtain⟨f,t,o⟩:=Gx e
 have N:=p.length
 have L:=r.length
 have j:∀ d:Bool,d=c->EP X pins σ Q (.bool d) s:=λd hd=>by subst hd;exact⟨.bl d,H,I,rfl,by simpa using q⟩
 rcases B with⟨h1,h2⟩|⟨h1,h2⟩
 ·obtain⟨i,r1,p1,_⟩:=I.tuple h1
  obtain⟨g,k,p2,_⟩:=I.tuple h2
  have E:=r1.length
  have F:=k.length
  refine SeqAt.eq_tupleAt (e:=f) (show s.heap.IsTuple a i.toArray from p1) (show s.heap.IsTuple b g.toArray from p2) (by lia) (Gy I r1 k p r hd w t) (j _ ?_)
  have l:i.toArray.size=n.length:=by rw[Yn];lia
  have m:g.toArray.size=ys.length:=by rw[Yn];lia
  rw[l,m,o]
 ·obtain⟨i,r1,p1,_⟩:=I.list h1
  obtain⟨g,k,p2,_⟩:=I.list h2
  have E:=r1.length
  have F:=k.length
  have l:i.toArray.size=n.length:=by rw[Yn];lia
  have m:g.toArray.size=ys.length:=by rw[Yn];lia
  by_cases hl:n.length=ys.length
  ·refine SeqAt.eq_listAt (e:=f) p1.isList p2.isList (by lia) (by lia) (Gy I r1 k p r hd w t) (j _ ?_)
   rw[l,o,hl];simp
  ·refine SeqAt.eq_list_lengthsAt p1.isList p2.isList (by rw[l,m];simpa using hl) (by lia) (j _ ?_)
   rw[o];simp[hl]
theorem Xx(w:X.A.units+100 < cLine):OpR X (compareOp .NotEq) (rSq X.K true):=by
 intro pins s σ H x y v u Q I D z h
 obtain⟨a,b,G,J,n,ys,c,rfl,rfl,B,p,r,hd,e,q⟩:=h
 cases D
 cases z
 obtain⟨f,t,o⟩:=Gx e
 have N:=p.length
 have L:=r.length
 have j:∀ d:Bool,d=!c->EP X pins σ Q (.bool d) s:=λd hd=>by subst hd;exact⟨.bl _,H,I,rfl,by simpa using q⟩
 rcases B with⟨h1,h2⟩|⟨h1,h2⟩
 ·obtain⟨i,r1,p1,_⟩:=I.tuple h1
  obtain⟨g,k,p2,_⟩:=I.tuple h2
  have E:=r1.length
  have F:=k.length
  refine SeqAt.RcNeAt.tuples (e:=f) (show s.heap.IsTuple a i.toArray from p1) (show s.heap.IsTuple b g.toArray from p2) (by lia) (Gy I r1 k p r hd w t) _ _ _ _ (j _ ?_)
  have l:i.toArray.size=n.length:=by rw[Yn];lia
  have m:g.toArray.size=ys.length:=by rw[Yn];lia
  rw[l,m,o]
 ·obtain⟨i,r1,p1,_⟩:=I.list h1
  obtain⟨g,k,p2,_⟩:=I.list h2
  have E:=r1.length
  have F:=k.length
  have l:i.toArray.size=n.length:=by rw[Yn];lia
  have m:g.toArray.size=ys.length:=by rw[Yn];lia
  by_cases hl:n.length=ys.length
  ·refine SeqAt.RcNeAt.lists (e:=f) p1.isList p2.isList (by lia) (by lia) (Gy I r1 k p r hd w t) _ _ _ _ (j _ ?_)
   rw[l,o,hl];simp
  ·refine SeqAt.RcNeAt.lists_lengths p1.isList p2.isList (by rw[l,m];simpa using hl) (by lia) _ _ _ _ (j _ ?_)
   rw[o];simp[hl]
def eqW(x y:W)(G:Hw):Option Bool:=match x,y with
 | .tup xs,.tup ys=>if dpL xs < 90 then AX xs ys else none
 | .ref a,.ref b=>(match G a,G b with
  | some (.lst xs),some (.lst ys)=>if dpL xs < 90 then AX xs ys else none
  | _,_=>none)
 | .int a,.int b=>some (a==b)
 | .bl a,.bl b=>some (a==b)
 | .str a,.str b=>some (a==b)
 | .non,.non=>some true
 | .int _,.non=>some false
 | .non,.int _=>some false
 | .int _,.str _=>some false
 | .str _,.int _=>some false
 | .bl _,.str _=>some false
 | .str _,.bl _=>some false
 | .non,.str _=>some false
 | .str _,.non=>some false
 | .non,.bl _=>some false
 | .bl _,.non=>some false
 | _,_=>none
def eqF(neg:Bool)(x y:W)(G:Hw):Option W:=(eqW x y G).map λc=>.bl (c != neg)
theorem Xy(c:Bool):(c != true)=!c:=by cases c <;> rfl
theorem M9(neg:Bool)(x y:W)(v u:V)(G:Hw)(H:Hp)(Q:VK)(A:Tr K H v x)(ty:Tr K H u y)(r:RelH K H G)(q:Af (eqF neg) x y G (dn K H Q)):(D3 v u=true/\Q (.bl (decide (v=u) != neg)) H)\/rSq K neg v u H Q:=by
 obtain⟨w,e,t⟩:=CS q
 obtain⟨c,d,m⟩:=YQ.mp e
 subst m
 have qq:=t (.bl (c != neg)) H .refl (.bl _) r
 have g:∀{i j:V},decide (i=j)=c->D3 i j=true->(D3 i j=true/\Q (.bl (decide (i=j) != neg)) H)\/rSq K neg i j H Q:=λ{i j}h1 h2=>.inl ⟨h2,by rw[h1];exact qq⟩
 cases A with
 | tup s l =>
  cases ty with
  | tup h n =>
   unfold eqW at d;dsimp only at d
   split at d
   ·rename_i hd
    exact .inr ⟨_,_,_,_,_,_,c,rfl,rfl,.inl ⟨s,h⟩,l,n,hd,d,qq⟩
   ·cases d
  | _=>cases d
 | ref a =>
  cases ty with
  | ref b =>
   unfold eqW at d;dsimp only at d
   cases f:G a with
   | none=>rw[f]at d;cases d
   | some k =>
    cases eb:G b with
    | none=>rw[f,eb]at d;cases k <;> cases d
    | some z =>
     rw[f,eb]at d
     cases k <;> cases z <;> try cases d
     dsimp only at d
     split at d
     ·rename_i hd
      obtain⟨F,o,p⟩:=r a _ f
      obtain⟨E,B,D⟩:=r b _ eb
      exact .inr ⟨_,_,_,_,_,_,c,rfl,rfl,.inr ⟨SqL.of o,SqL.of B⟩,p,D,hd,d,qq⟩
     ·cases d
  | _=>cases d
 | rol _ _=>cases y <;> cases d
 | non=>cases ty <;> cases d <;> exact g (by simp) rfl
 | bl b=>cases ty <;> cases d <;> exact g (by first | exact IZ | simp) rfl
 | int b=>cases ty <;> cases d <;> exact g (by first | exact IY | simp) rfl
 | str b=>cases ty <;> cases d <;> exact g (by first | exact Ja | simp) rfl
theorem Xz(c:X.A.units+100 < cLine):OpR X (compareOp .Eq) (λx y H Q=>(D3 x y=true/\Q (.bl (decide (x=y) != false)) H)\/rSq X.K false x y H Q):=by
 intro pins s σ H x y v u Q I b a h
 rcases h with⟨h1,h2⟩| h
 ·exact Ui pins s σ H x y v u Q I b a ⟨h1,by simpa using h2⟩
 ·exact Xv c pins s σ H x y v u Q I b a h
theorem XA(c:X.A.units+100 < cLine):OpR X (compareOp .NotEq) (λx y H Q=>(D3 x y=true/\Q (.bl (decide (x=y) != true)) H)\/rSq X.K true x y H Q):=by
 intro pins s σ H x y v u Q I b a h
 rcases h with⟨h1,h2⟩| h
 ·exact Uj pins s σ H x y v u Q I b a ⟨h1,by rw[<- Xy];exact h2⟩
 ·exact Xx c pins s σ H x y v u Q I b a h
section
variable {X:Cx} {a b c e:Expr} {es Au:List Expr} {pos pos' p:Pos} {ga gb gc:GE} {gt gu:GT} {gs:GA}
def Dy(G:Hw)(w:W):Option (List W):=match w with
 | .tup xs=>some xs
 | .rol xs=>some xs
 | .ref a=>(match G a with | some (.lst xs)=>some xs | _=>none)
 | _=>none
theorem JD{xs:List W}(r:RelH K H G)(t:Tr K H v w)(e:Dy G w=some xs):∃ a vs,v=.ref a/\(SqL K H a vs\/SqT K H a vs)/\TrL K H vs xs:=by
 cases t with
 | tup h l=>cases e;exact⟨_,_,rfl,.inr h,l⟩
 | rol h l=>cases e;exact⟨_,_,rfl,.inl h.sq,l⟩
 | ref a =>
  unfold Dy at e;dsimp only at e
  cases z:G a with
  | none=>rw[z]at e;cases e
  | some o =>
   rw[z]at e
   cases o with
   | lst ys=>cases e;obtain⟨vs,d,b⟩:=r a _ z;exact⟨a,vs,rfl,.inl (SqL.of d),b⟩
   | exc C=>cases e
   | ins C fs=>cases e
   | dct c=>cases e
 | _=>cases e
def Gz:List W->Option (List V)
 | []=>some []
 | w::ws=>(Gw w).bind λv=>(Gz ws).map (v::·)
theorem Na:∀{a:List W}{vs us:List V},Gz a=some us->TrL K H vs a->vs=us/\vs.all CP=true
 | [],vs,us,e,t=>by cases e;cases t;exact⟨rfl,rfl⟩
 | w::a,vs,us,e,t=>by
  cases t with
  | cons h t =>
   obtain⟨f,g,b⟩:=Qa.mp (show(Gw w).bind (λv=>(Gz a).map (v::·))=some us from e)
   obtain⟨fs,i,d⟩:=YQ.mp b
   obtain⟨h1,h2⟩:=M6 h g
   obtain⟨j,c⟩:=Na i t
   subst d
   exact⟨by rw[h1,j],by rw[List.all_cons,h2,c];rfl⟩
def inF(neg:Bool)(x y:W)(G:Hw):Option W:=(Gw x).bind λv=>(Dy G y).bind λxs=>(Gz xs).map λus=>.bl (if neg then !inV v us else inV v us)
theorem Nb(neg:Bool)(x y:W)(v u:V)(G:Hw)(H:Hp)(Q:VK)(n:Tr K H v x)(ty:Tr K H u y)(r:RelH K H G)(q:Af (inF neg) x y G (dn K H Q)):rIn K neg v u H Q:=by
 obtain⟨w,e,j⟩:=CS q
 obtain⟨f,h,b⟩:=Qa.mp e
 obtain⟨xs,k,g⟩:=Qa.mp b
 obtain⟨p,m,c⟩:=YQ.mp g
 subst c
 obtain⟨h1,h2⟩:=M6 n h
 obtain⟨a,o,rfl,i,t⟩:=JD r ty k
 obtain⟨l,d⟩:=Na m t
 subst h1;subst l
 exact⟨a,o,rfl,i,h2,d,j _ H .refl (.bl _) r⟩
end
section
variable {X:Cx} {P:Hp->Prop} {a b c e o i:Expr} {sts:List Stmt} {pos pos':Pos} {ga gb gc gv go gi:GE} {gt:GT} {g:GS} {gs:GA}
def Dd(gt:GT)(g:GS):GS:=λD ω G=>∃ W:Nat->Sw->Hw->Prop,(∃ m,W m ω G)/\∀ m ω G,W m ω G->
 gt ω G λb G1=>if b=true then g {nx:=λω' G'=>∃ m',m' < m/\W m' ω' G',rt:=D.rt,bk:=D.nx,ct:=λω' G'=>∃ m',m' < m/\W m' ω' G'} ω G1 else D.nx ω G1
theorem XB(f:gt.M)(mb:g.M):GS.M (Dd gt g):=λω G D i h1 h2 j h⟨W,e,c⟩=>⟨W,e,λm ω G w=>f _ _ _ _ (λb k z=>by
 cases b with
 | true=>exact mb _ _ {nx:=λω' d=>∃ a,a < m/\W a ω' d,rt:=D.rt,bk:=D.nx,ct:=λω' d=>∃ a,a < m/\W a ω' d} _ (λ_ _ y=>y) h2 h1 (λ_ _ y=>y) z
 | false=>exact h1 _ _ z) (c m ω G w)⟩
theorem XD(t:PassesOwn (model X.prog X.w) X.A X.env X.xe)(v:gt.M)(mb:g.M)(hc:PTw X c gt)(F:Dc X P sts g):PSw X P (.While c sts [] pos) (Dd gt g):=λB x=>
 Ck (TY t hc (F B x)) <| by
  rintro D σ H ⟨ω,G,I,r,k,W,⟨u,q⟩,i⟩
  refine⟨λm σ' H'=>Mono X.K B H'/\∃ ω' e,TrSt X.K H' σ' ω'/\RelH X.K H' e/\W m ω' e,⟨u,k,ω,G,I,r,q⟩,?_⟩
  rintro m σ' H' ⟨o,ω',e,f,r',s⟩
  refine⟨ω',e,f,r',v _ _ _ _ (λb E z H1 j r1=>?_) (i m ω' e s)⟩
  cases b with
  | true =>
   rw[if_pos rfl]
   refine⟨λσ2 H2=>∃ d,d < m/\Mono X.K B H2/\∃ ω2 p,TrSt X.K H2 σ2 ω2/\RelH X.K H2 p/\W d ω2 p,(by rintro σ2 H2 ⟨d,h1,h2⟩;exact⟨d,h1,h2⟩),ω',E,f.mono j,r1,o.trans j,?_⟩
   exact mb _ _ {nx:=λω' e=>∃ d,d < m/\W d ω' e,rt:=(dnD X.K B D).rt,bk:=(dnD X.K B D).nx,ct:=λω' e=>∃ d,d < m/\W d ω' e} _
    ((by rintro a b ⟨d,h1,h2⟩ σ2 H2 l h n;exact⟨d,h1,l,a,b,h,n,h2⟩)) (λa b y=>y) (λa b y=>y) ((by rintro a b ⟨d,h1,h2⟩ σ2 H2 l h n;exact⟨d,h1,l,a,b,h,n,h2⟩)) z
  | false =>
   rw[if_neg YS]
   exact z σ' H1 (o.trans j) (f.mono j) r1
theorem Fv(b:PassesOwn (model X.prog X.w) X.A X.env X.xe)(hc:Tm X c gt)(a:Ssm X P sts g):Sm X P (.While c sts [] pos) (Dd gt g):=⟨XD b hc.m a.m hc.p a.p,XB hc.m a.m⟩
def Eb(ω:Sw)(i:Nat):Option W:=match ω[i]? with | some (some w)=>some w | _=>none
theorem XE(ts:TrSt K H σ ω)(e:Eb ω n=some w):∃ v,σ[n]?=some (some v)/\Tr K H v w:=by
 unfold Eb at e
 split at e
 ·rename_i u z
  cases e
  exact ts.get n _ z
 ·cases e
def BV(n:Nat)(r:RW2)(ga:GE):GS:=λD ω G=>opt (Eb ω n) λx=>ga ω G λy G1=>r x y G1 λz G2=>D.nx (ω.set n (some z)) G2
theorem XG{r:RW2}(mr:r.M)(a:ga.M):GS.M (BV n r ga):=λω G D d h1 _ _ _ q=>Jx (λx q=>a _ _ _ _ (λy e z=>mr _ _ _ _ _ (λw c b=>h1 _ _ b) z) q) q
theorem XH{op:Operator}{r:RW2}{r2:R2}(F:OpR X (inplaceOp op) r2)(mr:r.M)(g:∀(x y:W)(v u:V)(G:Hw)(H:Hp)(Q:VK),Tr X.K H v x->Tr X.K H u y->RelH X.K H G->r x y G (dn X.K H Q)->r2 v u H Q)
  (k:X.N.Nodup) (hi:X.N[n]?=some x) (l:Loc X.env.scope x) (i:X.fn x=true\/X.env.scope.names.lookup x=some .local) (d:ga.M) (f:PEw X e ga):PSw X P (.AugAssign (.Name x pos') op e pos) (BV n r ga):=λB O=>
 Ck (TV k hi l f (λpins s σ H x y v u Q I r1 r2 h=>F pins s σ H x y v u Q I r1 r2 h) i) <| by
  rintro D σ H ⟨ω,G,a,A,mb,q⟩
  obtain⟨w,E,q⟩:=CS q
  obtain⟨v,j,t⟩:=XE a E
  refine⟨v,j,ω,G,a,A,d _ _ _ _ (λy o z u H1 m c r1=>?_) q⟩
  exact g w y v u o H1 _ (t.mono m) c r1 (mr _ _ _ _ _ (λR L p S H2 b J r2=>p _ H2 ((mb.trans m).trans b) (((a.mono m).mono b).set n J) r2) z)
def BW:RW2:=λx y G Q=>match x,y with
 | .int i,.int j=>Q (.int (i+j)) G
 | .str a,.str b=>a.length+b.length<=sizeLine/\Q (.str (a++b)) G
 | _,_=>False
theorem Nd:RW2.M BW:=λx y G Q a h q=>by
 cases x <;> cases y <;> first | exact q | exact h _ _ q | exact⟨q.1,h _ _ q.2⟩
theorem XI(x y:W)(v u:V)(G:Hw)(H:Hp)(Q:VK)(a:Tr K H v x)(ty:Tr K H u y)(r:RelH K H G)(q:BW x y G (dn K H Q)):
  (rI0 λi j=>.int (i+j)) v u H Q\/(∃ i j,v=.str i/\u=.str j/\i.length+j.length<=sizeLine/\Q (.str (i++j)) H):=by
 cases a with
 | int i=>cases ty <;> first | exact q.elim | exact .inl ⟨_,_,rfl,rfl,q _ H .refl (.int _) r⟩
 | str i=>cases ty <;> first | exact q.elim | exact .inr ⟨_,_,rfl,rfl,q.1,q.2 _ H .refl (.str _) r⟩
 | _=>exact q.elim
def CT(o k v:W)(G:Hw)(Q:Hw->Prop):Prop:=match o,k with
 | .ref a,.int j=>(match G a with
  | some (.lst xs)=>(match ixN xs.length j with | some n=>Q (put G a (.lst (xs.set n v)))| none=>False)
  | _=>False)
 | _,_=>False
variable {k:W}{Q:Hw->Prop}
theorem Nf{o v:W}(q:CT o k v G Q):∃ a j xs n,o=.ref a/\k=.int j/\G a=some (.lst xs)/\ixN xs.length j=some n/\Q (put G a (.lst (xs.set n v))):=by
 unfold CT at q
 split at q
 ·split at q
  ·rename_i xs e
   split at q
   ·rename_i n b;exact⟨_,_,xs,n,rfl,rfl,e,b,q⟩
   ·exact q.elim
  ·exact q.elim
 ·exact q.elim
theorem JE{v:W}{a:Addr}{j:Int}{xs:List W}(e:G a=some (.lst xs))(b:ixN xs.length j=some n)(q:Q (put G a (.lst (xs.set n v)))):CT (.ref a) (.int j) v G Q:=by
 unfold CT
 dsimp only
 rw[e]
 dsimp only
 rw[b]
 exact q
theorem XJ{o v:W}{b:Hw->Prop}(h:∀ G,Q G->b G)(q:CT o k v G Q):CT o k v G b:=by
 obtain⟨a,j,xs,n,rfl,rfl,e,c,q⟩:=Nf q
 exact JE e c (h _ q)
theorem XM{o v:W}{x y u:V}{Pq:Hw->Prop}{R:Hp->Prop}(i:Tr K H x v)(ty:Tr K H y o)(h:Tr K H u k)(r:RelH K H G)(q:CT o k v G Pq)(f:∀ d c,Mono K H c->RelH K c d->Pq d->R c):Mr y u x H R:=by
 obtain⟨a,j,xs,n,rfl,rfl,e,g,q⟩:=Nf q
 cases ty
 cases h
 obtain⟨l,b,t⟩:=r a _ e
 exact⟨a,l,j,n,rfl,rfl,b,by rw[t.length];exact g,f _ _ (Mono.lst b _) (r.chg b (TrL.set i n t)) q⟩
def Cb(gv go gi:GE):GS:=λD ω G=>gv ω G λv G1=>go ω G1 λo G2=>gi ω G2 λk G3=>CT o k v G3 λG4=>D.nx ω G4
theorem XN(b:gv.M)(a:go.M)(c:gi.M):GS.M (Cb gv go gi):=λω G D f h1 _ _ _ q=>
 b _ _ _ _ (λv h z=>a _ _ _ _ (λo d z=>c _ _ _ _ (λk e z=>XJ (λg z=>h1 _ _ z) z) z) z) q
theorem XO(s:∀ v,assign (.Subscript o i pos') X.env v=(do
   let ov <- holding [v] (eval o X.env)
   let iv <- holding [v,ov] (eval i X.env)
   standAt pos'
   holding [v,ov,iv] (setItem ov iv v)
   release [v,ov,iv] [])) (F:swapsWithSole [.Subscript o i pos'] e pos.line X.env=pure false) (hw:swappedStores [.Subscript o i pos'] e X.env=pure none)
  (h1:(assignEach [.Subscript o i pos'] X.env).map (·.2)=[assign (.Subscript o i pos') X.env]) (f:Em X e gv) (g:Em X o go) (hi:Em X i gi):Sm X P (.Assign [.Subscript o i pos'] e pos) (Cb gv go gi):=
 ⟨λB O=>Ck (TQ f.p (TN g.p hi.p Vf s) F hw h1) λD σ H⟨ω,G,d,r,mb,q⟩=>⟨ω,G,d,r,f.m _ _ _ _ (λv E z x H1 c I r1=>
  ⟨ω,E,d.mono c,r1,g.m _ _ _ _ (λR n J y H2 b ty w=>
   ⟨ω,n,(d.mono c).mono b,w,hi.m _ _ _ _ (λk Q l u L a j t=>
    XM ((I.mono b).mono a) (ty.mono a) j t l (λN K h A q4=>q4 σ K ((((mb.trans c).trans b).trans a).trans h) ((((d.mono c).mono b).mono a).mono h) A)) J⟩) z⟩) q⟩,XN f.m g.m hi.m⟩
abbrev GO:=Sw->Hw->(Option Int->Hw->Prop)->Prop
def GO.M(g:GO):Prop:=∀ ω G(Q Q':Option Int->Hw->Prop),(∀ w G',Q w G'->Q' w G')->g ω G Q->g ω G Q'
def dnO(K:PySem.W.Frag)(H:Hp)(Q:Option Int->Hp->Prop):Option Int->Hw->Prop:=λb G=>∀ H',Mono K H H'->RelH K H' G->Q b H'
def upO(K:PySem.W.Frag)(g:GO):TO:=λσ H Q=>∃ ω G,TrSt K H σ ω/\RelH K H G/\g ω G (dnO K H Q)
structure Om(X:Cx)(e:Option Expr)(g:GO):Prop where
 p:PO X e (upO X.K g)
 m:g.M
def AJ:GO:=λ_ G Q=>Q none G
def Ao(ga:GE):GO:=λω G Q=>ga ω G λw G1=>match w with | .int j=>Q (some j) G1 | _=>False
theorem XQ:Om X none AJ:=⟨(by rintro pins s σ H Q I ⟨ω,G,a,r,q⟩;exact U6 pins s σ H Q I (q H .refl r)),λ_ _ _ _ h q=>h _ _ q⟩
theorem Ng(h:Em X e ga):Om X (some e) (Ao ga):=⟨λpins s σ H Q I⟨ω,G,c,r,q⟩=>U7 h.p pins s σ H Q I ⟨ω,G,c,r,h.m _ _ _ _ (λw a z v H1 m t r1=>by
  cases w with
  | int j=>exact⟨j,MM t,z H1 m r1⟩
  | _=>exact z.elim) q⟩,λω G Q d b q=>h.m _ _ _ _ (λw a z=>by cases w <;> first | exact b _ _ z | exact z) q⟩
def Bi{α:Type}(xs:List α)(lo hi:Option Int):List α:=(xs.drop (HT.sIx xs.length 0 lo)).take (HT.sIx xs.length xs.length hi - HT.sIx xs.length 0 lo)
def slW(w:W)(lo hi:Option Int)(G:Hw)(Q:Kw):Prop:=match w with
 | .tup xs=>¬ (HT.sIx xs.length 0 lo=0/\HT.sIx xs.length xs.length hi=xs.length)/\Q (.tup (Bi xs lo hi)) G
 | .rol xs=>∀ p,G p=none->Q (.ref p) (put G p (.lst (Bi xs lo hi)))
 | .ref a=>(match G a with | some (.lst xs)=>∀ p,G p=none->Q (.ref p) (put G p (.lst (Bi xs lo hi)))| _=>False)
 | _=>False
variable {lo hi:Option Int}
theorem GB{Q c:Kw}(h:∀ w d,Q w d->c w d)(q:slW w lo hi G Q):slW w lo hi G c:=by
 cases w with
 | tup xs=>exact⟨q.1,h _ _ q.2⟩
 | rol xs=>exact λp b=>h _ _ (q p b)
 | ref a =>
  unfold slW at q ⊢
  dsimp only at q ⊢
  cases e:G a with
  | none=>rw[e]at q;exact q.elim
  | some g =>
   rw[e]at q
   cases g with
   | lst xs=>exact λp b=>h _ _ (q p b)
   | exc C=>exact q.elim
   | ins C fs=>exact q.elim
   | dct f=>exact q.elim
 | _=>exact q.elim
theorem TrL.cut{a:List W}(t:TrL K H vs a)(lo hi:Option Int):TrL K H (Dr vs lo hi) (Bi a lo hi):=by
 unfold Dr Bi
 rw[t.length]
 exact(t.drop _).take _
theorem GC{Q:VK}(t:Tr K H v w)(r:RelH K H G)(q:slW w lo hi G (dn K H Q)):Jh K v lo hi H Q\/Jo K v lo hi H Q:=by
 cases t with
 | tup h l =>
  refine .inl ⟨_,_,rfl,h,by rw[l.length];exact q.1,λp b=>?_⟩
  exact q.2 _ _ (Mono.new b _) (.tup (SqT.of BP) ((l.cut lo hi).mono (Mono.new b _))) (r.mono0 b)
 | rol h l=>exact .inr ⟨_,_,rfl,h.sq,λp b=>q p (r.no b) _ _ (Mono.new b _) (.ref p) (r.new b (l.cut lo hi))⟩
 | ref a =>
  unfold slW at q
  dsimp only at q
  cases e:G a with
  | none=>rw[e]at q;exact q.elim
  | some f =>
   rw[e]at q
   cases f with
   | lst xs =>
    obtain⟨g,c,l⟩:=r a _ e
    exact .inr ⟨_,_,rfl,SqL.of c,λp b=>q p (r.no b) _ _ (Mono.new b _) (.ref p) (r.new b (l.cut lo hi))⟩
   | exc C=>exact q.elim
   | ins C fs=>exact q.elim
   | dct d=>exact q.elim
 | _=>exact q.elim
def gSl(ga:GE)(gl gh:GO):GE:=λω G Q=>ga ω G λw G1=>gl ω G1 λlo G2=>gh ω G2 λhi G3=>slW w lo hi G3 Q
theorem XR{lo hi:Option Expr}{o gh:GO}{p2:Pos}(a:Em X e ga)(hl:Om X lo o)(d:Om X hi gh):Em X (.Subscript e (.Slice lo hi none p2) pos) (gSl ga o gh):=
 ⟨AY (Mn (SlR.or Mp Ms) a.p hl.p d.p) λσ H Q⟨ω,G,i,r,q⟩=>⟨ω,G,i,r,a.m _ _ _ _ (λw n z v H1 c t r1=>⟨ω,n,i.mono c,r1,hl.m _ _ _ _ (λl j g H2 b y=>
   ⟨ω,j,(i.mono c).mono b,y,d.m _ _ _ _ (λh x f B k s=>GC ((t.mono b).mono k) s (GB (λw D z=>BH ((c.trans b).trans k) z) f)) g⟩) z⟩) q⟩,
  λω G Q A h q=>a.m _ _ _ _ (λw n z=>hl.m _ _ _ _ (λl j g=>d.m _ _ _ _ (λu x f=>GB h f) g) z) q⟩
end
abbrev UpW(K:PySem.W.Frag)(r:RW2)(r2:R2):Prop:=∀(x y:W)(v u:V)(G:Hw)(H:Hp)(Q:VK),Tr K H v x->Tr K H u y->RelH K H G->r x y G (dn K H Q)->r2 v u H Q
structure Cop(X:Cx)(op:CmpOp)(r:RW2):Prop where
 ex:∃ r2,OpR X (compareOp op) r2/\UpW X.K r r2
 m:r.M
def Aw(a b:Str):Bool:=decide (a.cps.toList < b.cps.toList)
def AG(f:Int->Int->Bool)(g:Str->Str->Bool):RW2:=λx y G Q=>match x,y with
 | .int i,.int j=>Q (.bl (f i j)) G
 | .str i,.str j=>Q (.bl (g i j)) G
 | _,_=>False
variable {g:Str->Str->Bool}
theorem JF:RW2.M (AG f g):=λx y G Q a h q=>by
 cases x <;> cases y <;> first | exact q | exact h _ _ q
theorem JG:UpW K (AG f g) (λx y H Q=>rI0 (λi j=>.bl (f i j)) x y H Q\/∃ i j,x=.str i/\y=.str j/\Q (.bl (g i j)) H):=λx y v u G H Q a ty r q=>by
 cases a with
 | int i=>cases ty <;> first | exact q.elim | exact .inl ⟨_,_,rfl,rfl,q _ H .refl (.bl _) r⟩
 | str i=>cases ty <;> first | exact q.elim | exact .inr ⟨_,_,rfl,rfl,q _ H .refl (.bl _) r⟩
 | _=>exact q.elim
theorem XS:OpR X (compareOp .LtE) (λx y H Q=>∃ i j,x=.str i/\y=.str j/\Q (.bl (!Aw j i)) H):=by
 intro pins s σ H x y v u Q I b a h
 obtain⟨i,j,rfl,rfl,q⟩:=h
 obtain⟨t,rfl⟩:=b
 obtain⟨t',rfl⟩:=a
 exact PySem.P.le_str ⟨.bl _,H,I,rfl,q⟩
theorem JH:Cop X .Lt (AG (λi j=>decide (i < j)) Aw):=⟨⟨_,OpR.or Uk Uo,JG⟩,JF⟩
theorem XT:Cop X .LtE (AG (λi j=>decide (i<=j)) (λa b=>!Aw b a)):=⟨⟨_,OpR.or Ul XS,JG⟩,JF⟩
theorem XU:Cop X .Gt (AT λi j=>decide (j < i)):=⟨⟨_,Um,MU⟩,MT⟩
theorem XW:Cop X .GtE (AT λi j=>decide (j<=i)):=⟨⟨_,L1,MU⟩,MT⟩
theorem XX(a:X.A.units+100 < cLine):Cop X .Eq (Af (eqF false)):=⟨⟨_,Xz a,M9 false⟩,Dv⟩
theorem XY(a:X.A.units+100 < cLine):Cop X .NotEq (Af (eqF true)):=⟨⟨_,XA a,M9 true⟩,Dv⟩
theorem XZ:Cop X .In (Af (inF false)):=⟨⟨_,Vi,Nb false⟩,Dv⟩
theorem X0:Cop X .NotIn (Af (inF true)):=⟨⟨_,Vj,Nb true⟩,Dv⟩
section
variable {X:Cx} {op op':CmpOp} {r r':RW2} {a b c e:Expr} {es:List Expr} {pos:Pos} {ga gb gc:GE}
theorem X1(C:Cop X op r)(e:behindInMarks op b=false)(d:Em X a ga)(c:Em X b gb):Em X (.Compare a [op] [b] pos) (Ac r ga gb):=
 let⟨_,h1,h2⟩:=C.ex
 ⟨VZ h1 C.m d.m c.m h2 d.p c.p e,Cm C.m d.m c.m⟩
theorem GF(C:Cop X op r)(e:behindInMarks op b=false)(d:Em X a ga)(c:Em X b gb):Tm X (.Compare a [op] [b] pos) (gTB (Ac r ga gb)):=
 let⟨_,h1,h2⟩:=C.ex
 ⟨Wi h1 C.m d.m c.m h2 d.p c.p e,ML (Cm C.m d.m c.m)⟩
def Bo(r r':RW2)(ga gb gc:GE):GE:=λω G Q=>ga ω G λx G1=>gb ω G1 λy G2=>r x y G2 λz G3=>match z with
 | .bl k=>if k=true then gc ω G3 λw G4=>r' y w G4 Q else Q (.bl false) G3
 | _=>False
theorem JI(mr:r.M)(a:r'.M)(d:ga.M)(mb:gb.M)(b:gc.M):GE.M (Bo r r' ga gb gc):=λω G Q g h q=>
 d _ _ _ _ (λx j z=>mb _ _ _ _ (λy e z=>mr _ _ _ _ _ (λc f z=>by
  cases c with
  | bl k =>
   cases k with
   | true=>exact b _ _ _ _ (λw i z=>a _ _ _ _ _ h z) z
   | false=>exact h _ _ z
  | _=>exact z) z) z) q
theorem Nh{r2 a:R2}(u:UpW K r r2)(m:UpW K r' a)(mr:r.M)(f:r'.M)(p:ga.M)(mb:gb.M)(D:gc.M)(σ:St)(H:Hp)(Q:VK)(h:up K (Bo r r' ga gb gc) σ H Q):Jb r2 a (up K ga) (up K gb) (up K gc) σ H Q:=by
 obtain⟨ω,G,g,N,q⟩:=h
 refine⟨ω,G,g,N,p _ _ _ _ (λx I n v H1 d J r1=>⟨ω,I,g.mono d,r1,mb _ _ _ _ (λy t L l H2 c ty r2=>?_) n⟩) q⟩
 refine u x y v l t H2 _ (J.mono c) ty r2 (mr _ _ _ _ _ (λk O e T o b tk i=>?_) L)
 cases k with
 | bl k =>
  refine⟨k,EK tk,?_⟩
  cases k with
  | true =>
   rw[if_pos rfl]
   refine⟨ω,O,((g.mono d).mono c).mono b,i,D _ _ _ _ (λw z s B P j A E=>?_) e⟩
   exact m y w l B z P Q ((ty.mono b).mono j) A E (f _ _ _ _ _ (λS R F=>BH (((d.trans c).trans b).trans j) F) s)
  | false =>
   rw[if_neg YS]
   exact e _ o ((d.trans c).trans b) (.bl false) i
 | _=>exact e.elim
theorem X2(C:Cop X op r)(f:Cop X op' r')(g:lastMarks [op,op'] [b,c]=false)(e:Em X a ga)(d:Em X b gb)(hc:Em X c gc):Em X (.Compare a [op,op'] [b,c] pos) (Bo r r' ga gb gc):=
 let⟨_,h1,h2⟩:=C.ex
 let⟨_,h3,h4⟩:=f.ex
 ⟨AY (Ut h1 h3 e.p d.p hc.p g) (Nh h2 h4 C.m f.m e.m d.m hc.m),JI C.m f.m e.m d.m hc.m⟩
theorem X3(C:Cop X op r)(f:Cop X op' r')(g:lastMarks [op,op'] [b,c]=false)(e:Em X a ga)(d:Em X b gb)(hc:Em X c gc):Tm X (.Compare a [op,op'] [b,c] pos) (gTB (Bo r r' ga gb gc)):=
 let⟨_,h1,h2⟩:=C.ex
 let⟨_,h3,h4⟩:=f.ex
 ⟨Gk (Uu h1 h3 e.p d.p hc.p g) λσ H Q z=>Nh h2 h4 C.m f.m e.m d.m hc.m σ H _ (MN (JI C.m f.m e.m d.m hc.m) z),ML (JI C.m f.m e.m d.m hc.m)⟩
end
abbrev UpC(K:PySem.W.Frag)(r:RWc)(r1:List V->Hp->VK->Prop):Prop:=∀ ws vs G H Q,TrL K H vs ws->RelH K H G->r ws G (dn K H Q)->r1 vs H Q
structure Blt(X:Cx)(f:Value)(r:RWc):Prop where
 ex:∃ r1,CallR X f r1/\UpC X.K r r1
 m:r.M
section
variable {X:Cx} {x:Str} {p pos:Pos} {e:Expr} {es:List Expr} {gs:GA} {r:RWc} {id T:String}
theorem CU(f:bootBuiltins x=some (.builtin id))(B:Blt X (.builtin id) r)(h:Gl X x)(i:X.mg x=none)(g:x≠"__name__")(a:(x==("__debug__":Str))=false)
  (d:starEach (e::es) X.env=(false,eval e X.env)::starEach es X.env) (b:(backTo pos (starEach es X.env)).any (·.1)=false) (c:Am X (e::es) gs):Em X (.Call (.Name x p) (e::es) [] pos) (gB r gs):=
 let⟨_,h1,h2⟩:=B.ex
 Xl h1 B.m h2 h i f g a d b c
theorem GH(f:bootBuiltins x=some (.type T))(B:Blt X (.type T) r)(h:Gl X x)(i:X.mg x=none)(g:x≠"__name__")(a:(x==("__debug__":Str))=false)
  (d:starEach (e::es) X.env=(false,eval e X.env)::starEach es X.env) (b:(backTo pos (starEach es X.env)).any (·.1)=false) (c:Am X (e::es) gs):Em X (.Call (.Name x p) (e::es) [] pos) (gB r gs):=
 let⟨_,h1,h2⟩:=B.ex
 Xm h1 B.m h2 h i f g a d b c
end
theorem JJ:Blt X (.builtin "len") (rF Az):=⟨⟨_,UB,Xq⟩,Gu⟩
theorem Fw(hc:X.calm=true):Blt X (.builtin "all") (rF BE):=⟨⟨_,Xi hc,Xn⟩,Gu⟩
theorem Ni(hc:X.calm=true):Blt X (.builtin "sum") Dx:=⟨⟨_,Xk hc,Xp⟩,Xo⟩
def Ec:RWc:=λws G Q=>match ws with
 | [w]=>(match Dy G w with | some xs=>∀ p,G p=none->Q (.ref p) (put G p (.lst xs))| none=>False)
 | _=>False
theorem X4:RWc.M Ec:=λc G Q b h q=>by
 unfold Ec at q ⊢
 split at q
 ·split at q
  ·exact λp a=>h _ _ (q p a)
  ·exact q.elim
 ·exact q.elim
theorem X5:UpC K Ec (λxs H Q=>∃ p ys,xs=[.ref p]/\(SqL K H p ys\/SqT K H p ys)/\∀ l,H l=none->Q (.ref l) (upd H l (.lst ys))):=λh i G H Q t r q=>by
 unfold Ec at q
 split at q
 ·rename_i g
  split at q
  ·rename_i xs e
   cases t with
   | cons f t =>
    cases t
    obtain⟨a,c,rfl,d,l⟩:=JD r f e
    exact⟨a,c,rfl,d,λp b=>q p (r.no b) _ _ (Mono.new b _) (.ref p) (r.new b l)⟩
  ·exact q.elim
 ·exact q.elim
theorem X6:Blt X (.type "list") Ec:=⟨⟨_,Vk,X5⟩,X4⟩
def Br(ws:List W)(G:Hw):Option W:=match ws with | [w]=>(Dy G w).map W.tup | _=>none
theorem X7:UpC K (rF Br) (λxs H Q=>∃ p ys,xs=[.ref p]/\((SqL K H p ys/\∀ l,H l=none->Q (.ref l) (upd H l (.tup ys)))\/(SqT K H p ys/\Q (.ref p) H))):=λj k G H Q t r q=>by
 obtain⟨w,e,f⟩:=CS q
 unfold Br at e
 split at e
 ·obtain⟨xs,h,g⟩:=YQ.mp e
  subst g
  cases t with
  | cons i t =>
   cases t
   obtain⟨a,d,rfl,b,l⟩:=JD r i h
   rcases b with b | b
   ·exact⟨a,d,rfl,.inl ⟨b,λp c=>f _ _ (Mono.new c _) (.tup (SqT.of BP) (l.mono (Mono.new c _))) (r.mono0 c)⟩⟩
   ·exact⟨a,d,rfl,.inr ⟨b,f _ H .refl (.tup b l) r⟩⟩
 ·cases e
theorem Nj:Blt X (.type "tuple") (rF Br):=⟨⟨_,Vl,X7⟩,Gu⟩
def Cc(ws:List W)(_:Hw):Option W:=match ws with | [.int i]=>some (.int i)| [.bl k]=>some (.int (if k then 1 else 0))| _=>none
theorem X8:UpC K (rF Cc) (λxs H Q=>(∃ i,xs=[.int i]/\Q (.int i) H)\/∃ k,xs=[.bl k]/\Q (.int (if k then 1 else 0)) H):=λd c G H Q t r q=>by
 obtain⟨w,e,b⟩:=CS q
 unfold Cc at e
 split at e
 ·cases e
  cases t with
  | cons a t=>cases t;cases a;exact .inl ⟨_,rfl,b _ H .refl (.int _) r⟩
 ·cases e
  cases t with
  | cons a t=>cases t;cases a;exact .inr ⟨_,rfl,b _ H .refl (.int _) r⟩
 ·cases e
theorem X9:Blt X (.type "int") (rF Cc):=⟨⟨_,UA,X8⟩,Gu⟩
structure Mth(X:Cx)(T:String)(name:Str)(id:String)(pre:W->Hw->Prop)(r:W->List W->Hw->Kw->Prop):Prop where
 pa:PlainAttrs T
 slot:Slot T name id
 ty:typeOf (.builtin id)=pure (.type "method_descriptor")
 ex:∃ r2,MtR X id r2/\∀(o:W)(ws:List W)(v:V)(vs:List V)(G:Hw)(H:Hp)(Q:VK),Tr X.K H v o->TrL X.K H vs ws->RelH X.K H G->r o ws G (dn X.K H Q)->r2 v vs H Q
 pr:∀(o:W)(v:V)(G:Hw)(H:Hp),Tr X.K H v o->RelH X.K H G->pre o G->tyV X.K T v H
 m:∀ o ws G(Q Q':Kw),(∀ w G',Q w G'->Q' w G')->r o ws G Q->r o ws G Q'
def gMt(pre:W->Hw->Prop)(r:W->List W->Hw->Kw->Prop)(go:GE)(gs:GA):GE:=λω G Q=>go ω G λo G1=>pre o G1/\gs ω G1 λws G2=>r o ws G2 Q
section
variable {X:Cx} {o e:Expr} {es:List Expr} {go:GE} {gs:GA} {name:Str} {apos cpos:Pos} {T id:String} {pre:W->Hw->Prop} {r:W->List W->Hw->Kw->Prop}
theorem Cp(M:Mth X T name id pre r)(a:attributeBase o name X.env (eval o X.env)=eval o X.env)
  (c:((backTo cpos (starEach (e::es) X.env)).all (λx=>!x.1)&&(backToKw cpos (keywordEach [] X.env)).all (λx=>x.1.isSome)&&decide ((e::es).length+([]:List Keyword).length+(if([]:List Keyword).isEmpty then 0 else 1) < 30))=true)
  (b:(apos.endLine==cpos.line)=true) (D:starEach (e::es) X.env=(false,eval e X.env)::starEach es X.env) (hplain:(backTo cpos (starEach es X.env)).any (·.1)=false) (j:Em X o go) (d:Am X (e::es) gs):
  Em X (.Call (.Attribute o name apos) (e::es) [] cpos) (gMt pre r go gs):=
 let⟨_,h1,h2⟩:=M.ex
 ⟨AY (Vn M.pa M.slot M.ty h1 j.p d.p a c b D hplain) λσ H Q⟨ω,G,u,E,q⟩=>⟨ω,G,u,E,j.m _ _ _ _ (λk g z v H1 t tv r1=>⟨M.pr k v g H1 tv r1 z.1,
   ω,g,u.mono t,r1,d.m _ _ _ _ (λs l i A H2 n f B=>h2 k s v A l H2 Q (tv.mono n) f B (M.m _ _ _ _ _ (λw F y=>BH (t.trans n) y) i)) z.2⟩) q⟩,
  λω G Q I h q=>j.m _ _ _ _ (λk g z=>⟨z.1,d.m _ _ _ _ (λs l i=>M.m _ _ _ _ _ h i) z.2⟩) q⟩
end
def Bx(o:W)(G:Hw):Prop:=∃ xs,Dw G o=some xs
theorem JK{o:W}(t:Tr K H v o)(r:RelH K H G)(h:Bx o G):tyV K "list" v H:=by
 obtain⟨xs,e⟩:=h
 obtain⟨a,c,rfl,_,_,b,_⟩:=Gv r t e
 exact .inl ⟨rfl,_,SqL.of b⟩
def Dz(o:W)(G:Hw)(f:List W->Option (List W))(Q:Kw):Prop:=match o with
 | .ref a=>(match G a with | some (.lst xs)=>(match f xs with | some ys=>Q .non (put G a (.lst ys))| none=>False)| _=>False)
 | _=>False
variable {Q:Kw}
theorem JL{o:W}{f:List W->Option (List W)}(q:Dz o G f Q):∃ a xs ys,o=.ref a/\G a=some (.lst xs)/\f xs=some ys/\Q .non (put G a (.lst ys)):=by
 unfold Dz at q
 split at q
 ·split at q
  ·rename_i xs e
   split at q
   ·rename_i ys b;exact⟨_,xs,ys,rfl,e,b,q⟩
   ·exact q.elim
  ·exact q.elim
 ·exact q.elim
theorem JM{f:List W->Option (List W)}{xs:List W}(e:G a=some (.lst xs))(b:f xs=some ys)(q:Q .non (put G a (.lst ys))):Dz (.ref a) G f Q:=by
 unfold Dz
 dsimp only
 rw[e]
 dsimp only
 rw[b]
 exact q
theorem Nk{o:W}{f:List W->Option (List W)}{b:Kw}(h:∀ w c,Q w c->b w c)(q:Dz o G f Q):Dz o G f b:=by
 obtain⟨a,xs,ys,rfl,e,d,q⟩:=JL q
 exact JM e d (h _ _ q)
def B4(o:W)(ws:List W)(G:Hw)(Q:Kw):Prop:=match ws with
 | [y]=>Dz o G (λxs=>if xs.length < sizeLine then some (xs++[y])else none) Q
 | _=>False
theorem JN:Mth X "list" "append" "list.append" Bx B4 where
 pa:=PySem.F.plainAttrs_list
 slot:=PySem.F.slot_list_append
 ty:=PySem.F.type_list_append
 ex:=⟨_,Vp,λo i v k G H Q tv d r q=>by
  unfold B4 at q
  split at q
  ·obtain⟨a,xs,ys,rfl,e,c,q⟩:=JL q
   split at c
   ·rename_i b
    cases c
    cases tv
    cases d with
    | cons ty t =>
     cases t
     obtain⟨g,f,l⟩:=r a _ e
     exact⟨a,g,_,rfl,rfl,f,by rw[l.length];exact b,q _ _ (Mono.lst f _) .non (r.chg f (l.append (.cons ty .nil)))⟩
   ·cases c
  ·exact q.elim⟩
 pr:=λo v G H t r h=>JK t r h
 m:=λo i G Q j h q=>by
  unfold B4 at q ⊢
  split at q
  ·exact Nk h q
  ·exact q.elim
def Ed(o:W)(ws:List W)(G:Hw)(Q:Kw):Prop:=match ws with
 | [y]=>Dz o G (λxs=>(Dw G y).bind λzs=>if xs.length+zs.length<=sizeLine then some (xs++zs)else none) Q
 | _=>False
theorem Nl:Mth X "list" "extend" "list.extend" Bx Ed where
 pa:=PySem.F.plainAttrs_list
 slot:=PySem.F.slot_list_extend
 ty:=PySem.F.type_list_extend
 ex:=⟨_,Vr,λo p v x G H Q tv d r q=>by
  unfold Ed at q
  split at q
  ·obtain⟨a,xs,ys,rfl,e,k,q⟩:=JL q
   obtain⟨zs,s,f⟩:=Qa.mp k
   split at f
   ·rename_i c
    cases f
    cases tv
    cases d with
    | cons ty t =>
     cases t
     obtain⟨n,g,l⟩:=r a _ e
     obtain⟨b,i,rfl,_,_,u,j⟩:=Gv r ty s
     exact⟨a,b,n,i,rfl,rfl,g,u,by rw[l.length,j.length];exact c,q _ _ (Mono.lst g _) .non (r.chg g (l.append j))⟩
   ·cases f
  ·exact q.elim⟩
 pr:=λo v G H t r h=>JK t r h
 m:=λo p G Q w h q=>by
  unfold Ed at q ⊢
  split at q
  ·exact Nk h q
  ·exact q.elim
def CV(C:Addr)(E:Addr->Hw->Prop)(gs:GA):GS:=λ_ ω G=>gs ω G λws G1=>ws.length<=sizeLine/\E C G1
section
variable {P:Program} {w:World} {mg:Str->Option Value} {base:Heap} {N:List Str} {qual:Str} {scope:Scope} {f:Addr} {cd:Value} {A:Around} {outer:List Env} {s:Shared} {E:XK} {Pb:Hp->Prop}
theorem Fy{C:Addr}{B b initId:String}{bm:List Value}{i cpos:Pos}{a:Expr}{Au:List Expr}(j:mg x=some (.ref C))(q:PySem.W.excIn K C bm b=true)(FB:ExcBaseFacts B b initId bm)
  (g:Gl (cxW P w K mg base N qual scope f cd A outer s H E) x)
  (o:starEach (a::Au) (cxW P w K mg base N qual scope f cd A outer s H E).env=(false,eval a (cxW P w K mg base N qual scope f cd A outer s H E).env)::starEach Au (cxW P w K mg base N qual scope f cd A outer s H E).env)
  (hplain:(backTo cpos (starEach Au (cxW P w K mg base N qual scope f cd A outer s H E).env)).any (·.1)=false) (hd:(x==("__debug__":Str))=false) (c:Am (cxW P w K mg base N qual scope f cd A outer s H E) (a::Au) gs):
  Sm (cxW P w K mg base N qual scope f cd A outer s H E) Pb (.Raise (some (.Call (.Name x i) (a::Au) [] cpos)) none pos) (CV C (dnX K H E) gs):=by
 refine⟨λJ e pins l σ Hc D I h=>?_,λω G D v _ _ _ _ q=>q⟩
 obtain⟨ω,G,n,r,mb,k⟩:=h
 exact VL g j q FB c.p o hplain hd pins l σ Hc D I ⟨ω,G,n,r,c.m _ _ _ _ (λy F z u H1 d t r1=>⟨by rw[t.length];exact z.1,z.2 H1 ((Un.mono' I.base).trans d) r1⟩) k⟩
end
theorem RelH.newX{C:Addr}(r:RelH K H G)(b:H p=none):RelH K (upd H p (.ext (Cj p C))) (put G p (.exc C)):=λa u e=>by
 by_cases h:a=p
 ·subst h
  rw[An]at e;cases e
  exact BP
 ·rw[AH h]at e
  exact r.mono0 b a u e
structure GJ(D D':Ew):Prop where
 nx:∀ a b,D.nx a b->D'.nx a b
 rt:∀ a b,D.rt a b->D'.rt a b
 bk:∀ a b,D.bk a b->D'.bk a b
 ct:∀ a b,D.ct a b->D'.ct a b
theorem GS.M.le{g:GS}(m:g.M){a:Ew}(h:GJ D a)(q:g D ω G):g a ω G:=m ω G D a h.nx h.rt h.bk h.ct q
def JO(i:Nat)(D:Ew):Ew:={nx:=λω G=>D.nx (ω.set i none) G,rt:=D.rt,bk:=λω G=>D.bk (ω.set i none) G,ct:=λω G=>D.ct (ω.set i none) G}
def Nm(K:PySem.W.Frag)(C0:Addr)(i:Nat)(gb:Xw->GS)(gh:GS):GS:=λD ω G=>
 gb (λω' C G'=>PySem.W.subIn K (.ref C) (.ref C0)=some true/\∀ e,G' e=none->gh (JO i D) (ω'.set i (some (.ref e))) (put G' e (.exc C))) D ω G
def JP(K:PySem.W.Frag)(C0:Addr)(i:Nat)(gb:Xw->GS)(gh:GS):GS:=λD ω G=>∃ D0,GJ D0 D/\Nm K C0 i gb gh D0 ω G
theorem Y0{d:List Stmt}{b0:Stmt}{n:Str}{np t:Pos}{A:Addr}{gb:Xw->GS}{gh:GS}(T:X.mg x=some (.ref A))(hD:PySem.W.typeIn X.K (.ref A)=some (.type "type"))(hT:(PySem.W.clsIn X.K A).isSome=true)(hB:PySem.W.subIn X.K (.ref A) (.type "BaseException")=some true)
  (hN:X.N.Nodup) (hi:place X.N n=some i) (hn:EM X.env.scope n=true) (R:X.stack=X.env::X.outer) (J:X.env.frame=some X.env.locals) (Y:X.ex=[]) (P:Gl X x) (Q:(x==("__debug__":Str))=false)
  (hb:∀(ex:Xw)(pn:List (Addr×Obj))(xe:Value->Shared->Prop),CC (cxT X pn xe) ex->Ssm (cxT X pn xe) (atB X) body (gb ex)) (hh:∀ e,Ssm (cxH X e) (atB X) (b0::d) gh):
  Sm X (atB X) (.Try body [.ExceptHandler (some (.Name x np)) (some n) (b0::d) t] [] [] pos) (JP X.K A i gb gh):=by
 refine⟨λB j=>?_,(by rintro ω G D D' h1 h2 h3 h4 ⟨f,le,q⟩;exact⟨f,⟨λa b z=>h1 a b (le.nx a b z),λa b z=>h2 a b (le.rt a b z),λa b z=>h3 a b (le.bk a b z),λa b z=>h4 a b (le.ct a b z)⟩,q⟩)⟩
 have u:B=X.H₀:=j
 let tb:(St->XK)->TS:=λEσ Dn σ H=>∃(ex:Xw)(f:Ew)(ω:Sw)(G:Hw),TrSt X.K H σ ω/\RelH X.K H G/\Mono X.K B H/\
  (∀ σ' C H' ω' k,Mono X.K B H'->TrSt X.K H' σ' ω'->RelH X.K H' k->ex ω' C k->Eσ σ' (.ref C) none H')/\GJ f (dnD X.K B Dn)/\gb ex f ω G
 have hbody':∀(Eσ:St->XK)(pn:List (Addr×Obj))(xe:Value->Shared->Prop),D4 (CXe X.prog X.w) (cxT X pn xe) Eσ->PSs (cxT X pn xe) body (tb Eσ):=by
  intro Eσ pn xe hp pins s σ H Dn I ⟨ex,f,ω,G,Z,r,mb,v,L,q⟩
  have pw:CC (cxT X pn xe) ex:=by
   intro g σ' H1 s1 ev s' I1 ⟨e,C,H',ee,F,C',ω',k,eC,h,r',q'⟩
   cases eC
   exact hp g σ' H1 s1 ev s' I1 ⟨e,C,H',ee,F,v σ' C H' ω' k (by rw[u];exact(Un.mono' I1.base).trans (Un.mono' F.un)) h r' q'⟩
  have S:=hb ex pn xe pw
  exact S.p B j pins s σ H Dn I ⟨ω,G,Z,r,mb,S.m.le L q⟩
 refine Ck (VO (tb:=tb) (th:=upS X.K B gh) hN (MV hi) (EN hn) R J Y P T hD hT hB hbody' (λe=>(hh e).p B j) Q) λD σ H U=>?_
 obtain⟨ω,G,Z,r,mb,f,le,q⟩:=U
 refine⟨_,f,ω,G,Z,r,mb,λσ' C H' ω' k m' h r' z=>?_,le,q⟩
 refine⟨C,rfl,z.1,λe E=>⟨ω'.set i (some (.ref e)),put k e (.exc C),(h.mono (Mono.new E _)).set i (.ref e),r'.newX E,m'.trans (Mono.new E _),?_⟩⟩
 have O:GJ (JO i f) (dnD X.K B {nx:=λσ2 H2=>D.nx (σ2.set i none) H2,rt:=D.rt,bk:=λσ2 H2=>D.bk (σ2.set i none) H2,ct:=λσ2 H2=>D.ct (σ2.set i none) H2}):=by
  refine⟨λa b y σ2 H2 l c o=>?_,λa b y=>le.rt a b y,λa b y σ2 H2 l c o=>?_,λa b y σ2 H2 l c o=>?_⟩
  ·exact le.nx _ _ y (σ2.set i none) H2 l (c.unset i) o
  ·exact le.bk _ _ y (σ2.set i none) H2 l (c.unset i) o
  ·exact le.ct _ _ y (σ2.set i none) H2 l (c.unset i) o
 exact(hh e).m.le O (z.2 e (r'.no E))
structure DfN(P:Program)(w:World)(K:PySem.W.Frag)(mg:Str->Option Value)(base:Heap)(x:Str)(k n:Nat)(sp:Spw):Prop where
 ex:∃(f:Addr)(fd:FuncData)(ps:List Str),mg x=some (.ref f)/\PySem.W.keepIn K (.ref f)=true/\Binds K fd ps []/\ps.length=n/\Jq P w K mg base CX0 k f fd ps (B2 K sp)
 mono:sp.M
section
variable {X:Cx} {e:Expr} {es:List Expr} {pos p:Pos} {gs:GA}
theorem Y1{k:Nat}{sp:Spw}(D:DfN X.prog X.w X.K X.mg X.base x k n sp)(l:Gj k X.A)(t:Gl X x)(c:(x==("__debug__":Str))=false)(j:starEach (e::es) X.env=(false,eval e X.env)::starEach es X.env)(d:(backTo pos (starEach es X.env)).any (·.1)=false)
  (a:Am X (e::es) gs):Em X (.Call (.Name x p) (e::es) [] pos) (Ak sp (λ_ _ _=>False) gs):=by
 obtain⟨f,fd,ps,B,h,s,_,F⟩:=D.ex
 refine⟨AY (VR F l t B h s a.p c j d) λσ H Q g=>?_,MI D.mono a.m⟩
 obtain⟨ω,G,y,r,q⟩:=g
 refine⟨ω,G,y,r,a.m _ _ _ _ (λo u q1 E H1 i b r1=>?_) q⟩
 exact⟨o,u,by rw[Yx];exact b,r1,D.mono _ _ _ _ _ _ (λw v z=>BH i z) (λC v z=>z.elim) q1⟩
end
def tyN(w:W)(G:Hw):Option String:=match w with
 | .non=>some "NoneType"
 | .bl _=>some "bool"
 | .int _=>some "int"
 | .str _=>some "str"
 | .tup _=>some "tuple"
 | .rol _=>some "list"
 | .ref a=>(match G a with | some (.lst _)=>some "list" | _=>none)
def CW(n T:String):Bool:=n==T||(n=="bool"&&T=="int")
variable {T:String}
theorem Ee{n:String}(b:n∈["NoneType","bool","int","str","tuple","list"])(a:T∈["tuple","list","str","int","bool","dict"]):PySem.W.kitOne K (.type n) (.type T)=some (CW n T):=by
 simp only[Yo,YX,or_false]at b a
 rcases b with rfl | rfl | rfl | rfl | rfl | rfl <;> rcases a with rfl | rfl | rfl | rfl | rfl | rfl <;> kernel_rfl
def By(T:String)(ge:GE):GE:=λω G Q=>ge ω G λw G1=>match tyN w G1 with | some n=>Q (.bl (CW n T)) G1 | none=>False
theorem Y2(m:ge.M):GE.M (By T ge):=λω G Q b h q=>m _ _ _ _ (λw a z=>by
 cases e:tyN w a with
 | none=>rw[e]at z;exact z
 | some n=>rw[e]at z;exact h _ _ z) q
theorem Y3{u:Value}{n:String}{Q:Value->Shared->Prop}{E:Value->Shared->Prop}(I:Inv X pins σ H s)(c:RelV v u)(t:Tr X.K H v w)(r:RelH X.K H G)(e:tyN w G=some n)
  (b:T∈["tuple","list","str","int","bool","dict"]) (h:∀ tk,Q (.bool (CW n T)) {s with toks:=tk}):wpAny (model X.prog X.w) X.A (call (.builtin "isinstance") [u,.type T]) Q E s:=by
 cases t with
 | non=>cases e;cases(show u=Value.none from c);exact PySem.W.kia_one PySem.W.kitx_none I.kIn True.intro (Ee (by simp) b) (λz=>nomatch z) h
 | bl y=>cases e;cases(show u=Value.bool y from c);exact PySem.W.kia_one PySem.W.kitx_bool I.kIn True.intro (Ee (by simp) b) (λz=>nomatch z) h
 | int i=>cases e;obtain⟨t,rfl⟩:=c;exact PySem.W.kia_one PySem.W.kitx_int I.kIn True.intro (Ee (by simp) b) (λz=>nomatch z) h
 | str y=>cases e;obtain⟨t,rfl⟩:=c;exact PySem.W.kia_one PySem.W.kitx_str I.kIn True.intro (Ee (by simp) b) (λz=>nomatch z) h
 | tup g l =>
  cases e
  cases c
  obtain⟨d,_,p,_⟩:=I.tuple g
  obtain⟨o,h1,h2,_⟩:=p
  exact PySem.W.kia_one PySem.W.kitx_tuple I.kIn ⟨o,h1,h2⟩ (Ee (by simp) b) (λz=>nomatch z) h
 | rol g l =>
  cases e
  cases c
  obtain⟨d,_,p,_⟩:=I.list g.sq
  obtain⟨o,h1,h2,_⟩:=p.isList
  exact PySem.W.kia_one PySem.W.kitx_list I.kIn ⟨o,h1,h2⟩ (Ee (by simp) b) (λz=>nomatch z) h
 | ref a =>
  unfold tyN at e
  dsimp only at e
  cases f:G a with
  | none=>rw[f]at e;cases e
  | some o =>
   rw[f]at e
   cases o with
   | exc C=>cases e
   | ins C fs=>cases e
   | dct k=>cases e
   | lst xs =>
    cases e
    cases c
    obtain⟨m,j,_⟩:=r a _ f
    obtain⟨d,_,p,_⟩:=I.list (SqL.of j)
    obtain⟨o,h1,h2,_⟩:=p.isList
    exact PySem.W.kia_one PySem.W.kitx_list I.kIn ⟨o,h1,h2⟩ (Ee (by simp) b) (λz=>nomatch z) h
theorem Nn:bootBuiltins "isinstance"=some (.builtin "isinstance"):=by decide +kernel
section
variable {X:Cx} {e:Expr} {p pc pos:Pos} {ge:GE}
theorem Fz{c:Str}(D:T∈["tuple","list","str","int","bool","dict"])(A:bootBuiltins c=some (.type T))(j:X.mg c=none)(k:X.mg "isinstance"=none)(g:Gl X "isinstance")(f:Gl X c)(F:c≠"__name__")(hd:(c==("__debug__":Str))=false)
  (x:starEach [e,.Name c pc] X.env=[(false,eval e X.env),(false,eval (.Name c pc) X.env)]) (a:starEach [.Name c pc] X.env=[(false,eval (.Name c pc) X.env)]) (h:Em X e ge):Em X (.Call (.Name "isinstance" p) [e,.Name c pc] [] pos) (By T ge):=by
 refine⟨λpins s σ H Q I i=>?_,Y2 h.m⟩
 obtain⟨ω,G,J,r,q⟩:=i
 have pa:PA X [e,.Name c pc] (EE (up X.K ge) (EE (tC (.ty T)) Gf)):=EF h.p (EF (LS f j A rfl F hd) Gg (by rw[a];rfl)) (by rw[x,a])
 refine wpAny_Call_Name_kw (D1 I g k Nn ?_ (by decide) (by decide))
 refine PyProof.Rows.callWith_builtin1 (thn (pa pos pins s σ H (λo H1=>∃ v w b n,o=[v,.ty T]/\Tr X.K H1 v w/\RelH X.K H1 b/\tyN w b=some n/\Q (.bl (CW n T)) H1) I ?_) λO N⟨o,H1,l,r1,v,w,b,n,E,tv,B,d,qq⟩=>?_) (by rw[x,a]) (by rw[a];rfl)
 ·refine⟨ω,G,J,r,h.m _ _ _ _ (λw b z v H1 m t r1=>?_) q⟩
  cases d:tyN w b with
  | none=>rw[d]at z;exact z.elim
  | some n=>rw[d]at z;exact⟨v,w,b,n,rfl,t,r1,d,z _ H1 m (.bl _) r1⟩
 ·subst E
  obtain⟨u,L,rfl,y,rt⟩:=Ge r1
  cases rt
  exact Y3 l y tv B d D λtk=>⟨.bl _,H1,l.tok tk,rfl,qq⟩
end
structure Ef(K:PySem.W.Frag)(C:Addr):Prop where
 ga:PySem.W.findIn K (.ref C) "__getattribute__"=some (some (.builtin "BaseException.__getattribute__"))
 gh:PySem.W.findIn K (.ref C) "__getattr__"=some none
 cl:(PySem.W.clsIn K C).isSome=true
 fc:PySem.W.findIn K (.ref C) "__class__"=some (some (.builtin "object.__class__"))
 sp:PySem.W.specialIn K (.builtin "object.__class__") "__get__"=some (some (.builtin "getset_descriptor.__get__"))
 tk:PySem.W.takesIn K (.builtin "object.__class__")=some true
 mr:PySem.W.mroIn K C (.type "object")=some true
 mb:PySem.W.mroIn K C (.type "BaseException")=some true
end L3
namespace L3
open PySem PySem.W PySem.Spec PySem.Calls PyProof.Rows PySem.Builtin PySem.Builtin.ObjectAttr PySem.Builtin.Getset_descriptor
section
variable {prog:Program} {w:World} {A:Around} {E:Value->Shared->Prop} {s:Shared} {K:Frag} {x C:Addr} {name:Str}
variable {h:Heap}
theorem FA{M:Model}(I:L2.Cj x C h):Looks M h (typeOf (.ref x)) (.ref C):=by
 obtain⟨a,e,c⟩:=I
 rw[<- c];exact(Looks.ld e).andThen .now
variable {a:Value}
theorem Y4{M:Model}{g:Value}(X:K.In h)(b:findIn K (.ref C) name=some (some a))(d:specialIn K a "__get__"=some (some g))(c:takesIn K a=some true):Looks M h (find (.ref x) (.ref C) name) (.bind g a):=by
 have e:=looks_findIn (M:=M) X b
 have f:Looks M h (getOf (some a)) (some g):=looks_specialIn X d
 have i:Looks M h (dataDescriptor? (some a) (some g)) (some (g,a)):=(looks_takesIn (M:=M) X c).andThen .now
 exact e.andThen (f.andThen (i.andThen (Looks.tag .now)))
variable {R:Result->Shared->Prop}
theorem Y5(X:K.In s.heap)(I:L2.Cj x C s.heap)(b:mroIn K C (.type "object")=some true)
  (h:R (.ok (.ret (.ref C))) s):codeAny (model prog w) A (.call (.builtin "getset_descriptor.__get__") ⟨[.builtin "object.__class__",.ref x,a],[]⟩) R s:=by
 obtain⟨d,e,c,tt,os⟩:=s
 have LT:=FA (M:=model prog w) I
 have LM:=looks_mroIn (M:=model prog w) X b
 refine codeAny_call_builtin KF.slot_gs.plain KF.entry_gs (KF.slot_gs.check _ _ _ _ _ _ _ _ KF.type_class (KF.args_gs _ _ _) (?_:wpAny _ _ _ _ _ _))
 (unfold Builtin.«getset_descriptor.__get__» descrGet);(rw[dga_obj]);(refine Qj (Qk ?_))
 (unfold descrGetter descrCheckInstance descrNameAndClass isInstance);(simp only[KF.owner_class]);(repeat lk)
 refine⟨Code.quiet_builtin _ (by decide +kernel),(codeAny_builtin KF.entry_class ?_:codeAny _ _ _ _ _)⟩
 (unfold Builtin.«object.__class__» shownTypeOf);(repeat lk)
 exact h
theorem Y6{M:Model}{Q:Unit->Shared->Prop}(X:K.In s.heap)(I:L2.Cj x C s.heap)(c:mroIn K C (.type "BaseException")=some true)(f:Q () s):
  wpAny M A (checkBuiltinCall "BaseException.__getattribute__" ⟨[.ref x,a],[]⟩) Q E s:=by
 obtain⟨g,h,d,tt,os⟩:=s
 have LT:=FA (M:=M) I
 have LM:=looks_mroIn (M:=M) X c
 have b:builtinKind "BaseException.__getattribute__"=some .slot:=by decide +kernel
 have sp:splitId "BaseException.__getattribute__"=some ("BaseException","__getattribute__"):=by decide +kernel
 have e:=F.args_bexc_ga (.ref x) a
 simp only[checkBuiltinCall,b,sp]
 refine Qj ?_
 unfold isInstance
 repeat lk
 repeat (any_goals (first | assumption | wp_step))
theorem Y7{tk:Tok}(XC:Ef K C)(X:K.In s.heap)(I:L2.Cj x C s.heap)(h:R (.ok (.ret (.ref C))) s):
  codeAny (model prog w) A (.call (.builtin "BaseException.__getattribute__") ⟨[.ref x,.str "__class__" tk],[]⟩) R s:=by
 refine codeAny_call_builtin F.attr_Exception.ga.plain F.entry_bexc_ga (Y6 X I XC.mb ?_)
 obtain⟨a,b,c,tt,os⟩:=s
 have LT:=FA (M:=model prog w) I
 have LF:=Y4 (M:=model prog w) (x:=x) X XC.fc XC.sp XC.tk
 (unfold Builtin.«object.__getattribute__»)
 repeat (first | with_reducible refine wpAny_call (Y5 X I XC.mr ?_)| lk | wp_step)
 all_goals exact h
theorem Y8{Q:Option Value->Shared->Prop}(XC:Ef K C)(X:K.In s.heap)(I:L2.Cj x C s.heap)(h:Q (some (.ref C)) {s with toks:=s.toks+1}):wpAny (model prog w) A (getAttr? (.ref x) "__class__") Q E s:=by
 obtain⟨a,b,c,tt,os⟩:=s
 have LT:=FA (M:=model prog w) I
 have LG:=looks_findIn (M:=model prog w) X XC.ga
 have LH:=looks_findIn (M:=model prog w) X XC.gh
 unfold getAttr? getAttrBy? getAttrBy
 refine Qj (wpAny_mkText (Qj (wpAny_attempt (wpAny_holding (Qj (LT.at (Qj (LG.at (?_:wpAny _ _ _ _ _ _)))))))))
 show wpAny _ _ (getAttrByItsOwn _ _ _ _ _ _) _ _ _
 unfold getAttrByItsOwn callGetattribute boundAndCalled
 refine Qj ((LH:Looks _ _ (hookBefore (.ref C)) none).at (Qj (wpAny_attempt (wpAny_holding ?_))))
 show wpAny _ _ (bindSpecial (.builtin "BaseException.__getattribute__") (.ref x) >>=_) _ _ _
 refine Qj (wpAny_of_eq (F.attr_Exception.ga.bind _) ?_)
 refine wpAny_call (Y7 (s:=⟨a,b,c,tt+1,os⟩) XC X I ?_)
 first
  | exact Qk (handed_on rfl (Qk h))
  | exact Qk (Qk h)
  | exact Qk h
theorem Y9(XC:Ef K C):KitX K (.ref x) (.ref C) (L2.Cj x C) where
 ty:=λ_ _ _ I=>FA I
 it:=λ_ _ X _=>by
  have hc:=XC.cl
  unfold clsIn at hc
  split at hc
  ·rename_i _ _ _ _ b
   intro f i l s' k q
   unfold isType loadHead
   exact Qj (wpAny_loadPart (k _ _ (X _ _ b)) (Qk q))
  ·cases hc
 ne:=λh c j d n g X a=>by
  have hc:=XC.cl
  refine Bool.eq_false_iff.mpr λq=>?_
  have e:C=c:=Value.ref.inj (beq_iff_eq.mp q)
  subst e
  unfold clsIn at hc
  split at hc
  ·rename_i _ _ _ _ b
   have z:=(X _ _ b).symm.trans a
   cases z
  ·cases hc
 ca:=λX I k=>Y8 XC X I k
end
end L3
namespace L3
open PySem PySem.Spec PyProof.Rows L2
variable {K:PySem.W.Frag} {H H' H2:Hp}
def Cd(K:PySem.W.Frag)(cv:Value)(ge:GE):GE:=λω G Q=>ge ω G λw G1=>match w with
 | .ref a=>(match G1 a with | some (.exc C)=>∃ b,Ef K C/\PySem.W.kitOne K (.ref C) cv=some b/\Q (.bl b) G1 | _=>False)
 | _=>False
theorem Za{cv:Value}{ge:GE}(m:ge.M):GE.M (Cd K cv ge):=λω G Q g h q=>m _ _ _ _ (λw f z=>by
 cases w with
 | ref a =>
  dsimp only at z ⊢
  cases e:f a with
  | none=>rw[e]at z;exact z
  | some o =>
   rw[e]at z
   cases o with
   | lst xs=>exact z
   | ins C fs=>exact z
   | dct d=>exact z
   | exc C=>obtain⟨b,h1,h2,c⟩:=z;exact⟨b,h1,h2,h _ _ c⟩
 | _=>exact z) q
section
variable {X:Cx} {e:Expr} {p pc pos:Pos} {ge:GE}
variable {c:Str}
theorem Np{cv:V}{f:Value}(R:RelV cv f)(hc:PE X (.Name c pc) (tC cv))(n:X.mg "isinstance"=none)(j:Gl X "isinstance")
  (y:starEach [e,.Name c pc] X.env=[(false,eval e X.env),(false,eval (.Name c pc) X.env)]) (d:starEach [.Name c pc] X.env=[(false,eval (.Name c pc) X.env)]) (i:∀ u,RelV cv u->u=f) (h:Em X e ge):Em X (.Call (.Name "isinstance" p) [e,.Name c pc] [] pos) (Cd X.K f ge):=by
 refine⟨λpins s σ H Q I l=>?_,Za h.m⟩
 obtain⟨ω,G,P,r,q⟩:=l
 have pa:PA X [e,.Name c pc] (EE (up X.K ge) (EE (tC cv) Gf)):=EF h.p (EF hc Gg (by rw[d];rfl)) (by rw[y,d])
 refine wpAny_Call_Name_kw (D1 I j n Nn ?_ (by decide) (by decide))
 refine PyProof.Rows.callWith_builtin1 (thn (pa pos pins s σ H (λx H1=>∃ a C b,x=[.ref a,cv]/\H1 a=some (.ext (Cj a C))/\Ef X.K C/\PySem.W.kitOne X.K (.ref C) f=some b/\Q (.bl b) H1) I ?_) λU T⟨x,H1,g,r1,a,C,b,O,E,F,N,qq⟩=>?_) (by rw[y,d]) (by rw[d];rfl)
 ·refine⟨ω,G,P,r,h.m _ _ _ _ (λw J z v H1 m t r1=>?_) q⟩
  cases w with
  | ref a =>
   dsimp only at z
   cases k:J a with
   | none=>rw[k]at z;exact z.elim
   | some o =>
    rw[k]at z
    cases o with
    | lst xs=>exact z.elim
    | ins C fs=>exact z.elim
    | dct D=>exact z.elim
    | exc C =>
     obtain⟨b,h1,h2,B⟩:=z
     have L:H1 a=some (.ext (Cj a C)):=r1 a _ k
     exact⟨a,C,b,by rw[EL t],L,h1,h2,B _ H1 m (.bl _) r1⟩
  | _=>exact z.elim
 ·subst O
  obtain⟨u,S,rfl,A,rt⟩:=Ge r1
  cases A
  rw[i _ rt]
  obtain⟨h1,_⟩:=g.hok a _ E
  exact PySem.W.kia_one (Y9 F) g.kIn h1 N (λz=>nomatch z) λtk=>⟨.bl b,H1,g.tok tk,rfl,qq⟩
theorem ES{C:Addr}(d:X.mg c=some (.ref C))(g:X.mg "isinstance"=none)(f:Gl X "isinstance")(b:Gl X c)(hd:(c==("__debug__":Str))=false)
  (i:starEach [e,.Name c pc] X.env=[(false,eval e X.env),(false,eval (.Name c pc) X.env)]) (a:starEach [.Name c pc] X.env=[(false,eval (.Name c pc) X.env)]) (h:Em X e ge):Em X (.Call (.Name "isinstance" p) [e,.Name c pc] [] pos) (Cd X.K (.ref C) ge):=
 Np (cv:=.ref C) rfl (LR b d rfl hd) g f i a (λ_ z=>z) h
theorem Zb{T:String}(i:bootBuiltins c=some (.type T))(d:X.mg c=none)(g:X.mg "isinstance"=none)(f:Gl X "isinstance")(b:Gl X c)(j:c≠"__name__")(hd:(c==("__debug__":Str))=false)
  (k:starEach [e,.Name c pc] X.env=[(false,eval e X.env),(false,eval (.Name c pc) X.env)]) (a:starEach [.Name c pc] X.env=[(false,eval (.Name c pc) X.env)]) (h:Em X e ge):Em X (.Call (.Name "isinstance" p) [e,.Name c pc] [] pos) (Cd X.K (.type T) ge):=
 Np (cv:=.ty T) rfl (LS b d i rfl j hd) g f k a (λ_ z=>z) h
end
theorem Zc{n:Nat}{b:Hw->Prop}{H1:Hp}:D5 K H1 (Itr 0 n) ((List.range n).map λi:Nat=>W.int i) b where
 go:=λi H G m r g hi=>by show i < n;simpa using hi
 yld:=λi H G x H' m r g y hi=>by
  obtain⟨e,ex⟩:=y
  subst ex
  have a:i < n:=by simpa using hi
  refine Gp r e ⟨.int i,by simp[a],?_⟩
  rw[Int.zero_add];exact .int _
 stop:=λH G m r g=>by show n<=_;simp
def DA(gs:GA):GI:=λω G R=>gs ω G λws G1=>match ws with
 | [.int j]=>-(2 ^ 62)<=j/\j < 2 ^ 62/\R ((List.range j.toNat).map λi:Nat=>W.int i) yes G1
 | _=>False
variable {gs:GA}
theorem Zd(m:gs.M):GI.M (DA gs):=λω G R a h q=>m _ _ _ _ (λc b z=>by
 split at z
 ·exact⟨z.1,z.2.1,h _ _ _ z.2.2⟩
 ·exact z.elim) q
variable {X:Cx}
theorem Ze{tg a:Expr}{p pos:Pos}(g:X.mg "range"=none)(d:Gl X "range")(e:starEach [a] X.env=[(false,eval a X.env)])(b:Am X [a] gs):Im X tg (.Call (.Name "range" p) [a] [] pos) (DA gs):=by
 refine⟨⟨_,T3 d g b.p e,λσ H ω G R h f r q k=>⟨ω,G,f,r,b.m _ _ _ _ (λi j z l H1 m t r1=>?_) q⟩⟩,Zd b.m⟩
 split at z
 ·cases t with
  | cons c t=>cases t;cases c;exact⟨_,rfl,z.1,z.2.1,k _ _ _ H1 _ z.2.2 m r1 trivial Zc⟩
 ·exact z.elim
theorem Inv.turneds{pins:List (Addr×Obj)}{σ:St}{s:Shared}{h':Heap}{t':Nat}{fp:List Addr}(I:Inv X pins σ H s)(a:∀ b∈fp,CB X pins H b)(k:∀ b o,b∉fp->s.heap.get? b=some o->h'.get? b=some o):Inv X pins σ H {s with heap:=h',toks:=t'}:=by
 have d:∀ b u,H b=some u->b∉fp:=λb u e z=>by rw[(a b z).1]at e;cases e
 refine I.step (g':=s.gens) (d':=s.drawn) (ch:=fp) (λb f=>⟨(a b f).2.2.2.1,(a b f).2.1,(a b f).2.2.2.2.1,(a b f).2.2.2.2.2⟩) (λb o _ _ hc e _=>k b o hc e) (λb o _ _ hc e _=>⟨o.slots,k b o hc e⟩) (λ_ _ _ _ n=>n)
  (λb o hc e=>⟨o,k b o hc e⟩) (λ_ _ e=>e) (λ_ _ _ e=>e) (λb ps e=>⟨#[],by rw[e];simp⟩) (λm i=>?_) (λb u e=>?_) I.bare
 ·obtain⟨o,es,h,g,r⟩:=i
  exact⟨o,es,h,k _ o (λz=>(a _ z).2.1 rfl) g,r⟩
 ·refine(I.hok b u e).stay (λc v hc q=>k c v ?_ q) (λ_ q=>q) λ_ _ q=>q
  rcases hc with z | z
  ·rw[z];exact d b u e
  ·exact d c _ z
def rdL(G:Hw)(w:W):Option (List W):=match w with
 | .rol xs=>some xs
 | .ref a=>(match G a with | some (.lst xs)=>some xs | _=>none)
 | _=>none
theorem JQ{G:Hw}{w:W}{xs:List W}{v:V}(r:RelH K H G)(t:Tr K H v w)(e:rdL G w=some xs):∃ a vs,v=.ref a/\SqL K H a vs/\TrL K H vs xs:=by
 cases t with
 | rol h l=>cases e;exact⟨_,_,rfl,h.sq,l⟩
 | ref a =>
  unfold rdL at e;dsimp only at e
  cases z:G a with
  | none=>rw[z]at e;cases e
  | some o =>
   rw[z]at e
   cases o with
   | lst ys=>cases e;obtain⟨vs,d,b⟩:=r a _ z;exact⟨a,vs,rfl,SqL.of d,b⟩
   | exc C=>cases e
   | ins C fs=>cases e
   | dct c=>cases e
 | _=>cases e
def BX:List W->List W->List W
 | x::xs,y::ys=>.tup [x,y]::BX xs ys
 | _,_=>[]
theorem JR:∀(xs ys:List W),(BX xs ys).length=min xs.length ys.length
 | [],_=>by simp[BX]
 | _::_,[]=>by simp[BX]
 | _::xs,_::ys=>by simp only[BX,Yg,JR xs ys];lia
theorem Nq:∀(xs ys:List W)(i:Nat){x y:W},xs[i]?=some x->ys[i]?=some y->(BX xs ys)[i]?=some (.tup [x,y])
 | [],_,_,_,_,h,_=>by simp at h
 | _::_,[],_,_,_,_,h=>by simp at h
 | a::xs,b::ys,0,x,y,h,h'=>by simp at h h';subst h;subst h';rfl
 | a::xs,b::ys,i+1,x,y,h,h'=>by
  have:=Nq xs ys i (x:=x) (y:=y) (by simpa using h) (by simpa using h')
  simpa[BX]using this
theorem JS:bootBuiltins "len"=some (.builtin "len"):=by decide +kernel
theorem FC:bootBuiltins "all"=some (.builtin "all"):=by decide +kernel
theorem Nr:bootBuiltins "sum"=some (.builtin "sum"):=by decide +kernel
theorem Nt:bootBuiltins "list"=some (.type "list"):=by decide +kernel
theorem JT:bootBuiltins "tuple"=some (.type "tuple"):=by decide +kernel
theorem Nu:bootBuiltins "int"=some (.type "int"):=by decide +kernel
theorem Zf:bootBuiltins "str"=some (.type "str"):=by decide +kernel
theorem Zg:bootBuiltins "bool"=some (.type "bool"):=by decide +kernel
theorem Zh:bootBuiltins "ValueError"=some (.type "ValueError"):=by decide +kernel
section
variable {X:Cx} {P:Hp->Prop} {a b c e:Expr} {es:List Expr} {pos pos' p:Pos} {ga gb ge:GE} {gt:GT}
variable {x:Str}{i:Nat}
theorem Zi(hi:X.N[i]?=some x)(a:seen X.env.scope x=true)(hd:(x==("__debug__":Str))=false)(hc:(x==("__classdict__":Str))=false):Em X (.Name x pos) (Aa i):=⟨VU hi (MW a) hd hc,VT⟩
theorem Ce(c:X.N.Nodup)(hi:X.N[i]?=some x)(b:EM X.env.scope x=true)(d:swapsWith e (some (.Name x pos')) pos.line X.env=pure false)(a:Em X e ga):Sm X P (.Assign [.Name x pos'] e pos) (Ai i ga):=
 ⟨Wa c hi (.inl (EN b)) a.m a.p d (.inr (EN b)),MK a.m⟩
theorem Zj{n:Nat}(c:X.N.Nodup)(hi:X.N[n]?=some x)(b:EM X.env.scope x=true)(a:Em X e ga):Sm X P (.AugAssign (.Name x pos') .Add e pos) (BV n BW ga):=
 ⟨XH (OpR.or Ug Uz) Nd XI c hi (.inl (EN b)) (.inr (EN b)) a.m a.p,XG Nd a.m⟩
def Glb(K:PySem.W.Frag)(mg:Str->Option Value)(x:Str)(w:W):Prop:=∃ v u,mg x=some u/\RelV v u/\∀ H,Tr K H v w
theorem GK{w:W}(h:Glb X.K X.mg x w)(a:Gl X x)(hd:(x==("__debug__":Str))=false):Em X (.Name x pos) (gC w):=
 let⟨_,_,h1,h2,h3⟩:=h
 ⟨MG a h1 h2 h3 hd,EH⟩
structure Fm(X:Cx)(ifs:List Expr)(g:GT):Prop where
 p:PFw X ifs g
 m:g.M
theorem Cq:Fm X [] A8:=⟨WV,WU⟩
theorem DB{elt tg iter:Expr}{ifs:List Expr}{scope:Scope}{Nc:List Str}{gi:GI}{b:GG}(hc:X.calm=true)(B:Blk X Nc scope [] (λ_=>List.replicate Nc.length none))(g:∀ x,foldedSetIterable iter X.env x=pure x)(hi:Im X tg iter gi)
  (d:TgU X Nc scope tg b) (a:∀ C fp s H,Fm (cxB X Nc scope [] C fp s H) ifs gt) (f:∀ C fp s H,Em (cxB X Nc scope [] C fp s H) elt ge):Em X (.ListComp elt [⟨tg,iter,ifs,0⟩] scope pos) (Bd gi Nc.length b gt ge):=
 have e:gt.M:=(a 0 [] X.s₀ X.H₀).m
 have c:ge.M:=(f 0 [] X.s₀ X.H₀).m
 ⟨W0 hc hi.p B d e (λC fp s H=>(a C fp s H).p) c (λC fp s H=>(f C fp s H).p) g,WT hi.m d.mono e c⟩
theorem Eg:CC X (λ_ _ _=>False):=(by rintro pins σ H s ev s' I ⟨e,C,H',a,F,d,ω,G,b,c,r,q⟩;exact q.elim)
variable {k:Nat}{A:Around}
theorem A3(a:Room k A):A.units+100 < cLine:=by have:=a.un;lia
theorem Zk{j:Nat}{e:Option Value}(a:Room k A)(h:j<=k):Gj j (A.mark e):=⟨by have:=a.dp;show A.depth+3*j+5 < recursionLimit;lia,by have:=a.un;show A.units+16*j+200 < cLine;lia⟩
end
def Eh:List (Str×Int)->Str->W
 | [],_=>.non
 |(x,i)::D,z=>if z=x then .int i else Eh D z
def JU(mg:Str->Option Value)(base:Heap)(x:Str)(D:List (Str×Int)):Prop:=∃ d,mg x=some (.ref d)/\KTD.TextTab base d (D.map λp=>(p.1,KTD.Dat.flat (.int p.2)))
theorem Nv:∀{D:List (Str×Int)}{z:Str}{d:KTD.Dat},KTD.datumAt z (D.map λp=>(p.1,KTD.Dat.flat (.int p.2)))=some d->∃ i,d=.flat (.int i)/\Eh D z=.int i
 | [],_,_,h=>by cases h
 |(x,i)::D,z,d,h=>by
  have h':(if decide (z=x)=true then some (KTD.Dat.flat (.int i))else KTD.datumAt z (D.map λp=>(p.1,KTD.Dat.flat (.int p.2))))=some d:=h
  unfold Eh
  by_cases a:z=x
  ·rw[if_pos (YH a)]at h'
   cases h'
   exact⟨i,rfl,if_pos a⟩
  ·rw[if_neg (by simpa using a)]at h'
   rw[if_neg a]
   exact Nv h'
theorem Nw:∀{D:List (Str×Int)}{z:Str},KTD.datumAt z (D.map λp=>(p.1,KTD.Dat.flat (.int p.2)))=none->Eh D z=.non
 | [],_,_=>rfl
 |(x,i)::D,z,h=>by
  have h':(if decide (z=x)=true then some (KTD.Dat.flat (.int i))else KTD.datumAt z (D.map λp=>(p.1,KTD.Dat.flat (.int p.2))))=none:=h
  unfold Eh
  by_cases a:z=x
  ·rw[if_pos (YH a)]at h';cases h'
  ·rw[if_neg (by simpa using a)]at h'
   rw[if_neg a]
   exact Nw h'
def ET(D:List (Str×Int))(gk:GE):GE:=λω G Q=>gk ω G λw G1=>match w with | .str z=>Q (Eh D z) G1 | _=>False
theorem Zl{x:Str}{D:List (Str×Int)}{e:Expr}{g apos cpos:Pos}{k:GE}(h:JU X.mg X.base x D)(Z:Gl X x)(hd:(x==("__debug__":Str))=false)(b:attributeBase (.Name x g) "get" X.env (eval (.Name x g) X.env)=eval (.Name x g) X.env)
  (f:((backTo cpos (starEach [e] X.env)).all (λx=>!x.1)&&(backToKw cpos (keywordEach [] X.env)).all (λx=>x.1.isSome)&&decide ([e].length+([]:List Keyword).length+(if([]:List Keyword).isEmpty then 0 else 1) < 30))=true)
  (c:(apos.endLine==cpos.line)=true) (B:starEach [e] X.env=(false,eval e X.env)::starEach [] X.env) (hplain:(backTo cpos (starEach [] X.env)).any (·.1)=false) (l:Em X e k):
  Em X (.Call (.Attribute (.Name x g) "get" apos) [e] [] cpos) (ET D k):=by
 refine⟨λpins s σ H Q I⟨ω,G,ts,r,q⟩=>?_,λω G Q Q' S q=>l.m _ _ _ _ (λw R z=>by cases w <;> first | exact S _ _ z | exact z) q⟩
 obtain⟨d,hm,T⟩:=h
 have here:KTD.Here X.base s.heap d (D.map λp=>(p.1,KTD.Dat.flat (.int p.2))):=⟨T,I.bk⟩
 refine wpAny_Call_method_late b f c rfl (DZ I Z hm ⟨"dict","dict.get",PySem.F.plainAttrs_dict,PySem.F.slot_dict_get,PySem.F.type_dict_get,here.typeIs,here.noDict,?_⟩ hd)
 have pa:PA X [e] (EE (up X.K k) Gf):=EF l.p Gg B
 have A:=pa cpos pins s σ H (λo H1=>∃ z,o=[.str z]/\∀ v,Tr X.K H1 v (Eh D z)->Q v H1) I ⟨ω,G,ts,r,l.m _ _ _ _ (λw R z v H1 m t r1=>by
  cases w with
  | str y=>exact⟨y,by rw[Wh t],λv tv=>z v H1 m tv r1⟩
  | _=>exact z.elim) q⟩
 rw[B]at A ⊢
 refine Calls.callWith_builtin (by show(false||(backTo cpos (starEach [] X.env)).any (·.1))=false;rw[hplain] <;> rfl) (Calls.evalArgs_plain ?_)
 refine thn A λus E n=>?_
 obtain⟨o,H2,j,P,z,U,q2⟩:=n
 subst U
 obtain⟨u,rfl,O⟩:=Dq P
 obtain⟨t,rfl⟩:=O
 have a:KTD.Here X.base E.heap d (D.map λp=>(p.1,KTD.Dat.flat (.int p.2))):=⟨T,j.bk⟩
 refine call_meetsIn PySem.F.slot_dict_get a.typeIs PySem.F.entry_dict_get (PySem.F.args_dict_get_2 _ _) (KTD.meets_get1 (h₀:=X.base) (D:=D.map λp=>(p.1,KTD.Dat.flat (.int p.2)))) ⟨a,λdd v L J=>?_,λY=>?_⟩
 ·obtain⟨i,rfl,N⟩:=Nv L
  obtain⟨t2,rfl⟩:=PyProof.V.Flat.int_inv J
  exact⟨.int i,H2,j.tok _,⟨_,rfl⟩,q2 _ (by rw[N];exact .int i)⟩
 ·exact⟨.non,H2,j.tok _,rfl,q2 _ (by rw[Nw Y];exact .non)⟩
def Fn(K:PySem.W.Frag)(mg:Str->Option Value)(st:Stmt)(x:Str)(ps:List Str):Prop:=∃ f fd,mg x=some (.ref f)/\Fun K x x st f fd/\Binds K fd ps []
section
variable {P:Program} {w:World} {mg:Str->Option Value} {base:Heap}
variable {x:Str}{k n:Nat}{sp:Spw}
theorem Df.le{j:Nat}(D:Df P w K mg base x j n sp)(h:j<=k):Df P w K mg base x k n sp :=
 ⟨let⟨f,fd,ps,h1,h2,h3,h4,F⟩:=D.ex;⟨f,fd,ps,h1,h2,h3,h4,F.mono h⟩,D.mono⟩
variable {st:Stmt}{N ps:List Str}{g:GS}
theorem mk0(Fx:Fn K mg st x ps)(i:ps.length=n)(S:Ay N ps (Aj st))(d:sp.M)(len:∀ c G Q E,sp c G Q E->c.length=n)
  (y:∀{f:Addr}{cdv:Value}{A:Around}{outer:List Env}{s:Shared}{H:Hp}{E:XK},Room k (A.deeper (envOfC x (Aj st) s.heap.objs.size f cdv))->Ssm (cxW P w K mg base N x (Aj st) f cdv A outer s H E).nox (λB=>B=H) (AC st) g)
  (ok:∀ c G(Q:Kw)(E:Addr->Hw->Prop),Kw.C Q->sp c G Q E->g (Ax Q) (AZ N c) G):Df P w K mg base x (k+1) n sp:=by
 obtain⟨f,fd,h1,F,v⟩:=Fx
 refine⟨⟨f,fd,ps,h1,F.kp,v,i,?_⟩,d⟩
 obtain⟨O,L,kV,J,pm,R,cdv,ct,u,rfl,o,h⟩:=F.ex
 refine EG o h S ((by rintro I H Q E ⟨c,G,t,r,q⟩;rw[t.length,i];exact len c G _ _ q)) λA outer s H I Q E l e=>?_
 obtain⟨c,G,t,r,q⟩:=e
 have D:=y (cdv:=cdv) (outer:=outer) (H:=H) (E:=E) l
 refine⟨_,(D.p H rfl).nox,AZ N c,G,EI t,r,.refl,?_⟩
 exact D.m _ _ (Ax (dn K H Q)) _ (λa b z σ H2 m T j=>z _ H2 m Tr.non j) (λa b z=>z) (λa b z=>z.elim) (λa b z=>z.elim) (ok c G _ _ EJ q)
theorem mkX{g:(Addr->Hw->Prop)->GS}(Fx:Fn K mg st x ps)(i:ps.length=n)(S:Ay N ps (Aj st))(d:sp.M)(len:∀ c G Q E,sp c G Q E->c.length=n)
  (y:∀{f:Addr}{cdv:Value}{A:Around}{outer:List Env}{s:Shared}{H:Hp}{E:XK},Room k (A.deeper (envOfC x (Aj st) s.heap.objs.size f cdv))->Ssm (cxW P w K mg base N x (Aj st) f cdv A outer s H E) (λB=>B=H) (AC st) (g (dnX K H E)))
  (ok:∀ c G(Q:Kw)(E:Addr->Hw->Prop),Kw.C Q->Xc E->sp c G Q E->g E (Ax Q) (AZ N c) G):Df P w K mg base x (k+1) n sp:=by
 obtain⟨f,fd,h1,F,v⟩:=Fx
 refine⟨⟨f,fd,ps,h1,F.kp,v,i,?_⟩,d⟩
 obtain⟨O,L,kV,J,pm,R,cdv,ct,u,rfl,o,h⟩:=F.ex
 refine EG o h S ((by rintro I H Q E ⟨c,G,t,r,q⟩;rw[t.length,i];exact len c G _ _ q)) λA outer s H I Q E l e=>?_
 obtain⟨c,G,t,r,q⟩:=e
 have D:=y (cdv:=cdv) (outer:=outer) (H:=H) (E:=E) l
 refine⟨_,D.p H rfl,AZ N c,G,EI t,r,.refl,?_⟩
 exact D.m _ _ (Ax (dn K H Q)) _ (λa b z σ H2 m T j=>z _ H2 m Tr.non j) (λa b z=>z) (λa b z=>z.elim) (λa b z=>z.elim) (ok c G _ _ EJ MJ q)
theorem mkN(Fx:Fn K mg st x ps)(i:ps.length=n)(S:Ay N ps (Aj st))(d:sp.M)(len:∀ c G Q E,sp c G Q E->c.length=n)
  (v:∀{f:Addr}{cdv:Value}{A:Around}{outer:List Env}{s:Shared}{H:Hp},Ssm (cxN P w K mg base N x (Aj st) f cdv A outer s H) (λB=>B=H) (AC st) g)
  (ok:∀ c G(Q:Kw)(E:Addr->Hw->Prop),Kw.C Q->sp c G Q E->g (Ax Q) (AZ N c) G):DfN P w K mg base x (k+1) n sp:=by
 obtain⟨f,fd,h1,F,u⟩:=Fx
 refine⟨⟨f,fd,ps,h1,F.kp,u,i,?_⟩,d⟩
 obtain⟨L,J,kV,I,pm,O,cdv,ct,o,rfl,l,h⟩:=F.ex
 refine VQ l h S ((by rintro y H Q E ⟨c,G,t,r,q⟩;rw[t.length,i];exact len c G _ _ q)) λA outer s H y Q E e=>?_
 obtain⟨c,G,t,r,q⟩:=e
 have D:=v (f:=f) (cdv:=cdv) (A:=A) (outer:=outer) (s:=s) (H:=H)
 refine⟨_,D.p H rfl,AZ N c,G,EI t,r,.refl,?_⟩
 exact D.m _ _ (Ax (dn K H Q)) _ (λa b z σ H2 m R j=>z _ H2 m Tr.non j) (λa b z=>z) (λa b z=>z.elim) (λa b z=>z.elim) (ok c G _ _ EJ q)
end
end L3
namespace L3
open PySem PySem.Spec PyProof.Rows L2
def Bk{α:Type}(n:Nat)(js:List Nat)(l:List (Option α)):List (Option α):=List.replicate n none++js.map λj=>(l[j]?).getD none
variable {n:Nat}{js:List Nat}
theorem JV{α:Type}{l:List (Option α)}:(Bk n js l).length=n+js.length:=by simp[Bk]
variable {i:Nat}
theorem Nx{α:Type}{l:List (Option α)}{v:α}(h:(Bk n js l)[i]?=some (some v)):∃ m j,i=n+m/\js[m]?=some j/\l[j]?=some (some v):=by
 unfold Bk at h
 by_cases hi:i < n
 ·rw[YI (by simpa using hi),List.getElem?_replicate]at h
  split at h <;> cases h
 ·rw[List.getElem?_append_right (by simpa using Nat.le_of_not_lt hi),List.length_replicate,YN]at h
  cases a:js[i - n]? with
  | none=>rw[a]at h;cases h
  | some j =>
   rw[a]at h
   refine⟨i - n,j,by lia,a,?_⟩
   have h':(l[j]?).getD none=some v:=YE h
   cases e:l[j]? with
   | none=>rw[e]at h';cases h'
   | some o=>rw[e]at h';exact Qf some h'
variable {j:Nat}
theorem Zm{α:Type}{m:Nat}{l:List (Option α)}{v:α}(h1:js[m]?=some j)(h2:l[j]?=some (some v)):(Bk n js l)[n+m]?=some (some v):=by
 unfold Bk
 rw[List.getElem?_append_right (by simp),List.length_replicate,YN]
 have:n+m - n=m:=by lia
 rw[this,h1]
 show some ((l[j]?).getD none)=_
 rw[h2];rfl
variable {K:PySem.W.Frag}
theorem TrSt.cap{H:Hp}{σ:St}{ω:Sw}(t:TrSt K H σ ω)(n:Nat)(js:List Nat):TrSt K H (Bk n js σ) (Bk n js ω):=by
 refine⟨by rw[JV,JV],λi w e=>?_⟩
 obtain⟨m,j,rfl,h1,h2⟩:=Nx e
 obtain⟨v,a,r⟩:=t.get j w h2
 exact⟨v,Zm h1 a,r⟩
def De(env:Env):List (Str×NameKind)->List (Str×Addr)->List (Str×Addr)
 | [],cs=>cs
 |(n,k)::r,cs=>De env r (if k=.free then(n,(env.cells.lookup n).getD 0)::cs else cs)
theorem Ny{env:Env}:∀(l:List (Str×NameKind))(cs:List (Str×Addr)),(∀ y∈l,y.2=.free->∃ c,env.cells.lookup y.1=some c)->
  (forIn l cs λ(x:Str×NameKind)r=>if(x.2==NameKind.free)=true then do let c <- cellOf env x.1;pure (ForInStep.yield ((x.1,c)::r))else pure (ForInStep.yield r):Sem (List (Str×Addr)))=pure (De env l cs)
 | [],cs,_=>by simp[De]
 |(n,k)::r,cs,h=>by
  have b:=λcs=>Ny r cs λy d=>h y (Yd _ d)
  rw[List.forIn_cons]
  by_cases a:k=.free
  ·obtain⟨c,hc⟩:=h (n,k) Ye a
   subst a
   have e:cellOf env n=pure c:=by unfold cellOf;rw[hc]
   simp only[beq_self_eq_true,if_true,e,pure_bind,De,hc,Option.getD_some]
   exact b _
  ·have:(k==NameKind.free)=false:=by simpa using a
   simp only[this,Yq,if_false,pure_bind,De,a]
   exact b _
theorem Nz{env:Env}{y:Str}{c:Addr}:∀(l:List (Str×NameKind))(cs:List (Str×Addr)),(De env l cs).lookup y=some c->cs.lookup y=some c\/((y,NameKind.free)∈l/\c=(env.cells.lookup y).getD 0)
 | [],cs,h=>.inl h
 |(n,k)::r,cs,h=>by
  rcases Nz r _ h with q |⟨q1,q2⟩
  ·split at q
   ·rename_i b
    subst b
    rw[List.lookup_cons]at q
    split at q
    ·rename_i e
     have a:y=n:=beq_iff_eq.mp e
     subst a
     exact .inr ⟨Ye,(YE q).symm⟩
    ·exact .inl q
   ·exact .inl q
  ·exact .inr ⟨Yd _ q1,q2⟩
theorem NA{env:Env}{y:Str}:∀(l:List (Str×NameKind))(cs:List (Str×Addr)),(∃ c,cs.lookup y=some c)->∃ c,(De env l cs).lookup y=some c
 | [],cs,h=>h
 |(n,k)::r,cs,h=>NA r _ (by
  split
  ·rw[List.lookup_cons]
   split
   ·exact⟨_,rfl⟩
   ·exact h
  ·exact h)
theorem NB{env:Env}{y:Str}:∀(l:List (Str×NameKind))(cs:List (Str×Addr)),(y,NameKind.free)∈l->∃ c,(De env l cs).lookup y=some c
 | [],cs,h=>by cases h
 |(n,k)::r,cs,h=>by
  rcases Yo.mp h with h | h
  ·cases h
   refine NA r _ ⟨(env.cells.lookup y).getD 0,?_⟩
   rw[if_pos rfl,List.lookup_cons,beq_self_eq_true]
  ·exact NB r _ h
variable {scope:Scope}{y:Str}
theorem NC{env:Env}{k:NameKind}(nocell:∀ z∈scope.names,z.2≠.cell)(h:(relabel scope env).names.lookup y=some k)(b:k=.cell\/k=.free):(y,NameKind.free)∈scope.names:=by
 have m:=Jp h
 unfold relabel at m
 obtain⟨⟨n,c⟩,a,e⟩:=YC.mp m
 dsimp only at e
 split at e
 ·rename_i hc
  cases e
  simp only[YG,beq_iff_eq]at hc
  rw[hc.1.1]at a
  exact a
 ·cases e
  rcases b with rfl | rfl
  ·exact Qi rfl (nocell _ a)
  ·exact a
theorem ND{env:Env}(f:env.scope.kind=.function):∀{names:List (Str×NameKind)}{x:Str},names.lookup x=some .free->env.kindOf x=some .cell->
  (names.map λ(n,k)=>if(k==NameKind.free&&env.scope.kind==.function&&env.kindOf n==some .cell)then(n,NameKind.cell)else(n,k)).lookup x=some .cell
 | [],_,h,_=>by cases h
 |(n,k)::r,x,h,b=>by
  rw[List.lookup_cons]at h
  rw[Ym]
  split at h
  ·rename_i e
   have i:x=n:=beq_iff_eq.mp e
   subst i
   cases h
   have c:(NameKind.free==NameKind.free&&env.scope.kind==ScopeKind.function&&env.kindOf x==some NameKind.cell)=true:=by rw[f,b];rfl
   dsimp only
   rw[if_pos c,List.lookup_cons,beq_self_eq_true]
  ·rename_i e
   have g:=ND f (names:=r) h b
   rw[List.lookup_cons]
   have a:(x==(if(k==NameKind.free&&env.scope.kind==ScopeKind.function&&env.kindOf n==some NameKind.cell)=true then(n,NameKind.cell)else(n,k)).1)=false:=by
    split <;> exact e
   dsimp only at a ⊢
   split
   ·rename_i d;rw[a]at d;cases d
   ·exact g
variable {X:Cx}
theorem JW{own fr:List Str}{scX:Scope}(kind:scope.kind=.function)(names:∀ x∈scope.names,x.2=.local->scope.names.lookup x.1=some .local)(nocell:∀ y∈scope.names,y.2≠.cell)
  (t:∀ y∈scope.names,y.2=.free->y.1∈fr) (w:∀ y∈fr,scope.names.lookup y=some .free) (d:X.env.scope=scX) (g:scX.kind=.function) (k:X.env.cells=cellsFrom n scX.names []) (s:∀ y∈fr,scX.names.lookup y=some .cell)
  (r:js.map (λj=>X.N[j]?)=fr.map some):Blk X (own++fr) scope (De X.env scope.names []) (Bk own.length js):=by
 have b:∀ y∈fr,∃ c,X.env.cells.lookup y=some c:=λy a=>by
  rw[k]
  exact Jg (s y a)
 have f:js.length=fr.length:=by have:=Qf List.length r;simpa using this
 refine⟨?_,kind,names,nocell,λy c h=>?_,λy h=>?_,λσ i y v h1 h2 B=>?_,λσ=>by rw[JV,Yj,f]⟩
 ·have:=Ny (env:=X.env) scope.names [] λy a o=>b _ (t y a o)
  unfold closureFor
  simp only[bind_pure]
  exact this
 ·rcases Nz _ _ h with q |⟨q1,q2⟩
  ·cases q
  ·obtain⟨D,e⟩:=b y (t _ q1 rfl)
   rw[e]at q2 ⊢
   exact Qf some q2.symm
 ·refine NB _ _ ?_
  rcases h with h | h
  ·exact NC nocell h (.inl rfl)
  ·exact NC nocell h (.inr rfl)
 ·obtain⟨m,j,rfl,A,u⟩:=Nx h2
  rw[List.getElem?_append_right (by lia)]at h1
  have:own.length+m - own.length=m:=by lia
  rw[this]at h1
  have a:y∈fr:=List.mem_of_getElem? h1
  have q:=Qf (λl=>l[m]?) r
  simp only[YN,A,h1,YD]at q
  have p:X.env.scope.names.lookup y=some .cell:=by rw[d];exact s y a
  refine⟨.inl (ND (by rw[d];exact g) (w y a) p),.inr (.inl p),(by rw[p];intro z;cases z),j,YE q,u⟩
def BY(gi:GI)(n:Nat)(js:List Nat)(gg:GG)(gt:GT)(ge:GE):GE:=λω G Q=>gi ω G λws gd G1=>Be gd gg gt ge (λys G2=>∀ p,G2 p=none->Q (.ref p) (put G2 p (.lst ys))) ws (Bk n js ω) G1 []
variable {gi:GI}{gt:GT}{ge:GE}
theorem JX{a:GG}(e:gi.M)(mg:a.M)(d:gt.M)(b:ge.M):GE.M (BY gi n js a gt ge):=λω G Q i h q=>
 e _ _ _ _ (λj g k z=>Gr mg d b (λys f z p c=>h _ _ (z p c)) _ _ _ _ z) q
theorem NE{A:GG}{wi:TI}{g:TG}(F:∀(σ:St)(H:Hp)(ω:Sw)(G:Hw)(R:List W->(Hw->Prop)->Hw->Prop)(R0:It->Hp->Prop),TrSt X.K H σ ω->RelH X.K H G->gi ω G R->
   (∀ a t D H1 J,R a t D->Mono X.K H H1->RelH X.K H1 D->t D->D5 X.K H1 J a t->R0 J H1)->wi σ H R0)
  (O:∀(x:V)(w:W)(σ:St)(ω:Sw)(H:Hp)(G:Hw)(Q:St->Hp->Prop),Tr X.K H x w->TrSt X.K H σ ω->RelH X.K H G->A w ω G (dnS X.K H Q)->g x σ H Q) (mg:A.M) (mt:gt.M) (me:ge.M) (σ:St) (H:Hp) (Q:VK) (h:up X.K (BY gi n js A gt ge) σ H Q):
  Gi wi (Bk n js) g (upT X.K gt) (up X.K ge) σ H Q:=by
 obtain⟨ω,G,ts,r,q⟩:=h
 refine F σ H ω G _ _ ts r q λa t D H1 J z m1 r1 hgd N=>?_
 refine⟨λi m σ' H' Y=>m=a.length - i/\i<=a.length/\Mono X.K H1 H'/\∃ ω' l ys,TrSt X.K H' σ' ω'/\RelH X.K H' l/\TrL X.K H' Y ys/\Be t A gt ge (λys k=>∀ p,k p=none->dn X.K H Q (.ref p) (put k p (.lst ys))) (a.drop i) ω' l ys,
  ⟨a.length,by simp,YT _,.refl,_,D,[],(ts.mono m1).cap n js,r1,.nil,by simpa using z⟩,?_⟩
 rintro i m σ' H' Y ⟨rfl,hle,j,ω',l,ys,L,r',tv,s⟩
 have c:=MQ s
 by_cases f:i < a.length
 ·have hw:∃ w,a[i]?=some w:=⟨a[i],by simp[f]⟩
  obtain⟨w0,u⟩:=hw
  have ed:a.drop i=w0::a.drop (i+1):=by
   obtain⟨h',e'⟩:=YV.mp u
   rw[<- e'];exact List.drop_eq_getElem_cons h'
  rw[ed]at s
  refine .inr ⟨N.go i H' l j r' c f,by rw[tv.length];exact s.2.1,λσ2 H2 B=>Mono X.K H1 H2/\∃ ω2 k v,TrSt X.K H2 σ2 ω2/\RelH X.K H2 k/\TrL X.K H2 B v/\Be t A gt ge (λys k=>∀ p,k p=none->dn X.K H Q (.ref p) (put k p (.lst ys))) (a.drop (i+1)) ω2 k v,
   (by rintro σ2 H2 B ⟨y1,y2⟩;exact⟨a.length -(i+1),by lia,rfl,f,y1,y2⟩),λx H2 y=>?_⟩
  obtain⟨P,ry,w,ew,tw⟩:=N.yld i H' l x H2 j r' c y f
  have j:=j.trans P
  have tv:=tv.mono P
  rw[u]at ew;cases ew
  refine O x _ σ' ω' _ l _ tw (L.mono P) ry (mg _ _ _ _ _ (λω1 T z1 σ1 H3 E d r3=>?_) s.2.2)
  refine⟨ω1,T,d,r3,mt _ _ _ _ (λb Z U H4 o r4=>?_) z1⟩
  cases b with
  | true=>exact⟨ω1,Z,d.mono o,r4,me _ _ _ _ (λy5 G5 z5 v5 H5 S t5 r5=>⟨((j.trans E).trans o).trans S,ω1,G5,_,(d.mono o).mono S,r5,(((tv.mono E).mono o).mono S).append (.cons t5 .nil),z5⟩) U⟩
  | false=>exact⟨(j.trans E).trans o,ω1,Z,_,d.mono o,r4,(tv.mono E).mono o,U⟩
 ·have e:i=a.length:=by lia
  subst e
  rw[List.drop_length]at s
  exact .inl ⟨N.stop H' l j r' c,λp I=>s.2 p (r'.no I) _ _ ((m1.trans j).trans (Mono.new I _)) (.ref p) (r'.new I tv)⟩
structure TgC(X:Cx)(Nc:List Str)(scope:Scope)(cl:List (Str×Addr))(tg:Expr)(gg:GG):Prop where
 ex:∃ g:TG,(∀ C fp s H,PG (cxB X Nc scope cl C fp s H) tg g)/\∀(x:V)(w:W)(σ:St)(ω:Sw)(H:Hp)(G:Hw)(Q:St->Hp->Prop),Tr X.K H x w->TrSt X.K H σ ω->RelH X.K H G->gg w ω G (dnS X.K H Q)->g x σ H Q
 mono:gg.M
variable {Nc:List Str}{cl:List (Str×Addr)}{x:Str}{p:Pos}
theorem NF(c:Nc.Nodup)(hi:Nc[i]?=some x)(a:scope.names.lookup x=some .local):TgC X Nc scope cl (.Name x p) (gNm i) where
 ex:=⟨B9 i,λC b s H=>CA (X:=cxB X Nc scope cl C b s H) c hi (.inl (lookup_relabel_local a)) (.inr (lookup_relabel_local a)),λx w σ ω H G Q t d r q=>q _ H .refl (d.set i t) r⟩
 mono:=λ_ _ _ _ _ h q=>h _ _ q
def Cr(i j k:Nat):GG:=λw ω G Q=>match w with
 | .tup [a,b,c]=>Q (((ω.set i (some a)).set j (some b)).set k (some c)) G
 | _=>False
variable {k:Nat}
theorem NG:GG.M (Cr i j k):=λw ω G Q a h q=>by
 unfold Cr at q ⊢
 split
 ·exact h _ _ q
 ·rename_i z
  split at q
  ·exact(z _ _ _ rfl).elim
  ·exact q
theorem NH(v:V)(w:W)(σ:St)(ω:Sw)(H:Hp)(G:Hw)(Q:St->Hp->Prop)(t:Tr K H v w)(ts:TrSt K H σ ω)(r:RelH K H G)(q:Cr i j k w ω G (dnS K H Q)):
  Cl K 3 (BT (B9 i) (BT (B9 j) (BT (B9 k) Ch))) v σ H Q:=by
 unfold Cr at q
 split at q
 ·cases t with
  | tup h l =>
   cases l with
   | cons ta l =>
    cases l with
    | cons tb l =>
     cases l with
     | cons tc l =>
      cases l
      exact⟨_,_,rfl,h,rfl,_,_,rfl,_,_,rfl,_,_,rfl,rfl,q _ H .refl (((ts.set i ta).set j tb).set k tc) r⟩
 ·exact q.elim
variable {z:Str}{p2 pos:Pos}
theorem Zn{e:Pos}(hc:X.calm=true)(a:Nc.Nodup)(hi:Nc[i]?=some x)(c:scope.names.lookup x=some .local)(f:Nc[j]?=some y)(d:scope.names.lookup y=some .local)(g:Nc[k]?=some z)(b:scope.names.lookup z=some .local):
  TgC X Nc scope cl (.Tuple [.Name x p,.Name y e,.Name z p2] n pos) (Cr i j k) where
 ex:=⟨Cl X.K 3 (BT (B9 i) (BT (B9 j) (BT (B9 k) Ch))),λC h s H=>IU (X:=cxB X Nc scope cl C h s H) hc (Do (CA a hi (.inl (lookup_relabel_local c)) (.inr (lookup_relabel_local c))) (Do (CA a f (.inl (lookup_relabel_local d)) (.inr (lookup_relabel_local d))) (Do (CA a g (.inl (lookup_relabel_local b)) (.inr (lookup_relabel_local b))) IT))),
  NH⟩
 mono:=NG
section
variable {X:Cx} {P:Hp->Prop} {e:Expr} {pos pos':Pos} {ga ge:GE} {gt:GT}
theorem NI{elt tg iter:Expr}{ifs:List Expr}{f:GG}(hc:X.calm=true)(B:Blk X Nc scope cl (Bk n js))(k:∀ x,foldedSetIterable iter X.env x=pure x)(hi:Im X tg iter gi)
  (c:TgC X Nc scope cl tg f) (e:∀ C fp s H,Fm (cxB X Nc scope cl C fp s H) ifs gt) (j:∀ C fp s H,Em (cxB X Nc scope cl C fp s H) elt ge):Em X (.ListComp elt [⟨tg,iter,ifs,0⟩] scope pos) (BY gi n js f gt ge):=by
 have i:gt.M:=(e 0 [] X.s₀ X.H₀).m
 have h:ge.M:=(j 0 [] X.s₀ X.H₀).m
 refine⟨?_,JX hi.m c.mono i h⟩
 obtain⟨l,b,hi⟩:=hi.p
 obtain⟨g,d,a⟩:=c.ex
 exact AY (MA hc b B d (λC fp s H=>(e C fp s H).p) (λC fp s H=>(j C fp s H).p) k) (NE hi a c.mono i h)
end
theorem Zo{d:Pos}(hc:X.calm=true)(b:X.N.Nodup)(hi:X.N[i]?=some x)(h:Loc X.env.scope x)(l:X.fn x=true\/X.env.scope.names.lookup x=some .local)
  (e:X.N[j]?=some y) (m:Loc X.env.scope y) (c:X.fn y=true\/X.env.scope.names.lookup y=some .local) (f:X.N[k]?=some z) (g:Loc X.env.scope z) (a:X.fn z=true\/X.env.scope.names.lookup z=some .local):
  TgW X (.Tuple [.Name x p,.Name y d,.Name z p2] n pos) (Cr i j k) where
 ex:=⟨_,IU hc (Do (CA b hi h l) (Do (CA b e m c) (Do (CA b f g a) IT))),NH⟩
 mono:=NG
section
variable {prog:Program} {w:World} {A:Around} {E:Value->Shared->Prop} {s:Shared}
theorem Zp{t b:Addr}{h:List Value}{Q:Value->Shared->Prop}(k:IsTup s.heap t #[])(p:IsTup s.heap b h.toArray)(h1:Q (.ref b) s):wpAny (model prog w) A (binaryOp .Add (.ref t) (.ref b)) Q E s:=by
 obtain⟨⟨cls,m,data,l⟩,i,hc,n,hd⟩:=id k
 obtain⟨⟨j,f,g,e⟩,a,d,o,c⟩:=id p
 simp only at hc hd d c
 subst hc hd d c
 exact concat_meets ⟨_,i,rfl⟩ ⟨_,a,rfl⟩ noFill_tuple_add seq_tuple_add PySem.F.slot_tuple_add PySem.F.entry_tuple_add (PySem.F.args_tuple_add_2 _ _) (tuple_addW0 t b #[] h.toArray n o m f l e rfl) ⟨i,a,h1⟩
end
def JY(K:PySem.W.Frag):R2:=λx y H Q=>∃ a b ys,x=.ref a/\y=.ref b/\SqT K H a []/\SqT K H b ys/\Q (.ref b) H
theorem Zq:OpR X (binaryOp .Add) (JY X.K):=by
 intro pins s σ H x y v u Q I i e h
 obtain⟨a,b,ys,rfl,rfl,d,f,q⟩:=h
 cases i
 cases e
 obtain⟨g,r1,p1,_⟩:=I.tuple d
 obtain⟨c,j,p2,_⟩:=I.tuple f
 cases r1
 exact Zp p1 p2 ⟨.ref b,H,I,rfl,q⟩
def Ah:RW2:=λx y G Q=>match x,y with
 | .tup xs,.tup ys=>xs.length+ys.length<=sizeLine/\Q (.tup (xs++ys)) G
 | x,y=>A5 x y G Q
variable {G:Hw}{Q:Kw}
theorem GL{xs ys:List W}:Ah (.tup xs) (.tup ys) G Q=(xs.length+ys.length<=sizeLine/\Q (.tup (xs++ys)) G):=rfl
theorem NJ{x y:W}(a:¬((∃ xs,x=.tup xs)/\∃ ys,y=.tup ys)):Ah x y G Q=A5 x y G Q:=by
 cases x <;> cases y <;> first | rfl | exact Qi ⟨⟨_,rfl⟩,⟨_,rfl⟩⟩ a
theorem NK:RW2.M Ah:=λx y G Q b h q=>by
 by_cases a:(∃ xs,x=.tup xs)/\∃ ys,y=.tup ys
 ·obtain⟨⟨xs,rfl⟩,⟨ys,rfl⟩⟩:=a
  exact⟨q.1,h _ _ q.2⟩
 ·rw[NJ a]at q ⊢
  exact Jw _ _ _ _ _ h q
theorem Zr:OpR X (binaryOp .Add) (λx y H Q=>((rI0 λi j=>.int (i+j)) x y H Q\/(∃ i j,x=.str i/\y=.str j/\i.length+j.length<=sizeLine/\Q (.str (i++j)) H)\/Ft x y H Q)\/JY X.K x y H Q\/Ji X.K x y H Q):=OpR.or MR (OpR.or Zq U8)
theorem Zs(x y:W)(v u:V)(G:Hw)(H:Hp)(Q:VK)(m:Tr K H v x)(ty:Tr K H u y)(r:RelH K H G)(q:Ah x y G (dn K H Q)):
  ((rI0 λi j=>.int (i+j)) v u H Q\/(∃ i j,v=.str i/\u=.str j/\i.length+j.length<=sizeLine/\Q (.str (i++j)) H)\/Ft v u H Q)\/JY K v u H Q\/Ji K v u H Q:=by
 by_cases l:(∃ xs,x=.tup xs)/\∃ ys,y=.tup ys
 ·obtain⟨⟨xs,rfl⟩,⟨ys,rfl⟩⟩:=l
  rw[GL]at q
  cases m with
  | tup sa c =>
   cases ty with
   | tup f d =>
    rename_i a n b k
    cases c with
    | nil=>exact .inr (.inl ⟨a,b,k,rfl,rfl,sa,f,by simpa using q.2 _ H .refl (.tup f d) r⟩)
    | cons h c =>
     refine .inr (.inr ⟨a,b,_,k,rfl,rfl,sa,f,by simp,?_,λe=>?_,λe p g=>?_⟩)
     ·rw[(TrL.cons h c).length,d.length];exact q.1
     ·subst e
      cases d
      have:=q.2 (.ref a) H .refl (by simpa using Tr.tup sa (.cons h c)) r
      exact this
     ·exact q.2 _ _ (Mono.new g _) (.tup (SqT.of BP) (((TrL.cons h c).append d).mono (Mono.new g _))) (r.mono0 g)
 ·refine .inl (MS x y v u G H Q m ty r ?_)
  rwa [NJ l]at q
theorem EU{a b:Expr}{ga gb:GE}(d:Em X a ga)(c:Em X b gb):Em X (.BinOp a .Add b pos) (Ac Ah ga gb):=⟨Du Zr NK d.m c.m Zs d.p c.p,Cm NK d.m c.m⟩
end L3
namespace L3
open PySem PySem.Spec PyProof.Rows L2
variable {K:PySem.W.Frag} {H H' H2:Hp}
theorem TrP.lookup{α:Type}[BEq α]:∀{vs:List (α×V)}{b:List (α×W)}{f:α}{w:W},TrP K H vs b->b.lookup f=some w->∃ v,vs.lookup f=some v/\Tr K H v w
 | _,_,_,_,.nil,e=>by cases e
 | _,_,f,w,.cons (f:=g) r t,e=>by
  rw[List.lookup_cons]at e ⊢
  cases a:f==g with
  | true=>rw[a]at e;cases e;exact⟨_,rfl,r⟩
  | false=>rw[a]at e;exact t.lookup e
theorem TrP.lookup0{α:Type}[BEq α]:∀{vs:List (α×V)}{b:List (α×W)}{f:α},TrP K H vs b->b.lookup f=none->vs.lookup f=none
 | _,_,_,.nil,e=>rfl
 | _,_,f,.cons (f:=g) r t,e=>by
  rw[List.lookup_cons]at e ⊢
  cases a:f==g with
  | true=>rw[a]at e;cases e
  | false=>rw[a]at e;exact t.lookup0 e
theorem TrP.length{α:Type}:∀{vs:List (α×V)}{a:List (α×W)},TrP K H vs a->vs.length=a.length
 | _,_,.nil=>rfl
 | _,_,.cons _ t=>Qf (·+1) t.length
def Cs(f:Str)(v:W):List (Str×W)->List (Str×W)
 | []=>[(f,v)]
 |(g,x)::r=>if g=f then(g,v)::r else(g,x)::Cs f v r
variable {v:V}
theorem TrP.putF{f:Str}{w:W}(q:Tr K H v w):∀{vs:List (Str×V)}{a:List (Str×W)},TrP K H vs a->TrP K H (L2.putF f v vs) (Cs f w a)
 | _,_,.nil=>.cons q .nil
 | _,_,.cons (f:=g) r t=>by
  unfold L2.putF Cs
  by_cases h:g=f
  ·rw[if_pos h,if_pos h];exact .cons q t
  ·rw[if_neg h,if_neg h];exact .cons r (t.putF q)
section
variable {X:Cx} {P:Hp->Prop} {o e value:Expr} {es:List Expr} {f m:Str} {C:Addr} {pos pos' tpos apos p:Pos} {ga gv:GE} {gs:GA} {ex:Xw}
def BF(C:Addr)(f:Str)(ga:GE):GE:=λω G Q=>ga ω G λx G1=>∃ a fs v,x=.ref a/\G1 a=some (.ins C fs)/\fs.lookup f=some v/\Q v G1
theorem Zt(m:ga.M):GE.M (BF C f ga):=λω G Q c h q=>m _ _ _ _ ((by rintro x d ⟨a,fs,v,h1,h2,b,z⟩;exact⟨a,fs,v,h1,h2,b,h _ _ z⟩)) q
theorem CG(c:Cls X.K C)(n:NoAttr X.K C f)(k:attributeBase e f X.env (eval e X.env)=eval e X.env)(b:Em X e ga):Em X (.Attribute e f pos) (BF C f ga):=by
 refine⟨AY (UM b.p k) λσ H Q⟨ω,G,s,r,q⟩=>⟨ω,G,s,r,b.m _ _ _ _ (λx w⟨a,fs,v,h1,h2,l,z⟩u H1 h t r1=>?_) q⟩,Zt b.m⟩
 subst h1
 obtain⟨dx,o,i,g⟩:=r1 a _ h2
 obtain⟨j,d,tv⟩:=g.lookup l
 exact⟨a,C,dx,o,j,EL t,i,c,n,d,z _ H1 h tv r1⟩
def DC(C:Addr)(f:Str)(gv ga:GE):GS:=λD ω G=>gv ω G λy G1=>ga ω G1 λx G2=>∃ a fs,x=.ref a/\G2 a=some (.ins C fs)/\fs.length < 1000/\D.nx ω (put G2 a (.ins C (Cs f y fs)))
theorem Zu(d:gv.M)(b:ga.M):GS.M (DC C f gv ga):=λω G D g h _ _ _ q=>d _ _ _ _ (λy i z=>b _ _ _ _ ((by rintro x e ⟨a,fs,h1,h2,c,z⟩;exact⟨a,fs,h1,h2,c,h _ _ z⟩)) z) q
theorem Mono.ins{p C dx:Addr}{xs:List (Str×V)}(a:H p=some (.ins C dx xs))(o:HO):Mono K H (upd H p o):=Mono.was a _ (λ_ z=>by cases z) (λ_ _ z=>by cases z)
theorem NL(c:Cls X.K C)(n:NoAttr X.K C f)(E:swapsWith value (some (.Attribute o f pos')) pos.line X.env=pure false)(g:Em X value gv)(b:Em X o ga):Sm X P (.Assign [.Attribute o f pos'] value pos) (DC C f gv ga):=by
 refine⟨λB J=>Ck (UN b.p g.p E) λD σ H⟨ω,G,i,r,mb,q⟩=>⟨ω,G,i,r,g.m _ _ _ _ (λy A z v H1 e t r1=>⟨ω,A,i.mono e,r1,b.m _ _ _ _ (λx I⟨a,fs,h1,h2,w,z⟩u H2 d F k=>?_) z⟩) q⟩,Zu g.m b.m⟩
 subst h1
 obtain⟨dx,l,h,j⟩:=k a _ h2
 have s:Mono X.K H2 (upd H2 a (.ins C dx (L2.putF f v l))):=Mono.ins h _
 exact⟨a,C,dx,l,EL F,h,c,n,by rw[j.length];exact w,z _ _ (((mb.trans e).trans d).trans s) (((i.mono e).mono d).mono s) (k.chgI h ((TrP.putF (t.mono d) j)))⟩
def DD(C:Addr)(f:Str)(ga gv:GE):GS:=λD ω G=>ga ω G λx G1=>∃ a fs i,x=.ref a/\G1 a=some (.ins C fs)/\fs.lookup f=some (.int i)/\gv ω G1 λy G2=>∃ fs' j,y=.int j/\G2 a=some (.ins C fs')/\fs'.length < 1000/\
 D.nx ω (put G2 a (.ins C (Cs f (.int (i+j)) fs')))
theorem Zv(d:ga.M)(k:gv.M):GS.M (DD C f ga gv):=λω G D m h _ _ _ q=>d _ _ _ _ ((by rintro x n ⟨a,fs,i,h1,h2,e,z⟩;exact⟨a,fs,i,h1,h2,e,k _ _ _ _ ((by rintro y l ⟨fs',j,b,c,g,z⟩;exact⟨fs',j,b,c,g,h _ _ z⟩)) z⟩)) q
theorem NM(c:Cls X.K C)(n:NoAttr X.K C f)(k:Em X o ga)(g:Em X value gv):Sm X P (.AugAssign (.Attribute o f tpos) .Add value pos) (DD C f ga gv):=by
 refine⟨λB Z=>Ck (UO k.p g.p UP) λD σ H⟨ω,G,s,r,mb,q⟩=>⟨ω,G,s,r,k.m _ _ _ _ (λx N⟨a,fs,i,h1,h2,F,z⟩u H1 l t r1=>?_) q⟩,Zv k.m g.m⟩
 subst h1
 obtain⟨dx,I,T,R⟩:=r1 a _ h2
 obtain⟨U,J,tv⟩:=R.lookup F
 cases tv
 refine⟨a,C,dx,I,_,EL t,T,c,n,J,ω,N,s.mono l,r1,g.m _ _ _ _ (λy Y⟨fs',j,L,S,O,z⟩v H2 A Q E=>?_) z⟩
 subst L
 cases Q
 obtain⟨d,e,h,b⟩:=E a _ S
 have w:Mono X.K H2 (upd H2 a (.ins C d (L2.putF f (.int (i+j)) e))):=Mono.ins h _
 exact⟨i,j,rfl,rfl,d,e,h,by rw[b.length];exact O,z _ _ (((mb.trans l).trans A).trans w) (((s.mono l).mono A).mono w) (E.chgI h (b.putF (.int _)))⟩
structure DfM(P:Program)(w:World)(K:PySem.W.Frag)(mg:Str->Option Value)(base:Heap)(C:Addr)(m:Str)(k n:Nat)(sp:Spw):Prop where
 ex:∃(f:Addr)(fd:FuncData)(ps:List Str),Jf K C m f/\Binds K fd ps []/\ps.length=n/\FnOk P w K mg base (CXe P w) k f fd ps (B2 K sp)
 mono:sp.M
variable {k:Nat}
theorem NO{CX:CXT}{f:Addr}{fd:FuncData}{ps:List Str}{sp:Sp}{Eσ:L2.St->XK}{pins:List (Addr×Obj)}{σ:L2.St}{s:Shared}{Q:VK}{us:List Value}{vs:List V}(F:FnOk X.prog X.w X.K X.mg X.base CX k f fd ps sp)(c:Room k X.A)(g:Binds X.K fd ps [])(d:D4 CX X Eσ)
  (I:Inv X pins σ H s) (r:Vals vs us) (h:sp vs H Q (Eσ σ)):wpAny (model X.prog X.w) X.A (call (.ref f) us) (EP X pins σ Q) X.xe s:=by
 have hl:(us++([]:List Value)).length=ps.length:=by rw[Yx,<- r.length];exact F.len _ _ _ _ h
 have b:=g s us I.kIn hl
 rw[Yx]at b
 refine wpAny_call (codeAny_mono (F.run X.A X.stack s H ⟨us,[]⟩ us vs Q (Eσ σ) c I.env0 b r h) λr s' a=>?_)
 cases r with
 | error e=>exact d pins σ H s e s' I a
 | ok i =>
  cases i with
  | ret u=>exact I.after a
  | next=>exact Qd a
  | brk=>exact Qd a
  | cont=>exact Qd a
def AS(C:Addr)(m:Str)(sp:Spw)(ex:Xw)(ga:GE)(gs:GA):GE:=λω G Q=>ga ω G λx G1=>∃ a fs,x=.ref a/\G1 a=some (.ins C fs)/\fs.lookup m=none/\gs ω G1 λws G2=>sp (x::ws) G2 Q (ex ω)
variable {sp:Spw}
theorem NP(b:sp.M)(c:ga.M)(mg:gs.M):GE.M (AS C m sp ex ga gs):=λω G Q f h q=>c _ _ _ _ ((by rintro x i ⟨a,fs,h1,h2,d,z⟩;exact⟨a,fs,h1,h2,d,mg _ _ _ _ (λg e z=>b _ _ _ _ _ _ h (λ_ _ z=>z) z) z⟩)) q
variable {n:Nat}{pl:Sem Bool}
theorem BZ(c:Cls X.K C)(D:DfM X.prog X.w X.K X.mg X.base C m k n sp)(U:Room k X.A)(P:CC X ex)(i:starEach (e::es) X.env=(false,eval e X.env)::starEach es X.env)(y:(backTo pos (starEach es X.env)).any (·.1)=false)
  (ht:eval (.Call (.Attribute o m apos) (e::es) [] pos) X.env=(do
   let ov <- eval o X.env
   standAt apos.atName
   let(f,first) <- holding [ov] (getMethod ov m pl)
   callWith pos f first (backTo pos (starEach (e::es) X.env)) (backToKw pos (keywordEach [] X.env)))) (B:Em X o ga) (b:Am X (e::es) gs):Em X (.Call (.Attribute o m apos) (e::es) [] pos) (AS C m sp ex ga gs):=by
 refine⟨λpins s σ H Q I h=>?_,NP D.mono B.m b.m⟩
 obtain⟨ω,G,E,r,q⟩:=h
 obtain⟨f,fd,ps,O,hb,_,F⟩:=D.ex
 refine PySem.W.methodCall_KW (pl:=pl) (thn (B.p pins s σ H (λx H1=>∃ a dx fs,x=.ref a/\H1 a=some (.ins C dx fs)/\fs.lookup m=none/\(upA X.K gs) σ H1 λvs H2=>B2 X.K sp (x::vs) H2 Q (upX X.K ex σ)) I ⟨ω,G,E,r,B.m _ _ _ _ (λx G1⟨a,fs,h1,h2,R,z⟩u H1 v t r1=>?_) q⟩) λu Y⟨x,H1,J,rx,a,dx,fs,j,ea,l,q⟩=>?_) ht
 rotate_left
 ·subst h1
  obtain⟨dx,vs,e1,tp⟩:=r1 a _ h2
  refine⟨a,dx,vs,EL t,e1,tp.lookup0 R,ω,G1,E.mono v,r1,b.m _ _ _ _ (λws T z us H2 d g r2=>?_) z⟩
  refine⟨.ref a::ws,T,.cons (t.mono d) g,r2,D.mono _ _ _ _ _ _ (λw N z=>BH (v.trans d) z) (λC N z H3 S Z=>?_) z⟩
  exact⟨C,ω,N,rfl,((E.mono v).mono d).mono S,Z,z⟩
 ·subst j
  obtain rfl:u=Value.ref a:=rx
  refine Ma J ea c O l ?_
  refine PySem.W.callWith_K (first:=[.ref a]) (h₀:=X.base) I.ok.mod.kin O.kp (thn (b.p pos pins Y σ H1 _ J q) λus s2⟨vs,H2,L,r,q2⟩=>⟨L.kIn,?_⟩) i y
  exact NO (us:=.ref a::us) (vs:=.ref a::vs) F U hb P L (.cons rfl r) q2
theorem JZ(c:Cls X.K C)(D:DfM X.prog X.w X.K X.mg X.base C m k n sp)(J:Room k X.A)(y:CC X ex)
  (R:eval (.Call (.Attribute o m apos) [] [] pos) X.env=(do
   let ov <- eval o X.env
   standAt apos.atName
   let(f,first) <- holding [ov] (getMethod ov m pl)
   callWith pos f first (backTo pos (starEach [] X.env)) (backToKw pos (keywordEach [] X.env)))) (e:Em X o ga):Em X (.Call (.Attribute o m apos) [] [] pos) (AS C m sp ex ga Ad):=by
 refine⟨λpins s σ H Q I h=>?_,NP D.mono e.m MH⟩
 obtain⟨ω,G,j,r,q⟩:=h
 obtain⟨f,fd,ps,v,U,_,F⟩:=D.ex
 refine PySem.W.methodCall_KW (pl:=pl) (thn (e.p pins s σ H (λx H1=>∃ a dx fs,x=.ref a/\H1 a=some (.ins C dx fs)/\fs.lookup m=none/\B2 X.K sp [x] H1 Q (upX X.K ex σ)) I ⟨ω,G,j,r,e.m _ _ _ _ (λx N⟨a,fs,h1,h2,B,z⟩u H1 i t r1=>?_) q⟩) λu Z⟨x,H1,b,O,a,dx,fs,d,P,l,q⟩=>?_) R
 rotate_left
 ·subst h1
  obtain⟨dx,vs,T,S⟩:=r1 a _ h2
  refine⟨a,dx,vs,EL t,T,S.lookup0 B,[.ref a],N,.cons t .nil,r1,D.mono _ _ _ _ _ _ (λw g z=>BH i z) (λC g z Y E L=>?_) z⟩
  exact⟨C,ω,g,rfl,(j.mono i).mono E,L,z⟩
 ·subst d
  obtain rfl:u=Value.ref a:=O
  refine Ma b P c v l ?_
  exact PySem.W.callWith_K0 (first:=[.ref a]) b.kIn v.kp (NO (us:=[.ref a]) (vs:=[.ref a]) F J U y b (.cons rfl .nil) q)
end
section
variable {X:Cx} {P:Hp->Prop} {o e value:Expr} {es:List Expr} {f m:Str} {C:Addr} {pos pos' tpos apos p:Pos} {ga gv:GE} {gs:GA} {ex:Xw}
structure DfI(P:Program)(w:World)(K:PySem.W.Frag)(mg:Str->Option Value)(base:Heap)(x:Str)(C:Addr)(k n:Nat)(sp:Spw):Prop where
 ex:∃(f:Addr)(fd:FuncData)(ps:List Str),mg x=some (.ref C)/\Mk K C f/\Binds K fd ps []/\ps.length=n/\FnOk P w K mg base (CXe P w) k f fd ps (B2 K sp)
 mono:sp.M
def DE(C:Addr)(sp:Spw)(ex:Xw)(gs:GA):GE:=λω G Q=>gs ω G λws G1=>∀ x,G1 x=none->sp (.ref x::ws) (put G1 x (.ins C [])) (λv G2=>v=.non/\Q (.ref x) G2) (ex ω)
variable {sp:Spw}
theorem Zw(a:sp.M)(mg:gs.M):GE.M (DE C sp ex gs):=λω G Q d h q=>mg _ _ _ _ (λe f z x b=>a _ _ _ _ _ _ (λv c z=>⟨z.1,h _ _ z.2⟩) (λ_ _ z=>z) (z x b)) q
variable {k:Nat}
theorem Zx{CX:CXT}{f:Addr}{fd:FuncData}{ps:List Str}{sp:Sp}{Eσ:L2.St->XK}{pins:List (Addr×Obj)}{σ:L2.St}{s:Shared}{Q:VK}{us:List Value}{vs:List V}(M:Mk X.K C f)(F:FnOk X.prog X.w X.K X.mg X.base CX k f fd ps sp)(j:Room (k+1) X.A)(m:Binds X.K fd ps [])(l:D4 CX X Eσ)
  (I:Inv X pins σ H s) (r:Vals vs us)
  (h:∀ x dx,H x=none->H dx=none->dx≠x->sp (.ref x::vs) (upd (upd H dx (.own x)) x (.ins C dx [])) (λv H2=>v=.non/\Q (.ref x) H2) (Eσ σ)):
  wpAny (model X.prog X.w) X.A (call (.ref C) us) (EP X pins σ Q) X.xe s:=by
 have g:=h (s.heap.objs.size+1) s.heap.objs.size (I.hok.fresh (Nat.le_succ _)) (I.hok.fresh (Yr _)) (Ys (Nat.lt_succ_self _))
 have c:=Inv.made (C:=C) I
 have d:Vals (V.ref (s.heap.objs.size+1)::vs) (Value.ref (s.heap.objs.size+1)::us):=.cons rfl r
 have hl:(Value.ref (s.heap.objs.size+1)::us++([]:List Value)).length=ps.length:=by
  have e:=d.length
  rw[F.len _ _ _ _ g]at e
  rw[Yx]
  exact e.symm
 have b:=m _ (Value.ref (s.heap.objs.size+1)::us) c.kIn hl
 rw[Yx]at b
 refine wpAny_call (UG (f:=f) I.kIn M.makes M.init (beq_iff_eq.mp M.fn) (codeAny_mono (F.run _ X.stack _ _ ⟨Value.ref (s.heap.objs.size+1)::us,[]⟩ (Value.ref (s.heap.objs.size+1)::us) _ _ (Eσ σ) (j.make C us [])
  (c.env0.make C us []) b d g) λr s' a=>?_))
 cases r with
 | error e=>exact l pins σ _ _ e s' c a
 | ok o =>
  cases o with
  | ret u =>
   obtain⟨v,H',n,i,ev,q3⟩:=c.after a
   subst ev
   exact⟨i,⟨V.ref (s.heap.objs.size+1),H',n,rfl,q3⟩⟩
  | next=>exact Qd a
  | brk=>exact Qd a
  | cont=>exact Qd a
theorem Zy{x:Str}{n:Nat}(D:DfI X.prog X.w X.K X.mg X.base x C k n sp)(T:Room (k+1) X.A)(hg:Gl X x)(R:CC X ex)(u:(x==("__debug__":Str))=false)(he:starEach (e::es) X.env=(false,eval e X.env)::starEach es X.env)(y:(backTo pos (starEach es X.env)).any (·.1)=false)
  (i:Am X (e::es) gs):Em X (.Call (.Name x p) (e::es) [] pos) (DE C sp ex gs):=by
 refine⟨λpins s σ H Q I h=>?_,Zw D.mono i.m⟩
 obtain⟨ω,G,O,r,q⟩:=h
 obtain⟨f,fd,ps,S,M,hb,_,F⟩:=D.ex
 refine wpAny_Call_Name_kw (DZ I hg S ?_ u)
 refine PySem.W.callWith_K (h₀:=X.base) I.ok.mod.kin M.kp (thn (i.p pos pins s σ H (λg H1=>∀ x dx,H1 x=none->H1 dx=none->dx≠x->B2 X.K sp (.ref x::g) (upd (upd H1 dx (.own x)) x (.ins C dx [])) (λv H2=>v=.non/\Q (.ref x) H2) (upX X.K ex σ)) I
  ⟨ω,G,O,r,i.m _ _ _ _ (λU Y z g H1 N o r1 x dx L a c=>?_) q⟩) (by rintro us s1 ⟨g,H1,E,r,q⟩;exact⟨E.kIn,Zx M F T hb R E r q⟩)) he y
 have j:Mono X.K H1 (upd H1 dx (.own x)):=Mono.new a _
 have d:(upd H1 dx (.own x)) x=none:=by rw[AQ (λe=>c e.symm)];exact L
 have b:Mono X.K (upd H1 dx (.own x)) (upd (upd H1 dx (.own x)) x (.ins C dx [])):=Mono.new d _
 refine⟨.ref x::U,put Y x (.ins C []),.cons (.ref x) ((o.mono j).mono b),(r1.mono0 a).laid b ⟨dx,[],BP,.nil⟩,D.mono _ _ _ _ _ _ (λw J z v P B t l=>?_) (λC J z P B l=>?_) (z x (r1.no L))⟩
 ·obtain⟨Z,z⟩:=z
  subst Z
  cases t
  exact⟨rfl,z _ _ (((N.trans j).trans b).trans B) (.ref x) l⟩
 ·exact⟨C,ω,J,rfl,(((O.mono N).mono j).mono b).mono B,l,z⟩
end
def FnM(K:PySem.W.Frag)(C:Addr)(st:Stmt)(m qual:Str)(ps:List Str):Prop:=∃ f fd,Jf K C m f/\Fun K m qual st f fd/\Binds K fd ps []
def FnI(K:PySem.W.Frag)(mg:Str->Option Value)(x:Str)(C:Addr)(st:Stmt)(qual:Str)(ps:List Str):Prop:=∃ f fd,mg x=some (.ref C)/\Mk K C f/\Fun K "__init__" qual st f fd/\Binds K fd ps []
section
variable {P:Program} {w:World} {mg:Str->Option Value} {base:Heap} {C:Addr}
variable {m:Str}{k n:Nat}{sp:Spw}
theorem DfM.le{j:Nat}(D:DfM P w K mg base C m j n sp)(h:j<=k):DfM P w K mg base C m k n sp :=
 ⟨let⟨f,fd,ps,h1,h2,h3,F⟩:=D.ex;⟨f,fd,ps,h1,h2,h3,F.mono h⟩,D.mono⟩
variable {qual:Str}{st:Stmt}{f:Addr}{fd:FuncData}{N ps:List Str}{g:GS}
theorem NQ(F:Fun K m qual st f fd)(o:ps.length=n)(S:Ay N ps (Aj st))(len:∀ c G Q E,sp c G Q E->c.length=n)
  (u:∀{f:Addr}{cdv:Value}{A:Around}{outer:List Env}{s:Shared}{H:Hp}{E:XK},Room k (A.deeper (envOfC qual (Aj st) s.heap.objs.size f cdv))->Ssm (cxW P w K mg base N qual (Aj st) f cdv A outer s H E).nox (λB=>B=H) (AC st) g)
  (ok:∀ c G(Q:Kw)(E:Addr->Hw->Prop),Kw.C Q->sp c G Q E->g (Ax Q) (AZ N c) G):FnOk P w K mg base (CXe P w) (k+1) f fd ps (B2 K sp):=by
 obtain⟨I,y,kV,x,pm,J,cdv,ct,l,rfl,j,e⟩:=F.ex
 refine EG j e S ((by rintro v H Q E ⟨c,G,t,r,q⟩;rw[t.length,o];exact len c G _ _ q)) λA outer s H v Q E i d=>?_
 obtain⟨c,G,t,r,q⟩:=d
 have D:=u (cdv:=cdv) (outer:=outer) (H:=H) (E:=E) i
 refine⟨_,(D.p H rfl).nox,AZ N c,G,EI t,r,.refl,?_⟩
 exact D.m _ _ (Ax (dn K H Q)) _ (λa b z σ H2 m L h=>z _ H2 m Tr.non h) (λa b z=>z) (λa b z=>z.elim) (λa b z=>z.elim) (ok c G _ _ EJ q)
theorem Zz{g:(Addr->Hw->Prop)->GS}(F:Fun K m qual st f fd)(o:ps.length=n)(S:Ay N ps (Aj st))(len:∀ c G Q E,sp c G Q E->c.length=n)
  (u:∀{f:Addr}{cdv:Value}{A:Around}{outer:List Env}{s:Shared}{H:Hp}{E:XK},Room k (A.deeper (envOfC qual (Aj st) s.heap.objs.size f cdv))->Ssm (cxW P w K mg base N qual (Aj st) f cdv A outer s H E) (λB=>B=H) (AC st) (g (dnX K H E)))
  (ok:∀ c G(Q:Kw)(E:Addr->Hw->Prop),Kw.C Q->Xc E->sp c G Q E->g E (Ax Q) (AZ N c) G):FnOk P w K mg base (CXe P w) (k+1) f fd ps (B2 K sp):=by
 obtain⟨I,y,kV,x,pm,J,cdv,ct,l,rfl,j,e⟩:=F.ex
 refine EG j e S ((by rintro v H Q E ⟨c,G,t,r,q⟩;rw[t.length,o];exact len c G _ _ q)) λA outer s H v Q E i d=>?_
 obtain⟨c,G,t,r,q⟩:=d
 have D:=u (cdv:=cdv) (outer:=outer) (H:=H) (E:=E) i
 refine⟨_,D.p H rfl,AZ N c,G,EI t,r,.refl,?_⟩
 exact D.m _ _ (Ax (dn K H Q)) _ (λa b z σ H2 m L h=>z _ H2 m Tr.non h) (λa b z=>z) (λa b z=>z.elim) (λa b z=>z.elim) (ok c G _ _ EJ MJ q)
theorem J0(Fx:FnM K C st m qual ps)(c:ps.length=n)(S:Ay N ps (Aj st))(b:sp.M)(len:∀ a G Q E,sp a G Q E->a.length=n)
  (e:∀{f:Addr}{cdv:Value}{A:Around}{outer:List Env}{s:Shared}{H:Hp}{E:XK},Room k (A.deeper (envOfC qual (Aj st) s.heap.objs.size f cdv))->Ssm (cxW P w K mg base N qual (Aj st) f cdv A outer s H E).nox (λB=>B=H) (AC st) g)
  (ok:∀ a G(Q:Kw)(E:Addr->Hw->Prop),Kw.C Q->sp a G Q E->g (Ax Q) (AZ N a) G):DfM P w K mg base C m (k+1) n sp:=by
 obtain⟨f,fd,h1,F,d⟩:=Fx
 exact⟨⟨f,fd,ps,h1,d,c,NQ F c S len e ok⟩,b⟩
theorem NR{g:(Addr->Hw->Prop)->GS}(Fx:FnM K C st m qual ps)(c:ps.length=n)(S:Ay N ps (Aj st))(b:sp.M)(len:∀ a G Q E,sp a G Q E->a.length=n)
  (e:∀{f:Addr}{cdv:Value}{A:Around}{outer:List Env}{s:Shared}{H:Hp}{E:XK},Room k (A.deeper (envOfC qual (Aj st) s.heap.objs.size f cdv))->Ssm (cxW P w K mg base N qual (Aj st) f cdv A outer s H E) (λB=>B=H) (AC st) (g (dnX K H E)))
  (ok:∀ a G(Q:Kw)(E:Addr->Hw->Prop),Kw.C Q->Xc E->sp a G Q E->g E (Ax Q) (AZ N a) G):DfM P w K mg base C m (k+1) n sp:=by
 obtain⟨f,fd,h1,F,d⟩:=Fx
 exact⟨⟨f,fd,ps,h1,d,c,Zz F c S len e ok⟩,b⟩
theorem ZA{x:Str}(Fx:FnI K mg x C st qual ps)(c:ps.length=n)(S:Ay N ps (Aj st))(b:sp.M)(len:∀ a G Q E,sp a G Q E->a.length=n)
  (e:∀{f:Addr}{cdv:Value}{A:Around}{outer:List Env}{s:Shared}{H:Hp}{E:XK},Room k (A.deeper (envOfC qual (Aj st) s.heap.objs.size f cdv))->Ssm (cxW P w K mg base N qual (Aj st) f cdv A outer s H E).nox (λB=>B=H) (AC st) g)
  (ok:∀ a G(Q:Kw)(E:Addr->Hw->Prop),Kw.C Q->sp a G Q E->g (Ax Q) (AZ N a) G):DfI P w K mg base x C (k+1) n sp:=by
 obtain⟨f,fd,h,h1,F,d⟩:=Fx
 exact⟨⟨f,fd,ps,h,h1,d,c,NQ F c S len e ok⟩,b⟩
end
def CH(o:W)(_:Hw):Prop:=∃ x,o=.str x
variable {o:W}{G:Hw}
theorem J1(t:Tr K H v o)(h:CH o G):tyV K "str" v H:=by
 obtain⟨x,rfl⟩:=h
 cases t
 rfl
def FD(o:W)(ws:List W)(G:Hw)(Q:Kw):Prop:=match o,ws with
 | .str x,[.str y]=>Q (.bl (Txt.startswith x y)) G
 | .str x,[.str y,.int i]=>Q (.bl (Txt.startswith3 x y i)) G
 | _,_=>False
theorem NS{a:List W}{Q:Kw}(q:FD o a G Q):∃ x y,o=.str x/\((a=[.str y]/\Q (.bl (Txt.startswith x y)) G)\/∃ i,a=[.str y,.int i]/\Q (.bl (Txt.startswith3 x y i)) G):=by
 unfold FD at q
 split at q
 ·exact⟨_,_,rfl,.inl ⟨rfl,q⟩⟩
 ·exact⟨_,_,rfl,.inr ⟨_,rfl,q⟩⟩
 ·exact q.elim
def ZC:V->List V->Hp->VK->Prop:=λv vs H Q=>∃ x y,v=.str x/\((vs=[.str y]/\Q (.bl (Txt.startswith x y)) H)\/∃ i,vs=[.str y,.int i]/\Q (.bl (Txt.startswith3 x y i)) H)
variable {X:Cx}
theorem ZD:MtR X "str.startswith" ZC:=by
 intro pins s σ H x k v f Q I d c h
 obtain⟨x,y,rfl,h⟩:=h
 obtain⟨t,rfl⟩:=d
 rcases h with⟨rfl,q⟩|⟨i,rfl,q⟩
 ·obtain⟨u,rfl,a⟩:=c.one
  obtain⟨e,rfl⟩:=a
  exact SC.startswith ⟨.bl _,H,I,rfl,q⟩
 ·obtain⟨u,g,rfl,a,b⟩:=Ge c
  obtain⟨e,rfl⟩:=a
  obtain⟨j,rfl⟩:=b
  exact SC.startswith3 ⟨.bl _,H,I,rfl,q⟩
theorem NT:Mth X "str" "startswith" "str.startswith" CH FD where
 pa:=PySem.F.plainAttrs_str
 slot:=PySem.F.slot_str_startswith
 ty:=PySem.F.type_str_startswith
 ex:=⟨_,ZD,λo c v e G H Q tv a r q=>by
  obtain⟨x,y,rfl,h⟩:=NS q
  cases tv
  rcases h with⟨rfl,q⟩|⟨i,rfl,q⟩
  ·cases a with
   | cons b a=>cases a;cases b;exact⟨x,y,rfl,.inl ⟨rfl,q _ H .refl (.bl _) r⟩⟩
  ·cases a with
   | cons b a =>
    cases a with
    | cons d a=>cases a;cases b;cases d;exact⟨x,y,rfl,.inr ⟨i,rfl,q _ H .refl (.bl _) r⟩⟩⟩
 pr:=λo v G H t r h=>J1 t h
 m:=λo c G Q f h q=>by
  obtain⟨x,y,rfl,z⟩:=NS q
  rcases z with⟨rfl,z⟩|⟨i,rfl,z⟩
  ·exact h _ _ z
  ·exact h _ _ z
def CI:List W->Option (List Str)
 | []=>some []
 | .str x::ws=>(CI ws).map (x::·)
 | _::_=>none
theorem J2{s:Shared}:∀{vs:List V}{b:List W}{ys:List Str}{us:List Value},TrL K H vs b->CI b=some ys->Vals vs us->StrsAre us ys
 | _,_,_,_,.nil,e,.nil=>by cases e;exact .nil
 | _,_,_,_,.cons (w:=w) r t,e,.cons c a=>by
  cases w with
  | str x =>
   unfold CI at e
   obtain⟨zs,d,rfl⟩:=YQ.mp e
   cases r
   obtain⟨tk,rfl⟩:=c
   exact .cons x tk (J2 (s:=s) t d a)
  | _=>cases e
theorem NU(f:α->Str):∀ l:List α,CI (l.map λa=>.str (f a))=some (l.map f)
 | []=>rfl
 | a::l=>by
  show(CI (l.map λa=>.str (f a))).map (f a::·)=_
  rw[NU f l];rfl
def CY(o:W)(ws:List W)(G:Hw)(Q:Kw):Prop:=∃ x w xs ys,o=.str x/\ws=[w]/\rdL G w=some xs/\CI xs=some ys/\(ys.map (·.length)).sum+ys.length*x.length<=16777216/\Q (.str (Txt.join x ys)) G
def ZE(K:PySem.W.Frag):V->List V->Hp->VK->Prop:=λv vs H Q=>∃ x a us ws ys,v=.str x/\vs=[.ref a]/\SqL K H a us/\TrL K H us ws/\CI ws=some ys/\(ys.map (·.length)).sum+ys.length*x.length<=16777216/\Q (.str (Txt.join x ys)) H
theorem ZF:MtR X "str.join" (ZE X.K):=by
 intro pins s σ H x l v i Q I g c h
 obtain⟨x,a,d,j,ys,rfl,rfl,sq,t,e,hw,q⟩:=h
 obtain⟨tk,rfl⟩:=g
 obtain⟨u,rfl,b⟩:=c.one
 cases b
 obtain⟨f,r,pl,_⟩:=I.list sq
 refine join_list pl.isList ?_ hw λt' k=>⟨.str _,H,I.tok k,⟨t',rfl⟩,q⟩
 have:=J2 (s:=s) t e r
 simpa using this
theorem NV:Mth X "str" "join" "str.join" CH CY where
 pa:=PySem.F.plainAttrs_str
 slot:=PySem.F.slot_str_join
 ty:=PySem.F.type_str_join
 ex:=⟨_,ZF,λo i v l G H Q tv b r q=>by
  obtain⟨x,w,xs,ys,rfl,rfl,g,c,hw,q⟩:=q
  cases tv
  cases b with
  | cons k b =>
   cases b
   obtain⟨a,d,rfl,sq,tl⟩:=JQ r k g
   exact⟨x,a,d,xs,ys,rfl,rfl,sq,tl,c,hw,q _ H .refl (.str _) r⟩⟩
 pr:=λo v G H t r h=>J1 t h
 m:=(by rintro o i G Q n h ⟨x,w,xs,ys,h1,h2,j,e,f,q⟩;exact⟨x,w,xs,ys,h1,h2,j,e,f,h _ _ q⟩)
end L3
namespace HT
open PySem PySem.Spec PyProof.Rows
section
variable {prog:Program} {w:World} {A:Around} {E:Value->Shared->Prop} {s:Shared}
theorem getItem_tuple_whole{t c:Addr}{items:Array Value}{g j:Value}{lo hi:Option Int}{Q:Value->Shared->Prop}(a:IsTup s.heap t items)(i:s.heap.IsSliceOf c g j .none)(pl:IsPart g lo)(k:IsPart j hi)
  (hw:sIx items.size 0 lo=0/\sIx items.size items.size hi=items.size) (h:Q (.ref t) s):wpAny (model prog w) A (getItem (.ref t) (.ref c)) Q E s:=by
 obtain⟨os,d,e,l⟩:=id i
 have f:s.TypeIs (.ref c) "slice":=⟨os,d,e⟩
 unfold getItem
 try with_reducible refine wpAny_holding ?_
 first | refine Qj (Qk ?_)| skip
 refine Qj (wpAny_sequenceKey a.typeIs (by decide) ?_)
 refine Qj (wpAny_callSpecial?_slot (name:=Str.ofString "__getitem__") a.typeIs PyProof.Rows.slot_tuple_getitem
  (wpAny_call_entry PyProof.Rows.slot_tuple_getitem a.typeIs entry_tuple_getitem ?_ (args_tuple_getitem _ _)))
 show wpAny _ _ (Builtin.Tuple.tupleItemsOf (.ref t) >>=_) _ _ s
 refine Qj (tupleItemsOf_ a ?_)
 refine Qj (wpAny_typeOf f ?_)
 rw[if_pos (by decide)]
 refine Qj (Mm i pl k ?_)
 have b:(((sIx items.size 0 lo:Nat):Int)==0&&(1:Int)==1&&(sIx items.size items.size hi - sIx items.size 0 lo)==items.size)=true:=by
  rw[hw.1,hw.2]
  simp
 show wpAny _ _ (if(((sIx items.size 0 lo:Nat):Int)==0&&(1:Int)==1&&(sIx items.size items.size hi - sIx items.size 0 lo)==items.size)=true then _ else _) _ _ s
 rw[if_pos b]
 have m:=a.typeIs
 unfold Builtin.Tuple.tupleIsExact
 repeat (any_goals (first | assumption | wp_step))
 exact⟨_,rfl,Qk h⟩
end
end HT
namespace L3
open PySem PySem.Spec PyProof.Rows L2
variable {K:PySem.W.Frag} {H H' H2:Hp}
def NW(K:PySem.W.Frag):V->Option Int->Option Int->Hp->VK->Prop:=λx lo hi H Q=>∃ a xs,x=.ref a/\SqT K H a xs/\(HT.sIx xs.length 0 lo=0/\HT.sIx xs.length xs.length hi=xs.length)/\Q (.ref a) H
variable {X:Cx}
theorem ZG:SlR X (NW X.K):=by
 intro pins s σ H x v l m lo hi k Q I i g pl f h
 obtain⟨a,xs,rfl,e,hw,q⟩:=h
 cases i
 obtain⟨c,r,d,j⟩:=I.tuple e
 have b:c.toArray.size=xs.length:=by rw[Yn];exact r.length.symm
 refine⟨"tuple",_,PyProof.Rows.slot_tuple_getitem.lookup,d.typeIs,?_⟩
 exact HT.getItem_tuple_whole d g pl f (by rw[b];exact hw) ⟨.ref a,H,I,rfl,q⟩
def NX:V->Option Int->Option Int->Hp->VK->Prop:=λx lo hi H Q=>∃ z,x=.str z/\z.length<=sizeLine/\Q (.str (Txt.slice z lo hi)) H
theorem ZH:SlR X NX:=by
 intro pins s σ H x v p r lo hi o Q I n m pl f h
 obtain⟨z,rfl,e,q⟩:=h
 obtain⟨t,rfl⟩:=n
 obtain⟨os,b,c,d⟩:=id m
 refine⟨"str",_,F.slot_str_getitem.lookup,typeIs_str _ _ _,?_⟩
 have a:∀ t' k,EP X pins σ Q (.str (Txt.slice z lo hi) t') {s with toks:=k}:=λt' k=>⟨.str _,H,I.tok k,⟨t',rfl⟩,q⟩
 cases pl with
 | none =>
  cases f with
  | none=>exact wpAny_getItem_str_slice (l:=none) (u:=none) (st:=none) ⟨os,b,c,d⟩ rfl (post_val_or_str ⟨Yt (Txt.slice_le z _ _) e,a⟩)
  | int j u=>exact wpAny_getItem_str_slice (l:=none) (u:=some (j,u)) (st:=none) ⟨os,b,c,d⟩ rfl (post_val_or_str ⟨Yt (Txt.slice_le z _ _) e,a⟩)
 | int i u =>
  cases f with
  | none=>exact wpAny_getItem_str_slice (l:=some (i,u)) (u:=none) (st:=none) ⟨os,b,c,d⟩ rfl (post_val_or_str ⟨Yt (Txt.slice_le z _ _) e,a⟩)
  | int j g=>exact wpAny_getItem_str_slice (l:=some (i,u)) (u:=some (j,g)) (st:=none) ⟨os,b,c,d⟩ rfl (post_val_or_str ⟨Yt (Txt.slice_le z _ _) e,a⟩)
def slA(w:W)(lo hi:Option Int)(G:Hw)(Q:Kw):Prop:=match w with
 | .tup xs=>Q (.tup (Bi xs lo hi)) G
 | .str z=>z.length<=sizeLine/\Q (.str (Txt.slice z lo hi)) G
 | w=>slW w lo hi G Q
variable {w:W}{lo hi:Option Int}{G:Hw}
theorem NY{Q d:Kw}(h:∀ w c,Q w c->d w c)(q:slA w lo hi G Q):slA w lo hi G d:=by
 cases w with
 | tup xs=>exact h _ _ q
 | str z=>exact⟨q.1,h _ _ q.2⟩
 | non=>exact Qd q
 | bl b=>exact Qd q
 | int i=>exact Qd q
 | rol xs=>exact GB (w:=.rol xs) (lo:=lo) (hi:=hi) (G:=G) h q
 | ref a=>exact GB (w:=.ref a) (lo:=lo) (hi:=hi) (G:=G) h q
theorem ZI{v:V}{Q:VK}(t:Tr K H v w)(r:RelH K H G)(q:slA w lo hi G (dn K H Q)):((Jh K v lo hi H Q\/Jo K v lo hi H Q)\/NW K v lo hi H Q)\/NX v lo hi H Q:=by
 cases t with
 | tup h l =>
  rename_i a d c
  by_cases hw:HT.sIx c.length 0 lo=0/\HT.sIx c.length c.length hi=c.length
  ·refine .inl (.inr ⟨a,d,rfl,h,by rw[l.length];exact hw,?_⟩)
   refine q _ H .refl ?_ r
   have e:Bi c lo hi=c:=by unfold Bi;rw[hw.1,hw.2];simp
   rw[e]
   exact .tup h l
  ·exact .inl (.inl (GC (.tup h l) r ⟨hw,q⟩))
 | str z=>exact .inr ⟨z,rfl,q.1,q.2 _ H .refl (.str _) r⟩
 | non=>exact Qd q
 | bl b=>exact Qd q
 | int i=>exact Qd q
 | rol h l=>exact .inl (.inl (GC (.rol h l) r q))
 | ref a=>exact .inl (.inl (GC (.ref a) r q))
section
variable {X:Cx} {a b e:Expr} {ga gb:GE} {pos:Pos}
def AA(ga:GE)(gl gh:GO):GE:=λω G Q=>ga ω G λw G1=>gl ω G1 λlo G2=>gh ω G2 λhi G3=>slA w lo hi G3 Q
theorem NZ{lo hi:Option Expr}{o gh:GO}{p2:Pos}(a:Em X e ga)(hl:Om X lo o)(d:Om X hi gh):Em X (.Subscript e (.Slice lo hi none p2) pos) (AA ga o gh):=
 ⟨AY (Mn (SlR.or (SlR.or (SlR.or Mp Ms) ZG) ZH) a.p hl.p d.p) λσ H Q⟨ω,G,i,r,q⟩=>⟨ω,G,i,r,a.m _ _ _ _ (λw n z v H1 c t r1=>⟨ω,n,i.mono c,r1,hl.m _ _ _ _ (λl j g H2 b y=>
   ⟨ω,j,(i.mono c).mono b,y,d.m _ _ _ _ (λh x f B k s=>ZI ((t.mono b).mono k) s (NY (λw D z=>BH ((c.trans b).trans k) z) f)) g⟩) z⟩) q⟩,
  λω G Q A h q=>a.m _ _ _ _ (λw n z=>hl.m _ _ _ _ (λl j g=>d.m _ _ _ _ (λu x f=>NY h f) g) z) q⟩
end
theorem J3(k:Str):∀{vs:List Value}{ys:List Str},StrsAre vs ys->∀(j:Nat)(h1:j < vs.length)(y:Str),ys[j]?=some y->isStrOf k vs[j]=(y==k)
 | _,_,.cons n t _,0,_,y,e=>by cases e;rfl
 | _,_,.cons n t r,j+1,h1,y,e=>J3 k r j (Nat.lt_of_succ_lt_succ h1) y (by simpa using e)
theorem StrsAre.len:∀{vs:List Value}{ys:List Str},StrsAre vs ys->vs.length=ys.length
 | _,_,.nil=>rfl
 | _,_,.cons _ _ r=>Qf (·+1) (StrsAre.len r)
section
variable {prog:Program} {w:World} {A:Around} {E:Value->Shared->Prop} {s:Shared}
theorem ZJ{l:Addr}{vs:List Value}{ys:List Str}{k:Str}{t:Tok}{j:Nat}{Q:Value->Shared->Prop}(hl:s.heap.IsList l vs.toArray)(hi:StrsAre vs ys)(v:ys.length<=sizeLine)
  (g:ys[j]?=some k) (f:∀ m,m < j->ys[m]?≠some k) (h:Q (.int (j:Nat) s.toks) {s with toks:=s.toks+1}):wpAny (model prog w) A (call (.builtin "list.index") [.ref l,.str k t]) Q E s:=by
 obtain⟨⟨cls,p,data,o⟩,i,hc,n,hd⟩:=id hl
 simp only at hc hd
 subst hc hd
 have b:=StrsAre.len hi
 have d:j < ys.length:=(YV.mp g).1
 have x:(sizeLine:Nat) < 2 ^ 63 - 1:=by decide
 refine call_meets PySem.F.slot_list_index ⟨_,i,rfl⟩ PySem.F.entry_list_index (PySem.F.args_list_index_2 _ _)
  (PySem.SeqAt.list_indexAt l vs.toArray n p o (.str k t) (isStrOf k) j (by simpa[b]using d) (by lia) ?_ ?_) ⟨i,λy r=>(eq_isStrOf k t hi y (by simpa using r)).at _ _,h⟩
 ·show isStrOf k vs[j]=true
  rw[J3 k hi _ (by lia) k g]
  simp
 ·intro m u a
  have c:m < vs.length:=by simpa using u
  show isStrOf k vs[m]=false
  have e:ys[m]?=some ys[m]:=by simp[show m < ys.length by lia]
  rw[J3 k hi m c _ e]
  have:=f m a
  rw[e]at this
  simpa using λq=>this (by rw[q])
end
def J4(o:W)(ws:List W)(G:Hw)(Q:Kw):Prop:=∃ xs ys k j,rdL G o=some xs/\CI xs=some ys/\ws=[.str k]/\ys[j]?=some k/\(∀ m,m < j->ys[m]?≠some k)/\Q (.int (j:Nat)) G
def ZK(K:PySem.W.Frag):V->List V->Hp->VK->Prop:=λv vs H Q=>∃ a us ws ys k j,v=.ref a/\SqL K H a us/\TrL K H us ws/\CI ws=some ys/\vs=[.str k]/\ys[j]?=some k/\(∀ m,m < j->ys[m]?≠some k)/\Q (.int (j:Nat)) H
theorem N0:∀{a:List W}{ys:List Str},CI a=some ys->ys.length=a.length
 | [],_,e=>by cases e;rfl
 | w::a,ys,e=>by
  cases w with
  | str x =>
   unfold CI at e
   obtain⟨zs,b,rfl⟩:=YQ.mp e
   exact Qf (·+1) (N0 b)
  | _=>cases e
theorem ZL:MtR X "list.index" (ZK X.K):=by
 intro pins s σ H x w v o Q I n g h
 obtain⟨a,i,p,ys,k,j,rfl,sq,t,e,rfl,c,b,q⟩:=h
 cases n
 obtain⟨u,rfl,f⟩:=g.one
 obtain⟨tk,rfl⟩:=f
 obtain⟨m,r,pl,d⟩:=I.list sq
 have l:=J2 (s:=s) t e r
 refine ZJ pl.isList l (by rw[N0 e,<- t.length];exact d) c b ⟨.int _,H,I.tok _,⟨_,rfl⟩,q⟩
theorem ZM:Mth X "list" "index" "list.index" Bx J4 where
 pa:=PySem.F.plainAttrs_list
 slot:=PySem.F.slot_list_index
 ty:=PySem.F.type_list_index
 ex:=⟨_,ZL,λo l v u G H Q tv b r q=>by
  obtain⟨xs,ys,k,j,i,c,rfl,n,g,q⟩:=q
  obtain⟨a,d,rfl,sq,tl⟩:=JQ r tv i
  cases b with
  | cons s b=>cases b;cases s;exact⟨a,d,xs,ys,k,j,rfl,sq,tl,c,rfl,n,g,q _ H .refl (.int _) r⟩⟩
 pr:=λo v G H t r h=>JK t r h
 m:=(by rintro o l G Q w h ⟨xs,ys,k,j,h1,h2,p,e,f,q⟩;exact⟨xs,ys,k,j,h1,h2,p,e,f,h _ _ q⟩)
def AN:RW2:=λx y G Q=>match x,y with
 | .int i,.int j=>CMul i j/\Q (.int (i*j)) G
 | .str x,.int n=>MulOk x n/\Q (.str (Txt.mul x n)) G
 | .ref a,.int k=>(match G a with
  | some (.lst xs)=>-(2 ^ 63)<=k/\k < 2 ^ 63/\xs.length*k.toNat<=sizeLine/\∀ p,G p=none->Q (.ref p) (put G p (.lst (List.replicate k.toNat xs).flatten))
  | _=>False)
 | _,_=>False
theorem N1:RW2.M AN:=λx y G Q c h q=>by
 cases x <;> cases y <;> first | exact q | exact⟨q.1,h _ _ q.2⟩| skip
 rename_i a k
 unfold AN at q ⊢
 dsimp only at q ⊢
 cases e:G a with
 | none=>rw[e]at q;exact q
 | some o =>
  rw[e]at q
  cases o <;> first | exact q | exact⟨q.1,q.2.1,q.2.2.1,λp b=>h _ _ (q.2.2.2 p b)⟩
def N2:R2:=λx y H Q=>∃ z n,x=.str z/\y=.int n/\MulOk z n/\Q (.str (Txt.mul z n)) H
theorem ZN:OpR X (binaryOp .Mult) N2:=by
 intro pins s σ H x y v u Q I b a h
 obtain⟨z,n,rfl,rfl,ok,q⟩:=h
 obtain⟨t,rfl⟩:=b
 obtain⟨c,rfl⟩:=a
 exact SB.mul ok λt' k=>⟨.str _,H,I.tok k,⟨t',rfl⟩,q⟩
theorem TrL.rep{vs:List V}{a:List W}(t:TrL K H vs a):∀ k:Nat,TrL K H (List.replicate k vs).flatten (List.replicate k a).flatten
 | 0=>.nil
 | k+1=>by
  rw[List.replicate_succ,List.replicate_succ,List.flatten_cons,List.flatten_cons]
  exact t.append (t.rep k)
theorem ZO(x y:W)(v u:V)(G:Hw)(H:Hp)(Q:VK)(h:Tr K H v x)(ty:Tr K H u y)(r:RelH K H G)(q:AN x y G (dn K H Q)):(rI CMul λi j=>.int (i*j)) v u H Q\/N2 v u H Q\/Mw v u H Q:=by
 cases h with
 | int i=>cases ty <;> first | exact q.elim | exact .inl ⟨_,_,rfl,rfl,q.1,q.2 _ H .refl (.int _) r⟩
 | str z=>cases ty <;> first | exact q.elim | exact .inr (.inl ⟨_,_,rfl,rfl,q.1,q.2 _ H .refl (.str _) r⟩)
 | ref a =>
  cases ty <;> try exact q.elim
  unfold AN at q
  dsimp only at q
  cases b:G a with
  | none=>rw[b]at q;exact q.elim
  | some g =>
   rw[b]at q
   cases g <;> try exact q.elim
   obtain⟨e,f,d⟩:=r a _ b
   exact .inr (.inr ⟨a,_,e,rfl,rfl,f,q.1,q.2.1,by rw[d.length];exact q.2.2.1,λp c=>q.2.2.2 p (r.no c) _ _ (Mono.new c _) (.ref p) (r.new c (d.rep _))⟩)
 | _=>exact q.elim
variable {ga:GE}{pos:Pos}
theorem ZP{a b:Expr}{gb:GE}(d:Em X a ga)(c:Em X b gb):Em X (.BinOp a .Mult b pos) (Ac AN ga gb):=⟨Du (OpR.or LZ (OpR.or ZN Vu)) N1 d.m c.m ZO d.p c.p,Cm N1 d.m c.m⟩
def ZQ(K:PySem.W.Frag)(tl:TE):TI:=λσ H R=>tl σ H λx H1=>(∃ a,x=.ref a/\(∃ xs,SqL K H1 a xs)/\R (Itl K a) H1)\/(∃ a,x=.ref a/\(∃ xs,SqT K H1 a xs)/\R (Itt K a) H1)
variable {tg l:Expr}
theorem ZR{tl:TE}(hl:PE X l tl):PI X tg l (ZQ X.K tl):=by
 intro pins s σ H R I h
 refine thn (hl pins s σ H _ I h) λv c g=>?_
 obtain⟨x,H1,d,r1,q1⟩:=g
 rcases q1 with⟨a,e,⟨xs,i⟩,q⟩|⟨a,e,⟨xs,i⟩,q⟩
 ·subst e
  cases r1
  obtain⟨f,m,p,k⟩:=d.list i
  refine wpAny_pyIter_list p.isList ?_
  refine⟨c.heap.objs.size,[c.heap.objs.size],_,_,H1,rfl,d.kept (t':=c.toks) λb o e=>Ql _ e,LV a _,⟨_,Qn _ rfl,rfl,rfl⟩,λb j=>?_,q⟩
  have e:b=c.heap.objs.size:=by simpa using j
  subst e
  walk_at "pf"
 ·subst e
  cases r1
  obtain⟨f,m,p,k⟩:=d.tuple i
  refine wpAny_pyIter_tuple (show c.heap.IsTuple a f.toArray from p) ?_
  refine⟨c.heap.objs.size,[c.heap.objs.size],_,_,H1,rfl,d.kept (t':=c.toks) λb o e=>Ql _ e,LX a _,⟨_,Qn _ rfl,rfl,rfl⟩,λb j=>?_,q⟩
  have e:b=c.heap.objs.size:=by simpa using j
  subst e
  walk_at "pf"
def DG(ga:GE):GI:=λω G R=>ga ω G λw G1=>match w with
 | .tup ws=>R ws yes G1
 | .rol ws=>R ws yes G1
 | .ref a=>match G1 a with | some (.lst ws)=>R ws (holds a ws) G1 | _=>False
 | _=>False
theorem ZS(m:ga.M):GI.M (DG ga):=λω G R d h q=>m _ _ _ _ (λw b z=>by
 cases w with
 | tup c=>exact h _ _ _ z
 | rol c=>exact h _ _ _ z
 | ref a =>
  dsimp only at z ⊢
  cases e:b a with
  | none=>rw[e]at z;exact z
  | some o =>
   rw[e]at z
   cases o <;> first | exact h _ _ _ z | exact z
 | _=>exact z) q
theorem ZT(hl:Em X l ga):Im X tg l (DG ga):=by
 refine⟨⟨_,ZR hl.p,λσ H ω G R n j r q k=>⟨ω,G,j,r,hl.m _ _ _ _ (λw i z v H1 m t r1=>?_) q⟩⟩,ZS hl.m⟩
 cases t with
 | tup h l=>exact .inr ⟨_,rfl,⟨_,h⟩,k _ _ _ H1 _ z m r1 trivial (MO h l)⟩
 | rol h l=>exact .inl ⟨_,rfl,⟨_,h.sq⟩,k _ _ _ H1 _ z m r1 trivial (Gq λH2 d b _ _=>⟨_,(b.rol _ _ h).sq,l.mono b⟩)⟩
 | ref a =>
  dsimp only at z
  cases e:i a with
  | none=>rw[e]at z;exact z.elim
  | some o =>
   rw[e]at z
   cases o with
   | lst s =>
    obtain⟨c,g,u⟩:=r1 a _ e
    exact .inl ⟨a,rfl,⟨c,SqL.of g⟩,k _ _ _ H1 _ z m r1 e (Gq λH2 d b f g2=>let⟨c,e2,t2⟩:=f a _ g2;⟨c,SqL.of e2,t2⟩)⟩
   | _=>exact z.elim
 | _=>exact z.elim
variable {x:Str}
theorem ZU{P:Hp->Prop}{elt iter:Expr}{ifs:List Expr}{scope:Scope}{pos' a:Pos}{i:Nat}{Nc:List Str}{n:Nat}{js:List Nat}{cl:List (Str×Addr)}{gi:GI}{u:GG}{gt:GT}{ge:GE}(F:X.N.Nodup)(e:X.N[i]?=some x)(I:EM X.env.scope x=true)
  (f:swapsWith (.ListComp elt [⟨tg,iter,ifs,0⟩] scope pos) (some (.Name x pos')) a.line X.env=pure true) (hc:X.calm=true) (B:Blk X Nc scope cl (Bk n js)) (J:∀ x,foldedSetIterable iter X.env x=pure x) (hi:Im X tg iter gi)
  (b:TgC X Nc scope cl tg u) (y:∀ C fp s H,Fm (cxB X Nc scope cl C fp s H) ifs gt) (E:∀ C fp s H,Em (cxB X Nc scope cl C fp s H) elt ge):
  Sm X P (.Assign [.Name x pos'] (.ListComp elt [⟨tg,iter,ifs,0⟩] scope pos) a) (Ai i (BY gi n js u gt ge)):=by
 have j:gt.M:=(y 0 [] X.s₀ X.H₀).m
 have o:ge.M:=(E 0 [] X.s₀ X.H₀).m
 refine⟨λL Q=>?_,MK (JX hi.m b.mono j o)⟩
 obtain⟨O,c,l⟩:=hi.p
 obtain⟨g,h,k⟩:=b.ex
 refine Ck (VF (tt:=upT X.K gt) (te:=up X.K ge) F e (EN I) f hc c B h (λC fp s H=>(y C fp s H).p) (λC fp s H=>(E C fp s H).p) J) λD σ H d=>?_
 obtain⟨ω,G,A,r,mb,q⟩:=d
 refine NE l k b.mono j o σ H _ ⟨ω,G,A,r,JX hi.m b.mono j o _ _ _ _ (λw R z v H1 m t r1=>?_) q⟩
 exact z _ H1 (mb.trans m) ((A.mono m).set i t) r1
section
variable {X:Cx} {CX:CXT} {k:Nat} {f:Addr} {fd:FuncData} {ps:List Str} {sp:Sp} {Eσ:St->XK} {x:Str} {p pos:Pos} {e:Expr} {es:List Expr} {t:TA}
variable {i:Nat}
theorem ZV{E:Value->Shared->Prop}{pins:List (Addr×Obj)}{s:Shared}{σ:St}{v:V}{Q:Value->Shared->Prop}(I:Inv X pins σ H s)(g:X.N[i]?=some x)(h:Vis X.env.scope x)(e:σ[i]?=some (some v))(hd:(x==("__debug__":Str))=false)(f:(x==("__classdict__":Str))=false)
  (d:∀ u,RelV v u->Q u s):wpAny (model X.prog X.w) X.A (eval (.Name x pos) X.env) Q E s:=by
 obtain⟨m,j,hl⟩:=I.loc
 obtain⟨u,r,l⟩:=hl i x v g e h
 rcases l with⟨b,k⟩|⟨b,c,hc,a⟩
 ·exact wpAny_Name (wpAny_loadName_local I.ok.kind b j k (d u r)) hd
 ·rcases b with b | b
  ·exact wpAny_Name (wpAny_loadName_cell I.ok.kind b hc a (d u r)) hd
  ·exact wpAny_Name (wpAny_loadName_free I.ok.kind b hc a (d u r) f) hd
theorem ZW(F:FnOk X.prog X.w X.K X.mg X.base CX k f fd ps sp)(y:Room k X.A)(z:X.N[i]?=some x)(o:Vis X.env.scope x)(G:PySem.W.keepIn X.K (.ref f)=true)(J:Binds X.K fd ps [])(B:D4 CX X Eσ)
  (v:PA X (e::es) t) (g:(x==("__debug__":Str))=false) (l:(x==("__classdict__":Str))=false) (L:starEach (e::es) X.env=(false,eval e X.env)::starEach es X.env) (j:(backTo pos (starEach es X.env)).any (·.1)=false):
  PE X (.Call (.Name x p) (e::es) [] pos) (λσ H Q=>σ[i]?=some (some (.ref f))/\MC sp [] Eσ t σ H Q):=by
 intro pins s σ H Q I ⟨hi,h⟩
 refine wpAny_Call_Name_kw (ZV I z o hi g l λu D=>?_)
 cases D
 refine PySem.W.callWith_K (h₀:=X.base) I.ok.mod.kin G (thn (v pos pins s σ H _ I h) λc d⟨m,H1,a,r,q⟩=>⟨a.kIn,?_⟩) L j
 have n:Vals (m++[]) (c++[]):=r.append .nil
 have hl:(c++[]).length=ps.length:=by rw[<- n.length];exact F.len _ _ _ _ q
 refine wpAny_call (codeAny_mono (F.run X.A X.stack d H1 ⟨c,[]⟩ (c++[]) (m++[]) Q (Eσ σ) y a.env0 (J d c a.kIn hl) n q) λr s' b=>?_)
 cases r with
 | error e=>exact B pins σ H1 d e s' a b
 | ok E =>
  cases E with
  | ret u=>exact a.after b
  | next=>exact Qd b
  | brk=>exact Qd b
  | cont=>exact Qd b
end
def fAt(mg:Str->Option Value)(x:Str):Addr:=match mg x with | some (.ref f)=>f | _=>0
theorem N3{mg:Str->Option Value}{f:Addr}(h:mg x=some (.ref f)):fAt mg x=f:=by unfold fAt;rw[h]
section
variable {X:Cx} {e:Expr} {es:List Expr} {pos p:Pos} {ga gb:GE} {gs:GA} {ex:Xw}
def CZ(i:Nat)(f:Addr)(sp:Spw)(ex:Xw)(gs:GA):GE:=λω G Q=>ω[i]?=some (some (.ref f))/\gs ω G λws G1=>sp ws G1 Q (ex ω)
variable {i:Nat}{sp:Spw}
theorem ZX{f:Addr}(m:sp.M)(a:gs.M):GE.M (CZ i f sp ex gs):=λω G Q b h q=>⟨q.1,a _ _ _ _ (λd c q1=>m _ _ _ _ _ _ h (λ_ _ z=>z) q1) q.2⟩
variable {y:Str}{k n:Nat}
theorem ZY(D:Df X.prog X.w X.K X.mg X.base y k n sp)(B:Room k X.A)(J:X.N[i]?=some x)(m:Vis X.env.scope x)(o:CC X ex)(u:gs.M)(t:PAw X (e::es) gs)
  (b:(x==("__debug__":Str))=false) (g:(x==("__classdict__":Str))=false) (S:starEach (e::es) X.env=(false,eval e X.env)::starEach es X.env) (d:(backTo pos (starEach es X.env)).any (·.1)=false):
  PEw X (.Call (.Name x p) (e::es) [] pos) (CZ i (fAt X.mg y) sp ex gs):=by
 obtain⟨f,fd,ps,s,P,R,_,F⟩:=D.ex
 rw[N3 s]
 refine AY (ZW F B J m P R o t b g S d) λσ H Q c=>?_
 obtain⟨ω,G,h,r,q0,q⟩:=c
 obtain⟨v,ev,tv⟩:=h.get i _ q0
 cases tv
 refine⟨ev,ω,G,h,r,u _ _ _ _ (λL O q1 T H1 l a r1=>?_) q⟩
 refine⟨L,O,by rw[Yx];exact a,r1,D.mono _ _ _ _ _ _ (λw j z=>BH l z) (λC j z H2 E I=>?_) q1⟩
 exact⟨C,ω,j,rfl,(h.mono l).mono E,I,z⟩
theorem N4(D:Df X.prog X.w X.K X.mg X.base y k n sp)(g:Room k X.A)(hi:place X.N x=some i)(f:seen X.env.scope x=true)(h:CC X ex)(b:(x==("__debug__":Str))=false)(d:(x==("__classdict__":Str))=false)(j:starEach (e::es) X.env=(false,eval e X.env)::starEach es X.env)(c:(backTo pos (starEach es X.env)).any (·.1)=false)
  (a:Am X (e::es) gs):Em X (.Call (.Name x p) (e::es) [] pos) (CZ i (fAt X.mg y) sp ex gs):=⟨ZY D g (MV hi) (MW f) h a.m a.p b d j c,ZX D.mono a.m⟩
theorem N5(D:Df X.prog X.w X.K X.mg X.base x k n sp)(b:Gl X x)(hd:(x==("__debug__":Str))=false):Em X (.Name x pos) (gC (.ref (fAt X.mg x))):=by
 obtain⟨f,fd,ps,a,d,c,_,F⟩:=D.ex
 rw[N3 a]
 exact⟨MG (v:=.ref f) b a rfl (λH=>.ref f) hd,EH⟩
end
end L3
namespace L3
open PySem PySem.Spec PyProof.Rows L2
theorem ZZ{t:SetTable}{n:Nat}(h1:t.place.size=n)(h2:t.dummies=#[])(a:n<=t.mask):t.fits n=true:=by
 unfold SetTable.fits SetTable.fill
 rw[h2,h1]
 simp
 exact a
section
variable {prog:Program} {w:World} {A:Around} {E:Value->Shared->Prop} {s:Shared}
end
section
variable {prog:Program} {w:World} {A:Around} {E:Value->Shared->Prop} {s:Shared}
end
section
variable {prog:Program} {w:World} {A:Around} {E:Value->Shared->Prop} {s:Shared}
structure Bare(led:Bool)(n:Nat)(t:SetTable):Prop where
 pl:t.place=#[]
 dm:t.dummies=#[]
 cv:Tb.cover (t.mask+1)=true
 rm:n<=t.mask
 ld:t.led=led
theorem Bare.fits{led:Bool}{n:Nat}{t:SetTable}(B:Bare led n t):t.fits 0=true:=ZZ (by rw[B.pl];rfl) B.dm (YT _)
end
section
variable {prog:Program} {w:World} {A:Around} {E:Value->Shared->Prop} {s:Shared}
variable {a:Addr}{ks:List Str}
theorem SS.ty(S:SS w s.heap a ks):s.TypeIs (.ref a) "set":=by
 obtain⟨o,es,d,t,b,c,_⟩:=S
 exact⟨o,b,c.1⟩
theorem SS.new(S:SS w s.heap a ks)(o:Obj):SS w (s.heap.push o) a ks:=S.kept λ_ e=>Ql _ e
theorem SS.lt(S:SS w s.heap a ks):a < s.heap.objs.size:=by
 obtain⟨o,es,c,t,b,_⟩:=S
 exact Qm b
theorem SS.same{h h':Heap}{b:Addr}(S:SS w h a ks)(d:a≠b)(c:Heap.SameBut b h h'):SS w h' a ks:=S.kept λo e=>by rw[c.2 a d];exact e
end
section
variable {prog:Program} {w:World} {A:Around} {E:Value->Shared->Prop} {s:Shared}
abbrev Itr(first:Value)(i:Nat)(a:Addr)(n ep:Nat):Obj:={cls:=.type "set_iterator",data:=.fields #[first,.int i 0,.ref a,.int n 0,.int ep 0]}
inductive Md(w:World)(a T:Addr)(es:Array (Int×Value))(ep:Nat)(t:SetTable)(l:List (Int×Value))(h:Heap):Value->Nat->Prop where
 | drawn {ps:List Nat} {oT:Obj} {c i:Nat}:h.get? T=some oT->oT.data=.seq (ps.map λp:Nat=>rawInt p).toArray c->ps.length=l.length->(∀(j p:Nat),ps[j]?=some p->∃ e,es[p]?=some e/\l[j]?=some e)->Md w a T es ep t l h (.ref T) i
 | text {k i:Nat}:bt w=true->l=(pickOrder (w.params.setOrder a ep) es).toList->Md w a T es ep t l h (.int k 0) i
 | few {k i:Nat}:bt w=false->t.led=true->es.size<=1->l=es.toList->(i=0->k=0)->(∀ j:Nat,i=1->t.place[0]?=some j->k=j+1)->Md w a T es ep t l h (.int k 0) i
theorem Md.at{a T:Addr}{es:Array (Int×Value)}{d:Nat}{t:SetTable}{l:List (Int×Value)}{h h':Heap}{v:Value}{i:Nat}(M:Md w a T es d t l h v i)(k:∀ o,h.get? T=some o->h'.get? T=some o):Md w a T es d t l h' v i:=by
 cases M with
 | drawn h1 h2 c b=>exact .drawn (k _ h1) h2 c b
 | text h1 h2=>exact .text h1 h2
 | few h1 h2 c b e f=>exact .few h1 h2 c b e f
end
section
variable {prog:Program} {w:World} {A:Around} {E:Value->Shared->Prop} {s:Shared}
end
section
variable {prog:Program} {w:World} {A:Around} {E:Value->Shared->Prop} {s:Shared}
end
theorem Z0{α:Type}{es:Array α}:∀{ys:List Nat},(∀ p∈ys,p < es.size)->(ys.filterMap (es[·]?)).length=ys.length/\∀(j p:Nat),ys[j]?=some p->∃ e,es[p]?=some e/\(ys.filterMap (es[·]?))[j]?=some e
 | [],_=>⟨rfl,λj p h=>by simp at h⟩
 | y::ys,h=>by
  have b:es[y]?=some (es[y]'(h y Ye)):=Array.getElem?_eq_getElem _
  obtain⟨h1,h2⟩:=Z0 (ys:=ys) λp c=>h p (Yd _ c)
  rw[List.filterMap_cons,b]
  refine⟨by simp[h1],λj p a=>?_⟩
  cases j with
  | zero =>
   simp only[Yb,Option.some.injEq]at a
   subst a
   exact⟨_,b,rfl⟩
  | succ j =>
   simp only[Yc]at a ⊢
   exact h2 j p a
section
variable {prog:Program} {w:World} {A:Around} {E:Value->Shared->Prop} {s:Shared}
end
section
variable {prog:Program} {w:World} {A:Around} {E:Value->Shared->Prop} {s:Shared}
end
end L3
namespace L3
open PySem PySem.Spec PyProof.Rows L2
variable {K:PySem.W.Frag} {H H' H2:Hp}
section
variable {X:Cx} {e eb:Expr} {p1 p2 p3 q1 q2 q3 qb:Pos} {ta tb:TE}
theorem N6:∀(xs:List Str),TrL K H (xs.map V.str) (xs.map W.str)
 | []=>.nil
 | x::xs=>.cons (.str x) (N6 xs)
end
end L3
namespace L3
open PySem PySem.Spec PyProof.Rows L2
section
variable {X:Cx} {e:Expr} {p1 p3 q1 q3:Pos} {ta:TE}
end
end L3
namespace L3
open PySem PySem.Spec PyProof.Rows L2
variable {K:PySem.W.Frag} {H H' H2:Hp}
section
variable {prog:Program} {w:World} {A:Around} {E:Value->Shared->Prop} {s:Shared}
variable {it l:Addr}{i:Nat}{xs:Array Value}{x:Value}{Q:Value->Shared->Prop}
theorem Z1(u:s.heap.IsTupleIter it l i)(v:s.heap.IsTuple l xs)(e:xs[i]?=some x)(d:∀ h',h'.IsTupleIter it l (i+1)->Heap.SameBut it s.heap h'->Q x {s with heap:=h'}):
  wpAny (model prog w) A (Builtin.SmallTypes.nextOf (.ref it)) Q E s:=by
 obtain⟨h,b,c,a⟩:=id u
 obtain⟨j,el,_,g,f⟩:=v
 unfold Builtin.SmallTypes.nextOf
 refine Qj (wpAny_callSpecial?_slot (name:=Str.ofString "__next__") u.typeIs PySem.F.slot_tuple_iterator_next (wpAny_call_entry PySem.F.slot_tuple_iterator_next u.typeIs PySem.F.entry_tuple_iterator_next ?_ (PySem.F.args_tuple_iterator_next_1 _)))
 refine Qj (m:=field (.ref it) 0) (wpAny_field b a (x:=.ref l) rfl ?_)
 show wpAny (model prog w) _ (if(Value.ref l==Value.none)=true then _ else _) _ E s
 rw[if_neg (show ¬ ((Value.ref l==Value.none)=true)from YS)];refine Qj (m:=field (.ref it) 1) (wpAny_field b a (x:=.int i 0) rfl ?_)
 refine Qj (m:=seqItems? (.ref l)) (wpAny_seqItems el f ?_)
 simp only[Int.toNat_natCast];rw[e]
 refine Qj (wpAny_setField b a (by simp) (Qk ⟨x,rfl,Qk (d _ ⟨_,Heap.get?_update_self _ b (Obj.isFreed_of_fields (Obj.data_mapFields a _)),(Obj.cls_mapFields ..).trans c,?_⟩ (Heap.SameBut.update ..))⟩))
 rw[Obj.data_mapFields a];simp[rawInt]
theorem Z2(f:A.handled=none)(u:s.heap.IsTupleIter it l i)(v:s.heap.IsTuple l xs)(g:xs[i]?=none)
  (d:∀ h' e,Heap.ExtBut it s.heap h'->(∃ o,h'.get? e=some o/\o.cls=.type "StopIteration")->E (.ref e) {s with heap:=h'}):wpAny (model prog w) A (Builtin.SmallTypes.nextOf (.ref it)) Q E s:=by
 obtain⟨n,b,k,c⟩:=id u
 obtain⟨p,el,_,j,h⟩:=v
 unfold Builtin.SmallTypes.nextOf
 refine Qj (wpAny_callSpecial?_slot (name:=Str.ofString "__next__") u.typeIs PySem.F.slot_tuple_iterator_next (wpAny_call_entry PySem.F.slot_tuple_iterator_next u.typeIs PySem.F.entry_tuple_iterator_next ?_ (PySem.F.args_tuple_iterator_next_1 _)))
 refine Qj (m:=field (.ref it) 0) (wpAny_field b c (x:=.ref l) rfl ?_)
 show wpAny (model prog w) _ (if(Value.ref l==Value.none)=true then _ else _) _ E s
 rw[if_neg (show ¬ ((Value.ref l==Value.none)=true)from YS)];refine Qj (m:=field (.ref it) 1) (wpAny_field b c (x:=.int i 0) rfl ?_)
 refine Qj (m:=seqItems? (.ref l)) (wpAny_seqItems el h ?_)
 simp only[Int.toNat_natCast];rw[g]
 refine Qj (wpAny_rule (Qj (wpAny_setField b c (by simp) ?_)));refine Qj (m:=newExc (.type "StopIteration") []) ?_
 simp only[newExc,newTuple]
 refine Qj (wpAny_newObj_type ?_ (by size_fits));refine Qj (m:=firstArgMember _ _) (wpAny_of_eq (a:=Value.none) (by first | rfl |(simp only[firstArgMember];rfl)) (wpAny_newObj_type ?_ (by size_fits)))
 simp only[raiseNew]
 refine Qj (wpAny_handled ?_);rw[show A.in1.handled=none from f]
 refine Qj (Qk (wpAny_throw ?_))
 exact d _ _ (((Heap.SameBut.update ..).extBut.push _).push _) ⟨_,Qn _ rfl,rfl⟩
variable {h h':Heap}{a:Addr}
theorem tat{t:Addr}(x:h.IsTupleIter a t i)(k:∀ o,h.get? a=some o->h'.get? a=some o):h'.IsTupleIter a t i:=by
 obtain⟨o,e,r⟩:=x
 exact⟨o,k o e,r⟩
def itN(t:Bool):String:=bif t then "tuple_iterator" else "list_iterator"
def ItX(t:Bool)(h:Heap)(a l:Addr)(i:Nat):Prop:=∃ o,h.get? a=some o/\o.cls=.type (itN t)/\o.data=.fields #[.ref l,.int i 0]
def SqH(t:Bool)(h:Heap)(l:Addr)(xs:Array Value):Prop:=match t with | true=>h.IsTuple l xs | false=>h.IsList l xs
variable {t:Bool}
theorem ItX.at(x:ItX t h a l i)(k:∀ o,h.get? a=some o->h'.get? a=some o):ItX t h' a l i:=by
 obtain⟨o,e,r⟩:=x
 exact⟨o,k o e,r⟩
variable {b:Addr}
theorem ItX.extBut(x:ItX t h a l i)(k:Heap.ExtBut b h h')(n:a≠b):ItX t h' a l i:=x.at λo e=>k a o n e
theorem SqH.at(x:SqH t h l xs)(k:∀ o,h.get? l=some o->h'.get? l=some o):SqH t h' l xs:=by
 cases t
 ·obtain⟨o,e,r⟩:=x
  exact⟨o,k o e,r⟩
 ·obtain⟨o,e,r⟩:=x
  exact⟨o,k o e,r⟩
theorem SqH.extBut(x:SqH t h l xs)(k:Heap.ExtBut b h h')(n:l≠b):SqH t h' l xs:=x.at λo e=>k l o n e
theorem SqH.lt(x:SqH t h l xs):l < h.objs.size:=by
 cases t
 ·obtain⟨o,e,r⟩:=x
  exact Qm e
 ·obtain⟨o,e,r⟩:=x
  exact Qm e
theorem J5(u:ItX t s.heap it l i)(v:SqH t s.heap l xs)(a:xs[i]?=some x)(b:∀ h',ItX t h' it l (i+1)->Heap.SameBut it s.heap h'->Q x {s with heap:=h'}):
  wpAny (model prog w) A (Builtin.SmallTypes.nextOf (.ref it)) Q E s:=by
 cases t
 ·exact wpAny_nextOf_list_item u v a b
 ·exact Z1 u v a b
theorem N7(b:A.handled=none)(u:ItX t s.heap it l i)(v:SqH t s.heap l xs)(c:xs[i]?=none)
  (a:∀ h' e,Heap.ExtBut it s.heap h'->(∃ o,h'.get? e=some o/\o.cls=.type "StopIteration")->E (.ref e) {s with heap:=h'}):wpAny (model prog w) A (Builtin.SmallTypes.nextOf (.ref it)) Q E s:=by
 cases t
 ·exact wpAny_nextOf_list_end b u v c a
 ·exact Z2 b u v c a
theorem N8(v:SqH t s.heap l xs)(a:Q (.ref s.heap.objs.size) {s with heap:=s.heap.push {cls:=.type (itN t),data:=.fields #[.ref l,.int 0 0]}}):wpAny (model prog w) A (pyIter (.ref l)) Q E s:=by
 cases t
 ·exact wpAny_pyIter_list v a
 ·exact wpAny_pyIter_tuple v a
variable {t1 t2:Bool}{z i1 i2:Addr}{k1 k2:Nat}{ys:Array Value}
theorem Z3{TI TO N R:Addr}{y a b:Value}(D:ZipApart z TI TO i1 i2 N R)(O:IsZip s.heap z TI TO .none)(X:IsPair s.heap TI (.ref i1) (.ref i2))(S:IsPair s.heap TO a b)
  (u1:ItX t1 s.heap i1 N k1) (u2:ItX t2 s.heap i2 R k2) (v1:SqH t1 s.heap N xs) (v2:SqH t2 s.heap R ys) (hx:xs[k1]?=some x) (hy:ys[k2]?=some y)
  (hQ:∀ h',IsZip h' z TI TO (rawInt s.heap.objs.size)->IsPair h' TO x y->ItX t1 h' i1 N (k1+1)->ItX t2 h' i2 R (k2+1)->IsPair h' s.heap.objs.size x y->(∀ c o,c≠z->c≠TO->c≠i1->c≠i2->s.heap.get? c=some o->h'.get? c=some o)->Q (.ref s.heap.objs.size) {s with heap:=h'}):
  wpAny (model prog w) A (Builtin.«zip.__next__» ⟨[.ref z],[]⟩) (λY s'=>∃ v,Y=.done (.ret v)/\Q v s') E s:=by
 refine Qj (m:=field (.ref z) 2) (wpAny_field O rfl (x:=.bool false) rfl ?_)
 refine Qj (m:=field (.ref z) 3) (wpAny_field O rfl (x:=.ref TI) rfl (Qj (m:=seqItems? (.ref TI)) (wpAny_seqItems X rfl ?_)))
 refine Qj (m:=Builtin.SmallTypes.ownedTupleIsFree (.ref z)) ?_
 unfold Builtin.SmallTypes.ownedTupleIsFree
 refine Qj (m:=field (.ref z) 0) (wpAny_field O rfl (x:=.none) rfl (Qk ?_));simp only[if_true]
 refine Qj (wpAny_rule (Qj (wpAny_field O rfl (x:=.ref TO) rfl (Qj (wpAny_setField_rec O (by simp) λH l f=>?_)))))
 replace l:IsZip H z TI TO .ellipsis:=l
 refine Qj ?_
 simp only[List.zipIdx_cons,List.zipIdx_nil,List.forIn_cons,List.forIn_nil]
 refine Qj (Qj (wpAny_onRaise ?_));refine Qj (m:=Builtin.SmallTypes.nextOf (.ref i1)) ?_
 refine J5 (u1.extBut f.extBut D.i1z) (v1.extBut f.extBut D.l1z) hx λG w1 g=>Qk ?_
 have hTO₂:IsPair G TO a b:=g.extBut _ _ D.TOi1 (f.extBut _ _ D.TOz S)
 refine Qj (wpAny_seqItems hTO₂ rfl (Qj (wpAny_updateSeq_pair hTO₂ λJ hTO₃ h=>?_)))
 replace hTO₃:IsPair J TO x b:=hTO₃
 refine Qj (wpAny_letGo (Qk ?_));refine Qj (Qj (wpAny_onRaise ?_));refine Qj (m:=Builtin.SmallTypes.nextOf (.ref i2)) ?_
 refine J5 (((u2.extBut f.extBut D.i2z).extBut g.extBut D.i12.symm).extBut h.extBut D.TOi2.symm) (((v2.extBut f.extBut D.l2z).extBut g.extBut D.l2i1).extBut h.extBut D.l2TO) hy λI w2 j=>Qk ?_
 have hTO₄:IsPair I TO x b:=j.extBut _ _ D.TOi2 hTO₃
 refine Qj (wpAny_seqItems hTO₄ rfl (Qj (wpAny_updateSeq_pair hTO₄ λd hTO₅ i=>?_)))
 replace hTO₅:IsPair d TO x y:=hTO₅
 refine Qj (wpAny_letGo (Qk (Qk ?_)));refine Qj (wpAny_seqItems hTO₅ rfl (Qj (wpAny_newTuple ?_ (by show(2:Nat)<=sizeLine;decide))))
 have P:d.objs.size=s.heap.objs.size:=by rw[i.1,j.1,h.1,g.1,f.1]
 have t:IsZip d z TI TO .ellipsis:=i.extBut _ _ D.TOz.symm (j.extBut _ _ D.i2z.symm (h.extBut _ _ D.TOz.symm (g.extBut _ _ D.i1z.symm l)))
 have T:ItX t1 d i1 N (k1+1):=((w1.extBut h.extBut D.TOi1.symm).extBut j.extBut D.i12).extBut i.extBut D.TOi1.symm
 have U:ItX t2 d i2 R (k2+1):=w2.extBut i.extBut D.TOi2.symm
 refine Qj (m:=Builtin.SmallTypes.ownedTupleHandOut (.ref z) (.ref d.objs.size)) ?_
 unfold Builtin.SmallTypes.ownedTupleHandOut
 have B:IsZip (d.push {cls:=.type "tuple",data:=.seq #[x,y]}) z TI TO .ellipsis:=Ql _ t
 refine Qj (wpAny_setField_rec B (by simp) λK n r=>?_)
 replace n:IsZip K z TI TO (rawInt d.objs.size):=n
 refine wpAny_setField_rec n (by simp) λp k q=>?_
 replace k:IsZip p z TI TO (rawInt d.objs.size):=k
 have L:d.objs.size≠z:=Nat.ne_of_gt (Qm t)
 have u:∀ c o,c≠z->d.get? c=some o->p.get? c=some o:=λc o F e=>q.extBut _ _ F (r.extBut _ _ F (Ql _ e))
 have hT₈:IsPair p d.objs.size x y:=q.extBut _ _ L (r.extBut _ _ L (Qn _ rfl))
 rw[P]at k hT₈
 refine Qk ⟨_,rfl,(?_:Q (.ref d.objs.size) _)⟩
 rw[P]
 exact hQ p k (u _ _ D.TOz hTO₅) (T.at λo e=>u _ o D.i1z e) (U.at λo e=>u _ o D.i2z e) hT₈ λc o F Z c3 c4 e=>u c o F (i.extBut _ _ Z (j.extBut _ _ c4 (h.extBut _ _ Z (g.extBut _ _ c3 (f.extBut _ _ F e)))))
theorem Z4{TI TO P S:Addr}{a b:Value}{Q:Fin->Shared->Prop}(X:A.handled=none)(D:ZipApart z TI TO i1 i2 P S)(H:IsZip s.heap z TI TO .none)(L:IsPair s.heap TI (.ref i1) (.ref i2))(I:IsPair s.heap TO a b)
  (Y:ItX t1 s.heap i1 P k1) (u2:ItX t2 s.heap i2 S k2) (T:SqH t1 s.heap P xs) (v2:SqH t2 s.heap S ys) (y:xs[k1]?=none\/ys[k2]?=none)
  (U:∀ h' e,(∀ c o,c≠z->c≠TO->c≠i1->c≠i2->s.heap.get? c=some o->h'.get? c=some o)->(∃ o,h'.get? e=some o/\o.cls=.type "StopIteration")->E (.ref e) {s with heap:=h'}):wpAny (model prog w) A (Builtin.«zip.__next__» ⟨[.ref z],[]⟩) Q E s:=by
 refine Qj (m:=field (.ref z) 2) (wpAny_field H rfl (x:=.bool false) rfl ?_)
 refine Qj (m:=field (.ref z) 3) (wpAny_field H rfl (x:=.ref TI) rfl (Qj (m:=seqItems? (.ref TI)) (wpAny_seqItems L rfl ?_)))
 refine Qj (m:=Builtin.SmallTypes.ownedTupleIsFree (.ref z)) ?_
 unfold Builtin.SmallTypes.ownedTupleIsFree
 refine Qj (m:=field (.ref z) 0) (wpAny_field H rfl (x:=.none) rfl (Qk ?_));simp only[if_true]
 refine Qj (wpAny_rule (Qj (wpAny_field H rfl (x:=.ref TO) rfl (Qj (wpAny_setField_rec H (by simp) λB h d=>?_)))))
 replace h:IsZip B z TI TO .ellipsis:=h
 refine Qj ?_
 simp only[List.zipIdx_cons,List.zipIdx_nil,List.forIn_cons,List.forIn_nil]
 refine Qj (Qj (wpAny_onRaise ?_));refine Qj (m:=Builtin.SmallTypes.nextOf (.ref i1)) ?_
 cases N:xs[k1]? with
 | none =>
  refine N7 X (Y.extBut d.extBut D.i1z) (T.extBut d.extBut D.l1z) N λj e f R=>?_
  obtain⟨J,i,n⟩:=R
  have p:IsZip j z TI TO .ellipsis:=f _ _ D.i1z.symm h
  have u:e≠z:=λq=>by subst q;rw[p]at i;cases i;simp at n
  exact wpAny_setField_rec p (by simp) λt _ g=>U t e (λc o v _ O _ q=>g.extBut _ _ v (f _ _ O (d.extBut _ _ v q))) ⟨J,g.extBut _ _ u i,n⟩
 | some x =>
  have Z:ys[k2]?=none:=by
   rcases y with q | q
   ·rw[N]at q;cases q
   ·exact q
  refine J5 (Y.extBut d.extBut D.i1z) (T.extBut d.extBut D.l1z) N λj w1 f=>Qk ?_
  have hTO₂:IsPair j TO a b:=f.extBut _ _ D.TOi1 (d.extBut _ _ D.TOz I)
  refine Qj (wpAny_seqItems hTO₂ rfl (Qj (wpAny_updateSeq_pair hTO₂ λt hTO₃ g=>?_)))
  refine Qj (wpAny_letGo (Qk ?_));refine Qj (Qj (wpAny_onRaise ?_));refine Qj (m:=Builtin.SmallTypes.nextOf (.ref i2)) ?_
  refine N7 X (((u2.extBut d.extBut D.i2z).extBut f.extBut D.i12.symm).extBut g.extBut D.TOi2.symm) (((v2.extBut d.extBut D.l2z).extBut f.extBut D.l2i1).extBut g.extBut D.l2TO) Z λF e r K=>?_
  obtain⟨J,i,n⟩:=K
  have k:IsZip F z TI TO .ellipsis:=r _ _ D.i2z.symm (g.extBut _ _ D.TOz.symm (f.extBut _ _ D.i1z.symm h))
  have u:e≠z:=λq=>by subst q;rw[k]at i;cases i;simp at n
  exact wpAny_setField_rec k (by simp) λG _ l=>U G e (λc o v c2 O c4 q=>l.extBut _ _ v (r _ _ c4 (g.extBut _ _ c2 (f.extBut _ _ O (d.extBut _ _ v q))))) ⟨J,l.extBut _ _ u i,n⟩
abbrev zX1(t1:Bool)(h:Heap)(l1:Addr):Heap:=h.push {cls:=.type (itN t1),data:=.fields #[.ref l1,.int 0 0]}
abbrev zX2(t1 t2:Bool)(h:Heap)(l1 l2:Addr):Heap:=(zX1 t1 h l1).push {cls:=.type (itN t2),data:=.fields #[.ref l2,.int 0 0]}
abbrev zX3(t1 t2:Bool)(h:Heap)(l1 l2:Addr):Heap:=(zX2 t1 t2 h l1 l2).push {cls:=.type "tuple",data:=.seq #[.ref h.objs.size,.ref (zX1 t1 h l1).objs.size]}
abbrev zX4(t1 t2:Bool)(h:Heap)(l1 l2:Addr):Heap:=(zX3 t1 t2 h l1 l2).push {cls:=.type "tuple",data:=.seq #[.none,.none]}
abbrev zX5(t1 t2:Bool)(h:Heap)(l1 l2:Addr):Heap:=(zX4 t1 t2 h l1 l2).push {cls:=.type "zip",data:=.fields #[.none,.bool false,.bool false,.ref (zX2 t1 t2 h l1 l2).objs.size,.ref (zX3 t1 t2 h l1 l2).objs.size]}
theorem Z5(t1 t2:Bool)(a b:Addr)(xs ys:Array Value):Meets (Builtin.«zip.__new__» ⟨[.type "zip",.ref a,.ref b],[]⟩) (λ_ R s=>SqH t1 s.heap a xs/\SqH t2 s.heap b ys/\R (.ok (.ret (.ref (zX4 t1 t2 s.heap a b).objs.size))) {s with heap:=zX5 t1 t2 s.heap a b}):=
 .of_wp λprog w A R s h=>by
  obtain⟨j,g,d,tk,os⟩:=s
  obtain⟨l,k,h⟩:=h
  have i:=sub_zip
  have c:SqH t1 (Shared.heap ⟨j,g,d,tk,os⟩) a xs:=l
  have f:SqH t2 (Shared.heap ⟨j.push {cls:=.type (itN t1),data:=.fields #[.ref a,.int 0 0]},g,d,tk,os⟩) b ys:=k.at λ_ e=>Ql _ e
  wp_walk using N8 c,N8 f
  exact⟨_,rfl,h⟩
theorem Z6(l:SqH t1 s.heap a xs)(k:SqH t2 s.heap b ys)
  (h:∀ h',IsZip h' (s.heap.objs.size+4) (s.heap.objs.size+2) (s.heap.objs.size+3) .none->IsPair h' (s.heap.objs.size+2) (.ref s.heap.objs.size) (.ref (s.heap.objs.size+1))->IsPair h' (s.heap.objs.size+3) .none .none->ItX t1 h' s.heap.objs.size a 0->ItX t2 h' (s.heap.objs.size+1) b 0->h'.objs.size=s.heap.objs.size+5->(∀ c o,s.heap.get? c=some o->h'.get? c=some o)->Q (.ref (s.heap.objs.size+4)) {s with heap:=h'}):
  wpAny (model prog w) A (call (.type "zip") [.ref a,.ref b]) Q E s:=by
 refine callType_new PySem.F.called_zip (by decide) (PySem.F.typeCall_zip_2 _ _) (PySem.F.newCall_zip_2 _ _) (λobj=>PySem.F.args_object_init_3 obj _ _) PySem.F.entry_zip_new (Z5 t1 t2 a b xs ys) ⟨l,k,?_⟩
 have d:(zX1 t1 s.heap a).objs.size=s.heap.objs.size+1:=Qo ..
 have e:(zX2 t1 t2 s.heap a b).objs.size=s.heap.objs.size+2:=by rw[Qo,d]
 have f:(zX3 t1 t2 s.heap a b).objs.size=s.heap.objs.size+3:=by rw[Qo,e]
 have g:(zX4 t1 t2 s.heap a b).objs.size=s.heap.objs.size+4:=by rw[Qo,f]
 have j:(zX5 t1 t2 s.heap a b).objs.size=s.heap.objs.size+5:=by rw[Qo,g]
 have i:(zX5 t1 t2 s.heap a b).get? (zX4 t1 t2 s.heap a b).objs.size=some _:=Qn _ rfl
 have g4:(zX5 t1 t2 s.heap a b).get? (zX3 t1 t2 s.heap a b).objs.size=some _:=Ql _ (Qn _ rfl)
 have g3:(zX5 t1 t2 s.heap a b).get? (zX2 t1 t2 s.heap a b).objs.size=some _:=Ql _ (Ql _ (Qn _ rfl))
 have g2:(zX5 t1 t2 s.heap a b).get? (zX1 t1 s.heap a).objs.size=some _:=Ql _ (Ql _ (Ql _ (Qn _ rfl)))
 have g1:(zX5 t1 t2 s.heap a b).get? s.heap.objs.size=some _:=Ql _ (Ql _ (Ql _ (Ql _ (Qn _ rfl))))
 rw[e,f,g]at i
 rw[d,e]at g3
 rw[f]at g4
 rw[d]at g2
 rw[g]
 exact⟨⟨_,i,rfl⟩,h _ i g3 g4 ⟨_,g1,rfl,rfl⟩ ⟨_,g2,rfl,rfl⟩ j λc o x=>Ql _ (Ql _ (Ql _ (Ql _ (Ql _ x))))⟩
end
def SqX(t:Bool)(K:PySem.W.Frag)(H:Hp)(a:Addr)(xs:List V):Prop:=match t with | true=>SqT K H a xs | false=>SqL K H a xs
variable {t:Bool}{X:Cx}{pins:List (Addr×Obj)}{σ:St}{s:Shared}{xs:List V}
theorem EV{a:Addr}(I:Inv X pins σ H s)(h:SqX t X.K H a xs):∃ b:List Value,Vals xs b/\SqH t s.heap a b.toArray:=by
 cases t
 ·obtain⟨b,r,p,_⟩:=I.list h
  exact⟨b,r,p.isList⟩
 ·obtain⟨b,r,p,_⟩:=I.tuple h
  exact⟨b,r,p⟩
theorem N9{a:Addr}{ys:List V}(I:Inv X pins σ H s)(h:SqX t X.K H a xs)(h':SqX t X.K H a ys):xs=ys:=by
 cases t
 ·exact I.list_inj h h'
 ·exact I.tuple_inj h h'
def Oa(t1 t2:Bool)(K:PySem.W.Frag)(l1 l2:Addr):It :=
 ⟨λi H=>∃ xs ys,SqX t1 K H l1 xs/\SqX t2 K H l2 ys/\i < xs.length/\i < ys.length,
  λi H v H'=>∃ T x y,H T=none/\v=.ref T/\H'=upd H T (.tup [x,y])/\∀ xs ys,SqX t1 K H l1 xs->SqX t2 K H l2 ys->xs[i]?=some x/\ys[i]?=some y,
  λi H=>∃ xs ys,SqX t1 K H l1 xs/\SqX t2 K H l2 ys/\i=min xs.length ys.length⟩
variable {t1 t2:Bool}{k:Nat}{tpos:Pos}
theorem Z7{P:Program}{w:World}{L:List Expr}{z TI TO i1 i2 Z l2:Addr}(D:ZipApart z TI TO i1 i2 Z l2):
  Dp P w K (.Tuple L k tpos) (Oa t1 t2 K Z l2) [z,TI,TO,i1,i2] z (λi h=>IsZip h z TI TO .none/\IsPair h TI (.ref i1) (.ref i2)/\(∃ a b,IsPair h TO a b)/\ItX t1 h i1 Z i/\ItX t2 h i2 l2 i):=
 have obj:∀{i h},(IsZip h z TI TO .none/\IsPair h TI (.ref i1) (.ref i2)/\(∃ a b,IsPair h TO a b)/\ItX t1 h i1 Z i/\ItX t2 h i2 l2 i)->∀ b∈[z,TI,TO,i1,i2],∃ o,h.get? b=some o/\∀ v,o.data≠.cell v:=λst b d=>by
  obtain⟨n,f,⟨a,c,g⟩,⟨o1,e1,_,d1⟩,⟨o2,e2,_,d2⟩⟩:=st
  simp only[Yo,YX,or_false]at d
  rcases d with rfl | rfl | rfl | rfl | rfl
  ·exact⟨_,n,λv z=>by cases z⟩
  ·exact⟨_,f,λv z=>by cases z⟩
  ·exact⟨_,g,λv z=>by cases z⟩
  ·exact⟨o1,e1,λv z=>by rw[d1]at z;cases z⟩
  ·exact⟨o2,e2,λv z=>by rw[d2]at z;cases z⟩
 {mem:=by simp
  obj:=λi h st=>obj st
  keep:=λi h h' st N=>by
   obtain⟨n,f,⟨a,c,g⟩,h1,h2⟩:=st
   exact⟨N z (by simp) _ n,N TI (by simp) _ f,⟨a,c,N TO (by simp) _ g⟩,h1.at λo e=>N i1 (by simp) o e,h2.at λo e=>N i2 (by simp) o e⟩
  item:=by
   intro X hP hw hK hc i pins s σ H E I U st hg
   have ob:=obj st
   subst hP hw hK
   obtain⟨xs,ys,Y,S,hix,hiy⟩:=hg
   obtain⟨r,r1,u⟩:=EV I Y
   obtain⟨t,r2,B⟩:=EV I S
   obtain⟨n,f,⟨a,b,g⟩,h1,h2⟩:=st
   have O:s.TypeIs (.ref z) "zip":=⟨_,n,rfl⟩
   have gx:xs[i]?=some xs[i]:=Yp hix
   have gy:ys[i]?=some ys[i]:=Yp hiy
   obtain⟨u1,q1,rv1⟩:=r1.get gx
   obtain⟨u2,q2,rv2⟩:=r2.get gy
   unfold pyNext
   refine Qj (wpAny_attempt (wpAny_callSpecial?_slot (name:=Str.ofString "__next__") O PySem.F.slot_zip_next (wpAny_call_entry PySem.F.slot_zip_next O PySem.F.entry_zip_next (Z3 D n f g h1 h2 u B (x:=u1) (y:=u2) (by simpa using q1) (by simpa using q2) λh' a1 a2 a3 a4 a5 hk=>Qk ?_) (PySem.F.args_zip_next_1 _))))
   refine⟨_,rfl,wpAny_letOwnedTupleGo_zip a1 λh2 hz' j=>?_⟩
   have lt:∀{b:Addr}{o:Obj},s.heap.get? b=some o->b≠s.heap.objs.size:=λe=>Ys (Qm e)
   have l:∀ b,b∉[z,TI,TO,i1,i2]->b≠z/\b≠TO/\b≠i1/\b≠i2:=λb d=>⟨λe=>d (by simp[e]),λe=>d (by simp[e]),λe=>d (by simp[e]),λe=>d (by simp[e])⟩
   have I1:Inv X pins σ H {s with heap:=h2}:=Inv.turneds (t':=s.toks) I U λb o d e=>j.extBut _ _ (l b d).1 (hk b o (l b d).1 (l b d).2.1 (l b d).2.2.1 (l b d).2.2.2 e)
   have J:H s.heap.objs.size=none:=I.hok.fresh (Yr _)
   have hTz:s.heap.objs.size≠z:=YU (lt n)
   have I2:Inv X pins σ (upd H s.heap.objs.size (.tup [xs[i],ys[i]])) {s with heap:=h2}:=by
    refine I1.track J ?_ (λx c e=>?_) (λp hp=>?_) ?_ ⟨by show 2<=sizeLine;decide,[u1,u2],.cons rv1 (.cons rv2 .nil),⟨_,j.extBut _ _ hTz a5,rfl,rfl,_,rfl⟩⟩
    ·obtain⟨m,⟨o,es,ep,R,_⟩,_⟩:=I.loc
     exact YU (lt R)
    ·obtain⟨v,o,R,_⟩:=I.cell x c e
     exact lt R
    ·exact lt (I.pin p hp).1
    ·cases e:X.s₀.heap.get? s.heap.objs.size with
     | none=>rfl
     | some o=>exact Qi (Yu (Qm e) I.sz) (YJ _)
   refine⟨.ref s.heap.objs.size,_,I2,rfl,⟨_,_,_,J,rfl,rfl,λxs' ys' hx' hy'=>?_⟩,⟨hz',j.extBut _ _ D.TIz (hk _ _ D.TIz D.TITO D.TIi1 D.TIi2 f),⟨_,_,j.extBut _ _ D.TOz a2⟩,a3.extBut j.extBut D.i1z,a4.extBut j.extBut D.i2z⟩,λb d=>?_⟩
   ·rw[N9 I hx' Y,N9 I hy' S];exact⟨gx,gy⟩
   ·obtain⟨o,e,_⟩:=ob b d
    rw[AQ (lt e)];exact(U b d).1
  done:=by
   intro X hP hw hK hc i pins s σ H E I U st hg
   subst hP hw hK
   obtain⟨xs,ys,Y,S,hi⟩:=hg
   obtain⟨r,r1,u⟩:=EV I Y
   obtain⟨t,r2,B⟩:=EV I S
   have n1:=r1.length
   have n2:=r2.length
   obtain⟨n,f,⟨a,b,g⟩,h1,h2⟩:=st
   have O:s.TypeIs (.ref z) "zip":=⟨_,n,rfl⟩
   have G:r.toArray[i]?=none\/t.toArray[i]?=none:=by
    rcases Nat.le_total xs.length ys.length with q | q
    ·exact .inl (Array.getElem?_eq_none (by simp only[Yn];lia))
    ·exact .inr (Array.getElem?_eq_none (by simp only[Yn];lia))
   unfold pyNext
   refine Qj (wpAny_attempt (wpAny_callSpecial?_slot (name:=Str.ofString "__next__") O PySem.F.slot_zip_next (wpAny_call_entry PySem.F.slot_zip_next O PySem.F.entry_zip_next (Z4 (I.ok.hd hc) D n f g h1 h2 u B G λh' e hk he=>?_) (PySem.F.args_zip_next_1 _))))
   obtain⟨o,R,hc⟩:=he
   exact Qj (wpAny_isInstance (T:="StopIteration") (b:=true) ⟨o,R,hc⟩ isSubtype_stop (Qk ⟨rfl,Inv.turneds (t':=s.toks) I U λb o d e=>hk b o (λe=>d (by simp[e])) (λe=>d (by simp[e])) (λe=>d (by simp[e])) (λe=>d (by simp[e])) e⟩))
  self:=λA i s Q E st h=>wpAny_pyIter_zip st.1 h}
def Z8(t1 t2:Bool)(K:PySem.W.Frag)(ta:TA):TI:=λσ H R=>ta σ H λvs H1=>∃ a b xs ys,vs=[.ref a,.ref b]/\SqX t1 K H1 a xs/\SqX t2 K H1 b ys/\R (Oa t1 t2 K a b) H1
variable {a b:Expr}{p pos:Pos}
theorem Z9{ta:TA}{g:List Expr}(L:Gl X "zip")(N:X.mg "zip"=none)(B:PA X [a,b] ta)(F:starEach [a,b] X.env=[(false,eval a X.env),(false,eval b X.env)])(f:starEach [b] X.env=[(false,eval b X.env)]):
  PI X (.Tuple g k tpos) (.Call (.Name "zip" p) [a,b] [] pos) (Z8 t1 t2 X.K ta):=by
 intro pins s σ H R I h
 refine Call_ (D1 I L N boot_zip (Qb (thn (B pos pins s σ H _ I h) λQ w t=>?_) (by rw[F,f]) (by rw[f];rfl)))
 obtain⟨O,H1,c,r1,q1⟩:=t
 obtain⟨S,T,xs,ys,e,E,A,q⟩:=q1
 subst e
 obtain⟨u,P,rfl,D,o⟩:=Ge r1
 cases D
 cases o
 obtain⟨v,_,i⟩:=EV c E
 obtain⟨z,_,j⟩:=EV c A
 refine Z6 i j λh' x m l r n G J=>wpAny_pyIter_zip x ?_
 refine⟨_,_,_,_,H1,rfl,c.kept (t':=w.toks) J,Z7 (zipApart_new i.lt j.lt),⟨x,m,⟨_,_,l⟩,r,n⟩,λb y=>?_,q⟩
 have d:w.heap.objs.size<=b:=by
  simp only[Yo,YX,or_false]at y
  rcases y with rfl | rfl | rfl | rfl | rfl
  ·exact YW _ 4
  ·exact YW _ 2
  ·exact YW _ 3
  ·exact Yr _
  ·exact YW _ 1
 exact c.fpOk d (c.hok.fresh d)
variable {v:V}
theorem aa{xs:List W}(t:Tr K H v (.tup xs)):∃ a vs,v=.ref a/\SqT K H a vs/\TrL K H vs xs:=by
 cases t with
 | tup h l=>exact⟨_,_,rfl,h,l⟩
def rdX(t:Bool)(G:Hw)(x:W):Option (List W):=match t,x with | true,.tup xs=>some xs | true,_=>none | false,x=>rdL G x
theorem GM{G:Hw}{x:W}{xs:List W}(r:RelH K H G)(b:Tr K H v x)(e:rdX t G x=some xs):∃ a vs,v=.ref a/\SqX t K H a vs/\TrL K H vs xs:=by
 cases t
 ·exact JQ r b e
 ·unfold rdX at e
  split at e
  ·cases e;exact aa b
  ·cases e
  ·rename_i h;cases h
def Ob(t1 t2:Bool)(gs:GA):GI:=λω G R=>gs ω G λws G1=>∃ x y xs ys,ws=[x,y]/\rdX t1 G1 x=some xs/\rdX t2 G1 y=some ys/\R (BX xs ys) (λG=>rdX t1 G x=some xs/\rdX t2 G y=some ys) G1
variable {gs:GA}
theorem ac(m:gs.M):GI.M (Ob t1 t2 gs):=λω G R d h q=>m _ _ _ _ ((by rintro c f ⟨x,y,xs,ys,e,b,a,z⟩;exact⟨x,y,xs,ys,e,b,a,h _ _ _ z⟩)) q
theorem ae(t1 t2:Bool){s:List Expr}(hm:X.mg "zip"=none)(hg:Gl X "zip")(hs:starEach [a,b] X.env=[(false,eval a X.env),(false,eval b X.env)])(w:starEach [b] X.env=[(false,eval b X.env)])(u:Am X [a,b] gs):
  Im X (.Tuple s k tpos) (.Call (.Name "zip" p) [a,b] [] pos) (Ob t1 t2 gs):=by
 refine⟨⟨_,Z9 (t1:=t1) (t2:=t2) hg hm u.p hs w,λσ H ω G R R0 ts r q kk=>⟨ω,G,ts,r,u.m _ _ _ _ (λws G1 z vs H1 m t r1=>?_) q⟩⟩,ac u.m⟩
 obtain⟨x,y,xs,ys,rfl,S,N,z⟩:=z
 cases t with
 | cons P t =>
  cases t with
  | cons ty t =>
   cases t
   obtain⟨L,E,rfl,D,l1⟩:=GM r1 P S
   obtain⟨O,B,rfl,F,l2⟩:=GM r1 ty N
   have two:∀{e o},Mono X.K H1 e->RelH X.K e o->(rdX t1 o x=some xs/\rdX t2 o y=some ys)->∃ d c,SqX t1 X.K e L d/\TrL X.K e d xs/\SqX t2 X.K e O c/\TrL X.K e c ys:=λ{e o}g f g3=>by
    obtain⟨b1,d,Z,h,n⟩:=GM f (P.mono g) g3.1
    obtain⟨b2,c,e4,l,j⟩:=GM f (ty.mono g) g3.2
    cases Z;cases e4
    exact⟨d,c,h,n,l,j⟩
   refine⟨L,O,E,B,rfl,D,F,kk _ _ _ H1 _ z m r1 ⟨S,N⟩ ⟨λi e o g f g3 hi=>?_,λi e o v H4 g f g3 y3 hi=>?_,λe o g f g3=>?_⟩⟩
   ·obtain⟨d,c,h,n,l,j⟩:=two g f g3
    rw[JR]at hi
    exact⟨d,c,h,l,by rw[n.length];lia,by rw[j.length];lia⟩
   ·obtain⟨d,c,h,n,l,j⟩:=two g f g3
    obtain⟨T,Y,v2,Q,rfl,rfl,U⟩:=y3
    obtain⟨g1,g2⟩:=U _ _ h l
    obtain⟨w1,q1,J⟩:=n.get' g1
    obtain⟨w2,q2,I⟩:=j.get' g2
    have A:Mono X.K e (upd e T (.tup [Y,v2])):=Mono.new Q _
    exact⟨A,f.mono0 Q,_,Nq _ _ i q1 q2,.tup (SqT.of BP) (.cons (J.mono A) (.cons (I.mono A) .nil))⟩
   ·obtain⟨d,c,h,n,l,j⟩:=two g f g3
    exact⟨d,c,h,l,by rw[JR,n.length,j.length]⟩
theorem af{tg e:Expr}{gi a:GI}(h:Im X tg e gi)(m:GI.M a)(i:∀ ω G R,a ω G R->gi ω G R):Im X tg e a:=by
 obtain⟨⟨d,p,f⟩,_⟩:=h
 exact⟨⟨d,p,λσ H ω G R c g r q b=>f σ H ω G R c g r (i _ _ _ q) b⟩,m⟩
def Cf(gs:GA):GI:=λω G R=>gs ω G λws G1=>match ws with
 | [x,y]=>(match rdL G1 x,rdL G1 y with
  | some xs,some ys=>R (BX xs ys) (λG=>rdL G x=some xs/\rdL G y=some ys) G1
  | _,_=>False)
 | _=>False
theorem Oc{gs:GA}{R:List W->(Hw->Prop)->Hw->Prop}{b:List W}{a:Hw}(z:match b with
 | [x,y]=>(match rdL a x,rdL a y with
  | some xs,some ys=>R (BX xs ys) (λG=>rdL G x=some xs/\rdL G y=some ys) a
  | _,_=>False)
 | _=>False):∃ x y xs ys,b=[x,y]/\rdL a x=some xs/\rdL a y=some ys/\R (BX xs ys) (λG=>rdL G x=some xs/\rdL G y=some ys) a:=by
 split at z
 ·rename_i x y
  split at z
  ·rename_i xs ys d c;exact⟨x,y,xs,ys,rfl,d,c,z⟩
  ·exact z.elim
 ·exact z.elim
theorem ag(m:gs.M):GI.M (Cf gs):=λω G R d h q=>m _ _ _ _ (λc e z=>by
 obtain⟨x,y,xs,ys,rfl,b,a,z⟩:=Oc (gs:=gs) z
 dsimp only
 rw[b,a]
 exact h _ _ _ z) q
theorem ah{c:List Expr}(j:X.mg "zip"=none)(h:Gl X "zip")(i:starEach [a,b] X.env=[(false,eval a X.env),(false,eval b X.env)])(e:starEach [b] X.env=[(false,eval b X.env)])(d:Am X [a,b] gs):
  Im X (.Tuple c k tpos) (.Call (.Name "zip" p) [a,b] [] pos) (Cf gs):=
 af (ae false false j h i e d) (ag d.m) λω G R q=>d.m _ _ _ _ (by
  intro l n z
  obtain⟨x,y,xs,ys,rfl,g,f,z⟩:=Oc (gs:=gs) z
  exact⟨x,y,xs,ys,rfl,g,f,z⟩) q
end L3
namespace L3
open PySem PySem.Spec PyProof.Rows L2
abbrev Ei(h:Heap)(T:Addr)(a b c:Value):Prop:=h.get? T=some {cls:=.type "tuple",data:=.seq #[a,b,c]}
section
variable {prog:Program} {w:World} {A:Around} {E:Value->Shared->Prop} {s:Shared}
def St3(n l1 l2 l3:Nat)(f0:Value)(i:Nat)(h:Heap):Prop:=IsZip h (n+5) (n+3) (n+4) f0/\Ei h (n+3) (.ref n) (.ref (n+1)) (.ref (n+2))/\(∃ a b c,Ei h (n+4) a b c)/\h.IsListIter n l1 i/\h.IsListIter (n+1) l2 i/\h.IsListIter (n+2) l3 i
end
end L3
namespace L3
open PySem PySem.Spec PyProof.Rows L2
variable {K:PySem.W.Frag} {H H' H2:Hp}
section
variable {prog:Program} {w:World} {A:Around} {E:Value->Shared->Prop} {s:Shared}
theorem St3.at{n m g j:Nat}{l:Value}{i:Nat}{h h':Heap}(st:St3 n m g j l i h)(k:∀(c:Nat)o,n<=c->c<=n+5->h.get? c=some o->h'.get? c=some o):St3 n m g j l i h':=by
 obtain⟨p,f,⟨a,b,c,d⟩,r,q,s⟩:=st
 exact⟨k _ _ (by lia) (by lia) p,k _ _ (by lia) (by lia) f,⟨a,b,c,k _ _ (by lia) (by lia) d⟩,r.at λo e=>k _ o (by lia) (by lia) e,q.at λo e=>k _ o (by lia) (by lia) e,s.at λo e=>k _ o (by lia) (by lia) e⟩
end
def EW(w:W):Bool:=match w with | .non=>true | _=>false
def isF(neg:Bool)(x y:W)(_:Hw):Option W:=match y with | .non=>some (.bl (EW x != neg))| _=>none
theorem ai{v:V}{x:W}(t:Tr K H v x):decide (v=.non)=EW x:=by cases t <;> rfl
theorem aj{u:V}(t:Tr K H u .non):u=.non:=by cases t;rfl
theorem ak(neg:Bool)(x y:W)(v u:V)(G:Hw)(H:Hp)(Q:VK)(b:Tr K H v x)(ty:Tr K H u y)(r:RelH K H G)(q:Af (isF neg) x y G (dn K H Q)):u=.non/\Q (.bl (EW x != neg)) H:=by
 obtain⟨w,e,a⟩:=CS q
 cases y with
 | non=>cases e;exact⟨aj ty,a _ H .refl (.bl _) r⟩
 | _=>cases e
theorem al{X:Cx}:Cop X .Is (Af (isF false)):=⟨⟨_,Uq,λx y v u G H Q a ty r q=>by
 obtain⟨h1,h2⟩:=ak false x y v u G H Q a ty r q
 refine⟨h1,?_⟩
 rw[ai a];simpa using h2⟩,Dv⟩
section
variable {prog:Program} {w:World} {A:Around} {E:Value->Shared->Prop} {s:Shared}
def St3T(n l1 l2 l3:Nat)(f0:Value)(i:Nat)(h:Heap):Prop:=IsZip h (n+5) (n+3) (n+4) f0/\Ei h (n+3) (.ref n) (.ref (n+1)) (.ref (n+2))/\(∃ a b c,Ei h (n+4) a b c)/\h.IsTupleIter n l1 i/\h.IsTupleIter (n+1) l2 i/\h.IsTupleIter (n+2) l3 i
theorem St3T.at{n m g j:Nat}{l:Value}{i:Nat}{h h':Heap}(st:St3T n m g j l i h)(k:∀(c:Nat)o,n<=c->c<=n+5->h.get? c=some o->h'.get? c=some o):St3T n m g j l i h':=by
 obtain⟨p,f,⟨a,b,c,d⟩,r,q,s⟩:=st
 exact⟨k _ _ (by lia) (by lia) p,k _ _ (by lia) (by lia) f,⟨a,b,c,k _ _ (by lia) (by lia) d⟩,tat r λo e=>k _ o (by lia) (by lia) e,tat q λo e=>k _ o (by lia) (by lia) e,tat s λo e=>k _ o (by lia) (by lia) e⟩
end
section
variable {prog:Program} {w:World} {A:Around} {E:Value->Shared->Prop} {s:Shared}
end
end L3
namespace L3
open PySem PySem.Spec PyProof.Rows L2
abbrev am(h:Heap)(z TI TO:Addr)(f0:Value)(b:Bool):Prop:=h.get? z=some {cls:=.type "zip",dict:=none,data:=.fields #[f0,.bool b,.bool false,.ref TI,.ref TO],slots:=#[]}
section
variable {prog:Program} {w:World} {A:Around} {E:Value->Shared->Prop} {s:Shared}
def Hd3(n l1 l2 l3 i:Nat)(h:Heap):Prop:=(∃(T:Nat)(o:Obj)(b:Bool),am h (n+5) (n+3) (n+4) (rawInt T) b/\h.get? T=some o/\(T < n\/n+5 < T))/\Ei h (n+3) (.ref n) (.ref (n+1)) (.ref (n+2))/\h.IsListIter n l1 i/\h.IsListIter (n+1) l2 i/\h.IsListIter (n+2) l3 i
def Cm3(n l1 l2 l3 i:Nat)(h:Heap):Prop:=(i=0/\St3 n l1 l2 l3 .none 0 h)\/Hd3 n l1 l2 l3 i h
theorem Cm3.zip{n d e a i:Nat}{h:Heap}(st:Cm3 n d e a i h):∃ o,h.get? (n+5)=some o/\o.cls=.type "zip":=by
 rcases st with⟨_,st⟩| st
 ·exact⟨_,st.1,rfl⟩
 ·obtain⟨⟨T,o,b,c,_⟩,_⟩:=st
  exact⟨_,c,rfl⟩
end
section
variable {prog:Program} {w:World} {A:Around} {E:Value->Shared->Prop} {s:Shared}
end
end L3
namespace L3
open PySem PySem.Spec PyProof.Rows L2
variable {K:PySem.W.Frag} {H H' H2:Hp}
section
variable {prog:Program} {w:World} {A:Around} {E:Value->Shared->Prop} {s:Shared}
def St3M(n l1 l2 l3:Nat)(f0:Value)(i:Nat)(h:Heap):Prop:=IsZip h (n+5) (n+3) (n+4) f0/\Ei h (n+3) (.ref n) (.ref (n+1)) (.ref (n+2))/\(∃ a b c,Ei h (n+4) a b c)/\h.IsListIter n l1 i/\h.IsTupleIter (n+1) l2 i/\h.IsTupleIter (n+2) l3 i
theorem St3M.at{n m g j:Nat}{l:Value}{i:Nat}{h h':Heap}(st:St3M n m g j l i h)(k:∀(c:Nat)o,n<=c->c<=n+5->h.get? c=some o->h'.get? c=some o):St3M n m g j l i h':=by
 obtain⟨p,f,⟨a,b,c,d⟩,r,q,s⟩:=st
 exact⟨k _ _ (by lia) (by lia) p,k _ _ (by lia) (by lia) f,⟨a,b,c,k _ _ (by lia) (by lia) d⟩,r.at λo e=>k _ o (by lia) (by lia) e,tat q λo e=>k _ o (by lia) (by lia) e,tat s λo e=>k _ o (by lia) (by lia) e⟩
end
end L3
namespace L3
open PySem PySem.Spec PyProof.Rows L2
end L3
namespace L3
open PySem PySem.Spec PyProof.Rows L2
variable {K:PySem.W.Frag} {H H' H2:Hp}
end L3
namespace L3
open PySem PySem.Spec PyProof.Rows L2
section
variable {prog:Program} {w:World} {A:Around} {E:Value->Shared->Prop} {s:Shared}
end
def FE(g:GE):GE:=λω G Q=>g ω G λx G1=>∃ i,x=.int i/\Q (.int (-i)) G1
variable {g:GE}
theorem ao(m:g.M):GE.M (FE g):=λω G Q a h q=>m _ _ _ _ (by rintro x b ⟨i,e,z⟩;exact⟨i,e,h _ _ z⟩) q
theorem ap{X:Cx}{a:Expr}{pos:Pos}(h:Em X a g):Em X (.UnaryOp .USub a pos) (FE g):=
 ⟨AY (T9 Uh h.p) λσ H Q⟨ω,G,b,r,q⟩=>⟨ω,G,b,r,h.m _ _ _ _ (λx c z v H1 m t r1=>by
  obtain⟨i,rfl,z⟩:=z
  cases t
  exact⟨_,rfl,z _ _ m (.int _) r1⟩) q⟩,ao h.m⟩
end L3
namespace L3
open PySem PySem.Spec PyProof.Rows L2
variable {K:PySem.W.Frag} {H H' H2:Hp}
section
variable {X:Cx} {e:Expr} {p pc pd pt pos:Pos} {ge:GE}
end
end L3
namespace L3
open PySem PySem.Spec PyProof.Rows L2
def ev{α:Type}(lt:Nat->Nat->Bool)(n:Nat):PySem.W.KasT α->Option α
 | .ret a=>some a
 | .ask i j k=>if i≠j/\i < n/\j < n then ev lt n (k (lt i j))else none
section
variable {prog:Program} {w:World} {A:Around} {E:Value->Shared->Prop} {s:Shared}
end
end L3
namespace L3
open PySem PySem.Spec PyProof.Rows L2
variable {K:PySem.W.Frag} {H H' H2:Hp}
end L3
namespace L3
open PySem PySem.Spec PyProof.Rows L2
section
variable {prog:Program} {w:World} {A:Around} {E:Value->Shared->Prop} {s:Shared}
end
section
variable {X:Cx} {e:Expr} {p3 pa q1 q3:Pos} {ta:TE}
end
end L3
namespace L3
open PySem PySem.Spec PyProof.Rows L2
variable {K:PySem.W.Frag} {H H' H2:Hp}
end L3
namespace L3
open PySem PySem.Spec PyProof.Rows L2
section
variable {prog:Program} {w:World} {A:Around} {E:Value->Shared->Prop} {s:Shared}
end
section
variable {prog:Program} {w:World} {A:Around} {E:Value->Shared->Prop} {s:Shared}
end
end L3
namespace L3
open PySem PySem.Spec PyProof.Rows L2
variable {K:PySem.W.Frag} {H H' H2:Hp}
section
variable {X:Cx} {e eb:Expr} {p1 p2 p3 q1 q2 q3 qb:Pos} {ta tb:TE}
end
end L3
namespace L3
open PySem PySem.Spec PyProof.Rows L2
section
variable {prog:Program} {w:World} {A:Around} {E:Value->Shared->Prop} {s:Shared}
end
end L3
namespace L3
open PySem PySem.Spec PyProof.Rows L2
variable {K:PySem.W.Frag} {H H' H2:Hp}
def inS(x y:W)(_:Hw):Option W:=match x,y with
 | .str i,.str j=>some (.bl (!(Builtin.Str.occurrences j i 0 j.length 1).isEmpty))
 | _,_=>none
theorem aq(x y:W)(v u:V)(G:Hw)(H:Hp)(Q:VK)(a:Tr K H v x)(ty:Tr K H u y)(r:RelH K H G)(q:Af inS x y G (dn K H Q)):∃ i j,v=.str i/\u=.str j/\Q (.bl (!(Builtin.Str.occurrences j i 0 j.length 1).isEmpty)) H:=by
 obtain⟨w,e,b⟩:=CS q
 unfold inS at e
 split at e
 ·rename_i i j
  cases e
  cases a
  cases ty
  exact⟨i,j,rfl,rfl,b _ H .refl (.bl _) r⟩
 ·cases e
theorem ar{X:Cx}:Cop X .In (Af inS):=⟨⟨_,Up,aq⟩,Dv⟩
section
variable {prog:Program} {w:World} {A:Around} {E:Value->Shared->Prop} {s:Shared}
end
def KVs:List Str->List V->List (Value×Value)->Prop
 | [],[],[]=>True
 | k::ks,v::vs,p::ps=>(∃ t,p.1=.str k t)/\RelV v p.2/\KVs ks vs ps
 | _,_,_=>False
theorem KVs.len:∀{ks:List Str}{vs:List V}{ps:List (Value×Value)},KVs ks vs ps->vs.length=ks.length/\ps.length=ks.length
 | [],[],[],_=>⟨rfl,rfl⟩
 | k::ks,v::vs,p::ps,h=>by
  obtain⟨a,b⟩:=KVs.len h.2.2
  simp only[Yg];lia
section
variable {prog:Program} {w:World} {A:Around} {E:Value->Shared->Prop} {s:Shared}
end
end L3
namespace L3
open PySem PySem.Spec PyProof.Rows L2
end L3
namespace L3
open PySem PySem.Spec PyProof.Rows L2
variable {K:PySem.W.Frag} {H H' H2:Hp}
end L3
namespace L3
open PySem PySem.Spec PyProof.Rows L2
end L3
namespace L2
open PySem PySem.Spec PyProof.Rows
end L2
namespace L3
open PySem PySem.Spec PyProof.Rows L2
end L3
namespace L3
open PySem PySem.Spec PyProof.Rows L2
variable {K:PySem.W.Frag} {H H' H2:Hp}
variable {X:Cx}{c:Str}
theorem au{e:Expr}{t:TE}{j p1 p2 pos}(hc:c.length<=1000)(h:PE X e t):PE X (.JoinedStr [.Constant (.str c) j p1,.FormattedValue e 114 none p2] pos) (λσ H Q=>t σ H λv H1=>∃ z,v=.str z/\(reprText z).length<=1000/\∀ y,Q (.str y) H1):=by
 have b:∀{n:Nat},n<=3000->n<=sizeLine:=λh=>Yt h (by decide)
 intro pins s σ H Q I q
 refine wpAny_JoinedStr (Joins_cons (Calls.Constant_str ?_))
 have k:∀ y:Str,(Str.empty++y).length=y.length:=λy=>by rw[Str.length_append];exact Nat.zero_add _
 refine⟨c,_,rfl,by rw[k];exact b (by lia),Joins_cons (wpAny_FormattedValue_repr (thn (h pins _ σ H _ (I.tok _) q) ?_))⟩
 rintro v o ⟨x,H1,i,r1,z,rfl,m,q1⟩
 obtain⟨tk,rfl⟩:=r1
 refine wpAny_pyReprObj_str ?_ (b (by lia))
 have d:∀(tk:Tok)(g:Shared),Inv X pins σ H1 g->∃ y t,Value.str (reprText z) tk=Value.str y t/\(Str.empty++c++y).length<=sizeLine/\Joins (model X.prog X.w) X.A X.xe (evalEach [] X.env) (Str.empty++c++y) (λf a=>f.length<=sizeLine/\EP X pins σ Q (Value.str f a.toks) {a with toks:=a.toks+1}) g:=λtk g l=>by
  have hl:(Str.empty++c++reprText z).length<=sizeLine:=by rw[Str.length_append,k];exact b (by lia)
  exact⟨_,_,rfl,hl,Joins_nil ⟨hl,.str _,H1,l.tok _,⟨_,rfl⟩,q1 _⟩⟩
 exact wpAny_formatField_str (d _ _ (i.tok _)) (d _ _ ((i.tok _).tok _)) (b (by lia))
def gFR(g:GE):GE:=λω G Q=>g ω G λw G1=>∃ z,w=.str z/\(reprText z).length<=1000/\∀ y,Q (.str y) G1
variable {g:GE}
theorem av(m:g.M):GE.M (gFR g):=λω G Q a h q=>m _ _ _ _ (by rintro x b ⟨z,e,l,k⟩;exact⟨z,e,l,λy=>h _ _ (k y)⟩) q
theorem aw{a:Expr}{j p1 p2 pos}(hc:c.length<=1000)(h:Em X a g):Em X (.JoinedStr [.Constant (.str c) j p1,.FormattedValue a 114 none p2] pos) (gFR g):=
 ⟨AY (au hc h.p) λσ H Q⟨ω,G,b,r,q⟩=>⟨ω,G,b,r,h.m _ _ _ _ (λx d z v H1 m t r1=>by
  obtain⟨y,rfl,l,z⟩:=z
  cases t
  exact⟨_,rfl,l,λy=>z y _ _ m (.str _) r1⟩) q⟩,av h.m⟩
theorem ax(s:Str)(i j:Nat):(Builtin.Str.strSub s i j).length<=s.length:=by
 show(s.cps.extract i j).size<=s.cps.size
 rw[Array.size_extract];lia
theorem Od:∀(zs:List Str)(k:Nat),Vals (zs.map V.str) (strsFrom k zs)
 | [],_=>.nil
 | z::zs,k=>.cons ⟨k,rfl⟩ (Od zs (k+1))
theorem J6(x y:Str):(∀ z∈Txt.split x y,z.length<=x.length)/\1<=(Txt.split x y).length/\(Txt.split x y).length<=x.length+2:=by
 have e:((Txt.split x y).map λz=>(z,(0:Tok))).map (λx=>x.1)=Txt.split x y:=by rw[YB];exact List.map_id _
 have h1:=len_of_split e
 have h2:=len_le_of_split e
 rw[Yh]at h1 h2
 refine⟨λz a=>?_,h1,h2⟩
 unfold Txt.split at a
 split at a
 ·rw[YA.mp a];exact Yr _
 ·split at a
  ·rw[YA.mp a];exact Yr _
  ·unfold Builtin.Str.partsBetween at a
   obtain⟨⟨i,j⟩,_,rfl⟩:=YC.mp a
   exact ax _ _ _
def ay:V->List V->Hp->VK->Prop:=λv vs H Q=>∃ x y,v=.str x/\vs=[.str y]/\(y.length==0)=false/\x.length+2<=sizeLine/\∀ p,H p=none->Q (.ref p) (upd H p (.lst ((Txt.split x y).map V.str)))
theorem az:MtR X "str.split" ay:=by
 intro pins s σ H x n v l Q I j g h
 obtain⟨x,y,rfl,rfl,d,m,q⟩:=h
 obtain⟨tk,rfl⟩:=j
 obtain⟨u,rfl,f⟩:=g.one
 obtain⟨b,rfl⟩:=f
 obtain⟨_,_,h2⟩:=J6 x y
 have go:∀(a:List Value)(k:Nat),Vals ((Txt.split x y).map V.str) a->EP X pins σ Q (.ref s.heap.objs.size) {s with heap:=s.heap.push {cls:=.type "list",data:=.seq a.toArray},toks:=k}:=λa k i=>
  ⟨.ref _,_,I.lnew i (by rw[Yh];lia),rfl,q _ I.fresh⟩
 have one:Txt.split x y=[x]->(listOfItself x tk) X.A (wants (EP X pins σ Q) X.xe) s:=λe=>by
  have z:=go [.str x tk] s.toks (by rw[e];exact .cons ⟨tk,rfl⟩ .nil)
  exact z
 cases c:(decide (x.length < y.length)||decide (Builtin.Str.strKind x < Builtin.Str.strKind y))with
 | true=>exact call_meets F.slot_str_split rfl F.entry_str_split (F.args_str_split_2 _ _) (meets_str_split_cannot_occur x y tk b c) (one (by unfold Txt.split;rw[c];rfl))
 | false =>
  cases h1:(Builtin.Str.occurrences x y 0 x.length (x.length+1)).isEmpty with
  | true=>exact call_meets F.slot_str_split rfl F.entry_str_split (F.args_str_split_2 _ _) (meets_str_split_not_found x y tk b c d h1) (one (by unfold Txt.split;rw[c,h1];rfl))
  | false =>
   have e:Txt.split x y=Builtin.Str.partsBetween x (Builtin.Str.occurrences x y 0 x.length (x.length+1)) y.length:=by unfold Txt.split;rw[c,h1];rfl
   refine call_meets F.slot_str_split rfl F.entry_str_split (F.args_str_split_2 _ _) (meets_str_split_sep x y tk b c d h1 (by lia) (by rw[<- e];lia)) ?_
   have z:=go (strsFrom s.toks (Txt.split x y)) (s.toks+(Txt.split x y).length) (Od _ _)
   rw[e]at z
   exact z
def Oe(o:W)(ws:List W)(G:Hw)(Q:Kw):Prop:=∃ x y,o=.str x/\ws=[.str y]/\(y.length==0)=false/\x.length+2<=sizeLine/\∀ p,G p=none->Q (.ref p) (put G p (.lst ((Txt.split x y).map W.str)))
theorem aA:Mth X "str" "split" "str.split" CH Oe where
 pa:=PySem.F.plainAttrs_str
 slot:=PySem.F.slot_str_split
 ty:=PySem.F.type_str_split
 ex:=⟨_,az,λo d v g G H Q tv a r q=>by
  obtain⟨x,y,rfl,rfl,h1,h2,q⟩:=q
  cases tv
  cases a with
  | cons f a =>
   cases a
   cases f
   exact⟨x,y,rfl,rfl,h1,h2,λp b=>q p (r.no b) _ _ (Mono.new b _) (.ref p) (r.new b (N6 _))⟩⟩
 pr:=λo v G H t r h=>J1 t h
 m:=(by rintro o d G Q i h ⟨x,y,h1,h2,e,c,q⟩;exact⟨x,y,h1,h2,e,c,λp b=>h _ _ (q p b)⟩)
theorem aB:OpR X (compareOp .GtE) (λx y H Q=>∃ i j,x=.str i/\y=.str j/\Q (.bl (!Aw i j)) H):=by
 intro pins s σ H x y v u Q I b a h
 obtain⟨i,j,rfl,rfl,q⟩:=h
 obtain⟨t,rfl⟩:=b
 obtain⟨t',rfl⟩:=a
 exact PySem.P.ge_str ⟨.bl _,H,I,rfl,q⟩
theorem Of:Cop X .GtE (AG (λi j=>decide (j<=i)) (λa b=>!Aw a b)):=⟨⟨_,OpR.or L1 aB,JG⟩,JF⟩
end L3
namespace L3
open PySem PySem.Spec PyProof.Rows L2
section
variable {α:Type} {x y z:α} {xs:List α}
theorem Bv:atI (x::xs) 0=some x:=Da (j:=0) (xs:=x::xs) rfl
theorem Bw:atI (x::y::xs) 1=some y:=Da (j:=1) (xs:=x::y::xs) rfl
theorem CJ:atI (x::y::z::xs) 2=some z:=Da (j:=2) (xs:=x::y::z::xs) rfl
end
theorem Aq{w:W}{f:W->Prop}:opt (some w) f=f w:=rfl
variable {p:Addr}{o:HW}
theorem AB{G:Hw}(h:G p=none):Sub G (put G p o):=Sub.refl.put h
theorem C1{G a:Hw}(s:Sub G a)(h:a p=none):Sub G (put a p o):=s.trans (AB h)
theorem A4{G:Hw}{o':HW}:put (put G p o) p o'=put G p o':=by
 funext b;unfold put;split <;> rfl
variable {xs:List W}
theorem Ej{G:Hw}(h:G p=some (.lst xs)):Dw G (.ref p)=some xs:=by unfold Dw;dsimp only;rw[h]
theorem aC{G:Hw}(h:G p=some (.lst xs)):Dy G (.ref p)=some xs:=by unfold Dy;dsimp only;rw[h]
theorem GN{G:Hw}(h:G p=some (.lst xs)):rdL G (.ref p)=some xs:=by unfold rdL;dsimp only;rw[h]
theorem J7{G:Hw}{i:Int}(h:G p=some (.lst xs)):ixW (.ref p) (.int i) G=atI xs i:=by unfold ixW;dsimp only;rw[h]
theorem FG:∀ bs:List Bool,D8 (bs.map W.bl)=some bs
 | []=>rfl
 | b::bs=>by show(D8 (bs.map W.bl)).map (b::·)=_;rw[FG bs];rfl
theorem Og:∀ bs:List Int,D9 (bs.map W.int)=some bs
 | []=>rfl
 | b::bs=>by show(D9 (bs.map W.int)).map (b::·)=_;rw[Og bs];rfl
theorem EX{c:Hw->Prop}{ge:GE}{R:List W->Hw->Prop}{f:W->W}{G:Hw}(b:c G):∀(a:List W)(o:Option W)(ys:List W),(∀ x∈a,∀ Q:Kw,Q (f x) G->ge [some x] G Q)->
  ys.length+a.length<=sizeLine->R (ys++a.map f) G->Be c (gNm 0) A8 ge R a [o] G ys
 | [],o,ys,_,_,r=>⟨b,by simpa using r⟩
 | x::a,o,ys,h,hl,r=>by
  refine⟨b,by simp only[Yg]at hl;lia,?_⟩
  show ge [some x] G λy d=>Be c (gNm 0) A8 ge R a [some x] d (ys++[y])
  refine h x Ye _ (EX b a (some x) (ys++[f x]) (λy e=>h y (Yd _ e)) ?_ ?_)
  ·simp only[Yj,Yg,Yi]at hl ⊢;lia
  ·simpa[Yv]using r
theorem Oh{c:Hw->Prop}{ge:GE}{R:List W->Hw->Prop}{f:W->W->W}{G:Hw}(b:c G):∀(a:List (W×W))(o o':Option W)(ys:List W),(∀ x∈a,∀ Q:Kw,Q (f x.1 x.2) G->ge [some x.1,some x.2] G Q)->
  ys.length+a.length<=sizeLine->R (ys++a.map λx=>f x.1 x.2) G->Be c (D6 0 1) A8 ge R (a.map λx=>W.tup [x.1,x.2]) [o,o'] G ys
 | [],o,o',ys,_,_,r=>⟨b,by simpa using r⟩
 | x::a,o,o',ys,h,hl,r=>by
  refine⟨b,by simp only[Yg]at hl;lia,?_⟩
  show ge [some x.1,some x.2] G λy d=>Be c (D6 0 1) A8 ge R (a.map λx=>W.tup [x.1,x.2]) [some x.1,some x.2] d (ys++[y])
  refine h x Ye _ (Oh b a (some x.1) (some x.2) (ys++[f x.1 x.2]) (λy e=>h y (Yd _ e)) ?_ ?_)
  ·simp only[Yj,Yg,Yi]at hl ⊢;lia
  ·simpa[Yv]using r
theorem Oi:∀(xs ys:List W),BX xs ys=(xs.zip ys).map λx=>W.tup [x.1,x.2]
 | [],_=>by simp[BX]
 | _::_,[]=>by simp[BX]
 | x::xs,y::ys=>by simp[BX,Oi xs ys]
def spR{α:Type}(A:α->List W->Hw->Prop)(f:α->W):Spw:=λws G Q _=>∃ x,A x ws G/\Q (f x) G
theorem C2{α:Type}{A:α->List W->Hw->Prop}{f:α->W}:Spw.M (spR A f):=(by rintro c G Q a E b h _ ⟨x,h1,q⟩;exact⟨x,h1,h _ _ q⟩)
def spL{α:Type}(A:α->List W->Hw->Prop)(f:α->List W):Spw:=λws G Q _=>∃ x,A x ws G/\∀ p,G p=none->Q (.ref p) (put G p (.lst (f x)))
theorem J8{α:Type}{A:α->List W->Hw->Prop}{f:α->List W}:Spw.M (spL A f):=(by rintro d G Q b E c h _ ⟨x,h1,q⟩;exact⟨x,h1,λp a=>h _ _ (q p a)⟩)
theorem GP{α:Type}(xs:List α):Bi xs (some 1) none=xs.drop 1:=by
 have e:HT.sIx xs.length 0 (some 1)=min 1 xs.length:=HT.sIx_nat xs.length 0 1
 unfold Bi
 rw[e,HT.sIx_none]
 cases xs with
 | nil=>rfl
 | cons x xs =>
  have a:min 1 (x::xs).length=1:=by simp only[Yg];lia
  rw[a]
  show(xs.take ((xs.length+1) - 1))=xs
  rw[Nat.add_sub_cancel,List.take_length]
theorem FH{α:Type}(x:α)(xs:List α):¬ (HT.sIx (x::xs).length 0 (some 1)=0/\HT.sIx (x::xs).length (x::xs).length none=(x::xs).length):=by
 have e:HT.sIx (x::xs).length 0 (some 1)=min 1 (x::xs).length:=HT.sIx_nat (x::xs).length 0 1
 intro h
 have:=h.1
 rw[e]at this
 simp only[Yg]at this
 lia
theorem aD{G:Hw}{lo hi:Option Int}{Q:Kw}(h:G p=some (.lst xs))(q:∀ p1,G p1=none->Q (.ref p1) (put G p1 (.lst (Bi xs lo hi)))):slW (.ref p) lo hi G Q:=by
 unfold slW
 dsimp only
 rw[h]
 exact q
theorem BG{G:Hw}{q:Addr}(h:G p=some o)(h':G q=none):p≠q:=by intro e;rw[e,h']at h;cases h
variable {n:Nat}
theorem AI(h:n<=100000):n<=sizeLine:=Yt h (by decide)
theorem EY(h:n<=100000):n < sizeLine:=Nat.lt_of_le_of_lt h (by decide)
section
variable {P:Program} {w:World} {K:PySem.W.Frag} {mg:Str->Option Value} {base:Heap}
theorem ok0{x:Str}{st:Stmt}{f:Addr}{fd:FuncData}{N ps:List Str}{k:Nat}{sp:Spw}{g:GS}(F:Fun K x x st f fd)(S:Ay N ps (Aj st))(len:∀ c G Q E,sp c G Q E->c.length=ps.length)
  (n:∀{f:Addr}{cdv:Value}{A:Around}{outer:List Env}{s:Shared}{H:Hp}{E:XK},Room k (A.deeper (envOfC x (Aj st) s.heap.objs.size f cdv))->Ssm (cxW P w K mg base N x (Aj st) f cdv A outer s H E).nox (λB=>B=H) (AC st) g)
  (ok:∀ c G(Q:Kw)(E:Addr->Hw->Prop),Kw.C Q->sp c G Q E->g (Ax Q) (AZ N c) G):FnOk P w K mg base (CXe P w) (k+1) f fd ps (B2 K sp):=by
 obtain⟨y,v,kV,u,pm,I,cdv,ct,l,rfl,j,e⟩:=F.ex
 refine EG j e S ((by rintro o H Q E ⟨c,G,t,r,q⟩;rw[t.length];exact len c G _ _ q)) λA outer s H o Q E i d=>?_
 obtain⟨c,G,t,r,q⟩:=d
 have D:=n (cdv:=cdv) (outer:=outer) (H:=H) (E:=E) i
 refine⟨_,(D.p H rfl).nox,AZ N c,G,EI t,r,.refl,?_⟩
 exact D.m _ _ (Ax (dn K H Q)) _ (λa b z σ H2 m J h=>z _ H2 m Tr.non h) (λa b z=>z) (λa b z=>z.elim) (λa b z=>z.elim) (ok c G _ _ EJ q)
end
def GQ:Spw:=λws _ Q _=>∃ ns:List Int,ws=[.rol (ns.map W.int)]/\ns.length<=63/\∀ G',Q (.bl true) G'
theorem Oj{K:PySem.W.Frag}{H:Hp}:∀ ns:List Int,TrL K H (ns.map V.int) (ns.map W.int)
 | []=>.nil
 | n::ns=>.cons (.int n) (Oj ns)
variable {K:PySem.W.Frag}{H:Hp}
theorem aE{a:Addr}{ns:List Int}(hl:ns.length<=63)(c:Gh H)(b:SqL K H a (ns.map V.int)):B2 K GQ [.ref a] H (λv _=>v=.bl true) (λ_ _ _=>False):=by
 have d:RoL K H a (ns.map V.int):=by
  rcases b with(h |⟨o,h⟩)| h
  ·rcases c a with z |⟨o,xs,z⟩
   ·rw[z]at h;cases h
   ·rw[z]at h;cases h
  ·exact .inl ⟨o,h⟩
  ·exact .inr h
 exact⟨[.rol (ns.map W.int)],λ_=>none,.cons (.rol d (Oj ns)) .nil,(λa o e=>by cases e),ns,rfl,hl,λf v H' m t r=>EK t⟩
theorem aF{P:Program}{w:World}{s:Shared}{e:Value}{s':Shared}(h:CXe P w [] H s (λ_ _ _=>False) e s'):False:=by
 obtain⟨_,_,_,_,_,q⟩:=h
 exact q
section
variable {K:PySem.W.Frag} {h:Heap} {mg:Str->Option Value} (X:K.In h) (G:h.Ns mainGlobals mg)
include X G
variable {x:Str}
theorem aG{st:Stmt}{ps:List Str}{f:Addr}{i:Value}{g d:Option Addr}{e:Array (Option Value)}{kV a pm cdv ct:Value}(h:PySem.W.nsIn K mainGlobals x=some (some (.ref f)))
  (l:K.lookup f=some ⟨i,g,.func (PySem.W.fnOf x x (Bj st) (AC st) (Aj st) .none kV a pm d cdv ct),e⟩) (c:PySem.W.codeIn K cdv x=true) (k:PySem.W.keepIn K (.ref f)=true)
  (b:∀(kV a pm:Value)(d:Option Addr)(cdv ct:Value)(us:List Value),us.length=ps.length->bindArgs (PySem.W.fnOf x x (Bj st) (AC st) (Aj st) .none kV a pm d cdv ct) ⟨us,[]⟩=pure (ps.zip us)):Fn K mg st x ps :=
 ⟨f,_,PySem.W.mg_of X G h,My l c k,(My l c k).binds b⟩
theorem J9{i:Int}{t:Tok}(e:PySem.W.nsIn K mainGlobals x=some (some (.int i t))):Glb K mg x (.int i):=⟨.int i,.int i t,PySem.W.mg_of X G e,⟨t,rfl⟩,λH=>.int i⟩
theorem aH{d:Addr}{ts:List (Str×Tok)}{dd:Option Addr}{c:Array (Option Value)}(e:PySem.W.nsIn K mainGlobals x=some (some (.ref d)))(l:K.lookup d=some ⟨.type "tuple",none,.seq ((ts.map λp=>Value.str p.1 p.2).toArray) n,c⟩)(b:ts.length<=1000):
  Glb K mg x (.tup (ts.map λp=>.str p.1)):=by
 have g:∀ ts:List (Str×Tok),Vals (ts.map λp=>V.str p.1) (ts.map λp=>Value.str p.1 p.2):=λts=>by
  induction ts with
  | nil=>exact .nil
  | cons p ts a=>exact .cons ⟨p.2,rfl⟩ a
 have f:∀(H:Hp)(ts:List (Str×Tok)),TrL K H (ts.map λp=>V.str p.1) (ts.map λp=>W.str p.1):=λH ts=>by
  induction ts with
  | nil=>exact .nil
  | cons p ts a=>exact .cons (.str _) a
 refine⟨.ref d,.ref d,PySem.W.mg_of X G e,rfl,λH=>.tup (.inr ⟨_,_,n,l,rfl,rfl,rfl,?_,by simpa using g ts⟩) (f H ts)⟩
 simp only[Yn,Yh]
 exact Yt b (by decide)
end
theorem aI{h base:Heap}{mg:Str->Option Value}(X:K.In h)(G:h.Ns mainGlobals mg)(B:K.In base){x:Str}{d:Addr}{o:Obj}{es:Array DictEntry}{a:Nat}{D:List (Str×Int)}(e:PySem.W.nsIn K mainGlobals x=some (some (.ref d)))(l:K.lookup d=some o)
  (hd:(d==sysModules)=false) (f:o.ExactDict) (b:o.data=.dict es a) (c:KTD.Rows (KTD.Dat.At base) es.toList (D.map λp=>(p.1,KTD.Dat.flat (.int p.2)))):JU mg base x D :=
 ⟨d,PySem.W.mg_of X G e,hd,o,es,a,B _ _ l,f,b,c⟩
variable {b:Bool}
theorem FI{C D:Addr}(a:(Value.ref C==Value.ref D)=false)(c:(PySem.W.clsIn K D).isSome=true)(h1:PySem.W.typeIn K (.ref D)=some (.type "type"))(h2:PySem.W.subIn K (.ref C) (.ref D)=some b):PySem.W.kitOne K (.ref C) (.ref D)=some b:=by
 unfold PySem.W.kitOne PySem.W.kitCls
 rw[if_neg (by rw[a];exact YS)]
 dsimp only
 rw[if_pos (by rw[c,h1];rfl)]
 exact h2
theorem aJ{C:Addr}:PySem.W.kitOne K (.ref C) (.ref C)=some true:=by
 unfold PySem.W.kitOne
 rw[if_pos (by simp)]
theorem aK{C:Addr}{T:String}(a:PySem.W.kitMeta T=true)(h2:PySem.W.subIn K (.ref C) (.type T)=some b):PySem.W.kitOne K (.ref C) (.type T)=some b:=by
 unfold PySem.W.kitOne PySem.W.kitCls
 rw[if_neg (by intro h;cases beq_iff_eq.mp h)]
 dsimp only
 rw[if_pos a]
 exact h2
theorem aL{l:PySem.W.OpenLaw}{q:Program}{loose:List Str}{XP:(Str->Option Value)->Heap->Prop}{YP:World->Heap->Prop}{d:DefRec}{K:Params->PySem.W.Frag}{k:Nat}(j:Room k callerA)(m:l.most=some 63)(b:d.params.defaults=[])
  (o:∀(w:World)(h:Heap),YP w h->(K w.params).In h)
  (F:∀(w:World)(mg:Str->Option Value)(c:Addr)(h:Heap),(K w.params).In h->h.Ns mainGlobals mg->mg d.name=some (.ref c)->
   ∃ fd:FuncData,(∀(s:Shared)(u:Value),BindsTo s fd ⟨[u],[]⟩ [("script",u)])/\∀ base:Heap,(K w.params).In base->base.Ns mainGlobals mg->FnOk l.prog w (K w.params) mg base (CXe l.prog w) k c fd ["script"] (B2 (K w.params) GQ)):
  PySem.W.WalkO q loose XP YP l.row.toRowW d [] (λf vs=>PySem.call f vs):=
 L2.Vz (n:=63) (k:=k) (x:="script") (CX:=λw=>CXe l.prog w) (sp:=λw=>B2 (K w.params) GQ) m (by decide) b j o F (λw H a ns hl i g=>aE hl i g) λw H s e s' z=>aF z
theorem Ek{α:Type}{o:Option α}{x:α}(h:o=some x):o.isSome=true:=by rw[h];rfl
variable {us:List Value}
theorem ln0(h:us.length=0):us=[]:=List.length_eq_zero_iff.mp h
theorem ln1(h:us.length=n+1):∃ a r,us=a::r/\r.length=n:=by
 cases us with
 | nil=>cases h
 | cons a r=>exact⟨a,r,rfl,Nat.succ.inj h⟩
end L3
namespace KV
open PySem L2 L3
mutual
inductive Kd where
 | any | num | truth
 | to (a b:Kd)| box (a:Kd)| row (fs:Fs) (o:Bool)
inductive Fs where
 | nil | cons (n:Str) (m:Bool) (k:Kd) (r:Fs)
end
def mark(m:Bool):Str:=if m then "must" else "may"
mutual
def Kd.enc:Kd->W
 | .any=>.tup [.str "any"]
 | .num=>.tup [.str "num"]
 | .truth=>.tup [.str "truth"]
 | .to a b=>.tup [.str "to",a.enc,b.enc]
 | .box a=>.tup [.str "box",a.enc]
 | .row fs o=>.tup [.str "row",.tup fs.enc,.bl o]
def Fs.enc:Fs->List W
 | .nil=>[]
 | .cons n m k r=>.tup [.str n,.str (mark m),k.enc]::r.enc
end
def Fs.kinds:Fs->List Kd
 | .nil=>[]
 | .cons _ _ k r=>k::r.kinds
def Fs.names:Fs->List Str
 | .nil=>[]
 | .cons n _ _ r=>n::r.names
def Kd.kids:Kd->List Kd
 | .to a b=>[a,b]
 | .box a=>[a]
 | .row fs _=>fs.kinds
 | _=>[]
mutual
def Kd.cnt:Kd->Nat
 | .to a b=>1+(a.cnt+b.cnt)
 | .box a=>1+a.cnt
 | .row fs _=>1+fs.cnt
 | _=>1
def Fs.cnt:Fs->Nat
 | .nil=>0
 | .cons _ _ k r=>k.cnt+r.cnt
end
mutual
def Kd.dp:Kd->Nat
 | .to a b=>1+max a.dp b.dp
 | .box a=>1+a.dp
 | .row fs _=>1+fs.dp
 | _=>1
def Fs.dp:Fs->Nat
 | .nil=>0
 | .cons _ _ k r=>max k.dp r.dp
end
mutual
def Kd.all:Kd->List Kd
 | .to a b=>.to a b::(a.all++b.all)
 | .box a=>.box a::a.all
 | .row fs o=>.row fs o::fs.all
 | .any=>[.any]
 | .num=>[.num]
 | .truth=>[.truth]
def Fs.all:Fs->List Kd
 | .nil=>[]
 | .cons _ _ k r=>k.all++r.all
end
def A9:List Kd->Nat
 | []=>0
 | k::r=>k.cnt+A9 r
def dpL:List Kd->Nat
 | []=>0
 | k::r=>max k.dp (dpL r)
theorem Ka:∀ fs:Fs,fs.cnt=A9 fs.kinds
 | .nil=>rfl
 | .cons _ _ k r=>by show k.cnt+r.cnt=k.cnt+A9 r.kinds;rw[Ka r]
theorem Ol:∀ fs:Fs,fs.dp=dpL fs.kinds
 | .nil=>rfl
 | .cons _ _ k r=>by show max k.dp r.dp=max k.dp (dpL r.kinds);rw[Ol r]
theorem FJ(k:Kd):k.cnt=1+A9 k.kids:=by
 cases k with
 | to a b=>show 1+(a.cnt+b.cnt)=1+(a.cnt+(b.cnt+0));lia
 | box a=>show 1+a.cnt=1+(a.cnt+0);lia
 | row fs o=>show 1+fs.cnt=1+A9 fs.kinds;rw[Ka]
 | _=>rfl
theorem GR(k:Kd):k.dp=1+dpL k.kids:=by
 cases k with
 | to a b=>show 1+max a.dp b.dp=1+max a.dp (max b.dp 0);lia
 | box a=>show 1+a.dp=1+max a.dp 0;lia
 | row fs o=>show 1+fs.dp=1+dpL fs.kinds;rw[Ol]
 | _=>rfl
theorem On:∀(l m:List Kd),A9 (l++m)=A9 l+A9 m
 | [],m=>by simp[A9]
 | k::l,m=>by show k.cnt+A9 (l++m)=k.cnt+A9 l+A9 m;rw[On l m];lia
theorem Oo:∀(l m:List Kd),dpL (l++m)=max (dpL l) (dpL m)
 | [],m=>by simp[dpL]
 | k::l,m=>by show max k.dp (dpL (l++m))=max (max k.dp (dpL l)) (dpL m);rw[Oo l m];lia
theorem Oq(k:Kd):1<=k.cnt:=by rw[FJ];lia
theorem Kb(k:Kd):1<=k.dp:=by rw[GR];lia
theorem Os:∀ l:List Kd,A9 l=l.length+A9 (l.flatMap Kd.kids)
 | []=>rfl
 | k::l=>by
  show k.cnt+A9 l=(l.length+1)+A9 ((k::l).flatMap Kd.kids)
  rw[YZ,On,Os l,FJ k];lia
theorem Ot:∀ l:List Kd,l≠[]->dpL l=1+dpL (l.flatMap Kd.kids)
 | [],h=>Qi rfl h
 | [k],_=>by
  show max k.dp 0=1+dpL ([k].flatMap Kd.kids)
  rw[YZ,List.flatMap_nil,Yx,GR];lia
 | k::a::l,_=>by
  have b:=Ot (a::l) (by simp)
  show max k.dp (dpL (a::l))=1+dpL ((k::a::l).flatMap Kd.kids)
  rw[YZ,Oo,b,GR k];lia
theorem GU:∀ l:List Kd,l.length<=A9 l
 | []=>Yr _
 | k::l=>by have:=GU l;have:=Oq k;show l.length+1<=k.cnt+A9 l;lia
theorem Kc:∀{l:List Kd}{k:Kd},k∈l->k.cnt<=A9 l
 | a::l,k,h=>by
  show k.cnt<=a.cnt+A9 l
  walk_at "pg"
  ·lia
  ·have:=Kc h;lia
theorem Ea:∀{l:List Kd}{k:Kd},k∈l->k.dp<=dpL l
 | a::l,k,h=>by
  show k.dp<=max a.dp (dpL l)
  walk_at "pg"
  ·lia
  ·have:=Ea h;lia
theorem Ou{k c:Kd}(h:c∈k.kids):c.dp+1<=k.dp:=by rw[GR k];have:=Ea h;lia
theorem aM{k c:Kd}(h:c∈k.kids):c.cnt+1<=k.cnt:=by rw[FJ k];have:=Kc h;lia
theorem Ov(k:Kd):k.kids.length+1<=k.cnt:=by rw[FJ k];have:=GU k.kids;lia
theorem Ow:∀ fs:Fs,fs.enc.length=fs.kinds.length
 | .nil=>rfl
 | .cons _ _ k r=>by show r.enc.length+1=r.kinds.length+1;rw[Ow r]
def Kd.unk:Kd->Bool
 | .any=>true
 | .row _ o=>o
 | _=>false
def Kd.fb:Kd->Bool
 | .to _ _=>true
 | .box _=>true
 | _=>false
def Kd.known(k:Kd):Bool:=!(k.all.any Kd.unk)
def Kd.data(k:Kd):Bool:=!(k.all.any Kd.fb)
def Kd.hd:Kd->Str
 | .any=>"any"
 | .num=>"num"
 | .truth=>"truth"
 | .to _ _=>"to"
 | .box _=>"box"
 | .row _ _=>"row"
def Kd.own:Kd->List Str
 | .row _ o=>if o then["row","open"]else["row"]
 | k=>[k.hd]
def El(z:Str):Bool:=!Aw z "a"&&!Aw "z" z
def AK(n:Str):Bool:=decide (1<=n.length)&&decide (n.length<=8)&&n.cps.toList.all λc=>El ⟨#[c]⟩
def A1:List Str->Bool
 | a::b::r=>Aw a b&&A1 (b::r)
 | _=>true
mutual
def Kd.ok:Kd->Bool
 | .to a b=>a.ok&&b.ok
 | .box a=>a.ok
 | .row fs _=>A1 fs.names&&fs.ok
 | _=>true
def Fs.ok:Fs->Bool
 | .nil=>true
 | .cons n _ k r=>AK n&&k.ok&&r.ok
end
theorem Cg(n:Bool)(i j:Int)(G:Hw):eqF n (.int i) (.int j) G=some (.bl ((i==j) != n)):=rfl
theorem Cz(n:Bool)(i j:Str)(G:Hw):eqF n (.str i) (.str j) G=some (.bl ((i==j) != n)):=rfl
open PySem PySem.Spec PyProof.Rows L2 L3
abbrev Ke:Stmt:=top 23
abbrev Kf:Stmt:=top 24
abbrev Kg:Stmt:=top 22
abbrev Kh:Stmt:=top 21
abbrev Ki:Stmt:=top 20
abbrev Kj:Stmt:=top 19
abbrev Kk:Stmt:=top 18
abbrev Kl:Stmt:=top 17
abbrev GV:Stmt:=top 16
abbrev Km:Stmt:=top 15
abbrev FK:Stmt:=AW (top 26) 0
abbrev FL:Stmt:=AW (top 26) 1
abbrev FM:Stmt:=AW (top 26) 2
abbrev En:Stmt:=AW (top 26) 3
abbrev Eo:Stmt:=AW (top 26) 4
abbrev FN:Stmt:=AW (top 26) 5
abbrev FO:Stmt:=top 28
abbrev FP:Stmt:=top 29
abbrev FQ:Stmt:=top 30
abbrev FR:Stmt:=top 31
abbrev FT:Stmt:=top 32
abbrev FU:Stmt:=top 33
abbrev Kn:Stmt:=top 35
abbrev Ko:Stmt:=top 36
abbrev Kp:Stmt:=top 37
abbrev GW:Stmt:=top 38
abbrev GX:Stmt:=top 39
abbrev Kq:Stmt:=top 40
abbrev GY:Stmt:=top 41
abbrev Kr:Stmt:=top 42
abbrev Ks:Stmt:=top 43
abbrev Kt:Stmt:=top 46
abbrev Ku:Stmt:=top 47
abbrev Kv:Stmt:=top 48
abbrev Kx:Stmt:=top 49
abbrev Ky:Stmt:=top 50
abbrev Kz:Stmt:=top 51
abbrev EZ:Stmt:=top 52
def Ox:List (Str×Int):=[("any",1),("num",1),("truth",1),("to",3),("box",2),("row",3)]
structure Adr where
 CastError:Addr
 NoKind:Addr
 NoTerm:Addr
 BadUse:Addr
 NoValue:Addr
 NoNumber:Addr
 BadNote:Addr
 Reader:Addr
structure Fns(K:PySem.W.Frag)(mg:Str->Option Value):Prop where
 aN:Fn K mg Ke "is_small_letter" ["sign"]
 aO:Fn K mg Kf "names_rise" ["names"]
 aP:Fn K mg Kg "is_name" ["thing"]
 aQ:Fn K mg Kh "is_field" ["thing"]
 aR:Fn K mg Ki "are_fields" ["thing"]
 aS:Fn K mg Kj "has_form" ["thing"]
 aT:Fn K mg Kk "kinds_within" ["kind"]
 aU:Fn K mg Kl "layer_within" ["layer","things_within"]
 aV:Fn K mg GV "is_made_of" ["thing","is_formed","things_within","most","deepest"]
 aW:Fn K mg Km "is_kind" ["thing"]
 aX:Fn K mg FO "kind_read" ["text"]
 Oy:Fn K mg FP "kind_from" ["reader","depth"]
 Oz:Fn K mg FQ "function_from" ["reader","depth"]
 OA:Fn K mg FR "box_from" ["reader","depth"]
 OC:Fn K mg FT "row_from" ["reader","depth"]
 aY:Fn K mg FU "field_from" ["reader","depth"]
 aZ:Fn K mg Kn "_law_state" ["script","k"]
 a6:Fn K mg Ko "_law_take" ["state","many"]
 OD:Fn K mg Kp "_law_kind" ["state","deep"]
 a7:Fn K mg GW "_law_which" ["e"]
 OF:Fn K mg GX "_law_renamed" ["kind","names"]
 a8:Fn K mg Kq "_law_some_names" ["state"]
 OG:Fn K mg GY "_law_text" ["kind"]
 a9:Fn K mg Kr "_law_inner" ["kind"]
 OH:Fn K mg Ks "_law_count" ["kind"]
 KA:Fn K mg Kt "_law_read" ["text","at","deep"]
 OI:Fn K mg Ku "_law_fields" ["text","at","deep"]
 ba:Fn K mg Kv "_law_due" ["text"]
 bb:Fn K mg Kx "_law_odd" ["state"]
 bc:Fn K mg Ky "_law_spoiled" ["state","text"]
 bd:Fn K mg Kz "_law_told" ["text"]
 be:Fn K mg EZ "law" ["script"]
structure Bls(mg:Str->Option Value):Prop where
 bf:mg "ValueError"=none
 FV:mg "all"=none
 bg:mg "bool"=none
 OJ:mg "int"=none
 Ct:mg "isinstance"=none
 KB:mg "len"=none
 OK:mg "list"=none
 bh:mg "range"=none
 bi:mg "str"=none
 OL:mg "sum"=none
 KC:mg "tuple"=none
 bj:mg "zip"=none
structure Tx(K:PySem.W.Frag)(mg:Str->Option Value)(base:Heap)(a:Adr):Prop extends Fns K mg,Bls mg where
 OM:mg "CastError"=some (.ref a.CastError)
 ON:mg "NoKind"=some (.ref a.NoKind)
 OO:mg "NoTerm"=some (.ref a.NoTerm)
 OP:mg "BadUse"=some (.ref a.BadUse)
 OQ:mg "NoValue"=some (.ref a.NoValue)
 OR:mg "NoNumber"=some (.ref a.NoNumber)
 Ep:mg "BadNote"=some (.ref a.BadNote)
 bn:mg "Reader"=some (.ref a.Reader)
 E1:PySem.W.excIn K a.BadNote [.type "ValueError",.type "Exception",.type "BaseException",.type "object"] "ValueError.__new__"=true
 OS:PySem.W.typeIn K (.ref a.CastError)=some (.type "type")
 OT:(PySem.W.clsIn K a.CastError).isSome=true
 OU:PySem.W.subIn K (.ref a.CastError) (.type "BaseException")=some true
 OV:Glb K mg "MARKS" (.tup [(.str "must"),(.str "may")])
 OW:Glb K mg "MOST_DEPTH" (.int 8)
 OX:Glb K mg "MOST_KINDS" (.int 40)
 OY:Glb K mg "MOST_LETTERS" (.int 8)
 OZ:JU mg base "LENGTHS" Ox
 O0:PySem.W.subIn K (.ref a.BadNote) (.ref a.CastError)=some true
 O1:Ef K a.BadNote
 O2:PySem.W.kitOne K (.ref a.BadNote) (.ref a.NoKind)=some false
 O3:PySem.W.kitOne K (.ref a.BadNote) (.ref a.NoTerm)=some false
 O4:PySem.W.kitOne K (.ref a.BadNote) (.ref a.BadUse)=some false
 O5:PySem.W.kitOne K (.ref a.BadNote) (.ref a.NoValue)=some false
 O6:PySem.W.kitOne K (.ref a.BadNote) (.ref a.NoNumber)=some false
 O7:PySem.W.kitOne K (.ref a.BadNote) (.ref a.BadNote)=some true
 O8:PySem.W.kitOne K (.ref a.BadNote) (.type "ValueError")=some true
 AL:Cls K a.Reader
 B5:NoAttr K a.Reader "place"
 CK:NoAttr K a.Reader "text"
 GZ:FnI K mg "Reader" a.Reader FK "Reader.__init__" ["self","text"]
 G9:FnM K a.Reader FL "sees" "Reader.sees" ["self","piece"]
 Ha:FnM K a.Reader FM "takes" "Reader.takes" ["self","piece"]
 Hb:FnM K a.Reader En "wants" "Reader.wants" ["self","piece"]
 Hd:FnM K a.Reader Eo "wants_end" "Reader.wants_end" ["self"]
 He:FnM K a.Reader FN "word" "Reader.word" ["self"]
def Dn(P:Program)(w:World)(K:PySem.W.Frag)(mg:Str->Option Value)(base:Heap)(N:List Str)(x:Str)(st:Stmt)(k:Nat)(g:GS):Prop:=∀{f:Addr}{cdv:Value}{A:Around}{outer:List Env}{s:Shared}{H:Hp}{E:XK},Room k (A.deeper (envOfC x (Aj st) s.heap.objs.size f cdv))->Ssm (cxW P w K mg base N x (Aj st) f cdv A outer s H E).nox (λB=>B=H) (AC st) g
variable {K:PySem.W.Frag}{mg:Str->Option Value}{base:Heap}{x:Str}{st:Stmt}{ps:List Str}{k n:Nat}{sp:Spw}
theorem mk0{P:Program}{w:World}{N:List Str}{g:GS}(Fx:Fn K mg st x ps)(c:ps.length=n)(S:Ay N ps (Aj st))(b:sp.M)(len:∀ a G Q E,sp a G Q E->a.length=n)(d:Dn P w K mg base N x st k g)(ok:∀ a G(Q:Kw)(E:Addr->Hw->Prop),Kw.C Q->sp a G Q E->g (Ax Q) (AZ N a) G):Df P w K mg base x (k+1) n sp:=L3.mk0 Fx c S b len d ok
set_option hygiene false in
local macro_rules | `(tactic| walk_at "s") => `(tactic| exact ⟨rfl, rfl, rfl, by decide +kernel, rfl, by decide +kernel, by decide +kernel⟩)
set_option hygiene false in
local macro_rules | `(tactic| walk_at "c") => `(tactic| first | exact XX hu | exact XY hu | exact XZ | exact X0 | exact XU | exact JH | exact XW | exact XT | exact al | exact cop_isn | exact cop_inT hu | exact cop_nInT hu | exact cop_nInU hu | exact cop_isB | exact cop_isT | exact Of | exact cop_inN hu | exact cop_inK | exact cop_ninK | exact ar)
set_option hygiene false in
local macro_rules | `(tactic| walk_at "b") => `(tactic| first | refine CU FC (Fw rfl) rfl T.FV (by decide) rfl rfl rfl ?_ | refine GH Nu (X9) rfl T.OJ (by decide) rfl rfl rfl ?_ | refine CU JS (JJ) rfl T.KB (by decide) rfl rfl rfl ?_ | refine GH Nt (X6) rfl T.OK (by decide) rfl rfl rfl ?_ | refine CU Nr (Ni rfl) rfl T.OL (by decide) rfl rfl rfl ?_ | refine GH JT (Nj) rfl T.KC (by decide) rfl rfl rfl ?_ | refine Fz (T := "tuple") (by decide) JT T.KC T.Ct rfl rfl (by decide) rfl rfl rfl ?_ | refine Fz (T := "list") (by decide) Nt T.OK T.Ct rfl rfl (by decide) rfl rfl rfl ?_ | refine Fz (T := "str") (by decide) Zf T.bi T.Ct rfl rfl (by decide) rfl rfl rfl ?_ | refine Fz (T := "int") (by decide) Nu T.OJ T.Ct rfl rfl (by decide) rfl rfl rfl ?_ | refine Fz (T := "bool") (by decide) Zg T.bg T.Ct rfl rfl (by decide) rfl rfl rfl ?_ | refine Zl T.OZ rfl rfl rfl rfl rfl rfl rfl ?_ | refine Cp JN rfl rfl rfl rfl rfl ?_ ?_ | refine Cp Nl rfl rfl rfl rfl rfl ?_ ?_ | refine Cp NT rfl rfl rfl rfl rfl ?_ ?_ | refine Cp NV rfl rfl rfl rfl rfl ?_ ?_ | refine Cp aA rfl rfl rfl rfl rfl ?_ ?_ | refine Cp ZM rfl rfl rfl rfl rfl ?_ ?_ | refine Cp mth_get rfl rfl rfl rfl rfl ?_ ?_ | exact GK T.OV rfl rfl | exact GK T.OW rfl rfl | exact GK T.OX rfl rfl | exact GK T.OY rfl rfl)
set_option hygiene false in
local macro_rules | `(tactic| walk_at "v") => `(tactic| (first | (show Am _ _ _; first | exact Bm | refine AV rfl ?_ ?_) | (show Em _ _ _; first | exact Zi rfl rfl rfl rfl | exact EO | exact EQ | refine Gs (fun _ _ => rfl) ?_ ?_ | refine BU (by assumption) (hr.mono (by assumption)) rfl Eg rfl rfl rfl ?_ | refine MX ?_ | refine Jz ?_ | exact W3 | refine X1 (by walk_at "c") rfl ?_ ?_ | refine EU ?_ ?_ | refine W6 ?_ ?_ | refine W9 ?_ ?_ | refine W7 ?_ ?_ | refine ZP ?_ ?_ | refine W8 ?_ ?_ | refine Xa ?_ ?_ | walk_at "b" | exact W4 | refine M0 ?_ ?_ ?_ | refine MZ ?_ ?_ | refine Xb ?_ ?_ | refine MY ?_ | refine em_not ?_ | refine W5 ?_ ?_ | refine NZ ?_ ?_ ?_ | refine XR ?_ ?_ ?_ | refine X2 (by walk_at "c") (by walk_at "c") rfl ?_ ?_ ?_ | refine em_ixK (fun _ _ => rfl) ?_ ?_ | exact em_dict0 | refine em_sortI rfl T.n_sorted rfl rfl rfl rfl ?_ | refine em_sortUD rfl T.n_sorted T.n_set rfl rfl rfl rfl rfl ?_ ?_) | (show Tm _ _ _; first | refine GF (by walk_at "c") rfl ?_ ?_ | refine ER ?_ | refine JA ?_ | refine Ca (fun _ => rfl) ?_ | refine X3 (by walk_at "c") (by walk_at "c") rfl ?_ ?_ ?_) | (show Ssm _ _ _ _; first | refine Ar ?_ ?_ | exact BC | refine A0 ?_) | (show Sm _ _ _ _; first | refine BJ ?_ | refine Ce hN rfl rfl rfl ?_ | refine BD ?_ ?_ ?_ | refine CF rfl ?_ | refine M1 PassesOwn.never rfl (fun _ => rfl) ?_ ?_ ?_ | refine Fv PassesOwn.never ?_ ?_ | refine Zj hN rfl rfl ?_ | refine XO (fun _ => rfl) rfl rfl rfl ?_ ?_ ?_ | refine sm_asg rfl rfl rfl ?_ ?_ | refine sm_sc hN rfl rfl rfl rfl ?_ | exact sm_pass | exact sm_never | refine sm_setK (fun _ => rfl) rfl rfl rfl ?_ ?_ ?_) | (show Wm _ _ _; first | refine JC ?_ ?_ | refine Xe ?_ ?_ | refine JB ?_ | refine Xd ?_) | (show Im _ _ _ _; first | refine ZT ?_ | refine Xf (fun _ _ => rfl) ?_ | refine Ze T.bh rfl rfl ?_) | (show Om _ _ _; first | exact XQ | refine Ng ?_) | (show Fm _ _ _; first | exact Cq | refine fm_one ?_) | exact MP hN rfl (.inl rfl) (.inr rfl) | exact Zo rfl hN rfl (.inl rfl) (.inr rfl) rfl (.inl rfl) (.inr rfl) rfl (.inl rfl) (.inr rfl) | exact tg_two rfl hN rfl (.inl rfl) (.inr rfl) rfl (.inl rfl) (.inr rfl) | exact tg_two rfl hN rfl (.inr rfl) (.inl rfl) rfl (.inl rfl) (.inr rfl) | exact MP hN rfl (.inr rfl) (.inl rfl)) <;> walk_at "v")
set_option hygiene false in
local macro_rules | `(tactic| walk_at "z") => `(tactic| (intro f cdv A outer s H E hr; have hu := A3 hr; walk_at "v"))
variable {P:Program} {w:World} {K:PySem.W.Frag} {mg:Str->Option Value} {base:Heap} {a:Adr}
abbrev O9:List Str:=["sign"]
theorem Pa:Ay O9 ["sign"] (Aj Ke):=by walk_at "s"
def Pc:GS:=(Ag (Bo (AG (λi j=>decide (i<=j)) (λa b=>!Aw b a)) (AG (λi j=>decide (i<=j)) (λa b=>!Aw b a)) (gC (.str "a")) (Aa 0) (gC (.str "z"))))
theorem bo(T:Tx K mg base a):Dn P w K mg base O9 "is_small_letter" Ke k (Pc):=by
 have hN:=Pa.nd
 walk_at "z"
abbrev Pd:List Str:=["names"]
theorem Pe:Ay Pd ["names"] (Aj Kf):=by walk_at "s"
def Pf:GS:=(Ag (gB (rF BE) (Ab (Bd (Cf (Ab (Aa 0) (Ab (gSl (Aa 0) (Ao (gC (.int 1))) AJ) Ad))) 2 (D6 0 1) A8 (Ac (AG (λi j=>decide (i < j)) Aw) (Aa 0) (Aa 1))) Ad)))
theorem bp(T:Tx K mg base a):Dn P w K mg base Pd "names_rise" Kf k (Pf):=λ{f cdv A outer s H E}hr=>
 have hu:=A3 hr
 have hN:=Pe.nd
 (A0 (BJ (CU FC (Fw rfl) rfl T.FV (by decide) rfl rfl rfl (AV rfl (DB (Nc:=["one","other"]) rfl (Dt rfl (by decide +kernel) (by decide +kernel)) (λ_=>rfl) (ah T.bj rfl rfl rfl (by walk_at "v")) (WZ (i:=0) (j:=1) rfl (by decide) rfl rfl rfl rfl) (λC fp s1 H1=>Cq) (λC fp s1 H1=>(by walk_at "v"))) Bm))))
abbrev Pg:List Str:=["thing"]
theorem Ph:Ay Pg ["thing"] (Aj Kg):=by walk_at "s"
def Pi(Dg:Spw):GS:=(Ae (gIf (gOr (gNt (AM (By "str" (Aa 0)))) (gNt (gTB (Bo (AG (λi j=>decide (i<=j)) (λa b=>!Aw b a)) (AG (λi j=>decide (i<=j)) (λa b=>!Aw b a)) (gC (.int 1)) (gB (rF Az) (Ab (Aa 0) Ad)) (gC (.int 8)))))) (Ag (gC (.bl false))) Al) (Ag (gB (rF BE) (Ab (Bd (AU (Aa 0)) 1 (gNm 0) A8 (Ak Dg XF (Ab (Aa 0) Ad))) Ad))))
variable {Dg:Spw}
theorem bq(T:Tx K mg base a){DH:Nat}(Pj:Df P w K mg base "is_small_letter" DH 1 Dg)(Pk:DH<=k):Dn P w K mg base Pg "is_name" Kg k (Pi Dg):=λ{f cdv A outer s H E}hr=>
 have hu:=A3 hr
 have hN:=Ph.nd
 (Ar (by walk_at "v") (A0 (BJ (CU FC (Fw rfl) rfl T.FV (by decide) rfl rfl rfl (AV rfl (DB (Nc:=["sign"]) rfl (Dt rfl (by decide +kernel) (by decide +kernel)) (λ_=>rfl) (by walk_at "v") (D7 (i:=0) (by decide) rfl rfl) (λC fp s1 H1=>Cq) (λC fp s1 H1=>(by walk_at "v"))) Bm)))))
abbrev Pl:List Str:=["thing"]
theorem Pm:Ay Pl ["thing"] (Aj Kh):=by walk_at "s"
def Pn(Hf:Spw):GS:=(Ae (gIf (gOr (gNt (AM (By "tuple" (Aa 0)))) (gTB (Ac (Af (eqF true)) (gB (rF Az) (Ab (Aa 0) Ad)) (gC (.int 3))))) (Ag (gC (.bl false))) Al) (Ag (BI (Ak Hf XF (Ab (Ac (Af ixW) (Aa 0) (gC (.int 0))) Ad)) (Ac (Af (inF false)) (Ac (Af ixW) (Aa 0) (gC (.int 1))) (gC (.tup [(.str "must"),(.str "may")]))))))
theorem br(T:Tx K mg base a){Hg:Nat}{Hf:Spw}(e9:Df P w K mg base "is_name" Hg 1 Hf)(fe:Hg<=k):Dn P w K mg base Pl "is_field" Kh k (Pn Hf):=by
 have hN:=Pm.nd
 walk_at "z"
abbrev Po:List Str:=["thing"]
theorem Pp:Ay Po ["thing"] (Aj Ki):=by walk_at "s"
def Pr(Hh:Spw)(Hi:Spw):GS:=(Ae (gIf (gNt (AM (By "tuple" (Aa 0)))) (Ag (gC (.bl false))) Al) (Ag (BI (gB (rF BE) (Ab (Bd (AU (Aa 0)) 1 (gNm 0) A8 (Ak Hh XF (Ab (Aa 0) Ad))) Ad)) (Ak Hi XF (Ab (Bd (AU (Aa 0)) 1 (gNm 0) A8 (Ac (Af ixW) (Aa 0) (gC (.int 0)))) Ad)))))
theorem bu(T:Tx K mg base a){Hj:Nat}{Hh:Spw}(ff:Df P w K mg base "is_field" Hj 1 Hh)(fg:Hj<=k){Hk:Nat}{Hi:Spw}(bv:Df P w K mg base "names_rise" Hk 1 Hi)(bw:Hk<=k):Dn P w K mg base Po "are_fields" Ki k (Pr Hh Hi):=λ{f cdv A outer s H E}hr=>
 have hu:=A3 hr
 have hN:=Pp.nd
 (Ar (by walk_at "v") (A0 (BJ (MZ (CU FC (Fw rfl) rfl T.FV (by decide) rfl rfl rfl (AV rfl (DB (Nc:=["part"]) rfl (Dt rfl (by decide +kernel) (by decide +kernel)) (λ_=>rfl) (by walk_at "v") (D7 (i:=0) (by decide) rfl rfl) (λC fp s1 H1=>Cq) (λC fp s1 H1=>(by walk_at "v"))) Bm)) (MY (BU bv (hr.mono bw) rfl Eg rfl rfl rfl (AV rfl (DB (Nc:=["part"]) rfl (Dt rfl (by decide +kernel) (by decide +kernel)) (λ_=>rfl) (by walk_at "v") (D7 (i:=0) (by decide) rfl rfl) (λC fp s1 H1=>Cq) (λC fp s1 H1=>(by walk_at "v"))) Bm)))))))
local macro_rules | `(tactic| walk_at "rd") => `(tactic| ((try dsimp only [Ae,gIf,Ag,Ai,AF,Al,Aa,gC,Ac,gTB,AM,gNt,Bh,gOr,BI,B3,BR,Ap,As,Ab,Ad,Ak,gB,rF,Af,By,gMt,BV,Bo,AG,AT,Av,A5,BW,gSl,Ao,AJ,Bd,AU,Cf,Ax,AZ,List.map_cons,List.map_nil,List.length_cons,List.length_nil,List.cons_append,List.nil_append,List.getElem?_cons_zero,List.getElem?_cons_succ,List.set_cons_zero,List.set_cons_succ,List.replicate,A7,tyN,Aq,Bv,Bw,CJ,ixW,Cg,Cz,Az,Bn,BE,List.getElem?_nil]); (try simp only [Ae,gIf,Ag,Ai,AF,Al,Aa,gC,Ac,gTB,AM,gNt,Bh,gOr,BI,B3,BR,Ap,As,Ab,Ad,Ak,gB,rF,Af,By,gMt,BV,Bo,AG,AT,Av,A5,BW,gSl,Ao,AJ,Bd,AU,Cf,Ax,AZ,List.map_cons,List.map_nil,List.length_cons,List.length_nil,List.cons_append,List.nil_append,List.getElem?_cons_zero,List.getElem?_cons_succ,List.set_cons_zero,List.set_cons_succ,List.replicate,A7,tyN,Aq,Bv,Bw,CJ,ixW,Cg,Cz,Az,Bn,BE,List.getElem?_nil])))
abbrev bx:Spw:=spR (λ(z:Str)ws _=>ws=[.str z]) λz=>.bl (El z)
theorem DH(T:Tx K mg base a):Df P w K mg base "is_small_letter" 1 1 bx:=by
 refine mk0 T.aN rfl Pa C2 ((by rintro b G Q E ⟨z,e,_⟩;rw[e];rfl)) (bo T) λb G Q E c q=>?_
 obtain⟨z,rfl,q⟩:=q
 unfold Pc
 walk_at "rd"
 dsimp only at q
 unfold El at q
 refine Ds (λh=>?_) (λh=>?_)
 ·rw[h]at q;simpa using q
 ·rw[Bool.eq_false_iff.mpr h]at q;simpa using q
theorem Ps:∀ ns:List Str,A1 ns=((ns.zip (ns.drop 1)).map λx=>Aw x.1 x.2).all id
 | []=>rfl
 | [_]=>rfl
 | a::b::r=>by
  show(Aw a b&&A1 (b::r))=_
  rw[Ps (b::r)];rfl
abbrev bz:Spw:=spR (λ(ns:List Str)ws G=>∃ p,ws=[.ref p]/\G p=some (.lst (ns.map W.str))/\ns.length<=2000) λns=>.bl (A1 ns)
def ltW(x y:W):W:=match x,y with | .str a,.str b=>.bl (Aw a b)| _,_=>.non
theorem Hk(T:Tx K mg base a):Df P w K mg base "names_rise" 1 1 bz:=by
 refine mk0 T.aO rfl Pe C2 ((by rintro k G Q E ⟨ns,⟨p,e,_⟩,_⟩;rw[e];rfl)) (bp T) λk G Q E h q=>?_
 obtain⟨ns,⟨p,rfl,g,hl⟩,q⟩:=q
 unfold Pf
 walk_at "rd"
 refine aD g λp1 h1=>?_
 have c:=BG g h1
 have d:rdL (put G p1 (.lst (Bi (ns.map W.str) (some 1) none))) (.ref p)=some (ns.map W.str):=GN (by rw[AH c];exact g)
 have b:rdL (put G p1 (.lst (Bi (ns.map W.str) (some 1) none))) (.ref p1)=some (Bi (ns.map W.str) (some 1) none):=GN An
 simp only[d,b]
 rw[GP,<- List.map_drop,Oi,List.zip_map,YB]
 have l:((λx:W×W=>W.tup [x.1,x.2])∘Prod.map W.str W.str)=(λx:W×W=>W.tup [x.1,x.2])∘λx:Str×Str=>(W.str x.1,W.str x.2):=rfl
 rw[l,<- YB]
 refine Oh (f:=ltW) ⟨by rw[GP,<- List.map_drop]at d;exact d,by rw[GP,<- List.map_drop]at b;exact b⟩ _ none none [] (λx j n m=>?_) ?_ ?_
 ·obtain⟨y,o,rfl⟩:=YC.mp j
  exact m
 ·rw[Yh,List.length_zip]
  exact AI (by simp only[Yi];lia)
 ·intro p2 h2
  rw[YB]
  have i:((λx:W×W=>ltW x.1 x.2)∘λx:Str×Str=>(W.str x.1,W.str x.2))=W.bl∘λx:Str×Str=>Aw x.1 x.2:=rfl
  rw[i,<- YB,Yw]
  simp only[Ej An,Option.bind_some,FG,YD,Aq]
  rw[<- Ps]
  exact h _ _ _ (C1 (AB h1) h2) q
abbrev bA:Spw:=spR (λ(z:Str)ws _=>ws=[.str z]/\z.length<=100000) λz=>.bl (AK z)
def Pt(x:W):W:=match x with | .str z=>.bl (El z)| _=>.non
theorem Hg(T:Tx K mg base a):Df P w K mg base "is_name" 2 1 bA:=by
 refine mk0 T.aP rfl Ph C2 ((by rintro l G Q E ⟨z,⟨e,_⟩,_⟩;rw[e];rfl)) (bq T (DH T) (Yr _)) λl G Q E j q=>?_
 obtain⟨z,⟨rfl,h⟩,q⟩:=q
 unfold Pi
 walk_at "rd"
 have g:z.length<=sizeLine:=AI h
 have o:CW "str" "str"=true:=by decide
 simp only[o,g,if_true,Aq,YF,Yq,if_false]
 unfold AK at q
 by_cases h1:1<=z.length
 ·by_cases i:z.length<=8
  ·have b:(1:Int)<=(z.length:Int):=by lia
   have d:(z.length:Int)<=8:=by lia
   simp only[b,d,decide_true,if_true,YF,Yq,if_false]
   refine EX (f:=Pt) trivial (Co z) none [] (λx k s m=>?_) ?_ ?_
   ·obtain⟨c,hc,rfl⟩:=YC.mp k
    exact⟨_,rfl,m⟩
   ·rw[Co,Yh]
    exact AI (by show 0+z.cps.toList.length<=100000;rw[Nat.zero_add];simpa[Str.length]using h)
   ·intro p n
    have r:(Co z).map Pt=(z.cps.toList.map λc=>El ⟨#[c]⟩).map W.bl:=by
     unfold Co;rw[YB,YB];rfl
    rw[Yw,r]
    simp only[Ej An,Option.bind_some,FG,YD,Aq]
    rw[List.all_map]
    simp only[h1,i,decide_true,Bool.true_and]at q
    exact j _ _ _ (AB n) q
  ·have b:(1:Int)<=(z.length:Int):=by lia
   have d:¬ (z.length:Int)<=8:=by lia
   simp only[h1,i,decide_true,decide_false,Bool.true_and,Bool.false_and]at q
   simp only[b,d,decide_true,decide_false,if_true,YM,Yq,if_false]
   exact q
 ·have b:¬ (1:Int)<=(z.length:Int):=by lia
  simp only[h1,decide_false,Bool.false_and]at q
  simp only[b,decide_false,if_true,YM,Yq,if_false]
  exact q
set_option hygiene false in
set_option hygiene false in
set_option hygiene false in
set_option hygiene false in
set_option hygiene false in
abbrev Pu:List Str:=["self","text"]
theorem Pv:Ay Pu ["self","text"] (Aj FK):=by walk_at "s"
def Pw(K:PySem.W.Frag)(a:Adr):GS:=(Ae (DC a.Reader "text" (Aa 1) (Aa 0)) (DC a.Reader "place" (gC (.int 0)) (Aa 0)))
theorem bB(T:Tx K mg base a):Dn P w K mg base Pu "Reader.__init__" FK k (Pw K a):=λ{f cdv A outer s H E}hr=>
 have hu:=A3 hr
 have hN:=Pv.nd
 (Ar (NL T.AL T.CK rfl (by walk_at "v") (by walk_at "v")) (A0 (NL T.AL T.B5 rfl EO (by walk_at "v"))))
abbrev Px:List Str:=["self","piece"]
theorem Py:Ay Px ["self","piece"] (Aj FL):=by walk_at "s"
def Pz(K:PySem.W.Frag)(a:Adr):GS:=(Ag (gMt CH FD (BF a.Reader "text" (Aa 0)) (Ab (Aa 1) (Ab (BF a.Reader "place" (Aa 0)) Ad))))
theorem bC(T:Tx K mg base a):Dn P w K mg base Px "Reader.sees" FL k (Pz K a):=λ{f cdv A outer s H E}hr=>
 have hu:=A3 hr
 have hN:=Py.nd
 (A0 (BJ (Cp NT rfl rfl rfl rfl rfl (CG T.AL T.CK rfl (by walk_at "v")) (AV rfl (by walk_at "v") (AV rfl (CG T.AL T.B5 rfl (by walk_at "v")) Bm)))))
abbrev PB:List Str:=["self","piece"]
theorem PC:Ay PB ["self","piece"] (Aj FM):=by walk_at "s"
def PD(K:PySem.W.Frag)(a:Adr)(Hl:Spw):GS:=(Ae (gIf (gNt (AM (AS a.Reader "sees" Hl XF (Aa 0) (Ab (Aa 1) Ad)))) (Ag (gC (.bl false))) Al) (Ae (DD a.Reader "place" (Aa 0) (gB (rF Az) (Ab (Aa 1) Ad))) (Ag (gC (.bl true)))))
theorem bD(T:Tx K mg base a){k_Reader_sees:Nat}{Hl:Spw}(bE:DfM P w K mg base a.Reader "sees" k_Reader_sees 2 Hl)(h_Reader_sees:k_Reader_sees<=k):Dn P w K mg base PB "Reader.takes" FM k (PD K a Hl):=λ{f cdv A outer s H E}hr=>
 have hu:=A3 hr
 have hN:=PC.nd
 (Ar (BD (ER (Ca (λ_=>rfl) (BZ T.AL bE (hr.mono h_Reader_sees) Eg rfl rfl rfl (by walk_at "v") (by walk_at "v")))) (by walk_at "v") BC) (Ar (NM T.AL T.B5 (by walk_at "v") (by walk_at "v")) (by walk_at "v")))
abbrev PH:List Str:=["self","piece"]
theorem PJ:Ay PH ["self","piece"] (Aj En):=by walk_at "s"
def KD(K:PySem.W.Frag)(a:Adr)(Bf:Spw)(E:Addr->Hw->Prop):GS:=(gIf (gNt (AM (AS a.Reader "takes" Bf (λ_=>E) (Aa 0) (Ab (Aa 1) Ad)))) (CV a.BadNote E (Ab (gFR (Aa 1)) Ad)) Al)
variable {k_Reader_takes:Nat}{Bf:Spw}{cdv:Value}{A:Around}{outer:List Env}{H:Hp}{E:XK}
theorem bF(T:Tx K mg base a)(CL:DfM P w K mg base a.Reader "takes" k_Reader_takes 2 Bf)(h_Reader_takes:k_Reader_takes<=k){f:Addr}{s:Shared}(hr:Room k (A.deeper (envOfC "Reader.wants" (Aj En) s.heap.objs.size f cdv))):Ssm (cxW P w K mg base PH "Reader.wants" (Aj En) f cdv A outer s H E) (λB=>B=H) (AC En) (KD K a Bf (dnX K H E)):=
 have hu:=A3 hr
 have hN:=PJ.nd
 (A0 (BD (ER (Ca (λ_=>rfl) (BZ T.AL CL (hr.mono h_Reader_takes) A2 rfl rfl rfl (by walk_at "v") (by walk_at "v")))) (A0 (Fy T.Ep T.E1 PySem.F.excBase_ValueError rfl rfl rfl rfl (AV rfl (aw (by decide +kernel) (by walk_at "v")) Bm))) BC))
abbrev PK:List Str:=["self"]
theorem PL:Ay PK ["self"] (Aj Eo):=by walk_at "s"
def KG(K:PySem.W.Frag)(a:Adr)(E:Addr->Hw->Prop):GS:=(gIf (gTB (Ac (AG (λi j=>decide (i < j)) Aw) (BF a.Reader "place" (Aa 0)) (gB (rF Az) (Ab (BF a.Reader "text" (Aa 0)) Ad)))) (CV a.BadNote E (Ab (gC (.str "there is more text than is wanted")) Ad)) Al)
theorem bG{k:Nat}(T:Tx K mg base a){f:Addr}{s:Shared}(hr:Room k (A.deeper (envOfC "Reader.wants_end" (Aj Eo) s.heap.objs.size f cdv))):Ssm (cxW P w K mg base PK "Reader.wants_end" (Aj Eo) f cdv A outer s H E) (λB=>B=H) (AC Eo) (KG K a (dnX K H E)):=
 have hu:=A3 hr
 have hN:=PL.nd
 (A0 (BD (GF JH rfl (CG T.AL T.B5 rfl (by walk_at "v")) (CU JS (JJ) rfl T.KB (by decide) rfl rfl rfl (AV rfl (CG T.AL T.CK rfl (by walk_at "v")) Bm))) (A0 (Fy T.Ep T.E1 PySem.F.excBase_ValueError rfl rfl rfl rfl (by walk_at "v"))) BC))
abbrev PM:List Str:=["self","start"]
theorem KH:Ay PM ["self"] (Aj FN):=by walk_at "s"
def PN(K:PySem.W.Frag)(a:Adr)(Dg:Spw):GS:=(Ae (Ai 1 (BF a.Reader "place" (Aa 0))) (Ae (Dd (Bh (gTB (Ac (AG (λi j=>decide (i < j)) Aw) (BF a.Reader "place" (Aa 0)) (gB (rF Az) (Ab (BF a.Reader "text" (Aa 0)) Ad)))) (AM (Ak Dg XF (Ab (Ac (Af ixW) (BF a.Reader "text" (Aa 0)) (BF a.Reader "place" (Aa 0))) Ad)))) (DD a.Reader "place" (Aa 0) (gC (.int 1)))) (Ag (AA (BF a.Reader "text" (Aa 0)) (Ao (Aa 1)) (Ao (BF a.Reader "place" (Aa 0)))))))
theorem bH(T:Tx K mg base a){DH:Nat}(Pj:Df P w K mg base "is_small_letter" DH 1 Dg)(Pk:DH<=k):Dn P w K mg base PM "Reader.word" FN k (PN K a Dg):=λ{f cdv A outer s H E}hr=>
 have hu:=A3 hr
 have hN:=KH.nd
 (Ar (Ce (i:=1) KH.nd rfl rfl rfl (CG T.AL T.B5 rfl (by walk_at "v"))) (Ar (Fv PassesOwn.never (JA (JC (GF JH rfl (CG T.AL T.B5 rfl (by walk_at "v")) (CU JS (JJ) rfl T.KB (by decide) rfl rfl rfl (AV rfl (CG T.AL T.CK rfl (by walk_at "v")) Bm))) (JB (Ca (λ_=>rfl) (BU Pj (hr.mono Pk) rfl Eg rfl rfl rfl (AV rfl (Gs (λ_ _=>rfl) (CG T.AL T.CK rfl (by walk_at "v")) (CG T.AL T.B5 rfl (by walk_at "v"))) Bm)))))) (A0 (NM T.AL T.B5 (by walk_at "v") EO))) (A0 (BJ (NZ (CG T.AL T.CK rfl (by walk_at "v")) (by walk_at "v") (Ng (CG T.AL T.B5 rfl (by walk_at "v"))))))))
local macro_rules | `(tactic| walk_at "rd") => `(tactic| ((try dsimp only [Ae,gIf,Ag,Ai,AF,Al,Aa,gC,Ac,gTB,AM,gNt,Bh,gOr,BI,B3,BR,Ap,As,Ab,Ad,Ak,gB,rF,Af,By,gMt,BV,Eb,Bo,AG,AT,Av,A5,BW,gSl,Ao,AJ,Bd,AU,Cf,DA,Bq,ET,Cb,CZ,BY,Bk,Ax,AZ,List.map_cons,List.map_nil,List.length_cons,List.length_nil,List.cons_append,List.nil_append,List.getElem?_cons_zero,List.getElem?_cons_succ,List.set_cons_zero,List.set_cons_succ,List.replicate,A7,tyN,Aq,Bv,Bw,CJ,ixW,Cg,Cz,Az,Bn,BE,Br,Cc,List.getElem?_nil]); (try simp only [Ae,gIf,Ag,Ai,AF,Al,Aa,gC,Ac,gTB,AM,gNt,Bh,gOr,BI,B3,BR,Ap,As,Ab,Ad,Ak,gB,rF,Af,By,gMt,BV,Eb,Bo,AG,AT,Av,A5,BW,gSl,Ao,AJ,Bd,AU,Cf,DA,Bq,ET,Cb,CZ,BY,Bk,Ax,AZ,List.map_cons,List.map_nil,List.length_cons,List.length_nil,List.cons_append,List.nil_append,List.getElem?_cons_zero,List.getElem?_cons_succ,List.set_cons_zero,List.set_cons_succ,List.replicate,A7,tyN,Aq,Bv,Bw,CJ,ixW,Cg,Cz,Az,Bn,BE,Br,Cc,List.getElem?_nil])))
variable {G:Hw}{Q:Kw}
theorem CM{i j:Int}:Ah (.int i) (.int j) G Q=Q (.int (i+j)) G:=rfl
def rdr(C:Addr)(T:Str)(i:Nat):HW:=.ins C [("text",.str T),("place",.int i)]
theorem bI:(("place":Str)==("text":Str))=false:=by decide +kernel
theorem PP:¬ (("text":Str)=("place":Str)):=by decide +kernel
variable {y:W}
theorem C3{x:W}:List.lookup ("text":Str) ([("text",x),("place",y)]:List (Str×W))=some x:=by rw[List.lookup_cons,beq_self_eq_true]
theorem Ci{x:W}:List.lookup ("place":Str) ([("text",x),("place",y)]:List (Str×W))=some y:=by rw[List.lookup_cons,bI,List.lookup_cons,beq_self_eq_true]
theorem PQ{x z:W}:Cs "place" z [("text",x),("place",y)]=([("text",x),("place",z)]:List (Str×W)):=by
 unfold Cs;rw[if_neg PP];unfold Cs;rw[if_pos rfl]
local macro_rules | `(tactic| walk_at "rd") => `(tactic| ((try dsimp only [BF,DC,DD,AS,DE,AA,BY,DG,CM,GL,Bk,C3,Ci,Ae,gIf,Ag,Ai,AF,Al,Aa,gC,Ac,gTB,AM,gNt,Bh,gOr,BI,B3,BR,Ap,As,Ab,Ad,Ak,gB,rF,Af,By,gMt,BV,Bo,AG,AT,Av,A5,BW,gSl,Ao,AJ,Bd,AU,Cf,Ax,AZ,List.map_cons,List.map_nil,List.length_cons,List.length_nil,List.cons_append,List.nil_append,List.getElem?_cons_zero,List.getElem?_cons_succ,List.set_cons_zero,List.set_cons_succ,List.replicate,A7,tyN,Aq,Bv,Bw,CJ,ixW,eqF,eqW,Az,Bn,BE,List.getElem?_nil]); (try simp only [BF,DC,DD,AS,DE,AA,BY,DG,CM,GL,Bk,C3,Ci,Ae,gIf,Ag,Ai,AF,Al,Aa,gC,Ac,gTB,AM,gNt,Bh,gOr,BI,B3,BR,Ap,As,Ab,Ad,Ak,gB,rF,Af,By,gMt,BV,Bo,AG,AT,Av,A5,BW,gSl,Ao,AJ,Bd,AU,Cf,Ax,AZ,List.map_cons,List.map_nil,List.length_cons,List.length_nil,List.cons_append,List.nil_append,List.getElem?_cons_zero,List.getElem?_cons_succ,List.set_cons_zero,List.set_cons_succ,List.replicate,A7,tyN,Aq,Bv,Bw,CJ,ixW,eqF,eqW,Az,Bn,BE,List.getElem?_nil])))
def PR(a:Adr):Spw:=λws G Q _=>∃(r:Addr)(T:Str),ws=[.ref r,.str T]/\G r=some (.ins a.Reader [])/\Q .non (put G r (rdr a.Reader T 0))
theorem bJ:Spw.M (PR a):=λd G Q b E c h _⟨r,T,h1,h2,q⟩=>⟨r,T,h1,h2,h _ _ q⟩
theorem bK(T:Tx K mg base a):DfI P w K mg base "Reader" a.Reader 1 2 (PR a):=by
 refine ZA T.GZ rfl Pv bJ (λb G Q E⟨r,T,e,_⟩=>by rw[e];rfl) (bB (k:=0) T) λb G Q E c q=>?_
 obtain⟨r,T,rfl,h,q⟩:=q
 unfold Pw
 walk_at "rd"
 refine⟨r,[],rfl,h,by decide,r,_,rfl,An,Yu (show 1 < 2 by decide) (by decide),?_⟩
 rw[A4]
 have e:Cs "place" (.int 0) (Cs "text" (.str T) [])=([("text",.str T),("place",.int 0)]:List (Str×W)):=by
  show Cs "place" (.int 0) [("text",.str T)]=_
  unfold Cs;rw[if_neg PP];rfl
 rw[e]
 exact q
def C4(T:Str)(i:Nat)(p:Str):Bool:=Txt.startswith3 T p i
def Hm(a:Adr):Spw:=λws G Q _=>∃(r:Addr)(T:Str)(i:Nat)(p:Str),ws=[.ref r,.str p]/\G r=some (rdr a.Reader T i)/\T.length<=2000/\p.length<=100/\
 (C4 T i p=true->Q (.bl true) (put G r (rdr a.Reader T (i+p.length))))/\(C4 T i p=false->Q (.bl false) G)
theorem bL:Spw.M (Hm a):=λe G Q d E f h _⟨r,T,i,p,h1,h2,c,b,q1,q2⟩=>⟨r,T,i,p,h1,h2,c,b,λz=>h _ _ (q1 z),λz=>h _ _ (q2 z)⟩
theorem B6(h:n<=2000):n<=sizeLine:=Yt h (by decide)
def PU(a:Adr):Spw:=λws G Q _=>∃(r:Addr)(T:Str)(i:Nat)(p:Str),ws=[.ref r,.str p]/\G r=some (rdr a.Reader T i)/\Q (.bl (C4 T i p)) G
theorem bM:Spw.M (PU a):=λd G Q b E c h _⟨r,T,i,p,h1,h2,q⟩=>⟨r,T,i,p,h1,h2,h _ _ q⟩
theorem bN(T:Tx K mg base a):DfM P w K mg base a.Reader "sees" 1 2 (PU a):=by
 refine J0 T.G9 rfl Py bM (λb G Q E⟨r,T,i,p,e,_⟩=>by rw[e];rfl) (bC (k:=0) T) λb G Q E c q=>?_
 obtain⟨r,T,i,p,rfl,h,q⟩:=q
 unfold Pz
 walk_at "rd"
 refine⟨r,_,_,rfl,h,C3,⟨T,rfl⟩,r,_,_,rfl,h,Ci,?_⟩
 unfold FD
 exact q
variable {T m:Str}{i:Nat}
theorem E2{C:Addr}(h1:(m==("text":Str))=false)(h2:(m==("place":Str))=false):List.lookup m ([("text",W.str T),("place",W.int i)]:List (Str×W))=none:=by rw[List.lookup_cons,h1,List.lookup_cons,h2];rfl
theorem FW(T:Tx K mg base a):DfM P w K mg base a.Reader "takes" 2 2 (Hm a):=by
 refine J0 T.Ha rfl PC bL (λc G Q E⟨r,T,i,p,e,_⟩=>by rw[e];rfl) (bD (k:=1) T (bN T) (Yr _)) λc G Q E d q=>?_
 obtain⟨r,T,i,p,rfl,h,f,g,q1,q2⟩:=q
 unfold PD
 walk_at "rd"
 refine⟨r,_,rfl,h,E2 (C:=r) (by decide +kernel) (by decide +kernel),r,T,i,p,rfl,h,?_⟩
 dsimp only
 cases b:C4 T i p with
 | false=>simp only[YM,if_true];exact q2 b
 | true =>
  simp only[YF,Yq,if_false]
  refine⟨r,_,i,rfl,h,Ci,?_⟩
  rw[if_pos (B6 (by lia))]
  simp only[Aq]
  refine⟨_,_,rfl,h,by simp,?_⟩
  rw[PQ]
  exact q1 b
def Hn(a:Adr):Spw:=λws G Q E=>∃(r:Addr)(T:Str)(i:Nat)(p:Str),ws=[.ref r,.str p]/\G r=some (rdr a.Reader T i)/\T.length<=2000/\p.length<=100/\(reprText p).length<=1000/\(C4 T i p=true->Q .non (put G r (rdr a.Reader T (i+p.length))))/\(C4 T i p=false->E a.BadNote G)
theorem bO:Spw.M (Hn a):=λf G Q e E g h h'⟨r,T,i,p,h1,h2,d,b,c,q,q2⟩=>⟨r,T,i,p,h1,h2,d,b,c,λz=>h _ _ (q z),λz=>h' _ _ (q2 z)⟩
theorem Ho(T:Tx K mg base a):DfM P w K mg base a.Reader "wants" 3 2 (Hn a):=by
 refine NR (k:=2) T.Hb rfl PJ bO (λd G Q E⟨r,T,i,p,e,_⟩=>by rw[e];rfl) (g:=λE=>KD K a _ E) (bF (k:=2) T (FW T) (Yr _)) λd G Q E j l q=>?_
 obtain⟨r,T,i,p,rfl,h,b,f,c,q,q2⟩:=q
 unfold KD
 walk_at "rd"
 refine⟨r,_,rfl,h,E2 (C:=r) (by decide +kernel) (by decide +kernel),r,T,i,p,rfl,h,b,f,λz=>?_,λz=>?_⟩
 ·simp only[YF,Yq,if_false]
  exact q z
 ·simp only[YM,if_true]
  unfold CV gFR
  walk_at "rd"
  exact⟨p,rfl,c,λy=>⟨by decide,q2 z⟩⟩
def PV(a:Adr):Spw:=λws G Q E=>∃(r:Addr)(T:Str)(i:Nat),ws=[.ref r]/\G r=some (rdr a.Reader T i)/\T.length<=2000/\(T.length<=i->Q .non G)/\(i < T.length->E a.BadNote G)
theorem bP:Spw.M (PV a):=λe G Q c E d h h'⟨r,T,i,h1,h2,b,q,q2⟩=>⟨r,T,i,h1,h2,b,λz=>h _ _ (q z),λz=>h' _ _ (q2 z)⟩
theorem bQ(T:Tx K mg base a):DfM P w K mg base a.Reader "wants_end" 1 1 (PV a):=by
 refine NR (k:=0) T.Hd rfl PL bP (λc G Q E⟨r,T,i,e,_⟩=>by rw[e];rfl) (g:=λE=>KG K a E) (bG (k:=0) T) λc G Q E f d q=>?_
 obtain⟨r,T,i,rfl,h,b,q,q2⟩:=q
 unfold KG
 walk_at "rd"
 refine⟨r,_,_,rfl,h,Ci,r,_,_,rfl,h,C3,?_⟩
 dsimp only
 rw[if_pos (B6 b)]
 simp only[Aq]
 by_cases hi:i < T.length
 ·rw[if_pos (by simp;lia)]
  unfold CV
  walk_at "rd"
  exact⟨by decide,q2 hi⟩
 ·rw[if_neg (by simp;lia)]
  exact q (by lia)
def Ba(c:Nat):Bool:=El ⟨#[c]⟩
def run(T:Str)(i:Nat):List Nat:=(T.cps.toList.drop i).takeWhile Ba
theorem FX(T:Str):T.length=T.cps.toList.length:=by simp[Str.length]
variable {j c:Nat}
theorem bR(h:T.cps.toList[j]?=some c)(hc:Ba c=true):run T j=c::run T (j+1):=by
 obtain⟨h1,h2⟩:=YV.mp h
 unfold run
 rw[List.drop_eq_getElem_cons h1,h2,List.takeWhile_cons,hc];rfl
theorem bS(h:T.cps.toList[j]?=some c)(hc:Ba c=false):run T j=[]:=by
 obtain⟨h1,h2⟩:=YV.mp h
 unfold run
 rw[List.drop_eq_getElem_cons h1,h2,List.takeWhile_cons,hc];rfl
theorem bT(h:T.length<=j):run T j=[]:=by
 unfold run
 rw[List.drop_eq_nil_of_le (by rw[<- FX];exact h)];rfl
variable {p:Addr}{o:HW}
theorem KI(h:G p=some o):put G p o=G:=by
 funext b
 by_cases e:b=p
 ·subst e;rw[An,h]
 ·rw[AH e]
theorem bU(h:j < n):ixN n (j:Int)=some j:=by
 unfold ixN;rw[if_pos (by lia),if_pos (by lia)];rfl
theorem Da{α:Type}{xs:List α}(h:j < xs.length):atI xs (j:Int)=xs[j]?:=by
 unfold atI;rw[bU h];rfl
theorem KJ(h:i<=j)(a:j<=T.length):Txt.slice T (some (i:Int)) (some (j:Int))=⟨((T.cps.toList.drop i).take (j - i)).toArray⟩:=PySem.StrLaws.sliceText_nat T h a
def Hq(a:Adr):Spw:=λws G Q _=>∃(r:Addr)(T:Str)(i:Nat),ws=[.ref r]/\G r=some (rdr a.Reader T i)/\T.length<=2000/\i<=T.length/\Q (.str ⟨(run T i).toArray⟩) (put G r (rdr a.Reader T (i+(run T i).length)))
theorem bV:Spw.M (Hq a):=λe G Q d E f h _⟨r,T,i,h1,h2,c,b,q⟩=>⟨r,T,i,h1,h2,c,b,h _ _ q⟩
theorem KM(T:Tx K mg base a):DfM P w K mg base a.Reader "word" 2 1 (Hq a):=by
 refine J0 T.He rfl KH bV (λx G Q E⟨r,T,i,e,_⟩=>by rw[e];rfl) (bH (k:=1) T (DH T) (Yr _)) λx G Q E z q=>?_
 obtain⟨r,T,i,rfl,h,o,hi,q⟩:=q
 unfold PN
 walk_at "rd"
 refine⟨r,_,_,rfl,h,Ci,?_⟩
 refine⟨λm ω t=>∃ j:Nat,m=T.length - j/\i<=j/\j<=T.length/\ω=[some (.ref r),some (.int i)]/\t=put G r (rdr a.Reader T j)/\run T i=(T.cps.toList.drop i).take (j - i)++run T j,
  ⟨_,i,rfl,Yr _,hi,rfl,(KI h).symm,by simp⟩,?_⟩
 rintro m ω t ⟨j,rfl,p,v,rfl,rfl,b⟩
 have c:(put G r (rdr a.Reader T j)) r=some (rdr a.Reader T j):=An
 have l:∀ n:Nat,run T j=[]->n=j->i+(run T i).length=n:=λn e en=>by
  rw[b,e,Yx,List.length_take,List.length_drop,<- FX];lia
 have f:run T j=[]->Q (.str (Txt.slice T (some (i:Int)) (some (j:Int)))) (put G r (rdr a.Reader T j)):=λe=>by
  rw[KJ p v]
  have u:(T.cps.toList.drop i).take (j - i)=run T i:=by rw[b,e,Yx]
  rw[u,<- l j e rfl]
  exact q
 walk_at "rd"
 refine⟨r,_,_,rfl,c,Ci,r,_,_,rfl,c,C3,?_⟩
 dsimp only
 rw[if_pos (B6 o)]
 simp only[Aq]
 by_cases d:j < T.length
 ·rw[if_pos (by simpa using d)]
  refine⟨r,_,_,rfl,c,C3,r,_,_,rfl,c,Ci,?_⟩
  have g:j < T.cps.toList.length:=by rw[<- FX];exact d
  have hc:T.cps.toList[j]?=some T.cps.toList[j]:=by simp[g]
  dsimp only
  rw[if_pos (B6 o),Da g,hc]
  simp only[YD,Aq]
  refine⟨_,rfl,?_⟩
  change if Ba T.cps.toList[j]=true then _ else _
  cases s:Ba T.cps.toList[j]with
  | true =>
   simp only[if_true]
   refine⟨r,_,j,rfl,c,Ci,_,1,rfl,c,by simp,?_⟩
   rw[PQ,A4]
   refine⟨T.length -(j+1),by lia,j+1,(by first | rfl | trivial),by lia,by lia,(by first | rfl | trivial),(by first | rfl | trivial),?_⟩
   rw[b,bR hc s]
   have:j+1 - i=(j - i)+1:=by lia
   rw[this,List.take_add_one]
   have y:(T.cps.toList.drop i)[j - i]?=some T.cps.toList[j]:=by rw[List.getElem?_drop,show i+(j - i)=j by lia,hc]
   rw[y]
   simp
  | false =>
   simp only[Yq,if_false]
   refine⟨r,_,_,rfl,c,C3,r,_,_,rfl,c,Ci,?_⟩
   exact⟨B6 o,f (bS hc s)⟩
 ·rw[if_neg (by simpa using d)]
  simp only[Yq,if_false]
  refine⟨r,_,_,rfl,c,C3,r,_,_,rfl,c,Ci,?_⟩
  exact⟨B6 o,f (bT (by lia))⟩
set_option hygiene false in
set_option hygiene false in
set_option hygiene false in
set_option hygiene false in
set_option hygiene false in
abbrev PX:List Str:=["text","reader","kind"]
theorem Hr:Ay PX ["text"] (Aj FO):=by walk_at "s"
def KN(K:PySem.W.Frag)(a:Adr)(Ht:Spw)(Bp:Spw)(Hu:Spw)(Hv:Spw)(E:Addr->Hw->Prop):GS:=(Ae (Ai 1 (DE a.Reader Ht (λ_=>E) (Ab (Aa 0) Ad))) (Ae (Ai 2 (Ak Bp (λ_=>E) (Ab (Aa 1) (Ab (gC (.int 1)) Ad)))) (Ae (AF (AS a.Reader "wants_end" Hu (λ_=>E) (Aa 1) Ad)) (Ae (gIf (gNt (AM (Ak Hv (λ_=>E) (Ab (Aa 2) Ad)))) (CV a.BadNote E (Ab (gC (.str "what is written is no kind")) Ad)) Al) (Ag (Aa 2))))))
variable {Bp:Spw}
theorem bW(T:Tx K mg base a){k_Reader___init__:Nat}{Ht:Spw}(bX:DfI P w K mg base "Reader" a.Reader k_Reader___init__ 2 Ht)(h_Reader___init__:k_Reader___init__+1<=k){B7:Nat}(DI:Df P w K mg base "kind_from" B7 2 Bp)(DJ:B7<=k){k_Reader_wants_end:Nat}{Hu:Spw}(bY:DfM P w K mg base a.Reader "wants_end" k_Reader_wants_end 1 Hu)(h_Reader_wants_end:k_Reader_wants_end<=k){Hx:Nat}{Hv:Spw}(bZ:Df P w K mg base "is_kind" Hx 1 Hv)(b4:Hx<=k){f:Addr}{s:Shared}(hr:Room k (A.deeper (envOfC "kind_read" (Aj FO) s.heap.objs.size f cdv))):Ssm (cxW P w K mg base PX "kind_read" (Aj FO) f cdv A outer s H E) (λB=>B=H) (AC FO) (KN K a Ht Bp Hu Hv (dnX K H E)):=
 have hu:=A3 hr
 have hN:=Hr.nd
 (Ar (Ce (i:=1) Hr.nd rfl rfl rfl (Zy bX (hr.mono h_Reader___init__) rfl A2 rfl rfl rfl (by walk_at "v"))) (Ar (Ce (i:=2) Hr.nd rfl rfl rfl (BU DI (hr.mono DJ) rfl A2 rfl rfl rfl (by walk_at "v"))) (Ar (CF rfl (JZ T.AL bY (hr.mono h_Reader_wants_end) A2 rfl (by walk_at "v"))) (Ar (BD (ER (Ca (λ_=>rfl) (BU bZ (hr.mono b4) rfl A2 rfl rfl rfl (by walk_at "v")))) (A0 (Fy T.Ep T.E1 PySem.F.excBase_ValueError rfl rfl rfl rfl (by walk_at "v"))) BC) (by walk_at "v")))))
abbrev PY:List Str:=["reader","depth","word"]
theorem Hy:Ay PY ["reader","depth"] (Aj FP):=by walk_at "s"
def E3(K:PySem.W.Frag)(a:Adr)(Bf:Spw)(Hz:Spw)(HC:Spw)(HD:Spw)(Dh:Spw)(E:Addr->Hw->Prop):GS:=(Ae (gIf (gTB (Ac (AT λi j=>decide (j < i)) (Aa 1) (gC (.int 8)))) (CV a.BadNote E (Ab (gC (.str "too many kinds within one another")) Ad)) Al) (Ae (gIf (AM (AS a.Reader "takes" Bf (λ_=>E) (Aa 0) (Ab (gC (.str "(")) Ad))) (Ag (Ak Hz (λ_=>E) (Ab (Aa 0) (Ab (Aa 1) Ad)))) Al) (Ae (gIf (AM (AS a.Reader "takes" Bf (λ_=>E) (Aa 0) (Ab (gC (.str "[")) Ad))) (Ag (Ak HC (λ_=>E) (Ab (Aa 0) (Ab (Aa 1) Ad)))) Al) (Ae (gIf (AM (AS a.Reader "takes" Bf (λ_=>E) (Aa 0) (Ab (gC (.str "{")) Ad))) (Ag (Ak HD (λ_=>E) (Ab (Aa 0) (Ab (Aa 1) Ad)))) Al) (Ae (Ai 2 (AS a.Reader "word" Dh (λ_=>E) (Aa 0) Ad)) (Ae (gIf (gTB (Ac (Af (inF true)) (Aa 2) (Ap (Ab (gC (.str "any")) (Ab (gC (.str "num")) (Ab (gC (.str "truth")) Ad)))))) (CV a.BadNote E (Ab (gC (.str "wanted a kind")) Ad)) Al) (Ag (Ap (Ab (Aa 2) Ad)))))))))
variable {k_Reader_word:Nat}{Dh:Spw}
theorem PZ(T:Tx K mg base a)(CL:DfM P w K mg base a.Reader "takes" k_Reader_takes 2 Bf)(h_Reader_takes:k_Reader_takes<=k){HE:Nat}{Hz:Spw}(b5:Df P w K mg base "function_from" HE 2 Hz)(b6:HE<=k){HF:Nat}{HC:Spw}(b7:Df P w K mg base "box_from" HF 2 HC)(b8:HF<=k){HG:Nat}{HD:Spw}(b9:Df P w K mg base "row_from" HG 2 HD)(cb:HG<=k)(KO:DfM P w K mg base a.Reader "word" k_Reader_word 1 Dh)(h_Reader_word:k_Reader_word<=k){f:Addr}{s:Shared}(hr:Room k (A.deeper (envOfC "kind_from" (Aj FP) s.heap.objs.size f cdv))):Ssm (cxW P w K mg base PY "kind_from" (Aj FP) f cdv A outer s H E) (λB=>B=H) (AC FP) (E3 K a Bf Hz HC HD Dh (dnX K H E)):=
 have hu:=A3 hr
 have hN:=Hy.nd
 (Ar (BD (by walk_at "v") (A0 (Fy T.Ep T.E1 PySem.F.excBase_ValueError rfl rfl rfl rfl (by walk_at "v"))) BC) (Ar (BD (Ca (λ_=>rfl) (BZ T.AL CL (hr.mono h_Reader_takes) A2 rfl rfl rfl (by walk_at "v") (by walk_at "v"))) (A0 (BJ (BU b5 (hr.mono b6) rfl A2 rfl rfl rfl (by walk_at "v")))) BC) (Ar (BD (Ca (λ_=>rfl) (BZ T.AL CL (hr.mono h_Reader_takes) A2 rfl rfl rfl (by walk_at "v") (by walk_at "v"))) (A0 (BJ (BU b7 (hr.mono b8) rfl A2 rfl rfl rfl (by walk_at "v")))) BC) (Ar (BD (Ca (λ_=>rfl) (BZ T.AL CL (hr.mono h_Reader_takes) A2 rfl rfl rfl (by walk_at "v") (by walk_at "v"))) (A0 (BJ (BU b9 (hr.mono cb) rfl A2 rfl rfl rfl (by walk_at "v")))) BC) (Ar (Ce (i:=2) Hy.nd rfl rfl rfl (JZ T.AL KO (hr.mono h_Reader_word) A2 rfl (by walk_at "v"))) (Ar (BD (by walk_at "v") (A0 (Fy T.Ep T.E1 PySem.F.excBase_ValueError rfl rfl rfl rfl (by walk_at "v"))) BC) (by walk_at "v")))))))
abbrev P0:List Str:=["reader","depth","taken","given"]
theorem HH:Ay P0 ["reader","depth"] (Aj FQ):=by walk_at "s"
def KP(K:PySem.W.Frag)(a:Adr)(Bp:Spw)(Bl:Spw)(E:Addr->Hw->Prop):GS:=(Ae (Ai 2 (Ak Bp (λ_=>E) (Ab (Aa 0) (Ab (Ac (Ah) (Aa 1) (gC (.int 1))) Ad)))) (Ae (AF (AS a.Reader "wants" Bl (λ_=>E) (Aa 0) (Ab (gC (.str " > ")) Ad))) (Ae (Ai 3 (Ak Bp (λ_=>E) (Ab (Aa 0) (Ab (Ac (Ah) (Aa 1) (gC (.int 1))) Ad)))) (Ae (AF (AS a.Reader "wants" Bl (λ_=>E) (Aa 0) (Ab (gC (.str ")")) Ad))) (Ag (Ap (Ab (gC (.str "to")) (Ab (Aa 2) (Ab (Aa 3) Ad)))))))))
variable {k_Reader_wants:Nat}{Bl:Spw}
theorem cc(T:Tx K mg base a){B7:Nat}(DI:Df P w K mg base "kind_from" B7 2 Bp)(DJ:B7<=k)(Di:DfM P w K mg base a.Reader "wants" k_Reader_wants 2 Bl)(h_Reader_wants:k_Reader_wants<=k){f:Addr}{s:Shared}(hr:Room k (A.deeper (envOfC "function_from" (Aj FQ) s.heap.objs.size f cdv))):Ssm (cxW P w K mg base P0 "function_from" (Aj FQ) f cdv A outer s H E) (λB=>B=H) (AC FQ) (KP K a Bp Bl (dnX K H E)):=
 have hu:=A3 hr
 have hN:=HH.nd
 (Ar (Ce (i:=2) HH.nd rfl rfl rfl (BU DI (hr.mono DJ) rfl A2 rfl rfl rfl (by walk_at "v"))) (Ar (CF rfl (BZ T.AL Di (hr.mono h_Reader_wants) A2 rfl rfl rfl (by walk_at "v") (by walk_at "v"))) (Ar (Ce (i:=3) HH.nd rfl rfl rfl (BU DI (hr.mono DJ) rfl A2 rfl rfl rfl (by walk_at "v"))) (Ar (CF rfl (BZ T.AL Di (hr.mono h_Reader_wants) A2 rfl rfl rfl (by walk_at "v") (by walk_at "v"))) (by walk_at "v")))))
abbrev P1:List Str:=["reader","depth","inside"]
theorem KQ:Ay P1 ["reader","depth"] (Aj FR):=by walk_at "s"
def KR(K:PySem.W.Frag)(a:Adr)(Bp:Spw)(Bl:Spw)(E:Addr->Hw->Prop):GS:=(Ae (Ai 2 (Ak Bp (λ_=>E) (Ab (Aa 0) (Ab (Ac (Ah) (Aa 1) (gC (.int 1))) Ad)))) (Ae (AF (AS a.Reader "wants" Bl (λ_=>E) (Aa 0) (Ab (gC (.str "]")) Ad))) (Ag (Ap (Ab (gC (.str "box")) (Ab (Aa 2) Ad))))))
theorem ce(T:Tx K mg base a){B7:Nat}(DI:Df P w K mg base "kind_from" B7 2 Bp)(DJ:B7<=k)(Di:DfM P w K mg base a.Reader "wants" k_Reader_wants 2 Bl)(h_Reader_wants:k_Reader_wants<=k){f:Addr}{s:Shared}(hr:Room k (A.deeper (envOfC "box_from" (Aj FR) s.heap.objs.size f cdv))):Ssm (cxW P w K mg base P1 "box_from" (Aj FR) f cdv A outer s H E) (λB=>B=H) (AC FR) (KR K a Bp Bl (dnX K H E)):=
 have hu:=A3 hr
 have hN:=KQ.nd
 (Ar (Ce (i:=2) KQ.nd rfl rfl rfl (BU DI (hr.mono DJ) rfl A2 rfl rfl rfl (by walk_at "v"))) (Ar (CF rfl (BZ T.AL Di (hr.mono h_Reader_wants) A2 rfl rfl rfl (by walk_at "v") (by walk_at "v"))) (by walk_at "v")))
abbrev P3:List Str:=["reader","depth","fields"]
theorem P4:Ay P3 ["reader","depth"] (Aj FT):=by walk_at "s"
def KS(K:PySem.W.Frag)(a:Adr)(Bf:Spw)(HI:Spw)(Bl:Spw)(E:Addr->Hw->Prop):GS:=(Ae (gIf (AM (AS a.Reader "takes" Bf (λ_=>E) (Aa 0) (Ab (gC (.str "}")) Ad))) (Ag (Ap (Ab (gC (.str "row")) (Ab (Ap Ad) (Ab (gC (.bl false)) Ad))))) Al) (Ae (Ai 2 (As Ad)) (Ae (Dd (gNt (AM (AS a.Reader "takes" Bf (λ_=>E) (Aa 0) (Ab (gC (.str "..")) Ad)))) (Ae (AF (gMt Bx B4 (Aa 2) (Ab (Ak HI (λ_=>E) (Ab (Aa 0) (Ab (Aa 1) Ad))) Ad))) (Ae (gIf (AM (AS a.Reader "takes" Bf (λ_=>E) (Aa 0) (Ab (gC (.str "}")) Ad))) (Ag (Ap (Ab (gC (.str "row")) (Ab (gB (rF Br) (Ab (Aa 2) Ad)) (Ab (gC (.bl false)) Ad))))) Al) (AF (AS a.Reader "wants" Bl (λ_=>E) (Aa 0) (Ab (gC (.str ", ")) Ad)))))) (Ae (AF (AS a.Reader "wants" Bl (λ_=>E) (Aa 0) (Ab (gC (.str "}")) Ad))) (Ag (Ap (Ab (gC (.str "row")) (Ab (gB (rF Br) (Ab (Aa 2) Ad)) (Ab (gC (.bl true)) Ad)))))))))
theorem cf(T:Tx K mg base a)(CL:DfM P w K mg base a.Reader "takes" k_Reader_takes 2 Bf)(h_Reader_takes:k_Reader_takes<=k){HJ:Nat}{HI:Spw}(cg:Df P w K mg base "field_from" HJ 2 HI)(ci:HJ<=k)(Di:DfM P w K mg base a.Reader "wants" k_Reader_wants 2 Bl)(h_Reader_wants:k_Reader_wants<=k){f:Addr}{s:Shared}(hr:Room k (A.deeper (envOfC "row_from" (Aj FT) s.heap.objs.size f cdv))):Ssm (cxW P w K mg base P3 "row_from" (Aj FT) f cdv A outer s H E) (λB=>B=H) (AC FT) (KS K a Bf HI Bl (dnX K H E)):=
 have hu:=A3 hr
 have hN:=P4.nd
 (Ar (BD (Ca (λ_=>rfl) (BZ T.AL CL (hr.mono h_Reader_takes) A2 rfl rfl rfl (by walk_at "v") (by walk_at "v"))) (by walk_at "v") BC) (Ar (by walk_at "v") (Ar (Fv PassesOwn.leaving (ER (Ca (λ_=>rfl) (BZ T.AL CL (hr.mono h_Reader_takes) A2 rfl rfl rfl (by walk_at "v") (by walk_at "v")))) (Ar (CF rfl (Cp JN rfl rfl rfl rfl rfl (by walk_at "v") (AV rfl (BU cg (hr.mono ci) rfl A2 rfl rfl rfl (by walk_at "v")) Bm))) (Ar (BD (Ca (λ_=>rfl) (BZ T.AL CL (hr.mono h_Reader_takes) A2 rfl rfl rfl (by walk_at "v") (by walk_at "v"))) (by walk_at "v") BC) (A0 (CF rfl (BZ T.AL Di (hr.mono h_Reader_wants) A2 rfl rfl rfl (by walk_at "v") (by walk_at "v"))))))) (Ar (CF rfl (BZ T.AL Di (hr.mono h_Reader_wants) A2 rfl rfl rfl (by walk_at "v") (by walk_at "v"))) (by walk_at "v")))))
abbrev P5:List Str:=["reader","depth","name","mark"]
theorem HK:Ay P5 ["reader","depth"] (Aj FU):=by walk_at "s"
def KU(K:PySem.W.Frag)(a:Adr)(Dh:Spw)(Bf:Spw)(Bl:Spw)(Bp:Spw)(E:Addr->Hw->Prop):GS:=(Ae (Ai 2 (AS a.Reader "word" Dh (λ_=>E) (Aa 0) Ad)) (Ae (Ai 3 (BR (AM (AS a.Reader "takes" Bf (λ_=>E) (Aa 0) (Ab (gC (.str "?")) Ad))) (gC (.str "may")) (gC (.str "must")))) (Ae (AF (AS a.Reader "wants" Bl (λ_=>E) (Aa 0) (Ab (gC (.str ": ")) Ad))) (Ag (Ap (Ab (Aa 2) (Ab (Aa 3) (Ab (Ak Bp (λ_=>E) (Ab (Aa 0) (Ab (Ac (Ah) (Aa 1) (gC (.int 1))) Ad))) Ad))))))))
theorem cj(T:Tx K mg base a)(KO:DfM P w K mg base a.Reader "word" k_Reader_word 1 Dh)(h_Reader_word:k_Reader_word<=k)(CL:DfM P w K mg base a.Reader "takes" k_Reader_takes 2 Bf)(h_Reader_takes:k_Reader_takes<=k)(Di:DfM P w K mg base a.Reader "wants" k_Reader_wants 2 Bl)(h_Reader_wants:k_Reader_wants<=k){B7:Nat}(DI:Df P w K mg base "kind_from" B7 2 Bp)(DJ:B7<=k){f:Addr}{s:Shared}(hr:Room k (A.deeper (envOfC "field_from" (Aj FU) s.heap.objs.size f cdv))):Ssm (cxW P w K mg base P5 "field_from" (Aj FU) f cdv A outer s H E) (λB=>B=H) (AC FU) (KU K a Dh Bf Bl Bp (dnX K H E)):=
 have hu:=A3 hr
 have hN:=HK.nd
 (Ar (Ce (i:=2) HK.nd rfl rfl rfl (JZ T.AL KO (hr.mono h_Reader_word) A2 rfl (by walk_at "v"))) (Ar (Ce (i:=3) HK.nd rfl rfl rfl (M0 (Ca (λ_=>rfl) (BZ T.AL CL (hr.mono h_Reader_takes) A2 rfl rfl rfl (by walk_at "v") (by walk_at "v"))) EQ EQ)) (Ar (CF rfl (BZ T.AL Di (hr.mono h_Reader_wants) A2 rfl rfl rfl (by walk_at "v") (by walk_at "v"))) (A0 (BJ (MX (AV rfl (by walk_at "v") (AV rfl (by walk_at "v") (AV rfl (BU DI (hr.mono DJ) rfl A2 rfl rfl rfl (by walk_at "v")) Bm)))))))))
local macro_rules | `(tactic| walk_at "rd") => `(tactic| ((try dsimp only [Ae,gIf,Ag,Ai,AF,Al,Aa,gC,Ac,gTB,AM,gNt,Bh,gOr,BI,B3,BR,Ap,As,Ab,Ad,Ak,gB,rF,Af,By,gMt,BV,Eb,Bo,AG,AT,Av,A5,BW,gSl,Ao,AJ,Bd,AU,Cf,DA,Bq,ET,Cb,CZ,BY,Bk,Ax,AZ,List.map_cons,List.map_nil,List.length_cons,List.length_nil,List.cons_append,List.nil_append,List.getElem?_cons_zero,List.getElem?_cons_succ,List.set_cons_zero,List.set_cons_succ,List.replicate,A7,tyN,Aq,Bv,Bw,CJ,ixW,Cg,Cz,Az,Bn,BE,Br,Cc,List.getElem?_nil]); (try simp only [Ae,gIf,Ag,Ai,AF,Al,Aa,gC,Ac,gTB,AM,gNt,Bh,gOr,BI,B3,BR,Ap,As,Ab,Ad,Ak,gB,rF,Af,By,gMt,BV,Eb,Bo,AG,AT,Av,A5,BW,gSl,Ao,AJ,Bd,AU,Cf,DA,Bq,ET,Cb,CZ,BY,Bk,Ax,AZ,List.map_cons,List.map_nil,List.length_cons,List.length_nil,List.cons_append,List.nil_append,List.getElem?_cons_zero,List.getElem?_cons_succ,List.set_cons_zero,List.set_cons_succ,List.replicate,A7,tyN,Aq,Bv,Bw,CJ,ixW,Cg,Cz,Az,Bn,BE,Br,Cc,List.getElem?_nil])))
def cs(s:Str):List Nat:=s.cps.toList
theorem ck(x y:Str):cs (x++y)=cs x++cs y:=by unfold cs;rw[Str.cps_append];simp
theorem BK(s:Str):(cs s).length=s.length:=(FX s).symm
theorem HL{y:Str}(h:cs x=cs y):x=y:=Str.ext' (Array.toList_inj.mp h)
theorem CN(l:List Nat):cs ⟨l.toArray⟩=l:=rfl
def At(T:Str)(i:Nat)(s:List Nat):Prop:=(cs T).drop i=s/\i<=T.length
theorem At.next{x s:List Nat}(h:At T i (x++s)):At T (i+x.length) s:=by
 obtain⟨h1,h2⟩:=h
 have e:(cs T).length - i=x.length+s.length:=by rw[<- List.length_drop,h1,Yj]
 rw[BK]at e
 refine⟨by rw[<- List.drop_drop,h1,List.drop_left],by lia⟩
theorem P6{p:Str}(hi:i<=T.length):C4 T i p=decide (((cs T).drop i).take p.length=cs p):=by
 have e:fromIndex T.length (i:Int)=i:=by unfold fromIndex;rw[if_neg (by lia)];lia
 unfold C4 Txt.startswith3
 rw[e]
 unfold Builtin.Str.subAt
 rw[StrLaws.beq_toList,Array.toList_extract]
 have a:T.cps.toList.extract i (i+p.length)=((cs T).drop i).take p.length:=by
  rw[List.extract_eq_take_drop];rw[show i+p.length - i=p.length by lia];rfl
 rw[a]
 by_cases h:((cs T).drop i).take p.length=cs p
 ·have hl:i+p.length<=T.length:=by
   have:=Qf List.length h
   rw[List.length_take,List.length_drop,BK,BK]at this
   lia
  rw[YH h,YH hl,h]
  simp[cs]
 ·rw[Qh h]
  have:(((cs T).drop i).take p.length==p.cps.toList)=false:=by simpa[cs]using h
  rw[this,Bool.and_false]
abbrev Sg:=List Nat
def eat(p:Str)(s:Sg):Option Sg:=if s.take p.length=cs p then some (s.drop p.length)else none
variable {s s':Sg}
theorem B0{p:Str}(h:At T i s)(e:eat p s=some s'):C4 T i p=true/\At T (i+p.length) s':=by
 unfold eat at e
 split at e
 ·rename_i z
  cases e
  refine⟨by rw[P6 h.2,h.1];exact YH z,by rw[<- List.drop_drop,h.1],?_⟩
  have a:=Qf List.length z
  have b:=Qf List.length h.1
  rw[List.length_take,BK]at a
  rw[List.length_drop,BK]at b
  have:=h.2
  lia
 ·cases e
theorem P7{p:Str}(h:At T i s)(e:eat p s=none):C4 T i p=false:=by
 unfold eat at e
 split at e
 ·cases e
 ·rename_i z
  rw[P6 h.2,h.1];exact Qh z
def wrd(s:Sg):Str:=⟨(s.takeWhile Ba).toArray⟩
def aft(s:Sg):Sg:=s.dropWhile Ba
abbrev Fd:=Str×Bool×Kd
def AE(x:Fd):W:=.tup [.str x.1,.str (mark x.2.1),x.2.2.enc]
def ofL:List Fd->Fs
 | []=>.nil
 | x::l=>.cons x.1 x.2.1 x.2.2 (ofL l)
theorem Er:∀ l:List Fd,(ofL l).enc=l.map AE
 | []=>rfl
 | x::l=>Qf (_::·) (Er l)
def pf(f:Sg->Option (Kd×Sg))(s:Sg):Option (Fd×Sg):=match eat "?" (aft s)with
 | some s2=>(eat ": " s2).bind λs3=>(f s3).map λx=>((wrd s,false,x.1),x.2)
 | none=>(eat ": " (aft s)).bind λs3=>(f s3).map λx=>((wrd s,true,x.1),x.2)
def pr(f:Sg->Option (Kd×Sg)):Nat->Sg->List Fd->Option (Kd×Sg)
 | 0,_,_=>none
 | m+1,s,acc=>match eat ".." s with
  | some s1=>(eat "}" s1).map λs2=>(.row (ofL acc) true,s2)
  | none=>(pf f s).bind λx=>match eat "}" x.2 with
   | some s2=>some (.row (ofL (acc++[x.1])) false,s2)
   | none=>(eat ", " x.2).bind λs2=>pr f m s2 (acc++[x.1])
def pk:Nat->Sg->Option (Kd×Sg)
 | 0,_=>none
 | n+1,s=>match eat "(" s with
  | some s1=>(pk n s1).bind λx=>(eat " > " x.2).bind λs3=>(pk n s3).bind λy=>(eat ")" y.2).map λs5=>(.to x.1 y.1,s5)
  | none=>match eat "[" s with
   | some s1=>(pk n s1).bind λx=>(eat "]" x.2).map λs3=>(.box x.1,s3)
   | none=>match eat "{" s with
    | some s1=>(match eat "}" s1 with
     | some s2=>some (.row .nil false,s2)
     | none=>pr (pk n) (s1.length+1) s1 [])
    | none=>if wrd s="any" then some (.any,aft s)else if wrd s="num" then some (.num,aft s)else if wrd s="truth" then some (.truth,aft s)else none
def RO(a:Adr)(r:Addr)(T:Str)(o:Option (W×Sg))(G:Hw)(Q:Kw)(E:Addr->Hw->Prop):Prop:=match o with
 | some x=>∀ i,At T i x.2->Q x.1 (put G r (rdr a.Reader T i))
 | none=>∀ i,E a.BadNote (put G r (rdr a.Reader T i))
variable {r:Addr}
theorem RO.imp{o:Option (W×Sg)}{b:Kw}{E E':Addr->Hw->Prop}(h:∀ w G,Q w G->b w G)(h':∀ c G,E c G->E' c G)(z:RO a r T o G Q E):RO a r T o G b E':=by
 cases o with
 | some x=>exact λi hi=>h _ _ (z i hi)
 | none=>exact λi=>h' _ _ (z i)
def Bs{α:Type}(a:Adr)(e:α->W)(d:Int)(f:Sg->Option (α×Sg)):Spw:=λws G Q E=>∃(r:Addr)(T:Str)(i:Nat)(s:Sg),ws=[.ref r,.int d]/\G r=some (rdr a.Reader T i)/\T.length<=2000/\At T i s/\RO a r T ((f s).map λx=>(e x.1,x.2)) G Q E
variable {d:Int}
theorem E4{α:Type}{e:α->W}{f:Sg->Option (α×Sg)}:Spw.M (Bs a e d f):=λj G Q g E k h h'⟨r,T,i,s,h1,h2,c,b,q⟩=>⟨r,T,i,s,h1,h2,c,b,q.imp h h'⟩
theorem E5{α:Type}{e:α->W}{f:Sg->Option (α×Sg)}(b:List W)(G:Hw)(Q:Kw)(E:Addr->Hw->Prop)(h:Bs a e d f b G Q E):b.length=2:=by
 obtain⟨_,_,_,_,rfl,_⟩:=h;rfl
section
variable {G:Hw} {r:Addr} {T p:Str} {i:Nat} {s:Sg} {Q:Kw} {E:Addr->Hw->Prop} {ω:Sw}
theorem Es(f:ω[0]?=some (some (.ref r)))(h:G r=some (rdr a.Reader T i))(c:T.length<=2000)(b:At T i s)(d:p.length<=100)(q1:∀ s',eat p s=some s'->At T (i+p.length) s'->Q (.bl true) (put G r (rdr a.Reader T (i+p.length))))(q2:eat p s=none->Q (.bl false) G):
  AS a.Reader "takes" (Hm a) (λ_=>E) (Aa 0) (Ab (gC (.str p)) Ad) ω G Q:=by
 simp only[AS,Aa,f,gC,Ab,Ad]
 refine⟨r,_,rfl,h,E2 (C:=r) (by decide +kernel) (by decide +kernel),r,T,i,p,rfl,h,c,d,λz=>?_,λz=>?_⟩
 ·cases e:eat p s with
  | some s'=>exact q1 s' e (B0 b e).2
  | none=>rw[P7 b e]at z;cases z
 ·cases e:eat p s with
  | some s'=>rw[(B0 b e).1]at z;cases z
  | none=>exact q2 e
theorem E6(g:ω[0]?=some (some (.ref r)))(h:G r=some (rdr a.Reader T i))(d:T.length<=2000)(c:At T i s)(f:p.length<=100)(b:(reprText p).length<=1000)(q1:∀ s',eat p s=some s'->At T (i+p.length) s'->Q .non (put G r (rdr a.Reader T (i+p.length))))(q2:eat p s=none->E a.BadNote G):
  AS a.Reader "wants" (Hn a) (λ_=>E) (Aa 0) (Ab (gC (.str p)) Ad) ω G Q:=by
 simp only[AS,Aa,g,gC,Ab,Ad]
 refine⟨r,_,rfl,h,E2 (C:=r) (by decide +kernel) (by decide +kernel),r,T,i,p,rfl,h,d,f,b,λz=>?_,λz=>?_⟩
 ·cases e:eat p s with
  | some s'=>exact q1 s' e (B0 c e).2
  | none=>rw[P7 c e]at z;cases z
 ·cases e:eat p s with
  | some s'=>rw[(B0 c e).1]at z;cases z
  | none=>exact q2 e
theorem Dj{α:Type}{e:α->W}{f:Sg->Option (α×Sg)}(h:G r=some (rdr a.Reader T i))(b:T.length<=2000)(c:At T i s)(q1:∀ x s',f s=some (x,s')->∀ i,At T i s'->Q (e x) (put G r (rdr a.Reader T i)))(q2:f s=none->∀ i,E a.BadNote (put G r (rdr a.Reader T i))):Bs a e d f [.ref r,.int d] G Q E:=by
 refine⟨r,T,i,s,rfl,h,b,c,?_⟩
 cases z:f s with
 | some x=>exact λi hi=>q1 x.1 x.2 z i hi
 | none=>exact q2 z
end
theorem Cu{α:Type}{e:α->W}{E:Addr->Hw->Prop}{o:Option (α×Sg)}{x:α}(q:RO a r T (o.map λx=>(e x.1,x.2)) G Q E)(h:o=some (x,s')):∀ i,At T i s'->Q (e x) (put G r (rdr a.Reader T i)):=by
 subst h;exact q
theorem BL{α:Type}{e:α->W}{E:Addr->Hw->Prop}{o:Option (α×Sg)}(q:RO a r T (o.map λx=>(e x.1,x.2)) G Q E)(h:o=none):∀ i,E a.BadNote (put G r (rdr a.Reader T i)):=by
 subst h;exact q
variable {ge:GE}{D:Ew}{ω:Sw}
theorem P8{Au:GS}(h:ge ω G λw a=>Au D (ω.set i (some w)) a):Ae (Ai i ge) Au D ω G:=h
abbrev Bz(f:Sg->Option (Kd×Sg))(s:Sg):Option (Kd×Sg):=(f s).bind λx=>(eat "]" x.2).map λs3=>(.box x.1,s3)
abbrev pto(f:Sg->Option (Kd×Sg))(s:Sg):Option (Kd×Sg):=(f s).bind λx=>(eat " > " x.2).bind λs3=>(f s3).bind λy=>(eat ")" y.2).map λs5=>(.to x.1 y.1,s5)
variable {f:Sg->Option (Kd×Sg)}
theorem HF(T:Tx K mg base a)(m:3<=j)(D:Df P w K mg base "kind_from" j 2 (Bs a Kd.enc (d+1) f)):Df P w K mg base "box_from" (j+1) 2 (Bs a Kd.enc d (Bz f)):=by
 refine mkX (k:=j) T.OA rfl KQ E4 E5 (g:=λE=>KR K a _ _ E) (ce T D (Yr _) (Ho T) m) λt G Q E o p q=>?_
 obtain⟨r,T,i,s,rfl,h,e,n,q⟩:=q
 unfold KR
 walk_at "rd"
 refine Dj h e n (λx l b i1 h1=>?_) (λb i1=>BL q (by unfold Bz;rw[b];rfl) _)
 refine E6 (T:=T) rfl An e h1 (by decide) (by decide +kernel) (λu c h2=>?_) (λc=>BL q (by unfold Bz;rw[b];show(eat "]" l).map _=_;rw[c];rfl) _)
 rw[A4]
 exact⟨(show 2<=sizeLine by decide),Cu q (x:=Kd.box x) (by unfold Bz;rw[b];show(eat "]" l).map _=_;rw[c];rfl) _ h2⟩
theorem HE(T:Tx K mg base a)(t:3<=j)(D:Df P w K mg base "kind_from" j 2 (Bs a Kd.enc (d+1) f)):Df P w K mg base "function_from" (j+1) 2 (Bs a Kd.enc d (pto f)):=by
 refine mkX (k:=j) T.Oz rfl HH E4 E5 (g:=λE=>KP K a _ _ E) (cc T D (Yr _) (Ho T) t) λF G Q E A B q=>?_
 obtain⟨r,T,i,s,rfl,h,e,z,q⟩:=q
 unfold KP
 walk_at "rd"
 refine Dj h e z (λx m b i1 h1=>?_) (λb i1=>BL q (by unfold pto;rw[b];rfl) _)
 refine E6 (T:=T) rfl An e h1 (by decide) (by decide +kernel) (λo c h2=>?_) (λc=>BL q (by unfold pto;rw[b];show(eat " > " m).bind _=_;rw[c];rfl) _)
 rw[A4]
 refine Dj An e h2 (λy p l i3 v=>?_) (λl i3=>?_)
 ·rw[A4]
  refine E6 (T:=T) rfl An e v (by decide) (by decide +kernel) (λH n u=>?_) (λn=>BL q (by unfold pto;rw[b];show(eat " > " m).bind _=_;rw[c];show(f o).bind _=_;rw[l];show(eat ")" p).map _=_;rw[n];rfl) _)
  rw[A4]
  exact⟨(show 3<=sizeLine by decide),Cu q (x:=Kd.to x y) (by unfold pto;rw[b];show(eat " > " m).bind _=_;rw[c];show(f o).bind _=_;rw[l];show(eat ")" p).map _=_;rw[n];rfl) _ u⟩
 ·rw[A4]
  exact BL q (by unfold pto;rw[b];show(eat " > " m).bind _=_;rw[c];show(f o).bind _=_;rw[l];rfl) _
theorem cm(h:At T i s):(⟨(run T i).toArray⟩:Str)=wrd s/\At T (i+(run T i).length) (aft s):=by
 have e:run T i=s.takeWhile Ba:=by unfold run;rw[<- h.1];rfl
 refine⟨by rw[e];rfl,?_⟩
 rw[e]
 have h':At T i (s.takeWhile Ba++s.dropWhile Ba):=by rw[List.takeWhile_append_dropWhile];exact h
 exact h'.next
theorem P9{E:Addr->Hw->Prop}(f:ω[0]?=some (some (.ref r)))(h:G r=some (rdr a.Reader T i))(d:T.length<=2000)(b:At T i s)(q:∀ i,At T i (aft s)->Q (.str (wrd s)) (put G r (rdr a.Reader T i))):AS a.Reader "word" (Hq a) (λ_=>E) (Aa 0) Ad ω G Q:=by
 simp only[AS,Aa,f,Ad]
 obtain⟨e,c⟩:=cm b
 refine⟨r,_,rfl,h,E2 (C:=r) (by decide +kernel) (by decide +kernel),r,T,i,rfl,h,d,b.2,?_⟩
 rw[e]
 exact q _ c
theorem HJ(T:Tx K mg base a)(t:3<=j)(D:Df P w K mg base "kind_from" j 2 (Bs a Kd.enc (d+1) f)):Df P w K mg base "field_from" (j+1) 2 (Bs a AE d (pf f)):=by
 refine mkX (k:=j) T.aY rfl HK E4 E5 (g:=λE=>KU K a _ _ _ _ E) (cj T (KM T) (by lia) (FW T) (by lia) (Ho T) t D (Yr _)) λF G Q E A B q=>?_
 obtain⟨r,T,i,s,rfl,h,b,z,q⟩:=q
 unfold KU
 show Ae (Ai 2 _) _ (Ax Q) [some (.ref r),some (.int d),none,none] G
 have key:∀(m:Bool)(i2:Nat)(l:Sg),At T i2 l->(pf f s=(eat ": " l).bind λc=>(f c).map λx=>((wrd s,m,x.1),x.2))->Ae (AF (AS a.Reader "wants" (Hn a) (λ_=>E) (Aa 0) (Ab (gC (.str ": ")) Ad))) (Ag (Ap (Ab (Aa 2) (Ab (Aa 3) (Ab (Ak (Bs a Kd.enc (d+1) f) (λ_=>E) (Ab (Aa 0) (Ab (Ac (Ah) (Aa 1) (gC (.int 1))) Ad))) Ad))))) (Ax Q) [some (.ref r),some (.int d),some (.str (wrd s)),some (.str (mark m))] (put G r (rdr a.Reader T i2)):=by
  intro m i2 l h2 p
  simp only[Ae,AF]
  refine E6 (T:=T) rfl An b h2 (by decide) (by decide +kernel) (λc e v=>?_) (λe=>BL q (by rw[p,e];rfl) _)
  rw[A4]
  walk_at "rd"
  refine Dj An b v (λy H o i4 u=>?_) (λo i4=>?_)
  ·rw[A4]
   exact⟨(show 3<=sizeLine by decide),Cu q (x:=(wrd s,m,y)) (by rw[p,e];show(f c).map _=_;rw[o];rfl) _ u⟩
  ·rw[A4]
   exact BL q (by rw[p,e];show(f c).map _=_;rw[o];rfl) _
 refine P8 (P9 rfl h b z λi1 h1=>?_)
 simp only[Yk,Yl]
 refine P8 ?_
 simp only[BR,AM]
 refine Es (T:=T) rfl An b h1 (by decide) (λl n h2=>?_) (λn=>?_)
 ·rw[A4]
  exact key false _ _ h2 (by unfold pf;rw[n])
 ·exact key true _ _ h1 (by unfold pf;rw[n])
variable {xs:List W}
theorem Et(h:G p=some (.lst xs)):Br [.ref p] G=some (.tup xs):=by
 show(Dy G (.ref p)).map W.tup=_
 rw[aC h];rfl
theorem Eu(h:G p=some (.lst xs)):Bx (.ref p) G:=⟨xs,Ej h⟩
theorem FY(a:G p=some (.lst xs))(hl:xs.length < sizeLine)(q:Q .non (put G p (.lst (xs++[y])))):B4 (.ref p) [y] G Q:=by
 unfold B4
 refine JM a ?_ q
 rw[if_pos hl]
theorem BA{p:Str}(e:eat p s=some s'):s'.length+p.length=s.length:=by
 unfold eat at e
 split at e
 ·rename_i z
  cases e
  have a:=Qf List.length z
  rw[List.length_take,BK]at a
  rw[List.length_drop];lia
 ·cases e
theorem HM(s:Sg):(aft s).length<=s.length:=(List.dropWhile_sublist _).length_le
def Shr(f:Sg->Option (Kd×Sg)):Prop:=∀ s x s',f s=some (x,s')->s'.length<=s.length
theorem Qp(h:Shr f){x:Fd}(e:pf f s=some (x,s')):s'.length+2<=s.length:=by
 have h2:∀{m:Bool}{t:Sg},t.length<=s.length->((eat ": " t).bind λa=>(f a).map λx=>((wrd s,m,x.1),x.2))=some (x,s')->s'.length+2<=s.length:=λ{m t}j e=>by
  obtain⟨a,g,d⟩:=Qa.mp e
  obtain⟨y,i,c⟩:=YQ.mp d
  cases c
  have:=h _ _ _ i
  have k:a.length+2=t.length:=BA g
  lia
 have h1:=HM s
 unfold pf at e
 split at e
 ·rename_i l b
  exact h2 (by have:=BA b;lia) e
 ·exact h2 h1 e
theorem Qq{x y:HW}(h:p≠r):put (put G p x) r y=put (put G r y) p x:=by
 funext b
 by_cases h1:b=p
 ·subst h1
  rw[AH h,An,An]
 ·by_cases h2:b=r
  ·subst h2
   rw[An,AH h1,An]
  ·rw[AH h2,AH h1,AH h1,AH h2]
abbrev Dk(f:Sg->Option (Kd×Sg))(s:Sg):Option (Kd×Sg):=match eat "}" s with
 | some s2=>some (.row .nil false,s2)
 | none=>pr f (s.length+1) s []
theorem HG(T:Tx K mg base a)(hj:3<=j)(hf:Shr f)(D:Df P w K mg base "field_from" j 2 (Bs a AE d (pf f))):Df P w K mg base "row_from" (j+1) 2 (Bs a Kd.enc d (Dk f)):=by
 refine mkX (k:=j) T.OC rfl P4 E4 E5 (g:=λE=>KS K a _ _ _ E) (cf T (FW T) (by lia) D (Yr _) (Ho T) hj) λws G Q E X I q=>?_
 obtain⟨r,T,i,s,rfl,h,v,O,q⟩:=q
 unfold KS
 show Ae (gIf _ _ Al) _ (Ax Q) [some (.ref r),some (.int d),none] G
 simp only[Ae,gIf,AM]
 refine Es (T:=T) rfl h v O (by decide) (λu l h2=>?_) (λl=>?_)
 ·exact⟨(show 0<=sizeLine by decide),(show 3<=sizeLine by decide),Cu q (x:=Kd.row .nil false) (by unfold Dk;rw[l]) _ h2⟩
 have q':RO a r T ((pr f (s.length+1) s []).map λx=>(x.1.enc,x.2)) G Q E:=by
  have z:=q
  unfold Dk at z
  rw[l]at z
  exact z
 simp only[A7,Yq,if_false,Al]
 refine⟨by decide,λp N=>?_⟩
 have n:p≠r:=λe=>by rw[e,h]at N;cases N
 refine⟨λm ω U=>∃(b:List Fd)(s':Sg)(H:Nat),ω=[some (.ref r),some (.int d),some (.ref p)]/\U=put (put G p (.lst (b.map AE))) r (rdr a.Reader T H)/\At T H s'/\s'.length < m/\b.length+s'.length<=2000/\RO a r T ((pr f m s' b).map λx=>(x.1.enc,x.2)) G Q E,
  ⟨s.length+1,[],s,i,rfl,?_,O,Nat.lt_succ_self _,?_,q'⟩,?_⟩
 ·rw[KI (G:=put G p (.lst ([].map AE))) (p:=r) (by rw[AH (YU n)];exact h)];rfl
 ·have:=Qf List.length O.1
  rw[List.length_drop,BK]at this
  simp only[Yi];lia
 rintro m ω U ⟨b,s',H,rfl,rfl,B,hm,hl,q⟩
 obtain⟨m,rfl⟩:∃ k,m=k+1:=⟨m - 1,by lia⟩
 have c:∀(L:List W)(i:Nat),Sub (put G r (rdr a.Reader T i)) (put (put G p (.lst L)) r (rdr a.Reader T i)):=λL i=>by
  rw[Qq n]
  exact AB (by rw[AH n];exact N)
 have t:∀(L:List W)(i:Nat),put (put G p (.lst L)) r (rdr a.Reader T i) p=some (.lst L):=λL i=>by rw[AH n,An]
 simp only[gNt,AM]
 refine Es (T:=T) rfl An v B (by decide) (λS A h1=>?_) (λA=>?_)
 ·rw[A4]
  simp only[A7,YF,Yq,if_false,Ae,AF]
  refine E6 (T:=T) rfl An v h1 (by decide) (by decide +kernel) (λu l h2=>?_) (λl=>I _ _ _ (c _ _) (BL q (by unfold pr;rw[A];show(eat "}" S).map _=_;rw[l];rfl) _))
  rw[A4]
  simp only[Ag,Ap,Ab,Ad,gB,rF,Aa,gC,Yb,Yc]
  rw[show Br [.ref p] (put (put G p (.lst (b.map AE))) r (rdr a.Reader T (H+("..":Str).length+("}":Str).length)))=some (.tup (b.map AE))from Et (t _ _),Aq]
  refine⟨(show 3<=sizeLine by decide),X _ _ _ (c _ _) ?_⟩
  have z:=Cu q (x:=Kd.row (ofL b) true) (by unfold pr;rw[A];show(eat "}" S).map _=_;rw[l];rfl) _ h2
  rw[show(Kd.row (ofL b) true).enc=.tup [.str "row",.tup (b.map AE),.bl true] by show W.tup [_,.tup (ofL b).enc,_]=_;rw[Er]]at z
  exact z
 ·simp only[A7,YM,if_true,Ae,AF,gMt,Aa,Ak,Ab,Ad,Yb,Yc]
  refine⟨Eu (t _ _),Dj An v B (λx u l i2 h2=>?_) (λl i2=>?_)⟩
  rotate_left
  ·rw[A4]
   exact I _ _ _ (c _ _) (BL q (by unfold pr;rw[A];show(pf f s').bind _=_;rw[l];rfl) _)
  have Z:=Qp hf l
  rw[A4]
  refine FY (t _ _) (by rw[Yh];exact EY (by lia)) ?_
  rw[Qq (YU n),A4]
  simp only[gIf,AM]
  refine Es (T:=T) rfl An v h2 (by decide) (λs3 J Y=>?_) (λJ=>?_)
  ·rw[A4]
   simp only[A7,if_true,Ag,Ap,Ab,Ad,gB,rF,Aa,gC,Yb,Yc]
   rw[show Br [.ref p] (put (put G p (.lst (b.map AE++[AE x]))) r (rdr a.Reader T (i2+("}":Str).length)))=some (.tup (b.map AE++[AE x]))from Et (t _ _),Aq]
   refine⟨(show 3<=sizeLine by decide),X _ _ _ (c _ _) ?_⟩
   have z:=Cu q (x:=Kd.row (ofL (b++[x])) false) (by unfold pr;rw[A];show(pf f s').bind _=_;rw[l];show(match eat "}" u with | some u=>_ | none=>_)=_;rw[J]) _ Y
   rw[show(Kd.row (ofL (b++[x])) false).enc=.tup [.str "row",.tup (b.map AE++[AE x]),.bl false] by show W.tup [_,.tup (ofL (b++[x])).enc,_]=_;rw[Er,Yy];rfl]at z
   exact z
  ·simp only[A7,Yq,if_false,Al]
   have R:∀ o,eat ", " u=o->pr f (m+1) s' b=o.bind λF=>pr f m F (b++[x]):=λo y=>by
    conv=>lhs;unfold pr
    rw[A];show(pf f s').bind _=_;rw[l];show(match eat "}" u with | some u=>_ | none=>_)=_;rw[J,<- y]
   refine E6 (T:=T) rfl An v h2 (by decide) (by decide +kernel) (λF y h4=>?_) (λy=>I _ _ _ (c _ _) (BL q (by rw[R _ y];rfl) _))
   rw[A4]
   have l4:F.length+2=u.length:=BA y
   rw[R _ y]at q
   exact⟨m,by lia,b++[x],F,_,rfl,by rw[Yy];rfl,h4,by lia,by rw[Yj];simp only[Yg,Yi];lia,q⟩
theorem Qr{f:Sg->Option (Kd×Sg)}(g:Shr f):∀(m:Nat)(s:Sg)(a:List Fd)(x:Kd)(s':Sg),pr f m s a=some (x,s')->s'.length<=s.length
 | 0,_,_,_,_,e=>by cases e
 | m+1,s,a,x,s',e=>by
  unfold pr at e
  split at e
  ·rename_i l h
   obtain⟨j,c,b⟩:=YQ.mp e
   cases b
   have:=BA h
   have:=BA c
   lia
  ·obtain⟨y,c,b⟩:=Qa.mp e
   have h2:=Qp g (x:=y.1) (s':=y.2) c
   split at b
   ·rename_i j d
    cases b
    have:=BA d
    lia
   ·obtain⟨k,d,i⟩:=Qa.mp b
    have:=Qr g m _ _ _ _ i
    have:=BA d
    lia
theorem Qs:∀ n:Nat,Shr (pk n)
 | 0=>λs x s' e=>by cases e
 | n+1=>λs x s' e=>by
  have c:=Qs n
  unfold pk at e
  split at e
  ·rename_i h b
   obtain⟨y,a,g⟩:=Qa.mp e
   obtain⟨o,k,l⟩:=Qa.mp g
   obtain⟨z,i,m⟩:=Qa.mp l
   obtain⟨j,f,d⟩:=YQ.mp m
   cases d
   have:=BA b
   have:=c _ y.1 y.2 a
   have:=BA k
   have:=c _ z.1 z.2 i
   have:=BA f
   lia
  ·split at e
   ·rename_i h b
    obtain⟨y,a,g⟩:=Qa.mp e
    obtain⟨j,f,d⟩:=YQ.mp g
    cases d
    have:=BA b
    have:=c _ y.1 y.2 a
    have:=BA f
    lia
   ·split at e
    ·rename_i h b
     have:=BA b
     split at e
     ·rename_i p a
      cases e
      have:=BA a
      lia
     ·have:=Qr c _ _ _ _ _ e
      lia
    ·have:=HM s
     split at e
     ·cases e;lia
     ·split at e
      ·cases e;lia
      ·split at e
       ·cases e;lia
       ·cases e
theorem cn{w:Str}:inF true (.str w) (.tup [.str "any",.str "num",.str "truth"]) G=some (.bl (!decide (w="any"\/w="num"\/w="truth"))):=by
 show some (W.bl (!(decide (("any":Str)=w)||(decide (("num":Str)=w)||(decide (("truth":Str)=w)||false)))))=_
 congr 3
 rw[Bool.eq_iff_iff]
 simp only[Bool.or_false,Bool.or_eq_true,YO]
 exact⟨λh=>h.imp Eq.symm (Or.imp Eq.symm Eq.symm),λh=>h.imp Eq.symm (Or.imp Eq.symm Eq.symm)⟩
theorem cp{o m p:Spw}{E:Addr->Hw->Prop}(hd:d<=8)(u:Xc E)(h:G r=some (rdr a.Reader T i))(f:T.length<=2000)(k:At T i s)(q:RO a r T ((pk (n+1) s).map λx=>(x.1.enc,x.2)) G Q E)
  (q1:o=Bs a Kd.enc d (pto (pk n))) (q2:m=Bs a Kd.enc d (Bz (pk n))) (q3:p=Bs a Kd.enc d (Dk (pk n))):E3 K a (Hm a) o m p (Hq a) E (Ax Q) [some (.ref r),some (.int d),none] G:=by
 subst q1 q2 q3
 unfold E3
 walk_at "pe"
 walk_at "ph"
 simp only[Al,Ae,gIf,AM]
 refine Es (T:=T) rfl h f k (by decide) (λj g h1=>?_) (λg=>?_)
 ·simp only[A7,if_true,Ag,Ak,Ab,Ad,Aa,Yb,Yc]
  have c:pk (n+1) s=pto (pk n) j:=by
   conv=>lhs;unfold pk
   rw[g]
  refine Dj An f h1 (λx t b i2 h2=>?_) (λb i2=>?_)
  ·rw[A4];exact Cu q (by rw[c];exact b) _ h2
  ·rw[A4];exact BL q (by rw[c];exact b) _
 simp only[A7,Yq,if_false]
 refine Es (T:=T) rfl h f k (by decide) (λj b h1=>?_) (λb=>?_)
 ·simp only[A7,if_true,Ag,Ak,Ab,Ad,Aa,Yb,Yc]
  have c:pk (n+1) s=Bz (pk n) j:=by
   conv=>lhs;unfold pk
   rw[g,b]
  refine Dj An f h1 (λx t b i2 h2=>?_) (λb i2=>?_)
  ·rw[A4];exact Cu q (by rw[c];exact b) _ h2
  ·rw[A4];exact BL q (by rw[c];exact b) _
 simp only[A7,Yq,if_false]
 refine Es (T:=T) rfl h f k (by decide) (λj l h1=>?_) (λl=>?_)
 ·simp only[A7,if_true,Ag,Ak,Ab,Ad,Aa,Yb,Yc]
  have c:pk (n+1) s=Dk (pk n) j:=by
   conv=>lhs;unfold pk
   rw[g,b,l]
  refine Dj An f h1 (λx t b i2 h2=>?_) (λb i2=>?_)
  ·rw[A4];exact Cu q (by rw[c];exact b) _ h2
  ·rw[A4];exact BL q (by rw[c];exact b) _
 simp only[A7,Yq,if_false]
 have c:pk (n+1) s=if wrd s="any" then some (.any,aft s)else if wrd s="num" then some (.num,aft s)else if wrd s="truth" then some (.truth,aft s)else none:=by
  conv=>lhs;unfold pk
  rw[g,b,l]
 refine P9 rfl h f k λi1 h1=>?_
 simp only[Yk,Yl,Ae,gIf,gTB,Ac,Af,Aa,gC,Ap,Ab,Ad,Yb,Yc]
 refine⟨by decide,?_⟩
 rw[cn,Aq]
 by_cases hw:wrd s="any"\/wrd s="num"\/wrd s="truth"
 ·rw[YH hw]
  simp only[YF,Yq,if_false,Al,Ag,Ap,Ab,Ad,Aa,Yb,Yc]
  refine⟨(show 1<=sizeLine by decide),?_⟩
  rcases hw with e | e | e
  ·rw[e];exact Cu q (x:=Kd.any) (by rw[c,if_pos e]) _ h1
  ·rw[e];exact Cu q (x:=Kd.num) (by rw[c,e];rfl) _ h1
  ·rw[e];exact Cu q (x:=Kd.truth) (by rw[c,e];rfl) _ h1
 ·rw[Qh hw]
  simp only[YM,if_true,CV,gC,Ab,Ad]
  refine⟨by decide,BL q ?_ _⟩
  rw[c,if_neg (λz=>hw (.inl z)),if_neg (λz=>hw (.inr (.inl z))),if_neg (λz=>hw (.inr (.inr z)))]
theorem Dl(Fx:Fn K mg st x ps)(m:sp.M)(no:∀ a G Q E,¬ sp a G Q E):Df P w K mg base x k ps.length sp:=by
 obtain⟨f,fd,h1,F,c⟩:=Fx
 exact⟨⟨f,fd,_,h1,F.kp,c,rfl,⟨(by rintro d H Q E ⟨a,G,t,r,q⟩;exact Qi q (no _ _ _ _)),(by rintro A outer s H b e d Q E _ _ _ _ ⟨a,G,t,r,q⟩;exact Qi q (no _ _ _ _))⟩⟩,m⟩
def HN:Spw:=λ_ _ _ _=>False
theorem FZ:Spw.M HN:=λ_ _ _ _ _ _ _ _ z=>z
theorem B7(T:Tx K mg base a):∀ n:Nat,Df P w K mg base "kind_from" (3*n+4) 2 (Bs a Kd.enc (9 -(n:Int)) (pk n))
 | 0=>by
  refine mkX (k:=3) T.Oy rfl Hy E4 E5 (g:=λE=>E3 K a _ HN HN HN _ E) (PZ T (FW T) (by lia) (Dl T.Oz FZ λ_ _ _ _ h=>h) (YT _) (Dl T.OA FZ λ_ _ _ _ h=>h) (YT _) (Dl T.OC FZ λ_ _ _ _ h=>h) (YT _) (KM T) (by lia)) λf G Q E e c q=>?_
  obtain⟨r,T,i,s,rfl,h,b,d,q⟩:=q
  unfold E3
  show Ae (gIf _ _ Al) _ (Ax Q) [some (.ref r),some (.int 9),none] G
  walk_at "pe"
  rw[if_pos (by decide)]
  simp only[CV,gC,Ab,Ad]
  have z:=BL q rfl i
  rw[KI h]at z
  exact⟨by decide,z⟩
 | n+1=>by
  have D:Df P w K mg base "kind_from" (3*n+4) 2 (Bs a Kd.enc (9 -((n+1:Nat):Int)+1) (pk n)):=by
   rw[show(9 -((n+1:Nat):Int)+1)=9 -(n:Int) by lia];exact B7 T n
  have DF:=HJ T (by lia) D
  have DR:=HG T (by lia) (Qs n) DF
  refine mkX (k:=3*n+6) T.Oy rfl Hy E4 E5 (g:=λE=>E3 K a _ _ _ _ _ E) (PZ T (FW T) (by lia) (HE T (by lia) D) (by lia) (HF T (by lia) D) (by lia) DR (by lia) (KM T) (by lia)) λf G Q E e c q=>?_
  obtain⟨r,T,i,s,rfl,h,b,d,q⟩:=q
  exact cp (by lia) c h b d q rfl rfl rfl
def okL(w:Str):Bool:=decide (1<=w.length)&&decide (w.length<=8)
def rs(acc:List Fd)(w:Str):Bool:=match acc.getLast? with | some x=>Aw x.1 w | none=>true
def lff(f:Sg->Option (Kd×Sg))(acc:List Fd)(s:Sg):Option (Fd×Sg):=match eat "?" (aft s)with
 | some s2=>(eat ": " s2).bind λs3=>if okL (wrd s)&&rs acc (wrd s)then(f s3).map λx=>((wrd s,false,x.1),x.2)else none
 | none=>(eat ": " (aft s)).bind λs3=>if okL (wrd s)&&rs acc (wrd s)then(f s3).map λx=>((wrd s,true,x.1),x.2)else none
def lfl(f:Sg->Option (Kd×Sg)):Nat->Sg->List Fd->Option (Kd×Sg)
 | 0,_,_=>none
 | m+1,s,acc=>match eat "..}" s with
  | some s1=>some (.row (ofL acc) true,s1)
  | none=>(lff f acc s).bind λx=>match eat "}" x.2 with
   | some s2=>some (.row (ofL (acc++[x.1])) false,s2)
   | none=>(eat ", " x.2).bind λs2=>lfl f m s2 (acc++[x.1])
abbrev BM(f:Sg->Option (Kd×Sg))(s:Sg):Option (Kd×Sg):=match eat "}" s with
 | some s2=>some (.row .nil false,s2)
 | none=>lfl f (s.length+1) s []
def lr:Nat->Sg->Option (Kd×Sg)
 | 0,_=>none
 | n+1,s=>match eat "any" s with
  | some s1=>some (.any,s1)
  | none=>match eat "num" s with
   | some s1=>some (.num,s1)
   | none=>match eat "truth" s with
    | some s1=>some (.truth,s1)
    | none=>match eat "[" s with
     | some s1=>Bz (lr n) s1
     | none=>match eat "(" s with
      | some s1=>pto (lr n) s1
      | none=>match eat "{" s with
       | some s1=>BM (lr n) s1
       | none=>none
def stp(s:Sg):Prop:=∀ c,s.head?=some c->Ba c=false
theorem F0{p:Str}(e:eat p s=some s'):s=cs p++s':=by
 unfold eat at e
 split at e
 ·rename_i z
  cases e
  rw[<- z,List.take_append_drop]
 ·cases e
theorem E7{p:Str}:eat p (cs p++s)=some s:=by
 unfold eat
 rw[<- BK,List.take_left,if_pos rfl,List.drop_left]
theorem C5{p:Str}{t:List Nat}(a:cs p=c::t)(e:eat p s=some s'):s=c::(t++s'):=by rw[F0 e,a];rfl
theorem F1{p:Str}{t:List Nat}(a:cs p=c::t)(hc:Ba c=false)(e:eat p s=some s'):stp s:=by
 rw[C5 a e]
 intro d hd
 cases hd;exact hc
theorem Qt{w:Str}(hw:∀ c∈cs w,Ba c=true)(h:stp s):wrd (cs w++s)=w/\aft (cs w++s)=s:=by
 have e:(cs w++s).takeWhile Ba=cs w/\(cs w++s).dropWhile Ba=s:=by
  have:∀ l:List Nat,(∀ c∈l,Ba c=true)->(l++s).takeWhile Ba=l/\(l++s).dropWhile Ba=s:=by
   intro l
   induction l with
   | nil =>
    intro _
    cases s with
    | nil=>exact⟨rfl,rfl⟩
    | cons c s =>
     have:=h c rfl
     simp[this]
   | cons c l f =>
    intro hl
    obtain⟨a,b⟩:=f λd hd=>hl d (Yd _ hd)
    have hc:=hl c Ye
    simp[hc,a,b]
  exact this _ hw
 exact⟨HL (by unfold wrd;rw[CN];exact e.1),e.2⟩
theorem HP(s:Sg):s=cs (wrd s)++aft s:=by
 unfold wrd aft
 rw[CN,List.takeWhile_append_dropWhile]
theorem KW:∀ l:List Fd,(ofL l).names=l.map (·.1)
 | []=>rfl
 | x::l=>by show _::(ofL l).names=_::l.map (·.1);rw[KW l]
theorem cq{a b c:Str}(h1:Aw a b=true)(h2:Aw b c=true):Aw a c=true:=by
 unfold Aw at h1 h2 ⊢
 exact YH (List.lt_trans (Qg h1) (Qg h2))
theorem Qu:∀{ns:List Str},A1 ns=true->ns.Pairwise (λx y=>Aw x y=true)
 | [],_=>.nil
 | [_],_=>.cons (λ_ h=>by cases h) .nil
 | x::y::r,h=>by
  have h':(Aw x y&&A1 (y::r))=true:=h
  simp only[YG]at h'
  have b:=Qu h'.2
  refine .cons (λz a=>?_) b
  rcases Yo.mp a with rfl | a
  ·exact h'.1
  ·exact cq h'.1 ((List.pairwise_cons.mp b).1 z a)
theorem Qv:∀{ns:List Str},ns.Pairwise (λx y=>Aw x y=true)->A1 ns=true
 | [],_=>rfl
 | [_],_=>rfl
 | x::y::r,h=>by
  show(Aw x y&&A1 (y::r))=true
  cases h with
  | cons h1 h2=>rw[h1 y Ye,Qv h2];rfl
variable {ys:List Str}
theorem cr{xs:List Str}(h:xs.Sublist ys)(r:A1 ys=true):A1 xs=true:=Qv ((Qu r).sublist h)
variable {u:List Nat}
theorem BB{p:Str}{d:Nat}{t:List Nat}(a:cs p=c::t)(b:s=d::u)(h:c≠d):eat p s=none:=by
 unfold eat
 rw[if_neg]
 rw[b,a,<- BK,a,Yg,List.take_succ_cons]
 intro z
 exact h (List.cons.inj z).1.symm
theorem E8:cs "any"=[97,110,121]:=by decide +kernel
theorem E9:cs "num"=[110,117,109]:=by decide +kernel
theorem Fa:cs "truth"=[116,114,117,116,104]:=by decide +kernel
theorem HQ:cs "["=[91]:=by decide +kernel
theorem cu:cs "]"=[93]:=by decide +kernel
theorem KY:cs "("=[40]:=by decide +kernel
theorem cw:cs ")"=[41]:=by decide +kernel
theorem Qw:cs "{"=[123]:=by decide +kernel
theorem KZ:cs "}"=[125]:=by decide +kernel
theorem cx:cs " > "=[32,62,32]:=by decide +kernel
theorem cy:cs ", "=[44,32]:=by decide +kernel
theorem K0:cs ".."=[46,46]:=by decide +kernel
theorem Qx:cs "..}"=[46,46,125]:=by decide +kernel
def HA(f g:Sg->Option (Kd×Sg)):Prop:=∀ s x t,g s=some (x,t)->stp t->f s=some (x,t)/\x.ok=true
def HB(f g:Sg->Option (Kd×Sg)):Prop:=∀ s x t,f s=some (x,t)->x.ok=true->g s=some (x,t)
variable {g:Sg->Option (Kd×Sg)}{t:Sg}
theorem cz(h:HA f g){x:Kd}(e:Bz g s=some (x,t)):Bz f s=some (x,t)/\x.ok=true:=by
 obtain⟨y,j,d⟩:=Qa.mp e
 obtain⟨k,c,i⟩:=YQ.mp d
 cases i
 obtain⟨a,b⟩:=h s y.1 y.2 j (F1 cu (by decide +kernel) c)
 exact⟨by unfold Bz;rw[a];show(eat "]" y.2).map _=_;rw[c];rfl,b⟩
theorem cA(h:HB f g){x:Kd}(e:Bz f s=some (x,t))(c:x.ok=true):Bz g s=some (x,t):=by
 obtain⟨y,d,a⟩:=Qa.mp e
 obtain⟨j,i,b⟩:=YQ.mp a
 cases b
 unfold Bz
 rw[h s y.1 y.2 d c];show(eat "]" y.2).map _=_;rw[i];rfl
theorem cB(h:HA f g){x:Kd}(e:pto g s=some (x,t)):pto f s=some (x,t)/\x.ok=true:=by
 obtain⟨y,p,l⟩:=Qa.mp e
 obtain⟨i,j,n⟩:=Qa.mp l
 obtain⟨z,q,m⟩:=Qa.mp n
 obtain⟨r,k,o⟩:=YQ.mp m
 cases o
 obtain⟨a,b⟩:=h s y.1 y.2 p (F1 cx (by decide +kernel) j)
 obtain⟨c,d⟩:=h i z.1 z.2 q (F1 cw (by decide +kernel) k)
 refine⟨?_,by show(y.1.ok&&z.1.ok)=true;rw[b,d];rfl⟩
 unfold pto
 rw[a];show(eat " > " y.2).bind _=_;rw[j];show(f i).bind _=_;rw[c];show(eat ")" z.2).map _=_;rw[k];rfl
theorem cC(h:HB f g){x:Kd}(e:pto f s=some (x,t))(l:x.ok=true):pto g s=some (x,t):=by
 obtain⟨y,m,c⟩:=Qa.mp e
 obtain⟨a,n,j⟩:=Qa.mp c
 obtain⟨z,o,i⟩:=Qa.mp j
 obtain⟨q,p,k⟩:=YQ.mp i
 cases k
 obtain⟨b,d⟩:=Qe.mp (show(y.1.ok&&z.1.ok)=true from l)
 unfold pto
 rw[h s y.1 y.2 m b];show(eat " > " y.2).bind _=_;rw[n];show(g a).bind _=_;rw[h a z.1 z.2 o d];show(eat ")" z.2).map _=_;rw[p];rfl
def AOk(l:List Fd):Prop:=A1 (l.map (·.1))=true/\(ofL l).ok=true
theorem Qy{l:List Fd}{o:Bool}(h:AOk l):(Kd.row (ofL l) o).ok=true:=by
 show(A1 (ofL l).names&&(ofL l).ok)=true
 rw[KW,h.1,h.2];rfl
theorem Qz{l:List Fd}{o:Bool}(h:(Kd.row (ofL l) o).ok=true):AOk l:=by
 obtain⟨a,b⟩:=Qe.mp (show(A1 (ofL l).names&&(ofL l).ok)=true from h)
 exact⟨by rw[<- KW];exact a,b⟩
theorem HS:∀(l m:List Fd),(ofL (l++m)).ok=((ofL l).ok&&(ofL m).ok)
 | [],m=>rfl
 | x::l,m=>by
  show(AK x.1&&x.2.2.ok&&(ofL (l++m)).ok)=((AK x.1&&x.2.2.ok&&(ofL l).ok)&&(ofL m).ok)
  rw[HS l m]
  simp only[Bool.and_assoc]
theorem AOk.pre{l m:List Fd}(h:AOk (l++m)):AOk l:=by
 obtain⟨a,b⟩:=h
 rw[HS]at b
 rw[Yy]at a
 exact⟨cr (List.sublist_append_left _ _) a,(Qe.mp b).1⟩
theorem QA:∀(l:Sg)(c:Nat),c∈l.takeWhile Ba->Ba c=true
 | [],c,h=>by cases h
 | d::l,c,h=>by
  rw[List.takeWhile_cons]at h
  split at h
  ·rename_i hd
   walk_at "pg"
   ·exact hd
   ·exact QA l c h
  ·cases h
theorem QB(s:Sg):∀ c∈cs (wrd s),Ba c=true:=λc hc=>by
 unfold wrd at hc
 rw[CN]at hc
 exact QA s c hc
theorem QC(s:Sg):okL (wrd s)=AK (wrd s):=by
 have h:=QB s
 unfold okL AK
 have:((wrd s).cps.toList.all λc=>El ⟨#[c]⟩)=true:=List.all_eq_true.mpr h
 rw[this,Bool.and_true]
theorem QD:∀{l:List Str}{w:Str},A1 (l++[w])=(A1 l&&(match l.getLast? with | some x=>Aw x w | none=>true))
 | [],w=>rfl
 | [x],w=>by show(Aw x w&&true)=(true&&Aw x w);rw[Bool.and_true,Bool.true_and]
 | x::y::l,w=>by
  have a:=QD (l:=y::l) (w:=w)
  show(Aw x y&&A1 (y::l++[w]))=((Aw x y&&A1 (y::l))&&_)
  rw[a,Bool.and_assoc]
  rfl
theorem QE(a:List Fd)(w:Str):A1 (a.map (·.1)++[w])=(A1 (a.map (·.1))&&rs a w):=by
 rw[QD,List.getLast?_map]
 unfold rs
 cases a.getLast? <;> rfl
theorem cD{a:List Fd}{x:Fd}(h:AOk a)(h1:AK x.1=true)(h2:rs a x.1=true)(b:x.2.2.ok=true):AOk (a++[x]):=by
 refine⟨?_,?_⟩
 ·rw[Yy]
  show A1 (a.map (·.1)++[x.1])=true
  rw[QE,h.1,h2];rfl
 ·rw[HS,h.2]
  show(true&&(AK x.1&&x.2.2.ok&&true))=true
  rw[h1,b];rfl
theorem cE{e:List Fd}{x:Fd}(h:AOk (e++[x])):AK x.1=true/\rs e x.1=true/\x.2.2.ok=true:=by
 obtain⟨a,b⟩:=h
 rw[Yy]at a
 have f:A1 (e.map (·.1)++[x.1])=true:=a
 rw[QE]at f
 rw[HS]at b
 have g:=(Qe.mp b).2
 obtain⟨c,_⟩:=Qe.mp (show(AK x.1&&x.2.2.ok&&true)=true from g)
 obtain⟨c,d⟩:=Qe.mp c
 exact⟨c,(Qe.mp f).2,d⟩
theorem cF(h:HA f g){c:List Fd}{x:Fd}(e:lff g c s=some (x,t))(l:stp t):pf f s=some (x,t)/\x.1=wrd s/\AK x.1=true/\rs c x.1=true/\x.2.2.ok=true:=by
 have go:∀{m:Bool}{u:Sg},((eat ": " u).bind λd=>if okL (wrd s)&&rs c (wrd s)then(g d).map λx=>((wrd s,m,x.1),x.2)else none)=some (x,t)->((eat ": " u).bind λd=>(f d).map λx=>((wrd s,m,x.1),x.2))=some (x,t)/\x.1=wrd s/\AK x.1=true/\rs c x.1=true/\x.2.2.ok=true:=λ{m u}e=>by
  obtain⟨d,p,i⟩:=Qa.mp e
  split at i
  ·rename_i hc
   obtain⟨k,o⟩:=Qe.mp hc
   rw[QC]at k
   obtain⟨y,q,n⟩:=YQ.mp i
   cases n
   obtain⟨a,b⟩:=h d y.1 y.2 q l
   exact⟨by rw[p];show(f d).map _=_;rw[a];rfl,rfl,k,o,b⟩
  ·cases i
 unfold lff at e
 unfold pf
 cases j:eat "?" (aft s)with
 | some r=>rw[j]at e;exact go e
 | none=>rw[j]at e;exact go e
theorem QF(h:HB f g){a:List Fd}{x:Fd}(e:pf f s=some (x,t))(l:AOk (a++[x])):lff g a s=some (x,t):=by
 obtain⟨j,p,i⟩:=cE l
 have go:∀{m:Bool}{u:Sg},((eat ": " u).bind λb=>(f b).map λx=>((wrd s,m,x.1),x.2))=some (x,t)->((eat ": " u).bind λb=>if okL (wrd s)&&rs a (wrd s)then(g b).map λx=>((wrd s,m,x.1),x.2)else none)=some (x,t):=λ{m u}e=>by
  obtain⟨b,n,k⟩:=Qa.mp e
  obtain⟨y,o,d⟩:=YQ.mp k
  cases d
  rw[n]
  show(if okL (wrd s)&&rs a (wrd s)then(g b).map _ else none)=_
  rw[QC,j,p,if_pos (show(true&&true)=true from rfl),h b y.1 y.2 o i];rfl
 unfold pf at e
 unfold lff
 cases c:eat "?" (aft s)with
 | some q=>rw[c]at e;exact go e
 | none=>rw[c]at e;exact go e
theorem cG{b a:Sg}(d:eat ".." s=some b)(c:eat "}" b=some a):eat "..}" s=some a:=by
 have:=F0 d
 have h2:=F0 c
 rw[K0]at this
 rw[KZ]at h2
 rw[this,h2]
 have z:=E7 (p:="..}") (s:=a)
 rw[Qx]at z
 exact z
theorem QG{a:Sg}(e:eat "..}" s=some a):∃ b,eat ".." s=some b/\eat "}" b=some a:=by
 have h:=F0 e
 rw[Qx]at h
 refine⟨125::a,?_,?_⟩
 ·have z:=E7 (p:="..") (s:=125::a)
  rw[K0]at z
  rw[h];exact z
 ·have z:=E7 (p:="}") (s:=a)
  rw[KZ]at z
  exact z
theorem QH{f g:Sg->Option (Kd×Sg)}(h:HA f g):∀(m:Nat)(s:Sg)(a:List Fd)(k:Kd)(t:Sg),AOk a->lfl g m s a=some (k,t)->pr f m s a=some (k,t)/\k.ok=true
 | 0,_,_,_,_,_,e=>by cases e
 | m+1,s,a,k,t,r,e=>by
  unfold lfl at e
  unfold pr
  cases o:eat "..}" s with
  | some J =>
   rw[o]at e
   cases e
   obtain⟨E,B,I⟩:=QG o
   rw[B]
   exact⟨by show(eat "}" E).map _=_;rw[I];rfl,Qy r⟩
  | none =>
   rw[o]at e
   obtain⟨y,D,b⟩:=Qa.mp e
   have n:stp y.2:=by
    cases i:eat "}" y.2 with
    | some w=>exact F1 KZ (by decide +kernel) i
    | none =>
     rw[i]at b
     obtain⟨q,p,_⟩:=Qa.mp b
     exact F1 cy (by decide +kernel) p
   obtain⟨p1,p2,p3,p4,G⟩:=cF h (x:=y.1) (t:=y.2) D n
   have j:=cD r p3 p4 G
   have l:eat ".." s=none:=by
    have hw:1<=(cs (wrd s)).length:=by
     rw[BK,<- p2]
     have:=p3
     unfold AK at this
     simp only[YG,YO]at this
     exact this.1.1
    have v:=HP s
    cases hc:cs (wrd s)with
    | nil=>rw[hc]at hw;cases hw
    | cons c u =>
     have hl:=QB s c (by rw[hc];exact Ye)
     rw[hc]at v
     exact BB (d:=c) (u:=u++aft s) K0 v (λz=>by rw[<- z]at hl;exact Qi hl (by decide +kernel))
   rw[l]
   show(pf f s).bind _=_/\_
   rw[p1]
   show(match eat "}" y.2 with | some w=>_ | none=>_)=_/\_
   cases i:eat "}" y.2 with
   | some w =>
    rw[i]at b
    cases b
    exact⟨rfl,Qy j⟩
   | none =>
    rw[i]at b
    obtain⟨q,p,H⟩:=Qa.mp b
    obtain⟨A,F⟩:=QH h m q (a++[y.1]) k t j H
    exact⟨by show(eat ", " y.2).bind _=_;rw[p];exact A,F⟩
theorem QI{f:Sg->Option (Kd×Sg)}:∀(m:Nat)(s:Sg)(a:List Fd)(k:Kd)(t:Sg),pr f m s a=some (k,t)->∃ l o,k=.row (ofL (a++l)) o
 | 0,_,_,_,_,e=>by cases e
 | m+1,s,a,k,t,e=>by
  unfold pr at e
  split at e
  ·obtain⟨i,c,b⟩:=YQ.mp e
   cases b
   exact⟨[],true,by rw[Yx]⟩
  ·obtain⟨y,c,b⟩:=Qa.mp e
   split at b
   ·cases b
    exact⟨[y.1],false,rfl⟩
   ·obtain⟨g,h,d⟩:=Qa.mp b
    obtain⟨l,o,z⟩:=QI m _ _ _ _ d
    exact⟨y.1::l,o,by rw[z,Yv];rfl⟩
theorem QJ{f g:Sg->Option (Kd×Sg)}(h:HB f g):∀(m:Nat)(s:Sg)(a:List Fd)(k:Kd)(t:Sg),pr f m s a=some (k,t)->k.ok=true->lfl g m s a=some (k,t)
 | 0,_,_,_,_,e,_=>by cases e
 | m+1,s,a,k,t,e,n=>by
  unfold pr at e
  unfold lfl
  cases i:eat ".." s with
  | some A =>
   rw[i]at e
   obtain⟨j,c,b⟩:=YQ.mp e
   cases b
   rw[cG i c]
  | none =>
   rw[i]at e
   have v:eat "..}" s=none:=by
    cases r:eat "..}" s with
    | none=>rfl
    | some j=>obtain⟨A,q,_⟩:=QG r;rw[i]at q;cases q
   rw[v]
   obtain⟨y,c,b⟩:=Qa.mp e
   show(lff g a s).bind _=_
   cases d:eat "}" y.2 with
   | some j =>
    rw[d]at b
    cases b
    rw[QF h (x:=y.1) (t:=y.2) c (Qz n)]
    show(match eat "}" y.2 with | some j=>_ | none=>_)=_
    rw[d]
   | none =>
    rw[d]at b
    obtain⟨u,w,p⟩:=Qa.mp b
    obtain⟨l,o,z⟩:=QI m _ _ _ _ p
    rw[QF h (x:=y.1) (t:=y.2) c (AOk.pre (m:=l) (Qz (o:=o) (by rw[<- z];exact n)))]
    show(match eat "}" y.2 with | some j=>_ | none=>_)=_
    rw[d]
    show(eat ", " y.2).bind _=_
    rw[w]
    exact QJ h m u _ k t p n
theorem first{p:Str}{t:List Nat}(a:cs p=c::t)(e:eat p s=some s'):∃ u,s=c::u:=⟨_,C5 a e⟩
theorem K1:∀ n:Nat,HA (pk n) (lr n)
 | 0=>λs x t e _=>by cases e
 | n+1=>λs x t e v=>by
  have q:=K1 n
  have g:∀(w:Str)(c:Nat)(u:List Nat),cs w=c::u->(∀ d∈cs w,Ba d=true)->c≠40->c≠91->c≠123->∀ f,eat w s=some f->stp f->eat "(" s=none/\eat "[" s=none/\eat "{" s=none/\wrd s=w/\aft s=f:=λw c u hw hl F G D f i E=>by
   have es:=C5 hw i
   have h:=F0 i
   obtain⟨a,b⟩:=Qt hl E
   exact⟨BB KY es (YU F),BB HQ es (YU G),BB Qw es (YU D),by rw[h];exact a,by rw[h];exact b⟩
  unfold lr at e
  unfold pk
  cases i:eat "any" s with
  | some f =>
   rw[i]at e
   cases e
   obtain⟨j,m,o,l,k⟩:=g "any" _ _ E8 (by decide +kernel) (by decide) (by decide) (by decide) _ i v
   rw[j,m,o,l,k]
   exact⟨rfl,rfl⟩
  | none =>
  rw[i]at e
  cases r:eat "num" s with
  | some f =>
   rw[r]at e
   cases e
   obtain⟨j,m,o,l,k⟩:=g "num" _ _ E9 (by decide +kernel) (by decide) (by decide) (by decide) _ r v
   rw[j,m,o,l,k]
   exact⟨rfl,rfl⟩
  | none =>
  rw[r]at e
  cases p:eat "truth" s with
  | some f =>
   rw[p]at e
   cases e
   obtain⟨j,m,o,l,k⟩:=g "truth" _ _ Fa (by decide +kernel) (by decide) (by decide) (by decide) _ p v
   rw[j,m,o,l,k]
   exact⟨rfl,rfl⟩
  | none =>
  rw[p]at e
  cases y:eat "[" s with
  | some f =>
   rw[y]at e
   rw[BB KY (C5 HQ y) (by decide)]
   exact cz q e
  | none =>
  rw[y]at e
  cases B:eat "(" s with
  | some f =>
   rw[B]at e
   exact cB q e
  | none =>
  rw[B]at e
  cases A:eat "{" s with
  | none=>rw[A]at e;cases e
  | some f =>
   rw[A]at e
   have h:BM (lr n) f=some (x,t):=e
   show Dk (pk n) f=some (x,t)/\_
   unfold BM at h
   unfold Dk
   cases z:eat "}" f with
   | some H=>rw[z]at h;cases h;exact⟨rfl,rfl⟩
   | none=>rw[z]at h;exact QH q _ _ _ _ _ ⟨rfl,rfl⟩ h
theorem QK:∀ n:Nat,HB (pk n) (lr n)
 | 0=>λs x t e _=>by cases e
 | n+1=>λs x t e h=>by
  have f:=QK n
  unfold pk at e
  unfold lr
  cases g:eat "(" s with
  | some c =>
   rw[g]at e
   have es:=C5 KY g
   rw[BB E8 es (by decide),BB E9 es (by decide),BB Fa es (by decide),BB HQ es (by decide)]
   exact cC f e h
  | none =>
  rw[g]at e
  cases d:eat "[" s with
  | some c =>
   rw[d]at e
   have es:=C5 HQ d
   rw[BB E8 es (by decide),BB E9 es (by decide),BB Fa es (by decide)]
   exact cA f e h
  | none =>
  rw[d]at e
  cases i:eat "{" s with
  | some c =>
   rw[i]at e
   have es:=C5 Qw i
   rw[BB E8 es (by decide),BB E9 es (by decide),BB Fa es (by decide)]
   have a:Dk (pk n) c=some (x,t):=e
   show BM (lr n) c=some (x,t)
   unfold Dk at a
   unfold BM
   cases j:eat "}" c with
   | some k=>rw[j]at a;exact a
   | none=>rw[j]at a;exact QJ f _ _ _ _ _ a h
  | none =>
  rw[i]at e
  have b:=HP s
  have a:(if wrd s="any" then some (Kd.any,aft s)else if wrd s="num" then some (.num,aft s)else if wrd s="truth" then some (.truth,aft s)else none)=some (x,t):=e
  split at a
  ·rename_i w
   cases a
   rw[w]at b
   have z:eat "any" s=some (aft s):=by
    conv=>lhs;rw[b]
    exact E7
   rw[z]
  ·split at a
   ·rename_i w
    cases a
    rw[w]at b
    have z:eat "num" s=some (aft s):=by
     conv=>lhs;rw[b]
     exact E7
    rw[BB E8 (C5 E9 z) (by decide),z]
   ·split at a
    ·rename_i w
     cases a
     rw[w]at b
     have z:eat "truth" s=some (aft s):=by
      conv=>lhs;rw[b]
      exact E7
     rw[BB E8 (C5 Fa z) (by decide),BB E9 (C5 Fa z) (by decide),z]
    ·cases a
set_option hygiene false in
set_option hygiene false in
set_option hygiene false in
set_option hygiene false in
set_option hygiene false in
abbrev Zip:List Str:=["text","at","deep","word","sign","inner","other"]
theorem K2:Ay Zip ["text","at","deep"] (Aj Kt):=by walk_at "s"
def HU(BN:Spw)(HV:Spw):GS:=(Ae (gIf (gTB (Ac (AT λi j=>decide (j < i)) (Aa 2) (gC (.int 8)))) (Ag (gC .non)) Al) (Ae (Bq (AU (As (Ab (gC (.str "any")) (Ab (gC (.str "num")) (Ab (gC (.str "truth")) Ad))))) (gNm 3) (gIf (gTB (Ac (Af (eqF false)) (AA (Aa 0) (Ao (Aa 1)) (Ao (Ac (Ah) (Aa 1) (gB (rF Az) (Ab (Aa 3) Ad))))) (Aa 3))) (Ag (Ap (Ab (Ap (Ab (Aa 3) Ad)) (Ab (Ac (Ah) (Aa 1) (gB (rF Az) (Ab (Aa 3) Ad))) Ad)))) Al)) (Ae (Ai 4 (AA (Aa 0) (Ao (Aa 1)) (Ao (Ac (Ah) (Aa 1) (gC (.int 1)))))) (Ae (gIf (gTB (Ac (Af (eqF false)) (Aa 4) (gC (.str "[")))) (Ae (Ai 5 (Ak BN XF (Ab (Aa 0) (Ab (Ac (Ah) (Aa 1) (gC (.int 1))) (Ab (Ac (Ah) (Aa 2) (gC (.int 1))) Ad))))) (Ae (gIf (gOr (gTB (Ac (Af (isF false)) (Aa 5) (gC .non))) (gTB (Ac (Af (eqF true)) (AA (Aa 0) (Ao (Ac (Af ixW) (Aa 5) (gC (.int 1)))) (Ao (Ac (Ah) (Ac (Af ixW) (Aa 5) (gC (.int 1))) (gC (.int 1))))) (gC (.str "]"))))) (Ag (gC .non)) Al) (Ag (Ap (Ab (Ap (Ab (gC (.str "box")) (Ab (Ac (Af ixW) (Aa 5) (gC (.int 0))) Ad))) (Ab (Ac (Ah) (Ac (Af ixW) (Aa 5) (gC (.int 1))) (gC (.int 1))) Ad)))))) Al) (Ae (gIf (gTB (Ac (Af (eqF false)) (Aa 4) (gC (.str "(")))) (Ae (Ai 5 (Ak BN XF (Ab (Aa 0) (Ab (Ac (Ah) (Aa 1) (gC (.int 1))) (Ab (Ac (Ah) (Aa 2) (gC (.int 1))) Ad))))) (Ae (gIf (gOr (gTB (Ac (Af (isF false)) (Aa 5) (gC .non))) (gTB (Ac (Af (eqF true)) (AA (Aa 0) (Ao (Ac (Af ixW) (Aa 5) (gC (.int 1)))) (Ao (Ac (Ah) (Ac (Af ixW) (Aa 5) (gC (.int 1))) (gC (.int 3))))) (gC (.str " > "))))) (Ag (gC .non)) Al) (Ae (Ai 6 (Ak BN XF (Ab (Aa 0) (Ab (Ac (Ah) (Ac (Af ixW) (Aa 5) (gC (.int 1))) (gC (.int 3))) (Ab (Ac (Ah) (Aa 2) (gC (.int 1))) Ad))))) (Ae (gIf (gOr (gTB (Ac (Af (isF false)) (Aa 6) (gC .non))) (gTB (Ac (Af (eqF true)) (AA (Aa 0) (Ao (Ac (Af ixW) (Aa 6) (gC (.int 1)))) (Ao (Ac (Ah) (Ac (Af ixW) (Aa 6) (gC (.int 1))) (gC (.int 1))))) (gC (.str ")"))))) (Ag (gC .non)) Al) (Ag (Ap (Ab (Ap (Ab (gC (.str "to")) (Ab (Ac (Af ixW) (Aa 5) (gC (.int 0))) (Ab (Ac (Af ixW) (Aa 6) (gC (.int 0))) Ad)))) (Ab (Ac (Ah) (Ac (Af ixW) (Aa 6) (gC (.int 1))) (gC (.int 1))) Ad)))))))) Al) (Ae (gIf (gTB (Ac (Af (eqF false)) (Aa 4) (gC (.str "{")))) (Ag (Ak HV XF (Ab (Aa 0) (Ab (Ac (Ah) (Aa 1) (gC (.int 1))) (Ab (Aa 2) Ad))))) Al) (Ag (gC .non))))))))
variable {BN:Spw}
theorem QL(T:Tx K mg base a){CO:Nat}(QM:Df P w K mg base "_law_read" CO 3 BN)(QN:CO<=k){HX:Nat}{HV:Spw}(fh:Df P w K mg base "_law_fields" HX 3 HV)(fi:HX<=k):Dn P w K mg base Zip "_law_read" Kt k (HU BN HV):=by
 have hN:=K2.nd
 walk_at "z"
abbrev QO:List Str:=["text","at","deep","fields","name","mark","inner"]
theorem QP:Ay QO ["text","at","deep"] (Aj Ku):=by walk_at "s"
def K3(BN:Spw):GS:=(Ae (Ai 3 (As Ad)) (Ae (gIf (gTB (Ac (Af (eqF false)) (AA (Aa 0) (Ao (Aa 1)) (Ao (Ac (Ah) (Aa 1) (gC (.int 1))))) (gC (.str "}")))) (Ag (Ap (Ab (Ap (Ab (gC (.str "row")) (Ab (Ap Ad) (Ab (gC (.bl false)) Ad)))) (Ab (Ac (Ah) (Aa 1) (gC (.int 1))) Ad)))) Al) (Ae (Dd (gTB (Ac (Af (eqF true)) (AA (Aa 0) (Ao (Aa 1)) (Ao (Ac (Ah) (Aa 1) (gC (.int 3))))) (gC (.str "..}")))) (Ae (Ai 4 (gC (.str ""))) (Ae (Dd (Bh (gTB (Ac (AG (λi j=>decide (i < j)) Aw) (Aa 1) (gB (rF Az) (Ab (Aa 0) Ad)))) (gTB (Ac (Af inS) (Ac (Af ixW) (Aa 0) (Aa 1)) (gC (.str "abcdefghijklmnopqrstuvwxyz"))))) (Ae (Ai 4 (Ac (Ah) (Aa 4) (Ac (Af ixW) (Aa 0) (Aa 1)))) (Ai 1 (Ac (Ah) (Aa 1) (gC (.int 1)))))) (Ae (Ai 5 (gC (.str "must"))) (Ae (gIf (gTB (Ac (Af (eqF false)) (AA (Aa 0) (Ao (Aa 1)) (Ao (Ac (Ah) (Aa 1) (gC (.int 1))))) (gC (.str "?")))) (Ae (Ai 5 (gC (.str "may"))) (Ai 1 (Ac (Ah) (Aa 1) (gC (.int 1))))) Al) (Ae (gIf (gOr (gTB (Ac (Af (eqF true)) (AA (Aa 0) (Ao (Aa 1)) (Ao (Ac (Ah) (Aa 1) (gC (.int 2))))) (gC (.str ": ")))) (gNt (gTB (Bo (AG (λi j=>decide (i<=j)) (λa b=>!Aw b a)) (AG (λi j=>decide (i<=j)) (λa b=>!Aw b a)) (gC (.int 1)) (gB (rF Az) (Ab (Aa 4) Ad)) (gC (.int 8)))))) (Ag (gC .non)) Al) (Ae (gIf (Bh (gTB (Ac (Af (eqF true)) (Aa 3) (As Ad))) (gTB (Ac (AG (λi j=>decide (j<=i)) (λa b=>!Aw a b)) (Ac (Af ixW) (Ac (Af ixW) (Aa 3) (FE (gC (.int 1)))) (gC (.int 0))) (Aa 4)))) (Ag (gC .non)) Al) (Ae (Ai 6 (Ak BN XF (Ab (Aa 0) (Ab (Ac (Ah) (Aa 1) (gC (.int 2))) (Ab (Ac (Ah) (Aa 2) (gC (.int 1))) Ad))))) (Ae (gIf (gTB (Ac (Af (isF false)) (Aa 6) (gC .non))) (Ag (gC .non)) Al) (Ae (AF (gMt Bx B4 (Aa 3) (Ab (Ap (Ab (Aa 4) (Ab (Aa 5) (Ab (Ac (Af ixW) (Aa 6) (gC (.int 0))) Ad)))) Ad))) (Ae (Ai 1 (Ac (Af ixW) (Aa 6) (gC (.int 1)))) (Ae (gIf (gTB (Ac (Af (eqF false)) (AA (Aa 0) (Ao (Aa 1)) (Ao (Ac (Ah) (Aa 1) (gC (.int 1))))) (gC (.str "}")))) (Ag (Ap (Ab (Ap (Ab (gC (.str "row")) (Ab (gB (rF Br) (Ab (Aa 3) Ad)) (Ab (gC (.bl false)) Ad)))) (Ab (Ac (Ah) (Aa 1) (gC (.int 1))) Ad)))) Al) (Ae (gIf (gTB (Ac (Af (eqF true)) (AA (Aa 0) (Ao (Aa 1)) (Ao (Ac (Ah) (Aa 1) (gC (.int 2))))) (gC (.str ", ")))) (Ag (gC .non)) Al) (Ai 1 (Ac (Ah) (Aa 1) (gC (.int 2))))))))))))))))) (Ag (Ap (Ab (Ap (Ab (gC (.str "row")) (Ab (gB (rF Br) (Ab (Aa 3) Ad)) (Ab (gC (.bl true)) Ad)))) (Ab (Ac (Ah) (Aa 1) (gC (.int 3))) Ad)))))))
theorem cH(T:Tx K mg base a){CO:Nat}(QM:Df P w K mg base "_law_read" CO 3 BN)(QN:CO<=k):Dn P w K mg base QO "_law_fields" Ku k (K3 BN):=λ{f cdv A outer s H E}hr=>
 have hu:=A3 hr
 have hN:=QP.nd
 (Ar (by walk_at "v") (Ar (by walk_at "v") (Ar (Fv PassesOwn.never (by walk_at "v") (Ar (by walk_at "v") (Ar (by walk_at "v") (Ar (by walk_at "v") (Ar (by walk_at "v") (Ar (by walk_at "v") (Ar (BD (JA (JC (by walk_at "v") (JB (GF Of rfl (Gs (λ_ _=>rfl) (Gs (λ_ _=>rfl) (by walk_at "v") (ap EO)) EO) (by walk_at "v"))))) (by walk_at "v") BC) (by walk_at "v")))))))) (by walk_at "v"))))
abbrev QQ:List Str:=["text","found"]
theorem QR:Ay QQ ["text"] (Aj Kv):=by walk_at "s"
def QS(BN:Spw)(Dm:Spw):GS:=(Ae (Ai 1 (Ak BN XF (Ab (Aa 0) (Ab (gC (.int 0)) (Ab (gC (.int 1)) Ad))))) (Ae (gIf (gOr (gTB (Ac (Af (isF false)) (Aa 1) (gC .non))) (gOr (gTB (Ac (Af (eqF true)) (Ac (Af ixW) (Aa 1) (gC (.int 1))) (gB (rF Az) (Ab (Aa 0) Ad)))) (gTB (Ac (AT λi j=>decide (j < i)) (Ak Dm XF (Ab (Ac (Af ixW) (Aa 1) (gC (.int 0))) Ad)) (gC (.int 40)))))) (Ag (gC .non)) Al) (Ag (Ac (Af ixW) (Aa 1) (gC (.int 0))))))
variable {Dm:Spw}
theorem cI(T:Tx K mg base a){CO:Nat}(QM:Df P w K mg base "_law_read" CO 3 BN)(QN:CO<=k){DK:Nat}(cJ:Df P w K mg base "_law_count" DK 1 Dm)(cK:DK<=k):Dn P w K mg base QQ "_law_due" Kv k (QS BN Dm):=by
 have hN:=QR.nd
 walk_at "z"
theorem cL(h:T.length<=j):Txt.slice T (some (i:Int)) (some (j:Int))=Txt.slice T (some (i:Int)) (some ((T.length:Nat):Int)):=by
 have a:Builtin.Str.strSliceIndices (some (i:Int)) (some (j:Int)) 1 T.length=Builtin.Str.strSliceIndices (some (i:Int)) (some ((T.length:Nat):Int)) 1 T.length:=by
  unfold Builtin.Str.strSliceIndices
  dsimp only
  rw[if_neg (show ¬ (j:Int) < 0 by lia),if_neg (show ¬ ((T.length:Nat):Int) < 0 by lia)]
  rw[show min (j:Int) (T.length:Int)=min ((T.length:Nat):Int) (T.length:Int) by lia]
  simp only[show(1:Int) > 0 by decide,if_true]
 unfold Txt.slice
 rw[a]
theorem QT(h:At T i s)(n:Nat):Txt.slice T (some (i:Int)) (some ((i:Int)+n))=⟨(s.take n).toArray⟩:=by
 rw[show(i:Int)+n=((i+n:Nat):Int) by lia]
 rcases Nat.le_total (i+n) T.length with hl | hl
 ·rw[KJ (YW _ _) hl,show i+n - i=n by lia]
  show(⟨(((cs T).drop i).take n).toArray⟩:Str)=_
  rw[h.1]
 ·rw[cL hl,KJ h.2 (Yr _)]
  show(⟨(((cs T).drop i).take (T.length - i)).toArray⟩:Str)=_
  have a:=Qf List.length h.1
  rw[List.length_drop,BK]at a
  rw[h.1,List.take_of_length_le (by lia),List.take_of_length_le (by lia)]
theorem cM{p:Str}(h:At T i s):(Txt.slice T (some (i:Int)) (some ((i:Int)+(p.length:Nat)))==p)=(eat p s).isSome:=by
 rw[QT h]
 unfold eat
 by_cases z:s.take p.length=cs p
 ·rw[if_pos z,z]
  show((⟨(cs p).toArray⟩:Str)==p)=true
  rw[show(⟨(cs p).toArray⟩:Str)=p from HL (by rw[CN])]
  exact beq_self_eq_true p
 ·rw[if_neg z]
  show _=false
  rw[beq_eq_false_iff_ne]
  intro e
  have a:=Qf cs e
  rw[CN]at a
  exact z a
def LO(T:Str)(o:Option (Kd×Sg))(G:Hw)(Q:Kw):Prop:=match o with
 | some x=>∀ i:Nat,At T i x.2->Q (.tup [x.1.enc,.int i]) G
 | none=>Q .non G
theorem LO.imp{o:Option (Kd×Sg)}{a:Kw}(h:∀ w G,Q w G->a w G)(z:LO T o G Q):LO T o G a:=by
 cases o with
 | some x=>exact λi hi=>h _ _ (z i hi)
 | none=>exact h _ _ z
def Bt(d:Int)(f:Sg->Option (Kd×Sg)):Spw:=λws G Q _=>∃(T:Str)(i:Nat)(s:Sg),ws=[.str T,.int i,.int d]/\T.length<=2000/\At T i s/\LO T (f s) G Q
theorem K4:Spw.M (Bt d f):=λe G Q b E c h _⟨T,i,s,h1,h2,a,q⟩=>⟨T,i,s,h1,h2,a,q.imp h⟩
theorem Fb{E:Addr->Hw->Prop}(a:T.length<=2000)(b:At T i s)(q1:∀ x t,f s=some (x,t)->∀ i:Nat,At T i t->Q (.tup [x.enc,.int i]) G)(q2:f s=none->Q .non G):Bt d f [.str T,.int i,.int d] G Q E:=by
 refine⟨T,i,s,rfl,a,b,?_⟩
 cases z:f s with
 | some x=>exact λi hi=>q1 x.1 x.2 z i hi
 | none=>exact q2 z
theorem DL{o:Option (Kd×Sg)}{x:Kd}(q:LO T o G Q)(h:o=some (x,t)):∀ i:Nat,At T i t->Q (.tup [x.enc,.int i]) G:=by subst h;exact q
theorem DM{o:Option (Kd×Sg)}(q:LO T o G Q)(h:o=none):Q .non G:=by subst h;exact q
variable {Z:Bool->Hw->Prop}
theorem DN{p:Str}{neg:Bool}{n:Int}{ga gb gp:GE}(e:((p.length:Nat):Int)=n)(f:ω[0]?=some (some (.str T)))(a:∀(R:Kw),R (.int i) G->ga ω G R)(c:∀(R:Kw),R (.int ((i:Int)+n)) G->gb ω G R)(d:∀(R:Kw),R (.str p) G->gp ω G R)(h:At T i s)(b:T.length<=2000)(q:Z ((eat p s).isSome != neg) G):gTB (Ac (Af (eqF neg)) (AA (Aa 0) (Ao ga) (Ao gb)) gp) ω G Z:=by
 simp only[gTB,Ac,Af,AA,Ao,Aa,f]
 refine a _ (c _ ?_)
 refine⟨B6 b,d _ ?_⟩
 subst e
 rw[Cz,Aq,cM h]
 exact q
abbrev gWb:GS:=gIf (gTB (Ac (Af (eqF false)) (AA (Aa 0) (Ao (Aa 1)) (Ao (Ac (Ah) (Aa 1) (gB (rF Az) (Ab (Aa 3) Ad))))) (Aa 3))) (Ag (Ap (Ab (Ap (Ab (Aa 3) Ad)) (Ab (Ac (Ah) (Aa 1) (gB (rF Az) (Ab (Aa 3) Ad))) Ad)))) Al
theorem K5{w:Str}{d:W}{a c b:Option W}(hw:w.length<=100)(h:T.length<=2000)(g:At T i s)(q1:∀ t,eat w s=some t->∀ i:Nat,At T i t->D.rt (.tup [.tup [.str w],.int i]) G)(q2:eat w s=none->D.nx [some (.str T),some (.int i),some d,some (.str w),a,c,b] G):gWb D [some (.str T),some (.int i),some d,some (.str w),a,c,b] G:=by
 have hl:∀ G,Az [.str w] G=some (.int (w.length:Nat)):=λG=>by
  unfold Az Bn
  dsimp only
  rw[if_pos (B6 (by lia))]
 have f:∀(R:Kw),R (.int ((i:Int)+(w.length:Nat))) G->Ac (Ah) (Aa 1) (gB (rF Az) (Ab (Aa 3) Ad)) [some (.str T),some (.int i),some d,some (.str w),a,c,b] G R:=λR z=>by
  simp only[Ac,gB,rF,Aa,Ab,Ad,Yb,Yc]
  rw[hl,Aq]
  exact z
 unfold gWb
 simp only[gIf]
 refine DN rfl rfl (λR z=>z) f (λR z=>z) g h ?_
 cases e:eat w s with
 | none=>exact q2 e
 | some t =>
  simp only[Option.isSome_some,show(true != false)=true from rfl,if_true,Ag,Ap,Ab,Ad]
  simp only[Aa,Yb,Yc]
  refine⟨(show 1<=sizeLine by decide),f _ ⟨(show 2<=sizeLine by decide),?_⟩⟩
  have z:=q1 t e (i+w.length) (B0 g e).2
  rw[show((i+w.length:Nat):Int)=(i:Int)+(w.length:Nat) by lia]at z
  exact z
theorem K6{p:Str}(b:p.length=1):((⟨(s.take 1).toArray⟩:Str)==p)=(eat p s).isSome:=by
 unfold eat
 rw[b]
 by_cases z:s.take 1=cs p
 ·rw[if_pos z,z,show(⟨(cs p).toArray⟩:Str)=p from HL (by rw[CN])]
  exact beq_self_eq_true p
 ·rw[if_neg z]
  show _=false
  rw[beq_eq_false_iff_ne]
  intro e
  have a:=Qf cs e
  rw[CN]at a
  exact z a
theorem K7{p:Str}{x:W}{n:Int}(f:((p.length:Nat):Int)=n)(k:ω[0]?=some (some (.str T)))(a:ω[j]?=some (some (.tup [x,.int i])))(h:At T i t)(d:T.length<=2000)(q:Z (!(eat p t).isSome) G):gOr (gTB (Ac (Af (isF false)) (Aa j) (gC .non))) (gTB (Ac (Af (eqF true)) (AA (Aa 0) (Ao (Ac (Af ixW) (Aa j) (gC (.int 1)))) (Ao (Ac (Ah) (Ac (Af ixW) (Aa j) (gC (.int 1))) (gC (.int n))))) (gC (.str p)))) ω G Z:=by
 have hi:∀(R:Kw),R (.int i) G->Ac (Af ixW) (Aa j) (gC (.int 1)) ω G R:=λR z=>by
  simp only[Ac,Af,Aa,a,gC,ixW,Bw,Aq]
  exact z
 have e:∀(R:Kw),R (.int ((i:Int)+n)) G->Ac (Ah) (Ac (Af ixW) (Aa j) (gC (.int 1))) (gC (.int n)) ω G R:=λR z=>by
  have:=hi (λx g=>gC (.int n) ω g λy c=>Ah x y c R) z
  exact this
 have z:=DN (neg:=true) (gp:=gC (.str p)) (Z:=Z) f k hi e (λR z=>z) h d (by rw[show ∀ b:Bool,(b != true)=!b by intro b;cases b <;> rfl];exact q)
 simp only[gOr]
 simp only[gTB,Ac,Af,Aa,a,gC,isF,EW,Aq]at z ⊢
 exact z
theorem cN{o:Option (Kd×Sg)}{a:Hw}(b:Kw.C Q)(h:Sub G a)(q:LO T o G Q):LO T o a Q:=by
 cases o with
 | some x=>exact λi hi=>b _ _ _ h (q i hi)
 | none=>exact b _ _ _ h q
theorem cO(hd:d<=8)(N:Kw.C Q)(g:T.length<=2000)(u:At T i s)(q:LO T (lr (n+1) s) G Q):HU (Bt (d+1) (lr n)) (Bt d (BM (lr n))) (Ax Q) [some (.str T),some (.int i),some (.int d),none,none,none,none] G:=by
 unfold HU
 walk_at "pe"
 walk_at "ph"
 simp only[Al,Ae,Bq,AU,As,Ab,Ad,gC]
 refine⟨by decide,λp D=>?_⟩
 have r:=AB (o:=.lst [.str "any",.str "num",.str "truth"]) D
 have q:=cN N r q
 have m:put G p (.lst [.str "any",.str "num",.str "truth"]) p=some (.lst [.str "any",.str "num",.str "truth"]):=An
 generalize put G p (.lst [.str "any",.str "num",.str "truth"])=G1 at q m ⊢
 simp only[m]
 refine⟨m,?_⟩
 refine K5 (w:="any") (by decide) g u (λt e j b=>DL q (x:=Kd.any) (by unfold lr;rw[e]) j b) (λH=>⟨m,?_⟩)
 refine K5 (w:="num") (by decide) g u (λt e j b=>DL q (x:=Kd.num) (by unfold lr;rw[H,e]) j b) (λI=>⟨m,?_⟩)
 refine K5 (w:="truth") (by decide) g u (λt e j b=>DL q (x:=Kd.truth) (by unfold lr;rw[H,I,e]) j b) (λK=>⟨m,?_⟩)
 have L:lr (n+1) s=match eat "[" s with
   | some f=>Bz (lr n) f
   | none=>match eat "(" s with
    | some f=>pto (lr n) f
    | none=>match eat "{" s with
     | some f=>BM (lr n) f
     | none=>none:=by
  conv=>lhs;unfold lr
  rw[H,I,K]
  try rfl
 rw[L]at q
 simp only[Ai,AA,Ao,Ac,Aa,gC,Yb,Yc]
 refine⟨B6 g,?_⟩
 show Ae _ _ _ ([some (.str T),some (.int i),some (.int d),some (.str "truth"),some (.str (Txt.slice T (some (i:Int)) (some ((i:Int)+(1:Nat))))),none,none]:Sw) G1
 rw[QT u]
 have c:∀{p:Str},p.length=1->∀{t:Sg},eat p s=some t->At T (i+1) t:=λ{p}D{t}e=>by have:=(B0 u e).2;rw[D]at this;exact this
 simp only[Ae,gIf,gTB,Ac,Af,Aa,gC,Yb,Yc,Cz,Aq]
 rw[K6 (by decide)]
 cases v:eat "[" s with
 | some f =>
  have q:LO T (Bz (lr n) f) G1 Q:=by rw[v]at q;exact q
  simp only[Option.isSome_some,show(true != false)=true from rfl,if_true,Ai,Ak,Ac,Aa,gC,Ab,Ad,Yb,Yc]
  have h1:=c (by decide) v
  show Bt (d+1) (lr n) [.str T,.int ((i:Int)+(1:Nat)),.int (d+1)] G1 _ (λ_ _=>False)
  rw[show(i:Int)+((1:Nat):Int)=((i+1:Nat):Int) by lia]
  refine Fb g h1 (λx t a j b=>?_) (λa=>?_)
  ·simp only[Yk,Yl,Ae,gIf]
   refine K7 (n:=1) rfl rfl rfl b g ?_
   cases h:eat "]" t with
   | none=>exact DM q (by unfold Bz;rw[a];show(eat "]" t).map _=_;rw[h];rfl)
   | some B =>
    walk_at "pd"
    have z:=DL q (x:=Kd.box x) (by unfold Bz;rw[a];show(eat "]" t).map _=_;rw[h];rfl) (j+1) (B0 b h).2
    exact⟨(show 2<=sizeLine by decide),(show 2<=sizeLine by decide),z⟩
  ·simp only[Yk,Yl]
   exact DM q (by unfold Bz;rw[a];rfl)
 | none =>
 walk_at "pc"
 rw[K6 (by decide)]
 cases A:eat "(" s with
 | some f =>
  have q:LO T (pto (lr n) f) G1 Q:=by rw[v,A]at q;exact q
  simp only[Option.isSome_some,show(true != false)=true from rfl,if_true,Ai,Ak,Ac,Aa,gC,Ab,Ad,Yb,Yc]
  have h1:=c (by decide) A
  show Bt (d+1) (lr n) [.str T,.int ((i:Int)+(1:Nat)),.int (d+1)] G1 _ (λ_ _=>False)
  rw[show(i:Int)+((1:Nat):Int)=((i+1:Nat):Int) by lia]
  refine Fb g h1 (λx t a j b=>?_) (λa=>?_)
  ·simp only[Yk,Yl,Ae,gIf]
   refine K7 (n:=3) rfl rfl rfl b g ?_
   cases h:eat " > " t with
   | none=>exact DM q (by unfold pto;rw[a];show(eat " > " t).bind _=_;rw[h];rfl)
   | some B =>
    have h2:=(B0 b h).2
    simp only[Option.isSome_some,YF,Yq,if_false,Al,Ai,Ak,Ab,Ad,Ac,Af,Aa,gC,Yb,Yc,ixW,Bv,Bw,Aq]
    show Bt (d+1) (lr n) [.str T,.int ((j:Int)+(3:Nat)),.int (d+1)] G1 _ (λ_ _=>False)
    rw[show(j:Int)+((3:Nat):Int)=((j+3:Nat):Int) by lia]
    refine Fb g h2 (λy E l k J=>?_) (λl=>?_)
    ·simp only[Yk,Yl,Ae,gIf]
     refine K7 (n:=1) rfl rfl rfl J g ?_
     cases F:eat ")" E with
     | none=>exact DM q (by unfold pto;rw[a];show(eat " > " t).bind _=_;rw[h];show(lr n B).bind _=_;rw[l];show(eat ")" E).map _=_;rw[F];rfl)
     | some O =>
      walk_at "pd"
      have z:=DL q (x:=Kd.to x y) (by unfold pto;rw[a];show(eat " > " t).bind _=_;rw[h];show(lr n B).bind _=_;rw[l];show(eat ")" E).map _=_;rw[F];rfl) (k+1) (B0 J F).2
      exact⟨(show 3<=sizeLine by decide),(show 2<=sizeLine by decide),z⟩
    ·simp only[Yk,Yl]
     exact DM q (by unfold pto;rw[a];show(eat " > " t).bind _=_;rw[h];show(lr n B).bind _=_;rw[l];rfl)
  ·simp only[Yk,Yl]
   exact DM q (by unfold pto;rw[a];rfl)
 | none =>
 walk_at "pc"
 rw[K6 (by decide)]
 cases l:eat "{" s with
 | some f =>
  have q:LO T (BM (lr n) f) G1 Q:=by rw[v,A,l]at q;exact q
  simp only[Option.isSome_some,show(true != false)=true from rfl,if_true,Ag,Ak,Ac,Aa,gC,Ab,Ad,Yb,Yc]
  have h1:=c (by decide) l
  show Bt d (BM (lr n)) [.str T,.int ((i:Int)+(1:Nat)),.int d] G1 _ (λ_ _=>False)
  rw[show(i:Int)+((1:Nat):Int)=((i+1:Nat):Int) by lia]
  exact Fb g h1 (λx t a j b=>DL q a j b) (λa=>DM q a)
 | none =>
  have q:LO T none G1 Q:=by rw[v,A,l]at q;exact q
  simp only[Option.isSome_none,show(false != false)=false from rfl,Yq,if_false]
  exact q
theorem cP(c:Nat):Ba c=true↔97<=c/\c<=122:=by
 have h1:(Aw ⟨#[c]⟩ "a"=true)↔c < 97:=by
  unfold Aw
  rw[YO]
  show([c] < [97])↔_
  simp[List.cons_lt_cons_iff]
 have h2:(Aw "z" ⟨#[c]⟩=true)↔122 < c:=by
  unfold Aw
  rw[YO]
  show([122] < [c])↔_
  simp[List.cons_lt_cons_iff]
 show(!Aw ⟨#[c]⟩ "a"&&!Aw "z" ⟨#[c]⟩)=true↔_
 rw[Qe,Bool.not_eq_true',Bool.not_eq_true']
 constructor
 ·rintro⟨a,b⟩
  refine⟨?_,?_⟩
  ·rcases Nat.lt_or_ge c 97 with z | z
   ·rw[h1.mpr z]at a;cases a
   ·exact z
  ·rcases Nat.lt_or_ge 122 c with z | z
   ·rw[h2.mpr z]at b;cases b
   ·exact z
 ·rintro⟨a,b⟩
  refine⟨?_,?_⟩
  ·cases e:Aw ⟨#[c]⟩ "a" with
   | false=>rfl
   | true=>have:=h1.mp e;lia
  ·cases e:Aw "z" ⟨#[c]⟩with
   | false=>rfl
   | true=>have:=h2.mp e;lia
theorem cQ(c:Nat)(G:Hw):inS (.str ⟨#[c]⟩) (.str "abcdefghijklmnopqrstuvwxyz") G=some (.bl (Ba c)):=by
 show some (W.bl (!(Builtin.Str.occurrences "abcdefghijklmnopqrstuvwxyz" ⟨#[c]⟩ 0 ("abcdefghijklmnopqrstuvwxyz":Str).length 1).isEmpty))=_
 rw[StrLaws.found_one]
 congr 2
 rw[show("abcdefghijklmnopqrstuvwxyz":Str).cps.toList=List.range' 97 26 by decide +kernel,Bool.eq_iff_iff,YO,cP,List.mem_range'_1]
 lia
abbrev gNl:GS:=Dd (Bh (gTB (Ac (AG (λi j=>decide (i < j)) Aw) (Aa 1) (gB (rF Az) (Ab (Aa 0) Ad)))) (gTB (Ac (Af inS) (Ac (Af ixW) (Aa 0) (Aa 1)) (gC (.str "abcdefghijklmnopqrstuvwxyz"))))) (Ae (Ai 4 (Ac (Ah) (Aa 4) (Ac (Af ixW) (Aa 0) (Aa 1)))) (Ai 1 (Ac (Ah) (Aa 1) (gC (.int 1)))))
theorem Ex(h:At T i s):i+s.length=T.length:=by
 have:=Qf List.length h.1
 rw[List.length_drop,BK]at this
 have:=h.2
 lia
theorem QU(h:At T i (c::s))(b:T.length<=2000)(G:Hw):ixW (.str T) (.int i) G=some (.str ⟨#[c]⟩):=by
 have hl:=Ex h
 rw[Yg]at hl
 have a:i < T.cps.toList.length:=by rw[<- FX];lia
 have hc:T.cps.toList[i]?=some c:=by
  have z:=Qf (λl=>l[0]?) h.1
  simpa[cs]using z
 show(if T.length<=sizeLine then _ else none)=_
 rw[if_pos (B6 b)]
 show(atI T.cps.toList (i:Int)).map _=_
 rw[Da a,hc];rfl
theorem cR(h:At T i (c::s)):At T (i+1) s:=At.next (x:=[c]) h
theorem cS{d o t p:Option W}(u:T.length<=2000)(x:At T i s)(q:∀ g:Nat,At T g (aft s)->D.nx [some (.str T),some (.int g),d,o,some (.str (wrd s)),t,p] G):gNl D [some (.str T),some (.int i),d,o,some (.str ""),t,p] G:=by
 refine⟨λm ω r=>r=G/\∃(pre f:Sg)(g:Nat),ω=[some (.str T),some (.int g),d,o,some (.str ⟨pre.toArray⟩),t,p]/\s=pre++f/\(∀ c∈pre,Ba c=true)/\At T g f/\m=f.length,⟨s.length,rfl,[],s,i,rfl,rfl,(λc hc=>by cases hc),x,rfl⟩,?_⟩
 rintro m ω r ⟨rfl,pre,f,g,rfl,rfl,y,k,rfl⟩
 have hl:=Ex k
 have l:stp f->D.nx [some (.str T),some (.int g),d,o,some (.str ⟨pre.toArray⟩),t,p] r:=λh=>by
  obtain⟨a,b⟩:=Qt (w:=⟨pre.toArray⟩) (s:=f) (by rw[CN];exact y) h
  rw[CN]at a b
  rw[<- a]
  exact q g (by rw[b];exact k)
 have n:Az [.str T] r=some (.int (T.length:Nat)):=by
  unfold Az Bn
  dsimp only
  rw[if_pos (B6 u)]
 simp only[Bh,gTB,Ac,AG,gB,rF,Aa,Ab,Ad,Yb,Yc]
 rw[n,Aq]
 dsimp only
 cases f with
 | nil =>
  rw[Yi]at hl
  walk_at "ph"
  exact l λc hc=>by cases hc
 | cons c f =>
  rw[Yg]at hl
  rw[if_pos (by simp only[YO];lia)]
  simp only[Af,gC]
  rw[QU k u,Aq,cQ,Aq]
  cases hc:Ba c with
  | false=>exact l λe j=>by cases j;exact hc
  | true =>
   simp only[if_true,Ae,Ai,Ac,Af,Aa,gC,Yb,Yc,Yk,Yl]
   rw[QU k u,Aq]
   have v:pre.length+(c::f).length<=2000:=by
    have h1:=x.2
    have h2:=Ex x
    rw[Yj]at h2
    lia
   rw[Yg]at v
   refine⟨B6 (by show pre.length+1<=2000;lia),?_⟩
   refine⟨f.length,Nat.lt_succ_self _,rfl,pre++[c],f,g+1,?_,by rw[Yv];rfl,λe j=>?_,cR k,rfl⟩
   ·rw[show((⟨pre.toArray⟩:Str)++⟨#[c]⟩)=⟨(pre++[c]).toArray⟩from HL (by rw[ck,CN,CN];rfl)]
    rfl
   ·rcases Yz.mp j with j | j
    ·exact y e j
    ·rw[YA.mp j];exact hc
abbrev QV(sp:Spw):GS:=Ae (gIf (gOr (gTB (Ac (Af (eqF true)) (AA (Aa 0) (Ao (Aa 1)) (Ao (Ac (Ah) (Aa 1) (gC (.int 2))))) (gC (.str ": ")))) (gNt (gTB (Bo (AG (λi j=>decide (i<=j)) (λa b=>!Aw b a)) (AG (λi j=>decide (i<=j)) (λa b=>!Aw b a)) (gC (.int 1)) (gB (rF Az) (Ab (Aa 4) Ad)) (gC (.int 8)))))) (Ag (gC .non)) Al) (Ae (gIf (Bh (gTB (Ac (Af (eqF true)) (Aa 3) (As Ad))) (gTB (Ac (AG (λi j=>decide (j<=i)) (λa b=>!Aw a b)) (Ac (Af ixW) (Ac (Af ixW) (Aa 3) (FE (gC (.int 1)))) (gC (.int 0))) (Aa 4)))) (Ag (gC .non)) Al) (Ae (Ai 6 (Ak sp XF (Ab (Aa 0) (Ab (Ac (Ah) (Aa 1) (gC (.int 2))) (Ab (Ac (Ah) (Aa 2) (gC (.int 1))) Ad))))) (Ae (gIf (gTB (Ac (Af (isF false)) (Aa 6) (gC .non))) (Ag (gC .non)) Al) (Ae (AF (gMt Bx B4 (Aa 3) (Ab (Ap (Ab (Aa 4) (Ab (Aa 5) (Ab (Ac (Af ixW) (Aa 6) (gC (.int 0))) Ad)))) Ad))) (Ae (Ai 1 (Ac (Af ixW) (Aa 6) (gC (.int 1)))) (Ae (gIf (gTB (Ac (Af (eqF false)) (AA (Aa 0) (Ao (Aa 1)) (Ao (Ac (Ah) (Aa 1) (gC (.int 1))))) (gC (.str "}")))) (Ag (Ap (Ab (Ap (Ab (gC (.str "row")) (Ab (gB (rF Br) (Ab (Aa 3) Ad)) (Ab (gC (.bl false)) Ad)))) (Ab (Ac (Ah) (Aa 1) (gC (.int 1))) Ad)))) Al) (Ae (gIf (gTB (Ac (Af (eqF true)) (AA (Aa 0) (Ao (Aa 1)) (Ao (Ac (Ah) (Aa 1) (gC (.int 2))))) (gC (.str ", ")))) (Ag (gC .non)) Al) (Ai 1 (Ac (Ah) (Aa 1) (gC (.int 2)))))))))))
theorem B1{x:W}(h:eqD x x=some true)(h2:AX xs xs=some true):AX (x::xs) (x::xs)=some true:=by
 show(match eqD x x,AX xs xs with | some a,some b=>some (a&&b)| _,_=>none)=some true
 rw[h,h2];rfl
theorem DO(s:Str):eqD (.str s) (.str s)=some true:=by show some (s==s)=some true;simp
theorem cT(s:Bool):eqD (.bl s) (.bl s)=some true:=by show some (s==s)=some true;simp
mutual
theorem F2:∀ k:Kd,eqD k.enc k.enc=some true
 | .any=>by show AX [.str "any"] [.str "any"]=some true;exact B1 (DO _) rfl
 | .num=>by show AX [.str "num"] [.str "num"]=some true;exact B1 (DO _) rfl
 | .truth=>by show AX [.str "truth"] [.str "truth"]=some true;exact B1 (DO _) rfl
 | .to x y=>by
  have h1:=F2 x
  have h2:=F2 y
  show AX [.str "to",x.enc,y.enc] [.str "to",x.enc,y.enc]=some true;exact B1 (DO _) (B1 h1 (B1 h2 rfl))
 | .box x=>by
  have h1:=F2 x
  show AX [.str "box",x.enc] [.str "box",x.enc]=some true;exact B1 (DO _) (B1 h1 rfl)
 | .row fs o=>by
  have h1:eqD (.tup fs.enc) (.tup fs.enc)=some true:=QW fs
  show AX [.str "row",.tup fs.enc,.bl o] [.str "row",.tup fs.enc,.bl o]=some true;exact B1 (DO _) (B1 h1 (B1 (cT o) rfl))
theorem QW:∀ fs:Fs,AX fs.enc fs.enc=some true
 | .nil=>rfl
 | .cons n m k r=>by
  have h1:=F2 k
  have h2:=QW r
  have a:eqD (.tup [.str n,.str (mark m),k.enc]) (.tup [.str n,.str (mark m),k.enc])=some true:=(show AX [.str n,.str (mark m),k.enc] [.str n,.str (mark m),k.enc]=some true from B1 (DO _) (B1 (DO _) (B1 h1 rfl)))
  exact B1 a h2
end
mutual
theorem F3:∀ k:Kd,dpW k.enc<=3*k.dp
 | .any=>by show 1<=3*1;lia
 | .num=>by show 1<=3*1;lia
 | .truth=>by show 1<=3*1;lia
 | .to x y=>by have:=F3 x;have:=F3 y;show max 0 (max (dpW x.enc) (max (dpW y.enc) 0))+1<=3*(1+max x.dp y.dp);lia
 | .box x=>by have:=F3 x;show max 0 (max (dpW x.enc) 0)+1<=3*(1+x.dp);lia
 | .row fs o=>by have:=K8 fs;show max 0 (max (L3.dpL fs.enc+1) (max 0 0))+1<=3*(1+fs.dp);lia
theorem K8:∀ fs:Fs,L3.dpL fs.enc<=3*fs.dp+1
 | .nil=>YT _
 | .cons n m k r=>by
  have:=F3 k
  have:=K8 r
  show max (max 0 (max 0 (max (dpW k.enc) 0))+1) (L3.dpL r.enc)<=3*max k.dp r.dp+1;lia
end
def Dpt(d:Nat)(f:Sg->Option (Kd×Sg)):Prop:=∀ s x t,f s=some (x,t)->x.dp<=d
def AD(d:Nat)(acc:List Fd):Prop:=(ofL acc).dp<=d
theorem QX:∀(l m:List Fd),(ofL (l++m)).dp=max (ofL l).dp (ofL m).dp
 | [],m=>by show(ofL m).dp=max 0 (ofL m).dp;lia
 | x::l,m=>by show max x.2.2.dp (ofL (l++m)).dp=max (max x.2.2.dp (ofL l).dp) (ofL m).dp;rw[QX l m];lia
theorem AD.snoc{d:Nat}{a:List Fd}{x:Fd}(h:AD d a)(b:x.2.2.dp<=d):AD d (a++[x]):=by
 unfold AD at h ⊢
 rw[QX]
 show max _ (max x.2.2.dp 0)<=d
 lia
theorem cU{p2:Addr}(h1:G p=some (.lst xs))(h2:G p2=some (.lst []))(hd:L3.dpL xs < 90):eqF true (.ref p) (.ref p2) G=some (.bl (!xs.isEmpty)):=by
 show(match G p,G p2 with | some (.lst xs),some (.lst ys)=>(if L3.dpL xs < 90 then AX xs ys else none)| _,_=>none).map _=_
 rw[h1,h2]
 show(if L3.dpL xs < 90 then AX xs []else none).map _=_
 rw[if_pos hd]
 cases xs <;> rfl
theorem cV{w:Str}(e:ω[4]?=some (some (.str w)))(hw:w.length<=2000)(q:Z (okL w) G):gTB (Bo (AG (λi j=>decide (i<=j)) (λa b=>!Aw b a)) (AG (λi j=>decide (i<=j)) (λa b=>!Aw b a)) (gC (.int 1)) (gB (rF Az) (Ab (Aa 4) Ad)) (gC (.int 8))) ω G Z:=by
 have c:Az [.str w] G=some (.int (w.length:Nat)):=by
  unfold Az Bn
  dsimp only
  rw[if_pos (B6 hw)]
 simp only[gTB,Bo,gC,gB,rF,Ab,Ad,Aa,e]
 rw[c,Aq]
 simp only[AG]
 unfold okL at q
 by_cases h1:1<=w.length
 ·rw[YH h1,Bool.true_and]at q
  rw[if_pos (YH (by lia))]
  by_cases d:w.length<=8
  ·rw[YH d]at q
   rw[YH (by lia)];exact q
  ·rw[Qh d]at q
   rw[Qh (by lia)];exact q
 ·rw[Qh h1,Bool.false_and]at q
  rw[if_neg (by simp only[YO];lia)];exact q
theorem QY{u g:Sg}{b:List Fd}{m:Bool}{E:Hw}{I:Option W}(hf:Shr f)(X:Dpt 8 f)(Z:Kw.C Q)(U:∀ w G,Q w G->D.rt w G)(N:T.length<=2000)(hw:(wrd u).length<=2000)(h2:At T i g)(r:Sub G E)(hp:G p=none)(c:E p=some (.lst (b.map AE)))(hl:b.length+g.length<=2000)(v:AD 8 b)
  (k:lff f b u=(eat ": " g).bind λA=>if okL (wrd u)&&rs b (wrd u)then(f A).map λx=>((wrd u,m,x.1),x.2)else none)
  (ed:eat "..}" u=none) (q:LO T (lfl f (n+1) u b) G Q)
  (qn:∀(x:Fd)(P:Sg)(i4:Nat)(I:Option W)(s:Hw),AD 8 (b++[x])->At T i4 P->P.length+4<=g.length->Sub G s->s p=some (.lst ((b++[x]).map AE))->LO T (lfl f n P (b++[x])) G Q->D.nx [some (.str T),some (.int i4),some (.int d),some (.ref p),some (.str (wrd u)),some (.str (mark m)),I] s):
  QV (Bt (d+1) f) D [some (.str T),some (.int i),some (.int d),some (.ref p),some (.str (wrd u)),some (.str (mark m)),I] E:=by
 have el:lfl f (n+1) u b=(lff f b u).bind λx=>match eat "}" x.2 with
   | some g=>some (.row (ofL (b++[x.1])) false,g)
   | none=>(eat ", " x.2).bind λg=>lfl f n g (b++[x.1]):=by
  conv=>lhs;unfold lfl
  rw[ed]
  try rfl
 have no:lff f b u=none->∀{s:Hw},Sub G s->D.rt .non s:=λh{s}hs=>U _ _ (Z _ _ _ hs (DM q (by rw[el,h];rfl)))
 have S:L3.dpL (b.map AE) < 90:=by
  have:=K8 (ofL b)
  rw[Er]at this
  have:(ofL b).dp<=8:=v
  lia
 unfold QV
 simp only[Ae,gIf,gOr]
 refine DN (n:=2) rfl rfl (λR z=>z) (λR z=>z) (λR z=>z) h2 N ?_
 cases J:eat ": " g with
 | none=>exact no (by rw[k,J];rfl) r
 | some A =>
 have h3:At T (i+2) A:=(B0 h2 J).2
 have l3:A.length+2=g.length:=BA J
 rw[J]at k
 have k:lff f b u=if okL (wrd u)&&rs b (wrd u)then(f A).map λx=>((wrd u,m,x.1),x.2)else none:=k
 simp only[Option.isSome_some,show(true != true)=false from rfl,Yq,if_false,gNt]
 refine cV rfl hw ?_
 cases e4:okL (wrd u)with
 | false=>exact no (by rw[k,e4];rfl) r
 | true =>
 rw[e4,Bool.true_and]at k
 simp only[YF,Yq,if_false,Al,Ae,gIf,Bh,gTB,Ac,Af,Aa,As,Ad,Yb,Yc]
 refine⟨by decide,λp2 B=>?_⟩
 have O:p≠p2:=λe=>by rw[e,B]at c;cases c
 have r:=r.trans (AB (o:=.lst []) B)
 have c:put E p2 (.lst []) p=some (.lst (b.map AE)):=by rw[AH O];exact c
 rw[cU c An S,Aq]
 generalize put E p2 (.lst [])=G1 at r c ⊢
 dsimp only
 have go:rs b (wrd u)=true->Ae (Ai 6 (Ak (Bt (d+1) f) XF (Ab (Aa 0) (Ab (Ac (Ah) (Aa 1) (gC (.int 2))) (Ab (Ac (Ah) (Aa 2) (gC (.int 1))) Ad))))) (Ae (gIf (gTB (Ac (Af (isF false)) (Aa 6) (gC .non))) (Ag (gC .non)) Al) (Ae (AF (gMt Bx B4 (Aa 3) (Ab (Ap (Ab (Aa 4) (Ab (Aa 5) (Ab (Ac (Af ixW) (Aa 6) (gC (.int 0))) Ad)))) Ad))) (Ae (Ai 1 (Ac (Af ixW) (Aa 6) (gC (.int 1)))) (Ae (gIf (gTB (Ac (Af (eqF false)) (AA (Aa 0) (Ao (Aa 1)) (Ao (Ac (Ah) (Aa 1) (gC (.int 1))))) (gC (.str "}")))) (Ag (Ap (Ab (Ap (Ab (gC (.str "row")) (Ab (gB (rF Br) (Ab (Aa 3) Ad)) (Ab (gC (.bl false)) Ad)))) (Ab (Ac (Ah) (Aa 1) (gC (.int 1))) Ad)))) Al) (Ae (gIf (gTB (Ac (Af (eqF true)) (AA (Aa 0) (Ao (Aa 1)) (Ao (Ac (Ah) (Aa 1) (gC (.int 2))))) (gC (.str ", ")))) (Ag (gC .non)) Al) (Ai 1 (Ac (Ah) (Aa 1) (gC (.int 2))))))))) D [some (.str T),some (.int i),some (.int d),some (.ref p),some (.str (wrd u)),some (.str (mark m)),I] G1:=λe5=>by
  rw[e5]at k
  have k:lff f b u=(f A).map λx=>((wrd u,m,x.1),x.2):=k
  simp only[Ae,Ai,Ak,Ac,Aa,gC,Ab,Ad,Yb,Yc]
  show Bt (d+1) f [.str T,.int ((i:Int)+(2:Nat)),.int (d+1)] G1 _ (λ_ _=>False)
  rw[show(i:Int)+((2:Nat):Int)=((i+2:Nat):Int) by lia]
  refine Fb N h3 (λx t F j L=>?_) (λF=>?_)
  rotate_left
  ·simp only[Yk,Yl]
   exact no (by rw[k,F];rfl) r
  rw[F]at k
  have k:lff f b u=some ((wrd u,m,x),t):=k
  have hx:=X _ _ _ F
  have ht:=hf _ _ _ F
  simp only[Yk,Yl,gIf,gTB,Ac,Af,Aa,gC,Yb,Yc,isF,EW,Aq,Al,AF,gMt,Ab,Ad,Ap,ixW,Bv,Bw]
  refine⟨Eu c,(show 3<=sizeLine by decide),?_⟩
  simp only[Ad]
  refine FY c (by rw[Yh];exact EY (by lia)) ?_
  have r:=r.put (a:=p) (o:=.lst (b.map AE++[.tup [.str (wrd u),.str (mark m),x.enc]])) hp
  have c:put G1 p (.lst (b.map AE++[.tup [.str (wrd u),.str (mark m),x.enc]])) p=some (.lst ((b++[(wrd u,m,x)]).map AE)):=by rw[An,Yy];rfl
  generalize put G1 p (.lst (b.map AE++[.tup [.str (wrd u),.str (mark m),x.enc]]))=s at r c ⊢
  have ha:=AD.snoc (x:=(wrd u,m,x)) v hx
  rw[el,k]at q
  have q:LO T (match eat "}" t with
   | some g=>some (.row (ofL (b++[(wrd u,m,x)])) false,g)
   | none=>(eat ", " t).bind λg=>lfl f n g (b++[(wrd u,m,x)])) G Q:=q
  simp only[Ae,Ai,Ac,Af,Aa,gC,Yb,Yc,Yk,Yl,ixW,Bw,Aq,gIf]
  refine DN (n:=1) rfl rfl (λR z=>z) (λR z=>z) (λR z=>z) L N ?_
  cases Y:eat "}" t with
  | some t2 =>
   rw[Y]at q
   simp only[Option.isSome_some,show(true != false)=true from rfl,if_true,Ag,gB,rF,gC,Aa,Ap,Ab,Ad,Ac,Yb,Yc]
   rw[Et c,Aq]
   refine⟨(show 3<=sizeLine by decide),(show 2<=sizeLine by decide),U _ _ (Z _ _ _ r ?_)⟩
   have z:=q (j+1) (B0 L Y).2
   rw[show(Kd.row (ofL (b++[(wrd u,m,x)])) false).enc=.tup [.str "row",.tup ((b++[(wrd u,m,x)]).map AE),.bl false] by show W.tup [_,.tup (ofL _).enc,_]=_;rw[Er]]at z
   exact z
  | none =>
   rw[Y]at q
   have q:LO T ((eat ", " t).bind λg=>lfl f n g (b++[(wrd u,m,x)])) G Q:=q
   simp only[Option.isSome_none,show(false != false)=false from rfl,Yq,if_false,Al,Ae,gIf]
   refine DN (n:=2) rfl rfl (λR z=>z) (λR z=>z) (λR z=>z) L N ?_
   cases K:eat ", " t with
   | none=>rw[K]at q;exact U _ _ (Z _ _ _ r q)
   | some t2 =>
    rw[K]at q
    have l8:t2.length+2=t.length:=BA K
    exact qn (wrd u,m,x) t2 (j+2) _ s ha (B0 L K).2 (by lia) r c q
 rcases List.eq_nil_or_concat b with e |⟨l,y,e⟩
 ·have e5:rs b (wrd u)=true:=by rw[e];rfl
  have eb:(!(b.map AE).isEmpty)=false:=by rw[e];rfl
  rw[eb]
  simp only[Yq,if_false]
  exact go e5
 ·have e:b=l++[y]:=by rw[e,List.concat_eq_append]
  have er:rs b (wrd u)=Aw y.1 (wrd u):=by unfold rs;rw[e,List.getLast?_concat]
  have eb:(!(b.map AE).isEmpty)=true:=by rw[e,Yy];cases l <;> rfl
  have ei:ixW (.ref p) (.int (-1)) G1=some (AE y):=by
   show(match G1 p with | some (.lst xs)=>atI xs (-1)| _=>none)=_
   rw[c]
   show atI (b.map AE) (-1)=_
   rw[e,Yy]
   exact U9 _ _
  rw[eb]
  simp only[if_true,FE,gC]
  refine⟨1,rfl,?_⟩
  rw[ei,Aq]
  rw[show ixW (AE y) (.int 0) G1=some (.str y.1)from Bv,Aq]
  simp only[AG]
  rcases Bool.eq_false_or_eq_true (Aw y.1 (wrd u))with H | H
  ·simp only[H,YF,Yq,if_false]
   exact go (by rw[er,H])
  ·simp only[H,YM,if_true]
   exact no (by rw[k,er,H];rfl) r
theorem Bb{p:Str}(e:eat p s=some s'):s'.length<=s.length:=by have:=BA e;lia
theorem cW(i:Shr f){a:List Fd}{x:Fd}(e:lff f a s=some (x,s')):s'.length<=s.length:=by
 have h2:∀{m:Bool}{t:Sg},t.length<=s.length->((eat ": " t).bind λc=>if okL (wrd s)&&rs a (wrd s)then(f c).map λx=>((wrd s,m,x.1),x.2)else none)=some (x,s')->s'.length<=s.length:=λ{m t}k e=>by
  obtain⟨c,h,b⟩:=Qa.mp e
  split at b
  ·obtain⟨y,j,g⟩:=YQ.mp b
   cases g
   have:=i _ _ _ j
   have:=Bb h
   lia
  ·cases b
 have h1:=HM s
 unfold lff at e
 split at e
 ·rename_i l d
  exact h2 (by have:=Bb d;lia) e
 ·exact h2 h1 e
theorem cX{d:Nat}(h:Dpt d f){a:List Fd}{x:Fd}(e:lff f a s=some (x,s')):x.2.2.dp<=d:=by
 have h2:∀{m:Bool}{t:Sg},((eat ": " t).bind λc=>if okL (wrd s)&&rs a (wrd s)then(f c).map λx=>((wrd s,m,x.1),x.2)else none)=some (x,s')->x.2.2.dp<=d:=λ{m t}e=>by
  obtain⟨c,j,b⟩:=Qa.mp e
  split at b
  ·obtain⟨y,i,g⟩:=YQ.mp b
   cases g
   exact h _ _ _ i
  ·cases b
 unfold lff at e
 split at e
 ·exact h2 e
 ·exact h2 e
def Sd(d:Nat)(f:Sg->Option (Kd×Sg)):Prop:=Shr f/\Dpt d f
theorem QZ{d:Nat}{f:Sg->Option (Kd×Sg)}(k:Sd d f):∀(m:Nat)(s:Sg)(c:List Fd)(x:Kd)(s':Sg),AD d c->lfl f m s c=some (x,s')->s'.length<=s.length/\x.dp<=d+1
 | 0,_,_,_,_,_,e=>by cases e
 | m+1,s,c,x,s',p,e=>by
  have g:∀{l:List Fd}{o:Bool},AD d l->(Kd.row (ofL l) o).dp<=d+1:=λ{l o}h=>by
   show 1+(ofL l).dp<=d+1
   have:(ofL l).dp<=d:=h
   lia
  unfold lfl at e
  split at e
  ·rename_i v r
   cases e
   exact⟨Bb r,g p⟩
  ·obtain⟨y,n,j⟩:=Qa.mp e
   have h2:=cW k.1 (x:=y.1) (s':=y.2) n
   have q:=p.snoc (cX k.2 (x:=y.1) (s':=y.2) n)
   split at j
   ·rename_i w i
    cases j
    exact⟨by have:=Bb i;lia,g q⟩
   ·obtain⟨u,i,t⟩:=Qa.mp j
    obtain⟨a,b⟩:=QZ k m _ _ _ _ q t
    exact⟨by have:=Bb i;lia,b⟩
theorem cY{d:Nat}(b:Sd d f):Sd (d+1) (BM f):=by
 have:∀ s x s',BM f s=some (x,s')->s'.length<=s.length/\x.dp<=d+1:=λs x s' e=>by
  unfold BM at e
  split at e
  ·rename_i c a
   cases e
   exact⟨Bb a,by show 1+0<=d+1;lia⟩
  ·exact QZ b _ _ _ _ _ (YT _) e
 exact⟨λs x s' e=>(this s x s' e).1,λs x s' e=>(this s x s' e).2⟩
theorem HY:∀ n:Nat,Sd n (lr n)
 | 0=>⟨λs x s' e=>(by cases e),λs x s' e=>(by cases e)⟩
 | n+1=>by
  have d:=HY n
  have:∀ s x s',lr (n+1) s=some (x,s')->s'.length<=s.length/\x.dp<=n+1:=λs x s' e=>by
   unfold lr at e
   split at e
   ·rename_i g c;cases e;exact⟨Bb c,Nat.le_add_left _ _⟩
   ·split at e
    ·rename_i g c;cases e;exact⟨Bb c,Nat.le_add_left _ _⟩
    ·split at e
     ·rename_i g c;cases e;exact⟨Bb c,Nat.le_add_left _ _⟩
     ·split at e
      ·rename_i g c
       obtain⟨y,f,i⟩:=Qa.mp e
       obtain⟨o,h,j⟩:=YQ.mp i
       cases j
       have:=d.1 _ _ _ f
       have:=d.2 _ _ _ f
       have:=Bb c
       have:=Bb h
       exact⟨by lia,by show 1+y.1.dp<=_;lia⟩
      ·split at e
       ·rename_i g c
        obtain⟨y,f,i⟩:=Qa.mp e
        obtain⟨o,h,j⟩:=Qa.mp i
        obtain⟨z,k,p⟩:=Qa.mp j
        obtain⟨q,m,l⟩:=YQ.mp p
        cases l
        have:=d.1 _ _ _ f
        have:=d.2 _ _ _ f
        have:=d.1 _ _ _ k
        have:=d.2 _ _ _ k
        have:=Bb c
        have:=Bb h
        have:=Bb m
        exact⟨by lia,by show 1+max y.1.dp z.1.dp<=_;lia⟩
       ·split at e
        ·rename_i g c
         obtain⟨a,b⟩:=(cY d)
         exact⟨by have:=a _ _ _ e;have:=Bb c;lia,b _ _ _ e⟩
        ·cases e
  exact⟨λs x s' e=>(this s x s' e).1,λs x s' e=>(this s x s' e).2⟩
theorem cZ(l:Sd 8 f)(u:Kw.C Q)(h:T.length<=2000)(t:At T i s)(q:LO T (BM f s) G Q):K3 (Bt (d+1) f) (Ax Q) [some (.str T),some (.int i),some (.int d),none,none,none,none] G:=by
 unfold K3
 simp only[Ae,Ai,As,Ad]
 refine⟨by decide,λp w=>?_⟩
 have e:=AB (o:=.lst []) w
 have b:put G p (.lst []) p=some (.lst (([]:List Fd).map AE)):=An
 generalize put G p (.lst [])=G1 at e b ⊢
 simp only[Yk,Yl,gIf]
 refine DN (n:=1) rfl rfl (λR z=>z) (λR z=>z) (λR z=>z) t h ?_
 have S:s.length<=2000:=by have:=Ex t;lia
 cases I:eat "}" s with
 | some J =>
  refine⟨(show 0<=sizeLine by decide),(show 3<=sizeLine by decide),(show 2<=sizeLine by decide),u _ _ _ e ?_⟩
  exact DL q (x:=Kd.row .nil false) (by unfold BM;rw[I]) (i+1) (B0 t I).2
 | none =>
 have q:LO T (lfl f (s.length+1) s []) G Q:=by
  have z:=q
  unfold BM at z
  rw[I]at z
  exact z
 simp only[Option.isSome_none,show(false != false)=false from rfl,Yq,if_false,Al]
 refine⟨λm ω E=>∃(a:List Fd)(s':Sg)(v:Nat)(L N g:Option W),ω=[some (.str T),some (.int v),some (.int d),some (.ref p),L,N,g]/\Sub G E/\E p=some (.lst (a.map AE))/\At T v s'/\s'.length < m/\a.length+s'.length<=2000/\AD 8 a/\LO T (lfl f m s' a) G Q,⟨s.length+1,[],s,i,none,none,none,rfl,e,b,t,Nat.lt_succ_self _,by simp only[Yi];lia,YT _,q⟩,?_⟩
 rintro m ω E ⟨a,s',v,L,N,g,rfl,e,b,c,Y,hl,K,q⟩
 obtain⟨m,rfl⟩:∃ k,m=k+1:=⟨m - 1,by lia⟩
 refine DN (n:=3) rfl rfl (λR z=>z) (λR z=>z) (λR z=>z) c h ?_
 cases r:eat "..}" s' with
 | some J =>
  simp only[Option.isSome_some,show(true != true)=false from rfl,Yq,if_false,Ag,gB,rF,gC,Aa,Ap,Ab,Ad,Ac,Yb,Yc]
  rw[Et b,Aq]
  refine⟨(show 3<=sizeLine by decide),(show 2<=sizeLine by decide),u _ _ _ e ?_⟩
  have z:=DL q (x:=Kd.row (ofL a) true) (by unfold lfl;rw[r]) (v+3) (B0 c r).2
  rw[show(Kd.row (ofL a) true).enc=.tup [.str "row",.tup (a.map AE),.bl true] by show W.tup [_,.tup (ofL _).enc,_]=_;rw[Er]]at z
  exact z
 | none =>
  simp only[Option.isSome_none,show(false != true)=true from rfl,if_true,Ai,gC,Ae,Yk,Yl]
  have hw:(wrd s').length<=2000:=by
   have h1:=Qf List.length (HP s')
   rw[Yj,BK]at h1
   lia
  have U:=HM s'
  refine cS h c λi1 h1=>?_
  simp only[Ae,Ai,gC,gIf,Yk,Yl]
  refine DN (n:=1) rfl rfl (λR z=>z) (λR z=>z) (λR z=>z) h1 h ?_
  cases j:eat "?" (aft s')with
  | some J =>
   have X:=Bb j
   have h2:At T (i1+1) J:=(B0 h1 j).2
   exact QY (m:=false) (i:=i1+1) (n:=m) l.1 l.2 u (λ_ _ z=>z) h hw h2 e w b (by lia) K (by unfold lff;rw[j]) r q λx y i4 g O A H P B D F=>⟨m,Nat.lt_succ_self _,a++[x],y,i4,_,_,g,rfl,B,D,H,by lia,by rw[Yj];simp only[Yg,Yi];lia,A,F⟩
  | none =>
   exact QY (m:=true) (i:=i1) (n:=m) l.1 l.2 u (λ_ _ z=>z) h hw h1 e w b (by lia) K (by unfold lff;rw[j]) r q λx y i4 g O A H P B D F=>⟨m,Nat.lt_succ_self _,a++[x],y,i4,_,_,g,rfl,B,D,H,by lia,by rw[Yj];simp only[Yg,Yi];lia,A,F⟩
theorem La(a:List W)(G:Hw)(Q:Kw)(E:Addr->Hw->Prop)(h:Bt d f a G Q E):a.length=3:=by
 obtain⟨_,_,_,rfl,_⟩:=h;rfl
theorem HX(T:Tx K mg base a)(e:Sd 8 f)(D:Df P w K mg base "_law_read" j 3 (Bt (d+1) f)):Df P w K mg base "_law_fields" (j+1) 3 (Bt d (BM f)):=by
 refine mk0 (k:=j) T.OI rfl QP K4 La (cH T D (Yr _)) λh G Q E b q=>?_
 obtain⟨T,i,s,rfl,c,g,q⟩:=q
 exact cZ e b c g q
theorem CO(T:Tx K mg base a):∀ n:Nat,n<=8->Df P w K mg base "_law_read" (2*n+1) 3 (Bt (9 -(n:Int)) (lr n))
 | 0,_=>by
  refine mk0 (k:=0) T.KA rfl K2 K4 La (QL T (Dl T.KA FZ λ_ _ _ _ h=>h) (YT _) (Dl T.OI FZ λ_ _ _ _ h=>h) (YT _)) λf G Q E b q=>?_
  obtain⟨T,i,s,rfl,c,d,q⟩:=q
  unfold HU
  show Ae (gIf _ _ Al) _ (Ax Q) [some (.str T),some (.int i),some (.int 9),none,none,none,none] G
  walk_at "pe"
  rw[if_pos (by decide)]
  exact q
 | n+1,g=>by
  have D:Df P w K mg base "_law_read" (2*n+1) 3 (Bt (9 -((n+1:Nat):Int)+1) (lr n)):=by
   rw[show(9 -((n+1:Nat):Int)+1)=9 -(n:Int) by lia];exact CO T n (by lia)
  have h:=HY n
  have DF:=HX T ⟨h.1,λs x t e=>Yt (h.2 s x t e) (by lia)⟩ D
  refine mk0 (k:=2*n+2) T.KA rfl K2 K4 La (QL T D (by lia) DF (by lia)) λf G Q E b q=>?_
  obtain⟨T,i,s,rfl,c,d,q⟩:=q
  exact cO (by lia) b c d q
set_option hygiene false in
set_option hygiene false in
set_option hygiene false in
set_option hygiene false in
set_option hygiene false in
abbrev Q0:List Str:=["thing"]
theorem Q1:Ay Q0 ["thing"] (Aj Kj):=by walk_at "s"
def Q2(HZ:Spw):GS:=(Ae (gIf (gOr (gNt (AM (By "tuple" (Aa 0)))) (gOr (gTB (Ac (Af (eqF false)) (gB (rF Az) (Ab (Aa 0) Ad)) (gC (.int 0)))) (gNt (AM (By "str" (Ac (Af ixW) (Aa 0) (gC (.int 0)))))))) (Ag (gC (.bl false))) Al) (Ae (gIf (gTB (Ac (Af (eqF true)) (gB (rF Az) (Ab (Aa 0) Ad)) (ET Ox (Ac (Af ixW) (Aa 0) (gC (.int 0)))))) (Ag (gC (.bl false))) Al) (Ag (B3 (Ac (Af (eqF true)) (Ac (Af ixW) (Aa 0) (gC (.int 0))) (gC (.str "row"))) (BI (Ak HZ XF (Ab (Ac (Af ixW) (Aa 0) (gC (.int 1))) Ad)) (By "bool" (Ac (Af ixW) (Aa 0) (gC (.int 2)))))))))
theorem c0(T:Tx K mg base a){H9:Nat}{HZ:Spw}(fj:Df P w K mg base "are_fields" H9 1 HZ)(fk:H9<=k):Dn P w K mg base Q0 "has_form" Kj k (Q2 HZ):=by
 have hN:=Q1.nd
 walk_at "z"
abbrev Q3:List Str:=["kind"]
theorem Q4:Ay Q3 ["kind"] (Aj Kk):=by walk_at "s"
def Q5:GS:=(Ae (gIf (gTB (Ac (Af (eqF false)) (Ac (Af ixW) (Aa 0) (gC (.int 0))) (gC (.str "row")))) (Ag (Bd (AU (Ac (Af ixW) (Aa 0) (gC (.int 1)))) 1 (gNm 0) A8 (Ac (Af ixW) (Aa 0) (gC (.int 2))))) Al) (Ag (gB (Ec) (Ab (gSl (Aa 0) (Ao (gC (.int 1))) AJ) Ad))))
theorem c1(T:Tx K mg base a):Dn P w K mg base Q3 "kinds_within" Kk k (Q5):=λ{f cdv A outer s H E}hr=>
 have hu:=A3 hr
 have hN:=Q4.nd
 (Ar (BD (by walk_at "v") (A0 (BJ (DB (Nc:=["field"]) rfl (Dt rfl (by decide +kernel) (by decide +kernel)) (λ_=>rfl) (by walk_at "v") (D7 (i:=0) (by decide) rfl rfl) (λC fp s1 H1=>Cq) (λC fp s1 H1=>(by walk_at "v"))))) BC) (by walk_at "v"))
abbrev Q6:List Str:=["layer","things_within","found","thing"]
theorem Q7:Ay Q6 ["layer","things_within"] (Aj Kl):=by walk_at "s"
def c5(mg:Str->Option Value)(DP:Spw):GS:=(Ae (Ai 2 (As Ad)) (Ae (Bq (AU (Aa 0)) (gNm 3) (AF (gMt Bx Ed (Aa 2) (Ab (CZ 1 (fAt mg "kinds_within") DP XF (Ab (Aa 3) Ad)) Ad)))) (Ag (Aa 2))))
variable {DP:Spw}
theorem c6(T:Tx K mg base a){DQ:Nat}(Lb:Df P w K mg base "kinds_within" DQ 1 DP)(Q8:DQ<=k):Dn P w K mg base Q6 "layer_within" Kl k (c5 mg DP):=λ{f cdv A outer s H E}hr=>
 have hu:=A3 hr
 have hN:=Q7.nd
 (Ar (by walk_at "v") (Ar (M1 PassesOwn.never rfl (λ_=>rfl) (by walk_at "v") (by walk_at "v") (A0 (CF rfl (Cp Nl rfl rfl rfl rfl rfl (by walk_at "v") (AV rfl (N4 (i:=1) Lb (hr.mono Q8) rfl rfl Eg rfl rfl rfl rfl (by walk_at "v")) Bm))))) (by walk_at "v")))
abbrev Q9:List Str:=["thing","is_formed","things_within","most","deepest","layer","count","depth"]
theorem Ra:Ay Q9 ["thing","is_formed","things_within","most","deepest"] (Aj GV):=by walk_at "s"
def c7(mg:Str->Option Value)(DS:Spw)(Ia:Spw):GS:=(Ae (Ai 5 (As (Ab (Aa 0) Ad))) (Ae (Ai 6 (gC (.int 0))) (Ae (Ai 7 (gC (.int 0))) (Ae (Dd (gTB (Ac (AT λi j=>decide (j < i)) (gB (rF Az) (Ab (Aa 5) Ad)) (gC (.int 0)))) (Ae (BV 6 BW (gB (rF Az) (Ab (Aa 5) Ad))) (Ae (BV 7 BW (gC (.int 1))) (Ae (gIf (gOr (gTB (Ac (AT λi j=>decide (j < i)) (Aa 6) (Aa 3))) (gTB (Ac (AT λi j=>decide (j < i)) (Aa 7) (Aa 4)))) (Ag (gC (.bl false))) Al) (Ae (gIf (gNt (AM (gB (rF BE) (Ab (BY (AU (Aa 5)) 1 [1] (gNm 0) A8 (CZ 1 (fAt mg "has_form") DS XF (Ab (Aa 0) Ad))) Ad)))) (Ag (gC (.bl false))) Al) (Ai 5 (Ak Ia XF (Ab (Aa 5) (Ab (Aa 2) Ad))))))))) (Ag (gC (.bl true)))))))
variable {DS:Spw}
theorem c8(T:Tx K mg base a){DU:Nat}(Lc:Df P w K mg base "has_form" DU 1 DS)(Rb:DU<=k){Ib:Nat}{Ia:Spw}(fq:Df P w K mg base "layer_within" Ib 2 Ia)(fu:Ib<=k):Dn P w K mg base Q9 "is_made_of" GV k (c7 mg DS Ia):=λ{f cdv A outer s H E}hr=>
 have hu:=A3 hr
 have hN:=Ra.nd
 (Ar (by walk_at "v") (Ar (by walk_at "v") (Ar (by walk_at "v") (Ar (Fv PassesOwn.never (by walk_at "v") (Ar (by walk_at "v") (Ar (by walk_at "v") (Ar (by walk_at "v") (Ar (BD (ER (Ca (λ_=>rfl) (CU FC (Fw rfl) rfl T.FV (by decide) rfl rfl rfl (AV rfl (NI rfl (JW (own:=["part"]) (fr:=["is_formed"]) (js:=[1]) (scX:=Aj GV) (n:=s.heap.objs.size+1) rfl (by decide +kernel) (by decide +kernel) (by decide +kernel) (by decide +kernel) rfl rfl rfl (by decide +kernel) rfl) (λ_=>rfl) (by walk_at "v") (NF (i:=0) (by decide) rfl rfl) (λC fp s1 H1=>Cq) (λC fp s1 H1=>(N4 (i:=1) Lc (hr.mono Rb) rfl rfl Eg rfl rfl rfl rfl (by walk_at "v")))) Bm)))) (by walk_at "v") BC) (by walk_at "v")))))) (by walk_at "v")))))
abbrev Rc:List Str:=["thing"]
theorem Re:Ay Rc ["thing"] (Aj Km):=by walk_at "s"
def c9(mg:Str->Option Value)(DS:Spw)(DP:Spw)(Ic:Spw):GS:=(Ag (Ak Ic XF (Ab (Aa 0) (Ab (gC (.ref (fAt mg "has_form"))) (Ab (gC (.ref (fAt mg "kinds_within"))) (Ab (gC (.int 40)) (Ab (gC (.int 8)) Ad)))))))
theorem da(T:Tx K mg base a){DU:Nat}(Lc:Df P w K mg base "has_form" DU 1 DS)(Rb:DU<=k){DQ:Nat}(Lb:Df P w K mg base "kinds_within" DQ 1 DP)(Q8:DQ<=k){Ie:Nat}{Ic:Spw}(db:Df P w K mg base "is_made_of" Ie 5 Ic)(de:Ie<=k):Dn P w K mg base Rc "is_kind" Km k (c9 mg DS DP Ic):=λ{f cdv A outer s H E}hr=>
 have hu:=A3 hr
 have hN:=Re.nd
 (A0 (BJ (BU db (hr.mono de) rfl Eg rfl rfl rfl (AV rfl (by walk_at "v") (AV rfl (N5 Lc rfl rfl) (AV rfl (N5 Lb rfl rfl) (by walk_at "v")))))))
def fm:Kd->Bool
 | .row fs _=>fs.names.all AK&&A1 fs.names
 | _=>true
theorem Rf:∀ fs:Fs,fs.ok=(fs.names.all AK&&fs.kinds.all Kd.ok)
 | .nil=>rfl
 | .cons n m k r=>by
  show(AK n&&k.ok&&r.ok)=((AK n&&r.names.all AK)&&(k.ok&&r.kinds.all Kd.ok))
  rw[Rf r]
  cases AK n <;> cases k.ok <;> cases r.names.all AK <;> rfl
theorem df(k:Kd):k.ok=(fm k&&k.kids.all Kd.ok):=by
 cases k with
 | any=>rfl
 | num=>rfl
 | truth=>rfl
 | to x y=>show(x.ok&&y.ok)=(true&&(x.ok&&(y.ok&&true)));rw[Bool.and_true,Bool.true_and]
 | box x=>show x.ok=(true&&(x.ok&&true));rw[Bool.and_true,Bool.true_and]
 | row fs o =>
  show(A1 fs.names&&fs.ok)=((fs.names.all AK&&A1 fs.names)&&fs.kinds.all Kd.ok)
  rw[Rf]
  cases A1 fs.names <;> cases fs.names.all AK <;> rfl
theorem Rg:∀ l:List Kd,l.all Kd.ok=(l.all fm&&(l.flatMap Kd.kids).all Kd.ok)
 | []=>rfl
 | k::l=>by
  rw[List.all_cons,List.all_cons,YZ,List.all_append,Rg l,df k]
  cases fm k <;> cases k.kids.all Kd.ok <;> cases l.all fm <;> rfl
mutual
def Kd.wt:Kd->Nat
 | .to a b=>1+(a.wt+b.wt)
 | .box a=>1+a.wt
 | .row fs _=>1+fs.wt
 | _=>1
def Fs.wt:Fs->Nat
 | .nil=>0
 | .cons n _ k r=>n.length+k.wt+r.wt
end
mutual
theorem Fc:∀ k:Kd,k.cnt<=k.wt
 | .any=>Yr _
 | .num=>Yr _
 | .truth=>Yr _
 | .to x y=>by have:=Fc x;have:=Fc y;show 1+(x.cnt+y.cnt)<=1+(x.wt+y.wt);lia
 | .box x=>by have:=Fc x;show 1+x.cnt<=1+x.wt;lia
 | .row fs o=>by have:=Ld fs;show 1+fs.cnt<=1+fs.wt;lia
theorem Ld:∀ fs:Fs,fs.cnt<=fs.wt
 | .nil=>Yr _
 | .cons n m k r=>by have:=Fc k;have:=Ld r;show k.cnt+r.cnt<=n.length+k.wt+r.wt;lia
end
theorem Rh:∀{fs:Fs}{n:Str},n∈fs.names->n.length<=fs.wt
 | .cons x m k r,n,h=>by
  show n.length<=x.length+k.wt+r.wt
  walk_at "pg"
  ·lia
  ·have:=Rh h;lia
theorem Ri:∀{fs:Fs}{c:Kd},c∈fs.kinds->c.wt<=fs.wt
 | .cons x m k r,c,h=>by
  show c.wt<=x.length+k.wt+r.wt
  walk_at "pg"
  ·lia
  ·have:=Ri h;lia
theorem dg{k c:Kd}(h:c∈k.kids):c.wt<=k.wt:=by
 cases k with
 | to x y =>
  show c.wt<=1+(x.wt+y.wt)
  have h':c=x\/c=y:=by simpa[Kd.kids]using h
  rcases h' with rfl | rfl <;> lia
 | box x =>
  show c.wt<=1+x.wt
  have h':c=x:=by simpa[Kd.kids]using h
  rw[h'];lia
 | row fs o=>have:=Ri (fs:=fs) h;show c.wt<=1+fs.wt;lia
 | _=>cases h
abbrev dh:Spw:=spR (λ(x:Str×Bool×W)ws _=>ws=[.tup [.str x.1,.str (mark x.2.1),x.2.2]]/\x.1.length<=2000) λx=>.bl (AK x.1)
theorem di(b:Bool)(G:Hw):inF false (.str (mark b)) (.tup [.str "must",.str "may"]) G=some (.bl true):=by cases b <;> kernel_rfl
theorem Hj(T:Tx K mg base a):Df P w K mg base "is_field" 3 1 dh:=by
 refine mk0 T.aQ rfl Pm C2 ((by rintro f G Q E ⟨x,⟨e,_⟩,_⟩;rw[e];rfl)) (br T (Hg T) (Yr _)) λf G Q E g q=>?_
 obtain⟨⟨n,b,k⟩,⟨rfl,hl⟩,q⟩:=q
 dsimp only at q hl
 unfold Pn
 walk_at "rd"
 have d:CW "tuple" "tuple"=true:=by decide
 simp only[d,YF,Yq,if_false]
 refine⟨n,⟨rfl,by lia⟩,?_⟩
 dsimp only
 cases c:AK n with
 | true=>rw[c]at q;simp only[if_true,di,Aq];exact q
 | false=>rw[c]at q;exact q
abbrev dj:Spw:=spR (λ(fs:Fs)ws _=>ws=[.tup fs.enc]/\fs.wt<=2000) λfs=>.bl (fs.names.all AK&&A1 fs.names)
def Le(x:W):W:=match x with | .tup (n::_)=>n | _=>.non
def okW(x:W):W:=match x with | .tup (.str n::_)=>.bl (AK n)| _=>.non
theorem F4:∀{fs:Fs}{x:W},x∈fs.enc->∃ n b k,x=.tup [.str n,.str (mark b),k]/\n∈fs.names
 | .nil,x,h=>by cases h
 | .cons n m k r,x,h=>by
  walk_at "pg"
  ·exact⟨n,m,k.enc,rfl,Ye⟩
  ·obtain⟨n,b,k,e,h⟩:=F4 h;exact⟨n,b,k,e,Yd _ h⟩
theorem Rj:∀ fs:Fs,fs.enc.map Le=fs.names.map W.str
 | .nil=>rfl
 | .cons n m k r=>by show W.str n::r.enc.map Le=W.str n::r.names.map W.str;rw[Rj r]
theorem Rk:∀ fs:Fs,fs.enc.map okW=(fs.names.map AK).map W.bl
 | .nil=>rfl
 | .cons n m k r=>by show W.bl (AK n)::r.enc.map okW=W.bl (AK n)::(r.names.map AK).map W.bl;rw[Rk r]
theorem Rl:∀ fs:Fs,fs.names.length=fs.enc.length
 | .nil=>rfl
 | .cons n m k r=>by show r.names.length+1=r.enc.length+1;rw[Rl r]
theorem Lf(fs:Fs):fs.enc.length<=fs.cnt:=by rw[Ow,Ka];exact GU _
theorem H9(T:Tx K mg base a):Df P w K mg base "are_fields" 4 1 dj:=by
 refine mk0 T.aR rfl Pp C2 ((by rintro r G Q E ⟨x,⟨e,_⟩,_⟩;rw[e];rfl)) (bu T (Hj T) (Yr _) (Hk T) (by lia)) λr G Q E i q=>?_
 obtain⟨fs,⟨rfl,hw⟩,q⟩:=q
 have hl:=Lf fs
 have hc:=Ld fs
 dsimp only at q
 unfold Pr
 walk_at "rd"
 have s:CW "tuple" "tuple"=true:=by decide
 simp only[s,YF,Yq,if_false]
 refine EX (f:=okW) trivial fs.enc none [] (λx d j h=>?_) (by simp only[Yi];exact AI (by lia)) ?_
 ·obtain⟨n,b,k,rfl,m⟩:=F4 d
  exact⟨⟨n,b,k⟩,⟨rfl,Yt (Rh m) hw⟩,h⟩
 ·intro p l
  rw[Yw,Rk]
  simp only[Ej An,Option.bind_some,FG,YD,Aq]
  have o:(fs.names.map AK).all id=fs.names.all AK:=by rw[List.all_map];rfl
  rw[o]
  cases c:fs.names.all AK with
  | false=>rw[c]at q;exact i _ _ _ (AB l) q
  | true =>
  rw[c,Bool.true_and]at q
  simp only[if_true]
  refine EX (f:=Le) trivial fs.enc none [] (λx d j h=>?_) (by simp only[Yi];exact AI (by lia)) ?_
  ·obtain⟨n,b,k,rfl,m⟩:=F4 d
   show Ac (Af ixW) (Aa 0) (gC (.int 0)) [some (W.tup [.str n,.str (mark b),k])] _ j
   exact h
  ·intro p2 g
   rw[Yw,Rj]
   exact⟨fs.names,⟨p2,rfl,An,by rw[Rl];lia⟩,i _ _ _ (C1 (AB l) g) q⟩
abbrev dk:Spw:=spR (λ(k:Kd)ws _=>ws=[k.enc]/\k.wt<=2000) λk=>.bl (fm k)
theorem DU(T:Tx K mg base a):Df P w K mg base "has_form" 5 1 dk:=by
 refine mk0 T.aS rfl Q1 C2 ((by rintro f G Q E ⟨x,⟨e,_⟩,_⟩;rw[e];rfl)) (c0 T (H9 T) (Yr _)) λf G Q E i q=>?_
 obtain⟨k,⟨rfl,hc⟩,q⟩:=q
 have g:CW "tuple" "tuple"=true:=by decide
 have d:CW "bool" "bool"=true:=by decide
 have b:CW "str" "str"=true:=by decide
 unfold Q2
 cases k with
 | any=>exact Eq.mpr (by kernel_rfl) q
 | num=>exact Eq.mpr (by kernel_rfl) q
 | truth=>exact Eq.mpr (by kernel_rfl) q
 | to x y=>exact Eq.mpr (by kernel_rfl) q
 | box x=>exact Eq.mpr (by kernel_rfl) q
 | row fs o =>
  have c:1+fs.wt<=2000:=hc
  have q:Q (.bl (fs.names.all AK&&A1 fs.names)) G:=q
  simp only[Kd.enc];walk_at "rd"
  simp only[g,b,YF,Yq,if_false]
  refine⟨fs,⟨rfl,by lia⟩,?_⟩
  dsimp only
  cases h:(fs.names.all AK&&A1 fs.names)with
  | true=>rw[h]at q;simp only[if_true,d];exact q
  | false=>rw[h]at q;exact q
def Ig(x:W):W:=match x with | .tup [_,_,k]=>k | _=>.non
theorem Lg:∀ fs:Fs,fs.enc.map Ig=fs.kinds.map Kd.enc
 | .nil=>rfl
 | .cons n m k r=>by show k.enc::r.enc.map Ig=k.enc::r.kinds.map Kd.enc;rw[Lg r]
abbrev Rm:Spw:=spL (λ(k:Kd)ws _=>ws=[k.enc]/\k.cnt<=20000) λk=>k.kids.map Kd.enc
theorem DQ(T:Tx K mg base a):Df P w K mg base "kinds_within" 1 1 Rm:=by
 refine mk0 T.aT rfl Q4 J8 ((by rintro h G Q E ⟨x,⟨e,_⟩,_⟩;rw[e];rfl)) (c1 T) λh G Q E j q=>?_
 obtain⟨k,⟨rfl,hc⟩,q⟩:=q
 unfold Q5
 cases k with
 | row fs o =>
  have c:1+fs.cnt<=20000:=hc
  have hl:=Lf fs
  simp only[Kd.enc];walk_at "rd"
  refine EX (f:=Ig) trivial fs.enc none [] (λx g d i=>?_) (by simp only[Yi];exact AI (by lia)) ?_
  ·obtain⟨n,b,k,rfl,_⟩:=F4 g
   show Ac (Af ixW) (Aa 0) (gC (.int 2)) [some (W.tup [.str n,.str (mark b),k])] _ d
   exact i
  ·rw[Yw,Lg]
   exact q
 | any=>exact And.intro (FH _ _) q
 | num=>exact And.intro (FH _ _) q
 | truth=>exact And.intro (FH _ _) q
 | to x y=>exact And.intro (FH _ _) q
 | box x=>exact And.intro (FH _ _) q
theorem dq{zs:List W}(a:G p=some (.lst xs))(b:G r=some (.lst zs))(hl:xs.length+zs.length<=sizeLine)(q:Q .non (put G p (.lst (xs++zs)))):Ed (.ref p) [.ref r] G Q:=by
 unfold Ed
 refine JM a ?_ q
 rw[Ej b,Option.bind_some,if_pos hl]
abbrev dr(mg:Str->Option Value):Spw:=spL (λ(l:List Kd)ws G=>∃ p,ws=[.ref p,.ref (fAt mg "kinds_within")]/\G p=some (.lst (l.map Kd.enc))/\A9 l<=10000) λl=>(l.flatMap Kd.kids).map Kd.enc
theorem Rn{D:Ew}{p q0 k:Addr}{k0:W}{items:List W}(e:p≠q0):∀(l:List Kd)(o:Option W)(G:Hw)(a:List W),a.length+A9 l<=20000->G p=some (.lst a)->G q0=some (.lst items)->
  (∀ o' i,i p=some (.lst (a++(l.flatMap Kd.kids).map Kd.enc))->(∀ b,b≠p->∀ u,G b=some u->i b=some u)->D.nx [some k0,some (.ref k),some (.ref p),o'] i)->
  BS (holds q0 items) (gNm 3) (AF (gMt Bx Ed (Aa 2) (Ab (CZ 1 k Rm XF (Ab (Aa 3) Ad)) Ad))) D (l.map Kd.enc) [some k0,some (.ref k),some (.ref p),o] G
 | [],o,G,a,_,g,f,d=>⟨f,d o G (by simpa using g) λ_ _ _ h=>h⟩
 | c::l,o,G,a,hl,g,f,d=>by
  have q:a.length+(c.cnt+A9 l)<=20000:=hl
  have s:=Ov c
  refine⟨f,Eu g,rfl,c,⟨rfl,by lia⟩,λr j=>?_⟩
  simp only[Ad]
  refine dq (by rw[AH (BG g j)];exact g) An (by rw[Yh];exact AI (by lia)) ?_
  refine Rn e l (some c.enc) _ (a++c.kids.map Kd.enc) (by rw[Yj,Yh];lia) An (by rw[AH (YU e),AH (BG f j)];exact f) λo' i h1 h2=>?_
  refine d o' i (by rw[h1,YZ,Yy,Yv]) λb n u m=>h2 b n u ?_
  rw[AH n,AH (BG m j)];exact m
theorem dt{a:GG}{gb Au:GS}(h1:ω[i]?=some (some (.ref p)))(h:G p=some (.lst xs))(q:BS (holds p xs) a gb {D with nx:=Au D} xs ω G):Ae (Bq (AU (Aa i)) a gb) Au D ω G:=by
 unfold Ae Bq AU Aa
 rw[h1];dsimp only
 rw[h];exact q
theorem Ib(T:Tx K mg base a):Df P w K mg base "layer_within" 2 2 (dr mg):=by
 refine mk0 T.aU rfl Q7 J8 ((by rintro k G Q E ⟨x,⟨p,e,_⟩,_⟩;rw[e];rfl)) (c6 T (DQ T) (Yr _)) λk G Q E j q=>?_
 obtain⟨l,⟨q0,rfl,i,hl⟩,q⟩:=q
 refine And.intro (show 0<=sizeLine by decide) λp h=>?_
 have g:p≠q0:=YU (BG i h)
 have c:put G p (.lst []) q0=some (.lst (l.map Kd.enc)):=AB h _ _ i
 dsimp only
 show Ae (Bq _ _ _) _ (Ax Q) [some (.ref q0),some (.ref (fAt mg "kinds_within")),some (.ref p),none] _
 refine dt rfl c ?_
 refine Rn g l none _ [] (by rw[Yi];lia) An c λo' m h1 h2=>?_
 refine j _ _ _ (λb u d=>?_) (q p h)
 by_cases f:b=p
 ·subst f
  rw[An]at d;cases d
  exact h1
 ·rw[AH f]at d
  exact h2 b f u (by rw[AH f];exact d)
theorem Lh{α:Type}{enc f:α->W}{b:Hw->Prop}{ge:GE}{R:List W->Hw->Prop}{G:Hw}{cst:Sw}(a:b G):∀(l:List α)(o:Option W)(ys:List W),(∀ x∈l,∀ Q:Kw,Q (f x) G->ge (some (enc x)::cst) G Q)->
  ys.length+l.length<=sizeLine->R (ys++l.map f) G->Be b (gNm 0) A8 ge R (l.map enc) (o::cst) G ys
 | [],o,ys,_,_,r=>⟨a,by simpa using r⟩
 | x::l,o,ys,h,hl,r=>by
  refine⟨a,by simp only[Yg]at hl;lia,?_⟩
  show ge (some (enc x)::cst) G λy c=>Be b (gNm 0) A8 ge R (l.map enc) (some (enc x)::cst) c (ys++[y])
  refine h x Ye _ (Lh a l (some (enc x)) (ys++[f x]) (λy d=>h y (Yd _ d)) ?_ ?_)
  ·simp only[Yj,Yg,Yi]at hl ⊢;lia
  ·simpa[Yv]using r
def B8(k:Kd):Bool:=decide (k.cnt<=40/\k.dp<=8)&&k.ok
abbrev du(mg:Str->Option Value):Spw:=spR (λ(k:Kd)ws _=>ws=[k.enc,.ref (fAt mg "has_form"),.ref (fAt mg "kinds_within"),.int 40,.int 8]/\k.wt<=2000) λk=>.bl (B8 k)
theorem Ie(T:Tx K mg base a):Df P w K mg base "is_made_of" 6 5 (du mg):=by
 refine mk0 T.aV rfl Ra C2 ((by rintro J G Q E ⟨x,⟨e,_⟩,_⟩;rw[e];rfl)) (c8 T (DU T) (Yr _) (Ib T) (by lia)) λJ G Q E v q=>?_
 obtain⟨k,⟨rfl,hw⟩,q⟩:=q
 have hc:=Fc k
 dsimp only at q
 refine And.intro (show 1<=sizeLine by decide) λp D=>?_
 refine Exists.intro (λm ω A=>∃(l:List Kd)(p:Addr)(c d:Nat),ω=[some k.enc,some (.ref (fAt mg "has_form")),some (.ref (fAt mg "kinds_within")),some (.int 40),some (.int 8),some (.ref p),some (.int c),some (.int d)]/\A p=some (.lst (l.map Kd.enc))/\Sub G A/\c+A9 l=k.cnt/\d+dpL l=k.dp/\(∀ x∈l,x.wt<=2000)/\k.ok=l.all Kd.ok/\c<=40/\d<=8/\m=9 - d) ⟨⟨9,[k],p,0,0,rfl,An,AB D,?_,?_,?_,?_,by lia,by lia,rfl⟩,?_⟩
 ·show 0+(k.cnt+0)=k.cnt;lia
 ·show 0+max k.dp 0=k.dp;lia
 ·intro x I;rw[YA.mp I];exact hw
 ·show k.ok=(k.ok&&true);rw[Bool.and_true]
 rintro m ω N ⟨l,p,c,d,rfl,hl,r,S,H,n,hok,X,h8,rfl⟩
 have b:(l.map Kd.enc).length=l.length:=Yh _
 walk_at "rd"
 simp only[hl,Aq,b]
 cases l with
 | nil =>
  have o:B8 k=true:=by
   unfold B8
   have Y:c+0=k.cnt:=S
   have z2:d+0=k.dp:=H
   rw[hok,YH (by lia)];rfl
  rw[o]at q
  exact v _ _ _ r q
 | cons x l =>
  have R:=Os (x::l)
  have B:=Ot (x::l) (by simp)
  have U:(0:Int) <(((x::l).length:Nat):Int):=by simp only[Yg];lia
  simp only[U,decide_true,if_true,hl,Aq,b]
  have no:¬ (k.cnt<=40/\k.dp<=8)->Q (.bl false) N:=λh=>by
   have o:B8 k=false:=by unfold B8;rw[Qh h];rfl
   rw[o]at q
   exact v _ _ _ r q
  by_cases L:40 < c+(x::l).length
  ·rw[if_pos (YH (by lia))]
   exact no (by lia)
  ·walk_at "ph"
   by_cases Z:8 < d+1
   ·rw[if_pos (YH (by lia))]
    exact no (by lia)
   ·walk_at "ph"
    refine Lh (f:=λz=>.bl (fm z)) (cst:=[some (.ref (fAt mg "has_form"))]) hl (x::l) none [] (λz u Q' F=>⟨rfl,z,⟨rfl,n z u⟩,F⟩) (by exact AI (by simp only[Yi];lia)) λp1 i=>?_
    rw[Yw,show(λz:Kd=>W.bl (fm z))=W.bl∘fm from rfl,<- YB]
    simp only[Ej An,Option.bind_some,FG,YD,Aq]
    have O:((x::l).map fm).all id=(x::l).all fm:=by rw[List.all_map];rfl
    rw[O]
    have j:=Rg (x::l)
    cases g:(x::l).all fm with
    | false =>
     have o:B8 k=false:=by unfold B8;rw[hok,j,g,Bool.false_and,Bool.and_false]
     rw[o]at q
     exact v _ _ _ (C1 r i) q
    | true =>
    rw[g,Bool.true_and]at j
    simp only[YF,Yq,if_false]
    refine⟨x::l,⟨p,rfl,AB i _ _ hl,by lia⟩,λp2 t=>?_⟩
    refine⟨9 -(d+1),by lia,(x::l).flatMap Kd.kids,p2,c+(x::l).length,d+1,?_,An,C1 (C1 r i) t,by lia,by lia,λy s=>?_,by rw[hok,j],by lia,by lia,rfl⟩
    ·simp only[Int.natCast_add,Int.natCast_one]
    ·obtain⟨z,u,s⟩:=List.mem_flatMap.mp s
     exact Yt (dg s) (n z u)
abbrev dv:Spw:=spR (λ(k:Kd)ws _=>ws=[k.enc]/\k.wt<=2000) λk=>.bl (B8 k)
theorem Hx(T:Tx K mg base a):Df P w K mg base "is_kind" 7 1 dv:=by
 refine mk0 T.aW rfl Re C2 ((by rintro b G Q E ⟨x,⟨e,_⟩,_⟩;rw[e];rfl)) (da T (DU T) (by lia) (DQ T) (by lia) (Ie T) (Yr _)) λb G Q E c q=>?_
 obtain⟨k,⟨rfl,hc⟩,q⟩:=q
 exact Exists.intro k ⟨⟨rfl,hc⟩,q⟩
def Wt(f:Sg->Option (Kd×Sg)):Prop:=∀ s x t,f s=some (x,t)->x.wt+t.length<=s.length
theorem Ro:∀(l m:List Fd),(ofL (l++m)).wt=(ofL l).wt+(ofL m).wt
 | [],m=>by show(ofL m).wt=0+(ofL m).wt;lia
 | x::l,m=>by show x.1.length+x.2.2.wt+(ofL (l++m)).wt=x.1.length+x.2.2.wt+(ofL l).wt+(ofL m).wt;rw[Ro l m];lia
theorem Rp(s:Sg):(wrd s).length+(aft s).length=s.length:=by
 have h1:=Qf List.length (HP s)
 rw[Yj,BK]at h1
 lia
theorem dw(h:Wt f){x:Fd}(e:pf f s=some (x,t)):x.1.length+x.2.2.wt+t.length<=s.length:=by
 have h1:=Rp s
 have h2:∀{m:Bool}{u:Sg},u.length<=(aft s).length->((eat ": " u).bind λa=>(f a).map λx=>((wrd s,m,x.1),x.2))=some (x,t)->x.1.length+x.2.2.wt+t.length<=s.length:=λ{m u}j e=>by
  obtain⟨a,g,d⟩:=Qa.mp e
  obtain⟨y,i,c⟩:=YQ.mp d
  cases c
  have:=h _ _ _ i
  have:=Bb g
  show(wrd s).length+y.1.wt+y.2.length<=s.length
  lia
 unfold pf at e
 split at e
 ·rename_i k b
  exact h2 (Bb b) e
 ·exact h2 (Yr _) e
theorem Rq{f:Sg->Option (Kd×Sg)}(g:Wt f):∀(m:Nat)(s:Sg)(a:List Fd)(x:Kd)(t:Sg),pr f m s a=some (x,t)->x.wt+t.length<=s.length+(ofL a).wt+1
 | 0,_,_,_,_,e=>by cases e
 | m+1,s,a,x,t,e=>by
  unfold pr at e
  split at e
  ·rename_i n h
   obtain⟨j,c,b⟩:=YQ.mp e
   cases b
   have:=Bb h
   have:=Bb c
   show 1+(ofL a).wt+_<=_
   lia
  ·obtain⟨y,c,b⟩:=Qa.mp e
   have h2:=dw g (x:=y.1) (t:=y.2) c
   have l:(ofL (a++[y.1])).wt=(ofL a).wt+(y.1.1.length+y.1.2.2.wt):=by rw[Ro];rfl
   split at b
   ·rename_i j d
    cases b
    have:=Bb d
    show 1+(ofL (a++[y.1])).wt+_<=_
    lia
   ·obtain⟨k,d,i⟩:=Qa.mp b
    have:=Rq g m _ _ _ _ i
    have:=Bb d
    lia
theorem Li{p:Str}(a:1<=p.length)(e:eat p s=some s'):s'.length+1<=s.length:=by have:=BA e;lia
theorem Lj:∀ n:Nat,Wt (pk n)
 | 0=>λs x t e=>by cases e
 | n+1=>λs x t e=>by
  have c:=Lj n
  unfold pk at e
  split at e
  ·rename_i j b
   obtain⟨y,a,i⟩:=Qa.mp e
   obtain⟨q,m,o⟩:=Qa.mp i
   obtain⟨z,k,p⟩:=Qa.mp o
   obtain⟨l,g,f⟩:=YQ.mp p
   cases f
   have:=Li (by decide) b
   have:=c _ y.1 y.2 a
   have:=Bb m
   have:=c _ z.1 z.2 k
   have:=Bb g
   show 1+(y.1.wt+z.1.wt)+_<=_
   lia
  ·split at e
   ·rename_i j b
    obtain⟨y,a,i⟩:=Qa.mp e
    obtain⟨l,g,f⟩:=YQ.mp i
    cases f
    have:=Li (by decide) b
    have:=c _ y.1 y.2 a
    have:=Bb g
    show 1+y.1.wt+_<=_
    lia
   ·split at e
    ·rename_i j b
     have:=Li (by decide) b
     split at e
     ·rename_i r a
      cases e
      have:=Bb a
      show 1+0+_<=_
      lia
     ·have h:=Rq c _ _ _ _ _ e
      have:(ofL []).wt=0:=rfl
      lia
    ·have h:=Rp s
     have d:∀{w:Str},wrd s=w->1<=w.length->1+(aft s).length<=s.length:=λ{w}hw h1=>by rw[hw]at h;lia
     split at e
     ·rename_i hw;cases e;exact d hw (by decide)
     ·split at e
      ·rename_i hw;cases e;exact d hw (by decide)
      ·split at e
       ·rename_i hw;cases e;exact d hw (by decide)
       ·cases e
def Bg(s:Sg):Option Kd:=match lr 8 s with
 | some (k,[])=>if k.cnt<=40 then some k else none
 | _=>none
theorem Lk{k:Kd}(h:Bg s=some k):lr 8 s=some (k,[])/\k.cnt<=40:=by
 unfold Bg at h
 split at h
 ·rename_i a e
  split at h
  ·rename_i hc;cases h;exact⟨e,hc⟩
  ·cases h
 ·cases h
theorem Rr{k:Kd}(h:lr 8 s=some (k,[]))(hc:k.cnt<=40):Bg s=some k:=by
 unfold Bg
 rw[h]
 exact if_pos hc
theorem Ih{k:Kd}(h:Bg s=some k):pk 8 s=some (k,[])/\B8 k=true:=by
 obtain⟨e,hc⟩:=Lk h
 obtain⟨a,b⟩:=K1 8 s k [] e λc hc=>by cases hc
 refine⟨a,?_⟩
 unfold B8
 rw[b,YH ⟨hc,(HY 8).2 _ _ _ e⟩];rfl
theorem dy{k:Kd}(h:pk 8 s=some (k,[]))(a:B8 k=true):Bg s=some k:=by
 unfold B8 at a
 obtain⟨h1,h2⟩:=Qe.mp a
 exact Rr (QK 8 s k [] h h2) (Qg h1).1
def RT(a:Adr)(o:Option Kd)(G:Hw)(Q:Kw)(E:Addr->Hw->Prop):Prop:=match o with
 | some k=>∀ G',Sub G G'->Q k.enc G'
 | none=>∀ G',Sub G G'->E a.BadNote G'
def Rt(a:Adr):Spw:=λws G Q E=>∃ T:Str,ws=[.str T]/\T.length<=2000/\RT a (Bg (cs T)) G Q E
theorem dz:Spw.M (Rt a):=λf G Q d E g h h'⟨T,h1,h2,q⟩=>⟨T,h1,h2,by
 cases e:Bg (cs T)with
 | some k=>rw[e]at q;exact λc b=>h _ _ (q c b)
 | none=>rw[e]at q;exact λc b=>h' _ _ (q c b)⟩
theorem Ii(T:Tx K mg base a):Df P w K mg base "kind_read" 29 1 (Rt a):=by
 have D:Df P w K mg base "kind_from" 28 2 (Bs a Kd.enc 1 (pk 8)):=B7 T 8
 refine mkX (k:=28) T.aX rfl Hr dz (by rintro u G Q E ⟨T,e,_⟩;rw[e];rfl) (g:=λE=>KN K a _ _ _ _ E) (bW T (bK T) (by lia) D (Yr _) (bQ T) (by lia) (Hx T) (by lia)) λu G Q E v y q=>?_
 obtain⟨T,rfl,n,q⟩:=q
 have no:Bg (cs T)=none->∀{c:Hw},Sub G c->E a.BadNote c:=λe{c}l=>by rw[e]at q;exact q c l
 have h:∀{k:Kd},Bg (cs T)=some k->∀{c:Hw},Sub G c->Q k.enc c:=λ{k}e{c}l=>by rw[e]at q;exact q c l
 unfold KN
 simp only[Ae,Ai,DE,Ab,Ad]
 intro x s
 refine⟨x,T,rfl,An,rfl,?_⟩
 rw[A4]
 have b:∀ o:HW,Sub G (put G x o):=λo=>AB s
 show Bs a Kd.enc 1 (pk 8) [.ref x,.int 1] _ _ E
 refine Dj An n (show At T 0 (cs T)from⟨rfl,YT _⟩) (λk t e i hi=>?_) (λe i=>?_)
 ·rw[A4]
  refine⟨x,_,rfl,An,E2 (C:=x) (by decide +kernel) (by decide +kernel),x,T,i,rfl,An,n,λhl=>?_,λhl=>?_⟩
  ·have h1:=Ex hi
   have r:t=[]:=List.length_eq_zero_iff.mp (by lia)
   subst r
   have hw:=Lj 8 _ _ _ e
   rw[BK]at hw
   refine⟨k,⟨rfl,by lia⟩,?_⟩
   show(if(!B8 k)=true then _ else _)
   cases p:B8 k with
   | true=>exact h (dy e p) (b _)
   | false =>
    refine⟨by decide,no ?_ (b _)⟩
    cases f:Bg (cs T)with
    | none=>rfl
    | some m =>
     obtain⟨d,j⟩:=Ih f
     rw[e]at d
     cases d
     rw[p]at j;cases j
  ·refine no ?_ (b _)
   cases f:Bg (cs T)with
   | none=>rfl
   | some m =>
    obtain⟨d,j⟩:=Ih f
    rw[e]at d
    cases d
    have h1:=Ex hi
    rw[Yi]at h1
    lia
 ·rw[A4]
  refine no ?_ (b _)
  cases f:Bg (cs T)with
  | none=>rfl
  | some m =>
   obtain⟨d,j⟩:=Ih f
   rw[e]at d
   cases d
set_option hygiene false in
set_option hygiene false in
set_option hygiene false in
set_option hygiene false in
set_option hygiene false in
abbrev Ru:List Str:=["kind","names","fields","name","mark","inner"]
theorem Rv:Ay Ru ["kind","names"] (Aj GX):=by walk_at "s"
def Rw(C6:Spw):GS:=(Ae (gIf (gTB (Ac (Af (eqF true)) (Ac (Af ixW) (Aa 0) (gC (.int 0))) (gC (.str "row")))) (Ag (Ac (Ah) (AA (Aa 0) AJ (Ao (gC (.int 1)))) (gB (rF Br) (Ab (BY (AU (AA (Aa 0) (Ao (gC (.int 1))) AJ)) 1 [1] (gNm 0) A8 (Ak C6 XF (Ab (Aa 0) (Ab (Aa 1) Ad)))) Ad)))) Al) (Ae (Ai 2 (As Ad)) (Ae (Bq (DG (Ac (Af ixW) (Aa 0) (gC (.int 1)))) (Cr 3 4 5) (AF (gMt Bx B4 (Aa 2) (Ab (Ap (Ab (Ac (Af ixW) (Aa 1) (gMt Bx J4 (As (Ab (gC (.str "a")) (Ab (gC (.str "b")) (Ab (gC (.str "cc")) Ad)))) (Ab (Aa 3) Ad))) (Ab (Aa 4) (Ab (Ak C6 XF (Ab (Aa 5) (Ab (Aa 1) Ad))) Ad)))) Ad)))) (Ag (Ap (Ab (gC (.str "row")) (Ab (gB (rF Br) (Ab (Aa 2) Ad)) (Ab (Ac (Af ixW) (Aa 0) (gC (.int 2))) Ad))))))))
variable {C6:Spw}
theorem dA(T:Tx K mg base a){DV:Nat}(dB:Df P w K mg base "_law_renamed" DV 2 C6)(dD:DV<=k):Dn P w K mg base Ru "_law_renamed" GX k (Rw C6):=λ{f cdv A outer s H E}hr=>
 have hu:=A3 hr
 have hN:=Rv.nd
 (Ar (BD (by walk_at "v") (A0 (BJ (EU (by walk_at "v") (GH JT (Nj) rfl T.KC (by decide) rfl rfl rfl (AV rfl (NI rfl (JW (own:=["inner"]) (fr:=["names"]) (js:=[1]) (scX:=Aj GX) (n:=s.heap.objs.size+1) rfl (by decide +kernel) (by decide +kernel) (by decide +kernel) (by decide +kernel) rfl rfl rfl (by decide +kernel) rfl) (λ_=>rfl) (by walk_at "v") (NF (i:=0) (by decide) rfl rfl) (λC fp s1 H1=>Cq) (λC fp s1 H1=>(by walk_at "v"))) Bm))))) BC) (by walk_at "v"))
abbrev Rx:List Str:=["state","some"]
theorem Ry:Ay Rx ["state"] (Aj Kq):=by walk_at "s"
def Rz(Bc:Spw):GS:=(Ae (Ai 1 (As (Ab (As (Ab (gC (.str "a")) (Ab (gC (.str "b")) (Ab (gC (.str "cc")) Ad)))) (Ab (As (Ab (gC (.str "any")) (Ab (gC (.str "num")) (Ab (gC (.str "truth")) Ad)))) (Ab (As (Ab (gC (.str "in")) (Ab (gC (.str "inside")) (Ab (gC (.str "out")) Ad)))) (Ab (As (Ab (gC (.str "may")) (Ab (gC (.str "row")) (Ab (gC (.str "zzzzzzzz")) Ad)))) Ad)))))) (Ag (Ac (Af ixW) (Aa 1) (Ak Bc XF (Ab (Aa 0) (Ab (gC (.int 4)) Ad))))))
variable {Bc:Spw}
theorem dE(T:Tx K mg base a){BO:Nat}(Ll:Df P w K mg base "_law_take" BO 2 Bc)(Lm:BO<=k):Dn P w K mg base Rx "_law_some_names" Kq k (Rz Bc):=by
 have hN:=Ry.nd
 walk_at "z"
abbrev RA:List Str:=["kind","parts"]
theorem Ln:Ay RA ["kind"] (Aj GY):=by walk_at "s"
def RB(Cw:Spw):GS:=(Ae (gIf (gTB (Ac (Af (eqF false)) (Ac (Af ixW) (Aa 0) (gC (.int 0))) (gC (.str "to")))) (Ag (Ac (Ah) (Ac (Ah) (Ac (Ah) (Ac (Ah) (gC (.str "(")) (Ak Cw XF (Ab (Ac (Af ixW) (Aa 0) (gC (.int 1))) Ad))) (gC (.str " > "))) (Ak Cw XF (Ab (Ac (Af ixW) (Aa 0) (gC (.int 2))) Ad))) (gC (.str ")")))) Al) (Ae (gIf (gTB (Ac (Af (eqF false)) (Ac (Af ixW) (Aa 0) (gC (.int 0))) (gC (.str "box")))) (Ag (Ac (Ah) (Ac (Ah) (gC (.str "[")) (Ak Cw XF (Ab (Ac (Af ixW) (Aa 0) (gC (.int 1))) Ad))) (gC (.str "]")))) Al) (Ae (gIf (gTB (Ac (Af (eqF true)) (Ac (Af ixW) (Aa 0) (gC (.int 0))) (gC (.str "row")))) (Ag (Ac (Af ixW) (Aa 0) (gC (.int 0)))) Al) (Ae (Ai 1 (BY (DG (Ac (Af ixW) (Aa 0) (gC (.int 1)))) 3 [] (Cr 0 1 2) A8 (Ac (Ah) (Ac (Ah) (Ac (Ah) (Aa 0) (Ac (AN) (gC (.str "?")) (gB (rF Cc) (Ab (Ac (Af (eqF false)) (Aa 1) (gC (.str "may"))) Ad)))) (gC (.str ": "))) (Ak Cw XF (Ab (Aa 2) Ad))))) (Ag (Ac (Ah) (Ac (Ah) (gC (.str "{")) (gMt CH CY (gC (.str ", ")) (Ab (Ac (Ah) (Aa 1) (Ac (AN) (As (Ab (gC (.str "..")) Ad)) (gB (rF Cc) (Ab (Ac (Af ixW) (Aa 0) (gC (.int 2))) Ad)))) Ad))) (gC (.str "}"))))))))
variable {Cw:Spw}
theorem dF(T:Tx K mg base a){DW:Nat}(dG:Df P w K mg base "_law_text" DW 1 Cw)(dH:DW<=k):Dn P w K mg base RA "_law_text" GY k (RB Cw):=λ{f cdv A outer s H E}hr=>
 have hu:=A3 hr
 have hN:=Ln.nd
 (Ar (by walk_at "v") (Ar (by walk_at "v") (Ar (by walk_at "v") (Ar (ZU (i:=1) Ln.nd rfl rfl rfl rfl (JW (own:=["name","mark","inner"]) (fr:=[]) (js:=[]) (scX:=Aj GY) (n:=s.heap.objs.size+1) rfl (by decide +kernel) (by decide +kernel) (by decide +kernel) (by decide +kernel) rfl rfl rfl (by decide +kernel) rfl) (λ_=>rfl) (by walk_at "v") (Zn (i:=0) (j:=1) (k:=2) rfl (by decide) rfl rfl rfl rfl rfl rfl) (λC fp s1 H1=>Cq) (λC fp s1 H1=>(by walk_at "v"))) (by walk_at "v")))))
abbrev RC:List Str:=["kind"]
theorem RD:Ay RC ["kind"] (Aj Kr):=by walk_at "s"
def RE:GS:=(Ae (gIf (gTB (Ac (Af (eqF false)) (Ac (Af ixW) (Aa 0) (gC (.int 0))) (gC (.str "row")))) (Ag (Bd (AU (Ac (Af ixW) (Aa 0) (gC (.int 1)))) 1 (gNm 0) A8 (Ac (Af ixW) (Aa 0) (gC (.int 2))))) Al) (Ag (gB (Ec) (Ab (AA (Aa 0) (Ao (gC (.int 1))) AJ) Ad))))
theorem dI(T:Tx K mg base a):Dn P w K mg base RC "_law_inner" Kr k (RE):=λ{f cdv A outer s H E}hr=>
 have hu:=A3 hr
 have hN:=RD.nd
 (Ar (BD (by walk_at "v") (A0 (BJ (DB (Nc:=["field"]) rfl (Dt rfl (by decide +kernel) (by decide +kernel)) (λ_=>rfl) (by walk_at "v") (D7 (i:=0) (by decide) rfl rfl) (λC fp s1 H1=>Cq) (λC fp s1 H1=>(by walk_at "v"))))) BC) (by walk_at "v"))
abbrev RF:List Str:=["kind"]
theorem RG:Ay RF ["kind"] (Aj Ks):=by walk_at "s"
def RH(Ij:Spw)(Dm:Spw):GS:=(Ag (Ac (Ah) (gC (.int 1)) (gB (Dx) (Ab (Bd (AU (Ak Ij XF (Ab (Aa 0) Ad))) 1 (gNm 0) A8 (Ak Dm XF (Ab (Aa 0) Ad))) Ad))))
theorem dJ(T:Tx K mg base a){Ik:Nat}{Ij:Spw}(fv:Df P w K mg base "_law_inner" Ik 1 Ij)(fw:Ik<=k){DK:Nat}(cJ:Df P w K mg base "_law_count" DK 1 Dm)(cK:DK<=k):Dn P w K mg base RF "_law_count" Ks k (RH Ij Dm):=λ{f cdv A outer s H E}hr=>
 have hu:=A3 hr
 have hN:=RG.nd
 (A0 (BJ (EU EO (CU Nr (Ni rfl) rfl T.OL (by decide) rfl rfl rfl (AV rfl (DB (Nc:=["inner"]) rfl (Dt rfl (by decide +kernel) (by decide +kernel)) (λ_=>rfl) (by walk_at "v") (D7 (i:=0) (by decide) rfl rfl) (λC fp s1 H1=>Cq) (λC fp s1 H1=>(by walk_at "v"))) Bm)))))
theorem Lo:∀ cs:List Nat,(cs.map λc:Nat=>(c:Int)).sum=((cs.sum:Nat):Int)
 | []=>rfl
 | c::cs=>by rw[Ym,List.sum_cons,List.sum_cons,Lo cs];lia
theorem Lp:∀(cs:List Nat)(j:Nat),(cs.take j).sum<=cs.sum
 | [],j=>by simp
 | c::cs,0=>by simp
 | c::cs,j+1=>by have:=Lp cs j;rw[List.take_succ_cons,List.sum_cons,List.sum_cons];lia
theorem RI:∀{cs:List Nat}{c:Nat},c∈cs->c<=cs.sum
 | d::cs,c,h=>by
  rw[List.sum_cons]
  walk_at "pg"
  ·lia
  ·have:=RI h;lia
theorem RJ{i:Int}(a:0<=i)(h1:i<=1000000):InLong i:=by unfold InLong;lia
theorem dL(cs:List Nat)(h:cs.sum<=1000000):PyProof.Rows.SumFits (cs.map λc:Nat=>(c:Int)):=by
 intro j a
 rw[Yh]at a
 refine⟨?_,?_⟩
 ·have e:(cs.map λc:Nat=>(c:Int)).getD j 0=(cs[j]:Int):=by rw[YY,YN,Yp a];rfl
  have:=RI (Qc a)
  rw[e];exact RJ (by lia) (by lia)
 ·rw[<- List.map_take,Lo]
  have:=Lp cs (j+1)
  exact RJ (by lia) (by lia)
theorem dM{cs:List Nat}(h:cs.sum<=1000000)(a:G p=some (.lst (cs.map λc:Nat=>W.int (c:Int))))(q:Q (.int (cs.sum:Nat)) G):Dx [.ref p] G Q:=by
 unfold Dx
 simp only[Ej a,Option.bind_some]
 rw[show(cs.map λc:Nat=>W.int (c:Int))=(cs.map λc:Nat=>(c:Int)).map W.int by rw[YB];rfl,L3.Og]
 dsimp only
 refine⟨dL cs h,?_⟩
 rw[Lo]
 exact q
theorem RK{α:Type}{enc f:α->W}{b:Hw->Prop}{ge:GE}{R:List W->Hw->Prop}{G:Hw}(a:b G):∀(l:List α)(o:Option W)(ys:List W),(∀ x∈l,∀ Q:Kw,Q (f x) G->ge [some (enc x)] G Q)->
  ys.length+l.length<=sizeLine->R (ys++l.map f) G->Be b (gNm 0) A8 ge R (l.map enc) [o] G ys
 | [],o,ys,_,_,r=>⟨a,by simpa using r⟩
 | x::l,o,ys,h,hl,r=>by
  refine⟨a,by simp only[Yg]at hl;lia,?_⟩
  show ge [some (enc x)] G λy c=>Be b (gNm 0) A8 ge R (l.map enc) [some (enc x)] c (ys++[y])
  refine h x Ye _ (RK a l (some (enc x)) (ys++[f x]) (λy d=>h y (Yd _ d)) ?_ ?_)
  ·simp only[Yj,Yg,Yi]at hl ⊢;lia
  ·simpa[Yv]using r
abbrev dN:Spw:=spL (λ(k:Kd)ws _=>ws=[k.enc]/\k.cnt<=2000) λk=>k.kids.map Kd.enc
theorem Ik(T:Tx K mg base a):Df P w K mg base "_law_inner" 1 1 dN:=by
 refine mk0 T.a9 rfl RD J8 ((by rintro h G Q E ⟨x,⟨e,_⟩,_⟩;rw[e];rfl)) (dI T) λh G Q E j q=>?_
 obtain⟨k,⟨rfl,hc⟩,q⟩:=q
 unfold RE
 cases k with
 | row fs o =>
  have c:1+fs.cnt<=2000:=hc
  have hl:=Lf fs
  simp only[Kd.enc];walk_at "rd"
  refine EX (f:=Ig) trivial fs.enc none [] (λx g d i=>?_) (by simp only[Yi];exact AI (by lia)) ?_
  ·obtain⟨n,b,k,rfl,_⟩:=F4 g
   show Ac (Af ixW) (Aa 0) (gC (.int 2)) [some (W.tup [.str n,.str (mark b),k])] _ d
   exact i
  ·rw[Yw,Lg]
   exact q
 | any=>exact Eq.mpr (by kernel_rfl) q
 | num=>exact Eq.mpr (by kernel_rfl) q
 | truth=>exact Eq.mpr (by kernel_rfl) q
 | to x y=>exact Eq.mpr (by kernel_rfl) q
 | box x=>exact Eq.mpr (by kernel_rfl) q
theorem RL:∀ l:List Kd,A9 l=(l.map Kd.cnt).sum
 | []=>rfl
 | k::l=>by rw[Ym,List.sum_cons,<- RL l];rfl
abbrev dO(n:Nat):Spw:=spR (λ(k:Kd)ws _=>ws=[k.enc]/\k.dp<=n/\k.cnt<=2000) λk=>.int (k.cnt:Nat)
theorem DK(T:Tx K mg base a):∀ n:Nat,Df P w K mg base "_law_count" (n+1) 1 (dO n)
 | 0=>Dl T.OH C2 λi G Q E⟨k,⟨_,hd,_⟩,_⟩=>by have:=Kb k;lia
 | n+1=>by
  refine mk0 (k:=n+1) T.OH rfl RG C2 (λi G Q E⟨x,⟨e,_⟩,_⟩=>by rw[e];rfl) (dJ T (Ik T) (by lia) (DK T n) (Yr _)) λi G Q E j q=>?_
  obtain⟨k,⟨rfl,hd,hc⟩,q⟩:=q
  have r:=FJ k
  have hl:=GU k.kids
  have d:=RL k.kids
  have g:∀ c∈k.kids,c.dp<=n/\c.cnt<=2000:=λc b=>⟨by have:=Ou b;lia,by have:=Kc b;lia⟩
  unfold RH
  simp only[Ag,Ac,gC,gB,Bd,AU,Ab,Ad,Ak]
  refine⟨k,⟨rfl,hc⟩,λp m=>?_⟩
  simp only[An]
  refine RK (enc:=Kd.enc) (f:=λc=>.int (c.cnt:Nat)) An k.kids none [] (λx l s o=>⟨x,⟨rfl,g x l⟩,o⟩) (by simp only[Yi];exact AI (by lia)) λp2 h=>?_
  rw[Yw,show(k.kids.map λc=>W.int (c.cnt:Nat))=(k.kids.map Kd.cnt).map λc:Nat=>W.int (c:Int) by rw[YB];rfl]
  refine dM (by lia) An ?_
  show Q (.int (1+((k.kids.map Kd.cnt).sum:Nat))) _
  rw[<- d,show(1:Int)+((A9 k.kids:Nat):Int)=((k.cnt:Nat):Int) by lia]
  exact j _ _ _ (C1 (AB m) h) q
def DT(o:Option Kd)(G:Hw)(Q:Kw):Prop:=match o with
 | some k=>Q k.enc G
 | none=>Q .non G
def Lq:Spw:=λws G Q E=>∃ T:Str,ws=[.str T]/\T.length<=2000/\DT (Bg (cs T)) G Q
theorem dP:Spw.M Lq:=λc G Q a E b h _⟨T,h1,h2,q⟩=>⟨T,h1,h2,by
 cases e:Bg (cs T)with
 | some k=>rw[e]at q;exact h _ _ q
 | none=>rw[e]at q;exact h _ _ q⟩
theorem dQ{k:Kd}(h:lr n s=some (k,t))(a:t=[]):k.cnt<=s.length:=by
 subst a
 have:=Lj n s k [] (K1 n s k [] h λc hc=>by cases hc).1
 have:=Fc k
 rw[Yi]at *
 lia
theorem Il(T:Tx K mg base a):Df P w K mg base "_law_due" 18 1 Lq:=by
 have D:Df P w K mg base "_law_read" 17 3 (Bt 1 (lr 8)):=CO T 8 (Yr _)
 refine mk0 (k:=17) T.ba rfl QR dP (by rintro n G Q E ⟨T,e,_⟩;rw[e];rfl) (cI T D (Yr _) (DK T 8) (by lia)) λn G Q E o q=>?_
 obtain⟨T,rfl,j,q⟩:=q
 have no:Bg (cs T)=none->Q .non G:=λe=>by rw[e]at q;exact q
 have d:Az [.str T] G=some (.int (T.length:Nat)):=by
  unfold Az Bn
  dsimp only
  rw[if_pos (B6 j)]
 unfold QS
 simp only[Ae,Ai,Ak,Ab,Ad]
 show Bt 1 (lr 8) [.str T,.int ((0:Nat):Int),.int 1] G _ (λ_ _=>False)
 refine Fb j (show At T 0 (cs T)from⟨rfl,YT _⟩) (λk t e i hi=>?_) (λe=>no (by unfold Bg;rw[e]))
 have h1:=Ex hi
 show Ae (gIf _ _ _) _ (Ax Q) [some (.str T),some (.tup [k.enc,.int i])] G
 simp only[Ae,gIf,gOr,gTB,Ac,Af,Aa,gC,Yb,Yc,isF,EW,Aq,ixW,Bv,Bw,gB,rF,Ab,Ad,d,Cg,Yq,if_false]
 by_cases b:t=[]
 ·have g:((i:Int)==((T.length:Nat):Int))=true:=by rw[b,Yi]at h1;simp only[beq_iff_eq];lia
  have hc:=dQ e b
  rw[BK]at hc
  have hd:=(HY 8).2 _ _ _ e
  simp only[g,show(true != true)=false from rfl,Yq,if_false,Ak,Ab,Ad,Ac,Af,Aa,gC,Yb,Yc,ixW,Bv,Aq]
  refine⟨k,⟨rfl,hd,by lia⟩,?_⟩
  simp only[AT]
  by_cases h:k.cnt<=40
  ·rw[if_neg (by simp only[YO];lia)]
   rw[Rr (by rw[b]at e;exact e) h]at q
   exact q
  ·rw[if_pos (YH (by lia))]
   refine no ?_
   cases f:Bg (cs T)with
   | none=>rfl
   | some m =>
    obtain⟨c,l⟩:=Lk f
    rw[e]at c
    cases c
    exact Qi l h
 ·have g:((i:Int)==((T.length:Nat):Int))=false:=by
   have:0 < t.length:=List.length_pos_iff.mpr b
   simp only[beq_eq_false_iff_ne];lia
  simp only[g,show(false != true)=true from rfl,if_true]
  refine no ?_
  cases f:Bg (cs T)with
  | none=>rfl
  | some m =>
   obtain⟨c,l⟩:=Lk f
   rw[e]at c
   cases c
   exact Qi rfl b
set_option hygiene false in
set_option hygiene false in
set_option hygiene false in
set_option hygiene false in
set_option hygiene false in
abbrev RM:List Str:=["script","k","cell"]
theorem RN:Ay RM ["script","k"] (Aj Kn):=by walk_at "s"
def RP:GS:=(Ae (Ai 2 (gC (.int 0))) (Ae (gIf (gTB (Ac (AG (λi j=>decide (i < j)) Aw) (Aa 1) (gB (rF Az) (Ab (Aa 0) Ad)))) (Ai 2 (Ac (Af ixW) (Aa 0) (Aa 1))) Al) (Ae (gIf (gTB (Ac (AT λi j=>decide (j<=i)) (Aa 2) (Ac (Av D2 λi j=>i ^ j.toNat) (gC (.int 10)) (gC (.int 18))))) (Ag (As (Ab (Ac (Av (λ_ _=>True) λi j=>i - j) (Aa 2) (Ac (Av D2 λi j=>i ^ j.toNat) (gC (.int 10)) (gC (.int 18)))) (Ab (gC (.int 1)) Ad)))) Al) (Ag (As (Ab (Ac (Av (λ_ j=>0 < j) λi j=>i % j) (Ac (A5) (Aa 2) (Ac (Av CMul λi j=>i*j) (gC (.int 7919)) (Aa 1))) (gC (.int 2147483647))) (Ab (gC (.int 0)) Ad)))))))
theorem dR(T:Tx K mg base a):Dn P w K mg base RM "_law_state" Kn k (RP):=by
 have hN:=RN.nd
 walk_at "z"
abbrev RQ:List Str:=["state","many","mixed","found"]
theorem RS:Ay RQ ["state","many"] (Aj Ko):=by walk_at "s"
def RU:GS:=(Ae (gIf (Bh (gTB (Ac (Af (eqF false)) (Ac (Af ixW) (Aa 0) (gC (.int 1))) (gC (.int 1)))) (gTB (Ac (AT λi j=>decide (j < i)) (Ac (Af ixW) (Aa 0) (gC (.int 0))) (gC (.int 0))))) (Ae (Ai 3 (Ac (Av (λ_ j=>0 < j) λi j=>i % j) (Ac (Af ixW) (Aa 0) (gC (.int 0))) (Aa 1))) (Ae (Cb (Ac (Av EC λi j=>i / j) (Ac (Af ixW) (Aa 0) (gC (.int 0))) (Aa 1)) (Aa 0) (gC (.int 0))) (Ag (Aa 3)))) Al) (Ae (Cb (gC (.int 0)) (Aa 0) (gC (.int 1))) (Ae (Cb (Ac (Av (λ_ j=>0 < j) λi j=>i % j) (Ac (Ah) (Ac (AN) (Ac (Af ixW) (Aa 0) (gC (.int 0))) (gC (.int 48271))) (gC (.int 69621))) (gC (.int 2147483647))) (Aa 0) (gC (.int 0))) (Ae (Ai 2 (Ac (Av (λ_ j=>0 < j) λi j=>i % j) (Ac (Ah) (Ac (AN) (Ac (Af ixW) (Aa 0) (gC (.int 0))) (Ac (Af ixW) (Aa 0) (gC (.int 0)))) (Ac (AN) (gC (.int 16807)) (Ac (Af ixW) (Aa 0) (gC (.int 0))))) (gC (.int 2147483629)))) (Ae (Ai 2 (Ac (Av (λ_ j=>0 < j) λi j=>i % j) (Ac (Ah) (Ac (AN) (Aa 2) (Aa 2)) (Ac (AN) (gC (.int 39373)) (Aa 2))) (gC (.int 2147483587)))) (Ag (Ac (Av (λ_ j=>0 < j) λi j=>i % j) (Ac (Av EC λi j=>i / j) (Aa 2) (gC (.int 8))) (Aa 1))))))))
theorem dS(T:Tx K mg base a):Dn P w K mg base RQ "_law_take" Ko k (RU):=by
 have hN:=RS.nd
 walk_at "z"
abbrev RV:List Str:=["state","deep","way","fields","name","pick"]
theorem RW:Ay RV ["state","deep"] (Aj Kp):=by walk_at "s"
def Lr(Bc:Spw)(Cy:Spw):GS:=(Ae (Ai 2 (Ak Bc XF (Ab (Aa 0) (Ab (Ac (A5) (gC (.int 6)) (Ac (Av CMul λi j=>i*j) (gC (.int 4)) (gB (rF Cc) (Ab (Ac (AT λi j=>decide (j < i)) (Aa 1) (gC (.int 0))) Ad)))) Ad)))) (Ae (gIf (gTB (Ac (AG (λi j=>decide (i < j)) Aw) (Aa 2) (gC (.int 6)))) (Ag (Ac (Af ixW) (As (Ab (Ap (Ab (gC (.str "any")) Ad)) (Ab (Ap (Ab (gC (.str "num")) Ad)) (Ab (Ap (Ab (gC (.str "truth")) Ad)) Ad)))) (Ac (Av EC λi j=>i / j) (Aa 2) (gC (.int 2))))) Al) (Ae (gIf (gTB (Ac (Af (eqF false)) (Aa 2) (gC (.int 6)))) (Ag (Ap (Ab (gC (.str "to")) (Ab (Ak Cy XF (Ab (Aa 0) (Ab (Ac (Av (λ_ _=>True) λi j=>i - j) (Aa 1) (gC (.int 1))) Ad))) (Ab (Ak Cy XF (Ab (Aa 0) (Ab (Ac (Av (λ_ _=>True) λi j=>i - j) (Aa 1) (gC (.int 1))) Ad))) Ad))))) Al) (Ae (gIf (gTB (Ac (Af (eqF false)) (Aa 2) (gC (.int 7)))) (Ag (Ap (Ab (gC (.str "box")) (Ab (Ak Cy XF (Ab (Aa 0) (Ab (Ac (Av (λ_ _=>True) λi j=>i - j) (Aa 1) (gC (.int 1))) Ad))) Ad)))) Al) (Ae (Ai 3 (As Ad)) (Ae (Bq (AU (As (Ab (gC (.str "a")) (Ab (gC (.str "b")) (Ab (gC (.str "cc")) Ad))))) (gNm 4) (Ae (Ai 5 (Ak Bc XF (Ab (Aa 0) (Ab (gC (.int 4)) Ad)))) (gIf (gTB (Ac (AT λi j=>decide (j < i)) (Aa 5) (gC (.int 1)))) (AF (gMt Bx B4 (Aa 3) (Ab (Ap (Ab (Aa 4) (Ab (Ac (Af ixW) (As (Ab (gC (.str "must")) (Ab (gC (.str "may")) Ad))) (Ac (Av (λ_ _=>True) λi j=>i - j) (Aa 5) (gC (.int 2)))) (Ab (Ak Cy XF (Ab (Aa 0) (Ab (Ac (Av (λ_ _=>True) λi j=>i - j) (Aa 1) (gC (.int 1))) Ad))) Ad)))) Ad))) Al))) (Ag (Ap (Ab (gC (.str "row")) (Ab (gB (rF Br) (Ab (Aa 3) Ad)) (Ab (Ac (Af (eqF false)) (Ak Bc XF (Ab (Aa 0) (Ab (gC (.int 3)) Ad))) (gC (.int 0))) Ad)))))))))))
variable {Cy:Spw}
theorem dU(T:Tx K mg base a){BO:Nat}(Ll:Df P w K mg base "_law_take" BO 2 Bc)(Lm:BO<=k){DX:Nat}(dV:Df P w K mg base "_law_kind" DX 2 Cy)(dW:DX<=k):Dn P w K mg base RV "_law_kind" Kp k (Lr Bc Cy):=by
 have hN:=RW.nd
 walk_at "z"
abbrev RX:List Str:=["e","flags"]
theorem RY:Ay RX ["e"] (Aj GW):=by walk_at "s"
def RZ(K:PySem.W.Frag)(a:Adr):GS:=(Ae (Ai 1 (As (Ab (Cd K (.ref a.NoKind) (Aa 0)) (Ab (Cd K (.ref a.NoTerm) (Aa 0)) (Ab (Cd K (.ref a.BadUse) (Aa 0)) (Ab (Cd K (.ref a.NoValue) (Aa 0)) Ad)))))) (Ag (Ac (Ah) (Aa 1) (As (Ab (Cd K (.ref a.NoNumber) (Aa 0)) (Ab (Cd K (.ref a.BadNote) (Aa 0)) (Ab (Cd K (.type "ValueError") (Aa 0)) Ad)))))))
theorem dX{k:Nat}(T:Tx K mg base a){f:Addr}{s:Shared}{E:XK}:Ssm (cxN P w K mg base RX "_law_which" (Aj GW) f cdv A outer s H) (λB=>B=H) (AC GW) (RZ K a):=
 (Ar (Ce (i:=1) RY.nd rfl rfl rfl (Jz (AV rfl (ES T.ON T.Ct rfl rfl rfl rfl rfl (by walk_at "v")) (AV rfl (ES T.OO T.Ct rfl rfl rfl rfl rfl (by walk_at "v")) (AV rfl (ES T.OP T.Ct rfl rfl rfl rfl rfl (by walk_at "v")) (AV rfl (ES T.OQ T.Ct rfl rfl rfl rfl rfl (by walk_at "v")) Bm)))))) (A0 (BJ (EU (by walk_at "v") (Jz (AV rfl (ES T.OR T.Ct rfl rfl rfl rfl rfl (by walk_at "v")) (AV rfl (ES T.Ep T.Ct rfl rfl rfl rfl rfl (by walk_at "v")) (AV rfl (Zb Zh T.bf T.Ct rfl rfl (by decide) rfl rfl rfl (by walk_at "v")) Bm))))))))
theorem Bu{Au:GS}(h:ge ω G λw a=>Au D (ω.set i (some w)) a):Ae (Ai i ge) Au D ω G:=h
theorem dY{ns:List Int}{k:Int}(c:0<=k)(h:k <(ns.length:Int)):∃ v:Int,atI (ns.map W.int) k=some (.int v):=by
 have b:k.toNat < ns.length:=by lia
 have a:k=((k.toNat:Nat):Int):=by lia
 refine⟨ns[k.toNat],?_⟩
 have q:atI (ns.map W.int) ((k.toNat:Nat):Int)=some (.int ns[k.toNat]):=L2.Da (by rw[YN,Yp b] <;> rfl)
 rw[<- a]at q
 exact q
theorem R1:D2 10 18:=⟨by decide,by decide,by decide⟩
theorem dZ(n:Nat):ixN (n+1) 0=some 0:=by unfold ixN;rw[if_pos (Int.le_refl 0),if_pos (by lia)];rfl
theorem d0(n:Nat):ixN (n+2) 1=some 1:=by unfold ixN;rw[if_pos (by decide),if_pos (by lia)];rfl
variable {v:W}{l:List W}
theorem R3{s:Addr}{x:W}{Q:Hw->Prop}(h:G s=some (.lst (x::l)))(q:Q (put G s (.lst (v::l)))):CT (.ref s) (.int 0) v G Q:=JE h (dZ l.length) q
theorem ix0{s:Addr}{x:W}(h:G s=some (.lst (x::l))):ixW (.ref s) (.int 0) G=some x:=by rw[J7 h];exact Bv
theorem ix1{s:Addr}{x:W}(h:G s=some (.lst (x::y::l))):ixW (.ref s) (.int 1) G=some y:=by rw[J7 h];exact Bw
theorem R4{x m:Int}(a:0<=x)(h1:x < m)(b:m<=2147483647):-(2 ^ 64) < x/\x < 2 ^ 64:=by
 have:(2:Int) ^ 64=18446744073709551616:=by decide
 rw[this];lia
theorem d3{s:Addr}{x:W}{Q:Hw->Prop}(h:G s=some (.lst (x::y::l)))(q:Q (put G s (.lst (x::v::l)))):CT (.ref s) (.int 1) v G Q:=JE h (d0 l.length) q
abbrev ST(x f:Int):HW:=.lst [.int x,.int f]
def Fe:Spw:=λws G Q _=>∃(s:Addr)(m x f:Int),ws=[.ref s,.int m]/\0 < m/\m < 1267650600228229401496703205376/\G s=some (ST x f)/\∀ r x' f':Int,0<=r->r < m->Q (.int r) (put G s (ST x' f'))
theorem d4:Spw.M Fe:=(by rintro j G Q i E k h _ ⟨s,m,x,f,h1,h2,d,b,q⟩;exact⟨s,m,x,f,h1,h2,d,b,λr a e c g=>h _ _ (q r a e c g)⟩)
theorem BO(T:Tx K mg base a):Df P w K mg base "_law_take" 1 2 Fe:=by
 refine mk0 T.a6 rfl RS d4 ((by rintro p G Q E ⟨s,m,x,f,e,_⟩;rw[e];rfl)) (dS T) λp G Q E u q=>?_
 obtain⟨s,m,x,f,rfl,c,k,h,q⟩:=q
 unfold RU
 show Ae (gIf _ _ Al) _ (Ax Q) [some (.ref s),some (.int m),none,none] G
 have b:Ae (Cb (gC (.int 0)) (Aa 0) (gC (.int 1))) (Ae (Cb (Ac (Av (λ_ j=>0 < j) λi j=>i % j) (Ac (Ah) (Ac (AN) (Ac (Af ixW) (Aa 0) (gC (.int 0))) (gC (.int 48271))) (gC (.int 69621))) (gC (.int 2147483647))) (Aa 0) (gC (.int 0))) (Ae (Ai 2 (Ac (Av (λ_ j=>0 < j) λi j=>i % j) (Ac (Ah) (Ac (AN) (Ac (Af ixW) (Aa 0) (gC (.int 0))) (Ac (Af ixW) (Aa 0) (gC (.int 0)))) (Ac (AN) (gC (.int 16807)) (Ac (Af ixW) (Aa 0) (gC (.int 0))))) (gC (.int 2147483629)))) (Ae (Ai 2 (Ac (Av (λ_ j=>0 < j) λi j=>i % j) (Ac (Ah) (Ac (AN) (Aa 2) (Aa 2)) (Ac (AN) (gC (.int 39373)) (Aa 2))) (gC (.int 2147483587)))) (Ag (Ac (Av (λ_ j=>0 < j) λi j=>i % j) (Ac (Av EC λi j=>i / j) (Aa 2) (gC (.int 8))) (Aa 1)))))) (Ax Q) [some (.ref s),some (.int m),none,none] G:=by
  simp only[Ae,Cb,gC,Aa,Yb]
  refine d3 h ?_
  have h1:put G s (ST x 0) s=some (ST x 0):=An
  simp only[Ac,Av,Af,gC,Aa,Yb,Yc,ix0 h1,Aq,AN,Ah,A5]
  refine⟨.inr ⟨by decide,by decide⟩,by decide,?_⟩
  refine R3 h1 ?_
  rw[A4]
  generalize g:(x*48271+69621) % 2147483647=x2
  have o:0<=x2:=by rw[<- g];exact Int.emod_nonneg _ (by decide)
  have r:x2 < 2147483647:=by rw[<- g];exact Int.emod_lt_of_pos _ (by decide)
  have h2:put G s (ST x2 0) s=some (ST x2 0):=An
  simp only[Ai,Ac,Av,Af,gC,Aa,Yb,Yc,Yk,Yl,ix0 h2,Aq,Ag,Ax,AN,Ah,A5]
  refine⟨.inl (R4 o r (by decide)),.inl ⟨by decide,by decide⟩,by decide,?_⟩
  generalize d:(x2*x2+16807*x2) % 2147483629=x3
  have t:0<=x3:=by rw[<- d];exact Int.emod_nonneg _ (by decide)
  have n:x3 < 2147483629:=by rw[<- d];exact Int.emod_lt_of_pos _ (by decide)
  refine⟨.inl (R4 t n (by decide)),.inl ⟨by decide,by decide⟩,(show(0:Int) < 2147483587 by decide),?_⟩
  refine⟨⟨by decide,by decide⟩,c,?_⟩
  exact q _ _ _ (Int.emod_nonneg _ (by lia)) (Int.emod_lt_of_pos _ c)
 simp only[Ae,gIf,Bh,gTB,Ac,Af,AT,Aa,gC,Yb,Yc,ix0 h,ix1 h,Aq,Cg]
 by_cases e:(f==1)=true
 ·rw[e]
  simp only[show(true != false)=true from rfl,if_true]
  by_cases l:(0:Int) < x
  ·simp only[l,decide_true,if_true,Ae,Ai,Cb,Ac,Av,Af,Aa,gC,Ag,Ax,Yb,Yc,Yk,Yl,ix0 h,Aq]
   refine⟨c,?_⟩
   refine⟨⟨c,k⟩,?_⟩
   refine R3 h ?_
   exact q _ _ _ (Int.emod_nonneg _ (by lia)) (Int.emod_lt_of_pos _ c)
  ·simp only[l,decide_false,Yq,if_false,Al]
   exact b
 ·rw[Bool.eq_false_iff.mpr e]
  simp only[show(false != false)=false from rfl,Yq,if_false,Al]
  exact b
def St(s:Addr)(G:Hw):Prop:=∃ x f,G s=some (ST x f)
def Hs(s:Addr)(G G':Hw):Prop:=St s G'/\∀ b,b≠s->∀ u,G b=some u->G' b=some u
theorem Hs.trans{s:Addr}{d a:Hw}(h:Hs s G d)(h':Hs s d a):Hs s G a:=⟨h'.1,λb c u e=>h'.2 b c u (h.2 b c u e)⟩
theorem Hs.refl{s:Addr}(h:St s G):Hs s G G:=⟨h,λ_ _ _ h=>h⟩
theorem St.put{s:Addr}(h:St s G)(a:G p=none):St s (put G p o):=by
 obtain⟨x,f,e⟩:=h
 exact⟨x,f,by rw[AH (BG e a)];exact e⟩
theorem Hs.put{s:Addr}{a:Hw}(h:Hs s G a)(c:a p=none):Hs s G (put a p o):=⟨h.1.put c,λb d u e=>AB c _ _ (h.2 b d u e)⟩
theorem Hs.ne{s:Addr}(h:St s G)(a:G p=none):p≠s:=by
 obtain⟨x,f,e⟩:=h
 exact YU (BG e a)
theorem Hs.new{s:Addr}(h:St s G)(a:G p=none):Hs s G (L3.put G p o):=(Hs.refl h).put a
theorem C7{s:Addr}{m:Int}{Z:Kw}{E:Addr->Hw->Prop}(j:0 < m)(h:m<=100000)(a:St s G)(k:∀(r:Int)(c:Hw),0<=r->r < m->Hs s G c->Z (.int r) c):Fe [.ref s,.int m] G Z E:=by
 obtain⟨x,f,a⟩:=a
 exact⟨s,m,x,f,rfl,j,by lia,a,λr d i h1 h2=>k r _ h1 h2 ⟨⟨d,i,An⟩,λb g u e=>by rw[AH g];exact e⟩⟩
theorem Io{r:Int}(h:G p=some (.lst xs))(b:0<=r)(h1:r <(xs.length:Int)):∃ x∈xs,ixW (.ref p) (.int r) G=some x:=by
 obtain⟨k,rfl⟩:∃ k:Nat,r=(k:Int):=⟨r.toNat,by lia⟩
 have a:k < xs.length:=by lia
 refine⟨xs[k],Qc a,?_⟩
 rw[J7 h]
 exact L2.Da (Yp a)
def F5{α:Type}(A:α->Addr->List W->Hw->Prop)(R:α->Addr->W->Hw->Prop):Spw:=λws G Q _=>∃ a s,A a s ws G/\St s G/\∀ r G',R a s r G'->Hs s G G'->Q r G'
theorem F6{α:Type}{A:α->Addr->List W->Hw->Prop}{R:α->Addr->W->Hw->Prop}:Spw.M (F5 A R):=(by rintro f G Q e E g h _ ⟨a,s,h1,h2,q⟩;exact⟨a,s,h1,h2,λr c b d=>h _ _ (q r c b d)⟩)
def R5:Spw:=λws G Q _=>∃ ns:List Int,ws=[.rol (ns.map W.int),.int 0]/\∀ s x f,G s=none->Q (.ref s) (put G s (ST x f))
theorem d5:Spw.M R5:=(by rintro c G Q a E b h _ ⟨ns,h1,q⟩;exact⟨ns,h1,λs x f z=>h _ _ (q s x f z)⟩)
theorem Iq(T:Tx K mg base a):Df P w K mg base "_law_state" 1 2 R5:=by
 refine mk0 T.aZ rfl RN d5 ((by rintro c G Q E ⟨ns,e,_⟩;rw[e];rfl)) (dR T) λc G Q E d q=>?_
 obtain⟨ns,rfl,q⟩:=q
 unfold RP
 show Ae (Ai 2 _) _ (Ax Q) [some (.rol (ns.map W.int)),some (.int 0),none] G
 have Au:∀ v:Int,Ae (gIf (gTB (Ac (AT λi j=>decide (j<=i)) (Aa 2) (Ac (Av D2 λi j=>i ^ j.toNat) (gC (.int 10)) (gC (.int 18))))) (Ag (As (Ab (Ac (Av (λ_ _=>True) λi j=>i - j) (Aa 2) (Ac (Av D2 λi j=>i ^ j.toNat) (gC (.int 10)) (gC (.int 18)))) (Ab (gC (.int 1)) Ad)))) Al) (Ag (As (Ab (Ac (Av (λ_ j=>0 < j) λi j=>i % j) (Ac (A5) (Aa 2) (Ac (Av CMul λi j=>i*j) (gC (.int 7919)) (Aa 1))) (gC (.int 2147483647))) (Ab (gC (.int 0)) Ad)))) (Ax Q) [some (.rol (ns.map W.int)),some (.int 0),some (.int v)] G:=by
  intro v
  walk_at "rd"
  refine⟨R1,?_⟩
  refine Ds (λh=>?_) (λh=>?_)
  ·exact⟨R1,trivial,by decide,λp b=>q p _ _ b⟩
  ·exact⟨.inl ⟨by decide,by decide⟩,by decide,by decide,λp b=>q p _ _ b⟩
 refine Bu ?_
 simp only[gC,Yk,Yl,Ae,gIf,gTB,Ac,AG,Aa,gB,rF,Ab,Ad,Yb,Yc]
 rw[show Az [W.rol (ns.map W.int)] G=some (.int (((ns.map W.int).length:Nat):Int))from rfl,Aq,Yh]
 dsimp only
 refine Ds (λh=>?_) (λh=>?_)
 ·have h:(0:Int) <(ns.length:Int):=Qg h
  simp only[Ai,Ac,Af,Aa,Yb,Yc,ixW]
  obtain⟨v,e⟩:=dY (ns:=ns) (Int.le_refl 0) h
  rw[e,Aq]
  exact Au v
 ·exact Au 0
def kc:Nat->Nat | 0=>1 | n+1=>1+3*kc n
def abc:List Str:=["a","b","cc"]
mutual
def Kd.abc:Kd->Bool
 | .to x y=>x.abc&&y.abc
 | .box x=>x.abc
 | .row fs _=>fs.abc
 | _=>true
def Fs.abc:Fs->Bool
 | .nil=>true
 | .cons n _ k r=>KV.abc.contains n&&k.abc&&r.abc
end
def Ir(c d:Nat)(k:Kd):Prop:=k.abc=true/\k.cnt<=c/\k.dp<=d
theorem R6{c d:Nat}:∀ l:List Fd,(∀ x∈l,abc.contains x.1=true/\Ir c d x.2.2)->(ofL l).abc=true/\(ofL l).cnt<=l.length*c/\(ofL l).dp<=d
 | [],_=>⟨rfl,YT _,YT _⟩
 | x::l,h=>by
  obtain⟨h1,h2,b⟩:=R6 l λy a=>h y (Yd _ a)
  obtain⟨g1,g2,g3,g4⟩:=h x Ye
  refine⟨?_,?_,?_⟩
  ·show(abc.contains x.1&&x.2.2.abc&&(ofL l).abc)=true
   rw[g1,g2,h1];rfl
  ·show x.2.2.cnt+(ofL l).cnt<=(l.length+1)*c
   rw[Nat.add_mul,Nat.one_mul];lia
  ·show max x.2.2.dp (ofL l).dp<=d
   lia
abbrev Ls(n:Nat):Spw:=F5 (λ(m:Nat)s ws _=>ws=[.ref s,.int m]/\m < n) λm _ r _=>∃ k:Kd,r=k.enc/\Ir (kc m) (m+1) k
abbrev gKB(n:Nat):GS:=Ae (Ai 5 (Ak Fe XF (Ab (Aa 0) (Ab (gC (.int 4)) Ad)))) (gIf (gTB (Ac (AT λi j=>decide (j < i)) (Aa 5) (gC (.int 1)))) (AF (gMt Bx B4 (Aa 3) (Ab (Ap (Ab (Aa 4) (Ab (Ac (Af ixW) (As (Ab (gC (.str "must")) (Ab (gC (.str "may")) Ad))) (Ac (Av (λ_ _=>True) λi j=>i - j) (Aa 5) (gC (.int 2)))) (Ab (Ak (Ls n) XF (Ab (Aa 0) (Ab (Ac (Av (λ_ _=>True) λi j=>i - j) (Aa 1) (gC (.int 1))) Ad))) Ad)))) Ad))) Al)
def Hs2(s p:Addr)(G G':Hw):Prop:=St s G'/\∀ b,b≠s->b≠p->∀ u,G b=some u->G' b=some u
theorem Hs2.trans{s:Addr}{e a:Hw}(h:Hs2 s p G e)(h':Hs2 s p e a):Hs2 s p G a:=⟨h'.1,λb c d u f=>h'.2 b c d u (h.2 b c d u f)⟩
theorem Hs.two{s:Addr}{a:Hw}(h:Hs s G a):Hs2 s p G a:=⟨h.1,λb c _ u d=>h.2 b c u d⟩
theorem Hs2.set{s:Addr}(h:St s G)(c:p≠s):Hs2 s p G (put G p o):=by
 obtain⟨x,f,e⟩:=h
 exact⟨⟨x,f,by rw[AH (YU c)];exact e⟩,λb _ a u d=>by rw[AH a];exact d⟩
theorem Hs2.one{s:Addr}{a:Hw}(h:Hs2 s p G a)(e:G p=none):Hs s G a:=⟨h.1,λb d u c=>h.2 b d (BG c e) u c⟩
theorem Lu{n m:Nat}{D:Ew}{F:Option W}{s p q:Addr}{items:List W}(T:m < n)(c:p≠s)(i:q≠s)(t:p≠q):∀(ns:List Str)(a:List Fd)(g f:Option W)(G:Hw),G p=some (.lst (a.map AE))->G q=some (.lst items)->St s G->a.length+ns.length<=100->
  (∀(l:List Fd)g f o,(l.map (·.1)).Sublist ns->(∀ x∈l,Ir (kc m) (m+1) x.2.2)->o p=some (.lst ((a++l).map AE))->Hs2 s p G o->D.nx [some (.ref s),some (.int ((m+1:Nat):Int)),F,some (.ref p),g,f] o)->
  BS (holds q items) (gNm 4) (gKB n) D (ns.map W.str) [some (.ref s),some (.int ((m+1:Nat):Int)),F,some (.ref p),g,f] G
 | [],a,g,f,G,B,w,K,_,j=>⟨w,j [] g f G (List.nil_sublist _) (λx Z=>by cases Z) (by rw[Yx];exact B) (Hs.refl K).two⟩
 | x::ns,a,g,f,G,B,w,K,hl,j=>by
  rw[Yg]at hl
  refine⟨w,?_⟩
  show gKB n _ [some (.ref s),some (.int ((m+1:Nat):Int)),F,some (.ref p),some (.str x),f] G
  refine Bu ?_
  simp only[Ak,Aa,gC,Ab,Ad,Yb]
  refine C7 (by decide) (by decide) K λr U r0 r4 u=>?_
  have A:=u.2 p c _ B
  have J:=u.2 q i _ w
  simp only[Yk,Yl,gIf,gTB,Ac,AT,Aa,gC,Yb,Yc]
  refine Ds (λh=>?_) (λh=>?_)
  ·have h1:(1:Int) < r:=Qg h
   simp only[AF,gMt,Ap,Ab,Ad,Aa,Ac,As,gC,Av,Ak,Yb,Yc]
   refine⟨Eu A,by decide,λz N=>?_⟩
   have X:=Hs.ne u.1 N
   refine⟨trivial,?_⟩
   obtain⟨y,v,e⟩:=Io (r:=r - 2) (G:=put U z (.lst [.str "must",.str "may"])) An (by lia) (by show r - 2 < 2;lia)
   show opt (ixW (.ref z) (.int (r - 2)) _) _
   rw[e,Aq]
   have E:∃ b,y=.str (mark b):=by
    simp only[Yo,YX,or_false]at v
    rcases v with rfl | rfl
    ·exact⟨true,rfl⟩
    ·exact⟨false,rfl⟩
   obtain⟨b,rfl⟩:=E
   refine⟨trivial,m,s,⟨by rw[show(((m+1:Nat):Int) - 1)=(m:Int) by lia],T⟩,u.1.put N,λk' Y O H=>?_⟩
   obtain⟨k,rfl,O⟩:=O
   have d:Hs s G Y:=(u.put N).trans H
   have I:=d.2 p c _ B
   have S:=d.2 q i _ w
   refine⟨(show 3<=sizeLine by decide),FY I (by rw[Yh];exact EY (by lia)) ?_⟩
   refine Lu T c i t ns (a++[(x,b,k)]) _ _ _ (by rw[Yy];exact An) (by rw[AH (YU t)];exact S) (Hs2.set d.1 c).1 (by rw[Yj];simp only[Yg,Yi];lia) λl g f o L P R Q=>?_
   refine j ((x,b,k)::l) g f o (.cons₂ _ L) (λy v=>?_) (by rw[R,Yv];rfl) ((d.two).trans ((Hs2.set d.1 c).trans Q))
   rcases Yo.mp v with rfl | v
   ·exact O
   ·exact P y v
  ·simp only[Al]
   exact Lu T c i t ns a _ _ U A J u.1 (by lia) λl g f o L P R Q=>j l g f o (.cons _ L) P R (u.two.trans Q)
theorem d6{m:Nat}{s:Addr}(hm:m < n+1)(hs:St s G)(q:∀ r D,(∃ k:Kd,r=k.enc/\Ir (kc m) (m+1) k)->Hs s G D->Q r D):Lr Fe (Ls n) (Ax Q) [some (.ref s),some (.int m),none,none,none,none] G:=by
 unfold Lr
 refine Bu ?_
 simp only[Ak,Aa,gC,Ac,gB,rF,AT,Av,A5,Cc,Aq,Ab,Ad,Yb,Yc]
 refine⟨.inl ⟨by decide,by decide⟩,?_⟩
 have hw:(6:Int)+4*(if decide (0 <(m:Int))=true then 1 else 0)=if m=0 then 6 else 10:=by
  cases m with
  | zero=>rfl
  | succ m=>rw[if_pos (by simp only[YO];lia),if_neg (by lia)];rfl
 rw[hw]
 refine C7 (by split <;> decide) (by split <;> decide) hs λr G1 r0 r1 j=>?_
 simp only[Yk,Yl,Ae,gIf,gTB,Ac,AG,Aa,gC,Yb,Yc]
 refine Ds (λh=>?_) (λh=>?_)
 ·have Z:r < 6:=Qg h
  simp only[Ag,Ac,As,Ap,Ab,Ad,Aa,gC,Av,Yb,Yc]
  refine⟨by decide,by decide,by decide,by decide,λp o=>⟨⟨by decide,by decide⟩,?_⟩⟩
  obtain⟨y,T,e⟩:=Io (r:=r / 2) (G:=put G1 p (.lst [.tup [.str "any"],.tup [.str "num"],.tup [.str "truth"]])) An (by lia) (by show r / 2 < 3;lia)
  show opt (ixW (.ref p) (.int (r / 2)) _) _
  rw[e,Aq]
  have R:1<=kc m:=by
   cases m with
   | zero=>exact Yr 1
   | succ m=>show 1<=1+3*kc m;lia
  refine q _ _ ?_ (j.put o)
  simp only[Yo,YX,or_false]at T
  rcases T with rfl | rfl | rfl
  ·exact⟨.any,rfl,rfl,R,by show 1<=m+1;lia⟩
  ·exact⟨.num,rfl,rfl,R,by show 1<=m+1;lia⟩
  ·exact⟨.truth,rfl,rfl,R,by show 1<=m+1;lia⟩
 ·have Z:¬ r < 6:=λz=>h (YH z)
  cases m with
  | zero=>rw[if_pos rfl]at r1;exact Qi r1 Z
  | succ m =>
  have i:m < n:=by lia
  have ek:kc (m+1)=1+3*kc m:=rfl
  have S:(((m+1:Nat):Int) - 1)=(m:Int):=by lia
  simp only[Al,Af,Cg,Aq]
  refine Ds (λh=>?_) (λh=>?_)
  ·simp only[Ag,Ap,Ab,Ad,Ak,Ac,Av,Aa,gC,Yb,Yc]
   refine⟨trivial,m,s,⟨by rw[S],i⟩,j.1,λg U t a=>?_⟩
   obtain⟨g,rfl,K,a2,a3⟩:=t
   refine⟨trivial,m,s,⟨by rw[S],i⟩,a.1,λB G3 P N=>?_⟩
   obtain⟨B,rfl,b1,b2,b3⟩:=P
   refine⟨(show 3<=sizeLine by decide),q _ _ ⟨.to g B,rfl,?_,?_,?_⟩ ((j.trans a).trans N)⟩
   ·show(g.abc&&B.abc)=true;rw[K,b1];rfl
   ·show 1+(g.cnt+B.cnt)<=_;lia
   ·show 1+max g.dp B.dp<=_;lia
  ·refine Ds (λh=>?_) (λh=>?_)
   ·simp only[Ag,Ap,Ab,Ad,Ak,Ac,Av,Aa,gC,Yb,Yc]
    refine⟨trivial,m,s,⟨by rw[S],i⟩,j.1,λg U t a=>?_⟩
    obtain⟨g,rfl,K,a2,a3⟩:=t
    refine⟨(show 2<=sizeLine by decide),q _ _ ⟨.box g,rfl,K,?_,?_⟩ (j.trans a)⟩
    ·show 1+g.cnt<=_;lia
    ·show 1+g.dp<=_;lia
   ·simp only[Al]
    show Ae (Ai 3 _) _ _ _ _
    refine Bu ?_
    simp only[As,Ad]
    refine⟨by decide,λp o=>?_⟩
    have L:=Hs.ne j.1 o
    show Ae (Bq _ (gNm 4) (gKB n)) _ _ _ _
    simp only[Ae,Bq,AU,As,Ab,Ad,gC]
    refine⟨by decide,λz F=>?_⟩
    have H:=Hs.ne (j.1.put o) F
    have A:p≠z:=BG An F
    simp only[An,Yk,Yl]
    refine Lu (n:=n) (m:=m) i L H A ["a","b","cc"] [] none none _ (by rw[AH A];exact An) An ((j.1.put o).put F) (by decide) λl o4 o5 D Y l2 l3 O=>?_
    simp only[Ag,Ap,Ab,Ad,gB,rF,Ac,Ak,Aa,gC,Yb,Yc]
    rw[Yw]at l3
    rw[Et l3,Aq]
    have J:Hs s G D:=j.trans ⟨O.1,λb hb u X=>O.2 b hb (BG X o) u (AB F _ _ (AB o _ _ X))⟩
    refine C7 (by decide) (by decide) O.1 λv U v0 v1 a=>?_
    simp only[Af,Cg,Aq]
    refine⟨(show 3<=sizeLine by decide),?_⟩
    have hl:=Y.length_le
    rw[Yh]at hl
    have I:l.length<=3:=hl
    have hn:∀ x∈l,abc.contains x.1=true:=λx E=>by
     have w:=Y.subset (List.mem_map_of_mem (f:=(·.1)) E)
     simp only[Yo,YX,or_false]at w
     rcases w with z | z | z <;> rw[z] <;> decide +kernel
    obtain⟨g1,g2,g3⟩:=R6 (c:=kc m) (d:=m+1) l λx E=>⟨hn x E,l2 x E⟩
    refine q _ _ ⟨.row (ofL l) ((v==0) != false),?_,?_,?_,?_⟩ (J.trans a)
    ·show _=W.tup [.str "row",.tup (ofL l).enc,_];rw[Er]
    ·exact g1
    ·show 1+(ofL l).cnt<=_
     have:=Nat.mul_le_mul_right (kc m) I
     lia
    ·show 1+(ofL l).dp<=_;lia
theorem DX(T:Tx K mg base a):∀ n:Nat,Df P w K mg base "_law_kind" (n+1) 2 (Ls n)
 | 0=>Dl T.OD F6 λb G Q E⟨k,s,⟨_,hd⟩,_⟩=>by lia
 | n+1=>by
  refine mk0 (k:=n+1) T.OD rfl RW F6 (λb G Q E⟨k,s,⟨e,hd⟩,_⟩=>by rw[e];rfl) (dU T (BO T) (by lia) (DX T n) (Yr _)) λb G Q E f q=>?_
  obtain⟨m,s,⟨rfl,d⟩,c,q⟩:=q
  exact d6 d c q
local macro_rules | `(tactic| walk_at "rd") => `(tactic| ((try dsimp only [Cc,BF,DC,DD,AS,DE,AA,BY,DG,CM,Bk,C3,Ci,Ae,gIf,Ag,Ai,AF,Al,Aa,gC,Ac,gTB,AM,gNt,Bh,gOr,BI,B3,BR,Ap,As,Ab,Ad,Ak,gB,rF,Af,By,gMt,BV,Bo,AG,AT,Av,A5,BW,gSl,Ao,AJ,Bd,AU,Cf,Ax,AZ,List.map_cons,List.map_nil,List.length_cons,List.length_nil,List.cons_append,List.nil_append,List.getElem?_cons_zero,List.getElem?_cons_succ,List.set_cons_zero,List.set_cons_succ,List.replicate,A7,tyN,Aq,Bv,Bw,CJ,ixW,Cg,Cz,Az,Bn,BE,List.getElem?_nil]); (try simp only [Cc,BF,DC,DD,AS,DE,AA,BY,DG,CM,Bk,C3,Ci,Ae,gIf,Ag,Ai,AF,Al,Aa,gC,Ac,gTB,AM,gNt,Bh,gOr,BI,B3,BR,Ap,As,Ab,Ad,Ak,gB,rF,Af,By,gMt,BV,Bo,AG,AT,Av,A5,BW,gSl,Ao,AJ,Bd,AU,Cf,Ax,AZ,List.map_cons,List.map_nil,List.length_cons,List.length_nil,List.cons_append,List.nil_append,List.getElem?_cons_zero,List.getElem?_cons_succ,List.set_cons_zero,List.set_cons_succ,List.replicate,A7,tyN,Aq,Bv,Bw,CJ,ixW,Cg,Cz,Az,Bn,BE,List.getElem?_nil])))
abbrev d9:Spw:=F5 (λ(_:Unit)s ws _=>ws=[.ref s]) λ_ s r G'=>∃ p x y z,r=.ref p/\p≠s/\G' p=some (.lst [.str x,.str y,.str z])/\x.length<=8/\y.length<=8/\z.length<=8
theorem Iu(T:Tx K mg base a):Df P w K mg base "_law_some_names" 2 1 d9:=by
 refine mk0 (k:=1) T.a8 rfl Ry F6 (λU G Q E⟨_,s,e,_⟩=>by rw[e];rfl) (dE T (BO T) (Yr _)) λU G Q E hC q=>?_
 obtain⟨_,s,rfl,X,q⟩:=q
 unfold Rz
 simp only[Ae,Ai,As,Ab,Ad,gC]
 refine⟨by decide,λf h0=>⟨by decide,λp1 h1=>⟨by decide,λp2 h2=>⟨by decide,λp3 n=>⟨(show 4<=sizeLine by decide),λq0 j=>?_⟩⟩⟩⟩⟩
 have b:∀{G i:Hw}{p:Addr}{L:List W},Hs s G i->i p=none->Hs s G (put i p (.lst L))/\p≠s/\put i p (.lst L) p=some (.lst L):=λh l=>⟨h.put l,Hs.ne h.1 l,An⟩
 obtain⟨N,I,c⟩:=b (L:=[.str "a",.str "b",.str "cc"]) (Hs.refl X) h0
 generalize put G f (.lst [.str "a",.str "b",.str "cc"])=i at *
 obtain⟨s2,Y,g⟩:=b (L:=[.str "any",.str "num",.str "truth"]) N h1
 have c:=AB (o:=.lst [.str "any",.str "num",.str "truth"]) h1 _ _ c
 generalize put i p1 (.lst [.str "any",.str "num",.str "truth"])=G2 at *
 obtain⟨J,R,m⟩:=b (L:=[.str "in",.str "inside",.str "out"]) s2 h2
 have c:=AB (o:=.lst [.str "in",.str "inside",.str "out"]) h2 _ _ c
 have g:=AB (o:=.lst [.str "in",.str "inside",.str "out"]) h2 _ _ g
 generalize put G2 p2 (.lst [.str "in",.str "inside",.str "out"])=G3 at *
 obtain⟨F,H,t⟩:=b (L:=[.str "may",.str "row",.str "zzzzzzzz"]) J n
 have c:=AB (o:=.lst [.str "may",.str "row",.str "zzzzzzzz"]) n _ _ c
 have g:=AB (o:=.lst [.str "may",.str "row",.str "zzzzzzzz"]) n _ _ g
 have m:=AB (o:=.lst [.str "may",.str "row",.str "zzzzzzzz"]) n _ _ m
 generalize put G3 p3 (.lst [.str "may",.str "row",.str "zzzzzzzz"])=G4 at *
 obtain⟨B,Z,f4⟩:=b (L:=[.ref f,.ref p1,.ref p2,.ref p3]) F j
 have c:=AB (o:=.lst [.ref f,.ref p1,.ref p2,.ref p3]) j _ _ c
 have g:=AB (o:=.lst [.ref f,.ref p1,.ref p2,.ref p3]) j _ _ g
 have m:=AB (o:=.lst [.ref f,.ref p1,.ref p2,.ref p3]) j _ _ m
 have t:=AB (o:=.lst [.ref f,.ref p1,.ref p2,.ref p3]) j _ _ t
 generalize put G4 q0 (.lst [.ref f,.ref p1,.ref p2,.ref p3])=G5 at *
 show Fe [.ref s,.int 4] G5 (λw O=>Af ixW (.ref q0) w O Q) (λ_ _=>False)
 refine C7 (by decide) (by decide) B.1 λr D S r1 u=>?_
 obtain⟨v,A,e⟩:=Io (u.2 q0 Z _ f4) S r1
 show opt (ixW (.ref q0) (.int r) D) _
 rw[e,Aq]
 have d:∀{p:Addr}{x y z:Str},p≠s->G5 p=some (.lst [.str x,.str y,.str z])->x.length<=8/\y.length<=8/\z.length<=8->Q (.ref p) D:=λl h hl=>q _ _ ⟨_,_,_,_,rfl,l,u.2 _ l _ h,hl⟩ (B.trans u)
 simp only[Yo,YX,or_false]at A
 rcases A with rfl | rfl | rfl | rfl
 ·exact d I c (by decide)
 ·exact d Y g (by decide)
 ·exact d R m (by decide)
 ·exact d H t (by decide)
mutual
def Kd.ren(f:Str->Str):Kd->Kd
 | .to x y=>.to (x.ren f) (y.ren f)
 | .box x=>.box (x.ren f)
 | .row fs o=>.row (fs.ren f) o
 | k=>k
def Fs.ren(f:Str->Str):Fs->Fs
 | .nil=>.nil
 | .cons n m k r=>.cons (f n) m (k.ren f) (r.ren f)
end
def nm3(x y z n:Str):Str:=if n="a" then x else if n="b" then y else z
mutual
theorem Ff(f:Str->Str):∀ k:Kd,(k.ren f).cnt=k.cnt
 | .any=>rfl
 | .num=>rfl
 | .truth=>rfl
 | .to x y=>by show 1+((x.ren f).cnt+(y.ren f).cnt)=1+(x.cnt+y.cnt);rw[Ff f x,Ff f y]
 | .box x=>by show 1+(x.ren f).cnt=1+x.cnt;rw[Ff f x]
 | .row fs o=>by show 1+(fs.ren f).cnt=1+fs.cnt;rw[R7 f fs]
theorem R7(f:Str->Str):∀ fs:Fs,(fs.ren f).cnt=fs.cnt
 | .nil=>rfl
 | .cons n m k r=>by show(k.ren f).cnt+(r.ren f).cnt=k.cnt+r.cnt;rw[Ff f k,R7 f r]
end
mutual
theorem F7(f:Str->Str):∀ k:Kd,(k.ren f).dp=k.dp
 | .any=>rfl
 | .num=>rfl
 | .truth=>rfl
 | .to x y=>by show 1+max (x.ren f).dp (y.ren f).dp=1+max x.dp y.dp;rw[F7 f x,F7 f y]
 | .box x=>by show 1+(x.ren f).dp=1+x.dp;rw[F7 f x]
 | .row fs o=>by show 1+(fs.ren f).dp=1+fs.dp;rw[R8 f fs]
theorem R8(f:Str->Str):∀ fs:Fs,(fs.ren f).dp=fs.dp
 | .nil=>rfl
 | .cons n m k r=>by show max (k.ren f).dp (r.ren f).dp=max k.dp r.dp;rw[F7 f k,R8 f r]
end
mutual
def Kd.sh:Kd->Bool
 | .to x y=>x.sh&&y.sh
 | .box x=>x.sh
 | .row fs _=>fs.sh
 | _=>true
def Fs.sh:Fs->Bool
 | .nil=>true
 | .cons n _ k r=>decide (n.length<=8)&&k.sh&&r.sh
end
mutual
theorem F8{f:Str->Str}(a:∀ n,(f n).length<=8):∀ k:Kd,(k.ren f).sh=true
 | .any=>rfl
 | .num=>rfl
 | .truth=>rfl
 | .to x y=>by show((x.ren f).sh&&(y.ren f).sh)=true;rw[F8 a x,F8 a y];rfl
 | .box x=>F8 a x
 | .row fs o=>R9 a fs
theorem R9{f:Str->Str}(a:∀ n,(f n).length<=8):∀ fs:Fs,(fs.ren f).sh=true
 | .nil=>rfl
 | .cons n m k r=>by show(decide ((f n).length<=8)&&(k.ren f).sh&&(r.ren f).sh)=true;rw[YH (a n),F8 a k,R9 a r];rfl
end
def Fs.toL:Fs->List Fd
 | .nil=>[]
 | .cons n m k r=>(n,m,k)::r.toL
theorem Iv:∀ fs:Fs,fs.enc=fs.toL.map AE
 | .nil=>rfl
 | .cons n m k r=>by show _::r.enc=_::r.toL.map AE;rw[Iv r];rfl
theorem Lv:∀{fs:Fs}{n:Nat},fs.dp<=n->∀ x∈fs.toL,x.2.2.dp<=n
 | .nil,_,_,x,a=>by cases a
 | .cons n m k r,j,h,x,a=>by
  have h':max k.dp r.dp<=j:=h
  rcases Yo.mp a with rfl | a
  ·show k.dp<=j;lia
  ·exact Lv (n:=j) (by lia) x a
theorem Lw:∀{fs:Fs},∀ x∈fs.toL,x.2.2.cnt<=fs.cnt
 | .nil,x,a=>by cases a
 | .cons n m k r,x,a=>by
  show x.2.2.cnt<=k.cnt+r.cnt
  rcases Yo.mp a with rfl | a
  ·show k.cnt<=_;lia
  ·have:=Lw x a;lia
theorem Lx:∀ fs:Fs,fs.toL.length<=fs.cnt
 | .nil=>Yr _
 | .cons n m k r=>by
  show r.toL.length+1<=k.cnt+r.cnt
  have:=Lx r
  have:=Oq k
  lia
def Ly(n:Nat):Spw:=λws G Q _=>∃(k:Kd)(p:Addr)(x y z:Str),ws=[k.enc,.ref p]/\G p=some (.lst [.str x,.str y,.str z])/\k.abc=true/\k.dp<=n/\k.cnt<=2000/\Q (k.ren (nm3 x y z)).enc G
theorem Sa:Spw.M (Ly n):=λe G Q d E f h _⟨k,p,x,y,z,h1,h2,c,a,b,q⟩=>⟨k,p,x,y,z,h1,h2,c,a,b,h _ _ q⟩
theorem ef{k:Kd}(h:∀ fs o,k≠.row fs o)(f:Str->Str):k.enc=.tup (.str k.hd::k.kids.map Kd.enc)/\(k.ren f).enc=.tup (.str k.hd::k.kids.map λc=>(c.ren f).enc)/\(k.hd==("row":Str))=false:=by
 cases k with
 | row fs o=>exact Qi rfl (h fs o)
 | any=>exact⟨rfl,rfl,by decide +kernel⟩
 | num=>exact⟨rfl,rfl,by decide +kernel⟩
 | truth=>exact⟨rfl,rfl,by decide +kernel⟩
 | to x y=>exact⟨rfl,rfl,(by decide +kernel:(("to":Str)==("row":Str))=false)⟩
 | box x=>exact⟨rfl,rfl,(by decide +kernel:(("box":Str)==("row":Str))=false)⟩
theorem eg{k:Kd}(h:k.abc=true):∀ c∈k.kids,c.abc=true:=by
 have b:∀{fs:Fs},fs.abc=true->∀ c∈fs.kinds,c.abc=true:=by
  intro fs
  induction fs using Fs.rec (motive_1:=λ_=>True)with
  | nil=>intro _ c hc;cases hc
  | cons n m k r _ a =>
   intro h c hc
   have h':(abc.contains n&&k.abc&&r.abc)=true:=h
   simp only[YG]at h'
   rcases Yo.mp hc with rfl | hc
   ·exact h'.1.2
   ·exact a h'.2 c hc
  | _=>trivial
 intro c hc
 cases k with
 | to x y =>
  have h':(x.abc&&y.abc)=true:=h
  simp only[YG]at h'
  have:c=x\/c=y:=by simpa[Kd.kids]using hc
  rcases this with rfl | rfl
  ·exact h'.1
  ·exact h'.2
 | box x =>
  have:c=x:=by simpa[Kd.kids]using hc
  subst this;exact h
 | row fs o=>exact b h c hc
 | any=>cases hc
 | num=>cases hc
 | truth=>cases hc
def Iw(x y z:Str)(u:Fd):Fd:=(nm3 x y z u.1,u.2.1,u.2.2.ren (nm3 x y z))
theorem Sb(x y z:Str):∀ fs:Fs,(fs.ren (nm3 x y z)).toL=fs.toL.map (Iw x y z)
 | .nil=>rfl
 | .cons n m k r=>by show _::(r.ren _).toL=_::r.toL.map _;rw[Sb x y z r];rfl
theorem Se:∀{fs:Fs},fs.abc=true->∀ u∈fs.toL,u.1∈abc/\u.2.2.abc=true
 | .nil,_,u,a=>by cases a
 | .cons b m k r,h,u,a=>by
  have h':(abc.contains b&&k.abc&&r.abc)=true:=h
  simp only[YG]at h'
  rcases Yo.mp a with rfl | a
  ·exact⟨List.contains_iff_mem.mp h'.1.1,h'.1.2⟩
  ·exact Se h'.2 u a
theorem eh{n:Str}(h:n∈abc):∃ j:Nat,abc[j]?=some n/\(∀ m,m < j->abc[m]?≠some n)/\∀ x y z:Str,atI [W.str x,.str y,.str z] (j:Int)=some (.str (nm3 x y z n)):=by
 have b:¬ (("b":Str)="a"):=by decide +kernel
 have c:¬ (("cc":Str)="a"):=by decide +kernel
 have a:¬ (("cc":Str)="b"):=by decide +kernel
 simp only[abc,Yo,YX,or_false]at h
 rcases h with rfl | rfl | rfl
 ·exact⟨0,rfl,λm d=>by lia,λx y z=>by rw[show((0:Nat):Int)=0 from rfl,Bv];unfold nm3;rw[if_pos rfl]⟩
 ·refine⟨1,rfl,λm d=>?_,λx y z=>by rw[show((1:Nat):Int)=1 from rfl,Bw];unfold nm3;rw[if_neg b,if_pos rfl]⟩
  obtain rfl:m=0:=by lia
  exact λe=>b (YE e).symm
 ·refine⟨2,rfl,λm d=>?_,λx y z=>by rw[show((2:Nat):Int)=2 from rfl,CJ];unfold nm3;rw[if_neg c,if_neg a]⟩
  obtain rfl | rfl:m=0\/m=1:=by lia
  ·exact λe=>c (YE e).symm
  ·exact λe=>a (YE e).symm
theorem Sf{n:Nat}{D:Ew}{pn p:Addr}{k0:W}{x y z:Str}:∀(l dn:List (Fd))(k o r:Option W)(G:Hw),(∀ u∈l,u.1∈abc/\u.2.2.abc=true)->(∀ u∈l,u.2.2.dp<=n)->(∀ u∈l,u.2.2.cnt<=2000)->dn.length+l.length<=2000->p≠pn->
  G p=some (.lst (dn.map AE))->G pn=some (.lst [.str x,.str y,.str z])->
  (∀ ω i,(∃ u v t,ω=[some k0,some (.ref pn),some (.ref p),u,v,t])->i p=some (.lst ((dn++l.map (Iw x y z)).map AE))->(∀ b,b≠p->∀ u,G b=some u->i b=some u)->D.nx ω i)->
  BS yes (Cr 3 4 5) (AF (gMt Bx B4 (Aa 2) (Ab (Ap (Ab (Ac (Af ixW) (Aa 1) (gMt Bx J4 (As (Ab (gC (.str "a")) (Ab (gC (.str "b")) (Ab (gC (.str "cc")) Ad)))) (Ab (Aa 3) Ad))) (Ab (Aa 4) (Ab (Ak (Ly n) XF (Ab (Aa 5) (Ab (Aa 1) Ad))) Ad)))) Ad))) D (l.map AE) [some k0,some (.ref pn),some (.ref p),k,o,r] G
 | [],dn,k,o,r,G,_,_,_,_,_,f,_,d=>⟨trivial,d _ G ⟨k,o,r,rfl⟩ (by simpa using f) λ_ _ _ h=>h⟩
 | u::l,dn,k,o,r,G,h1,h2,F,hl,e,f,g,d=>by
  refine⟨trivial,?_⟩
  have I:AE u=.tup [.str u.1,.str (mark u.2.1),u.2.2.enc]:=rfl
  rw[I]
  simp only[Cr]
  walk_at "rd"
  obtain⟨j,J,A,B⟩:=eh (h1 u Ye).1
  refine⟨Eu f,by decide,λq s=>⟨Eu An,?_⟩⟩
  have E:=BG f s
  have w:=BG g s
  refine⟨_,abc,u.1,j,GN An,rfl,rfl,J,A,?_⟩
  have a:put G q (.lst [.str "a",.str "b",.str "cc"]) pn=some (.lst [.str x,.str y,.str z]):=by rw[AH w];exact g
  simp only[a,B x y z,Aq]
  refine⟨u.2.2,pn,x,y,z,rfl,a,(h1 u Ye).2,h2 u Ye,F u Ye,by decide,?_⟩
  rw[Yg]at hl
  refine FY (by rw[AH E];exact f) (by rw[Yh];exact Nat.lt_of_le_of_lt (m:=2000) (by lia) (by decide)) ?_
  refine Sf l (dn++[Iw x y z u]) _ _ _ _ (λv c=>h1 v (Yd _ c)) (λv c=>h2 v (Yd _ c)) (λv c=>F v (Yd _ c)) (by rw[Yj];simp only[Yg,Yi];lia) e (by rw[An,Yy];rfl) (by rw[AH (YU e)];exact a) λω i hω K L=>?_
  refine d ω i hω (by rw[K,Ym];simp) λb H v c=>L b H v ?_
  rw[AH H,AH (BG c s)];exact c
theorem ej{α:Type}(h:α)(t:List α):Bi (h::t) none (some 1)=[h]:=by
 have e:HT.sIx (h::t).length (h::t).length (some 1)=min 1 (h::t).length:=HT.sIx_nat _ _ 1
 unfold Bi
 rw[HT.sIx_none,e]
 simp
theorem DV(T:Tx K mg base a):∀ n:Nat,Df P w K mg base "_law_renamed" (n+1) 2 (Ly n)
 | 0=>Dl T.OF Sa λA G Q E⟨k,p,x,y,z,_,_,_,h,_⟩=>by have:=Kb k;lia
 | n+1=>by
  have D:=DV T n
  refine mk0 (k:=n+1) T.OF rfl Rv Sa (λA G Q E⟨k,p,x,y,z,e,_⟩=>by rw[e];rfl) (dA T D (Yr _)) λA G Q E B q=>?_
  obtain⟨k,p,x,y,z,rfl,m,s,hd,hc,q⟩:=q
  unfold Rw
  by_cases d:∃ fs o,k=.row fs o
  ·obtain⟨fs,o,rfl⟩:=d
   have L:1+fs.dp<=n+1:=hd
   have N:1+fs.cnt<=2000:=hc
   simp only[Kd.enc]
   walk_at "rd"
   simp only[beq_self_eq_true,show(true != true)=false from rfl,YD,Aq,Yq,if_false]
   refine⟨by decide,λp2 g=>?_⟩
   have j:=BG m g
   rw[Iv]
   have H:=Lx fs
   refine Sf (n:=n) (x:=x) (y:=y) (z:=z) fs.toL [] none none none _ (Se s) (Lv (by lia)) (λu l=>Yt (Lw u l) (by lia)) (by simp only[Yi];lia) (YU j) An (by rw[AH j];exact m) ?_
   intro ω S hω h1 h2
   obtain⟨u,v,t,rfl⟩:=hω
   walk_at "rd"
   rw[Et h1]
   simp only[Aq,Yw]
   refine⟨by decide,B _ _ _ (λb u l=>h2 b (BG l g) u (by rw[AH (BG l g)];exact l)) ?_⟩
   have e:(Kd.ren (nm3 x y z) (.row fs o)).enc=.tup [.str "row",.tup ((fs.toL.map (Iw x y z)).map AE),.bl o]:=by rw[<- Sb,<- Iv];rfl
   rw[e]at q
   exact q
  ·obtain⟨O,J,F⟩:=ef (λfs o h=>d ⟨fs,o,h⟩) (nm3 x y z) (k:=k)
   rw[O]
   walk_at "rd"
   simp only[F,show(false != true)=true from rfl,YD,Aq,if_true]
   simp only[slA,ej,GP,List.drop_succ_cons,List.drop_zero]
   have R:=Ov k
   refine Lh (f:=λc=>(c.ren (nm3 x y z)).enc) (cst:=[some (.ref p)]) trivial k.kids none [] (λc i U I=>?_) (by simp only[Yi];exact AI (by lia)) λp1 r=>?_
   ·exact⟨c,p,x,y,z,rfl,m,eg s c i,by have:=Ou i;lia,by have:=aM i;lia,I⟩
   ·rw[Et An]
    simp only[Aq,Yw]
    rw[GL]
    refine⟨AI (by simp only[Yg,Yi,Yh];lia),B _ _ _ (AB r) ?_⟩
    rw[J]at q
    exact q
theorem AO(a b:Str):(a++b).length=a.length+b.length:=Str.length_append a b
theorem Ey(a:Str)(l:List Str):Txt.join a l=Str.join a l:=StrLaws.glued_eq_join a l
theorem Iy(a:Str):∀ l:List Str,(Str.join a l).length<=(l.map (·.length)).sum+l.length*a.length
 | []=>by simp[Str.join,Str.length,Str.empty]
 | [x]=>by simp[Str.join]
 | x::y::r=>by
  show(x++a++Str.join a (y::r)).length<=_
  rw[AO,AO]
  have:=Iy a (y::r)
  simp only[Ym,List.sum_cons,Yg,Nat.add_mul,Nat.one_mul]at this ⊢
  lia
theorem Lz{a:Str}(h:G p=some (.lst (ys.map W.str)))(hw:(ys.map (·.length)).sum+ys.length*a.length<=16777216)(q:Q (.str (Txt.join a ys)) G):CY (.str a) [.ref p] G Q :=
 ⟨a,.ref p,_,ys,rfl,rfl,GN h,NU id ys▸(by simp),hw,q⟩
variable {q:Addr}
theorem em{k:Int}(h:G q=some (.lst xs))(b:0<=k)(h1:k<=1)(hl:xs.length<=2000)(z:∀ p,G p=none->Q (.ref p) (put G p (.lst (List.replicate k.toNat xs).flatten))):AN (.ref q) (.int k) G Q:=by
 unfold AN
 dsimp only
 rw[h]
 have a:(2:Int) ^ 63=9223372036854775808:=by decide
 refine⟨by rw[a];lia,by rw[a];lia,AI ?_,z⟩
 have:k.toNat<=1:=by lia
 calc xs.length*k.toNat<=xs.length*1:=Nat.mul_le_mul_left _ this
  _<=100000:=by lia
theorem Iz{ys:List W}(h:G p=some (.lst xs))(h':G q=some (.lst ys))(hl:xs.length+ys.length<=100000)(z:∀ r,G r=none->Q (.ref r) (put G r (.lst (xs++ys)))):Ah (.ref p) (.ref q) G Q:=by
 show A5 (.ref p) (.ref q) G Q
 unfold A5
 dsimp only
 rw[h,h']
 exact⟨AI hl,z⟩
theorem eo:MulOk "?" 1/\MulOk "?" 0/\Txt.mul "?" 1="?"/\Txt.mul "?" 0="":=by
 refine⟨⟨by decide,λ_ h=>?_,λ_ h=>?_⟩,⟨by decide,λh=>Qi (by decide) h,λh=>Qi (by decide) h⟩,by decide +kernel,by decide +kernel⟩
 ·exact Qi h (by decide)
 ·exact Qi h (by decide)
def LA(n:Nat):Spw:=λws G Q _=>∃ k:Kd,ws=[k.enc]/\k.sh=true/\k.dp<=n/\k.cnt<=100/\∀ t:Str,t.length+13<=20*k.cnt->Q (.str t) G
theorem Sh:Spw.M (LA n):=λe G Q d E f h _⟨k,h1,h2,c,b,q⟩=>⟨k,h1,h2,c,b,λt a=>h _ _ (q t a)⟩
def LC(ts:List Str):Nat:=(ts.map (·.length)).sum+2*ts.length
theorem Si:∀{fs:Fs},fs.sh=true->∀ x∈fs.toL,x.1.length<=8/\x.2.2.sh=true
 | .nil,_,x,a=>by cases a
 | .cons n m k r,h,x,a=>by
  have h':(decide (n.length<=8)&&k.sh&&r.sh)=true:=h
  simp only[YG,YO]at h'
  rcases Yo.mp a with rfl | a
  ·exact h'.1
  ·exact Si h'.2 x a
def IA(l:List Fd):Nat:=(l.map λx=>x.2.2.cnt).sum
theorem Sj:∀ fs:Fs,IA fs.toL=fs.cnt
 | .nil=>rfl
 | .cons n m k r=>by show k.cnt+IA r.toL=k.cnt+r.cnt;rw[Sj r]
theorem Sk{c:Hw->Prop}{ge:GE}{R:List W->Hw->Prop}{G:Hw}(a:c G):∀(l:List Fd)(d e b:Option W)(ts:List Str),(∀ x∈l,∀ Q:Kw,(∀ t:Str,t.length+2<=20*x.2.2.cnt->Q (.str t) G)->ge [some (.str x.1),some (.str (mark x.2.1)),some x.2.2.enc] G Q)->
  ts.length+l.length<=2000->(∀ us:List Str,us.length=l.length->LC us<=20*IA l->R ((ts++us).map W.str) G)->Be c (Cr 0 1 2) A8 ge R (l.map AE) [d,e,b] G (ts.map W.str)
 | [],d,e,b,ts,_,_,r=>⟨a,by have:=r [] rfl (YT _);rw[Yx]at this;exact this⟩
 | x::l,d,e,b,ts,h,hl,r=>by
  rw[Yg]at hl
  refine⟨a,EY (by rw[Yh];lia),?_⟩
  show ge [some (.str x.1),some (.str (mark x.2.1)),some x.2.2.enc] G λy g=>Be c (Cr 0 1 2) A8 ge R (l.map AE) [some (.str x.1),some (.str (mark x.2.1)),some x.2.2.enc] g (ts.map W.str++[y])
  refine h x Ye _ λt k=>?_
  have z:=Sk a l (some (.str x.1)) (some (.str (mark x.2.1))) (some x.2.2.enc) (ts++[t]) (λy j=>h y (Yd _ j)) (by rw[Yj];simp only[Yg,Yi];lia) λus i f=>by
   have:=r (t::us) (by rw[Yg,Yg,i]) (by
    unfold LC at f ⊢
    show((t.length::us.map (·.length)).sum+2*(us.length+1))<=20*(x.2.2.cnt+IA l)
    rw[List.sum_cons]
    lia)
   rw[Yv];exact this
  rw[Yy]at z
  exact z
theorem DW(T:Tx K mg base a):∀ n:Nat,Df P w K mg base "_law_text" (n+1) 1 (LA n)
 | 0=>Dl T.OG Sh λU G Q E⟨k,_,_,h,_⟩=>by have:=Kb k;lia
 | n+1=>by
  have D:=DW T n
  refine mk0 (k:=n+1) T.OG rfl Ln Sh (λU G Q E⟨x,e,_⟩=>by rw[e];rfl) (dF T D (Yr _)) λU G Q E hC q=>?_
  obtain⟨k,rfl,v,hd,hc,q⟩:=q
  unfold RB
  have n1:(("box":Str)==("to":Str))=false:=by decide +kernel
  have n2:(("row":Str)==("to":Str))=false:=by decide +kernel
  have n3:(("row":Str)==("box":Str))=false:=by decide +kernel
  have Y:(true != false)=true:=rfl
  have O:(false != false)=false:=rfl
  cases k with
  | any=>exact Eq.mpr (by kernel_rfl) (q "any" (by decide))
  | num=>exact Eq.mpr (by kernel_rfl) (q "num" (by decide))
  | truth=>exact Eq.mpr (by kernel_rfl) (q "truth" (by decide))
  | to x y =>
   obtain⟨s1,s2⟩:=Qe.mp (show(x.sh&&y.sh)=true from v)
   have f:1+max x.dp y.dp<=n+1:=hd
   have g:1+(x.cnt+y.cnt)<=100:=hc
   have q:∀ t:Str,t.length+13<=20*(1+(x.cnt+y.cnt))->Q (.str t) G:=q
   have s:("(":Str).length=1:=rfl
   have e2:(" > ":Str).length=3:=rfl
   have B:(")":Str).length=1:=rfl
   simp only[Kd.enc];walk_at "rd"
   simp only[beq_self_eq_true,Y,if_true]
   refine⟨x,rfl,s1,by lia,by lia,λN h1=>⟨AI (by lia),AI (by rw[AO];lia),y,rfl,s2,by lia,by lia,λt2 h2=>⟨AI (by rw[AO,AO];lia),AI (by rw[AO,AO,AO];lia),q _ ?_⟩⟩⟩
   rw[AO,AO,AO,AO];lia
  | box x =>
   have f:1+x.dp<=n+1:=hd
   have g:1+x.cnt<=100:=hc
   have q:∀ t:Str,t.length+13<=20*(1+x.cnt)->Q (.str t) G:=q
   have s:("[":Str).length=1:=rfl
   have B:("]":Str).length=1:=rfl
   simp only[Kd.enc];walk_at "rd"
   simp only[beq_self_eq_true,n1,Y,O,if_true,Yq,if_false]
   refine⟨x,rfl,v,by lia,by lia,λN h1=>⟨AI (by lia),AI (by rw[AO];lia),q _ ?_⟩⟩
   rw[AO,AO];lia
  | row fs o =>
   have f:1+fs.dp<=n+1:=hd
   have g:1+fs.cnt<=100:=hc
   have q:∀ t:Str,t.length+13<=20*(1+fs.cnt)->Q (.str t) G:=q
   have hl:=Lx fs
   simp only[Kd.enc];walk_at "rd"
   simp only[beq_self_eq_true,n2,n3,O,show(true != true)=false from rfl,Yq,if_false]
   rw[Iv]
   refine Sk trivial fs.toL none none none [] (λx I Q' S=>?_) (by simp only[Yi];lia) λb l1 X=>?_
   ·obtain⟨nm,m,k⟩:=x
    have d:=Si v _ I
    have L:=Lv (Yr fs.dp) _ I
    have F:=Lw _ I
    dsimp only at d L F S
    have s:(": ":Str).length=2:=rfl
    have key:∀ j:Int,MulOk "?" j->(Txt.mul "?" j).length<=1->AN (.str "?") (.int j) G λy J=>Ah (.str nm) y J λy u=>Ah y (.str ": ") u λy A=>LA n [k.enc] A (λz R=>Ah y z R Q') λ_ _=>False:=λj mo ml=>
     ⟨mo,AI (by lia),AI (by rw[AO];lia),k,rfl,d.2,by lia,by lia,λt ht=>⟨AI (by rw[AO,AO];lia),S _ (by rw[AO,AO,AO];lia)⟩⟩
    obtain⟨m1,m0,N,t0⟩:=eo
    cases m with
    | true=>exact key 0 m0 (by rw[t0];decide)
    | false=>exact key 1 m1 (by rw[N];decide)
   ·intro p hp
    rw[Yw]
    refine⟨⟨_,rfl⟩,by decide,λp1 i=>?_⟩
    have hz:b.length<=2000:=by lia
    have c:=AB (o:=.lst (b.map W.str)) hp
    have l:put G p (.lst (b.map W.str)) p=some (.lst (b.map W.str)):=An
    generalize put G p (.lst (b.map W.str))=J at *
    have c:=c.trans (AB (o:=.lst [.str ".."]) i)
    have l:=AB (o:=.lst [.str ".."]) i _ _ l
    refine em An (by cases o <;> decide) (by cases o <;> decide) (by decide) λp2 r=>?_
    generalize put J p1 (.lst [.str ".."])=u at *
    have Z:(List.replicate (if o=true then(1:Int)else 0).toNat [W.str ".."]).flatten=(if o then[("..": Str)]else[]).map W.str:=by cases o <;> rfl
    rw[Z]
    have ld:((if o then[("..": Str)]else[]).map (·.length)).sum+(if o then[("..": Str)]else[]).length*2<=4:=by cases o <;> decide
    generalize(if o then[("..": Str)]else[])=dd at ld ⊢
    have c:=c.trans (AB (o:=.lst (dd.map W.str)) r)
    have l:=AB (o:=.lst (dd.map W.str)) r _ _ l
    have f2:put u p2 (.lst (dd.map W.str)) p2=some (.lst (dd.map W.str)):=An
    generalize put u p2 (.lst (dd.map W.str))=A at *
    refine Iz l f2 (by rw[Yh,Yh];lia) λp3 H=>?_
    have c:=c.trans (AB (o:=.lst (b.map W.str++dd.map W.str)) H)
    have f3:put A p3 (.lst (b.map W.str++dd.map W.str)) p3=some (.lst ((b++dd).map W.str)):=by rw[An,Yy]
    generalize put A p3 (.lst (b.map W.str++dd.map W.str))=R at *
    have e4:(", ":Str).length=2:=rfl
    have hj:=Iy (", ":Str) (b++dd)
    rw[Sj]at X
    unfold LC at X
    have v:((b++dd).map (·.length)).sum+(b++dd).length*(", ":Str).length<=20*fs.cnt+4:=by
     rw[Yy,List.sum_append,Yj,e4];lia
    have s:("{":Str).length=1:=rfl
    have B:("}":Str).length=1:=rfl
    refine Lz f3 (by lia) ?_
    refine⟨AI (by rw[Ey,s];lia),AI (by rw[AO,Ey,s,B];lia),hC _ _ _ c (q _ ?_)⟩
    rw[AO,AO,Ey];lia
set_option hygiene false in
set_option hygiene false in
set_option hygiene false in
set_option hygiene false in
set_option hygiene false in
abbrev Sl:List Str:=["state","some","many"]
theorem Sn:Ay Sl ["state"] (Aj Kx):=by walk_at "s"
def So(Bc:Spw):GS:=(Ae (Ai 1 (As (Ab (gC (.str "")) (Ab (gC (.str " ")) (Ab (gC (.str "any ")) (Ab (gC (.str " any")) (Ab (gC (.str "Any")) (Ab (gC (.str "nums")) (Ab (gC (.str "(num)")) (Ab (gC (.str "(num > )")) (Ab (gC (.str "( > num)")) (Ab (gC (.str "(num>num)")) (Ab (gC (.str "(num  > num)")) (Ab (gC (.str "[]")) Ad)))))))))))))) (Ae (Ai 1 (Ac (Ah) (Aa 1) (As (Ab (gC (.str "[num")) (Ab (gC (.str "num]")) (Ab (gC (.str "{a}")) (Ab (gC (.str "{a:num}")) (Ab (gC (.str "{a : num}")) (Ab (gC (.str "{a: num,}")) (Ab (gC (.str "{a: num, }")) (Ab (gC (.str "{, ..}")) (Ab (gC (.str "{..")) (Ab (gC (.str "{...}")) Ad))))))))))))) (Ae (Ai 1 (Ac (Ah) (Aa 1) (As (Ab (gC (.str "{a: num..}")) (Ab (gC (.str "{a: num ..}")) (Ab (gC (.str "{.., a: num}")) (Ab (gC (.str "{b: num, a: num}")) (Ab (gC (.str "{a: num, a: num}")) (Ab (gC (.str "{a?: num}")) Ad))))))))) (Ae (Ai 1 (Ac (Ah) (Aa 1) (As (Ab (gC (.str "{a ?: num}")) (Ab (gC (.str "{abcdefghi: num}")) (Ab (gC (.str "{A: num}")) (Ab (gC (.str "{: num}")) (Ab (gC (.str "{a: num, b: any, ..}")) (Ab (gC (.str "{}")) (Ab (gC (.str "{..}")) (Ab (gC (.str "{ }")) Ad))))))))))) (Ae (Ai 1 (Ac (Ah) (Aa 1) (As (Ab (Ac (Ah) (Ac (Ah) (Ac (AN) (gC (.str "[")) (gC (.int 7))) (gC (.str "num"))) (Ac (AN) (gC (.str "]")) (gC (.int 7)))) (Ab (Ac (Ah) (Ac (Ah) (Ac (AN) (gC (.str "[")) (gC (.int 8))) (gC (.str "num"))) (Ac (AN) (gC (.str "]")) (gC (.int 8)))) (Ab (Ac (Ah) (Ac (AN) (gC (.str "(")) (gC (.int 60))) (gC (.str "num"))) (Ab (Ac (Ah) (Ac (Ah) (Ac (AN) (gC (.str "[")) (gC (.int 7))) (gC (.str "{}"))) (Ac (AN) (gC (.str "]")) (gC (.int 7)))) Ad))))))) (Ae (Ai 1 (Ac (Ah) (Aa 1) (As (Ab (Ac (Ah) (Ac (Ah) (Ac (AN) (gC (.str "[")) (gC (.int 7))) (gC (.str "{a: num}"))) (Ac (AN) (gC (.str "]")) (gC (.int 7)))) (Ab (gC (.str "{any: num}")) (Ab (gC (.str "{num?: any, ..}")) (Ab (gC (.str "{truth: num, num: any}")) Ad))))))) (Ae (Ai 2 (Ac (Ah) (gC (.int 19)) (Ak Bc XF (Ab (Aa 0) (Ab (gC (.int 2)) Ad))))) (Ae (AF (gMt Bx B4 (Aa 1) (Ab (Ac (Ah) (Ac (Ah) (gC (.str "{")) (gMt CH CY (gC (.str ", ")) (Ab (Bd (AU (AA (gC (.str "abcdefghijklmnopqrst")) AJ (Ao (Aa 2)))) 1 (gNm 0) A8 (Ac (Ah) (Ac (Ah) (gC (.str "a")) (Aa 0)) (gC (.str "?: [num]")))) Ad))) (gC (.str "}"))) Ad))) (Ag (Ac (Af ixW) (Aa 1) (Ak Bc XF (Ab (Aa 0) (Ab (gB (rF Az) (Ab (Aa 1) Ad)) Ad)))))))))))))
theorem et(T:Tx K mg base a){BO:Nat}(Ll:Df P w K mg base "_law_take" BO 2 Bc)(Lm:BO<=k):Dn P w K mg base Sl "_law_odd" Kx k (So Bc):=λ{f cdv A outer s H E}hr=>
 have hu:=A3 hr
 have hN:=Sn.nd
 (Ar (by walk_at "v") (Ar (by walk_at "v") (Ar (by walk_at "v") (Ar (by walk_at "v") (Ar (by walk_at "v") (Ar (by walk_at "v") (Ar (by walk_at "v") (Ar (CF rfl (Cp JN rfl rfl rfl rfl rfl (by walk_at "v") (AV rfl (EU (EU EQ (Cp NV rfl rfl rfl rfl rfl EQ (AV rfl (DB (Nc:=["sign"]) rfl (Dt rfl (by decide +kernel) (by decide +kernel)) (λ_=>rfl) (by walk_at "v") (D7 (i:=0) (by decide) rfl rfl) (λC fp s1 H1=>Cq) (λC fp s1 H1=>(by walk_at "v"))) Bm))) EQ) Bm))) (by walk_at "v")))))))))
abbrev Sq:List Str:=["state","text","way","at","sign","parts","spot","more"]
theorem Sr:Ay Sq ["state","text"] (Aj Ky):=by walk_at "s"
def Ss(Bc:Spw)(IB:Spw):GS:=(Ae (Ai 2 (Ak Bc XF (Ab (Aa 0) (Ab (gC (.int 7)) Ad)))) (Ae (Ai 3 (Ak Bc XF (Ab (Aa 0) (Ab (Ac (Ah) (gB (rF Az) (Ab (Aa 1) Ad)) (gC (.int 1))) Ad)))) (Ae (Ai 4 (Ac (Af ixW) (gC (.str "()[]{}>:?, .abnumt")) (Ak Bc XF (Ab (Aa 0) (Ab (gC (.int 18)) Ad))))) (Ae (Ai 5 (gMt CH Oe (Aa 1) (Ab (gC (.str " ")) Ad))) (Ae (Ai 6 (Ak Bc XF (Ab (Aa 0) (Ab (gB (rF Az) (Ab (Aa 5) Ad)) Ad)))) (Ae (gIf (gTB (Ac (Af (eqF false)) (Aa 2) (gC (.int 0)))) (Ag (Ac (Ah) (Ac (Ah) (AA (Aa 1) AJ (Ao (Aa 3))) (Aa 4)) (AA (Aa 1) (Ao (Aa 3)) AJ))) Al) (Ae (gIf (gTB (Ac (Af (eqF false)) (Aa 2) (gC (.int 1)))) (Ag (Ac (Ah) (Ac (Ah) (AA (Aa 1) AJ (Ao (Aa 3))) (Aa 4)) (AA (Aa 1) (Ao (Ac (Ah) (Aa 3) (gC (.int 1)))) AJ))) Al) (Ae (gIf (gTB (Ac (Af (eqF false)) (Aa 2) (gC (.int 2)))) (Ag (Ac (Ah) (AA (Aa 1) AJ (Ao (Aa 3))) (AA (Aa 1) (Ao (Ac (Ah) (Aa 3) (gC (.int 1)))) AJ))) Al) (Ae (gIf (gTB (Ac (Af (eqF false)) (Aa 2) (gC (.int 3)))) (Ag (gMt CH CY (gC (.str " ")) (Ab (Ac (Ah) (AA (Aa 5) AJ (Ao (Aa 6))) (AA (Aa 5) (Ao (Ac (Ah) (Aa 6) (gC (.int 1)))) AJ)) Ad))) Al) (Ae (gIf (gTB (Ac (Af (eqF false)) (Aa 2) (gC (.int 4)))) (Ag (gMt CH CY (gC (.str " ")) (Ab (Ac (Ah) (AA (Aa 5) AJ (Ao (Ac (Ah) (Aa 6) (gC (.int 1))))) (AA (Aa 5) (Ao (Aa 6)) AJ)) Ad))) Al) (Ae (gIf (gTB (Ac (Af (eqF false)) (Aa 2) (gC (.int 5)))) (Ae (Ai 7 (Ac (Ah) (AA (Aa 5) (Ao (Ac (Ah) (Aa 6) (gC (.int 1)))) (Ao (Ac (Ah) (Aa 6) (gC (.int 2))))) (AA (Aa 5) (Ao (Aa 6)) (Ao (Ac (Ah) (Aa 6) (gC (.int 1))))))) (Ag (gMt CH CY (gC (.str " ")) (Ab (Ac (Ah) (Ac (Ah) (AA (Aa 5) AJ (Ao (Aa 6))) (Aa 7)) (AA (Aa 5) (Ao (Ac (Ah) (Aa 6) (gC (.int 2)))) AJ)) Ad)))) Al) (Ag (Ak IB XF (Ab (Aa 0) Ad))))))))))))))
theorem eu(T:Tx K mg base a){BO:Nat}(Ll:Df P w K mg base "_law_take" BO 2 Bc)(Lm:BO<=k){IC:Nat}{IB:Spw}(fx:Df P w K mg base "_law_odd" IC 1 IB)(fy:IC<=k):Dn P w K mg base Sq "_law_spoiled" Ky k (Ss Bc IB):=by
 have hN:=Sr.nd
 walk_at "z"
abbrev Su:List Str:=["text","found","e"]
theorem F9:Ay Su ["text"] (Aj Kz):=by walk_at "s"
def Sv(K:PySem.W.Frag)(a:Adr)(ID:Spw)(IE:Spw):GS:=(Ae (Ai 1 (As Ad)) (Ae (JP K a.CastError 2 (λex=>(Ai 1 (Ak ID ex (Ab (Aa 0) Ad)))) (Ai 1 (Ak IE XF (Ab (Aa 2) Ad)))) (Ag (Aa 1))))
theorem ey(T:Tx K mg base a){Ii:Nat}{ID:Spw}(ez:Df P w K mg base "kind_read" Ii 1 ID)(eA:Ii<=k){IF:Nat}{IE:Spw}(eB:DfN P w K mg base "_law_which" IF 1 IE)(eD:IF<=k):Dn P w K mg base Su "_law_told" Kz k (Sv K a ID IE):=λ{f cdv A outer s H E}hr=>
 have hu:=A3 hr
 have hN:=F9.nd
 (Ar (by walk_at "v") (Ar (Y0 (i:=2) T.OM T.OS T.OT T.OU F9.nd rfl rfl rfl rfl rfl rfl rfl (λex pn xe hp=>(A0 (Ce (i:=1) F9.nd rfl rfl rfl (BU ez (hr.mono eA) rfl hp rfl rfl rfl (by walk_at "v"))))) (λe=>(A0 (Ce (i:=1) F9.nd rfl rfl rfl (Y1 eB (Zk hr eD) rfl rfl rfl rfl (by walk_at "v")))))) (by walk_at "v")))
abbrev Sx:List Str:=["script","state","kind","text","k","spoiled","due","found"]
theorem Sy:Ay Sx ["script"] (Aj EZ):=by walk_at "s"
def Sz(IG:Spw)(Cy:Spw)(IH:Spw)(C6:Spw)(Cw:Spw)(II:Spw)(IJ:Spw)(IK:Spw):GS:=(Ae (Ai 1 (Ak IG XF (Ab (Aa 0) (Ab (gC (.int 0)) Ad)))) (Ae (Ai 2 (Ak Cy XF (Ab (Aa 1) (Ab (gC (.int 2)) Ad)))) (Ae (Ai 3 (Ak Cw XF (Ab (Ak C6 XF (Ab (Aa 2) (Ab (Ak IH XF (Ab (Aa 1) Ad)) Ad))) Ad))) (Ae (Bq (DA (Ab (gC (.int 4)) Ad)) (gNm 4) (Ae (Ai 5 (Ak II XF (Ab (Aa 1) (Ab (Aa 3) Ad)))) (Ae (Ai 6 (Ak IJ XF (Ab (Aa 5) Ad))) (Ae (Ai 7 (Ak IK XF (Ab (Aa 5) Ad))) (Ae (gIf (gTB (Ac (Af (isF false)) (Aa 6) (gC .non))) (Ai 6 (As (Ab (gC (.bl false)) (Ab (gC (.bl false)) (Ab (gC (.bl false)) (Ab (gC (.bl false)) (Ab (gC (.bl false)) (Ab (gC (.bl true)) (Ab (gC (.bl true)) Ad))))))))) Al) (gIf (gTB (Ac (Af (eqF true)) (Aa 7) (Aa 6))) (Ag (gC (.bl false))) Al)))))) (Ag (gC (.bl true)))))))
theorem eE(T:Tx K mg base a){Iq:Nat}{IG:Spw}(fz:Df P w K mg base "_law_state" Iq 2 IG)(fA:Iq<=k){DX:Nat}(dV:Df P w K mg base "_law_kind" DX 2 Cy)(dW:DX<=k){Iu:Nat}{IH:Spw}(fB:Df P w K mg base "_law_some_names" Iu 1 IH)(fC:Iu<=k){DV:Nat}(dB:Df P w K mg base "_law_renamed" DV 2 C6)(dD:DV<=k){DW:Nat}(dG:Df P w K mg base "_law_text" DW 1 Cw)(dH:DW<=k){IL:Nat}{II:Spw}(fD:Df P w K mg base "_law_spoiled" IL 2 II)(fE:IL<=k){Il:Nat}{IJ:Spw}(fF:Df P w K mg base "_law_due" Il 1 IJ)(fG:Il<=k){IM:Nat}{IK:Spw}(fH:Df P w K mg base "_law_told" IM 1 IK)(fI:IM<=k){f:Addr}{s:Shared}(hr:Room k (A.deeper (envOfC "law" (Aj EZ) s.heap.objs.size f cdv))):Ssm (cxW P w K mg base Sx "law" (Aj EZ) f cdv A outer s H E).nox (λB=>B=H) (AC EZ) (Sz IG Cy IH C6 Cw II IJ IK):=
 have hu:=A3 hr
 have hN:=Sy.nd
 (by walk_at "v")
def TE(n:Nat)(g:GE):Prop:=∀ ω G Q,(∀ s:Str,s.length<=n->Q (.str s) G)->g ω G Q
def TA(k:Nat)(g:GA):Prop:=∀ ω G(Z:List W->Hw->Prop),(∀ ss:List Str,ss.length=k->(∀ s∈ss,s.length<=400)->Z (ss.map W.str) G)->g ω G Z
theorem LD(h:x.length<=n):TE n (gC (.str x)):=λω G Q q=>q x h
theorem LI{k:Int}(h:x.length<=1)(a:k<=(n:Int))(b:0<=k)(c:n<=400):TE n (Ac AN (gC (.str x)) (gC (.int k))):=λω G Q q=>
 ⟨mulOk_of 1 n h a (Int.le_trans (by decide) b) (by lia) (by lia),q _ (by have:=len_mul_leN h a;lia)⟩
theorem LJ{a b:GE}{m:Nat}(d:TE n a)(c:TE m b)(h:n+m<=2000):TE (n+m) (Ac Ah a b):=λω G Q q=>
 d ω G _ λs f=>c ω G _ λt e=>⟨AI (by lia),q _ (by rw[AO];lia)⟩
theorem Fg:TA 0 Ad:=λω G Z z=>z [] rfl λs a=>by cases a
variable {gs:GA}
theorem Fh{g:GE}(d:TE n g)(e:n<=400)(h:TA k gs):TA (k+1) (Ab g gs):=λω G Z z=>d ω G _ λs f=>h ω G _ λc hl b=>z (s::c) (by rw[Yg,hl]) λt a=>by
 rcases Yo.mp a with rfl | a
 ·lia
 ·exact b t a
theorem Ga(a:x.length<=400)(h:TA k gs):TA (k+1) (Ab (gC (.str x)) gs):=Fh (LD a) (Yr _) h
def LT(s:Addr)(G0 G:Hw)(p:Addr)(k:Nat):Prop:=p≠s/\G0 p=none/\∃ ss:List Str,G p=some (.lst (ss.map W.str))/\ss.length=k/\∀ x∈ss,x.length<=400
theorem Hs.old{s:Addr}{c:Hw}(h:Hs s G c)(b:c p=none):p≠s/\G p=none:=by
 have a:=Hs.ne h.1 b
 refine⟨a,?_⟩
 cases e:G p with
 | none=>rfl
 | some u=>rw[h.2 p a u e]at b;cases b
theorem eF{Au:GS}{s:Addr}{e o:Option W}(d:St s G)(f:TA j gs)(h:j<=100)(z:∀ c b,Hs s G b->LT s G b c j->Au D [some (.ref s),some (.ref c),o] b):Ae (Ai 1 (As gs)) Au D [some (.ref s),e,o] G:=by
 refine Bu (f _ _ _ λg tl ta=>⟨AI (by rw[Yh];lia),λp a=>?_⟩)
 exact z p _ (Hs.new d a) ⟨Hs.ne d a,a,g,An,tl,ta⟩
theorem Gb{Au:GS}{c:Hw}{s:Addr}{o:Option W}(f:Hs s c G)(e:LT s c G p k)(n:TA j gs)(t:k+j<=100)(z:∀ h g,Hs s c g->LT s c g h (k+j)->Au D [some (.ref s),some (.ref h),o] g):Ae (Ai 1 (Ac Ah (Aa 1) (As gs))) Au D [some (.ref s),some (.ref p),o] G:=by
 obtain⟨m,_,l,e,hl,i⟩:=e
 refine Bu (n _ _ _ λq tl ta=>⟨AI (by rw[Yh];lia),λp2 a=>?_⟩)
 refine Iz (AB a _ _ e) An (by rw[Yh,Yh];lia) λr d=>?_
 refine z r _ ((f.put a).put d) ⟨((f.put a).old d).1,((f.put a).old d).2,l++q,by rw[An,Yy],by rw[Yj,hl,tl],λx b=>?_⟩
 rcases Yz.mp b with b | b
 ·exact i x b
 ·exact ta x b
theorem SA{c:Hw->Prop}{ge:GE}{R:List W->Hw->Prop}{G:Hw}{m:Nat}(a:c G):∀(l:List W)(o:Option W)(ts:List Str),(∀ x∈l,∀ Q:Kw,(∀ t:Str,t.length<=m->Q (.str t) G)->ge [some x] G Q)->ts.length+l.length<=2000->
  (∀ us:List Str,us.length=l.length->(∀ u∈us,u.length<=m)->R ((ts++us).map W.str) G)->Be c (gNm 0) A8 ge R l [o] G (ts.map W.str)
 | [],o,ts,_,_,r=>⟨a,by have:=r [] rfl (λu b=>by cases b);rw[Yx]at this;exact this⟩
 | x::l,o,ts,h,hl,r=>by
  rw[Yg]at hl
  refine⟨a,EY (by rw[Yh];lia),?_⟩
  show ge [some x] G λy e=>Be c (gNm 0) A8 ge R l [some x] e (ts.map W.str++[y])
  refine h x Ye _ λt f=>?_
  have z:=SA a l (some x) (ts++[t]) (λy i=>h y (Yd _ i)) (by rw[Yj];simp only[Yg,Yi];lia) λus g d=>by
   have:=r (t::us) (by rw[Yg,Yg,g]) (λu b=>by
    rcases Yo.mp b with rfl | b
    ·exact f
    ·exact d u b)
   rw[Yv];exact this
  rw[Yy]at z
  exact z
theorem SD{m:Nat}:∀{us:List Str},(∀ u∈us,u.length<=m)->(us.map (·.length)).sum<=us.length*m
 | [],_=>YT _
 | u::us,h=>by
  have h1:=h u Ye
  have h2:=SD λv a=>h v (Yd _ a)
  rw[Ym,List.sum_cons,Yg,Nat.add_mul];lia
abbrev eG:Spw:=F5 (λ(_:Unit)s ws _=>ws=[.ref s]) λ_ s r G'=>∃ t:Str,r=.str t/\t.length<=400
theorem IC(T:Tx K mg base a):Df P w K mg base "_law_odd" 2 1 eG:=by
 refine mk0 (k:=1) T.bb rfl Sn F6 (λws G Q E⟨_,s,e,_⟩=>by rw[e];rfl) (et T (BO T) (Yr _)) λws G Q E hC q=>?_
 obtain⟨_,s,rfl,hs,q⟩:=q
 unfold So
 show Ae (Ai 1 _) _ (Ax Q) [some (.ref s),none,none] G
 refine eF (j:=12) hs (by repeat (first | exact Fg | refine Ga (by decide) ?_)) (by decide) λp1 I h1 g=>?_
 refine Gb (j:=10) h1 g (by repeat (first | exact Fg | refine Ga (by decide) ?_)) (by decide) λp1 I h1 g=>?_
 refine Gb (j:=6) h1 g (by repeat (first | exact Fg | refine Ga (by decide) ?_)) (by decide) λp1 I h1 g=>?_
 refine Gb (j:=8) h1 g (by repeat (first | exact Fg | refine Ga (by decide) ?_)) (by decide) λp1 I h1 g=>?_
 have brk:∀{x y z:Str}{k:Int},x.length<=1->y.length<=20->z.length<=1->k<=60->0<=k->TE 140 (Ac Ah (Ac Ah (Ac AN (gC (.str x)) (gC (.int k))) (gC (.str y))) (Ac AN (gC (.str z)) (gC (.int k)))):=λd R Z L A=>LJ (n:=80) (m:=60) (LJ (n:=60) (m:=20) (LI d L A (by decide)) (LD R) (by decide)) (LI Z L A (by decide)) (by decide)
 have opn:∀{x y:Str}{k:Int},x.length<=1->y.length<=20->k<=60->0<=k->TE 80 (Ac Ah (Ac AN (gC (.str x)) (gC (.int k))) (gC (.str y))):=λd R L A=>LJ (n:=60) (m:=20) (LI d L A (by decide)) (LD R) (by decide)
 refine Gb (j:=4) h1 g (Fh (brk (by decide) (by decide) (by decide) (by decide) (by decide)) (by decide) (Fh (brk (by decide) (by decide) (by decide) (by decide) (by decide)) (by decide) (Fh (opn (by decide) (by decide) (by decide) (by decide)) (by decide) (Fh (brk (by decide) (by decide) (by decide) (by decide) (by decide)) (by decide) Fg)))) (by decide) λp1 I h1 g=>?_
 refine Gb (j:=4) h1 g (Fh (brk (by decide) (by decide) (by decide) (by decide) (by decide)) (by decide) (by repeat (first | exact Fg | refine Ga (by decide) ?_))) (by decide) λp1 I h1 g=>?_
 refine Bu ?_
 walk_at "pb"
 refine C7 (by decide) (by decide) h1.1 λr G2 r0 r1 h2=>?_
 obtain⟨p,A,l,hp,hl,ha⟩:=g
 have F:=h2.2 p1 p _ hp
 have h2:=h1.trans h2
 rw[CM]
 simp only[Ae,AF,gMt,Ab,Ad,Ac,Aa,gC,Bd,AU,AA,AJ,Ao,Yb,Yc,slA,Ag,Ak]
 refine⟨Eu F,⟨_,rfl⟩,by decide,?_⟩
 have Z:(Co (Txt.slice "abcdefghijklmnopqrst" none (some (19+r)))).length<=20:=by
  unfold Co;rw[Yh];exact Txt.slice_le _ _ _
 have d:∀ x∈Co (Txt.slice "abcdefghijklmnopqrst" none (some (19+r))),∃ c:Str,x=.str c/\c.length=1:=λx d=>by
  unfold Co at d
  obtain⟨c,_,rfl⟩:=YC.mp d
  exact⟨_,rfl,rfl⟩
 generalize Co (Txt.slice "abcdefghijklmnopqrst" none (some (19+r)))=zs at Z d
 refine SA (m:=10) trivial zs none [] (λx Y Q' q'=>?_) (by simp only[Yi];lia) λi g l2 p3 B=>?_
 ·obtain⟨c,rfl,hc⟩:=d x Y
  have N:("a":Str).length=1:=rfl
  have e2:("?: [num]":Str).length=8:=rfl
  exact⟨AI (by lia),AI (by rw[AO];lia),q' _ (by rw[AO,AO];lia)⟩
 have h3:=h2.put (o:=.lst (([]++i).map W.str)) B
 have H:=AB (o:=.lst (([]++i).map W.str)) B _ _ F
 have f3:put G2 p3 (.lst (([]++i).map W.str)) p3=some (.lst (i.map W.str)):=An
 generalize put G2 p3 (.lst (([]++i).map W.str))=G3 at h3 H f3 ⊢
 have hus:=SD l2
 have hj:=Iy (", ":Str) i
 have e4:(", ":Str).length=2:=rfl
 have N:("{":Str).length=1:=rfl
 have e3:("}":Str).length=1:=rfl
 rw[e4]at hj
 refine Lz f3 (by rw[e4];lia) ⟨AI (by rw[Ey,N];lia),AI (by rw[AO,Ey,N,e3];lia),?_⟩
 refine FY H (EY (by rw[Yh,hl];decide)) ?_
 have ht:(("{":Str)++Txt.join ", " i++"}").length<=400:=by rw[AO,AO,Ey,N,e3];lia
 generalize(("{":Str)++Txt.join ", " i++"}")=t at ht ⊢
 have O:put G3 p1 (.lst (l.map W.str++[.str t])) p1=some (.lst ((l++[t]).map W.str)):=by rw[An,Yy];rfl
 have h5:Hs s G (put G3 p1 (.lst (l.map W.str++[.str t]))):=by
  obtain⟨⟨x,f,e⟩,h⟩:=h3
  refine⟨⟨x,f,by rw[AH (YU p)];exact e⟩,λb hb u hu=>?_⟩
  rw[AH (BG hu A)];exact h b hb u hu
 have S:(l++[t]).length=45:=by rw[Yj,hl];rfl
 have D:∀ x∈l++[t],x.length<=400:=λx d=>by
  rcases Yz.mp d with d | d
  ·exact ha x d
  ·rw[YA.mp d];exact ht
 generalize put G3 p1 (.lst (l.map W.str++[.str t]))=G5 at O h5 ⊢
 generalize l++[t]=ts at O S D
 have J:Az [.ref p1] G5=some (.int 45):=by
  unfold Az Bn
  dsimp only
  rw[O]
  dsimp only
  rw[Yh,S];rfl
 simp only[gB,rF,Ab,Ad,Aa,Yb,Yc,J,Aq]
 refine C7 (by decide) (by decide) h5.1 λr5 G6 U r51 h6=>?_
 obtain⟨v,hv,e⟩:=Io (h6.2 p1 p _ O) U (by rw[Yh,S];exact r51)
 show opt (ixW (.ref p1) (.int r5) G6) _
 rw[e,Aq]
 obtain⟨t6,X,rfl⟩:=YC.mp hv
 exact q _ _ ⟨_,rfl,D _ X⟩ (h5.trans h6)
def wt1(us:List Str):Nat:=(us.map (·.length)).sum+us.length
theorem SE:∀(cs:List Nat)(j:Nat),(cs.drop j).sum<=cs.sum
 | [],j=>by simp
 | c::cs,0=>by simp
 | c::cs,j+1=>by have:=SE cs j;rw[List.drop_succ_cons,List.sum_cons];lia
theorem eH(l:List Str)(lo hi:Option Int):wt1 (Bi l lo hi)<=wt1 l:=by
 unfold wt1 Bi
 generalize HT.sIx l.length 0 lo=i
 generalize HT.sIx l.length l.length hi - i=j
 have h1:=Lp ((l.drop i).map (·.length)) j
 have h2:=SE (l.map (·.length)) i
 rw[<- List.map_take]at h1
 rw[<- List.map_drop]at h2
 rw[List.length_take,List.length_drop]
 lia
theorem eI(l:List Str)(lo hi:Option Int):Bi (l.map W.str) lo hi=(Bi l lo hi).map W.str:=by
 unfold Bi
 rw[Yh,<- List.map_drop,<- List.map_take]
theorem eJ:wt1 (Txt.split x " ")<=x.length+x.length+2:=by
 obtain⟨_,_,h2⟩:=J6 x " "
 have h:((Txt.split x " ").map (·.length)).sum<=x.length:=by
  unfold Txt.split
  split
  ·simp
  ·split
   ·simp
   ·have h:=Qf Str.length (StrLaws.glued_between_self x " " (x.length+1))
    rw[size_glued]at h
    lia
 unfold wt1
 lia
def LW(s:Addr)(G:Hw)(p:Addr)(n:Nat):Prop:=p≠s/\∃ us:List Str,G p=some (.lst (us.map W.str))/\wt1 us<=n
theorem LW.put{s:Addr}(h:LW s G p n)(c:G r=none):LW s (put G r o) p n:=by
 obtain⟨h1,a,h2,b⟩:=h
 exact⟨h1,a,AB c _ _ h2,b⟩
theorem Fi{s:Addr}{c:Hw}{lo hi:Option Int}(d:Hs s c G)(h:LW s G p n)(z:∀ r a,Hs s c a->LW s a r n->(∀ r' m,LW s G r' m->LW s a r' m)->Q (.ref r) a):slA (.ref p) lo hi G Q:=by
 obtain⟨e,f,h1,h2⟩:=h
 show(match G p with | some (.lst xs)=>∀ p,G p=none->Q (.ref p) (put G p (.lst (Bi xs lo hi)))| _=>False)
 rw[h1]
 dsimp only
 intro r b
 rw[eI]
 exact z r _ (d.put b) ⟨(d.old b).1,_,An,Yt (eH _ _ _) h2⟩ λr' m h=>h.put b
theorem IN{s f:Addr}{g:Hw}{d:Nat}(j:Hs s g G)(h:LW s G p n)(h':LW s G f d)(q:n+d<=10000)(z:∀ r a,Hs s g a->LW s a r (n+d)->(∀ r' m,LW s G r' m->LW s a r' m)->Q (.ref r) a):Ah (.ref p) (.ref f) G Q:=by
 obtain⟨l,k,h1,h2⟩:=h
 obtain⟨i,o,b,e⟩:=h'
 unfold wt1 at h2 e
 refine Iz h1 b (by rw[Yh,Yh];lia) λr c=>?_
 refine z r _ (j.put c) ⟨(j.old c).1,k++o,by rw[An,Yy],?_⟩ λr' m h=>h.put c
 unfold wt1
 rw[Yy,List.sum_append,Yj]
 lia
theorem eK{s:Addr}(h:LW s G p n)(d:n<=10000)(q:∀ t:Str,t.length<=n->Q (.str t) G):CY (.str " ") [.ref p] G Q:=by
 obtain⟨c,a,h1,h2⟩:=h
 unfold wt1 at h2
 have e:(" ":Str).length=1:=rfl
 have b:=Iy (" ":Str) a
 rw[e]at b
 exact Lz h1 (by rw[e];lia) (q _ (by rw[Ey];lia))
abbrev SF:Spw:=F5 (λ(x:Str)s ws _=>ws=[.ref s,.str x]/\x.length<=247) λ_ s r G'=>∃ t:Str,r=.str t/\t.length<=2000
theorem IL(T:Tx K mg base a):Df P w K mg base "_law_spoiled" 3 2 SF:=by
 refine mk0 (k:=2) T.bc rfl Sr F6 (λws G Q E⟨_,s,⟨e,_⟩,_⟩=>by rw[e];rfl) (eu T (BO T) (by lia) (IC T) (Yr _)) λws G Q E hC q=>?_
 obtain⟨x,s,⟨rfl,hx⟩,hs,q⟩:=q
 have q:∀(t:Str)m,t.length<=2000->Hs s G m->Q (.str t) m:=λt m h1 h2=>q _ _ ⟨t,rfl,h1⟩ h2
 have O:∀ G,Az [.str x] G=some (.int (x.length:Nat)):=λG=>by
  unfold Az Bn
  dsimp only
  rw[if_pos (AI (by lia))]
 unfold Ss
 show Ae (Ai 2 _) _ (Ax Q) [some (.ref s),some (.str x),none,none,none,none,none,none] G
 refine Bu ?_
 walk_at "pb"
 refine C7 (by decide) (by decide) hs λway F _ _ h1=>?_
 refine Bu ?_
 simp only[Ak,gB,rF,Ac,Ab,Ad,Aa,gC,Yk,Yl,Yb,Yc,O,Aq]
 rw[CM]
 refine C7 (by lia) (by lia) h1.1 λat' U _ _ h2=>?_
 have h2:=h1.trans h2
 refine Bu ?_
 walk_at "pb"
 refine C7 (by decide) (by decide) h2.1 λA i r30 r31 u=>?_
 have u:=h2.trans u
 obtain⟨c,hc,hc1⟩:∃ c:Str,ixW (.str "()[]{}>:?, .abnumt") (.int A) i=some (.str c)/\c.length=1:=by
  obtain⟨k,rfl⟩:∃ k:Nat,A=(k:Int):=⟨A.toNat,by lia⟩
  have hk:k <("()[]{}>:?, .abnumt":Str).cps.toList.length:=by
   show k < 18;lia
  unfold ixW
  dsimp only
  rw[if_pos (by decide),L2.Da (Yp hk)]
  exact⟨_,rfl,rfl⟩
 show opt (ixW (.str "()[]{}>:?, .abnumt") (.int A) i) _
 rw[hc,Aq]
 refine Bu ?_
 simp only[gMt,Ab,Ad,Aa,gC,Yk,Yl,Yb,Yc]
 refine⟨⟨_,rfl⟩,x," ",rfl,rfl,rfl,AI (by lia),λp4 J=>?_⟩
 obtain⟨_,s1,s2⟩:=J6 x " "
 have hw:=eJ (x:=x)
 have N:=u.put (o:=.lst ((Txt.split x " ").map W.str)) J
 have I:=(u.old J).1
 have f4:put i p4 (.lst ((Txt.split x " ").map W.str)) p4=some (.lst ((Txt.split x " ").map W.str)):=An
 generalize put i p4 (.lst ((Txt.split x " ").map W.str))=X at N f4 ⊢
 generalize Txt.split x " "=ps at *
 have hlp:Az [.ref p4] X=some (.int (ps.length:Nat)):=by
  unfold Az Bn
  dsimp only
  rw[f4]
  dsimp only
  rw[Yh]
 refine Bu ?_
 simp only[Ak,gB,rF,Ac,Ab,Ad,Aa,gC,Yk,Yl,Yb,Yc,hlp,Aq]
 refine C7 (by lia) (by lia) N.1 λspot v _ _ z=>?_
 have H:LW s v p4 496:=⟨I,ps,z.2 _ I _ f4,by lia⟩
 have z:=N.trans z
 have B:∀{lo hi:Option Int},(Txt.slice x lo hi).length<=247:=λ{lo hi}=>Yt (Txt.slice_le x lo hi) hx
 have p:x.length<=sizeLine:=AI (by lia)
 have rd:∀(t:Str),t.length<=2000->Q (.str t) v:=λt ht=>q t v ht z
 have go:∀{j:Int}{x y:GS}{ω:Sw},ω[2]?=some (some (.int way))->(∀ D:Ew,D.rt=Q->x D ω v)->y (Ax Q) ω v->Ae (gIf (gTB (Ac (Af (eqF false)) (Aa 2) (gC (.int j)))) x Al) y (Ax Q) ω v:=λ{j x y ω}h h1 h2=>by
  simp only[Ae,gIf,gTB,Ac,Af,Aa,h,gC,Cg,Aq]
  exact Ds (λ_=>h1 _ rfl) (λ_=>h2)
 have R:∀{r:Addr}{m:Hw}{n:Nat},Hs s G m->LW s m r n->n<=2000->CY (.str " ") [.ref r] m Q:=λh l hn=>eK l (by lia) λt ht=>q t _ (by lia) h
 have g:∀{lo hi b d:Option Int},slA (.str x) lo hi v λZ F=>Ah Z (.str c) F λw2 U=>slA (.str x) b d U λw3 i=>Ah w2 w3 i Q:=λ{lo hi b d}=>by
  have a1:=B (lo:=lo) (hi:=hi)
  have a2:=B (lo:=b) (hi:=d)
  exact⟨p,AI (by lia),p,AI (by rw[AO];lia),rd _ (by rw[AO,AO];lia)⟩
 refine go rfl (λD f=>?_) ?_
 ·simp only[Ag,Ac,AA,Aa,AJ,Ao,Yb,Yc,f]
  exact g
 refine go rfl (λD f=>?_) ?_
 ·simp only[Ag,Ac,AA,Aa,AJ,Ao,gC,Yb,Yc,CM,f]
  exact g
 refine go rfl (λD f=>?_) ?_
 ·simp only[Ag,Ac,AA,Aa,AJ,Ao,gC,Yb,Yc,CM,f]
  exact⟨p,p,AI (Yt (Nat.add_le_add B B) (by decide)),rd _ (by rw[AO];exact Yt (Nat.add_le_add B B) (by decide))⟩
 have two:∀{lo hi b d:Option Int},slA (.ref p4) lo hi v λZ F=>slA (.ref p4) b d F λw3 i=>Ah Z w3 i λw4 X=>CY (.str " ") [w4] X Q:=λ{lo hi b d}=>
  Fi z H λr1 F h1 m1 S=>Fi h1 (S _ _ H) λr2 U h2 m2 L=>IN h2 (L _ _ m1) m2 (by decide) λA i u m3 Y=>R u m3 (by decide)
 refine go rfl (λD f=>?_) ?_
 ·simp only[Ag,gMt,Ab,Ad,Ac,AA,Aa,AJ,Ao,gC,Yb,Yc,CM,f]
  exact⟨⟨_,rfl⟩,two⟩
 refine go rfl (λD f=>?_) ?_
 ·simp only[Ag,gMt,Ab,Ad,Ac,AA,Aa,AJ,Ao,gC,Yb,Yc,CM,f]
  exact⟨⟨_,rfl⟩,two⟩
 refine go rfl (λD f=>?_) ?_
 ·simp only[Ae,Ai,Ag,gMt,Ab,Ad,Ac,AA,Aa,AJ,Ao,gC,Yk,Yl,Yb,Yc,CM,f]
  refine Fi z H λr1 F h1 m1 S=>Fi h1 (S _ _ H) λr2 U h2 m2 L=>IN h2 (L _ _ m1) m2 (by decide) λA i u m3 Y=>⟨⟨_,rfl⟩,?_⟩
  refine Fi u (Y _ _ (L _ _ (S _ _ H))) λr4 X N m4 k4=>IN N m4 (k4 _ _ m3) (by decide) λr5 G6 h6 m6 k6=>?_
  exact Fi h6 (k6 _ _ (k4 _ _ (Y _ _ (L _ _ (S _ _ H))))) λr7 G7 h7 m7 k7=>IN h7 (k7 _ _ m6) m7 (by decide) λr8 G8 h8 m8 _=>R h8 m8 (by decide)
 simp only[Ag,Ak,Ab,Ad,Aa,Yb,Yc]
 exact⟨(),s,rfl,z.1,λr m⟨t,e,ht⟩h6=>by rw[e];exact q t m (by lia) (z.trans h6)⟩
abbrev IP:List W:=[.bl false,.bl false,.bl false,.bl false,.bl false,.bl true,.bl true]
theorem eL{a:Hw}(h:Sub G a)(b:a p=none):G p=none:=by
 cases e:G p with
 | none=>rfl
 | some u=>rw[h _ _ e]at b;cases b
def SG(a:Adr):Spw:=λws G Q _=>∃ e,ws=[.ref e]/\G e=some (.exc a.BadNote)/\∀ p,G p=none->Q (.ref p) (put G p (.lst IP))
theorem eM:Spw.M (SG a):=λf G Q c E d h _⟨e,h1,h2,q⟩=>⟨e,h1,h2,λp b=>h _ _ (q p b)⟩
variable {e:Addr}
theorem Ez{C:Addr}{cv:Value}{b:Bool}(d:G e=some (.exc C))(hω:ω[0]?=some (some (.ref e)))(c:Ef K C)(a:PySem.W.kitOne K (.ref C) cv=some b)(q:Q (.bl b) G):Cd K cv (Aa 0) ω G Q:=by
 unfold Cd Aa
 rw[hω]
 dsimp only
 rw[d]
 exact⟨b,c,a,q⟩
theorem IF(T:Tx K mg base a):DfN P w K mg base "_law_which" 1 1 (SG a):=by
 refine mkN T.a7 rfl RY eM (λn G Q E⟨e,h,_⟩=>by rw[h];rfl) (dX (k:=0) (E:=λ_ _ _=>True) T) λn G Q E m q=>?_
 obtain⟨e,rfl,f,q⟩:=q
 have c:=T.O1
 unfold RZ
 show Ae _ _ (Ax Q) [some (.ref e),none] G
 simp only[Ae,Ai,As,Ab,Ad,Ag,Ax]
 refine Ez f rfl c T.O2 (Ez f rfl c T.O3 (Ez f rfl c T.O4 (Ez f rfl c T.O5 ?_)))
 refine⟨(show 4<=sizeLine by decide),λp l=>?_⟩
 have b:=AB (o:=.lst [.bl false,.bl false,.bl false,.bl false]) l _ _ f
 have j:put G p (.lst [.bl false,.bl false,.bl false,.bl false]) p=some (.lst [.bl false,.bl false,.bl false,.bl false]):=An
 have i:=AB (o:=.lst [.bl false,.bl false,.bl false,.bl false]) l
 generalize put G p (.lst [.bl false,.bl false,.bl false,.bl false])=G1 at b j i ⊢
 simp only[Ac,Aa,As,Ab,Ad,Yb,Yc,Yk,Yl]
 refine Ez b rfl c T.O6 (Ez b rfl c T.O7 (Ez b rfl c T.O8 ?_))
 refine⟨by decide,λp2 d=>Iz (AB d _ _ j) An (by decide) λp3 g=>?_⟩
 exact m _ _ _ (Sub.put2 (C1 i d)) (q p3 (eL (C1 i d) g))
def TT(o:Option Kd)(G:Hw)(Q:Kw):Prop:=match o with
 | some k=>∀ G',Sub G G'->Q k.enc G'
 | none=>∀ p G',Sub G G'->G' p=some (.lst IP)->Q (.ref p) G'
def LK:Spw:=λws G Q _=>∃ T:Str,ws=[.str T]/\T.length<=2000/\TT (Bg (cs T)) G Q
theorem eN:Spw.M LK:=λd G Q c E f h _⟨T,h1,h2,q⟩=>⟨T,h1,h2,by
 cases e:Bg (cs T)with
 | some k=>rw[e]at q;exact λa z=>h _ _ (q a z)
 | none=>rw[e]at q;exact λp a z b=>h _ _ (q p a z b)⟩
theorem IM(T:Tx K mg base a):Df P w K mg base "_law_told" 30 1 LK:=by
 refine mk0 (k:=29) T.bd rfl F9 eN (λg G Q E⟨t,e,_⟩=>by rw[e];rfl) (ey T (Ii T) (by lia) (IF T) (by lia)) λg G Q E j q=>?_
 obtain⟨t,rfl,f,q⟩:=q
 unfold Sv
 show Ae (Ai 1 (As _)) (Ae (JP _ _ _ _ _) (Ag _)) (Ax Q) [some (.str t),none,none] G
 simp only[Ae,Ai,As,Ad,Yk,Yl]
 refine⟨by decide,λl b=>?_⟩
 refine⟨_,⟨λ_ _ z=>z,λ_ _ z=>z,λ_ _ z=>z,λ_ _ z=>z⟩,?_⟩
 simp only[Nm,Ai,AF,Ak,Ab,Ad,Aa,Yb,Yc,Yk,Yl]
 refine⟨t,rfl,f,?_⟩
 have c:=AB (o:=.lst []) b
 cases e:Bg (cs t)with
 | some k =>
  rw[e]at q
  exact λd s=>q d (c.trans s)
 | none =>
  rw[e]at q
  refine λd s=>⟨T.O0,λe i=>?_⟩
  refine⟨e,rfl,An,λp h=>?_⟩
  simp only[JO,Ag,Aa,Ax,Yb,Yc,Yk,Yl]
  exact q p _ (C1 (C1 (c.trans s) i) h) An
theorem eO(h1:G p=some (.lst IP))(h2:G r=some (.lst IP)):eqF true (.ref p) (.ref r) G=some (.bl false):=by
 have:eqW (.ref p) (.ref r) G=some true:=by
  unfold eqW
  simp only[h1,h2]
  decide
 unfold eqF
 rw[this];rfl
theorem eP{k:Kd}(b:k.dp<=8)(G:Hw):eqF true k.enc k.enc G=some (.bl false):=by
 obtain⟨xs,ex⟩:∃ xs,k.enc=.tup xs:=by cases k <;> exact⟨_,rfl⟩
 have h1:=F2 k
 have h2:=F3 k
 rw[ex]at h1 h2 ⊢
 have a:L3.dpL xs+1<=3*k.dp:=h2
 have:eqW (.tup xs) (.tup xs) G=some true:=by
  unfold eqW
  dsimp only
  rw[if_pos (by lia)];exact h1
 unfold eqF
 rw[this];rfl
theorem eQ(T:Tx K mg base a){f:Addr}{fd:FuncData}(F:Fun K "law" "law" EZ f fd):FnOk P w K mg base (CXe P w) 31 f fd ["script"] (B2 K GQ):=by
 refine ok0 F Sy (λws G Q E⟨ns,e,_⟩=>by rw[e];rfl) (eE (k:=30) T (Iq T) (by lia) (DX T 3) (by lia) (Iu T) (by lia) (DV T 8) (by lia) (DW T 8) (by lia) (IL T) (by lia) (Il T) (by lia) (IM T) (by lia)) λws G Q E hC q=>?_
 obtain⟨ns,rfl,Z,q⟩:=q
 unfold Sz
 show Ae (Ai 1 _) _ (Ax Q) [some (.rol (ns.map W.int)),none,none,none,none,none,none,none] G
 refine Bu ⟨ns,rfl,λs x f hs=>?_⟩
 have c:St s (put G s (ST x f)):=⟨x,f,An⟩
 generalize put G s (ST x f)=G1 at c ⊢
 refine Bu ?_
 walk_at "pa"
 refine⟨2,s,⟨rfl,by decide⟩,c,λr G2 g h2=>?_⟩
 obtain⟨k,rfl,ka,o,kd⟩:=g
 refine Bu ?_
 walk_at "pa"
 refine⟨(),s,rfl,h2.1,λr G3 g h3=>?_⟩
 obtain⟨p,N,R,I,rfl,hne,hp,l1,l2,l3⟩:=g
 have o:k.cnt<=13:=o
 refine⟨k,p,N,R,I,rfl,hp,ka,by lia,by lia,?_⟩
 have A:=F8 (f:=nm3 N R I) (λn=>by unfold nm3;split;exact l1;split <;> assumption) k
 refine⟨k.ren (nm3 N R I),rfl,A,by rw[F7];lia,by rw[Ff];lia,λt ht=>?_⟩
 rw[Ff]at ht
 simp only[Ae,Bq,DA,Ab,Ad,gC,Yk,Yl]
 refine⟨by decide,by decide,?_⟩
 have m:∀(l:List Nat)(B L y S:Option W)(v:Hw),St s v->BS yes (gNm 4) (Ae (Ai 5 (Ak SF XF (Ab (Aa 1) (Ab (Aa 3) Ad)))) (Ae (Ai 6 (Ak Lq XF (Ab (Aa 5) Ad))) (Ae (Ai 7 (Ak LK XF (Ab (Aa 5) Ad))) (Ae (gIf (gTB (Ac (Af (isF false)) (Aa 6) (gC .non))) (Ai 6 (As (Ab (gC (.bl false)) (Ab (gC (.bl false)) (Ab (gC (.bl false)) (Ab (gC (.bl false)) (Ab (gC (.bl false)) (Ab (gC (.bl true)) (Ab (gC (.bl true)) Ad))))))))) Al) (gIf (gTB (Ac (Af (eqF true)) (Aa 7) (Aa 6))) (Ag (gC (.bl false))) Al))))) {Ax Q with nx:=λω G=>Ag (gC (.bl true)) (Ax Q) ω G} (l.map λi:Nat=>W.int i) [some (.rol (ns.map W.int)),some (.ref s),some k.enc,some (.str t),B,L,y,S] v:=by
  intro l
  induction l with
  | nil=>intro B L y S v _;exact⟨trivial,q _⟩
  | cons j l X =>
   intro B L y S v z
   refine⟨trivial,?_⟩
   simp only[gNm,Yk,Yl]
   refine Bu ?_
   walk_at "pa"
   refine⟨t,s,⟨rfl,by lia⟩,z,λr U g h6=>?_⟩
   obtain⟨u,rfl,J⟩:=g
   refine Bu ?_
   walk_at "pa"
   refine⟨u,rfl,J,?_⟩
   have Y:∀{b:Hw},Sub U b->St s b:=λh=>by obtain⟨x,f,e⟩:=h6.1;exact⟨x,f,h _ _ e⟩
   cases e:Bg (cs u)with
   | some H =>
    show Ae (Ai 7 _) _ _ _ U
    refine Bu ?_
    walk_at "pa"
    refine⟨u,rfl,J,?_⟩
    rw[e]
    intro b D
    obtain⟨e2,hg⟩:=Ih e
    have hd:H.dp<=8:=(Qg (Qe.mp hg).1).2
    have hn:isF false H.enc .non b=some (.bl false):=by cases H <;> rfl
    simp only[Ae,gIf,gTB,Ac,Af,Aa,gC,Yk,Yl,Yb,Yc,hn,Aq,Yq,if_false,Al,eP hd]
    exact X _ _ _ _ _ (Y D)
   | none =>
    show Ae (Ai 7 _) _ _ _ U
    refine Bu ?_
    walk_at "pa"
    refine⟨u,rfl,J,?_⟩
    rw[e]
    intro p7 b D O
    simp only[Ae,gIf,gTB,Ac,Af,Aa,gC,Ai,As,Ab,Ad,Yk,Yl,Yb,Yc,show isF false .non .non b=some (.bl true)from rfl,Aq,if_true]
    refine⟨by decide,λp8 d=>?_⟩
    rw[eO (AB d _ _ O) An]
    simp only[Aq,Yq,if_false,Al]
    exact X _ _ _ _ _ (Y (D.trans (AB d)))
 exact m [0,1,2,3] none none none none G3 (h2.trans h3).1
theorem Fj{e:DictEntry}{i:Int}{t u:Tok}{es:List DictEntry}{D:List (Str×KTD.Dat)}(h1:e.key=.str x t)(h2:e.val=.int i u)(r:KTD.Rows (KTD.Dat.At base) es D):KTD.Rows (KTD.Dat.At base) (e::es) ((x,KTD.Dat.flat (.int i))::D):=
 .cons h1 (by rw[h2];exact PyProof.V.Flat.int i u) r
variable {qual:Str}{pm ct:Value}
theorem SH{f:Addr}{g:Value}{e d:Option Addr}{b:Array (Option Value)}{kV a:Value}
  (l:K.lookup f=some ⟨g,e,.func (PySem.W.fnOf m qual (Bj st) (AC st) (Aj st) .none kV a pm d cdv ct),b⟩) (c:PySem.W.codeIn K cdv qual=true) (k:PySem.W.keepIn K (.ref f)=true):Fun K m qual st f (PySem.W.fnOf m qual (Bj st) (AC st) (Aj st) .none kV a pm d cdv ct):=
 ⟨⟨g,e,kV,a,pm,d,cdv,ct,b,rfl,l,c⟩,k⟩
theorem Gc{C:Addr}{f:Addr}{j:Value}{h d:Option Addr}{e:Array (Option Value)}{kV a:Value}(i:PySem.W.findIn K (.ref C) m=some (some (.ref f)))(g:PySem.W.isFn K (.ref f)=true)
  (l:K.lookup f=some ⟨j,h,.func (PySem.W.fnOf m qual (Bj st) (AC st) (Aj st) .none kV a pm d cdv ct),e⟩) (c:PySem.W.codeIn K cdv qual=true) (k:PySem.W.keepIn K (.ref f)=true)
  (b:∀(kV a pm:Value)(d:Option Addr)(cdv ct:Value)(us:List Value),us.length=ps.length->bindArgs (PySem.W.fnOf m qual (Bj st) (AC st) (Aj st) .none kV a pm d cdv ct) ⟨us,[]⟩=pure (ps.zip us)):FnM K C st m qual ps :=
 ⟨f,_,⟨i,g,k⟩,SH l c k,Binds.all λus hl=>b _ _ _ _ _ _ us hl⟩
variable {h:Heap}
theorem eR(X:K.In h)(G:h.Ns mainGlobals mg){C:Addr}{f:Addr}{o:Value}{i e:Option Addr}{d:Array (Option Value)}{kV a:Value}(n:PySem.W.nsIn K mainGlobals x=some (some (.ref C)))
  (m:PySem.W.makesIn K C=true) (kc:PySem.W.keepIn K (.ref C)=true) (j:PySem.W.findIn K (.ref C) "__init__"=some (some (.ref f))) (g:PySem.W.isFn K (.ref f)=true)
  (l:K.lookup f=some ⟨o,i,.func (PySem.W.fnOf "__init__" qual (Bj st) (AC st) (Aj st) .none kV a pm e cdv ct),d⟩) (c:PySem.W.codeIn K cdv qual=true) (k:PySem.W.keepIn K (.ref f)=true)
  (b:∀(kV a pm:Value)(e:Option Addr)(cdv ct:Value)(us:List Value),us.length=ps.length->bindArgs (PySem.W.fnOf "__init__" qual (Bj st) (AC st) (Aj st) .none kV a pm e cdv ct) ⟨us,[]⟩=pure (ps.zip us)):FnI K mg x C st qual ps :=
 ⟨f,_,PySem.W.mg_of X G n,⟨m,j,g,kc⟩,SH l c k,Binds.all λus hl=>b _ _ _ _ _ _ us hl⟩
theorem eS(X:K.In h)(G:h.Ns mainGlobals mg)(FF:Fns K mg)(NN:Bls mg){j i g d f b c:Addr}{q s:Tok}{J:Nat}{vm:Array (Option Value)}{D:Tok}{x:Tok}{w:Tok}{H:Nat}{vs n m l k o:DictEntry}{F I Z z U A R T y Q S L:Tok}{u N P Y E O t:ClassData}
  (qa:PySem.W.nsIn K mainGlobals "CastError"=some (some (.ref e)))
  (qb:PySem.W.nsIn K mainGlobals "NoKind"=some (some (.ref j)))
  (qc:PySem.W.nsIn K mainGlobals "NoTerm"=some (some (.ref i)))
  (qd:PySem.W.nsIn K mainGlobals "BadUse"=some (some (.ref g)))
  (qe:PySem.W.nsIn K mainGlobals "NoValue"=some (some (.ref d)))
  (qf:PySem.W.nsIn K mainGlobals "NoNumber"=some (some (.ref f)))
  (qg:PySem.W.nsIn K mainGlobals "BadNote"=some (some (.ref b)))
  (v:PySem.W.nsIn K mainGlobals "Reader"=some (some (.ref c)))
  (qi:PySem.W.excIn K b [.type "ValueError",.type "Exception",.type "BaseException",.type "object"] "ValueError.__new__"=true)
  (qj:PySem.W.nsIn K mainGlobals "MARKS"=some (some (.ref r)))
  (qk:K.lookup r=some ⟨.type "tuple",none,.seq #[.str "must" q,.str "may" s] J,vm⟩)
  (ql:PySem.W.nsIn K mainGlobals "MOST_DEPTH"=some (some (.int 8 D)))
  (qm:PySem.W.nsIn K mainGlobals "MOST_KINDS"=some (some (.int 40 x)))
  (qn:PySem.W.nsIn K mainGlobals "MOST_LETTERS"=some (some (.int 8 w)))
  (qo:PySem.W.nsIn K mainGlobals "LENGTHS"=some (some (.ref p)))
  (qp:K.lookup p=some ⟨.type "dict",none,.dict #[vs,n,m,l,k,o] H,#[]⟩)
  (qq:(p==sysModules)=false)
  (qr:vs.key=.str "any" F)
  (qs:vs.val=.int 1 I)
  (qt:n.key=.str "num" Z)
  (qu:n.val=.int 1 z)
  (qv:m.key=.str "truth" U)
  (qw:m.val=.int 1 A)
  (qx:l.key=.str "to" R)
  (qy:l.val=.int 3 T)
  (qz:k.key=.str "box" y)
  (qA:k.val=.int 2 Q)
  (qB:o.key=.str "row" S)
  (qC:o.val=.int 3 L)
  (qD:PySem.W.clsIn K b=some u)
  (qE:PySem.W.clsIn K g=some N)
  (qF:PySem.W.clsIn K e=some P)
  (qG:PySem.W.clsIn K j=some Y)
  (qH:PySem.W.clsIn K f=some E)
  (qI:PySem.W.clsIn K i=some O)
  (qJ:PySem.W.clsIn K d=some t)
  (qK:PySem.W.typeIn K (.ref g)=some (.type "type"))
  (qL:PySem.W.typeIn K (.ref e)=some (.type "type"))
  (qM:PySem.W.typeIn K (.ref j)=some (.type "type"))
  (qN:PySem.W.typeIn K (.ref f)=some (.type "type"))
  (qO:PySem.W.typeIn K (.ref i)=some (.type "type"))
  (qP:PySem.W.typeIn K (.ref d)=some (.type "type"))
  (qQ:PySem.W.subIn K (.ref e) (.type "BaseException")=some true)
  (qR:PySem.W.subIn K (.ref b) (.ref e)=some true)
  (qS:PySem.W.subIn K (.ref b) (.ref j)=some false)
  (qT:PySem.W.subIn K (.ref b) (.ref i)=some false)
  (qU:PySem.W.subIn K (.ref b) (.ref g)=some false)
  (qV:PySem.W.subIn K (.ref b) (.ref d)=some false)
  (qW:PySem.W.subIn K (.ref b) (.ref f)=some false)
  (qX:PySem.W.subIn K (.ref b) (.type "ValueError")=some true)
  (qY:(Value.ref b==Value.ref g)=false)
  (qZ:(Value.ref b==Value.ref j)=false)
  (q0:(Value.ref b==Value.ref f)=false)
  (q1:(Value.ref b==Value.ref i)=false)
  (q2:(Value.ref b==Value.ref d)=false)
  (q3:PySem.W.findIn K (.ref b) "__getattribute__"=some (some (.builtin "BaseException.__getattribute__")))
  (q4:PySem.W.findIn K (.ref b) "__getattr__"=some none)
  (q5:PySem.W.findIn K (.ref b) "__class__"=some (some (.builtin "object.__class__")))
  (q6:PySem.W.mroIn K b (.type "object")=some true)
  (q7:PySem.W.mroIn K b (.type "BaseException")=some true)
  (q8:PySem.W.specialIn K (.builtin "object.__class__") "__get__"=some (some (.builtin "getset_descriptor.__get__")))
  (q9:PySem.W.takesIn K (.builtin "object.__class__")=some true)
  (AL:Cls K c)
  (B5:NoAttr K c "place")
  (CK:NoAttr K c "text")
  (GZ:FnI K mg "Reader" c FK "Reader.__init__" ["self","text"])
  (G9:FnM K c FL "sees" "Reader.sees" ["self","piece"])
  (Ha:FnM K c FM "takes" "Reader.takes" ["self","piece"])
  (Hb:FnM K c En "wants" "Reader.wants" ["self","piece"])
  (Hd:FnM K c Eo "wants_end" "Reader.wants_end" ["self"])
  (He:FnM K c FN "word" "Reader.word" ["self"]):
  ∃ a:Adr,∀ base:Heap,K.In base->Tx K mg base a:=by
 refine⟨⟨e,j,i,g,d,f,b,c⟩,λbase B=>?_⟩
 exact{
  toFns:=FF
  toBls:=NN
  OM:=PySem.W.mg_of X G qa
  ON:=PySem.W.mg_of X G qb
  OO:=PySem.W.mg_of X G qc
  OP:=PySem.W.mg_of X G qd
  OQ:=PySem.W.mg_of X G qe
  OR:=PySem.W.mg_of X G qf
  Ep:=PySem.W.mg_of X G qg
  bn:=PySem.W.mg_of X G v
  E1:=qi
  OS:=qL
  OT:=Ek qF
  OU:=qQ
  OV:=aH X G (dd:=none) (ts:=[("must",q),("may",s)]) qj qk (by simp)
  OW:=J9 X G ql
  OX:=J9 X G qm
  OY:=J9 X G qn
  OZ:=aI X G B qo qp qq ⟨rfl,rfl,rfl⟩ rfl (Fj qr qs (Fj qt qu (Fj qv qw (Fj qx qy (Fj qz qA (Fj qB qC .nil))))))
  O0:=qR
  O1:=⟨q3,q4,Ek qD,q5,q8,q9,q6,q7⟩
  O2:=FI qZ (Ek qG) qM qS
  O3:=FI q1 (Ek qI) qO qT
  O4:=FI qY (Ek qE) qK qU
  O5:=FI q2 (Ek qJ) qP qV
  O6:=FI q0 (Ek qH) qN qW
  O7:=aJ
  O8:=aK (by decide +kernel) qX
  AL:=AL
  B5:=B5
  CK:=CK
  GZ:=GZ
  G9:=G9
  Ha:=Ha
  Hb:=Hb
  Hd:=Hd
  He:=He}
end KV
open PySem PySem.W PyProof.Rows
set_option hygiene false in
local macro_rules | `(tactic| walk_at "fb") => `(tactic| (intro _ _ _ _ _ _ us hl; first | (obtain rfl := L3.ln0 hl; rfl) | (obtain ⟨_, _, rfl, g0⟩ := L3.ln1 hl; first | (obtain rfl := L3.ln0 g0; rfl) | (obtain ⟨_, _, rfl, g1⟩ := L3.ln1 g0; first | (obtain rfl := L3.ln0 g1; rfl) | (obtain ⟨_, _, rfl, g2⟩ := L3.ln1 g1; first | (obtain rfl := L3.ln0 g2; rfl) | (obtain ⟨_, _, rfl, g3⟩ := L3.ln1 g2; first | (obtain rfl := L3.ln0 g3; rfl) | (obtain ⟨_, _, rfl, g4⟩ := L3.ln1 g3; obtain rfl := L3.ln0 g4; rfl)))))))
set_option hygiene false in
local macro_rules | `(tactic| walk_at "fk") => `(tactic| (dsimp only [L2.KOf]; refine' L3.aG KX G ?e ?l ?c ?k ?b; (case e => k_is); (case l => k_is); (case c => k_is); (case k => k_is); (case b => walk_at "fb")))
set_option maxRecDepth 100000 in
set_option maxHeartbeats 0 in
theorem PySem.Challenge.cw_castwright_k04_texts_that_write_no_kind_holds : PySem.Challenge.rw_castwright_k04_texts_that_write_no_kind.Holds := by
 show KV.rwS.Holds
 w_on;o_law
 refine holds_open (r:=KV.rwS.row) (q:=KV.vwS) (loose:=["LENGTHS"]) (N:=6396)
  (Yf:=(kHook KV.KF KV.KL KV.kfe).obs) (Ya:=(kHook KV.KF KV.KL KV.kfe).val) (YP:=(kHook KV.KF KV.KL KV.kfe).says)
  (Xt:=λs=>xlAt KV.vwS [] s&&recOk (RowW.records KV.rwS.row.toRowW) s)
  (XP:=XL KV.vwS []) ?hl (kHook KV.KF KV.KL KV.kfe).of (kHook KV.KF KV.KL KV.kfe).keeps ?g1 XL.keeps rfl rfl rfl ?g2 rfl
  ?g3 (by decide +kernel) ?g4 ?hw ?hc
 case g1=>exact λs e=>xl_of s (Qe.mp e).1
 case g2=>exact λs e=>recFacts_of (Qe.mp e).2
 case g3=>first | assumption | decide +kernel
 case g4=>exact⟨rfl,rfl,rfl,rfl,rfl,by decide +kernel⟩
 case hw=>w_witness2
 case hl=>exact byRow2 "special-get-raises" KV.lbf KV.lbt
 k_fill
 refine L3.aL (l:=KV.rwS) (k:=31) ⟨rfl,by decide,by decide⟩ rfl rfl (λw h Y=>PySem.W.kIn_of Y) ?F
 case F =>
  intro w mg fa h KX G hmg
  have FF:KV.Fns (L2.KOf KX) mg:=by constructor <;> walk_at "fk"
  have NN:KV.Bls mg:=by constructor <;> exact PySem.W.mg_none_of KX G (by k_is)
  have HR:∃ C:Addr,PySem.W.nsIn (L2.KOf KX) mainGlobals "Reader"=some (some (.ref C))/\L2.Cls (L2.KOf KX) C/\L2.NoAttr (L2.KOf KX) C "place"/\L2.NoAttr (L2.KOf KX) C "text"/\L3.FnI (L2.KOf KX) mg "Reader" C KV.FK "Reader.__init__" ["self","text"]/\L3.FnM (L2.KOf KX) C KV.FL "sees" "Reader.sees" ["self","piece"]/\L3.FnM (L2.KOf KX) C KV.FM "takes" "Reader.takes" ["self","piece"]/\L3.FnM (L2.KOf KX) C KV.En "wants" "Reader.wants" ["self","piece"]/\L3.FnM (L2.KOf KX) C KV.Eo "wants_end" "Reader.wants_end" ["self"]/\L3.FnM (L2.KOf KX) C KV.FN "word" "Reader.word" ["self"]:=by
   dsimp only[L2.KOf]
   refine' ⟨_,?e,⟨?p1,?p2,?p3,?p4⟩,?B5,?CK,KV.eR KX G ?i0 ?i1 ?i2 ?i3 ?i4 ?i5 ?i6 ?i7 ?i8,KV.Gc ?Reader_sees0 ?Reader_sees1 ?Reader_sees2 ?Reader_sees3 ?Reader_sees4 ?Reader_sees5,KV.Gc ?Reader_takes0 ?Reader_takes1 ?Reader_takes2 ?Reader_takes3 ?Reader_takes4 ?Reader_takes5,KV.Gc ?Reader_wants0 ?Reader_wants1 ?Reader_wants2 ?Reader_wants3 ?Reader_wants4 ?Reader_wants5,KV.Gc ?Reader_wants_end0 ?Reader_wants_end1 ?Reader_wants_end2 ?Reader_wants_end3 ?Reader_wants_end4 ?Reader_wants_end5,KV.Gc ?Reader_word0 ?Reader_word1 ?Reader_word2 ?Reader_word3 ?Reader_word4 ?Reader_word5⟩
   (case e=>k_is)
   (case p1=>k_is)
   (case p2=>k_is)
   (case p3=>k_is)
   (case p4=>k_is)
   (case B5=>(show PySem.W.findIn _ _ _=some none);k_is)
   (case CK=>(show PySem.W.findIn _ _ _=some none);k_is)
   (case i0=>k_is)
   (case i1=>k_is)
   (case i2=>k_is)
   (case i3=>k_is)
   (case i4=>k_is)
   (case i5=>k_is)
   (case i6=>k_is)
   (case i7=>k_is)
   (case i8=>walk_at "fb")
   (case Reader_sees0=>k_is)
   (case Reader_sees1=>k_is)
   (case Reader_sees2=>k_is)
   (case Reader_sees3=>k_is)
   (case Reader_sees4=>k_is)
   (case Reader_sees5=>walk_at "fb")
   (case Reader_takes0=>k_is)
   (case Reader_takes1=>k_is)
   (case Reader_takes2=>k_is)
   (case Reader_takes3=>k_is)
   (case Reader_takes4=>k_is)
   (case Reader_takes5=>walk_at "fb")
   (case Reader_wants0=>k_is)
   (case Reader_wants1=>k_is)
   (case Reader_wants2=>k_is)
   (case Reader_wants3=>k_is)
   (case Reader_wants4=>k_is)
   (case Reader_wants5=>walk_at "fb")
   (case Reader_wants_end0=>k_is)
   (case Reader_wants_end1=>k_is)
   (case Reader_wants_end2=>k_is)
   (case Reader_wants_end3=>k_is)
   (case Reader_wants_end4=>k_is)
   (case Reader_wants_end5=>walk_at "fb")
   (case Reader_word0=>k_is)
   (case Reader_word1=>k_is)
   (case Reader_word2=>k_is)
   (case Reader_word3=>k_is)
   (case Reader_word4=>k_is)
   (case Reader_word5=>walk_at "fb")
  obtain⟨C,h_e,eT,eU,eV,eW,eX,eY,eZ,e6,e7⟩:=HR
  have T:∃ a:KV.Adr,∀ base:Heap,(L2.KOf KX).In base->KV.Tx (L2.KOf KX) mg base a:=by
   dsimp only[L2.KOf]at *
   refine' KV.eS KX G FF NN ?qa ?qb ?qc ?qd ?qe ?qf ?qg h_e ?qi ?qj ?qk ?ql ?qm ?qn ?qo ?qp ?qq ?qr ?qs ?qt ?qu ?qv ?qw ?qx ?qy ?qz ?qA ?qB ?qC ?qD ?qE ?qF ?qG ?qH ?qI ?qJ ?qK ?qL ?qM ?qN ?qO ?qP ?qQ ?qR ?qS ?qT ?qU ?qV ?qW ?qX ?qY ?qZ ?q0 ?q1 ?q2 ?q3 ?q4 ?q5 ?q6 ?q7 ?q8 ?q9 eT eU eV eW eX eY eZ e6 e7
   (case qa=>k_is)
   (case qb=>k_is)
   (case qc=>k_is)
   (case qd=>k_is)
   (case qe=>k_is)
   (case qf=>k_is)
   (case qg=>k_is)
   (case qi=>k_exc)
   (case qj=>k_is)
   (case qk=>k_is)
   (case ql=>k_is)
   (case qm=>k_is)
   (case qn=>k_is)
   (case qo=>k_is)
   (case qp=>k_is)
   (case qq=>decide)
   (case qr=>exact rfl)
   (case qs=>exact rfl)
   (case qt=>exact rfl)
   (case qu=>exact rfl)
   (case qv=>exact rfl)
   (case qw=>exact rfl)
   (case qx=>exact rfl)
   (case qy=>exact rfl)
   (case qz=>exact rfl)
   (case qA=>exact rfl)
   (case qB=>exact rfl)
   (case qC=>exact rfl)
   (case qD=>k_is)
   (case qE=>k_is)
   (case qF=>k_is)
   (case qG=>k_is)
   (case qH=>k_is)
   (case qI=>k_is)
   (case qJ=>k_is)
   (case qK=>k_is)
   (case qL=>k_is)
   (case qM=>k_is)
   (case qN=>k_is)
   (case qO=>k_is)
   (case qP=>k_is)
   (case qQ=>k_is)
   (case qR=>k_is)
   (case qS=>k_is)
   (case qT=>k_is)
   (case qU=>k_is)
   (case qV=>k_is)
   (case qW=>k_is)
   (case qX=>k_is)
   (case qY=>decide)
   (case qZ=>decide)
   (case q0=>decide)
   (case q1=>decide)
   (case q2=>decide)
   (case q3=>k_is)
   (case q4=>k_is)
   (case q5=>k_is)
   (case q6=>k_is)
   (case q7=>k_is)
   (case q8=>k_is)
   (case q9=>k_is)
  obtain⟨a,T⟩:=T
  obtain⟨f,fd,hm,F,_⟩:=FF.be
  have e0:=hmg.symm.trans hm
  cases e0
  obtain⟨oc,od,kV,doc,pm,an,cdv,ct,osl,rfl,lk,hcd⟩:=F.ex
  exact⟨_,λs u=>.of_eq rfl,λbase kb nb=>KV.eQ (T base kb) F⟩
